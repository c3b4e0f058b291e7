/-
  The contracts of Upto, Past, Has. Their conditions: the table lies in memory.
-/
import Derived.Test.YtkonkldcallimaaW4
import Derived.Shelf.Abstract
namespace Go.Proofs.Ytkonkldcallimaa
open Go.RowKit Go.Maps Go.ChangeMaps

set_option maxHeartbeats 2000000 in
theorem upto1_any (k : ByteArray) (s r : Int) (m : Mk) (a b c : Nat) (w : World) (h0 : w.cell? ⟨a, 0, none⟩ = some (.string k)) (h1 : w.cell? ⟨b, 0, none⟩ = some (.int .i64 s)) (h2 : w.cell? ⟨c, 0, none⟩ = some (.int .i64 r)) (ha : a < w.heap.size) (hb : b < w.heap.size) (hc : c < w.heap.size) :
    Calls Try.prog 27 #[.agg #[.string m.k, .int .i64 m.s, .int .i64 m.r], .pointer (some ⟨a, 0, none⟩), .pointer (some ⟨b, 0, none⟩), .pointer (some ⟨c, 0, none⟩)] w fun x w' => x = .returned (.bool (upG k s r m)) ∧ Below w.heap.size w w' := by
  have B0 : Hid (Below w.heap.size w (w.alloc (.cells #[.string m.k, .int .i64 m.s, .int .i64 m.r] 48))) := (Below.refl _ _).alloc (Nat.le_refl _) _
  have ha' : ¬ a = w.heap.size := by omega
  have hb' : ¬ b = w.heap.size := by omega
  have hc' : ¬ c = w.heap.size := by omega
  have e0 : (w.alloc (.cells #[.string m.k, .int .i64 m.s, .int .i64 m.r] 48)).cell? ⟨a, 0, none⟩ = some (.string k) := (B0.out.cell (p := ⟨a, 0, none⟩) ha).trans h0
  have e1 : (w.alloc (.cells #[.string m.k, .int .i64 m.s, .int .i64 m.r] 48)).cell? ⟨b, 0, none⟩ = some (.int .i64 s) := (B0.out.cell (p := ⟨b, 0, none⟩) hb).trans h1
  have e2 : (w.alloc (.cells #[.string m.k, .int .i64 m.s, .int .i64 m.r] 48)).cell? ⟨c, 0, none⟩ = some (.int .i64 r) := (B0.out.cell (p := ⟨c, 0, none⟩) hc).trans h2
  obtain ⟨mk, ms, mr⟩ := m
  unfold upG
  simp only at e0 e1 e2 B0 ⊢
  clear ha hb hc
  by_cases hk : mk = k
  · subst hk
    by_cases hs : ms = s
    · subst hs
      simp only [decide_true, Bool.true_and]
      go_enter Try.func27, Try.ntmps27
      go_wp2
      go_ret
      exact ⟨rfl, B0.out⟩
    · simp only [hs, decide_true, decide_false, Bool.false_and, Bool.and_false]
      go_enter Try.func27, Try.ntmps27
      go_wp2
      go_ret
      exact ⟨rfl, B0.out⟩
  · have hk' : (mk.toList == k.toList) = false := toList_ne hk
    simp only [hk, decide_false, Bool.false_and]
    clear hk
    go_enter Try.func27, Try.ntmps27
    go_wp2
    go_ret
    exact ⟨rfl, B0.out⟩
set_option maxHeartbeats 2000000 in
theorem past1_any (s r : Int) (m : Mk) (b c : Nat) (w : World) (h1 : w.cell? ⟨b, 0, none⟩ = some (.int .i64 s)) (h2 : w.cell? ⟨c, 0, none⟩ = some (.int .i64 r)) (hb : b < w.heap.size) (hc : c < w.heap.size) :
    Calls Try.prog 28 #[.agg #[.string m.k, .int .i64 m.s, .int .i64 m.r], .pointer (some ⟨b, 0, none⟩), .pointer (some ⟨c, 0, none⟩)] w fun x w' => x = .returned (.bool (paG s r m)) ∧ Below w.heap.size w w' := by
  have B0 : Hid (Below w.heap.size w (w.alloc (.cells #[.string m.k, .int .i64 m.s, .int .i64 m.r] 48))) := (Below.refl _ _).alloc (Nat.le_refl _) _
  have hb' : ¬ b = w.heap.size := by omega
  have hc' : ¬ c = w.heap.size := by omega
  have e1 : (w.alloc (.cells #[.string m.k, .int .i64 m.s, .int .i64 m.r] 48)).cell? ⟨b, 0, none⟩ = some (.int .i64 s) := (B0.out.cell (p := ⟨b, 0, none⟩) hb).trans h1
  have e2 : (w.alloc (.cells #[.string m.k, .int .i64 m.s, .int .i64 m.r] 48)).cell? ⟨c, 0, none⟩ = some (.int .i64 r) := (B0.out.cell (p := ⟨c, 0, none⟩) hc).trans h2
  obtain ⟨mk, ms, mr⟩ := m
  unfold paG
  simp only at e1 e2 B0 ⊢
  clear hb hc
  by_cases hs : ms = s
  · subst hs
    simp only [decide_true, Bool.true_and]
    go_enter Try.func28, Try.ntmps28
    go_wp2
    go_ret
    exact ⟨rfl, B0.out⟩
  · simp only [hs, decide_false, Bool.false_and]
    go_enter Try.func28, Try.ntmps28
    go_wp2
    go_ret
    exact ⟨rfl, B0.out⟩
/-- A block that holds one value. -/
theorem one_cell {w : World} {b : Nat} {v : Value} {T : TypeId} (h : w.heap[b]? = some (.cells #[v] T (0, 0))) : w.cell? ⟨b, 0, none⟩ = some v := by simp [World.cell?, h]
theorem enters27 : ∀ args w, (callFunc 27 args).run Try.prog w = .ok (.enter 27 args) w := Go.Proofs.enters_of Try.func27 (by kernel_rfl) rfl
theorem enters28 : ∀ args w, (callFunc 28 args).run Try.prog w = .ok (.enter 28 args) w := Go.Proofs.enters_of Try.func28 (by kernel_rfl) rfl
set_option maxHeartbeats 2000000 in
theorem upto_any (base g B : Nat) (L : List Mk) (limit : Int) (k : ByteArray) (s r : Int) (w : World) (h : TableAt w base g B L limit) (hbs : base ≤ w.heap.size) :
    Calls Try.prog 14 #[.pointer (some ⟨g, 0, none⟩), .string k, .int .i64 s, .int .i64 r] w (SetPost w base g B (out L (upG k s r)) limit (.int .i64 (gone L (upG k s r)))) := by
  obtain ⟨q, hq⟩ : ∃ q, q = w.heap.size := ⟨_, rfl⟩
  obtain ⟨W, hW⟩ : ∃ W, ((w.alloc (.cells #[.string k] 9)).alloc (.cells #[.int .i64 s] 3)).alloc (.cells #[.int .i64 r] 3) = W := ⟨_, rfl⟩
  have b0 : Below w.heap.size w W := hW ▸ (((Below.refl _ _).alloc (Nat.le_refl _) _).alloc (by simp) _).alloc (by simp; omega) _
  have x0 : W.heap[q]? = some (.cells #[.string k] 9 (0, 0)) := by
    rw [← hW, heap_old _ _ (by simp; omega), heap_old _ _ (by simp; omega), hq]
    exact heap_new _ _
  have x1 : W.heap[q + 1]? = some (.cells #[.int .i64 s] 3 (0, 0)) := by
    rw [← hW, heap_old _ _ (by simp; omega)]
    have := heap_new (w.alloc (.cells #[.string k] 9)) (.cells #[.int .i64 s] 3)
    rw [World.size_alloc, ← hq] at this
    exact this
  have x2 : W.heap[q + 1 + 1]? = some (.cells #[.int .i64 r] 3 (0, 0)) := by
    rw [← hW]
    have := heap_new ((w.alloc (.cells #[.string k] 9)).alloc (.cells #[.int .i64 s] 3)) (.cells #[.int .i64 r] 3)
    rw [World.size_alloc, World.size_alloc, ← hq] at this
    exact this
  have hBq : B < q := by rw [hq]; exact lt_of_heap h.mp.isMap.choose_spec.choose_spec
  have TL : Tells W base B 27 #[.pointer (some ⟨q, 0, none⟩), .pointer (some ⟨q + 1, 0, none⟩), .pointer (some ⟨q + 1 + 1, 0, none⟩)] (upG k s r) := fun m w' hf => by
    have y0 := hf.keep _ _ x0 (by simp) (by simp; omega)
    have y1 := hf.keep _ _ x1 (by simp) (by simp; omega)
    have y2 := hf.keep _ _ x2 (by simp) (by simp; omega)
    exact upto1_any k s r m q (q + 1) (q + 1 + 1) w' (one_cell y0) (one_cell y1) (one_cell y2) (lt_of_heap y0) (lt_of_heap y1) (lt_of_heap y2)
  have CT := Lib.hid (take_any base g B L limit 27 _ (upG k s r) W (h.below b0) (Nat.le_trans hbs b0.size) TL enters27)
  have HF := Lib.hid (Fr.of_below (l := []) (ms := [B]) b0 hbs)
  have HW := Lib.hid hW
  have HQ := Lib.hid hq
  clear h hbs b0 x0 x1 x2 hBq TL hW hq
  go_enter Try.func14, Try.ntmps14
  go_wp2_with fail
  rw [← HQ.out, HW.out]
  refine CT.out.mono ?_
  rintro x w2 ⟨rfl, t2, f2⟩
  have HE := Lib.hid (And.intro t2 (HF.out.trans f2))
  clear t2 f2
  go_wp2
  go_ret
  exact ⟨rfl, HE.out.1, HE.out.2⟩
theorem upto_nil (k : ByteArray) (s r : Int) (w : World) : Calls Try.prog 14 #[.pointer none, .string k, .int .i64 s, .int .i64 r] w fun x w' => x = .returned (.int .i64 0) ∧ Below w.heap.size w w' := by
  have b0 : Hid (Below w.heap.size w (((w.alloc (.cells #[.string k] 9)).alloc (.cells #[.int .i64 s] 3)).alloc (.cells #[.int .i64 r] 3))) := (((Below.refl _ _).alloc (Nat.le_refl _) _).alloc (by simp) _).alloc (by simp; omega) _
  go_enter Try.func14, Try.ntmps14
  go_wp2_with fail
  refine (take_nil _ _).mono ?_
  rintro x w2 ⟨rfl, rfl⟩
  go_wp2
  go_ret
  exact ⟨rfl, b0.out⟩
set_option maxHeartbeats 2000000 in
theorem past_any (base g B : Nat) (L : List Mk) (limit : Int) (s r : Int) (w : World) (h : TableAt w base g B L limit) (hbs : base ≤ w.heap.size) :
    Calls Try.prog 15 #[.pointer (some ⟨g, 0, none⟩), .int .i64 s, .int .i64 r] w (SetPost w base g B (out L (paG s r)) limit (.int .i64 (gone L (paG s r)))) := by
  obtain ⟨q, hq⟩ : ∃ q, q = w.heap.size := ⟨_, rfl⟩
  obtain ⟨W, hW⟩ : ∃ W, (w.alloc (.cells #[.int .i64 s] 3)).alloc (.cells #[.int .i64 r] 3) = W := ⟨_, rfl⟩
  have b0 : Below w.heap.size w W := hW ▸ ((Below.refl _ _).alloc (Nat.le_refl _) _).alloc (by simp) _
  have x0 : W.heap[q]? = some (.cells #[.int .i64 s] 3 (0, 0)) := by
    rw [← hW, heap_old _ _ (by simp; omega), hq]
    exact heap_new _ _
  have x1 : W.heap[q + 1]? = some (.cells #[.int .i64 r] 3 (0, 0)) := by
    rw [← hW]
    have := heap_new (w.alloc (.cells #[.int .i64 s] 3)) (.cells #[.int .i64 r] 3)
    rw [World.size_alloc, ← hq] at this
    exact this
  have hBq : B < q := by rw [hq]; exact lt_of_heap h.mp.isMap.choose_spec.choose_spec
  have TL : Tells W base B 28 #[.pointer (some ⟨q, 0, none⟩), .pointer (some ⟨q + 1, 0, none⟩)] (paG s r) := fun m w' hf => by
    have y0 := hf.keep _ _ x0 (by simp) (by simp; omega)
    have y1 := hf.keep _ _ x1 (by simp) (by simp; omega)
    exact past1_any s r m q (q + 1) w' (one_cell y0) (one_cell y1) (lt_of_heap y0) (lt_of_heap y1)
  have CT := Lib.hid (take_any base g B L limit 28 _ (paG s r) W (h.below b0) (Nat.le_trans hbs b0.size) TL enters28)
  have HF := Lib.hid (Fr.of_below (l := []) (ms := [B]) b0 hbs)
  have HW := Lib.hid hW
  have HQ := Lib.hid hq
  clear h hbs b0 x0 x1 hBq TL hW hq
  go_enter Try.func15, Try.ntmps15
  go_wp2_with fail
  rw [← HQ.out, HW.out]
  refine CT.out.mono ?_
  rintro x w2 ⟨rfl, t2, f2⟩
  have HE := Lib.hid (And.intro t2 (HF.out.trans f2))
  clear t2 f2
  go_wp2
  go_ret
  exact ⟨rfl, HE.out.1, HE.out.2⟩
theorem past_nil (s r : Int) (w : World) : Calls Try.prog 15 #[.pointer none, .int .i64 s, .int .i64 r] w fun x w' => x = .returned (.int .i64 0) ∧ Below w.heap.size w w' := by
  have b0 : Hid (Below w.heap.size w ((w.alloc (.cells #[.int .i64 s] 3)).alloc (.cells #[.int .i64 r] 3))) := ((Below.refl _ _).alloc (Nat.le_refl _) _).alloc (by simp) _
  go_enter Try.func15, Try.ntmps15
  go_wp2_with fail
  refine (take_nil _ _).mono ?_
  rintro x w2 ⟨rfl, rfl⟩
  go_wp2
  go_ret
  exact ⟨rfl, b0.out⟩
/-- Has under way: none of those that have come has the key. -/
structure HasI (w wr : World) (B r : Nat) (L : List Mk) (k : ByteArray) (left : Lit → Bool) (n cnt : Nat) (D : DataW Unit) : Prop where
  rg : wr.ranges Try.prog 48 uE B r n D left cnt
  no : ∀ m ∈ L, left (mLit m) = false → m.k ≠ k
  bel : Below w.heap.size w wr
theorem HasI.left_eq {w wr : World} {B r : Nat} {L : List Mk} {k : ByteArray} {left : Lit → Bool} {n cnt : Nat} {D : DataW Unit} (h : HasI w wr B r L k left n cnt D) : wr.rangeLeft B r = cnt := h.rg.left_eq
set_option maxHeartbeats 4000000 in
theorem has_any (base g B : Nat) (L : List Mk) (limit : Int) (k : ByteArray) (w : World) (h : TableAt w base g B L limit) :
    Calls Try.prog 17 #[.pointer (some ⟨g, 0, none⟩), .string k] w fun x w' => x = .returned (.bool (hasK L k)) ∧ Below w.heap.size w w' := by
  have c1 := h.box.c1
  obtain ⟨D, hown, hrd⟩ := h.mp
  obtain ⟨n, hn⟩ : ∃ n, n = L.length := ⟨_, rfl⟩
  rw [← hn] at hown
  have HC := Lib.hid h
  have HR := Lib.hid hrd
  clear h hrd hn
  go_enter Try.func17, Try.ntmps17
  go_wp2_with (first
    | (at_range; refine wpList_range_own _ rfl _ 51 rfl 48 55 law48 Try.underlying51 uE B n D rfl hown ?_; intro w0 hrg0 hg0 hs0)
    | go_in)
  go_frame
  go_loopw [5, 13] (fun _ _ wr => ∃ left cnt, HasI w wr B w.heap.size L k left n cnt D) (fun _ _ wr => wr.rangeLeft B w.heap.size)
  case atStart =>
    refine ⟨_, _, ⟨hrg0, fun m hm hl => ?_, Below.of_none hg0⟩⟩
    rw [has_all HR.out HC.out.ok hm] at hl
    cases hl
  case round =>
    obtain ⟨left, cnt, hi⟩ := hrel
    have hrg := hi.rg
    have HI := Lib.hid hi
    have HM := Lib.hid hi.left_eq
    clear hi hrg0 hown c1 hg0 hs0
    go_wp2_with (first
      | (at_next; refine wpList_next_ranges _ rfl _ rfl 48 law48 uE (fun m : Mk => Value.agg #[.string m.k, .int .i64 m.s, .int .i64 m.r]) (fun _ : Unit => Value.agg #[]) key_form uE_form B w.heap.size n D left cnt rfl hrg ?_ ?_)
      | go_in)
    · intro hc0 hl0
      have HE : Hid (hasK L k = false) := by
        show _ = _
        cases hh : hasK L k with
        | false => rfl
        | true =>
          obtain ⟨x, hx, hxk⟩ := hasK_iff.mp hh
          exact absurd hxk (HI.out.no x hx (hl0 _))
      clear hl0 hc0 hrg
      go_wp2
      go_ret
      exact ⟨by rw [HE.out]; rfl, HI.out.bel⟩
    · intro m kl yd yp w1 cnt1 hkey hlk hv hat hrg1 hlt hg1 hs1 hen
      obtain ⟨hok, rfl⟩ := key_ok hkey
      have hmL := entry_of HR.out hok hat
      have b1 := Below.grownNew HI.out.bel hg1 (Nat.le_refl _)
      have hsz := HI.out.bel.size
      have b2 : Below w.heap.size w (w1.alloc (.cells #[.string m.k, .int .i64 m.s, .int .i64 m.r] 48)) := b1.alloc (by omega) _
      have rg2 := hrg1.kept (grown_of_below ((Below.refl _ _).alloc (Nat.le_refl _) (.cells #[.string m.k, .int .i64 m.s, .int .i64 m.r] 48)) none) (by simp) (by simp)
      have B2 := Lib.hid b2
      have LT := Lib.hid hlt
      by_cases hk : m.k = k
      · have HE : Hid (hasK L k = true) := hasK_iff.mpr ⟨m, hmL, hk⟩
        clear hkey hok hlk hv hat hrg1 hlt hg1 hrg b1 b2 rg2 hmL hsz
        obtain ⟨mk, ms, mr⟩ := m
        simp only at hk B2 hen ⊢
        subst hk
        go_wp2
        go_ret
        exact ⟨by rw [HE.out]; rfl, B2.out⟩
      · have HN : Hid (HasI w (w1.alloc (.cells #[.string m.k, .int .i64 m.s, .int .i64 m.r] 48)) B w.heap.size L k (strike left (mLit m)) n cnt1 D) := ⟨rg2, fun x hx hl => by
          unfold strike at hl
          rw [same_lit (HC.out.ok x hx) hok] at hl
          by_cases e : x = m
          · subst e
            exact hk
          · exact HI.out.no x hx (by simpa [e] using hl), b2⟩
        have hk' : (m.k.toList == k.toList) = false := toList_ne hk
        clear hkey hok hlk hv hat hrg1 hlt hg1 hrg b1 b2 rg2 hmL hsz hk
        go_wp2
        go_roundw
        case rel => exact ⟨_, _, HN.out⟩
        case measure =>
          rw [HN.out.left_eq, HM.out]
          have := LT.out
          omega
theorem has_nil (k : ByteArray) (w : World) : Calls Try.prog 17 #[.pointer none, .string k] w fun x w' => x = .returned (.bool false) ∧ w = w' := by
  go_enter Try.func17, Try.ntmps17
  go_wp2
  go_ret
  exact ⟨rfl, rfl⟩
end Go.Proofs.Ytkonkldcallimaa
