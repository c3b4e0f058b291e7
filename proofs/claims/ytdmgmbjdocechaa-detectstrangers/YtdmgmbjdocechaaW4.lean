/-
  The contracts of those, Live, Tick, on whatever order the map is ranged over. Their conditions: the detector lies in memory; its moment and its changes are below a bound, it has no more nodes than a bound.
-/
import Derived.Test.YtdmgmbjdocechaaW3
import Derived.Shelf.Abstract
namespace Go.Proofs.Ytdmgmbjdocechaa
open Go.RowKit Go.Maps Go.ChangeMaps
open Go.Sort (grow)

/-- those under way: the row has just those that have come and are asked for. -/
structure ThI (w wr : World) (B r : Nat) (L : List Tm) (q : Int → Bool) (left : Lit → Bool) (n cnt : Nat) (D : DataW Unit) (v : Value) (V : List ByteArray) : Prop where
  rg : wr.ranges Try.prog 9 iE B r n D left cnt
  row : RowT eKy 9 wr w.heap.size v V
  nd : V.Nodup
  mem : ∀ k, k ∈ V ↔ k ∈ sel L q ∧ left (kLit k) = false
  bel : Below w.heap.size w wr
section
variable {w wr w1 : World} {B r : Nat} {L : List Tm} {q : Int → Bool} {left : Lit → Bool} {n cnt cnt1 : Nat} {D : DataW Unit} {v : Value} {V : List ByteArray}
theorem ThI.left_eq (h : ThI w wr B r L q left n cnt D v V) : wr.rangeLeft B r = cnt := h.rg.left_eq
/-- What came is a node. -/
theorem ThI.came {k : ByteArray} {c : Int} {kl : Lit} {y : DataW Unit × List MemPlace} (hrd : Reads D L)
    (hkey : keyOf Try.prog 9 (.string k) = some kl) (hv : iE (.int .i64 c) = some y) (hat : ∀ zd, D.atKey kl zd = y.1) : kl = kLit k ∧ (⟨k, c⟩ : Tm) ∈ L := by
  obtain ⟨rfl, hk⟩ := keyOf9_lit hkey
  rw [iE_lit hv] at hat
  exact ⟨rfl, entry_of hrd hat⟩
/-- The iterator has turned. -/
theorem ThI.next (h : ThI w wr B r L q left n cnt D v V) (hr : w.heap.size ≤ r) (hg1 : wr.grownBy w1 (some r)) : RowT eKy 9 w1 w.heap.size v V ∧ Below w.heap.size w w1 := by
  obtain ⟨oi, hoi, hki⟩ := iter_at h.rg
  refine ⟨⟨h.row.1, ?_⟩, ?_⟩
  · rcases h.row.2 with h2 | ⟨g, cap, cur, hv, hb, hg, rest⟩
    · exact .inl h2
    · exact .inr ⟨g, cap, cur, hv, hb, kept_of hg1 hoi hg (by rw [hki]; simp [kd]), rest⟩
  · have hsz := h.bel.size
    exact h.bel.trans ⟨hg1.os, hg1.tape, hg1.output, hg1.size, fun i hi => hg1.block i (by omega) (fun e => by cases e; omega)⟩
/-- A round that passes one over. -/
theorem ThI.stay {x : Tm} (h : ThI w wr B r L q left n cnt D v V) (hrs : Rises L) (hx : x ∈ L) (hq : q x.n = false) (hr : w.heap.size ≤ r) (hg1 : wr.grownBy w1 (some r)) (hrg1 : w1.ranges Try.prog 9 iE B r n D (fun z => left z && !z.sameKey (kLit x.k)) cnt1) :
    ThI w w1 B r L q (strike left (kLit x.k)) n cnt1 D v V := by
  obtain ⟨h1, h2⟩ := h.next hr hg1
  refine ⟨hrg1, h1, h.nd, fun k => ?_, h2⟩
  rw [h.mem]
  unfold strike
  rw [same_lit]
  by_cases e : k = x.k
  · have hno : k ∉ sel L q := by
      rw [mem_sel, e]
      rintro ⟨y, hy, hyk, hyq⟩
      have := one_of_key hrs hx hy hyk
      subst this
      rw [hq] at hyq
      cases hyq
    simp [hno]
  · simp [e]
/-- A round that takes one. -/
theorem ThI.take {x : Tm} (h : ThI w wr B r L q left n cnt D v V) (hx : x ∈ L) (hq : q x.n = true) (hr : w.heap.size ≤ r) (hl : L.length ≤ 1000) (hlk : left (kLit x.k) = true) (hg1 : wr.grownBy w1 (some r)) (hrg1 : w1.ranges Try.prog 9 iE B r n D (fun z => left z && !z.sameKey (kLit x.k)) cnt1) :
    ∃ v' W', (Builtin.append_ #[22, 22] 22 #[v, .slice (some ⟨w1.heap.size, 0, none⟩) 1 1]).run Try.prog (w1.alloc (.cells #[.string x.k] 9)) = .ok v' W' ∧ ThI w W' B r L q (strike left (kLit x.k)) n cnt1 D v' (V ++ [x.k]) := by
  obtain ⟨row1, b1⟩ := h.next hr hg1
  have b3 : Below w1.heap.size w1 (w1.alloc (.cells #[.string x.k] 9)) := (Below.refl _ _).alloc (Nat.le_refl _) _
  have hVl : V.length ≤ (sel L q).length := nodup_len h.nd (fun y hy => ((h.mem y).mp hy).1)
  have hsl := sel_length L q
  have hbs : w.heap.size ≤ w1.heap.size := b1.size
  obtain ⟨v', W', hrun, ho', hg'⟩ := (row1.below b3).app el22 (Nat.le_trans hbs b3.size) (sl_one (E := eKy) w1 x.k 9) (n := 1) (c := 1) rfl (by simp) (by omega)
  refine ⟨v', W', hrun, ⟨?_, ho', ?_, ?_, ?_⟩⟩
  · have rg3 := hrg1.kept (grown_of_below b3 none) (by simp) (by simp)
    obtain ⟨o1, ho1, hk1⟩ := iter_at rg3
    obtain ⟨o2, ho2, hk2⟩ := map_at rg3
    refine rg3.kept hg' (fun e => ?_) (fun e => ?_)
    · obtain ⟨_, cs, hcs⟩ := (row1.below b3).own e.symm
      rw [ho2] at hcs
      cases hcs
      simp [kd] at hk2
    · obtain ⟨_, cs, hcs⟩ := (row1.below b3).own e.symm
      rw [ho1] at hcs
      cases hcs
      simp [kd] at hk1
  · refine List.nodup_append.mpr ⟨h.nd, by simp, fun a ha b hb e => ?_⟩
    simp at hb
    subst hb
    subst e
    have := ((h.mem _).mp ha).2
    rw [hlk] at this
    cases this
  · intro y
    rw [List.mem_append, List.mem_singleton, h.mem]
    unfold strike
    rw [same_lit]
    by_cases e : y = x.k
    · subst e
      have : x.k ∈ sel L q := mem_sel.mpr ⟨x, hx, rfl, hq⟩
      simp [this]
    · simp [e]
  · have hb3 := b1.trans (b3.mono hbs)
    exact hb3.grown hg' hb3.size (fun k hk => ((row1.below b3).own hk).1)
end
/-- What those is handed. -/
def Tells (w : World) (f : Nat) (cb : Array Value) (p : Int → Bool) : Prop := ∀ (m : Int) (w' : World), Below w.heap.size w w' →
  Calls Try.prog f (#[.int .i64 m] ++ cb) w' fun r w'' => r = .returned (.bool (p m)) ∧ w' = w''
def RowPost (w : World) (l : List ByteArray) (r : Ending) (w' : World) : Prop := ∃ v, r = .returned v ∧ RowT eKy 9 w' w.heap.size v l ∧ Below w.heap.size w w'
theorem those_nil (f : Value) (w : World) : Calls Try.prog 21 #[.pointer none, f] w fun r w' => r = .returned (.slice none 0 0) ∧ w = w' := by
  go_enter Try.func21, Try.ntmps21
  go_wp2
  go_ret
  exact ⟨rfl, rfl⟩
set_option maxHeartbeats 4000000 in
theorem those_any (base g B : Nat) (L : List Tm) (pat now ch : Int) (f : Nat) (cb : Array Value) (p : Int → Bool) (w : World) (h : DetAt w base g B L pat now ch) (hnow : now ≤ 1000000) (hl : L.length ≤ 1000) (ht : Tells w f cb p)
    (eg : ∀ args w, (callFunc f args).run Try.prog w = .ok (.enter f args) w) :
    Calls Try.prog 21 #[.pointer (some ⟨g, 0, none⟩), .func (.func f) #[] cb] w (RowPost w (sel L fun n => p (now - n))) := by
  have c2 := h.box.c2
  obtain ⟨D, hown, hrd⟩ := h.mp
  obtain ⟨n, hn⟩ : ∃ n, n = L.length := ⟨_, rfl⟩
  rw [← hn] at hown
  have HC := Lib.hid h
  have HR := Lib.hid hrd
  have HL := Lib.hid hl
  have HT := Lib.hid ht
  have HNW := Lib.hid hnow
  clear h hrd hn hl ht hnow
  go_enter Try.func21, Try.ntmps21
  go_wp2_with (first
    | (at_range; refine wpList_range_own _ rfl _ 46 rfl 9 3 law9 Try.underlying46 iE B n D rfl hown ?_; intro w0 hrg0 hg0 hs0)
    | go_in)
  go_frame
  go_loopw [5] (fun s5 wr => ∃ left cnt V, ThI w wr B w.heap.size L (fun n => p (now - n)) left n cnt D s5 V) (fun _ wr => wr.rangeLeft B w.heap.size)
  case atStart =>
    refine ⟨_, _, [], ⟨hrg0, RowT.nil _, List.nodup_nil, fun k => ?_, Below.of_none hg0⟩⟩
    constructor
    · intro h
      cases h
    · rintro ⟨h1, h2⟩
      obtain ⟨x, hx, rfl, _⟩ := mem_sel.mp h1
      rw [has_all HR.out hx] at h2
      cases h2
  case round =>
    obtain ⟨left, cnt, V, hi⟩ := hrel
    have hrg := hi.rg
    have HI := Lib.hid hi
    have HM := Lib.hid hi.left_eq
    clear hi hrg0 hown c2 hg0 hs0
    go_wp2_with (first
      | (at_next; refine wpList_next_ranges _ rfl _ rfl 9 law9 iE Value.string (Value.int .i64) (fun key kl hkey => keyOf9_inv hkey) iE_form B w.heap.size n D left cnt rfl hrg ?_ ?_)
      | go_in)
    · intro hc0 hl0
      clear hrg hc0
      have hmem : ∀ k, k ∈ V ↔ k ∈ sel L fun n => p (now - n) := fun k => by rw [HI.out.mem]; simp [hl0]
      have hVl : V.length ≤ L.length := Nat.le_trans (nodup_len HI.out.nd (fun x hx => (hmem x).mp hx)) (sel_length _ _)
      have CS := Lib.hid (sort_any HI.out.row HI.out.nd hmem (sel_krises HC.out.good.rs _) (by have := HL.out; omega))
      clear hl0 hmem hVl
      go_wp2_with fail
      refine CS.out.mono ?_
      rintro r w3 ⟨rfl, t3, g3⟩
      have HE := Lib.hid (And.intro t3 (HI.out.bel.grown g3 HI.out.bel.size (fun k hk => (HI.out.row.own hk).1)))
      clear t3 g3 CS
      go_wp2
      go_ret
      exact ⟨_, rfl, HE.out.1, HE.out.2⟩
    · intro k c kl yd yp w2 cnt1 hkey hlk hv hat hrg1 hlt hg1 hs1 hen
      obtain ⟨rfl, hx⟩ := ThI.came HR.out hkey hv hat
      obtain ⟨row2, b2⟩ := HI.out.next (Nat.le_refl _) hg1
      have k1 := (HC.out.box.below b2).c1
      have hc1 := HC.out.good.lo _ hx
      have hc2 := HC.out.good.hi _ hx
      have hnw := HNW.out
      simp only at hc1 hc2
      have LT := Lib.hid hlt
      have CT := Lib.hid (HT.out (now - c) w2 b2)
      cases hp : p (now - c) with
      | true =>
        obtain ⟨v', W', hrun, hi'⟩ := HI.out.take (x := ⟨k, c⟩) hx hp (Nat.le_refl _) HL.out hlk hg1 hrg1
        have HI' := Lib.hid hi'
        simp only at hrun
        rw [hs1] at hrun
        have R1 := Lib.hid hrun
        rw [hp] at CT
        clear hkey hlk hv hat hrg1 hlt hg1 hrg hi' hrun row2 b2 hx hp
        go_wp2_with fail
        refine CT.out.mono ?_
        rintro r w3 ⟨rfl, rfl⟩
        clear CT
        go_wp2_with (first | (at_builtin; refine wpList_append_run rfl _ _ 22 22 rfl _ _ rfl rfl _ W' R1.out ?_))
        go_roundw
        case rel => exact ⟨_, _, _, HI'.out⟩
        case measure =>
          rw [HI'.out.left_eq, HM.out]
          exact LT.out
      | false =>
        have HI' := Lib.hid (HI.out.stay (x := ⟨k, c⟩) HC.out.good.rs hx hp (Nat.le_refl _) hg1 hrg1)
        rw [hp] at CT
        clear hkey hlk hv hat hrg1 hlt hg1 hrg row2 b2 hx hp
        go_wp2_with fail
        refine CT.out.mono ?_
        rintro r w3 ⟨rfl, rfl⟩
        clear CT
        go_wp2
        go_roundw
        case rel => exact ⟨_, _, _, HI'.out⟩
        case measure =>
          rw [HI'.out.left_eq, HM.out]
          exact LT.out

theorem tick1_any (n pat : Int) (q g : Nat) (w : World) (h0 : w.cell? ⟨q, 0, none⟩ = some (.pointer (some ⟨g, 0, none⟩))) (h1 : w.cell? ⟨g, 0, none⟩ = some (.int .i64 pat)) :
    Calls Try.prog 22 #[.int .i64 n, .pointer (some ⟨q, 0, none⟩)] w fun x w' => x = .returned (.bool (decide (n = pat))) ∧ w = w' := by
  go_enter Try.func22, Try.ntmps22
  go_wp2
  go_ret
  exact ⟨rfl, rfl⟩
theorem live1_any (n pat : Int) (q g : Nat) (w : World) (h0 : w.cell? ⟨q, 0, none⟩ = some (.pointer (some ⟨g, 0, none⟩))) (h1 : w.cell? ⟨g, 0, none⟩ = some (.int .i64 pat)) :
    Calls Try.prog 25 #[.int .i64 n, .pointer (some ⟨q, 0, none⟩)] w fun x w' => x = .returned (.bool (decide (n < pat))) ∧ w = w' := by
  go_enter Try.func25, Try.ntmps25
  go_wp2
  go_ret
  exact ⟨rfl, rfl⟩
theorem one_cell {w : World} {b : Nat} {v : Value} {T : TypeId} (h : w.heap[b]? = some (.cells #[v] T (0, 0))) : w.cell? ⟨b, 0, none⟩ = some v := by simp [World.cell?, h]
theorem enters22 : ∀ args w, (callFunc 22 args).run Try.prog w = .ok (.enter 22 args) w := Go.Proofs.enters_of Try.func22 (by kernel_rfl) rfl
theorem enters25 : ∀ args w, (callFunc 25 args).run Try.prog w = .ok (.enter 25 args) w := Go.Proofs.enters_of Try.func25 (by kernel_rfl) rfl
set_option maxHeartbeats 2000000 in
theorem live_any (base g B : Nat) (L : List Tm) (pat now ch : Int) (w : World) (h : DetAt w base g B L pat now ch) (hnow : now ≤ 1000000) (hl : L.length ≤ 1000) :
    Calls Try.prog 16 #[.pointer (some ⟨g, 0, none⟩)] w (RowPost w (liveL L pat now)) := by
  obtain ⟨q, hq⟩ : ∃ q, q = w.heap.size := ⟨_, rfl⟩
  obtain ⟨W, hW⟩ : ∃ W, w.alloc (.cells #[.pointer (some ⟨g, 0, none⟩)] 25) = W := ⟨_, rfl⟩
  have b0 : Below w.heap.size w W := hW ▸ (Below.refl _ _).alloc (Nat.le_refl _) _
  have x0 : W.heap[q]? = some (.cells #[.pointer (some ⟨g, 0, none⟩)] 25 (0, 0)) := by rw [← hW, hq]; exact heap_new _ _
  have HW1 := h.below b0
  have TL : Tells W 25 #[.pointer (some ⟨q, 0, none⟩)] (fun n => decide (n < pat)) := fun m w' hf => by
    have y0 := (hf.block q (lt_of_heap x0)).trans x0
    exact live1_any m pat q g w' (one_cell y0) (HW1.box.below hf).c0
  have CT := Lib.hid (those_any base g B L pat now ch 25 _ _ W HW1 hnow hl TL enters25)
  have HB := Lib.hid b0
  have HWQ := Lib.hid hW
  have HQ := Lib.hid hq
  clear h b0 x0 TL hW hq HW1
  go_enter Try.func16, Try.ntmps16
  go_wp2_with fail
  rw [← HQ.out, HWQ.out]
  refine CT.out.mono ?_
  rintro r w2 ⟨v, rfl, t2, b2⟩
  have HE : Hid (RowPost w (liveL L pat now) (.returned v) w2) := ⟨v, rfl, t2.down HB.out.size, HB.out.trans (b2.mono HB.out.size)⟩
  clear t2 b2 CT
  go_wp2
  go_ret
  exact HE.out
theorem live_nil (w : World) : Calls Try.prog 16 #[.pointer none] w fun r w' => r = .returned (.slice none 0 0) ∧ Below w.heap.size w w' := by
  have b0 : Hid (Below w.heap.size w (w.alloc (.cells #[.pointer none] 25))) := (Below.refl _ _).alloc (Nat.le_refl _) _
  go_enter Try.func16, Try.ntmps16
  go_wp2_with fail
  refine (those_nil _ _).mono ?_
  rintro r w2 ⟨rfl, rfl⟩
  go_wp2
  go_ret
  exact ⟨rfl, b0.out⟩
theorem tick_nil (w : World) : Calls Try.prog 11 #[.pointer none] w fun r w' => r = .returned (.slice none 0 0) ∧ Below w.heap.size w w' := by
  have b0 : Hid (Below w.heap.size w (w.alloc (.cells #[.pointer none] 25))) := (Below.refl _ _).alloc (Nat.le_refl _) _
  go_enter Try.func11, Try.ntmps11
  go_wp2
  go_ret
  exact ⟨rfl, b0.out⟩
def TickPost (w : World) (base g B : Nat) (L : List Tm) (pat now ch : Int) (r : Ending) (w' : World) : Prop :=
  ∃ v, r = .returned v ∧ RowT eKy 9 w' w.heap.size v (dieL L pat (now + 1)) ∧ DetAt w' base g B L pat (now + 1) (ch + ((dieL L pat (now + 1)).length : Int)) ∧ Fr [] [g, B] base w w'
end Go.Proofs.Ytdmgmbjdocechaa
