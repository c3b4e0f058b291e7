/-
  The contract of Tick. Words for a detector beside other blocks. The document's example is answered as it says. Their conditions: the detector lies in memory; its moment and its changes are below a bound, it has no more nodes than a bound.
-/
import Derived.Test.YtdmgmbjdocechaaW4
namespace Go.Proofs.Ytdmgmbjdocechaa
open Go.RowKit Go.Maps Go.ChangeMaps
open Go.Sort (grow)

set_option maxHeartbeats 2000000 in
theorem tick_any (base g B : Nat) (L : List Tm) (pat now ch : Int) (w : World) (h : DetAt w base g B L pat now ch) (hnow : now < 1000000) (hch : ch ≤ 1000000000) (hl : L.length ≤ 1000) (hbs : base ≤ w.heap.size) :
    Calls Try.prog 11 #[.pointer (some ⟨g, 0, none⟩)] w (TickPost w base g B L pat now ch) := by
  have h0 := h.good.n0
  have hc0 := h.good.c0
  have hgN : Good L pat (now + 1) ch := ⟨h.good.rs, h.good.lo, h.good.tick.hi, h.good.p1, h.good.tick.n0, hc0⟩
  obtain ⟨q, hq⟩ : ∃ q, q = w.heap.size := ⟨_, rfl⟩
  have b9 : Below w.heap.size w (w.alloc (.cells #[.pointer (some ⟨g, 0, none⟩)] 25)) := (Below.refl _ _).alloc (Nat.le_refl _) _
  have h9 := h.below b9
  obtain ⟨t1, f1⟩ := h9.setN hgN
  have x9 : (w.alloc (.cells #[.pointer (some ⟨g, 0, none⟩)] 25)).heap[q]? = some (.cells #[.pointer (some ⟨g, 0, none⟩)] 25 (0, 0)) := by rw [hq]; exact heap_new _ _
  have hqg : q ∉ [g] := by
    have := h.box.lt
    simp
    omega
  have F9 : Fr [] [g] base (w.alloc (.cells #[.pointer (some ⟨g, 0, none⟩)] 25)) ((w.alloc (.cells #[.pointer (some ⟨g, 0, none⟩)] 25)).setCell ⟨g, 1, none⟩ (.int .i64 (now + 1))) := (Fr.refl _ _ _ _).set h9.box (.inr (by simp)) h.bg _
  obtain ⟨W, hW⟩ : ∃ W, (w.alloc (.cells #[.pointer (some ⟨g, 0, none⟩)] 25)).setCell ⟨g, 1, none⟩ (.int .i64 (now + 1)) = W := ⟨_, rfl⟩
  rw [hW] at t1 f1 F9
  have x0 : W.heap[q]? = some (.cells #[.pointer (some ⟨g, 0, none⟩)] 25 (0, 0)) := F9.keep _ _ x9 (by simp) hqg
  have HW1 := t1
  have F1 : Hid (Fr [] [g, B] base w W ∧ w.heap.size ≤ W.heap.size) := ⟨(Fr.of_below b9 hbs).trans f1, by have := b9.size; have := F9.size; omega⟩
  have TL : Tells W 22 #[.pointer (some ⟨q, 0, none⟩)] (fun n => decide (n = pat)) := fun m w' hf => by
    have y0 := (hf.block q (lt_of_heap x0)).trans x0
    exact tick1_any m pat q g w' (one_cell y0) (HW1.box.below hf).c0
  have CT := Lib.hid (those_any base g B L pat (now + 1) ch 22 _ _ W HW1 (by omega) hl TL enters22)
  have X0 := Lib.hid x0
  have HWQ := Lib.hid hW
  have HQ := Lib.hid hq
  have HT := Lib.hid HW1
  have HS := Lib.hid hbs
  have HGT := Lib.hid h.good.tick
  have HLN := Lib.hid (Nat.le_trans (sel_length L (die pat (now + 1))) hl)
  have HCH := Lib.hid hch
  have HC0 := Lib.hid hc0
  have c1 := h9.box.c1
  have fz := h9.box.frozen 1
  have hn2 : 0 ≤ now := h0
  clear h hgN t1 f1 b9 h9 x9 F9 hqg x0 HW1 TL hq hW hbs hch hc0 hl h0
  go_enter Try.func11, Try.ntmps11
  go_wp2_with fail
  rw [← HQ.out, HWQ.out]
  refine CT.out.mono ?_
  rintro r w2 ⟨v, rfl, t2, b2⟩
  have T2 := HT.out.below b2
  have d0 := one_cell ((b2.block q (lt_of_heap X0.out)).trans X0.out)
  have t2' : RowT eKy 9 w2 w.heap.size v (dieL L pat (now + 1)) := t2.down F1.out.2
  obtain ⟨A, c, hv, _⟩ := t2'.form
  obtain ⟨t3, f3⟩ := T2.setC HGT.out
  have hrow : RowT eKy 9 (w2.setCell ⟨g, 3, none⟩ (.int .i64 (ch + ((dieL L pat (now + 1)).length : Int)))) w.heap.size v (dieL L pat (now + 1)) := by
    have F : Fr [] [g] base w2 (w2.setCell ⟨g, 3, none⟩ (.int .i64 (ch + ((dieL L pat (now + 1)).length : Int)))) := (Fr.refl _ _ _ _).set T2.box (.inr (by simp)) T2.bg _
    exact t2'.fr F (by simp) fun i hi => by
      rw [List.mem_singleton.mp hi]
      exact ⟨_, T2.box, show (53 : Nat) ≠ 9 by decide⟩
  have HE : Hid (TickPost w base g B L pat now ch (.returned v) (w2.setCell ⟨g, 3, none⟩ (.int .i64 (ch + ((dieL L pat (now + 1)).length : Int))))) := ⟨v, rfl, hrow, t3, (F1.out.1.trans (Fr.of_below b2 (Nat.le_trans HS.out F1.out.2))).trans f3⟩
  obtain ⟨m, hm⟩ : ∃ m, m = (dieL L pat (now + 1)).length := ⟨_, rfl⟩
  rw [← hm] at HE hv
  have hml : m ≤ 1000 := by rw [hm]; exact HLN.out
  have CD := Lib.hid (add_any (n := (m : Int)) T2.box.c3 (T2.box.frozen 3) (by have := HC0.out; omega) (by have := HCH.out; omega))
  have HM := Lib.hid hml
  subst hv
  clear T2 t2 t2' t3 f3 hrow b2 hm CT HGT hml HLN
  go_wp2_with fail
  refine CD.out.mono ?_
  rintro r w3 ⟨rfl, rfl⟩
  go_wp2
  go_ret
  exact HE.out

/-! ### New -/
def Sized (l : List ByteArray) : Prop := ∀ a ∈ l, a.size ≤ maxLen
theorem DetAt.down {w : World} {base base' g B : Nat} {L : List Tm} {pat now ch : Int} (h : DetAt w base g B L pat now ch) (hb : base' ≤ base) : DetAt w base' g B L pat now ch :=
  ⟨h.box, h.mp, Nat.le_trans hb h.bg, Nat.le_trans hb h.bB, h.ok, h.good⟩
/-- What New lays first. -/
def newWorld (w : World) (pat : Int) : World := (w.alloc (.map #[] 0)).alloc (.cells #[.int .i64 pat, .int .i64 0, .map (some w.heap.size), .int .i64 0] 53)
theorem newWorld_below (w : World) (pat : Int) : Below w.heap.size w (newWorld w pat) := ((Below.refl _ w).alloc (Nat.le_refl _) _).alloc (by simp) _
theorem newWorld_det (w : World) (p : Int) : DetAt (newWorld w (max p 1)) w.heap.size (w.heap.size + 1) w.heap.size (newL []) (max p 1) 0 0 := by
  refine ⟨?_, ?_, by omega, Nat.le_refl _, by simp [newL], newL_good [] p⟩
  · have h := heap_new (w.alloc (.map #[] 0)) (.cells #[.int .i64 (max p 1), .int .i64 0, .map (some w.heap.size), .int .i64 0] 53)
    rw [World.size_alloc] at h
    exact h
  · exact (MapAt.made w).below ((Below.refl _ _).alloc (Nat.le_refl _) _)
def NewPost (w : World) (base : Nat) (L : List Tm) (pat : Int) (r : Ending) (w' : World) : Prop :=
  ∃ g B, r = .returned (.pointer (some ⟨g, 0, none⟩)) ∧ DetAt w' base g B L pat 0 0 ∧ Below w.heap.size w w' ∧ w.heap.size ≤ g ∧ w.heap.size ≤ B
/-- New under way. -/
structure NewI (l : List ByteArray) (pat : Int) (w : World) (k : Nat) (wr : World) : Prop where
  det : DetAt wr w.heap.size (w.heap.size + 1) w.heap.size (newL (l.take k)) pat 0 0
  bel : Below w.heap.size w wr
set_option maxHeartbeats 4000000 in
theorem new_any (base : Nat) (p : Int) (l : List ByteArray) (A : Option Addr) (n c : Nat) (w : World) (hs : Sl eKy w A l) (hn : l.length = n) (hz : Sized l) (h1 : n ≤ 1000) (hbs : base ≤ w.heap.size) :
    Calls Try.prog 8 #[.int .i64 p, .slice A n c] w (NewPost w base (newL l) (max p 1)) := by
  have hmm := @run_makeMap Try.prog
  obtain ⟨q, hq⟩ : ∃ q, q = w.heap.size := ⟨_, rfl⟩
  obtain ⟨m, hm⟩ : ∃ m, m = max p 1 := ⟨_, rfl⟩
  have hmax : ∀ w, (Builtin.max_ #[3, 3] 3 #[.int .i64 p, .int .i64 1]).run Try.prog w = .ok (.int .i64 m) w := fun w => run_max2 w _ _ _ _ _ hm
  have H := Lib.hid hs
  have HN := Lib.hid hn
  have HZ := Lib.hid hz
  have HB := Lib.hid hbs
  have hn2 : (n : Int) ≤ 1000 := by omega
  have HI0 : Hid (NewI l m w 0 (newWorld w m)) := ⟨by rw [hm]; exact newWorld_det w p, newWorld_below w m⟩
  rw [← hm]
  unfold newWorld at HI0
  clear hs hn hz h1 hbs hm
  go_enter Try.func8, Try.ntmps8
  go_wp2
  go_loopw [15] (fun s15 wr => ∃ (k : Nat), k ≤ n ∧ s15 = .int .i64 (k : Int) ∧ NewI l m w k wr) (fun i _ => n - (intOf i).toNat)
  case atStart => exact ⟨0, Nat.zero_le _, rfl, HI0.out⟩
  case round =>
    obtain ⟨k, hk, rfl, hi⟩ := hrel
    have HI := Lib.hid hi
    clear hi HI0
    by_cases hlt : k < n
    · have hkl : k < l.length := by rw [HN.out]; exact hlt
      obtain ⟨b, off, rfl, _, d0⟩ := at_ky (H.out.below (Nat.le_refl _) HI.out.bel) hkl
      have hlti : (k : Int) < (n : Int) := by omega
      have hk0 : (0 : Int) ≤ (k : Int) := by omega
      have HT := Lib.hid (newL_take hkl)
      have HX := Lib.hid (HZ.out l[k] (List.getElem_mem hkl))
      have HK : Hid (k + 1 ≤ n) := hlt
      have HLN : Hid ((newL (l.take k)).length ≤ 1000) := by
        have := newL_length (l.take k)
        rw [List.length_take] at this
        show _ ≤ _
        omega
      generalize l[k] = x at d0 HT HX
      have T1 := HI.out.det.below (Below.refl _ wr).drew
      have c1 := T1.box.c1
      have c2 := T1.box.c2
      have e1 := HI.out.det.box.c1
      have e2 := HI.out.det.box.c2
      obtain ⟨w3, hr, hm3, hg3⟩ := T1.mp.put T1.good.rs (x := ⟨x, 0⟩) ⟨HX.out, wf0⟩ (by unfold maxLen; have := HLN.out; omega)
      have hgd : Good (ins (newL (l.take k)) ⟨x, 0⟩) m 0 0 := ⟨T1.good.rs.ins _, fun y hy => by
        rcases mem_ins.mp hy with rfl | hy
        · exact Int.le_refl _
        · exact T1.good.lo y hy.1, fun y hy => by
        rcases mem_ins.mp hy with rfl | hy
        · exact Int.le_refl _
        · exact T1.good.hi y hy.1, T1.good.p1, Int.le_refl _, Int.le_refl _⟩
      obtain ⟨t3, f3⟩ := T1.turn hg3 hm3 (fun y hy => by rcases mem_ins.mp hy with rfl | hy; exact ⟨HX.out, wf0⟩; exact T1.ok y hy.1) hgd
      simp only at hr
      have HI3 : Hid (NewI l m w (k + 1) w3) := ⟨by rw [HT.out]; exact t3, (HI.out.bel.drew).trans f3.below⟩
      obtain ⟨q2, hq2⟩ : ∃ q2, q2 = w.heap.size + 1 := ⟨_, rfl⟩
      clear T1 hm3 hg3 hgd t3 f3 hkl hk hq2
      go_wp2_with fail
      go_region
      all_goals
        go_wp2
        go_roundw
        case rel => exact ⟨k + 1, HK.out, by go_num, HI3.out⟩
        case measure => simp [intOf]; omega
    · have hlti : ¬ (k : Int) < (n : Int) := by omega
      have HE : Hid (NewPost w base (newL l) m (.returned (.pointer (some ⟨w.heap.size + 1, 0, none⟩))) wr) := by
        have h := HI.out.det.down HB.out
        rw [List.take_of_length_le (by rw [HN.out]; omega)] at h
        exact ⟨_, _, rfl, h, HI.out.bel, by omega, Nat.le_refl _⟩
      clear hk hlt
      go_wp2
      go_ret
      exact HE.out
end Go.Proofs.Ytdmgmbjdocechaa
