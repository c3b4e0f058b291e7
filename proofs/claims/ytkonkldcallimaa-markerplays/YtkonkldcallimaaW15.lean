/-
  The contracts of the document's Set and of same. Their conditions: the table lies in memory, its markers rise.
-/
import Derived.Test.YtkonkldcallimaaW14
namespace Go.Proofs.Ytkonkldcallimaa
open Go.RowKit Go.Maps
open Go.Sort (grow)

/-- Where a marker belongs. -/
structure Plc (L : List Mk) (m : Mk) (j : Nat) : Prop where
  le : j ≤ L.length
  ahead : ∀ x ∈ L.take j, mlt x m = true
  here : ∀ x, L[j]? = some x → mlt x m = false
theorem Plc.parts {L : List Mk} {m : Mk} {j : Nat} (h : Plc L m j) (hr : Rises L) : ∀ x ∈ L.drop j, x = m ∨ mlt m x = true := by
  intro x hx
  cases hd : L.drop j with
  | nil => rw [hd] at hx; cases hx
  | cons y r =>
    have hy : L[j]? = some y := by
      have : (L.drop j)[0]? = some y := by rw [hd]; rfl
      rw [List.getElem?_drop] at this
      simpa using this
    have h1 := h.here y hy
    have hy2 : y = m ∨ mlt m y = true := by
      cases h2 : mlt m y with
      | true => exact .inr rfl
      | false => exact .inl (mlt_tri h1 h2)
    have hrd : Rises (y :: r) := by rw [← hd]; exact (List.Pairwise.drop hr : Rises (L.drop j))
    rw [hd] at hx
    rcases List.mem_cons.mp hx with rfl | hx
    · exact hy2
    · have h3 := (rises_cons.mp hrd).1 x hx
      rcases hy2 with rfl | h2
      · exact .inr h3
      · exact .inr (mlt_trans h2 h3)
theorem Plc.new {L : List Mk} {m : Mk} {j : Nat} (h : Plc L m j) (hr : Rises L) (hn : m ∉ L) : L.take j ++ m :: L.drop j = ins L m := by
  have hp := h.parts hr
  have hrt : Rises (L.take j) := (List.Pairwise.take hr : _)
  have hrd : Rises (L.drop j) := (List.Pairwise.drop hr : _)
  have hd : ∀ x ∈ L.drop j, mlt m x = true := fun x hx => by
    rcases hp x hx with rfl | h1
    · exact absurd (List.mem_of_mem_drop hx) hn
    · exact h1
  refine rises_one (rises_append.mpr ⟨hrt, rises_cons.mpr ⟨hd, hrd⟩, fun p hpp q hq => ?_⟩) (hr.ins m) fun q => ?_
  · rcases List.mem_cons.mp hq with rfl | hq
    · exact h.ahead p hpp
    · exact mlt_trans (h.ahead p hpp) (hd q hq)
  · rw [mem_ins, List.mem_append, List.mem_cons]
    conv => rhs; rw [← List.take_append_drop j L, List.mem_append]
    constructor
    · rintro (h | h | h)
      · exact .inr (.inl h)
      · exact .inl h
      · exact .inr (.inr h)
    · rintro (h | h | h)
      · exact .inr (.inl h)
      · exact .inl h
      · exact .inr (.inr h)
theorem Plc.old {L : List Mk} {m : Mk} {j : Nat} (h : Plc L m j) (hr : Rises L) (hm : m ∈ L) : L[j]? = some m := by
  have hd : m ∈ L.drop j := by
    rw [← List.take_append_drop j L, List.mem_append] at hm
    rcases hm with h1 | h1
    · have := h.ahead m h1
      rw [mlt_irrefl] at this
      cases this
    · exact h1
  cases hdd : L.drop j with
  | nil => rw [hdd] at hd; cases hd
  | cons y r =>
    have hy : L[j]? = some y := by
      have : (L.drop j)[0]? = some y := by rw [hdd]; rfl
      rw [List.getElem?_drop] at this
      simpa using this
    rw [hdd] at hd
    rcases List.mem_cons.mp hd with rfl | h1
    · exact hy
    · have hrd : Rises (y :: r) := by rw [← hdd]; exact (List.Pairwise.drop hr : Rises (L.drop j))
      have h2 := (rises_cons.mp hrd).1 m h1
      rw [h.here y hy] at h2
      cases h2

/-- What Set makes where the marker is new. -/
structure SetUp (w : World) (base h : Nat) (L' : List Mk) (limit : Int) (mk : Mk) (A A' : Option Addr) (n j c m c' : Nat) (w1 w2 w3 : World) (v1 v2 : Value) (B3 : Option Addr) (l3 c3 : Nat) : Prop where
  r1 : (Builtin.append_ #[27, 27] 27 #[.slice (some ⟨w.heap.size, 0, none⟩) 0 0, .slice A j c]).run Try.prog (w.alloc (.cells #[] 33)) = .ok v1 w1
  r2 : (Builtin.append_ #[27, 27] 27 #[v1, .slice (some ⟨w1.heap.size, 0, none⟩) 1 1]).run Try.prog (w1.alloc (.cells #[.string mk.k, .int .i64 mk.s, .int .i64 mk.r] 33)) = .ok v2 w2
  r3 : (Builtin.append_ #[27, 27] 27 #[v2, .slice A' m c']).run Try.prog w2 = .ok (.slice B3 l3 c3) w3
  d0 : (w.alloc (.cells #[] 33)).cell? ⟨h, 0, none⟩ = some (.slice A n c)
  d2 : w2.cell? ⟨h, 0, none⟩ = some (.slice A n c)
  d3 : w3.cell? ⟨h, 0, none⟩ = some (.slice A n c)
  f3 : w3.frozen? ⟨h, 0, none⟩ = false
  b1 : Below w.heap.size w w1
  out : RefAt (w3.setCell ⟨h, 0, none⟩ (.slice B3 l3 c3)) base h L' limit ∧ Fr rK [] base w (w3.setCell ⟨h, 0, none⟩ (.slice B3 l3 c3))
theorem RefAt.spot {w : World} {base h : Nat} {L : List Mk} {limit : Int} (r : RefAt w base h L limit) {A : Option Addr} {n c : Nat} (hb : RBox w h (.slice A n c) limit) {ad : Addr} (hA : A = some ad) : ∃ g off, ad = ⟨g, off, none⟩ := by
  obtain ⟨_, _, v, h3, h4⟩ := r
  unfold RBox at h3 hb
  rw [hb] at h3
  simp at h3
  subst h3
  rcases h4.2 with ⟨e, _⟩ | ⟨g, cap, cur, e, _⟩
  · cases e
    cases hA
  · cases e
    cases hA
    exact ⟨g, 0, rfl⟩
theorem set_up {base h : Nat} {L : List Mk} {limit : Int} {mk : Mk} {w : World} {A A' : Option Addr} {n j c c' m : Nat} (hr : RefAt w base h L limit) (hbs : base ≤ w.heap.size) (hl : n < 100000) (hbox : RBox w h (.slice A n c) limit) (hp : Tgs 33 w A L) (hA : A = none → c = 0) (hn : L.length = n) (hj : j ≤ n)
    (hp' : Tgs 33 w A' (L.drop j)) (hA' : A' = none → c' = 0) (hm : n - j = m) : ∃ w1 w2 w3 v1 v2 B3 l3 c3, SetUp w base h (L.take j ++ mk :: L.drop j) limit mk A A' n j c m c' w1 w2 w3 v1 v2 B3 l3 c3 := by
  have b0 : Below w.heap.size w (w.alloc (.cells #[] 33)) := (Below.refl _ _).alloc (Nat.le_refl _) _
  obtain ⟨v1, w1, r1, o1, b1⟩ := RowT.grow el27 (w := w) rfl (RowT.empty w) b0 (n := j) (c := c) ((hp.take j).below (Nat.le_refl _) b0) (by rw [List.length_take]; omega) hA (by simp; omega)
  have b1' : Below w.heap.size w (w1.alloc (.cells #[.string mk.k, .int .i64 mk.s, .int .i64 mk.r] 33)) := b1.alloc b1.size _
  obtain ⟨v2, w2, r2, o2, b2⟩ := RowT.grow el27 (w := w) rfl (o1.below ((Below.refl _ _).alloc (Nat.le_refl _) (.cells #[.string mk.k, .int .i64 mk.s, .int .i64 mk.r] 33))) b1' (n := 1) (c := 1) (tgs_one (e := 33) w1 mk) rfl (by simp) (by simp; omega)
  obtain ⟨v3, w3, r3, o3, b3⟩ := RowT.grow el27 (w := w) rfl o2 b2 (n := m) (c := c') (hp'.below (Nat.le_refl _) b2) (by rw [List.length_drop]; omega) hA' (by simp; omega)
  simp only [List.nil_append, List.append_assoc, List.cons_append] at o3
  obtain ⟨B3, c3, rfl, _⟩ := o3.form
  have hlt := hbox.lt
  exact ⟨w1, w2, w3, v1, v2, B3, _, c3, r1, r2, r3, (b0.cell (p := ⟨h, 0, none⟩) hlt).trans hbox.c0, (b2.cell (p := ⟨h, 0, none⟩) hlt).trans hbox.c0, (b3.cell (p := ⟨h, 0, none⟩) hlt).trans hbox.c0, RBox.frozen (hbox.below b3) 0, b1,
    ref_store hr hbs b3 o3 (by simp; omega)⟩
def RsRel (L : List Mk) (m : Mk) (W : World) (s5 : Value) (wr : World) : Prop := ∃ k : Nat, k ≤ L.length ∧ s5 = .int .i64 (k : Int) ∧ (∀ x ∈ L.take k, mlt x m = true) ∧ Below W.heap.size W wr
set_option maxRecDepth 100000 in
set_option maxHeartbeats 8000000 in
theorem refset_any (base h : Nat) (L : List Mk) (limit : Int) (m : Mk) (w : World) (hr : RefAt w base h L limit) (hbs : base ≤ w.heap.size) (hrs : Rises L) (hl : L.length < 100000) :
    Calls Try.prog 11 #[.pointer (some ⟨h, 0, none⟩), .agg #[.string m.k, .int .i64 m.s, .int .i64 m.r]] w (RefPost w base h (setL L m limit) limit (.bool (decide (setE L m limit = 0)))) := by
  obtain ⟨n, hn⟩ : ∃ n, n = L.length := ⟨_, rfl⟩
  have HN := Lib.hid hn
  have HR := Lib.hid hr
  have HS := Lib.hid hbs
  have HRS := Lib.hid hrs
  have hn2 : (n : Int) < 100000 := by omega
  clear hn hr hbs hrs hl
  go_enter Try.func11, Try.ntmps11
  go_wp2
  obtain ⟨q, hq⟩ : ∃ q, q = w.heap.size := ⟨_, rfl⟩
  obtain ⟨W, hW⟩ : ∃ W, w.alloc (.cells #[.string m.k, .int .i64 m.s, .int .i64 m.r] 33) = W := ⟨_, rfl⟩
  have BW : Hid (Below w.heap.size w W) := hW ▸ (Below.refl _ _).alloc (Nat.le_refl _) _
  have XW : Hid (W.heap[q]? = some (.cells #[.string m.k, .int .i64 m.s, .int .i64 m.r] 33 (0, 0))) := by show _ = _; rw [← hW, hq]; exact heap_new _ _
  rw [hW, ← hq]
  clear hW hq
  go_loopw [5] (RsRel L m W) (fun i _ => n - (intOf i).toNat)
  case atStart => exact ⟨0, Nat.zero_le _, rfl, by simp, Below.refl _ _⟩
  case round =>
    obtain ⟨k, hk, rfl, hah, hb⟩ := hrel
    have HAH := Lib.hid hah
    have HB := Lib.hid hb
    have HBW := Lib.hid (BW.out.trans (hb.mono BW.out.size))
    clear hah hb
    obtain ⟨A, c, hbox, htg, hnc, hA, _⟩ := (HR.out.below HBW.out).parts
    rw [← HN.out] at hbox hnc
    have c0 := hbox.c0
    have HBX := Lib.hid hbox
    have HTG := Lib.hid htg
    have HNC : Hid (n ≤ c ∧ (A = none → c = 0)) := ⟨hnc, hA⟩
    clear htg hnc hA hbox
    have xm : wr.heap[q]? = some (.cells #[.string m.k, .int .i64 m.s, .int .i64 m.r] 33 (0, 0)) := (HB.out.block q (lt_of_heap XW.out)).trans XW.out
    obtain ⟨m0, m1, m2⟩ := mk_cells xm
    have XM := Lib.hid xm
    clear xm
    have g0 := fun d os => cell_regrown c0 d os
    have g4 := fun d os => cell_regrown m0 d os
    have g5 := fun d os => cell_regrown m1 d os
    have g6 := fun d os => cell_regrown m2 d os
    by_cases hkn : k < n
    · have hkl : k < L.length := by have := HN.out; omega
      obtain ⟨b, off, rfl, hbl, x0, x1, x2⟩ := HTG.out.at_ hkl
      have HXK := Lib.hid (List.getElem?_eq_getElem hkl)
      have HTK := Lib.hid (List.take_succ_eq_append_getElem hkl)
      generalize L[k] = x at x0 x1 x2 HXK HTK
      have hki : (k : Int) < (n : Int) := by omega
      have hk0 : (0 : Int) ≤ (k : Int) := by omega
      have HKL : Hid (k + 1 ≤ L.length) := hkl
      clear hkl hk hbl
      have C1 : Hid (∀ d os, Calls Try.prog 24 #[.agg #[.string x.k, .int .i64 x.s, .int .i64 x.r], .agg #[.string m.k, .int .i64 m.s, .int .i64 m.r]] (grow (redrawn wr d) os) fun e' w'' => e' = .returned (.bool (mlt x m)) ∧ ∃ p : Regrown, w'' = grow (redrawn wr p.d) p.os) :=
        fun d os => Calls.regrown_of (less_any x m _)
      have g1 := fun d os => cell_regrown x0 d os
      have g2 := fun d os => cell_regrown x1 d os
      have g3 := fun d os => cell_regrown x2 d os
      cases hlt : mlt x m with
      | true =>
        rw [hlt] at C1
        have HST : Hid (∀ y ∈ L.take (k + 1), mlt y m = true) := by
          intro y hy
          rw [HTK.out] at hy
          rcases List.mem_append.mp hy with hy | hy
          · exact HAH.out y hy
          · rw [List.mem_singleton] at hy
            rw [hy]
            exact hlt
        clear hlt
        go_wp2_with fail
        refine wp_region_quiet_below (by kernel_rfl) (by kernel_rfl) ?_
        repeat (go_big_quiet_step (first | with_reducible exact C1.out _ _))
        refine wpQuiet_nil ?_
        intro w4 hw'
        obtain ⟨⟨dq, osq⟩, hw''⟩ := hw'
        have b4 : Below wr.heap.size wr w4 := by rw [hw'']; exact below_regrown wr dq osq
        have B4 := Lib.hid (HB.out.trans (b4.mono HB.out.size))
        clear hw'' b4 g0 g1 g2 g3 g4 g5 g6 c0 x0 x1 x2 m0 m1 m2 C1
        go_wp2
        go_roundw
        case rel => exact ⟨k + 1, HKL.out, by go_num, HST.out, B4.out⟩
        case measure => simp [intOf]; omega
      | false =>
        rw [hlt] at C1
        have PL : Hid (Plc L m k) := ⟨by have := HKL.out; omega, HAH.out, fun y hy => by rw [HXK.out] at hy; cases hy; exact hlt⟩
        clear hlt
        go_wp2_with fail
        refine wp_region_quiet_below (by kernel_rfl) (by kernel_rfl) ?_
        repeat (go_big_quiet_step (first | with_reducible exact C1.out _ _))
        refine wpQuiet_nil ?_
        intro w4 hw'
        obtain ⟨⟨dq, osq⟩, hw''⟩ := hw'
        have b4 : Below wr.heap.size wr w4 := by rw [hw'']; exact below_regrown wr dq osq
        have B4 := Lib.hid b4
        clear hw'' b4 g0 g1 g2 g3 g4 g5 g6 C1
        have e0 : w4.cell? ⟨h, 0, none⟩ = some (.slice (some ⟨b, off, none⟩) n c) := (HBX.out.below B4.out).c0
        have e1 : w4.cell? ⟨h, 1, none⟩ = some (.int .i64 limit) := (HBX.out.below B4.out).c1
        have xl := block_lt_of_cell x0
        simp only at xl
        have y0 := (B4.out.cell (p := ⟨b, off + k * 3, none⟩) xl).trans x0
        have y1 := (B4.out.cell (p := ⟨b, off + k * 3 + 1, none⟩) xl).trans x1
        have y2 := (B4.out.cell (p := ⟨b, off + k * 3 + 2, none⟩) xl).trans x2
        have xm4 : w4.heap[q]? = some (.cells #[.string m.k, .int .i64 m.s, .int .i64 m.r] 33 (0, 0)) := (B4.out.block q (lt_of_heap XM.out)).trans XM.out
        obtain ⟨n0, n1, n2⟩ := mk_cells xm4
        clear c0 x0 x1 x2 m0 m1 m2 xl xm4
        by_cases hxm : x = m
        · subst hxm
          go_wp2_with fail
          go_quiet (fail)
          have B5 := Lib.hid (B4.out.trans ((below_drewN w4 nq).mono B4.out.size))
          generalize w4.drewN nq = w5 at B5 ⊢
          have HE : Hid (RefPost w base h (setL L x limit) limit (.bool (decide (setE L x limit = 0))) (.returned (.bool true)) w5) := by
            have hin : x ∈ L := List.mem_of_getElem? HXK.out
            simp only [setL, setE, hin, if_true]
            have hbb := HBW.out.trans (B5.out.mono HBW.out.size)
            exact ⟨by simp, HR.out.below hbb, Fr.of_below hbb HS.out⟩
          go_wp2
          go_ret
          exact HE.out
        · have HNIN : Hid (m ∉ L) := fun hin => by
            have := PL.out.old HRS.out hin
            rw [HXK.out] at this
            injection this with this
            exact hxm this
          by_cases ha : x.k = m.k
          · have ha1 : (x.k.toList == m.k.toList) = true := by rw [ha]; simp
            by_cases hb1 : x.s = m.s
            · have hb2 : decide (x.s = m.s) = true := decide_eq_true hb1
              have hb3 : (x.s == m.s) = true := by simpa using hb1
              have hc1 : ¬ x.r = m.r := fun e => hxm (Mk.ext' ha hb1 e)
              clear hxm ha hb1
              go_wp2_with fail
              go_quiet (fail)
              have B5 := Lib.hid (B4.out.trans ((below_drewN w4 nq).mono B4.out.size))
              generalize w4.drewN nq = w5 at B5 ⊢
              have f0 : w5.cell? ⟨h, 0, none⟩ = some (.slice (some ⟨b, off, none⟩) n c) := (HBX.out.below B5.out).c0
              have f1 : w5.cell? ⟨h, 1, none⟩ = some (.int .i64 limit) := (HBX.out.below B5.out).c1
              by_cases hfull : (n : Int) ≥ limit
              · go_wp2_with fail
                go_quiet (fail)
                have B6 := Lib.hid (B5.out.trans ((below_drewN w5 nq).mono B5.out.size))
                generalize w5.drewN nq = w6 at B6 ⊢
                clear f0 f1
                have HE : Hid (∀ W', Below wr.heap.size wr W' → RefPost w base h (setL L m limit) limit (.bool (decide (setE L m limit = 0))) (.returned (.bool false)) W') := fun W' hb' => by
                  have hf' : (L.length : Int) ≥ limit := by have := HN.out; omega
                  simp only [setL, setE, HNIN.out, hf', if_true, if_false]
                  have hbb := HBW.out.trans (hb'.mono HBW.out.size)
                  exact ⟨by simp, HR.out.below hbb, Fr.of_below hbb HS.out⟩
                clear hfull
                go_wp2
                go_ret
                exact HE.out _ B6.out
              · go_wp2_with fail
                go_quiet (fail)
                have B6 := Lib.hid (B5.out.trans ((below_drewN w5 nq).mono B5.out.size))
                generalize w5.drewN nq = w6 at B6 ⊢
                clear f0 f1
                have HLS : Hid (setL L m limit = L.take k ++ m :: L.drop k ∧ setE L m limit = 0) := by
                  have hf' : ¬ (L.length : Int) ≥ limit := by have := HN.out; omega
                  simp only [setL, setE, HNIN.out, hf', if_false]
                  exact ⟨(PL.out.new HRS.out HNIN.out).symm, trivial⟩
                have hb6 := HBW.out.trans (B6.out.mono HBW.out.size)
                obtain ⟨w7, w8, w9, v1, v2, B9, l9, c9, U⟩ := set_up (mk := m) (A' := some ⟨b, off + k * 3, none⟩) (c' := c - k) (m := n - k) (HR.out.below hb6) (Nat.le_trans HS.out hb6.size) (by omega) (HBX.out.below B6.out) (HTG.out.below (Nat.le_refl _) B6.out) (by simp) HN.out.symm (by omega) ((HTG.out.below (Nat.le_refl _) B6.out).drop k) (by simp) rfl
                obtain ⟨r1, r2, r3, d0, d2, d3, f3, ub1, hout⟩ := U
                have HOUT : Hid (RefPost w base h (setL L m limit) limit (.bool (decide (setE L m limit = 0))) (.returned (.bool true)) (w9.setCell ⟨h, 0, none⟩ (.slice B9 l9 c9))) := by
                  rw [HLS.out.1, HLS.out.2]
                  exact ⟨by simp, hout.1, (Fr.of_below hb6 HS.out).trans hout.2⟩
                have xm7 : w7.heap[q]? = some (.cells #[.string m.k, .int .i64 m.s, .int .i64 m.r] 33 (0, 0)) := by
                  have h6 : w6.heap[q]? = some (.cells #[.string m.k, .int .i64 m.s, .int .i64 m.r] 33 (0, 0)) := (B6.out.block q (lt_of_heap XM.out)).trans XM.out
                  exact (ub1.block q (lt_of_heap h6)).trans h6
                obtain ⟨o0, o1, o2⟩ := mk_cells xm7
                have f0' : w6.cell? ⟨h, 0, none⟩ = some (.slice (some ⟨b, off, none⟩) n c) := (HBX.out.below B6.out).c0
                have hne : ¬ h = w6.heap.size := by have := (HBX.out.below B6.out).lt; omega
                have hkc : ¬ c = k := by have := HNC.out.1; omega
                have hkci : (k : Int) ≤ (c : Int) := by have := HNC.out.1; omega
                have hkni : (k : Int) ≤ (n : Int) := by omega
                have R1 := Lib.hid r1
                have R2 := Lib.hid r2
                have R3 := Lib.hid r3
                clear r1 r2 r3 hout ub1 xm7 hb6 hn2 hkn
                go_wp2_with (first | (at_builtin; refine wpList_append_run rfl _ _ 27 27 rfl _ _ rfl rfl _ w7 R1.out ?_) | (at_builtin; refine wpList_append_run rfl _ _ 27 27 rfl _ _ rfl rfl _ w8 R2.out ?_) | (at_builtin; refine wpList_append_run rfl _ _ 27 27 rfl _ _ rfl rfl _ w9 R3.out ?_))
                go_ret
                exact HOUT.out
            · clear hxm ha
              go_wp2_with fail
              go_quiet (fail)
              have B5 := Lib.hid (B4.out.trans ((below_drewN w4 nq).mono B4.out.size))
              generalize w4.drewN nq = w5 at B5 ⊢
              have f0 : w5.cell? ⟨h, 0, none⟩ = some (.slice (some ⟨b, off, none⟩) n c) := (HBX.out.below B5.out).c0
              have f1 : w5.cell? ⟨h, 1, none⟩ = some (.int .i64 limit) := (HBX.out.below B5.out).c1
              by_cases hfull : (n : Int) ≥ limit
              · go_wp2_with fail
                go_quiet (fail)
                have B6 := Lib.hid (B5.out.trans ((below_drewN w5 nq).mono B5.out.size))
                generalize w5.drewN nq = w6 at B6 ⊢
                clear f0 f1
                have HE : Hid (∀ W', Below wr.heap.size wr W' → RefPost w base h (setL L m limit) limit (.bool (decide (setE L m limit = 0))) (.returned (.bool false)) W') := fun W' hb' => by
                  have hf' : (L.length : Int) ≥ limit := by have := HN.out; omega
                  simp only [setL, setE, HNIN.out, hf', if_true, if_false]
                  have hbb := HBW.out.trans (hb'.mono HBW.out.size)
                  exact ⟨by simp, HR.out.below hbb, Fr.of_below hbb HS.out⟩
                clear hfull
                go_wp2
                go_ret
                exact HE.out _ B6.out
              · go_wp2_with fail
                go_quiet (fail)
                have B6 := Lib.hid (B5.out.trans ((below_drewN w5 nq).mono B5.out.size))
                generalize w5.drewN nq = w6 at B6 ⊢
                clear f0 f1
                have HLS : Hid (setL L m limit = L.take k ++ m :: L.drop k ∧ setE L m limit = 0) := by
                  have hf' : ¬ (L.length : Int) ≥ limit := by have := HN.out; omega
                  simp only [setL, setE, HNIN.out, hf', if_false]
                  exact ⟨(PL.out.new HRS.out HNIN.out).symm, trivial⟩
                have hb6 := HBW.out.trans (B6.out.mono HBW.out.size)
                obtain ⟨w7, w8, w9, v1, v2, B9, l9, c9, U⟩ := set_up (mk := m) (A' := some ⟨b, off + k * 3, none⟩) (c' := c - k) (m := n - k) (HR.out.below hb6) (Nat.le_trans HS.out hb6.size) (by omega) (HBX.out.below B6.out) (HTG.out.below (Nat.le_refl _) B6.out) (by simp) HN.out.symm (by omega) ((HTG.out.below (Nat.le_refl _) B6.out).drop k) (by simp) rfl
                obtain ⟨r1, r2, r3, d0, d2, d3, f3, ub1, hout⟩ := U
                have HOUT : Hid (RefPost w base h (setL L m limit) limit (.bool (decide (setE L m limit = 0))) (.returned (.bool true)) (w9.setCell ⟨h, 0, none⟩ (.slice B9 l9 c9))) := by
                  rw [HLS.out.1, HLS.out.2]
                  exact ⟨by simp, hout.1, (Fr.of_below hb6 HS.out).trans hout.2⟩
                have xm7 : w7.heap[q]? = some (.cells #[.string m.k, .int .i64 m.s, .int .i64 m.r] 33 (0, 0)) := by
                  have h6 : w6.heap[q]? = some (.cells #[.string m.k, .int .i64 m.s, .int .i64 m.r] 33 (0, 0)) := (B6.out.block q (lt_of_heap XM.out)).trans XM.out
                  exact (ub1.block q (lt_of_heap h6)).trans h6
                obtain ⟨o0, o1, o2⟩ := mk_cells xm7
                have f0' : w6.cell? ⟨h, 0, none⟩ = some (.slice (some ⟨b, off, none⟩) n c) := (HBX.out.below B6.out).c0
                have hne : ¬ h = w6.heap.size := by have := (HBX.out.below B6.out).lt; omega
                have hkc : ¬ c = k := by have := HNC.out.1; omega
                have hkci : (k : Int) ≤ (c : Int) := by have := HNC.out.1; omega
                have hkni : (k : Int) ≤ (n : Int) := by omega
                have R1 := Lib.hid r1
                have R2 := Lib.hid r2
                have R3 := Lib.hid r3
                clear r1 r2 r3 hout ub1 xm7 hb6 hn2 hkn
                go_wp2_with (first | (at_builtin; refine wpList_append_run rfl _ _ 27 27 rfl _ _ rfl rfl _ w7 R1.out ?_) | (at_builtin; refine wpList_append_run rfl _ _ 27 27 rfl _ _ rfl rfl _ w8 R2.out ?_) | (at_builtin; refine wpList_append_run rfl _ _ 27 27 rfl _ _ rfl rfl _ w9 R3.out ?_))
                go_ret
                exact HOUT.out
          · have ha1 : (x.k.toList == m.k.toList) = false := toList_ne ha
            clear hxm ha
            go_wp2_with fail
            go_quiet (fail)
            have B5 := Lib.hid (B4.out.trans ((below_drewN w4 nq).mono B4.out.size))
            generalize w4.drewN nq = w5 at B5 ⊢
            have f0 : w5.cell? ⟨h, 0, none⟩ = some (.slice (some ⟨b, off, none⟩) n c) := (HBX.out.below B5.out).c0
            have f1 : w5.cell? ⟨h, 1, none⟩ = some (.int .i64 limit) := (HBX.out.below B5.out).c1
            by_cases hfull : (n : Int) ≥ limit
            · go_wp2_with fail
              go_quiet (fail)
              have B6 := Lib.hid (B5.out.trans ((below_drewN w5 nq).mono B5.out.size))
              generalize w5.drewN nq = w6 at B6 ⊢
              clear f0 f1
              have HE : Hid (∀ W', Below wr.heap.size wr W' → RefPost w base h (setL L m limit) limit (.bool (decide (setE L m limit = 0))) (.returned (.bool false)) W') := fun W' hb' => by
                have hf' : (L.length : Int) ≥ limit := by have := HN.out; omega
                simp only [setL, setE, HNIN.out, hf', if_true, if_false]
                have hbb := HBW.out.trans (hb'.mono HBW.out.size)
                exact ⟨by simp, HR.out.below hbb, Fr.of_below hbb HS.out⟩
              clear hfull
              go_wp2
              go_ret
              exact HE.out _ B6.out
            · go_wp2_with fail
              go_quiet (fail)
              have B6 := Lib.hid (B5.out.trans ((below_drewN w5 nq).mono B5.out.size))
              generalize w5.drewN nq = w6 at B6 ⊢
              clear f0 f1
              have HLS : Hid (setL L m limit = L.take k ++ m :: L.drop k ∧ setE L m limit = 0) := by
                have hf' : ¬ (L.length : Int) ≥ limit := by have := HN.out; omega
                simp only [setL, setE, HNIN.out, hf', if_false]
                exact ⟨(PL.out.new HRS.out HNIN.out).symm, trivial⟩
              have hb6 := HBW.out.trans (B6.out.mono HBW.out.size)
              obtain ⟨w7, w8, w9, v1, v2, B9, l9, c9, U⟩ := set_up (mk := m) (A' := some ⟨b, off + k * 3, none⟩) (c' := c - k) (m := n - k) (HR.out.below hb6) (Nat.le_trans HS.out hb6.size) (by omega) (HBX.out.below B6.out) (HTG.out.below (Nat.le_refl _) B6.out) (by simp) HN.out.symm (by omega) ((HTG.out.below (Nat.le_refl _) B6.out).drop k) (by simp) rfl
              obtain ⟨r1, r2, r3, d0, d2, d3, f3, ub1, hout⟩ := U
              have HOUT : Hid (RefPost w base h (setL L m limit) limit (.bool (decide (setE L m limit = 0))) (.returned (.bool true)) (w9.setCell ⟨h, 0, none⟩ (.slice B9 l9 c9))) := by
                rw [HLS.out.1, HLS.out.2]
                exact ⟨by simp, hout.1, (Fr.of_below hb6 HS.out).trans hout.2⟩
              have xm7 : w7.heap[q]? = some (.cells #[.string m.k, .int .i64 m.s, .int .i64 m.r] 33 (0, 0)) := by
                have h6 : w6.heap[q]? = some (.cells #[.string m.k, .int .i64 m.s, .int .i64 m.r] 33 (0, 0)) := (B6.out.block q (lt_of_heap XM.out)).trans XM.out
                exact (ub1.block q (lt_of_heap h6)).trans h6
              obtain ⟨o0, o1, o2⟩ := mk_cells xm7
              have f0' : w6.cell? ⟨h, 0, none⟩ = some (.slice (some ⟨b, off, none⟩) n c) := (HBX.out.below B6.out).c0
              have hne : ¬ h = w6.heap.size := by have := (HBX.out.below B6.out).lt; omega
              have hkc : ¬ c = k := by have := HNC.out.1; omega
              have hkci : (k : Int) ≤ (c : Int) := by have := HNC.out.1; omega
              have hkni : (k : Int) ≤ (n : Int) := by omega
              have R1 := Lib.hid r1
              have R2 := Lib.hid r2
              have R3 := Lib.hid r3
              clear r1 r2 r3 hout ub1 xm7 hb6 hn2 hkn
              go_wp2_with (first | (at_builtin; refine wpList_append_run rfl _ _ 27 27 rfl _ _ rfl rfl _ w7 R1.out ?_) | (at_builtin; refine wpList_append_run rfl _ _ 27 27 rfl _ _ rfl rfl _ w8 R2.out ?_) | (at_builtin; refine wpList_append_run rfl _ _ 27 27 rfl _ _ rfl rfl _ w9 R3.out ?_))
              go_ret
              exact HOUT.out
    · have hke : n = k := by have := HN.out; omega
      subst hke
      have hki : ¬ (n : Int) < (n : Int) := by omega
      have PL : Hid (Plc L m n) := ⟨hk, HAH.out, fun y hy => by have := (List.getElem?_eq_some_iff.mp hy).1; have := HN.out; omega⟩
      have HNIN : Hid (m ∉ L) := fun hin => by
        have := (List.getElem?_eq_some_iff.mp (PL.out.old HRS.out hin)).1
        have := HN.out
        omega
      clear hk hkn
      go_wp2_with fail
      refine wp_region_quiet_below (by kernel_rfl) (by kernel_rfl) ?_
      repeat (go_big_quiet_step (fail))
      refine wpQuiet_nil ?_
      intro w4 hw'
      obtain ⟨⟨dq, osq⟩, hw''⟩ := hw'
      have b4 : Below wr.heap.size wr w4 := by rw [hw'']; exact below_regrown wr dq osq
      have B4 := Lib.hid b4
      clear hw'' b4 g0 g4 g5 g6 c0 m0 m1 m2
      have e0 : w4.cell? ⟨h, 0, none⟩ = some (.slice A n c) := (HBX.out.below B4.out).c0
      have e1 : w4.cell? ⟨h, 1, none⟩ = some (.int .i64 limit) := (HBX.out.below B4.out).c1
      go_wp2_with fail
      go_quiet (fail)
      have B5 := Lib.hid (B4.out.trans ((below_drewN w4 nq).mono B4.out.size))
      generalize w4.drewN nq = w5 at B5 ⊢
      have f0 : w5.cell? ⟨h, 0, none⟩ = some (.slice A n c) := (HBX.out.below B5.out).c0
      have f1 : w5.cell? ⟨h, 1, none⟩ = some (.int .i64 limit) := (HBX.out.below B5.out).c1
      clear e0 e1
      by_cases hfull : (n : Int) ≥ limit
      · go_wp2_with fail
        go_quiet (fail)
        have B6 := Lib.hid (B5.out.trans ((below_drewN w5 nq).mono B5.out.size))
        generalize w5.drewN nq = w6 at B6 ⊢
        clear f0 f1
        have HE : Hid (∀ W', Below wr.heap.size wr W' → RefPost w base h (setL L m limit) limit (.bool (decide (setE L m limit = 0))) (.returned (.bool false)) W') := fun W' hb' => by
          have hf' : (L.length : Int) ≥ limit := by have := HN.out; omega
          simp only [setL, setE, HNIN.out, hf', if_true, if_false]
          have hbb := HBW.out.trans (hb'.mono HBW.out.size)
          exact ⟨by simp, HR.out.below hbb, Fr.of_below hbb HS.out⟩
        clear hfull
        go_wp2
        go_ret
        exact HE.out _ B6.out
      · go_wp2_with fail
        go_quiet (fail)
        have B6 := Lib.hid (B5.out.trans ((below_drewN w5 nq).mono B5.out.size))
        generalize w5.drewN nq = w6 at B6 ⊢
        clear f0 f1
        by_cases hcn : c = n
        · subst hcn
          have HLS : Hid (setL L m limit = L.take c ++ m :: L.drop c ∧ setE L m limit = 0) := by
            have hf' : ¬ (L.length : Int) ≥ limit := by have := HN.out; omega
            simp only [setL, setE, HNIN.out, hf', if_false]
            exact ⟨(PL.out.new HRS.out HNIN.out).symm, trivial⟩
          have hb6 := HBW.out.trans (B6.out.mono HBW.out.size)
          obtain ⟨w7, w8, w9, v1, v2, B9, l9, c9, U⟩ := set_up (mk := m) (j := c) (A' := A) (c' := 0) (m := 0) (HR.out.below hb6) (Nat.le_trans HS.out hb6.size) (by omega) (HBX.out.below B6.out) (HTG.out.below (Nat.le_refl _) B6.out) HNC.out.2 HN.out.symm (Nat.le_refl _) (tgs_end A (by have := HN.out; omega)) (fun _ => rfl) (by omega)
          obtain ⟨r1, r2, r3, d0, d2, d3, f3, ub1, hout⟩ := U
          have HOUT : Hid (RefPost w base h (setL L m limit) limit (.bool (decide (setE L m limit = 0))) (.returned (.bool true)) (w9.setCell ⟨h, 0, none⟩ (.slice B9 l9 c9))) := by
            rw [HLS.out.1, HLS.out.2]
            exact ⟨by simp, hout.1, (Fr.of_below hb6 HS.out).trans hout.2⟩
          have xm7 : w7.heap[q]? = some (.cells #[.string m.k, .int .i64 m.s, .int .i64 m.r] 33 (0, 0)) := by
            have h6 : w6.heap[q]? = some (.cells #[.string m.k, .int .i64 m.s, .int .i64 m.r] 33 (0, 0)) := (B6.out.block q (lt_of_heap XM.out)).trans XM.out
            exact (ub1.block q (lt_of_heap h6)).trans h6
          obtain ⟨o0, o1, o2⟩ := mk_cells xm7
          have f0' : w6.cell? ⟨h, 0, none⟩ = some (.slice A c c) := (HBX.out.below B6.out).c0
          have hne : ¬ h = w6.heap.size := by have := (HBX.out.below B6.out).lt; omega
          have hn0 : (0 : Int) ≤ (c : Int) := by omega
          have R1 := Lib.hid r1
          have R2 := Lib.hid r2
          have R3 := Lib.hid r3
          clear r1 r2 r3 hout ub1 xm7 hb6 hn2
          go_wp2_with (first | (at_builtin; refine wpList_append_run rfl _ _ 27 27 rfl _ _ rfl rfl _ w7 R1.out ?_) | (at_builtin; refine wpList_append_run rfl _ _ 27 27 rfl _ _ rfl rfl _ w8 R2.out ?_) | (at_builtin; refine wpList_append_run rfl _ _ 27 27 rfl _ _ rfl rfl _ w9 R3.out ?_))
          go_ret
          exact HOUT.out
        · cases A with
          | none => exact absurd (HNC.out.2 rfl) (by have := HNC.out.1; omega)
          | some ad =>
            obtain ⟨b, off, rfl⟩ := (HR.out.below HBW.out).spot HBX.out rfl
            have HLS : Hid (setL L m limit = L.take n ++ m :: L.drop n ∧ setE L m limit = 0) := by
              have hf' : ¬ (L.length : Int) ≥ limit := by have := HN.out; omega
              simp only [setL, setE, HNIN.out, hf', if_false]
              exact ⟨(PL.out.new HRS.out HNIN.out).symm, trivial⟩
            have hb6 := HBW.out.trans (B6.out.mono HBW.out.size)
            obtain ⟨w7, w8, w9, v1, v2, B9, l9, c9, U⟩ := set_up (mk := m) (j := n) (A' := some ⟨b, off + n * 3, none⟩) (c' := c - n) (m := 0) (HR.out.below hb6) (Nat.le_trans HS.out hb6.size) (by omega) (HBX.out.below B6.out) (HTG.out.below (Nat.le_refl _) B6.out) (by simp) HN.out.symm (Nat.le_refl _) (tgs_end _ (by have := HN.out; omega)) (by simp) (by omega)
            obtain ⟨r1, r2, r3, d0, d2, d3, f3, ub1, hout⟩ := U
            have HOUT : Hid (RefPost w base h (setL L m limit) limit (.bool (decide (setE L m limit = 0))) (.returned (.bool true)) (w9.setCell ⟨h, 0, none⟩ (.slice B9 l9 c9))) := by
              rw [HLS.out.1, HLS.out.2]
              exact ⟨by simp, hout.1, (Fr.of_below hb6 HS.out).trans hout.2⟩
            have xm7 : w7.heap[q]? = some (.cells #[.string m.k, .int .i64 m.s, .int .i64 m.r] 33 (0, 0)) := by
              have h6 : w6.heap[q]? = some (.cells #[.string m.k, .int .i64 m.s, .int .i64 m.r] 33 (0, 0)) := (B6.out.block q (lt_of_heap XM.out)).trans XM.out
              exact (ub1.block q (lt_of_heap h6)).trans h6
            obtain ⟨o0, o1, o2⟩ := mk_cells xm7
            have f0' : w6.cell? ⟨h, 0, none⟩ = some (.slice (some ⟨b, off, none⟩) n c) := (HBX.out.below B6.out).c0
            have hne : ¬ h = w6.heap.size := by have := (HBX.out.below B6.out).lt; omega
            have hn0 : (0 : Int) ≤ (n : Int) := by omega
            have hkc : ¬ c = n := hcn
            have hkci : (n : Int) ≤ (c : Int) := by have := HNC.out.1; omega
            have R1 := Lib.hid r1
            have R2 := Lib.hid r2
            have R3 := Lib.hid r3
            clear r1 r2 r3 hout ub1 xm7 hb6 hn2 hcn
            go_wp2_with (first | (at_builtin; refine wpList_append_run rfl _ _ 27 27 rfl _ _ rfl rfl _ w7 R1.out ?_) | (at_builtin; refine wpList_append_run rfl _ _ 27 27 rfl _ _ rfl rfl _ w8 R2.out ?_) | (at_builtin; refine wpList_append_run rfl _ _ 27 27 rfl _ _ rfl rfl _ w9 R3.out ?_))
            go_ret
            exact HOUT.out
end Go.Proofs.Ytkonkldcallimaa
