/-
  Words for memory: the document's table. The contracts of its Less, Goes, Has and Without. Their conditions: the table lies in memory, and has no more markers than a bound.
-/
import Derived.Test.YtkonkldcallimaaW10
namespace Go.Proofs.Ytkonkldcallimaa
open Go.RowKit Go.Maps
open Go.Sort (grow)

/-- The document's table lies in block h. -/
def RBox (w : World) (h : Nat) (v : Value) (limit : Int) : Prop := w.heap[h]? = some (.cells #[v, .int .i64 limit] 29 (0, 0))
section
variable {w w' : World} {h : Nat} {v : Value} {limit : Int}
theorem RBox.lt (r : RBox w h v limit) : h < w.heap.size := lt_of_heap r
theorem RBox.c0 (r : RBox w h v limit) : w.cell? ⟨h, 0, none⟩ = some v := by simp [World.cell?, show w.heap[h]? = _ from r]
theorem RBox.c1 (r : RBox w h v limit) : w.cell? ⟨h, 1, none⟩ = some (.int .i64 limit) := by simp [World.cell?, show w.heap[h]? = _ from r]
theorem RBox.frozen (r : RBox w h v limit) (o : Nat) : w.frozen? ⟨h, o, none⟩ = false := by simp [World.frozen?, show w.heap[h]? = _ from r]
theorem RBox.set0 (r : RBox w h v limit) (u : Value) : RBox (w.setCell ⟨h, 0, none⟩ u) h u limit := by
  unfold RBox at r ⊢
  simp [World.setCell, Array.getElem?_modify, r]
theorem RBox.below (r : RBox w h v limit) (hb : Below w.heap.size w w') : RBox w' h v limit := (hb.block h r.lt).trans r
end
def rK : List Nat := [29]
def RefAt (w : World) (base h : Nat) (L : List Mk) (limit : Int) : Prop := base ≤ h ∧ L.length ≤ 100000 ∧ ∃ v, RBox w h v limit ∧ RowT 33 w base v L
section
variable {w w' W : World} {base base' h : Nat} {L L' : List Mk} {limit : Int}
theorem RefAt.keep (r : RefAt w base h L limit) {l ms : List Nat} (hf : Fr l ms base' w w') (h1 : 29 ∉ l) (h2 : 33 ∉ l) (hm : ∀ i ∈ ms, ∃ o, w.heap[i]? = some o ∧ kd o = 1000) : RefAt w' base h L limit := by
  obtain ⟨a1, a2, v, h3, h4⟩ := r
  refine ⟨a1, a2, v, hf.keep h _ h3 h1 (fun hx => ?_), h4.fr hf h2 (fun i hi => ?_)⟩
  · obtain ⟨o, ho, hk⟩ := hm _ hx
    rw [show w.heap[h]? = _ from h3] at ho
    cases ho
    simp [kd] at hk
  · obtain ⟨o, ho, hk⟩ := hm _ hi
    exact ⟨o, ho, by rw [hk]; decide⟩
theorem RefAt.below (r : RefAt w base h L limit) (hb : Below w.heap.size w w') : RefAt w' base h L limit := by
  obtain ⟨a1, a2, v, h3, h4⟩ := r
  exact ⟨a1, a2, v, h3.below hb, h4.below hb⟩
theorem RefAt.parts (r : RefAt w base h L limit) : ∃ A c, RBox w h (.slice A L.length c) limit ∧ Tgs 33 w A L ∧ L.length ≤ c ∧ (A = none → c = 0) ∧ L.length ≤ 100000 := by
  obtain ⟨h1, h2, v, h3, h4⟩ := r
  obtain ⟨A, c, rfl, h5, h6, h7⟩ := h4.tgs (by unfold maxLen; omega)
  exact ⟨A, c, h3, h5, h6, h7, h2⟩
theorem RefAt.bh (r : RefAt w base h L limit) : base ≤ h := r.1
/-- The table's box is written behind it. -/
theorem ref_store {v : Value} (hr : RefAt w base h L limit) (hbs : base ≤ w.heap.size) (hb : Below w.heap.size w W) (ho : RowT 33 W w.heap.size v L') (hl : L'.length ≤ 100000) :
    RefAt (W.setCell ⟨h, 0, none⟩ v) base h L' limit ∧ Fr rK [] base w (W.setCell ⟨h, 0, none⟩ v) := by
  obtain ⟨a1, a2, v0, hbox, _⟩ := hr
  have hbox3 : RBox W h v0 limit := hbox.below hb
  have hF : Fr rK [] base W (W.setCell ⟨h, 0, none⟩ v) := (Fr.refl _ _ _ _).set hbox3 (.inl (by simp [kd, rK])) a1 _
  exact ⟨⟨a1, hl, v, hbox3.set0 v, (ho.down hbs).fr hF (by simp [rK]) (by simp)⟩, (Fr.of_below hb hbs).trans hF⟩
end
def RefPost (w : World) (base h : Nat) (L : List Mk) (limit : Int) (v : Value) (r : Ending) (w' : World) : Prop := r = .returned v ∧ RefAt w' base h L limit ∧ Fr rK [] base w w'

/-- Two markers that were handed over lie in blocks of their own. -/
theorem two_boxes (w : World) (a b : Mk) : Below w.heap.size w ((w.alloc (.cells #[.string a.k, .int .i64 a.s, .int .i64 a.r] 33)).alloc (.cells #[.string b.k, .int .i64 b.s, .int .i64 b.r] 33)) := ((Below.refl _ _).alloc (Nat.le_refl _) _).alloc (by simp) _
set_option maxHeartbeats 2000000 in
theorem less_any (a b : Mk) (w : World) : Calls Try.prog 24 #[.agg #[.string a.k, .int .i64 a.s, .int .i64 a.r], .agg #[.string b.k, .int .i64 b.s, .int .i64 b.r]] w fun r w' => r = .returned (.bool (mlt a b)) ∧ Below w.heap.size w w' := by
  have HB := Lib.hid (two_boxes w a b)
  obtain ⟨ak, ax, ar⟩ := a
  obtain ⟨bk, bx, br⟩ := b
  simp only at HB ⊢
  by_cases h1 : ak = bk
  · subst h1
    by_cases h2 : ax = bx
    · subst h2
      have e : mlt ⟨ak, ax, ar⟩ ⟨ak, ax, br⟩ = decide (ar < br) := by simp [mlt, lt_irrefl]
      rw [e]
      clear e
      go_enter Try.func24, Try.ntmps24
      go_wp2
      go_ret
      exact ⟨rfl, HB.out⟩
    · have e : mlt ⟨ak, ax, ar⟩ ⟨ak, bx, br⟩ = decide (ax < bx) := by simp [mlt, lt_irrefl, h2]
      rw [e]
      clear e
      go_enter Try.func24, Try.ntmps24
      go_wp2
      go_ret
      exact ⟨rfl, HB.out⟩
  · have e : mlt ⟨ak, ax, ar⟩ ⟨bk, bx, br⟩ = Op.bytesLess ak.toList bk.toList := by
      have : lt ak bk = Op.bytesLess ak.toList bk.toList := rfl
      simp [mlt, h1, this]
    have h1' : (ak.toList == bk.toList) = false := toList_ne h1
    rw [e]
    clear e h1
    go_enter Try.func24, Try.ntmps24
    go_wp2
    go_ret
    exact ⟨rfl, HB.out⟩
/-- Which go. -/
def goP (m : Mk) (how : Int) : Mk → Bool := if how = 0 then isG m else if how = 2 then paG m.s m.r else upG m.k m.s m.r
set_option maxHeartbeats 4000000 in
theorem goes_any (x m : Mk) (how : Int) (w : World) : Calls Try.prog 25 #[.agg #[.string x.k, .int .i64 x.s, .int .i64 x.r], .agg #[.string m.k, .int .i64 m.s, .int .i64 m.r], .int .i64 how] w fun r w' => r = .returned (.bool (goP m how x)) ∧ Below w.heap.size w w' := by
  have HB := Lib.hid (two_boxes w x m)
  obtain ⟨xk, xs, xr⟩ := x
  obtain ⟨mk, ms, mr⟩ := m
  simp only at HB ⊢
  by_cases hh : how = 0
  · subst hh
    by_cases h1 : xk = mk
    · subst h1
      by_cases h2 : xs = ms
      · subst h2
        by_cases h3 : xr = mr
        · subst h3
          have e : goP ⟨xk, xs, xr⟩ 0 ⟨xk, xs, xr⟩ = true := by simp [goP, isG]
          rw [e]
          clear e
          go_enter Try.func25, Try.ntmps25
          go_wp2
          go_ret
          exact ⟨rfl, HB.out⟩
        · have e : goP ⟨xk, xs, mr⟩ 0 ⟨xk, xs, xr⟩ = false := by simp [goP, isG, h3]
          rw [e]
          clear e
          go_enter Try.func25, Try.ntmps25
          go_wp2
          go_ret
          exact ⟨rfl, HB.out⟩
      · have e : goP ⟨xk, ms, mr⟩ 0 ⟨xk, xs, xr⟩ = false := by simp [goP, isG, h2]
        rw [e]
        clear e
        go_enter Try.func25, Try.ntmps25
        go_wp2
        go_ret
        exact ⟨rfl, HB.out⟩
    · have e : goP ⟨mk, ms, mr⟩ 0 ⟨xk, xs, xr⟩ = false := by simp [goP, isG, h1]
      have h1' : (xk.toList == mk.toList) = false := toList_ne h1
      rw [e]
      clear e h1
      go_enter Try.func25, Try.ntmps25
      go_wp2
      go_ret
      exact ⟨rfl, HB.out⟩
  · by_cases h2 : xs = ms
    · subst h2
      by_cases h3 : xr ≤ mr
      · by_cases hw : how = 2
        · subst hw
          have e : goP ⟨mk, xs, mr⟩ 2 ⟨xk, xs, xr⟩ = true := by simp [goP, paG, h3]
          rw [e]
          clear e
          · go_enter Try.func25, Try.ntmps25
            go_wp2
            go_ret
            exact ⟨rfl, HB.out⟩
        · by_cases h1 : xk = mk
          · subst h1
            have e : goP ⟨xk, xs, mr⟩ how ⟨xk, xs, xr⟩ = true := by simp [goP, upG, h3, hh, hw]
            rw [e]
            clear e
            go_enter Try.func25, Try.ntmps25
            go_wp2
            go_ret
            exact ⟨rfl, HB.out⟩
          · have e : goP ⟨mk, xs, mr⟩ how ⟨xk, xs, xr⟩ = false := by simp [goP, upG, h1, hh, hw]
            have h1' : (xk.toList == mk.toList) = false := toList_ne h1
            have hw' : (how == 2) = false := by simpa using hw
            rw [e]
            clear e h1
            go_enter Try.func25, Try.ntmps25
            go_wp2
            go_ret
            exact ⟨rfl, HB.out⟩
      · have e : goP ⟨mk, xs, mr⟩ how ⟨xk, xs, xr⟩ = false := by
          unfold goP
          rw [if_neg hh]
          split <;> simp [paG, upG, h3]
        rw [e]
        clear e
        · go_enter Try.func25, Try.ntmps25
          go_wp2
          go_ret
          exact ⟨rfl, HB.out⟩
    · have e : goP ⟨mk, ms, mr⟩ how ⟨xk, xs, xr⟩ = false := by
        unfold goP
        rw [if_neg hh]
        split <;> simp [paG, upG, h2]
      rw [e]
      clear e
      · go_enter Try.func25, Try.ntmps25
        go_wp2
        go_ret
        exact ⟨rfl, HB.out⟩
def RhRel (L : List Mk) (key : ByteArray) (w : World) (s5 : Value) (wr : World) : Prop := ∃ k : Nat, k ≤ L.length ∧ s5 = .int .i64 (k : Int) ∧ (∀ x ∈ L.take k, x.k ≠ key) ∧ wr = w
set_option maxHeartbeats 2000000 in
theorem refhas_any (base h : Nat) (L : List Mk) (limit : Int) (key : ByteArray) (w : World) (hr : RefAt w base h L limit) :
    Calls Try.prog 18 #[.pointer (some ⟨h, 0, none⟩), .string key] w fun r w' => r = .returned (.bool (hasK L key)) ∧ w = w' := by
  obtain ⟨A, c, hbox, hp, hc, hA, hl⟩ := hr.parts
  have c0 := hbox.c0
  have HP := Lib.hid hp
  obtain ⟨n, hn⟩ : ∃ n, n = L.length := ⟨_, rfl⟩
  rw [← hn] at c0
  have HN := Lib.hid hn
  have hn2 : (n : Int) ≤ 100000 := by omega
  clear hbox hp hc hA hl hr hn
  go_enter Try.func18, Try.ntmps18
  go_wp2
  go_loopw [5] (RhRel L key w) (fun i _ => n - (intOf i).toNat)
  case atStart => exact ⟨0, Nat.zero_le _, rfl, by simp, rfl⟩
  case round =>
    obtain ⟨k, hk, rfl, hnk, rfl⟩ := hrel
    have HNK := Lib.hid hnk
    clear hnk
    by_cases hkn : k < n
    · have hkl : k < L.length := by have := HN.out; omega
      obtain ⟨b, off, rfl, xl, x0, x1, x2⟩ := HP.out.at_ hkl
      have hki : (k : Int) < (n : Int) := by omega
      have hk0 : (0 : Int) ≤ (k : Int) := by omega
      by_cases hxy : L[k].k = key
      · have HALL : Hid (hasK L key = true) := hasK_iff.mpr ⟨_, List.getElem_mem hkl, hxy⟩
        rw [hxy] at x0
        clear xl hxy x1 x2 HNK
        go_wp2
        go_ret
        exact ⟨by rw [HALL.out]; rfl, rfl⟩
      · have HST : Hid (∀ x ∈ L.take (k + 1), x.k ≠ key) := by
          intro x hx
          rw [List.take_succ_eq_append_getElem hkl] at hx
          rcases List.mem_append.mp hx with hx | hx
          · exact HNK.out x hx
          · rw [List.mem_singleton] at hx
            rw [hx]
            exact hxy
        have hxy' : (L[k].k.toList == key.toList) = false := toList_ne hxy
        generalize L[k].k = x at x0 hxy'
        have HKL := Lib.hid hkl
        clear xl hxy x1 x2 hkl
        go_wp2
        go_roundw
        case rel => exact ⟨k + 1, HKL.out, by go_num, HST.out, rfl⟩
        case measure => simp [intOf]; omega
    · have hke : k = L.length := by have := HN.out; omega
      have HR : Hid (hasK L key = false) := by
        show _ = _
        cases hh : hasK L key with
        | false => rfl
        | true =>
          obtain ⟨x, hx, e⟩ := hasK_iff.mp hh
          exact absurd e (HNK.out x (by rw [hke, List.take_length]; exact hx))
      have hki : ¬ (k : Int) < (n : Int) := by omega
      clear hke HNK
      go_wp2
      go_ret
      exact ⟨by rw [HR.out]; rfl, rfl⟩
theorem take_out {L : List Mk} {p : Mk → Bool} {j : Nat} (hj : j < L.length) : out (L.take (j + 1)) p = out (L.take j) p ++ (if p L[j] then [] else [L[j]]) := by
  unfold out
  rw [List.take_succ_eq_append_getElem hj, List.filter_append]
  congr 1
  cases h : p L[j] <;> simp [h]
/-- How many go. -/
def goN (L : List Mk) (p : Mk → Bool) : Int := (L.length : Int) - ((out L p).length : Int)
def WoRel (L : List Mk) (p : Mk → Bool) (W : World) (s7 s8 : Value) (wr : World) : Prop :=
  ∃ (k : Nat) (v : Value), k ≤ L.length ∧ v = s7 ∧ s8 = .int .i64 (k : Int) ∧ RowT 33 wr W.heap.size v (out (L.take k) p) ∧ Below W.heap.size W wr
set_option maxRecDepth 100000 in
set_option maxHeartbeats 4000000 in
theorem without_any (base h : Nat) (L : List Mk) (limit : Int) (m : Mk) (how : Int) (w : World) (hr : RefAt w base h L limit) (hbs : base ≤ w.heap.size) :
    Calls Try.prog 13 #[.pointer (some ⟨h, 0, none⟩), .agg #[.string m.k, .int .i64 m.s, .int .i64 m.r], .int .i64 how] w (RefPost w base h (out L (goP m how)) limit (.int .i64 (goN L (goP m how)))) := by
  obtain ⟨n, hn⟩ : ∃ n, n = L.length := ⟨_, rfl⟩
  have HN := Lib.hid hn
  have HR := Lib.hid hr
  have HS := Lib.hid hbs
  have hn2 : (n : Int) ≤ 100000 := by have := hr.2.1; omega
  obtain ⟨p, hp⟩ : ∃ p, p = goP m how := ⟨_, rfl⟩
  have CG : Hid (∀ x w, Calls Try.prog 25 #[.agg #[.string x.k, .int .i64 x.s, .int .i64 x.r], .agg #[.string m.k, .int .i64 m.s, .int .i64 m.r], .int .i64 how] w fun r w' => r = .returned (.bool (p x)) ∧ Below w.heap.size w w') := fun x w => by
    rw [hp]
    exact goes_any x m how w
  rw [← hp]
  clear hn hr hbs hp
  go_enter Try.func13, Try.ntmps13
  go_wp2
  obtain ⟨q, hq⟩ : ∃ q, q = w.heap.size := ⟨_, rfl⟩
  obtain ⟨W, hW⟩ : ∃ W, w.alloc (.cells #[.string m.k, .int .i64 m.s, .int .i64 m.r] 33) = W := ⟨_, rfl⟩
  have hqW : W.heap.size = q + 1 := by rw [← hW, hq]; simp
  have BW : Hid (Below w.heap.size w W) := hW ▸ (Below.refl _ _).alloc (Nat.le_refl _) _
  have XW : Hid (W.heap[q]? = some (.cells #[.string m.k, .int .i64 m.s, .int .i64 m.r] 33 (0, 0))) := by show _ = _; rw [← hW, hq]; exact heap_new _ _
  have ROW0 := Lib.hid (RowT.empty (e := 33) W)
  have B0 : Hid (Below W.heap.size W (W.alloc (.cells #[] 33))) := (Below.refl _ _).alloc (Nat.le_refl _) _
  rw [hW, ← hq]
  rw [hqW] at ROW0
  have HQW := Lib.hid hqW
  clear hW hq hqW
  go_loopw [7, 8] (WoRel L p W) (fun _ i _ => n - (intOf i).toNat)
  case atStart => exact ⟨0, _, Nat.zero_le _, rfl, rfl, by rw [HQW.out]; exact ROW0.out, B0.out⟩
  case round =>
    obtain ⟨k, v, hk, rfl, rfl, hrow, hb⟩ := hrel
    have HROW := Lib.hid hrow
    have HB := Lib.hid hb
    have HBW := Lib.hid (BW.out.trans (hb.mono BW.out.size))
    clear hrow hb ROW0 B0
    obtain ⟨A, c, hbox, htg, hnc, hA, _⟩ := (HR.out.below HBW.out).parts
    rw [← HN.out] at hbox
    have c0 := hbox.c0
    have HBX := Lib.hid hbox
    have HTG := Lib.hid htg
    clear htg hnc hA hbox
    by_cases hkn : k < n
    · have hkl : k < L.length := by have := HN.out; omega
      obtain ⟨b, off, rfl, hbl, x0, x1, x2⟩ := HTG.out.at_ hkl
      have HT := Lib.hid (take_out (p := p) hkl)
      have CDX : Hid (∀ W', Below wr.heap.size wr W' → W'.cell? ⟨b, off + k * 3, none⟩ = some (.string L[k].k) ∧ W'.cell? ⟨b, off + k * 3 + 1, none⟩ = some (.int .i64 L[k].s) ∧ W'.cell? ⟨b, off + k * 3 + 2, none⟩ = some (.int .i64 L[k].r)) := fun W' hb => by
        have e : ∀ o, W'.cell? ⟨b, o, none⟩ = wr.cell? ⟨b, o, none⟩ := fun o => hb.cell (p := ⟨b, o, none⟩) hbl
        rw [e, e, e]
        exact ⟨x0, x1, x2⟩
      generalize L[k] = x at x0 x1 x2 HT CDX
      have hki : (k : Int) < (n : Int) := by omega
      have hk0 : (0 : Int) ≤ (k : Int) := by omega
      have HKL : Hid (k + 1 ≤ L.length) := hkl
      have HLT : Hid ((out (L.take k) p).length ≤ k ∧ k < 100000) := ⟨Nat.le_trans (out_length_le _ _) (by rw [List.length_take]; omega), by omega⟩
      have xm : wr.heap[q]? = some (.cells #[.string m.k, .int .i64 m.s, .int .i64 m.r] 33 (0, 0)) := (HB.out.block q (lt_of_heap XW.out)).trans XW.out
      obtain ⟨m0, m1, m2⟩ := mk_cells xm
      clear hkl hk hbl xm
      have C1 : Hid (∀ d os, Calls Try.prog 25 #[.agg #[.string x.k, .int .i64 x.s, .int .i64 x.r], .agg #[.string m.k, .int .i64 m.s, .int .i64 m.r], .int .i64 how] (grow (redrawn wr d) os) fun e' w'' => e' = .returned (.bool (p x)) ∧ ∃ p : Regrown, w'' = grow (redrawn wr p.d) p.os) :=
        fun d os => Calls.regrown_of (CG.out x _)
      have g0 := fun d os => cell_regrown c0 d os
      have g1 := fun d os => cell_regrown x0 d os
      have g2 := fun d os => cell_regrown x1 d os
      have g3 := fun d os => cell_regrown x2 d os
      have g4 := fun d os => cell_regrown m0 d os
      have g5 := fun d os => cell_regrown m1 d os
      have g6 := fun d os => cell_regrown m2 d os
      go_wp2_with fail
      refine wp_region_quiet_below (by kernel_rfl) (by kernel_rfl) ?_
      repeat (go_big_quiet_step (first | with_reducible exact C1.out _ _))
      refine wpQuiet_nil ?_
      intro w4 hw'
      obtain ⟨⟨dq, osq⟩, hw''⟩ := hw'
      have b4 : Below wr.heap.size wr w4 := by rw [hw'']; exact below_regrown wr dq osq
      have B4 := Lib.hid b4
      clear hw'' b4 g0 g1 g2 g3 g4 g5 g6 c0 x0 x1 x2 m0 m1 m2 C1
      cases hpx : p x with
      | true =>
        have HO : Hid (RowT 33 w4 W.heap.size v (out (L.take (k + 1)) p)) := by
          show RowT _ _ _ _ _
          rw [HT.out, hpx, if_pos rfl, List.append_nil]
          exact HROW.out.below B4.out
        clear hpx
        go_wp2
        go_roundw
        case rel => exact ⟨k + 1, _, HKL.out, rfl, by go_num, HO.out, HB.out.trans (B4.out.mono HB.out.size)⟩
        case measure => simp [intOf]; omega
      | false =>
        have HPX := Lib.hid hpx
        clear hpx
        have HB4 := Lib.hid (HB.out.trans (B4.out.mono HB.out.size))
        obtain ⟨v', W', hrun, ho, hb'⟩ := RowT.grow el27 (w := W) rfl ((HROW.out.below B4.out).below ((Below.refl _ _).alloc (Nat.le_refl _) (.cells #[.string x.k, .int .i64 x.s, .int .i64 x.r] 33))) (HB4.out.alloc HB4.out.size (.cells #[.string x.k, .int .i64 x.s, .int .i64 x.r] 33)) (tgs_one (e := 33) w4 x) rfl (by simp) (by have := HLT.out; simp; omega)
        have HO : Hid (RowT 33 W' W.heap.size v' (out (L.take (k + 1)) p)) := by
          show RowT _ _ _ _ _
          rw [HT.out, HPX.out, if_neg (by simp)]
          exact ho
        have R1 := Lib.hid hrun
        have HBB := Lib.hid hb'
        have c0 := (HBX.out.below B4.out).c0
        obtain ⟨x0, x1, x2⟩ := CDX.out _ B4.out
        clear ho hb' hrun
        go_wp2_with (first | (at_builtin; refine wpList_append_run rfl _ _ 27 27 rfl _ _ rfl rfl _ W' R1.out ?_))
        go_roundw
        case rel => exact ⟨k + 1, _, HKL.out, rfl, by go_num, HO.out, HBB.out⟩
        case measure => simp [intOf]; omega
    · have hke : k = L.length := by have := HN.out; omega
      have hki : ¬ (k : Int) < (n : Int) := by omega
      rw [hke, List.take_length] at HROW
      obtain ⟨A9, c9, hv9, _⟩ := HROW.out.form
      have hol := out_length_le L p
      obtain ⟨o, ho⟩ : ∃ o, o = (out L p).length := ⟨_, rfl⟩
      rw [← ho] at hv9 hol
      have HG : Hid (goN L p = (n : Int) - (o : Int)) := by show _ = _; unfold goN; rw [HN.out, ho]
      have hon : o ≤ n := by have := HN.out; omega
      have hst := ref_store (v := v) HR.out HS.out HBW.out (HROW.out.down BW.out.size) (by have := HR.out.2.1; omega)
      have hfz := HBX.out.frozen 0
      subst hv9
      have HST := Lib.hid hst
      clear hke hk hkn hol ho hst
      go_wp2
      go_ret
      exact ⟨by rw [HG.out]; rfl, HST.out.1, HST.out.2⟩
end Go.Proofs.Ytkonkldcallimaa
