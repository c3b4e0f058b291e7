/-
  Words for memory: the document's table. The contracts of its Allows, Pass and Same. Their conditions: the table lies in memory, and has no more tombstones than a bound.
-/
import Derived.Test.YtlleiehacmkedaaW8
namespace Go.Proofs.Ytlleiehacmkedaa
open Go.RowKit Go.Maps Go.ChangeMaps
open Go.Sort (grow)

/-! ### A row that is written in place -/
theorem Enc.vals_set {α : Type} (E : Enc α) {l : List α} {k : Nat} (hk : k < l.length) {x' : α} {i : Nat} {u : Value} (hi : i < E.wd) (hx : E.f x' = (E.f l[k]).set i u) : E.vals (l.set k x') = (E.vals l).set (k * E.wd + i) u := by
  induction l generalizing k with
  | nil => simp at hk
  | cons s r ih =>
    have e : ∀ t q, E.vals (t :: q) = E.f t ++ E.vals q := fun t q => by simp [Enc.vals]
    cases k with
    | zero =>
      simp only [List.set_cons_zero, e]
      rw [List.getElem_cons_zero] at hx
      rw [hx, List.set_append_left _ _ (by rw [E.len]; omega), Nat.zero_mul, Nat.zero_add]
    | succ k =>
      simp only [List.set_cons_succ, e]
      rw [List.getElem_cons_succ] at hx
      rw [ih (by simpa using hk) hx, List.set_append_right _ _ (by rw [E.len, Nat.succ_mul]; omega), E.len, show (k + 1) * E.wd + i - E.wd = k * E.wd + i by rw [Nat.succ_mul]; omega]
theorem RowT.set {α : Type} {E : Enc α} {e : TypeId} {w : World} {base g cap k i off : Nat} {l : List α} {x' : α} {u : Value} (h : RowT E e w base (.slice (some ⟨g, off, none⟩) l.length cap) l) (hk : k < l.length) (hi : i < E.wd) (hx : E.f x' = (E.f l[k]).set i u) :
    RowT E e (w.setCell ⟨g, off + k * E.wd + i, none⟩ u) base (.slice (some ⟨g, off, none⟩) l.length cap) (l.set k x') ∧ (∃ cs, w.heap[g]? = some (.cells cs e (0, 0))) ∧ base ≤ g := by
  obtain ⟨h1, h2⟩ := h
  rcases h2 with ⟨h2, _⟩ | ⟨g', cap', cur, hv, hb, hg, hle, hcm, hcs, htk⟩
  · cases h2
  · cases hv
    refine ⟨⟨?_, .inr ⟨g, cap, cur.setIfInBounds (k * E.wd + i) u, by rw [List.length_set], hb, ?_, by rw [List.length_set]; exact hle, hcm, by simp [hcs], ?_⟩⟩, ⟨cur, hg⟩, hb⟩
    · rw [List.length_set, E.vals_set hk hi hx, List.length_set]
      exact h1
    · simp [World.setCell, Array.getElem?_modify, hg]
    · rw [List.length_set, E.vals_set hk hi hx, Array.toList_setIfInBounds, List.take_set, htk]

/-! ### The document's table -/
def RBox (w : World) (h : Nat) (v : Value) (floor limit : Int) : Prop := w.heap[h]? = some (.cells #[v, .int .i64 limit, .int .i64 floor] 29 (0, 0))
section
variable {w w' : World} {h : Nat} {v : Value} {floor limit : Int}
theorem RBox.lt (r : RBox w h v floor limit) : h < w.heap.size := lt_of_heap r
theorem RBox.c0 (r : RBox w h v floor limit) : w.cell? ⟨h, 0, none⟩ = some v := by simp [World.cell?, show w.heap[h]? = _ from r]
theorem RBox.c1 (r : RBox w h v floor limit) : w.cell? ⟨h, 1, none⟩ = some (.int .i64 limit) := by simp [World.cell?, show w.heap[h]? = _ from r]
theorem RBox.c2 (r : RBox w h v floor limit) : w.cell? ⟨h, 2, none⟩ = some (.int .i64 floor) := by simp [World.cell?, show w.heap[h]? = _ from r]
theorem RBox.frozen (r : RBox w h v floor limit) (o : Nat) : w.frozen? ⟨h, o, none⟩ = false := by simp [World.frozen?, show w.heap[h]? = _ from r]
theorem RBox.set0 (r : RBox w h v floor limit) (u : Value) : RBox (w.setCell ⟨h, 0, none⟩ u) h u floor limit := by
  unfold RBox at r ⊢
  simp [World.setCell, Array.getElem?_modify, r]
theorem RBox.set2 (r : RBox w h v floor limit) (f : Int) : RBox (w.setCell ⟨h, 2, none⟩ (.int .i64 f)) h v f limit := by
  unfold RBox at r ⊢
  simp [World.setCell, Array.getElem?_modify, r]
theorem RBox.below (r : RBox w h v floor limit) (hb : Below w.heap.size w w') : RBox w' h v floor limit := (hb.block h r.lt).trans r
end
def rK : List Nat := [29, 50]
def RefAt (w : World) (base h : Nat) (L : List Tm) (floor limit : Int) : Prop := base ≤ h ∧ L.length ≤ 100000 ∧ ∃ v, RBox w h v floor limit ∧ RowT eTm 50 w base v L
section
variable {w w' W : World} {base base' h : Nat} {L L' : List Tm} {floor f' limit : Int}
theorem RefAt.keep (r : RefAt w base h L floor limit) {l : List Nat} (hf : Fr l [] base' w w') (h1 : 29 ∉ l) (h2 : 50 ∉ l) : RefAt w' base h L floor limit := by
  obtain ⟨a1, a2, v, h3, h4⟩ := r
  exact ⟨a1, a2, v, hf.keep h _ h3 h1 (by simp), h4.fr hf h2 (by simp)⟩
theorem RefAt.below (r : RefAt w base h L floor limit) (hb : Below w.heap.size w w') : RefAt w' base h L floor limit := by
  obtain ⟨a1, a2, v, h3, h4⟩ := r
  exact ⟨a1, a2, v, h3.below hb, h4.below hb⟩
theorem RefAt.parts (r : RefAt w base h L floor limit) : ∃ A c, RBox w h (.slice A L.length c) floor limit ∧ RowT eTm 50 w base (.slice A L.length c) L ∧ Sl eTm w A L ∧ L.length ≤ c ∧ (A = none → c = 0) ∧ L.length ≤ 100000 := by
  obtain ⟨h1, h2, v, h3, h4⟩ := r
  obtain ⟨A, c, rfl, h5, h6, h7, _⟩ := h4.sl (by unfold maxLen; omega)
  exact ⟨A, c, h3, h4, h5, h6, h7, h2⟩
theorem RefAt.bh (r : RefAt w base h L floor limit) : base ≤ h := r.1
/-- The table's box is written behind it. -/
theorem ref_store {v : Value} (hr : RefAt w base h L floor limit) (hbs : base ≤ w.heap.size) (hb : Below w.heap.size w W) (ho : RowT eTm 50 W w.heap.size v L') (hl : L'.length ≤ 100000) :
    RefAt (W.setCell ⟨h, 0, none⟩ v) base h L' floor limit ∧ Fr rK [] base w (W.setCell ⟨h, 0, none⟩ v) := by
  obtain ⟨a1, a2, v0, hbox, _⟩ := hr
  have hbox3 : RBox W h v0 floor limit := hbox.below hb
  have hF : Fr rK [] base W (W.setCell ⟨h, 0, none⟩ v) := (Fr.refl _ _ _ _).set hbox3 (.inl (by simp [kd, rK])) a1 _
  have hF2 : Fr [29] [] base W (W.setCell ⟨h, 0, none⟩ v) := (Fr.refl _ _ _ _).set hbox3 (.inl (by simp [kd])) a1 _
  exact ⟨⟨a1, hl, v, hbox3.set0 v, (ho.down hbs).fr hF2 (by simp) (by simp)⟩, (Fr.of_below hb hbs).trans hF⟩
/-- The table's floor is written. -/
theorem ref_floor (hr : RefAt w base h L floor limit) (f : Int) : RefAt (w.setCell ⟨h, 2, none⟩ (.int .i64 f)) base h L f limit ∧ Fr rK [] base w (w.setCell ⟨h, 2, none⟩ (.int .i64 f)) := by
  obtain ⟨a1, a2, v0, hbox, hrow⟩ := hr
  have hF : Fr rK [] base w (w.setCell ⟨h, 2, none⟩ (.int .i64 f)) := (Fr.refl _ _ _ _).set hbox (.inl (by simp [kd, rK])) a1 _
  have hF2 : Fr [29] [] base w (w.setCell ⟨h, 2, none⟩ (.int .i64 f)) := (Fr.refl _ _ _ _).set hbox (.inl (by simp [kd])) a1 _
  exact ⟨⟨a1, a2, v0, hbox.set2 f, hrow.fr hF2 (by simp) (by simp)⟩, hF⟩
/-- A tombstone's index is written in its place. -/
theorem ref_set {g off c k : Nat} {n : Int} (hr : RefAt w base h L floor limit) (hbox : RBox w h (.slice (some ⟨g, off, none⟩) L.length c) floor limit) (hrow : RowT eTm 50 w base (.slice (some ⟨g, off, none⟩) L.length c) L) (hk : k < L.length) :
    RefAt (w.setCell ⟨g, off + k * 2 + 1, none⟩ (.int .i64 n)) base h (L.set k ⟨L[k].k, n⟩) floor limit ∧ Fr rK [] base w (w.setCell ⟨g, off + k * 2 + 1, none⟩ (.int .i64 n)) ∧ w.frozen? ⟨g, off + k * 2 + 1, none⟩ = false := by
  obtain ⟨hrow2, ⟨cs, hcs⟩, hb⟩ := hrow.set (x' := ⟨L[k].k, n⟩) (i := 1) (u := .int .i64 n) hk (by decide) rfl
  have hF : Fr rK [] base w (w.setCell ⟨g, off + k * 2 + 1, none⟩ (.int .i64 n)) := (Fr.refl _ _ _ _).set hcs (.inl (by simp [kd, rK])) hb _
  have hF2 : Fr [50] [] base w (w.setCell ⟨g, off + k * 2 + 1, none⟩ (.int .i64 n)) := (Fr.refl _ _ _ _).set hcs (.inl (by simp [kd])) hb _
  refine ⟨⟨hr.1, by rw [List.length_set]; exact hr.2.1, _, hF2.keep h _ hbox (by simp [kd]) (by simp), hrow2⟩, hF, by simp [World.frozen?, hcs]⟩
end
def RefPost (w : World) (base h : Nat) (L : List Tm) (floor limit : Int) (v : Value) (r : Ending) (w' : World) : Prop := r = .returned v ∧ RefAt w' base h L floor limit ∧ Fr rK [] base w w'

/-! ### Allows -/
def RaRel (L : List Tm) (key : ByteArray) (n : Int) (w : World) (s7 : Value) (wr : World) : Prop := ∃ k : Nat, k ≤ L.length ∧ s7 = .int .i64 (k : Int) ∧ (∀ x ∈ L.take k, ¬ (x.k = key ∧ x.n > n)) ∧ wr = w
set_option maxHeartbeats 2000000 in
theorem refallows_any (base h : Nat) (L : List Tm) (floor limit : Int) (key : ByteArray) (n : Int) (w : World) (hr : RefAt w base h L floor limit) (hg : Good L floor limit) :
    Calls Try.prog 16 #[.pointer (some ⟨h, 0, none⟩), .string key, .int .i64 n] w fun r w' => r = .returned (.bool (decide (n ≥ bar L floor key))) ∧ w = w' := by
  obtain ⟨A, c, hbox, _, hp, hc, hA, hl⟩ := hr.parts
  have c0 := hbox.c0
  have c2 := hbox.c2
  have HP := Lib.hid hp
  have HG := Lib.hid hg
  obtain ⟨m, hm⟩ : ∃ m, m = L.length := ⟨_, rfl⟩
  rw [← hm] at c0
  have HN := Lib.hid hm
  have hm2 : (m : Int) ≤ 100000 := by omega
  clear hbox hp hc hA hl hr hm hg
  go_enter Try.func16, Try.ntmps16
  go_wp2
  go_loopw [7] (RaRel L key n w) (fun i _ => m - (intOf i).toNat)
  case atStart => exact ⟨0, Nat.zero_le _, rfl, by simp, rfl⟩
  case round =>
    obtain ⟨k, hk, rfl, hnk, rfl⟩ := hrel
    have HNK := Lib.hid hnk
    clear hnk
    by_cases hkm : k < m
    · have hkl : k < L.length := by have := HN.out; omega
      obtain ⟨b, off, rfl, xl, x0, x1⟩ := at_tm HP.out hkl
      have HST : Hid (¬ (L[k].k = key ∧ L[k].n > n) → ∀ x ∈ L.take (k + 1), ¬ (x.k = key ∧ x.n > n)) := by
        intro hno x hx
        rw [List.take_succ_eq_append_getElem hkl] at hx
        rcases List.mem_append.mp hx with hx | hx
        · exact HNK.out x hx
        · rw [List.mem_singleton] at hx
          rw [hx]
          exact hno
      have HV : Hid (val L L[k].k = L[k].n) := val_mem HG.out.rs (List.getElem_mem hkl)
      have hki : (k : Int) < (m : Int) := by omega
      have hk0 : (0 : Int) ≤ (k : Int) := by omega
      generalize L[k] = x at x0 x1 HST HV
      have HKL := Lib.hid hkl
      clear xl hkl
      by_cases hxy : x.k = key
      · subst hxy
        by_cases hn : x.n > n
        · have HALL : Hid (decide (n ≥ bar L floor x.k) = false) := decide_eq_false (by unfold bar; rw [HV.out]; omega)
          clear HNK HST
          go_wp2
          go_ret
          exact ⟨by rw [HALL.out]; rfl, rfl⟩
        · have HST2 := Lib.hid (HST.out fun hh => hn hh.2)
          have hn2 : decide (x.n > n) = false := decide_eq_false hn
          go_wp2
          go_roundw
          case rel => exact ⟨k + 1, HKL.out, by go_num, HST2.out, rfl⟩
          case measure => simp [intOf]; omega
      · have HST2 := Lib.hid (HST.out fun hh => hxy hh.1)
        have hxy' : (x.k.toList == key.toList) = false := toList_ne hxy
        clear hxy
        go_wp2
        go_roundw
        case rel => exact ⟨k + 1, HKL.out, by go_num, HST2.out, rfl⟩
        case measure => simp [intOf]; omega
    · have hke : k = L.length := by have := HN.out; omega
      have HR : Hid (decide (n ≥ bar L floor key) = decide (floor ≤ n)) := by
        show _ = _
        have hno : ∀ x ∈ L, ¬ (x.k = key ∧ x.n > n) := fun x hx => HNK.out x (by rw [hke, List.take_length]; exact hx)
        have hv : val L key ≤ n ∨ val L key = 0 := by
          unfold val
          cases hf : fnd L key with
          | none => exact .inr rfl
          | some x =>
            obtain ⟨h1, h2⟩ := fnd_some hf
            exact .inl (Int.not_lt.mp fun h3 => hno x h1 ⟨h2, h3⟩)
        have h0 := HG.out.f0
        unfold bar
        by_cases hfn : floor ≤ n
        · rw [decide_eq_true hfn]
          exact decide_eq_true (by omega)
        · rw [decide_eq_false hfn]
          exact decide_eq_false (by omega)
      have hki : ¬ (k : Int) < (m : Int) := by omega
      clear hke HNK
      go_wp2
      go_ret
      exact ⟨by rw [HR.out]; rfl, rfl⟩

/-! ### Pass -/
theorem take_pass {L : List Tm} {n : Int} {j : Nat} (hj : j < L.length) : passL (L.take (j + 1)) n = passL (L.take j) n ++ (if L[j].n > n then [L[j]] else []) := by
  unfold passL
  rw [List.take_succ_eq_append_getElem hj, List.filter_append]
  congr 1
  by_cases h : L[j].n > n <;> simp [h]
def RpRel (L : List Tm) (n : Int) (W : World) (s5 s6 : Value) (wr : World) : Prop :=
  ∃ (k : Nat) (v : Value), k ≤ L.length ∧ v = s5 ∧ s6 = .int .i64 (k : Int) ∧ RowT eTm 50 wr W.heap.size v (passL (L.take k) n) ∧ Below W.heap.size W wr
set_option maxRecDepth 100000 in
set_option maxHeartbeats 4000000 in
theorem refpass_any (base h : Nat) (L : List Tm) (floor limit n : Int) (w : World) (hr : RefAt w base h L floor limit) (hbs : base ≤ w.heap.size) :
    Calls Try.prog 13 #[.pointer (some ⟨h, 0, none⟩), .int .i64 n] w (RefPost w base h (passL L n) (passF floor n) limit (.int .i64 (gone L n))) := by
  obtain ⟨m, hm⟩ : ∃ m, m = L.length := ⟨_, rfl⟩
  have HN := Lib.hid hm
  have HR := Lib.hid hr
  have HS := Lib.hid hbs
  have hm2 : (m : Int) ≤ 100000 := by have := hr.2.1; omega
  have ROW0 := Lib.hid (RowT.empty (E := eTm) (e := 50) w)
  have B0 : Hid (Below w.heap.size w (w.alloc (.cells #[] 50))) := (Below.refl _ _).alloc (Nat.le_refl _) _
  clear hm hr hbs
  go_enter Try.func13, Try.ntmps13
  go_wp2
  go_loopw [5, 6] (RpRel L n w) (fun _ i _ => m - (intOf i).toNat)
  case atStart => exact ⟨0, _, Nat.zero_le _, rfl, rfl, ROW0.out, B0.out⟩
  case round =>
    obtain ⟨k, v, hk, rfl, rfl, hrow, hb⟩ := hrel
    have HROW := Lib.hid hrow
    have HB := Lib.hid hb
    clear hrow hb ROW0 B0
    obtain ⟨A, c, hbox, _, htg, hnc, hA, _⟩ := (HR.out.below HB.out).parts
    rw [← HN.out] at hbox
    have c0 := hbox.c0
    have c2 := hbox.c2
    have HBX := Lib.hid hbox
    have HTG := Lib.hid htg
    clear htg hnc hA hbox
    by_cases hkm : k < m
    · have hkl : k < L.length := by have := HN.out; omega
      obtain ⟨b, off, rfl, hbl, x0, x1⟩ := at_tm HTG.out hkl
      have HT := Lib.hid (take_pass (n := n) hkl)
      have hki : (k : Int) < (m : Int) := by omega
      have hk0 : (0 : Int) ≤ (k : Int) := by omega
      have HKL : Hid (k + 1 ≤ L.length) := hkl
      have HLT : Hid ((passL (L.take k) n).length ≤ k ∧ k < 100000) := ⟨Nat.le_trans (passL_le _ _) (by rw [List.length_take]; omega), by omega⟩
      generalize L[k] = x at x0 x1 HT
      clear hkl hk hbl
      by_cases hx : x.n > n
      · obtain ⟨v', W', hrun, ho, hb'⟩ := RowT.grow el27 (w := w) rfl (HROW.out.below ((Below.refl _ _).alloc (Nat.le_refl _) (.cells #[.string x.k, .int .i64 x.n] 50))) (HB.out.alloc HB.out.size (.cells #[.string x.k, .int .i64 x.n] 50)) (sl_one (E := eTm) wr x 50) (n := 1) (c := 1) rfl (by simp) (by have := HLT.out; omega)
        have HO : Hid (RowT eTm 50 W' w.heap.size v' (passL (L.take (k + 1)) n)) := by
          show RowT _ _ _ _ _ _
          rw [HT.out, if_pos hx]
          exact ho
        have R1 := Lib.hid hrun
        have HBB := Lib.hid hb'
        clear ho hb' hrun
        go_wp2_with (first | (at_builtin; refine wpList_append_run rfl _ _ 27 27 rfl _ _ rfl rfl _ W' R1.out ?_))
        go_roundw
        case rel => exact ⟨k + 1, _, HKL.out, rfl, by go_num, HO.out, HBB.out⟩
        case measure => simp [intOf]; omega
      · have HO : Hid (RowT eTm 50 wr w.heap.size v (passL (L.take (k + 1)) n)) := by
          show RowT _ _ _ _ _ _
          rw [HT.out, if_neg hx, List.append_nil]
          exact HROW.out
        go_wp2
        go_roundw
        case rel => exact ⟨k + 1, _, HKL.out, rfl, by go_num, HO.out, HB.out⟩
        case measure => simp [intOf]; omega
    · have hke : k = L.length := by have := HN.out; omega
      have hki : ¬ (k : Int) < (m : Int) := by omega
      rw [hke, List.take_length] at HROW
      obtain ⟨A9, c9, hv9, _⟩ := HROW.out.form
      have hol := passL_le L n
      obtain ⟨o, ho⟩ : ∃ o, o = (passL L n).length := ⟨_, rfl⟩
      rw [← ho] at hv9 hol
      have HG : Hid (gone L n = (m : Int) - (o : Int)) := by show _ = _; unfold gone; rw [HN.out, ho]
      have hon : o ≤ m := by have := HN.out; omega
      obtain ⟨hst, hfr⟩ := ref_store (v := v) HR.out HS.out HB.out HROW.out (by have := HR.out.2.1; omega)
      have hfz := HBX.out.frozen 0
      subst hv9
      have hbx2 := HBX.out.set0 (.slice A9 o c9)
      have d2 := hbx2.c2
      have hfz2 := hbx2.frozen 2
      by_cases hf : floor ≤ n
      · have hge : n ≥ floor := hf
        obtain ⟨hst3, hfr3⟩ := ref_floor hst 0
        have HE : Hid (RefPost w base h (passL L n) (passF floor n) limit (.int .i64 (gone L n)) (.returned (.int .i64 ((m : Int) - (o : Int)))) ((wr.setCell ⟨h, 0, none⟩ (.slice A9 o c9)).setCell ⟨h, 2, none⟩ (.int .i64 0))) := by
          show RefPost _ _ _ _ _ _ _ _ _
          unfold passF
          rw [HG.out, if_pos hf]
          exact ⟨rfl, hst3, hfr.trans hfr3⟩
        clear hke hk hkm hol ho hst hfr hst3 hfr3 hbx2 hf
        go_wp2
        go_ret
        exact HE.out
      · have HE : Hid (RefPost w base h (passL L n) (passF floor n) limit (.int .i64 (gone L n)) (.returned (.int .i64 ((m : Int) - (o : Int)))) (wr.setCell ⟨h, 0, none⟩ (.slice A9 o c9))) := by
          show RefPost _ _ _ _ _ _ _ _ _
          unfold passF
          rw [HG.out, if_neg hf]
          exact ⟨rfl, hst, hfr⟩
        have hge : ¬ n ≥ floor := hf
        clear hke hk hkm hol ho hst hfr hbx2 hf
        go_wp2
        go_ret
        exact HE.out
end Go.Proofs.Ytlleiehacmkedaa
