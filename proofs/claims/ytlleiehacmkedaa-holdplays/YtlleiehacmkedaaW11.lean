/-
  The contracts of the document's Note and Same. Their conditions: the table lies in memory, its tombstones rise.
-/
import Derived.Test.YtlleiehacmkedaaW10
namespace Go.Proofs.Ytlleiehacmkedaa
open Go.RowKit Go.Maps Go.ChangeMaps
open Go.Sort (grow)

/-! ### Same -/
def S22Rel (n : Nat) (w : World) (s5 : Value) (wr : World) : Prop := ∃ k : Nat, k ≤ n ∧ s5 = .int .i64 (k : Int) ∧ Below w.heap.size w wr
set_option maxHeartbeats 4000000 in
theorem same22_any (K : List ByteArray) (A A' : Option Addr) (n c c' : Nat) (w : World) (h1 : Sl eKy w A K) (h2 : Sl eKy w A' K) (hn : K.length = n) (hb : n ≤ 100000) :
    Calls Try.prog 22 #[.slice A n c, .slice A' n c'] w fun r w' => r = .returned (.bool true) ∧ Below w.heap.size w w' := by
  have H1 := Lib.hid h1
  have H2 := Lib.hid h2
  have HN := Lib.hid hn
  have hn2 : (n : Int) ≤ 100000 := by omega
  clear h1 h2 hn hb
  go_enter Try.func22, Try.ntmps22
  go_wp2
  go_loopw [5] (S22Rel n w) (fun i _ => n - (intOf i).toNat)
  case atStart => exact ⟨0, Nat.zero_le _, rfl, Below.refl _ _⟩
  case round =>
    obtain ⟨k, hk, rfl, hbl⟩ := hrel
    have HB := Lib.hid hbl
    clear hbl
    by_cases hkn : k < n
    · have hkl : k < K.length := by have := HN.out; omega
      obtain ⟨b, o, rfl, _, x0⟩ := at_ky (H1.out.below (Nat.le_refl _) HB.out) hkl
      obtain ⟨b', o', rfl, _, x1⟩ := at_ky (H2.out.below (Nat.le_refl _) HB.out) hkl
      generalize K[k] = x at x0 x1
      have hki : (k : Int) < (n : Int) := by omega
      have hk0 : (0 : Int) ≤ (k : Int) := by omega
      have HKN : Hid (k + 1 ≤ n) := hkn
      clear hkl hk
      go_wp2_with fail
      go_quiet (fail)
      have HB7 := Lib.hid (HB.out.trans ((below_drewN wr nq).mono HB.out.size))
      generalize wr.drewN nq = W9 at HB7 ⊢
      go_wp2
      go_roundw
      case rel => exact ⟨k + 1, HKN.out, by go_num, HB7.out⟩
      case measure => simp [intOf]; omega
    · have hki : ¬ (k : Int) < (n : Int) := by omega
      go_wp2
      go_ret
      exact ⟨rfl, HB.out⟩
theorem take_keys {L : List Tm} {j : Nat} (hj : j < L.length) : keys (L.take (j + 1)) = keys (L.take j) ++ [L[j].k] := by
  unfold keys
  rw [List.take_succ_eq_append_getElem hj, List.map_append]
  rfl
def SmRel (L : List Tm) (w : World) (s5 s6 : Value) (wr : World) : Prop :=
  ∃ (k : Nat) (v : Value), k ≤ L.length ∧ v = s5 ∧ s6 = .int .i64 (k : Int) ∧ RowT eKy 9 wr w.heap.size v (keys (L.take k)) ∧ Below w.heap.size w wr
set_option maxRecDepth 100000 in
set_option maxHeartbeats 4000000 in
theorem refsame_any (base h : Nat) (L : List Tm) (floor limit : Int) (A : Option Addr) (n c : Nat) (w : World) (hr : RefAt w base h L floor limit) (hk : Sl eKy w A (keys L)) (hn : L.length = n) :
    Calls Try.prog 19 #[.pointer (some ⟨h, 0, none⟩), .slice A n c] w fun r w' => r = .returned (.bool true) ∧ Below w.heap.size w w' := by
  have HN := Lib.hid hn
  have HR := Lib.hid hr
  have HK := Lib.hid hk
  have hm2 : (n : Int) ≤ 100000 := by have := hr.2.1; omega
  have ROW0 := Lib.hid (RowT.empty (E := eKy) (e := 9) w)
  have B0 : Hid (Below w.heap.size w (w.alloc (.cells #[] 9))) := (Below.refl _ _).alloc (Nat.le_refl _) _
  clear hn hr hk
  go_enter Try.func19, Try.ntmps19
  go_wp2
  go_loopw [5, 6] (SmRel L w) (fun _ i _ => n - (intOf i).toNat)
  case atStart => exact ⟨0, _, Nat.zero_le _, rfl, rfl, ROW0.out, B0.out⟩
  case round =>
    obtain ⟨k, v, hk, rfl, rfl, hrow, hb⟩ := hrel
    have HROW := Lib.hid hrow
    have HB := Lib.hid hb
    clear hrow hb ROW0 B0
    obtain ⟨A2, c2, hbox, _, htg, _, _, _⟩ := (HR.out.below HB.out).parts
    rw [HN.out] at hbox
    have c0 := hbox.c0
    have HTG := Lib.hid htg
    clear htg hbox
    by_cases hkm : k < n
    · have hkl : k < L.length := by have := HN.out; omega
      obtain ⟨b, off, rfl, hbl, x0, x1⟩ := at_tm HTG.out hkl
      have HT := Lib.hid (take_keys hkl)
      have hki : (k : Int) < (n : Int) := by omega
      have hk0 : (0 : Int) ≤ (k : Int) := by omega
      have HKL : Hid (k + 1 ≤ L.length) := hkl
      have HLT : Hid ((keys (L.take k)).length ≤ k ∧ k < 100000) := ⟨by rw [keys_length, List.length_take]; omega, by omega⟩
      generalize L[k] = x at x0 x1 HT
      obtain ⟨v', W', hrun, ho, hb'⟩ := RowT.grow el37 (w := w) rfl (HROW.out.below ((Below.refl _ _).alloc (Nat.le_refl _) (.cells #[.string x.k] 9))) (HB.out.alloc HB.out.size (.cells #[.string x.k] 9)) (sl_one (E := eKy) wr x.k 9) (n := 1) (c := 1) rfl (by simp) (by have := HLT.out; omega)
      have HO : Hid (RowT eKy 9 W' w.heap.size v' (keys (L.take (k + 1)))) := by
        show RowT _ _ _ _ _ _
        rw [HT.out]
        exact ho
      have R1 := Lib.hid hrun
      have HBB := Lib.hid hb'
      clear ho hb' hrun hkl hk hbl x1
      go_wp2_with (first | (at_builtin; refine wpList_append_run rfl _ _ 37 37 rfl _ _ rfl rfl _ W' R1.out ?_))
      go_roundw
      case rel => exact ⟨k + 1, _, HKL.out, rfl, by go_num, HO.out, HBB.out⟩
      case measure => simp [intOf]; omega
    · have hke : k = L.length := by have := HN.out; omega
      have hki : ¬ (k : Int) < (n : Int) := by omega
      rw [hke, List.take_length] at HROW
      obtain ⟨A9, c9, hv9, hs9, _⟩ := HROW.out.sl (by rw [keys_length]; have := HN.out; unfold maxLen; omega)
      rw [keys_length, HN.out] at hv9
      subst hv9
      have CS := Lib.hid (same22_any (keys L) A A9 n c c9 wr (HK.out.below (Nat.le_refl _) HB.out) hs9 (by rw [keys_length]; exact HN.out) (by omega))
      clear hke hk hkm hs9
      go_wp2_with fail
      refine CS.out.mono ?_
      rintro r w9 ⟨rfl, b9⟩
      have HB9 := Lib.hid (HB.out.trans (b9.mono HB.out.size))
      clear b9
      go_wp2
      go_ret
      exact ⟨rfl, HB9.out⟩

/-! ### Note -/
/-- Where a key belongs. -/
structure Plc (L : List Tm) (key : ByteArray) (j : Nat) : Prop where
  le : j ≤ L.length
  ahead : ∀ x ∈ L.take j, lt x.k key = true
  here : ∀ x, L[j]? = some x → lt x.k key = false
theorem Plc.parts {L : List Tm} {key : ByteArray} {j : Nat} (h : Plc L key j) (hr : Rises L) : ∀ x ∈ L.drop j, x.k = key ∨ lt key x.k = true := by
  intro x hx
  cases hd : L.drop j with
  | nil => rw [hd] at hx; cases hx
  | cons y r =>
    have hy : L[j]? = some y := by
      have : (L.drop j)[0]? = some y := by rw [hd]; rfl
      rw [List.getElem?_drop] at this
      simpa using this
    have h1 := h.here y hy
    have hy2 : y.k = key ∨ lt key y.k = true := by
      cases h2 : lt key y.k with
      | true => exact .inr rfl
      | false => exact .inl (lt_tri h1 h2)
    have hrd : Rises (y :: r) := by rw [← hd]; exact (List.Pairwise.drop hr : Rises (L.drop j))
    rw [hd] at hx
    rcases List.mem_cons.mp hx with rfl | hx
    · exact hy2
    · have h3 := (rises_cons.mp hrd).1 x hx
      rcases hy2 with h2 | h2
      · rw [h2] at h3
        exact .inr h3
      · exact .inr (lt_trans h2 h3)
theorem filter_all {α : Type} {p : α → Bool} {l : List α} (h : ∀ x ∈ l, p x = true) : l.filter p = l := List.filter_eq_self.mpr h
theorem filter_no {α : Type} {p : α → Bool} {l : List α} (h : ∀ x ∈ l, p x = false) : l.filter p = [] := List.filter_eq_nil_iff.mpr fun x hx => by rw [h x hx]; simp
theorem Plc.new {L : List Tm} {t : Tm} {j : Nat} (h : Plc L t.k j) (hr : Rises L) (hn : t.k ∉ keys L) : L.take j ++ t :: L.drop j = ins L t := by
  have hd : ∀ x ∈ L.drop j, lt t.k x.k = true := fun x hx => by
    rcases h.parts hr x hx with h1 | h1
    · exact absurd (List.mem_map.mpr ⟨x, List.mem_of_mem_drop hx, h1⟩) hn
    · exact h1
  have e1 : L.filter (fun x => lt x.k t.k) = L.take j := by
    conv => lhs; rw [← List.take_append_drop j L]
    rw [List.filter_append, filter_all h.ahead, filter_no (fun x hx => lt_asymm (hd x hx)), List.append_nil]
  have e2 : L.filter (fun x => lt t.k x.k) = L.drop j := by
    conv => lhs; rw [← List.take_append_drop j L]
    rw [List.filter_append, filter_no (fun x hx => lt_asymm (h.ahead x hx)), filter_all hd, List.nil_append]
  unfold ins
  rw [e1, e2]
theorem Plc.old {L : List Tm} {key : ByteArray} {j : Nat} (h : Plc L key j) (hr : Rises L) (hm : key ∈ keys L) : ∃ x, L[j]? = some x ∧ x.k = key := by
  obtain ⟨y, hy, rfl⟩ := List.mem_map.mp hm
  have hd : y ∈ L.drop j := by
    rw [← List.take_append_drop j L, List.mem_append] at hy
    rcases hy with h1 | h1
    · have := h.ahead y h1
      rw [lt_irrefl] at this
      cases this
    · exact h1
  cases hdd : L.drop j with
  | nil => rw [hdd] at hd; cases hd
  | cons z r =>
    have hz : L[j]? = some z := by
      have : (L.drop j)[0]? = some z := by rw [hdd]; rfl
      rw [List.getElem?_drop] at this
      simpa using this
    rw [hdd] at hd
    rcases List.mem_cons.mp hd with rfl | h1
    · exact ⟨y, hz, rfl⟩
    · have hrd : Rises (z :: r) := by rw [← hdd]; exact (List.Pairwise.drop hr : Rises (L.drop j))
      have h2 := (rises_cons.mp hrd).1 y h1
      rw [h.here z hz] at h2
      cases h2
/-- In the place of its key's. -/
theorem set_ins {L : List Tm} {j : Nat} (hr : Rises L) (hj : j < L.length) (m : Int) : L.set j ⟨L[j].k, m⟩ = ins L ⟨L[j].k, m⟩ := by
  have e0 : L = L.take j ++ L[j] :: L.drop (j + 1) := by
    rw [List.getElem_cons_drop]
    exact (List.take_append_drop j L).symm
  have e1 : L.filter (fun x => lt x.k L[j].k) = L.take j := by
    have h3 := hr
    rw [e0] at h3
    obtain ⟨_, h4, h5⟩ := rises_append.mp h3
    have h6 := (rises_cons.mp h4).1
    conv => lhs; arg 2; rw [e0]
    rw [List.filter_append, filter_all (fun x hx => h5 x hx _ (List.mem_cons.mpr (.inl rfl))), List.filter_cons, lt_irrefl, filter_no (fun x hx => lt_asymm (h6 x hx))]
    simp
  have e2 : L.filter (fun x => lt L[j].k x.k) = L.drop (j + 1) := by
    have h3 := hr
    rw [e0] at h3
    obtain ⟨_, h4, h5⟩ := rises_append.mp h3
    have h6 := (rises_cons.mp h4).1
    conv => lhs; arg 2; rw [e0]
    rw [List.filter_append, filter_no (fun x hx => lt_asymm (h5 x hx _ (List.mem_cons.mpr (.inl rfl)))), List.filter_cons, lt_irrefl, filter_all h6]
    simp
  unfold ins
  rw [e1, e2, List.set_eq_take_append_cons_drop, if_pos hj]
theorem set_same {L : List Tm} {j : Nat} (hj : j < L.length) : L.set j ⟨L[j].k, L[j].n⟩ = L := by
  have : (⟨L[j].k, L[j].n⟩ : Tm) = L[j] := rfl
  rw [this, List.set_getElem_self]
end Go.Proofs.Ytlleiehacmkedaa
