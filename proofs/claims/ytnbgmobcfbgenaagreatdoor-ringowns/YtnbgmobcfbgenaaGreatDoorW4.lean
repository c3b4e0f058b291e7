/-
  What slices.Sort leaves of a row of texts, and slices.SortFunc of a row of points. Their conditions: the row is the call's own.
-/
import Derived.Test.YtnbgmobcfbgenaaGreatDoorLay
import Derived.Test.YtnbgmobcfbgenaaGreatDoorW2
import Derived.Sort.OwnSorted
namespace Go.Proofs.YtnbgmobcfbgenaaGreatDoor
open Go.RowKit Go.Maps
open Go.Sort (grow)

/-! ### Texts -/
theorem le_less (x y : List UInt8) : decide (x ≤ y) = !Op.bytesLess y x := by
  rw [bytesLess_eq]
  by_cases h : y < x
  · have : ¬ x ≤ y := fun h2 => (List.not_lt.mpr h2) h
    simp [h, this]
  · have : x ≤ y := List.not_lt.mp h
    simp [h, this]
/-- A text's bytes. -/
def bs (k : ByteArray) : List UInt8 := k.data.toList
theorem bs_mk (l : List UInt8) : bs ⟨l.toArray⟩ = l := by simp [bs]
theorem mk_bs (k : ByteArray) : (⟨(bs k).toArray⟩ : ByteArray) = k := by
  cases k
  simp [bs]
theorem bs_inj {a b : ByteArray} (h : bs a = bs b) : a = b := by rw [← mk_bs a, ← mk_bs b, h]
theorem lt_bs (a b : ByteArray) : lt a b = Op.bytesLess (bs a) (bs b) := by
  unfold lt
  rw [toList_data, toList_data]
  rfl
/-- What is sorted is the list that rises. -/
theorem sorted_is {V K : List ByteArray} (hn : V.Nodup) (hm : ∀ k, k ∈ V ↔ k ∈ K) (hr : KRises K) : (V.map bs).mergeSort (fun x y => decide (x ≤ y)) = K.map bs := by
  have hp := List.mergeSort_perm (V.map bs) (fun x y => decide (x ≤ y))
  have hs := List.pairwise_mergeSort (le := fun x y : List UInt8 => decide (x ≤ y)) (fun a b c h1 h2 => by
    simp only [le_less, Bool.not_eq_true'] at h1 h2 ⊢
    cases h : Op.bytesLess c a with
    | false => rfl
    | true =>
      cases h3 : Op.bytesLess b c with
      | true => rw [bl_trans h3 h] at h1; cases h1
      | false =>
        have := bl_tri h3 h2
        subst this
        rw [h] at h1
        cases h1) (fun a b => by
    simp only [le_less]
    cases h : Op.bytesLess b a with
    | false => simp
    | true =>
      cases h2 : Op.bytesLess a b with
      | false => simp
      | true =>
        have := bl_trans h h2
        rw [bl_irrefl] at this
        cases this) (V.map bs)
  generalize (V.map bs).mergeSort (fun x y => decide (x ≤ y)) = T at hp hs
  have hn' : T.Nodup := hp.nodup_iff.mpr (by
    unfold List.Nodup at hn ⊢
    rw [List.pairwise_map]
    exact hn.imp fun h e => h (bs_inj e))
  have e : (T.map fun l => (⟨l.toArray⟩ : ByteArray)) = K := by
    refine krises_one ?_ hr fun q => ?_
    · unfold KRises
      rw [List.pairwise_map]
      refine (hs.and hn').imp fun {a b} h => ?_
      rw [lt_bs, bs_mk, bs_mk]
      have h1 : Op.bytesLess b a = false := by simpa [le_less] using h.1
      cases h2 : Op.bytesLess a b with
      | true => rfl
      | false => exact absurd (bl_tri h2 h1) h.2
    · rw [← hm, List.mem_map]
      constructor
      · rintro ⟨l, hl, rfl⟩
        rw [hp.mem_iff, List.mem_map] at hl
        obtain ⟨v, hv, rfl⟩ := hl
        rw [mk_bs]
        exact hv
      · intro hq
        exact ⟨bs q, hp.mem_iff.mpr (List.mem_map_of_mem hq), mk_bs q⟩
  rw [← e, List.map_map]
  conv => lhs; rw [← List.map_id T]
  refine List.map_congr_left fun l _ => ?_
  simp [bs_mk]
theorem vals_ky (V : List ByteArray) : eKy.vals V = (V.map bs).map encStr := by
  induction V with
  | nil => rfl
  | cons x r ih =>
    have e : eKy.vals (x :: r) = [Value.string x] ++ eKy.vals r := by simp [Enc.vals, eKy]
    rw [e, ih]
    simp only [List.map_cons]
    rw [show encStr (bs x) = Value.string x from by show Value.string ⟨(bs x).toArray⟩ = _; rw [mk_bs]]
    rfl
/-- What the sort leaves. -/
theorem sort_row {w : World} {base g cap : Nat} {V : List ByteArray} (h : RowT eKy 9 w base (.slice (some ⟨g, 0, none⟩) V.length cap) V) (hn : V.Nodup) (hl : V.length ≤ 100000) :
    Calls Tryz.prog 17 #[.slice (some ⟨g, 0, none⟩) V.length cap] w fun r w' => r = .returned (.tuple #[]) ∧ RowT eKy 9 w' base (.slice (some ⟨g, 0, none⟩) V.length cap) (srt V) ∧ w.grownBy w' (some g) ∧ base ≤ g := by
  obtain ⟨h1, h2⟩ := h
  rcases h2 with ⟨e, _⟩ | ⟨g', cap', cur, e, hb, hg, hle, hcm, hcs, htk⟩
  · cases e
  cases e
  have hm : ∀ k, k ∈ V ↔ k ∈ srt V := fun k => mem_srt.symm
  have hr := krises_srt hn
  rw [vals_ky] at htk
  have hlen : (V.map bs).length = V.length := by simp
  have htk2 : cur.toList.take (V.map bs).length = (V.map bs).map encStr := by
    rw [hlen]
    have := htk
    rwa [show V.length * eKy.wd = V.length from Nat.mul_one _] at this
  have hcon := Any.slices_Sort_string sortS g 0 cap (V.map bs) w (holds_of_block hg htk2) (lt_of_heap hg) (by rw [hlen]; omega)
  rw [sorted_is hn hm hr, hlen] at hcon
  have hKV : V.length = (srt V).length := by
    have := congrArg List.length (sorted_is hn hm hr)
    simpa using this
  have hcon' : Calls Tryz.prog 17 #[.slice (some ⟨g, 0, none⟩) V.length cap] w fun e w' => e = .returned (.tuple #[]) ∧ ∃ n os, w' = grow (Go.Sort.putRow encStr (Go.Sort.ahead w n) g 0 ((srt V).map bs).toArray) os := hcon
  refine hcon'.mono ?_
  rintro r w' ⟨rfl, n, os, rfl⟩
  have ho := ownsRow_sorted (n := n) (os := os) (ss := V.map bs) (ts := (srt V).map bs) (by simp [hKV]) hb hg (by rw [hlen]; exact hle) hcm hcs
  rw [hlen] at ho
  refine ⟨rfl, ?_, grownBy_sorted _, hb⟩
  unfold RowT
  rw [vals_ky, ← hKV]
  exact ho
theorem sort_none (w : World) : Calls Tryz.prog 17 #[.slice none 0 0] w fun e w' => e = .returned (.tuple #[]) ∧ w' = w := Any.slices_Sort_string_none sortS none 0 w

/-! ### Points -/
theorem cmpS_neg (x y : ByteArray) : cmpS x y < 0 ↔ lt x y = true := by
  unfold cmpS
  cases h1 : lt x y <;> cases h2 : lt y x <;> simp
theorem cmpU_neg (x y : Nat) : cmpU x y < 0 ↔ x < y := by
  unfold cmpU
  split
  · simp_all
  · split <;> simp_all
theorem cmpU_zero {x y : Nat} : cmpU x y = 0 ↔ x = y := by
  unfold cmpU
  split
  · simp; omega
  · split
    · simp; omega
    · simp; omega
theorem cmpP_lt (a b : Pt) : Go.Proofs.ltOf cmpP a b = ptLt a b := by
  unfold Go.Proofs.ltOf cmpP ptLt
  by_cases h2 : cmpU a.h b.h = 0
  · have e2 := cmpU_zero.mp h2
    simp only [h2, ne_eq, not_true_eq_false, if_false]
    rw [show decide (cmpS a.n b.n < 0) = lt a.n b.n from by
      cases h : lt a.n b.n with
      | true => exact decide_eq_true ((cmpS_neg _ _).mpr h)
      | false => exact decide_eq_false fun hh => by rw [(cmpS_neg _ _).mp hh] at h; cases h]
    simp [e2]
  · have e2 : ¬ a.h = b.h := fun h => h2 (cmpU_zero.mpr h)
    simp only [h2, ne_eq, not_false_eq_true, if_true]
    rw [show decide (cmpU a.h b.h < 0) = decide (a.h < b.h) from by simp only [cmpU_neg]]
    simp [e2]
theorem swoP : Go.Sort.SWO (Go.Proofs.ltOf cmpP) where
  irrefl x := by rw [cmpP_lt]; exact ptLt_irrefl x
  trans x y z h1 h2 := by rw [cmpP_lt] at *; exact ptLt_trans h1 h2
  ntrans x y z h1 h2 := by
    rw [cmpP_lt] at *
    cases h : ptLt x z with
    | false => rfl
    | true =>
      cases h3 : ptLt y x with
      | true => rw [ptLt_trans h3 h] at h2; cases h2
      | false =>
        have := ptLt_tri h1 h3
        subst this
        rw [h] at h2
        cases h2
theorem totP (x y : Pt) (h1 : Go.Proofs.ltOf cmpP x y = false) (h2 : Go.Proofs.ltOf cmpP y x = false) : x = y := by
  rw [cmpP_lt] at h1 h2
  exact ptLt_tri h1 h2
theorem sortP_is (V : List Pt) : V.mergeSort (fun x y => !(Go.Proofs.ltOf cmpP) y x) = sortP V := by
  unfold sortP
  congr 1
  funext x y
  rw [cmpP_lt]
theorem encP_len (p : Pt) : (ePt.f p).length = 2 := rfl
theorem enters_order : ∀ args w, (callFunc 50 args).run Tryz.prog w = .ok (.enter 50 args) w := Go.Proofs.enters_of Tryz.func50 (by kernel_rfl) rfl
theorem lays_order (blk off size : Nat) (w : World) : Go.Proofs.CmpLays Tryz.prog 50 #[] ePt.f 2 cmpP blk off size w := fun _ _ _ _ x y => order_any x y _
/-- A row of points, in the sort's words. -/
theorem holds_of {w : World} {b : Nat} {cs : Array Value} {V : List Pt} (hb : w.heap[b]? = some (.cells cs 59 (0, 0))) (hc : cs.toList.take (V.length * 2) = ePt.vals V) : Go.Sort.HoldsK ePt.f 2 w b 0 V.toArray := by
  intro j hj
  rw [Go.Sort.size_flatK] at hj
  have hj3 : j / 2 < V.length := by simp at hj; omega
  refine ⟨?_, by simp [World.frozen?, hb]⟩
  rw [Go.Sort.get_flatK _ _ _ _ hj, cell_of hb, Nat.zero_add]
  have hk : V[j / 2]? = some V[j / 2] := List.getElem?_eq_getElem hj3
  have e2 : V.toArray[j / 2]! = V[j / 2] := by simp [hj3]
  rw [e2]
  have hm : j % 2 < 2 := Nat.mod_lt _ (by omega)
  have hu : (ePt.f V[j / 2])[j % 2]? = some (ePt.f V[j / 2])[j % 2]! := by
    rw [List.getElem!_eq_getElem?_getD, List.getElem?_eq_getElem (by rw [encP_len]; exact hm)]
    rfl
  have e1 := ePt.vals_get hk hu
  have e3 : j / 2 * ePt.wd + j % 2 = j := by
    show j / 2 * 2 + j % 2 = j
    omega
  rw [e3] at e1
  rw [← hc, List.getElem?_take, if_pos (by simp at hj; omega)] at e1
  simpa using e1
/-- The world behind a sort: the row's block alone is another. -/
theorem sort_block {w : World} {b m : Nat} {cs : Array Value} {D : Array Pt} {os : Array Obj} (hb : w.heap[b]? = some (.cells cs 59 (0, 0))) :
    (∃ cs', cs'.size = cs.size ∧ (Go.Proofs.sortWorldK ePt.f 2 w b 0 m D os).heap[b]? = some (.cells cs' 59 (0, 0))) ∧ w.grownBy (Go.Proofs.sortWorldK ePt.f 2 w b 0 m D os) (some b) := by
  have hlt := lt_of_heap hb
  have hh : (Go.Proofs.sortWorldK ePt.f 2 w b 0 m D os).heap = w.heap.modify b (Go.Sort.onCells (Go.Sort.putCells id 0 (Go.Sort.flatK ePt.f 2 D))) ++ os := rfl
  have hsz : (w.heap.modify b (Go.Sort.onCells (Go.Sort.putCells id 0 (Go.Sort.flatK ePt.f 2 D)))).size = w.heap.size := by simp
  refine ⟨⟨Go.Sort.putCells id 0 (Go.Sort.flatK ePt.f 2 D) cs, by simp [Go.Sort.putCells], ?_⟩, rfl, rfl, rfl, ?_, fun k hk hne => ?_⟩
  · rw [hh, Array.getElem?_append_left (by rw [hsz]; exact hlt), Array.getElem?_modify, if_pos rfl, hb]
    rfl
  · rw [hh, Array.size_append, hsz]
    omega
  · have hne' : b ≠ k := fun e => hne (by rw [e])
    rw [hh, Array.getElem?_append_left (by rw [hsz]; exact hk), Array.getElem?_modify, if_neg hne']
/-- What the sort leaves. -/
theorem sort_pts {w : World} {base b cap : Nat} {V : List Pt} (h : RowT ePt 59 w base (.slice (some ⟨b, 0, none⟩) V.length cap) V) (hl : V.length ≤ 100000) :
    Calls Tryz.prog 49 #[.slice (some ⟨b, 0, none⟩) V.length cap, .func (.func 50) #[] #[]] w fun r w' => r = .returned (.tuple #[]) ∧ RowT ePt 59 w' base (.slice (some ⟨b, 0, none⟩) V.length cap) (sortP V) ∧ w.grownBy w' (some b) ∧ base ≤ b := by
  obtain ⟨h1, h2⟩ := h
  rcases h2 with ⟨e, _⟩ | ⟨g', cap', cs, e, hbb, hb, hle, hcm, hcs, htk⟩
  · cases e
  cases e
  have htk2 : cs.toList.take (V.length * 2) = ePt.vals V := htk
  have hH := holds_of hb htk2
  have hcon := Go.Proofs.AnyQ.slices_SortFunc_total sortMk 2 Tryz.isAgg59 Tryz.sizeOf59 ePt.f encP_len ePt.one cmpP swoP 50 #[] b 0 cap V.toArray w enters_order (lays_order _ _ _ _) hH (lt_of_heap hb) (by simp; omega) totP
  have hL : V.toArray.toList.mergeSort (fun x y => !(Go.Proofs.ltOf cmpP) y x) = sortP V := sortP_is V
  rw [hL] at hcon
  have hlen : (sortP V).length = V.length := (List.mergeSort_perm V _).length_eq
  have hcon' : Calls Tryz.prog 49 #[.slice (some ⟨b, 0, none⟩) V.length cap, .func (.func 50) #[] #[]] w fun e w' => e = .returned (.tuple #[]) ∧ ∃ n os, w' = Go.Proofs.sortWorldK ePt.f 2 w b 0 n (sortP V).toArray os := hcon
  refine hcon'.mono ?_
  rintro r w' ⟨rfl, n, os, rfl⟩
  obtain ⟨⟨cs', hsz', hb'⟩, hg⟩ := sort_block (m := n) (D := (sortP V).toArray) (os := os) hb
  have hH' : Go.Sort.HoldsK ePt.f 2 (Go.Proofs.sortWorldK ePt.f 2 w b 0 n (sortP V).toArray os) b 0 (sortP V).toArray := Go.Proofs.SWK.holds ⟨n, os, rfl⟩ (lt_of_heap hb) hH (by simp [hlen])
  have hsz2 : cs'.size = cap * 2 := hsz'.trans hcs
  have hle2 : V.length * 2 ≤ cap * 2 := Nat.mul_le_mul_right _ hle
  refine ⟨rfl, ⟨?_, .inr ⟨b, cap, cs', by rw [hlen], hbb, hb', by rw [hlen]; exact hle, hcm, hsz2, ?_⟩⟩, hg, hbb⟩
  · rw [ePt.vals_length]
  · show cs'.toList.take ((sortP V).length * 2) = ePt.vals (sortP V)
    rw [hlen]
    refine List.ext_getElem? fun j => ?_
    by_cases hj : j < V.length * 2
    · rw [List.getElem?_take, if_pos hj]
      have hj2 : j / 2 < (sortP V).length := by rw [hlen]; omega
      have hm : j % 2 < 2 := Nat.mod_lt _ (by omega)
      have e : (sortP V).toArray[j / 2]! = (sortP V)[j / 2] := by simp [hj2]
      have hc := (Go.Sort.HoldsK.cell hH' (i := j / 2) (c := j % 2) (by simpa using hj2) hm).1
      rw [e, cell_of hb'] at hc
      have hu : (ePt.f (sortP V)[j / 2])[j % 2]? = some (ePt.f (sortP V)[j / 2])[j % 2]! := by
        rw [List.getElem!_eq_getElem?_getD, List.getElem?_eq_getElem (by rw [encP_len]; exact hm)]
        rfl
      have e1 := ePt.vals_get (List.getElem?_eq_getElem hj2) hu
      have e3 : j / 2 * ePt.wd + j % 2 = j := by
        show j / 2 * 2 + j % 2 = j
        omega
      rw [e3] at e1
      rw [e1]
      have e4 : 0 + j / 2 * 2 + j % 2 = j := by omega
      rw [e4] at hc
      simpa using hc
    · rw [List.getElem?_eq_none (by rw [List.length_take]; omega), List.getElem?_eq_none (by rw [ePt.vals_length, hlen]; show _ * 2 ≤ _; omega)]
theorem sort_pts_none (w : World) : Calls Tryz.prog 49 #[.slice none 0 0, .func (.func 50) #[] #[]] w fun e w' => e = .returned (.tuple #[]) ∧ w' = w := Go.Proofs.AnyF.slices_SortFunc_none sortMk none 0 _ w
end Go.Proofs.YtnbgmobcfbgenaaGreatDoor
