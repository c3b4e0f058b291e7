/-
  What slices.Sort leaves of a row of texts; words for a map that is ranged over. Their conditions: the row is the call's own.
-/
import Derived.Test.YtdmgmbjdocechaaLay
import Derived.Test.YtdmgmbjdocechaaW2
import Derived.Sort.OwnSorted
namespace Go.Proofs.Ytdmgmbjdocechaa
open Go.RowKit Go.Maps Go.ChangeMaps
open Go.Sort (grow)

theorem le_less (x y : List UInt8) : decide (x ≤ y) = !Op.bytesLess y x := by
  rw [bytesLess_eq]
  by_cases h : y < x
  · have : ¬ x ≤ y := fun h2 => (List.not_lt.mpr h2) h
    simp [h, this]
  · have : x ≤ y := List.not_lt.mp h
    simp [h, this]
/-- A text's bytes. -/
def bs (k : ByteArray) : List UInt8 := k.data.toList
theorem bs_mk (l : List UInt8) : bs ⟨l.toArray⟩ = l := by simp [bs]
theorem mk_bs (k : ByteArray) : (⟨(bs k).toArray⟩ : ByteArray) = k := by
  cases k
  simp [bs]
theorem bs_inj {a b : ByteArray} (h : bs a = bs b) : a = b := by rw [← mk_bs a, ← mk_bs b, h]
theorem lt_bs (a b : ByteArray) : lt a b = Op.bytesLess (bs a) (bs b) := by
  unfold lt
  rw [toList_data, toList_data]
  rfl
/-- What is sorted is the list that rises. -/
theorem sorted_is {V K : List ByteArray} (hn : V.Nodup) (hm : ∀ k, k ∈ V ↔ k ∈ K) (hr : KRises K) : (V.map bs).mergeSort (fun x y => decide (x ≤ y)) = K.map bs := by
  have hp := List.mergeSort_perm (V.map bs) (fun x y => decide (x ≤ y))
  have hs := List.pairwise_mergeSort (le := fun x y : List UInt8 => decide (x ≤ y)) (fun a b c h1 h2 => by
    simp only [le_less, Bool.not_eq_true'] at h1 h2 ⊢
    cases h : Op.bytesLess c a with
    | false => rfl
    | true =>
      cases h3 : Op.bytesLess b c with
      | true => rw [bl_trans h3 h] at h1; cases h1
      | false =>
        have := bl_tri h3 h2
        subst this
        rw [h] at h1
        cases h1) (fun a b => by
    simp only [le_less]
    cases h : Op.bytesLess b a with
    | false => simp
    | true =>
      cases h2 : Op.bytesLess a b with
      | false => simp
      | true =>
        have := bl_trans h h2
        rw [bl_irrefl] at this
        cases this) (V.map bs)
  generalize (V.map bs).mergeSort (fun x y => decide (x ≤ y)) = T at hp hs
  have hn' : T.Nodup := hp.nodup_iff.mpr (by
    unfold List.Nodup at hn ⊢
    rw [List.pairwise_map]
    exact hn.imp fun h e => h (bs_inj e))
  have e : (T.map fun l => (⟨l.toArray⟩ : ByteArray)) = K := by
    refine krises_one ?_ hr fun q => ?_
    · unfold KRises
      rw [List.pairwise_map]
      refine (hs.and hn').imp fun {a b} h => ?_
      rw [lt_bs, bs_mk, bs_mk]
      have h1 : Op.bytesLess b a = false := by simpa [le_less] using h.1
      cases h2 : Op.bytesLess a b with
      | true => rfl
      | false => exact absurd (bl_tri h2 h1) h.2
    · rw [← hm, List.mem_map]
      constructor
      · rintro ⟨l, hl, rfl⟩
        rw [hp.mem_iff, List.mem_map] at hl
        obtain ⟨v, hv, rfl⟩ := hl
        rw [mk_bs]
        exact hv
      · intro hq
        exact ⟨bs q, hp.mem_iff.mpr (List.mem_map_of_mem hq), mk_bs q⟩
  rw [← e, List.map_map]
  conv => lhs; rw [← List.map_id T]
  refine List.map_congr_left fun l _ => ?_
  simp [bs_mk]
theorem vals_ky (V : List ByteArray) : eKy.vals V = (V.map bs).map encStr := by
  induction V with
  | nil => rfl
  | cons x r ih =>
    have e : eKy.vals (x :: r) = [Value.string x] ++ eKy.vals r := by simp [Enc.vals, eKy]
    rw [e, ih]
    simp only [List.map_cons]
    rw [show encStr (bs x) = Value.string x from by show Value.string ⟨(bs x).toArray⟩ = _; rw [mk_bs]]
    rfl
/-- What the sort leaves. -/
theorem sort_row {w : World} {base g cap : Nat} {V K : List ByteArray} (h : RowT eKy 9 w base (.slice (some ⟨g, 0, none⟩) V.length cap) V) (hn : V.Nodup) (hm : ∀ k, k ∈ V ↔ k ∈ K) (hr : KRises K) (hl : V.length ≤ 100000) :
    Calls Try.prog 27 #[.slice (some ⟨g, 0, none⟩) V.length cap] w fun r w' => r = .returned (.tuple #[]) ∧ RowT eKy 9 w' base (.slice (some ⟨g, 0, none⟩) V.length cap) K ∧ w.grownBy w' (some g) ∧ V.length = K.length := by
  obtain ⟨h1, h2⟩ := h
  rcases h2 with ⟨e, _⟩ | ⟨g', cap', cur, e, hb, hg, hle, hcm, hcs, htk⟩
  · cases e
  cases e
  rw [vals_ky] at htk
  have hlen : (V.map bs).length = V.length := by simp
  have htk2 : cur.toList.take (V.map bs).length = (V.map bs).map encStr := by
    rw [hlen]
    have := htk
    rwa [show V.length * eKy.wd = V.length from Nat.mul_one _] at this
  have hcon := Any.slices_Sort_string sortS g 0 cap (V.map bs) w (holds_of_block hg htk2) (lt_of_heap hg) (by rw [hlen]; omega)
  rw [sorted_is hn hm hr, hlen] at hcon
  have hKV : V.length = K.length := by
    have := congrArg List.length (sorted_is hn hm hr)
    simpa using this
  have hcon' : Calls Try.prog 27 #[.slice (some ⟨g, 0, none⟩) V.length cap] w fun e w' => e = .returned (.tuple #[]) ∧ ∃ n os, w' = grow (Go.Sort.putRow encStr (Go.Sort.ahead w n) g 0 (K.map bs).toArray) os := hcon
  refine hcon'.mono ?_
  rintro r w' ⟨rfl, n, os, rfl⟩
  have ho := ownsRow_sorted (n := n) (os := os) (ss := V.map bs) (ts := K.map bs) (by simp [hKV]) hb hg (by rw [hlen]; exact hle) hcm hcs
  rw [hlen] at ho
  refine ⟨rfl, ?_, grownBy_sorted _, hKV⟩
  unfold RowT
  rw [vals_ky, ← hKV]
  exact ho
theorem nodup_len {α : Type} [DecidableEq α] {V : List α} : ∀ {L : List α}, V.Nodup → (∀ x ∈ V, x ∈ L) → V.length ≤ L.length := by
  induction V with
  | nil => intro L _ _; simp
  | cons x r ih =>
    intro L hn hs
    obtain ⟨h1, h2⟩ := List.nodup_cons.mp hn
    have hx := hs x (by simp)
    have := ih (L := L.erase x) h2 (fun y hy => (List.mem_erase_of_ne (fun (e : y = x) => h1 (by rw [← e]; exact hy))).mpr (hs y (by simp [hy])))
    rw [List.length_erase_of_mem hx] at this
    have h0 := List.length_pos_of_mem hx
    simp
    omega
/-- slices.Sort at a row of the call's own. -/
theorem sort_any {w : World} {base : Nat} {v : Value} {V K : List ByteArray} (h : RowT eKy 9 w base v V) (hn : V.Nodup) (hm : ∀ k, k ∈ V ↔ k ∈ K) (hr : KRises K) (hl : V.length ≤ 100000) :
    Calls Try.prog 27 #[v] w fun r w' => r = .returned (.tuple #[]) ∧ RowT eKy 9 w' base v K ∧ w.grownBy w' v.ownBlock := by
  rcases h.2 with ⟨rfl, hz⟩ | ⟨g, cap, cur, rfl, _⟩
  · have hV : V = [] := List.eq_nil_of_length_eq_zero hz
    subst hV
    have hK : K = [] := by
      cases K with
      | nil => rfl
      | cons x r => exact absurd ((hm x).mpr (by simp)) (by simp)
    subst hK
    have CN : Calls Try.prog 27 #[.slice none 0 0] w fun e w' => e = .returned (.tuple #[]) ∧ w' = w := Any.slices_Sort_string_none sortS none 0 w
    refine CN.mono ?_
    rintro r w' ⟨rfl, rfl⟩
    exact ⟨rfl, RowT.nil _, grown_of_below (Below.refl _ _) _⟩
  · refine (sort_row h hn hm hr hl).mono ?_
    rintro r w' ⟨rfl, h1, h2, h3⟩
    exact ⟨rfl, h1, h2⟩

/-! ### A map that is ranged over -/
theorem keyOf9_inv {key : Value} {kl : Lit} (h : keyOf Try.prog 9 key = some kl) : ∃ s : ByteArray, key = .string s := by
  have hk := Try.underlying9
  cases key <;> simp [keyOf, hk, mapKey] at h
  exact ⟨_, rfl⟩
theorem keyOf9_lit {s : ByteArray} {kl : Lit} (h : keyOf Try.prog 9 (.string s) = some kl) : kl = kLit s ∧ s.size ≤ maxLen := by
  have hk := Try.underlying9
  simp [keyOf, hk, mapKey] at h
  exact ⟨h.2.symm, h.1⟩
theorem iE_form (v : Value) (y : DataW Unit × List MemPlace) (h : iE v = some y) : ∃ c : Int, v = Value.int .i64 c := by
  obtain ⟨c, rfl, _⟩ := plainElem_int_inv Try.underlying3 h
  exact ⟨c, rfl⟩
theorem iE_lit {c : Int} {y : DataW Unit × List MemPlace} (h : iE (.int .i64 c) = some y) : y.1 = .lit (.int .i64 c) := by
  obtain ⟨c', e, rfl, _⟩ := plainElem_int_inv Try.underlying3 h
  cases e
  rfl
def strike (left : Lit → Bool) (kl : Lit) : Lit → Bool := fun z => left z && !z.sameKey kl
/-- An entry that came is a tombstone of the map. -/
theorem entry_of {D : DataW Unit} {L : List Tm} {k : ByteArray} {c : Int} (hr : Reads D L) (hat : ∀ zd, D.atKey (kLit k) zd = .lit (.int .i64 c)) : (⟨k, c⟩ : Tm) ∈ L := by
  have h1 := hat .nil
  rw [hr.at_] at h1
  unfold look at h1
  cases hf : fnd L k with
  | none => rw [hf] at h1; cases h1
  | some x =>
    rw [hf] at h1
    simp only at h1
    injection h1 with h1
    injection h1 with _ h1
    obtain ⟨h2, h3⟩ := fnd_some hf
    have : x = ⟨k, c⟩ := Tm.ext' h3 h1
    rw [← this]
    exact h2
theorem iter_at {w : World} {b r n cnt : Nat} {D : DataW Unit} {left : Lit → Bool} (h : w.ranges Try.prog 9 iE b r n D left cnt) : ∃ o, w.heap[r]? = some o ∧ kd o = 1001 := by
  obtain ⟨es, clock, since, seen, c0, _, _, _, _, hr, _⟩ := h
  exact ⟨_, hr, rfl⟩
theorem map_at {w : World} {b r n cnt : Nat} {D : DataW Unit} {left : Lit → Bool} (h : w.ranges Try.prog 9 iE b r n D left cnt) : ∃ o, w.heap[b]? = some o ∧ kd o = 1000 := by
  obtain ⟨es, clock, since, seen, c0, hb, _⟩ := h
  exact ⟨_, hb, rfl⟩
theorem kept_of {w w' : World} {i j : Nat} {o p : Obj} (hg : w.grownBy w' (some i)) (hi : w.heap[i]? = some o) (hj : w.heap[j]? = some p) (hk : kd p ≠ kd o) : w'.heap[j]? = some p := by
  rw [hg.block j (lt_of_heap hj) ?_]
  · exact hj
  · intro e
    cases e
    rw [hi] at hj
    cases hj
    exact hk rfl
theorem has_all {D : DataW Unit} {L : List Tm} (h : Reads D L) {x : Tm} (hx : x ∈ L) : Maps.has D (kLit x.k) = true := by
  rw [h.has]
  exact has_iff.mpr (List.mem_map_of_mem hx)
end Go.Proofs.Ytdmgmbjdocechaa
