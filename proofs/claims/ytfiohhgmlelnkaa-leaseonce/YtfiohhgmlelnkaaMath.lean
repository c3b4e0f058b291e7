/-
  What a table of leases is, apart from memory: leases in the order in which they were granted. Its conditions: none.
-/
import Init
namespace Go.Proofs.Ytfiohhgmlelnkaa

/-- A lease: its key, its token, the ticks that it has left. -/
structure Ls where
  k : ByteArray
  t : Int
  n : Int
def keys (L : List Ls) : List ByteArray := L.map (·.k)
/-- Without a key. -/
def drp (L : List Ls) (k : ByteArray) : List Ls := L.filter fun l => decide (l.k ≠ k)
/-- A key's lease. -/
def fnd (L : List Ls) (k : ByteArray) : Option Ls := L.find? fun l => decide (l.k = k)
def has (L : List Ls) (k : ByteArray) : Bool := (fnd L k).isSome
/-- A tick less. -/
def dec (l : Ls) : Ls := ⟨l.k, l.t, l.n - 1⟩
/-- A tick goes by. -/
def tck (L : List Ls) : List Ls := (L.filter fun l => decide (l.n ≠ 1)).map dec
/-- Is that the key's token? -/
def useB (L : List Ls) (k : ByteArray) (t : Int) : Bool :=
  match fnd L k with
  | some l => decide (l.t = t)
  | none => false
def useL (L : List Ls) (k : ByteArray) (t : Int) : List Ls := if useB L k t then drp L k else L
/-- Is a lease granted? -/
def grB (L : List Ls) (k : ByteArray) (limit : Int) : Bool := decide ((L.length : Int) < limit) && !has L k
def grL (L : List Ls) (k : ByteArray) (limit ticks last : Int) : List Ls := if grB L k limit then L ++ [⟨k, last + 1, ticks⟩] else L
def grT (L : List Ls) (k : ByteArray) (limit last : Int) : Int := if grB L k limit then last + 1 else last
def grV (L : List Ls) (k : ByteArray) (limit last : Int) : Int := if grB L k limit then last + 1 else 0

/-- A table that is as it should be. -/
structure Good (L : List Ls) (limit ticks : Int) : Prop where
  nd : (keys L).Nodup
  pos : ∀ l ∈ L, 1 ≤ l.n ∧ l.n ≤ ticks
  t1 : 1 ≤ ticks
  t2 : ticks ≤ 9223372036854775807
  l2 : limit ≤ 9223372036854775807
theorem keys_sub {L M : List Ls} (h : M.Sublist L) : (keys M).Sublist (keys L) := h.map _
theorem keys_length (L : List Ls) : (keys L).length = L.length := by simp [keys]
theorem Good.sub {L M : List Ls} {limit ticks : Int} (h : Good L limit ticks) (hs : M.Sublist L) : Good M limit ticks :=
  ⟨(keys_sub hs).nodup h.nd, fun l hl => h.pos l (hs.subset hl), h.t1, h.t2, h.l2⟩
theorem drp_sub (L : List Ls) (k : ByteArray) : (drp L k).Sublist L := List.filter_sublist
theorem fnd_some {L : List Ls} {k : ByteArray} {l : Ls} (h : fnd L k = some l) : l ∈ L ∧ l.k = k := ⟨List.mem_of_find?_eq_some h, by simpa using List.find?_some h⟩
theorem fnd_none {L : List Ls} {k : ByteArray} : fnd L k = none ↔ k ∉ keys L := by
  unfold fnd keys
  rw [List.find?_eq_none]
  constructor
  · intro h hk
    obtain ⟨t, ht, e⟩ := List.mem_map.mp hk
    exact h t ht (by simpa using e)
  · intro h t ht e
    exact h (List.mem_map.mpr ⟨t, ht, by simpa using e⟩)
theorem has_iff {L : List Ls} {k : ByteArray} : has L k = true ↔ k ∈ keys L := by
  unfold has
  rw [Option.isSome_iff_ne_none, ne_eq, fnd_none, Classical.not_not]
theorem has_false {L : List Ls} {k : ByteArray} : has L k = false ↔ k ∉ keys L := by
  rw [← has_iff, Bool.not_eq_true]
theorem drp_none {L : List Ls} {k : ByteArray} (h : k ∉ keys L) : drp L k = L := by
  unfold drp
  rw [List.filter_eq_self]
  intro t ht
  simp only [decide_eq_true_eq]
  rintro rfl
  exact h (List.mem_map_of_mem ht)
theorem not_in_drp (L : List Ls) (k : ByteArray) : k ∉ keys (drp L k) := by
  intro h
  obtain ⟨t, ht, rfl⟩ := List.mem_map.mp h
  simpa using (List.mem_filter.mp ht).2
theorem in_drp {L : List Ls} {k j : ByteArray} (h : j ≠ k) : j ∈ keys (drp L k) ↔ j ∈ keys L := by
  constructor
  · exact fun hj => (keys_sub (drp_sub L k)).subset hj
  · intro hj
    obtain ⟨t, ht, rfl⟩ := List.mem_map.mp hj
    exact List.mem_map.mpr ⟨t, List.mem_filter.mpr ⟨ht, by simpa using h⟩, rfl⟩
theorem fnd_drp {L : List Ls} {k j : ByteArray} (h : j ≠ k) : fnd (drp L k) j = fnd L j := by
  unfold fnd drp
  rw [List.find?_filter]
  congr
  funext l
  by_cases e : l.k = j
  · simp [e, h]
  · simp [e]
theorem fnd_app {L : List Ls} {l : Ls} {j : ByteArray} (h : j ∉ keys L) : fnd (L ++ [l]) j = if l.k = j then some l else none := by
  have := fnd_none.mpr h
  unfold fnd at this ⊢
  rw [List.find?_append, this]
  by_cases e : l.k = j
  · simp [e]
  · simp [e]
theorem fnd_app_in {L : List Ls} {l t : Ls} {j : ByteArray} (h : fnd L j = some t) : fnd (L ++ [l]) j = some t := by
  unfold fnd at h ⊢
  rw [List.find?_append, h]
  rfl
theorem Good.put {L : List Ls} {limit ticks : Int} (h : Good L limit ticks) {k : ByteArray} (hk : k ∉ keys L) (t : Int) : Good (L ++ [⟨k, t, ticks⟩]) limit ticks := by
  refine ⟨?_, ?_, h.t1, h.t2, h.l2⟩
  · show (keys (L ++ [_])).Nodup
    simp only [keys, List.map_append, List.map_cons, List.map_nil]
    refine List.nodup_append.mpr ⟨h.nd, by simp, ?_⟩
    intro a ha b hb e
    simp at hb
    subst e hb
    exact hk ha
  · intro l hl
    rcases List.mem_append.mp hl with hl | hl
    · exact h.pos l hl
    · simp at hl
      subst hl
      exact ⟨h.t1, Int.le_refl _⟩
theorem keys_tck (L : List Ls) : (keys (tck L)).Sublist (keys L) := by
  have e : keys (tck L) = keys (L.filter fun l => decide (l.n ≠ 1)) := by
    unfold keys tck
    rw [List.map_map]
    rfl
  rw [e]
  exact keys_sub List.filter_sublist
theorem mem_tck {L : List Ls} {l : Ls} (h : l ∈ tck L) : ∃ m ∈ L, m.n ≠ 1 ∧ l = dec m := by
  obtain ⟨m, hm, rfl⟩ := List.mem_map.mp h
  obtain ⟨h1, h2⟩ := List.mem_filter.mp hm
  exact ⟨m, h1, by simpa using h2, rfl⟩
theorem Good.tck {L : List Ls} {limit ticks : Int} (h : Good L limit ticks) : Good (tck L) limit ticks := by
  refine ⟨(keys_tck L).nodup h.nd, ?_, h.t1, h.t2, h.l2⟩
  intro l hl
  obtain ⟨m, hm, h1, rfl⟩ := mem_tck hl
  have := h.pos m hm
  show 1 ≤ m.n - 1 ∧ m.n - 1 ≤ ticks
  omega
theorem Good.grL {L : List Ls} {limit ticks : Int} (h : Good L limit ticks) (k : ByteArray) (last : Int) : Good (grL L k limit ticks last) limit ticks := by
  unfold Ytfiohhgmlelnkaa.grL
  split
  · rename_i hg
    refine h.put ?_ _
    simp [grB] at hg
    exact has_false.mp hg.2
  · exact h
theorem Good.drp {L : List Ls} {limit ticks : Int} (h : Good L limit ticks) (k : ByteArray) : Good (drp L k) limit ticks := h.sub (drp_sub L k)
theorem Good.nil {limit ticks : Int} (h1 : 1 ≤ ticks) (h2 : ticks ≤ 9223372036854775807) (h3 : limit ≤ 9223372036854775807) : Good [] limit ticks := ⟨List.nodup_nil, by simp, h1, h2, h3⟩
theorem toList_data (s : ByteArray) : s.toList = s.data.toList := by
  have loop : ∀ (n i : Nat) (r : List UInt8), s.size - i = n → ByteArray.toList.loop s i r = r.reverse ++ s.data.toList.drop i := by
    intro n
    induction n with
    | zero =>
      intro i r h
      unfold ByteArray.toList.loop
      have hs : s.size = s.data.toList.length := Array.length_toList.symm
      rw [if_neg (by omega), List.drop_of_length_le (by omega), List.append_nil]
    | succ n ih =>
      intro i r h
      unfold ByteArray.toList.loop
      have hs : s.size = s.data.toList.length := Array.length_toList.symm
      have hi : i < s.data.toList.length := by omega
      rw [if_pos (by omega), ih _ _ (by omega), List.drop_eq_getElem_cons hi]
      simp [ByteArray.get!, Array.getElem!_eq_getD, Array.getD]
      rw [dif_pos (by omega)]
  unfold ByteArray.toList
  rw [loop _ 0 [] rfl]
  simp
theorem toList_inj {a b : ByteArray} (h : a.toList = b.toList) : a = b := by
  rw [toList_data, toList_data] at h
  exact ByteArray.ext (Array.toList_inj.mp h)
theorem toList_ne {a b : ByteArray} (h : ¬ a = b) : (a.toList == b.toList) = false := by
  rw [beq_eq_false_iff_ne]
  intro e
  exact h (toList_inj e)
end Go.Proofs.Ytfiohhgmlelnkaa
