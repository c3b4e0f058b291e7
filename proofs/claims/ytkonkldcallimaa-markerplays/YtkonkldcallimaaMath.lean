/-
  Plain mathematics: the order of texts and of markers; lists of markers that rise; what is set into them and taken out of them. Its conditions: none.
-/
import GoSem.Op.String
namespace Go.Proofs.Ytkonkldcallimaa

/-! ### The order of texts -/

theorem bl_irrefl : ∀ a : List UInt8, Op.bytesLess a a = false
  | [] => rfl
  | a :: x => by
    have h : ¬ a < a := by simp
    simp [Op.bytesLess, h, bl_irrefl x]
theorem bl_trans : ∀ {a b c : List UInt8}, Op.bytesLess a b = true → Op.bytesLess b c = true → Op.bytesLess a c = true
  | _, [], _, h, _ => by cases ‹List UInt8› <;> simp [Op.bytesLess] at h
  | _, _ :: _, [], _, h => by simp [Op.bytesLess] at h
  | [], _ :: _, _ :: _, _, _ => by simp [Op.bytesLess]
  | a :: x, b :: y, c :: z, h1, h2 => by
    simp only [Op.bytesLess, Bool.or_eq_true, decide_eq_true_eq, Bool.and_eq_true, beq_iff_eq] at h1 h2 ⊢
    rcases h1 with h1 | ⟨rfl, h1⟩
    · rcases h2 with h2 | ⟨rfl, h2⟩
      · exact .inl (UInt8.lt_trans h1 h2)
      · exact .inl h1
    · rcases h2 with h2 | ⟨rfl, h2⟩
      · exact .inl h2
      · exact .inr ⟨rfl, bl_trans h1 h2⟩
theorem bl_tri : ∀ {a b : List UInt8}, Op.bytesLess a b = false → Op.bytesLess b a = false → a = b
  | [], [], _, _ => rfl
  | [], _ :: _, h, _ => by simp [Op.bytesLess] at h
  | _ :: _, [], _, h => by simp [Op.bytesLess] at h
  | a :: x, b :: y, h1, h2 => by
    simp only [Op.bytesLess, Bool.or_eq_false_iff, decide_eq_false_iff_not, Bool.and_eq_false_iff] at h1 h2
    have e : a = b := by
      have h3 := h1.1
      have h4 := h2.1
      rw [UInt8.not_lt] at h3 h4
      exact UInt8.le_antisymm h4 h3
    subst e
    rcases h1.2 with h | h
    · simp at h
    · rcases h2.2 with h' | h'
      · simp at h'
      · rw [bl_tri h h']

theorem toList_data (s : ByteArray) : s.toList = s.data.toList := by
  have loop : ∀ (n i : Nat) (r : List UInt8), s.size - i = n → ByteArray.toList.loop s i r = r.reverse ++ s.data.toList.drop i := by
    intro n
    induction n with
    | zero =>
      intro i r h
      unfold ByteArray.toList.loop
      have hs : s.size = s.data.toList.length := Array.length_toList.symm
      rw [if_neg (by omega), List.drop_of_length_le (by omega), List.append_nil]
    | succ n ih =>
      intro i r h
      unfold ByteArray.toList.loop
      have hs : s.size = s.data.toList.length := Array.length_toList.symm
      have hi : i < s.data.toList.length := by omega
      rw [if_pos (by omega), ih _ _ (by omega), List.drop_eq_getElem_cons hi]
      simp [ByteArray.get!, Array.getElem!_eq_getD, Array.getD]
      rw [dif_pos (by omega)]
  unfold ByteArray.toList
  rw [loop _ 0 [] rfl]
  simp
theorem toList_inj {a b : ByteArray} (h : a.toList = b.toList) : a = b := by
  rw [toList_data, toList_data] at h
  exact ByteArray.ext (Array.toList_inj.mp h)

/-- One key stands ahead of another. -/
def lt (a b : ByteArray) : Bool := Op.bytesLess a.toList b.toList
theorem lt_irrefl (a : ByteArray) : lt a a = false := bl_irrefl _
theorem lt_trans {a b c : ByteArray} (h : lt a b = true) (k : lt b c = true) : lt a c = true := bl_trans h k
theorem lt_tri {a b : ByteArray} (h : lt a b = false) (k : lt b a = false) : a = b := toList_inj (bl_tri h k)
theorem lt_asymm {a b : ByteArray} (h : lt a b = true) : lt b a = false := by
  cases hb : lt b a with
  | false => rfl
  | true => rw [← lt_irrefl a, lt_trans h hb]
theorem lt_ne {a b : ByteArray} (h : lt a b = true) : a ≠ b := by
  rintro rfl
  rw [lt_irrefl] at h
  cases h


theorem toList_ne {a b : ByteArray} (h : ¬ a = b) : (a.toList == b.toList) = false := by
  rw [beq_eq_false_iff_ne]
  intro e
  exact h (toList_inj e)

/-! ### Markers -/

/-- A marker: its key, its session, its request. -/
structure Mk where
  k : ByteArray
  s : Int
  r : Int
theorem Mk.ext' {a b : Mk} (h1 : a.k = b.k) (h2 : a.s = b.s) (h3 : a.r = b.r) : a = b := by
  cases a
  cases b
  simp_all
instance : DecidableEq Mk := fun a b =>
  if h : a.k = b.k ∧ a.s = b.s ∧ a.r = b.r then .isTrue (Mk.ext' h.1 h.2.1 h.2.2) else .isFalse (by rintro rfl; simp at h)
instance : Inhabited Mk := ⟨⟨⟨#[]⟩, 0, 0⟩⟩
/-- One marker stands ahead of another. -/
def mlt (a b : Mk) : Bool := lt a.k b.k || (decide (a.k = b.k) && (decide (a.s < b.s) || (decide (a.s = b.s) && decide (a.r < b.r))))
theorem mlt_iff {a b : Mk} : mlt a b = true ↔ lt a.k b.k = true ∨ (a.k = b.k ∧ (a.s < b.s ∨ (a.s = b.s ∧ a.r < b.r))) := by
  simp [mlt]
theorem mlt_irrefl (a : Mk) : mlt a a = false := by simp [mlt, lt_irrefl]
theorem mlt_trans {a b c : Mk} (h : mlt a b = true) (k : mlt b c = true) : mlt a c = true := by
  rw [mlt_iff] at h k ⊢
  rcases h with h | ⟨e, h⟩
  · rcases k with k | ⟨e', k⟩
    · exact .inl (lt_trans h k)
    · exact .inl (e' ▸ h)
  · rcases k with k | ⟨e', k⟩
    · exact .inl (e ▸ k)
    · exact .inr ⟨e.trans e', by omega⟩
theorem mlt_tri {a b : Mk} (h : mlt a b = false) (k : mlt b a = false) : a = b := by
  simp only [mlt, Bool.or_eq_false_iff, Bool.and_eq_false_iff, decide_eq_false_iff_not] at h k
  have e := lt_tri h.1 k.1
  obtain ⟨h1, h2⟩ := h
  obtain ⟨k1, k2⟩ := k
  rcases h2 with h2 | h2
  · exact absurd e h2
  rcases k2 with k2 | k2
  · exact absurd e.symm k2
  exact Mk.ext' e (by omega) (by omega)
theorem mlt_asymm {a b : Mk} (h : mlt a b = true) : mlt b a = false := by
  cases hb : mlt b a with
  | false => rfl
  | true => rw [← mlt_irrefl a, mlt_trans h hb]
theorem mlt_ne {a b : Mk} (h : mlt a b = true) : a ≠ b := by
  rintro rfl
  rw [mlt_irrefl] at h
  cases h
def Rises (L : List Mk) : Prop := L.Pairwise fun p q => mlt p q = true
theorem rises_nil : Rises [] := List.Pairwise.nil
theorem rises_append {A B : List Mk} : Rises (A ++ B) ↔ Rises A ∧ Rises B ∧ ∀ p ∈ A, ∀ q ∈ B, mlt p q = true := List.pairwise_append
theorem rises_cons {p : Mk} {B : List Mk} : Rises (p :: B) ↔ (∀ q ∈ B, mlt p q = true) ∧ Rises B := List.pairwise_cons
theorem Rises.filter {L : List Mk} (h : Rises L) (p : Mk → Bool) : Rises (L.filter p) := List.Pairwise.filter p h
theorem Rises.nodup {L : List Mk} (h : Rises L) : L.Nodup := List.Pairwise.imp (fun h => mlt_ne h) h
/-- Two lists that rise and have the same markers are one. -/
theorem rises_one : ∀ {A B : List Mk}, Rises A → Rises B → (∀ q, q ∈ A ↔ q ∈ B) → A = B
  | [], [], _, _, _ => rfl
  | [], q :: _, _, _, h => absurd ((h q).mpr (by simp)) (by simp)
  | p :: _, [], _, _, h => absurd ((h p).mp (by simp)) (by simp)
  | p :: A, q :: B, ha, hb, h => by
    rw [rises_cons] at ha hb
    have e : p = q := by
      rcases List.mem_cons.mp ((h p).mp (by simp)) with e | h1
      · exact e
      · rcases List.mem_cons.mp ((h q).mpr (by simp)) with e | h2
        · exact e.symm
        · have h3 := mlt_asymm (hb.1 p h1)
          rw [ha.1 q h2] at h3
          cases h3
    subst e
    congr 1
    refine rises_one ha.2 hb.2 fun x => ?_
    constructor
    · intro hx
      rcases List.mem_cons.mp ((h x).mp (List.mem_cons_of_mem _ hx)) with e | h1
      · subst e
        exact absurd rfl (mlt_ne (ha.1 x hx))
      · exact h1
    · intro hx
      rcases List.mem_cons.mp ((h x).mpr (List.mem_cons_of_mem _ hx)) with e | h1
      · subst e
        exact absurd rfl (mlt_ne (hb.1 x hx))
      · exact h1
/-- A marker is set where it belongs. -/
def ins (L : List Mk) (m : Mk) : List Mk := L.filter (fun x => mlt x m) ++ m :: L.filter (fun x => mlt m x)
theorem mem_ins {L : List Mk} {m q : Mk} : q ∈ ins L m ↔ q = m ∨ q ∈ L := by
  unfold ins
  simp only [List.mem_append, List.mem_cons, List.mem_filter]
  constructor
  · rintro (h | h | h)
    · exact .inr h.1
    · exact .inl h
    · exact .inr h.1
  · rintro (h | h)
    · exact .inr (.inl h)
    · by_cases e : q = m
      · exact .inr (.inl e)
      · cases h1 : mlt q m with
        | true => exact .inl ⟨h, rfl⟩
        | false =>
          cases h2 : mlt m q with
          | true => exact .inr (.inr ⟨h, rfl⟩)
          | false => exact absurd (mlt_tri h1 h2) e
theorem Rises.ins {L : List Mk} (h : Rises L) (m : Mk) : Rises (ins L m) := by
  unfold Ytkonkldcallimaa.ins
  refine rises_append.mpr ⟨h.filter _, rises_cons.mpr ⟨fun q hq => (List.mem_filter.mp hq).2, h.filter _⟩, fun p hp q hq => ?_⟩
  have h1 : mlt p m = true := (List.mem_filter.mp hp).2
  rcases List.mem_cons.mp hq with rfl | hq
  · exact h1
  · exact mlt_trans h1 (List.mem_filter.mp hq).2
theorem length_two {L : List Mk} {m : Mk} (h : m ∉ L) : (L.filter fun x => mlt x m).length + (L.filter fun x => mlt m x).length = L.length := by
  induction L with
  | nil => rfl
  | cons x r ih =>
    have hx : x ≠ m := fun e => h (by simp [e])
    have hr := ih (fun hm => h (List.mem_cons_of_mem _ hm))
    cases h1 : mlt x m with
    | true => simp [h1, mlt_asymm h1]; omega
    | false =>
      cases h2 : mlt m x with
      | true => simp [h1, h2]; omega
      | false => exact absurd (mlt_tri h1 h2) hx
theorem length_ins {L : List Mk} {m : Mk} (h : m ∉ L) : (ins L m).length = L.length + 1 := by
  have := length_two h
  simp [ins]
  omega
/-- What Set answers: 0, or 4 (it is full). -/
def setE (L : List Mk) (m : Mk) (limit : Int) : Int := if m ∈ L then 0 else if (L.length : Int) ≥ limit then 4 else 0
def setL (L : List Mk) (m : Mk) (limit : Int) : List Mk := if m ∈ L then L else if (L.length : Int) ≥ limit then L else ins L m
/-- Those that don't go. -/
def out (L : List Mk) (p : Mk → Bool) : List Mk := L.filter fun x => !p x
/-- That marker. -/
def isG (m x : Mk) : Bool := decide (x = m)
/-- Of a key and a session, up to a request. -/
def upG (k : ByteArray) (s r : Int) (x : Mk) : Bool := decide (x.k = k) && (decide (x.s = s) && decide (x.r ≤ r))
/-- Of a session, up to a request. -/
def paG (s r : Int) (x : Mk) : Bool := decide (x.s = s) && decide (x.r ≤ r)
/-- Has a key a marker? -/
def hasK (L : List Mk) (k : ByteArray) : Bool := L.any fun x => decide (x.k = k)
theorem hasK_iff {L : List Mk} {k : ByteArray} : hasK L k = true ↔ ∃ x ∈ L, x.k = k := by simp [hasK]
theorem mem_out {L : List Mk} {p : Mk → Bool} {q : Mk} : q ∈ out L p ↔ q ∈ L ∧ p q = false := by simp [out]
theorem mem_setL {L : List Mk} {m q : Mk} {limit : Int} : q ∈ setL L m limit ↔ q ∈ L ∨ (q = m ∧ setE L m limit = 0) := by
  unfold setL setE
  by_cases h : m ∈ L
  · simp only [h, if_true]
    constructor
    · exact .inl
    · rintro (h1 | ⟨rfl, _⟩)
      · exact h1
      · exact h
  · simp only [h, if_false]
    by_cases h1 : (L.length : Int) ≥ limit
    · simp [h1]
    · simp only [h1, if_false, mem_ins]
      constructor
      · rintro (h | h)
        · exact .inr ⟨h, trivial⟩
        · exact .inl h
      · rintro (h | ⟨h, _⟩)
        · exact .inr h
        · exact .inl h
theorem out_length_le (L : List Mk) (p : Mk → Bool) : (out L p).length ≤ L.length := List.length_filter_le _ _
theorem out_is_none {L : List Mk} {m : Mk} (h : m ∉ L) : out L (isG m) = L := by
  unfold out
  rw [List.filter_eq_self]
  intro x hx
  simp only [isG, Bool.not_eq_true', decide_eq_false_iff_not]
  rintro rfl
  exact h hx
/-- A table that is as it should be: its markers rise, each is a marker of Go's, and they are no more than the limit. -/
structure Good (L : List Mk) (limit : Int) : Prop where
  rs : Rises L
  len : (L.length : Int) ≤ max limit 0
theorem Good.nil (limit : Int) : Good [] limit := ⟨rises_nil, by simp; omega⟩
theorem Good.out {L : List Mk} {limit : Int} (h : Good L limit) (p : Mk → Bool) : Good (out L p) limit := ⟨h.rs.filter _, by have := out_length_le L p; have := h.len; omega⟩
theorem Good.set {L : List Mk} {limit : Int} (h : Good L limit) (m : Mk) : Good (setL L m limit) limit := by
  unfold setL
  split
  · exact h
  · split
    · exact h
    · rename_i h1 h2
      exact ⟨h.rs.ins m, by rw [length_ins h1]; omega⟩
end Go.Proofs.Ytkonkldcallimaa
