/-
  Plain mathematics: the order of texts; a search tree, how deep it is, what it holds in order; putting into it and taking out of it; lists of pairs that rise. Its conditions: none.
-/
import GoSem.Op.String
namespace Go.Proofs.Ytpapbboihjhmiaa

/-! ### The order of texts -/

theorem bl_irrefl : ∀ a : List UInt8, Op.bytesLess a a = false
  | [] => rfl
  | a :: x => by
    have h : ¬ a < a := by simp
    simp [Op.bytesLess, h, bl_irrefl x]
theorem bl_trans : ∀ {a b c : List UInt8}, Op.bytesLess a b = true → Op.bytesLess b c = true → Op.bytesLess a c = true
  | _, [], _, h, _ => by cases ‹List UInt8› <;> simp [Op.bytesLess] at h
  | _, _ :: _, [], _, h => by simp [Op.bytesLess] at h
  | [], _ :: _, _ :: _, _, _ => by simp [Op.bytesLess]
  | a :: x, b :: y, c :: z, h1, h2 => by
    simp only [Op.bytesLess, Bool.or_eq_true, decide_eq_true_eq, Bool.and_eq_true, beq_iff_eq] at h1 h2 ⊢
    rcases h1 with h1 | ⟨rfl, h1⟩
    · rcases h2 with h2 | ⟨rfl, h2⟩
      · exact .inl (UInt8.lt_trans h1 h2)
      · exact .inl h1
    · rcases h2 with h2 | ⟨rfl, h2⟩
      · exact .inl h2
      · exact .inr ⟨rfl, bl_trans h1 h2⟩
theorem bl_tri : ∀ {a b : List UInt8}, Op.bytesLess a b = false → Op.bytesLess b a = false → a = b
  | [], [], _, _ => rfl
  | [], _ :: _, h, _ => by simp [Op.bytesLess] at h
  | _ :: _, [], _, h => by simp [Op.bytesLess] at h
  | a :: x, b :: y, h1, h2 => by
    simp only [Op.bytesLess, Bool.or_eq_false_iff, decide_eq_false_iff_not, Bool.and_eq_false_iff] at h1 h2
    have e : a = b := by
      have h3 := h1.1
      have h4 := h2.1
      rw [UInt8.not_lt] at h3 h4
      exact UInt8.le_antisymm h4 h3
    subst e
    rcases h1.2 with h | h
    · simp at h
    · rcases h2.2 with h' | h'
      · simp at h'
      · rw [bl_tri h h']

theorem toList_data (s : ByteArray) : s.toList = s.data.toList := by
  have loop : ∀ (n i : Nat) (r : List UInt8), s.size - i = n → ByteArray.toList.loop s i r = r.reverse ++ s.data.toList.drop i := by
    intro n
    induction n with
    | zero =>
      intro i r h
      unfold ByteArray.toList.loop
      have hs : s.size = s.data.toList.length := Array.length_toList.symm
      rw [if_neg (by omega), List.drop_of_length_le (by omega), List.append_nil]
    | succ n ih =>
      intro i r h
      unfold ByteArray.toList.loop
      have hs : s.size = s.data.toList.length := Array.length_toList.symm
      have hi : i < s.data.toList.length := by omega
      rw [if_pos (by omega), ih _ _ (by omega), List.drop_eq_getElem_cons hi]
      simp [ByteArray.get!, Array.getElem!_eq_getD, Array.getD]
      rw [dif_pos (by omega)]
  unfold ByteArray.toList
  rw [loop _ 0 [] rfl]
  simp
theorem toList_inj {a b : ByteArray} (h : a.toList = b.toList) : a = b := by
  rw [toList_data, toList_data] at h
  exact ByteArray.ext (Array.toList_inj.mp h)

/-- One key stands ahead of another. -/
def lt (a b : ByteArray) : Bool := Op.bytesLess a.toList b.toList
theorem lt_irrefl (a : ByteArray) : lt a a = false := bl_irrefl _
theorem lt_trans {a b c : ByteArray} (h : lt a b = true) (k : lt b c = true) : lt a c = true := bl_trans h k
theorem lt_tri {a b : ByteArray} (h : lt a b = false) (k : lt b a = false) : a = b := toList_inj (bl_tri h k)
theorem lt_asymm {a b : ByteArray} (h : lt a b = true) : lt b a = false := by
  cases hb : lt b a with
  | false => rfl
  | true => rw [← lt_irrefl a, lt_trans h hb]
theorem lt_ne {a b : ByteArray} (h : lt a b = true) : a ≠ b := by
  rintro rfl
  rw [lt_irrefl] at h
  cases h

/-! ### Lists of pairs that rise -/

abbrev KV := ByteArray × Int
def Rises (L : List KV) : Prop := L.Pairwise fun p q => lt p.1 q.1 = true
theorem rises_nil : Rises [] := List.Pairwise.nil
theorem rises_append {A B : List KV} : Rises (A ++ B) ↔ Rises A ∧ Rises B ∧ ∀ p ∈ A, ∀ q ∈ B, lt p.1 q.1 = true := List.pairwise_append
theorem rises_cons {p : KV} {B : List KV} : Rises (p :: B) ↔ (∀ q ∈ B, lt p.1 q.1 = true) ∧ Rises B := List.pairwise_cons
/-- Two lists that rise and have the same pairs are one. -/
theorem rises_one : ∀ {A B : List KV}, Rises A → Rises B → (∀ q, q ∈ A ↔ q ∈ B) → A = B
  | [], [], _, _, _ => rfl
  | [], q :: _, _, _, h => absurd ((h q).mpr (by simp)) (by simp)
  | p :: _, [], _, _, h => absurd ((h p).mp (by simp)) (by simp)
  | p :: A, q :: B, ha, hb, h => by
    rw [rises_cons] at ha hb
    have e : p = q := by
      rcases List.mem_cons.mp ((h p).mp (by simp)) with e | h1
      · exact e
      · rcases List.mem_cons.mp ((h q).mpr (by simp)) with e | h2
        · exact e.symm
        · have h3 := lt_asymm (hb.1 p h1)
          rw [ha.1 q h2] at h3
          cases h3
    subst e
    congr 1
    refine rises_one ha.2 hb.2 fun x => ?_
    constructor
    · intro hx
      rcases List.mem_cons.mp ((h x).mp (List.mem_cons_of_mem _ hx)) with e | h1
      · subst e
        have := ha.1 x hx
        rw [lt_irrefl] at this
        cases this
      · exact h1
    · intro hx
      rcases List.mem_cons.mp ((h x).mpr (List.mem_cons_of_mem _ hx)) with e | h1
      · subst e
        have := hb.1 x hx
        rw [lt_irrefl] at this
        cases this
      · exact h1

/-- A key's value. -/
def lget (L : List KV) (k : ByteArray) : Option Int := (L.find? fun p => decide (p.1 = k)).map (·.2)
/-- The first pair whose key isn't less. -/
def lfrom (L : List KV) (k : ByteArray) : Option KV := L.find? fun p => !lt p.1 k
def lhas (L : List KV) (k : ByteArray) : Bool := L.any fun p => decide (p.1 = k)
def ldel (L : List KV) (k : ByteArray) : List KV := L.filter fun p => !decide (p.1 = k)
def lset : List KV → ByteArray → Int → List KV
  | [], k, v => [(k, v)]
  | p :: L, k, v => if lt k p.1 then (k, v) :: p :: L else if lt p.1 k then p :: lset L k v else (k, v) :: L

theorem mem_ldel {L : List KV} {k : ByteArray} {q : KV} : q ∈ ldel L k ↔ q ∈ L ∧ q.1 ≠ k := by simp [ldel]
theorem rises_ldel {L : List KV} (h : Rises L) (k : ByteArray) : Rises (ldel L k) := h.filter _
theorem lhas_iff {L : List KV} {k : ByteArray} : lhas L k = true ↔ ∃ p ∈ L, p.1 = k := by simp [lhas]
theorem lhas_false {L : List KV} {k : ByteArray} : lhas L k = false ↔ ∀ p ∈ L, p.1 ≠ k := by simp [lhas]
theorem lget_none {L : List KV} {k : ByteArray} : lget L k = none ↔ lhas L k = false := by
  unfold lget
  rw [Option.map_eq_none_iff, List.find?_eq_none, lhas_false]
  simp
theorem lget_some {L : List KV} (hr : Rises L) {k : ByteArray} {v : Int} : lget L k = some v ↔ (k, v) ∈ L := by
  unfold lget
  constructor
  · intro h
    obtain ⟨p, hp, rfl⟩ := Option.map_eq_some_iff.mp h
    have h1 := List.find?_some hp
    have h2 := List.mem_of_find?_eq_some hp
    simp at h1
    subst h1
    exact h2
  · intro h
    cases hf : L.find? (fun p => decide (p.1 = k)) with
    | none => exact absurd (List.find?_eq_none.mp hf _ h) (by simp)
    | some p =>
      have h1 := List.find?_some hf
      have h2 := List.mem_of_find?_eq_some hf
      simp at h1
      obtain ⟨a, b⟩ := p
      simp at h1
      subst h1
      show some b = some v
      congr 1
      -- one value a key
      revert h h2
      clear hf
      induction L with
      | nil => intro h; cases h
      | cons q L ih =>
        rw [rises_cons] at hr
        intro h h2
        rcases List.mem_cons.mp h with e | h
        · rcases List.mem_cons.mp h2 with e2 | h2
          · rw [← e] at e2; cases e2; rfl
          · have := hr.1 _ h2; rw [← e] at this; exact absurd rfl (lt_ne this)
        · rcases List.mem_cons.mp h2 with e2 | h2
          · have := hr.1 _ h; rw [← e2] at this; exact absurd rfl (lt_ne this)
          · exact ih hr.2 h h2
theorem mem_lset {L : List KV} (hr : Rises L) {k : ByteArray} {v : Int} {q : KV} : q ∈ lset L k v ↔ q = (k, v) ∨ (q ∈ L ∧ q.1 ≠ k) := by
  induction L with
  | nil => simp [lset]
  | cons p L ih =>
    rw [rises_cons] at hr
    unfold lset
    split
    · rename_i h
      constructor
      · intro hq
        rcases List.mem_cons.mp hq with rfl | hq
        · exact .inl rfl
        · refine .inr ⟨hq, ?_⟩
          rcases List.mem_cons.mp hq with rfl | hq
          · exact (lt_ne h).symm
          · exact (lt_ne (lt_trans h (hr.1 _ hq))).symm
      · rintro (rfl | ⟨hq, _⟩)
        · exact List.mem_cons_self
        · exact List.mem_cons_of_mem _ hq
    · split
      · rename_i h
        rw [List.mem_cons, ih hr.2, List.mem_cons]
        constructor
        · rintro (rfl | rfl | ⟨h1, h2⟩)
          · exact .inr ⟨.inl rfl, lt_ne h⟩
          · exact .inl rfl
          · exact .inr ⟨.inr h1, h2⟩
        · rintro (rfl | ⟨rfl | h1, h2⟩)
          · exact .inr (.inl rfl)
          · exact .inl rfl
          · exact .inr (.inr ⟨h1, h2⟩)
      · rename_i h1 h2
        have e : k = p.1 := lt_tri (by simpa using h1) (by simpa using h2)
        subst e
        rw [List.mem_cons]
        constructor
        · rintro (rfl | hq)
          · exact .inl rfl
          · exact .inr ⟨List.mem_cons_of_mem _ hq, (lt_ne (hr.1 _ hq)).symm⟩
        · rintro (rfl | ⟨hq, hne⟩)
          · exact .inl rfl
          · rcases List.mem_cons.mp hq with rfl | hq
            · exact absurd rfl hne
            · exact .inr hq
theorem rises_lset {L : List KV} (hr : Rises L) (k : ByteArray) (v : Int) : Rises (lset L k v) := by
  induction L with
  | nil => exact List.pairwise_singleton _ _
  | cons p L ih =>
    have hr' := hr
    rw [rises_cons] at hr
    unfold lset
    split
    · rename_i h
      refine rises_cons.mpr ⟨fun q hq => ?_, hr'⟩
      rcases List.mem_cons.mp hq with rfl | hq
      · exact h
      · exact lt_trans h (hr.1 _ hq)
    · split
      · rename_i h
        refine rises_cons.mpr ⟨fun q hq => ?_, ih hr.2⟩
        rcases (mem_lset hr.2).mp hq with rfl | ⟨hq, _⟩
        · exact h
        · exact hr.1 _ hq
      · rename_i h1 h2
        have e : k = p.1 := lt_tri (by simpa using h1) (by simpa using h2)
        subst e
        exact rises_cons.mpr ⟨hr.1, hr.2⟩
theorem length_lset {L : List KV} (k : ByteArray) (v : Int) (hr : Rises L) : (lset L k v).length = L.length + (if lhas L k then 0 else 1) := by
  induction L with
  | nil => simp [lset, lhas]
  | cons p L ih =>
    rw [rises_cons] at hr
    unfold lset
    have hc : lhas (p :: L) k = (decide (p.1 = k) || lhas L k) := by simp [lhas]
    split
    · rename_i h
      have h1 : lhas (p :: L) k = false := by
        rw [lhas_false]
        intro q hq
        rcases List.mem_cons.mp hq with rfl | hq
        · exact (lt_ne h).symm
        · exact (lt_ne (lt_trans h (hr.1 _ hq))).symm
      rw [h1]
      simp
    · split
      · rename_i h
        rw [List.length_cons, ih hr.2, hc, List.length_cons]
        have : decide (p.1 = k) = false := by simpa using lt_ne h
        rw [this]
        simp
        split <;> omega
      · rename_i h1 h2
        have e : k = p.1 := lt_tri (by simpa using h1) (by simpa using h2)
        subst e
        rw [hc]
        simp
theorem length_ldel {L : List KV} (k : ByteArray) (hr : Rises L) : (ldel L k).length + (if lhas L k then 1 else 0) = L.length := by
  induction L with
  | nil => simp [ldel, lhas]
  | cons p L ih =>
    rw [rises_cons] at hr
    have hc : lhas (p :: L) k = (decide (p.1 = k) || lhas L k) := by simp [lhas]
    by_cases e : p.1 = k
    · subst e
      have h1 : lhas L p.1 = false := by
        rw [lhas_false]
        intro q hq
        exact (lt_ne (hr.1 _ hq)).symm
      have h2 : ldel (p :: L) p.1 = ldel L p.1 := by simp [ldel]
      have := ih hr.2
      rw [h1] at this
      rw [hc, h2]
      simp at this ⊢
      omega
    · have h2 : ldel (p :: L) k = p :: ldel L k := by simp [ldel, e]
      rw [hc, h2]
      have := ih hr.2
      simp [e]
      omega
theorem ldel_off {L : List KV} {k : ByteArray} (h : lhas L k = false) : ldel L k = L := by
  rw [lhas_false] at h
  exact List.filter_eq_self.mpr fun p hp => by simpa using h p hp

/-! ### Trees -/

inductive Tr where
  | nil
  | nd (l : Tr) (k : ByteArray) (v : Int) (r : Tr)
namespace Tr
def ht : Tr → Nat
  | nil => 0
  | nd l _ _ r => 1 + max l.ht r.ht
def toL : Tr → List KV
  | nil => []
  | nd l k v r => l.toL ++ (k, v) :: r.toL
def lev (k : ByteArray) (v : Int) (l r : Tr) : Tr :=
  if l.ht = r.ht + 2 then
    match l with
    | nil => nd l k v r
    | nd ll lk lv lr => if lr.ht ≤ ll.ht then nd ll lk lv (nd lr k v r) else
      match lr with
      | nil => nd l k v r
      | nd a ik iv b => nd (nd ll lk lv a) ik iv (nd b k v r)
  else if r.ht = l.ht + 2 then
    match r with
    | nil => nd l k v r
    | nd rl rk rv rr => if rl.ht ≤ rr.ht then nd (nd l k v rl) rk rv rr else
      match rl with
      | nil => nd l k v r
      | nd a ik iv b => nd (nd l k v a) ik iv (nd b rk rv rr)
  else nd l k v r
theorem lev_toL (k : ByteArray) (v : Int) (l r : Tr) : (lev k v l r).toL = l.toL ++ (k, v) :: r.toL := by
  unfold lev
  split
  · split
    · simp [toL]
    · split
      · simp [toL]
      · split <;> simp [toL]
  · split
    · split
      · simp [toL]
      · split
        · simp [toL]
        · split <;> simp [toL]
    · simp [toL]
theorem lev_ht (k : ByteArray) (v : Int) (l r : Tr) : (lev k v l r).ht ≤ 1 + max l.ht r.ht := by
  unfold lev
  split
  · split
    · simp [ht] at *
    · split
      · simp only [ht] at *; omega
      · split
        · simp only [ht] at *; omega
        · simp only [ht] at *; omega
  · split
    · split
      · simp [ht] at *
      · split
        · simp only [ht] at *; omega
        · split
          · simp only [ht] at *; omega
          · simp only [ht] at *; omega
    · simp [ht]
/-- The depths of both sides differ by 1 at most. -/
def bal : Tr → Prop
  | nil => True
  | nd l _ _ r => l.bal ∧ r.bal ∧ l.ht ≤ r.ht + 1 ∧ r.ht ≤ l.ht + 1
theorem lev_bal (k : ByteArray) (v : Int) {l r : Tr} (hl : l.bal) (hr : r.bal) (h1 : l.ht ≤ r.ht + 2) (h2 : r.ht ≤ l.ht + 2) :
    (lev k v l r).bal ∧ max l.ht r.ht ≤ (lev k v l r).ht ∧ (l.ht ≤ r.ht + 1 → r.ht ≤ l.ht + 1 → (lev k v l r).ht = 1 + max l.ht r.ht) := by
  unfold lev
  split
  · split
    · simp [ht] at *
    · split
      · simp only [ht, bal] at *
        refine ⟨⟨hl.1, ⟨hl.2.1, hr, ?_, ?_⟩, ?_, ?_⟩, ?_, ?_⟩ <;> omega
      · split
        · simp only [ht, bal] at *; omega
        · simp only [ht, bal] at *
          refine ⟨⟨⟨hl.1, hl.2.1.1, ?_, ?_⟩, ⟨hl.2.1.2.1, hr, ?_, ?_⟩, ?_, ?_⟩, ?_, ?_⟩ <;> omega
  · split
    · split
      · simp [ht] at *
      · split
        · simp only [ht, bal] at *
          refine ⟨⟨⟨hl, hr.1, ?_, ?_⟩, hr.2.1, ?_, ?_⟩, ?_, ?_⟩ <;> omega
        · split
          · simp only [ht, bal] at *; omega
          · simp only [ht, bal] at *
            refine ⟨⟨⟨hl, hr.1.1, ?_, ?_⟩, ⟨hr.1.2.1, hr.2.1, ?_, ?_⟩, ?_, ?_⟩, ?_, ?_⟩ <;> omega
    · simp only [ht, bal]
      exact ⟨⟨hl, hr, by omega, by omega⟩, by omega, fun _ _ => trivial⟩

def put : Tr → ByteArray → Int → Tr
  | nil, k, v => nd nil k v nil
  | nd l nk nv r, k, v => if lt k nk then lev nk nv (l.put k v) r else if lt nk k then lev nk nv l (r.put k v) else nd l k v r
/-- Whether the key was found on the way down. -/
def found : Tr → ByteArray → Bool
  | nil, _ => false
  | nd l nk _ r, k => if lt k nk then l.found k else if lt nk k then r.found k else true
def takeL : Tr → KV × Tr
  | nil => ((ByteArray.empty, 0), nil)
  | nd nil k v r => ((k, v), r)
  | nd (nd a b c d) k v r => ((takeL (nd a b c d)).1, lev k v (takeL (nd a b c d)).2 r)
def meet (l : Tr) : Tr → Tr
  | nil => l
  | nd a b c d => lev (takeL (nd a b c d)).1.1 (takeL (nd a b c d)).1.2 l (takeL (nd a b c d)).2
def drop : Tr → ByteArray → Tr
  | nil, _ => nil
  | nd l nk nv r, k =>
    if lt k nk then (if l.found k then lev nk nv (l.drop k) r else nd l nk nv r)
    else if lt nk k then (if r.found k then lev nk nv l (r.drop k) else nd l nk nv r)
    else meet l r

theorem put_ht (k : ByteArray) (v : Int) (t : Tr) : (t.put k v).ht ≤ t.ht + 1 := by
  induction t with
  | nil => simp [put, ht]
  | nd l nk nv r ihl ihr =>
    unfold put
    split
    · have := lev_ht nk nv (l.put k v) r
      simp only [ht]; omega
    · split
      · have := lev_ht nk nv l (r.put k v)
        simp only [ht]; omega
      · simp [ht]
theorem takeL_ht : ∀ (t : Tr), t.takeL.2.ht ≤ t.ht
  | nil => by simp [takeL]
  | nd nil k v r => by simp only [takeL, ht]; omega
  | nd (nd a b c d) k v r => by
    have h1 := takeL_ht (nd a b c d)
    have h2 := lev_ht k v (takeL (nd a b c d)).2 r
    simp only [takeL]
    simp only [ht] at h1 h2 ⊢
    omega
theorem meet_ht (l r : Tr) : (meet l r).ht ≤ 1 + max l.ht r.ht := by
  cases r with
  | nil => simp [meet, ht]
  | nd a b c d =>
    have h1 := takeL_ht (nd a b c d)
    have h2 := lev_ht (takeL (nd a b c d)).1.1 (takeL (nd a b c d)).1.2 l (takeL (nd a b c d)).2
    simp only [meet]
    omega
theorem drop_ht (k : ByteArray) (t : Tr) : (t.drop k).ht ≤ t.ht := by
  induction t with
  | nil => simp [drop]
  | nd l nk nv r ihl ihr =>
    unfold drop
    split
    · split
      · have := lev_ht nk nv (l.drop k) r
        simp only [ht]; omega
      · exact Nat.le_refl _
    · split
      · split
        · have := lev_ht nk nv l (r.drop k)
          simp only [ht]; omega
        · exact Nat.le_refl _
      · have := meet_ht l r
        simp only [ht]; omega
theorem takeL_toL : ∀ (t : Tr), t.ht ≠ 0 → t.toL = t.takeL.1 :: t.takeL.2.toL
  | nil, h => absurd rfl h
  | nd nil k v r, _ => by simp [takeL, toL]
  | nd (nd a b c d) k v r, _ => by
    have h := takeL_toL (nd a b c d) (by simp [ht])
    simp only [takeL]
    rw [lev_toL]
    show (nd a b c d).toL ++ _ = _
    rw [h]
    rfl
theorem meet_toL (l r : Tr) : (meet l r).toL = l.toL ++ r.toL := by
  cases r with
  | nil => simp [meet, toL]
  | nd a b c d =>
    simp only [meet]
    rw [lev_toL, takeL_toL (nd a b c d) (by simp [ht])]
theorem found_has (k : ByteArray) (t : Tr) (h : Rises t.toL) : t.found k = lhas t.toL k := by
  induction t with
  | nil => rfl
  | nd l nk nv r ihl ihr =>
    simp only [toL] at h
    obtain ⟨h1, h2, h3⟩ := rises_append.mp h
    obtain ⟨h4, h5⟩ := rises_cons.mp h2
    have e : lhas (nd l nk nv r).toL k = (lhas l.toL k || (decide (nk = k) || lhas r.toL k)) := by simp [lhas, toL]
    rw [e]
    unfold found
    split
    · rename_i hk
      rw [ihl h1]
      have : lhas r.toL k = false := lhas_false.mpr fun q hq => (lt_ne (lt_trans hk (h4 q hq))).symm
      rw [this, decide_eq_false (lt_ne hk).symm]
      simp
    · split
      · rename_i hk
        rw [ihr h5]
        have : lhas l.toL k = false := lhas_false.mpr fun q hq => lt_ne (lt_trans (h3 q hq (nk, nv) (by simp)) hk)
        rw [this, decide_eq_false (lt_ne hk)]
        simp
      · rename_i h6 h7
        have e : k = nk := lt_tri (by simpa using h6) (by simpa using h7)
        subst e
        simp
theorem rises_l {l : Tr} {k : ByteArray} {v : Int} {r : Tr} (h : Rises (nd l k v r).toL) : Rises l.toL ∧ Rises r.toL ∧ (∀ q ∈ l.toL, lt q.1 k = true) ∧ (∀ q ∈ r.toL, lt k q.1 = true) := by
  simp only [toL] at h
  obtain ⟨h1, h2, h3⟩ := rises_append.mp h
  obtain ⟨h4, h5⟩ := rises_cons.mp h2
  exact ⟨h1, h5, fun q hq => h3 q hq (k, v) (by simp), h4⟩
theorem put_toL (k : ByteArray) (v : Int) (t : Tr) (h : Rises t.toL) : (t.put k v).toL = lset t.toL k v := by
  have key : Rises (t.put k v).toL ∧ ∀ q, q ∈ (t.put k v).toL ↔ q = (k, v) ∨ (q ∈ t.toL ∧ q.1 ≠ k) := by
    induction t with
    | nil => exact ⟨List.pairwise_singleton _ _, fun q => by simp [put, toL]⟩
    | nd l nk nv r ihl ihr =>
      obtain ⟨h1, h2, h3, h4⟩ := rises_l h
      unfold put
      split
      · rename_i hk
        obtain ⟨i1, i2⟩ := ihl h1
        rw [lev_toL]
        refine ⟨rises_append.mpr ⟨i1, rises_cons.mpr ⟨h4, h2⟩, fun p hp q hq => ?_⟩, fun q => ?_⟩
        · have hpn : lt p.1 nk = true := by
            rcases (i2 p).mp hp with rfl | ⟨hp, _⟩
            · exact hk
            · exact h3 p hp
          rcases List.mem_cons.mp hq with rfl | hq
          · exact hpn
          · exact lt_trans hpn (h4 q hq)
        · simp only [toL, List.mem_append, List.mem_cons]
          rw [i2]
          constructor
          · rintro ((rfl | ⟨a, b⟩) | rfl | a)
            · exact .inl rfl
            · exact .inr ⟨.inl a, b⟩
            · exact .inr ⟨.inr (.inl rfl), (lt_ne hk).symm⟩
            · exact .inr ⟨.inr (.inr a), (lt_ne (lt_trans hk (h4 q a))).symm⟩
          · rintro (rfl | ⟨a | rfl | a, b⟩)
            · exact .inl (.inl rfl)
            · exact .inl (.inr ⟨a, b⟩)
            · exact .inr (.inl rfl)
            · exact .inr (.inr a)
      · split
        · rename_i hk
          obtain ⟨i1, i2⟩ := ihr h2
          rw [lev_toL]
          have hnq : ∀ q ∈ (r.put k v).toL, lt nk q.1 = true := by
            intro q hq
            rcases (i2 q).mp hq with rfl | ⟨hq, _⟩
            · exact hk
            · exact h4 q hq
          refine ⟨rises_append.mpr ⟨h1, rises_cons.mpr ⟨hnq, i1⟩, fun p hp q hq => ?_⟩, fun q => ?_⟩
          · rcases List.mem_cons.mp hq with rfl | hq
            · exact h3 p hp
            · exact lt_trans (h3 p hp) (hnq q hq)
          · simp only [toL, List.mem_append, List.mem_cons]
            rw [i2]
            constructor
            · rintro (a | rfl | rfl | ⟨a, b⟩)
              · exact .inr ⟨.inl a, lt_ne (lt_trans (h3 q a) hk)⟩
              · exact .inr ⟨.inr (.inl rfl), lt_ne hk⟩
              · exact .inl rfl
              · exact .inr ⟨.inr (.inr a), b⟩
            · rintro (rfl | ⟨a | rfl | a, b⟩)
              · exact .inr (.inr (.inl rfl))
              · exact .inl a
              · exact .inr (.inl rfl)
              · exact .inr (.inr (.inr ⟨a, b⟩))
        · rename_i h6 h7
          have e : k = nk := lt_tri (by simpa using h6) (by simpa using h7)
          subst e
          refine ⟨?_, fun q => ?_⟩
          · simp only [toL]
            refine rises_append.mpr ⟨h1, rises_cons.mpr ⟨h4, h2⟩, fun p hp q hq => ?_⟩
            rcases List.mem_cons.mp hq with rfl | hq
            · exact h3 p hp
            · exact lt_trans (h3 p hp) (h4 q hq)
          · simp only [toL, List.mem_append, List.mem_cons]
            constructor
            · rintro (a | rfl | a)
              · exact .inr ⟨.inl a, lt_ne (h3 q a)⟩
              · exact .inl rfl
              · exact .inr ⟨.inr (.inr a), (lt_ne (h4 q a)).symm⟩
            · rintro (rfl | ⟨a | rfl | a, b⟩)
              · exact .inr (.inl rfl)
              · exact .inl a
              · exact absurd rfl b
              · exact .inr (.inr a)
  exact rises_one key.1 (rises_lset h k v) fun q => by rw [key.2, mem_lset h]
theorem drop_toL (k : ByteArray) (t : Tr) (h : Rises t.toL) : (t.drop k).toL = ldel t.toL k := by
  induction t with
  | nil => rfl
  | nd l nk nv r ihl ihr =>
    obtain ⟨h1, h2, h3, h4⟩ := rises_l h
    have e : ldel (nd l nk nv r).toL k = ldel l.toL k ++ (if nk = k then [] else [(nk, nv)]) ++ ldel r.toL k := by
      simp only [ldel, toL, List.filter_append, List.filter_cons, List.append_assoc]
      split <;> split <;> simp_all
    rw [e]
    unfold drop
    split
    · rename_i hk
      have e1 : ldel r.toL k = r.toL := ldel_off (lhas_false.mpr fun q hq => (lt_ne (lt_trans hk (h4 q hq))).symm)
      rw [e1, if_neg (lt_ne hk).symm]
      split
      · rw [lev_toL, ihl h1]; simp
      · rename_i hf
        rw [found_has k l h1] at hf
        rw [ldel_off (by simpa using hf)]
        simp [toL]
    · split
      · rename_i hk
        have e1 : ldel l.toL k = l.toL := ldel_off (lhas_false.mpr fun q hq => lt_ne (lt_trans (h3 q hq) hk))
        rw [e1, if_neg (lt_ne hk)]
        split
        · rw [lev_toL, ihr h2]; simp
        · rename_i hf
          rw [found_has k r h2] at hf
          rw [ldel_off (by simpa using hf)]
          simp [toL]
      · rename_i h6 h7
        have e : k = nk := lt_tri (by simpa using h6) (by simpa using h7)
        subst e
        rw [if_pos rfl, ldel_off (lhas_false.mpr fun q hq => lt_ne (h3 q hq)), ldel_off (lhas_false.mpr fun q hq => (lt_ne (h4 q hq)).symm), meet_toL]
        simp
theorem put_bal (k : ByteArray) (v : Int) (t : Tr) (h : t.bal) : (t.put k v).bal ∧ t.ht ≤ (t.put k v).ht := by
  induction t with
  | nil => simp [put, bal, ht]
  | nd l nk nv r ihl ihr =>
    obtain ⟨h1, h2, h3, h4⟩ := h
    unfold put
    split
    · obtain ⟨i1, i2⟩ := ihl h1
      have i3 := put_ht k v l
      obtain ⟨a, b, c⟩ := lev_bal nk nv i1 h2 (by omega) (by omega)
      refine ⟨a, ?_⟩
      simp only [ht]
      by_cases hc : (l.put k v).ht ≤ r.ht + 1
      · rw [c hc (by omega)]; omega
      · omega
    · split
      · obtain ⟨i1, i2⟩ := ihr h2
        have i3 := put_ht k v r
        obtain ⟨a, b, c⟩ := lev_bal nk nv h1 i1 (by omega) (by omega)
        refine ⟨a, ?_⟩
        simp only [ht]
        by_cases hc : (r.put k v).ht ≤ l.ht + 1
        · rw [c (by omega) hc]; omega
        · omega
      · exact ⟨⟨h1, h2, h3, h4⟩, by simp [ht]⟩
theorem takeL_bal : ∀ (t : Tr), t.bal → t.takeL.2.bal ∧ t.ht ≤ t.takeL.2.ht + 1
  | nil, _ => by simp [takeL, bal, ht]
  | nd nil k v r, h => by
    simp only [bal] at h
    simp only [takeL, ht] at *
    exact ⟨h.2.1, by omega⟩
  | nd (nd a b c d) k v r, h => by
    obtain ⟨h1, h2, h3, h4⟩ := h
    obtain ⟨i1, i2⟩ := takeL_bal (nd a b c d) h1
    have i3 := takeL_ht (nd a b c d)
    obtain ⟨x, y, z⟩ := lev_bal k v i1 h2 (by omega) (by omega)
    refine ⟨x, ?_⟩
    show 1 + max (nd a b c d).ht r.ht ≤ (lev k v (takeL (nd a b c d)).2 r).ht + 1
    by_cases hc : r.ht ≤ (takeL (nd a b c d)).2.ht + 1
    · rw [z (by omega) hc]; omega
    · omega
theorem meet_bal {l r : Tr} (hl : l.bal) (hr : r.bal) (h1 : l.ht ≤ r.ht + 1) (h2 : r.ht ≤ l.ht + 1) : (meet l r).bal ∧ max l.ht r.ht ≤ (meet l r).ht := by
  cases r with
  | nil => exact ⟨hl, by simp [meet, ht]⟩
  | nd a b c d =>
    obtain ⟨i1, i2⟩ := takeL_bal (nd a b c d) hr
    have i3 := takeL_ht (nd a b c d)
    obtain ⟨x, y, z⟩ := lev_bal (takeL (nd a b c d)).1.1 (takeL (nd a b c d)).1.2 hl i1 (by omega) (by omega)
    refine ⟨x, ?_⟩
    show max l.ht (nd a b c d).ht ≤ (lev (takeL (nd a b c d)).1.1 (takeL (nd a b c d)).1.2 l (takeL (nd a b c d)).2).ht
    by_cases hc : l.ht ≤ (takeL (nd a b c d)).2.ht + 1
    · rw [z hc (by omega)]; omega
    · omega
theorem drop_bal (k : ByteArray) (t : Tr) (h : t.bal) : (t.drop k).bal ∧ t.ht ≤ (t.drop k).ht + 1 := by
  induction t with
  | nil => simp [drop, bal, ht]
  | nd l nk nv r ihl ihr =>
    obtain ⟨h1, h2, h3, h4⟩ := h
    unfold drop
    split
    · split
      · obtain ⟨i1, i2⟩ := ihl h1
        have i3 := drop_ht k l
        obtain ⟨a, b, c⟩ := lev_bal nk nv i1 h2 (by omega) (by omega)
        refine ⟨a, ?_⟩
        simp only [ht]
        by_cases hc : r.ht ≤ (l.drop k).ht + 1
        · rw [c (by omega) hc]; omega
        · omega
      · exact ⟨⟨h1, h2, h3, h4⟩, by omega⟩
    · split
      · split
        · obtain ⟨i1, i2⟩ := ihr h2
          have i3 := drop_ht k r
          obtain ⟨a, b, c⟩ := lev_bal nk nv h1 i1 (by omega) (by omega)
          refine ⟨a, ?_⟩
          simp only [ht]
          by_cases hc : l.ht ≤ (r.drop k).ht + 1
          · rw [c hc (by omega)]; omega
          · omega
        · exact ⟨⟨h1, h2, h3, h4⟩, by omega⟩
      · obtain ⟨a, b⟩ := meet_bal h1 h2 h3 h4
        exact ⟨a, by simp only [ht]; omega⟩
/-- How many keys a balanced tree has at least. -/
theorem bal_many : ∀ (t : Tr), t.bal → 2 ^ ((t.ht + 1) / 2) ≤ t.toL.length + 1
  | nil, _ => by simp [ht, toL]
  | nd nil k v nil, _ => by simp [ht, toL]
  | nd nil k v (nd a b c d), h => by
    obtain ⟨h1, h2, h3, h4⟩ := h
    have i := bal_many (nd a b c d) h2
    simp only [ht] at h3 h4 i
    simp only [ht, toL, List.length_append, List.length_cons, List.length_nil] at i ⊢
    have e : max a.ht d.ht = 0 := by omega
    rw [e] at i ⊢
    simp at i ⊢
  | nd (nd a b c d) k v nil, h => by
    obtain ⟨h1, h2, h3, h4⟩ := h
    have i := bal_many (nd a b c d) h1
    simp only [ht] at h3 h4 i
    simp only [ht, toL, List.length_append, List.length_cons, List.length_nil] at i ⊢
    have e : max a.ht d.ht = 0 := by omega
    rw [e] at i ⊢
    simp at i ⊢
  | nd (nd a b c d) k v (nd a' b' c' d'), h => by
    obtain ⟨h1, h2, h3, h4⟩ := h
    have i1 := bal_many (nd a b c d) h1
    have i2 := bal_many (nd a' b' c' d') h2
    generalize nd a b c d = l at *
    generalize nd a' b' c' d' = r at *
    simp only [ht, toL, List.length_append, List.length_cons]
    have m1 : 2 ^ ((1 + max l.ht r.ht + 1) / 2 - 1) ≤ 2 ^ ((l.ht + 1) / 2) := Nat.pow_le_pow_right (by omega) (by omega)
    have m2 : 2 ^ ((1 + max l.ht r.ht + 1) / 2 - 1) ≤ 2 ^ ((r.ht + 1) / 2) := Nat.pow_le_pow_right (by omega) (by omega)
    have e : 2 ^ ((1 + max l.ht r.ht + 1) / 2) = 2 * 2 ^ ((1 + max l.ht r.ht + 1) / 2 - 1) := by
      rw [← Nat.pow_succ']
      congr 1
      omega
    omega
theorem ht_le (t : Tr) : t.ht ≤ t.toL.length := by
  induction t with
  | nil => simp [ht]
  | nd l k v r ihl ihr => simp only [ht, toL, List.length_append, List.length_cons]; omega

/-- The search: the first node whose key isn't less, below what was met already. -/
def seek : Tr → ByteArray → Option KV → Option KV
  | nil, _, m => m
  | nd l nk nv r, k, m => if lt nk k then r.seek k m else if nk = k then some (nk, nv) else l.seek k (some (nk, nv))
theorem seek_from (t : Tr) (k : ByteArray) (m : Option KV) (h : Rises t.toL) : t.seek k m = (lfrom t.toL k).or m := by
  induction t generalizing m with
  | nil => simp [seek, toL, lfrom]
  | nd l nk nv r ihl ihr =>
    obtain ⟨h1, h2, h3, h4⟩ := rises_l h
    unfold seek
    have e : lfrom (nd l nk nv r).toL k = (lfrom l.toL k).or (if lt nk k then lfrom r.toL k else some (nk, nv)) := by
      unfold lfrom
      simp only [toL, List.find?_append, List.find?_cons]
      split <;> split <;> simp_all
    rw [e]
    split
    · rename_i hk
      rw [ihr m h2]
      have : lfrom l.toL k = none := by
        unfold lfrom
        rw [List.find?_eq_none]
        intro q hq
        simp [lt_trans (h3 q hq) hk]
      rw [this]
      rfl
    · split
      · rename_i hk he
        subst he
        have : lfrom l.toL nk = none := by
          unfold lfrom
          rw [List.find?_eq_none]
          intro q hq
          simp [h3 q hq]
        rw [this]
        rfl
      · rw [ihl _ h1]
        cases lfrom l.toL k <;> rfl
end Tr
end Go.Proofs.Ytpapbboihjhmiaa
