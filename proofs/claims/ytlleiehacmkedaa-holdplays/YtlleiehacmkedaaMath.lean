/-
  Plain mathematics: the order of texts; tombstones whose keys rise; what is noted, passed and allowed. Its conditions: none.
-/
import GoSem.Op.String
namespace Go.Proofs.Ytlleiehacmkedaa

/-! ### The order of texts -/

theorem bl_irrefl : ∀ a : List UInt8, Op.bytesLess a a = false
  | [] => rfl
  | a :: x => by
    have h : ¬ a < a := by simp
    simp [Op.bytesLess, h, bl_irrefl x]
theorem bl_trans : ∀ {a b c : List UInt8}, Op.bytesLess a b = true → Op.bytesLess b c = true → Op.bytesLess a c = true
  | _, [], _, h, _ => by cases ‹List UInt8› <;> simp [Op.bytesLess] at h
  | _, _ :: _, [], _, h => by simp [Op.bytesLess] at h
  | [], _ :: _, _ :: _, _, _ => by simp [Op.bytesLess]
  | a :: x, b :: y, c :: z, h1, h2 => by
    simp only [Op.bytesLess, Bool.or_eq_true, decide_eq_true_eq, Bool.and_eq_true, beq_iff_eq] at h1 h2 ⊢
    rcases h1 with h1 | ⟨rfl, h1⟩
    · rcases h2 with h2 | ⟨rfl, h2⟩
      · exact .inl (UInt8.lt_trans h1 h2)
      · exact .inl h1
    · rcases h2 with h2 | ⟨rfl, h2⟩
      · exact .inl h2
      · exact .inr ⟨rfl, bl_trans h1 h2⟩
theorem bl_tri : ∀ {a b : List UInt8}, Op.bytesLess a b = false → Op.bytesLess b a = false → a = b
  | [], [], _, _ => rfl
  | [], _ :: _, h, _ => by simp [Op.bytesLess] at h
  | _ :: _, [], _, h => by simp [Op.bytesLess] at h
  | a :: x, b :: y, h1, h2 => by
    simp only [Op.bytesLess, Bool.or_eq_false_iff, decide_eq_false_iff_not, Bool.and_eq_false_iff] at h1 h2
    have e : a = b := by
      have h3 := h1.1
      have h4 := h2.1
      rw [UInt8.not_lt] at h3 h4
      exact UInt8.le_antisymm h4 h3
    subst e
    rcases h1.2 with h | h
    · simp at h
    · rcases h2.2 with h' | h'
      · simp at h'
      · rw [bl_tri h h']

theorem toList_data (s : ByteArray) : s.toList = s.data.toList := by
  have loop : ∀ (n i : Nat) (r : List UInt8), s.size - i = n → ByteArray.toList.loop s i r = r.reverse ++ s.data.toList.drop i := by
    intro n
    induction n with
    | zero =>
      intro i r h
      unfold ByteArray.toList.loop
      have hs : s.size = s.data.toList.length := Array.length_toList.symm
      rw [if_neg (by omega), List.drop_of_length_le (by omega), List.append_nil]
    | succ n ih =>
      intro i r h
      unfold ByteArray.toList.loop
      have hs : s.size = s.data.toList.length := Array.length_toList.symm
      have hi : i < s.data.toList.length := by omega
      rw [if_pos (by omega), ih _ _ (by omega), List.drop_eq_getElem_cons hi]
      simp [ByteArray.get!, Array.getElem!_eq_getD, Array.getD]
      rw [dif_pos (by omega)]
  unfold ByteArray.toList
  rw [loop _ 0 [] rfl]
  simp
theorem toList_inj {a b : ByteArray} (h : a.toList = b.toList) : a = b := by
  rw [toList_data, toList_data] at h
  exact ByteArray.ext (Array.toList_inj.mp h)

/-- One key stands ahead of another. -/
def lt (a b : ByteArray) : Bool := Op.bytesLess a.toList b.toList
theorem lt_irrefl (a : ByteArray) : lt a a = false := bl_irrefl _
theorem lt_trans {a b c : ByteArray} (h : lt a b = true) (k : lt b c = true) : lt a c = true := bl_trans h k
theorem lt_tri {a b : ByteArray} (h : lt a b = false) (k : lt b a = false) : a = b := toList_inj (bl_tri h k)
theorem lt_asymm {a b : ByteArray} (h : lt a b = true) : lt b a = false := by
  cases hb : lt b a with
  | false => rfl
  | true => rw [← lt_irrefl a, lt_trans h hb]
theorem lt_ne {a b : ByteArray} (h : lt a b = true) : a ≠ b := by
  rintro rfl
  rw [lt_irrefl] at h
  cases h


theorem toList_ne {a b : ByteArray} (h : ¬ a = b) : (a.toList == b.toList) = false := by
  rw [beq_eq_false_iff_ne]
  intro e
  exact h (toList_inj e)

/-! ### Tombstones -/

/-- A tombstone: its key, its index. -/
structure Tm where
  k : ByteArray
  n : Int
theorem Tm.ext' {a b : Tm} (h1 : a.k = b.k) (h2 : a.n = b.n) : a = b := by
  cases a
  cases b
  simp_all
instance : Inhabited Tm := ⟨⟨⟨#[]⟩, 0⟩⟩
def keys (L : List Tm) : List ByteArray := L.map (·.k)
def Rises (L : List Tm) : Prop := L.Pairwise fun p q => lt p.k q.k = true
theorem rises_nil : Rises [] := List.Pairwise.nil
theorem rises_append {A B : List Tm} : Rises (A ++ B) ↔ Rises A ∧ Rises B ∧ ∀ p ∈ A, ∀ q ∈ B, lt p.k q.k = true := List.pairwise_append
theorem rises_cons {p : Tm} {B : List Tm} : Rises (p :: B) ↔ (∀ q ∈ B, lt p.k q.k = true) ∧ Rises B := List.pairwise_cons
theorem Rises.filter {L : List Tm} (h : Rises L) (p : Tm → Bool) : Rises (L.filter p) := List.Pairwise.filter p h
theorem Rises.nodup {L : List Tm} (h : Rises L) : (keys L).Nodup := by
  unfold keys List.Nodup
  rw [List.pairwise_map]
  exact List.Pairwise.imp (fun h => lt_ne h) h
/-- Keys that rise. -/
def KRises (K : List ByteArray) : Prop := K.Pairwise fun p q => lt p q = true
theorem Rises.keys {L : List Tm} (h : Rises L) : KRises (keys L) := by
  unfold KRises Ytlleiehacmkedaa.keys
  rw [List.pairwise_map]
  exact h
theorem krises_cons {p : ByteArray} {B : List ByteArray} : KRises (p :: B) ↔ (∀ q ∈ B, lt p q = true) ∧ KRises B := List.pairwise_cons
/-- Two lists of keys that rise and have the same keys are one. -/
theorem krises_one : ∀ {A B : List ByteArray}, KRises A → KRises B → (∀ q, q ∈ A ↔ q ∈ B) → A = B
  | [], [], _, _, _ => rfl
  | [], q :: _, _, _, h => absurd ((h q).mpr (by simp)) (by simp)
  | p :: _, [], _, _, h => absurd ((h p).mp (by simp)) (by simp)
  | p :: A, q :: B, ha, hb, h => by
    rw [krises_cons] at ha hb
    have e : p = q := by
      rcases List.mem_cons.mp ((h p).mp (by simp)) with e | h1
      · exact e
      · rcases List.mem_cons.mp ((h q).mpr (by simp)) with e | h2
        · exact e.symm
        · have h3 := lt_asymm (hb.1 p h1)
          rw [ha.1 q h2] at h3
          cases h3
    subst e
    congr 1
    refine krises_one ha.2 hb.2 fun x => ?_
    constructor
    · intro hx
      rcases List.mem_cons.mp ((h x).mp (List.mem_cons_of_mem _ hx)) with e | h1
      · subst e
        exact absurd rfl (lt_ne (ha.1 x hx))
      · exact h1
    · intro hx
      rcases List.mem_cons.mp ((h x).mpr (List.mem_cons_of_mem _ hx)) with e | h1
      · subst e
        exact absurd rfl (lt_ne (hb.1 x hx))
      · exact h1
/-- A key's tombstone. -/
def fnd (L : List Tm) (k : ByteArray) : Option Tm := L.find? fun x => decide (x.k = k)
def has (L : List Tm) (k : ByteArray) : Bool := (fnd L k).isSome
/-- A key's index, or 0. -/
def val (L : List Tm) (k : ByteArray) : Int :=
  match fnd L k with
  | some x => x.n
  | none => 0
theorem fnd_some {L : List Tm} {k : ByteArray} {x : Tm} (h : fnd L k = some x) : x ∈ L ∧ x.k = k := ⟨List.mem_of_find?_eq_some h, by simpa using List.find?_some h⟩
theorem fnd_none {L : List Tm} {k : ByteArray} : fnd L k = none ↔ k ∉ keys L := by
  unfold fnd keys
  rw [List.find?_eq_none]
  constructor
  · intro h hk
    obtain ⟨t, ht, e⟩ := List.mem_map.mp hk
    exact h t ht (by simpa using e)
  · intro h t ht e
    exact h (List.mem_map.mpr ⟨t, ht, by simpa using e⟩)
theorem has_iff {L : List Tm} {k : ByteArray} : has L k = true ↔ k ∈ keys L := by
  unfold has
  rw [Option.isSome_iff_ne_none, ne_eq, fnd_none, Classical.not_not]
theorem has_no {L : List Tm} {k : ByteArray} : has L k = false ↔ k ∉ keys L := by
  rw [← has_iff, Bool.not_eq_true]
theorem one_of_key {L : List Tm} (h : Rises L) {x y : Tm} (hx : x ∈ L) (hy : y ∈ L) (e : y.k = x.k) : y = x := by
  induction L with
  | nil => cases hx
  | cons a r ih =>
    rw [rises_cons] at h
    rcases List.mem_cons.mp hx with rfl | hx1
    · rcases List.mem_cons.mp hy with rfl | hy1
      · rfl
      · exact absurd e.symm (lt_ne (h.1 y hy1))
    · rcases List.mem_cons.mp hy with rfl | hy1
      · exact absurd e (lt_ne (h.1 x hx1))
      · exact ih h.2 hx1 hy1
theorem fnd_mem {L : List Tm} (h : Rises L) {x : Tm} (hx : x ∈ L) : fnd L x.k = some x := by
  cases hf : fnd L x.k with
  | none => exact absurd (List.mem_map_of_mem hx) (fnd_none.mp hf)
  | some y =>
    obtain ⟨h1, h2⟩ := fnd_some hf
    rw [one_of_key h hx h1 h2]
theorem val_mem {L : List Tm} (h : Rises L) {x : Tm} (hx : x ∈ L) : val L x.k = x.n := by simp [val, fnd_mem h hx]
/-- What stands at a key, by what is in the list. -/
theorem fnd_ext {L M : List Tm} {k : ByteArray} (hM : Rises M) (h : ∀ x, x.k = k → (x ∈ L ↔ x ∈ M)) : fnd L k = fnd M k := by
  cases hf : fnd L k with
  | none =>
    symm
    rw [fnd_none] at hf ⊢
    intro hk
    obtain ⟨x, hx, e⟩ := List.mem_map.mp hk
    exact hf (List.mem_map.mpr ⟨x, (h x e).mpr hx, e⟩)
  | some x =>
    obtain ⟨h1, h2⟩ := fnd_some hf
    have := fnd_mem hM ((h x h2).mp h1)
    rw [h2] at this
    exact this.symm
/-- A tombstone is set where it belongs, in the place of its key's. -/
def ins (L : List Tm) (t : Tm) : List Tm := L.filter (fun x => lt x.k t.k) ++ t :: L.filter (fun x => lt t.k x.k)
theorem mem_ins {L : List Tm} {t q : Tm} : q ∈ ins L t ↔ q = t ∨ (q ∈ L ∧ q.k ≠ t.k) := by
  unfold ins
  simp only [List.mem_append, List.mem_cons, List.mem_filter]
  constructor
  · rintro (h | h | h)
    · exact .inr ⟨h.1, lt_ne h.2⟩
    · exact .inl h
    · exact .inr ⟨h.1, fun e => lt_ne h.2 e.symm⟩
  · rintro (h | ⟨h, e⟩)
    · exact .inr (.inl h)
    · cases h1 : lt q.k t.k with
      | true => exact .inl ⟨h, rfl⟩
      | false =>
        cases h2 : lt t.k q.k with
        | true => exact .inr (.inr ⟨h, rfl⟩)
        | false => exact absurd (lt_tri h1 h2) e
theorem Rises.ins {L : List Tm} (h : Rises L) (t : Tm) : Rises (ins L t) := by
  unfold Ytlleiehacmkedaa.ins
  refine rises_append.mpr ⟨h.filter _, rises_cons.mpr ⟨fun q hq => (List.mem_filter.mp hq).2, h.filter _⟩, fun p hp q hq => ?_⟩
  have h1 : lt p.k t.k = true := (List.mem_filter.mp hp).2
  rcases List.mem_cons.mp hq with rfl | hq
  · exact h1
  · exact lt_trans h1 (List.mem_filter.mp hq).2
theorem length_two {L : List Tm} {k : ByteArray} (h : k ∉ keys L) : (L.filter fun x => lt x.k k).length + (L.filter fun x => lt k x.k).length = L.length := by
  induction L with
  | nil => rfl
  | cons x r ih =>
    have hx : x.k ≠ k := fun e => h (by simp [keys, e])
    have hr := ih (fun hm => h (by simp [keys] at hm ⊢; exact .inr hm))
    cases h1 : lt x.k k with
    | true => simp [h1, lt_asymm h1]; omega
    | false =>
      cases h2 : lt k x.k with
      | true => simp [h1, h2]; omega
      | false => exact absurd (lt_tri h1 h2) hx
theorem length_ins_new {L : List Tm} {t : Tm} (h : t.k ∉ keys L) : (ins L t).length = L.length + 1 := by
  have := length_two h
  simp [ins]
  omega
theorem split_mem {L : List Tm} (h : Rises L) {x : Tm} (hx : x ∈ L) : L = L.filter (fun y => lt y.k x.k) ++ x :: L.filter (fun y => lt x.k y.k) := by
  induction L with
  | nil => cases hx
  | cons a r ih =>
    rw [rises_cons] at h
    rcases List.mem_cons.mp hx with rfl | hx1
    · have e1 : r.filter (fun y => lt y.k x.k) = [] := by
        rw [List.filter_eq_nil_iff]
        intro y hy
        rw [lt_asymm (h.1 y hy)]
        simp
      have e2 : r.filter (fun y => lt x.k y.k) = r := by
        rw [List.filter_eq_self]
        intro y hy
        exact h.1 y hy
      simp [lt_irrefl, e1, e2]
    · have h1 := h.1 x hx1
      have := ih h.2 hx1
      simp only [List.filter_cons, h1, lt_asymm h1, if_true, List.cons_append]
      simp
      exact this
theorem length_ins_old {L : List Tm} (h : Rises L) {t : Tm} (hk : t.k ∈ keys L) : (ins L t).length = L.length := by
  obtain ⟨x, hx, e⟩ := List.mem_map.mp hk
  conv => rhs; rw [split_mem h hx]
  simp only [ins, ← e, List.length_append, List.length_cons]
theorem fnd_ins_same {L : List Tm} (h : Rises L) (t : Tm) : fnd (ins L t) t.k = some t := fnd_mem (h.ins t) (mem_ins.mpr (.inl rfl))
theorem fnd_ins_other {L : List Tm} (h : Rises L) {t : Tm} {k : ByteArray} (hk : k ≠ t.k) : fnd (ins L t) k = fnd L k := by
  refine fnd_ext h fun x hx => ?_
  rw [mem_ins]
  constructor
  · rintro (rfl | h1)
    · exact absurd hx.symm hk
    · exact h1.1
  · exact fun h1 => .inr ⟨h1, by rw [hx]; exact hk⟩
/-- Without a key. -/
def drp (L : List Tm) (k : ByteArray) : List Tm := L.filter fun x => decide (x.k ≠ k)
theorem mem_drp {L : List Tm} {k : ByteArray} {q : Tm} : q ∈ drp L k ↔ q ∈ L ∧ q.k ≠ k := by simp [drp]
theorem Rises.drp {L : List Tm} (h : Rises L) (k : ByteArray) : Rises (drp L k) := h.filter _
theorem drp_none {L : List Tm} {k : ByteArray} (h : k ∉ keys L) : drp L k = L := by
  unfold drp
  rw [List.filter_eq_self]
  intro t ht
  simp only [decide_eq_true_eq]
  rintro rfl
  exact h (List.mem_map_of_mem ht)
theorem length_drp {L : List Tm} (h : Rises L) {k : ByteArray} (hk : k ∈ keys L) : (drp L k).length + 1 = L.length := by
  induction L with
  | nil => simp [keys] at hk
  | cons x r ih =>
    rw [rises_cons] at h
    by_cases e : x.k = k
    · have : drp r k = r := by
        refine drp_none fun hk' => ?_
        obtain ⟨y, hy, e'⟩ := List.mem_map.mp hk'
        exact lt_ne (h.1 y hy) (e.trans e'.symm)
      have e2 : drp (x :: r) k = drp r k := by simp [drp, e]
      rw [e2, this]
      rfl
    · have hr : k ∈ keys r := by
        simp only [keys, List.map_cons, List.mem_cons] at hk
        exact hk.resolve_left (fun e' => e e'.symm)
      have := ih h.2 hr
      unfold drp at this ⊢
      simp [e] at this ⊢
      omega
theorem fnd_drp_same (L : List Tm) (k : ByteArray) : fnd (drp L k) k = none := by
  rw [fnd_none]
  intro h
  obtain ⟨t, ht, rfl⟩ := List.mem_map.mp h
  exact (mem_drp.mp ht).2 rfl
theorem fnd_drp_other {L : List Tm} {k j : ByteArray} (h : j ≠ k) : fnd (drp L k) j = fnd L j := by
  unfold fnd drp
  rw [List.find?_filter]
  congr
  funext l
  by_cases e : l.k = j
  · simp [e, h]
  · simp [e]

/-- Has a key room? -/
def takes (L : List Tm) (k : ByteArray) (limit : Int) : Bool := has L k || decide ((L.length : Int) < limit)
/-- What a Note leaves. -/
def noteL (L : List Tm) (k : ByteArray) (n limit : Int) : List Tm := if n < 1 then L else if takes L k limit then ins L ⟨k, max (val L k) n⟩ else L
def noteF (L : List Tm) (f : Int) (k : ByteArray) (n limit : Int) : Int := if n < 1 then f else if takes L k limit then f else max f n
/-- What a Pass leaves. -/
def passL (L : List Tm) (n : Int) : List Tm := L.filter fun x => decide (n < x.n)
def passF (f n : Int) : Int := if f ≤ n then 0 else f
/-- Below that nothing is allowed of a key. -/
def bar (L : List Tm) (f : Int) (k : ByteArray) : Int := max f (val L k)
/-- A table that is as it should be. -/
structure Good (L : List Tm) (f limit : Int) : Prop where
  rs : Rises L
  pos : ∀ x ∈ L, 1 ≤ x.n
  f0 : 0 ≤ f
  len : (L.length : Int) ≤ max limit 0
theorem Good.nil (limit : Int) : Good [] 0 limit := ⟨rises_nil, by simp, Int.le_refl _, by simp; omega⟩
theorem val_pos {L : List Tm} (h : ∀ x ∈ L, 1 ≤ x.n) (k : ByteArray) : 0 ≤ val L k := by
  unfold val
  cases hf : fnd L k with
  | none => simp
  | some x => have := h x (fnd_some hf).1; simp only; omega
theorem val_ins {L : List Tm} (h : Rises L) (t : Tm) (k : ByteArray) : val (ins L t) k = if k = t.k then t.n else val L k := by
  by_cases e : k = t.k
  · subst e
    simp [val, fnd_ins_same h]
  · simp [val, fnd_ins_other h e, e]
theorem Good.note {L : List Tm} {f limit : Int} (h : Good L f limit) (k : ByteArray) (n : Int) : Good (noteL L k n limit) (noteF L f k n limit) limit := by
  unfold noteL noteF
  split
  · exact h
  · rename_i h1
    split
    · rename_i h2
      refine ⟨h.rs.ins _, fun x hx => ?_, h.f0, ?_⟩
      · rcases mem_ins.mp hx with rfl | hx
        · simp only
          have := val_pos h.pos k
          omega
        · exact h.pos x hx.1
      · by_cases hk : k ∈ keys L
        · rw [length_ins_old h.rs hk]
          exact h.len
        · rw [length_ins_new hk]
          have : has L k = false := has_no.mpr hk
          simp [takes, this] at h2
          omega
    · exact ⟨h.rs, h.pos, by have := h.f0; omega, h.len⟩
theorem passL_le (L : List Tm) (n : Int) : (passL L n).length ≤ L.length := List.length_filter_le _ _
theorem mem_passL {L : List Tm} {n : Int} {x : Tm} : x ∈ passL L n ↔ x ∈ L ∧ n < x.n := by simp [passL]
theorem Good.pass {L : List Tm} {f limit : Int} (h : Good L f limit) (n : Int) : Good (passL L n) (passF f n) limit := by
  refine ⟨h.rs.filter _, fun x hx => h.pos x (mem_passL.mp hx).1, ?_, by have := passL_le L n; have := h.len; omega⟩
  unfold passF
  have := h.f0
  split <;> omega
/-! ### What is held off -/
theorem bar_note {L : List Tm} {f limit : Int} (h : Good L f limit) (k : ByteArray) (n : Int) (j : ByteArray) : bar L f j ≤ bar (noteL L k n limit) (noteF L f k n limit) j := by
  unfold bar noteL noteF
  split
  · exact Int.le_refl _
  · split
    · rw [val_ins h.rs]
      split
      · rename_i e
        simp only at e
        subst e
        simp only
        omega
      · exact Int.le_refl _
    · omega
theorem bar_noted {L : List Tm} {f limit : Int} (h : Good L f limit) (k : ByteArray) {n : Int} (hn : 1 ≤ n) : n ≤ bar (noteL L k n limit) (noteF L f k n limit) k := by
  have h1 : ¬ n < 1 := by omega
  unfold bar noteL noteF
  simp only [h1, if_false]
  cases takes L k limit with
  | true =>
    simp only [if_true]
    rw [val_ins h.rs]
    simp only [if_true]
    omega
  | false =>
    simp only [Bool.false_eq_true, if_false]
    omega
theorem val_pass {L : List Tm} (h : Rises L) (n : Int) (k : ByteArray) : val (passL L n) k = if n < val L k then val L k else val (passL L n) k := by
  by_cases hk : n < val L k
  · rw [if_pos hk]
    unfold val at hk ⊢
    cases hf : fnd L k with
    | none =>
      rw [hf] at hk
      have : fnd (passL L n) k = none := by
        rw [fnd_none] at hf ⊢
        intro h'
        obtain ⟨x, hx, e⟩ := List.mem_map.mp h'
        exact hf (List.mem_map.mpr ⟨x, (mem_passL.mp hx).1, e⟩)
      rw [this]
    | some x =>
      rw [hf] at hk
      simp only at hk ⊢
      obtain ⟨h1, h2⟩ := fnd_some hf
      have := fnd_mem (h.filter _) (mem_passL.mpr ⟨h1, hk⟩)
      rw [h2] at this
      unfold passL
      rw [this]
  · rw [if_neg hk]
theorem bar_pass {L : List Tm} {f limit : Int} (h : Good L f limit) {n m : Int} {k : ByteArray} (hm : m ≤ bar L f k) (hn : n < m) : m ≤ bar (passL L n) (passF f n) k := by
  unfold bar at hm ⊢
  by_cases h1 : m ≤ f
  · have : passF f n = f := by unfold passF; rw [if_neg (by omega)]
    rw [this]
    omega
  · have h2 : m ≤ val L k := by omega
    rw [val_pass h.rs, if_pos (by omega)]
    omega
/-- Nothing is above a bound. -/
structure Most (L : List Tm) (f m : Int) : Prop where
  l : ∀ x ∈ L, x.n ≤ m
  f : f ≤ m
theorem Most.val {L : List Tm} {f m : Int} (h : Most L f m) (hm : 0 ≤ m) (k : ByteArray) : val L k ≤ m := by
  unfold Ytlleiehacmkedaa.val
  cases hf : fnd L k with
  | none => exact hm
  | some x => exact h.l x (fnd_some hf).1
theorem Most.bar {L : List Tm} {f m : Int} (h : Most L f m) (hm : 0 ≤ m) (k : ByteArray) : bar L f k ≤ m := by
  have h1 := h.val hm k
  have h2 := h.f
  unfold Ytlleiehacmkedaa.bar
  omega
theorem Most.note {L : List Tm} {f m limit : Int} (h : Most L f m) (hm : 0 ≤ m) (k : ByteArray) (n : Int) : Most (noteL L k n limit) (noteF L f k n limit) (max m n) := by
  have h1 := h.f
  have h2 := h.val hm k
  unfold noteL noteF
  split
  · exact ⟨fun x hx => by have := h.l x hx; omega, by omega⟩
  · split
    · refine ⟨fun x hx => ?_, by omega⟩
      rcases mem_ins.mp hx with rfl | hx
      · simp only
        omega
      · have := h.l x hx.1
        omega
    · exact ⟨fun x hx => by have := h.l x hx; omega, by omega⟩
theorem Most.pass {L : List Tm} {f m : Int} (h : Most L f m) : passL L m = [] ∧ passF f m = 0 := by
  refine ⟨?_, by unfold passF; rw [if_pos h.f]⟩
  unfold passL
  rw [List.filter_eq_nil_iff]
  intro x hx
  have := h.l x hx
  simp
  omega
end Go.Proofs.Ytlleiehacmkedaa
