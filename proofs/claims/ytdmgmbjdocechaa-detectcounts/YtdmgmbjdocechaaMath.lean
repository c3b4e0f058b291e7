/-
  Plain mathematics: the order of texts; nodes whose names rise, each with the moment at which it was heard of last. Its conditions: none.
-/
import GoSem.Op.String
namespace Go.Proofs.Ytdmgmbjdocechaa

/-! ### The order of texts -/

theorem bl_irrefl : ∀ a : List UInt8, Op.bytesLess a a = false
  | [] => rfl
  | a :: x => by
    have h : ¬ a < a := by simp
    simp [Op.bytesLess, h, bl_irrefl x]
theorem bl_trans : ∀ {a b c : List UInt8}, Op.bytesLess a b = true → Op.bytesLess b c = true → Op.bytesLess a c = true
  | _, [], _, h, _ => by cases ‹List UInt8› <;> simp [Op.bytesLess] at h
  | _, _ :: _, [], _, h => by simp [Op.bytesLess] at h
  | [], _ :: _, _ :: _, _, _ => by simp [Op.bytesLess]
  | a :: x, b :: y, c :: z, h1, h2 => by
    simp only [Op.bytesLess, Bool.or_eq_true, decide_eq_true_eq, Bool.and_eq_true, beq_iff_eq] at h1 h2 ⊢
    rcases h1 with h1 | ⟨rfl, h1⟩
    · rcases h2 with h2 | ⟨rfl, h2⟩
      · exact .inl (UInt8.lt_trans h1 h2)
      · exact .inl h1
    · rcases h2 with h2 | ⟨rfl, h2⟩
      · exact .inl h2
      · exact .inr ⟨rfl, bl_trans h1 h2⟩
theorem bl_tri : ∀ {a b : List UInt8}, Op.bytesLess a b = false → Op.bytesLess b a = false → a = b
  | [], [], _, _ => rfl
  | [], _ :: _, h, _ => by simp [Op.bytesLess] at h
  | _ :: _, [], _, h => by simp [Op.bytesLess] at h
  | a :: x, b :: y, h1, h2 => by
    simp only [Op.bytesLess, Bool.or_eq_false_iff, decide_eq_false_iff_not, Bool.and_eq_false_iff] at h1 h2
    have e : a = b := by
      have h3 := h1.1
      have h4 := h2.1
      rw [UInt8.not_lt] at h3 h4
      exact UInt8.le_antisymm h4 h3
    subst e
    rcases h1.2 with h | h
    · simp at h
    · rcases h2.2 with h' | h'
      · simp at h'
      · rw [bl_tri h h']

theorem toList_data (s : ByteArray) : s.toList = s.data.toList := by
  have loop : ∀ (n i : Nat) (r : List UInt8), s.size - i = n → ByteArray.toList.loop s i r = r.reverse ++ s.data.toList.drop i := by
    intro n
    induction n with
    | zero =>
      intro i r h
      unfold ByteArray.toList.loop
      have hs : s.size = s.data.toList.length := Array.length_toList.symm
      rw [if_neg (by omega), List.drop_of_length_le (by omega), List.append_nil]
    | succ n ih =>
      intro i r h
      unfold ByteArray.toList.loop
      have hs : s.size = s.data.toList.length := Array.length_toList.symm
      have hi : i < s.data.toList.length := by omega
      rw [if_pos (by omega), ih _ _ (by omega), List.drop_eq_getElem_cons hi]
      simp [ByteArray.get!, Array.getElem!_eq_getD, Array.getD]
      rw [dif_pos (by omega)]
  unfold ByteArray.toList
  rw [loop _ 0 [] rfl]
  simp
theorem toList_inj {a b : ByteArray} (h : a.toList = b.toList) : a = b := by
  rw [toList_data, toList_data] at h
  exact ByteArray.ext (Array.toList_inj.mp h)

/-- One key stands ahead of another. -/
def lt (a b : ByteArray) : Bool := Op.bytesLess a.toList b.toList
theorem lt_irrefl (a : ByteArray) : lt a a = false := bl_irrefl _
theorem lt_trans {a b c : ByteArray} (h : lt a b = true) (k : lt b c = true) : lt a c = true := bl_trans h k
theorem lt_tri {a b : ByteArray} (h : lt a b = false) (k : lt b a = false) : a = b := toList_inj (bl_tri h k)
theorem lt_asymm {a b : ByteArray} (h : lt a b = true) : lt b a = false := by
  cases hb : lt b a with
  | false => rfl
  | true => rw [← lt_irrefl a, lt_trans h hb]
theorem lt_ne {a b : ByteArray} (h : lt a b = true) : a ≠ b := by
  rintro rfl
  rw [lt_irrefl] at h
  cases h


theorem toList_ne {a b : ByteArray} (h : ¬ a = b) : (a.toList == b.toList) = false := by
  rw [beq_eq_false_iff_ne]
  intro e
  exact h (toList_inj e)

/-! ### Tombstones -/

/-- A tombstone: its key, its index. -/
structure Tm where
  k : ByteArray
  n : Int
theorem Tm.ext' {a b : Tm} (h1 : a.k = b.k) (h2 : a.n = b.n) : a = b := by
  cases a
  cases b
  simp_all
instance : Inhabited Tm := ⟨⟨⟨#[]⟩, 0⟩⟩
def keys (L : List Tm) : List ByteArray := L.map (·.k)
def Rises (L : List Tm) : Prop := L.Pairwise fun p q => lt p.k q.k = true
theorem rises_nil : Rises [] := List.Pairwise.nil
theorem rises_append {A B : List Tm} : Rises (A ++ B) ↔ Rises A ∧ Rises B ∧ ∀ p ∈ A, ∀ q ∈ B, lt p.k q.k = true := List.pairwise_append
theorem rises_cons {p : Tm} {B : List Tm} : Rises (p :: B) ↔ (∀ q ∈ B, lt p.k q.k = true) ∧ Rises B := List.pairwise_cons
theorem Rises.filter {L : List Tm} (h : Rises L) (p : Tm → Bool) : Rises (L.filter p) := List.Pairwise.filter p h
theorem Rises.nodup {L : List Tm} (h : Rises L) : (keys L).Nodup := by
  unfold keys List.Nodup
  rw [List.pairwise_map]
  exact List.Pairwise.imp (fun h => lt_ne h) h
/-- Keys that rise. -/
def KRises (K : List ByteArray) : Prop := K.Pairwise fun p q => lt p q = true
theorem Rises.keys {L : List Tm} (h : Rises L) : KRises (keys L) := by
  unfold KRises Ytdmgmbjdocechaa.keys
  rw [List.pairwise_map]
  exact h
theorem krises_cons {p : ByteArray} {B : List ByteArray} : KRises (p :: B) ↔ (∀ q ∈ B, lt p q = true) ∧ KRises B := List.pairwise_cons
/-- Two lists of keys that rise and have the same keys are one. -/
theorem krises_one : ∀ {A B : List ByteArray}, KRises A → KRises B → (∀ q, q ∈ A ↔ q ∈ B) → A = B
  | [], [], _, _, _ => rfl
  | [], q :: _, _, _, h => absurd ((h q).mpr (by simp)) (by simp)
  | p :: _, [], _, _, h => absurd ((h p).mp (by simp)) (by simp)
  | p :: A, q :: B, ha, hb, h => by
    rw [krises_cons] at ha hb
    have e : p = q := by
      rcases List.mem_cons.mp ((h p).mp (by simp)) with e | h1
      · exact e
      · rcases List.mem_cons.mp ((h q).mpr (by simp)) with e | h2
        · exact e.symm
        · have h3 := lt_asymm (hb.1 p h1)
          rw [ha.1 q h2] at h3
          cases h3
    subst e
    congr 1
    refine krises_one ha.2 hb.2 fun x => ?_
    constructor
    · intro hx
      rcases List.mem_cons.mp ((h x).mp (List.mem_cons_of_mem _ hx)) with e | h1
      · subst e
        exact absurd rfl (lt_ne (ha.1 x hx))
      · exact h1
    · intro hx
      rcases List.mem_cons.mp ((h x).mpr (List.mem_cons_of_mem _ hx)) with e | h1
      · subst e
        exact absurd rfl (lt_ne (hb.1 x hx))
      · exact h1
/-- A key's tombstone. -/
def fnd (L : List Tm) (k : ByteArray) : Option Tm := L.find? fun x => decide (x.k = k)
def has (L : List Tm) (k : ByteArray) : Bool := (fnd L k).isSome
/-- A key's index, or 0. -/
def val (L : List Tm) (k : ByteArray) : Int :=
  match fnd L k with
  | some x => x.n
  | none => 0
theorem fnd_some {L : List Tm} {k : ByteArray} {x : Tm} (h : fnd L k = some x) : x ∈ L ∧ x.k = k := ⟨List.mem_of_find?_eq_some h, by simpa using List.find?_some h⟩
theorem fnd_none {L : List Tm} {k : ByteArray} : fnd L k = none ↔ k ∉ keys L := by
  unfold fnd keys
  rw [List.find?_eq_none]
  constructor
  · intro h hk
    obtain ⟨t, ht, e⟩ := List.mem_map.mp hk
    exact h t ht (by simpa using e)
  · intro h t ht e
    exact h (List.mem_map.mpr ⟨t, ht, by simpa using e⟩)
theorem has_iff {L : List Tm} {k : ByteArray} : has L k = true ↔ k ∈ keys L := by
  unfold has
  rw [Option.isSome_iff_ne_none, ne_eq, fnd_none, Classical.not_not]
theorem has_no {L : List Tm} {k : ByteArray} : has L k = false ↔ k ∉ keys L := by
  rw [← has_iff, Bool.not_eq_true]
theorem one_of_key {L : List Tm} (h : Rises L) {x y : Tm} (hx : x ∈ L) (hy : y ∈ L) (e : y.k = x.k) : y = x := by
  induction L with
  | nil => cases hx
  | cons a r ih =>
    rw [rises_cons] at h
    rcases List.mem_cons.mp hx with rfl | hx1
    · rcases List.mem_cons.mp hy with rfl | hy1
      · rfl
      · exact absurd e.symm (lt_ne (h.1 y hy1))
    · rcases List.mem_cons.mp hy with rfl | hy1
      · exact absurd e (lt_ne (h.1 x hx1))
      · exact ih h.2 hx1 hy1
theorem fnd_mem {L : List Tm} (h : Rises L) {x : Tm} (hx : x ∈ L) : fnd L x.k = some x := by
  cases hf : fnd L x.k with
  | none => exact absurd (List.mem_map_of_mem hx) (fnd_none.mp hf)
  | some y =>
    obtain ⟨h1, h2⟩ := fnd_some hf
    rw [one_of_key h hx h1 h2]
theorem val_mem {L : List Tm} (h : Rises L) {x : Tm} (hx : x ∈ L) : val L x.k = x.n := by simp [val, fnd_mem h hx]
/-- What stands at a key, by what is in the list. -/
theorem fnd_ext {L M : List Tm} {k : ByteArray} (hM : Rises M) (h : ∀ x, x.k = k → (x ∈ L ↔ x ∈ M)) : fnd L k = fnd M k := by
  cases hf : fnd L k with
  | none =>
    symm
    rw [fnd_none] at hf ⊢
    intro hk
    obtain ⟨x, hx, e⟩ := List.mem_map.mp hk
    exact hf (List.mem_map.mpr ⟨x, (h x e).mpr hx, e⟩)
  | some x =>
    obtain ⟨h1, h2⟩ := fnd_some hf
    have := fnd_mem hM ((h x h2).mp h1)
    rw [h2] at this
    exact this.symm
/-- A tombstone is set where it belongs, in the place of its key's. -/
def ins (L : List Tm) (t : Tm) : List Tm := L.filter (fun x => lt x.k t.k) ++ t :: L.filter (fun x => lt t.k x.k)
theorem mem_ins {L : List Tm} {t q : Tm} : q ∈ ins L t ↔ q = t ∨ (q ∈ L ∧ q.k ≠ t.k) := by
  unfold ins
  simp only [List.mem_append, List.mem_cons, List.mem_filter]
  constructor
  · rintro (h | h | h)
    · exact .inr ⟨h.1, lt_ne h.2⟩
    · exact .inl h
    · exact .inr ⟨h.1, fun e => lt_ne h.2 e.symm⟩
  · rintro (h | ⟨h, e⟩)
    · exact .inr (.inl h)
    · cases h1 : lt q.k t.k with
      | true => exact .inl ⟨h, rfl⟩
      | false =>
        cases h2 : lt t.k q.k with
        | true => exact .inr (.inr ⟨h, rfl⟩)
        | false => exact absurd (lt_tri h1 h2) e
theorem Rises.ins {L : List Tm} (h : Rises L) (t : Tm) : Rises (ins L t) := by
  unfold Ytdmgmbjdocechaa.ins
  refine rises_append.mpr ⟨h.filter _, rises_cons.mpr ⟨fun q hq => (List.mem_filter.mp hq).2, h.filter _⟩, fun p hp q hq => ?_⟩
  have h1 : lt p.k t.k = true := (List.mem_filter.mp hp).2
  rcases List.mem_cons.mp hq with rfl | hq
  · exact h1
  · exact lt_trans h1 (List.mem_filter.mp hq).2
theorem length_two {L : List Tm} {k : ByteArray} (h : k ∉ keys L) : (L.filter fun x => lt x.k k).length + (L.filter fun x => lt k x.k).length = L.length := by
  induction L with
  | nil => rfl
  | cons x r ih =>
    have hx : x.k ≠ k := fun e => h (by simp [keys, e])
    have hr := ih (fun hm => h (by simp [keys] at hm ⊢; exact .inr hm))
    cases h1 : lt x.k k with
    | true => simp [h1, lt_asymm h1]; omega
    | false =>
      cases h2 : lt k x.k with
      | true => simp [h1, h2]; omega
      | false => exact absurd (lt_tri h1 h2) hx
theorem length_ins_new {L : List Tm} {t : Tm} (h : t.k ∉ keys L) : (ins L t).length = L.length + 1 := by
  have := length_two h
  simp [ins]
  omega
theorem split_mem {L : List Tm} (h : Rises L) {x : Tm} (hx : x ∈ L) : L = L.filter (fun y => lt y.k x.k) ++ x :: L.filter (fun y => lt x.k y.k) := by
  induction L with
  | nil => cases hx
  | cons a r ih =>
    rw [rises_cons] at h
    rcases List.mem_cons.mp hx with rfl | hx1
    · have e1 : r.filter (fun y => lt y.k x.k) = [] := by
        rw [List.filter_eq_nil_iff]
        intro y hy
        rw [lt_asymm (h.1 y hy)]
        simp
      have e2 : r.filter (fun y => lt x.k y.k) = r := by
        rw [List.filter_eq_self]
        intro y hy
        exact h.1 y hy
      simp [lt_irrefl, e1, e2]
    · have h1 := h.1 x hx1
      have := ih h.2 hx1
      simp only [List.filter_cons, h1, lt_asymm h1, if_true, List.cons_append]
      simp
      exact this
theorem length_ins_old {L : List Tm} (h : Rises L) {t : Tm} (hk : t.k ∈ keys L) : (ins L t).length = L.length := by
  obtain ⟨x, hx, e⟩ := List.mem_map.mp hk
  conv => rhs; rw [split_mem h hx]
  simp only [ins, ← e, List.length_append, List.length_cons]
theorem fnd_ins_same {L : List Tm} (h : Rises L) (t : Tm) : fnd (ins L t) t.k = some t := fnd_mem (h.ins t) (mem_ins.mpr (.inl rfl))
theorem fnd_ins_other {L : List Tm} (h : Rises L) {t : Tm} {k : ByteArray} (hk : k ≠ t.k) : fnd (ins L t) k = fnd L k := by
  refine fnd_ext h fun x hx => ?_
  rw [mem_ins]
  constructor
  · rintro (rfl | h1)
    · exact absurd hx.symm hk
    · exact h1.1
  · exact fun h1 => .inr ⟨h1, by rw [hx]; exact hk⟩
/-- Without a key. -/
def drp (L : List Tm) (k : ByteArray) : List Tm := L.filter fun x => decide (x.k ≠ k)
theorem mem_drp {L : List Tm} {k : ByteArray} {q : Tm} : q ∈ drp L k ↔ q ∈ L ∧ q.k ≠ k := by simp [drp]
theorem Rises.drp {L : List Tm} (h : Rises L) (k : ByteArray) : Rises (drp L k) := h.filter _
theorem drp_none {L : List Tm} {k : ByteArray} (h : k ∉ keys L) : drp L k = L := by
  unfold drp
  rw [List.filter_eq_self]
  intro t ht
  simp only [decide_eq_true_eq]
  rintro rfl
  exact h (List.mem_map_of_mem ht)
theorem length_drp {L : List Tm} (h : Rises L) {k : ByteArray} (hk : k ∈ keys L) : (drp L k).length + 1 = L.length := by
  induction L with
  | nil => simp [keys] at hk
  | cons x r ih =>
    rw [rises_cons] at h
    by_cases e : x.k = k
    · have : drp r k = r := by
        refine drp_none fun hk' => ?_
        obtain ⟨y, hy, e'⟩ := List.mem_map.mp hk'
        exact lt_ne (h.1 y hy) (e.trans e'.symm)
      have e2 : drp (x :: r) k = drp r k := by simp [drp, e]
      rw [e2, this]
      rfl
    · have hr : k ∈ keys r := by
        simp only [keys, List.map_cons, List.mem_cons] at hk
        exact hk.resolve_left (fun e' => e e'.symm)
      have := ih h.2 hr
      unfold drp at this ⊢
      simp [e] at this ⊢
      omega
theorem fnd_drp_same (L : List Tm) (k : ByteArray) : fnd (drp L k) k = none := by
  rw [fnd_none]
  intro h
  obtain ⟨t, ht, rfl⟩ := List.mem_map.mp h
  exact (mem_drp.mp ht).2 rfl
theorem fnd_drp_other {L : List Tm} {k j : ByteArray} (h : j ≠ k) : fnd (drp L k) j = fnd L j := by
  unfold fnd drp
  rw [List.find?_filter]
  congr
  funext l
  by_cases e : l.k = j
  · simp [e, h]
  · simp [e]

/-! ### Who lives -/
/-- The names of those whose moments are as p says. -/
def sel (L : List Tm) (p : Int → Bool) : List ByteArray := keys (L.filter fun x => p x.n)
/-- Does one live that was heard of at n? -/
def liv (pat now n : Int) : Bool := decide (now - n < pat)
/-- Does one die at this moment that was heard of at n? -/
def die (pat now n : Int) : Bool := decide (now - n = pat)
def liveL (L : List Tm) (pat now : Int) : List ByteArray := sel L (liv pat now)
def dieL (L : List Tm) (pat now : Int) : List ByteArray := sel L (die pat now)
def alive (L : List Tm) (pat now : Int) (k : ByteArray) : Bool := has L k && decide (now - val L k < pat)
def beatL (L : List Tm) (now : Int) (k : ByteArray) : List Tm := if has L k then ins L ⟨k, now⟩ else L
def beatB (L : List Tm) (pat now : Int) (k : ByteArray) : Bool := has L k && !decide (now - val L k < pat)
def b2i (b : Bool) : Int := if b then 1 else 0
/-- A detector that is as it should be. -/
structure Good (L : List Tm) (pat now ch : Int) : Prop where
  rs : Rises L
  lo : ∀ x ∈ L, 0 ≤ x.n
  hi : ∀ x ∈ L, x.n ≤ now
  p1 : 1 ≤ pat
  n0 : 0 ≤ now
  c0 : 0 ≤ ch
theorem keys_length (L : List Tm) : (keys L).length = L.length := by simp [keys]
theorem sel_length (L : List Tm) (p : Int → Bool) : (sel L p).length ≤ L.length := by
  unfold sel
  rw [keys_length]
  exact List.length_filter_le _ _
theorem mem_sel {L : List Tm} {p : Int → Bool} {k : ByteArray} : k ∈ sel L p ↔ ∃ x ∈ L, x.k = k ∧ p x.n = true := by
  unfold sel keys
  rw [List.mem_map]
  constructor
  · rintro ⟨x, hx, rfl⟩
    obtain ⟨h1, h2⟩ := List.mem_filter.mp hx
    exact ⟨x, h1, rfl, h2⟩
  · rintro ⟨x, h1, rfl, h2⟩
    exact ⟨x, List.mem_filter.mpr ⟨h1, h2⟩, rfl⟩
theorem sel_krises {L : List Tm} (h : Rises L) (p : Int → Bool) : KRises (sel L p) := (h.filter _).keys
theorem mem_liveL {L : List Tm} (h : Rises L) {pat now : Int} {k : ByteArray} : k ∈ liveL L pat now ↔ alive L pat now k = true := by
  unfold liveL alive
  rw [mem_sel]
  constructor
  · rintro ⟨x, hx, rfl, h1⟩
    have h2 : has L x.k = true := has_iff.mpr (List.mem_map_of_mem hx)
    rw [val_mem h hx, h2]
    simpa [liv] using h1
  · intro h1
    rw [Bool.and_eq_true] at h1
    obtain ⟨x, hx, rfl⟩ := List.mem_map.mp (has_iff.mp h1.1)
    have h2 := h1.2
    rw [val_mem h hx] at h2
    exact ⟨x, hx, rfl, by simpa [liv] using h2⟩
theorem val_ins {L : List Tm} (h : Rises L) (t : Tm) (k : ByteArray) : val (ins L t) k = if k = t.k then t.n else val L k := by
  by_cases e : k = t.k
  · subst e
    simp [val, fnd_ins_same h]
  · simp [val, fnd_ins_other h e, e]
section
variable {L : List Tm} {pat now ch : Int}
theorem Good.val (h : Good L pat now ch) (k : ByteArray) : 0 ≤ val L k ∧ val L k ≤ now := by
  unfold Ytdmgmbjdocechaa.val
  cases hf : fnd L k with
  | none => exact ⟨Int.le_refl _, h.n0⟩
  | some x => exact ⟨h.lo x (fnd_some hf).1, h.hi x (fnd_some hf).1⟩
theorem beatL_length (h : Rises L) (now : Int) (k : ByteArray) : (beatL L now k).length = L.length := by
  unfold beatL
  split
  · rename_i h1
    exact length_ins_old h (has_iff.mp h1)
  · rfl
theorem Good.beat (h : Good L pat now ch) (k : ByteArray) : Good (beatL L now k) pat now (ch + b2i (beatB L pat now k)) := by
  have hc : 0 ≤ ch + b2i (beatB L pat now k) := by
    have := h.c0
    unfold b2i
    split <;> omega
  unfold beatL
  split
  · refine ⟨h.rs.ins _, fun x hx => ?_, fun x hx => ?_, h.p1, h.n0, hc⟩
    · rcases mem_ins.mp hx with rfl | hx
      · exact h.n0
      · exact h.lo x hx.1
    · rcases mem_ins.mp hx with rfl | hx
      · exact Int.le_refl _
      · exact h.hi x hx.1
  · exact ⟨h.rs, h.lo, h.hi, h.p1, h.n0, hc⟩
theorem Good.tick (h : Good L pat now ch) : Good L pat (now + 1) (ch + ((dieL L pat (now + 1)).length : Int)) :=
  ⟨h.rs, h.lo, fun x hx => by have := h.hi x hx; omega, h.p1, by have := h.n0; omega, by have := h.c0; omega⟩
end
theorem has_ins {L : List Tm} {t : Tm} {k : ByteArray} : has (ins L t) k = true ↔ k = t.k ∨ has L k = true := by
  rw [has_iff, has_iff]
  unfold keys
  rw [List.mem_map, List.mem_map]
  constructor
  · rintro ⟨x, hx, rfl⟩
    rcases mem_ins.mp hx with rfl | hx
    · exact .inl rfl
    · exact .inr ⟨x, hx.1, rfl⟩
  · rintro (rfl | ⟨x, hx, rfl⟩)
    · exact ⟨t, mem_ins.mpr (.inl rfl), rfl⟩
    · by_cases e : x.k = t.k
      · exact ⟨t, mem_ins.mpr (.inl rfl), e.symm⟩
      · exact ⟨x, mem_ins.mpr (.inr ⟨hx, e⟩), rfl⟩
theorem has_beatL {L : List Tm} {now : Int} {k j : ByteArray} : has (beatL L now k) j = has L j := by
  unfold beatL
  split
  · rename_i h
    rw [Bool.eq_iff_iff, has_ins]
    constructor
    · rintro (rfl | h1)
      · exact h
      · exact h1
    · exact .inr
  · rfl
/-- The nodes of a new detector. -/
def newL (l : List ByteArray) : List Tm := l.foldl (fun L k => ins L ⟨k, 0⟩) []
theorem newL_take {l : List ByteArray} {k : Nat} (h : k < l.length) : newL (l.take (k + 1)) = ins (newL (l.take k)) ⟨l[k], 0⟩ := by
  unfold newL
  rw [List.take_succ_eq_append_getElem h, List.foldl_append]
  rfl
theorem newL_ind (P : List Tm → Prop) (h0 : P []) (hs : ∀ L k, P L → P (ins L ⟨k, 0⟩)) (l : List ByteArray) : P (newL l) := by
  unfold newL
  have : ∀ (l : List ByteArray) (L : List Tm), P L → P (l.foldl (fun L k => ins L ⟨k, 0⟩) L) := by
    intro l
    induction l with
    | nil => exact fun L h => h
    | cons k r ih => exact fun L h => ih _ (hs L k h)
  exact this l [] h0
theorem newL_rises (l : List ByteArray) : Rises (newL l) := newL_ind Rises rises_nil (fun _ _ h => h.ins _) l
theorem newL_zero (l : List ByteArray) : ∀ x ∈ newL l, x.n = 0 := newL_ind (fun L => ∀ x ∈ L, x.n = 0) (by simp) (fun _ _ h x hx => by
  rcases mem_ins.mp hx with rfl | hx
  · rfl
  · exact h x hx.1) l
theorem newL_mem {l : List ByteArray} {x : Tm} (h : x ∈ newL l) : x.k ∈ l := by
  have : ∀ (l : List ByteArray) (L : List Tm), x ∈ l.foldl (fun L k => ins L ⟨k, 0⟩) L → x.k ∈ l ∨ x ∈ L := by
    intro l
    induction l with
    | nil => exact fun L h => .inr h
    | cons k r ih =>
      intro L h
      rcases ih _ h with h1 | h1
      · exact .inl (List.mem_cons_of_mem _ h1)
      · rcases mem_ins.mp h1 with rfl | h2
        · exact .inl (by simp)
        · exact .inr h2.1
  rcases this l [] h with h1 | h1
  · exact h1
  · cases h1
theorem ins_le (L : List Tm) (h : Rises L) (t : Tm) : (ins L t).length ≤ L.length + 1 := by
  by_cases hk : t.k ∈ keys L
  · rw [length_ins_old h hk]
    omega
  · rw [length_ins_new hk]
    omega
theorem newL_length : ∀ (l : List ByteArray), (newL l).length ≤ l.length := by
  intro l
  have : ∀ (k : Nat), k ≤ l.length → (newL (l.take k)).length ≤ k := by
    intro k
    induction k with
    | zero => intro _; simp [newL]
    | succ k ih =>
      intro hk
      rw [newL_take (by omega)]
      have := ins_le (newL (l.take k)) (newL_rises _) ⟨l[k], 0⟩
      have := ih (by omega)
      omega
  have := this l.length (Nat.le_refl _)
  rwa [List.take_length] at this
theorem newL_good (l : List ByteArray) (pat : Int) : Good (newL l) (max pat 1) 0 0 :=
  ⟨newL_rises l, fun x hx => by rw [newL_zero l x hx]; exact Int.le_refl _, fun x hx => by rw [newL_zero l x hx]; exact Int.le_refl _, by omega, Int.le_refl _, Int.le_refl _⟩
end Go.Proofs.Ytdmgmbjdocechaa
