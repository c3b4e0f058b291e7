/-
  Plain mathematics: where a key stands in a list of pairs that rises, and what is set, deleted and told there. Its conditions: the list rises.
-/
import Derived.Test.YtpapbboihjhmiaaMath
namespace Go.Proofs.Ytpapbboihjhmiaa

/-- Where a key stands, or would. -/
def place : List KV → ByteArray → Nat
  | [], _ => 0
  | p :: L, k => if lt p.1 k then place L k + 1 else 0
theorem place_le (L : List KV) (k : ByteArray) : place L k ≤ L.length := by
  induction L with
  | nil => exact Nat.le_refl _
  | cons p L ih =>
    unfold place
    split
    · simp; omega
    · exact Nat.zero_le _
theorem place_less (L : List KV) (k : ByteArray) (j : Nat) (p : KV) (hj : j < place L k) (hp : L[j]? = some p) : lt p.1 k = true := by
  induction L generalizing j with
  | nil => cases hp
  | cons q L ih =>
    unfold place at hj
    split at hj
    · rename_i h
      cases j with
      | zero => simp at hp; subst hp; exact h
      | succ j => exact ih j (by omega) (by simpa using hp)
    · omega
theorem place_not (L : List KV) (k : ByteArray) (p : KV) (hp : L[place L k]? = some p) : lt p.1 k = false := by
  induction L with
  | nil => cases hp
  | cons q L ih =>
    unfold place at hp
    split at hp
    · exact ih (by simpa using hp)
    · rename_i h
      simp at hp
      subst hp
      simpa using h
theorem from_place (L : List KV) (k : ByteArray) : lfrom L k = L[place L k]? := by
  induction L with
  | nil => rfl
  | cons q L ih =>
    unfold place lfrom
    rw [List.find?_cons]
    cases h : lt q.1 k with
    | true => simpa [lfrom] using ih
    | false => simp
/-- Whether it stands there. -/
def stands (L : List KV) (k : ByteArray) : Prop := ∃ p, L[place L k]? = some p ∧ p.1 = k
theorem has_stands {L : List KV} (hr : Rises L) (k : ByteArray) : lhas L k = true ↔ stands L k := by
  constructor
  · intro h
    obtain ⟨p, hp, rfl⟩ := lhas_iff.mp h
    induction L with
    | nil => cases hp
    | cons q L ih =>
      rw [rises_cons] at hr
      rcases List.mem_cons.mp hp with rfl | hp
      · refine ⟨p, ?_, rfl⟩
        unfold place
        rw [if_neg (by simp [lt_irrefl])]
        rfl
      · obtain ⟨x, h1, h2⟩ := ih hr.2 hp (lhas_iff.mpr ⟨p, hp, rfl⟩)
        refine ⟨x, ?_, h2⟩
        unfold place
        rw [if_pos (hr.1 p hp)]
        simpa using h1
  · rintro ⟨p, hp, rfl⟩
    exact lhas_iff.mpr ⟨p, List.mem_of_getElem? hp, rfl⟩
theorem has_at {L : List KV} (hr : Rises L) {k : ByteArray} {p : KV} (hp : L[place L k]? = some p) : lhas L k = decide (p.1 = k) := by
  by_cases e : p.1 = k
  · rw [decide_eq_true e]
    exact (has_stands hr k).mpr ⟨p, hp, e⟩
  · rw [decide_eq_false e]
    cases h : lhas L k with
    | false => rfl
    | true =>
      obtain ⟨q, h1, h2⟩ := (has_stands hr k).mp h
      rw [hp] at h1
      injection h1 with h1
      subst h1
      exact absurd h2 e
theorem has_end {L : List KV} (hr : Rises L) {k : ByteArray} (hp : L.length ≤ place L k) : lhas L k = false := by
  cases h : lhas L k with
  | false => rfl
  | true =>
    obtain ⟨q, h1, h2⟩ := (has_stands hr k).mp h
    rw [List.getElem?_eq_none hp] at h1
    cases h1
theorem set_here {L : List KV} {k : ByteArray} (v : Int) (hs : stands L k) : lset L k v = L.set (place L k) (k, v) := by
  obtain ⟨p, hp, hk⟩ := hs
  induction L with
  | nil => cases hp
  | cons q L ih =>
    unfold place at hp ⊢
    unfold lset
    cases h : lt q.1 k with
    | true =>
      rw [h] at hp
      simp only [if_true] at hp ⊢
      rw [lt_asymm h]
      simp only [Bool.false_eq_true, if_false]
      rw [ih (by simpa using hp)]
      rfl
    | false =>
      rw [h] at hp
      simp at hp
      subst hp
      subst hk
      simp [lt_irrefl]
theorem set_new {L : List KV} {k : ByteArray} (v : Int) (hr : Rises L) (hs : lhas L k = false) : lset L k v = L.take (place L k) ++ (k, v) :: L.drop (place L k) := by
  induction L with
  | nil => rfl
  | cons q L ih =>
    rw [rises_cons] at hr
    rw [lhas_false] at hs
    unfold place lset
    cases h : lt q.1 k with
    | true =>
      rw [lt_asymm h]
      simp only [Bool.false_eq_true, if_false, if_true]
      rw [ih hr.2 (lhas_false.mpr fun p hp => hs p (List.mem_cons_of_mem _ hp))]
      simp
    | false =>
      have : lt k q.1 = true := by
        cases h2 : lt k q.1 with
        | true => rfl
        | false => exact absurd (lt_tri h h2) (hs q List.mem_cons_self)
      simp [this]
theorem del_here {L : List KV} {k : ByteArray} (hr : Rises L) (hs : stands L k) : ldel L k = L.take (place L k) ++ L.drop (place L k + 1) := by
  obtain ⟨p, hp, hk⟩ := hs
  induction L with
  | nil => cases hp
  | cons q L ih =>
    have hr' := hr
    rw [rises_cons] at hr
    unfold place at hp ⊢
    cases h : lt q.1 k with
    | true =>
      rw [h] at hp
      simp only [if_true] at hp ⊢
      have e : ldel (q :: L) k = q :: ldel L k := by simp [ldel, lt_ne h]
      rw [e, ih hr.2 (by simpa using hp)]
      simp
    | false =>
      rw [h] at hp
      simp at hp
      subst hp
      subst hk
      have e : ldel (q :: L) q.1 = ldel L q.1 := by simp [ldel]
      rw [e, ldel_off (lhas_false.mpr fun x hx => (lt_ne (hr.1 x hx)).symm)]
      simp
end Go.Proofs.Ytpapbboihjhmiaa
