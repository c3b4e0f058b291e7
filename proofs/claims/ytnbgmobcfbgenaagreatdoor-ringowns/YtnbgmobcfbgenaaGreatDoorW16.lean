/-
  A row of texts that is written in place: two of them change places. Its conditions: the row is the call's own.
-/
import Derived.Test.YtnbgmobcfbgenaaGreatDoorW12
namespace Go.Proofs.YtnbgmobcfbgenaaGreatDoor
open Go.RowKit Go.Maps
open Go.Sort (grow)

theorem Enc.vals_set {α : Type} (E : Enc α) {l : List α} {k : Nat} (hk : k < l.length) {x' : α} {i : Nat} {u : Value} (hi : i < E.wd) (hx : E.f x' = (E.f l[k]).set i u) : E.vals (l.set k x') = (E.vals l).set (k * E.wd + i) u := by
  induction l generalizing k with
  | nil => simp at hk
  | cons s r ih =>
    have e : ∀ t q, E.vals (t :: q) = E.f t ++ E.vals q := fun t q => by simp [Enc.vals]
    cases k with
    | zero =>
      simp only [List.set_cons_zero, e]
      rw [List.getElem_cons_zero] at hx
      rw [hx, List.set_append_left _ _ (by rw [E.len]; omega), Nat.zero_mul, Nat.zero_add]
    | succ k =>
      simp only [List.set_cons_succ, e]
      rw [List.getElem_cons_succ] at hx
      rw [ih (by simpa using hk) hx, List.set_append_right _ _ (by rw [E.len, Nat.succ_mul]; omega), E.len, show (k + 1) * E.wd + i - E.wd = k * E.wd + i by rw [Nat.succ_mul]; omega]
theorem RowT.set {α : Type} {E : Enc α} {e : TypeId} {w : World} {base g cap k i off n : Nat} {l : List α} {x' : α} {u : Value} (h : RowT E e w base (.slice (some ⟨g, off, none⟩) n cap) l) (hn : l.length = n) (hk : k < l.length) (hi : i < E.wd) (hx : E.f x' = (E.f l[k]).set i u) :
    RowT E e (w.setCell ⟨g, off + k * E.wd + i, none⟩ u) base (.slice (some ⟨g, off, none⟩) n cap) (l.set k x') ∧ (∃ cs, w.heap[g]? = some (.cells cs e (0, 0))) ∧ base ≤ g := by
  subst hn
  obtain ⟨h1, h2⟩ := h
  rcases h2 with ⟨h2, _⟩ | ⟨g', cap', cur, hv, hb, hg, hle, hcm, hcs, htk⟩
  · cases h2
  · cases hv
    refine ⟨⟨?_, .inr ⟨g, cap, cur.setIfInBounds (k * E.wd + i) u, by rw [List.length_set], hb, ?_, by rw [List.length_set]; exact hle, hcm, by simp [hcs], ?_⟩⟩, ⟨cur, hg⟩, hb⟩
    · rw [List.length_set, E.vals_set hk hi hx, List.length_set]
      exact h1
    · simp [World.setCell, Array.getElem?_modify, hg]
    · rw [List.length_set, E.vals_set hk hi hx, Array.toList_setIfInBounds, List.take_set, htk]
/-- One text is written. -/
theorem row_put {w : World} {base g off cap n k : Nat} {l : List ByteArray} (h : RowT eKy 9 w base (.slice (some ⟨g, off, none⟩) n cap) l) (hn : l.length = n) (hk : k < l.length) (y : ByteArray) :
    RowT eKy 9 (w.setCell ⟨g, off + k, none⟩ (.string y)) base (.slice (some ⟨g, off, none⟩) n cap) (l.set k y) ∧ Fr [9] [] base w (w.setCell ⟨g, off + k, none⟩ (.string y)) ∧ w.frozen? ⟨g, off + k, none⟩ = false := by
  have h1 := h.set (i := 0) (x' := y) (u := .string y) hn hk (by decide) rfl
  rw [show eKy.wd = 1 from rfl, Nat.mul_one, Nat.add_zero] at h1
  obtain ⟨h2, ⟨cs, hcs⟩, h4⟩ := h1
  exact ⟨h2, (Fr.refl _ _ _ _).set hcs (.inl (by simp [kd])) h4 _, by simp [World.frozen?, hcs]⟩
/-- Two texts change places. -/
theorem row_swap {w : World} {base g off cap n i j : Nat} {l : List ByteArray} (h : RowT eKy 9 w base (.slice (some ⟨g, off, none⟩) n cap) l) (hn : l.length = n) (hi : i < l.length) (hj : j < l.length) :
    RowT eKy 9 ((w.setCell ⟨g, off + i, none⟩ (.string l[j])).setCell ⟨g, off + j, none⟩ (.string l[i])) base (.slice (some ⟨g, off, none⟩) n cap) ((l.set i l[j]).set j l[i]) ∧
      Fr [9] [] base w ((w.setCell ⟨g, off + i, none⟩ (.string l[j])).setCell ⟨g, off + j, none⟩ (.string l[i])) ∧
      w.frozen? ⟨g, off + i, none⟩ = false ∧ (w.setCell ⟨g, off + i, none⟩ (.string l[j])).frozen? ⟨g, off + j, none⟩ = false := by
  obtain ⟨h1, f1, z1⟩ := row_put h hn hi l[j]
  obtain ⟨h2, f2, z2⟩ := row_put h1 (by rw [List.length_set]; exact hn) (k := j) (by rw [List.length_set]; exact hj) l[i]
  exact ⟨h2, f1.trans f2, z1, z2⟩
theorem mem_swap {l : List ByteArray} {i j : Nat} (hi : i < l.length) (hj : j < l.length) (q : ByteArray) : q ∈ (l.set i l[j]).set j l[i] ↔ q ∈ l := by
  constructor
  · intro h
    rcases List.mem_or_eq_of_mem_set h with h | rfl
    · rcases List.mem_or_eq_of_mem_set h with h | rfl
      · exact h
      · exact List.getElem_mem hj
    · exact List.getElem_mem hi
  · intro h
    obtain ⟨t, ht, rfl⟩ := List.mem_iff_getElem.mp h
    rw [List.mem_iff_getElem]
    by_cases e1 : t = i
    · subst e1
      exact ⟨j, by simp [hj], by simp⟩
    · by_cases e2 : t = j
      · subst e2
        refine ⟨i, by simp [hi], ?_⟩
        rw [List.getElem_set_ne (fun e => e1 e), List.getElem_set_self]
      · refine ⟨t, by simp [ht], ?_⟩
        rw [List.getElem_set_ne (fun e => e2 e.symm), List.getElem_set_ne (fun e => e1 e.symm)]
end Go.Proofs.YtnbgmobcfbgenaaGreatDoor
