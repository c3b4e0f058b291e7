/-
  Plain mathematics: texts that are put in their order by one pass after another. Its conditions: none.
-/
import Derived.Test.YtnbgmobcfbgenaaGreatDoorMath
namespace Go.Proofs.YtnbgmobcfbgenaaGreatDoor

/-- A text is carried along, past those that are less. -/
def pc (x : ByteArray) : List ByteArray → List ByteArray
  | [] => [x]
  | y :: r => if lt y x then y :: pc x r else x :: pc y r
def pass : List ByteArray → List ByteArray
  | [] => []
  | x :: r => pc x r
theorem pc_perm : ∀ (r : List ByteArray) (x : ByteArray), (pc x r).Perm (x :: r)
  | [], _ => List.Perm.refl _
  | y :: r, x => by
    unfold pc
    split
    · exact ((pc_perm r x).cons y).trans (List.Perm.swap x y r)
    · exact (pc_perm r y).cons x
theorem pass_perm (L : List ByteArray) : (pass L).Perm L := by
  cases L with
  | nil => exact List.Perm.refl _
  | cons x r => exact pc_perm r x
theorem pc_rises : ∀ (B : List ByteArray) (x : ByteArray), (∀ b ∈ B, lt x b = true) → KRises B → pc x B = x :: B
  | [], _, _, _ => rfl
  | y :: r, x, h, hB => by
    rw [krises_cons] at hB
    unfold pc
    rw [lt_asymm (h y (by simp)), if_neg (by simp), pc_rises r y hB.1 hB.2]
theorem pc_split : ∀ (A : List ByteArray) (x : ByteArray) (B : List ByteArray), (∀ a ∈ x :: A, ∀ b ∈ B, lt a b = true) → KRises B → (x :: A).Nodup → ∃ A' m, pc x (A ++ B) = A' ++ m :: B ∧ (A' ++ [m]).Perm (x :: A) ∧ ∀ a ∈ A', lt a m = true
  | [], x, B, h, hB, _ => ⟨[], x, pc_rises B x (h x (by simp)) hB, List.Perm.refl _, by simp⟩
  | y :: r, x, B, h, hB, hn => by
    obtain ⟨n1, n2⟩ := List.nodup_cons.mp hn
    obtain ⟨n3, n4⟩ := List.nodup_cons.mp n2
    rw [List.cons_append]
    unfold pc
    cases hl : lt y x with
    | true =>
      rw [if_pos rfl]
      obtain ⟨A', m, e, hp, hm⟩ := pc_split r x B (fun a ha => h a (by simp only [List.mem_cons] at ha ⊢; rcases ha with h | h; exact .inl h; exact .inr (.inr h))) hB (List.nodup_cons.mpr ⟨fun hx => n1 (by simp [hx]), n4⟩)
      refine ⟨y :: A', m, by rw [e, List.cons_append], ?_, ?_⟩
      · rw [List.cons_append]
        exact (hp.cons y).trans (List.Perm.swap x y r)
      · intro a ha
        rcases List.mem_cons.mp ha with rfl | ha
        · have hx : x ∈ A' ++ [m] := hp.mem_iff.mpr (by simp)
          rcases List.mem_append.mp hx with hx | hx
          · exact lt_trans hl (hm x hx)
          · rw [← List.mem_singleton.mp hx]
            exact hl
        · exact hm a ha
    | false =>
      rw [if_neg (by simp)]
      have hxy : lt x y = true := lt_other hl (fun e => n1 (by simp [e]))
      obtain ⟨A', m, e, hp, hm⟩ := pc_split r y B (fun a ha => h a (by simp only [List.mem_cons] at ha ⊢; exact .inr ha)) hB n2
      refine ⟨x :: A', m, by rw [e, List.cons_append], ?_, ?_⟩
      · rw [List.cons_append]
        exact hp.cons x
      · intro a ha
        rcases List.mem_cons.mp ha with rfl | ha
        · have hx : y ∈ A' ++ [m] := hp.mem_iff.mpr (by simp)
          rcases List.mem_append.mp hx with hx | hx
          · exact lt_trans hxy (hm y hx)
          · rw [← List.mem_singleton.mp hx]
            exact hxy
        · exact hm a ha
/-- The last i are in their place. -/
def Bub (i : Nat) (L : List ByteArray) : Prop := ∃ A B, L = A ++ B ∧ B.length = i ∧ KRises B ∧ ∀ a ∈ A, ∀ b ∈ B, lt a b = true
theorem bub_zero (L : List ByteArray) : Bub 0 L := ⟨L, [], by simp, rfl, List.Pairwise.nil, by simp⟩
theorem bub_step {i : Nat} {L : List ByteArray} (h : Bub i L) (hn : L.Nodup) (hi : i < L.length) : Bub (i + 1) (pass L) := by
  obtain ⟨A, B, rfl, hl, hB, hAB⟩ := h
  cases A with
  | nil =>
    simp at hi
    omega
  | cons x A =>
    have hnA : (x :: A).Nodup := (List.nodup_append.mp hn).1
    obtain ⟨A', m, e, hp, hm⟩ := pc_split A x B hAB hB hnA
    refine ⟨A', m :: B, e, by simp [hl], ?_, ?_⟩
    · rw [krises_cons]
      exact ⟨hAB m (hp.mem_iff.mp (by simp)), hB⟩
    · intro a ha b hb
      rcases List.mem_cons.mp hb with rfl | hb
      · exact hm a ha
      · exact hAB a (hp.mem_iff.mp (by simp [ha])) b hb
theorem bub_all {L : List ByteArray} (h : Bub L.length L) : KRises L := by
  obtain ⟨A, B, e, hl, hB, _⟩ := h
  have : A = [] := by
    have := congrArg List.length e
    rw [List.length_append] at this
    exact List.eq_nil_of_length_eq_zero (by omega)
  rw [e, this]
  exact hB
/-- One pass under way: k are behind. -/
structure PassI (L0 : List ByteArray) (k : Nat) (M : List ByteArray) : Prop where
  out : ∃ P x r, M = P ++ x :: r ∧ P.length = k ∧ P ++ pc x r = pass L0
theorem PassI.init {L0 : List ByteArray} (h : 0 < L0.length) : PassI L0 0 L0 := by
  cases L0 with
  | nil => simp at h
  | cons x r => exact ⟨[], x, r, rfl, rfl, rfl⟩
theorem PassI.stay {L0 M : List ByteArray} {k : Nat} (h : PassI L0 k M) (hk : k + 1 < M.length) (hl : lt M[k + 1] M[k] = false) : PassI L0 (k + 1) M := by
  obtain ⟨P, x, r, rfl, hP, e⟩ := h.out
  cases r with
  | nil => simp at hk; omega
  | cons y r =>
    have e1 : (P ++ x :: y :: r)[k] = x := by simp [← hP]
    have e2 : (P ++ x :: y :: r)[k + 1] = y := by simp [← hP]
    rw [e1, e2] at hl
    refine ⟨P ++ [x], y, r, by simp, by simp [hP], ?_⟩
    rw [← e]
    conv => rhs; unfold pc
    rw [hl]
    simp
theorem PassI.swap {L0 M : List ByteArray} {k : Nat} (h : PassI L0 k M) (hk : k + 1 < M.length) (hl : lt M[k + 1] M[k] = true) : PassI L0 (k + 1) ((M.set k M[k + 1]).set (k + 1) M[k]) := by
  obtain ⟨P, x, r, rfl, hP, e⟩ := h.out
  cases r with
  | nil => simp at hk; omega
  | cons y r =>
    have e1 : (P ++ x :: y :: r)[k] = x := by simp [← hP]
    have e2 : (P ++ x :: y :: r)[k + 1] = y := by simp [← hP]
    rw [e1, e2] at hl ⊢
    have e3 : ((P ++ x :: y :: r).set k y).set (k + 1) x = P ++ y :: x :: r := by
      rw [List.set_append_right _ _ (by omega), List.set_append_right _ _ (by omega), hP, Nat.sub_self, show k + 1 - k = 1 by omega]
      rfl
    rw [e3]
    refine ⟨P ++ [y], x, r, by simp, by simp [hP], ?_⟩
    rw [← e]
    conv => rhs; unfold pc
    rw [hl]
    simp
theorem PassI.done {L0 M : List ByteArray} {k : Nat} (h : PassI L0 k M) (hk : M.length ≤ k + 1) : M = pass L0 := by
  obtain ⟨P, x, r, rfl, hP, e⟩ := h.out
  have : r = [] := List.eq_nil_of_length_eq_zero (by simp at hk; omega)
  subst this
  exact e
theorem PassI.len {L0 M : List ByteArray} {k : Nat} (h : PassI L0 k M) : M.length = L0.length := by
  obtain ⟨P, x, r, rfl, hP, e⟩ := h.out
  have h1 := (pass_perm L0).length_eq
  rw [← e] at h1
  rw [← h1, List.length_append, List.length_append, (pc_perm r x).length_eq]
end Go.Proofs.YtnbgmobcfbgenaaGreatDoor
