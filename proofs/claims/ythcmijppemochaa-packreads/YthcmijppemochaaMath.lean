/-
  Plain mathematics of pack: a number's digits to the base 128, and that bytes begin with a number's digits just as the program reads them. Its conditions: none.
-/
namespace Go.Proofs.Ythcmijppemochaa.Pk

/-- The greatest number. -/
def most : Nat := 9007199254740992
/-- A number's bytes. -/
def digits (n : Nat) : List Nat := if h : n < 128 then [n] else (n % 128 + 128) :: digits (n / 128)
termination_by n
decreasing_by omega
theorem digits_small {n : Nat} (h : n < 128) : digits n = [n] := by rw [digits, dif_pos h]
theorem digits_great {n : Nat} (h : ¬ n < 128) : digits n = (n % 128 + 128) :: digits (n / 128) := by rw [digits, dif_neg h]
theorem digits_lt (n : Nat) : ∀ c ∈ digits n, c < 256 := by
  induction n using Nat.strongRecOn with
  | ind n ih =>
    intro c hc
    by_cases h : n < 128
    · rw [digits_small h] at hc
      simp at hc
      omega
    · rw [digits_great h] at hc
      rcases List.mem_cons.mp hc with rfl | hc
      · omega
      · exact ih (n / 128) (by omega) c hc
theorem digits_ne (n : Nat) : digits n ≠ [] := by
  by_cases h : n < 128
  · rw [digits_small h]; simp
  · rw [digits_great h]; simp
theorem digits_length_le (k n : Nat) (h : n < 128 ^ (k + 1)) : (digits n).length ≤ k + 1 := by
  induction k generalizing n with
  | zero =>
    have : n < 128 := by simpa using h
    rw [digits_small this]
    simp
  | succ k ih =>
    by_cases hn : n < 128
    · rw [digits_small hn]; simp
    · rw [digits_great hn, List.length_cons]
      have : n / 128 < 128 ^ (k + 1) := by
        rw [Nat.div_lt_iff_lt_mul (by omega)]
        rw [Nat.pow_succ] at h
        exact h
      have := ih _ this
      omega
theorem digits_length_most {n : Nat} (h : n ≤ most) : (digits n).length ≤ 8 := digits_length_le 7 n (by unfold most at h; simp only [Nat.reduceAdd, Nat.reducePow]; omega)

/-- What bytes stand for, as digits, the lowest first. -/
def val : List Nat → Nat
  | [] => 0
  | c :: l => c % 128 + 128 * val l
theorem val_digits (n : Nat) : val (digits n) = n := by
  induction n using Nat.strongRecOn with
  | ind n ih =>
    by_cases h : n < 128
    · rw [digits_small h]
      simp [val]
      omega
    · rw [digits_great h]
      simp only [val]
      rw [ih (n / 128) (by omega)]
      omega
theorem val_append (l m : List Nat) : val (l ++ m) = val l + 128 ^ l.length * val m := by
  induction l with
  | nil => simp [val]
  | cons c l ih =>
    simp only [List.cons_append, val, ih, List.length_cons, Nat.pow_succ]
    rw [Nat.mul_add, ← Nat.mul_assoc, Nat.mul_comm (128 ^ l.length) 128]
    omega
theorem val_lt (l : List Nat) : val l < 128 ^ l.length := by
  induction l with
  | nil => simp [val]
  | cons c l ih =>
    simp only [val, List.length_cons, Nat.pow_succ]
    omega
theorem val_snoc (l : List Nat) (c : Nat) : val (l ++ [c]) = val l + 128 ^ l.length * (c % 128) := by
  rw [val_append]
  simp [val]

/-- Bytes that are a number's as few as can be: all but the last have 128 added, the last hasn't, and is 0 only alone. -/
def Good (l : List Nat) (c : Nat) : Prop := (∀ x ∈ l, 128 ≤ x ∧ x < 256) ∧ c < 128 ∧ (l ≠ [] → c ≠ 0)
theorem digits_of_good (l : List Nat) (c : Nat) (h : Good l c) : digits (val (l ++ [c])) = l ++ [c] := by
  induction l with
  | nil =>
    have h2 := h.2.1
    have : val [c] = c := by simp [val]; omega
    rw [List.nil_append, this, digits_small h2]
  | cons x l ih =>
    obtain ⟨h1, h2, h3⟩ := h
    have hx := h1 x (by simp)
    have hg : Good l c := ⟨fun y hy => h1 y (List.mem_cons_of_mem _ hy), h2, fun _ => h3 (by simp)⟩
    have hp : 0 < val (l ++ [c]) := by
      rw [val_snoc]
      have hc := h3 (by simp)
      have : 0 < 128 ^ l.length := Nat.pow_pos (by omega)
      have : 0 < 128 ^ l.length * (c % 128) := Nat.mul_pos this (by omega)
      omega
    rw [List.cons_append]
    simp only [val]
    rw [digits_great (by omega)]
    congr 1
    · omega
    · rw [show (x % 128 + 128 * val (l ++ [c])) / 128 = val (l ++ [c]) by omega]
      exact ih hg
theorem good_of_digits (n : Nat) : ∃ l c, digits n = l ++ [c] ∧ Good l c ∧ (0 < n → c ≠ 0) := by
  induction n using Nat.strongRecOn with
  | ind n ih =>
    by_cases h : n < 128
    · exact ⟨[], n, by rw [digits_small h]; rfl, ⟨by simp, h, by simp⟩, by omega⟩
    · obtain ⟨l, c, h1, ⟨g1, g2, g3⟩, h3⟩ := ih (n / 128) (by omega)
      refine ⟨(n % 128 + 128) :: l, c, by rw [digits_great h, h1]; rfl, ⟨?_, g2, fun _ => h3 (by omega)⟩, fun _ => h3 (by omega)⟩
      intro x hx
      rcases List.mem_cons.mp hx with rfl | hx
      · omega
      · exact g1 x hx

/-- How many bytes stand ahead that have 128 added. -/
def lead : List Nat → Nat
  | [] => 0
  | c :: l => if 128 ≤ c then lead l + 1 else 0
theorem lead_le (L : List Nat) : lead L ≤ L.length := by
  induction L with
  | nil => simp [lead]
  | cons c l ih =>
    simp only [lead, List.length_cons]
    split <;> omega
theorem lead_append (l : List Nat) (c : Nat) (R : List Nat) (hl : ∀ x ∈ l, 128 ≤ x) (hc : c < 128) : lead (l ++ c :: R) = l.length := by
  induction l with
  | nil => simp [lead]; omega
  | cons x l ih =>
    simp only [List.cons_append, lead, List.length_cons]
    rw [if_pos (hl x (by simp)), ih (fun y hy => hl y (List.mem_cons_of_mem _ hy))]
theorem lead_split (L : List Nat) (h : lead L < L.length) : ∃ l c R, L = l ++ c :: R ∧ (∀ x ∈ l, 128 ≤ x) ∧ c < 128 ∧ l.length = lead L := by
  induction L with
  | nil => simp at h
  | cons x L ih =>
    simp only [lead, List.length_cons] at h ⊢
    by_cases hx : 128 ≤ x
    · rw [if_pos hx] at h ⊢
      obtain ⟨l, c, R, h1, h2, h3, h4⟩ := ih (by omega)
      refine ⟨x :: l, c, R, by rw [h1]; rfl, ?_, h3, by rw [List.length_cons, h4]⟩
      intro y hy
      rcases List.mem_cons.mp hy with rfl | hy
      · exact hx
      · exact h2 y hy
    · rw [if_neg hx] at h ⊢
      exact ⟨[], x, L, rfl, by simp, by omega, rfl⟩
theorem lead_at (L : List Nat) (i : Nat) (h : i < lead L) (hL : i < L.length) : 128 ≤ L[i] := by
  induction L generalizing i with
  | nil => simp at hL
  | cons x L ih =>
    simp only [lead] at h
    split at h
    · cases i with
      | zero => simpa
      | succ i => exact ih i (by omega) (by simpa using hL)
    · omega
theorem lead_gt (L : List Nat) (i : Nat) (h : ∀ (j : Nat) (hj : j < L.length), j ≤ i → 128 ≤ L[j]) (hi : i < L.length) : i < lead L := by
  induction L generalizing i with
  | nil => simp at hi
  | cons x L ih =>
    have hx := h 0 (by simp) (by omega)
    simp only [List.getElem_cons_zero] at hx
    simp only [lead]
    rw [if_pos hx]
    cases i with
    | zero => omega
    | succ i =>
      have := ih i (fun j hj hji => by have := h (j + 1) (by simpa using hj) (by omega); simpa using this) (by simpa using hi)
      omega

/-- The number that stands first, and what is left behind it. -/
def numOf (L : List Nat) : Option (Nat × List Nat) :=
  if lead L < L.length ∧ lead L < 8 ∧ val (L.take (lead L + 1)) ≤ most ∧ ¬ (L.getD (lead L) 0 = 0 ∧ 0 < lead L) then some (val (L.take (lead L + 1)), L.drop (lead L + 1)) else none
theorem numOf_digits (n : Nat) (R : List Nat) (h : n ≤ most) : numOf (digits n ++ R) = some (n, R) := by
  obtain ⟨l, c, h1, ⟨g1, g2, g3⟩, _⟩ := good_of_digits n
  have hlen := digits_length_most h
  rw [h1] at hlen ⊢
  simp only [List.length_append, List.length_singleton] at hlen
  have e : (l ++ [c]) ++ R = l ++ c :: R := by simp
  have hlead : lead ((l ++ [c]) ++ R) = l.length := by rw [e]; exact lead_append l c R (fun x hx => (g1 x hx).1) g2
  have htake : ((l ++ [c]) ++ R).take (l.length + 1) = l ++ [c] := by
    rw [show l.length + 1 = (l ++ [c]).length by simp]
    exact List.take_left
  have hdrop : ((l ++ [c]) ++ R).drop (l.length + 1) = R := by
    rw [show l.length + 1 = (l ++ [c]).length by simp]
    exact List.drop_left
  have hget : ((l ++ [c]) ++ R).getD l.length 0 = c := by rw [e]; simp
  have hv : val (l ++ [c]) = n := by rw [← h1, val_digits]
  unfold numOf
  rw [hlead, htake, hdrop, hget, hv, if_pos]
  refine ⟨by simp, by omega, h, fun ⟨h0, hp⟩ => g3 ?_ h0⟩
  intro hl
  rw [hl] at hp
  simp at hp
theorem numOf_some {L : List Nat} {n : Nat} {R : List Nat} (hb : ∀ x ∈ L, x < 256) (h : numOf L = some (n, R)) : n ≤ most ∧ L = digits n ++ R := by
  unfold numOf at h
  split at h
  · rename_i hc
    obtain ⟨c1, c2, c3, c4⟩ := hc
    injection h with h
    injection h with h1 h2
    obtain ⟨l, c, R', e1, e2, e3, e4⟩ := lead_split L c1
    have htake : L.take (lead L + 1) = l ++ [c] := by
      rw [← e4, e1, show l ++ c :: R' = (l ++ [c]) ++ R' by simp, show l.length + 1 = (l ++ [c]).length by simp]
      exact List.take_left
    have hget : L.getD (lead L) 0 = c := by rw [← e4, e1]; simp
    rw [hget] at c4
    have hg : Good l c := ⟨fun x hx => ⟨e2 x hx, hb x (by rw [e1]; exact List.mem_append_left _ hx)⟩, e3, fun hl h0 => c4 ⟨h0, by
      rw [← e4]
      exact List.length_pos_iff.mpr hl⟩⟩
    have hd := digits_of_good l c hg
    rw [← htake, h1] at hd
    refine ⟨by omega, ?_⟩
    rw [hd, ← h2, List.take_append_drop]
  · cases h

theorem digits_append_inj {m n : Nat} {R S : List Nat} (hm : m ≤ most) (hn : n ≤ most) (h : digits m ++ R = digits n ++ S) : m = n ∧ R = S := by
  have h1 := numOf_digits m R hm
  rw [h, numOf_digits n S hn] at h1
  injection h1 with h1
  injection h1 with h1 h2
  exact ⟨h1.symm, h2.symm⟩

/-! A writer: what it has, or nothing, if it is spoilt. -/
def wnum (s : Option (List Nat)) (n : Int) : Option (List Nat) := if 0 ≤ n ∧ n ≤ 9007199254740992 then s.map (· ++ digits n.toNat) else none
def wput (s : Option (List Nat)) (l : List Nat) : Option (List Nat) := s.map (· ++ l)
/-! A reader: what is left, or nothing, if it has met a fault. -/
def rcount (s : Option (List Nat)) (m : Int) : Nat × Option (List Nat) :=
  match s with
  | none => (0, none)
  | some L =>
    match numOf L with
    | none => (0, none)
    | some (n, R) => if (n : Int) > m then (0, none) else (n, some R)
def rtake (s : Option (List Nat)) (n : Nat) : List Nat × Option (List Nat) :=
  match s with
  | none => ([], none)
  | some L => if n > L.length then ([], none) else (L.take n, some (L.drop n))
def rtext (s : Option (List Nat)) (m : Int) : List Nat × Option (List Nat) := rtake (rcount s m).2 (rcount s m).1
def rend (s : Option (List Nat)) : Int := if s = some [] then 0 else 2
end Go.Proofs.Ythcmijppemochaa.Pk
