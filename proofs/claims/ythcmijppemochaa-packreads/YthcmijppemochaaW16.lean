/-
  Plain mathematics of PackBack: what a reader tells of items is told just if the bytes are theirs. Its conditions: no text is longer than the greatest number.
-/
import Derived.Test.YthcmijppemochaaW12
namespace Go.Proofs.Ythcmijppemochaa
open Go.RowKit

/-- The bytes of items. -/
def encL : List It → Option (List Nat)
  | [] => some []
  | x :: l => match itemEnc x with | none => none | some e => (encL l).map (e ++ ·)
theorem foldl_wstep (l : List It) : ∀ L, l.foldl wstep (some L) = (encL l).map (L ++ ·) := by
  induction l with
  | nil => intro L; simp [encL]
  | cons x l ih =>
    intro L
    rw [List.foldl_cons]
    cases he : itemEnc x with
    | none =>
      have h1 : wstep (some L) x = none := by unfold wstep; rw [he]
      have h2 : encL (x :: l) = none := by simp only [encL]; rw [he]
      rw [h1, wfold_none, h2]
      rfl
    | some e =>
      have h1 : wstep (some L) x = some (L ++ e) := by unfold wstep; rw [he]; rfl
      have h2 : encL (x :: l) = (encL l).map (e ++ ·) := by simp only [encL]; rw [he]
      rw [h1, ih, h2, Option.map_map]
      congr 1
      funext y
      simp
theorem wfold_eq (l : List It) : wfold l = encL l := by
  unfold wfold
  rw [foldl_wstep]
  cases encL l <;> simp

/-- What a reader tells of items. -/
def againB (s : Option (List Nat)) : List It → Bool
  | [] => decide (s = some [])
  | x :: l =>
    if x.K = 1 then (rflagB s == (x.N != 0)) && againB (Pk.rcount s 1).2 l
    else if x.K = 2 then decide (textOf (Pk.rtext s x.S.size).1 = x.S) && againB (Pk.rtext s x.S.size).2 l
    else decide (((Pk.rcount s 9007199254740992).1 : Int) = x.N) && againB (Pk.rcount s 9007199254740992).2 l
theorem rcount_nil (m : Int) : Pk.rcount none m = (0, none) := rfl
theorem rtext_none (m : Int) : Pk.rtext none m = ([], none) := rfl
theorem againB_none (l : List It) : againB none l = false := by
  induction l with
  | nil => rfl
  | cons x l ih =>
    simp only [againB]
    rw [rcount_nil, rcount_nil, rtext_none]
    simp only [ih, Bool.and_false, ite_self]
theorem rcount_good (n : Nat) (R : List Nat) (m : Int) (hn : n ≤ Pk.most) (hm : (n : Int) ≤ m) : Pk.rcount (some (Pk.digits n ++ R)) m = (n, some R) := by
  unfold Pk.rcount
  simp only [Pk.numOf_digits n R hn]
  rw [if_neg (by omega)]
theorem rcount_some {L R : List Nat} {n : Nat} {m : Int} (hb : ∀ c ∈ L, c < 256) (h : Pk.rcount (some L) m = (n, some R)) : n ≤ Pk.most ∧ (n : Int) ≤ m ∧ L = Pk.digits n ++ R := by
  unfold Pk.rcount at h
  cases hn : Pk.numOf L with
  | none =>
    simp only [hn] at h
    cases h
  | some p =>
    obtain ⟨k, Q⟩ := p
    simp only [hn] at h
    by_cases hc : (k : Int) > m
    · rw [if_pos hc] at h
      cases h
    · rw [if_neg hc] at h
      injection h with h1 h2
      injection h2 with h2
      subst h1 h2
      obtain ⟨h3, h4⟩ := Pk.numOf_some hb hn
      exact ⟨h3, by omega, h4⟩
theorem digits_flag (b : Bool) : Pk.digits (flagByte b) = [flagByte b] := Pk.digits_small (by cases b <;> decide)
theorem rtext_good (S : ByteArray) (R : List Nat) (hs : S.size ≤ Pk.most) : Pk.rtext (some (Pk.digits S.size ++ bytesOf S ++ R)) S.size = (bytesOf S, some R) := by
  unfold Pk.rtext
  rw [List.append_assoc, rcount_good S.size (bytesOf S ++ R) S.size hs (Int.le_refl _)]
  unfold Pk.rtake
  simp only
  rw [if_neg (by rw [List.length_append, bytesOf_length]; omega)]
  rw [← bytesOf_length S, List.take_left, List.drop_left]
theorem rtext_some {L R T : List Nat} {m : Int} (hb : ∀ c ∈ L, c < 256) (h : Pk.rtext (some L) m = (T, some R)) : T.length ≤ Pk.most ∧ (T.length : Int) ≤ m ∧ L = Pk.digits T.length ++ T ++ R := by
  unfold Pk.rtext at h
  cases hc : Pk.rcount (some L) m with
  | mk n s =>
    rw [hc] at h
    cases s with
    | none => cases h
    | some Q =>
      obtain ⟨h1, h2, h3⟩ := rcount_some hb hc
      unfold Pk.rtake at h
      simp only at h
      by_cases hl : n > Q.length
      · rw [if_pos hl] at h
        cases h
      · rw [if_neg hl] at h
        injection h with h4 h5
        injection h5 with h5
        have hl : T.length = n := by rw [← h4, List.length_take]; omega
        refine ⟨by omega, by omega, ?_⟩
        rw [hl, ← h4, ← h5, List.append_assoc, List.take_append_drop]
        exact h3
theorem againB_enc (l : List It) (hs : ∀ x ∈ l, x.S.size ≤ Pk.most) : ∀ L, encL l = some L → againB (some L) l = true := by
  induction l with
  | nil =>
    intro L h
    simp only [encL] at h
    injection h with h
    subst h
    rfl
  | cons x l ih =>
    intro L h
    have ih := ih (fun y hy => hs y (List.mem_cons_of_mem _ hy))
    have hx := hs x (by simp)
    simp only [encL] at h
    cases he : itemEnc x with
    | none => rw [he] at h; cases h
    | some e =>
      rw [he] at h
      cases hr : encL l with
      | none => rw [hr] at h; cases h
      | some R =>
        rw [hr] at h
        have hL : L = e ++ R := by simpa using h.symm
        subst hL
        have ih := ih R hr
        simp only [againB]
        by_cases h1 : x.K = 1
        · rw [if_pos h1]
          rw [itemEnc_flag h1] at he
          injection he with he
          have hc := rcount_good (flagByte (x.N != 0)) R 1 (by cases (x.N != 0) <;> decide) (by cases (x.N != 0) <;> decide)
          rw [digits_flag] at hc
          subst he
          rw [hc]
          unfold rflagB
          rw [hc]
          simp only [ih, Bool.and_true]
          cases (x.N != 0) <;> rfl
        · rw [if_neg h1]
          by_cases h2 : x.K = 2
          · rw [if_pos h2]
            rw [itemEnc_text h2] at he
            injection he with he
            subst he
            rw [rtext_good x.S R hx]
            simp only [ih, Bool.and_true, textOf_bytesOf, decide_true]
          · rw [if_neg h2]
            rw [itemEnc_num h1 h2] at he
            by_cases h3 : 0 ≤ x.N ∧ x.N ≤ 9007199254740992
            · rw [if_pos h3] at he
              injection he with he
              subst he
              rw [rcount_good x.N.toNat R 9007199254740992 (by unfold Pk.most; omega) (by omega)]
              simp only [ih, Bool.and_true]
              exact decide_eq_true (by omega)
            · rw [if_neg h3] at he
              cases he
theorem againB_only (l : List It) : ∀ L, (∀ c ∈ L, c < 256) → againB (some L) l = true → encL l = some L := by
  induction l with
  | nil =>
    intro L _ h
    simp only [againB, decide_eq_true_eq] at h
    simp only [encL]
    exact h.symm
  | cons x l ih =>
    intro L hb h
    simp only [againB] at h
    simp only [encL]
    by_cases h1 : x.K = 1
    · rw [if_pos h1] at h
      obtain ⟨hf, hr⟩ := (Bool.and_eq_true _ _).mp h
      unfold rflagB at hf
      cases hc : Pk.rcount (some L) 1 with
      | mk n s =>
        rw [hc] at hr hf
        cases s with
        | none => rw [againB_none] at hr; cases hr
        | some R =>
          obtain ⟨g1, g2, g3⟩ := rcount_some hb hc
          have hn : flagByte (x.N != 0) = n := by
            have := eq_of_beq hf
            rw [← this]
            have : n = 0 ∨ n = 1 := by omega
            rcases this with rfl | rfl <;> rfl
          have := ih R (fun c hc => hb c (by rw [g3]; exact List.mem_append_right _ hc)) hr
          rw [itemEnc_flag h1, this]
          simp only [Option.map_some]
          rw [g3, ← hn, digits_flag]
    · rw [if_neg h1] at h
      by_cases h2 : x.K = 2
      · rw [if_pos h2] at h
        obtain ⟨hf, hr⟩ := (Bool.and_eq_true _ _).mp h
        cases hc : Pk.rtext (some L) x.S.size with
        | mk T s =>
          rw [hc] at hr hf
          cases s with
          | none => rw [againB_none] at hr; cases hr
          | some R =>
            obtain ⟨g1, g2, g3⟩ := rtext_some hb hc
            have hT : ∀ c ∈ T, c < 256 := fun c hc => hb c (by rw [g3]; exact List.mem_append_left _ (List.mem_append_right _ hc))
            have hS : x.S = textOf T := (of_decide_eq_true hf).symm
            have hB : bytesOf x.S = T := by rw [hS, bytesOf_textOf T hT]
            have hz : x.S.size = T.length := by rw [hS, textOf_size]
            have := ih R (fun c hc => hb c (by rw [g3]; exact List.mem_append_right _ hc)) hr
            rw [itemEnc_text h2, this, hB, hz]
            simp only [Option.map_some]
            rw [← g3]
      · rw [if_neg h2] at h
        obtain ⟨hf, hr⟩ := (Bool.and_eq_true _ _).mp h
        cases hc : Pk.rcount (some L) 9007199254740992 with
        | mk n s =>
          rw [hc] at hr hf
          cases s with
          | none => rw [againB_none] at hr; cases hr
          | some R =>
            obtain ⟨g1, g2, g3⟩ := rcount_some hb hc
            have hN : (n : Int) = x.N := of_decide_eq_true hf
            have := ih R (fun c hc => hb c (by rw [g3]; exact List.mem_append_right _ hc)) hr
            rw [itemEnc_num h1 h2, if_pos (by omega), this, ← hN]
            simp only [Option.map_some, Int.toNat_natCast]
            rw [← g3]
theorem againB_short (l : List It) (L : List Nat) (h : encL l = some L) (hb : ∀ c ∈ L, c < 256) (hl : 0 < L.length) : againB (some (L.take (L.length - 1))) l = false := by
  cases hc : againB (some (L.take (L.length - 1))) l with
  | false => rfl
  | true =>
    have := againB_only l _ (fun c hc => hb c (List.mem_of_mem_take hc)) hc
    rw [h] at this
    injection this with this
    have h2 := congrArg List.length this
    rw [List.length_take] at h2
    omega
theorem text_ne {S T : ByteArray} (h : ¬ S = T) : (S.toList == T.toList) = false := by
  cases hc : (S.toList == T.toList) with
  | false => rfl
  | true =>
    have := eq_of_beq hc
    rw [ByteArray.toList_eq, ByteArray.toList_eq] at this
    exact absurd (Go.WideShapes.bytes_inj this) h
end Go.Proofs.Ythcmijppemochaa
