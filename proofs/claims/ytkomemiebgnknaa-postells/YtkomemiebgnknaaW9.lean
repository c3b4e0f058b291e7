/-
  The contracts of Extends and of the document's Right. Their conditions: the slices read as epochs.
-/
import Derived.Test.YtkomemiebgnknaaW8
namespace Go.Proofs.Ytkomemiebgnknaa
open Go.RowKit

set_option maxHeartbeats 2000000 in
theorem extends_any (l m : List Ep) (A B : Option Addr) (n q cap cap' : Nat) (w : World) (h : Eps w A l) (h' : Eps w B m) (hn : l.length = n) (hq : m.length = q) (hc : q ≤ cap') : Calls Try.prog 24 #[.slice A n cap, .slice B q cap'] w fun e w' => e = .returned (.bool (Ps.extB l m)) ∧ Below w.heap.size w w' := by
  have H := Lib.hid h
  have H' := Lib.hid h'
  have HN := Lib.hid hn
  have HQ := Lib.hid hq
  obtain ⟨r, hr⟩ : ∃ r, Ps.rightB l = r := ⟨_, rfl⟩
  obtain ⟨s, hs⟩ : ∃ s, Ps.rightB m = s := ⟨_, rfl⟩
  have hV : Ps.extB l m = (r && s && decide (n ≤ q) && Ps.sameN l m n) := by unfold Ps.extB; rw [hr, hs, hn, hq]
  rw [hV]
  have C1 := Lib.hid (right_any l A n cap w h hn)
  have hC2 : ∀ W, Below w.heap.size w W → Calls Try.prog 14 #[.slice B q cap'] W fun e w' => e = .returned (.bool s) ∧ Below W.heap.size W w' := fun W hW => right_at m B q cap' W s (h'.below hW) hq hs
  rw [hr] at C1
  have C2 := Lib.hid hC2
  clear h h' hn hq hr hs hV hC2
  cases r with
  | false =>
    go_enter Try.func24, Try.ntmps24
    go_wp2_with fail
    refine C1.out.mono ?_
    rintro e w2 ⟨rfl, b2⟩
    have B2 := Lib.hid b2
    clear b2
    go_wp2
    go_ret
    exact ⟨rfl, B2.out⟩
  | true =>
    cases s with
    | false =>
      go_enter Try.func24, Try.ntmps24
      go_wp2_with fail
      refine C1.out.mono ?_
      rintro e w2 ⟨rfl, b2⟩
      have B2 := Lib.hid b2
      clear b2
      go_wp2_with fail
      refine (C2.out w2 B2.out).mono ?_
      rintro e w3 ⟨rfl, b3⟩
      have B3 := Lib.hid (B2.out.trans (b3.mono B2.out.size))
      clear b3
      go_wp2
      go_ret
      exact ⟨rfl, B3.out⟩
    | true =>
      by_cases hle : n ≤ q
      · have hlei : (n : Int) ≤ (q : Int) := by omega
        have hnc : n ≤ cap' := by omega
        have hV : (true && true && decide (n ≤ q) && Ps.sameN l m n) = Ps.sameN l m n := by simp [hle]
        rw [hV]
        obtain ⟨f, hf⟩ : ∃ f, Ps.sameN l m n = f := ⟨_, rfl⟩
        rw [hf]
        have C3 : Hid (∀ W, Below w.heap.size w W → Calls Try.prog 32 #[.slice A n cap, .slice B n cap'] W fun e w' => e = .returned (.bool f) ∧ Below W.heap.size W w') := fun W hW => by
          have := equal_any l (m.take n) A B n cap cap' W (H.out.below hW) ((H'.out.below hW).take n) HN.out (by rw [List.length_take, HQ.out]; omega)
          rwa [Ps.sameN_take (Nat.le_refl _), hf] at this
        clear hV hf
        go_enter Try.func24, Try.ntmps24
        go_wp2_with fail
        refine C1.out.mono ?_
        rintro e w2 ⟨rfl, b2⟩
        have B2 := Lib.hid b2
        clear b2
        go_wp2_with fail
        refine (C2.out w2 B2.out).mono ?_
        rintro e w3 ⟨rfl, b3⟩
        have B3 := Lib.hid (B2.out.trans (b3.mono B2.out.size))
        clear b3
        go_wp2_with fail
        refine (C3.out w3 B3.out).mono ?_
        rintro e w4 ⟨rfl, b4⟩
        have B4 := Lib.hid (B3.out.trans (b4.mono B3.out.size))
        clear b4
        go_wp2
        go_ret
        exact ⟨rfl, B4.out⟩
      · have hlei : ¬ (n : Int) ≤ (q : Int) := by omega
        have hV : (true && true && decide (n ≤ q) && Ps.sameN l m n) = false := by simp [hle]
        rw [hV]
        clear hV
        go_enter Try.func24, Try.ntmps24
        go_wp2_with fail
        refine C1.out.mono ?_
        rintro e w2 ⟨rfl, b2⟩
        have B2 := Lib.hid b2
        clear b2
        go_wp2_with fail
        refine (C2.out w2 B2.out).mono ?_
        rintro e w3 ⟨rfl, b3⟩
        have B3 := Lib.hid (B2.out.trans (b3.mono B2.out.size))
        clear b3
        go_wp2
        go_ret
        exact ⟨rfl, B3.out⟩

/-- What the document's Right has found of the first j epochs. -/
def goodB (j : Nat) (x : Ep) : Bool := decide (0 < x.M) && decide (x.M < 5) && decide (0 ≤ x.C) && decide (x.C ≤ 512) && (decide (0 < j) || (decide (x.C = 0) && !x.F))
def okN (l : List Ep) : Nat → Bool
  | 0 => decide (0 < l.length) && decide (l.length ≤ 64)
  | j + 1 => okN l j && (match l[j]? with | some x => goodB j x | none => true)
theorem okN_iff {l : List Ep} {n : Nat} : okN l n = true ↔ (0 < l.length ∧ l.length ≤ 64) ∧ ∀ j x, j < n → l[j]? = some x → goodB j x = true := by
  induction n with
  | zero => simp [okN]
  | succ n ih =>
    rw [okN, Bool.and_eq_true, ih]
    constructor
    · rintro ⟨⟨h1, h2⟩, h3⟩
      refine ⟨h1, fun j x hj hx => ?_⟩
      rcases Nat.lt_or_ge j n with hjn | hjn
      · exact h2 j x hjn hx
      · obtain rfl : j = n := by omega
        rw [hx] at h3
        exact h3
    · rintro ⟨h1, h2⟩
      refine ⟨⟨h1, fun j x hj hx => h2 j x (by omega) hx⟩, ?_⟩
      cases hx : l[n]? with
      | none => rfl
      | some x => exact h2 n x (by omega) hx
theorem okN_right (l : List Ep) : okN l l.length = Ps.rightB l := by
  rw [Bool.eq_iff_iff, okN_iff, Ps.rightB_iff]
  constructor
  · rintro ⟨⟨h1, h2⟩, h3⟩
    refine ⟨h1, h2, fun x hx => ?_, fun x hx => ?_⟩
    · obtain ⟨j, hj⟩ := List.getElem?_of_mem hx
      have := h3 j x (List.getElem?_eq_some_iff.mp hj).1 hj
      unfold goodB at this
      simp at this
      exact Ps.outB_false.mpr (by omega)
    · have := h3 0 x h1 hx
      unfold goodB at this
      simp at this
      exact this.2
  · rintro ⟨h1, h2, h3, h4⟩
    refine ⟨⟨h1, h2⟩, fun j x hj hx => ?_⟩
    have := Ps.outB_false.mp (h3 x (List.mem_of_getElem? hx))
    unfold goodB
    cases j with
    | zero =>
      have h5 := h4 x hx
      simp [h5]
      omega
    | succ j =>
      simp
      omega
def RfRel (l : List Ep) (n : Nat) (w : World) (ok i _ : Value) (wr : World) : Prop := ∃ j : Nat, j ≤ n ∧ ok = .bool (okN l j) ∧ i = .int .i64 (j : Int) ∧ Below w.heap.size w wr
set_option maxHeartbeats 2000000 in
theorem refright_any (l : List Ep) (A : Option Addr) (n cap : Nat) (w : World) (h : Eps w A l) (hn : l.length = n) : Calls Try.prog 15 #[.slice A n cap] w fun e w' => e = .returned (.bool (Ps.rightB l)) ∧ Below w.heap.size w w' := by
  have hm : (n : Int) ≤ 9223372036854775807 := by have := h.1; unfold maxLen at this; omega
  have H := Lib.hid h
  have HN := Lib.hid hn
  have hR := okN_right l
  rw [hn] at hR
  rw [← hR]
  have H0 : Hid (okN l 0 = (decide (0 < (n : Int)) && decide ((n : Int) ≤ 64))) := by
    show (decide (0 < l.length) && decide (l.length ≤ 64)) = _
    rw [hn, Bool.eq_iff_iff]
    simp
    omega
  clear h hn hR
  obtain ⟨o, ho⟩ : ∃ o, okN l n = o := ⟨_, rfl⟩
  rw [ho]
  have HO := Lib.hid ho
  obtain ⟨b1, d1⟩ : ∃ b, decide (0 < (n : Int)) = b := ⟨_, rfl⟩
  obtain ⟨b2, d2⟩ : ∃ b, decide ((n : Int) ≤ 64) = b := ⟨_, rfl⟩
  rw [d1, d2] at H0
  have e1 : decide (0 < n) = b1 := by rw [← d1, Bool.eq_iff_iff]; simp
  have e2 : decide (n ≤ 64) = b2 := by rw [← d2, Bool.eq_iff_iff]; simp; omega
  clear ho
  cases b1
  all_goals
    cases b2
    all_goals
      go_enter Try.func15, Try.ntmps15
      go_wp2
      go_loopw [3, 4, 5] (RfRel l n w) (fun _ i _ _ => n - (intOf i).toNat)
      case atStart => exact ⟨0, Nat.zero_le _, by rw [H0.out]; rfl, rfl, Below.refl _ _⟩
      case round =>
        obtain ⟨j, hj, rfl, rfl, hbel⟩ := hrel
        have HB := Lib.hid hbel
        clear hbel
        by_cases hlt : j < n
        · have hjl : j < l.length := by have := HN.out; omega
          obtain ⟨b, off, rfl, hbs, c0, c1, c2⟩ := (H.out.below HB.out).at_ hjl
          have hT : okN l (j + 1) = (okN l j && goodB j l[j]) := by rw [okN, List.getElem?_eq_getElem hjl]
          have HT := Lib.hid hT
          have hlti : (j : Int) < (n : Int) := by omega
          clear hT
          generalize l[j] = x at c0 c1 c2 HT
          obtain ⟨M, C, F⟩ := x
          have HG : Hid (goodB j ⟨M, C, F⟩ = (decide (0 < M) && decide (M < 5) && decide (0 ≤ C) && decide (C ≤ 512) && (decide (0 < (j : Int)) || (decide (C = 0) && !F)))) := by show _ = _; simp [goodB]
          rw [HG.out] at HT
          obtain ⟨p, hp⟩ : ∃ p, okN l j = p := ⟨_, rfl⟩
          rw [hp] at HT ⊢
          simp only at c0 c1 c2
          clear hp HG hjl
          have hne : ¬ b = wr.heap.size := by omega
          cases p
          all_goals
            go_wp2
            all_goals
              go_roundw
              case rel => exact ⟨j + 1, by omega, by rw [HT.out]; first | (simp [*]; done) | (simp [*]; omega) | (simp [*]; exact .inl (by omega)), by go_num, HB.out.alloc HB.out.size _⟩
              case measure => simp [intOf]; omega
        · have HF : Hid (okN l j = o) := by
            show _ = _
            rw [← HO.out, show n = j by omega]
          have hlti : ¬ (j : Int) < (n : Int) := by omega
          go_wp2
          go_ret
          exact ⟨ret_bool HF.out, HB.out⟩
end Go.Proofs.Ytkomemiebgnknaa
