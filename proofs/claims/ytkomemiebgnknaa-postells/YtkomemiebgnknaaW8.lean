/-
  The contracts of slices.Equal, Extends. Their conditions: the slices read as epochs.
-/
import Derived.Test.YtkomemiebgnknaaW7
namespace Go.Proofs.Ytkomemiebgnknaa
open Go.RowKit Go.Sort

def EqRel (l m : List Ep) (n : Nat) (w : World) (_ s : Value) (wr : World) : Prop := ∃ j : Nat, j ≤ n ∧ s = .int .i64 (j : Int) ∧ Ps.sameN l m j = true ∧ Below w.heap.size w wr
set_option maxHeartbeats 2000000 in
theorem equal_any (l m : List Ep) (A B : Option Addr) (n cap cap' : Nat) (w : World) (h : Eps w A l) (h' : Eps w B m) (hn : l.length = n) (hn' : m.length = n) : Calls Try.prog 32 #[.slice A n cap, .slice B n cap'] w fun e w' => e = .returned (.bool (Ps.sameN l m n)) ∧ Below w.heap.size w w' := by
  have hm : (n : Int) ≤ 9223372036854775807 := by have := h.1; unfold maxLen at this; omega
  have H := Lib.hid h
  have H' := Lib.hid h'
  have HN := Lib.hid hn
  have HN' := Lib.hid hn'
  obtain ⟨r, hr⟩ : ∃ r, Ps.sameN l m n = r := ⟨_, rfl⟩
  rw [hr]
  have HR := Lib.hid hr
  clear h h' hn hn' hr
  go_enter Try.func32, Try.ntmps32
  go_wp2
  go_loopw [5, 13] (EqRel l m n w) (fun _ s _ => n - (intOf s).toNat)
  case atStart => exact ⟨0, Nat.zero_le _, rfl, rfl, Below.refl _ _⟩
  case round =>
    obtain ⟨j, hj, rfl, hsame, hbel⟩ := hrel
    have HS := Lib.hid hsame
    have HB := Lib.hid hbel
    clear hsame hbel
    by_cases hlt : j < n
    · have hjl : j < l.length := by have := HN.out; omega
      have hjm : j < m.length := by have := HN'.out; omega
      obtain ⟨b, off, rfl, hbs, c0, c1, c2⟩ := (H.out.below HB.out).at_ hjl
      obtain ⟨b', off', rfl, hbs', d0, d1, d2⟩ := (H'.out.below HB.out).at_ hjm
      have HA := Lib.hid (Ps.sameAt_get hjl hjm)
      have hlti : (j : Int) < (n : Int) := by omega
      generalize l[j] = x at c0 c1 c2 HA
      generalize m[j] = y at d0 d1 d2 HA
      clear hjl hjm
      obtain ⟨M, C, F⟩ := x
      obtain ⟨M', C', F'⟩ := y
      simp only at c0 c1 c2 d0 d1 d2
      by_cases he : M = M' ∧ C = C' ∧ F = F'
      · obtain ⟨rfl, rfl, rfl⟩ := he
        have HT : Hid (Ps.sameN l m (j + 1) = true) := by show _ = _; rw [Ps.sameN, HS.out, HA.out, Ps.sameB_self]; rfl
        go_wp2
        go_quiet (fail)
        go_wp2
        go_roundw
        case rel => exact ⟨j + 1, by omega, by go_num, HT.out, bel_drew HB.out _⟩
        case measure => simp [intOf]; omega
      · have HT : Hid (Ps.sameN l m n = false) := by
          refine Ps.sameN_false (k := j) ?_ hlt
          rw [HA.out]
          unfold Ps.sameB
          simp
          intro a b c
          exact he ⟨a, b, c⟩
        have HF : Hid (r = false) := HR.out.symm.trans HT.out
        rcases (show ¬ M = M' ∨ (M = M' ∧ ¬ C = C') ∨ (M = M' ∧ C = C' ∧ ¬ F = F') by
          by_cases a : M = M'
          · by_cases b : C = C'
            · exact .inr (.inr ⟨a, b, fun c => he ⟨a, b, c⟩⟩)
            · exact .inr (.inl ⟨a, b⟩)
          · exact .inl a) with g | ⟨rfl, g⟩ | ⟨rfl, rfl, g⟩
        all_goals
          clear he
          go_wp2
          go_quiet (fail)
          go_wp2
          go_ret
          exact ⟨ret_bool HF.out.symm, bel_drew HB.out _⟩
    · have HF : Hid (r = true) := by
        show _ = _
        rw [← HR.out, show n = j by omega]
        exact HS.out
      go_wp2
      go_ret
      exact ⟨ret_bool HF.out.symm, HB.out⟩
end Go.Proofs.Ytkomemiebgnknaa
