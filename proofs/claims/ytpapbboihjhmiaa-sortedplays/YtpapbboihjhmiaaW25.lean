/-
  The contract of same. Its conditions: the slices read as pairs.
-/
import Derived.Test.YtpapbboihjhmiaaW24
namespace Go.Proofs.Ytpapbboihjhmiaa
open Go.RowKit

def SameRel (l m : List KV) (w : World) (_ s13 : Value) (wr : World) : Prop :=
  ∃ k : Nat, k ≤ l.length ∧ s13 = .int .i64 (k : Int) ∧ l.take k = m.take k ∧ Below w.heap.size w wr
set_option maxHeartbeats 2000000 in
theorem same_any (l m : List KV) (A B : Option Addr) (n n' c c' : Nat) (w : World) (h : Prs w A l) (h' : Prs w B m) (hn : l.length = n) (hn' : m.length = n') :
    Calls Try.prog 21 #[.slice A n c, .slice B n' c'] w fun e w' => e = .returned (.bool (decide (l = m))) ∧ Below w.heap.size w w' := by
  have H := Lib.hid h
  have H' := Lib.hid h'
  have HN := Lib.hid hn
  have HN' := Lib.hid hn'
  clear h h' hn hn'
  by_cases hne : n = n'
  · subst hne
    have hm : (n : Int) ≤ 9223372036854775807 := by have := H.out.1; rw [HN.out] at this; unfold maxLen at this; omega
    have HB9 := Lib.hid hm
    clear hm
    go_enter Try.func21, Try.ntmps21
    go_wp2
    go_loopw [5, 13] (SameRel l m w) (fun _ i _ => n - (intOf i).toNat)
    case atStart => exact ⟨0, Nat.zero_le _, rfl, rfl, Below.refl _ _⟩
    case round =>
      obtain ⟨k, hk, rfl, hs, hb⟩ := hrel
      have HS := Lib.hid hs
      have HB := Lib.hid hb
      rw [HN.out] at hk
      clear hs hb
      by_cases hlt : k < n
      · have hkl : k < l.length := by have := HN.out; omega
        have hkm : k < m.length := by have := HN'.out; omega
        obtain ⟨b, off, rfl, hbs, c0, c1⟩ := (H.out.below (Nat.le_refl _) HB.out).at_ hkl
        obtain ⟨b', off', rfl, hbs', c0', c1'⟩ := (H'.out.below (Nat.le_refl _) HB.out).at_ hkm
        have hm := HB9.out
        have hlti : (k : Int) < (n : Int) := by omega
        by_cases hxy : l[k] = m[k]
        · have HST : Hid (l.take (k + 1) = m.take (k + 1)) := by
            show _ = _
            rw [List.take_succ_eq_append_getElem hkl, List.take_succ_eq_append_getElem hkm, HS.out, hxy]
          rw [← hxy] at c0' c1'
          generalize l[k] = x at c0 c0' c1 c1'
          clear hkl hkm hxy
          go_wp2
          go_quiet (fail)
          go_wp2
          go_roundw
          case rel => exact ⟨k + 1, by rw [HN.out]; omega, by go_num, HST.out, HB.out.trans ⟨rfl, rfl, rfl, Nat.le_refl _, fun _ _ => rfl⟩⟩
          case measure => simp [intOf]; omega
        · have HD : Hid (decide (l = m) = false) := by
            show _ = _
            rw [decide_eq_false_iff_not]
            rintro rfl
            exact hxy rfl
          have hcase : (l[k].1.toList == m[k].1.toList) = false ∨ (l[k].1 = m[k].1 ∧ ¬ l[k].2 = m[k].2) := by
            by_cases h1 : l[k].1 = m[k].1
            · exact .inr ⟨h1, fun h2 => hxy (Prod.ext h1 h2)⟩
            · exact .inl (toList_ne h1)
          generalize l[k] = x at c0 c1 hcase
          generalize m[k] = y at c0' c1' hcase
          clear hkl hkm hxy
          rcases hcase with hxy' | ⟨hxy1, hxy2⟩
          · go_wp2
            go_quiet (fail)
            go_wp2
            go_ret
            exact ⟨ret_bool HD.out.symm, HB.out.trans ⟨rfl, rfl, rfl, Nat.le_refl _, fun _ _ => rfl⟩⟩
          · rw [← hxy1] at c0'
            clear hxy1
            go_wp2
            go_quiet (fail)
            go_wp2
            go_ret
            exact ⟨ret_bool HD.out.symm, HB.out.trans ⟨rfl, rfl, rfl, Nat.le_refl _, fun _ _ => rfl⟩⟩
      · have HD : Hid (decide (l = m) = true) := by
          show _ = _
          have e1 := HS.out
          have e2 := HN.out
          have e3 := HN'.out
          rw [List.take_of_length_le (by omega), List.take_of_length_le (by omega)] at e1
          simpa using e1
        go_wp2
        go_ret
        exact ⟨ret_bool HD.out.symm, HB.out⟩
  · have HD : Hid (decide (l = m) = false) := by
      show _ = _
      rw [decide_eq_false_iff_not]
      rintro rfl
      exact hne (HN.out.symm.trans HN'.out)
    have hne' : ¬ (n : Int) = (n' : Int) := by omega
    go_enter Try.func21, Try.ntmps21
    go_wp2
    go_ret
    exact ⟨ret_bool HD.out.symm, Below.refl _ _⟩
end Go.Proofs.Ytpapbboihjhmiaa
