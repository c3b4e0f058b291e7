/-
  The contracts of frame's first and Open, whole. Their conditions: the slice reads as bytes.
-/
import Derived.Test.YtlnblcgfgkkbhaaW6
namespace Go.Proofs.Ytlnblcgfgkkbhaa
open Go.RowKit

theorem first_eight (b off : Nat) (l : List Nat) (N : Nat) (w : World) (hl : l.length = 8) (hN : Fr.num (l.take 4) = N) (h : Bytes w (some ⟨b, off, none⟩) l) :
    Calls Try.prog 22 #[.slice (some ⟨b, off, none⟩) 8 8] w (FirstPost w l) := by
  have hb1 := h.take 4
  have K1 : Hid (∀ w1, Below w.heap.size w w1 → Calls Try.prog 26 #[.slice (some ⟨b, off, none⟩) 4 8] w1 fun e w' => e = .returned (.int .u32 (N : Int)) ∧ w1 = w') := by
    intro w1 hw1
    rw [← hN]
    exact number_any _ _ _ w1 (hb1.below hw1) (by rw [List.length_take]; omega)
  have HF0 : Hid (Fr.first l = none) := Fr.first_short (by omega)
  clear hb1 hN h hl
  have hcs : N = 0 ∨ (N ≠ 0 ∧ 65536 < N) ∨ (N ≠ 0 ∧ N ≤ 65536) := by omega
  rcases hcs with rfl | ⟨h0, h1⟩ | ⟨h0, h1⟩
  · go_enter Try.func22, Try.ntmps22
    go_wp2
    go_quiet (fail)
    go_wp2_with fail
    refine (K1.out _ (drew_below (Below.refl _ _))).mono ?_
    rintro e w1 ⟨rfl, rfl⟩
    go_wp2
    go_ret
    exact ⟨drew_below (Below.refl _ _), .inl ⟨HF0.out, rfl⟩⟩
  · have d0 : ((N : Int) == 0) = false := by simp; omega
    have d1 : 65536 < (N : Int) := by omega
    clear h0 h1
    go_enter Try.func22, Try.ntmps22
    go_wp2
    go_quiet (fail)
    go_wp2_with fail
    refine (K1.out _ (drew_below (Below.refl _ _))).mono ?_
    rintro e w1 ⟨rfl, rfl⟩
    go_wp2
    go_ret
    exact ⟨drew_below (Below.refl _ _), .inl ⟨HF0.out, rfl⟩⟩
  · have d0 : ((N : Int) == 0) = false := by simp; omega
    have d1 : (N : Int) ≤ 65536 := by omega
    have d2 : 0 < (N : Int) := by omega
    clear h0 h1
    go_enter Try.func22, Try.ntmps22
    go_wp2
    go_quiet (fail)
    go_wp2_with fail
    refine (K1.out _ (drew_below (Below.refl _ _))).mono ?_
    rintro e w1 ⟨rfl, rfl⟩
    go_wp2
    go_ret
    exact ⟨drew_below (Below.refl _ _), .inl ⟨HF0.out, rfl⟩⟩
theorem first_any (l : List Nat) (A : Option Addr) (n c : Nat) (w : World) (h : Bytes w A l) (hn : l.length = n) (hc : n ≤ c) : Calls Try.prog 22 #[.slice A n c] w (FirstPost w l) := by
  by_cases h8 : n < 8
  · exact first_few A l n c w hn h8
  · obtain ⟨b, off, rfl, _, _⟩ := h.2.2 (by omega)
    by_cases hc8 : c = 8
    · subst hc8
      obtain rfl : n = 8 := by omega
      exact first_eight b off l _ w hn rfl h
    · obtain ⟨m, rfl⟩ : ∃ m, n = m + 8 := ⟨n - 8, by omega⟩
      obtain ⟨k, rfl⟩ : ∃ k, c = k + 8 := ⟨c - 8, by omega⟩
      exact first_in b off l m k _ _ _ w hn (by omega) (by omega) rfl rfl rfl h

/-- What Open answers. -/
def OpenPost (w : World) (l : List Nat) (e : Ending) (w' : World) : Prop :=
  (Fr.opn l = none ∧ e = .returned (.tuple #[.slice none 0 0, .int .i64 2]) ∧ Below w.heap.size w w') ∨ ∃ (p : List Nat) (A : Option Addr) (n : Nat), Fr.opn l = some p ∧ p.length = n ∧ e = .returned (.tuple #[.slice A n n, .int .i64 0]) ∧ Got w w' p (.slice A n n)
theorem opn_of_none {l : List Nat} (h : Fr.first l = none) : Fr.opn l = none := by unfold Fr.opn; rw [h]
theorem opn_of_some {l p : List Nat} (h : Fr.first l = some p) : Fr.opn l = if 8 + p.length = l.length then some p else none := by unfold Fr.opn; rw [h]
theorem Fr.first_le {l p : List Nat} (hl : Fr.Oct l) (h : Fr.first l = some p) : p.length ≤ 65536 ∧ 0 < p.length ∧ 8 + p.length ≤ l.length := by
  obtain ⟨hg, e⟩ := Fr.first_some hl h
  have := congrArg List.length e
  rw [List.length_append, Fr.frame_length] at this
  exact ⟨hg.2, hg.1, by omega⟩
set_option maxHeartbeats 400000 in
theorem open_any (l : List Nat) (A : Option Addr) (n c : Nat) (w : World) (h : Bytes w A l) (hn : l.length = n) (hc : n ≤ c) : Calls Try.prog 12 #[.slice A n c] w (OpenPost w l) := by
  have HC := Lib.hid (first_any l A n c w h hn hc)
  have HO := Lib.hid h.1
  have HN := Lib.hid hn
  clear h hn hc
  go_enter Try.func12, Try.ntmps12
  go_wp2_with fail
  refine HC.out.mono ?_
  rintro e w1 ⟨b1, ⟨hf, rfl⟩ | ⟨p, P, m, hf, hm, rfl, hy⟩⟩
  · have HF := Lib.hid (opn_of_none hf)
    have B1 := Lib.hid b1
    clear hf b1
    have kn := Lib.run_eql_slice_nil (P := Try.prog) w1 22 5 none 0 0 0 0 Try.underlying22
    go_wp2
    go_ret2
    exact .inl ⟨HF.out, rfl, B1.out⟩
  · have HF := Lib.hid (opn_of_some hf)
    have B1 := Lib.hid b1
    have HM := Lib.hid hm
    have HY := Lib.hid (hy.below b1)
    have hle := Fr.first_le HO.out hf
    rw [hm] at hle
    have HG := Lib.hid hle.1
    have hm1 : (m : Int) ≤ 65536 := by omega
    clear hf b1 hm hy hle
    have kn := Lib.run_eql_slice_nil (P := Try.prog) w1 22 5 (some P) m m 0 0 Try.underlying22
    by_cases hq : 8 + m = n
    · subst hq
      have HP := Lib.hid (parts1 w1 p (some P) m m HM.out.symm HY.out (fun h => by cases h))
      have HFF : Hid (Fr.opn l = some p) := by rw [HF.out, HM.out, HN.out]; exact if_pos rfl
      go_wp2_with fail
      refine (join_any [p] 1 _ 1 _ HP.out rfl (by unfold maxLen; omega) (by have := HM.out; have := HG.out; simp; omega)).mono ?_
      rintro e w2 ⟨A2, rfl, g2⟩
      have e2 : [p].flatten = p := by simp
      rw [e2, HM.out] at g2
      rw [e2, HM.out]
      have G2 := Lib.hid g2
      clear g2 e2
      go_wp2
      go_ret2
      exact .inr ⟨p, A2, m, HFF.out, HM.out, rfl, G2.out.from (B1.out.trans (((Below.refl _ w1).alloc (Nat.le_refl _) _).mono B1.out.size))⟩
    · have HFF : Hid (Fr.opn l = none) := by rw [HF.out, HM.out, HN.out]; exact if_neg hq
      have dn : (8 + (m : Int) != (n : Int)) = true := by simp; omega
      clear hq
      go_wp2
      go_ret2
      exact .inl ⟨HFF.out, rfl, B1.out⟩
end Go.Proofs.Ytlnblcgfgkkbhaa
