/-
  The contract of the document's Open. Its conditions: the slice reads as bytes, and is of at most 1048576.
-/
import Derived.Test.YtlnblcgfgkkbhaaW11
namespace Go.Proofs.Ytlnblcgfgkkbhaa
open Go.RowKit

def RefOpenPost (w : World) (l : List Nat) (e : Ending) (w' : World) : Prop :=
  (Fr.opn l = none ∧ e = .returned (.tuple #[.slice none 0 0, .bool false]) ∧ Below w.heap.size w w') ∨ ∃ (p : List Nat) (A : Option Addr) (n c : Nat), Fr.opn l = some p ∧ p.length = n ∧ e = .returned (.tuple #[.slice A n c, .bool true]) ∧ Got w w' p (.slice A n c)
theorem Fr.opn_short {l : List Nat} (h : l.length < 9) : Fr.opn l = none := opn_of_none (Fr.first_short h)
theorem Fr.opn_drop {l : List Nat} (hl : Fr.Oct l) : (Fr.Good (l.drop 8) ∧ Fr.frame (l.drop 8) = l → Fr.opn l = some (l.drop 8)) ∧ (¬ (Fr.Good (l.drop 8) ∧ Fr.frame (l.drop 8) = l) → Fr.opn l = none) := by
  refine ⟨fun h => (Fr.opn_iff hl).mpr ⟨h.1, h.2.symm⟩, fun h => ?_⟩
  cases ho : Fr.opn l with
  | none => rfl
  | some p =>
    obtain ⟨hg, e⟩ := (Fr.opn_iff hl).mp ho
    have hd : l.drop 8 = p := by
      have := Fr.frame_drop8 p []
      rw [List.append_nil, List.append_nil] at this
      rw [e]
      exact this
    rw [hd] at h
    exact absurd ⟨hg, e.symm⟩ h
set_option maxHeartbeats 1000000 in
theorem refopen_in (b off : Nat) (l : List Nat) (m k : Nat) (w : World) (hl : l.length = m + 8) (hm0 : 0 < m) (hmk : m ≤ k) (hm : m ≤ 1048576) (h : Bytes w (some ⟨b, off, none⟩) l) :
    Calls Try.prog 13 #[.slice (some ⟨b, off, none⟩) (m + 8) (k + 8)] w (RefOpenPost w l) := by
  have HD : Hid (Bytes w (some ⟨b, off + 8, none⟩) (l.drop 8)) := by
    have := h.drop 8 (k + 8) (by omega)
    rw [if_neg (by omega)] at this
    simpa [addr_add, Hid] using this
  have HL : Hid ((l.drop 8).length = m) := by rw [List.length_drop, hl]; exact Nat.add_sub_cancel _ _
  obtain ⟨v1, w1, hr1, o1, b1⟩ := (OwnB.empty w w (Below.refl _ _)).append (HD.out.below ((Below.refl _ w).alloc (Nat.le_refl _) (.cells #[] 5))) (c := k) (fun h => by cases h) (by rw [HL.out]; simp; omega) 22
  obtain ⟨A1, c1, rfl⟩ := o1.form
  rw [List.nil_append] at hr1 o1
  rw [HL.out] at hr1 o1
  have HR1 := Lib.hid hr1
  have O1 := Lib.hid o1
  have B1 := Lib.hid b1
  have HG1 := Lib.hid (o1.got (by rw [HL.out]; unfold maxLen; omega))
  have HO := Lib.hid (Fr.opn_drop h.1)
  have HB := Lib.hid h
  have HLL := Lib.hid hl
  have d9 : ¬ ((m : Int) + 8 < 9) := by omega
  have HM := Lib.hid hm
  clear hr1 o1 b1 h hl hm
  by_cases hbig : 65536 < m
  · have HON : Hid (Fr.opn l = none) := HO.out.2 (fun h => by have := h.1.2; rw [HL.out] at this; omega)
    have HS := Lib.hid (refseal_bad A1 m c1 w1 (.inr hbig))
    clear hbig
    go_enter Try.func13, Try.ntmps13
    go_wp2_with (at_builtin; refine wpList_append_run rfl _ _ 22 22 rfl _ _ rfl rfl _ w1 HR1.out ?_)
    refine HS.out.mono ?_
    rintro e w2 ⟨rfl, rfl⟩
    go_wp2
    go_ret2
    exact .inl ⟨HON.out, rfl, B1.out⟩
  · obtain ⟨y1, y2⟩ := O1.out.bytes (by rw [HL.out]; have := HM.out; unfold maxLen; omega)
    have HS := Lib.hid (refseal_good (l.drop 8) A1 m c1 w1 y1 HL.out hm0 (by omega) y2)
    have HGD : Hid (Fr.Good (l.drop 8)) := ⟨by rw [HL.out]; omega, by rw [HL.out]; omega⟩
    clear hbig y1 y2
    by_cases heq : Fr.frame (l.drop 8) = l
    · have HON : Hid (Fr.opn l = some (l.drop 8)) := HO.out.1 ⟨HGD.out, heq⟩
      have HEQ : Hid (decide (Fr.frame (l.drop 8) = l) = true) := decide_eq_true heq
      clear heq
      go_enter Try.func13, Try.ntmps13
      go_wp2_with (at_builtin; refine wpList_append_run rfl _ _ 22 22 rfl _ _ rfl rfl _ w1 HR1.out ?_)
      refine HS.out.mono ?_
      rintro e w2 ⟨A2, n2, c2, hn2, rfl, g2⟩
      have HN2 := Lib.hid hn2
      have HG2 := Lib.hid g2
      have hsame := same_any (Fr.frame (l.drop 8)) l A2 (some ⟨b, off, none⟩) c2 (k + 8) n2 (m + 8) w2 g2.parts.2.1 (HB.out.below (B1.out.trans (g2.bel.mono B1.out.size))) hn2.symm HLL.out
      rw [HEQ.out] at hsame
      have HSM := Lib.hid hsame
      clear hn2 g2 hsame
      go_wp2_with fail
      refine HSM.out.mono ?_
      rintro e w3 ⟨rfl, rfl⟩
      go_wp2
      go_ret2
      exact .inr ⟨_, A1, m, c1, HON.out, HL.out, rfl, HG1.out.keep HG2.out.bel⟩
    · have HON : Hid (Fr.opn l = none) := HO.out.2 (fun h => heq h.2)
      have HEQ : Hid (decide (Fr.frame (l.drop 8) = l) = false) := decide_eq_false heq
      clear heq
      go_enter Try.func13, Try.ntmps13
      go_wp2_with (at_builtin; refine wpList_append_run rfl _ _ 22 22 rfl _ _ rfl rfl _ w1 HR1.out ?_)
      refine HS.out.mono ?_
      rintro e w2 ⟨A2, n2, c2, hn2, rfl, g2⟩
      have HN2 := Lib.hid hn2
      have HG2 := Lib.hid g2
      have hsame := same_any (Fr.frame (l.drop 8)) l A2 (some ⟨b, off, none⟩) c2 (k + 8) n2 (m + 8) w2 g2.parts.2.1 (HB.out.below (B1.out.trans (g2.bel.mono B1.out.size))) hn2.symm HLL.out
      rw [HEQ.out] at hsame
      have HSM := Lib.hid hsame
      clear hn2 g2 hsame
      go_wp2_with fail
      refine HSM.out.mono ?_
      rintro e w3 ⟨rfl, rfl⟩
      go_wp2
      go_ret2
      exact .inl ⟨HON.out, rfl, B1.out.trans (HG2.out.bel.mono B1.out.size)⟩
theorem refopen_any (l : List Nat) (A : Option Addr) (n c : Nat) (w : World) (h : Bytes w A l) (hn : l.length = n) (hc : n ≤ c) (hm : n ≤ 1048576) : Calls Try.prog 13 #[.slice A n c] w (RefOpenPost w l) := by
  by_cases h9 : n < 9
  · have HF : Hid (Fr.opn l = none) := Fr.opn_short (by omega)
    have d9 : (n : Int) < 9 := by omega
    clear hn hc hm h h9
    go_enter Try.func13, Try.ntmps13
    go_wp2
    go_ret2
    exact .inl ⟨HF.out, rfl, Below.refl _ _⟩
  · obtain ⟨b, off, rfl, _, _⟩ := h.2.2 (by omega)
    obtain ⟨m, rfl⟩ : ∃ m, n = m + 8 := ⟨n - 8, by omega⟩
    obtain ⟨k, rfl⟩ : ∃ k, c = k + 8 := ⟨c - 8, by omega⟩
    exact refopen_in b off l m k w hn (by omega) (by omega) (by omega) h
end Go.Proofs.Ytlnblcgfgkkbhaa
