/-
  The contracts of the document's Seal and Open. Their conditions: the slice reads as bytes, and is of at most 1048576.
-/
import Derived.Test.YtlnblcgfgkkbhaaW9
namespace Go.Proofs.Ytlnblcgfgkkbhaa
open Go.RowKit

def RefSealOk (w : World) (p : List Nat) (e : Ending) (w' : World) : Prop := ∃ A n c, n = (Fr.frame p).length ∧ e = .returned (.tuple #[.slice A n c, .bool true]) ∧ Got w w' (Fr.frame p) (.slice A n c)
theorem refseal_bad (A : Option Addr) (n c : Nat) (w : World) (h : n = 0 ∨ 65536 < n) :
    Calls Try.prog 10 #[.slice A n c] w fun e w' => e = .returned (.tuple #[.slice none 0 0, .bool false]) ∧ w = w' := by
  rcases h with rfl | h
  · go_enter Try.func10, Try.ntmps10
    go_wp2
    go_ret2
    exact ⟨rfl, rfl⟩
  · have h0 : ¬ (n : Int) < 1 := by omega
    have h1 : 65536 < (n : Int) := by omega
    clear h
    go_enter Try.func10, Try.ntmps10
    go_wp2
    go_ret2
    exact ⟨rfl, rfl⟩
set_option maxHeartbeats 1000000 in
theorem refseal_good (p : List Nat) (A : Option Addr) (n c : Nat) (w : World) (h : Bytes w A p) (hn : p.length = n) (h1 : 0 < n) (h2 : n ≤ 65536) (hA : A = none → c = 0) :
    Calls Try.prog 10 #[.slice A n c] w (RefSealOk w p) := by
  have H := Lib.hid h
  have HN := Lib.hid hn
  have HA := Lib.hid hA
  have H2 := Lib.hid h2
  have h0 : ¬ (n : Int) < 1 := by omega
  have h3 : (n : Int) ≤ 65536 := by omega
  have H17 := Lib.hid (four_any n w (by omega))
  clear h hn hA h2
  go_enter Try.func10, Try.ntmps10
  go_wp2_with fail
  refine H17.out.mono ?_
  rintro e w1 ⟨A1, c1, rfl, o1⟩
  obtain ⟨v2, w2, hr2, o2, b2⟩ := o1.append (H.out.below o1.bel) HA.out (by rw [HN.out, Fr.four_length]; have := H2.out; omega) 22
  obtain ⟨A2, c2, rfl⟩ := o2.form
  rw [show (Fr.four n ++ p).length = 4 + n by rw [List.length_append, HN.out]; rfl] at hr2 o2
  rw [HN.out] at hr2
  have HR2 := Lib.hid hr2
  have O2 := Lib.hid o2
  have B2 := Lib.hid b2
  clear o1 hr2 o2 b2
  go_wp2_with (at_builtin; refine wpList_append_run rfl _ _ 22 22 rfl _ _ rfl rfl _ w2 HR2.out ?_)
  refine (four_any n w2 (by have := H2.out; omega)).mono ?_
  rintro e w3 ⟨A3, c3, rfl, o3⟩
  have O3 := Lib.hid o3
  clear o3
  have Y2 := Lib.hid ((O2.out.keep O3.out.bel).bytes (by rw [List.length_append, HN.out, Fr.four_length]; have := H2.out; unfold maxLen; omega))
  have HC := refof_any (Fr.four n ++ p) A2 c2 w3 Y2.out.1
  have EM : Hid (Crc.more 0 (Fr.four n ++ p) = Fr.mark p) := by unfold Fr.mark; rw [HN.out]; exact rfl
  rw [EM.out, show (Fr.four n ++ p).length = 4 + n by rw [List.length_append, HN.out]; rfl] at HC
  have HM := Lib.hid (Fr.mark_lt p H.out.1)
  obtain ⟨M, eM⟩ : ∃ M, Fr.mark p = M := ⟨_, rfl⟩
  rw [eM] at HC HM
  have EMM := Lib.hid eM
  have HCC := Lib.hid HC
  have hMi : (M : Int) < 4294967296 := by have := HM.out; omega
  clear eM HC
  go_wp2_with fail
  refine HCC.out.mono ?_
  rintro e w3' ⟨rfl, rfl⟩
  go_wp2_with fail
  refine (four_any M w3 HM.out).mono ?_
  rintro e w4 ⟨A4, c4, rfl, o4⟩
  obtain ⟨y4, a4⟩ := o4.bytes (by simp [Fr.four, maxLen])
  obtain ⟨v5, w5, hr5, o5, b5⟩ := (O3.out.keep o4.bel).append y4 a4 (by rw [Fr.four_length, Fr.four_length]; omega) 22
  obtain ⟨A5, c5, rfl⟩ := o5.form
  rw [show (Fr.four n ++ Fr.four M).length = 8 by rfl] at hr5 o5
  rw [show (Fr.four M).length = 4 by rfl] at hr5
  have BB5 : Below w.heap.size w w5 := B2.out.trans (b5.mono B2.out.size)
  obtain ⟨v6, w6, hr6, o6, b6⟩ := o5.append (H.out.below BB5) HA.out (by rw [List.length_append, HN.out, Fr.four_length, Fr.four_length]; have := H2.out; omega) 22
  obtain ⟨A6, c6, rfl⟩ := o6.form
  have hL : Fr.four n ++ Fr.four M ++ p = Fr.frame p := by unfold Fr.frame; rw [HN.out, EMM.out, List.append_assoc]
  rw [hL] at hr6 o6
  rw [HN.out] at hr6
  obtain ⟨m, hm⟩ : ∃ m, m = (Fr.frame p).length := ⟨_, rfl⟩
  rw [← hm] at hr6 o6
  have HMM := Lib.hid hm
  have HR5 := Lib.hid hr5
  have HR6 := Lib.hid hr6
  have HG : Hid (Got w w6 (Fr.frame p) (.slice A6 m c6)) := (o6.got (by rw [Fr.frame_length, HN.out]; have := H2.out; unfold maxLen; omega)).from B2.out
  clear o4 y4 a4 hr5 o5 b5 BB5 hr6 o6 b6 hL hm
  go_wp2_with (at_builtin; first | refine wpList_append_run rfl _ _ 22 22 rfl _ _ rfl rfl _ w5 HR5.out ?_ | refine wpList_append_run rfl _ _ 22 22 rfl _ _ rfl rfl _ w6 HR6.out ?_)
  go_ret2
  exact ⟨A6, m, c6, HMM.out, rfl, HG.out⟩
end Go.Proofs.Ytlnblcgfgkkbhaa
