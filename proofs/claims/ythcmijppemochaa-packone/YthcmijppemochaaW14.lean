/-
  The contracts of the document's Bytes and Same; the walk of PackWrites. Its conditions: none.
-/
import Derived.Test.YthcmijppemochaaW12
import Derived.Test.YthcmijppemochaaW13
namespace Go.Proofs.Ythcmijppemochaa
open Go.RowKit

theorem same_true (L : List Nat) (A B : Option Addr) (c d : Nat) (w : World) (h1 : Bytes w A L) (h2 : Bytes w B L) :
    Calls Try.prog 16 #[.slice A L.length c, .slice B L.length d] w fun e w' => e = .returned (.bool true) ∧ w = w' := by
  have cv1 := conv_text w A L c h1
  have cv2 := conv_text w B L d h2
  clear h1 h2
  go_enter Try.func16, Try.ntmps16
  go_wp2
  go_ret
  exact ⟨rfl, rfl⟩

/-- What the document's Bytes leaves. -/
def RbPost (w : World) (s : Option (List Nat)) (e : Ending) (w' : World) : Prop :=
  match s with
  | none => e = .returned (.tuple #[.slice none 0 0, .bool false]) ∧ Below w.heap.size w w'
  | some L => ∃ v, e = .returned (.tuple #[v, .bool true]) ∧ Got w w' L v
def RbRel (l : List It) (w : World) (out i : Value) (wr : World) : Prop :=
  ∃ (k : Nat) (L : List Nat) (A : Option Addr) (c : Nat), i = .int .i64 (k : Int) ∧ k ≤ l.length ∧ wfold (l.take k) = some L ∧ out = .slice A L.length c ∧ OwnB w wr L (.slice A L.length c)
theorem Got.parts {w w' : World} {L : List Nat} {v : Value} (h : Got w w' L v) : ∃ A c, v = .slice A L.length c ∧ Bytes w' A L ∧ (A = none → c = 0) ∧ Below w.heap.size w w' := by
  obtain ⟨A, c, h1, h2, h3, h4, h5, h6, h7⟩ := h
  exact ⟨A, c, h1, h2, h5, h7⟩
set_option maxHeartbeats 1000000 in
set_option maxRecDepth 100000 in
theorem refbytes_any (l : List It) (A : Option Addr) (cap : Nat) (w : World) (h : Items w A l) (hw : weight l ≤ 100000) :
    Calls Try.prog 12 #[.slice A l.length cap] w (RbPost w (wfold l)) := by
  have HSZ := Lib.hid (size_of_weight hw)
  have HRM := Lib.hid (room_wfold l HSZ.out)
  have HWT := Lib.hid hw
  have hll := length_le_weight l
  have HLL : Hid (l.length ≤ 100000) := by show _ ≤ _; omega
  have H := Lib.hid h
  have HO := Lib.hid (OwnB.empty w w (Below.refl _ _))
  clear h hw hll
  go_enter Try.func12, Try.ntmps12
  go_wp2
  go_loopw [4, 5] (RbRel l w) (fun _ i _ => l.length - (intOf i).toNat)
  case atStart => exact ⟨0, [], _, 0, rfl, Nat.zero_le _, rfl, rfl, HO.out⟩
  case round =>
    obtain ⟨k, L, Av, cv, rfl, hk, hfo, rfl, hown⟩ := hrel
    have HB := Lib.hid hown.bel
    have HF := Lib.hid hfo
    have HOW := Lib.hid hown
    have HM : Hid (L.length ≤ 900000) := by
      have h1 := HRM.out k hk
      have h2 := weight_take_le l k
      have h3 := HWT.out
      rw [hfo] at h1
      show _ ≤ _
      simp only [room] at h1
      omega
    clear hfo hown
    by_cases hlt : k < l.length
    · obtain ⟨b, off, rfl, ⟨c0, c1, c2⟩, hok⟩ := (H.out.below HB.out).at_ hlt
      have HE := Lib.hid (wfold_step hlt)
      have HZ := Lib.hid (HSZ.out _ (List.getElem_mem hlt))
      clear hok
      obtain ⟨x, hx⟩ : ∃ x, l[k] = x := ⟨_, rfl⟩
      rw [hx] at c0 c1 c2 HE HZ
      rw [HF.out] at HE
      have HX := Lib.hid hx
      clear hx
      have hkI : (k : Int) < 100000 := by have := HLL.out; omega
      by_cases h1 : x.K = 1
      · rw [h1] at c0
        have HE2 : Hid (wfold (l.take (k + 1)) = some (L ++ [flagByte (x.N != 0)])) := by rw [HE.out]; unfold wstep; rw [itemEnc_flag h1]; exact rfl
        by_cases hN : x.N = 0
        · obtain ⟨v', w', hr, ho⟩ := HOW.out.append_one 0 0 rfl (by omega) (by have := HM.out; omega) 25
          have hb0 : (x.N != 0) = false := by simpa using hN
          rw [hb0] at HE2
          have HE3 : Hid (wfold (l.take (k + 1)) = some (L ++ [0])) := HE2
          obtain ⟨A2, c2', rfl⟩ := ho.form
          have HR := Lib.hid hr
          have HO2 := Lib.hid ho
          clear hr ho h1 hN HE2
          go_wp2_with (at_builtin; refine wpList_append_run rfl _ _ 25 25 rfl _ _ rfl rfl _ w' HR.out ?_)
          go_roundw
          case rel => exact ⟨k + 1, _, A2, c2', by go_num, by omega, HE3.out, by simp, HO2.out⟩
          case measure => simp [intOf]; omega
        · obtain ⟨v', w', hr, ho⟩ := HOW.out.append_one 1 1 rfl (by omega) (by have := HM.out; omega) 25
          have hb0 : (x.N != 0) = true := by simpa using hN
          rw [hb0] at HE2
          have HE3 : Hid (wfold (l.take (k + 1)) = some (L ++ [1])) := HE2
          obtain ⟨A2, c2', rfl⟩ := ho.form
          have HR := Lib.hid hr
          have HO2 := Lib.hid ho
          clear hr ho h1 hN HE2
          go_wp2_with (at_builtin; refine wpList_append_run rfl _ _ 25 25 rfl _ _ rfl rfl _ w' HR.out ?_)
          go_roundw
          case rel => exact ⟨k + 1, _, A2, c2', by go_num, by omega, HE3.out, by simp, HO2.out⟩
          case measure => simp [intOf]; omega
      · by_cases h2 : x.K = 2
        · rw [h2] at c0
          have HE2 : Hid (wfold (l.take (k + 1)) = some (L ++ (Pk.digits x.S.size ++ bytesOf x.S))) := by rw [HE.out]; unfold wstep; rw [itemEnc_text h2]; exact rfl
          have K1 := Lib.hid (digits_good (x.S.size : Int) wr (by omega) (by have := HZ.out; omega))
          have HDL := Lib.hid (Pk.digits_length_most (n := x.S.size) (by have := HZ.out; unfold Pk.most; omega))
          clear h1 h2
          go_wp2_with fail
          refine K1.out.mono ?_
          rintro e w2 ⟨v, rfl, hg⟩
          obtain ⟨A2, c2', rfl, hb2, hn2, hbel2⟩ := hg.parts
          rw [show ((x.S.size : Nat) : Int).toNat = x.S.size by omega] at hb2 ⊢
          obtain ⟨v3, w3, hr3, ho3, _⟩ := (HOW.out.keep hbel2).append hb2 hn2 (by have := HM.out; have := HDL.out; omega) 25
          obtain ⟨A3, c3, rfl⟩ := ho3.form
          obtain ⟨v4, w4, hr4, ho4⟩ := ho3.append_string x.S (by rw [List.length_append]; have := HM.out; have := HDL.out; have := HZ.out; omega) 25
          obtain ⟨A4, c4, rfl⟩ := ho4.form
          have hcell : w3.cell? ⟨b, off + k * 3 + 2, none⟩ = some (.string x.S) := by
            obtain ⟨b9, off9, e9, hi9, _⟩ := (H.out.below ho3.bel).at_ hlt
            injection e9 with e9
            injection e9 with e8 e7
            subst e8 e7
            rw [HX.out] at hi9
            exact hi9.2.2
          have HO4 := Lib.hid ho4
          rw [List.length_append] at hr3 hr4
          have HR3 := Lib.hid hr3
          have HR4 := Lib.hid hr4
          clear hg hb2 hn2 hbel2 hr3 ho3 hr4 ho4
          go_wp2_with (first
            | (at_builtin; refine wpList_append_run rfl _ _ 25 25 rfl _ _ rfl rfl _ w3 HR3.out ?_)
            | (at_builtin; refine wpList_append_run rfl _ _ 25 9 rfl _ _ rfl rfl _ w4 HR4.out ?_))
          go_roundw
          case rel => exact ⟨k + 1, _, A4, c4, by go_num, by omega, HE2.out, by simp, by rw [← List.append_assoc]; exact HO4.out⟩
          case measure => simp [intOf]; omega
        · have b1 : (x.K == 1) = false := by simpa using h1
          have b2 : (x.K == 2) = false := by simpa using h2
          have HEn := Lib.hid (itemEnc_num h1 h2)
          clear h1 h2
          by_cases hr : 0 ≤ x.N ∧ x.N ≤ 9007199254740992
          · have HE2 : Hid (wfold (l.take (k + 1)) = some (L ++ Pk.digits x.N.toNat)) := by rw [HE.out]; unfold wstep; rw [HEn.out, if_pos hr]; exact rfl
            have K1 := Lib.hid (digits_good x.N wr hr.1 hr.2)
            have HDL := Lib.hid (Pk.digits_length_most (n := x.N.toNat) (by unfold Pk.most; omega))
            clear hr
            go_wp2_with fail
            refine K1.out.mono ?_
            rintro e w2 ⟨v, rfl, hg⟩
            obtain ⟨A2, c2', rfl, hb2, hn2, hbel2⟩ := hg.parts
            obtain ⟨v3, w3, hr3, ho3, _⟩ := (HOW.out.keep hbel2).append hb2 hn2 (by have := HM.out; have := HDL.out; omega) 25
            obtain ⟨A3, c3, rfl⟩ := ho3.form
            have HR3 := Lib.hid hr3
            have HO3 := Lib.hid ho3
            clear hg hb2 hn2 hbel2 hr3 ho3
            go_wp2_with (at_builtin; refine wpList_append_run rfl _ _ 25 25 rfl _ _ rfl rfl _ w3 HR3.out ?_)
            go_roundw
            case rel => exact ⟨k + 1, _, A3, c3, by go_num, by omega, HE2.out, by simp, HO3.out⟩
            case measure => simp [intOf]; omega
          · have HE2 : Hid (wfold l = none) := wfold_none_of (k := k + 1) (by rw [HE.out]; unfold wstep; rw [HEn.out, if_neg hr])
            have K1 := Lib.hid (digits_bad x.N wr (by omega))
            clear hr
            go_wp2_with fail
            refine K1.out.mono ?_
            rintro e w2 ⟨rfl, rfl⟩
            go_wp2
            go_ret2
            rw [HE2.out]
            exact ⟨rfl, HB.out⟩
    · have HE2 : Hid (wfold l = some L) := by rw [← HF.out, List.take_of_length_le (by omega)]; exact rfl
      have HG := Lib.hid (HOW.out.got (by have := HM.out; unfold maxLen; omega))
      go_wp2
      go_ret2
      rw [HE2.out]
      exact ⟨_, rfl, HG.out⟩
end Go.Proofs.Ythcmijppemochaa
