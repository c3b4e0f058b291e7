/-
  The contract of the document's Sectors. Its condition: numbers and a record below bounds.
-/
import Derived.Test.YtppdckncnfffcaaN2
import Derived.Test.YtppdckncnfffcaaJ19
import Derived.Deep.CutBlock
namespace Go.Proofs.Ytppdckncnfffcaa
open Go.RowKit
set_option maxRecDepth 100000

/-- A part's sector as the document begins it. -/
def hdOf (lap k : Nat) (r : List UInt8) (i : Nat) : List UInt8 := dig 4 lap ++ dig 4 k ++ dig 2 (i + 1) ++ dig 2 (partsN r.length) ++ dig 1 (piece r i).length ++ piece r i
theorem hd_length (lap k : Nat) (r : List UInt8) (i : Nat) : (hdOf lap k r i).length = 13 + (piece r i).length := by simp [hdOf, dig_length]; omega
theorem dig_one (n : Nat) : dig 1 n = [UInt8.ofNat n] := by
  have h : UInt8.ofNat (n % 256) = UInt8.ofNat n := by
    apply UInt8.toNat_inj.mp
    simp
  simp only [dig, h, List.nil_append]
theorem hd_is (lap k : Nat) (r : List UInt8) (i : Nat) : txt (hdOf lap k r i ++ List.replicate (47 - (piece r i).length) 0) ++ txt (dig 4 lap) = tx (ptS (ptOf lap k r i)) := by
  rw [txt_append]
  unfold tx
  rw [ptS_v (ptOf_len lap k r i)]
  congr 1
  unfold ptB hdOf ptOf
  rw [dig_one]
  simp [List.append_assoc]
theorem hd_cat (lap k : Nat) (r : List UInt8) (i : Nat) : txt (dig 4 lap) ++ txt (dig 4 k) ++ txt (dig 2 (i + 1)) ++ txt (dig 2 (partsN r.length)) ++ txt (dig 1 (piece r i).length) ++ txt (piece r i) = txt (hdOf lap k r i) := by
  simp only [txt_append]
  rfl
theorem pad_more (l : List UInt8) (z : Nat) : txt (l ++ List.replicate z 0) ++ ⟨#[0]⟩ = txt (l ++ List.replicate (z + 1) 0) := by
  show _ ++ txt [0] = _
  rw [txt_append, List.replicate_succ', List.append_assoc]
theorem secs_take (lap k : Nat) (r : List UInt8) {x : Nat} (h : x < partsN r.length) : ((secsOf lap k r).take (x + 1)).map tx = ((secsOf lap k r).take x).map tx ++ [tx (ptS (ptOf lap k r x))] := by
  have h2 := secsOf_at lap k r h
  rw [List.take_add_one, h2]
  simp
theorem dig_named (m n : Nat) : ∃ t : ByteArray, t = txt (dig m n) ∧ t.size = m := ⟨_, rfl, by rw [txt_size, dig_length]⟩
def szOf : Value → Nat
  | .string b => b.size
  | _ => 0
theorem drop_piece (r : List UInt8) (x : Nat) : (r.drop (x * 47)).drop (piece r x).length = r.drop ((x + 1) * 47) := by
  rw [List.drop_drop, piece_length]
  by_cases h : x * 47 + 47 ≤ r.length
  · rw [Nat.min_eq_left (by omega)]
    congr 1
    omega
  · rw [List.drop_of_length_le (by omega), List.drop_of_length_le (by omega)]
theorem txt_from (l : List UInt8) (k : Nat) (n : Nat) (hn : l.length = n) : (txt l).extract k n = txt (l.drop k) := by
  rw [txt_extract, List.take_of_length_le (by rw [List.length_drop]; omega)]
set_option maxHeartbeats 8000000 in
/-- The document's Sectors. -/
theorem refsecs_any (lap k : Nat) (r : List UInt8) (w : World) (hlap : lap ≤ 4294967296) (hk : k ≤ 4294967296) (hr : r.length ≤ 100000) :
    Calls Try.prog 14 #[.int .i64 (lap : Int), .int .i64 (k : Int), .string (txt r)] w fun e w' => ∃ v, e = .returned v ∧ RowT eKy 9 w' w.heap.size v ((secsOf lap k r).map tx) ∧ Below w.heap.size w w' := by
  have HL := Lib.hid hlap
  have HK := Lib.hid hk
  have HR := Lib.hid hr
  obtain ⟨n, hn⟩ : ∃ n, n = partsN r.length := ⟨_, rfl⟩
  have HN := Lib.hid hn
  have hn3 : n ≤ 3000 := by unfold partsN at hn; omega
  have HN3 := Lib.hid hn3
  obtain ⟨w1, hw1⟩ : ∃ w1, w1 = w.alloc (.cells #[] 9) := ⟨_, rfl⟩
  have b1 : Below w.heap.size w w1 := by rw [hw1]; exact Below.alloc (Below.refl _ _) (Nat.le_refl _) _
  have r1 : RowT eKy 9 w1 w.heap.size (.slice (some ⟨w.heap.size, 0, none⟩) 0 0) [] := by rw [hw1]; exact RowT.empty w
  have HB1 := Lib.hid b1
  have HR1 := Lib.hid r1
  have hsz := txt_size r
  obtain ⟨m, hm⟩ : ∃ m, m = r.length := ⟨_, rfl⟩
  rw [← hm] at hsz
  have hm1 : (m : Int) ≤ 1000000 := by omega
  have CP := refparts_any (m : Int) w1 hm1
  have ep : partsI (m : Int) = (n : Int) := by simp [partsI, hn, hm]; omega
  rw [ep] at CP
  have HCP := Lib.hid CP
  have T0 : ∃ T, T = txt r := ⟨_, rfl⟩
  obtain ⟨T, hT⟩ := T0
  rw [← hT] at hsz ⊢
  have HT := Lib.hid hT
  clear hlap hk hr hn hm CP ep hT b1 r1 hn3
  go_enter Try.func14, Try.ntmps14
  go_wp2_with fail
  rw [← hw1]
  refine HCP.out.mono ?_
  rintro e w2 ⟨rfl, rfl⟩
  clear HCP hw1 hsz hm1
  go_wp2_with fail
  go_loopw [2, 7, 9] (fun s2 s7 s9 wr => ∃ x : Nat, x ≤ n ∧ s2 = .string (txt (r.drop (x * 47))) ∧ s9 = .int .i64 ((x : Int) + 1) ∧ RowT eKy 9 wr w.heap.size s7 (((secsOf lap k r).take x).map tx) ∧ Below w.heap.size w wr) (fun _ _ s _ => n + 1 - (intOf s).toNat)
  case atStart => exact ⟨0, Nat.zero_le _, by rw [HT.out]; simp, rfl, by simpa using HR1.out, HB1.out⟩
  case round =>
    obtain ⟨x, hx, rfl, rfl, hr, hb⟩ := hrel
    clear HR1 HB1
    have HX := Lib.hid hx
    have HRW := Lib.hid hr
    have HB := Lib.hid hb
    by_cases hlt : x < n
    · obtain ⟨R, hR⟩ : ∃ R, R = txt (r.drop (x * 47)) := ⟨_, rfl⟩
      obtain ⟨mR, hmR⟩ : ∃ mR, mR = (r.drop (x * 47)).length := ⟨_, rfl⟩
      have hRs : R.size = mR := by rw [hR, txt_size, hmR]
      obtain ⟨p, hp⟩ : ∃ p, p = (piece r x).length := ⟨_, rfl⟩
      have hpm : p = min 47 mR := by rw [hp, piece_length, hmR, List.length_drop]
      have hp47 : p ≤ 47 := by omega
      have hpR : p ≤ mR := by omega
      have he1 : Hid (47 < mR → R.extract 0 47 = txt (piece r x)) := fun _ => by rw [hR, txt_extract]; rfl
      have he2 : Hid (¬ 47 < mR → R = txt (piece r x)) := fun h => by
        rw [hR]
        unfold piece
        rw [List.take_of_length_le (by omega)]
      have he3 : R.extract p mR = txt (r.drop ((x + 1) * 47)) := by rw [hR, txt_from _ _ _ hmR.symm, hp, drop_piece]
      obtain ⟨P, hP⟩ : ∃ P, P = txt (piece r x) := ⟨_, rfl⟩
      have hPs : P.size = p := by rw [hP, txt_size, hp]
      obtain ⟨R2, hR2⟩ : ∃ R2, R2 = txt (r.drop ((x + 1) * 47)) := ⟨_, rfl⟩
      rw [← hP] at he1 he2
      rw [← hR2] at he3
      rw [← hR]
      have HLT := Lib.hid hlt
      have HP := Lib.hid hP
      have HPL := Lib.hid hp
      have HR2 := Lib.hid hR2
      have hmb : mR ≤ 100000 := by have := HR.out; rw [hmR, List.length_drop]; omega
      have hmb2 : (mR : Int) ≤ 100000 := by omega
      have hlti : (x : Int) + 1 ≤ (n : Int) := by omega
      obtain ⟨A, c, hv, -⟩ := hr.form
      have hln : (((secsOf lap k r).take x).map tx).length = x := by
        rw [List.length_map, List.length_take, secsOf_length]
        have := HN.out
        omega
      rw [hln] at hv
      subst hv
      have HLN := Lib.hid hln
      obtain ⟨W0, rfl⟩ : ∃ W0, W0 = wr := ⟨wr, rfl⟩
      have HPM := Lib.hid hpm
      have hp47i : (p : Int) ≤ 47 := by omega
      have hpRi : (p : Int) ≤ (mR : Int) := by omega
      clear hx hr hb hlt hR hmR hp hP hR2 hmb hln hpm hp47 hpR
      go_upto_if 24 with fail
      go_cut [10] from 25 to 26 (fun s10 wx => s10 = .string P ∧ W0 = wx)
      case first =>
        by_cases h47 : 47 < mR
        · have e := he1.out h47
          have h47i : (47 : Int) < (mR : Int) := by omega
          clear h47
          go_wp2_with fail
          go_meet
          case rel => exact ⟨rfl, rfl⟩
        · have e := Lib.hid (he2.out h47)
          have h47i : ¬ (47 : Int) < (mR : Int) := by omega
          clear h47
          go_wp2_with fail
          go_meet
          case rel => exact ⟨by rw [e.out], rfl⟩
      case rest =>
        obtain ⟨rfl, rfl⟩ := hcut
        clear he1 he2
        have HCAT := hd_cat lap k r x
        rw [← HN.out, ← HPL.out, ← HP.out] at HCAT
        have HHL := Lib.hid (hd_length lap k r x)
        obtain ⟨t1, e1, s1⟩ := dig_named 4 lap
        obtain ⟨t2, e2, s2⟩ := dig_named 4 k
        obtain ⟨t3, e3, s3⟩ := dig_named 2 (x + 1)
        obtain ⟨t4, e4, s4⟩ := dig_named 2 n
        obtain ⟨t5, e5, s5⟩ := dig_named 1 p
        rw [← e1, ← e2, ← e3, ← e4, ← e5] at HCAT
        have HC := Lib.hid HCAT
        clear HCAT
        have C1 := refbytes_any lap 4 W0 (by have := HL.out; omega) (by omega)
        rw [← e1] at C1
        have D1 := Lib.hid C1
        clear C1
        have E1 := Lib.hid e1
        clear e1
        go_wp2_with fail
        refine D1.out.mono ?_
        rintro e w1 ⟨rfl, b1⟩
        clear D1
        have C2 := refbytes_any k 4 w1 (by have := HK.out; omega) (by omega)
        rw [← e2] at C2
        have D2 := Lib.hid C2
        clear C2
        clear e2
        go_wp2_with fail
        refine D2.out.mono ?_
        rintro e w2 ⟨rfl, b2⟩
        clear D2
        have C3 := refbytes_any (x + 1) 2 w2 (by have := HLT.out; have := HN3.out; omega) (by omega)
        rw [← e3] at C3
        rw [show ((x + 1 : Nat) : Int) = (x : Int) + 1 by omega] at C3
        have D3 := Lib.hid C3
        clear C3
        clear e3
        go_wp2_with fail
        refine D3.out.mono ?_
        rintro e w3 ⟨rfl, b3⟩
        clear D3
        have C4 := refbytes_any n 2 w3 (by have := HN3.out; omega) (by omega)
        rw [← e4] at C4
        have D4 := Lib.hid C4
        clear C4
        clear e4
        go_wp2_with fail
        refine D4.out.mono ?_
        rintro e w4 ⟨rfl, b4⟩
        clear D4
        have C5 := refbytes_any p 1 w4 (by omega) (by omega)
        rw [← e5] at C5
        have D5 := Lib.hid C5
        clear C5
        clear e5
        go_wp2_with fail
        refine D5.out.mono ?_
        rintro e w5 ⟨rfl, b5⟩
        clear D5
        have B5 := Lib.hid ((((b1.trans (b2.mono b1.size)).trans (b3.mono (Nat.le_trans b1.size b2.size))).trans (b4.mono (Nat.le_trans (Nat.le_trans b1.size b2.size) b3.size))).trans (b5.mono (Nat.le_trans (Nat.le_trans (Nat.le_trans b1.size b2.size) b3.size) b4.size)))
        clear b1 b2 b3 b4 b5
        have hbig : ¬ 9223372036854775807 < 13 + p := by omega
        go_wp2_with fail
        clear hbig hlti s2 s3 s4 s5 he3
        go_loopw [11] (fun s11 wr => ∃ z : Nat, p + z ≤ 47 ∧ s11 = .string (txt (hdOf lap k r x ++ List.replicate z 0)) ∧ w5 = wr) (fun s _ => 60 - szOf s)
        case atStart => exact ⟨0, by omega, by rw [HC.out]; simp, rfl⟩
        case round =>
          obtain ⟨z, hz, rfl, rfl⟩ := hrel
          have hsS : (txt (hdOf lap k r x ++ List.replicate z 0)).size = 13 + p + z := by
            rw [txt_size, List.length_append, HHL.out, List.length_replicate, ← HPL.out]
          obtain ⟨S, hS⟩ : ∃ S, S = txt (hdOf lap k r x ++ List.replicate z 0) := ⟨_, rfl⟩
          rw [← hS] at hsS ⊢
          by_cases hz2 : p + z < 47
          · have HZ := Lib.hid hz2
            have hS2 := pad_more (hdOf lap k r x) z
            rw [← hS] at hS2
            have HS2 := Lib.hid hS2
            have HSS := Lib.hid hsS
            obtain ⟨y, hy⟩ : ∃ y, y = 13 + p + z := ⟨_, rfl⟩
            rw [← hy] at hsS
            have hlti : (y : Int) < 60 := by omega
            have hbig : ¬ 9223372036854775807 < y + 1 := by omega
            clear hz hz2 hS hS2 hy
            go_wp2_with fail
            go_roundw
            case rel => exact ⟨z + 1, by have := HZ.out; omega, by rw [← HS2.out], trivial⟩
            case measure =>
              show 60 - (S ++ ⟨#[0]⟩ : ByteArray).size < 60 - S.size
              rw [ByteArray.size_append, HSS.out]
              have := HZ.out
              show 60 - (13 + p + z + 1) < _
              omega
          · have hz3 : z = 47 - p := by omega
            have hS2 := hd_is lap k r x
            rw [← HPL.out, ← hz3, ← hS, ← E1.out] at hS2
            have hsS2 : S.size = 60 := by omega
            obtain ⟨X, hX⟩ : ∃ X, X = S ++ t1 := ⟨_, rfl⟩
            have HXX := Lib.hid hX
            have HS2 := Lib.hid hS2
            have C6 := refbytes_any lap 4 w5 (by have := HL.out; omega) (by omega)
            rw [← E1.out] at C6
            have D6 := Lib.hid C6
            have hbig : ¬ 9223372036854775807 < 60 + 4 := by omega
            clear hz hz2 hz3 hS hS2 hsS C6 hX
            go_wp2_with fail
            refine D6.out.mono ?_
            rintro e w6 ⟨rfl, b6⟩
            have hw5 := HB.out.trans (B5.out.mono HB.out.size)
            have hw6 := hw5.trans (b6.mono hw5.size)
            have bA : Below w6.heap.size w6 (w6.alloc (.cells #[.string (S ++ t1)] 9)) := (Below.refl _ _).alloc (Nat.le_refl _) _
            obtain ⟨va, W7, hrun, hrow7, hg7⟩ := (((HRW.out.below B5.out).below b6).below bA).app el33 (Nat.le_trans hw6.size bA.size) (A := some ⟨w6.heap.size, 0, none⟩) (n := 1) (c := 1) (sl_one (E := eKy) w6 (S ++ t1) 9) rfl (by simp) (by have := HLN.out; have := HLT.out; have := HN3.out; omega)
            have HW7 : Hid (Below w.heap.size w W7) := (hw6.trans (bA.mono hw6.size)).grown hg7 (Nat.le_trans hw6.size bA.size) (fun k hk => ((((HRW.out.below B5.out).below b6).below bA).own hk).1)
            have HR7 := Lib.hid hrow7
            have HE := Lib.hid (secs_take lap k r (x := x) (by rw [← HN.out]; exact HLT.out))
            have hwr : IntKind.i64.wrap ((x : Int) + 1 + 1) = (x : Int) + 1 + 1 := IntWalk.i64_in _ (by have := HLT.out; have := HN3.out; omega)
            clear b6 hw5 hw6 bA hrow7 hg7 D6
            go_wp2_with (refine wpList_append_run rfl _ _ _ _ rfl _ _ rfl rfl _ _ hrun ?_)
            go_roundw
            case rel => exact ⟨x + 1, HLT.out, by rw [← HR2.out], by go_num, by rw [HE.out, ← HS2.out]; exact HR7.out, HW7.out⟩
            case measure => simp [intOf]; have := HLT.out; omega
    · have hxn : x = n := by omega
      have hlti : ¬ (x : Int) + 1 ≤ (n : Int) := by omega
      have he : (secsOf lap k r).take x = secsOf lap k r := List.take_of_length_le (by rw [secsOf_length, hxn, HN.out]; exact Nat.le_refl _)
      rw [he] at HRW
      clear hxn hlt hx hr hb he
      go_wp2
      go_ret
      exact ⟨_, rfl, HRW.out, HB.out⟩
end Go.Proofs.Ytppdckncnfffcaa
