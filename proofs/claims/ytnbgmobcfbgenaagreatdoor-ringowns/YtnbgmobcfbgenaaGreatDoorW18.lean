/-
  The contracts of the document's Hash and Way. Their conditions: none beside sizes.
-/
import Derived.Test.YtnbgmobcfbgenaaGreatDoorW16
namespace Go.Proofs.YtnbgmobcfbgenaaGreatDoor
open Go.RowKit Go.Maps
open Go.Sort (grow)

set_option maxHeartbeats 400000 in
theorem refhash_any (s : ByteArray) (w : World) (hs : s.size ≤ maxLen) :
    Calls Tryz.prog 18 #[.string s] w fun e w' => e = .returned (.int .u64 (hsh s : Int)) ∧ w = w' := by
  have hsM : (s.size : Int) ≤ 9223372036854775807 := by unfold maxLen at hs; omega
  clear hs
  unfold hsh YtnbgmobcfbgenaaGreatDoor.hash
  go_enter Tryz.func18, Tryz.ntmps18
  go_wp2
  go_loop [3, 4] (fun h i => ∃ k : Nat, k ≤ s.size ∧ i = .int .i64 k ∧ h = .int .u64 ((((s.data.toList.map UInt8.toNat).take k).foldl hstep hstart : Nat) : Int)) (fun _ i => s.size - (intOf i).toNat)
  case atStart => exact ⟨0, Nat.zero_le _, rfl, rfl⟩
  case round =>
    obtain ⟨k, hk, rfl, rfl⟩ := hrel
    have hH := hfold_lt ((s.data.toList.map UInt8.toNat).take k) _ hstart_lt
    by_cases hlt : k < s.size
    · have hc : s[k].toNat < 256 := UInt8.toNat_lt _
      have HS := Lib.hid (snoc_hash s k hlt hstep hstart)
      have HC := Lib.hid (conv_u64 _ hc)
      have HG := Lib.hid (hstep_go _ _ hH hc)
      have hlti : (k : Int) < (s.size : Int) := by omega
      clear hc hH
      go_wp2
      go_round
      case rel => exact ⟨k + 1, by omega, by go_num, by rw [HS.out, ← HG.out, HC.out]⟩
      case measure => simp [intOf]; omega
    · go_wp2
      go_ret
      rw [hspread_go _ hH, tdiv_go _ (hspread_lt _), hend_go _ (hspread_lt _), List.take_of_length_le (by simp; omega)]
      exact ⟨rfl, rfl⟩
/-- The nearest way of the first j points. -/
def wayB (H : Nat) (a : ByteArray) (j : Nat) : Nat := if j = 0 then 0 else wayUpto H a (j - 1)
theorem wayB_succ (H : Nat) (a : ByteArray) (j : Nat) : wayB H a (j + 1) = if j = 0 ∨ dist H (pt a j) < wayB H a j then dist H (pt a j) else wayB H a j := by
  cases j with
  | zero =>
    unfold wayB
    simp [wayUpto]
  | succ j =>
    have e1 : wayB H a (j + 1 + 1) = wayUpto H a (j + 1) := by unfold wayB; rw [if_neg (by omega)]; rfl
    have e2 : wayB H a (j + 1) = wayUpto H a j := by unfold wayB; rw [if_neg (by omega)]; rfl
    rw [e1, e2]
    have e3 : wayUpto H a (j + 1) = if dist H (pt a (j + 1)) < wayUpto H a j then dist H (pt a (j + 1)) else wayUpto H a j := rfl
    rw [e3]
    by_cases h : dist H (pt a (j + 1)) < wayUpto H a j
    · rw [if_pos h, if_pos (Or.inr h)]
    · rw [if_neg h, if_neg]
      rintro (h2 | h2)
      · omega
      · exact h h2
theorem wayB_way (H : Nat) (a : ByteArray) : wayB H a 16 = way H a := by
  unfold wayB way
  rw [if_neg (by omega)]
theorem sub_go {H p : Nat} (hH : H < 18446744073709551616) (_hp : p < 18446744073709551616) : IntKind.u64.wrap ((p : Int) - (H : Int)) = ((dist H p : Nat) : Int) := by
  have h : IntKind.u64.wrap ((p : Int) - (H : Int)) = ((p : Int) - (H : Int)) % 18446744073709551616 := by simp [IntKind.wrap, IntKind.bits, IntKind.signed]
  rw [h]
  unfold dist
  omega
/-- One digit. -/
def dg (q : Nat) : ByteArray := ⟨#[UInt8.ofNat (48 + q)]⟩
set_option maxRecDepth 100000 in
theorem digit_go (q : Nat) (hq : q < 10) (w : World) : (Instr.slice 9 (.string ⟨#[48, 49, 50, 51, 52, 53, 54, 55, 56, 57]⟩) (some (.int .i64 (q : Int))) (some (.int .i64 ((q : Int) + 1))) none).run Tryz.prog w = .ok (.string (dg q)) w := by
  have h : q = 0 ∨ q = 1 ∨ q = 2 ∨ q = 3 ∨ q = 4 ∨ q = 5 ∨ q = 6 ∨ q = 7 ∨ q = 8 ∨ q = 9 := by omega
  rcases h with rfl | rfl | rfl | rfl | rfl | rfl | rfl | rfl | rfl | rfl <;> rfl
theorem dig_lo {j : Nat} (h : j < 10) : dg j = dig j := by
  unfold dig dg
  rw [if_pos h]
theorem dig_hi {j q : Nat} (h : ¬ j < 10) (hj : j < 16) (e : q + 10 = j) : (⟨#[49]⟩ : ByteArray) ++ dg q = dig j := by
  have h2 : q = 0 ∨ q = 1 ∨ q = 2 ∨ q = 3 ∨ q = 4 ∨ q = 5 := by omega
  subst e
  rcases h2 with rfl | rfl | rfl | rfl | rfl | rfl <;> rfl
theorem add_one_dig {q j : Nat} (e : (⟨#[49]⟩ : ByteArray) ++ dg q = dig j) (w : World) : (Op.stringOp .add (⟨#[49]⟩ : ByteArray) (dg q)).run Tryz.prog w = .ok (.string (dig j)) w := by
  rw [← e]
  exact run_string_add_sum w _ _ (by show 1 + 1 ≤ _; omega)
set_option maxRecDepth 100000 in
set_option maxHeartbeats 16000000 in
theorem refway_any (H : Nat) (a : ByteArray) (w : World) (hH : H < 18446744073709551616) (ha : a.size ≤ 140737488351232) :
    Calls Tryz.prog 19 #[.int .u64 (H : Int), .string a] w fun e w' => e = .returned (.int .u64 (way H a : Int)) ∧ w = w' := by
  have HH := Lib.hid hH
  have HA := Lib.hid ha
  clear hH ha
  go_enter Tryz.func19, Tryz.ntmps19
  go_wp2
  go_loop [5, 6] (fun s5 s6 => ∃ j : Nat, j ≤ 16 ∧ s6 = .int .i64 (j : Int) ∧ s5 = .int .u64 (wayB H a j : Int)) (fun _ i => 16 - (intOf i).toNat)
  case atStart => exact ⟨0, Nat.zero_le _, rfl, rfl⟩
  case round =>
    obtain ⟨j, hj, rfl, rfl⟩ := hrel
    by_cases hlt : j < 16
    · have hji : (j : Int) < 16 := by omega
      have CH := Lib.hid (fun W => refhash_any (ptext a j) W (by have := ptext_size a j; have := HA.out; unfold maxLen; omega))
      have s1 := add_slash HA.out
      have s2 := add_dig HA.out j
      have HW := Lib.hid (wayB_succ H a j)
      obtain ⟨p, hp⟩ : ∃ p, p = pt a j := ⟨_, rfl⟩
      have hsub := sub_go HH.out (pt_lt a j)
      rw [← hp] at hsub HW
      have e0 : hsh (ptext a j) = p := hp.symm
      rw [e0] at CH
      generalize dist H p = d at hsub HW
      generalize wayB H a j = z at HW
      have HK2 : Hid (j + 1 ≤ 16) := hlt
      clear hp e0
      by_cases h9 : j > 9
      · have hj9 : (j : Int) > 9 := by omega
        obtain ⟨q, hq⟩ : ∃ q, q + 10 = j := ⟨j - 10, by omega⟩
        have q1 : (j : Int).tmod 10 = (q : Int) := by rw [Int.tmod_eq_emod_of_nonneg (by omega)]; omega
        have q2 : (j : Int) % 10 = (q : Int) := by omega
        have q3 := digit_go q (by omega)
        have q4 := add_one_dig (dig_hi (by omega) hlt hq)
        have hj0 : (0 : Int) ≤ (j : Int) := by omega
        have hq10 : (q : Int) < 10 := by omega
        have hjz : ((j : Int) == 0) = false := by rw [beq_eq_false_iff_ne]; omega
        have hjz2 : decide ((j : Int) = 0) = false := decide_eq_false (by omega)
        have hjz3 : ¬ (j : Int) = 0 := by omega
        have HNZ : Hid (¬ j = 0) := by show ¬ _; omega
        clear hlt h9 hj hq
        by_cases hd : d < z
        · have HE : Hid (wayB H a (j + 1) = d) := by show _ = _; rw [HW.out, if_pos (Or.inr hd)]
          have hdi : (d : Int) < (z : Int) := by omega
          clear hd
          go_wp2_with fail
          refine (CH.out _).mono ?_
          rintro r w1 ⟨rfl, rfl⟩
          go_wp2
          go_round
          case rel => exact ⟨j + 1, HK2.out, by go_num, by rw [HE.out]⟩
          case measure => simp [intOf]; omega
        · have HE : Hid (wayB H a (j + 1) = z) := by
            show _ = _
            rw [HW.out, if_neg]
            rintro (h | h)
            · exact HNZ.out h
            · exact hd h
          have hdi : ¬ (d : Int) < (z : Int) := by omega
          clear hd
          go_wp2_with fail
          refine (CH.out _).mono ?_
          rintro r w1 ⟨rfl, rfl⟩
          go_wp2
          go_round
          case rel => exact ⟨j + 1, HK2.out, by go_num, by rw [HE.out]⟩
          case measure => simp [intOf]; omega
      · have hj9 : ¬ (j : Int) > 9 := by omega
        have q1 : (j : Int).tmod 10 = (j : Int) := by rw [Int.tmod_eq_emod_of_nonneg (by omega)]; omega
        have q2 : (j : Int) % 10 = (j : Int) := by omega
        have q3 := digit_go j (by omega)
        rw [dig_lo (by omega)] at q3
        have hj0 : (0 : Int) ≤ (j : Int) := by omega
        have hj1 : (j : Int) < 10 := by omega
        by_cases hz : j = 0
        · have hjz : ((j : Int) == 0) = true := by rw [hz]; rfl
          have hjz2 : decide ((j : Int) = 0) = true := decide_eq_true (by omega)
          have HE : Hid (wayB H a (j + 1) = d) := by show _ = _; rw [HW.out, if_pos (Or.inl hz)]
          clear hz hlt h9 hj
          go_wp2_with fail
          refine (CH.out _).mono ?_
          rintro r w1 ⟨rfl, rfl⟩
          go_wp2
          go_round
          case rel => exact ⟨j + 1, HK2.out, by go_num, by rw [HE.out]⟩
          case measure => simp [intOf]; omega
        · have hjz : ((j : Int) == 0) = false := by rw [beq_eq_false_iff_ne]; omega
          have hjz2 : decide ((j : Int) = 0) = false := decide_eq_false (by omega)
          have hjz3 : ¬ (j : Int) = 0 := by omega
          have HNZ : Hid (¬ j = 0) := hz
          clear hz hlt h9 hj
          by_cases hd : d < z
          · have HE : Hid (wayB H a (j + 1) = d) := by show _ = _; rw [HW.out, if_pos (Or.inr hd)]
            have hdi : (d : Int) < (z : Int) := by omega
            clear hd
            go_wp2_with fail
            refine (CH.out _).mono ?_
            rintro r w1 ⟨rfl, rfl⟩
            go_wp2
            go_round
            case rel => exact ⟨j + 1, HK2.out, by go_num, by rw [HE.out]⟩
            case measure => simp [intOf]; omega
          · have HE : Hid (wayB H a (j + 1) = z) := by
              show _ = _
              rw [HW.out, if_neg]
              rintro (h | h)
              · exact HNZ.out h
              · exact hd h
            have hdi : ¬ (d : Int) < (z : Int) := by omega
            clear hd
            go_wp2_with fail
            refine (CH.out _).mono ?_
            rintro r w1 ⟨rfl, rfl⟩
            go_wp2
            go_round
            case rel => exact ⟨j + 1, HK2.out, by go_num, by rw [HE.out]⟩
            case measure => simp [intOf]; omega
    · have hji : ¬ (j : Int) < 16 := by omega
      have HE : Hid (wayB H a j = way H a) := by
        have : j = 16 := by omega
        show _ = _
        rw [this, wayB_way]
      clear hlt hj
      go_wp2
      go_ret
      exact ⟨by rw [← HE.out]; rfl, rfl⟩
end Go.Proofs.YtnbgmobcfbgenaaGreatDoor
