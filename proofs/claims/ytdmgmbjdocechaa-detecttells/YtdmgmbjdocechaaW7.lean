/-
  The walk of DetectTells. Its conditions: the numbers lie in memory.
-/
import Derived.Test.YtdmgmbjdocechaaW6
namespace Go.Proofs.Ytdmgmbjdocechaa
open Go.RowKit Go.Maps Go.ChangeMaps
open Go.Sort (grow)

theorem mask_i64 (a : Int) (m : Nat) (hm : m ≤ 255) : ∃ r : Nat, bits .and .i64 a (m : Int) = (r : Int) ∧ r ≤ m := by
  have h2 : (BitVec.ofInt 64 (m : Int)).toNat = m := by
    rw [BitVec.ofInt_natCast, BitVec.toNat_ofNat]; exact Nat.mod_eq_of_lt (by omega)
  have hx : (BitVec.ofInt 64 a &&& BitVec.ofInt 64 (m : Int)).toNat ≤ m := by
    rw [BitVec.toNat_and, h2]
    exact Nat.and_le_right
  refine ⟨(BitVec.ofInt 64 a &&& BitVec.ofInt 64 (m : Int)).toNat, ?_, hx⟩
  show IntKind.i64.wrap ((BitVec.ofInt 64 a &&& BitVec.ofInt 64 (m : Int)).toNat : Int) = _
  exact IntWalk.i64_in _ (by omega)
theorem tk1 {N k p : Int} (hp : 2 ≤ p) : dieL (two N (N + k - 1)) p (N + k - 1 + 1) = if k = p then [ka] else [] := by
  rw [die_two, if_neg (show ¬ N + k - 1 + 1 - (N + k - 1) = p by omega), List.append_nil]
  by_cases h : k = p
  · rw [if_pos h, if_pos (by omega)]
  · rw [if_neg h, if_neg (by omega)]
theorem tk2 (N k p : Int) : alive (two N (N + k - 1)) p (N + k - 1 + 1) ka = decide (k < p) := by
  rw [alive_a]
  congr 1
  rw [show N + k - 1 + 1 - N = k by omega]
theorem tk3 {N k p : Int} (hp : 2 ≤ p) : beatB (two N (N + k - 1)) p (N + k - 1 + 1) kb = false := by
  rw [bool_b, decide_eq_true (by omega)]
  rfl
theorem tk5 {N M p : Int} (hp : 2 ≤ p) : alive (two N M) p M kb = true := by
  rw [alive_b]
  exact decide_eq_true (by omega)
theorem tk6 (N n p : Int) : beatB (two N (N + (n + 1) - 1)) p (N + (n + 1) - 1) ka = !decide (n < p) := by
  rw [bool_a, show N + (n + 1) - 1 - N = n by omega]
theorem tk7 {M p : Int} (hp : 2 ≤ p) : alive (two M M) p M ka = true := by
  rw [alive_a]
  exact decide_eq_true (by omega)
def TlRel (p : Int) (g B n : Nat) (w : World) (s6 : Value) (wr : World) : Prop :=
  ∃ (i : Nat) (N ch : Int), i ≤ 50 ∧ i ≤ n ∧ s6 = .int .i64 (i : Int) ∧ St w wr g B (two N N) p N ch ∧ N ≤ 31 * (i : Int) ∧ ch ≤ N + (i : Int)
def TkRel (p N c0 : Int) (g B n : Nat) (w : World) (s8 : Value) (wr : World) : Prop :=
  ∃ (k : Nat) (ch : Int), 1 ≤ k ∧ k ≤ n + 1 ∧ s8 = .int .i64 (k : Int) ∧ St w wr g B (two N (N + (k : Int) - 1)) p (N + (k : Int) - 1) ch ∧ ch ≤ c0 + (k : Int) - 1
/-- A round of the ticks. -/
theorem tk_round {w W : World} {g B : Nat} {N p ch : Int} {k : Int} (s : St w W g B (two N (N + k - 1)) p (N + k - 1) ch) (hp : 2 ≤ p) (hN : N + k ≤ 100000) (hc : ch ≤ 100000) :
    Calls Try.prog 11 #[.pointer (some ⟨g, 0, none⟩)] W fun r w' => ∃ A c, r = .returned (.slice A (if k = p then 1 else 0) c) ∧ (k = p → ∃ b off, A = some ⟨b, off, none⟩ ∧ w'.cell? ⟨b, off, none⟩ = some (.string ka)) ∧ St w w' g B (two N (N + k - 1)) p (N + k - 1 + 1) (ch + (if k = p then 1 else 0)) := by
  refine (st_tick s (by omega) (by omega) (by rw [two_len]; omega)).mono ?_
  rintro r w' ⟨v, rfl, hr, hs, _⟩
  rw [tk1 hp] at hr hs
  obtain ⟨A, c, rfl, sl, _⟩ := hr.sl (by split <;> (unfold maxLen; simp))
  by_cases h : k = p
  · simp only [h, if_true] at hr hs sl ⊢
    obtain ⟨b, off, rfl, _, d0⟩ := at_ky (k := 0) sl (by simp)
    exact ⟨_, c, rfl, fun _ => ⟨b, off, rfl, d0⟩, hs⟩
  · simp only [h, if_false] at hr hs sl ⊢
    exact ⟨_, c, rfl, fun h' => absurd h' (by simp), hs⟩
theorem tk_round1 {w W : World} {g B : Nat} {N p ch : Int} {k : Int} (s : St w W g B (two N (N + k - 1)) p (N + k - 1) ch) (hp : 2 ≤ p) (hN : N + k ≤ 100000) (hc : ch ≤ 100000) (h : k = p) :
    Calls Try.prog 11 #[.pointer (some ⟨g, 0, none⟩)] W fun r w' => ∃ b off c, r = .returned (.slice (some ⟨b, off, none⟩) 1 c) ∧ w'.cell? ⟨b, off, none⟩ = some (.string ka) ∧ St w w' g B (two N (N + k - 1)) p (N + k - 1 + 1) (ch + 1) := by
  refine (tk_round s hp hN hc).mono ?_
  rintro r w' ⟨A, c, rfl, h2, hs⟩
  obtain ⟨b, off, rfl, d0⟩ := h2 h
  simp only [if_pos h] at hs ⊢
  exact ⟨b, off, c, rfl, d0, hs⟩
set_option maxRecDepth 100000 in
set_option maxHeartbeats 8000000 in
theorem tells_walk (a : Int) (l : List Int) (A : Option Addr) (n c : Nat) (w : World) (hs : Sl eIn w A l) (hn : l.length = n) :
    Calls Try.prog 4 #[.int .i64 a, .slice A n c] w fun e w' => e = .returned (.bool true) ∧ Below w.heap.size w w' := by
  obtain ⟨t, ht, htm⟩ := mask_i64 a 15 (by omega)
  have ht' : bits .and .i64 a 15 = (t : Int) := ht
  have CK : Hid (ka = ⟨#[97]⟩ ∧ kb = ⟨#[98]⟩) := ⟨rfl, rfl⟩
  have H := Lib.hid hs
  have HE := Lib.hid hn
  have htm2 : (t : Int) ≤ 15 := by omega
  clear hs hn ht htm
  go_enter Try.func4, Try.ntmps4
  go_wp2_with fail
  refine (awake_any w).mono ?_
  rintro e w1 ⟨rfl, b1⟩
  have CN := Lib.hid (st_two w1 w (2 + (t : Int)) b1)
  rw [CK.out.1, CK.out.2, show max (2 + (t : Int)) 1 = 2 + (t : Int) by omega] at CN
  have HB1 := Lib.hid b1
  clear b1
  go_wp2_with fail
  refine CN.out.mono ?_
  rintro r w2 ⟨g, B, rfl, s2⟩
  have S2 := Lib.hid s2
  clear s2 CN HB1 ht'
  have HP : Hid ((2 : Int) ≤ 2 + (t : Int)) := by show _ ≤ _; omega
  go_wp2
  go_loopw [6] (TlRel (2 + (t : Int)) g B n w) (fun i _ => 51 - (intOf i).toNat)
  case atStart => exact ⟨0, 0, 0, Nat.zero_le _, Nat.zero_le _, rfl, S2.out, by omega, by omega⟩
  case round =>
    obtain ⟨i, N, ch, hi, hin, rfl, hm, hN, hch⟩ := hrel
    have HM := Lib.hid hm
    have HB := Lib.hid (And.intro hN hch)
    clear hm hN hch S2
    by_cases hlt : i < n ∧ i < 50
    · obtain ⟨hlt1, hlt2⟩ := hlt
      have hkl : i < l.length := by rw [HE.out]; exact hlt1
      obtain ⟨b, off, rfl, _, d0⟩ := at_in (H.out.below (Nat.le_refl _) HM.out.bel) hkl
      generalize l[i] = z at d0
      obtain ⟨m, hm, hmm⟩ := mask_i64 z 31 (by omega)
      have hm' : bits .and .i64 z 31 = (m : Int) := hm
      have hm31 : (m : Int) ≤ 31 := by omega
      have hlti : (i : Int) < (n : Int) := by omega
      have hlti2 : (i : Int) < 50 := by omega
      have hi0 : (0 : Int) ≤ (i : Int) := by omega
      have HK : Hid (i + 1 ≤ 50 ∧ i + 1 ≤ n ∧ m ≤ 31) := ⟨hlt2, hlt1, by omega⟩
      have S0 : Hid (TkRel (2 + (t : Int)) N ch g B m w (.int .i64 1) wr) := ⟨1, ch, Nat.le_refl _, by omega, rfl, by rw [show N + ((1 : Nat) : Int) - 1 = N by omega]; exact HM.out, by omega⟩
      clear hm hmm hkl hi hin
      go_wp2
      go_loopw [8] (TkRel (2 + (t : Int)) N ch g B m w) (fun k _ => m + 2 - (intOf k).toNat)
      case atStart => exact S0.out
      case round =>
        obtain ⟨k, c2, hk1, hkm, rfl, hm2, hc2⟩ := hrel
        have HM2 := Lib.hid hm2
        have HC2 := Lib.hid hc2
        clear hm2 hc2 S0 d0
        by_cases hkn : k ≤ m
        · have hkn' : (k : Int) ≤ (m : Int) := by omega
          have hk0 : (1 : Int) ≤ (k : Int) := by omega
          have CT := Lib.hid (tk_round HM2.out HP.out (by have := HB.out; have := HK.out; omega) (by have := HB.out; have := HC2.out; have := HK.out; omega))
          have HKM : Hid (k + 1 ≤ m + 1) := by show _ ≤ _; omega
          have HNX : Hid (∀ {W : World} {x : Int}, St w W g B (two N (N + (k : Int) - 1 + 1)) (2 + (t : Int)) (N + (k : Int) - 1 + 1) x → x ≤ ch + (k : Int) → TkRel (2 + (t : Int)) N ch g B m w (.int .i64 ((k : Int) + 1)) W) := fun {W x} hW hx => ⟨k + 1, x, by omega, by omega, by rw [Int.natCast_add]; rfl, by rw [show N + ((k + 1 : Nat) : Int) - 1 = N + (k : Int) - 1 + 1 by omega]; exact hW, by omega⟩
          clear hkm hk1
          rcases Int.lt_trichotomy (k : Int) (2 + (t : Int)) with hlt | heq | hgt
          · have e1 : ((k : Int) == 2 + (t : Int)) = false := by rw [beq_eq_false_iff_ne]; omega
            have e2 : decide ((k : Int) = 2 + (t : Int)) = false := decide_eq_false (by omega)
            have e3 : ¬ (k : Int) = 2 + (t : Int) := by omega
            have AL : Hid (decide ((k : Int) < 2 + (t : Int)) = true) := decide_eq_true hlt
            simp only [e3, if_false] at CT
            go_wp2_with fail
            refine CT.out.mono ?_
            rintro r w3 ⟨A3, c3, rfl, -, s3⟩
            have CA := Lib.hid (st_alive s3 ka (small1 _) (by have := HB.out; have := HK.out; omega))
            rw [tk2, AL.out, CK.out.1] at CA
            have CB := Lib.hid (st_beat s3 kb (small1 _) (by have := HB.out; have := HK.out; omega) (by have := HB.out; have := HC2.out; have := HK.out; omega) (by rw [two_len]; omega))
            rw [tk3 HP.out, beat_b, CK.out.2] at CB
            clear s3 CT
            go_wp2_with fail
            refine CA.out.mono ?_
            rintro r w4 ⟨rfl, rfl⟩
            go_wp2_with fail
            refine CB.out.mono ?_
            rintro r w5 ⟨rfl, s5, _⟩
            have CC := Lib.hid (st_alive s5 kb (small1 _) (by have := HB.out; have := HK.out; omega))
            rw [tk5 HP.out, CK.out.2] at CC
            have HR := Lib.hid (HNX.out s5 (by have := HC2.out; simp [b2i]; omega))
            clear s5 CA CB
            go_wp2_with fail
            refine CC.out.mono ?_
            rintro r w6 ⟨rfl, rfl⟩
            go_wp2
            go_roundw
            case rel => exact HR.out
            case measure => simp [intOf]; omega
          · have e1 : ((k : Int) == 2 + (t : Int)) = true := by rw [beq_iff_eq]; exact heq
            have e2 : decide ((k : Int) = 2 + (t : Int)) = true := decide_eq_true heq
            have HQ := Lib.hid heq
            have hnl : ¬ (k : Int) < 2 + (t : Int) := by omega
            have e4 : decide ((k : Int) < 2 + (t : Int)) = false := decide_eq_false hnl
            have AL : Hid (decide ((k : Int) < 2 + (t : Int)) = false) := e4
            have CT := Lib.hid (tk_round1 HM2.out HP.out (by have := HB.out; have := HK.out; omega) (by have := HB.out; have := HC2.out; have := HK.out; omega) heq)
            clear heq
            go_wp2_with fail
            refine CT.out.mono ?_
            rintro r w3 ⟨b3, o3, c3, rfl, d3, s3⟩
            rw [CK.out.1] at d3
            have CA := Lib.hid (st_alive s3 ka (small1 _) (by have := HB.out; have := HK.out; omega))
            rw [tk2, AL.out, CK.out.1] at CA
            have CB := Lib.hid (st_beat s3 kb (small1 _) (by have := HB.out; have := HK.out; omega) (by have := HB.out; have := HC2.out; have := HK.out; omega) (by rw [two_len]; omega))
            rw [tk3 HP.out, beat_b, CK.out.2] at CB
            clear s3 CT
            go_wp2_with fail
            refine CA.out.mono ?_
            rintro r w4 ⟨rfl, rfl⟩
            go_wp2_with fail
            refine CB.out.mono ?_
            rintro r w5 ⟨rfl, s5, _⟩
            have CC := Lib.hid (st_alive s5 kb (small1 _) (by have := HB.out; have := HK.out; omega))
            rw [tk5 HP.out, CK.out.2] at CC
            have HR := Lib.hid (HNX.out s5 (by have := HC2.out; simp [b2i]; omega))
            clear s5 CA CB
            go_wp2_with fail
            refine CC.out.mono ?_
            rintro r w6 ⟨rfl, rfl⟩
            go_wp2
            go_roundw
            case rel => exact HR.out
            case measure => simp [intOf]; omega
          · have e1 : ((k : Int) == 2 + (t : Int)) = false := by rw [beq_eq_false_iff_ne]; omega
            have e2 : decide ((k : Int) = 2 + (t : Int)) = false := decide_eq_false (by omega)
            have e3 : ¬ (k : Int) = 2 + (t : Int) := by omega
            have AL : Hid (decide ((k : Int) < 2 + (t : Int)) = false) := decide_eq_false (by omega)
            have hnl : ¬ (k : Int) < 2 + (t : Int) := by omega
            simp only [e3, if_false] at CT
            go_wp2_with fail
            refine CT.out.mono ?_
            rintro r w3 ⟨A3, c3, rfl, -, s3⟩
            have CA := Lib.hid (st_alive s3 ka (small1 _) (by have := HB.out; have := HK.out; omega))
            rw [tk2, AL.out, CK.out.1] at CA
            have CB := Lib.hid (st_beat s3 kb (small1 _) (by have := HB.out; have := HK.out; omega) (by have := HB.out; have := HC2.out; have := HK.out; omega) (by rw [two_len]; omega))
            rw [tk3 HP.out, beat_b, CK.out.2] at CB
            clear s3 CT
            go_wp2_with fail
            refine CA.out.mono ?_
            rintro r w4 ⟨rfl, rfl⟩
            go_wp2_with fail
            refine CB.out.mono ?_
            rintro r w5 ⟨rfl, s5, _⟩
            have CC := Lib.hid (st_alive s5 kb (small1 _) (by have := HB.out; have := HK.out; omega))
            rw [tk5 HP.out, CK.out.2] at CC
            have HR := Lib.hid (HNX.out s5 (by have := HC2.out; simp [b2i]; omega))
            clear s5 CA CB
            go_wp2_with fail
            refine CC.out.mono ?_
            rintro r w6 ⟨rfl, rfl⟩
            go_wp2
            go_roundw
            case rel => exact HR.out
            case measure => simp [intOf]; omega
        · have hke : k = m + 1 := by omega
          have hkn' : ¬ (k : Int) ≤ (m : Int) := by omega
          rw [hke, show ((m + 1 : Nat) : Int) = (m : Int) + 1 by omega] at HM2
          have CB := Lib.hid (st_beat HM2.out ka (small1 _) (by have := HB.out; have := HK.out; omega) (by have := HB.out; have := HC2.out; have := HK.out; omega) (by rw [two_len]; omega))
          rw [tk6, beat_a, CK.out.1] at CB
          have HNX : Hid (∀ {W : World} {x : Int}, St w W g B (two (N + ((m : Int) + 1) - 1) (N + ((m : Int) + 1) - 1)) (2 + (t : Int)) (N + ((m : Int) + 1) - 1) x → x ≤ ch + (m : Int) + 1 → TlRel (2 + (t : Int)) g B n w (.int .i64 ((i : Int) + 1)) W) := fun {W x} hW hx => ⟨i + 1, N + ((m : Int) + 1) - 1, x, HK.out.1, HK.out.2.1, by rw [Int.natCast_add]; rfl, hW, by have := HB.out; have := HK.out; omega, by have := HB.out; omega⟩
          have HKE := Lib.hid hke
          clear hke hkn hkm hk1
          by_cases hmp : (m : Int) < 2 + (t : Int)
          · have AL : Hid (decide ((m : Int) < 2 + (t : Int)) = true) := decide_eq_true hmp
            have hge : ¬ (m : Int) ≥ 2 + (t : Int) := by omega
            rw [AL.out] at CB
            go_wp2_with fail
            refine CB.out.mono ?_
            rintro r w5 ⟨rfl, s5, _⟩
            have CA := Lib.hid (st_alive s5 ka (small1 _) (by have := HB.out; have := HK.out; omega))
            rw [tk7 HP.out, CK.out.1] at CA
            have CC := Lib.hid (st_alive s5 kb (small1 _) (by have := HB.out; have := HK.out; omega))
            rw [tk5 HP.out, CK.out.2] at CC
            have HR := Lib.hid (HNX.out s5 (by have := HC2.out; have := HKE.out; simp [b2i]; omega))
            clear s5 CB
            go_wp2_with fail
            refine CA.out.mono ?_
            rintro r w6 ⟨rfl, rfl⟩
            go_wp2_with fail
            refine CC.out.mono ?_
            rintro r w7 ⟨rfl, rfl⟩
            go_wp2
            go_roundw
            case rel => exact HR.out
            case measure => simp [intOf]; omega
          · have AL : Hid (decide ((m : Int) < 2 + (t : Int)) = false) := decide_eq_false hmp
            have hge : (m : Int) ≥ 2 + (t : Int) := by omega
            rw [AL.out] at CB
            go_wp2_with fail
            refine CB.out.mono ?_
            rintro r w5 ⟨rfl, s5, _⟩
            have CA := Lib.hid (st_alive s5 ka (small1 _) (by have := HB.out; have := HK.out; omega))
            rw [tk7 HP.out, CK.out.1] at CA
            have CC := Lib.hid (st_alive s5 kb (small1 _) (by have := HB.out; have := HK.out; omega))
            rw [tk5 HP.out, CK.out.2] at CC
            have HR := Lib.hid (HNX.out s5 (by have := HC2.out; have := HKE.out; simp [b2i]; omega))
            clear s5 CB
            go_wp2_with fail
            refine CA.out.mono ?_
            rintro r w6 ⟨rfl, rfl⟩
            go_wp2_with fail
            refine CC.out.mono ?_
            rintro r w7 ⟨rfl, rfl⟩
            go_wp2
            go_roundw
            case rel => exact HR.out
            case measure => simp [intOf]; omega
    · have hcase : ¬ (i : Int) < (n : Int) ∨ ((i : Int) < (n : Int) ∧ ¬ (i : Int) < 50) := by omega
      have HL := Lib.hid HM.out.bel
      clear hlt hi hin
      rcases hcase with hc1 | ⟨hc1, hc2⟩
      all_goals
        go_wp2
        go_ret
        exact ⟨rfl, HL.out⟩
end Go.Proofs.Ytdmgmbjdocechaa
