/-
  The contract of the document's Parts. Parts, and what there is not, is told as the document says. Its conditions: none, or that a number is below a bound.
-/
import Derived.Test.YtppdckncnfffcaaJ18
import Derived.Deep.CutBlock
namespace Go.Proofs.Ytppdckncnfffcaa
open Go.RowKit
set_option maxRecDepth 100000

theorem partsN_step {m : Nat} (h : 47 < m) : partsN m = partsN (m - 47) + 1 := by
  unfold partsN
  omega
theorem partsN_one {m : Nat} (h : m ≤ 47) : partsN m = 1 := by
  unfold partsN
  omega
set_option maxHeartbeats 1000000 in
theorem refparts_any (n : Int) (w : World) (h : n ≤ 1000000) : Calls Try.prog 27 #[.int .i64 n] w fun r w' => r = .returned (.int .i64 (partsI n)) ∧ w = w' := by
  by_cases h0 : n < 0
  · have e : partsI n = 0 := by simp [partsI, h0]
    rw [e]
    go_enter Try.func27, Try.ntmps27
    go_wp2
    go_ret
    exact ⟨rfl, rfl⟩
  · obtain ⟨k, rfl⟩ : ∃ k : Nat, n = (k : Int) := ⟨n.toNat, by omega⟩
    have e : partsI (k : Int) = (partsN k : Int) := by simp [partsI]; omega
    have hkb : k ≤ 1000000 := by omega
    rw [e]
    have h0i : (0 : Int) ≤ (k : Int) := by omega
    clear e h h0
    go_enter Try.func27, Try.ntmps27
    go_wp2
    go_loopw [0, 3] (fun s0 s3 wr => ∃ m c : Nat, m ≤ k ∧ c + partsN m = partsN k + 1 ∧ s0 = .int .i64 (m : Int) ∧ s3 = .int .i64 (c : Int) ∧ w = wr) (fun s _ _ => (intOf s).toNat)
    case atStart => exact ⟨k, 1, Nat.le_refl _, by omega, rfl, rfl, rfl⟩
    case round =>
      obtain ⟨m, c, hm, hc, rfl, rfl, rfl⟩ := hrel
      by_cases hlt : 47 < m
      · have hlti : (47 : Int) < (m : Int) := by omega
        have hst := partsN_step hlt
        have hck : c ≤ 30000 := by have := partsN_pos m; have h2 : partsN k ≤ 30000 := by unfold partsN; omega
                                   omega
        have HM : Hid (m - 47 ≤ k ∧ (c + 1) + partsN (m - 47) = partsN k + 1 ∧ ((m - 47 : Nat) : Int) = (m : Int) - 47) := ⟨by omega, by omega, by omega⟩
        have HL := Lib.hid hlt
        clear hst hc hlt
        go_wp2
        go_roundw
        case rel => exact ⟨m - 47, c + 1, HM.out.1, HM.out.2.1, by rw [HM.out.2.2], by go_num, trivial⟩
        case measure => simp [intOf]; have := HL.out; omega
      · have hlti : ¬ (47 : Int) < (m : Int) := by omega
        have h1 := partsN_one (show m ≤ 47 by omega)
        have HE : Hid (c = partsN k) := by show _ = _; omega
        clear h1 hc hlt
        go_wp2
        go_ret
        exact ⟨by rw [HE.out]; rfl, rfl⟩
set_option maxHeartbeats 8000000 in
theorem parts_walk (n : Int) (A : Option Addr) (m c : Nat) (w : World) : Calls Try.prog 4 #[.int .i64 n, .slice A m c] w fun e w' => e = .returned (.bool true) ∧ Below w.heap.size w w' := by
  have CA := Lib.hid (awake_any w)
  by_cases h1 : 1000000 < n
  · go_enter Try.func4, Try.ntmps4
    go_upto_region 6 with (go_at_call 8; refine CA.out.mono ?_; rintro e w1 ⟨rfl, b1⟩)
    have CN := Lib.hid (st_new (w0 := w) (W := w1) 3 (by omega) (by omega) b1)
    clear CA b1
    go_upto_region 7 with (go_at_call 11; refine (jopen_nil w1).mono ?_; rintro e w2 ⟨rfl, rfl⟩)
    go_upto_region 8 with (go_at_call 9; refine CN.out.mono ?_; rintro e w2 ⟨dg, rfl, s2, _⟩)
    have CF := Lib.hid (jopen_few _ dg (newD 3) w2 s2.dk (by decide +kernel))
    have HS2 := Lib.hid s2.bel
    clear s2 CN
    go_upto_region 9 with (go_at_call 11; refine CF.out.mono ?_; rintro e w3 ⟨rfl, rfl⟩)
    clear CF
    have CP := Lib.hid (parts_any 1000000 w2 (by omega))
    have CQ := Lib.hid (refparts_any 1000000 w2 (by omega))
    generalize partsI 1000000 = pn at CP CQ
    go_wp2_with (first
      | (go_at_call 26; refine CP.out.mono ?_; rintro e w3 ⟨rfl, rfl⟩)
      | (go_at_call 27; refine CQ.out.mono ?_; rintro e w3 ⟨rfl, rfl⟩)
      | (go_at_call 17; refine (jstart_nil A m c w2).mono ?_; rintro e w3 ⟨rfl, rfl⟩)
      | (go_at_call 15; refine (jappend_nil A m c w2).mono ?_; rintro e w3 ⟨rfl, rfl⟩)
      | (go_at_call 24; refine (jroom_nil w2).mono ?_; rintro e w3 ⟨rfl, rfl⟩)
      | (go_at_call 28; refine (lap_nil w2).mono ?_; rintro e w3 ⟨rfl, rfl⟩))
    go_ret
    exact ⟨rfl, HS2.out⟩
  · have h2 : n ≤ 1000000 := by omega
    go_enter Try.func4, Try.ntmps4
    go_upto_region 6 with (go_at_call 8; refine CA.out.mono ?_; rintro e w1 ⟨rfl, b1⟩)
    have CN := Lib.hid (st_new (w0 := w) (W := w1) 3 (by omega) (by omega) b1)
    clear CA b1
    go_upto_region 7 with (go_at_call 11; refine (jopen_nil w1).mono ?_; rintro e w2 ⟨rfl, rfl⟩)
    go_upto_region 8 with (go_at_call 9; refine CN.out.mono ?_; rintro e w2 ⟨dg, rfl, s2, _⟩)
    have CF := Lib.hid (jopen_few _ dg (newD 3) w2 s2.dk (by decide +kernel))
    have HS2 := Lib.hid s2.bel
    clear s2 CN
    go_upto_region 9 with (go_at_call 11; refine CF.out.mono ?_; rintro e w3 ⟨rfl, rfl⟩)
    clear CF
    have CP := Lib.hid (parts_any n w2 (by omega))
    have CQ := Lib.hid (refparts_any n w2 (by omega))
    generalize partsI n = pn at CP CQ
    go_wp2_with (first
      | (go_at_call 26; refine CP.out.mono ?_; rintro e w3 ⟨rfl, rfl⟩)
      | (go_at_call 27; refine CQ.out.mono ?_; rintro e w3 ⟨rfl, rfl⟩)
      | (go_at_call 17; refine (jstart_nil A m c w2).mono ?_; rintro e w3 ⟨rfl, rfl⟩)
      | (go_at_call 15; refine (jappend_nil A m c w2).mono ?_; rintro e w3 ⟨rfl, rfl⟩)
      | (go_at_call 24; refine (jroom_nil w2).mono ?_; rintro e w3 ⟨rfl, rfl⟩)
      | (go_at_call 28; refine (lap_nil w2).mono ?_; rintro e w3 ⟨rfl, rfl⟩))
    go_ret
    exact ⟨rfl, HS2.out⟩
end Go.Proofs.Ytppdckncnfffcaa
