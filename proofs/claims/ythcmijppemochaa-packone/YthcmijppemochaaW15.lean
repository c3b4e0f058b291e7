/-
  The walk of PackWrites. Its conditions: none.
-/
import Derived.Test.YthcmijppemochaaW14
namespace Go.Proofs.Ythcmijppemochaa
open Go.RowKit

theorem few_case (l : List It) (b : Bool) (hb : fewB l = b) (A : Option Addr) (cap : Nat) (w : World) (h : Items w A l) :
    Calls Try.prog 10 #[.slice A l.length cap] w fun e w' => e = .returned (.bool b) ∧ w = w' := by
  rw [← hb]
  exact few_any l A cap w h
set_option maxHeartbeats 1000000 in
theorem writes_many (l : List It) (A : Option Addr) (cap : Nat) (w : World) (h : Items w A l) (hf : fewB l = false) :
    Calls Try.prog 3 #[.slice A l.length cap] w fun e w' => e = .returned (.bool true) ∧ Below w.heap.size w w' := by
  have H := Lib.hid h
  have HF := Lib.hid hf
  clear h hf
  go_enter Try.func3, Try.ntmps3
  go_wp2_with (first
    | (go_at_call 9; refine (awake_any _).mono ?_; rintro e w1 ⟨rfl, hb⟩; have HB := Lib.hid hb; clear hb)
    | (go_at_call 10; refine (few_case l false HF.out A cap w1 (H.out.below HB.out)).mono ?_; rintro e w2 ⟨rfl, rfl⟩))
  go_ret
  exact ⟨rfl, HB.out⟩
set_option maxHeartbeats 1000000 in
theorem writes_few (l : List It) (A : Option Addr) (cap : Nat) (w : World) (h : Items w A l) (hf : fewB l = true) :
    Calls Try.prog 3 #[.slice A l.length cap] w fun e w' => e = .returned (.bool true) ∧ Below w.heap.size w w' := by
  have H := Lib.hid h
  have HF := Lib.hid hf
  have hw : weight l ≤ 100000 := by unfold fewB at hf; exact of_decide_eq_true hf
  have HW := Lib.hid hw
  clear h hf hw
  cases hs : wfold l with
  | none =>
    have HS := Lib.hid hs
    clear hs
    go_enter Try.func3, Try.ntmps3
    go_wp2_with (first
      | (go_at_call 9; refine (awake_any _).mono ?_; rintro e w1 ⟨rfl, hb⟩; have HB := Lib.hid hb; clear hb)
      | (go_at_call 10; refine (few_case l true HF.out A cap w1 (H.out.below HB.out)).mono ?_; rintro e w2 ⟨rfl, rfl⟩)
      | (go_at_call 11; refine (written_any l A cap w1 (H.out.below HB.out) HW.out).mono ?_; rw [HS.out]; rintro e w3 ⟨rfl, hb⟩; have HB3 := Lib.hid (HB.out.trans (hb.mono HB.out.size)); clear hb)
      | (go_at_call 12; refine (refbytes_any l A cap w3 (H.out.below HB3.out) HW.out).mono ?_; rw [HS.out]; rintro e w4 ⟨rfl, hb⟩; have HB4 := Lib.hid (HB3.out.trans (hb.mono HB3.out.size)); clear hb)
      | (go_at_call 13; refine (num_nil _ _).mono ?_; rintro e w5 ⟨rfl, rfl⟩)
      | (go_at_call 14; refine (text_nil _ _).mono ?_; rintro e w5 ⟨rfl, rfl⟩)
      | (go_at_call 15; refine (bytes_nil _).mono ?_; rintro e w5 ⟨rfl, rfl⟩)
      | (go_at_call 16; refine (same_true [] none none 0 0 _ (Bytes.nil _ _) (Bytes.nil _ _)).mono ?_; rintro e w5 ⟨rfl, rfl⟩))
    go_ret
    exact ⟨rfl, HB4.out⟩
  | some L =>
    have HS := Lib.hid hs
    clear hs
    go_enter Try.func3, Try.ntmps3
    go_wp2_with (first
      | (go_at_call 9; refine (awake_any _).mono ?_; rintro e w1 ⟨rfl, hb⟩; have HB := Lib.hid hb; clear hb)
      | (go_at_call 10; refine (few_case l true HF.out A cap w1 (H.out.below HB.out)).mono ?_; rintro e w2 ⟨rfl, rfl⟩)
      | (go_at_call 11; refine (written_any l A cap w1 (H.out.below HB.out) HW.out).mono ?_; rw [HS.out]; rintro e w3 ⟨v3, rfl, hg⟩; have HG3 := Lib.hid hg; have HB3 := Lib.hid (HB.out.trans (hg.bel.mono HB.out.size)); obtain ⟨A3, c3, rfl, hby3, _, _⟩ := hg.parts; have HY3 := Lib.hid hby3; clear hg hby3)
      | (go_at_call 12; refine (refbytes_any l A cap w3 (H.out.below HB3.out) HW.out).mono ?_; rw [HS.out]; rintro e w4 ⟨v4, rfl, hg⟩; have HB4 := Lib.hid (HB3.out.trans (hg.bel.mono HB3.out.size)); have HY3' := Lib.hid (HY3.out.below hg.bel); obtain ⟨A4, c4, rfl, hby4, _, _⟩ := hg.parts; have HY4 := Lib.hid hby4; clear hg hby4)
      | (go_at_call 13; refine (num_nil _ _).mono ?_; rintro e w5 ⟨rfl, rfl⟩)
      | (go_at_call 14; refine (text_nil _ _).mono ?_; rintro e w5 ⟨rfl, rfl⟩)
      | (go_at_call 15; refine (bytes_nil _).mono ?_; rintro e w5 ⟨rfl, rfl⟩)
      | (go_at_call 16; refine (same_true L A3 A4 c3 c4 w4 HY3'.out HY4.out).mono ?_; rintro e w5 ⟨rfl, rfl⟩))
    go_ret
    exact ⟨rfl, HB4.out⟩
theorem writes_walk (l : List It) (A : Option Addr) (cap : Nat) (w : World) (h : Items w A l) :
    Calls Try.prog 3 #[.slice A l.length cap] w fun e w' => e = .returned (.bool true) ∧ Below w.heap.size w w' := by
  cases hf : fewB l with
  | false => exact writes_many l A cap w h hf
  | true => exact writes_few l A cap w h hf
end Go.Proofs.Ythcmijppemochaa
