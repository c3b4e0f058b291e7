/-
  The walk of PackBack. Its conditions: none.
-/
import Derived.Test.YthcmijppemochaaW17
namespace Go.Proofs.Ythcmijppemochaa
open Go.RowKit

theorem Only.below_g {w w1 w2 : World} {g B : Nat} (h : Only (fun k => k = g) w1 w2) (hb : Below B w w1) (hg : B ≤ g) (hB : B ≤ w.heap.size) : Below B w w2 :=
  hb.trans (h.below (Nat.le_trans hB hb.size) (fun k _ hk => by rw [hk]; exact hg))
/-- An item's block lies below every new one. -/
theorem Items.old {w : World} {A : Option Addr} {l : List It} (h : Items w A l) {g : Nat} (hg : w.heap.size ≤ g) : 0 < l.length → ∀ a, A = some a → a.block ≠ g := by
  intro hl a ha
  obtain ⟨b, off, hAe, hlt, _⟩ := h.2.2 hl
  rw [hAe] at ha
  injection ha with ha
  subst ha
  show b ≠ g
  omega
set_option maxHeartbeats 1000000 in
theorem back_many (l : List It) (A : Option Addr) (cap : Nat) (w : World) (h : Items w A l) (hf : fewB l = false) :
    Calls Try.prog 5 #[.slice A l.length cap] w fun e w' => e = .returned (.bool true) ∧ Below w.heap.size w w' := by
  have H := Lib.hid h
  have HF := Lib.hid hf
  clear h hf
  go_enter Try.func5, Try.ntmps5
  go_wp2_with (first
    | (go_at_call 9; refine (awake_any _).mono ?_; rintro e w1 ⟨rfl, hb⟩; have HB := Lib.hid hb; clear hb)
    | (go_at_call 10; refine (few_case l false HF.out A cap w1 (H.out.below HB.out)).mono ?_; rintro e w2 ⟨rfl, rfl⟩))
  go_ret
  exact ⟨rfl, HB.out⟩
theorem encL_lt (l : List It) : ∀ L, encL l = some L → ∀ c ∈ L, c < 256 := by
  induction l with
  | nil =>
    intro L h
    simp only [encL] at h
    injection h with h
    subst h
    simp
  | cons x l ih =>
    intro L h
    simp only [encL] at h
    cases he : itemEnc x with
    | none => rw [he] at h; cases h
    | some e =>
      rw [he] at h
      cases hr : encL l with
      | none => rw [hr] at h; cases h
      | some R =>
        rw [hr] at h
        have hL : L = e ++ R := by simpa using h.symm
        subst hL
        intro c hc
        rcases List.mem_append.mp hc with hc | hc
        · unfold itemEnc at he
          by_cases h1 : x.K = 1
          · rw [if_pos h1] at he
            injection he with he
            subst he
            simp at hc
            subst hc
            exact flagByte_lt _
          · rw [if_neg h1] at he
            by_cases h2 : x.K = 2
            · rw [if_pos h2] at he
              injection he with he
              subst he
              rcases List.mem_append.mp hc with hc | hc
              · exact Pk.digits_lt _ c hc
              · exact bytesOf_lt _ c hc
            · rw [if_neg h2] at he
              by_cases h3 : 0 ≤ x.N ∧ x.N ≤ 9007199254740992
              · rw [if_pos h3] at he
                injection he with he
                subst he
                exact Pk.digits_lt _ c hc
              · rw [if_neg h3] at he
                cases he
        · exact ih R hr c hc
set_option maxHeartbeats 1000000 in
theorem back_none (l : List It) (A : Option Addr) (cap : Nat) (w : World) (h : Items w A l) (hf : fewB l = true) (hs : wfold l = none) :
    Calls Try.prog 5 #[.slice A l.length cap] w fun e w' => e = .returned (.bool true) ∧ Below w.heap.size w w' := by
  have H := Lib.hid h
  have HF := Lib.hid hf
  have hw : weight l ≤ 100000 := by unfold fewB at hf; exact of_decide_eq_true hf
  have HW := Lib.hid hw
  have HS := Lib.hid hs
  clear h hf hw hs
  go_enter Try.func5, Try.ntmps5
  go_wp2_with (first
    | (go_at_call 9; refine (awake_any _).mono ?_; rintro e w1 ⟨rfl, hb⟩; have HB := Lib.hid hb; clear hb)
    | (go_at_call 10; refine (few_case l true HF.out A cap w1 (H.out.below HB.out)).mono ?_; rintro e w2 ⟨rfl, rfl⟩)
    | (go_at_call 11; refine (written_any l A cap w1 (H.out.below HB.out) HW.out).mono ?_; rw [HS.out]; rintro e w3 ⟨rfl, hb⟩; have HB3 := Lib.hid (HB.out.trans (hb.mono HB.out.size)); clear hb))
  go_ret
  exact ⟨rfl, HB3.out⟩
set_option maxHeartbeats 1000000 in
theorem back_some (l : List It) (A : Option Addr) (cap : Nat) (w : World) (h : Items w A l) (hf : fewB l = true) (L : List Nat) (hs : wfold l = some L) :
    Calls Try.prog 5 #[.slice A l.length cap] w fun e w' => e = .returned (.bool true) ∧ Below w.heap.size w w' := by
  have H := Lib.hid h
  have HF := Lib.hid hf
  have hw : weight l ≤ 100000 := by unfold fewB at hf; exact of_decide_eq_true hf
  have HW := Lib.hid hw
  have HS := Lib.hid hs
  have hsz := size_of_weight hw
  have hll := length_le_weight l
  have HLL : Hid (l.length ≤ 100000) := by show _ ≤ _; omega
  have hrm := room_wfold l hsz l.length (Nat.le_refl _)
  rw [List.take_length, hs] at hrm
  have HLM : Hid (L.length ≤ 900000) := by simp only [room] at hrm; show _ ≤ _; omega
  rw [wfold_eq] at hs
  have HLT := Lib.hid (encL_lt l L hs)
  have HT := Lib.hid (againB_enc l (fun x hx => by have := hsz x hx; unfold Pk.most; omega) L hs)
  have HSH := Lib.hid (againB_short l L hs HLT.out)
  clear h hf hw hs hsz hll hrm
  go_enter Try.func5, Try.ntmps5
  go_wp2_with (first
    | (go_at_call 9; refine (awake_any _).mono ?_; rintro e w1 ⟨rfl, hb⟩; have HB := Lib.hid hb; clear hb)
    | (go_at_call 10; refine (few_case l true HF.out A cap w1 (H.out.below HB.out)).mono ?_; rintro e w2 ⟨rfl, rfl⟩)
    | (go_at_call 11; refine (written_any l A cap w1 (H.out.below HB.out) HW.out).mono ?_; rw [HS.out]; rintro e w3 ⟨v3, rfl, hg⟩; have HB3 := Lib.hid (HB.out.trans (hg.bel.mono HB.out.size)); obtain ⟨A3, c3, rfl, hby3, hn3, _⟩ := hg.parts; have HY3 := Lib.hid hby3; have HN3 := Lib.hid hn3; have HLE := Lib.hid (show L.length ≤ c3 by obtain ⟨_, _, e, _, hle, _⟩ := hg; injection e with _ _ e; omega); clear hg hby3 hn3)
    | (go_at_call 17; refine (read_any L A3 c3 w3 HY3.out HN3.out (by have := HLM.out; omega)).mono ?_))
  rintro e w4 ⟨r4, rfl, hs4, hb4, hr4⟩
  have HB4 := Lib.hid (HB3.out.trans (hb4.mono HB3.out.size))
  have K4 := Lib.hid (again_any l A cap w3.heap.size r4 (some L) true w4 (H.out.below HB4.out) hs4 (H.out.old HB3.out.size) HT.out HLL.out)
  have HX4 := Lib.hid hb4
  clear hs4 hb4 hr4
  go_wp2_with fail
  refine K4.out.mono ?_
  rintro e w5 ⟨rfl, ho5⟩
  have hb5 := ho5.below_g HX4.out (Nat.le_refl _) (Nat.le_refl _)
  have HB5 := Lib.hid (HB3.out.trans (hb5.mono HB3.out.size))
  have HY5 := Lib.hid (HY3.out.below hb5)
  clear ho5 hb5
  by_cases hL : L.length = 0
  · have hl0 : ((L.length : Int) == 0) = true := by simpa using hL
    go_wp2
    go_ret
    exact ⟨rfl, HB5.out⟩
  · have hl0 : ((L.length : Int) == 0) = false := by simpa using hL
    obtain ⟨z, hz⟩ : ∃ z : Int, (L.length : Int) = z := ⟨_, rfl⟩
    have hz1 : 1 ≤ z := by omega
    have hz2 : z ≤ 900000 := by have := HLM.out; omega
    have hz3 : z - 1 ≤ (c3 : Int) := by have := HLE.out; omega
    have hz4 : 0 ≤ z - 1 := by omega
    have K5 := read_any (L.take (L.length - 1)) A3 c3 w5 (HY5.out.take _) HN3.out (by have := HLM.out; rw [List.length_take]; omega)
    rw [show (L.take (L.length - 1)).length = z.toNat - 1 by rw [List.length_take]; omega] at K5
    have HK5 := Lib.hid K5
    have HSF := Lib.hid (HSH.out (by omega))
    rw [hz] at hl0
    clear K5 hL
    go_wp2_with fail
    refine HK5.out.mono ?_
    rintro e w6 ⟨r6, rfl, hs6, hb6, hr6⟩
    have HB6 := Lib.hid (HB5.out.trans (hb6.mono HB5.out.size))
    have K6 := Lib.hid (again_any l A cap w5.heap.size r6 _ false w6 (H.out.below HB6.out) hs6 (H.out.old HB5.out.size) HSF.out HLL.out)
    have HX6 := Lib.hid hb6
    clear hs6 hb6 hr6
    go_wp2_with fail
    refine K6.out.mono ?_
    rintro e w7 ⟨rfl, ho7⟩
    have hb7 := ho7.below_g HX6.out (Nat.le_refl _) (Nat.le_refl _)
    have HB7 := Lib.hid (HB5.out.trans (hb7.mono HB5.out.size))
    clear ho7 hb7
    go_wp2
    go_ret
    exact ⟨rfl, HB7.out⟩
theorem back_walk (l : List It) (A : Option Addr) (cap : Nat) (w : World) (h : Items w A l) :
    Calls Try.prog 5 #[.slice A l.length cap] w fun e w' => e = .returned (.bool true) ∧ Below w.heap.size w w' := by
  cases hf : fewB l with
  | false => exact back_many l A cap w h hf
  | true =>
    cases hs : wfold l with
    | none => exact back_none l A cap w h hf hs
    | some L => exact back_some l A cap w h hf L hs
end Go.Proofs.Ythcmijppemochaa
