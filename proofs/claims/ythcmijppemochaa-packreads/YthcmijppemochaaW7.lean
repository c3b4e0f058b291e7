/-
  The contract of takeNumber. Its conditions: the reader is the call's own.
-/
import Derived.Test.YthcmijppemochaaW6
import Derived.Test.YthcmijppemochaaBit
namespace Go.Proofs.Ythcmijppemochaa
open Go.RowKit

/-- What a call that reads leaves, and answers. -/
def RPost (w : World) (g r : Nat) (v : Value) (s : Option (List Nat)) (e : Ending) (w' : World) : Prop := e = .returned v ∧ RS w' g r s ∧ Only (fun k => k = g) w w'
def TakeRel (L : List Nat) (n i : Value) : Prop := ∃ k : Nat, k ≤ L.length ∧ k ≤ 8 ∧ k ≤ Pk.lead L ∧ i = .int .i64 (k : Int) ∧ n = .int .i64 ((Pk.val (L.take k) : Nat) : Int)
def numAns (s : Option (Nat × List Nat)) : Nat := match s with | none => 0 | some (n, _) => n
def numLeft (s : Option (Nat × List Nat)) : Option (List Nat) := match s with | none => none | some (_, R) => some R
theorem numOf_far {L : List Nat} (h : 8 ≤ Pk.lead L ∨ Pk.lead L = L.length) : Pk.numOf L = none := by
  unfold Pk.numOf
  rw [if_neg]
  rintro ⟨h1, h2, _⟩
  omega
theorem lead_here {L : List Nat} {k : Nat} (hk : k < L.length) (h1 : k ≤ Pk.lead L) (h2 : L[k] < 128) : Pk.lead L = k := by
  rcases Nat.lt_or_ge k (Pk.lead L) with h | h
  · have := Pk.lead_at L k h hk
    omega
  · omega
theorem lead_on {L : List Nat} {k : Nat} (hk : k < L.length) (h1 : k ≤ Pk.lead L) (h2 : 128 ≤ L[k]) : k + 1 ≤ Pk.lead L := by
  refine Pk.lead_gt L k (fun j hj hjk => ?_) hk
  rcases Nat.lt_or_ge j k with h | h
  · exact Pk.lead_at L j (by omega) hj
  · have : j = k := by omega
    subst this
    exact h2
theorem val_step {L : List Nat} {k : Nat} (hk : k < L.length) : Pk.val (L.take (k + 1)) = Pk.val (L.take k) + 128 ^ k * (L[k] % 128) := by
  rw [List.take_succ_eq_append_getElem hk, Pk.val_snoc, List.length_take, Nat.min_eq_left (by omega)]
theorem numOf_here {L : List Nat} {k : Nat} (hk : k < L.length) (hl : Pk.lead L = k) (h8 : k < 8) (hm : Pk.val (L.take (k + 1)) ≤ Pk.most) (h0 : ¬ (L[k] = 0 ∧ 0 < k)) :
    Pk.numOf L = some (Pk.val (L.take (k + 1)), L.drop (k + 1)) := by
  unfold Pk.numOf
  rw [hl, if_pos]
  refine ⟨hk, h8, hm, ?_⟩
  rw [List.getD_eq_getElem?_getD, List.getElem?_eq_getElem hk]
  exact h0
theorem numOf_bad {L : List Nat} {k : Nat} (hk : k < L.length) (hl : Pk.lead L = k) (h : Pk.most < Pk.val (L.take (k + 1)) ∨ (L[k] = 0 ∧ 0 < k)) : Pk.numOf L = none := by
  unfold Pk.numOf
  rw [hl, if_neg]
  rintro ⟨_, _, h1, h2⟩
  rw [List.getD_eq_getElem?_getD, List.getElem?_eq_getElem hk] at h2
  rcases h with h | h
  · omega
  · exact h2 h
theorem spoilt_post {w w2 : World} {g r : Nat} {L : List Nat} (hN : Pk.numOf L = none) (h2 : Hand w2 g (.slice none 0 0) true) (ho : Only (fun k => k = g) w w2) :
    RPost w g r (.int .i64 (numAns (Pk.numOf L) : Nat)) (numLeft (Pk.numOf L)) (.returned (.int .i64 0)) w2 := by
  rw [hN]
  exact ⟨rfl, h2, ho⟩
set_option maxHeartbeats 1000000 in
set_option maxRecDepth 100000 in
theorem takeNumber_some (g r : Nat) (L : List Nat) (w : World) (h : RS w g r (some L)) :
    Calls Try.prog 36 #[.pointer (some ⟨g, 0, none⟩)] w (RPost w g r (.int .i64 (numAns (Pk.numOf L) : Nat)) (numLeft (Pk.numOf L))) := by
  have H := Lib.hid h
  obtain ⟨_, A, c, hh, hb, hc, hm, hA, hr⟩ := h
  unfold maxLen at hm
  have c0 := hh.cell0
  have HC := Lib.hid (spoil_any g _ _ w hh)
  have HB := Lib.hid hb
  clear hh hb hA hr
  go_enter Try.func36, Try.ntmps36
  go_wp2
  go_loop [3, 11] (TakeRel L) (fun _ i => L.length - (intOf i).toNat)
  case atStart => exact ⟨0, Nat.zero_le _, by omega, Nat.zero_le _, rfl, rfl⟩
  case round =>
    obtain ⟨k, hk, hk8, hkl, rfl, rfl⟩ := hrel
    have HKL := Lib.hid hkl
    clear hkl
    by_cases hlt : k < L.length
    · obtain ⟨b, off, rfl, hcell, hcl⟩ := HB.out.at_ hlt
      have hVl := Pk.val_lt (L.take k)
      rw [List.length_take, Nat.min_eq_left hk] at hVl
      have HV1 := Lib.hid (val_step hlt)
      by_cases he : k = 8
      · have HN := Lib.hid (numOf_far (L := L) (.inl (by have := HKL.out; omega)))
        have hei : ((k : Int) == 8) = true := by simp; omega
        clear hVl he
        go_wp2_with (go_at_call 30; refine HC.out.mono ?_; rintro e w2 ⟨rfl, hh2, ho2⟩; have H2 := Lib.hid hh2; have HO := Lib.hid ho2; clear hh2 ho2)
        go_ret
        exact spoilt_post HN.out H2.out HO.out
      · have e0 := digit_or (Pk.val (L.take k)) L[k] k hVl (by omega)
        rw [← val_step hlt] at e0
        have hei : ((k : Int) == 8) = false := by simp; omega
        obtain ⟨d, hd⟩ : ∃ d, L[k] = d := ⟨_, rfl⟩
        obtain ⟨V, hV⟩ : ∃ V, Pk.val (L.take k) = V := ⟨_, rfl⟩
        obtain ⟨x, hx⟩ : ∃ x : Int, ((Pk.val (L.take (k + 1)) : Nat) : Int) = x := ⟨_, rfl⟩
        rw [hd, hV, hx] at e0
        rw [hV]
        rw [hd] at hcell hcl
        have HD := Lib.hid hd
        have HX := Lib.hid hx
        clear hd hV hx hVl
        by_cases hd8 : d < 128
        · have hdi : (d : Int) < 128 := by omega
          have HL := Lib.hid (lead_here hlt HKL.out (by rw [HD.out]; exact hd8))
          by_cases hbad : 9007199254740992 < x ∨ (d = 0 ∧ 0 < k)
          · have HN := Lib.hid (numOf_bad hlt HL.out (by have := HX.out; have := HD.out; unfold Pk.most; omega))
            have hsp : 9007199254740992 < x ∨ (x ≤ 9007199254740992 ∧ ((d : Int) == 0) = true ∧ 0 < k) := by simp; omega
            clear hbad
            rcases hsp with hx1 | ⟨hx1, hd0, hk0⟩
            all_goals
              go_wp2_with (go_at_call 30; refine HC.out.mono ?_; rintro e w2 ⟨rfl, hh2, ho2⟩; have H2 := Lib.hid hh2; have HO := Lib.hid ho2; clear hh2 ho2)
              go_ret
              exact spoilt_post HN.out H2.out HO.out
          · have hx1 : x ≤ 9007199254740992 := by omega
            have HN := Lib.hid (numOf_here hlt HL.out (by omega) (by have := HX.out; unfold Pk.most; omega) (by have := HD.out; omega))
            have HK : Hid (Calls Try.prog 35 #[.pointer (some ⟨g, 0, none⟩), .int .i64 ((k : Int) + 1)] w (TakePost w g r (some L) (k + 1))) := take_some g r L (k + 1) w H.out (by omega)
            have HP : Hid (∀ w2 e, TakePost w g r (some L) (k + 1) e w2 → (∃ v, e = .returned v) ∧ RPost w g r (.int .i64 (numAns (Pk.numOf L) : Nat)) (numLeft (Pk.numOf L)) (.returned (.int .i64 x)) w2) := by
              intro w2 e ht
              obtain ⟨A', c', he', _, hs2, ho2⟩ := ht
              have hE : Pk.rtake (some L) (k + 1) = (L.take (k + 1), some (L.drop (k + 1))) := by unfold Pk.rtake; exact if_neg (by omega)
              rw [hE] at hs2
              rw [HN.out]
              exact ⟨⟨_, he'⟩, by rw [← HX.out]; exact rfl, hs2, ho2⟩
            have hsp : ((d : Int) == 0) = false ∨ (((d : Int) == 0) = true ∧ ¬ 0 < k) := by simp; omega
            clear hbad
            rcases hsp with hd0 | ⟨hd0, hk0⟩
            all_goals
              go_wp2_with (go_at_call 35; refine HK.out.mono ?_; intro e w2 ht; obtain ⟨⟨v, rfl⟩, hp⟩ := HP.out w2 e ht; have HQ := Lib.hid hp; clear ht hp)
              go_ret
              exact HQ.out
        · have hdi : (128 : Int) ≤ (d : Int) := by omega
          have HL := Lib.hid (lead_on hlt HKL.out (by rw [HD.out]; omega))
          go_wp2
          go_round
          case rel => exact ⟨k + 1, by omega, by omega, HL.out, by go_num, by rw [HX.out]⟩
          case measure => simp [intOf]; omega
    · have HN := Lib.hid (numOf_far (L := L) (.inr (by have := HKL.out; have := Pk.lead_le L; omega)))
      go_wp2_with (go_at_call 30; refine HC.out.mono ?_; rintro e w2 ⟨rfl, hh2, ho2⟩; have H2 := Lib.hid hh2; have HO := Lib.hid ho2; clear hh2 ho2)
      go_ret
      exact spoilt_post HN.out H2.out HO.out
theorem takeNumber_none (g r : Nat) (w : World) (h : RS w g r none) :
    Calls Try.prog 36 #[.pointer (some ⟨g, 0, none⟩)] w (RPost w g r (.int .i64 0) none) := by
  have hh : Hand w g (.slice none 0 0) true := h
  have c0 := hh.cell0
  have HC := Lib.hid (spoil_any g _ _ w hh)
  clear h hh
  go_enter Try.func36, Try.ntmps36
  go_wp2
  go_loop [11] (fun i => i = .int .i64 0) (fun _ => 0)
  case atStart => rfl
  case round =>
    subst hrel
    go_wp2_with (go_at_call 30; refine HC.out.mono ?_; rintro e w2 ⟨rfl, hh2, ho2⟩; have H2 := Lib.hid hh2; have HO := Lib.hid ho2; clear hh2 ho2)
    go_ret
    exact ⟨rfl, H2.out, HO.out⟩
end Go.Proofs.Ythcmijppemochaa
