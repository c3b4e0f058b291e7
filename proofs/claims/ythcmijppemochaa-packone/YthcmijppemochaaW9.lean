/-
  The contract of Reader's Text. Its conditions: the reader is the call's own.
-/
import Derived.Test.YthcmijppemochaaW8
namespace Go.Proofs.Ythcmijppemochaa
open Go.RowKit

theorem rcount_none (s : Option (List Nat)) (m : Int) (h : (Pk.rcount s m).2 = none) : (Pk.rcount s m).1 = 0 := by
  unfold Pk.rcount at h ⊢
  cases s with
  | none => rfl
  | some L =>
    cases hn : Pk.numOf L with
    | none => simp [hn]
    | some p =>
      obtain ⟨n, R⟩ := p
      simp only [hn] at h ⊢
      by_cases hc : (n : Int) > m
      · rw [if_pos hc]
      · rw [if_neg hc] at h
        cases h
set_option maxHeartbeats 400000 in
theorem rtext_any (g r : Nat) (s : Option (List Nat)) (m : Int) (w : World) (h : RS w g r s) :
    Calls Try.prog 22 #[.pointer (some ⟨g, 0, none⟩), .int .i64 m] w (RPost w g r (.string (textOf (Pk.rtext s m).1)) (Pk.rtext s m).2) := by
  have HC : Hid (∀ w', Below w.heap.size w w' → Calls Try.prog 24 #[.pointer (some ⟨g, 0, none⟩), .int .i64 m] w' (RPost w' g r (.int .i64 ((Pk.rcount s m).1 : Nat)) (Pk.rcount s m).2)) := fun w' hb => count_any g r s m w' (h.below hb)
  have HN := Lib.hid (rcount_none s m)
  have HE : Hid (Pk.rtext s m = Pk.rtake (Pk.rcount s m).2 (Pk.rcount s m).1) := rfl
  generalize Pk.rtext s m = T at HE ⊢
  generalize Pk.rcount s m = P at HC HN HE
  obtain ⟨n, s'⟩ := P
  clear h
  go_enter Try.func22, Try.ntmps22
  go_wp2
  go_region_with (first
    | (go_at_call 24; refine (HC.out _ ?_).mono ?_; exact (Below.refl _ _).drew; rintro e w2 ⟨rfl, hs2, ho2⟩; have HK := Lib.hid (take_any g r s' n w2 hs2 HN.out); have HO2 := Lib.hid ho2; clear hs2 ho2)
    | (go_at_call 35; refine HK.out.mono ?_; rintro e w3 ⟨A, c, rfl, hb3, hs3, ho3⟩; have cv := conv_text w3 A _ c hb3; have HS3 := Lib.hid hs3; have HO3 := Lib.hid ho3; clear hb3 hs3 ho3))
  all_goals
    go_wp2
    go_ret
    rw [HE.out]
    exact ⟨rfl, HS3.out, ((Only.refl (fun k => k = g) w).drew.same HO2.out).same HO3.out⟩
theorem rtext_nil (m : Int) (w : World) : Calls Try.prog 22 #[.pointer none, .int .i64 m] w fun e w' => e = .returned (.string ⟨#[]⟩) ∧ w = w' := by
  go_enter Try.func22, Try.ntmps22
  go_wp2
  go_ret
  exact ⟨rfl, rfl⟩
end Go.Proofs.Ythcmijppemochaa
