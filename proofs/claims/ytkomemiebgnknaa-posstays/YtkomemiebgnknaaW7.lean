/-
  The contract of awake: the document's example comes out. Its conditions: none.
-/
import Derived.Test.YtkomemiebgnknaaW6
namespace Go.Proofs.Ytkomemiebgnknaa
open Go.RowKit

/-- The example's table. -/
def exT : List Ep := [⟨1, 0, false⟩, ⟨2, 5, false⟩, ⟨1, 3, false⟩]
def exObj : Obj := .cells #[.int .i64 1, .int .i64 0, .bool false, .int .i64 2, .int .i64 5, .bool false, .int .i64 1, .int .i64 3, .bool false] 32
theorem ex_eps (w : World) : Eps (w.alloc exObj) (some ⟨w.heap.size, 0, none⟩) exT := by
  refine ⟨by decide, fun _ => ⟨w.heap.size, 0, rfl, by simp, fun k x hk => ?_⟩⟩
  match k with
  | 0 => simp [exT] at hk; subst hk; exact ⟨World.cell?_alloc_at _ _ _ _ rfl, World.cell?_alloc_at _ _ _ _ rfl, World.cell?_alloc_at _ _ _ _ rfl⟩
  | 1 => simp [exT] at hk; subst hk; exact ⟨World.cell?_alloc_at _ _ _ _ rfl, World.cell?_alloc_at _ _ _ _ rfl, World.cell?_alloc_at _ _ _ _ rfl⟩
  | 2 => simp [exT] at hk; subst hk; exact ⟨World.cell?_alloc_at _ _ _ _ rfl, World.cell?_alloc_at _ _ _ _ rfl, World.cell?_alloc_at _ _ _ _ rfl⟩
  | k + 3 => simp [exT] at hk
set_option maxHeartbeats 2000000 in
theorem awake_any (w : World) : Calls Try.prog 10 #[] w fun e w' => e = .returned (.bool true) ∧ Below w.heap.size w w' := by
  have HE := Lib.hid (ex_eps w)
  have HC1 := Lib.hid (cut_any exT _ 3 3 1 4 _ HE.out rfl)
  rw [show (Ps.cutN exT 1 4) = 3 by decide] at HC1
  obtain ⟨f, hf⟩ : ∃ f, Ps.cutF exT 1 4 = f := ⟨_, rfl⟩
  rw [hf] at HC1
  clear hf
  have hC2 : ∀ W, Eps W (some ⟨w.heap.size, 0, none⟩) exT → Calls Try.prog 14 #[.slice (some ⟨w.heap.size, 0, none⟩) 3 3] W fun e w' => e = .returned (.bool true) ∧ Below W.heap.size W w' := fun W hW => right_any exT _ 3 3 W hW rfl
  have hC3 : ∀ W, Eps W (some ⟨w.heap.size, 0, none⟩) exT → Calls Try.prog 16 #[.slice (some ⟨w.heap.size, 0, none⟩) 3 3, .agg #[.int .i64 3, .int .i64 4]] W fun e w' => e = .returned (.bool true) ∧ Below W.heap.size W w' := fun W hW => on_any exT _ 3 3 3 4 W hW rfl
  have hC4 : ∀ W, Eps W (some ⟨w.heap.size, 0, none⟩) exT → Calls Try.prog 16 #[.slice (some ⟨w.heap.size, 0, none⟩) 3 3, .agg #[.int .i64 2, .int .i64 6]] W fun e w' => e = .returned (.bool false) ∧ Below W.heap.size W w' := fun W hW => on_any exT _ 3 3 2 6 W hW rfl
  have hC5 : ∀ W, Eps W (some ⟨w.heap.size, 0, none⟩) exT → Calls Try.prog 18 #[.slice (some ⟨w.heap.size, 0, none⟩) 3 3, .int .i64 3] W fun e w' => e = .returned (.agg #[.int .i64 1, .int .i64 3]) ∧ Below W.heap.size W w' := fun W hW => at_any exT _ 3 3 3 W hW rfl
  have hC6 : ∀ W, Eps W (some ⟨w.heap.size, 0, none⟩) exT → Calls Try.prog 20 #[.slice (some ⟨w.heap.size, 0, none⟩) 3 3, .agg #[.int .i64 2, .int .i64 6]] W fun e w' => e = .returned (.agg #[.int .i64 1, .int .i64 3]) ∧ Below W.heap.size W w' := fun W hW => base_any exT _ 3 3 2 6 W hW rfl
  have HC2 := Lib.hid hC2
  have HC3 := Lib.hid hC3
  have HC4 := Lib.hid hC4
  have HC5 := Lib.hid hC5
  have HC6 := Lib.hid hC6
  clear hC2 hC3 hC4 hC5 hC6
  unfold exObj at HC1 HE
  go_enter Try.func10, Try.ntmps10
  go_wp2_with fail
  refine HC1.out.mono ?_
  rintro e w2 ⟨rfl, b2⟩
  have E2 := Lib.hid (HE.out.below b2)
  have B2 := Lib.hid (bel_new b2)
  clear b2
  go_wp2_with fail
  refine (HC2.out w2 E2.out).mono ?_
  rintro e w3 ⟨rfl, b3⟩
  have E3 := Lib.hid (E2.out.below b3)
  have B3 := Lib.hid (B2.out.trans (b3.mono B2.out.size))
  clear b3
  go_wp2_with fail
  refine (HC3.out w3 E3.out).mono ?_
  rintro e w4 ⟨rfl, b4⟩
  have E4 := Lib.hid (E3.out.below b4)
  have B4 := Lib.hid (B3.out.trans (b4.mono B3.out.size))
  clear b4
  go_wp2_with fail
  refine (HC4.out w4 E4.out).mono ?_
  rintro e w5 ⟨rfl, b5⟩
  have E5 := Lib.hid (E4.out.below b5)
  have B5 := Lib.hid (B4.out.trans (b5.mono B4.out.size))
  clear b5
  go_wp2_with fail
  refine (HC5.out w5 E5.out).mono ?_
  rintro e w6 ⟨rfl, b6⟩
  have E6 := Lib.hid (E5.out.below b6)
  have B6 := Lib.hid (B5.out.trans (b6.mono B5.out.size))
  clear b6
  go_wp2_with fail
  refine (HC6.out w6 E6.out).mono ?_
  rintro e w7 ⟨rfl, b7⟩
  have B7 := Lib.hid (B6.out.trans (b7.mono B6.out.size))
  clear b7
  go_wp2
  go_ret
  exact ⟨rfl, B7.out⟩
end Go.Proofs.Ytkomemiebgnknaa
