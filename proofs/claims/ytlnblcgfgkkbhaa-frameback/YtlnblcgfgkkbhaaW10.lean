/-
  The contract of the statements' example. Its conditions: none.
-/
import Derived.Test.YtlnblcgfgkkbhaaW9
namespace Go.Proofs.Ytlnblcgfgkkbhaa
open Go.RowKit

theorem one_bytes (w : World) (q : Nat × Nat) : Bytes (w.alloc (.cells #[.int .u8 97] 5 q)) (some ⟨w.heap.size, 0, none⟩) [97] := by
  refine ⟨by simp, by simp [maxLen], fun _ => ⟨w.heap.size, 0, rfl, by simp, fun k c hk => ?_⟩⟩
  rw [Nat.zero_add, World.cell?_alloc_mark]
  match k with
  | 0 => simp at hk; subst hk; rfl
  | k + 1 => simp at hk
set_option maxHeartbeats 400000 in
theorem awake_any (w : World) : Calls Try.prog 8 #[] w fun e w' => e = .returned (.bool true) ∧ Below w.heap.size w w' := by
  have kc := fun (w : World) (C : Array Value) (n c : Nat) => Lib.run_convert_bytes_const (P := Try.prog) w 22 5 C n c Try.underlying22 Try.underlying5
  go_enter Try.func8, Try.ntmps8
  go_wp2_with fail
  refine (seal_good [97] _ 1 _ _ (one_bytes w _) rfl (by omega) (by omega) (fun h => by cases h)).mono ?_
  rintro e w1 ⟨A1, n1, hn1, rfl, g1⟩
  obtain rfl : n1 = 9 := by rw [hn1, Fr.frame_length]; rfl
  have HG1 := Lib.hid g1
  clear g1 hn1
  go_wp2_with fail
  refine (open_any (Fr.frame [97]) A1 9 9 w1 HG1.out.parts.2.1 (by rw [Fr.frame_length]; rfl) (Nat.le_refl _)).mono ?_
  rintro e w2 (⟨hf, rfl, b2⟩ | ⟨p, A2, n2, hf, hp, rfl, g2⟩)
  · rw [Fr.opn_frame ⟨by simp, by simp⟩ (by simp [Fr.Oct])] at hf
    cases hf
  · rw [Fr.opn_frame ⟨by simp, by simp⟩ (by simp [Fr.Oct])] at hf
    injection hf with hf
    subst hf
    obtain rfl : n2 = 1 := hp.symm
    have c2 := conv_text w2 A2 [97] 1 g2.parts.2.1
    have HG2 := Lib.hid g2
    have c3 : (convert 22 9 (.slice A2 1 1)).run Try.prog w2 = .ok (.string ⟨#[97]⟩) w2 := c2
    clear g2 c2 hp
    go_wp2
    go_ret
    refine ⟨rfl, ?_⟩
    have b1 := HG1.out.bel
    have hb1 : Below w.heap.size w w1 := ((Below.refl _ w).alloc (Nat.le_refl _) _).trans (b1.mono (by simp))
    exact hb1.trans (HG2.out.bel.mono hb1.size)
end Go.Proofs.Ytlnblcgfgkkbhaa
