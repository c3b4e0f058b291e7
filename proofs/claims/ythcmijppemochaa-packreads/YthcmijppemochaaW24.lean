/-
  The contracts of the document's Reader: Flag and Text. Their conditions: the reader is the call's own, its bytes lie elsewhere and fit memory.
-/
import Derived.Test.YthcmijppemochaaW23
namespace Go.Proofs.Ythcmijppemochaa
open Go.RowKit Go.Sort

theorem Bytes.only_at {S : Nat → Prop} {w w' : World} {A : Option Addr} {l : List Nat} (h : Bytes w A l) (ho : Only S w w') (hS : 0 < l.length → ∀ a, A = some a → ¬ S a.block) : Bytes w' A l := by
  cases l with
  | nil => exact Bytes.nil _ _
  | cons x l => exact h.only ho (hS (by simp))
set_option maxHeartbeats 1000000 in
theorem refflag_ok (h : Nat) (A : Option Addr) (c a x : Nat) (b : List Nat) (w : World) (hbx : Box3 w h (.slice A b.length c) (.int .i64 (a : Int)) (.bool false)) (hlt : a < b.length) (hxe : b[a] = x) (hx : x ≤ 1) (hb : Bytes w A b) (hA : 0 < b.length → ∀ ad, A = some ad → ad.block ≠ h) (hm : b.length ≤ 140737488355328) :
    Calls Try.prog 21 #[.pointer (some ⟨h, 0, none⟩)] w (RfPost w h A c b (.bool (decide (x = 1))) (some (b.drop (a + 1)))) := by
  have g0 : ∀ d os, (grow (redrawn w d) os).cell? ⟨h, 0, none⟩ = some (.slice A b.length c) := fun d os => (hbx.below (below_regrown w d os)).cells.1
  have g1 : ∀ d os, (grow (redrawn w d) os).cell? ⟨h, 1, none⟩ = some (.int .i64 (a : Int)) := fun d os => (hbx.below (below_regrown w d os)).cells.2.1
  have g2 : ∀ d os, (grow (redrawn w d) os).cell? ⟨h, 2, none⟩ = some (.bool false) := fun d os => (hbx.below (below_regrown w d os)).cells.2.2.1
  have HBX := Lib.hid hbx
  have HB := Lib.hid hb
  have HAN := Lib.hid hA
  obtain ⟨bb, off, hAe, _, _⟩ := hb.at_ hlt
  have HCELL : Hid (∀ w', Bytes w' A b → w'.cell? ⟨bb, off + a, none⟩ = some (.int .u8 (x : Int))) := by
    intro w' hb'
    obtain ⟨b9, o9, e9, hc9, _⟩ := hb'.at_ hlt
    rw [hAe] at e9
    injection e9 with e9
    injection e9 with e8 e7
    subst e8 e7
    rw [hc9, hxe]
  have g3 : ∀ d os, (grow (redrawn w d) os).cell? ⟨bb, off + a, none⟩ = some (.int .u8 (x : Int)) := fun d os => HCELL.out _ (hb.below (below_regrown w d os))
  have HNE : Hid (bb ≠ h) := hA (by omega) _ hAe
  subst hAe
  have hz : (0 : Int) ≤ (a : Int) := by omega
  have hd1 : decide (b.length ≤ a) = false := by simp; omega
  have hd2 : decide ((1 : Int) < (x : Int)) = false := by simp; omega
  have haI : (a : Int) ≤ 140737488355328 := by omega
  have HX : Hid (((x : Int) == 1) = decide (x = 1)) := by
    show _ = _
    rw [Bool.eq_iff_iff]
    simp
    omega
  clear hbx hb hA hxe hx hm
  go_enter Try.func21, Try.ntmps21
  go_wp2
  refine wp_region_quiet_below (by kernel_rfl) (by kernel_rfl) ?_
  repeat (go_big_quiet_step (fail))
  refine wpQuiet_nil ?_
  intro w3 hw'
  obtain ⟨⟨dq, osq⟩, hw''⟩ := hw'
  have hb3 : Below w.heap.size w w3 := by rw [hw'']; exact below_regrown w dq osq
  obtain ⟨c0, c1, c2, f1, f2⟩ := (HBX.out.below hb3).cells
  have HB3 := Lib.hid hb3
  have HX4 := Lib.hid ((HBX.out.below hb3).set1 ((a : Int) + 1))
  have HY4 : Hid (Bytes (w3.setCell ⟨h, 1, none⟩ (.int .i64 ((a : Int) + 1))) (some ⟨bb, off, none⟩) b) :=
    (HB.out.below hb3).only_at (S := fun k => k = h) ((Only.refl (fun k => k = h) w3).setCell (p := ⟨h, 1, none⟩) (.inr rfl) _) HAN.out
  have HW4 : Hid (Only (fun k => k = h) w (w3.setCell ⟨h, 1, none⟩ (.int .i64 ((a : Int) + 1)))) := (Only.of_below (S := fun k => k = h) hb3).setCell (p := ⟨h, 1, none⟩) (.inr rfl) _
  clear hw'' hb3 g0 g1 g2 g3
  obtain ⟨w4, hw4⟩ : ∃ w4, w3.setCell ⟨h, 1, none⟩ (.int .i64 ((a : Int) + 1)) = w4 := ⟨_, rfl⟩
  rw [hw4] at HX4 HY4 HW4
  have g0 : ∀ d os, (grow (redrawn w4 d) os).cell? ⟨h, 0, none⟩ = some (.slice (some ⟨bb, off, none⟩) b.length c) := fun d os => (HX4.out.below (below_regrown w4 d os)).cells.1
  have g1 : ∀ d os, (grow (redrawn w4 d) os).cell? ⟨h, 1, none⟩ = some (.int .i64 ((a : Int) + 1)) := fun d os => (HX4.out.below (below_regrown w4 d os)).cells.2.1
  have g3 : ∀ d os, (grow (redrawn w4 d) os).cell? ⟨bb, off + a, none⟩ = some (.int .u8 (x : Int)) := fun d os => HCELL.out _ (HY4.out.below (below_regrown w4 d os))
  have HW := Lib.hid hw4
  clear hw4
  have e1 : IntKind.i64.wrap ((a : Int) + 1 - 1) = (a : Int) := by rw [IntKind.wrap_i64]; omega
  go_wp2
  rw [show w3.setCell ⟨h, 1, none⟩ (.int .i64 ((a : Int) + 1)) = w4 from HW.out]
  refine wp_region_quiet_below (by kernel_rfl) (by kernel_rfl) ?_
  repeat (go_big_quiet_step (fail))
  refine wpQuiet_nil ?_
  intro w5 hw'
  obtain ⟨⟨dq, osq⟩, hw''⟩ := hw'
  have hb5 : Below w4.heap.size w4 w5 := by rw [hw'']; exact below_regrown w4 dq osq
  have HX5 := Lib.hid (HX4.out.below hb5)
  have HW5 : Hid (Only (fun k => k = h) w w5) := HW4.out.trans (Only.of_below (S := fun _ => False) hb5) (fun _ _ h => h.elim)
  clear hw'' hb5 g0 g1 g3
  go_wp2
  go_ret
  exact ⟨by rw [← HX.out]; rfl, ⟨a + 1, false, by omega, HX5.out, .inr ⟨rfl, rfl⟩⟩, HW5.out⟩
end Go.Proofs.Ythcmijppemochaa
