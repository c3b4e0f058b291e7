/-
  The contracts of the document's Reader: Whole and Flag. Their conditions: the reader is the call's own, its bytes lie elsewhere and fit memory.
-/
import Derived.Test.YthcmijppemochaaW22
namespace Go.Proofs.Ythcmijppemochaa
open Go.RowKit Go.Sort

def wholeB (s : Option (List Nat)) : Bool := decide (s = some [])
set_option maxHeartbeats 1000000 in
theorem whole_any (h : Nat) (A : Option Addr) (c : Nat) (b : List Nat) (s : Option (List Nat)) (w : World) (hr : RR w h A c b s) :
    Calls Try.prog 26 #[.pointer (some ⟨h, 0, none⟩)] w fun e w' => e = .returned (.bool (wholeB s)) ∧ Below w.heap.size w w' := by
  obtain ⟨a, bad, ha, hbx, hs⟩ := hr
  have g0 : ∀ d os, (grow (redrawn w d) os).cell? ⟨h, 0, none⟩ = some (.slice A b.length c) := fun d os => (hbx.below (below_regrown w d os)).cells.1
  have g1 : ∀ d os, (grow (redrawn w d) os).cell? ⟨h, 1, none⟩ = some (.int .i64 (a : Int)) := fun d os => (hbx.below (below_regrown w d os)).cells.2.1
  have g2 : ∀ d os, (grow (redrawn w d) os).cell? ⟨h, 2, none⟩ = some (.bool bad) := fun d os => (hbx.below (below_regrown w d os)).cells.2.2.1
  rcases hs with ⟨rfl, rfl⟩ | ⟨rfl, rfl⟩
  · clear hbx ha
    go_enter Try.func26, Try.ntmps26
    go_wp2
    refine wp_region_quiet_below (by kernel_rfl) (by kernel_rfl) ?_
    repeat (go_big_quiet_step (fail))
    refine wpQuiet_nil ?_
    intro w3 hw'
    obtain ⟨⟨dq, osq⟩, hw''⟩ := hw'
    have hb3 : Below w.heap.size w w3 := by rw [hw'']; exact below_regrown w dq osq
    have HB3 := Lib.hid hb3
    clear hw'' hb3 g0 g1 g2
    go_wp2
    go_ret
    exact ⟨rfl, HB3.out⟩
  · by_cases hE : a = b.length
    · have HW : Hid (wholeB (some (b.drop a)) = true) := by unfold wholeB; rw [List.drop_of_length_le (by omega)]; exact rfl
      have hbe : ((a : Int) == (b.length : Int)) = true := by simp; omega
      clear hbx ha
      subst hE
      go_enter Try.func26, Try.ntmps26
      go_wp2
      refine wp_region_quiet_below (by kernel_rfl) (by kernel_rfl) ?_
      repeat (go_big_quiet_step (fail))
      refine wpQuiet_nil ?_
      intro w3 hw'
      obtain ⟨⟨dq, osq⟩, hw''⟩ := hw'
      have hb3 : Below w.heap.size w w3 := by rw [hw'']; exact below_regrown w dq osq
      have HB3 := Lib.hid hb3
      clear hw'' hb3 g0 g1 g2
      go_wp2
      go_ret
      rw [HW.out]
      exact ⟨rfl, HB3.out⟩
    · have HW : Hid (wholeB (some (b.drop a)) = false) := by
        unfold wholeB
        refine decide_eq_false (fun e => ?_)
        injection e with e
        have := congrArg List.length e
        rw [List.length_drop] at this
        simp at this
        omega
      have hbe : ((a : Int) == (b.length : Int)) = false := by simp; omega
      have hbe2 : (a == b.length) = false := by simpa using hE
      clear hbx ha hE
      go_enter Try.func26, Try.ntmps26
      go_wp2
      refine wp_region_quiet_below (by kernel_rfl) (by kernel_rfl) ?_
      repeat (go_big_quiet_step (fail))
      refine wpQuiet_nil ?_
      intro w3 hw'
      obtain ⟨⟨dq, osq⟩, hw''⟩ := hw'
      have hb3 : Below w.heap.size w w3 := by rw [hw'']; exact below_regrown w dq osq
      have HB3 := Lib.hid hb3
      clear hw'' hb3 g0 g1 g2
      go_wp2
      go_ret
      rw [HW.out]
      exact ⟨rfl, HB3.out⟩
theorem rcount_flag {x : Nat} {R : List Nat} (hb : ∀ c ∈ x :: R, c < 256) : Pk.rcount (some (x :: R)) 1 = if x ≤ 1 then (x, some R) else (0, none) := by
  by_cases hx : x ≤ 1
  · rw [if_pos hx]
    have h := rcount_good x R 1 (by unfold Pk.most; omega) (by omega)
    rw [Pk.digits_small (by omega)] at h
    exact h
  · rw [if_neg hx]
    cases hc : Pk.rcount (some (x :: R)) 1 with
    | mk n s =>
      cases s with
      | none =>
        have := rcount_none (some (x :: R)) 1 (by rw [hc])
        rw [hc] at this
        simp only at this
        rw [this]
      | some Q =>
        obtain ⟨g1, g2, g3⟩ := rcount_some hb hc
        rw [Pk.digits_small (by omega)] at g3
        injection g3 with g3 _
        omega
theorem rcount_empty (m : Int) : Pk.rcount (some []) m = (0, none) := rfl
/-- The ways of the document's Flag that meet a fault. -/
theorem refflag_fault (h : Nat) (A : Option Addr) (c a : Nat) (b : List Nat) (bad : Bool) (w : World) (hbx : Box3 w h (.slice A b.length c) (.int .i64 (a : Int)) (.bool bad)) (ha : a ≤ b.length) (hb : Bytes w A b)
    (hf : bad = true ∨ (bad = false ∧ b.length ≤ a) ∨ (bad = false ∧ ∃ (hl : a < b.length), 1 < b[a])) :
    Calls Try.prog 21 #[.pointer (some ⟨h, 0, none⟩)] w (RfPost w h A c b (.bool false) none) := by
  have g0 : ∀ d os, (grow (redrawn w d) os).cell? ⟨h, 0, none⟩ = some (.slice A b.length c) := fun d os => (hbx.below (below_regrown w d os)).cells.1
  have g1 : ∀ d os, (grow (redrawn w d) os).cell? ⟨h, 1, none⟩ = some (.int .i64 (a : Int)) := fun d os => (hbx.below (below_regrown w d os)).cells.2.1
  have g2 : ∀ d os, (grow (redrawn w d) os).cell? ⟨h, 2, none⟩ = some (.bool bad) := fun d os => (hbx.below (below_regrown w d os)).cells.2.2.1
  have HBX := Lib.hid hbx
  have HA := Lib.hid ha
  have FIN : Hid (∀ w3, Below w.heap.size w w3 → RfPost w h A c b (.bool false) none (.returned (.bool false)) (w3.setCell ⟨h, 2, none⟩ (.bool true))) :=
    fun w3 hb3 => ⟨rfl, ⟨a, true, ha, (hbx.below hb3).set2 true, .inl ⟨rfl, rfl⟩⟩, (Only.of_below (S := fun k => k = h) hb3).setCell (p := ⟨h, 2, none⟩) (.inr rfl) _⟩
  rcases hf with rfl | ⟨rfl, hle⟩ | ⟨rfl, hlt, hx⟩
  · clear hbx ha hb
    go_enter Try.func21, Try.ntmps21
    go_wp2
    refine wp_region_quiet_below (by kernel_rfl) (by kernel_rfl) ?_
    repeat (go_big_quiet_step (fail))
    refine wpQuiet_nil ?_
    intro w3 hw'
    obtain ⟨⟨dq, osq⟩, hw''⟩ := hw'
    have hb3 : Below w.heap.size w w3 := by rw [hw'']; exact below_regrown w dq osq
    obtain ⟨c0, c1, c2, f1, f2⟩ := (HBX.out.below hb3).cells
    have HF := Lib.hid (FIN.out w3 hb3)
    clear hw'' hb3 g0 g1 g2
    go_wp2
    go_ret
    exact HF.out
  · clear hbx ha hb
    go_enter Try.func21, Try.ntmps21
    go_wp2
    refine wp_region_quiet_below (by kernel_rfl) (by kernel_rfl) ?_
    repeat (go_big_quiet_step (fail))
    refine wpQuiet_nil ?_
    intro w3 hw'
    obtain ⟨⟨dq, osq⟩, hw''⟩ := hw'
    have hb3 : Below w.heap.size w w3 := by rw [hw'']; exact below_regrown w dq osq
    obtain ⟨c0, c1, c2, f1, f2⟩ := (HBX.out.below hb3).cells
    have HF := Lib.hid (FIN.out w3 hb3)
    clear hw'' hb3 g0 g1 g2
    go_wp2
    go_ret
    exact HF.out
  · obtain ⟨bb, off, hAe, _, _⟩ := hb.at_ hlt
    obtain ⟨x, hxe⟩ : ∃ x, b[a] = x := ⟨_, rfl⟩
    rw [hxe] at hx
    have g3 : ∀ d os, (grow (redrawn w d) os).cell? ⟨bb, off + a, none⟩ = some (.int .u8 (x : Int)) := fun d os => by
      obtain ⟨b9, o9, e9, hc9, _⟩ := (hb.below (below_regrown w d os)).at_ hlt
      rw [hAe] at e9
      injection e9 with e9
      injection e9 with e8 e7
      subst e8 e7
      rw [hc9, hxe]
    subst hAe
    have hx1 : ¬ (x : Int) ≤ 1 := by omega
    have hx2 : (1 : Int) < (x : Int) := by omega
    have hz : (0 : Int) ≤ (a : Int) := by omega
    have hd1 : decide (b.length ≤ a) = false := by simp; omega
    have hd2 : decide ((1 : Int) < (x : Int)) = true := by simp; omega
    clear hbx ha hb hxe hx
    go_enter Try.func21, Try.ntmps21
    go_wp2
    refine wp_region_quiet_below (by kernel_rfl) (by kernel_rfl) ?_
    repeat (go_big_quiet_step (fail))
    refine wpQuiet_nil ?_
    intro w3 hw'
    obtain ⟨⟨dq, osq⟩, hw''⟩ := hw'
    have hb3 : Below w.heap.size w w3 := by rw [hw'']; exact below_regrown w dq osq
    obtain ⟨c0, c1, c2, f1, f2⟩ := (HBX.out.below hb3).cells
    have HF := Lib.hid (FIN.out w3 hb3)
    clear hw'' hb3 g0 g1 g2 g3
    go_wp2
    go_ret
    exact HF.out
end Go.Proofs.Ythcmijppemochaa
