/-
  DiskPlays walked: no disk of that many sectors. Its conditions: the number is below 1 or over 4096.
-/
import Derived.Test.YtghfhjeaiiianaaW24
namespace Go.Proofs.Ytghfhjeaiiianaa
open Go.RowKit
open Go.Sort (grow)

set_option maxRecDepth 100000 in
set_option maxHeartbeats 8000000 in
theorem plays_none (a0 : Int) (V : Value) (w : World) (hn : a0 < 1 ∨ 4096 < a0) : Calls Try.prog 3 #[.int .i64 a0, V] w fun e w' => e = .returned (.bool true) ∧ Below w.heap.size w w' := by
  have CA := Lib.hid (awake_any w)
  have CN : ∀ w', Calls Try.prog 8 #[.int .i64 a0] w' fun r w2 => r = .returned (.tuple #[.pointer none, .int .i64 1]) ∧ w2 = w' := fun w' => by
    refine (new_any a0 w').mono ?_
    intro r w2 h
    unfold NewPost at h
    rw [if_neg (by omega)] at h
    exact h
  have HN := Lib.hid hn
  clear hn
  go_enter Try.func3, Try.ntmps3
  go_wp2_with fail
  refine CA.out.mono ?_
  rintro r w1 ⟨rfl, b1⟩
  have B1 := Lib.hid b1
  clear b1 CA
  go_wp2_with fail
  refine (CN w1).mono ?_
  rintro r w2 ⟨rfl, rfl⟩
  have CF := Lib.hid (full_any [] none 0 0 w2 (sl_nil none) rfl)
  by_cases h1 : a0 < 1
  · have hd : decide (a0 < 1) = true := decide_eq_true h1
    clear HN CN
    go_wp2_with fail
    refine CF.out.mono ?_
    rintro r w3 ⟨v, rfl, r3, b3⟩
    obtain ⟨A, c, hv⟩ := r3.len
    rw [fullL_length] at hv
    subst hv
    have HE : Hid (Below w.heap.size w w3) := B1.out.trans (b3.mono B1.out.size)
    clear r3 b3 B1 CF
    go_wp2_with fail
    refine (write_nil 0 A 64 c w3).mono ?_
    rintro r w4 ⟨rfl, rfl⟩
    go_wp2_with fail
    refine (sync_nil w3).mono ?_
    rintro r w4 ⟨rfl, rfl⟩
    go_wp2_with fail
    refine (len_nil w3).mono ?_
    rintro r w4 ⟨rfl, rfl⟩
    go_wp2_with fail
    refine (down_nil w3).mono ?_
    rintro r w4 ⟨rfl, rfl⟩
    go_wp2_with fail
    refine (pend_nil w3).mono ?_
    rintro r w4 ⟨rfl, rfl⟩
    go_wp2_with fail
    refine (steps_nil w3).mono ?_
    rintro r w4 ⟨rfl, rfl⟩
    go_wp2
    go_ret
    exact ⟨rfl, HE.out⟩
  · have hd : decide (a0 < 1) = false := decide_eq_false h1
    have h2 : 4096 < a0 := by have := HN.out; omega
    clear HN CN
    go_wp2_with fail
    refine CF.out.mono ?_
    rintro r w3 ⟨v, rfl, r3, b3⟩
    obtain ⟨A, c, hv⟩ := r3.len
    rw [fullL_length] at hv
    subst hv
    have HE : Hid (Below w.heap.size w w3) := B1.out.trans (b3.mono B1.out.size)
    clear r3 b3 B1 CF
    go_wp2_with fail
    refine (write_nil 0 A 64 c w3).mono ?_
    rintro r w4 ⟨rfl, rfl⟩
    go_wp2_with fail
    refine (sync_nil w3).mono ?_
    rintro r w4 ⟨rfl, rfl⟩
    go_wp2_with fail
    refine (len_nil w3).mono ?_
    rintro r w4 ⟨rfl, rfl⟩
    go_wp2_with fail
    refine (down_nil w3).mono ?_
    rintro r w4 ⟨rfl, rfl⟩
    go_wp2_with fail
    refine (pend_nil w3).mono ?_
    rintro r w4 ⟨rfl, rfl⟩
    go_wp2_with fail
    refine (steps_nil w3).mono ?_
    rintro r w4 ⟨rfl, rfl⟩
    go_wp2
    go_ret
    exact ⟨rfl, HE.out⟩
end Go.Proofs.Ytghfhjeaiiianaa
