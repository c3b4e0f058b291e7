/-
  The contract of New. Its conditions: none.
-/
import Derived.Test.YtppdckncnfffcaaW4
namespace Go.Proofs.Ytppdckncnfffcaa
open Go.RowKit
set_option maxRecDepth 100000

def newWorld (w : World) (n : Nat) : World := (w.alloc (.cells (eSec.vals (List.replicate n zs)).toArray 86)).alloc (.cells #[.slice (some ⟨w.heap.size, 0, none⟩) n n, .slice none 0 0, .int .i64 (-1), .bool false, .int .i64 0] 69)
theorem newWorld_below (w : World) (n : Nat) : Below w.heap.size w (newWorld w n) := ((Below.refl _ w).alloc (Nat.le_refl _) _).alloc (by simp) _
theorem newWorld_disk (w : World) (n : Nat) (hn : n ≤ 4096) : DiskAt (newWorld w n) w.heap.size (w.heap.size + 1) (newD n) := by
  refine ⟨⟨w.heap.size, .slice none 0 0, ?_, ?_, RowT.nil _, Nat.le_refl _⟩, by omega, newD_good hn⟩
  · have h := heap_new (w.alloc (.cells (eSec.vals (List.replicate n zs)).toArray 86)) (.cells #[.slice (some ⟨w.heap.size, 0, none⟩) n n, .slice none 0 0, .int .i64 (-1), .bool false, .int .i64 0] 69)
    rw [World.size_alloc] at h
    show Box _ _ _ (List.replicate n zs).length _ _ _ _
    rw [List.length_replicate]
    exact h
  · have h := heap_new w (.cells (eSec.vals (List.replicate n zs)).toArray 86)
    have h2 := (heap_old (w.alloc (.cells (eSec.vals (List.replicate n zs)).toArray 86)) (.cells #[.slice (some ⟨w.heap.size, 0, none⟩) n n, .slice none 0 0, .int .i64 (-1), .bool false, .int .i64 0] 69) (b := w.heap.size) (by simp)).trans h
    exact h2
def NewPost (w : World) (n : Int) (r : Ending) (w' : World) : Prop :=
  if 1 ≤ n ∧ n ≤ 4096 then ∃ g, r = .returned (.tuple #[.pointer (some ⟨g, 0, none⟩), .int .i64 0]) ∧ DiskAt w' w.heap.size g (newD n.toNat) ∧ Below w.heap.size w w'
  else r = .returned (.tuple #[.pointer none, .int .i64 1]) ∧ w' = w
set_option maxHeartbeats 1000000 in
theorem new_any (n : Int) (w : World) : Calls Try.prog 9 #[.int .i64 n] w (NewPost w n) := by
  by_cases h1 : n < 1
  · have d1 : decide (n < 1) = true := decide_eq_true h1
    have HE : Hid (NewPost w n (.returned (.tuple #[.pointer none, .int .i64 1])) w) := by
      show NewPost _ _ _ _
      unfold NewPost
      rw [if_neg (by omega)]
      exact ⟨rfl, rfl⟩
    clear h1
    go_enter Try.func9, Try.ntmps9
    go_wp2
    go_ret2
    exact HE.out
  · have d1 : decide (n < 1) = false := decide_eq_false h1
    by_cases h2 : n > 4096
    · have d2 : decide (4096 < n) = true := decide_eq_true h2
      have HE : Hid (NewPost w n (.returned (.tuple #[.pointer none, .int .i64 1])) w) := by
        show NewPost _ _ _ _
        unfold NewPost
        rw [if_neg (by omega)]
        exact ⟨rfl, rfl⟩
      clear h1 h2
      go_enter Try.func9, Try.ntmps9
      go_wp2
      go_ret2
      exact HE.out
    · have d2 : decide (4096 < n) = false := decide_eq_false h2
      obtain ⟨k, rfl⟩ : ∃ k : Nat, n = (k : Int) := ⟨n.toNat, by omega⟩
      have hk : k ≤ 4096 := by omega
      have HE : Hid (NewPost w (k : Int) (.returned (.tuple #[.pointer (some ⟨w.heap.size + 1, 0, none⟩), .int .i64 0])) (newWorld w k)) := by
        show NewPost _ _ _ _
        unfold NewPost
        rw [if_pos (by omega)]
        exact ⟨_, rfl, newWorld_disk w k hk, newWorld_below w k⟩
      unfold newWorld at HE
      have HM := Lib.hid (fun w => run_make61 k hk w)
      clear h1 h2 hk
      go_enter Try.func9, Try.ntmps9
      go_wp2_with (refine wpList_value rfl (exec_make rfl rfl rfl (HM.out _)) ?_)
      go_ret2
      exact HE.out
end Go.Proofs.Ytppdckncnfffcaa
