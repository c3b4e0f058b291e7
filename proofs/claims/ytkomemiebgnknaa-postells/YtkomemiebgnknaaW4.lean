/-
  The contract of leave. Its conditions: the slice reads as epochs, the table is right, the position one of it.
-/
import Derived.Test.YtkomemiebgnknaaW3
import Derived.WalkMore
namespace Go.Proofs.Ytkomemiebgnknaa
open Go.RowKit

theorem lv_pass {l : List Ep} {e : Nat} {i : Int} {j : Nat} (h : e ≤ j) (hs : Ps.shared l e i j ≤ Ps.cutAt l j) : Ps.shared l e i (j + 1) = Ps.shared l e i j ∧ Ps.cutter l e i (j + 1) = Ps.cutter l e i j := by
  rw [Ps.shared_succ _ _ _ _ h, Ps.cutter_succ _ _ _ _ h]
  refine ⟨by omega, ?_⟩
  by_cases hc : Ps.cutter l e i j = 0
  · have := Ps.shared_whole hc
    rw [if_neg (by omega), if_neg (by omega), hc]
  · rw [if_pos hc]
theorem lv_first {l : List Ep} {e : Nat} {i : Int} {j : Nat} (h : e ≤ j) (hs : Ps.cutAt l j < Ps.shared l e i j) (hc : Ps.cutter l e i j = 0) : Ps.shared l e i (j + 1) = Ps.cutAt l j ∧ Ps.cutter l e i (j + 1) = j + 1 := by
  rw [Ps.shared_succ _ _ _ _ h, Ps.cutter_succ _ _ _ _ h]
  have := Ps.shared_whole hc
  exact ⟨by omega, by rw [if_neg (by omega), if_pos (by omega)]⟩
theorem lv_more {l : List Ep} {e : Nat} {i : Int} {j : Nat} (h : e ≤ j) (hs : Ps.cutAt l j < Ps.shared l e i j) (hc : Ps.cutter l e i j ≠ 0) : Ps.shared l e i (j + 1) = Ps.cutAt l j ∧ Ps.cutter l e i (j + 1) = Ps.cutter l e i j := by
  rw [Ps.shared_succ _ _ _ _ h, Ps.cutter_succ _ _ _ _ h]
  exact ⟨by omega, by rw [if_pos hc]⟩
theorem lv_stop {l : List Ep} {e : Nat} {i : Int} {j m : Nat} (hr : Ps.Right l) (h : e ≤ j) (hj : j ≤ m) (hs : Ps.shared l e i j = 0) : Ps.shared l e i m = 0 ∧ Ps.cutter l e i m = Ps.cutter l e i j := by
  induction m with
  | zero =>
    obtain rfl : j = 0 := by omega
    exact ⟨hs, rfl⟩
  | succ m ih =>
    rcases Nat.lt_or_ge m j with hm | hm
    · obtain rfl : j = m + 1 := by omega
      exact ⟨hs, rfl⟩
    · obtain ⟨h1, h2⟩ := ih hm
      obtain ⟨h3, h4⟩ := lv_pass (l := l) (i := i) (show e ≤ m by omega) (by rw [h1]; exact (hr.cut m).1)
      exact ⟨h3.trans h1, h4.trans h2⟩
def LvRel (l : List Ep) (k n : Nat) (i : Int) (c s m : Value) : Prop := ∃ (j : Nat) (y z : Int), k ≤ j ∧ j ≤ n ∧ m = .int .i64 ((j : Int) + 1) ∧ c = .int .i64 y ∧ s = .int .i64 z ∧ y = (Ps.cutter l k i j : Nat) ∧ z = Ps.shared l k i j
def LvPost (l : List Ep) (k n : Nat) (i : Int) (w : World) (e : Ending) (w' : World) : Prop := ∃ (y z : Int), e = .returned (.tuple #[.int .i64 y, .int .i64 z]) ∧ y = (Ps.cutter l k i n : Nat) ∧ z = Ps.shared l k i n ∧ Below w.heap.size w w'
set_option maxHeartbeats 1000000 in
theorem leave_any (l : List Ep) (A : Option Addr) (n cap k : Nat) (e i : Int) (w : World) (h : Eps w A l) (hn : l.length = n) (hr : Ps.Right l) (hk : k ≤ n) (he : e = (k : Int)) : Calls Try.prog 27 #[.slice A n cap, .agg #[.int .i64 e, .int .i64 i]] w (LvPost l k n i w) := by
  subst he
  have HE := Lib.hid (h.alloc (.cells #[.int .i64 (k : Int), .int .i64 i] 24))
  have hm : (n : Int) ≤ 64 := by have := hr.few; omega
  have HN := Lib.hid hn
  have HR := Lib.hid hr
  have HB : Hid (Below w.heap.size w (w.alloc (.cells #[.int .i64 (k : Int), .int .i64 i] 24))) := (Below.refl _ _).alloc (Nat.le_refl _) _
  clear h hn hr
  go_enter Try.func27, Try.ntmps27
  go_wp2
  go_step3
  go_wp2
  go_step3
  go_wp2
  go_loop [4, 5, 6] (LvRel l k n i) (fun _ _ m => n + 1 - (intOf m).toNat)
  case atStart => exact ⟨k, 0, i, Nat.le_refl _, hk, rfl, rfl, rfl, by rw [Ps.cutter_base _ _ _ _ (Nat.le_refl _)]; rfl, by rw [Ps.shared_base _ _ _ _ (Nat.le_refl _)]⟩
  case round =>
    obtain ⟨j, y, z, hkj, hjn, rfl, rfl, rfl, hy, hz⟩ := hrel
    have HY := Lib.hid hy
    have HZ := Lib.hid hz
    clear hy hz
    by_cases hlt : j < n
    · have hjl : j < l.length := by have := HN.out; omega
      obtain ⟨b, off, rfl, hbs, c0, c1, c2⟩ := HE.out.at_ hjl
      have hC := Ps.cutAt_get hjl
      have hC0 := (HR.out.cut j).1
      rw [← hC] at c1
      obtain ⟨C, eC⟩ : ∃ C, Ps.cutAt l j = C := ⟨_, rfl⟩
      rw [eC] at c1 hC0
      have EC := Lib.hid eC
      have i1 : (j : Int) + 1 ≤ (n : Int) := by omega
      clear c0 c2 hC eC hjl
      by_cases hz0 : z = 0
      · have hst := lv_stop HR.out hkj (show j ≤ n by omega) (HZ.out.symm.trans hz0)
        have HS := Lib.hid hst
        have HZ0 := Lib.hid hz0
        subst hz0
        clear hst
        go_wp2
        try rw [Exit.noGoto_ret]
        go_ret2
        exact ⟨y, 0, rfl, by rw [HY.out, HS.out.2], by rw [HS.out.1], HB.out⟩
      · by_cases hge : z ≤ C
        · have HS := Lib.hid (lv_pass hkj (by rw [← HZ.out, EC.out]; exact hge))
          go_wp2
          go_round
          case rel => exact ⟨j + 1, y, z, by omega, by omega, by go_num, rfl, rfl, by rw [HS.out.2]; exact HY.out, by rw [HS.out.1]; exact HZ.out⟩
          case measure => simp [intOf]; omega
        · by_cases hy0 : y = 0
          · have HS := Lib.hid (lv_first (l := l) (i := i) hkj (by rw [← HZ.out, EC.out]; omega) (by have := HY.out; omega))
            subst hy0
            go_wp2
            go_round
            case rel => exact ⟨j + 1, (j : Int) + 1, C, by omega, by omega, by go_num, rfl, rfl, by rw [HS.out.2]; omega, by rw [HS.out.1, EC.out]⟩
            case measure => simp [intOf]; omega
          · have HS := Lib.hid (lv_more (l := l) (i := i) hkj (by rw [← HZ.out, EC.out]; omega) (by have := HY.out; omega))
            go_wp2
            go_round
            case rel => exact ⟨j + 1, y, C, by omega, by omega, by go_num, rfl, rfl, by rw [HS.out.2]; exact HY.out, by rw [HS.out.1, EC.out]⟩
            case measure => simp [intOf]; omega
    · have hjn2 : j = n := by omega
      have HJ := Lib.hid hjn2
      clear hjn2
      have i1 : ¬ (j : Int) + 1 ≤ (n : Int) := by omega
      go_wp2
      try rw [Exit.noGoto_ret]
      go_ret2
      exact ⟨y, z, rfl, by rw [HY.out, HJ.out], by rw [HZ.out, HJ.out], HB.out⟩
end Go.Proofs.Ytkomemiebgnknaa
