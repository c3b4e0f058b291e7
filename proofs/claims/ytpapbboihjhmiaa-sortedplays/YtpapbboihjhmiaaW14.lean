/-
  The contracts of awake, and of a nil map's calls. Their conditions: none.
-/
import Derived.Test.YtpapbboihjhmiaaW6
namespace Go.Proofs.Ytpapbboihjhmiaa
open Go.RowKit

theorem get_nil (k : ByteArray) (w : World) : Calls Try.prog 16 #[.pointer none, .string k] w fun e w' => e = .returned (.tuple #[.int .i64 0, .bool false]) ∧ w = w' := by
  have C1 : Hid (Calls Try.prog 18 #[.pointer none, .string k] w fun e w' => e = .returned (.tuple #[.string ⟨#[]⟩, .int .i64 0, .bool false]) ∧ w = w') := by
    show Calls _ _ _ _ _
    go_enter Try.func18, Try.ntmps18
    go_wp2
    exact bodyPost_ret (v := .tuple #[.string ⟨#[]⟩, .int .i64 0, .bool false]) (by simp [results, Try.results18, go_sem]) rfl ⟨rfl, rfl⟩
  go_enter Try.func16, Try.ntmps16
  go_wp2_with fail
  refine C1.out.mono ?_
  rintro e w1 ⟨rfl, rfl⟩
  go_wp2
  go_ret2
  exact ⟨rfl, rfl⟩
theorem from_nil (k : ByteArray) (w : World) : Calls Try.prog 18 #[.pointer none, .string k] w fun e w' => e = .returned (.tuple #[.string ⟨#[]⟩, .int .i64 0, .bool false]) ∧ w = w' := by
  go_enter Try.func18, Try.ntmps18
  go_wp2
  exact bodyPost_ret (v := .tuple #[.string ⟨#[]⟩, .int .i64 0, .bool false]) (by simp [results, Try.results18, go_sem]) rfl ⟨rfl, rfl⟩
theorem set_nil (k : ByteArray) (n : Int) (w : World) : Calls Try.prog 11 #[.pointer none, .string k, .int .i64 n] w fun e w' => e = .returned (.bool false) ∧ w = w' := by
  go_enter Try.func11, Try.ntmps11
  go_wp2
  go_ret
  exact ⟨rfl, rfl⟩
theorem del_nil (k : ByteArray) (w : World) : Calls Try.prog 13 #[.pointer none, .string k] w fun e w' => e = .returned (.bool false) ∧ w = w' := by
  go_enter Try.func13, Try.ntmps13
  go_wp2
  go_ret
  exact ⟨rfl, rfl⟩
theorem len_nil (w : World) : Calls Try.prog 20 #[.pointer none] w fun e w' => e = .returned (.int .i64 0) ∧ w = w' := by
  go_enter Try.func20, Try.ntmps20
  go_wp2
  go_ret
  exact ⟨rfl, rfl⟩
theorem depth_nil (w : World) : Calls Try.prog 24 #[.pointer none] w fun e w' => e = .returned (.int .i64 0) ∧ w = w' := by
  go_enter Try.func24, Try.ntmps24
  go_wp2
  go_ret
  exact ⟨rfl, rfl⟩
theorem copy_nil (w : World) : Calls Try.prog 15 #[.pointer none] w fun e w' => e = .returned (.pointer none) ∧ w = w' := by
  go_enter Try.func15, Try.ntmps15
  go_wp2
  go_ret
  exact ⟨rfl, rfl⟩

abbrev sA : ByteArray := ⟨#[97]⟩
abbrev sB : ByteArray := ⟨#[98]⟩
abbrev sAA : ByteArray := ⟨#[97, 97]⟩
theorem lt_ab : lt sA sB = true := by unfold lt; rw [toList_data, toList_data]; rfl
theorem lt_aaa : lt sA sAA = true := by unfold lt; rw [toList_data, toList_data]; rfl
theorem lt_baa : lt sB sAA = false := by unfold lt; rw [toList_data, toList_data]; rfl
theorem awake_1 : lset [] sB 1 = [(sB, 1)] := rfl
theorem awake_2 : lset [(sB, 1)] sA 2 = [(sA, 2), (sB, 1)] := by simp only [lset, lt_ab, if_true]
theorem awake_3 : lfrom [(sA, 2), (sB, 1)] sAA = some (sB, 1) := by simp [lfrom, List.find?, lt_aaa, lt_baa]
theorem awake_4 : lhas [(sB, 1)] sA = false := lhas_false.mpr (by intro p hp; simp at hp; subst hp; exact (lt_ne lt_ab).symm)

set_option maxRecDepth 100000 in
set_option maxHeartbeats 1000000 in
theorem awake_any (w : World) : Calls Try.prog 9 #[] w fun e w' => e = .returned (.bool true) ∧ Below w.heap.size w w' := by
  go_enter Try.func9, Try.ntmps9
  go_wp2_with fail
  refine (new_any w).mono ?_
  rintro e w1 ⟨rfl, m1, b1, _⟩
  have M1 := Lib.hid m1
  have B1 := Lib.hid b1
  have C1 := Lib.hid (set_any w.heap.size [] sB 1 w1 m1 (by simp))
  clear m1 b1
  go_wp2_with fail
  refine C1.out.mono ?_
  rintro e w2 ⟨rfl, m2, o2⟩
  rw [awake_1] at m2
  rw [show (!lhas [] sB) = true from rfl]
  have B2 := Lib.hid (B1.out.trans (o2.below B1.out.size (Nat.le_refl _)))
  have C2 := Lib.hid (set_any w.heap.size _ sA 2 w2 m2 (by simp))
  rw [awake_2, awake_4] at C2
  clear m2 o2 C1
  go_wp2_with fail
  refine C2.out.mono ?_
  rintro e w3 ⟨rfl, m3, o3⟩
  rw [show (!false) = true from rfl]
  have B3 := Lib.hid (B2.out.trans (o3.below B2.out.size (Nat.le_refl _)))
  have M3 := Lib.hid m3
  have C3 := Lib.hid (from_any w.heap.size _ sAA w3 m3)
  rw [awake_3] at C3
  clear m3 o3 C2
  go_wp2_with fail
  refine C3.out.mono ?_
  rintro e w4 ⟨rfl, b4⟩
  simp only [fromV]
  have B4 := Lib.hid (B3.out.trans (b4.mono B3.out.size))
  have C4 := Lib.hid (len_any w.heap.size _ w4 (M3.out.below b4))
  obtain ⟨d, hlow, hd⟩ := depth_map w.heap.size _ w4 (M3.out.below b4)
  have C5 := Lib.hid (hd w4 (Below.refl _ _))
  have hd1 : (1 : Int) ≤ (d : Int) := by
    have := hlow.2.1
    simp at this
    omega
  clear b4 C3 hd hlow
  go_wp2_with fail
  refine C4.out.mono ?_
  rintro e w5 ⟨rfl, rfl⟩
  go_wp2_with fail
  refine C5.out.mono ?_
  rintro e w5 ⟨rfl, rfl⟩
  go_wp2
  go_ret
  exact ⟨rfl, B4.out⟩
end Go.Proofs.Ytpapbboihjhmiaa
