/-
  The contracts of frame's first and Open. Their conditions: the slice reads as bytes.
-/
import Derived.Test.YtlnblcgfgkkbhaaW5
import Derived.Lib.QuietBelow
namespace Go.Proofs.Ytlnblcgfgkkbhaa
open Go.RowKit

/-- What first answers: a piece of what was handed in, or nil. -/
def FirstPost (w : World) (l : List Nat) (e : Ending) (w' : World) : Prop :=
  Below w.heap.size w w' ∧ ((Fr.first l = none ∧ e = .returned (.slice none 0 0)) ∨ ∃ (p : List Nat) (P : Addr) (n : Nat), Fr.first l = some p ∧ p.length = n ∧ e = .returned (.slice (some P) n n) ∧ Bytes w (some P) p)
theorem first_few (A : Option Addr) (l : List Nat) (n c : Nat) (w : World) (hn : l.length = n) (h : n < 8) : Calls Try.prog 22 #[.slice A n c] w (FirstPost w l) := by
  have HF : Hid (Fr.first l = none) := Fr.first_short (by omega)
  clear hn
  go_enter Try.func22, Try.ntmps22
  go_wp2
  go_ret
  exact ⟨Below.refl _ _, .inl ⟨HF.out, rfl⟩⟩
theorem drew_below {w w' : World} {B n : Nat} (h : Below B w w') : Below B w (w'.drewN n) := ⟨h.os, h.tape, h.output, h.size, h.block⟩
set_option maxHeartbeats 1000000 in
theorem first_in (b off : Nat) (l : List Nat) (m k N X Y : Nat) (w : World) (hl : l.length = m + 8) (hk : 0 < k) (hmk : m ≤ k)
    (hN : Fr.num (l.take 4) = N) (hX : Crc.more 0 (l.take 4 ++ (l.drop 8).take N) = X) (hY : Fr.num ((l.drop 4).take 4) = Y) (h : Bytes w (some ⟨b, off, none⟩) l) :
    Calls Try.prog 22 #[.slice (some ⟨b, off, none⟩) (m + 8) (k + 8)] w (FirstPost w l) := by
  have hN32 : N < 4294967296 := by rw [← hN]; exact Fr.num_lt4 _ (by rw [List.length_take]; omega) (fun c hc => h.1 c (List.mem_of_mem_take hc))
  have hb1 := h.take 4
  have hb2 : Bytes w (some ⟨b, off + 4, none⟩) ((l.drop 4).take 4) := by
    have := (h.drop 4 (k + 8) (by omega)).take 4
    rw [if_neg (by omega)] at this
    simpa [addr_add] using this
  have hb3 : Bytes w (some ⟨b, off + 8, none⟩) ((l.drop 8).take N) := by
    have := (h.drop 8 (k + 8) (by omega)).take N
    rw [if_neg (by omega)] at this
    simpa [addr_add] using this
  have K1 : Hid (∀ w1, Below w.heap.size w w1 → Calls Try.prog 26 #[.slice (some ⟨b, off, none⟩) 4 (k + 8)] w1 fun e w' => e = .returned (.int .u32 (N : Int)) ∧ w1 = w') := by
    intro w1 hw1
    rw [← hN]
    exact number_any _ _ _ w1 (hb1.below hw1) (by rw [List.length_take]; omega)
  have K2 : Hid (∀ w1, Below w.heap.size w w1 → Calls Try.prog 26 #[.slice (some ⟨b, off + 4, none⟩) 4 (k + 4)] w1 fun e w' => e = .returned (.int .u32 (Y : Int)) ∧ w1 = w') := by
    intro w1 hw1
    rw [← hY]
    exact number_any _ _ _ w1 (hb2.below hw1) (by rw [List.length_take, List.length_drop]; omega)
  have HF : Hid (Fr.first l = if N = 0 ∨ 65536 < N ∨ m < N then none else if X = Y then some ((l.drop 8).take N) else none) := by
    unfold Fr.first
    rw [if_neg (by omega), hN, hX, hY, hl, Nat.add_sub_cancel]
    exact rfl
  have HY32 : Hid (Y < 4294967296) := by rw [← hY]; exact Fr.num_lt4 _ (by rw [List.length_take, List.length_drop]; omega) (fun c hc => h.1 c (List.mem_of_mem_drop (List.mem_of_mem_take hc)))
  have K3 : Hid (N ≤ m → ∀ w1, Below w.heap.size w w1 → Calls Try.prog 19 #[.slice (some ⟨b, off, none⟩) 4 (k + 8), .slice (some ⟨b, off + 8, none⟩) N N] w1 fun e w' => e = .returned (.int .u32 (X : Int)) ∧ Below w1.heap.size w1 w') := by
    intro hNm w1 hw1
    rw [← hX]
    exact check_any _ _ _ _ _ _ 4 N w1 (hb1.below hw1) (hb3.below hw1) (by rw [List.length_take]; omega) (by rw [List.length_take, List.length_drop]; omega)
  have HL3 : Hid (N ≤ m → ((l.drop 8).take N).length = N) := fun hNm => by rw [List.length_take, List.length_drop]; omega
  have H3 := Lib.hid hb3
  clear hb1 hb2 hb3 hN hX hY h hl hN32
  by_cases hbad : N = 0 ∨ 65536 < N ∨ m < N
  · have HF0 : Hid (Fr.first l = none) := by rw [HF.out]; exact if_pos hbad
    have hcs : N = 0 ∨ (N ≠ 0 ∧ 65536 < N) ∨ (N ≠ 0 ∧ N ≤ 65536 ∧ m < N) := by omega
    clear hbad
    rcases hcs with rfl | ⟨h0, h1⟩ | ⟨h0, h1, h2⟩
    · go_enter Try.func22, Try.ntmps22
      go_wp2
      go_quiet (fail)
      go_wp2_with fail
      refine (K1.out _ (drew_below (Below.refl _ _))).mono ?_
      rintro e w1 ⟨rfl, rfl⟩
      go_wp2
      go_ret
      exact ⟨drew_below (Below.refl _ _), .inl ⟨HF0.out, rfl⟩⟩
    · have d0 : ((N : Int) == 0) = false := by simp; omega
      have d1 : 65536 < (N : Int) := by omega
      clear h0 h1
      go_enter Try.func22, Try.ntmps22
      go_wp2
      go_quiet (fail)
      go_wp2_with fail
      refine (K1.out _ (drew_below (Below.refl _ _))).mono ?_
      rintro e w1 ⟨rfl, rfl⟩
      go_wp2
      go_ret
      exact ⟨drew_below (Below.refl _ _), .inl ⟨HF0.out, rfl⟩⟩
    · have d0 : ((N : Int) == 0) = false := by simp; omega
      have d1 : (N : Int) ≤ 65536 := by omega
      have d2 : (m : Int) < (N : Int) := by omega
      clear h0 h1 h2
      go_enter Try.func22, Try.ntmps22
      go_wp2
      go_quiet (fail)
      go_wp2_with fail
      refine (K1.out _ (drew_below (Below.refl _ _))).mono ?_
      rintro e w1 ⟨rfl, rfl⟩
      go_wp2
      go_ret
      exact ⟨drew_below (Below.refl _ _), .inl ⟨HF0.out, rfl⟩⟩
  · have d0 : ((N : Int) == 0) = false := by simp; omega
    have d1 : (N : Int) ≤ 65536 := by omega
    have d2 : (N : Int) ≤ (m : Int) := by omega
    have d3 : 0 < N := by omega
    have d4 : N ≤ k := by omega
    have hNm : N ≤ m := by omega
    have HK3 := Lib.hid (K3.out hNm)
    have HFF : Hid (Fr.first l = if X = Y then some ((l.drop 8).take N) else none) := by rw [HF.out]; exact if_neg hbad
    have HLL := Lib.hid (HL3.out hNm)
    clear hbad K3 HF HL3 hNm
    by_cases hXY : X = Y
    · subst hXY
      have HS := HFF.out
      rw [if_pos rfl] at HS
      have HSS := Lib.hid HS
      clear HS HFF
      go_enter Try.func22, Try.ntmps22
      go_wp2
      go_quiet (fail)
      go_wp2_with fail
      refine (K1.out _ (drew_below (Below.refl _ _))).mono ?_
      rintro e w1 ⟨rfl, rfl⟩
      go_wp2_with fail
      refine (HK3.out _ (drew_below (Below.refl _ _))).mono ?_
      rintro e w2 ⟨rfl, b2⟩
      have B2 : Hid (Below w.heap.size w w2) := (drew_below (Below.refl _ _)).trans b2
      clear b2
      go_wp2_with fail
      refine (K2.out _ B2.out).mono ?_
      rintro e w3 ⟨rfl, rfl⟩
      go_wp2
      go_ret
      exact ⟨B2.out, .inr ⟨_, _, _, HSS.out, HLL.out, rfl, H3.out⟩⟩
    · have HS := HFF.out
      rw [if_neg hXY] at HS
      have HSS := Lib.hid HS
      have dn : ((X : Int) != (Y : Int)) = true := by simp; omega
      clear HS HFF hXY
      go_enter Try.func22, Try.ntmps22
      go_wp2
      go_quiet (fail)
      go_wp2_with fail
      refine (K1.out _ (drew_below (Below.refl _ _))).mono ?_
      rintro e w1 ⟨rfl, rfl⟩
      go_wp2_with fail
      refine (HK3.out _ (drew_below (Below.refl _ _))).mono ?_
      rintro e w2 ⟨rfl, b2⟩
      have B2 : Hid (Below w.heap.size w w2) := (drew_below (Below.refl _ _)).trans b2
      clear b2
      go_wp2_with fail
      refine (K2.out _ B2.out).mono ?_
      rintro e w3 ⟨rfl, rfl⟩
      go_wp2
      go_ret
      exact ⟨B2.out, .inl ⟨HSS.out, rfl⟩⟩
end Go.Proofs.Ytlnblcgfgkkbhaa
