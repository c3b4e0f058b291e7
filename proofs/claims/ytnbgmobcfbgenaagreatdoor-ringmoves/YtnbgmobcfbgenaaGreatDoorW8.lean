/-
  The contracts of the search for a point, of Owners and Owner. Their conditions: the points, or the ring, lie in memory.
-/
import Derived.Test.YtnbgmobcfbgenaaGreatDoorW7
namespace Go.Proofs.YtnbgmobcfbgenaaGreatDoor
open Go.RowKit Go.Maps
open Go.Sort (grow)

theorem firstC_any (p : Pt) (H : Nat) (w : World) : Calls Tryz.prog 32 #[.agg #[.int .u64 (p.h : Int), .string p.n], .int .u64 (H : Int)] w fun r w' => r = .returned (.int .i64 (cmpU p.h H)) ∧ Below w.heap.size w w' := by
  have C := Lib.hid (fun W => compU_any p.h H W)
  generalize cmpU p.h H = x at C ⊢
  go_enter Tryz.func32, Tryz.ntmps32
  go_wp2_with fail
  refine (C.out _).mono ?_
  rintro r w1 ⟨rfl, rfl⟩
  go_wp2
  go_ret
  exact ⟨rfl, (Below.refl _ _).alloc (Nat.le_refl _) _⟩
def BsRel (H : Nat) (P : List Pt) (n : Nat) (w : World) (s9 s10 : Value) (wr : World) : Prop :=
  ∃ i j : Nat, s9 = .int .i64 (i : Int) ∧ s10 = .int .i64 (j : Int) ∧ i ≤ j ∧ j ≤ n ∧ (∀ p ∈ P.take i, p.h < H) ∧ (∀ p ∈ P.drop j, H ≤ p.h) ∧ Below w.heap.size w wr
theorem half_go (i j : Nat) : ((i : Int) + (j : Int)) / 2 = (((i + j) / 2 : Nat) : Int) := by omega
theorem sorted_lo {P : List Pt} (hs : P.Pairwise fun x y => ptLt y x = false) {H m : Nat} (hm : m < P.length) (h : P[m].h < H) : ∀ p ∈ P.take (m + 1), p.h < H := by
  intro p hp
  obtain ⟨k, hk, rfl⟩ := List.mem_iff_getElem.mp hp
  rw [List.getElem_take]
  have hk2 : k < m + 1 := by rw [List.length_take] at hk; omega
  by_cases e : k = m
  · subst e
    exact h
  · have := (ptLt_no.mp ((List.pairwise_iff_getElem.mp hs) k m (by omega) hm (by omega))).1
    omega
theorem sorted_hi {P : List Pt} (hs : P.Pairwise fun x y => ptLt y x = false) {H m : Nat} (hm : m < P.length) (h : H ≤ P[m].h) : ∀ p ∈ P.drop m, H ≤ p.h := by
  intro p hp
  obtain ⟨k, hk, rfl⟩ := List.mem_iff_getElem.mp hp
  rw [List.getElem_drop]
  have hk2 : m + k < P.length := by rw [List.length_drop] at hk; omega
  by_cases e : k = 0
  · subst e
    exact h
  · have := (ptLt_no.mp ((List.pairwise_iff_getElem.mp hs) m (m + k) hm hk2 (by omega))).1
    omega
def BsPost (H : Nat) (P : List Pt) (w : World) (r : Ending) (w' : World) : Prop := (∃ (f : Nat) (b : Bool), r = .returned (.tuple #[.int .i64 (f : Int), .bool b]) ∧ Splits H P f) ∧ Below w.heap.size w w'
set_option maxHeartbeats 4000000 in
theorem bs_any (P : List Pt) (A : Option Addr) (n c H : Nat) (w : World) (hs : Sl ePt w A P) (hn : P.length = n) (hP : P.Pairwise fun x y => ptLt y x = false) (hn8 : n ≤ 1000) :
    Calls Tryz.prog 31 #[.slice A n c, .int .u64 (H : Int), .func (.func 32) #[] #[]] w (BsPost H P w) := by
  have hnI : (n : Int) ≤ 1000 := by omega
  have HS := Lib.hid hs
  have HN := Lib.hid hn
  have HP := Lib.hid hP
  have H8 := Lib.hid hn8
  clear hs hn hP hn8
  go_enter Tryz.func31, Tryz.ntmps31
  go_wp2
  go_loopw [9, 10] (BsRel H P n w) (fun i j _ => (intOf j).toNat - (intOf i).toNat)
  case atStart => exact ⟨0, n, rfl, rfl, Nat.zero_le _, Nat.le_refl _, by simp, by rw [List.drop_of_length_le (by rw [HN.out]; exact Nat.le_refl _)]; simp, Below.refl _ _⟩
  case round =>
    obtain ⟨i, j, rfl, rfl, hij, hjn, hlo, hhi, hb⟩ := hrel
    have HLO := Lib.hid hlo
    have HHI := Lib.hid hhi
    have HB := Lib.hid hb
    have HIJ := Lib.hid hij
    have HJN := Lib.hid hjn
    clear hlo hhi hb
    by_cases hlt : i < j
    · have hml : (i + j) / 2 < P.length := by rw [HN.out]; omega
      obtain ⟨m, hm⟩ : ∃ m, m = (i + j) / 2 := ⟨_, rfl⟩
      rw [← hm] at hml
      have HM := Lib.hid hm
      have hlti : (i : Int) < (j : Int) := by omega
      have hw1 : wrap64 ((i : Int) + (j : Int)) = (i : Int) + (j : Int) := by unfold wrap64; omega
      have hd : ((i : Int) + (j : Int)) / 2 = (m : Int) := by omega
      have hmn : (m : Int) < (n : Int) := by omega
      have hm0 : (0 : Int) ≤ (m : Int) := by omega
      obtain ⟨b, off, rfl, _, d0, d1⟩ := at_pt (HS.out.below (Nat.le_refl _) HB.out) hml
      have HL := Lib.hid (sorted_lo HP.out (H := H) hml)
      have HG := Lib.hid (sorted_hi HP.out (H := H) hml)
      generalize P[m] = x at d0 d1 HL HG
      have C := Lib.hid (fun W => firstC_any x H W)
      clear hm hml hlt hij hjn
      by_cases hc : x.h < H
      · have hy := (cmpU_neg x.h H).mpr hc
        have HL2 := Lib.hid (HL.out hc)
        generalize cmpU x.h H = y at C hy
        clear hc HL HG
        go_wp2_with fail
        refine (C.out _).mono ?_
        rintro r w1 ⟨rfl, b1⟩
        have HB1 := Lib.hid (HB.out.trans (b1.mono HB.out.size))
        clear b1 d0 d1
        go_wp2
        go_roundw
        case rel => exact ⟨m + 1, j, by go_num, rfl, by omega, HJN.out, HL2.out, HHI.out, HB1.out⟩
        case measure => simp [intOf]; omega
      · have hy : ¬ cmpU x.h H < 0 := fun h => hc ((cmpU_neg _ _).mp h)
        have HG2 := Lib.hid (HG.out (by omega))
        generalize cmpU x.h H = y at C hy
        clear hc HL HG
        go_wp2_with fail
        refine (C.out _).mono ?_
        rintro r w1 ⟨rfl, b1⟩
        have HB1 := Lib.hid (HB.out.trans (b1.mono HB.out.size))
        clear b1 d0 d1
        go_wp2
        go_roundw
        case rel => exact ⟨i, m, rfl, rfl, by omega, by omega, HLO.out, HG2.out, HB1.out⟩
        case measure => simp [intOf]; omega
    · have he : i = j := by omega
      subst he
      have HSP : Hid (Splits H P i) := ⟨by rw [HN.out]; exact HJN.out, HLO.out, HHI.out⟩
      have hlti : ¬ (i : Int) < (i : Int) := by omega
      clear hlt hij hjn
      by_cases hin : i < n
      · have hil : i < P.length := by rw [HN.out]; exact hin
        obtain ⟨b, off, rfl, _, d0, d1⟩ := at_pt (HS.out.below (Nat.le_refl _) HB.out) hil
        generalize P[i] = x at d0 d1
        have C := Lib.hid (fun W => firstC_any x H W)
        generalize cmpU x.h H = y at C
        have hini : (i : Int) < (n : Int) := by omega
        have hi0 : (0 : Int) ≤ (i : Int) := by omega
        clear hil hin
        go_wp2_with fail
        refine (C.out _).mono ?_
        rintro r w1 ⟨rfl, b1⟩
        have HB1 := Lib.hid (HB.out.trans (b1.mono HB.out.size))
        clear b1 d0 d1
        go_wp2
        go_ret2
        exact ⟨⟨i, _, rfl, HSP.out⟩, HB1.out⟩
      · have hini : ¬ (i : Int) < (n : Int) := by omega
        clear hin
        go_wp2
        go_ret2
        exact ⟨⟨i, _, rfl, HSP.out⟩, HB.out⟩
theorem first_any (P : List Pt) (A : Option Addr) (n c H : Nat) (w : World) (hs : Sl ePt w A P) (hn : P.length = n) (hP : P.Pairwise fun x y => ptLt y x = false) (hn8 : n ≤ 1000) :
    Calls Tryz.prog 21 #[.slice A n c, .int .u64 (H : Int)] w fun r w' => r = .returned (.int .i64 (cnt H P : Int)) ∧ Splits H P (cnt H P) ∧ Below w.heap.size w w' := by
  have C := Lib.hid (bs_any P A n c H w hs hn hP hn8)
  clear hs hn hP hn8
  go_enter Tryz.func21, Tryz.ntmps21
  go_wp2_with fail
  refine C.out.mono ?_
  rintro r w1 ⟨⟨f, b, rfl, hf⟩, b1⟩
  have HE : Hid (f = cnt H P) := hf.eq
  have HF := Lib.hid hf
  have HB1 := Lib.hid b1
  clear C b1 hf
  go_wp2
  go_ret
  exact ⟨by rw [← HE.out]; rfl, by rw [← HE.out]; exact HF.out, HB1.out⟩
end Go.Proofs.YtnbgmobcfbgenaaGreatDoor
