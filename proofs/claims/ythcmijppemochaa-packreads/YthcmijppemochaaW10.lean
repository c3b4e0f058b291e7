/-
  The walk of PackFaults. Its conditions: the bytes take at most 2^47 bytes, as every slice that is read does.
-/
import Derived.Test.YthcmijppemochaaW9
namespace Go.Proofs.Ythcmijppemochaa
open Go.RowKit

theorem Only.below_new {w w1 w2 : World} {g B : Nat} (h : Only (fun k => k = g) w1 w2) (hb : Below B w w1) (hg : B ≤ g) (hB : B ≤ w.heap.size) : Below B w w2 :=
  hb.trans (h.below (Nat.le_trans hB hb.size) (fun k _ hk => by rw [hk]; exact hg))
theorem rcount_minus (L : List Nat) : Pk.rcount (some L) (-1) = (0, none) := by
  rw [rcount_eq]
  by_cases h : (-1 : Int) < ((numS (some L)).1 : Int)
  · rw [if_pos h]
  · omega
theorem rtext_minus (L : List Nat) : Pk.rtext (some L) (-1) = ([], none) := by
  unfold Pk.rtext
  rw [rcount_minus]
  rfl
theorem text_empty : textOf [] = ⟨#[]⟩ := rfl
theorem fault_text (g r : Nat) (L : List Nat) (w : World) (h : RS w g r (some L)) :
    Calls Try.prog 22 #[.pointer (some ⟨g, 0, none⟩), .int .i64 (-1)] w (RPost w g r (.string ⟨#[]⟩) none) := by
  have := rtext_any g r (some L) (-1) w h
  rw [rtext_minus] at this
  exact this
theorem fault_num (g r : Nat) (w : World) (h : RS w g r none) : Calls Try.prog 18 #[.pointer (some ⟨g, 0, none⟩)] w (RPost w g r (.int .i64 0) none) := rnum_any g r none w h
theorem fault_flag (g r : Nat) (w : World) (h : RS w g r none) : Calls Try.prog 20 #[.pointer (some ⟨g, 0, none⟩)] w (RPost w g r (.bool false) none) := rflag_any g r none w h
theorem fault_text2 (g r : Nat) (m : Int) (w : World) (h : RS w g r none) : Calls Try.prog 22 #[.pointer (some ⟨g, 0, none⟩), .int .i64 m] w (RPost w g r (.string ⟨#[]⟩) none) := rtext_any g r none m w h
theorem fault_count (g r : Nat) (m : Int) (w : World) (h : RS w g r none) : Calls Try.prog 24 #[.pointer (some ⟨g, 0, none⟩), .int .i64 m] w (RPost w g r (.int .i64 0) none) := count_any g r none m w h
theorem fault_end (g r : Nat) (w : World) (h : RS w g r none) : Calls Try.prog 25 #[.pointer (some ⟨g, 0, none⟩)] w fun e w' => e = .returned (.int .i64 2) ∧ w = w' := rend_any g r none w h

def FaultRel (w2 : World) (g r : Nat) (n : Nat) (i : Value) (wr : World) : Prop := ∃ k : Nat, k ≤ n ∧ k ≤ 100 ∧ i = .int .i64 (k : Int) ∧ RS wr g r none ∧ Only (fun k => k = g) w2 wr
set_option maxHeartbeats 1000000 in
set_option maxRecDepth 100000 in
theorem faults_walk (l q : List Nat) (A B : Option Addr) (c d : Nat) (w : World) (hb : Bytes w A l) (hA : A = none → c = 0) (hm : l.length ≤ 140737488355328) (hq : Bytes w B q) :
    Calls Try.prog 8 #[.slice A l.length c, .slice B q.length d] w fun e w' => e = .returned (.bool true) ∧ Below w.heap.size w w' := by
  have HA := Lib.hid hb
  have HN := Lib.hid hA
  have HM := Lib.hid hm
  have HQ := Lib.hid hq
  clear hb hA hm hq
  go_enter Try.func8, Try.ntmps8
  go_wp2_with (go_at_call 9; refine (awake_any _).mono ?_; rintro e w1 ⟨rfl, hb⟩; have HB := Lib.hid hb; clear hb; have HR := Lib.hid (read_any l A c w1 (HA.out.below HB.out) HN.out HM.out))
  refine HR.out.mono ?_
  rintro e w2 ⟨r, rfl, hs2, hb2, hr2⟩
  have K1 := Lib.hid (fault_text w1.heap.size r l w2 hs2)
  have HB2 := Lib.hid hb2
  have Q2 := Lib.hid ((HQ.out.below HB.out).below hb2)
  have HR2 := Lib.hid hr2
  have HLT := Lib.hid hs2.lt
  clear hs2 hb2 hr2
  go_wp2_with fail
  refine K1.out.mono ?_
  rintro e w3 ⟨rfl, hs3, ho3⟩
  have HS3 := Lib.hid hs3
  have HO3 := Lib.hid ho3
  clear hs3 ho3
  have HW2 : Hid (Below w.heap.size w w2) := HB.out.trans (HB2.out.mono HB.out.size)
  go_wp2_with fail
  go_loopw [6] (FaultRel w2 w1.heap.size r q.length) (fun i _ => 100 - (intOf i).toNat)
  case atStart => exact ⟨0, Nat.zero_le _, by omega, rfl, HS3.out, HO3.out⟩
  case round =>
    obtain ⟨k, hk, hk1, rfl, hs, ho⟩ := hrel
    have HS := Lib.hid hs
    have HO := Lib.hid ho
    have HWR := Lib.hid (ho.below_new HW2.out HB.out.size (Nat.le_refl _))
    clear hs ho
    by_cases hlt : k < q.length ∧ (k : Int) < 100
    · obtain ⟨h1, h2⟩ := hlt
      have hz : (0 : Int) ≤ (k : Int) := by omega
      have C1 := Lib.hid (fault_num w1.heap.size r wr HS.out)
      go_wp2_with fail
      refine C1.out.mono ?_
      rintro e x1 ⟨rfl, ts1, to1⟩
      have TO1 := Lib.hid (HO.out.same to1)
      have C2 := Lib.hid (fault_flag w1.heap.size r x1 ts1)
      clear ts1 to1
      go_wp2_with fail
      refine C2.out.mono ?_
      rintro e x2 ⟨rfl, ts2, to2⟩
      have TO2 := Lib.hid (TO1.out.same to2)
      obtain ⟨b, off, rfl, hcell, hcl⟩ := (HQ.out.below (TO2.out.below_new HW2.out HB.out.size (Nat.le_refl _))).at_ h1
      obtain ⟨y, hy⟩ : ∃ y, q[k] = y := ⟨_, rfl⟩
      rw [hy] at hcell hcl
      have C3 := Lib.hid (fault_text2 w1.heap.size r (y : Int) x2 ts2)
      have HY := Lib.hid hy
      clear ts2 to2 hy
      go_wp2_with fail
      refine C3.out.mono ?_
      rintro e x3 ⟨rfl, ts3, to3⟩
      have TO3 := Lib.hid (TO2.out.same to3)
      have C4 := Lib.hid (fault_count w1.heap.size r (y : Int) x3 ts3)
      clear hcell
      have hcell : x3.cell? ⟨b, off + k, none⟩ = some (.int .u8 (y : Int)) := by
        obtain ⟨b2, off2, e2, hc2, _⟩ := (HQ.out.below (TO3.out.below_new HW2.out HB.out.size (Nat.le_refl _))).at_ h1
        injection e2 with e2
        injection e2 with e3 e4
        subst e3 e4
        rw [hc2, HY.out]
      clear ts3 to3
      go_wp2_with fail
      refine C4.out.mono ?_
      rintro e x4 ⟨rfl, ts4, to4⟩
      have TS4 := Lib.hid ts4
      have TO4 := Lib.hid (TO3.out.same to4)
      clear ts4 to4
      go_wp2
      go_roundw
      case rel => exact ⟨k + 1, by omega, by omega, by go_num, TS4.out, TO4.out⟩
      case measure => simp [intOf]; omega
    · have C5 := Lib.hid (fault_end w1.heap.size r wr HS.out)
      have hc : ¬ k < q.length ∨ (k < q.length ∧ ¬ (k : Int) < 100) := by omega
      clear hlt
      rcases hc with h1 | ⟨h1, h2⟩
      all_goals
        go_wp2_with fail
        refine C5.out.mono ?_
        rintro e x1 ⟨rfl, rfl⟩
        go_wp2_with fail
        refine C5.out.mono ?_
        rintro e x1 ⟨rfl, rfl⟩
        go_wp2
        go_ret
        exact ⟨rfl, HWR.out⟩
end Go.Proofs.Ythcmijppemochaa
