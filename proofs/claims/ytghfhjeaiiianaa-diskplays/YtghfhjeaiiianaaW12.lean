/-
  The contract of block. The document's example is answered as it says. Their conditions: none.
-/
import Derived.Test.YtghfhjeaiiianaaW11
namespace Go.Proofs.Ytghfhjeaiiianaa
open Go.RowKit
open Go.Sort (grow)

/-- A Put: where, its first byte, is there a Sync. -/
structure Pt where
  a : Int
  f : UInt8
  s : Bool
def ptV (x : Pt) : Value := .agg #[.int .i64 x.a, .int .u8 (x.f.toNat : Int), .bool x.s]
def blockL (f : UInt8) : List UInt8 := (List.range 64).map fun i => f + UInt8.ofNat i
theorem blockL_length (f : UInt8) : (blockL f).length = 64 := by simp [blockL]
theorem blockL_at (f : UInt8) {k : Nat} (hk : k < 64) : (blockL f)[k]'(by rw [blockL_length]; exact hk) = f + UInt8.ofNat k := by simp [blockL]
/-- What block has laid so far. -/
def half (f : UInt8) (k : Nat) : List UInt8 := (blockL f).take k ++ List.replicate (64 - k) 0
theorem half_length (f : UInt8) {k : Nat} (hk : k ≤ 64) : (half f k).length = 64 := by
  simp [half, blockL_length]
  omega
theorem half_set (f : UInt8) {k : Nat} (hk : k < 64) : (half f k).set k (f + UInt8.ofNat k) = half f (k + 1) := by
  have hl : ((blockL f).take k).length = k := by rw [List.length_take, blockL_length]; omega
  unfold half
  rw [List.set_append_right _ _ (by omega), hl, Nat.sub_self, List.take_succ_eq_append_getElem (by rw [blockL_length]; exact hk), blockL_at f hk]
  have e : 64 - k = (64 - (k + 1)) + 1 := by omega
  rw [e, List.replicate_succ, List.set_cons_zero, List.append_assoc]
  rfl
def BlkAt (w : World) (q : Nat) (l : List UInt8) : Prop := w.heap[q]? = some (.cells (bv l).toArray 5 (0, 0))
theorem BlkAt.cell {w : World} {q : Nat} {l : List UInt8} (h : BlkAt w q l) {k : Nat} (hk : k < l.length) : w.cell? ⟨q, k, none⟩ = some (.int .u8 (l[k].toNat : Int)) := by
  rw [cell_of h]
  simp [bv, hk]
theorem BlkAt.set {w : World} {q : Nat} {l : List UInt8} (h : BlkAt w q l) (k : Nat) (x : UInt8) : BlkAt (w.setCell ⟨q, k, none⟩ (.int .u8 (x.toNat : Int))) q (l.set k x) := by
  unfold BlkAt at h ⊢
  simp [World.setCell, Array.getElem?_modify, h, bv, List.map_set]
theorem run_make64 (w : World) : (Instr.makeSlice 29 (.int .i64 64) (.int .i64 64)).run Try.prog w = .ok (.slice (some ⟨w.heap.size, 0, none⟩) 64 64) (w.alloc (.cells (bv (List.replicate 64 0)).toArray 5)) := by
  obtain ⟨i, hi, hz0, hz1, hz2⟩ := info_parts (P := Try.prog) (e := 5) (z := .int .u8 0) (size := 1) (bytes := 1) (by kernel_rfl)
  have hr := run_make (P := Try.prog) w 29 5 i (.int .u8 0) Try.underlying29 hi hz0 .i64 .i64 64 64 (by omega) (Int.le_refl _) (by rw [hz2]; omega) (by omega)
  rw [hz1] at hr
  rw [hr]
  have e : madeCells (Value.int IntKind.u8 0).cells (Int.toNat 64 * 1) = (bv (List.replicate 64 0)).toArray := by kernel_rfl
  rw [e]
  rfl
set_option maxHeartbeats 4000000 in
theorem block_any (x : Pt) (w : World) : Calls Try.prog 24 #[ptV x] w fun r w' => ∃ q, r = .returned (.slice (some ⟨q, 0, none⟩) 64 64) ∧ BlkAt w' q (blockL x.f) ∧ w.heap.size ≤ q ∧ Below w.heap.size w w' := by
  obtain ⟨a, f, s⟩ := x
  unfold ptV
  simp only
  obtain ⟨y, hy⟩ : ∃ y, y = f.toNat := ⟨_, rfl⟩
  have hyl : y < 256 := by rw [hy]; exact UInt8.toNat_lt _
  rw [← hy]
  obtain ⟨w1, hw1⟩ : ∃ w1, w1 = w.alloc (.cells #[.int .i64 a, .int .u8 (y : Int), .bool s] 56) := ⟨_, rfl⟩
  obtain ⟨w2, hw2⟩ : ∃ w2, w2 = w1.alloc (.cells (bv (List.replicate 64 0)).toArray 5) := ⟨_, rfl⟩
  have b1 : Below w.heap.size w w1 := by rw [hw1]; exact Below.alloc (Below.refl _ _) (Nat.le_refl _) _
  have x1 : w1.heap[w.heap.size]? = some (.cells #[.int .i64 a, .int .u8 (y : Int), .bool s] 56 (0, 0)) := by rw [hw1]; exact heap_new _ _
  have b2 : Below w1.heap.size w1 w2 := by rw [hw2]; exact Below.alloc (Below.refl _ _) (Nat.le_refl _) _
  have k2 : BlkAt w2 w1.heap.size (half f 0) := by rw [hw2]; exact heap_new _ _
  have x2 := (b2.block _ (lt_of_heap x1)).trans x1
  have hm : (Instr.makeSlice 29 (.int .i64 64) (.int .i64 64)).run Try.prog w1 = .ok (.slice (some ⟨w1.heap.size, 0, none⟩) 64 64) w2 := by rw [hw2]; exact run_make64 w1
  obtain ⟨q, hq⟩ : ∃ q, q = w1.heap.size := ⟨_, rfl⟩
  rw [← hq] at k2 hm
  rw [hw1] at hm
  have HQ : Hid (w.heap.size ≤ q) := by rw [hq]; exact b1.size
  have HB2 : Hid (Below w.heap.size w w2) := b1.trans (b2.mono b1.size)
  have HX2 := Lib.hid x2
  have HK2 := Lib.hid k2
  have HY := Lib.hid hy
  have hy1 : (y : Int) ≤ 255 := by omega
  have hy0 : (0 : Int) ≤ (y : Int) := by omega
  clear hw1 hw2 b1 x1 b2 x2 k2 hq hy hyl
  go_enter Try.func24, Try.ntmps24
  go_wp2
  go_loopw [8] (fun s8 wr => ∃ k : Nat, k ≤ 64 ∧ s8 = .int .i64 (k : Int) ∧ BlkAt wr q (half f k) ∧ Below w.heap.size w wr ∧ wr.heap[w.heap.size]? = some (.cells #[.int .i64 a, .int .u8 (y : Int), .bool s] 56 (0, 0))) (fun s _ => 64 - (intOf s).toNat)
  case atStart => exact ⟨0, Nat.zero_le _, rfl, HK2.out, HB2.out, HX2.out⟩
  case round =>
    obtain ⟨k, hk, rfl, hr, hb, hx⟩ := hrel
    by_cases hlt : k < 64
    · have hlti : (k : Int) < 64 := by omega
      have hk0 : (0 : Int) ≤ (k : Int) := by omega
      have c1 : wr.cell? ⟨w.heap.size, 1, none⟩ = some (.int .u8 (y : Int)) := by rw [cell_of hx]; rfl
      obtain ⟨cv, cq⟩ : ∃ cv : Int, wr.cell? ⟨q, k, none⟩ = some (.int .u8 cv) := ⟨_, hr.cell (k := k) (by rw [half_length f hk]; exact hlt)⟩
      have fz : wr.frozen? ⟨q, k, none⟩ = false := by simp [World.frozen?, show wr.heap[q]? = _ from hr]
      have hs := hr.set k (f + UInt8.ofNat k)
      rw [half_set f hlt] at hs
      have hw1 : IntKind.u8.wrap (k : Int) = (k : Int) := by show ((k : Int) % 256) = _; omega
      obtain ⟨z, hz⟩ : ∃ z : Nat, z = (f + UInt8.ofNat k).toNat := ⟨_, rfl⟩
      have hw2 : IntKind.u8.wrap ((y : Int) + (k : Int)) = (z : Int) := by
        rw [hz, UInt8.toNat_add, UInt8.toNat_ofNat', ← HY.out]
        show (((y : Int) + (k : Int)) % 256) = _
        omega
      rw [← hz] at hs
      have hne : q ≠ w.heap.size := by
        rintro rfl
        rw [show wr.heap[w.heap.size]? = _ from hr] at hx
        injection hx with hx
        injection hx with _ h2
        exact absurd h2 (by decide)
      have hx3 : (wr.setCell ⟨q, k, none⟩ (.int .u8 (z : Int))).heap[w.heap.size]? = some (.cells #[.int .i64 a, .int .u8 (y : Int), .bool s] 56 (0, 0)) := by rw [Below.heap_setCell _ _ _ _ (by simpa using Ne.symm hne)]; exact hx
      have hb3 : Below w.heap.size w (wr.setCell ⟨q, k, none⟩ (.int .u8 (z : Int))) := hb.setCell HQ.out _
      have HS := Lib.hid hs
      have HB3 := Lib.hid hb3
      have HX3 := Lib.hid hx3
      have HK : Hid (k + 1 ≤ 64) := hlt
      clear hr hb hx hs hz hne hx3 hb3 hlt hk
      go_wp2
      go_roundw
      case rel => exact ⟨k + 1, HK.out, by go_num, HS.out, HB3.out, HX3.out⟩
      case measure => simp [intOf]; omega
    · have hlti : ¬ (k : Int) < 64 := by omega
      have e : half f k = blockL f := by
        have : k = 64 := by omega
        subst this
        unfold half
        rw [List.take_of_length_le (by rw [blockL_length]; omega)]
        simp
      rw [e] at hr
      have HR := Lib.hid hr
      have HB := Lib.hid hb
      clear hr hb hx hk hlt e
      go_wp2
      go_ret
      exact ⟨q, rfl, HR.out, HQ.out, HB.out⟩
end Go.Proofs.Ytghfhjeaiiianaa
