/-
  The contract of sector. Its conditions: a part's bytes lie in memory.
-/
import Derived.Test.YtppdckncnfffcaaJ3
namespace Go.Proofs.Ytppdckncnfffcaa
open Go.RowKit
set_option maxRecDepth 100000

set_option maxHeartbeats 4000000 in
theorem sector_any (p : Pt) (k : Nat) (A : Option Addr) (n c : Nat) (w : World) (hn : p.bs.length = n) (hk : p.rn = (k : Int)) (h47 : n ≤ 47) (hs : Sl eBy w A p.bs) (hA : A = none → c = 0) :
    Calls Try.prog 48 #[ptV p A n c] w fun r w' => r = .returned (secV (ptS p)) ∧ Below w.heap.size w w' := by
  unfold ptV
  go_enter Try.func48, Try.ntmps48
  obtain ⟨b, hb⟩ : ∃ b, b = w.heap.size := ⟨_, rfl⟩
  obtain ⟨W, hW⟩ : ∃ W, W = ((w.alloc (.cells (ptC p A n c) 101)).alloc (.cells (eSec.f zs).toArray 89)).alloc (.cells (eSec.f zs).toArray 89) := ⟨_, rfl⟩
  have HI : Hid (SecI w W b p A n c zs.v) := by
    have n1 := by_new (w.alloc (.cells (ptC p A n c) 101)) zs 89
    have n2 := by_new ((w.alloc (.cells (ptC p A n c) 101)).alloc (.cells (eSec.f zs).toArray 89)) zs 89
    simp only [World.size_alloc] at n1 n2
    refine ⟨?_, ?_, ?_, ?_, hb⟩
    · rw [hW, hb]
      exact (heap_old _ _ (by simp; omega)).trans ((heap_old _ _ (by simp)).trans (heap_new _ _))
    · rw [hW, hb]
      exact n1.below (Below.alloc (Below.refl _ _) (Nat.le_refl _) _)
    · rw [hW, hb]
      exact n2
    · rw [hW]
      exact (((Below.refl _ w).alloc (Nat.le_refl _) _).alloc (by simp) _).alloc (by simp; omega) _
  go_wp2_with (first | (refine wpList_value rfl (exec_alloc rfl (run_alloc89 _)) ?_))
  try simp only [Act.put, List.setIfInBounds_toArray, List.set_cons_zero, List.set_cons_succ, World.size_alloc]
  rw [← hW]
  try simp only [← hb]
  rw [show b + 1 + 1 = b + 2 from rfl]
  have HK := Lib.hid hk
  have HH := Lib.hid hs
  have HW := Lib.hid hW
  have L0 : Hid (zs.v.length = 64) := zs.h
  obtain ⟨X0, hX0⟩ : ∃ X, X = zs.v := ⟨_, rfl⟩
  rw [← hX0] at HI L0
  have HI0 := HI
  obtain ⟨X1, HX1⟩ : ∃ X, Hid (X = ovr X0 0 (dig 4 p.lap)) := ⟨_, rfl⟩
  obtain ⟨X2, HX2⟩ : ∃ X, Hid (X = ovr X1 4 (dig 4 k)) := ⟨_, rfl⟩
  obtain ⟨X3, HX3⟩ : ∃ X, Hid (X = ovr X2 8 (dig 2 p.num)) := ⟨_, rfl⟩
  obtain ⟨X4, HX4⟩ : ∃ X, Hid (X = ovr X3 10 (dig 2 p.of)) := ⟨_, rfl⟩
  obtain ⟨X5, HX5⟩ : ∃ X, Hid (X = X4.set 12 (UInt8.ofNat p.bs.length)) := ⟨_, rfl⟩
  obtain ⟨X6, HX6⟩ : ∃ X, Hid (X = ovr X5 13 p.bs) := ⟨_, rfl⟩
  obtain ⟨X7, HX7⟩ : ∃ X, Hid (X = ovr X6 60 (dig 4 p.lap)) := ⟨_, rfl⟩
  have L1 : Hid (X1.length = 64) := by show _ = _; rw [HX1.out, ovr_length (by rw [dig_length, L0.out]; decide), L0.out]
  have L2 : Hid (X2.length = 64) := by show _ = _; rw [HX2.out, ovr_length (by rw [dig_length, L1.out]; decide), L1.out]
  have L3 : Hid (X3.length = 64) := by show _ = _; rw [HX3.out, ovr_length (by rw [dig_length, L2.out]; decide), L2.out]
  have L4 : Hid (X4.length = 64) := by show _ = _; rw [HX4.out, ovr_length (by rw [dig_length, L3.out]; decide), L3.out]
  have L5 : Hid (X5.length = 64) := by show _ = _; rw [HX5.out, List.length_set, L4.out]
  have L6 : Hid (X6.length = 64) := by show _ = _; rw [HX6.out, ovr_length (by rw [L5.out, hn]; omega), L5.out]
  have HN := Lib.hid hn
  have HX0 : Hid (X0 = List.replicate 64 0) := hX0
  clear hs hk HI hW hb hX0 hn
  refine wp_region_held_drew (S := fun w' => w'.heap[b]? = some (.cells (ptC p A n c) 101 (0, 0))) (by kernel_rfl) (HI0.out.box) (fun hHeld => ?_)
  refine wpAnyH_take (i := 0) (oi := { dst := some 4, op := Op.slice 89 (Operand.tmp 3) (some (Operand.const (Value.int IntKind.i64 0))) (some (Operand.const (Value.int IntKind.i64 4))) none, type := 38, pos := "part.go:58", after := #[], guard := none }) (v := ?v2n1) rfl (by kernel_rfl) (by kernel_rfl) (by kernel_rfl) (fun _ _ _ h => h) (Or.inl ⟨by rfl, ?hy2n1⟩) (by assumption) ?rest2n1
  case hy2n1 => (intro w hSw; (try dsimp only at hSw); have q0 := cell_of (o := 0) hSw; have q1 := cell_of (o := 1) hSw; have q2 := cell_of (o := 2) hSw; have q3 := cell_of (o := 3) hSw; have q4 := cell_of (o := 4) hSw; dsimp only [ptC] at q0 q1 q2 q3 q4; go_simp <;> (try with_reducible rfl))
  try simp only [Act.put, List.setIfInBounds_toArray, List.set_cons_zero, List.set_cons_succ]
  refine wpAnyH_take (i := 1) (oi := { dst := some 5, op := Op.fieldAddr 101 (Operand.tmp 1) 0, type := 0, pos := "part.go:58", after := #[], guard := none }) (v := ?v2n2) rfl (by kernel_rfl) (by kernel_rfl) (by kernel_rfl) (fun _ _ _ h => h) (Or.inl ⟨by rfl, ?hy2n2⟩) (by assumption) ?rest2n2
  case hy2n2 => (intro w hSw; (try dsimp only at hSw); have q0 := cell_of (o := 0) hSw; have q1 := cell_of (o := 1) hSw; have q2 := cell_of (o := 2) hSw; have q3 := cell_of (o := 3) hSw; have q4 := cell_of (o := 4) hSw; dsimp only [ptC] at q0 q1 q2 q3 q4; go_simp <;> (try with_reducible rfl))
  try simp only [Act.put, List.setIfInBounds_toArray, List.set_cons_zero, List.set_cons_succ]
  refine wpAnyH_take (i := 2) (oi := { dst := some 6, op := Op.load 3 (Operand.tmp 5), type := 3, pos := "part.go:58", after := #[{ on := 1, ground := Ground.data }], guard := none }) (v := ?v2n3) rfl (by kernel_rfl) (by kernel_rfl) (by kernel_rfl) (fun _ _ _ h => h) (Or.inl ⟨by rfl, ?hy2n3⟩) (by assumption) ?rest2n3
  case hy2n3 => (intro w hSw; (try dsimp only at hSw); have q0 := cell_of (o := 0) hSw; have q1 := cell_of (o := 1) hSw; have q2 := cell_of (o := 2) hSw; have q3 := cell_of (o := 3) hSw; have q4 := cell_of (o := 4) hSw; dsimp only [ptC] at q0 q1 q2 q3 q4; go_simp <;> (try with_reducible rfl))
  try simp only [Act.put, List.setIfInBounds_toArray, List.set_cons_zero, List.set_cons_succ]
  refine wpAnyH_ready (rs := [3]) (by kernel_rfl) (by simp) ?_
  refine AllReadyH.cons (o := { dst := some 7, op := Op.call { callee := Callee.value (Operand.func 54), args := #[Operand.tmp 4, Operand.tmp 6], argTypes := #[38, 3] }, type := 0, pos := "part.go:58", after := #[{ on := 0, ground := Ground.data }, { on := 2, ground := Ground.data }], guard := none }) rfl (fun K hK => ?_) AllReadyH.nil
  go_simp
  (try rw [HK.out])
  refine (put_any (b + 2) 0 4 64 89 (p.lap) X0 _ w.heap.size (HI0.out.by_.below (Below.refl _ _).drew) (by rw [L0.out]; decide) (by decide) HI0.out.b2).mono ?_
  rintro r w1 ⟨⟨v, rfl⟩, hx, hf⟩
  have HI1 : Hid (SecI w w1 b p A n c X1) := by rw [HX1.out]; exact (HI0.out.below (Below.refl _ _).drew).step hf hx
  clear hx hf
  dsimp only
  refine hK.out _ _ (HI1.out.box) (fun hHeld => ?_)
  clear hK K
  try simp only [Act.put, List.setIfInBounds_toArray, List.set_cons_zero, List.set_cons_succ]
  refine wpAnyH_done (by kernel_rfl) ?_ _
  go_wp2_with fail
  refine wp_region_held_drew (S := fun w' => w'.heap[b]? = some (.cells (ptC p A n c) 101 (0, 0))) (by kernel_rfl) (HI1.out.box) (fun hHeld => ?_)
  refine wpAnyH_take (i := 0) (oi := { dst := some 8, op := Op.slice 89 (Operand.tmp 3) (some (Operand.const (Value.int IntKind.i64 4))) (some (Operand.const (Value.int IntKind.i64 8))) none, type := 38, pos := "part.go:59", after := #[], guard := none }) (v := ?v3n1) rfl (by kernel_rfl) (by kernel_rfl) (by kernel_rfl) (fun _ _ _ h => h) (Or.inl ⟨by rfl, ?hy3n1⟩) (by assumption) ?rest3n1
  case hy3n1 => (intro w hSw; (try dsimp only at hSw); have q0 := cell_of (o := 0) hSw; have q1 := cell_of (o := 1) hSw; have q2 := cell_of (o := 2) hSw; have q3 := cell_of (o := 3) hSw; have q4 := cell_of (o := 4) hSw; dsimp only [ptC] at q0 q1 q2 q3 q4; go_simp <;> (try with_reducible rfl))
  try simp only [Act.put, List.setIfInBounds_toArray, List.set_cons_zero, List.set_cons_succ]
  refine wpAnyH_take (i := 1) (oi := { dst := some 9, op := Op.fieldAddr 101 (Operand.tmp 1) 1, type := 0, pos := "part.go:59", after := #[], guard := none }) (v := ?v3n2) rfl (by kernel_rfl) (by kernel_rfl) (by kernel_rfl) (fun _ _ _ h => h) (Or.inl ⟨by rfl, ?hy3n2⟩) (by assumption) ?rest3n2
  case hy3n2 => (intro w hSw; (try dsimp only at hSw); have q0 := cell_of (o := 0) hSw; have q1 := cell_of (o := 1) hSw; have q2 := cell_of (o := 2) hSw; have q3 := cell_of (o := 3) hSw; have q4 := cell_of (o := 4) hSw; dsimp only [ptC] at q0 q1 q2 q3 q4; go_simp <;> (try with_reducible rfl))
  try simp only [Act.put, List.setIfInBounds_toArray, List.set_cons_zero, List.set_cons_succ]
  refine wpAnyH_take (i := 2) (oi := { dst := some 10, op := Op.load 3 (Operand.tmp 9), type := 3, pos := "part.go:59", after := #[{ on := 1, ground := Ground.data }], guard := none }) (v := ?v3n3) rfl (by kernel_rfl) (by kernel_rfl) (by kernel_rfl) (fun _ _ _ h => h) (Or.inl ⟨by rfl, ?hy3n3⟩) (by assumption) ?rest3n3
  case hy3n3 => (intro w hSw; (try dsimp only at hSw); have q0 := cell_of (o := 0) hSw; have q1 := cell_of (o := 1) hSw; have q2 := cell_of (o := 2) hSw; have q3 := cell_of (o := 3) hSw; have q4 := cell_of (o := 4) hSw; dsimp only [ptC] at q0 q1 q2 q3 q4; go_simp <;> (try with_reducible rfl))
  try simp only [Act.put, List.setIfInBounds_toArray, List.set_cons_zero, List.set_cons_succ]
  refine wpAnyH_ready (rs := [3]) (by kernel_rfl) (by simp) ?_
  refine AllReadyH.cons (o := { dst := some 11, op := Op.call { callee := Callee.value (Operand.func 54), args := #[Operand.tmp 8, Operand.tmp 10], argTypes := #[38, 3] }, type := 0, pos := "part.go:59", after := #[{ on := 0, ground := Ground.data }, { on := 2, ground := Ground.data }], guard := none }) rfl (fun K hK => ?_) AllReadyH.nil
  go_simp
  (try rw [HK.out])
  refine (put_any (b + 2) 4 4 60 89 (k) X1 _ w.heap.size (HI1.out.by_.below (Below.refl _ _).drew) (by rw [L1.out]; decide) (by decide) HI1.out.b2).mono ?_
  rintro r w2 ⟨⟨v, rfl⟩, hx, hf⟩
  have HI2 : Hid (SecI w w2 b p A n c X2) := by rw [HX2.out]; exact (HI1.out.below (Below.refl _ _).drew).step hf hx
  clear hx hf
  dsimp only
  refine hK.out _ _ (HI2.out.box) (fun hHeld => ?_)
  clear hK K
  try simp only [Act.put, List.setIfInBounds_toArray, List.set_cons_zero, List.set_cons_succ]
  refine wpAnyH_done (by kernel_rfl) ?_ _
  go_wp2_with fail
  refine wp_region_held_drew (S := fun w' => w'.heap[b]? = some (.cells (ptC p A n c) 101 (0, 0))) (by kernel_rfl) (HI2.out.box) (fun hHeld => ?_)
  refine wpAnyH_take (i := 0) (oi := { dst := some 12, op := Op.slice 89 (Operand.tmp 3) (some (Operand.const (Value.int IntKind.i64 8))) (some (Operand.const (Value.int IntKind.i64 10))) none, type := 38, pos := "part.go:60", after := #[], guard := none }) (v := ?v4n1) rfl (by kernel_rfl) (by kernel_rfl) (by kernel_rfl) (fun _ _ _ h => h) (Or.inl ⟨by rfl, ?hy4n1⟩) (by assumption) ?rest4n1
  case hy4n1 => (intro w hSw; (try dsimp only at hSw); have q0 := cell_of (o := 0) hSw; have q1 := cell_of (o := 1) hSw; have q2 := cell_of (o := 2) hSw; have q3 := cell_of (o := 3) hSw; have q4 := cell_of (o := 4) hSw; dsimp only [ptC] at q0 q1 q2 q3 q4; go_simp <;> (try with_reducible rfl))
  try simp only [Act.put, List.setIfInBounds_toArray, List.set_cons_zero, List.set_cons_succ]
  refine wpAnyH_take (i := 1) (oi := { dst := some 13, op := Op.fieldAddr 101 (Operand.tmp 1) 2, type := 0, pos := "part.go:60", after := #[], guard := none }) (v := ?v4n2) rfl (by kernel_rfl) (by kernel_rfl) (by kernel_rfl) (fun _ _ _ h => h) (Or.inl ⟨by rfl, ?hy4n2⟩) (by assumption) ?rest4n2
  case hy4n2 => (intro w hSw; (try dsimp only at hSw); have q0 := cell_of (o := 0) hSw; have q1 := cell_of (o := 1) hSw; have q2 := cell_of (o := 2) hSw; have q3 := cell_of (o := 3) hSw; have q4 := cell_of (o := 4) hSw; dsimp only [ptC] at q0 q1 q2 q3 q4; go_simp <;> (try with_reducible rfl))
  try simp only [Act.put, List.setIfInBounds_toArray, List.set_cons_zero, List.set_cons_succ]
  refine wpAnyH_take (i := 2) (oi := { dst := some 14, op := Op.load 3 (Operand.tmp 13), type := 3, pos := "part.go:60", after := #[{ on := 1, ground := Ground.data }], guard := none }) (v := ?v4n3) rfl (by kernel_rfl) (by kernel_rfl) (by kernel_rfl) (fun _ _ _ h => h) (Or.inl ⟨by rfl, ?hy4n3⟩) (by assumption) ?rest4n3
  case hy4n3 => (intro w hSw; (try dsimp only at hSw); have q0 := cell_of (o := 0) hSw; have q1 := cell_of (o := 1) hSw; have q2 := cell_of (o := 2) hSw; have q3 := cell_of (o := 3) hSw; have q4 := cell_of (o := 4) hSw; dsimp only [ptC] at q0 q1 q2 q3 q4; go_simp <;> (try with_reducible rfl))
  try simp only [Act.put, List.setIfInBounds_toArray, List.set_cons_zero, List.set_cons_succ]
  refine wpAnyH_ready (rs := [3]) (by kernel_rfl) (by simp) ?_
  refine AllReadyH.cons (o := { dst := some 15, op := Op.call { callee := Callee.value (Operand.func 54), args := #[Operand.tmp 12, Operand.tmp 14], argTypes := #[38, 3] }, type := 0, pos := "part.go:60", after := #[{ on := 0, ground := Ground.data }, { on := 2, ground := Ground.data }], guard := none }) rfl (fun K hK => ?_) AllReadyH.nil
  go_simp
  (try rw [HK.out])
  refine (put_any (b + 2) 8 2 56 89 (p.num) X2 _ w.heap.size (HI2.out.by_.below (Below.refl _ _).drew) (by rw [L2.out]; decide) (by decide) HI2.out.b2).mono ?_
  rintro r w3 ⟨⟨v, rfl⟩, hx, hf⟩
  have HI3 : Hid (SecI w w3 b p A n c X3) := by rw [HX3.out]; exact (HI2.out.below (Below.refl _ _).drew).step hf hx
  clear hx hf
  dsimp only
  refine hK.out _ _ (HI3.out.box) (fun hHeld => ?_)
  clear hK K
  try simp only [Act.put, List.setIfInBounds_toArray, List.set_cons_zero, List.set_cons_succ]
  refine wpAnyH_done (by kernel_rfl) ?_ _
  go_wp2_with fail
  refine wp_region_held_drew (S := fun w' => w'.heap[b]? = some (.cells (ptC p A n c) 101 (0, 0))) (by kernel_rfl) (HI3.out.box) (fun hHeld => ?_)
  refine wpAnyH_take (i := 0) (oi := { dst := some 16, op := Op.slice 89 (Operand.tmp 3) (some (Operand.const (Value.int IntKind.i64 10))) (some (Operand.const (Value.int IntKind.i64 12))) none, type := 38, pos := "part.go:61", after := #[], guard := none }) (v := ?v5n1) rfl (by kernel_rfl) (by kernel_rfl) (by kernel_rfl) (fun _ _ _ h => h) (Or.inl ⟨by rfl, ?hy5n1⟩) (by assumption) ?rest5n1
  case hy5n1 => (intro w hSw; (try dsimp only at hSw); have q0 := cell_of (o := 0) hSw; have q1 := cell_of (o := 1) hSw; have q2 := cell_of (o := 2) hSw; have q3 := cell_of (o := 3) hSw; have q4 := cell_of (o := 4) hSw; dsimp only [ptC] at q0 q1 q2 q3 q4; go_simp <;> (try with_reducible rfl))
  try simp only [Act.put, List.setIfInBounds_toArray, List.set_cons_zero, List.set_cons_succ]
  refine wpAnyH_take (i := 1) (oi := { dst := some 17, op := Op.fieldAddr 101 (Operand.tmp 1) 3, type := 0, pos := "part.go:61", after := #[], guard := none }) (v := ?v5n2) rfl (by kernel_rfl) (by kernel_rfl) (by kernel_rfl) (fun _ _ _ h => h) (Or.inl ⟨by rfl, ?hy5n2⟩) (by assumption) ?rest5n2
  case hy5n2 => (intro w hSw; (try dsimp only at hSw); have q0 := cell_of (o := 0) hSw; have q1 := cell_of (o := 1) hSw; have q2 := cell_of (o := 2) hSw; have q3 := cell_of (o := 3) hSw; have q4 := cell_of (o := 4) hSw; dsimp only [ptC] at q0 q1 q2 q3 q4; go_simp <;> (try with_reducible rfl))
  try simp only [Act.put, List.setIfInBounds_toArray, List.set_cons_zero, List.set_cons_succ]
  refine wpAnyH_take (i := 2) (oi := { dst := some 18, op := Op.load 3 (Operand.tmp 17), type := 3, pos := "part.go:61", after := #[{ on := 1, ground := Ground.data }], guard := none }) (v := ?v5n3) rfl (by kernel_rfl) (by kernel_rfl) (by kernel_rfl) (fun _ _ _ h => h) (Or.inl ⟨by rfl, ?hy5n3⟩) (by assumption) ?rest5n3
  case hy5n3 => (intro w hSw; (try dsimp only at hSw); have q0 := cell_of (o := 0) hSw; have q1 := cell_of (o := 1) hSw; have q2 := cell_of (o := 2) hSw; have q3 := cell_of (o := 3) hSw; have q4 := cell_of (o := 4) hSw; dsimp only [ptC] at q0 q1 q2 q3 q4; go_simp <;> (try with_reducible rfl))
  try simp only [Act.put, List.setIfInBounds_toArray, List.set_cons_zero, List.set_cons_succ]
  refine wpAnyH_ready (rs := [3]) (by kernel_rfl) (by simp) ?_
  refine AllReadyH.cons (o := { dst := some 19, op := Op.call { callee := Callee.value (Operand.func 54), args := #[Operand.tmp 16, Operand.tmp 18], argTypes := #[38, 3] }, type := 0, pos := "part.go:61", after := #[{ on := 0, ground := Ground.data }, { on := 2, ground := Ground.data }], guard := none }) rfl (fun K hK => ?_) AllReadyH.nil
  go_simp
  (try rw [HK.out])
  refine (put_any (b + 2) 10 2 54 89 (p.of) X3 _ w.heap.size (HI3.out.by_.below (Below.refl _ _).drew) (by rw [L3.out]; decide) (by decide) HI3.out.b2).mono ?_
  rintro r w4 ⟨⟨v, rfl⟩, hx, hf⟩
  have HI4 : Hid (SecI w w4 b p A n c X4) := by rw [HX4.out]; exact (HI3.out.below (Below.refl _ _).drew).step hf hx
  clear hx hf
  dsimp only
  refine hK.out _ _ (HI4.out.box) (fun hHeld => ?_)
  clear hK K
  try simp only [Act.put, List.setIfInBounds_toArray, List.set_cons_zero, List.set_cons_succ]
  refine wpAnyH_done (by kernel_rfl) ?_ _
  have q4 := HI4.out.c4
  obtain ⟨v0, dC⟩ : ∃ v0 : Nat, w4.cell? ⟨b + 2, 12, none⟩ = some (.int .u8 (v0 : Int)) := ⟨_, HI4.out.by_.cell (k := 12) (by rw [L4.out]; decide)⟩
  have fz := HI4.out.by_.frozen 12
  have hni : (n : Int) ≤ 47 := by omega
  obtain ⟨w5, hw5⟩ : ∃ w5, w5 = w4.setCell ⟨b + 2, 12, none⟩ (.int .u8 (n : Int)) := ⟨_, rfl⟩
  have HI5 : Hid (SecI w w5 b p A n c X5) := by
    rw [hw5]
    refine HI4.out.step ((Fr.refl _ _ _ _).set HI4.out.by_ (.inr (by simp)) HI4.out.b2 _) ?_
    rw [HX5.out, HN.out]
    have e : (n : Int) = ((UInt8.ofNat n).toNat : Int) := by
      have : (UInt8.ofNat n).toNat = n := by simp; omega
      rw [this]
    rw [e]
    exact HI4.out.by_.set 12 _
  have HA := Lib.hid hA
  clear hA
  obtain ⟨vc, w6, hcp, hx6, hf6⟩ := run_copy_by (o := 13) (dn := 47) (dc := 51) (n := n) (c := c) (A := A) (base := w.heap.size) (HI5.out.below (Below.refl _ _).drew).by_ (HH.out.below (Nat.le_refl _) (HI5.out.below (Below.refl _ _).drew).bel) HN.out HA.out h47 (by rw [L5.out]; omega) HI5.out.b2 3
  have HCP := Lib.hid hcp
  have HI6 : Hid (SecI w w6 b p A n c X6) := by
    show SecI _ _ _ _ _ _ _ _
    rw [HX6.out]
    exact (HI5.out.below (Below.refl _ _).drew).step hf6 hx6
  have HW5 := Lib.hid hw5
  clear hcp hx6 hf6
  go_wp2_with fail
  rw [← HW5.out]
  clear hw5 dC fz q4
  refine wp_region_held_drew (S := fun w' => w'.heap[b]? = some (.cells (ptC p A n c) 101 (0, 0))) (by kernel_rfl) (HI5.out.box) (fun hHeld => ?_)
  refine wpAnyH_take (i := 0) (oi := { dst := some 25, op := Op.slice 89 (Operand.tmp 3) (some (Operand.const (Value.int IntKind.i64 13))) (some (Operand.const (Value.int IntKind.i64 60))) none, type := 38, pos := "part.go:63", after := #[], guard := none }) (v := ?v7n1) rfl (by kernel_rfl) (by kernel_rfl) (by kernel_rfl) (fun _ _ _ h => h) (Or.inl ⟨by rfl, ?hy7n1⟩) (by assumption) ?rest7n1
  case hy7n1 => (intro w hSw; (try dsimp only at hSw); have q0 := cell_of (o := 0) hSw; have q1 := cell_of (o := 1) hSw; have q2 := cell_of (o := 2) hSw; have q3 := cell_of (o := 3) hSw; have q4 := cell_of (o := 4) hSw; dsimp only [ptC] at q0 q1 q2 q3 q4; go_simp <;> (try with_reducible rfl))
  try simp only [Act.put, List.setIfInBounds_toArray, List.set_cons_zero, List.set_cons_succ]
  refine wpAnyH_take (i := 1) (oi := { dst := some 26, op := Op.fieldAddr 101 (Operand.tmp 1) 4, type := 0, pos := "part.go:63", after := #[], guard := none }) (v := ?v7n2) rfl (by kernel_rfl) (by kernel_rfl) (by kernel_rfl) (fun _ _ _ h => h) (Or.inl ⟨by rfl, ?hy7n2⟩) (by assumption) ?rest7n2
  case hy7n2 => (intro w hSw; (try dsimp only at hSw); have q0 := cell_of (o := 0) hSw; have q1 := cell_of (o := 1) hSw; have q2 := cell_of (o := 2) hSw; have q3 := cell_of (o := 3) hSw; have q4 := cell_of (o := 4) hSw; dsimp only [ptC] at q0 q1 q2 q3 q4; go_simp <;> (try with_reducible rfl))
  try simp only [Act.put, List.setIfInBounds_toArray, List.set_cons_zero, List.set_cons_succ]
  refine wpAnyH_take (i := 2) (oi := { dst := some 27, op := Op.load 38 (Operand.tmp 26), type := 38, pos := "part.go:63", after := #[{ on := 1, ground := Ground.data }], guard := none }) (v := ?v7n3) rfl (by kernel_rfl) (by kernel_rfl) (by kernel_rfl) (fun _ _ _ h => h) (Or.inl ⟨by rfl, ?hy7n3⟩) (by assumption) ?rest7n3
  case hy7n3 => (intro w hSw; (try dsimp only at hSw); have q0 := cell_of (o := 0) hSw; have q1 := cell_of (o := 1) hSw; have q2 := cell_of (o := 2) hSw; have q3 := cell_of (o := 3) hSw; have q4 := cell_of (o := 4) hSw; dsimp only [ptC] at q0 q1 q2 q3 q4; go_simp <;> (try with_reducible rfl))
  try simp only [Act.put, List.setIfInBounds_toArray, List.set_cons_zero, List.set_cons_succ]
  refine wpAnyH_ready (rs := [3]) (by kernel_rfl) (by simp) ?_
  refine AllReadyH.cons (o := { dst := some 28, op := Op.call { callee := Callee.builtin Builtin.copy, args := #[Operand.tmp 25, Operand.tmp 27], argTypes := #[38, 38] }, type := 3, pos := "part.go:63", after := #[{ on := 0, ground := Ground.data }, { on := 2, ground := Ground.data }], guard := none }) rfl (fun K hK => ?_) AllReadyH.nil
  refine wp_value (exec_copy rfl rfl rfl HCP.out) ?_
  refine hK.out _ _ (HI6.out.box) (fun hHeld => ?_)
  clear hK K
  try simp only [Act.put, List.setIfInBounds_toArray, List.set_cons_zero, List.set_cons_succ]
  refine wpAnyH_done (by kernel_rfl) ?_ _
  go_wp2_with fail
  refine wp_region_held_drew (S := fun w' => w'.heap[b]? = some (.cells (ptC p A n c) 101 (0, 0))) (by kernel_rfl) (HI6.out.box) (fun hHeld => ?_)
  refine wpAnyH_take (i := 0) (oi := { dst := some 29, op := Op.slice 89 (Operand.tmp 3) (some (Operand.const (Value.int IntKind.i64 60))) none none, type := 38, pos := "part.go:64", after := #[], guard := none }) (v := ?v8n1) rfl (by kernel_rfl) (by kernel_rfl) (by kernel_rfl) (fun _ _ _ h => h) (Or.inl ⟨by rfl, ?hy8n1⟩) (by assumption) ?rest8n1
  case hy8n1 => (intro w hSw; (try dsimp only at hSw); have q0 := cell_of (o := 0) hSw; have q1 := cell_of (o := 1) hSw; have q2 := cell_of (o := 2) hSw; have q3 := cell_of (o := 3) hSw; have q4 := cell_of (o := 4) hSw; dsimp only [ptC] at q0 q1 q2 q3 q4; go_simp <;> (try with_reducible rfl))
  try simp only [Act.put, List.setIfInBounds_toArray, List.set_cons_zero, List.set_cons_succ]
  refine wpAnyH_take (i := 1) (oi := { dst := some 30, op := Op.fieldAddr 101 (Operand.tmp 1) 0, type := 0, pos := "part.go:64", after := #[], guard := none }) (v := ?v8n2) rfl (by kernel_rfl) (by kernel_rfl) (by kernel_rfl) (fun _ _ _ h => h) (Or.inl ⟨by rfl, ?hy8n2⟩) (by assumption) ?rest8n2
  case hy8n2 => (intro w hSw; (try dsimp only at hSw); have q0 := cell_of (o := 0) hSw; have q1 := cell_of (o := 1) hSw; have q2 := cell_of (o := 2) hSw; have q3 := cell_of (o := 3) hSw; have q4 := cell_of (o := 4) hSw; dsimp only [ptC] at q0 q1 q2 q3 q4; go_simp <;> (try with_reducible rfl))
  try simp only [Act.put, List.setIfInBounds_toArray, List.set_cons_zero, List.set_cons_succ]
  refine wpAnyH_take (i := 2) (oi := { dst := some 31, op := Op.load 3 (Operand.tmp 30), type := 3, pos := "part.go:64", after := #[{ on := 1, ground := Ground.data }], guard := none }) (v := ?v8n3) rfl (by kernel_rfl) (by kernel_rfl) (by kernel_rfl) (fun _ _ _ h => h) (Or.inl ⟨by rfl, ?hy8n3⟩) (by assumption) ?rest8n3
  case hy8n3 => (intro w hSw; (try dsimp only at hSw); have q0 := cell_of (o := 0) hSw; have q1 := cell_of (o := 1) hSw; have q2 := cell_of (o := 2) hSw; have q3 := cell_of (o := 3) hSw; have q4 := cell_of (o := 4) hSw; dsimp only [ptC] at q0 q1 q2 q3 q4; go_simp <;> (try with_reducible rfl))
  try simp only [Act.put, List.setIfInBounds_toArray, List.set_cons_zero, List.set_cons_succ]
  refine wpAnyH_ready (rs := [3]) (by kernel_rfl) (by simp) ?_
  refine AllReadyH.cons (o := { dst := some 32, op := Op.call { callee := Callee.value (Operand.func 54), args := #[Operand.tmp 29, Operand.tmp 31], argTypes := #[38, 3] }, type := 0, pos := "part.go:64", after := #[{ on := 0, ground := Ground.data }, { on := 2, ground := Ground.data }], guard := none }) rfl (fun K hK => ?_) AllReadyH.nil
  go_simp
  (try rw [HK.out])
  refine (put_any (b + 2) 60 4 4 89 (p.lap) X6 _ w.heap.size (HI6.out.by_.below (Below.refl _ _).drew) (by rw [L6.out]; decide) (by decide) HI6.out.b2).mono ?_
  rintro r w7 ⟨⟨v, rfl⟩, hx, hf⟩
  have HI7 : Hid (SecI w w7 b p A n c X7) := by rw [HX7.out]; exact (HI6.out.below (Below.refl _ _).drew).step hf hx
  clear hx hf
  dsimp only
  refine hK.out _ _ (HI7.out.box) (fun hHeld => ?_)
  clear hK K
  try simp only [Act.put, List.setIfInBounds_toArray, List.set_cons_zero, List.set_cons_succ]
  refine wpAnyH_done (by kernel_rfl) ?_ _
  have hE : ∃ s : Sec, s = ptS p ∧ s.v = X7 := ⟨ptS p, rfl, by
    rw [ptS_v (by rw [HN.out]; exact h47), ← sec_all p X0 (by rw [HN.out]; exact h47) HX0.out, HX7.out, HX6.out, HX5.out, HX4.out, HX3.out, HX2.out, HX1.out, HK.out, Int.toNat_natCast]⟩
  obtain ⟨s, hs1, hs2⟩ := hE
  have LD : Hid ((Instr.loadAt 89 (.pointer (some ⟨b + 2, 0, none⟩))).run Try.prog w7 = .ok (secV s) w7) := load89 (By.range (by have := HI7.out.by_; rw [← hs2] at this; exact this))
  have ST : Hid ((Instr.storeAt 89 (.pointer (some ⟨b + 1, 0, none⟩)) (secV s)).run Try.prog w7 = .ok () (w7.setRow (b + 1) (eSec.f s).toArray)) := store89 HI7.out.res zs.h s
  have HR : Hid (By (w7.setRow (b + 1) (eSec.f s).toArray) (b + 1) 89 s.v) := HI7.out.res.row s
  have HE : Hid (Below w.heap.size w (w7.setRow (b + 1) (eSec.f s).toArray)) := HI7.out.bel.trans (by_row (l := []) (ms := [b + 1]) (Fr.refl _ _ _ _) HI7.out.res (.inr (by simp)) (by have := HI7.out.ge; omega) s).below
  have HS1 := Lib.hid hs1
  clear hs1 hs2
  go_wp2_with (first | (refine wpList_value rfl (exec_load rfl rfl LD.out) ?_) | (refine wpList_unit rfl (exec_store rfl rfl rfl ST.out) ?_))
  refine bodyPost_ret (ret89 (s := s) (t := 2) rfl rfl HR.out) rfl ?_
  exact ⟨by rw [HS1.out], HE.out⟩
end Go.Proofs.Ytppdckncnfffcaa
