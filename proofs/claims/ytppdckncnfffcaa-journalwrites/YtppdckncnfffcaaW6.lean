/-
  The contract of Write. Its conditions: the disk and the bytes lie in memory, the disk's steps and its pending writes are below a bound.
-/
import Derived.Test.YtppdckncnfffcaaW5
namespace Go.Proofs.Ytppdckncnfffcaa
open Go.RowKit
set_option maxRecDepth 100000
open Go.Sort (grow)

def secOf (l : List UInt8) : Sec := if h : l.length = 64 then ⟨l, h⟩ else zs
theorem secOf_v {l : List UInt8} (h : l.length = 64) : (secOf l).v = l := by simp [secOf, h]
def writeD (d : Dk) (i : Int) (l : List UInt8) : Dk := if fits d i l.length then (if stepB d then putD d i.toNat (secOf l) else stepD d) else d
def writeR (d : Dk) (i : Int) (l : List UInt8) : Int := if fits d i l.length then (if stepB d then 0 else 7) else 1
/-- Bytes of a sector's size read as that sector. -/
theorem Sl.sec {w : World} {b off : Nat} {l : List UInt8} (h : Sl eBy w (some ⟨b, off, none⟩) l) (hl : l.length = 64) : w.rangeAt b off (eSec.f (secOf l)) := by
  intro j v hv
  have hv' : (bv l)[j]? = some v := by
    have : eSec.f (secOf l) = bv l := by show bv _ = _; rw [secOf_v hl]
    rwa [this] at hv
  have hj : j < l.length := by
    have := (List.getElem?_eq_some_iff.mp hv').1
    rwa [bv_length] at this
  have e : v = .int .u8 (l[j].toNat : Int) := by
    unfold bv at hv'
    rw [List.getElem?_map, List.getElem?_eq_getElem hj] at hv'
    simpa using hv'.symm
  have := h.at2 hj 0 _ rfl
  rw [show eBy.wd = 1 from rfl, Nat.mul_one] at this
  rw [e]
  exact this
theorem idx64 (B k n : Nat) (hk : k < n) (w : World) : (Instr.indexAt 61 (.slice (some ⟨B, 0, none⟩) n n) (.int .i64 (k : Int))).run Try.prog w = .ok (.pointer (some ⟨B, k * 64, none⟩)) w := by
  have h : (0 : Int) ≤ (k : Int) ∧ (k : Int) < (n : Int) := by omega
  have h2 : ¬ n ≤ k := by omega
  simp [Instr.indexAt, asIntOf, Result.andThen, h, h2, addr_at]
theorem arr64 (p : Addr) (c : Nat) (w : World) : (Instr.arrayAt 86 (.slice (some p) 64 c)).run Try.prog w = .ok (.pointer (some p)) w := by
  simp [Instr.arrayAt, Result.andThen]
section
variable {P : Program} {w w' : World} {o : Oper} {a : Act} {v : Value}
theorem exec_index {ty : TypeId} {x y : Operand} {p u : Value} (ho : o.op = .indexAddr ty x y) (hx : a.eval x = p) (hy : a.eval y = u) (hr : (Instr.indexAt ty p u).run P w = .ok v w') : (execOp a.eval o).run P w = .ok (.value v) w' := by
  unfold execOp
  simp only [ho, hx, hy, Sem.run_bind, hr, Result.andThen_ok, Sem.run_pure]
theorem exec_s2a {ty : TypeId} {x : Operand} {p : Value} (ho : o.op = .sliceToArrayPointer ty x) (hx : a.eval x = p) (hr : (Instr.arrayAt ty p).run P w = .ok v w') : (execOp a.eval o).run P w = .ok (.value v) w' := by
  unfold execOp
  simp only [ho, hx, Sem.run_bind, hr, Result.andThen_ok, Sem.run_pure]
end
theorem run_bs62 (x : Wr) (w : World) : (Instr.buildSlice 62 1 #[(0, wrV x)]).run Try.prog w = .ok (.slice (some ⟨w.heap.size, 0, none⟩) 1 1) (w.alloc (.cells (eWr.f x).toArray 88)) := by
  obtain ⟨z, by_, h, h2, _⟩ := el62.info
  obtain ⟨i, hi, hz, hs, _⟩ := info_parts h
  exact run_buildSlice1 (n := 129) Try.underlying62 hi hz hs h2 (by simp [wrV, Value.cells, eWr.len]; rfl) (by decide) (by decide) w
theorem load62 {w : World} {g : Nat} {v : Value} (hc : w.cell? ⟨g, 1, none⟩ = some v) : (Instr.loadAt 62 (.pointer (some ⟨g, 1, none⟩))).run Try.prog w = .ok v w := by
  simp [go_sem, hc]
theorem store62 {w : World} {g : Nat} {v : Value} (hc : w.cell? ⟨g, 1, none⟩ = some v) (hf : w.frozen? ⟨g, 1, none⟩ = false) (A : Option Addr) (n c : Nat) :
    (Instr.storeAt 62 (.pointer (some ⟨g, 1, none⟩)) (.slice A n c)).run Try.prog w = .ok () (w.setCell ⟨g, 1, none⟩ (.slice A n c)) := by
  simp [go_sem, hc, hf]
/-- What an append onto a row writes. -/
theorem RowT.fr_app {α : Type} {E : Enc α} {e : TypeId} {W W' : World} {base : Nat} {v : Value} {l : List α} (h : RowT E e W base v l) (hg : W.grownBy W' v.ownBlock) (hb : base ≤ W.heap.size) : Fr [e] [] base W W' := by
  cases ho : v.ownBlock with
  | none =>
    rw [ho] at hg
    exact Fr.of_below (Below.of_none hg) hb
  | some k =>
    obtain ⟨hk, cs, hc⟩ := h.own ho
    rw [ho] at hg
    exact (Fr.refl _ _ _ _).grown hg hc (.inl (by simp [kd])) hk
set_option maxHeartbeats 4000000 in
theorem write_ok (base g : Nat) (d : Dk) (k : Nat) (l : List UInt8) (A : Option Addr) (c : Nat) (w : World) (h : DiskAt w base g d) (hs : d.steps ≤ 1000000) (hp : d.ps.length ≤ 100000) (hk : k < d.K.length) (hl : l.length = 64) (hb : stepB d = true) (hbs : base ≤ w.heap.size)
    (hAf : ∀ w', Fr kD [] base w w' → Sl eBy w' A l) :
    Calls Try.prog 20 #[.pointer (some ⟨g, 0, none⟩), .int .i64 (k : Int), .slice A 64 c] w (DPost w base g (putD d k (secOf l)) (.int .i64 0)) := by
  have CH := Lib.hid (has_any base g d (k : Int) w h)
  have CS := Lib.hid (step_any base g d w h hs)
  have hh : has d (k : Int) = true := by simp [has, hk]
  rw [hh] at CH
  rw [hb] at CS
  have HGP := Lib.hid (h.good.put (secOf l) hk)
  go_enter Try.func20, Try.ntmps20
  go_wp2_with fail
  refine CH.out.mono ?_
  rintro r w1 ⟨rfl, rfl⟩
  go_wp2_with fail
  refine CS.out.mono ?_
  rintro r w1 ⟨rfl, hd, hf⟩
  obtain ⟨B, pv, b, hS, hR, hB⟩ := hd.ex
  have hbg := hd.bg
  have hSl := hAf w1 hf
  obtain ⟨bA, oA, rfl, hbA⟩ := hSl.at_ (k := 0) (by omega)
  rw [stepD_K, stepD_ps] at hS hR
  rw [stepD_K] at b
  have HS := Lib.hid hS
  have HB := Lib.hid b
  have HSl := Lib.hid hSl
  have HL := Lib.hid hl
  have HKS : Hid (k < (seen d.K d.ps).length) := by
    show _ < _
    rw [seen_length]
    exact hk
  have hbs1 : base ≤ w1.heap.size := Nat.le_trans hbs hf.size
  -- the worlds
  obtain ⟨q, hq⟩ : ∃ q, q = w1.drew.heap.size := ⟨_, rfl⟩
  obtain ⟨x, hx⟩ : ∃ x : Wr, x = ⟨k, at_ (seen d.K d.ps) k, secOf l⟩ := ⟨_, rfl⟩
  obtain ⟨w2, hw2⟩ : ∃ w2, w2 = w1.drew.alloc (.cells (eWr.f x).toArray 88) := ⟨_, rfl⟩
  have b2 : Below w1.heap.size w1 w2 := by rw [hw2]; exact Below.alloc (Below.refl _ w1).drew (by simp) _
  have hW2 : WrAt w2 q x := by rw [hw2, hq]; exact heap_new _ _
  have hS2 := hS.below b2
  have hB2 := b.below b2
  have hR2 := hR.below b2
  obtain ⟨w3, hw3⟩ : ∃ w3, w3 = w2.drew.setRow B (eSec.vals ((seen d.K d.ps).set k x.n)).toArray := ⟨_, rfl⟩
  have f3 : Fr [86] [] base w2 w3 := by rw [hw3]; exact Fr.row (Fr.of_below (Below.refl _ _).drew (Nat.le_trans hbs1 b2.size)) (hS2.below (Below.refl _ _).drew) (.inl (by simp [kd])) hB _
  have hS3 : Sects w3 B ((seen d.K d.ps).set k x.n) := by rw [hw3]; exact (hS2.below (Below.refl _ _).drew).set _
  have hB3 : Box w3 g B d.K.length pv (stepD d).fuse (stepD d).down (stepD d).steps := f3.keep g _ hB2 (by simp [kd]) (by simp)
  have hW3 : WrAt w3 q x := f3.keep q _ hW2 (by simp [kd]) (by simp)
  have hR3 := hR2.fr f3 (by simp) (by simp)
  obtain ⟨w4, hw4⟩ : ∃ w4, w4 = w3.drew.alloc (.cells (eWr.f x).toArray 88) := ⟨_, rfl⟩
  have b4 : Below w3.heap.size w3 w4 := by rw [hw4]; exact Below.alloc (Below.refl _ w3).drew (by simp) _
  have hbs3 : base ≤ w3.heap.size := Nat.le_trans (Nat.le_trans hbs1 b2.size) f3.size
  have hbs4 : base ≤ w4.heap.size := Nat.le_trans hbs3 b4.size
  have hS4 := hS3.below b4
  have hB4 := hB3.below b4
  have hW4 := hW3.below b4
  have hR4 := hR3.below b4
  have hsl4 : Sl eWr w4 (some ⟨w3.drew.heap.size, 0, none⟩) [x] := by rw [hw4]; exact sl_one _ _ _
  obtain ⟨v', w5, hr, hR5, hg5⟩ := hR4.app el62 hbs4 hsl4 rfl (fun h => by cases h) (by rw [wrs_length]; omega) (c := 1) (n := 1)
  have f5 := hR4.fr_app hg5 hbs4
  have hS5 := hS4.fr f5 (by simp) (by simp)
  have hB5 : Box w5 g B d.K.length pv (stepD d).fuse (stepD d).down (stepD d).steps := f5.keep g _ hB4 (by simp [kd]) (by simp)
  have hW5 : WrAt w5 q x := (hg5.block q hW4.lt (fun he => by
    obtain ⟨_, cs, hc⟩ := hR.own he.symm
    have := lt_of_heap hc
    rw [hq] at this
    simp at this)).trans hW4
  obtain ⟨A', c', hv', _⟩ := hR5.form
  have f6 : Fr [69] [] base w5 (w5.setCell ⟨g, 1, none⟩ v') := (Fr.refl _ _ _ _).set hB5 (.inl (by simp [kd])) hbg _
  have hW6 : WrAt (w5.setCell ⟨g, 1, none⟩ v') q x := f6.keep q _ hW5 (by simp [kd]) (by simp)
  have HE : Hid (DPost w base g (putD d k (secOf l)) (.int .i64 0) (.returned (.int .i64 0)) (w5.setCell ⟨g, 1, none⟩ v')) := by
    refine ⟨rfl, ⟨⟨B, v', ?_, ?_, ?_, hB⟩, hbg, HGP.out⟩, ?_⟩
    · have := hB5.set1 v'
      show Box _ g B (stepD d).K.length v' (stepD d).fuse (stepD d).down (stepD d).steps
      rw [stepD_K]
      exact this
    · have := hS5.fr f6 (by simp) (by simp)
      show Sects _ B (seen (stepD d).K (d.ps ++ [⟨k, secOf l⟩]))
      rw [stepD_K, seen_snoc]
      rw [hx] at this
      exact this
    · have := hR5.fr f6 (by simp) (by simp)
      show RowT _ _ _ _ _ (wrs (stepD d).K (d.ps ++ [⟨k, secOf l⟩]))
      rw [stepD_K, wrs_snoc, ← hx]
      exact this
    · exact ((((hf.trans (Fr.of_below b2 hbs1)).trans (f3.mono (by simp) (by simp))).trans (Fr.of_below b4 hbs3)).trans (f5.mono (by simp) (by simp))).trans (f6.mono (by simp) (by simp))
  have HB2 := Lib.hid hB2
  have HW2 := Lib.hid hW2
  have HS2 := Lib.hid hS2
  have HS3 : Hid (Box w3 g B d.K.length pv (stepD d).fuse (stepD d).down (stepD d).steps ∧ WrAt w3 q x) := ⟨hB3, hW3⟩
  have HW3 := Lib.hid hW3
  have C1 := Lib.hid (hB3.below (Below.refl _ w3).drew).c1
  have C1b := Lib.hid hB4.c1
  have HR4 := Lib.hid hr
  have C5 := Lib.hid hB5.c1
  have F5 := Lib.hid (hB5.frozen 1)
  have HW5 := Lib.hid hW5
  have HW6 := Lib.hid hW6
  subst hv'
  have HX := Lib.hid hx
  have HQ := Lib.hid hq
  have HV2 := Lib.hid hw2
  have HV3 := Lib.hid hw3
  have HV4 := Lib.hid hw4
  rw [HV4.out] at C1b HR4
  clear hd hf b hS hR hB hbg hSl hbA hbs1 b2 hW2 hS2 hB2 hR2 f3 hS3 hB3 hW3 hR3 b4 hbs3 hbs4 hS4 hB4 hW4 hR4 hsl4 hr hR5 hg5 f5 hS5 hB5 hW5 f6 hW6 hAf hbs hp hs h hh hb CH CS HGP hx hq hw2 hw3 hw4
  obtain ⟨n, hn⟩ : ∃ n, n = d.K.length := ⟨_, rfl⟩
  rw [← hn] at HB HB2 HS3 hk
  have HK : Hid (k < n) := hk
  clear hn hk hl
  go_wp2_with fail
  refine wp_region_held_drew (S := fun w' => Below w1.heap.size w1 w') (by kernel_rfl) ((Below.refl _ w1).drew) (fun hHeld => ?_)
  refine wpAnyH_take (i := 0) (oi := { dst := some 20, op := Op.move (Operand.tmp 1), type := 3, pos := "disk.go:49", after := #[], guard := none }) (v := ?v5n1) rfl (by kernel_rfl) (by kernel_rfl) (by kernel_rfl) (fun _ _ _ h => h) (Or.inl ⟨by rfl, ?hy5n1⟩) (by assumption) ?rest5n1
  case hy5n1 => (intro w hSw; (try dsimp only at hSw); have q0 := (HB.out.below hSw).c0; go_simp <;> (try with_reducible rfl))
  try simp only [Act.put, List.setIfInBounds_toArray, List.set_cons_zero, List.set_cons_succ]
  refine wpAnyH_take (i := 1) (oi := { dst := some 21, op := Op.move (Operand.tmp 0), type := 24, pos := "disk.go:49", after := #[], guard := none }) (v := ?v5n2) rfl (by kernel_rfl) (by kernel_rfl) (by kernel_rfl) (fun _ _ _ h => h) (Or.inl ⟨by rfl, ?hy5n2⟩) (by assumption) ?rest5n2
  case hy5n2 => (intro w hSw; (try dsimp only at hSw); have q0 := (HB.out.below hSw).c0; go_simp <;> (try with_reducible rfl))
  try simp only [Act.put, List.setIfInBounds_toArray, List.set_cons_zero, List.set_cons_succ]
  refine wpAnyH_take (i := 2) (oi := { dst := some 22, op := Op.nilCheck (Operand.tmp 21), type := 0, pos := "disk.go:49", after := #[{ on := 1, ground := Ground.data }], guard := none }) (v := ?v5n3) rfl (by kernel_rfl) (by kernel_rfl) (by kernel_rfl) (fun _ _ _ h => h) (Or.inl ⟨by rfl, ?hy5n3⟩) (by assumption) ?rest5n3
  case hy5n3 => (intro w hSw; (try dsimp only at hSw); have q0 := (HB.out.below hSw).c0; go_simp <;> (try with_reducible rfl))
  try simp only [Act.put, List.setIfInBounds_toArray, List.set_cons_zero, List.set_cons_succ]
  refine wpAnyH_take (i := 3) (oi := { dst := some 23, op := Op.fieldAddr 69 (Operand.tmp 22) 0, type := 0, pos := "disk.go:49", after := #[{ on := 2, ground := Ground.data }], guard := none }) (v := ?v5n4) rfl (by kernel_rfl) (by kernel_rfl) (by kernel_rfl) (fun _ _ _ h => h) (Or.inl ⟨by rfl, ?hy5n4⟩) (by assumption) ?rest5n4
  case hy5n4 => (intro w hSw; (try dsimp only at hSw); have q0 := (HB.out.below hSw).c0; go_simp <;> (try with_reducible rfl))
  try simp only [Act.put, List.setIfInBounds_toArray, List.set_cons_zero, List.set_cons_succ]
  refine wpAnyH_take (i := 4) (oi := { dst := some 24, op := Op.load 61 (Operand.tmp 23), type := 61, pos := "disk.go:49", after := #[{ on := 3, ground := Ground.data }], guard := none }) (v := ?v5n5) rfl (by kernel_rfl) (by kernel_rfl) (by kernel_rfl) (fun _ _ _ h => h) (Or.inl ⟨by rfl, ?hy5n5⟩) (by assumption) ?rest5n5
  case hy5n5 => (intro w hSw; (try dsimp only at hSw); have q0 := (HB.out.below hSw).c0; go_simp <;> (try with_reducible rfl))
  try simp only [Act.put, List.setIfInBounds_toArray, List.set_cons_zero, List.set_cons_succ]
  refine wpAnyH_take (i := 5) (oi := { dst := some 25, op := Op.move (Operand.tmp 1), type := 3, pos := "disk.go:49", after := #[], guard := none }) (v := ?v5n6) rfl (by kernel_rfl) (by kernel_rfl) (by kernel_rfl) (fun _ _ _ h => h) (Or.inl ⟨by rfl, ?hy5n6⟩) (by assumption) ?rest5n6
  case hy5n6 => (intro w hSw; (try dsimp only at hSw); have q0 := (HB.out.below hSw).c0; go_simp <;> (try with_reducible rfl))
  try simp only [Act.put, List.setIfInBounds_toArray, List.set_cons_zero, List.set_cons_succ]
  refine wpAnyH_take (i := 6) (oi := { dst := some 26, op := Op.indexAddr 61 (Operand.tmp 24) (Operand.tmp 25), type := 0, pos := "disk.go:49", after := #[{ on := 4, ground := Ground.data }, { on := 5, ground := Ground.data }], guard := none }) (v := Value.pointer (some ⟨B, k * 64, none⟩)) rfl (by kernel_rfl) (by kernel_rfl) (by kernel_rfl) (fun _ _ _ h => h) (Or.inl ⟨by rfl, fun w hSw => exec_index rfl rfl rfl (idx64 B k n HK.out w)⟩) (by assumption) ?_
  try simp only [Act.put, List.setIfInBounds_toArray, List.set_cons_zero, List.set_cons_succ]
  refine wpAnyH_take (i := 7) (oi := { dst := some 27, op := Op.load 86 (Operand.tmp 26), type := 86, pos := "disk.go:49", after := #[{ on := 6, ground := Ground.data }], guard := none }) (v := secV (at_ (seen d.K d.ps) k)) rfl (by kernel_rfl) (by kernel_rfl) (by kernel_rfl) (fun _ _ _ h => h) (Or.inl ⟨by rfl, fun w hSw => exec_load rfl rfl ((HS.out.below hSw).load HKS.out)⟩) (by assumption) ?_
  try simp only [Act.put, List.setIfInBounds_toArray, List.set_cons_zero, List.set_cons_succ]
  refine wpAnyH_take (i := 8) (oi := { dst := some 28, op := Op.move (Operand.tmp 2), type := 38, pos := "disk.go:49", after := #[], guard := none }) (v := ?v5n7) rfl (by kernel_rfl) (by kernel_rfl) (by kernel_rfl) (fun _ _ _ h => h) (Or.inl ⟨by rfl, ?hy5n7⟩) (by assumption) ?rest5n7
  case hy5n7 => (intro w hSw; (try dsimp only at hSw); have q0 := (HB.out.below hSw).c0; go_simp <;> (try with_reducible rfl))
  try simp only [Act.put, List.setIfInBounds_toArray, List.set_cons_zero, List.set_cons_succ]
  refine wpAnyH_take (i := 9) (oi := { dst := some 29, op := Op.sliceToArrayPointer 86 (Operand.tmp 28), type := 0, pos := "disk.go:49", after := #[{ on := 8, ground := Ground.data }], guard := none }) (v := Value.pointer (some ⟨bA, oA, none⟩)) rfl (by kernel_rfl) (by kernel_rfl) (by kernel_rfl) (fun _ _ _ h => h) (Or.inl ⟨by rfl, fun w hSw => exec_s2a rfl rfl (arr64 _ _ w)⟩) (by assumption) ?_
  try simp only [Act.put, List.setIfInBounds_toArray, List.set_cons_zero, List.set_cons_succ]
  refine wpAnyH_take (i := 10) (oi := { dst := some 30, op := Op.load 86 (Operand.tmp 29), type := 86, pos := "disk.go:49", after := #[{ on := 9, ground := Ground.data }], guard := none }) (v := secV (secOf l)) rfl (by kernel_rfl) (by kernel_rfl) (by kernel_rfl) (fun _ _ _ h => h) (Or.inl ⟨by rfl, fun w hSw => exec_load rfl rfl (load72 ((HSl.out.below (Nat.le_refl _) hSw).sec HL.out))⟩) (by assumption) ?_
  try simp only [Act.put, List.setIfInBounds_toArray, List.set_cons_zero, List.set_cons_succ]
  refine wpAnyH_take (i := 11) (oi := { dst := some 31, op := Op.build 88 #[(0, Operand.tmp 20), (1, Operand.tmp 27), (2, Operand.tmp 30)], type := 88, pos := "disk.go:49", after := #[{ on := 0, ground := Ground.data }, { on := 7, ground := Ground.data }, { on := 10, ground := Ground.data }], guard := none }) (v := wrV ⟨k, at_ (seen d.K d.ps) k, secOf l⟩) rfl (by kernel_rfl) (by kernel_rfl) (by kernel_rfl) (fun _ _ _ h => h) (Or.inl ⟨by rfl, fun w hSw => exec_build (qs := #[(0, Value.int .i64 (k : Int)), (1, secV (at_ (seen d.K d.ps) k)), (2, secV (secOf l))]) rfl (by simp [Act.eval]) (run_build74 _ _ _ _)⟩) (by assumption) ?_
  try simp only [Act.put, List.setIfInBounds_toArray, List.set_cons_zero, List.set_cons_succ]
  refine wpAnyH_ready (rs := [12]) (by kernel_rfl) (by simp) ?_
  refine AllReadyH.cons (o := { dst := some 7, op := Op.alloc 88, type := 0, pos := "disk.go:49", after := #[], guard := none }) rfl (fun K hK => ?_) AllReadyH.nil
  refine wp_value (exec_alloc rfl (run_alloc74 _)) ?_
  refine hK.out _ _ (Below.alloc hHeld (by simp) _) (fun hHeld => ?_)
  clear hK K
  try simp only [Act.put, List.setIfInBounds_toArray, List.set_cons_zero, List.set_cons_succ]
  refine wpAnyH_ready (rs := [13]) (by kernel_rfl) (by simp) ?_
  refine AllReadyH.cons (o := { dst := none, op := Op.store 88 (Operand.tmp 7) (Operand.tmp 31), type := 0, pos := "disk.go:49", after := #[{ on := 12, ground := Ground.data }, { on := 11, ground := Ground.data }, { on := 0, ground := Ground.phase }, { on := 1, ground := Ground.phase }, { on := 2, ground := Ground.phase }, { on := 3, ground := Ground.phase }, { on := 4, ground := Ground.phase }, { on := 5, ground := Ground.phase }, { on := 6, ground := Ground.phase }, { on := 7, ground := Ground.phase }, { on := 8, ground := Ground.phase }, { on := 9, ground := Ground.phase }, { on := 10, ground := Ground.phase }, { on := 11, ground := Ground.phase }, { on := 12, ground := Ground.phase }], guard := none }) rfl (fun K hK => ?_) AllReadyH.nil
  refine wp_unit (exec_store rfl rfl rfl (store74new _ _ _)) ?_
  refine hK.out _ _ (Below.alloc (Below.refl _ w1).drew (by simp) _) (fun hHeld => ?_)
  clear hK K
  try simp only [Act.put]
  refine wpAnyH_done (by kernel_rfl) ?_ _
  rw [← HX.out, ← HV2.out, ← HQ.out]
  go_wp2_with fail
  refine wp_region_held_drew (S := fun w' => Box w' g B n pv (stepD d).fuse (stepD d).down (stepD d).steps ∧ WrAt w' q x) (by kernel_rfl) (⟨HB2.out.below (Below.refl _ _).drew, HW2.out.below (Below.refl _ _).drew⟩) (fun hHeld => ?_)
  refine wpAnyH_take (i := 0) (oi := { dst := some 32, op := Op.move (Operand.tmp 0), type := 24, pos := "disk.go:50", after := #[], guard := none }) (v := ?v6n1) rfl (by kernel_rfl) (by kernel_rfl) (by kernel_rfl) (fun _ _ _ h => h) (Or.inl ⟨by rfl, ?hy6n1⟩) (by assumption) ?rest6n1
  case hy6n1 => (intro w hSw; (try dsimp only at hSw); have q0 := hSw.1.c0; go_simp <;> (try with_reducible rfl))
  try simp only [Act.put, List.setIfInBounds_toArray, List.set_cons_zero, List.set_cons_succ]
  refine wpAnyH_take (i := 1) (oi := { dst := some 33, op := Op.nilCheck (Operand.tmp 32), type := 0, pos := "disk.go:50", after := #[{ on := 0, ground := Ground.data }], guard := none }) (v := ?v6n2) rfl (by kernel_rfl) (by kernel_rfl) (by kernel_rfl) (fun _ _ _ h => h) (Or.inl ⟨by rfl, ?hy6n2⟩) (by assumption) ?rest6n2
  case hy6n2 => (intro w hSw; (try dsimp only at hSw); have q0 := hSw.1.c0; go_simp <;> (try with_reducible rfl))
  try simp only [Act.put, List.setIfInBounds_toArray, List.set_cons_zero, List.set_cons_succ]
  refine wpAnyH_take (i := 2) (oi := { dst := some 34, op := Op.fieldAddr 69 (Operand.tmp 33) 0, type := 0, pos := "disk.go:50", after := #[{ on := 1, ground := Ground.data }], guard := none }) (v := ?v6n3) rfl (by kernel_rfl) (by kernel_rfl) (by kernel_rfl) (fun _ _ _ h => h) (Or.inl ⟨by rfl, ?hy6n3⟩) (by assumption) ?rest6n3
  case hy6n3 => (intro w hSw; (try dsimp only at hSw); have q0 := hSw.1.c0; go_simp <;> (try with_reducible rfl))
  try simp only [Act.put, List.setIfInBounds_toArray, List.set_cons_zero, List.set_cons_succ]
  refine wpAnyH_take (i := 3) (oi := { dst := some 35, op := Op.load 61 (Operand.tmp 34), type := 61, pos := "disk.go:50", after := #[{ on := 2, ground := Ground.data }], guard := none }) (v := ?v6n4) rfl (by kernel_rfl) (by kernel_rfl) (by kernel_rfl) (fun _ _ _ h => h) (Or.inl ⟨by rfl, ?hy6n4⟩) (by assumption) ?rest6n4
  case hy6n4 => (intro w hSw; (try dsimp only at hSw); have q0 := hSw.1.c0; go_simp <;> (try with_reducible rfl))
  try simp only [Act.put, List.setIfInBounds_toArray, List.set_cons_zero, List.set_cons_succ]
  refine wpAnyH_take (i := 4) (oi := { dst := some 36, op := Op.move (Operand.tmp 1), type := 3, pos := "disk.go:50", after := #[], guard := none }) (v := ?v6n5) rfl (by kernel_rfl) (by kernel_rfl) (by kernel_rfl) (fun _ _ _ h => h) (Or.inl ⟨by rfl, ?hy6n5⟩) (by assumption) ?rest6n5
  case hy6n5 => (intro w hSw; (try dsimp only at hSw); have q0 := hSw.1.c0; go_simp <;> (try with_reducible rfl))
  try simp only [Act.put, List.setIfInBounds_toArray, List.set_cons_zero, List.set_cons_succ]
  refine wpAnyH_take (i := 5) (oi := { dst := some 37, op := Op.fieldAddr 88 (Operand.tmp 7) 2, type := 0, pos := "disk.go:50", after := #[], guard := none }) (v := ?v6n6) rfl (by kernel_rfl) (by kernel_rfl) (by kernel_rfl) (fun _ _ _ h => h) (Or.inl ⟨by rfl, ?hy6n6⟩) (by assumption) ?rest6n6
  case hy6n6 => (intro w hSw; (try dsimp only at hSw); have q0 := hSw.1.c0; go_simp <;> (try with_reducible rfl))
  try simp only [Act.put, List.setIfInBounds_toArray, List.set_cons_zero, List.set_cons_succ]
  refine wpAnyH_take (i := 6) (oi := { dst := some 38, op := Op.load 86 (Operand.tmp 37), type := 86, pos := "disk.go:50", after := #[{ on := 5, ground := Ground.data }], guard := none }) (v := secV x.n) rfl (by kernel_rfl) (by kernel_rfl) (by kernel_rfl) (fun _ _ _ h => h) (Or.inl ⟨by rfl, fun w hSw => exec_load rfl rfl (load72 hSw.2.new)⟩) (by assumption) ?_
  try simp only [Act.put, List.setIfInBounds_toArray, List.set_cons_zero, List.set_cons_succ]
  refine wpAnyH_take (i := 7) (oi := { dst := some 39, op := Op.indexAddr 61 (Operand.tmp 35) (Operand.tmp 36), type := 0, pos := "disk.go:50", after := #[{ on := 3, ground := Ground.data }, { on := 4, ground := Ground.data }, { on := 0, ground := Ground.phase }, { on := 1, ground := Ground.phase }, { on := 2, ground := Ground.phase }, { on := 3, ground := Ground.phase }, { on := 4, ground := Ground.phase }, { on := 5, ground := Ground.phase }, { on := 6, ground := Ground.phase }], guard := none }) (v := Value.pointer (some ⟨B, k * 64, none⟩)) rfl (by kernel_rfl) (by kernel_rfl) (by kernel_rfl) (fun _ _ _ h => h) (Or.inl ⟨by rfl, fun w hSw => exec_index rfl rfl rfl (idx64 B k n HK.out w)⟩) (by assumption) ?_
  try simp only [Act.put, List.setIfInBounds_toArray, List.set_cons_zero, List.set_cons_succ]
  refine wpAnyH_ready (rs := [8]) (by kernel_rfl) (by simp) ?_
  refine AllReadyH.cons (o := { dst := none, op := Op.store 86 (Operand.tmp 39) (Operand.tmp 38), type := 0, pos := "disk.go:50", after := #[{ on := 7, ground := Ground.data }, { on := 6, ground := Ground.data }, { on := 0, ground := Ground.phase }, { on := 1, ground := Ground.phase }, { on := 2, ground := Ground.phase }, { on := 3, ground := Ground.phase }, { on := 4, ground := Ground.phase }, { on := 5, ground := Ground.phase }, { on := 6, ground := Ground.phase }], guard := none }) rfl (fun K hK => ?_) AllReadyH.nil
  refine wp_unit (exec_store rfl rfl rfl ((HS2.out.below (Below.refl _ _).drew).store HKS.out x.n)) ?_
  refine hK.out _ _ (by have := HS3.out; rw [HV3.out] at this; exact this) (fun hHeld => ?_)
  clear hK K
  try simp only [Act.put]
  refine wpAnyH_done (by kernel_rfl) ?_ _
  rw [← HV3.out]
  go_wp2_with fail
  refine wp_region_held_drew (S := fun w' => WrAt w' q x) (by kernel_rfl) (HW3.out.below (Below.refl _ _).drew) (fun hHeld => ?_)
  refine wpAnyH_take (i := 0) (oi := { dst := some 40, op := Op.move (Operand.tmp 0), type := 24, pos := "disk.go:51", after := #[], guard := none }) (v := ?v7n1) rfl (by kernel_rfl) (by kernel_rfl) (by kernel_rfl) (fun _ _ _ h => h) (Or.inl ⟨by rfl, ?hy7n1⟩) (by assumption) ?rest7n1
  case hy7n1 => (intro w hSw; (try dsimp only at hSw); go_simp <;> (try with_reducible rfl))
  try simp only [Act.put, List.setIfInBounds_toArray, List.set_cons_zero, List.set_cons_succ]
  refine wpAnyH_take (i := 1) (oi := { dst := some 41, op := Op.move (Operand.tmp 0), type := 24, pos := "disk.go:51", after := #[], guard := none }) (v := ?v7n2) rfl (by kernel_rfl) (by kernel_rfl) (by kernel_rfl) (fun _ _ _ h => h) (Or.inl ⟨by rfl, ?hy7n2⟩) (by assumption) ?rest7n2
  case hy7n2 => (intro w hSw; (try dsimp only at hSw); go_simp <;> (try with_reducible rfl))
  try simp only [Act.put, List.setIfInBounds_toArray, List.set_cons_zero, List.set_cons_succ]
  refine wpAnyH_take (i := 2) (oi := { dst := some 42, op := Op.nilCheck (Operand.tmp 41), type := 0, pos := "disk.go:51", after := #[{ on := 1, ground := Ground.data }], guard := none }) (v := ?v7n3) rfl (by kernel_rfl) (by kernel_rfl) (by kernel_rfl) (fun _ _ _ h => h) (Or.inl ⟨by rfl, ?hy7n3⟩) (by assumption) ?rest7n3
  case hy7n3 => (intro w hSw; (try dsimp only at hSw); go_simp <;> (try with_reducible rfl))
  try simp only [Act.put, List.setIfInBounds_toArray, List.set_cons_zero, List.set_cons_succ]
  refine wpAnyH_take (i := 3) (oi := { dst := some 43, op := Op.fieldAddr 69 (Operand.tmp 42) 1, type := 0, pos := "disk.go:51", after := #[{ on := 2, ground := Ground.data }], guard := none }) (v := ?v7n4) rfl (by kernel_rfl) (by kernel_rfl) (by kernel_rfl) (fun _ _ _ h => h) (Or.inl ⟨by rfl, ?hy7n4⟩) (by assumption) ?rest7n4
  case hy7n4 => (intro w hSw; (try dsimp only at hSw); go_simp <;> (try with_reducible rfl))
  try simp only [Act.put, List.setIfInBounds_toArray, List.set_cons_zero, List.set_cons_succ]
  refine wpAnyH_take (i := 5) (oi := { dst := some 45, op := Op.load 88 (Operand.tmp 7), type := 88, pos := "disk.go:51", after := #[], guard := none }) (v := wrV x) rfl (by kernel_rfl) (by kernel_rfl) (by kernel_rfl) (fun _ _ _ h => h) (Or.inl ⟨by rfl, fun w hSw => exec_load rfl rfl (load74 (WrAt.whole hSw))⟩) (by assumption) ?_
  try simp only [Act.put, List.setIfInBounds_toArray, List.set_cons_zero, List.set_cons_succ]
  refine wpAnyH_ready (rs := [4, 6]) (by kernel_rfl) (by simp) ?_
  refine AllReadyH.cons (o := { dst := some 44, op := Op.load 62 (Operand.tmp 43), type := 62, pos := "disk.go:51", after := #[{ on := 3, ground := Ground.data }], guard := none }) rfl (fun K hK => ?_) (AllReadyH.cons (o := { dst := some 46, op := Op.buildSlice 62 1 #[(0, Operand.tmp 45)], type := 62, pos := "disk.go:51", after := #[{ on := 5, ground := Ground.data }], guard := none }) rfl (fun K hK => ?_) (AllReadyH.nil))
  · refine wp_value (exec_load rfl rfl (load62 C1.out)) ?_
    refine hK.out _ _ (hHeld) (fun hHeld => ?_)
    clear hK K
    try simp only [Act.put, List.setIfInBounds_toArray, List.set_cons_zero, List.set_cons_succ]
    refine wpAnyH_ready (rs := [6]) (by kernel_rfl) (by simp) ?_
    refine AllReadyH.cons (o := { dst := some 46, op := Op.buildSlice 62 1 #[(0, Operand.tmp 45)], type := 62, pos := "disk.go:51", after := #[{ on := 5, ground := Ground.data }], guard := none }) rfl (fun K hK => ?_) AllReadyH.nil
    refine wp_value (exec_buildSlice (qs := #[(0, wrV x)]) rfl (by simp [Act.eval]) (run_bs62 _ _)) ?_
    refine hK.out _ _ (WrAt.below hHeld (Below.alloc (Below.refl _ _) (Nat.le_refl _) _)) (fun hHeld => ?_)
    clear hK K
    try simp only [Act.put, List.setIfInBounds_toArray, List.set_cons_zero, List.set_cons_succ]
    refine wpAnyH_ready (rs := [7]) (by kernel_rfl) (by simp) ?_
    refine AllReadyH.cons (o := { dst := some 47, op := Op.call { callee := Callee.builtin Builtin.append, args := #[Operand.tmp 44, Operand.tmp 46], argTypes := #[62, 62] }, type := 62, pos := "disk.go:51", after := #[{ on := 4, ground := Ground.data }, { on := 6, ground := Ground.data }], guard := none }) rfl (fun K hK => ?_) AllReadyH.nil
    refine wp_value (exec_append rfl rfl rfl HR4.out) ?_
    refine hK.out _ _ (HW5.out) (fun hHeld => ?_)
    clear hK K
    try simp only [Act.put, List.setIfInBounds_toArray, List.set_cons_zero, List.set_cons_succ]
    refine wpAnyH_take (i := 8) (oi := { dst := some 48, op := Op.nilCheck (Operand.tmp 40), type := 0, pos := "disk.go:51", after := #[{ on := 0, ground := Ground.data }, { on := 0, ground := Ground.phase }, { on := 1, ground := Ground.phase }, { on := 2, ground := Ground.phase }, { on := 3, ground := Ground.phase }, { on := 4, ground := Ground.phase }, { on := 5, ground := Ground.phase }, { on := 6, ground := Ground.phase }, { on := 7, ground := Ground.phase }], guard := none }) (v := ?v7n5) rfl (by kernel_rfl) (by kernel_rfl) (by kernel_rfl) (fun _ _ _ h => h) (Or.inl ⟨by rfl, ?hy7n5⟩) (by assumption) ?rest7n5
    case hy7n5 => (intro w hSw; (try dsimp only at hSw); go_simp <;> (try with_reducible rfl))
    try simp only [Act.put, List.setIfInBounds_toArray, List.set_cons_zero, List.set_cons_succ]
    refine wpAnyH_take (i := 9) (oi := { dst := some 49, op := Op.fieldAddr 69 (Operand.tmp 48) 1, type := 0, pos := "disk.go:51", after := #[{ on := 8, ground := Ground.data }, { on := 0, ground := Ground.phase }, { on := 1, ground := Ground.phase }, { on := 2, ground := Ground.phase }, { on := 3, ground := Ground.phase }, { on := 4, ground := Ground.phase }, { on := 5, ground := Ground.phase }, { on := 6, ground := Ground.phase }, { on := 7, ground := Ground.phase }], guard := none }) (v := ?v7n6) rfl (by kernel_rfl) (by kernel_rfl) (by kernel_rfl) (fun _ _ _ h => h) (Or.inl ⟨by rfl, ?hy7n6⟩) (by assumption) ?rest7n6
    case hy7n6 => (intro w hSw; (try dsimp only at hSw); go_simp <;> (try with_reducible rfl))
    try simp only [Act.put, List.setIfInBounds_toArray, List.set_cons_zero, List.set_cons_succ]
    refine wpAnyH_ready (rs := [10]) (by kernel_rfl) (by simp) ?_
    refine AllReadyH.cons (o := { dst := none, op := Op.store 62 (Operand.tmp 49) (Operand.tmp 47), type := 0, pos := "disk.go:51", after := #[{ on := 9, ground := Ground.data }, { on := 7, ground := Ground.data }, { on := 7, ground := Ground.chain }, { on := 0, ground := Ground.phase }, { on := 1, ground := Ground.phase }, { on := 2, ground := Ground.phase }, { on := 3, ground := Ground.phase }, { on := 4, ground := Ground.phase }, { on := 5, ground := Ground.phase }, { on := 6, ground := Ground.phase }, { on := 7, ground := Ground.phase }], guard := none }) rfl (fun K hK => ?_) AllReadyH.nil
    refine wp_unit (exec_store rfl rfl rfl (store62 C5.out F5.out _ _ _)) ?_
    refine hK.out _ _ (HW6.out) (fun hHeld => ?_)
    clear hK K
    try simp only [Act.put]
    refine wpAnyH_done (by kernel_rfl) ?_ _
    go_wp2
    go_ret
    exact HE.out
  · refine wp_value (exec_buildSlice (qs := #[(0, wrV x)]) rfl (by simp [Act.eval]) (run_bs62 _ _)) ?_
    refine hK.out _ _ (WrAt.below hHeld (Below.alloc (Below.refl _ _) (Nat.le_refl _) _)) (fun hHeld => ?_)
    clear hK K
    try simp only [Act.put, List.setIfInBounds_toArray, List.set_cons_zero, List.set_cons_succ]
    refine wpAnyH_ready (rs := [4]) (by kernel_rfl) (by simp) ?_
    refine AllReadyH.cons (o := { dst := some 44, op := Op.load 62 (Operand.tmp 43), type := 62, pos := "disk.go:51", after := #[{ on := 3, ground := Ground.data }], guard := none }) rfl (fun K hK => ?_) AllReadyH.nil
    refine wp_value (exec_load rfl rfl (load62 C1b.out)) ?_
    refine hK.out _ _ (hHeld) (fun hHeld => ?_)
    clear hK K
    try simp only [Act.put, List.setIfInBounds_toArray, List.set_cons_zero, List.set_cons_succ]
    refine wpAnyH_ready (rs := [7]) (by kernel_rfl) (by simp) ?_
    refine AllReadyH.cons (o := { dst := some 47, op := Op.call { callee := Callee.builtin Builtin.append, args := #[Operand.tmp 44, Operand.tmp 46], argTypes := #[62, 62] }, type := 62, pos := "disk.go:51", after := #[{ on := 4, ground := Ground.data }, { on := 6, ground := Ground.data }], guard := none }) rfl (fun K hK => ?_) AllReadyH.nil
    refine wp_value (exec_append rfl rfl rfl HR4.out) ?_
    refine hK.out _ _ (HW5.out) (fun hHeld => ?_)
    clear hK K
    try simp only [Act.put, List.setIfInBounds_toArray, List.set_cons_zero, List.set_cons_succ]
    refine wpAnyH_take (i := 8) (oi := { dst := some 48, op := Op.nilCheck (Operand.tmp 40), type := 0, pos := "disk.go:51", after := #[{ on := 0, ground := Ground.data }, { on := 0, ground := Ground.phase }, { on := 1, ground := Ground.phase }, { on := 2, ground := Ground.phase }, { on := 3, ground := Ground.phase }, { on := 4, ground := Ground.phase }, { on := 5, ground := Ground.phase }, { on := 6, ground := Ground.phase }, { on := 7, ground := Ground.phase }], guard := none }) (v := ?v7n7) rfl (by kernel_rfl) (by kernel_rfl) (by kernel_rfl) (fun _ _ _ h => h) (Or.inl ⟨by rfl, ?hy7n7⟩) (by assumption) ?rest7n7
    case hy7n7 => (intro w hSw; (try dsimp only at hSw); go_simp <;> (try with_reducible rfl))
    try simp only [Act.put, List.setIfInBounds_toArray, List.set_cons_zero, List.set_cons_succ]
    refine wpAnyH_take (i := 9) (oi := { dst := some 49, op := Op.fieldAddr 69 (Operand.tmp 48) 1, type := 0, pos := "disk.go:51", after := #[{ on := 8, ground := Ground.data }, { on := 0, ground := Ground.phase }, { on := 1, ground := Ground.phase }, { on := 2, ground := Ground.phase }, { on := 3, ground := Ground.phase }, { on := 4, ground := Ground.phase }, { on := 5, ground := Ground.phase }, { on := 6, ground := Ground.phase }, { on := 7, ground := Ground.phase }], guard := none }) (v := ?v7n8) rfl (by kernel_rfl) (by kernel_rfl) (by kernel_rfl) (fun _ _ _ h => h) (Or.inl ⟨by rfl, ?hy7n8⟩) (by assumption) ?rest7n8
    case hy7n8 => (intro w hSw; (try dsimp only at hSw); go_simp <;> (try with_reducible rfl))
    try simp only [Act.put, List.setIfInBounds_toArray, List.set_cons_zero, List.set_cons_succ]
    refine wpAnyH_ready (rs := [10]) (by kernel_rfl) (by simp) ?_
    refine AllReadyH.cons (o := { dst := none, op := Op.store 62 (Operand.tmp 49) (Operand.tmp 47), type := 0, pos := "disk.go:51", after := #[{ on := 9, ground := Ground.data }, { on := 7, ground := Ground.data }, { on := 7, ground := Ground.chain }, { on := 0, ground := Ground.phase }, { on := 1, ground := Ground.phase }, { on := 2, ground := Ground.phase }, { on := 3, ground := Ground.phase }, { on := 4, ground := Ground.phase }, { on := 5, ground := Ground.phase }, { on := 6, ground := Ground.phase }, { on := 7, ground := Ground.phase }], guard := none }) rfl (fun K hK => ?_) AllReadyH.nil
    refine wp_unit (exec_store rfl rfl rfl (store62 C5.out F5.out _ _ _)) ?_
    refine hK.out _ _ (HW6.out) (fun hHeld => ?_)
    clear hK K
    try simp only [Act.put]
    refine wpAnyH_done (by kernel_rfl) ?_ _
    go_wp2
    go_ret
    exact HE.out
set_option maxHeartbeats 1000000 in
theorem write_arg (base g : Nat) (d : Dk) (i : Int) (A : Option Addr) (nb c : Nat) (w : World) (h : DiskAt w base g d) (hf : fits d i nb = false) :
    Calls Try.prog 20 #[.pointer (some ⟨g, 0, none⟩), .int .i64 i, .slice A nb c] w fun r w' => r = .returned (.int .i64 1) ∧ w = w' := by
  have CH := Lib.hid (has_any base g d i w h)
  unfold fits at hf
  cases hh : has d i with
  | false =>
    rw [hh] at CH
    clear h hf hh
    go_enter Try.func20, Try.ntmps20
    go_wp2_with fail
    refine CH.out.mono ?_
    rintro r w1 ⟨rfl, rfl⟩
    go_wp2
    go_ret
    exact ⟨rfl, rfl⟩
  | true =>
    rw [hh] at CH
    have hn : ¬ nb = 64 := by
      unfold has at hh
      rw [hh] at hf
      simpa using hf
    have hn1 : ¬ (nb : Int) = 64 := by omega
    clear h hf hh hn
    go_enter Try.func20, Try.ntmps20
    go_wp2_with fail
    refine CH.out.mono ?_
    rintro r w1 ⟨rfl, rfl⟩
    go_wp2
    go_ret
    exact ⟨rfl, rfl⟩
theorem write_nil (i : Int) (A : Option Addr) (nb c : Nat) (w : World) : Calls Try.prog 20 #[.pointer none, .int .i64 i, .slice A nb c] w fun r w' => r = .returned (.int .i64 1) ∧ w = w' := by
  go_enter Try.func20, Try.ntmps20
  go_wp2_with fail
  refine (has_nil i w).mono ?_
  rintro r w1 ⟨rfl, rfl⟩
  go_wp2
  go_ret
  exact ⟨rfl, rfl⟩
set_option maxHeartbeats 1000000 in
theorem write_down (base g : Nat) (d : Dk) (k : Nat) (A : Option Addr) (c : Nat) (w : World) (h : DiskAt w base g d) (hs : d.steps ≤ 1000000) (hk : k < d.K.length) (hb : stepB d = false) :
    Calls Try.prog 20 #[.pointer (some ⟨g, 0, none⟩), .int .i64 (k : Int), .slice A 64 c] w (DPost w base g (stepD d) (.int .i64 7)) := by
  have CH := Lib.hid (has_any base g d (k : Int) w h)
  have CS := Lib.hid (step_any base g d w h hs)
  have hh : has d (k : Int) = true := by simp [has, hk]
  rw [hh] at CH
  rw [hb] at CS
  clear h hs hk hb hh
  go_enter Try.func20, Try.ntmps20
  go_wp2_with fail
  refine CH.out.mono ?_
  rintro r w1 ⟨rfl, rfl⟩
  go_wp2_with fail
  refine CS.out.mono ?_
  rintro r w1 ⟨rfl, hd, hf⟩
  have HE : Hid (DPost w base g (stepD d) (.int .i64 7) (.returned (.int .i64 7)) w1) := ⟨rfl, hd, hf⟩
  clear hd hf
  go_wp2
  go_ret
  exact HE.out
theorem write_any (base g : Nat) (d : Dk) (i : Int) (l : List UInt8) (A : Option Addr) (nb c : Nat) (w : World) (h : DiskAt w base g d) (hs : d.steps ≤ 1000000) (hp : d.ps.length ≤ 100000) (hl : l.length = nb) (hbs : base ≤ w.heap.size)
    (hAf : ∀ w', Fr kD [] base w w' → Sl eBy w' A l) :
    Calls Try.prog 20 #[.pointer (some ⟨g, 0, none⟩), .int .i64 i, .slice A nb c] w (DPost w base g (writeD d i l) (.int .i64 (writeR d i l))) := by
  unfold writeD writeR
  rw [hl]
  cases hf : fits d i nb with
  | false =>
    simp only [Bool.false_eq_true, if_false]
    refine (write_arg base g d i A nb c w h hf).mono ?_
    rintro r w' ⟨rfl, rfl⟩
    exact ⟨rfl, h, Fr.refl _ _ _ _⟩
  | true =>
    unfold fits at hf
    simp only [Bool.and_eq_true, decide_eq_true_eq] at hf
    obtain ⟨⟨h0, h1⟩, h2⟩ := hf
    obtain ⟨k, rfl⟩ : ∃ k : Nat, i = (k : Int) := ⟨i.toNat, by omega⟩
    have hk : k < d.K.length := by omega
    rw [Int.toNat_natCast]
    subst h2
    simp only [if_true]
    cases hb : stepB d with
    | false =>
      simp only [Bool.false_eq_true, if_false]
      exact write_down base g d k A c w h hs hk hb
    | true =>
      simp only [if_true]
      exact write_ok base g d k l A c w h hs hp hk hl hb hbs hAf
end Go.Proofs.Ytppdckncnfffcaa
