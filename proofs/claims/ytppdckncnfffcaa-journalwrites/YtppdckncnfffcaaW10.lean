/-
  The contract of Crash. Its conditions: the disk and the choices lie in memory, the disk has no more pending writes than a bound.
-/
import Derived.Test.YtppdckncnfffcaaW9
namespace Go.Proofs.Ytppdckncnfffcaa
open Go.RowKit
set_option maxRecDepth 100000
open Go.Sort (grow)

section
variable {P : Program} {w w' : World} {o : Oper} {a : Act} {v : Value}
theorem exec_slice {ty : TypeId} {x : Operand} {lo hi mx : Option Operand} {p : Value} {l h m : Option Value} (ho : o.op = .slice ty x lo hi mx) (hx : a.eval x = p) (hl : lo.map a.eval = l) (hh : hi.map a.eval = h) (hm : mx.map a.eval = m) (hr : (Instr.sliceAt ty p l h m).run P w = .ok v w') : (execOp a.eval o).run P w = .ok (.value v) w' := by
  unfold execOp
  simp only [ho, hx, hl, hh, hm, Sem.run_bind, hr, Result.andThen_ok, Sem.run_pure]
end
theorem slice72 (b o N : Nat) (hN : N ≤ 64) (w : World) : (Instr.sliceAt 86 (.pointer (some ⟨b, o, none⟩)) none (some (.int .i64 (N : Int))) none).run Try.prog w = .ok (.slice (some ⟨b, o, none⟩) N 64) w := by
  have h1 : (N : Int) ≤ 64 := by omega
  have h2 : (0 : Int) ≤ (N : Int) := by omega
  simp [go_sem, h1, h2, addr_at]
  try omega
theorem at_by {w : World} {A : Option Addr} {l : List UInt8} (h : Sl eBy w A l) {k : Nat} (hk : k < l.length) : ∃ b off, A = some ⟨b, off, none⟩ ∧ b < w.heap.size ∧ w.cell? ⟨b, off + k, none⟩ = some (.int .u8 (l[k].toNat : Int)) := by
  obtain ⟨b, off, hA, hb, hc⟩ := h.at_ hk
  have := hc 0 _ rfl
  rw [show eBy.wd = 1 from rfl, Nat.mul_one] at this
  exact ⟨b, off, hA, hb, this⟩
/-- A crash under way. -/
structure CrI (base g B n : Nat) (pv : Value) (d : Dk) (cs : List UInt8) (w : World) (k : Nat) (wr : World) : Prop where
  box : Box wr g B n pv d.fuse d.down d.steps
  sec : Sects wr B (crashN d.K d.ps cs k)
  row : RowT eWr 88 wr base pv (wrs d.K d.ps)
  fr : Fr [86] [] base w wr
set_option maxRecDepth 100000 in
set_option maxHeartbeats 4000000 in
theorem crash_any (base g : Nat) (d : Dk) (cs : List UInt8) (C : Option Addr) (nc cc : Nat) (w : World) (h : DiskAt w base g d) (hl : cs.length = nc) (hp : d.ps.length ≤ 100000) (hbs : base ≤ w.heap.size) (hC : ∀ w', Fr kD [] base w w' → Sl eBy w' C cs) :
    Calls Try.prog 30 #[.pointer (some ⟨g, 0, none⟩), .slice C nc cc] w (DPost w base g (crashD d cs) (.tuple #[])) := by
  obtain ⟨B, pv, hb, hS, hR, hB⟩ := h.ex
  have hbg := h.bg
  have hgc := Lib.hid (h.good.crash cs)
  have hpl := h.good.pl
  obtain ⟨A, c, rfl, _⟩ := hR.form
  have CT := Lib.hid (takeBack_any base g B d.K.length _ d.fuse d.steps d.down (seen d.K d.ps) (wrs d.K d.ps) w hb hS hR (fun x hx => by
    obtain ⟨k, hk⟩ := List.getElem?_of_mem hx
    have := hpl _ (List.mem_of_getElem? (wrs_at hk))
    rw [seen_length]
    exact this) (seen_length _ _).symm hB hbs (by rw [wrs_length]; omega))
  obtain ⟨m, hm⟩ : ∃ m, m = (wrs d.K d.ps).length := ⟨_, rfl⟩
  have hmp : m = d.ps.length := by rw [hm, wrs_length]
  obtain ⟨n, hn⟩ : ∃ n, n = d.K.length := ⟨_, rfl⟩
  rw [← hm, ← hn] at hb
  rw [← hm] at hR
  have HB := Lib.hid hb
  have HR := Lib.hid hR
  have HM := Lib.hid hm
  have HMP := Lib.hid hmp
  have HN := Lib.hid hn
  have HBB := Lib.hid hB
  have HBG := Lib.hid hbg
  have HBS := Lib.hid hbs
  have HC := Lib.hid hC
  have HL := Lib.hid hl
  have HPL := Lib.hid hpl
  have HPB := Lib.hid hp
  clear hb hS hR hB hbg hpl hm hmp hn hbs hC hl h hp
  go_enter Try.func30, Try.ntmps30
  go_wp2_with fail
  refine CT.out.mono ?_
  rintro r w1 ⟨⟨v, rfl⟩, hS1, hf1⟩
  rw [undo_seen] at hS1
  have HI0 : Hid (CrI base g B n (.slice A m c) d cs w 0 w1) := ⟨hf1.keep g _ HB.out (by simp [kd]) (by simp), hS1, HR.out.fr hf1 (by simp) (by simp), hf1⟩
  have c1 := HI0.out.box.c1
  clear hS1 hf1 CT
  go_wp2_with fail
  clear c1
  go_loopw [16] (fun s16 wr => ∃ k : Nat, k ≤ m ∧ s16 = .int .i64 (k : Int) ∧ CrI base g B n (.slice A m c) d cs w k wr) (fun s _ => m - (intOf s).toNat)
  case atStart => exact ⟨0, Nat.zero_le _, rfl, HI0.out⟩
  case round =>
    obtain ⟨k, hk, rfl, hi⟩ := hrel
    have HI := Lib.hid hi
    clear hi HI0
    by_cases hlt : k < m
    · have hkl : k < (wrs d.K d.ps).length := by rw [← HM.out]; exact hlt
      obtain ⟨b, c2, hv, hrg⟩ := HI.out.row.wr hkl (by rw [wrs_length]; have := HPB.out; unfold maxLen; omega)
      injection hv with e1 e2 e3
      subst e1 e3
      clear e2
      have hx := wrs_at (List.getElem?_eq_getElem hkl)
      have HST := Lib.hid (crashN_step cs (K := d.K) hx)
      have HPx : Hid ((wrs d.K d.ps)[k].p < n) := by
        show _ < _
        rw [HN.out]
        exact HPL.out _ (List.mem_of_getElem? hx)
      generalize (wrs d.K d.ps)[k] = x at hrg HST HPx hx
      simp only at HST
      have HW := Lib.hid hrg
      have HP := HPx
      have HPS : Hid (x.p < (crashN d.K d.ps cs k).length) := by
        show _ < _
        rw [crashN_length, ← HN.out]
        exact HPx.out
      have bA : Below wr.heap.size wr (wr.alloc (.cells (eWr.f x).toArray 88)) := Below.alloc (Below.refl _ _) (Nat.le_refl _) _
      have hbw : base ≤ wr.heap.size := Nat.le_trans HBS.out HI.out.fr.size
      obtain ⟨W1, hW1⟩ : ∃ W1, W1 = wr.alloc (.cells (eWr.f x).toArray 88) := ⟨_, rfl⟩
      have HIA : Hid (CrI base g B n (.slice (some ⟨b, 0, none⟩) m c) d cs w k W1) := by rw [hW1]; exact ⟨HI.out.box.below bA, HI.out.sec.below bA, HI.out.row.below bA, HI.out.fr.trans (Fr.of_below bA hbw)⟩
      obtain ⟨q, hq⟩ : ∃ q, q = wr.heap.size := ⟨_, rfl⟩
      have HQ : Hid (WrAt W1 q x) := by rw [hW1, hq]; exact heap_new _ _
      have HWW : Hid (wr.alloc (.cells (eWr.f x).toArray 88) = W1) := hW1.symm
      have HQQ : Hid (wr.heap.size = q) := hq.symm
      have hlti : (k : Int) < (m : Int) := by omega
      have hk0 : (0 : Int) ≤ (k : Int) := by omega
      have HKM : Hid (k + 1 ≤ m) := hlt
      have hmi : (m : Int) ≤ 100000 := by rw [HMP.out]; have := HPB.out; omega
      have hSl := HC.out W1 (HIA.out.fr.mono (by simp) (by simp))
      by_cases hc : k < nc
      · have hkc : k < cs.length := by rw [HL.out]; exact hc
        obtain ⟨bC, oC, rfl, _, dC⟩ := at_by hSl hkc
        have hci : (k : Int) < (nc : Int) := by omega
        obtain ⟨y, hy⟩ : ∃ y, y = cs[k].toNat := ⟨_, rfl⟩
        have hyl : y < 256 := by rw [hy]; exact UInt8.toNat_lt _
        have hpk : pick cs k = y % 65 := by rw [pick_some hkc, hy]
        rw [← hy] at dC
        obtain ⟨N, hN⟩ : ∃ N, N = y % 65 := ⟨_, rfl⟩
        have HN64 : Hid (N ≤ 64) := by
          show _ ≤ _
          omega
        rw [hpk, ← hN] at HST
        have hrem : ((y : Int)).tmod 65 = (N : Int) := by rw [Int.tmod_eq_emod_of_nonneg (by omega), hN]; omega
        have hy0 : (0 : Int) ≤ (y : Int) := by omega
        have hy1 : (y : Int) ≤ 255 := by omega
        have HH : Hid (Box W1.drew g B n (.slice (some ⟨b, 0, none⟩) m c) d.fuse d.down d.steps ∧ WrAt W1.drew q x) := ⟨HIA.out.box.below (Below.refl _ _).drew, HQ.out.below (Below.refl _ _).drew⟩
        have hS2 : Sects W1.drew B (crashN d.K d.ps cs k) := HIA.out.sec.below (Below.refl _ _).drew
        have HS2 := Lib.hid hS2
        have HQ2 : Hid (W1.drew.rangeAt q 65 (eSec.f x.n)) := HH.out.2.new
        have hbw1 : base ≤ W1.heap.size := Nat.le_trans HBS.out HIA.out.fr.size
        have fr : Fr [86] [] base W1 (W1.drew.setRow B (eSec.vals ((crashN d.K d.ps cs k).set x.p (lay (at_ (crashN d.K d.ps cs k) x.p) x.n N))).toArray) :=
          Fr.row (Fr.of_below (Below.refl _ _).drew hbw1) hS2 (.inl (by simp [kd])) HBB.out _
        have HIN : Hid (CrI base g B n (.slice (some ⟨b, 0, none⟩) m c) d cs w (k + 1) (W1.drew.setRow B (eSec.vals ((crashN d.K d.ps cs k).set x.p (lay (at_ (crashN d.K d.ps cs k) x.p) x.n N))).toArray)) :=
          ⟨fr.keep g _ HIA.out.box (by simp [kd]) (by simp), by rw [HST.out]; exact hS2.set _, HIA.out.row.fr fr (by simp) (by simp), HIA.out.fr.trans fr⟩
        have HS3 : Hid (Box (W1.drew.setRow B (eSec.vals ((crashN d.K d.ps cs k).set x.p (lay (at_ (crashN d.K d.ps cs k) x.p) x.n N))).toArray) g B n (.slice (some ⟨b, 0, none⟩) m c) d.fuse d.down d.steps ∧ WrAt (W1.drew.setRow B (eSec.vals ((crashN d.K d.ps cs k).set x.p (lay (at_ (crashN d.K d.ps cs k) x.p) x.n N))).toArray) q x) :=
          ⟨HIN.out.box, fr.keep q _ HQ.out (by simp [kd]) (by simp)⟩
        clear hlt hkl hx hrg bA hbw hq hSl hc hkc hy hyl hpk hN hS2 hbw1 fr hW1 hk
        go_wp2_with (first
          | (refine wpList_value rfl (exec_load rfl rfl (load74 HW.out)) ?_)
          | (refine wpList_value rfl (exec_alloc rfl (run_alloc74 _)) ?_)
          | (refine wpList_unit rfl (exec_store rfl rfl rfl (store74new _ _ x)) ?_; rw [HWW.out, HQQ.out]))
        refine wp_region_held_drew (S := fun w' => Box w' g B n (.slice (some ⟨b, 0, none⟩) m c) d.fuse d.down d.steps ∧ WrAt w' q x) (by kernel_rfl) (HH.out) (fun hHeld => ?_)
        refine wpAnyH_take (i := 0) (oi := { dst := some 31, op := Op.move (Operand.tmp 0), type := 24, pos := "disk.go:92", after := #[], guard := none }) (v := ?v7n1) rfl (by kernel_rfl) (by kernel_rfl) (by kernel_rfl) (fun _ _ _ h => h) (Or.inl ⟨by rfl, ?hy7n1⟩) (by assumption) ?rest7n1
        case hy7n1 => (intro w hSw; (try dsimp only at hSw); have q1 := hSw.1.c0; have q2 := hSw.2.place; go_simp <;> (try with_reducible rfl))
        try simp only [Act.put, List.setIfInBounds_toArray, List.set_cons_zero, List.set_cons_succ]
        refine wpAnyH_take (i := 1) (oi := { dst := some 32, op := Op.nilCheck (Operand.tmp 31), type := 0, pos := "disk.go:92", after := #[{ on := 0, ground := Ground.data }], guard := none }) (v := ?v7n2) rfl (by kernel_rfl) (by kernel_rfl) (by kernel_rfl) (fun _ _ _ h => h) (Or.inl ⟨by rfl, ?hy7n2⟩) (by assumption) ?rest7n2
        case hy7n2 => (intro w hSw; (try dsimp only at hSw); have q1 := hSw.1.c0; have q2 := hSw.2.place; go_simp <;> (try with_reducible rfl))
        try simp only [Act.put, List.setIfInBounds_toArray, List.set_cons_zero, List.set_cons_succ]
        refine wpAnyH_take (i := 2) (oi := { dst := some 33, op := Op.fieldAddr 69 (Operand.tmp 32) 0, type := 0, pos := "disk.go:92", after := #[{ on := 1, ground := Ground.data }], guard := none }) (v := ?v7n3) rfl (by kernel_rfl) (by kernel_rfl) (by kernel_rfl) (fun _ _ _ h => h) (Or.inl ⟨by rfl, ?hy7n3⟩) (by assumption) ?rest7n3
        case hy7n3 => (intro w hSw; (try dsimp only at hSw); have q1 := hSw.1.c0; have q2 := hSw.2.place; go_simp <;> (try with_reducible rfl))
        try simp only [Act.put, List.setIfInBounds_toArray, List.set_cons_zero, List.set_cons_succ]
        refine wpAnyH_take (i := 3) (oi := { dst := some 34, op := Op.load 61 (Operand.tmp 33), type := 61, pos := "disk.go:92", after := #[{ on := 2, ground := Ground.data }], guard := none }) (v := ?v7n4) rfl (by kernel_rfl) (by kernel_rfl) (by kernel_rfl) (fun _ _ _ h => h) (Or.inl ⟨by rfl, ?hy7n4⟩) (by assumption) ?rest7n4
        case hy7n4 => (intro w hSw; (try dsimp only at hSw); have q1 := hSw.1.c0; have q2 := hSw.2.place; go_simp <;> (try with_reducible rfl))
        try simp only [Act.put, List.setIfInBounds_toArray, List.set_cons_zero, List.set_cons_succ]
        refine wpAnyH_take (i := 4) (oi := { dst := some 35, op := Op.fieldAddr 88 (Operand.tmp 5) 0, type := 0, pos := "disk.go:92", after := #[], guard := none }) (v := ?v7n5) rfl (by kernel_rfl) (by kernel_rfl) (by kernel_rfl) (fun _ _ _ h => h) (Or.inl ⟨by rfl, ?hy7n5⟩) (by assumption) ?rest7n5
        case hy7n5 => (intro w hSw; (try dsimp only at hSw); have q1 := hSw.1.c0; have q2 := hSw.2.place; go_simp <;> (try with_reducible rfl))
        try simp only [Act.put, List.setIfInBounds_toArray, List.set_cons_zero, List.set_cons_succ]
        refine wpAnyH_take (i := 5) (oi := { dst := some 36, op := Op.load 3 (Operand.tmp 35), type := 3, pos := "disk.go:92", after := #[{ on := 4, ground := Ground.data }], guard := none }) (v := ?v7n6) rfl (by kernel_rfl) (by kernel_rfl) (by kernel_rfl) (fun _ _ _ h => h) (Or.inl ⟨by rfl, ?hy7n6⟩) (by assumption) ?rest7n6
        case hy7n6 => (intro w hSw; (try dsimp only at hSw); have q1 := hSw.1.c0; have q2 := hSw.2.place; go_simp <;> (try with_reducible rfl))
        try simp only [Act.put, List.setIfInBounds_toArray, List.set_cons_zero, List.set_cons_succ]
        refine wpAnyH_take (i := 6) (oi := { dst := some 37, op := Op.indexAddr 61 (Operand.tmp 34) (Operand.tmp 36), type := 0, pos := "disk.go:92", after := #[{ on := 3, ground := Ground.data }, { on := 5, ground := Ground.data }], guard := none }) (v := Value.pointer (some ⟨B, x.p * 64, none⟩)) rfl (by kernel_rfl) (by kernel_rfl) (by kernel_rfl) (fun _ _ _ h => h) (Or.inl ⟨by rfl, fun w hSw => exec_index rfl rfl rfl (idx64 B x.p n HP.out w)⟩) (by assumption) ?_
        try simp only [Act.put, List.setIfInBounds_toArray, List.set_cons_zero, List.set_cons_succ]
        refine wpAnyH_take (i := 7) (oi := { dst := some 38, op := Op.move (Operand.tmp 6), type := 3, pos := "disk.go:92", after := #[], guard := none }) (v := ?v7n7) rfl (by kernel_rfl) (by kernel_rfl) (by kernel_rfl) (fun _ _ _ h => h) (Or.inl ⟨by rfl, ?hy7n7⟩) (by assumption) ?rest7n7
        case hy7n7 => (intro w hSw; (try dsimp only at hSw); have q1 := hSw.1.c0; have q2 := hSw.2.place; go_simp <;> (try with_reducible rfl))
        try simp only [Act.put, List.setIfInBounds_toArray, List.set_cons_zero, List.set_cons_succ]
        refine wpAnyH_take (i := 8) (oi := { dst := some 39, op := Op.slice 86 (Operand.tmp 37) none (some (Operand.tmp 38)) none, type := 38, pos := "disk.go:92", after := #[{ on := 6, ground := Ground.data }, { on := 7, ground := Ground.data }], guard := none }) (v := Value.slice (some ⟨B, x.p * 64, none⟩) N 64) rfl (by kernel_rfl) (by kernel_rfl) (by kernel_rfl) (fun _ _ _ h => h) (Or.inl ⟨by rfl, fun w hSw => exec_slice rfl rfl rfl (by simp [Act.eval]) rfl (slice72 _ _ _ HN64.out w)⟩) (by assumption) ?_
        try simp only [Act.put, List.setIfInBounds_toArray, List.set_cons_zero, List.set_cons_succ]
        refine wpAnyH_take (i := 9) (oi := { dst := some 40, op := Op.fieldAddr 88 (Operand.tmp 5) 2, type := 0, pos := "disk.go:92", after := #[], guard := none }) (v := ?v7n8) rfl (by kernel_rfl) (by kernel_rfl) (by kernel_rfl) (fun _ _ _ h => h) (Or.inl ⟨by rfl, ?hy7n8⟩) (by assumption) ?rest7n8
        case hy7n8 => (intro w hSw; (try dsimp only at hSw); have q1 := hSw.1.c0; have q2 := hSw.2.place; go_simp <;> (try with_reducible rfl))
        try simp only [Act.put, List.setIfInBounds_toArray, List.set_cons_zero, List.set_cons_succ]
        refine wpAnyH_take (i := 10) (oi := { dst := some 41, op := Op.move (Operand.tmp 6), type := 3, pos := "disk.go:92", after := #[], guard := none }) (v := ?v7n9) rfl (by kernel_rfl) (by kernel_rfl) (by kernel_rfl) (fun _ _ _ h => h) (Or.inl ⟨by rfl, ?hy7n9⟩) (by assumption) ?rest7n9
        case hy7n9 => (intro w hSw; (try dsimp only at hSw); have q1 := hSw.1.c0; have q2 := hSw.2.place; go_simp <;> (try with_reducible rfl))
        try simp only [Act.put, List.setIfInBounds_toArray, List.set_cons_zero, List.set_cons_succ]
        refine wpAnyH_take (i := 11) (oi := { dst := some 42, op := Op.slice 86 (Operand.tmp 40) none (some (Operand.tmp 41)) none, type := 38, pos := "disk.go:92", after := #[{ on := 9, ground := Ground.data }, { on := 10, ground := Ground.data }], guard := none }) (v := Value.slice (some ⟨q, 65, none⟩) N 64) rfl (by kernel_rfl) (by kernel_rfl) (by kernel_rfl) (fun _ _ _ h => h) (Or.inl ⟨by rfl, fun w hSw => exec_slice rfl rfl rfl (by simp [Act.eval]) rfl (slice72 _ _ _ HN64.out w)⟩) (by assumption) ?_
        try simp only [Act.put, List.setIfInBounds_toArray, List.set_cons_zero, List.set_cons_succ]
        refine wpAnyH_ready (rs := [12]) (by kernel_rfl) (by simp) ?_
        refine AllReadyH.cons (o := { dst := some 43, op := Op.call { callee := Callee.builtin Builtin.copy, args := #[Operand.tmp 39, Operand.tmp 42], argTypes := #[38, 38] }, type := 3, pos := "disk.go:92", after := #[{ on := 8, ground := Ground.data }, { on := 11, ground := Ground.data }], guard := none }) rfl (fun K hK => ?_) AllReadyH.nil
        refine wp_value (exec_copy rfl rfl rfl (Sects.copy HS2.out HPS.out x.n HN64.out HQ2.out _)) ?_
        refine hK.out _ _ (HS3.out) (fun hHeld => ?_)
        clear hK K
        try simp only [Act.put, List.setIfInBounds_toArray, List.set_cons_zero, List.set_cons_succ]
        refine wpAnyH_done (by kernel_rfl) ?_ _
        go_wp2
        go_roundw
        case rel => exact ⟨k + 1, HKM.out, by go_num, HIN.out⟩
        case measure => simp [intOf]; omega
      · have hci : ¬ (k : Int) < (nc : Int) := by omega
        have HIN : Hid (CrI base g B n (.slice (some ⟨b, 0, none⟩) m c) d cs w (k + 1) W1) := ⟨HIA.out.box, by rw [crashN_skip (by rw [HL.out]; omega)]; exact HIA.out.sec, HIA.out.row, HIA.out.fr⟩
        clear hlt hkl hx hrg bA hbw hq hSl hc hW1 hk
        go_wp2_with (first
          | (refine wpList_value rfl (exec_load rfl rfl (load74 HW.out)) ?_)
          | (refine wpList_value rfl (exec_alloc rfl (run_alloc74 _)) ?_)
          | (refine wpList_unit rfl (exec_store rfl rfl rfl (store74new _ _ x)) ?_; rw [HWW.out, HQQ.out]))
        go_roundw
        case rel => exact ⟨k + 1, HKM.out, by go_num, HIN.out⟩
        case measure => simp [intOf]; omega
    · have hlti : ¬ (k : Int) < (m : Int) := by omega
      have hkm : k = m := by omega
      have b0 := HI.out.box
      have b1 := b0.set1 (.slice none 0 0)
      have b2 := b1.set2 (-1)
      have b3 := b2.set3 false
      have f1 : Fr [69] [] base wr (wr.setCell ⟨g, 1, none⟩ (.slice none 0 0)) := (Fr.refl _ _ _ _).set b0 (.inl (by simp [kd])) HBG.out _
      have f2 : Fr [69] [] base wr ((wr.setCell ⟨g, 1, none⟩ (.slice none 0 0)).setCell ⟨g, 2, none⟩ (.int .i64 (-1))) := f1.set b1 (.inl (by simp [kd])) HBG.out _
      have f3 : Fr [69] [] base wr (((wr.setCell ⟨g, 1, none⟩ (.slice none 0 0)).setCell ⟨g, 2, none⟩ (.int .i64 (-1))).setCell ⟨g, 3, none⟩ (.bool false)) := f2.set b2 (.inl (by simp [kd])) HBG.out _
      have HE : Hid (DPost w base g (crashD d cs) (.tuple #[]) (.returned (.tuple #[])) (((wr.setCell ⟨g, 1, none⟩ (.slice none 0 0)).setCell ⟨g, 2, none⟩ (.int .i64 (-1))).setCell ⟨g, 3, none⟩ (.bool false))) := by
        refine ⟨rfl, ⟨⟨B, .slice none 0 0, ?_, ?_, RowT.nil _, HBB.out⟩, HBG.out, hgc.out⟩, (HI.out.fr.mono (by simp) (by simp)).trans (f3.mono (by simp) (by simp))⟩
        · show Box _ g B (crashN d.K d.ps cs d.ps.length).length _ _ _ _
          rw [crashN_length, ← HN.out]
          exact b3
        · have := HI.out.sec.fr f3 (by simp) (by simp)
          rw [hkm, HMP.out] at this
          exact this
      have c1 := b0.c1
      have c2 := b0.c2
      have c3 := b0.c3
      have z1 := b0.frozen 1
      have z2 := b0.frozen 2
      have z3 := b0.frozen 3
      clear b0 b1 b2 b3 f1 f2 f3 hkm hk hlt
      go_wp2
      go_end0
      exact HE.out
theorem crash_nil (C : Option Addr) (nc cc : Nat) (w : World) : Calls Try.prog 30 #[.pointer none, .slice C nc cc] w fun r w' => r = .returned (.tuple #[]) ∧ w = w' := by
  go_enter Try.func30, Try.ntmps30
  go_wp2
  first
    | (go_end0; exact ⟨rfl, rfl⟩)
    | (refine bodyPost_ret (results_none rfl _ _ _) rfl ?_; exact ⟨rfl, rfl⟩)
end Go.Proofs.Ytppdckncnfffcaa
