/-
  DiskReads' walk. Its conditions: none.
-/
import Derived.Test.YtghfhjeaiiianaaW16
namespace Go.Proofs.Ytghfhjeaiiianaa
open Go.RowKit Go.Maps
open Go.Sort (grow)

set_option maxRecDepth 100000 in
set_option maxHeartbeats 8000000 in
theorem reads_walk (f : Int) (l : List Pt) (A : Option Addr) (m c : Nat) (w : World) (hf : 0 ≤ f ∧ f ≤ 255) (hl : Sl ePt w A l) (hn : l.length = m) :
    Calls Try.prog 5 #[.int .u8 f, .slice A m c] w fun e w' => e = .returned (.bool true) ∧ Below w.heap.size w w' := by
  obtain ⟨hf0, hf1⟩ := hf
  obtain ⟨r0, hr0⟩ : ∃ r0 : Nat, (r0 : Int) = f.tmod 20 := ⟨(f.tmod 20).toNat, by
    rw [Int.tmod_eq_emod_of_nonneg hf0]
    omega⟩
  have hr1 : r0 < 20 := by
    have := Int.tmod_eq_emod_of_nonneg (b := 20) hf0
    omega
  have hrem : f.tmod 20 = (r0 : Int) := hr0.symm
  obtain ⟨n, hn'⟩ : ∃ n, n = 1 + r0 := ⟨_, rfl⟩
  have hadd : IntKind.i64.wrap (1 + (r0 : Int)) = (n : Int) := by rw [IntWalk.i64_in _ (by omega)]; omega
  have hn1 : 1 ≤ n := by omega
  have hn20 : n ≤ 20 := by omega
  have HN1 := Lib.hid hn1
  have HN20 := Lib.hid hn20
  have HL := Lib.hid hl
  have HN := Lib.hid hn
  have hni : (n : Int) ≤ 20 := by omega
  have hni1 : (1 : Int) ≤ (n : Int) := by omega
  have hmm := @run_makeMap Try.prog
  clear hr0 hl hn hn' hr1 hn1 hn20
  go_enter Try.func5, Try.ntmps5
  go_wp2_with fail
  refine (awake_any w).mono ?_
  rintro r w1 ⟨rfl, b1⟩
  go_wp2_with fail
  refine (st_new (w0 := w) n HN1.out (by have := HN20.out; omega) b1).mono ?_
  rintro r w2 ⟨g, rfl, s2, _⟩
  have hMM := MapM.made w2
  have S3 := Lib.hid (s2.below (Below.alloc (Below.refl _ _) (Nat.le_refl _) (.map #[] 0)))
  have HM0 : Hid (w.heap.size ≤ w2.heap.size) := s2.bel.size
  have HMM := Lib.hid hMM
  clear b1 s2 hMM
  go_wp2
  obtain ⟨M, hM⟩ : ∃ M, M = w2.heap.size := ⟨_, rfl⟩
  rw [← hM] at HMM HM0 ⊢
  clear hM
  go_loopw [9, 10] (fun s9 s10 wr => ∃ (i : Nat) (d : Dk) (F : Nat → Option Pt), i ≤ 100 ∧ i ≤ m ∧ s10 = .int .i64 (i : Int) ∧ St w wr g d ∧ RI n i d F ∧ MapM wr M F i ∧ RowT eBy 5 wr w.heap.size s9 (List.replicate i 64)) (fun _ s _ => 100 - (intOf s).toNat)
  case atStart => exact ⟨0, _, _, by omega, by omega, rfl, S3.out, RI.start n, HMM.out, RowT.nil _⟩
  case round =>
    obtain ⟨i, d, F, hi, him, rfl, hs, hri, hmp, hrw⟩ := hrel
    obtain ⟨A3, c3, hv3, _⟩ := hrw.form
    rw [List.length_replicate] at hv3
    subst hv3
    have HS := Lib.hid hs
    have HRI := Lib.hid hri
    have HMP := Lib.hid hmp
    have HRW := Lib.hid hrw
    have HI : Hid (i ≤ 100) := hi
    clear S3 HMM hs hri hmp
    by_cases hlt : i < m ∧ i < 100
    · obtain ⟨h1, h2⟩ := hlt
      have h1i : (i : Int) < (m : Int) := by omega
      have h2i : (i : Int) < 100 := by omega
      have hi0 : (0 : Int) ≤ (i : Int) := by omega
      have hil : i < l.length := by rw [HN.out]; exact h1
      have HK : Hid (i + 1 ≤ 100 ∧ i + 1 ≤ m) := ⟨h2, h1⟩
      obtain ⟨b, off, rfl, hbw, d0, d1, d2⟩ := at_pt (HL.out.below (Nat.le_refl _) HS.out.bel) hil
      generalize l[i] = x at d0 d1 d2
      -- the Put's place
      obtain ⟨u, hu⟩ : ∃ u, u = (x.a % 18446744073709551616).toNat := ⟨_, rfl⟩
      have hw1 : IntKind.u64.wrap x.a = (u : Int) := by rw [hu]; exact u_wrap _
      have hw1b : IntKind.u64.wrap (n : Int) = (n : Int) := by show (n : Int) % 18446744073709551616 = _; omega
      obtain ⟨j, hj⟩ : ∃ j, j = u % n := ⟨_, rfl⟩
      have hjn : j < n := by rw [hj]; exact Nat.mod_lt _ HN1.out
      have hw2 : ((u : Int)).tmod (n : Int) = (j : Int) := by rw [Int.tmod_eq_emod_of_nonneg (by omega), hj]; exact (Int.natCast_emod u n).symm
      have hw3 : IntKind.i64.wrap (j : Int) = (j : Int) := IntWalk.i64_in _ (by have := HN20.out; omega)
      have HJ : Hid (j < n) := hjn
      have hu0 : (0 : Int) ≤ (u : Int) := by omega
      have hn0 : ¬ (n : Int) = 0 := by have := HN1.out; omega
      obtain ⟨z, hz⟩ : ∃ z, z = x.f.toNat := ⟨_, rfl⟩
      rw [← hz] at d1
      have HZ := Lib.hid hz
      obtain ⟨W1, hW1⟩ : ∃ W1, W1 = wr.alloc (.cells #[.int .i64 (j : Int), .int .u8 (z : Int), .bool x.s] 56) := ⟨_, rfl⟩
      obtain ⟨q, hq⟩ : ∃ q, q = wr.heap.size := ⟨_, rfl⟩
      have bw : Below wr.heap.size wr W1 := by rw [hW1]; exact Below.alloc (Below.refl _ _) (Nat.le_refl _) _
      have HBX : Hid (W1.heap[q]? = some (.cells #[.int .i64 (j : Int), .int .u8 (z : Int), .bool x.s] 56 (0, 0))) := by rw [hW1, hq]; exact heap_new _ _
      have S1 := Lib.hid (HS.out.below bw)
      have M1 := Lib.hid (HMP.out.below bw)
      have R1 := Lib.hid (HRW.out.below bw)
      have HW1 := Lib.hid hW1
      have HQ := Lib.hid hq
      clear hu hj hjn hz hW1 hq bw hil hbw hi him h1 h2 HS HMP HRW hrw
      go_wp2_with fail
      rw [← HQ.out, ← HW1.out]
      refine wp_region_held_drew (S := fun w' => w'.heap[q]? = some (.cells #[.int .i64 (j : Int), .int .u8 (z : Int), .bool x.s] 56 (0, 0))) (by kernel_rfl) (HBX.out) (fun hHeld => ?_)
      refine wpAnyH_take (i := 0) (oi := { dst := some 60, op := Op.move (Operand.tmp 6), type := 24, pos := "more.go:41", after := #[], guard := none }) (v := ?vq14n1) rfl (by kernel_rfl) (by kernel_rfl) (by kernel_rfl) (fun _ _ _ h => h) (Or.inl ⟨by rfl, ?hyq14n1⟩) (by assumption) ?restq14n1
      case hyq14n1 => (intro w hSw; (try dsimp only at hSw); have q0 := cell_of hSw 0; have q1 := cell_of hSw 1; have q2 := cell_of hSw 2; simp only [List.getElem?_toArray, List.getElem?_cons_zero, List.getElem?_cons_succ] at q0 q1 q2; go_simp <;> (try with_reducible rfl))
      try simp only [Act.put, List.setIfInBounds_toArray, List.set_cons_zero, List.set_cons_succ]
      refine wpAnyH_take (i := 1) (oi := { dst := some 61, op := Op.fieldAddr 56 (Operand.tmp 11) 0, type := 0, pos := "more.go:41", after := #[], guard := none }) (v := ?vq14n2) rfl (by kernel_rfl) (by kernel_rfl) (by kernel_rfl) (fun _ _ _ h => h) (Or.inl ⟨by rfl, ?hyq14n2⟩) (by assumption) ?restq14n2
      case hyq14n2 => (intro w hSw; (try dsimp only at hSw); have q0 := cell_of hSw 0; have q1 := cell_of hSw 1; have q2 := cell_of hSw 2; simp only [List.getElem?_toArray, List.getElem?_cons_zero, List.getElem?_cons_succ] at q0 q1 q2; go_simp <;> (try with_reducible rfl))
      try simp only [Act.put, List.setIfInBounds_toArray, List.set_cons_zero, List.set_cons_succ]
      refine wpAnyH_take (i := 2) (oi := { dst := some 62, op := Op.load 3 (Operand.tmp 61), type := 3, pos := "more.go:41", after := #[{ on := 1, ground := Ground.data }], guard := none }) (v := ?vq14n3) rfl (by kernel_rfl) (by kernel_rfl) (by kernel_rfl) (fun _ _ _ h => h) (Or.inl ⟨by rfl, ?hyq14n3⟩) (by assumption) ?restq14n3
      case hyq14n3 => (intro w hSw; (try dsimp only at hSw); have q0 := cell_of hSw 0; have q1 := cell_of hSw 1; have q2 := cell_of hSw 2; simp only [List.getElem?_toArray, List.getElem?_cons_zero, List.getElem?_cons_succ] at q0 q1 q2; go_simp <;> (try with_reducible rfl))
      try simp only [Act.put, List.setIfInBounds_toArray, List.set_cons_zero, List.set_cons_succ]
      refine wpAnyH_take (i := 3) (oi := { dst := some 63, op := Op.load 56 (Operand.tmp 11), type := 56, pos := "more.go:41", after := #[], guard := none }) (v := ?vq14n4) rfl (by kernel_rfl) (by kernel_rfl) (by kernel_rfl) (fun _ _ _ h => h) (Or.inl ⟨by rfl, ?hyq14n4⟩) (by assumption) ?restq14n4
      case hyq14n4 => (intro w hSw; (try dsimp only at hSw); have q0 := cell_of hSw 0; have q1 := cell_of hSw 1; have q2 := cell_of hSw 2; simp only [List.getElem?_toArray, List.getElem?_cons_zero, List.getElem?_cons_succ] at q0 q1 q2; go_simp <;> (try with_reducible rfl))
      try simp only [Act.put, List.setIfInBounds_toArray, List.set_cons_zero, List.set_cons_succ]
      refine wpAnyH_ready (rs := [4]) (by kernel_rfl) (by simp) ?_
      refine AllReadyH.cons (o := { dst := some 64, op := Op.call { callee := Callee.value (Operand.func 24), args := #[Operand.tmp 63], argTypes := #[56] }, type := 29, pos := "more.go:41", after := #[{ on := 3, ground := Ground.data }], guard := none }) rfl (fun K hK => ?_) AllReadyH.nil
      go_simp
      rw [HZ.out]
      refine (block_any ⟨(j : Int), x.f, x.s⟩ _).mono ?_
      rintro r wb ⟨qb, rfl, hk, hq, bb⟩
      rw [← HZ.out]
      have BB : Hid (Below W1.heap.size W1 wb) := (Below.refl W1.heap.size W1).drew.trans (bb.mono (Nat.le_refl _))
      have HBB : Hid (wb.heap[q]? = some (.cells #[.int .i64 (j : Int), .int .u8 (z : Int), .bool x.s] 56 (0, 0))) := (BB.out.block _ (lt_of_heap HBX.out)).trans HBX.out
      have CW := Lib.hid (st_write (S1.out.below BB.out) (j : Int) (blockL x.f) (some ⟨qb, 0, none⟩) 64 64 (by have := HRI.out.st; have := HI.out; omega) (by have := HRI.out.ps; have := HI.out; omega) (blockL_length _) (fun w' hf => blk_sl (hf.keep qb _ hk (by simp [kd]) (by simp)) (blockL_length _)))
      rw [(HRI.out.wr HJ.out x).1, (HRI.out.wr HJ.out x).2] at CW
      clear hk hq bb
      go_wp2_with fail
      refine hK.out _ _ (HBB.out) (fun hHeld => ?_)
      clear hK K
      try simp only [Act.put, List.setIfInBounds_toArray, List.set_cons_zero, List.set_cons_succ]
      refine wpAnyH_ready (rs := [5]) (by kernel_rfl) (by simp) ?_
      refine AllReadyH.cons (o := { dst := some 65, op := Op.call { callee := Callee.value (Operand.func 9), args := #[Operand.tmp 60, Operand.tmp 62, Operand.tmp 64], argTypes := #[24, 3, 29] }, type := 25, pos := "more.go:41", after := #[{ on := 0, ground := Ground.data }, { on := 2, ground := Ground.data }, { on := 4, ground := Ground.data }, { on := 4, ground := Ground.chain }], guard := none }) rfl (fun K hK => ?_) AllReadyH.nil
      go_simp
      refine CW.out.mono ?_
      rintro r wd ⟨rfl, sd, fd⟩
      have SD := Lib.hid sd
      have FD := Lib.hid fd
      have HBD : Hid (wd.heap[q]? = some (.cells #[.int .i64 (j : Int), .int .u8 (z : Int), .bool x.s] 56 (0, 0))) := fd.keep q _ HBB.out (by simp [kd]) (by simp)
      clear sd fd CW
      go_wp2_with fail
      refine hK.out _ _ (HBD.out) (fun hHeld => ?_)
      clear hK K
      try simp only [Act.put, List.setIfInBounds_toArray, List.set_cons_zero, List.set_cons_succ]
      refine wpAnyH_take (i := 6) (oi := { dst := some 66, op := Op.binOp BinOp.neq 25 (Operand.tmp 65) (Operand.const (Value.int IntKind.i64 0)) 25, type := 4, pos := "more.go:41", after := #[{ on := 5, ground := Ground.data }], guard := none }) (v := ?vq14n5) rfl (by kernel_rfl) (by kernel_rfl) (by kernel_rfl) (fun _ _ _ h => h) (Or.inl ⟨by rfl, ?hyq14n5⟩) (by assumption) ?restq14n5
      case hyq14n5 => (intro w hSw; (try dsimp only at hSw); have q0 := cell_of hSw 0; have q1 := cell_of hSw 1; have q2 := cell_of hSw 2; simp only [List.getElem?_toArray, List.getElem?_cons_zero, List.getElem?_cons_succ] at q0 q1 q2; go_simp <;> (try with_reducible rfl))
      try simp only [Act.put, List.setIfInBounds_toArray, List.set_cons_zero, List.set_cons_succ]
      refine wpAnyH_done (by kernel_rfl) ?_ _
      have MD := (M1.out.below BB.out).fr FD.out (by simp) (by simp)
      have RD := (R1.out.below BB.out).fr FD.out (by simp) (by simp)
      obtain ⟨w5, hr5, m5, g5⟩ := MD.put (k := j) (by have := HI.out; omega) (by have := HJ.out; have := HN20.out; omega) ⟨(j : Int), x.f, x.s⟩
      obtain ⟨es, ec, hme⟩ := MD.isMap
      have f5 : Fr [] [M] w.heap.size wd w5 := (Fr.refl _ _ _ _).grown g5 hme (.inr (by simp)) HM0.out
      have s5 : St w w5 g (wD d j (secOf (blockL x.f))) := ⟨SD.out.dk.keep f5 (by simp) (by simp) (by simp) (fun y hy => by rw [List.mem_singleton.mp hy]; exact ⟨_, hme, by simp [kd]⟩), SD.out.bel.trans f5.below⟩
      have r5 := RD.fr f5 (by simp) (fun y hy => by rw [List.mem_singleton.mp hy]; exact ⟨_, hme, by simp [kd]⟩)
      have x5 : w5.heap[q]? = some (.cells #[.int .i64 (j : Int), .int .u8 (z : Int), .bool x.s] 56 (0, 0)) := f5.keep q _ HBD.out (by simp) (fun hy => by
        rw [List.mem_singleton.mp hy] at HBD
        have := HBD.out
        rw [hme] at this
        cases this)
      simp only [ptV, ← HZ.out] at hr5
      have b6 : Below w5.heap.size w5 (w5.alloc (.cells (eBy.f 64).toArray 5)) := Below.alloc (Below.refl _ _) (Nat.le_refl _) _
      have hbs5 : w.heap.size ≤ (w5.alloc (.cells (eBy.f 64).toArray 5)).heap.size := Nat.le_trans s5.bel.size b6.size
      obtain ⟨v7, w7, hr7, r7, g7⟩ := (r5.below b6).app el29 hbs5 (sl_one w5 64 5) (n := 1) (c := 1) rfl (fun h => by cases h) (by have := HI.out; rw [List.length_replicate]; omega)
      have f7 := (r5.below b6).fr_app g7 hbs5
      have e7 : List.replicate i (64 : UInt8) ++ [64] = List.replicate (i + 1) 64 := List.replicate_succ'.symm
      rw [e7] at r7
      have s7 : St w w7 g (wD d j (secOf (blockL x.f))) := ⟨(s5.dk.below b6).keep f7 (by simp) (by simp) (by simp) (by simp), (s5.bel.trans (b6.mono s5.bel.size)).trans f7.below⟩
      have S7 := Lib.hid s7
      have M7 := Lib.hid ((m5.below b6).fr f7 (by simp) (by simp))
      have R7 := Lib.hid r7
      have X7 := Lib.hid (f7.keep q _ ((b6.block _ (lt_of_heap x5)).trans x5) (by simp [kd]) (by simp))
      have HR5 := Lib.hid hr5
      have HR7 := Lib.hid hr7
      have c0 := cell_of HBD.out 0
      have c1 := cell_of HBD.out 1
      have c2 := cell_of HBD.out 2
      simp only [List.getElem?_toArray, List.getElem?_cons_zero, List.getElem?_cons_succ] at c0 c1 c2
      have d2 := cell_of X7.out 2
      simp only [List.getElem?_toArray, List.getElem?_cons_zero, List.getElem?_cons_succ] at d2
      have HRIB := Lib.hid (HRI.out.one HJ.out ⟨(j : Int), x.f, x.s⟩)
      have HRIC := Lib.hid (HRI.out.two HJ.out ⟨(j : Int), x.f, x.s⟩)
      have HRS := Lib.hid (HRI.out.st1 (j := j) (secOf (blockL x.f)))
      simp only at HRIC HRIB
      clear MD RD m5 g5 hme f5 s5 r5 x5 b6 hbs5 r7 g7 f7 e7 s7 hr7 SD FD BB HBB HBX S1 M1 R1 HRI d0 d1
      cases hsx : x.s with
      | true =>
        rw [hsx] at d2 hr5 c2
        have CS := Lib.hid (st_sync S7.out (by have := HRS.out; have := HI.out; omega))
        rw [HRIC.out.1] at CS
        simp only [if_true] at CS
        go_wp2_with (at_builtin; refine wpList_append_run rfl (.tmp 71) (.tmp 72) 29 29 rfl _ _ rfl rfl _ _ HR7.out ?_)
        refine CS.out.mono ?_
        rintro r w8 ⟨rfl, s8, f8⟩
        have CP := Lib.hid (st_pend s8)
        rw [HRIC.out.2.1] at CP
        have S8 := Lib.hid s8
        have M8 := Lib.hid (M7.out.fr f8 (by simp) (by simp))
        have R8 := Lib.hid (R7.out.fr f8 (by simp) (by simp))
        have X8 := Lib.hid (f8.keep q _ X7.out (by simp [kd]) (by simp))
        have HRI8 := Lib.hid HRIC.out.2.2
        clear s8 f8 S7 M7 R7 X7 CS d2 hr5 c0 c1 c2
        go_wp2_with fail
        refine CP.out.mono ?_
        rintro r w8b ⟨rfl, rfl⟩
        clear CP
        have HRI9 := Lib.hid (HRI8.out.read HJ.out)
        have CR := Lib.hid (st_read S8.out (j : Int))
        rw [HRI9.out.1, HRI9.out.2, show (secF (updF F j ⟨(j : Int), x.f, x.s⟩ j)).v = blockL x.f by rw [secF_v]; simp [updF]] at CR
        have c0 := cell_of X8.out 0
        simp only [List.getElem?_toArray, List.getElem?_cons_zero] at c0
        go_wp2_with fail
        refine CR.out.mono ?_
        rintro r w9 ⟨v, rfl, o9, s9, b9⟩
        obtain ⟨A9, c9, hv9, sl9, _⟩ := o9.form
        rw [blockL_length] at hv9
        subst hv9
        have SLV := Lib.hid sl9
        have X9 := Lib.hid ((b9.block _ (lt_of_heap X8.out)).trans X8.out)
        have S9 := Lib.hid s9
        have M9 := Lib.hid (M8.out.below b9)
        have R9 := Lib.hid (R8.out.below b9)
        have DB : Hid (∀ w', Below w9.heap.size w9 w' → w'.cell? ⟨q, 0, none⟩ = some (.int .i64 (j : Int)) ∧ w'.cell? ⟨q, 1, none⟩ = some (.int .u8 (z : Int)) ∧ w'.cell? ⟨q, 2, none⟩ = some (.bool x.s)) := fun w' h => by
          have := (h.block _ (lt_of_heap X9.out)).trans X9.out
          exact ⟨by rw [cell_of this]; rfl, by rw [cell_of this]; rfl, by rw [cell_of this]; rfl⟩
        clear c0 o9 s9 b9 sl9 CR HRI9 S8 M8 R8 X8
        go_wp2_with fail
        refine wp_region_held_drew (S := fun w' => Below w9.heap.size w9 w') (by kernel_rfl) ((Below.refl w9.heap.size w9).drew) (fun hHeld => ?_)
        refine wpAnyH_take (i := 0) (oi := { dst := some 93, op := Op.move (Operand.tmp 13), type := 25, pos := "more.go:49", after := #[], guard := none }) (v := ?vq21n1) rfl (by kernel_rfl) (by kernel_rfl) (by kernel_rfl) (fun _ _ _ h => h) (Or.inl ⟨by rfl, ?hyq21n1⟩) (by assumption) ?restq21n1
        case hyq21n1 => (intro w hSw; (try dsimp only at hSw); obtain ⟨q0, q1, q2⟩ := DB.out _ hSw; go_simp <;> (try with_reducible rfl))
        try simp only [Act.put, List.setIfInBounds_toArray, List.set_cons_zero, List.set_cons_succ]
        refine wpAnyH_take (i := 1) (oi := { dst := some 94, op := Op.binOp BinOp.neq 25 (Operand.tmp 93) (Operand.const (Value.int IntKind.i64 0)) 25, type := 4, pos := "more.go:49", after := #[{ on := 0, ground := Ground.data }], guard := none }) (v := ?vq21n2) rfl (by kernel_rfl) (by kernel_rfl) (by kernel_rfl) (fun _ _ _ h => h) (Or.inl ⟨by rfl, ?hyq21n2⟩) (by assumption) ?restq21n2
        case hyq21n2 => (intro w hSw; (try dsimp only at hSw); obtain ⟨q0, q1, q2⟩ := DB.out _ hSw; go_simp <;> (try with_reducible rfl))
        try simp only [Act.put, List.setIfInBounds_toArray, List.set_cons_zero, List.set_cons_succ]
        refine wpAnyH_take (i := 2) (oi := { dst := some 95, op := Op.move (Operand.tmp 94), type := 4, pos := "more.go:49", after := #[{ on := 1, ground := Ground.data }], guard := none }) (v := ?vq21n3) rfl (by kernel_rfl) (by kernel_rfl) (by kernel_rfl) (fun _ _ _ h => h) (Or.inl ⟨by rfl, ?hyq21n3⟩) (by assumption) ?restq21n3
        case hyq21n3 => (intro w hSw; (try dsimp only at hSw); obtain ⟨q0, q1, q2⟩ := DB.out _ hSw; go_simp <;> (try with_reducible rfl))
        try simp only [Act.put, List.setIfInBounds_toArray, List.set_cons_zero, List.set_cons_succ]
        refine wpAnyH_take (i := 3) (oi := { dst := some 96, op := Op.move (Operand.tmp 12), type := 29, pos := "more.go:49", after := #[{ on := 2, ground := Ground.guard }], guard := some (2, false) }) (v := ?vq21n4) rfl (by kernel_rfl) (by kernel_rfl) (by kernel_rfl) (fun _ _ _ h => h) (Or.inl ⟨by rfl, ?hyq21n4⟩) (by assumption) ?restq21n4
        case hyq21n4 => (intro w hSw; (try dsimp only at hSw); obtain ⟨q0, q1, q2⟩ := DB.out _ hSw; go_simp <;> (try with_reducible rfl))
        try simp only [Act.put, List.setIfInBounds_toArray, List.set_cons_zero, List.set_cons_succ]
        refine wpAnyH_take (i := 4) (oi := { dst := some 97, op := Op.convert 29 9 (Operand.tmp 96), type := 9, pos := "more.go:49", after := #[{ on := 3, ground := Ground.data }, { on := 2, ground := Ground.guard }], guard := some (2, false) }) (v := Value.string (txt (blockL x.f))) rfl (by kernel_rfl) (by kernel_rfl) (by kernel_rfl) (fun _ _ _ h => h) (Or.inl ⟨by rfl, fun w hSw => exec_convert rfl rfl (conv_by (SLV.out.below (Nat.le_refl _) hSw) (blockL_length _) _)⟩) (by assumption) ?_
        try simp only [Act.put, List.setIfInBounds_toArray, List.set_cons_zero, List.set_cons_succ]
        refine wpAnyH_take (i := 5) (oi := { dst := some 98, op := Op.load 56 (Operand.tmp 11), type := 56, pos := "more.go:49", after := #[{ on := 2, ground := Ground.guard }], guard := some (2, false) }) (v := ?vq21n5) rfl (by kernel_rfl) (by kernel_rfl) (by kernel_rfl) (fun _ _ _ h => h) (Or.inl ⟨by rfl, ?hyq21n5⟩) (by assumption) ?restq21n5
        case hyq21n5 => (intro w hSw; (try dsimp only at hSw); obtain ⟨q0, q1, q2⟩ := DB.out _ hSw; go_simp <;> (try with_reducible rfl))
        try simp only [Act.put, List.setIfInBounds_toArray, List.set_cons_zero, List.set_cons_succ]
        refine wpAnyH_ready (rs := [6]) (by kernel_rfl) (by simp) ?_
        refine AllReadyH.cons (o := { dst := some 99, op := Op.call { callee := Callee.value (Operand.func 24), args := #[Operand.tmp 98], argTypes := #[56] }, type := 29, pos := "more.go:49", after := #[{ on := 5, ground := Ground.data }, { on := 2, ground := Ground.chain }, { on := 2, ground := Ground.guard }], guard := some (2, false) }) rfl (fun K hK => ?_) AllReadyH.nil
        go_simp
        rw [HZ.out]
        refine (block_any ⟨(j : Int), x.f, true⟩ _).mono ?_
        rintro r we ⟨qe, rfl, hk, _, be⟩
        rw [← HZ.out]
        have HKE := Lib.hid hk
        have BE : Hid (Below w9.heap.size w9 we) := (Below.refl w9.heap.size w9).drew.trans (be.mono (Nat.le_refl _))
        clear hk be
        go_wp2_with fail
        refine hK.out _ _ (BE.out) (fun hHeld => ?_)
        clear hK K
        try simp only [Act.put, List.setIfInBounds_toArray, List.set_cons_zero, List.set_cons_succ]
        refine wpAnyH_ready (rs := [7]) (by kernel_rfl) (by simp) ?_
        refine AllReadyH.cons (o := { dst := some 100, op := Op.convert 29 9 (Operand.tmp 99), type := 9, pos := "more.go:49", after := #[{ on := 6, ground := Ground.data }, { on := 2, ground := Ground.guard }], guard := some (2, false) }) rfl (fun K hK => ?_) AllReadyH.nil
        refine wp_value (exec_convert rfl rfl (conv_by (l := blockL x.f) (n := 64) (blk_sl HKE.out (blockL_length _)) (blockL_length _) _)) ?_
        refine hK.out _ _ (BE.out) (fun hHeld => ?_)
        clear hK K
        try simp only [Act.put, List.setIfInBounds_toArray, List.set_cons_zero, List.set_cons_succ]
        refine wpAnyH_take (i := 8) (oi := { dst := some 101, op := Op.binOp BinOp.neq 9 (Operand.tmp 97) (Operand.tmp 100) 9, type := 4, pos := "more.go:49", after := #[{ on := 4, ground := Ground.data }, { on := 7, ground := Ground.data }, { on := 2, ground := Ground.guard }], guard := some (2, false) }) (v := ?vq21n6) rfl (by kernel_rfl) (by kernel_rfl) (by kernel_rfl) (fun _ _ _ h => h) (Or.inl ⟨by rfl, ?hyq21n6⟩) (by assumption) ?restq21n6
        case hyq21n6 => (intro w hSw; (try dsimp only at hSw); obtain ⟨q0, q1, q2⟩ := DB.out _ hSw; go_simp <;> (try with_reducible rfl))
        try simp only [Act.put, List.setIfInBounds_toArray, List.set_cons_zero, List.set_cons_succ]
        refine wpAnyH_take (i := 9) (oi := { dst := some 102, op := Op.pick (Operand.tmp 95) (Operand.const (Value.bool true)) (Operand.tmp 101), type := 4, pos := "more.go:49", after := #[{ on := 2, ground := Ground.data }, { on := 8, ground := Ground.data }], guard := none }) (v := ?vq21n7) rfl (by kernel_rfl) (by kernel_rfl) (by kernel_rfl) (fun _ _ _ h => h) (Or.inl ⟨by rfl, ?hyq21n7⟩) (by assumption) ?restq21n7
        case hyq21n7 => (intro w hSw; (try dsimp only at hSw); obtain ⟨q0, q1, q2⟩ := DB.out _ hSw; go_simp <;> (try with_reducible rfl))
        try simp only [Act.put, List.setIfInBounds_toArray, List.set_cons_zero, List.set_cons_succ]
        refine wpAnyH_done (by kernel_rfl) ?_ _
        have SE := Lib.hid (S9.out.below BE.out)
        have ME := Lib.hid (M9.out.below BE.out)
        have RE := Lib.hid (R9.out.below BE.out)
        clear hHeld
        go_wp2
        go_roundw
        case rel => exact ⟨i + 1, _, _, HK.out.1, HK.out.2, by go_num, SE.out, HRI8.out, ME.out, RE.out⟩
        case measure => simp [intOf]; omega
      | false =>
        rw [hsx] at d2 hr5 c2
        have S8 := S7
        have M8 := M7
        have R8 := R7
        have X8 := X7
        have HRI8 := HRIB
        have HRI9 := Lib.hid (HRI8.out.read HJ.out)
        have CR := Lib.hid (st_read S8.out (j : Int))
        rw [HRI9.out.1, HRI9.out.2, show (secF (updF F j ⟨(j : Int), x.f, x.s⟩ j)).v = blockL x.f by rw [secF_v]; simp [updF]] at CR
        have e0 := cell_of X7.out 0
        simp only [List.getElem?_toArray, List.getElem?_cons_zero] at e0
        go_wp2_with (at_builtin; refine wpList_append_run rfl (.tmp 71) (.tmp 72) 29 29 rfl _ _ rfl rfl _ _ HR7.out ?_)
        clear S7 M7 R7 X7 d2 hr5 c0 c1 c2 e0
        refine CR.out.mono ?_
        rintro r w9 ⟨v, rfl, o9, s9, b9⟩
        obtain ⟨A9, c9, hv9, sl9, _⟩ := o9.form
        rw [blockL_length] at hv9
        subst hv9
        have SLV := Lib.hid sl9
        have X9 := Lib.hid ((b9.block _ (lt_of_heap X8.out)).trans X8.out)
        have S9 := Lib.hid s9
        have M9 := Lib.hid (M8.out.below b9)
        have R9 := Lib.hid (R8.out.below b9)
        have DB : Hid (∀ w', Below w9.heap.size w9 w' → w'.cell? ⟨q, 0, none⟩ = some (.int .i64 (j : Int)) ∧ w'.cell? ⟨q, 1, none⟩ = some (.int .u8 (z : Int)) ∧ w'.cell? ⟨q, 2, none⟩ = some (.bool x.s)) := fun w' h => by
          have := (h.block _ (lt_of_heap X9.out)).trans X9.out
          exact ⟨by rw [cell_of this]; rfl, by rw [cell_of this]; rfl, by rw [cell_of this]; rfl⟩
        clear o9 s9 b9 sl9 CR HRI9 S8 M8 R8 X8
        go_wp2_with fail
        refine wp_region_held_drew (S := fun w' => Below w9.heap.size w9 w') (by kernel_rfl) ((Below.refl w9.heap.size w9).drew) (fun hHeld => ?_)
        refine wpAnyH_take (i := 0) (oi := { dst := some 93, op := Op.move (Operand.tmp 13), type := 25, pos := "more.go:49", after := #[], guard := none }) (v := ?vq21bn1) rfl (by kernel_rfl) (by kernel_rfl) (by kernel_rfl) (fun _ _ _ h => h) (Or.inl ⟨by rfl, ?hyq21bn1⟩) (by assumption) ?restq21bn1
        case hyq21bn1 => (intro w hSw; (try dsimp only at hSw); obtain ⟨q0, q1, q2⟩ := DB.out _ hSw; go_simp <;> (try with_reducible rfl))
        try simp only [Act.put, List.setIfInBounds_toArray, List.set_cons_zero, List.set_cons_succ]
        refine wpAnyH_take (i := 1) (oi := { dst := some 94, op := Op.binOp BinOp.neq 25 (Operand.tmp 93) (Operand.const (Value.int IntKind.i64 0)) 25, type := 4, pos := "more.go:49", after := #[{ on := 0, ground := Ground.data }], guard := none }) (v := ?vq21bn2) rfl (by kernel_rfl) (by kernel_rfl) (by kernel_rfl) (fun _ _ _ h => h) (Or.inl ⟨by rfl, ?hyq21bn2⟩) (by assumption) ?restq21bn2
        case hyq21bn2 => (intro w hSw; (try dsimp only at hSw); obtain ⟨q0, q1, q2⟩ := DB.out _ hSw; go_simp <;> (try with_reducible rfl))
        try simp only [Act.put, List.setIfInBounds_toArray, List.set_cons_zero, List.set_cons_succ]
        refine wpAnyH_take (i := 2) (oi := { dst := some 95, op := Op.move (Operand.tmp 94), type := 4, pos := "more.go:49", after := #[{ on := 1, ground := Ground.data }], guard := none }) (v := ?vq21bn3) rfl (by kernel_rfl) (by kernel_rfl) (by kernel_rfl) (fun _ _ _ h => h) (Or.inl ⟨by rfl, ?hyq21bn3⟩) (by assumption) ?restq21bn3
        case hyq21bn3 => (intro w hSw; (try dsimp only at hSw); obtain ⟨q0, q1, q2⟩ := DB.out _ hSw; go_simp <;> (try with_reducible rfl))
        try simp only [Act.put, List.setIfInBounds_toArray, List.set_cons_zero, List.set_cons_succ]
        refine wpAnyH_take (i := 3) (oi := { dst := some 96, op := Op.move (Operand.tmp 12), type := 29, pos := "more.go:49", after := #[{ on := 2, ground := Ground.guard }], guard := some (2, false) }) (v := ?vq21bn4) rfl (by kernel_rfl) (by kernel_rfl) (by kernel_rfl) (fun _ _ _ h => h) (Or.inl ⟨by rfl, ?hyq21bn4⟩) (by assumption) ?restq21bn4
        case hyq21bn4 => (intro w hSw; (try dsimp only at hSw); obtain ⟨q0, q1, q2⟩ := DB.out _ hSw; go_simp <;> (try with_reducible rfl))
        try simp only [Act.put, List.setIfInBounds_toArray, List.set_cons_zero, List.set_cons_succ]
        refine wpAnyH_take (i := 4) (oi := { dst := some 97, op := Op.convert 29 9 (Operand.tmp 96), type := 9, pos := "more.go:49", after := #[{ on := 3, ground := Ground.data }, { on := 2, ground := Ground.guard }], guard := some (2, false) }) (v := Value.string (txt (blockL x.f))) rfl (by kernel_rfl) (by kernel_rfl) (by kernel_rfl) (fun _ _ _ h => h) (Or.inl ⟨by rfl, fun w hSw => exec_convert rfl rfl (conv_by (SLV.out.below (Nat.le_refl _) hSw) (blockL_length _) _)⟩) (by assumption) ?_
        try simp only [Act.put, List.setIfInBounds_toArray, List.set_cons_zero, List.set_cons_succ]
        refine wpAnyH_take (i := 5) (oi := { dst := some 98, op := Op.load 56 (Operand.tmp 11), type := 56, pos := "more.go:49", after := #[{ on := 2, ground := Ground.guard }], guard := some (2, false) }) (v := ?vq21bn5) rfl (by kernel_rfl) (by kernel_rfl) (by kernel_rfl) (fun _ _ _ h => h) (Or.inl ⟨by rfl, ?hyq21bn5⟩) (by assumption) ?restq21bn5
        case hyq21bn5 => (intro w hSw; (try dsimp only at hSw); obtain ⟨q0, q1, q2⟩ := DB.out _ hSw; go_simp <;> (try with_reducible rfl))
        try simp only [Act.put, List.setIfInBounds_toArray, List.set_cons_zero, List.set_cons_succ]
        refine wpAnyH_ready (rs := [6]) (by kernel_rfl) (by simp) ?_
        refine AllReadyH.cons (o := { dst := some 99, op := Op.call { callee := Callee.value (Operand.func 24), args := #[Operand.tmp 98], argTypes := #[56] }, type := 29, pos := "more.go:49", after := #[{ on := 5, ground := Ground.data }, { on := 2, ground := Ground.chain }, { on := 2, ground := Ground.guard }], guard := some (2, false) }) rfl (fun K hK => ?_) AllReadyH.nil
        go_simp
        rw [HZ.out]
        refine (block_any ⟨(j : Int), x.f, false⟩ _).mono ?_
        rintro r we ⟨qe, rfl, hk, _, be⟩
        rw [← HZ.out]
        have HKE := Lib.hid hk
        have BE : Hid (Below w9.heap.size w9 we) := (Below.refl w9.heap.size w9).drew.trans (be.mono (Nat.le_refl _))
        clear hk be
        go_wp2_with fail
        refine hK.out _ _ (BE.out) (fun hHeld => ?_)
        clear hK K
        try simp only [Act.put, List.setIfInBounds_toArray, List.set_cons_zero, List.set_cons_succ]
        refine wpAnyH_ready (rs := [7]) (by kernel_rfl) (by simp) ?_
        refine AllReadyH.cons (o := { dst := some 100, op := Op.convert 29 9 (Operand.tmp 99), type := 9, pos := "more.go:49", after := #[{ on := 6, ground := Ground.data }, { on := 2, ground := Ground.guard }], guard := some (2, false) }) rfl (fun K hK => ?_) AllReadyH.nil
        refine wp_value (exec_convert rfl rfl (conv_by (l := blockL x.f) (n := 64) (blk_sl HKE.out (blockL_length _)) (blockL_length _) _)) ?_
        refine hK.out _ _ (BE.out) (fun hHeld => ?_)
        clear hK K
        try simp only [Act.put, List.setIfInBounds_toArray, List.set_cons_zero, List.set_cons_succ]
        refine wpAnyH_take (i := 8) (oi := { dst := some 101, op := Op.binOp BinOp.neq 9 (Operand.tmp 97) (Operand.tmp 100) 9, type := 4, pos := "more.go:49", after := #[{ on := 4, ground := Ground.data }, { on := 7, ground := Ground.data }, { on := 2, ground := Ground.guard }], guard := some (2, false) }) (v := ?vq21bn6) rfl (by kernel_rfl) (by kernel_rfl) (by kernel_rfl) (fun _ _ _ h => h) (Or.inl ⟨by rfl, ?hyq21bn6⟩) (by assumption) ?restq21bn6
        case hyq21bn6 => (intro w hSw; (try dsimp only at hSw); obtain ⟨q0, q1, q2⟩ := DB.out _ hSw; go_simp <;> (try with_reducible rfl))
        try simp only [Act.put, List.setIfInBounds_toArray, List.set_cons_zero, List.set_cons_succ]
        refine wpAnyH_take (i := 9) (oi := { dst := some 102, op := Op.pick (Operand.tmp 95) (Operand.const (Value.bool true)) (Operand.tmp 101), type := 4, pos := "more.go:49", after := #[{ on := 2, ground := Ground.data }, { on := 8, ground := Ground.data }], guard := none }) (v := ?vq21bn7) rfl (by kernel_rfl) (by kernel_rfl) (by kernel_rfl) (fun _ _ _ h => h) (Or.inl ⟨by rfl, ?hyq21bn7⟩) (by assumption) ?restq21bn7
        case hyq21bn7 => (intro w hSw; (try dsimp only at hSw); obtain ⟨q0, q1, q2⟩ := DB.out _ hSw; go_simp <;> (try with_reducible rfl))
        try simp only [Act.put, List.setIfInBounds_toArray, List.set_cons_zero, List.set_cons_succ]
        refine wpAnyH_done (by kernel_rfl) ?_ _
        have SE := Lib.hid (S9.out.below BE.out)
        have ME := Lib.hid (M9.out.below BE.out)
        have RE := Lib.hid (R9.out.below BE.out)
        clear hHeld
        go_wp2
        go_roundw
        case rel => exact ⟨i + 1, _, _, HK.out.1, HK.out.2, by go_num, SE.out, HRI8.out, ME.out, RE.out⟩
        case measure => simp [intOf]; omega
    · have hcase : ¬ (i : Int) < (m : Int) ∨ ((i : Int) < (m : Int) ∧ ¬ (i : Int) < 100) := by omega
      have hlr : (List.replicate i (64 : UInt8)).length = i := List.length_replicate
      have CC := Lib.hid (st_crash HS.out (List.replicate i 64) A3 i c3 hlr (by have := HRI.out.ps; omega) (fun w' hf => row_keep HRW.out rfl (by rw [hlr]; unfold maxLen; omega) hf))
      have HRC := Lib.hid HRI.out.crash
      clear hlt hi him hlr hrw HS HRI
      generalize crashD d (List.replicate i 64) = dc at CC HRC
      rcases hcase with hc | ⟨hc, hc2⟩
      · go_wp2_with fail
        refine CC.out.mono ?_
        rintro r w5 ⟨rfl, s5, f5⟩
        have S5 := Lib.hid s5
        have M5 := Lib.hid (HMP.out.fr f5 (by simp) (by simp))
        clear s5 f5 CC
        go_wp2
        go_loopw [14] (fun s14 wr => ∃ s : Nat, s ≤ n ∧ s14 = .int .i64 (s : Int) ∧ St w wr g dc ∧ MapM wr M F i) (fun v _ => n - (intOf v).toNat)
        case atStart => exact ⟨0, Nat.zero_le _, rfl, S5.out, M5.out⟩
        case round =>
          obtain ⟨s, hs, rfl, hst, hmp⟩ := hrel
          have HST := Lib.hid hst
          have HM5 := Lib.hid hmp
          clear hst hmp S5 M5
          by_cases hlt : s < n
          · have hsi : (s : Int) < (n : Int) := by omega
            have HK : Hid (s + 1 ≤ n) := hlt
            obtain ⟨e1, e2⟩ := HRC.out.1.read hlt
            have CR := Lib.hid (st_read HST.out (s : Int))
            rw [e1, e2] at CR
            clear e1 e2 hlt hs
            go_wp2_with fail
            refine CR.out.mono ?_
            rintro r w7 ⟨v, rfl, o7, s7, b7⟩
            obtain ⟨A7, c7, hv7, sl7, _⟩ := o7.form
            have hl7 := (secF (F s)).h
            rw [hl7] at hv7
            subst hv7
            obtain ⟨w8, hw8⟩ : ∃ w8, w8 = w7.alloc (.cells (bv (List.replicate 64 0)).toArray 5) := ⟨_, rfl⟩
            have b8 : Below w7.heap.size w7 w8 := by rw [hw8]; exact Below.alloc (Below.refl _ _) (Nat.le_refl _) _
            have k8 : BlkAt w8 w7.heap.size (List.replicate 64 0) := by rw [hw8]; exact heap_new _ _
            have hm8 : (Instr.makeSlice 29 (.int .i64 64) (.int .i64 64)).run Try.prog w7 = .ok (.slice (some ⟨w7.heap.size, 0, none⟩) 64 64) w8 := by rw [hw8]; exact run_make64 w7
            have m8 := (HM5.out.below b7).below b8
            have hf8 := m8.find (k := s) (by have := HK.out; have := HN20.out; omega)
            have s8 := s7.below b8
            have sl8 := sl7.below (Nat.le_refl _) b8
            clear hw8 sl7 o7 b7 b8 s7 CR
            cases hF : F s with
            | none =>
              rw [hF] at hf8 sl8 hl7
              have hv := secF_v none
              simp only at hv
              rw [hv] at sl8 hl7
              simp only [Option.getD_none, Option.isSome_none, ptV, z56] at hf8
              have b9 : Below w8.heap.size w8 (w8.alloc (.cells #[.int .i64 0, .int .u8 0, .bool false] 56)) := Below.alloc (Below.refl _ _) (Nat.le_refl _) _
              obtain ⟨q7, hq7⟩ : ∃ q7, q7 = w7.heap.size := ⟨_, rfl⟩
              rw [← hq7] at k8 hm8
              have v1 := conv_by (sl8.below (Nat.le_refl _) b9) hl7 c7
              have v2 := conv_by (blk_sl (l := List.replicate 64 0) (w := w8.alloc (.cells #[.int .i64 0, .int .u8 0, .bool false] 56)) ((b9.block _ (lt_of_heap k8)).trans k8) (by simp)) (n := 64) (by simp) 64
              have S9 := Lib.hid (s8.below b9)
              have M9 := Lib.hid (m8.below b9)
              generalize txt (List.replicate 64 0) = tx at v1 v2
              clear s8 m8 sl8 k8 b9 hq7 hl7 hv hF
              go_wp2
              go_roundw
              case rel => exact ⟨s + 1, HK.out, by go_num, S9.out, M9.out⟩
              case measure => simp [intOf]; omega
            | some x =>
              rw [hF] at hf8 sl8 hl7
              have hv := secF_v (some x)
              simp only at hv
              rw [hv] at sl8 hl7
              simp only [Option.getD_some, Option.isSome_some, ptV] at hf8
              obtain ⟨z, hz⟩ : ∃ z, z = x.f.toNat := ⟨_, rfl⟩
              rw [← hz] at hf8
              obtain ⟨w9, hw9⟩ : ∃ w9, w9 = w8.alloc (.cells #[.int .i64 x.a, .int .u8 (z : Int), .bool x.s] 56) := ⟨_, rfl⟩
              have b9 : Below w8.heap.size w8 w9 := by rw [hw9]; exact Below.alloc (Below.refl _ _) (Nat.le_refl _) _
              have CB := Lib.hid (block_any x w9)
              unfold ptV at CB
              rw [← hz, hw9] at CB
              have SLV := Lib.hid (sl8.below (Nat.le_refl _) b9)
              have S9 := Lib.hid (s8.below b9)
              have M9 := Lib.hid (m8.below b9)
              have HW9 := Lib.hid hw9
              have HL7 := Lib.hid hl7
              clear s8 m8 sl8 k8 b9 hw9 hl7 hv hz hF
              go_wp2_with fail
              refine CB.out.mono ?_
              rintro r wb ⟨qb, rfl, hk, _, bb⟩
              rw [← HW9.out] at bb
              have v1 := conv_by (SLV.out.below (Nat.le_refl _) bb) HL7.out c7
              have v2 := conv_by (blk_sl hk HL7.out) (n := 64) HL7.out 64
              have SB := Lib.hid (S9.out.below bb)
              have MB := Lib.hid (M9.out.below bb)
              generalize txt (blockL x.f) = tx at v1 v2
              clear hk bb S9 M9 SLV CB
              go_wp2
              go_roundw
              case rel => exact ⟨s + 1, HK.out, by go_num, SB.out, MB.out⟩
              case measure => simp [intOf]; omega
          · have hsi : ¬ (s : Int) < (n : Int) := by omega
            have CP := Lib.hid (st_pend HST.out)
            rw [HRC.out.2] at CP
            have CD := Lib.hid (st_down HST.out)
            rw [HRC.out.1.dn] at CD
            have SB := Lib.hid HST.out.bel
            clear hlt hs HST
            go_wp2_with fail
            refine CP.out.mono ?_
            rintro r w7 ⟨rfl, rfl⟩
            go_wp2_with fail
            refine CD.out.mono ?_
            rintro r w8 ⟨rfl, rfl⟩
            go_wp2
            go_ret
            exact ⟨rfl, SB.out⟩
      · go_wp2_with fail
        refine CC.out.mono ?_
        rintro r w5 ⟨rfl, s5, f5⟩
        have S5 := Lib.hid s5
        have M5 := Lib.hid (HMP.out.fr f5 (by simp) (by simp))
        clear s5 f5 CC
        go_wp2
        go_loopw [14] (fun s14 wr => ∃ s : Nat, s ≤ n ∧ s14 = .int .i64 (s : Int) ∧ St w wr g dc ∧ MapM wr M F i) (fun v _ => n - (intOf v).toNat)
        case atStart => exact ⟨0, Nat.zero_le _, rfl, S5.out, M5.out⟩
        case round =>
          obtain ⟨s, hs, rfl, hst, hmp⟩ := hrel
          have HST := Lib.hid hst
          have HM5 := Lib.hid hmp
          clear hst hmp S5 M5
          by_cases hlt : s < n
          · have hsi : (s : Int) < (n : Int) := by omega
            have HK : Hid (s + 1 ≤ n) := hlt
            obtain ⟨e1, e2⟩ := HRC.out.1.read hlt
            have CR := Lib.hid (st_read HST.out (s : Int))
            rw [e1, e2] at CR
            clear e1 e2 hlt hs
            go_wp2_with fail
            refine CR.out.mono ?_
            rintro r w7 ⟨v, rfl, o7, s7, b7⟩
            obtain ⟨A7, c7, hv7, sl7, _⟩ := o7.form
            have hl7 := (secF (F s)).h
            rw [hl7] at hv7
            subst hv7
            obtain ⟨w8, hw8⟩ : ∃ w8, w8 = w7.alloc (.cells (bv (List.replicate 64 0)).toArray 5) := ⟨_, rfl⟩
            have b8 : Below w7.heap.size w7 w8 := by rw [hw8]; exact Below.alloc (Below.refl _ _) (Nat.le_refl _) _
            have k8 : BlkAt w8 w7.heap.size (List.replicate 64 0) := by rw [hw8]; exact heap_new _ _
            have hm8 : (Instr.makeSlice 29 (.int .i64 64) (.int .i64 64)).run Try.prog w7 = .ok (.slice (some ⟨w7.heap.size, 0, none⟩) 64 64) w8 := by rw [hw8]; exact run_make64 w7
            have m8 := (HM5.out.below b7).below b8
            have hf8 := m8.find (k := s) (by have := HK.out; have := HN20.out; omega)
            have s8 := s7.below b8
            have sl8 := sl7.below (Nat.le_refl _) b8
            clear hw8 sl7 o7 b7 b8 s7 CR
            cases hF : F s with
            | none =>
              rw [hF] at hf8 sl8 hl7
              have hv := secF_v none
              simp only at hv
              rw [hv] at sl8 hl7
              simp only [Option.getD_none, Option.isSome_none, ptV, z56] at hf8
              have b9 : Below w8.heap.size w8 (w8.alloc (.cells #[.int .i64 0, .int .u8 0, .bool false] 56)) := Below.alloc (Below.refl _ _) (Nat.le_refl _) _
              obtain ⟨q7, hq7⟩ : ∃ q7, q7 = w7.heap.size := ⟨_, rfl⟩
              rw [← hq7] at k8 hm8
              have v1 := conv_by (sl8.below (Nat.le_refl _) b9) hl7 c7
              have v2 := conv_by (blk_sl (l := List.replicate 64 0) (w := w8.alloc (.cells #[.int .i64 0, .int .u8 0, .bool false] 56)) ((b9.block _ (lt_of_heap k8)).trans k8) (by simp)) (n := 64) (by simp) 64
              have S9 := Lib.hid (s8.below b9)
              have M9 := Lib.hid (m8.below b9)
              generalize txt (List.replicate 64 0) = tx at v1 v2
              clear s8 m8 sl8 k8 b9 hq7 hl7 hv hF
              go_wp2
              go_roundw
              case rel => exact ⟨s + 1, HK.out, by go_num, S9.out, M9.out⟩
              case measure => simp [intOf]; omega
            | some x =>
              rw [hF] at hf8 sl8 hl7
              have hv := secF_v (some x)
              simp only at hv
              rw [hv] at sl8 hl7
              simp only [Option.getD_some, Option.isSome_some, ptV] at hf8
              obtain ⟨z, hz⟩ : ∃ z, z = x.f.toNat := ⟨_, rfl⟩
              rw [← hz] at hf8
              obtain ⟨w9, hw9⟩ : ∃ w9, w9 = w8.alloc (.cells #[.int .i64 x.a, .int .u8 (z : Int), .bool x.s] 56) := ⟨_, rfl⟩
              have b9 : Below w8.heap.size w8 w9 := by rw [hw9]; exact Below.alloc (Below.refl _ _) (Nat.le_refl _) _
              have CB := Lib.hid (block_any x w9)
              unfold ptV at CB
              rw [← hz, hw9] at CB
              have SLV := Lib.hid (sl8.below (Nat.le_refl _) b9)
              have S9 := Lib.hid (s8.below b9)
              have M9 := Lib.hid (m8.below b9)
              have HW9 := Lib.hid hw9
              have HL7 := Lib.hid hl7
              clear s8 m8 sl8 k8 b9 hw9 hl7 hv hz hF
              go_wp2_with fail
              refine CB.out.mono ?_
              rintro r wb ⟨qb, rfl, hk, _, bb⟩
              rw [← HW9.out] at bb
              have v1 := conv_by (SLV.out.below (Nat.le_refl _) bb) HL7.out c7
              have v2 := conv_by (blk_sl hk HL7.out) (n := 64) HL7.out 64
              have SB := Lib.hid (S9.out.below bb)
              have MB := Lib.hid (M9.out.below bb)
              generalize txt (blockL x.f) = tx at v1 v2
              clear hk bb S9 M9 SLV CB
              go_wp2
              go_roundw
              case rel => exact ⟨s + 1, HK.out, by go_num, SB.out, MB.out⟩
              case measure => simp [intOf]; omega
          · have hsi : ¬ (s : Int) < (n : Int) := by omega
            have CP := Lib.hid (st_pend HST.out)
            rw [HRC.out.2] at CP
            have CD := Lib.hid (st_down HST.out)
            rw [HRC.out.1.dn] at CD
            have SB := Lib.hid HST.out.bel
            clear hlt hs HST
            go_wp2_with fail
            refine CP.out.mono ?_
            rintro r w7 ⟨rfl, rfl⟩
            go_wp2_with fail
            refine CD.out.mono ?_
            rintro r w8 ⟨rfl, rfl⟩
            go_wp2
            go_ret
            exact ⟨rfl, SB.out⟩
end Go.Proofs.Ytghfhjeaiiianaa
