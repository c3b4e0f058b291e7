/-
  JournalRoom's walk. Its conditions: the arguments read as bytes and records.
-/
import Derived.Test.YtppdckncnfffcaaG2
import Derived.BigQuiet
import Derived.Lib.QuietBelow
namespace Go.Proofs.Ytppdckncnfffcaa
open Go.RowKit
open Go.Sort (grow)
set_option maxRecDepth 100000

/-- What is the case ahead of a round. -/
structure RmS (w W : World) (g dg : Nat) (j : Jn) (d : Dk) (N H : Nat) (v : Value) (rs : List (List UInt8)) (i : Nat) : Prop where
  run : Run w W g dg j d
  led : Led d j rs
  len : d.K.length = N
  sz : j.size = H
  row : ∃ xs, RowT eVl 38 W w.heap.size v xs ∧ Txs w xs rs
  ct : rs.length ≤ i + 1
  st : d.steps ≤ 2100 * (i + 1)
theorem Led.fit {d : Dk} {j : Jn} {rs : List (List UInt8)} (h : Led d j rs) : j.first + j.size ≤ d.K.length := by
  have h1 := h.f
  have h2 := h.len
  omega
set_option maxHeartbeats 4000000 in
theorem room_walk (s : Nat) (b0 : ByX) (A : Option Addr) (n c : Nat) (rs0 : List (List UInt8)) (w : World) (hs : s ≤ 255) (hb : ByOk w b0) (h : Rcs w A n rs0) :
    Calls Try.prog 6 #[.int .u8 (s : Int), .slice b0.x.A b0.x.n b0.x.c, .slice A n c] w fun e w' => e = .returned (.bool true) ∧ Below w.heap.size w w' := by
  have HR := Lib.hid h
  have HOB := Lib.hid hb
  have CA := Lib.hid (awake_any w)
  obtain ⟨q, hq, hq2⟩ : ∃ q : Nat, q < 200 ∧ (s : Int).tmod 200 = (q : Int) := ⟨s % 200, Nat.mod_lt _ (by decide), by rw [Int.tmod_eq_emod_of_nonneg (by omega)]; omega⟩
  obtain ⟨N, hN⟩ : ∃ N, N = 4 + q := ⟨_, rfl⟩
  obtain ⟨H, hH⟩ : ∃ H, H = N / 2 := ⟨_, rfl⟩
  have hw0 : IntKind.i64.wrap (s : Int) = (s : Int) := IntWalk.i64_in _ (by omega)
  have hw1 : IntKind.i64.wrap (4 + (q : Int)) = (N : Int) := by rw [IntWalk.i64_in _ (by omega)]; omega
  have hw2 : (N : Int).tdiv 2 = (H : Int) := by rw [Int.tdiv_eq_ediv_of_nonneg (by omega)]; omega
  have hw3 : IntKind.i64.wrap (H : Int) = (H : Int) := IntWalk.i64_in _ (by omega)
  have hni : (H : Int) ≤ 101 := by omega
  have HNB : Hid (4 ≤ N ∧ N ≤ 203 ∧ 2 ≤ H ∧ H ≤ 101 ∧ H = N / 2) := ⟨by omega, by omega, by omega, by omega, hH⟩
  clear h hb hs hN hH hq
  go_enter Try.func6, Try.ntmps6
  go_upto_region 4 with (go_at_call 8; refine CA.out.mono ?_; rintro e w1 ⟨rfl, b1⟩)
  have CN := Lib.hid (st_new (w0 := w) (W := w1) N (by have := HNB.out; omega) (by have := HNB.out; omega) b1)
  clear CA b1
  go_upto_region 5 with (go_at_call 9; refine CN.out.mono ?_; rintro e w2 ⟨dg, rfl, s2, _⟩)
  have CO := run_open s2 (by rfl) (by simp [newD]; have := HNB.out; omega)
  have hlk := look_none (S := (newD N).K) (n := H) (by have := HNB.out; omega) (by simp [newD]; have := HNB.out; omega) (new_last _ _)
  have e0 : seen (newD N).K (newD N).ps = (newD N).K := rfl
  have e1 : (newD N).K.length / 2 = H := by simp [newD]; have := HNB.out; omega
  unfold OPost at CO
  rw [e0, e1, hlk.1] at CO
  have CO1 := Lib.hid CO
  clear s2 CO CN
  go_upto_region 6 with (go_at_call 11; refine CO1.out.mono ?_; rintro e w3 ⟨g, A0, m0, c0, rfl, rc3, r3, _, _⟩)
  have hm0 : 0 = m0 := rc3.len
  subst hm0
  have R3 := Lib.hid r3
  have hroom : roomN (lookJ (newD N).K (j0 H)) = 0 := rfl
  have hlap : (lookJ (newD N).K (j0 H)).lap = 0 := rfl
  have CR3 := run_room r3 (by show H ≤ 4096; have := HNB.out; omega) (Nat.zero_le _)
  rw [hroom] at CR3
  have CR := Lib.hid CR3
  have HJ0 : Hid ((lookJ (newD N).K (j0 H)).size = H ∧ (lookJ (newD N).K (j0 H)).over = false ∧ (lookJ (newD N).K (j0 H)).free ≤ H ∧ (lookJ (newD N).K (j0 H)).lap = 0) := by
    refine ⟨rfl, rfl, ?_, rfl⟩
    have e2 : (lookJ (newD N).K (j0 H)).free = lookF (newD N).K H := rfl
    rw [e2, hlk.2]
    exact Nat.zero_le _
  have HD0 : Hid (Qt (newD N) ∧ (newD N).K.length = N ∧ lastU (newD N).K (2 * H) = 0 ∧ (newD N).steps = 0 ∧ (newD N).ps = []) := ⟨Qt.new N, by simp [newD], new_last _ _, rfl, rfl⟩
  generalize lookJ (newD N).K (j0 H) = j at *
  generalize newD N = d at *
  clear CO1 rc3 r3 hlk e0 e1 hroom hlap CR3
  go_wp2_with fail
  refine CR.out.mono ?_
  rintro r w4 ⟨rfl, b4⟩
  have R4 := Lib.hid (R3.out.below b4)
  have CL4 := run_lap R4.out
  rw [HJ0.out.2.2.2] at CL4
  have CL := Lib.hid CL4
  clear CL4 b4 R3 CR
  go_wp2_with fail
  refine CL.out.mono ?_
  rintro r w5 ⟨rfl, rfl⟩
  clear CL
  go_upto_region 8 with fail
  by_cases hbig : 100000 < b0.x.n
  · have hbi : (100000 : Int) < (b0.x.n : Int) := by omega
    go_wp2_with fail
    go_ret
    exact ⟨rfl, R4.out.bel⟩
  · have hbi : ¬ (100000 : Int) < (b0.x.n : Int) := by omega
    have CS := run_start R4.out HOB.out (by rw [HJ0.out.1, HD0.out.2.1]; have := HNB.out; omega) (by rw [HJ0.out.1]; have := HNB.out; omega) (by rw [HJ0.out.1]; exact HJ0.out.2.2.1) (by omega) (by rw [HD0.out.2.2.2.1]; decide) (by rw [HD0.out.2.2.2.2]; exact Nat.zero_le _)
    have CP0 := fun W => parts_nat b0.x.n W (by omega)
    obtain ⟨pn, hpn⟩ : ∃ pn, pn = partsN b0.x.n := ⟨_, rfl⟩
    have hpl : partsN b0.l.length = pn := by rw [HOB.out.n, hpn]
    rw [← hpn] at CP0
    have CP := Lib.hid CP0
    clear CP0
    by_cases hf : H < pn
    · have hfi : (H : Int) < (pn : Int) := by omega
      have es := start_full (r := b0.l) HD0.out.1 HJ0.out.2.1 (.inl (by rw [hpl, HJ0.out.1]; exact hf))
      have hl2 : (lookJ d.K j).lap = 0 := HJ0.out.2.2.2
      rw [es] at CS
      have HCS := Lib.hid CS
      clear CS es hpl hpn
      go_upto_region 11 with (go_at_call 17; refine HCS.out.mono ?_; rintro r w6 ⟨rfl, r6, _⟩)
      have CL6 := run_lap r6
      have hl3 : (lookJ d.K j).lap = 0 := hl2
      rw [hl3] at CL6
      have CL := Lib.hid CL6
      have HB6 := Lib.hid r6.bel
      clear r6 CL6 hl2 hl3
      go_wp2_with (go_at_call 26; refine (CP.out _).mono ?_; rintro r w7 ⟨rfl, rfl⟩)
      refine CL.out.mono ?_
      rintro r w7 ⟨rfl, rfl⟩
      go_wp2_with fail
      go_ret
      exact ⟨rfl, HB6.out⟩
    · have hfi : ¬ (H : Int) < (pn : Int) := by omega
      have hsl := start_led (r := b0.l) HD0.out.1 HJ0.out.2.1 (by rw [HJ0.out.1]; have := HNB.out; omega) (by rw [HJ0.out.1]; have := HNB.out; omega) (by rw [HJ0.out.1, HD0.out.2.1]; have := HNB.out; omega) (by rw [hpl, HJ0.out.1]; omega) (by rw [HJ0.out.1, HD0.out.2.2.1]; decide)
      rw [HJ0.out.1, HD0.out.2.2.1, HD0.out.2.1, HD0.out.2.2.2.1, hpl] at hsl
      obtain ⟨X, hX⟩ : ∃ X, X = startF d j b0.l := ⟨_, rfl⟩
      rw [← hX] at hsl CS
      obtain ⟨led, ez, el, eu, es, eK, est, _, _⟩ := hsl
      obtain ⟨d', j', e'⟩ := X
      dsimp only at led ez el eu es eK est
      subst ez
      have hrm : roomN j' = H - pn := by rw [led.room, eu, es]
      have hsub : IntKind.i64.wrap ((H : Int) - (pn : Int)) = ((H - pn : Nat) : Int) := by have := HNB.out; rw [IntWalk.i64_in _ (by omega)]; omega
      have HLE := Lib.hid led
      have HES : Hid (j'.size = H ∧ d'.K.length = N ∧ j'.lap = 1 ∧ d'.steps = 0 + (pn : Int) + 1 ∧ roomN j' = H - pn ∧ pn ≤ H) := ⟨es, eK, el, est, hrm, by omega⟩
      have HCS := Lib.hid CS
      clear hX CS led el eu es eK est hrm hpl hpn
      go_upto_region 11 with (go_at_call 17; refine HCS.out.mono ?_; rintro r w6 ⟨rfl, r6, _⟩)
      have CL6 := run_lap r6
      rw [HES.out.2.2.1] at CL6
      have CL := Lib.hid CL6
      have CR6 := run_room r6 (Nat.le_trans HLE.out.s2 (by decide)) HLE.out.le
      rw [HES.out.2.2.2.2.1] at CR6
      have CR := Lib.hid CR6
      have R6 := Lib.hid r6
      clear r6 CL6 CR6 HCS
      go_wp2_with (go_at_call 26; refine (CP.out _).mono ?_; rintro r w7 ⟨rfl, rfl⟩)
      refine CL.out.mono ?_
      rintro r w7 ⟨rfl, rfl⟩
      go_wp2_with fail
      refine CR.out.mono ?_
      rintro r w7 ⟨rfl, b7⟩
      have R7 := Lib.hid (R6.out.below b7)
      clear b7 R6 CR CL
      go_upto_region 15 with (go_at_call 26; refine (CP.out _).mono ?_; rintro r w8 ⟨rfl, rfl⟩)
      have ROW : Hid (∃ xs, RowT eVl 38 (w7.alloc (.cells #[.slice b0.x.A b0.x.n b0.x.c] 38)) w.heap.size (.slice (some ⟨w7.heap.size, 0, none⟩) 1 1) xs ∧ Txs w xs [b0.l]) := by
        refine ⟨[b0.x], (RowT.one (E := eVl) (e := 38) w7 b0.x).down R7.out.bel.size, rfl, fun k x r e1 e2 => ?_⟩
        cases k with
        | succ k => cases e1
        | zero =>
          injection e1 with e1
          injection e2 with e2
          subst e1 e2
          exact ⟨HOB.out.s, HOB.out.n, HOB.out.c, HOB.out.z⟩
      have R8 := Lib.hid (R7.out.below ((Below.refl _ _).alloc (Nat.le_refl _) (.cells #[.slice b0.x.A b0.x.n b0.x.c] 38)))
      clear CP
      go_upto_region 16 with fail
      have HL : Hid (RmS w (w7.alloc (.cells #[.slice b0.x.A b0.x.n b0.x.c] 38)) g dg j' d' N H (.slice (some ⟨w7.heap.size, 0, none⟩) 1 1) [b0.l] 0) := by
        refine ⟨R8.out, HLE.out, HES.out.2.1, HES.out.1, ROW.out, Nat.le_refl _, ?_⟩
        have h1 := HES.out.2.2.2.1
        have h2 := HES.out.2.2.2.2.2
        have h3 := HNB.out
        omega
      generalize (w7.alloc (.cells #[.slice b0.x.A b0.x.n b0.x.c] 38)) = w8 at *
      generalize (Value.slice (some ⟨w7.heap.size, 0, none⟩) 1 1) = v0 at *
      clear ROW R8 R7 HLE HES hbi hfi hsub hf hw0 hw1 hq2
      go_wp2_with fail
      go_loopw [13, 14] (fun s13 s14 wr => ∃ (i : Nat) (j : Jn) (d : Dk) (rs : List (List UInt8)), i ≤ n ∧ i ≤ 60 ∧ s14 = .int .i64 (i : Int) ∧ RmS w wr g dg j d N H s13 rs i) (fun _ s _ => n - (intOf s).toNat)
      case atStart => exact ⟨0, j', d', [b0.l], Nat.zero_le _, by omega, rfl, HL.out⟩
      case round =>
        clear HL
        obtain ⟨i, j2, d2, rs, hi, hi60, rfl, hS⟩ := hrel
        have HS := Lib.hid hS
        obtain ⟨xs, hrow, htx⟩ := hS.row
        obtain ⟨Av, cv, rfl, _⟩ := hrow.form
        obtain ⟨m, hm⟩ : ∃ m, m = xs.length := ⟨_, rfl⟩
        have HROW := Lib.hid hrow
        have HTX := Lib.hid htx
        have HM := Lib.hid hm
        rw [← hm] at HROW HS ⊢
        have HB := Lib.hid hS.run.bel
        have hi0 : (0 : Int) ≤ (i : Int) := by omega
        have HEND : Hid (Calls Try.prog 11 #[.pointer (some ⟨dg, 0, none⟩)] wr (OPost w wr dg H d2)) := by
          have h1 := run_open (W := wr) hS.run.st hS.led.qt.dn (by rw [hS.len]; exact HNB.out.1)
          rw [hS.len, ← HNB.out.2.2.2.2] at h1
          exact h1
        by_cases hc : i < n ∧ i < 60
        · obtain ⟨hlt, h60⟩ := hc
          have hlti : (i : Int) < (n : Int) := by omega
          have h60i : (i : Int) < 60 := by omega
          obtain ⟨b, o, x, rfl, _, hx, hcell, hok⟩ := HR.out.el hlt
          have hcell2 : wr.cell? ⟨b, o + i, none⟩ = some (.slice x.x.A x.x.n x.x.c) := (HB.out.cell (p := ⟨b, o + i, none⟩) (World.block_lt_of_cell? w _ hcell)).trans hcell
          have HI : Hid (i + 1 ≤ n ∧ i + 1 ≤ 60) := ⟨hlt, h60⟩
          have HCELL := Lib.hid hcell
          have HOK := Lib.hid hok
          have hw4 : IntKind.i64.wrap ((i : Int) + 1) = ((i + 1 : Nat) : Int) := by rw [IntWalk.i64_in _ (by omega)]; omega
          clear hS hrow htx hm hi hi60 hok hcell hx HEND
          by_cases hbig : 100000 < x.x.n
          · have hbi : (100000 : Int) < (x.x.n : Int) := by omega
            go_wp2_with fail
            go_ret
            exact ⟨rfl, HB.out⟩
          · have hbi : ¬ (100000 : Int) < (x.x.n : Int) := by omega
            go_upto_region 21 with fail
            have CP0 := fun W => parts_nat x.x.n W (by omega)
            obtain ⟨pn, hpn⟩ : ∃ pn, pn = partsN x.x.n := ⟨_, rfl⟩
            have hpl : partsN x.l.length = pn := by rw [HOK.out.n, hpn]
            obtain ⟨R, hR⟩ : ∃ R, R = roomN j2 := ⟨_, rfl⟩
            have hR2 : R = j2.size - j2.used := by rw [hR, HS.out.led.room]
            have hRb : R ≤ 2048 := by have := HS.out.led.s2; omega
            rw [← hpn] at CP0
            have gc := fun dd os => cell_regrown hcell2 dd os
            have C1 : Hid (∀ dd os, Calls Try.prog 24 #[.pointer (some ⟨g, 0, none⟩)] (grow (redrawn wr dd) os) fun e' w'' => e' = .returned (.int .i64 (R : Int)) ∧ ∃ p : Regrown, w'' = grow (redrawn wr p.d) p.os) := fun dd os => by
              rw [hR]
              exact Calls.regrown_of (run_room (HS.out.run.below (below_regrown wr dd os)) (Nat.le_trans HS.out.led.s2 (by decide)) HS.out.led.le)
            have C2 : Hid (∀ dd os, Calls Try.prog 26 #[.int .i64 (x.x.n : Int)] (grow (redrawn wr dd) os) fun e' w'' => e' = .returned (.int .i64 (pn : Int)) ∧ ∃ p : Regrown, w'' = grow (redrawn wr p.d) p.os) := fun dd os =>
              Calls.regrown_of ((CP0 _).mono fun e' w' ⟨h1, h2⟩ => ⟨h1, by subst h2; exact Below.refl _ _⟩)
            have HPL := Lib.hid hpl
            have HRU := Lib.hid hR2
            have HRR := Lib.hid hR
            have hxn : x.x.n ≤ 100000 := by omega
            clear CP0 hpn hpl hR2 hbi hbig hR
            refine wp_region_quiet_below (by kernel_rfl) (by kernel_rfl) ?_
            repeat (go_big_quiet_step (first | with_reducible exact C1.out _ _ | with_reducible exact C2.out _ _))
            refine wpQuiet_nil ?_
            intro w4' hw'
            obtain ⟨⟨dq, osq⟩, hw''⟩ := hw'
            have b4' : Below wr.heap.size wr w4' := by rw [hw'']; exact below_regrown wr dq osq
            have R4' := Lib.hid (HS.out.run.below b4')
            have ROW4 := Lib.hid (HROW.out.below b4')
            have hcell4 : w4'.cell? ⟨b, o + i, none⟩ = some (.slice x.x.A x.x.n x.x.c) := (R4'.out.bel.cell (p := ⟨b, o + i, none⟩) (World.block_lt_of_cell? w _ HCELL.out)).trans HCELL.out
            clear hw'' b4' gc C1 C2 hcell2
            have HDS : Hid (d2.steps ≤ 900000 ∧ d2.ps.length ≤ 90000 ∧ j2.recs ≤ 4096) := ⟨by have := HS.out.st; omega, by rw [HS.out.led.qt.ps]; exact Nat.zero_le _, by rw [HS.out.led.rc]; have := HS.out.ct; omega⟩
            have CA0 := run_append R4'.out HOK.out (Nat.le_trans HS.out.led.s2 (by decide)) HS.out.led.le HS.out.led.fit HDS.out.2.2 (by omega) HDS.out.1 HDS.out.2.1
            by_cases hfit : pn ≤ R
            · have hfi : (pn : Int) ≤ (R : Int) := by omega
              have hal := append_led (r := x.l) HS.out.led (by rw [HPL.out, ← HRU.out]; exact hfit)
              rw [HPL.out] at hal
              obtain ⟨X, hX⟩ : ∃ X, X = appendF d2 j2 x.l := ⟨_, rfl⟩
              rw [← hX] at hal CA0
              obtain ⟨led3, ez, el, eu, es, eK, est, _, _⟩ := hal
              obtain ⟨d3, j3, e3⟩ := X
              dsimp only at led3 ez el eu es eK est
              subst ez
              have hroom3 : roomN j3 = R - pn := by rw [led3.room, eu, es, HRU.out]; omega
              have hsub : IntKind.i64.wrap ((R : Int) - (pn : Int)) = ((R - pn : Nat) : Int) := by rw [IntWalk.i64_in _ (by omega)]; omega
              have HL3 := Lib.hid led3
              have HST : Hid (d3.steps ≤ 2100 * (((i + 1 : Nat) : Int) + 1)) := by
                show _ ≤ _
                have h1 := HS.out.st
                rw [est]
                push_cast
                omega
              have HE3 : Hid (j3.size = H ∧ d3.K.length = N ∧ d3.steps ≤ 2100 * (((i + 1 : Nat) : Int) + 1)) := ⟨by rw [es, HS.out.sz], by rw [eK, HS.out.len], HST.out⟩
              have HRM := Lib.hid hroom3
              have HCA := Lib.hid CA0
              clear hX CA0 led3 el eu es eK est hroom3 hRb
              go_upto_region 23 with (go_at_call 15; refine HCA.out.mono ?_; rintro r w5 ⟨rfl, r5, f5⟩)
              have R5 := Lib.hid r5
              have ROW5 := Lib.hid (ROW4.out.fr f5 (by simp) (fun i hi => by simp at hi; subst hi; exact ⟨_, R4'.out.jb, by simp [kd]⟩))
              have CR5 := run_room r5 (Nat.le_trans HL3.out.s2 (by decide)) HL3.out.le
              rw [HRM.out] at CR5
              have CR := Lib.hid CR5
              clear r5 f5 CR5 HCA R4' ROW4 hcell4
              go_wp2_with fail
              refine CR.out.mono ?_
              rintro r w6' ⟨rfl, b6⟩
              have R6 := Lib.hid (R5.out.below b6)
              have ROW6 := Lib.hid (ROW5.out.below b6)
              clear b6 R5 ROW5 CR
              go_upto_region 26 with fail
              have hcell6 : w6'.cell? ⟨b, o + i, none⟩ = some (.slice x.x.A x.x.n x.x.c) := (R6.out.bel.cell (p := ⟨b, o + i, none⟩) (World.block_lt_of_cell? w _ HCELL.out)).trans HCELL.out
              have bA : Below w6'.heap.size w6' (w6'.alloc (.cells #[.slice x.x.A x.x.n x.x.c] 38)) := (Below.refl _ _).alloc (Nat.le_refl _) _
              obtain ⟨va, W7, hrun, hrow7, hg7⟩ := (ROW6.out.below bA).app el30 (Nat.le_trans R6.out.bel.size bA.size) (A := some ⟨w6'.heap.size, 0, none⟩) (n := 1) (c := 1) (sl_one (E := eVl) w6' x.x 38) rfl (by simp) (by have := HM.out; have := HTX.out.1; have := HS.out.ct; omega)
              have R7' : Run w W7 g dg j3 d3 := by
                have ra := R6.out.below bA
                have hf := (ROW6.out.below bA).fr_app hg7 ra.bel.size
                exact ⟨ra.jb.fr hf (by simp) (by simp), ra.dk.keep hf (by simp) (by simp) (by simp) (by simp), ra.bel.trans hf.below, ra.ge⟩
              have HR7 := Lib.hid R7'
              have HRO7 : Hid (∃ xs, RowT eVl 38 W7 w.heap.size va xs ∧ Txs w xs (rs ++ [x.l])) := by
                refine ⟨xs ++ [x.x], hrow7, by simp [HTX.out.1], fun k y r e1 e2 => ?_⟩
                by_cases hk : k < xs.length
                · rw [List.getElem?_append_left hk] at e1
                  rw [List.getElem?_append_left (by rw [← HTX.out.1]; exact hk)] at e2
                  exact HTX.out.2 k y r e1 e2
                · rw [List.getElem?_append_right (by omega)] at e1
                  rw [List.getElem?_append_right (by rw [← HTX.out.1]; omega), ← HTX.out.1] at e2
                  obtain ⟨z, hz⟩ : ∃ z, z = k - xs.length := ⟨_, rfl⟩
                  rw [← hz] at e1 e2
                  cases z with
                  | succ z => cases e1
                  | zero =>
                    injection e1 with e1
                    injection e2 with e2
                    subst e1 e2
                    exact ⟨HOK.out.s, HOK.out.n, HOK.out.c, HOK.out.z⟩
              have HCT : Hid ((rs ++ [x.l]).length ≤ i + 1 + 1) := by show _ ≤ _; have := HS.out.ct; simp; omega
              clear bA hrow7 hg7 R7' hfi hsub
              go_wp2_with (refine wpList_append_run rfl _ _ _ _ rfl _ _ rfl rfl _ _ hrun ?_)
              go_roundw
              case rel => exact ⟨i + 1, j3, d3, rs ++ [x.l], HI.out.1, HI.out.2, by go_num, HR7.out, HL3.out, HE3.out.2.1, HE3.out.1, HRO7.out, HCT.out, HE3.out.2.2⟩
              case measure => simp [intOf]; have := HI.out; omega
            · have hfi : ¬ (pn : Int) ≤ (R : Int) := by omega
              have haf := append_full (r := x.l) HS.out.led (by rw [HPL.out, ← HRU.out]; omega)
              rw [haf] at CA0
              have HCA := Lib.hid CA0
              clear haf CA0 hRb
              go_upto_region 23 with (go_at_call 15; refine HCA.out.mono ?_; rintro r w5 ⟨rfl, r5, f5⟩)
              have R5 := Lib.hid r5
              have ROW5 := Lib.hid (ROW4.out.fr f5 (by simp) (fun i hi => by simp at hi; subst hi; exact ⟨_, R4'.out.jb, by simp [kd]⟩))
              have CR5 := run_room r5 (Nat.le_trans HS.out.led.s2 (by decide)) HS.out.led.le
              rw [← HRR.out] at CR5
              have CR := Lib.hid CR5
              clear r5 f5 CR5 HCA R4' ROW4 hcell4
              go_wp2_with fail
              refine CR.out.mono ?_
              rintro r w6' ⟨rfl, b6⟩
              have R6 := Lib.hid (R5.out.below b6)
              have ROW6 := Lib.hid (ROW5.out.below b6)
              clear b6 R5 ROW5 CR
              go_wp2_with fail
              go_roundw
              case rel => exact ⟨i + 1, j2, d2, rs, HI.out.1, HI.out.2, by go_num, R6.out, HS.out.led, HS.out.len, HS.out.sz, ⟨xs, ROW6.out, HTX.out⟩, by have := HS.out.ct; omega, by have := HS.out.st; push_cast; omega⟩
              case measure => simp [intOf]; have := HI.out; omega
        · clear hS hrow htx hm
          have hcond : ((i : Int) < (n : Int) ∧ ¬ (i : Int) < 60) ∨ ¬ (i : Int) < (n : Int) := by omega
          have hlk := HS.out.led.look.1
          rw [HS.out.sz] at hlk
          have HE2 := HEND.out
          unfold OPost at HE2
          rw [HS.out.led.qt.ps, seen_nil, hlk] at HE2
          have HE3 := Lib.hid HE2
          have HI60 := Lib.hid hi60
          clear hlk HE2 HEND hc hi hi60
          have hmr : rs.length = m := by rw [HM.out, HTX.out.1]
          have HMR := Lib.hid hmr
          clear hmr
          rcases hcond with ⟨h1, h2⟩ | h1
          all_goals
            go_wp2_with fail
            refine HE3.out.mono ?_
            rintro r w9 ⟨g9, A9, m9, c9, rfl, rc9, r9, _, b9⟩
            have hm9 : m = m9 := by rw [← HMR.out]; exact rc9.len
            subst hm9
            have RC9 := Lib.hid rc9
            have HW : Hid (Rcs w9 Av m rs) := by
              have hr := HROW.out.below b9
              obtain ⟨A', c', e, s1, _⟩ := hr.sl hr.small
              injection e with e1 e2 e3
              subst e1
              exact ⟨xs, s1, e2.symm, HTX.out.below (Nat.le_refl _) r9.bel⟩
            have hms : m ≤ 100 := by have := HS.out.ct; have := HMR.out; have := HI60.out; omega
            have CT := Lib.hid (told_any m c9 cv A9 Av rs w9 RC9.out HW.out (by omega))
            have HB9 := Lib.hid r9.bel
            clear rc9 r9 b9
            go_wp2_with fail
            refine CT.out.mono ?_
            rintro r w10 ⟨rfl, b10⟩
            go_wp2_with fail
            go_ret
            exact ⟨rfl, HB9.out.trans (b10.mono HB9.out.size)⟩
end Go.Proofs.Ytppdckncnfffcaa
