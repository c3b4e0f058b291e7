/-
  JournalLaps' walk. Its conditions: the argument reads as records.
-/
import Derived.Test.YtppdckncnfffcaaG2
namespace Go.Proofs.Ytppdckncnfffcaa
open Go.RowKit
set_option maxRecDepth 100000

/-- What is the case ahead of a round. -/
structure LpS (w W : World) (g dg : Nat) (j : Jn) (d : Dk) (i : Nat) : Prop where
  run : Run w W g dg j d
  qt : Qt d
  len : d.K.length = 64
  sz : j.size = 32
  ov : j.over = false
  fr : j.free ≤ 32
  lp : j.lap ≤ lastU d.K 64
  la : lastU d.K 64 ≤ 2 * i
  st : d.steps ≤ 100 * i
set_option maxHeartbeats 4000000 in
theorem laps_walk (A : Option Addr) (n c : Nat) (rs : List (List UInt8)) (w : World) (h : Rcs w A n rs) (hnc : n ≤ c) : Calls Try.prog 7 #[.slice A n c] w fun e w' => e = .returned (.bool true) ∧ Below w.heap.size w w' := by
  have HR := Lib.hid h
  have HNC := Lib.hid hnc
  have CA := Lib.hid (awake_any w)
  clear h
  go_enter Try.func7, Try.ntmps7
  go_upto_region 3 with (go_at_call 8; refine CA.out.mono ?_; rintro e w1 ⟨rfl, b1⟩)
  have CN := Lib.hid (st_new (w0 := w) (W := w1) 64 (by omega) (by omega) b1)
  clear CA b1
  go_upto_region 4 with (go_at_call 9; refine CN.out.mono ?_; rintro e w2 ⟨dg, rfl, s2, _⟩)
  have CO := run_open s2 (by rfl) (by decide +kernel)
  clear CN
  have hlk := look_none (S := (newD 64).K) (n := 32) (by decide) (by decide +kernel) (new_last 64 64)
  have e0 : seen (newD 64).K (newD 64).ps = (newD 64).K := rfl
  have e1 : (newD 64).K.length / 2 = 32 := by decide +kernel
  unfold OPost at CO
  rw [e0, e1] at CO
  have CO1 := Lib.hid CO
  clear s2 CO
  go_upto_region 5 with (go_at_call 11; refine CO1.out.mono ?_; rintro e w3 ⟨g, A0, m0, c0, rfl, _, hr3, _, _⟩)
  have HL : Hid (LpS w w3 g dg (lookJ (newD 64).K (j0 32)) (newD 64) 0) := by
    refine ⟨hr3, Qt.new 64, by decide +kernel, rfl, rfl, ?_, Nat.zero_le _, ?_, Int.le_refl _⟩
    · have e2 : (lookJ (newD 64).K (j0 32)).free = lookF (newD 64).K 32 := rfl
      rw [e2, hlk.2]
      exact Nat.zero_le _
    · rw [new_last]; exact Nat.zero_le _
  clear CO1 hr3 hlk e0 e1
  go_wp2_with fail
  go_loopw [5, 8] (fun s5 s8 wr => ∃ (i g : Nat) (j : Jn) (d : Dk), i ≤ n ∧ i ≤ 40 ∧ s5 = .pointer (some ⟨g, 0, none⟩) ∧ s8 = .int .i64 (i : Int) ∧ LpS w wr g dg j d i) (fun _ s _ => n - (intOf s).toNat)
  case atStart => exact ⟨0, g, _, _, Nat.zero_le _, by omega, rfl, rfl, HL.out⟩
  case round =>
    clear HL
    obtain ⟨i, g, j, d, hi, hi40, rfl, rfl, hs⟩ := hrel
    have HS := Lib.hid hs
    have HB := Lib.hid hs.run.bel
    have hi0 : (0 : Int) ≤ (i : Int) := by omega
    by_cases hc : i < n ∧ i < 40
    · obtain ⟨hlt, h40⟩ := hc
      have hlti : (i : Int) < (n : Int) := by omega
      have h40i : (i : Int) < 40 := by omega
      obtain ⟨b, o, x, rfl, _, hx, hcell, hok⟩ := HR.out.el hlt
      have hcell2 : wr.cell? ⟨b, o + i, none⟩ = some (.slice x.x.A x.x.n x.x.c) := (HB.out.cell (p := ⟨b, o + i, none⟩) (World.block_lt_of_cell? w _ hcell)).trans hcell
      have CP0 := parts_any (x.x.n : Int) wr (by have := hok.s.1; have := hok.n; unfold maxLen at *; omega)
      rw [show partsI (x.x.n : Int) = (partsN x.x.n : Int) by simp [partsI]; omega] at CP0
      have CP := Lib.hid CP0
      clear CP0
      have HLT := Lib.hid hlt
      have HX := Lib.hid hx
      have HCELL := Lib.hid hcell
      have HOK := Lib.hid hok
      have hw1 : IntKind.i64.wrap ((i : Int) + 1) = ((i + 1 : Nat) : Int) := by rw [IntWalk.i64_in _ (by omega)]; omega
      obtain ⟨pn, hpn⟩ : ∃ pn, pn = partsN x.x.n := ⟨_, rfl⟩
      rw [← hpn] at CP
      have HPN := Lib.hid hpn
      have HI : Hid (i + 1 ≤ n ∧ i + 1 ≤ 40) := ⟨hlt, h40⟩
      clear hs hok hx hcell hlt hpn hi hi40
      by_cases hp : 32 < pn
      · have hpi : (32 : Int) < (pn : Int) := by omega
        clear hp
        go_wp2_with (go_at_call 26; refine CP.out.mono ?_; rintro r wx ⟨rfl, rfl⟩)
        go_roundw
        case rel => exact ⟨i + 1, g, j, d, HI.out.1, HI.out.2, rfl, by go_num, { HS.out with la := by have := HS.out.la; omega, st := by have := HS.out.st; omega }⟩
        case measure => simp [intOf]; have := HLT.out; omega
      · have hpi : ¬ (32 : Int) < (pn : Int) := by omega
        go_upto_region 10 with (first | (go_at_call 26; refine CP.out.mono ?_; rintro r wx ⟨rfl, rfl⟩) | (go_at_call 28; refine (run_lap HS.out.run).mono ?_; rintro r wx ⟨rfl, rfl⟩))
        have hpl : partsN x.l.length ≤ j.size := by rw [HOK.out.n, HS.out.sz, ← HPN.out]; omega
        have hlu : lastU d.K (2 * j.size) < 2147483647 := by rw [HS.out.sz]; exact Nat.lt_of_le_of_lt HS.out.la (by omega)
        have hsl := start_led (r := x.l) HS.out.qt HS.out.ov (by rw [HS.out.sz]; decide) (by rw [HS.out.sz]; decide) (by rw [HS.out.sz, HS.out.len]; decide) hpl hlu
        have hxn : x.x.n ≤ 1504 := by have := partsN_le x.x.n; have := HPN.out; omega
        have CS := run_start HS.out.run HOK.out (by rw [HS.out.sz, HS.out.len]; decide) (by rw [HS.out.sz]; decide) (by rw [HS.out.sz]; exact HS.out.fr) (by omega) (by have := HS.out.st; omega) (by rw [HS.out.qt.ps]; exact Nat.zero_le _)
        rw [HS.out.sz] at hsl hpl
        obtain ⟨X, hX⟩ : ∃ X, X = startF d j x.l := ⟨_, rfl⟩
        rw [← hX] at hsl CS
        obtain ⟨led, e0, el, eu, es, eK, est, _, _⟩ := hsl
        obtain ⟨d', j', e'⟩ := X
        dsimp only at led e0 el eu es eK est
        subst e0
        have HLE := Lib.hid led
        have el2 : j'.lap = lastU d.K 64 + 1 := el
        have HEL := Lib.hid el2
        have HES := Lib.hid es
        have HEK := Lib.hid eK
        have HST := Lib.hid est
        have HPL := Lib.hid hpl
        have hgt : ¬ (j'.lap : Int) ≤ (j.lap : Int) := by have := HS.out.lp; omega
        have HCS := Lib.hid CS
        clear hX CS led el el2 eu es eK est hlu hp hpl
        go_upto_region 12 with (first | (go_at_call 17; refine HCS.out.mono ?_; rintro r w4 ⟨rfl, r4, f4⟩) | (go_at_call 28; refine (run_lap r4).mono ?_; rintro r wx ⟨rfl, rfl⟩))
        have hlast : lastU d'.K 64 = j'.lap := by have h1 := HLE.out.last; rw [HES.out] at h1; exact h1
        have hlk := HLE.out.look
        rw [HES.out] at hlk
        have CO := run_open r4.st HLE.out.qt.dn (by rw [HEK.out, HS.out.len]; decide)
        have e1 : d'.K.length / 2 = 32 := by rw [HEK.out, HS.out.len]
        unfold OPost at CO
        rw [e1, HLE.out.qt.ps, seen_nil, hlk.1] at CO
        have HR4 := Lib.hid r4
        have HCO := Lib.hid CO
        have HLK := Lib.hid hlk.2
        have HLA := Lib.hid hlast
        clear CO r4 f4 hlk e1 hlast HCS
        go_upto_region 13 with (go_at_call 11; refine HCO.out.mono ?_; rintro r w5 ⟨g5, A5, m5, c5, rfl, rc5, r5, hg5, b5⟩)
        have R4 := Lib.hid (HR4.out.below b5)
        have HNG : Hid (g ≠ g5) := by show _ ≠ _; have := HR4.out.jb.lt; omega
        have RC5 := Lib.hid rc5
        have hm5 : 1 = m5 := rc5.len
        subst hm5
        have RC1 := Lib.hid ((HR.out.one HLT.out HX.out).below (Nat.le_refl _) r5.bel)
        have CT := Lib.hid (told_any 1 c5 (c - i) A5 (some ⟨b, o + i, none⟩) [x.l] w5 RC5.out RC1.out (by decide))
        have hsl := slice30 b o n c i (i + 1) (by have := HLT.out; have := HNC.out; omega) (by omega) (by have := HLT.out; have := HNC.out; omega)
        rw [show i + 1 - i = 1 by omega] at hsl
        have R5 := Lib.hid r5
        have hk0 : (lookJ d'.K (j0 32)).lap = 0 := rfl
        have HK0 := Lib.hid hk0
        have HQQ : Hid (Int.tmod (i : Int) 2 = 1 ∨ Int.tmod (i : Int) 2 = 0) := by show _ ∨ _; rw [Int.tmod_eq_emod_of_nonneg (by omega)]; omega
        have HLJ : Hid (LpS w w5 g5 dg (lookJ d'.K (j0 32)) d' (i + 1)) := by
          refine ⟨R5.out, HLE.out.qt, by rw [HEK.out, HS.out.len], rfl, rfl, ?_, by rw [HK0.out]; exact Nat.zero_le _, ?_, ?_⟩
          · have e2 : (lookJ d'.K (j0 32)).free = lookF d'.K 32 := rfl
            rw [e2, HLK.out]
            omega
          · rw [HLA.out, HEL.out]; have := HS.out.la; omega
          · rw [HST.out]; have := HS.out.st; have := HPL.out; omega
        have HLJ2 : Hid (LpS w w5 g dg j' d' (i + 1)) := by
          refine ⟨R4.out.below (Below.refl _ _), HLE.out.qt, by rw [HEK.out, HS.out.len], HES.out, HLE.out.ov, ?_, ?_, ?_, ?_⟩
          · have := HLE.out.fr; rw [HES.out] at this; exact this
          · rw [HLA.out]; exact Nat.le_refl _
          · rw [HLA.out, HEL.out]; have := HS.out.la; omega
          · rw [HST.out]; have := HS.out.st; have := HPL.out; omega
        generalize lookJ d'.K (j0 32) = k5 at *
        clear rc5 r5 hg5 b5 hk0 HCO
        go_wp2_with fail
        refine CT.out.mono ?_
        rintro r w6 ⟨rfl, b6⟩
        have CL6 := Lib.hid (run_lap (R5.out.below b6))
        rw [HK0.out] at CL6
        have HLJ6 : Hid (LpS w w6 g5 dg k5 d' (i + 1)) := { HLJ.out with run := HLJ.out.run.below b6 }
        have HLJ7 : Hid (LpS w w6 g dg j' d' (i + 1)) := { HLJ2.out with run := HLJ2.out.run.below b6 }
        clear HLJ HLJ2 CT
        go_wp2_with fail
        refine CL6.out.mono ?_
        rintro r w7 ⟨rfl, rfl⟩
        clear CL6
        go_upto_region 15 with fail
        rcases HQQ.out with hrem | hrem
        · have hcell6 : w6.cell? ⟨b, o + i, none⟩ = some (.slice x.x.A x.x.n x.x.c) := (HLJ6.out.run.bel.cell (p := ⟨b, o + i, none⟩) (World.block_lt_of_cell? w _ HCELL.out)).trans HCELL.out
          have hpl' : partsN x.l.length ≤ k5.size := by rw [HLJ6.out.sz]; exact HPL.out
          have hlu' : lastU d'.K (2 * k5.size) < 2147483647 := by rw [HLJ6.out.sz]; exact Nat.lt_of_le_of_lt HLJ6.out.la (by omega)
          have hsl2 := start_led (r := x.l) HLJ6.out.qt HLJ6.out.ov (by rw [HLJ6.out.sz]; decide) (by rw [HLJ6.out.sz]; decide) (by rw [HLJ6.out.sz, HLJ6.out.len]; decide) hpl' hlu'
          have CS2 := run_start HLJ6.out.run HOK.out (by rw [HLJ6.out.sz, HLJ6.out.len]; decide) (by rw [HLJ6.out.sz]; decide) (by rw [HLJ6.out.sz]; exact HLJ6.out.fr) (by omega) (by have := HLJ6.out.st; omega) (by rw [HLJ6.out.qt.ps]; exact Nat.zero_le _)
          rw [HLJ6.out.sz] at hsl2 hpl'
          obtain ⟨X, hX⟩ : ∃ X, X = startF d' k5 x.l := ⟨_, rfl⟩
          rw [← hX] at hsl2 CS2
          obtain ⟨led2, e02, el2, eu2, es2, eK2, est2, _, _⟩ := hsl2
          obtain ⟨d2, j2, e2⟩ := X
          dsimp only at led2 e02 el2 eu2 es2 eK2 est2
          subst e02
          have el3 : j2.lap = j'.lap + 1 := by rw [← HLA.out]; exact el2
          have hla2 : lastU d2.K 64 = j2.lap := by have h1 := led2.last; rw [es2] at h1; exact h1
          have HFR2 : Hid (j2.free ≤ 32) := by have h1 := led2.fr; rw [es2] at h1; exact h1
          have HFIN : Hid (∀ W, Run w W g5 dg j2 d2 → LpS w W g5 dg j2 d2 (i + 1)) := fun W hW => ⟨hW, led2.qt, by rw [eK2, HLJ6.out.len], es2, led2.ov, HFR2.out, by rw [hla2]; exact Nat.le_refl _, by rw [hla2, el3, HEL.out]; have := HS.out.la; omega, by rw [est2, HST.out]; have := HS.out.st; have := HPL.out; omega⟩
          have hadd : IntKind.i64.wrap ((j'.lap : Int) + 1) = (j2.lap : Int) := by rw [IntWalk.i64_in _ (by have := HLE.out.l1; omega), el3]; omega
          have HCS2 := Lib.hid CS2
          clear hX CS2 led2 el2 eu2 es2 eK2 est2 hlu' hpl' el3 hla2
          go_wp2_with fail
          refine HCS2.out.mono ?_
          rintro r w8 ⟨rfl, r8, f8⟩
          have R8 := Lib.hid r8
          have R9 := Lib.hid (HLJ7.out.run.other r8 f8 HNG.out)
          clear r8 f8
          go_wp2_with fail
          refine (run_lap R8.out).mono ?_
          rintro r w9 ⟨rfl, rfl⟩
          go_wp2_with fail
          refine (run_lap R9.out).mono ?_
          rintro r w9 ⟨rfl, rfl⟩
          go_wp2_with fail
          go_roundw
          case rel => exact ⟨i + 1, g5, j2, d2, HI.out.1, HI.out.2, rfl, by go_num, HFIN.out _ R8.out⟩
          case measure => simp [intOf]; have := HLT.out; omega
        · go_wp2_with fail
          go_roundw
          case rel => exact ⟨i + 1, g, j', d', HI.out.1, HI.out.2, rfl, by go_num, HLJ7.out⟩
          case measure => simp [intOf]; have := HLT.out; omega
    · clear hs
      by_cases hlt : i < n
      · have hlti : (i : Int) < (n : Int) := by omega
        have h40i : ¬ (i : Int) < 40 := by omega
        go_wp2_with fail
        go_ret
        exact ⟨rfl, HB.out⟩
      · have hlti : ¬ (i : Int) < (n : Int) := by omega
        go_wp2_with fail
        go_ret
        exact ⟨rfl, HB.out⟩
end Go.Proofs.Ytppdckncnfffcaa
