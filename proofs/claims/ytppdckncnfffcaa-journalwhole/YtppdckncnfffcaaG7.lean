/-
  JournalWhole's walk. Its conditions: the argument reads as lives.
-/
import Derived.Test.YtppdckncnfffcaaG6
namespace Go.Proofs.Ytppdckncnfffcaa
open Go.RowKit
set_option maxRecDepth 100000

/-- The disk's fuse is set, or not. -/
def CutF (w : World) (g dg q : Nat) (x : LfX) (j : Jn) (d : Dk) (hv : Value) (rs : List (List UInt8)) (s14 : Value) (wx : World) : Prop := ∃ f : Int, -1 ≤ f ∧ Liv w wx g dg q x j (fz d f) hv s14 rs rs
/-- The call is made. -/
def CutG (w : World) (g dg q : Nat) (x : LfX) (d : Dk) (H i : Nat) (st : Bool) (hv : Value) (rs : List (List UInt8)) (s14 s15 : Value) (wx : World) : Prop :=
  ∃ (may : List (List UInt8)) (d1 : Dk) (j1 : Jn) (e : Int), s15 = .int .i64 e ∧ Gone d H i st rs may (d1, j1, e) ∧ Liv w wx g dg q x j1 d1 hv s14 rs may
theorem fz_none {d : Dk} (h : Qt d) : fz d (-1) = d := by unfold fz; rw [← h.fu]
theorem fuse_is {d : Dk} (f : Int) (h : 0 ≤ f) : fuseD d f = fz d f := by
  unfold fuseD fz
  rw [show max f (-1) = f by omega]
/-- What is the case behind a round that was done or refused. -/
theorem WhS.next {w W : World} {g dg q : Nat} {x : LfX} {j : Jn} {d : Dk} {hv mv : Value} {rs may : List (List UInt8)} {N H i : Nat} {st : Bool} (h : Liv w W g dg q x j d hv mv rs may) (hw : Wh d j H (i + 1) st rs) (hl : d.K.length = N) (hs : d.steps ≤ 200 * (i : Int) + 100) : WhS w W g dg j d N H (i + 1) st hv rs :=
  ⟨h.run, hw, hl, h.row, by push_cast; omega⟩
theorem WhS.nextM {w W : World} {g dg q : Nat} {x : LfX} {j : Jn} {d : Dk} {hv mv : Value} {rs may : List (List UInt8)} {N H i : Nat} {st : Bool} (h : Liv w W g dg q x j d hv mv rs may) (hw : Wh d j H (i + 1) st may) (hl : d.K.length = N) (hs : d.steps ≤ 200 * (i : Int) + 100) : WhS w W g dg j d N H (i + 1) st mv may :=
  ⟨h.run, hw, hl, h.mrow, by push_cast; omega⟩
set_option maxHeartbeats 16000000 in
theorem whole_walk (a : Int) (A : Option Addr) (n0 c : Nat) (l : List LfX) (w : World) (ho : Lfs w A l) (hm : l.length = n0) : Calls Try.prog 5 #[.int .i64 a, .slice A n0 c] w fun e w' => e = .returned (.bool true) ∧ Below w.heap.size w w' := by
  have HO := Lib.hid ho
  have HM := Lib.hid hm
  have CA := Lib.hid (awake_any w)
  obtain ⟨N, hN4, hN35, CZ0⟩ := size_any a
  have CZ := Lib.hid CZ0
  obtain ⟨H, hH⟩ : ∃ H, H = N / 2 := ⟨_, rfl⟩
  have HNB : Hid (4 ≤ N ∧ N ≤ 35 ∧ 2 ≤ H ∧ H ≤ 17 ∧ H = N / 2) := ⟨hN4, hN35, by omega, by omega, hH⟩
  clear ho hm CZ0 hN4 hN35 hH
  go_enter Try.func5, Try.ntmps5
  go_upto_region 3 with (go_at_call 8; refine CA.out.mono ?_; rintro e w1 ⟨rfl, b1⟩)
  have CN := Lib.hid (st_new (w0 := w) (W := w1) N (by have := HNB.out; omega) (by have := HNB.out; omega) b1)
  clear CA b1
  go_wp2_with fail
  refine (CZ.out _).mono ?_
  rintro e wz ⟨rfl, rfl⟩
  go_upto_region 4 with (go_at_call 9; refine CN.out.mono ?_; rintro e w2 ⟨dg, rfl, s2, _⟩)
  have CO := run_open s2 (by rfl) (by simp [newD]; have := HNB.out; omega)
  have hlk := look_none (S := (newD N).K) (n := H) (by have := HNB.out; omega) (by simp [newD]; have := HNB.out; omega) (new_last _ _)
  have e0 : seen (newD N).K (newD N).ps = (newD N).K := rfl
  have e1 : (newD N).K.length / 2 = H := by simp [newD]; have := HNB.out; omega
  unfold OPost at CO
  rw [e0, e1, hlk.1] at CO
  have CO1 := Lib.hid CO
  clear s2 CO CN CZ
  go_upto_region 7 with (go_at_call 11; refine CO1.out.mono ?_; rintro e w3 ⟨g, A0, m0, c0, rfl, _, r3, _, _⟩)
  have HL : Hid (WhS w w3 g dg (lookJ (newD N).K (j0 H)) (newD N) N H 0 false (.slice none 0 0) []) := by
    refine ⟨r3, Wh.opened (Qt.new N) HNB.out.2.2.1 HNB.out.2.2.2.1 (by simp [newD]; have := HNB.out; omega) (SmK.new N) (by rw [new_last]; exact Nat.le_refl _) (Nat.le_refl _) hlk.1, by simp [newD], (RowT.nil w3).down r3.bel.size, by show (0 : Int) ≤ 200 * ((0 : Nat) : Int); omega⟩
  generalize lookJ (newD N).K (j0 H) = jj at *
  generalize newD N = dd at *
  clear CO1 r3 hlk e0 e1
  go_wp2_with fail
  go_loopw [7, 10, 11, 12] (fun s7 s10 s11 s12 wr => ∃ (i g : Nat) (j : Jn) (d : Dk) (st : Bool) (rs : List (List UInt8)), i ≤ n0 ∧ i ≤ 40 ∧ s7 = .pointer (some ⟨g, 0, none⟩) ∧ s11 = .bool st ∧ s12 = .int .i64 (i : Int) ∧ WhS w wr g dg j d N H i st s10 rs) (fun _ _ _ s _ => n0 - (intOf s).toNat)
  case atStart => exact ⟨0, g, jj, dd, false, [], Nat.zero_le _, by omega, rfl, rfl, rfl, HL.out⟩
  case round =>
    clear HL
    obtain ⟨i, g, j, d, st, rs, hi, hi40, rfl, rfl, rfl, hs⟩ := hrel
    have HS := Lib.hid hs
    obtain ⟨Ah, ch, rfl, _⟩ := hs.row.form
    obtain ⟨nh, hnh⟩ : ∃ nh, nh = (rs.map txt).length := ⟨_, rfl⟩
    rw [← hnh] at HS ⊢
    have hi0 : (0 : Int) ≤ (i : Int) := by omega
    by_cases hc : i < n0 ∧ i < 40
    · obtain ⟨hi1, hi2⟩ := hc
      have hil : i < l.length := by rw [HM.out]; exact hi1
      obtain ⟨b, off, rfl, hbs, hc⟩ := (HO.out.1.below (Nat.le_refl _) hs.run.bel).at_ hil
      have XO := Lib.hid (HO.out.2 l[i] (List.getElem_mem hil))
      have e0 := hc 0 _ rfl
      have e1 := hc 1 _ rfl
      have e2 := hc 2 _ rfl
      have e3 := hc 3 _ rfl
      rw [show eLf.wd = 4 from rfl] at e0 e1 e2 e3
      rw [Nat.add_zero] at e0
      generalize l[i] = x at e0 e1 e2 e3 XO
      have e1' : wr.cell? ⟨b, off + i * 4 + 1, none⟩ = some (.slice x.B.x.A x.B.x.n x.B.x.c) := e1
      have e3' : wr.cell? ⟨b, off + i * 4 + 3, none⟩ = some (.slice x.C.x.A x.C.x.n x.C.x.c) := e3
      clear e1 e3
      have hii : (i : Int) < (n0 : Int) := by omega
      have hi40' : (i : Int) < 40 := by omega
      have hw1 : IntKind.i64.wrap ((i : Int) + 1) = ((i + 1 : Nat) : Int) := by rw [IntWalk.i64_in _ (by omega)]; omega
      have HIM : Hid (i + 1 ≤ n0 ∧ i + 1 ≤ 40) := ⟨hi1, hi2⟩
      clear hbs hil hc hi hi40 hi1 hi2 hs hnh
      go_upto_region 13 with fail
      have bA : Below wr.heap.size wr (wr.alloc (.cells #[.bool x.S, .slice x.B.x.A x.B.x.n x.B.x.c, .int .i64 x.F, .slice x.C.x.A x.C.x.n x.C.x.c] 54)) := (Below.refl _ _).alloc (Nat.le_refl _) _
      have p0 : Liv w (wr.alloc (.cells #[.bool x.S, .slice x.B.x.A x.B.x.n x.B.x.c, .int .i64 x.F, .slice x.C.x.A x.C.x.n x.C.x.c] 54)) g dg wr.heap.size x j d (.slice Ah nh ch) (.slice none 0 0) rs [] :=
        ⟨HS.out.run.below bA, heap_new _ _, HS.out.row.below bA, (RowT.nil _).down (Nat.le_trans HS.out.run.bel.size bA.size), apart_nil _⟩
      generalize wr.alloc (.cells #[.bool x.S, .slice x.B.x.A x.B.x.n x.B.x.c, .int .i64 x.F, .slice x.C.x.A x.C.x.n x.C.x.c] 54) = W0 at p0 ⊢
      generalize wr.heap.size = q at p0 ⊢
      have P0 := Lib.hid p0
      have c1 := p0.c1
      have HW : Hid (Wh d j H i st rs ∧ d.K.length = N ∧ d.steps ≤ 200 * (i : Int)) := ⟨HS.out.wh, HS.out.len, HS.out.st⟩
      have HRL : Hid (rs.length ≤ 40) := by show _ ≤ _; have := HS.out.wh.ct; have := HIM.out; omega
      clear p0 bA e0 e1' e2 e3' HS hii hi40'
      by_cases hbig : 3000 < x.B.x.n
      · have hbi : (3000 : Int) < (x.B.x.n : Int) := by omega
        go_wp2_with fail
        go_ret
        exact ⟨rfl, P0.out.run.bel⟩
      · have hbi : ¬ (3000 : Int) < (x.B.x.n : Int) := by omega
        have HBI := Lib.hid hbig
        obtain ⟨va, W1, hrun, p1⟩ := P0.out.copy (by have := HRL.out; omega)
        go_upto_region 16 with (refine wpList_append_run rfl _ _ _ _ rfl _ _ rfl rfl _ _ hrun ?_)
        have P1 := Lib.hid p1
        have c2 := p1.c2
        obtain ⟨fb, hfb⟩ : ∃ fb, fb = decide (0 ≤ x.F ∧ x.F < 60) := ⟨_, rfl⟩
        have HFB := Lib.hid hfb
        clear p1 hrun c1 hbi hbig hfb P0
        go_cut [66] from 59 to 65 (fun s66 wx => s66 = .bool fb ∧ W1 = wx)
        case first =>
          by_cases h0 : 0 ≤ x.F
          · by_cases h60 : x.F < 60
            · have HF : Hid (Value.bool true = Value.bool fb) := by show _ = _; rw [HFB.out]; exact congrArg Value.bool (decide_eq_true ⟨h0, h60⟩).symm
              go_wp2_with fail
              go_meet
              case rel => exact ⟨HF.out, rfl⟩
            · have HF : Hid (Value.bool false = Value.bool fb) := by show _ = _; rw [HFB.out]; exact congrArg Value.bool (decide_eq_false fun h => h60 h.2).symm
              go_wp2_with fail
              go_meet
              case rel => exact ⟨HF.out, rfl⟩
          · have HF : Hid (Value.bool false = Value.bool fb) := by show _ = _; rw [HFB.out]; exact congrArg Value.bool (decide_eq_false fun h => h0 h.1).symm
            go_wp2_with fail
            go_meet
            case rel => exact ⟨HF.out, rfl⟩
        case rest =>
          obtain ⟨rfl, rfl⟩ := hcut
          go_upto_if 66 with fail
          go_cut [14] from 67 to 70 (CutF w g dg q x j d (.slice Ah nh ch) rs)
          case first =>
            cases fb with
            | false =>
              go_wp2_with fail
              go_meet
              case rel => exact ⟨-1, Int.le_refl _, by rw [fz_none HW.out.1.qt]; exact P1.out⟩
            | true =>
              have hx := of_decide_eq_true HFB.out.symm
              have CF := P1.out.fuse x.F (by omega)
              rw [fuse_is _ hx.1] at CF
              have HCF := Lib.hid CF
              have HX := Lib.hid hx
              clear CF hx
              go_wp2_with fail
              refine HCF.out.mono ?_
              rintro r w4 ⟨rfl, p4⟩
              have P4 := Lib.hid p4
              clear p4
              go_wp2_with fail
              go_meet
              case rel => exact ⟨x.F, by have := HX.out; omega, P4.out⟩
          case rest =>
            obtain ⟨f, hf, p4⟩ := hcut
            obtain ⟨W4, rfl⟩ : ∃ W4, W4 = wc := ⟨wc, rfl⟩
            have P4 := Lib.hid p4
            have HFF := Lib.hid hf
            clear p4 hf c2 HFB P1
            obtain ⟨sb, hsb⟩ : ∃ sb, sb = (x.S || !st) := ⟨_, rfl⟩
            have HSB := Lib.hid hsb
            obtain ⟨S, hS⟩ : ∃ S, S = x.S := ⟨_, rfl⟩
            have c0 := P4.out.c0
            rw [← hS] at c0
            have HSS := Lib.hid hS
            clear hsb hS
            go_upto_region 19 with fail
            go_cut [76] from 71 to 75 (fun s76 wx => s76 = .bool sb ∧ W4 = wx)
            case first =>
              have HF : Hid (Value.bool (S || !st) = Value.bool sb) := by show _ = _; rw [HSB.out, HSS.out]
              cases S <;> cases st
              all_goals
                go_wp2_with fail
                go_meet
                case rel => exact ⟨HF.out, rfl⟩
            case rest =>
              obtain ⟨rfl, rfl⟩ := hcut
              clear c0
              go_upto_if 76 with fail
              go_cut [14, 15] from 77 to 94 (CutG w g dg q x d H i st (.slice Ah nh ch) rs)
              case first =>
                have hxn : x.B.x.n ≤ 3000 := by have := HBI.out; omega
                have hil : i < 200 := by have := HIM.out; omega
                have hsz := HW.out.1.sz
                have hn1 := HW.out.1.n1
                have hn2 := HW.out.1.n2
                have hkl := HW.out.1.len
                have hqp := HW.out.1.qt.ps
                have hfr := HW.out.1.fr
                have hus := HW.out.1.us
                have hct := HW.out.1.ct
                have hsteps : d.steps ≤ 900000 := by have := HW.out.2.2; have := HIM.out; omega
                have hps : d.ps.length ≤ 90000 := by rw [hqp]; exact Nat.zero_le _
                cases sb with
                | true =>
                  have CS := P4.out.start XO.out.b (by show 2 * j.size ≤ d.K.length; omega) (by omega) (by omega) (by omega) hsteps hps
                  have hG := start_gone HW.out.1 hil f HFF.out x.B.l
                  obtain ⟨X, hX⟩ : ∃ X, X = startF (fz d f) j x.B.l := ⟨_, rfl⟩
                  rw [← hX] at hG CS
                  obtain ⟨d1, j1, e⟩ := X
                  dsimp only at CS
                  have HCS := Lib.hid CS
                  have HG := Lib.hid hG
                  have hc1 := P4.out.c1
                  clear CS hG hX hsz hn1 hn2 hkl hqp hfr hus hct hsteps hps hxn hil
                  go_upto_region 21 with (go_at_call 17; refine HCS.out.mono ?_; rintro r w5 ⟨rfl, p5⟩)
                  have P5 := Lib.hid p5
                  have hc5 := p5.c1
                  have hcv := conv_by (XO.out.b.s.below (Nat.le_refl _) p5.run.bel) XO.out.b.n x.B.x.c
                  have P6 := Lib.hid (p5.lit x.B.l)
                  clear p5 hc1 HCS
                  go_wp2_with fail
                  go_meet
                  case rel => exact ⟨[x.B.l], d1, j1, e, rfl, HG.out, P6.out⟩
                | false =>
                  have hst : st = true := by
                    have h := HSB.out
                    revert h
                    cases x.S <;> cases st <;> simp
                  subst hst
                  have hled := HW.out.1.led rfl
                  have CS := P4.out.append XO.out.b (by omega) (by omega) hled.fits (by rw [hled.rc]; omega) (by omega) hsteps hps
                  have hG := append_gone HW.out.1 hil f HFF.out x.B.l
                  obtain ⟨X, hX⟩ : ∃ X, X = appendF (fz d f) j x.B.l := ⟨_, rfl⟩
                  rw [← hX] at hG CS
                  obtain ⟨d1, j1, e⟩ := X
                  dsimp only at CS
                  have HCS := Lib.hid CS
                  have HG := Lib.hid hG
                  have hc1 := P4.out.c1
                  clear CS hG hX hsz hn1 hn2 hkl hqp hfr hus hct hsteps hps hxn hil hled
                  go_upto_region 23 with (go_at_call 15; refine HCS.out.mono ?_; rintro r w5 ⟨rfl, p5⟩)
                  have P5 := Lib.hid p5
                  have hc5 := p5.c1
                  have hcv := conv_by (XO.out.b.s.below (Nat.le_refl _) p5.run.bel) XO.out.b.n x.B.x.c
                  obtain ⟨vb, W6, hrun, p6⟩ := p5.more x.B.l (by have := HRL.out; omega)
                  have P6 := Lib.hid p6
                  clear p5 p6 hc1 HCS
                  go_wp2_with (refine wpList_append_run rfl _ _ _ _ rfl _ _ rfl rfl _ _ hrun ?_)
                  go_meet
                  case rel => exact ⟨rs ++ [x.B.l], d1, j1, e, rfl, HG.out, P6.out⟩
              case rest =>
                obtain ⟨may, d1, j1, e, rfl, hG, p5⟩ := hcut
                obtain ⟨W5, rfl⟩ : ∃ W5, W5 = wc := ⟨wc, rfl⟩
                have P5 := Lib.hid p5
                have HDL : Hid (d.K.length = N ∧ d.steps ≤ 200 * (i : Int)) := ⟨HW.out.2.1, HW.out.2.2⟩
                clear p5 P4 HSB HSS HFF HBI HW
                cases hG with
                | done hw hl hs =>
                  have HG : Hid (Wh (fuseD d1 (-1)) j1 H (i + 1) true may ∧ d1.K.length = d.K.length ∧ d1.steps ≤ d.steps + 100) := ⟨hw, hl, hs⟩
                  have HCF := Lib.hid (P5.out.fuse (-1) (by omega))
                  clear hw hl hs
                  go_wp2_with fail
                  refine HCF.out.mono ?_
                  rintro r w6 ⟨rfl, p6⟩
                  have P6 := Lib.hid p6
                  clear p6 HCF P5
                  go_wp2_with fail
                  go_roundw
                  case rel => exact ⟨i + 1, g, j1, fuseD d1 (-1), true, may, HIM.out.1, HIM.out.2, rfl, rfl, by go_num, WhS.nextM P6.out HG.out.1 (by show d1.K.length = N; rw [HG.out.2.1, HDL.out.1]) (by show d1.steps ≤ _; have := HG.out.2.2; have := HDL.out.2; omega)⟩
                  case measure => simp [intOf]; have := HIM.out; omega
                | full hw hl hs =>
                  have HG : Hid (Wh (fuseD d1 (-1)) j1 H (i + 1) st rs ∧ d1.K.length = d.K.length ∧ d1.steps ≤ d.steps + 100) := ⟨hw, hl, hs⟩
                  have HCF := Lib.hid (P5.out.fuse (-1) (by omega))
                  clear hw hl hs
                  go_wp2_with fail
                  refine HCF.out.mono ?_
                  rintro r w6 ⟨rfl, p6⟩
                  have P6 := Lib.hid p6
                  clear p6 HCF P5
                  go_wp2_with fail
                  go_roundw
                  case rel => exact ⟨i + 1, g, j1, fuseD d1 (-1), st, rs, HIM.out.1, HIM.out.2, rfl, rfl, by go_num, WhS.next P6.out HG.out.1 (by show d1.K.length = N; rw [HG.out.2.1, HDL.out.1]) (by show d1.steps ≤ _; have := HG.out.2.2; have := HDL.out.2; omega)⟩
                  case measure => simp [intOf]; have := HIM.out; omega
                | broken hov hsz hus hl hs hps hcr =>
                  have hcc := hcr x.C.l
                  have hrm := run_room P5.out.run (by rw [hsz]; have := HNB.out; omega) (by rw [hsz]; exact hus)
                  rw [room_over hov] at hrm
                  have HRM := Lib.hid hrm
                  have HJA := Lib.hid (jappend_over P5.out.run.jb hov none 0 0)
                  have HPS : Hid (d1.ps.length ≤ 100000) := by show _ ≤ _; omega
                  have HD2 : Hid ((crashD d1 x.C.l).K.length = N ∧ (crashD d1 x.C.l).steps ≤ 200 * (i : Int) + 100) := by
                    refine ⟨?_, ?_⟩
                    · show (crashN d1.K d1.ps x.C.l d1.ps.length).length = N
                      rw [crashN_length, hl, HDL.out.1]
                    · show d1.steps ≤ _
                      have := HDL.out.2
                      omega
                  have HCC := Lib.hid hcc
                  clear hov hsz hus hl hs hps hcr hcc hrm
                  go_wp2_with fail
                  refine HJA.out.mono ?_
                  rintro r w6 ⟨rfl, rfl⟩
                  go_wp2_with fail
                  refine HRM.out.mono ?_
                  rintro r w6 ⟨rfl, b6⟩
                  have P6 := Lib.hid (P5.out.below b6)
                  clear b6 HJA HRM P5
                  go_upto_region 35 with fail
                  have c3 := P6.out.c3
                  have HCX := Lib.hid (P6.out.crash XO.out.c HPS.out)
                  go_upto_region 36 with (go_at_call 30; refine HCX.out.mono ?_; rintro r w7 ⟨rfl, p7⟩)
                  have P7 := Lib.hid p7
                  clear p7 HCX c3 P6 HPS
                  generalize crashD d1 x.C.l = d2 at *
                  have hop := run_open P7.out.run.st HCC.out.2.qt.dn (by rw [HD2.out.1]; have := HNB.out; omega)
                  unfold OPost at hop
                  rw [HCC.out.2.qt.ps, seen_nil, HD2.out.1, ← HNB.out.2.2.2.2] at hop
                  have HOP := Lib.hid hop
                  obtain ⟨gs, hgs⟩ : ∃ gs, gs = lookL d2.K H := ⟨_, rfl⟩
                  rw [← hgs] at HCC HOP
                  have HGS := Lib.hid hgs
                  clear hop hgs
                  go_upto_region 39 with (go_at_call 11; refine HOP.out.mono ?_; rintro r w8 ⟨g8, A8, m8, c8, rfl, rc8, r8, _, b8⟩)
                  have P8 := Lib.hid (P7.out.below b8)
                  have R8 := Lib.hid r8
                  have hm8 : m8 ≤ 100000 := by have := rc8.len; have := HCC.out.2.ct; have := HIM.out; omega
                  have HTX := Lib.hid (texts_any m8 c8 A8 gs w8 rc8 hm8)
                  clear r8 rc8 b8 hm8 HOP P7
                  go_upto_region 40 with (go_at_call 23; refine HTX.out.mono ?_; rintro r w9 ⟨v9, rfl, row9, b9⟩)
                  have P9 := Lib.hid (P8.out.below b9)
                  have R9 := Lib.hid (R8.out.below b9)
                  have ROW9 := Lib.hid (row9.down R8.out.bel.size)
                  obtain ⟨A9, c9, rfl, _⟩ := row9.form
                  obtain ⟨n9, hn9⟩ : ∃ n9, n9 = (gs.map txt).length := ⟨_, rfl⟩
                  rw [← hn9] at ROW9 ⊢
                  obtain ⟨Am, cm, rfl, _⟩ := P9.out.mrow.form
                  obtain ⟨nm, hnm⟩ : ∃ nm, nm = (may.map txt).length := ⟨_, rfl⟩
                  rw [← hnm] at P9 ⊢
                  have hn9b : n9 ≤ 100000 := by rw [hn9, List.length_map]; have := HCC.out.2.ct; have := HIM.out; omega
                  have HN9 := Lib.hid hn9b
                  clear row9 b9 hn9 hnm hn9b HTX P8 R8
                  have HFIN : Hid (∀ W, Liv w W g dg q x j1 d2 (.slice Ah nh ch) (.slice Am nm cm) rs may → Run w W g8 dg (lookJ d2.K (j0 H)) d2 → RowT eKy 9 W w.heap.size (.slice A9 n9 c9) (gs.map txt) → WhS w W g8 dg (lookJ d2.K (j0 H)) d2 N H (i + 1) false (.slice A9 n9 c9) gs) := fun W _ hr hrow =>
                    ⟨hr, HCC.out.2, HD2.out.1, hrow, by have := HD2.out.2; push_cast; omega⟩
                  by_cases he : gs = rs
                  · have C1 := (P9.out.same ROW9.out rfl rfl rfl HN9.out).1
                    rw [decide_eq_true he] at C1
                    have HC1 := Lib.hid C1
                    clear C1 he
                    go_wp2_with fail
                    refine HC1.out.mono ?_
                    rintro r w10 ⟨rfl, b10⟩
                    have P10 := Lib.hid (P9.out.below b10)
                    have R10 := Lib.hid (R9.out.below b10)
                    have ROW10 := Lib.hid (ROW9.out.below b10)
                    clear b10 HC1 P9 R9 ROW9
                    go_wp2_with fail
                    go_roundw
                    case rel => exact ⟨i + 1, g8, lookJ d2.K (j0 H), d2, false, gs, HIM.out.1, HIM.out.2, rfl, rfl, by go_num, HFIN.out _ P10.out R10.out ROW10.out⟩
                    case measure => simp [intOf]; have := HIM.out; omega
                  · have hm : gs = may := by
                      rcases HCC.out.1 with h | h
                      · exact absurd h he
                      · exact h
                    have C1 := (P9.out.same ROW9.out rfl rfl rfl HN9.out).1
                    rw [decide_eq_false he] at C1
                    have HC1 := Lib.hid C1
                    have HE := Lib.hid hm
                    clear C1 he hm
                    go_wp2_with fail
                    refine HC1.out.mono ?_
                    rintro r w10 ⟨rfl, b10⟩
                    have P10 := Lib.hid (P9.out.below b10)
                    have R10 := Lib.hid (R9.out.below b10)
                    have ROW10 := Lib.hid (ROW9.out.below b10)
                    clear b10 HC1 P9 R9 ROW9
                    have C2 := (P10.out.same ROW10.out rfl rfl rfl HN9.out).2
                    rw [decide_eq_true HE.out] at C2
                    have HC2 := Lib.hid C2
                    clear C2
                    go_wp2_with fail
                    refine HC2.out.mono ?_
                    rintro r w11 ⟨rfl, b11⟩
                    have P11 := Lib.hid (P10.out.below b11)
                    have R11 := Lib.hid (R10.out.below b11)
                    have ROW11 := Lib.hid (ROW10.out.below b11)
                    clear b11 HC2 P10 R10 ROW10
                    go_wp2_with fail
                    go_roundw
                    case rel => exact ⟨i + 1, g8, lookJ d2.K (j0 H), d2, false, gs, HIM.out.1, HIM.out.2, rfl, rfl, by go_num, HFIN.out _ P11.out R11.out ROW11.out⟩
                    case measure => simp [intOf]; have := HIM.out; omega
    · have hcond : ((i : Int) < (n0 : Int) ∧ ¬ (i : Int) < 40) ∨ ¬ (i : Int) < (n0 : Int) := by omega
      have HW : Hid (Wh d j H i st rs ∧ d.K.length = N ∧ d.steps ≤ 200 * (i : Int)) := ⟨HS.out.wh, HS.out.len, HS.out.st⟩
      have HI := Lib.hid hi40
      have HNH := Lib.hid hnh
      obtain ⟨W0, rfl⟩ : ∃ W0, W0 = wr := ⟨wr, rfl⟩
      clear hc hi hi40 hs hnh
      go_upto_region 10 with fail
      go_cut [45] from 38 to 44 (fun s45 wx => s45 = .bool false ∧ W0 = wx)
      case first =>
        rcases hcond with ⟨h1, h2⟩ | h1
        all_goals
          go_wp2_with fail
          go_meet
          case rel => exact ⟨rfl, rfl⟩
      case rest =>
        obtain ⟨rfl, rfl⟩ := hcut
        have CC := st_crash HS.out.run.st [] none 0 0 rfl (by rw [HW.out.1.qt.ps]; exact Nat.zero_le _) (fun w' _ => sl_nil _)
        rw [crash_none HW.out.1.qt] at CC
        have HCC := Lib.hid CC
        clear CC hcond
        go_upto_region 45 with (go_at_call 30; refine HCC.out.mono ?_; rintro r w2 ⟨rfl, s2, f2⟩)
        have hop := run_open s2 HW.out.1.qt.dn (by rw [HW.out.2.1]; exact HNB.out.1)
        unfold OPost at hop
        rw [HW.out.1.qt.ps, seen_nil, HW.out.2.1, ← HNB.out.2.2.2.2, HW.out.1.lk] at hop
        have HOP := Lib.hid hop
        have ROW2 := Lib.hid (HS.out.row.fr f2 (by simp [kD]) (fun i hi => by cases hi))
        clear hop s2 f2 HCC HS
        go_upto_region 46 with (go_at_call 11; refine HOP.out.mono ?_; rintro r w3 ⟨g3, A3, m3, c3, rfl, rc3, r3, _, b3⟩)
        have ROW3 := Lib.hid (ROW2.out.below b3)
        have hm3 : m3 = nh := by rw [← rc3.len, HNH.out, List.length_map]
        have hnb : nh ≤ 100000 := by have := HW.out.1.ct; have := HI.out; rw [HNH.out, List.length_map]; omega
        subst hm3
        have HB3 := Lib.hid r3.bel
        have HTX := Lib.hid (texts_any m3 c3 A3 rs w3 rc3 hnb)
        have HNB3 := Lib.hid hnb
        clear rc3 r3 b3 hnb HOP ROW2
        go_wp2_with fail
        refine HTX.out.mono ?_
        rintro r w4 ⟨v4, rfl, row4, b4⟩
        have ROW4 := Lib.hid (ROW3.out.below b4)
        have HB4 := Lib.hid (HB3.out.trans (b4.mono HB3.out.size))
        obtain ⟨A4, c4, rfl, _⟩ := row4.form
        rw [← HNH.out] at row4 ⊢
        obtain ⟨A', c', e1, s1, _⟩ := row4.sl row4.small
        obtain ⟨A'', c'', e2, s2, _⟩ := ROW4.out.sl ROW4.out.small
        rw [← HNH.out] at e1 e2
        injection e1 with e1a e1b e1c
        injection e2 with e2a e2b e2c
        subst e1a e2a
        have CS := same_any (rs.map txt) (rs.map txt) A4 Ah m3 c4 m3 ch w4 s1 s2 HNH.out.symm HNH.out.symm HNB3.out
        rw [decide_eq_true rfl] at CS
        have HCS := Lib.hid CS
        clear CS row4 b4 s1 s2 HTX ROW3 HB3 ROW4 e1c e2c
        go_wp2_with fail
        refine HCS.out.mono ?_
        rintro r w5 ⟨rfl, b5⟩
        go_wp2_with fail
        go_ret
        exact ⟨rfl, HB4.out.trans (b5.mono HB4.out.size)⟩
end Go.Proofs.Ytppdckncnfffcaa
