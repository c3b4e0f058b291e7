/-
  The walk of DetectPlays. Its conditions: the nodes and the script lie in memory.
-/
import Derived.Test.YtdmgmbjdocechaaW13
namespace Go.Proofs.Ytdmgmbjdocechaa
open Go.RowKit Go.Maps Go.ChangeMaps
open Go.Sort (grow)

def PlRel (n : Nat) (g B h : Nat) (pat : Int) (w : World) (s10 : Value) (wr : World) : Prop :=
  ∃ (k : Nat) (L : List Tm) (now ch : Int), k ≤ 200 ∧ k ≤ n ∧ s10 = .int .i64 (k : Int) ∧ DetAt wr w.heap.size g B L pat now ch ∧ RefAt wr w.heap.size h L pat now ch ∧ Below w.heap.size w wr ∧ now ≤ (k : Int) ∧ ch ≤ 1000 * (k : Int) ∧ L.length ≤ 200
def PsRel (w : World) (g B h q k : Nat) (x : Step) (pat : Int) (_s : Value) (W : World) : Prop := ∃ (L : List Tm) (now ch : Int), Pl w W g B h L pat now ch L now ch q x ∧ now ≤ (k : Int) + 1 ∧ ch ≤ 1000 * ((k : Int) + 1) ∧ L.length ≤ 200
set_option maxRecDepth 100000 in
set_option maxHeartbeats 16000000 in
theorem plays_walk (p : Int) (N : List ByteArray) (A0 : Option Addr) (n0 c0 : Nat) (l : List Step) (A : Option Addr) (n c : Nat) (w : World) (hs0 : Sl eKy w A0 N) (hz0 : Sized N) (hn0 : N.length = n0) (hs : Sl eSt w A l) (hz : ∀ x ∈ l, x.k.size ≤ maxLen) (hn : l.length = n) :
    Calls Try.prog 3 #[.int .i64 p, .slice A0 n0 c0, .slice A n c] w fun e w' => e = .returned (.bool true) ∧ Below w.heap.size w w' := by
  have H := Lib.hid hs
  have HE := Lib.hid hn
  have HZ := Lib.hid hz
  have H0 := Lib.hid hs0
  have HE0 := Lib.hid hn0
  have HZ0 := Lib.hid hz0
  clear hs hn hz hs0 hn0 hz0
  go_enter Try.func3, Try.ntmps3
  go_wp2_with fail
  refine (awake_any w).mono ?_
  rintro e w1 ⟨rfl, b1⟩
  have B1 := Lib.hid b1
  clear b1
  by_cases hn200 : (n0 : Int) > 200
  · go_wp2
    go_ret
    exact ⟨rfl, B1.out⟩
  · have hd200 : decide ((200 : Int) < (n0 : Int)) = false := decide_eq_false (by omega)
    have HL : Hid ((newL N).length ≤ 200) := by have := newL_length N; have := HE0.out; show _ ≤ _; omega
    have CN := Lib.hid (new_any w.heap.size p N A0 n0 c0 w1 (H0.out.below (Nat.le_refl _) B1.out) HE0.out HZ0.out (by omega) B1.out.size)
    go_wp2_with fail
    refine CN.out.mono ?_
    rintro r w2 ⟨g, B, rfl, d2, b2, _, _⟩
    have B2 := Lib.hid (B1.out.trans (b2.mono B1.out.size))
    have CR := Lib.hid (refnew_any p N A0 n0 c0 w2 (H0.out.below (Nat.le_refl _) B2.out) HE0.out (by omega))
    have D2 := Lib.hid d2
    clear d2 b2 CN B1
    go_wp2_with fail
    refine CR.out.mono ?_
    rintro r w3 ⟨h, rfl, r3, b3⟩
    have D3 : Hid (PlRel n g B h (max p 1) w (.int .i64 0) w3) := ⟨0, newL N, 0, 0, Nat.zero_le _, Nat.zero_le _, rfl, D2.out.below b3, r3.down B2.out.size, B2.out.trans (b3.mono B2.out.size), by omega, by omega, HL.out⟩
    obtain ⟨pat, hpat⟩ : ∃ pat, pat = max p 1 := ⟨_, rfl⟩
    rw [← hpat] at D3
    clear r3 b3 CR D2 B2 hpat
    go_wp2
    go_loopw [10] (PlRel n g B h pat w) (fun i _ => 201 - (intOf i).toNat)
    case atStart => exact D3.out
    case round =>
      obtain ⟨k, L, now, ch, hk2, hkn, rfl, hd, hr, hb, hnow, hch, hL⟩ := hrel
      have HD := Lib.hid hd
      have HR := Lib.hid hr
      have HB := Lib.hid hb
      have HBD : Hid (now ≤ (k : Int) ∧ ch ≤ 1000 * (k : Int) ∧ L.length ≤ 200 ∧ 0 ≤ now ∧ 0 ≤ ch) := ⟨hnow, hch, hL, hd.good.n0, hd.good.c0⟩
      clear hd hr hb hnow hch hL D3 HL
      by_cases hlt : k < n ∧ k < 200
      · obtain ⟨hlt1, hlt2⟩ := hlt
        have hkl : k < l.length := by rw [HE.out]; exact hlt1
        obtain ⟨b, off, rfl, _, x0, x1⟩ := at_st (H.out.below (Nat.le_refl _) HB.out) hkl
        have HX := Lib.hid (HZ.out l[k] (List.getElem_mem hkl))
        have b9 : Below wr.heap.size wr (wr.alloc (oStep l[k])) := (Below.refl _ _).alloc (Nat.le_refl _) _
        have S0 : Hid (Pl w (wr.alloc (oStep l[k])) g B h L pat now ch L now ch wr.heap.size l[k]) := ⟨HD.out.below b9, HR.out.below b9, HB.out.trans (b9.mono HB.out.size), heap_new _ _⟩
        generalize l[k] = x at x0 x1 HX S0
        have hlti : (k : Int) < (n : Int) := by omega
        have hlti2 : (k : Int) < 200 := by omega
        have hk0 : (0 : Int) ≤ (k : Int) := by omega
        have HK : Hid (k + 1 ≤ 200 ∧ k + 1 ≤ n) := ⟨hlt2, hlt1⟩
        obtain ⟨K, o⟩ := x
        simp only at x0 x1 HX S0
        obtain ⟨kb, hkb⟩ : ∃ kb, decide (K = 0) = kb := ⟨_, rfl⟩
        have hkb2 : (K == 0) = kb := by rw [← hkb]; rfl
        clear hkl hk2 hkn b9 HD HR HB
        go_upto_if 40 with fail
        obtain ⟨W0, hW0⟩ : ∃ W0, wr.alloc (oStep ⟨K, o⟩) = W0 := ⟨_, rfl⟩
        have hW0' := hW0
        simp only [oStep] at hW0'
        rw [hW0] at S0
        rw [hW0']
        clear hW0 hW0' x0 x1
        generalize wr.heap.size = q at S0 ⊢
        go_cut [40] from 41 to 104 (PsRel w g B h q k ⟨K, o⟩ pat)
        case first =>
          have HGD := Lib.hid S0.out.det.good
          clear hkb hkb2
          cases kb
          · have SD := Lib.hid S0.out.drew
            have z1 := S0.out.cell
            have CA : Hid (∀ W, Pl w W g B h L pat now ch L now ch q ⟨K, o⟩ → Calls Try.prog 13 #[.pointer (some ⟨g, 0, none⟩), .string o] W fun r w' => r = .returned (.bool (beatB L pat now o)) ∧ Pl w w' g B h (beatL L now o) pat now (ch + b2i (beatB L pat now o)) L now ch q ⟨K, o⟩) := fun W hW => pl_beat hW HX.out (by have := HBD.out; omega) (by have := HBD.out; omega) (by have := HBD.out; omega)
            have CB : Hid (∀ W, Pl w W g B h (beatL L now o) pat now (ch + b2i (beatB L pat now o)) L now ch q ⟨K, o⟩ → Calls Try.prog 14 #[.pointer (some ⟨h, 0, none⟩), .string o] W fun r w' => r = .returned (.bool (beatB L pat now o)) ∧ Pl w w' g B h (beatL L now o) pat now (ch + b2i (beatB L pat now o)) (beatL L now o) now (ch + b2i (beatB L pat now o)) q ⟨K, o⟩) := fun W hW => pl_rbeat hW HGD.out (by have := HBD.out; omega) (by have := HBD.out; omega)
            have HL2 : Hid ((beatL L now o).length ≤ 200) := by show _ ≤ _; rw [beatL_length HGD.out.rs]; exact HBD.out.2.2.1
            have HC2 : Hid (ch + b2i (beatB L pat now o) ≤ ch + 1) := by show _ ≤ _; unfold b2i; split <;> omega
            generalize ch + b2i (beatB L pat now o) = ch2 at CA CB HC2
            generalize beatB L pat now o = bb at CA CB
            generalize beatL L now o = L2 at CA CB HL2
            cases bb
            all_goals
              go_wp2_with fail
              go_region_held3 (fun w' => w'.cell? ⟨q, 1, none⟩ = some (.string o)) (first | go_keep | exact ca1 | exact cb1 | exact z1 | assumption)
                (first
                  | (go_at_call 13; (with_reducible refine (CA.out _ SD.out).mono ?_); rintro e wa ⟨rfl, sa⟩; have SA := Lib.hid sa; have ca1 := sa.cell; clear sa)
                  | (go_at_call 14; (with_reducible refine (CB.out _ SA.out).mono ?_); rintro e wb ⟨rfl, sb⟩; have SB := Lib.hid sb; have cb1 := sb.cell; clear sb)
                  | (go_at_call 13; (with_reducible refine (beat_nil o _).mono ?_); rintro e wv ⟨rfl, rfl⟩))
              clear ca1 cb1
              go_wp2
              go_meet
              case rel => exact ⟨L2, now, ch2, SB.out, by have := HBD.out; omega, by have := HBD.out; have := HC2.out; omega, HL2.out⟩
          · obtain ⟨m, hm⟩ : ∃ m, m = (dieL L pat (now + 1)).length := ⟨_, rfl⟩
            have hml : m ≤ 200 := by rw [hm]; exact Nat.le_trans (sel_length _ _) HBD.out.2.2.1
            have HML : Hid (m ≤ 200) := hml
            have HM := Lib.hid hm
            have C1 := Lib.hid (pl_tick S0.out (by have := HBD.out; omega) (by have := HBD.out; omega) (by have := HBD.out; omega) hm)
            clear hm hml S0
            go_wp2_with fail
            refine C1.out.mono ?_
            rintro r W1 ⟨A1, c1, rfl, row1, s1⟩
            have C2 := Lib.hid (pl_rtick s1 HGD.out (by have := HBD.out; omega) (by have := HBD.out; omega) row1 rfl HM.out (by have := HML.out; omega))
            clear C1 row1 s1
            go_wp2_with fail
            refine C2.out.mono ?_
            rintro r W2 ⟨A2, c2, rfl, sl1, sl2, s2⟩
            have C3 := Lib.hid (pl_same (c := c1) (c' := c2) s2 sl1 sl2 HM.out.symm (by have := HML.out; omega))
            clear C2 sl1 sl2 s2
            go_wp2_with fail
            refine C3.out.mono ?_
            rintro r W3 ⟨rfl, s3⟩
            have S3 := Lib.hid s3
            clear C3 s3
            go_wp2_with fail
            refine (tick_nil W3).mono ?_
            rintro r W4 ⟨rfl, b4⟩
            have S4 := Lib.hid (S3.out.below b4)
            clear b4 S3
            go_wp2
            go_meet
            case rel => exact ⟨L, now + 1, ch + (m : Int), S4.out, by have := HBD.out; omega, by have := HBD.out; have := HML.out; omega, HBD.out.2.2.1⟩
        case rest =>
          obtain ⟨L2, now2, ch2, sf, hnow2, hch2, hL2⟩ := hcut
          have SF := Lib.hid sf
          have HB2 : Hid (now2 ≤ (k : Int) + 1 ∧ ch2 ≤ 1000 * ((k : Int) + 1) ∧ L2.length ≤ 200 ∧ now2 ≤ 1000 ∧ 0 ≤ now2) := ⟨hnow2, hch2, hL2, by omega, sf.det.good.n0⟩
          obtain ⟨A9, c9, hbox, _⟩ := sf.ref.parts
          have HBX := Lib.hid hbox
          have z1 := sf.cell
          simp only at z1
          obtain ⟨m, hm⟩ : ∃ m, m = (liveL L2 pat now2).length := ⟨_, rfl⟩
          have HMM := Lib.hid hm
          have HM2 : Hid (m ≤ 200) := by show _ ≤ _; rw [hm]; exact Nat.le_trans (sel_length _ _) hL2
          have CF := Lib.hid (find_any _ h L2 pat now2 ch2 o wc sf.ref)
          clear sf hnow2 hch2 hL2 hbox hm S0 hkb hkb2
          go_wp2_with fail
          refine CF.out.mono ?_
          rintro r w9 ⟨v, rfl, hfi, rfl⟩
          clear CF z1
          rcases hfi with ⟨i, hi, hik, rfl⟩ | ⟨hno, hv⟩
          · obtain ⟨lv, hlv⟩ : ∃ lv, lv = liv pat now2 L2[i].n := ⟨_, rfl⟩
            have HLV : Hid (alive L2 pat now2 o = lv) := by
              show _ = _
              have hmem := List.getElem_mem hi
              rw [hlv, ← hik]
              unfold alive liv
              rw [val_mem SF.out.det.good.rs hmem, has_iff.mpr (List.mem_map_of_mem hmem)]
              rfl
            have CLi : Hid (∀ W, Below wc.heap.size wc W → Calls Try.prog 19 #[.pointer (some ⟨h, 0, none⟩), .int .i64 (i : Int), .int .i64 now2] W fun r w' => r = .returned (.bool lv) ∧ Below wc.heap.size wc w') := fun W hb => by
              rw [hlv]
              have hmem := List.getElem_mem hi
              exact (lives_any _ h L2 pat now2 ch2 now2 i W (SF.out.below hb).ref hi (SF.out.det.good.lo _ hmem) (by have := SF.out.det.good.hi _ hmem; have := HB2.out; omega) HB2.out.2.2.2.2 (by have := HB2.out; omega)).mono fun r w' hx => ⟨hx.1, hb.trans (hx.2.mono hb.size)⟩
            have hi0 : (i : Int) ≥ 0 := by omega
            have hid : decide ((i : Int) ≥ 0) = true := decide_eq_true hi0
            have hid2 : decide ((0 : Int) ≤ (i : Int)) = true := decide_eq_true hi0
            clear hlv hik hi
            have CG : Hid (∀ W, Below wc.heap.size wc W → W.cell? ⟨q, 1, none⟩ = some (.string o) ∧ W.cell? ⟨h, 2, none⟩ = some (.int .i64 now2) ∧ W.cell? ⟨h, 3, none⟩ = some (.int .i64 ch2)) := fun W hb => ⟨(SF.out.below hb).cell, (HBX.out.below hb).c2, (HBX.out.below hb).c3⟩
            obtain ⟨v1, v2, v3⟩ := CG.out wc (Below.refl _ _)
            have CLv : Hid (∀ W, Below wc.heap.size wc W → Calls Try.prog 16 #[.pointer (some ⟨g, 0, none⟩)] W fun r w' => ∃ A c, r = .returned (.slice A m c) ∧ Sl eKy w' A (liveL L2 pat now2) ∧ Below wc.heap.size wc w') := fun W hb => by
              refine (live_any _ g B L2 pat now2 ch2 W (SF.out.below hb).det (by have := HB2.out; omega) (by have := HB2.out; omega)).mono ?_
              rintro r w' ⟨v, rfl, ht, hb'⟩
              obtain ⟨A, c, rfl, sl, _⟩ := ht.sl (by rw [← HMM.out]; have := HM2.out; unfold maxLen; omega)
              rw [← HMM.out]
              exact ⟨A, c, rfl, sl, hb.trans (hb'.mono hb.size)⟩
            have CRv : Hid (∀ W A, Below wc.heap.size wc W → Sl eKy W A (liveL L2 pat now2) → Calls Try.prog 17 #[.pointer (some ⟨h, 0, none⟩)] W fun r w' => ∃ A' c', r = .returned (.slice A' m c') ∧ Sl eKy w' A (liveL L2 pat now2) ∧ Sl eKy w' A' (liveL L2 pat now2) ∧ Below wc.heap.size wc w') := fun W A hb hs => by
              refine (reflive_any _ h L2 pat now2 ch2 W (SF.out.below hb).ref SF.out.det.good (by have := HB2.out; omega)).mono ?_
              rintro r w' ⟨v, rfl, ht, hb'⟩
              obtain ⟨A', c', rfl, sl, _⟩ := ht.sl (by rw [← HMM.out]; have := HM2.out; unfold maxLen; omega)
              rw [← HMM.out]
              exact ⟨A', c', rfl, hs.below (Nat.le_refl _) hb', sl, hb.trans (hb'.mono hb.size)⟩
            have CS : Hid (∀ W A A' c c', Below wc.heap.size wc W → Sl eKy W A (liveL L2 pat now2) → Sl eKy W A' (liveL L2 pat now2) → Calls Try.prog 10 #[.slice A m c, .slice A' m c'] W fun r w' => r = .returned (.bool true) ∧ Below wc.heap.size wc w') := fun W A A' c c' hb h1 h2 =>
              (same_any _ A A' m c c' W h1 h2 HMM.out.symm (by have := HM2.out; omega)).mono fun r w' hx => ⟨hx.1, hb.trans (hx.2.mono hb.size)⟩
            have CAl : Hid (∀ W, Below wc.heap.size wc W → Calls Try.prog 18 #[.pointer (some ⟨g, 0, none⟩), .string o] W fun r w' => r = .returned (.bool lv) ∧ W = w') := fun W hb => by
              rw [← HLV.out]
              exact alive_any _ g B L2 pat now2 ch2 o W (SF.out.below hb).det HX.out (by have := HB2.out; omega)
            have CC : Hid (∀ W, Below wc.heap.size wc W → Calls Try.prog 20 #[.pointer (some ⟨g, 0, none⟩)] W fun r w' => r = .returned (.int .i64 ch2) ∧ W = w') := fun W hb => changes_any _ g B L2 pat now2 ch2 W (SF.out.below hb).det
            have BD : Hid (Below wc.heap.size wc wc.drew) := (Below.refl _ _).drew
            generalize liveL L2 pat now2 = V at CLv CRv CS HMM
            cases lv
            all_goals
              go_wp2_with fail
              go_region_held3 (fun w' => w'.cell? ⟨q, 1, none⟩ = some (.string o) ∧ w'.cell? ⟨h, 2, none⟩ = some (.int .i64 now2) ∧ w'.cell? ⟨h, 3, none⟩ = some (.int .i64 ch2)) (first | go_keep | exact CG.out _ BA.out | exact CG.out _ BB.out | exact CG.out _ BC.out | exact CG.out _ BE.out | exact ⟨v1, v2, v3⟩)
                (first
                | (go_at_call 16; (with_reducible refine (CLv.out _ BD.out).mono ?_); rintro e wa ⟨A5, c5, rfl, sl5, ba⟩; have BA := Lib.hid ba; have SL5 := Lib.hid sl5; clear ba sl5)
                | (go_at_call 17; (with_reducible refine (CRv.out _ _ BA.out SL5.out).mono ?_); rintro e wb ⟨A6, c6, rfl, sl6, sl7, bb⟩; have BB := Lib.hid bb; have SL6 := Lib.hid sl6; have SL7 := Lib.hid sl7; clear bb sl6 sl7)
                | (go_at_call 10; (with_reducible refine (CS.out _ _ _ _ _ BB.out SL6.out SL7.out).mono ?_); rintro e wd ⟨rfl, bc⟩; have BC := Lib.hid bc; clear bc)
                | (go_at_call 18; (with_reducible refine (CAl.out _ BC.out).mono ?_); rintro e wv ⟨rfl, rfl⟩)
                | (go_at_call 19; (with_reducible refine (CLi.out _ BC.out).mono ?_); rintro e we ⟨rfl, be⟩; have BE := Lib.hid be; clear be)
                | (go_at_call 20; (with_reducible refine (CC.out _ BE.out).mono ?_); rintro e wv ⟨rfl, rfl⟩))
              have SE := Lib.hid (SF.out.below BE.out)
              clear v1 v2 v3 BD
              go_wp2
              go_roundw
              case rel => exact ⟨k + 1, L2, now2, ch2, HK.out.1, HK.out.2, by go_num, SE.out.det, SE.out.ref, SE.out.bel, by have := HB2.out; omega, by have := HB2.out; omega, HB2.out.2.2.1⟩
              case measure => simp [intOf]; omega
          · obtain ⟨lv, hlv⟩ : ∃ lv, lv = false := ⟨_, rfl⟩
            have HLV : Hid (alive L2 pat now2 o = lv) := by
              show _ = _
              rw [hlv]
              unfold alive
              rw [has_no.mpr hno]
              rfl
            have hvn : ¬ v ≥ 0 := by omega
            have hvd : decide (v ≥ 0) = false := decide_eq_false hvn
            have hvd2 : decide ((0 : Int) ≤ v) = false := decide_eq_false (by omega)
            clear hno hv
            have CG : Hid (∀ W, Below wc.heap.size wc W → W.cell? ⟨q, 1, none⟩ = some (.string o) ∧ W.cell? ⟨h, 2, none⟩ = some (.int .i64 now2) ∧ W.cell? ⟨h, 3, none⟩ = some (.int .i64 ch2)) := fun W hb => ⟨(SF.out.below hb).cell, (HBX.out.below hb).c2, (HBX.out.below hb).c3⟩
            obtain ⟨v1, v2, v3⟩ := CG.out wc (Below.refl _ _)
            have CLv : Hid (∀ W, Below wc.heap.size wc W → Calls Try.prog 16 #[.pointer (some ⟨g, 0, none⟩)] W fun r w' => ∃ A c, r = .returned (.slice A m c) ∧ Sl eKy w' A (liveL L2 pat now2) ∧ Below wc.heap.size wc w') := fun W hb => by
              refine (live_any _ g B L2 pat now2 ch2 W (SF.out.below hb).det (by have := HB2.out; omega) (by have := HB2.out; omega)).mono ?_
              rintro r w' ⟨v, rfl, ht, hb'⟩
              obtain ⟨A, c, rfl, sl, _⟩ := ht.sl (by rw [← HMM.out]; have := HM2.out; unfold maxLen; omega)
              rw [← HMM.out]
              exact ⟨A, c, rfl, sl, hb.trans (hb'.mono hb.size)⟩
            have CRv : Hid (∀ W A, Below wc.heap.size wc W → Sl eKy W A (liveL L2 pat now2) → Calls Try.prog 17 #[.pointer (some ⟨h, 0, none⟩)] W fun r w' => ∃ A' c', r = .returned (.slice A' m c') ∧ Sl eKy w' A (liveL L2 pat now2) ∧ Sl eKy w' A' (liveL L2 pat now2) ∧ Below wc.heap.size wc w') := fun W A hb hs => by
              refine (reflive_any _ h L2 pat now2 ch2 W (SF.out.below hb).ref SF.out.det.good (by have := HB2.out; omega)).mono ?_
              rintro r w' ⟨v, rfl, ht, hb'⟩
              obtain ⟨A', c', rfl, sl, _⟩ := ht.sl (by rw [← HMM.out]; have := HM2.out; unfold maxLen; omega)
              rw [← HMM.out]
              exact ⟨A', c', rfl, hs.below (Nat.le_refl _) hb', sl, hb.trans (hb'.mono hb.size)⟩
            have CS : Hid (∀ W A A' c c', Below wc.heap.size wc W → Sl eKy W A (liveL L2 pat now2) → Sl eKy W A' (liveL L2 pat now2) → Calls Try.prog 10 #[.slice A m c, .slice A' m c'] W fun r w' => r = .returned (.bool true) ∧ Below wc.heap.size wc w') := fun W A A' c c' hb h1 h2 =>
              (same_any _ A A' m c c' W h1 h2 HMM.out.symm (by have := HM2.out; omega)).mono fun r w' hx => ⟨hx.1, hb.trans (hx.2.mono hb.size)⟩
            have CAl : Hid (∀ W, Below wc.heap.size wc W → Calls Try.prog 18 #[.pointer (some ⟨g, 0, none⟩), .string o] W fun r w' => r = .returned (.bool lv) ∧ W = w') := fun W hb => by
              rw [← HLV.out]
              exact alive_any _ g B L2 pat now2 ch2 o W (SF.out.below hb).det HX.out (by have := HB2.out; omega)
            have CC : Hid (∀ W, Below wc.heap.size wc W → Calls Try.prog 20 #[.pointer (some ⟨g, 0, none⟩)] W fun r w' => r = .returned (.int .i64 ch2) ∧ W = w') := fun W hb => changes_any _ g B L2 pat now2 ch2 W (SF.out.below hb).det
            have BD : Hid (Below wc.heap.size wc wc.drew) := (Below.refl _ _).drew
            generalize liveL L2 pat now2 = V at CLv CRv CS HMM
            subst hlv
            · go_wp2_with fail
              refine wp_region_held_drew (S := fun w' => w'.cell? ⟨q, 1, none⟩ = some (.string o) ∧ w'.cell? ⟨h, 2, none⟩ = some (.int .i64 now2) ∧ w'.cell? ⟨h, 3, none⟩ = some (.int .i64 ch2)) (by kernel_rfl) ⟨v1, v2, v3⟩ (fun hHeld => ?_)
              refine wpAnyH_take (i := 0) (oi := { dst := some 72, op := Go.Op.move (Go.Operand.tmp 7), type := 25, pos := "law.go:45", after := #[], guard := none }) (v := ?v0) rfl (by kernel_rfl) (by kernel_rfl) (by kernel_rfl) (fun _ _ _ h => h) (Or.inl ⟨by rfl, ?hy0⟩) (by assumption) ?rest0
              case hy0 => (intro w hSw; (try dsimp only at hSw); go_simp <;> (try with_reducible rfl))
              try simp only [Act.put, List.setIfInBounds_toArray, List.set_cons_zero, List.set_cons_succ]
              refine wpAnyH_take (i := 2) (oi := { dst := some 74, op := Go.Op.move (Go.Operand.tmp 8), type := 27, pos := "law.go:45", after := #[], guard := none }) (v := ?v2) rfl (by kernel_rfl) (by kernel_rfl) (by kernel_rfl) (fun _ _ _ h => h) (Or.inl ⟨by rfl, ?hy2⟩) (by assumption) ?rest2
              case hy2 => (intro w hSw; (try dsimp only at hSw); go_simp <;> (try with_reducible rfl))
              try simp only [Act.put, List.setIfInBounds_toArray, List.set_cons_zero, List.set_cons_succ]
              refine wpAnyH_ready (rs := [1]) (by kernel_rfl) (by simp) ?_
              refine AllReadyH.cons (o := { dst := some 73, op := Go.Op.call { callee := Go.Callee.value (Go.Operand.func 16), args := #[Go.Operand.tmp 72], argTypes := #[25] }, type := 22, pos := "law.go:45", after := #[{ on := 0, ground := Go.Ground.data }], guard := none }) rfl (fun K hK => ?_) AllReadyH.nil
              go_simp
              refine (CLv.out _ BD.out).mono ?_
              rintro e wa ⟨A5, c5, rfl, sl5, ba⟩
              have BA := Lib.hid ba
              have SL5 := Lib.hid sl5
              clear ba sl5
              go_wp2_with fail
              refine hK.out _ _ (CG.out _ BA.out) (fun hHeld => ?_)
              clear hK K
              try simp only [Act.put, List.setIfInBounds_toArray, List.set_cons_zero, List.set_cons_succ]
              refine wpAnyH_ready (rs := [3]) (by kernel_rfl) (by simp) ?_
              refine AllReadyH.cons (o := { dst := some 75, op := Go.Op.call { callee := Go.Callee.value (Go.Operand.func 17), args := #[Go.Operand.tmp 74], argTypes := #[27] }, type := 22, pos := "law.go:45", after := #[{ on := 2, ground := Go.Ground.data }, { on := 1, ground := Go.Ground.chain }], guard := none }) rfl (fun K hK => ?_) AllReadyH.nil
              go_simp
              refine (CRv.out _ _ BA.out SL5.out).mono ?_
              rintro e wb ⟨A6, c6, rfl, sl6, sl7, bb⟩
              have BB := Lib.hid bb
              have SL6 := Lib.hid sl6
              have SL7 := Lib.hid sl7
              clear bb sl6 sl7
              go_wp2_with fail
              refine hK.out _ _ (CG.out _ BB.out) (fun hHeld => ?_)
              clear hK K
              try simp only [Act.put, List.setIfInBounds_toArray, List.set_cons_zero, List.set_cons_succ]
              refine wpAnyH_ready (rs := [4]) (by kernel_rfl) (by simp) ?_
              refine AllReadyH.cons (o := { dst := some 76, op := Go.Op.call { callee := Go.Callee.value (Go.Operand.func 10), args := #[Go.Operand.tmp 73, Go.Operand.tmp 75], argTypes := #[22, 22] }, type := 4, pos := "law.go:45", after := #[{ on := 1, ground := Go.Ground.data }, { on := 3, ground := Go.Ground.data }, { on := 3, ground := Go.Ground.chain }], guard := none }) rfl (fun K hK => ?_) AllReadyH.nil
              go_simp
              refine (CS.out _ _ _ _ _ BB.out SL6.out SL7.out).mono ?_
              rintro e wd ⟨rfl, bc⟩
              have BC := Lib.hid bc
              clear bc
              go_wp2_with fail
              refine hK.out _ _ (CG.out _ BC.out) (fun hHeld => ?_)
              clear hK K
              try simp only [Act.put, List.setIfInBounds_toArray, List.set_cons_zero, List.set_cons_succ]
              refine wpAnyH_take (i := 5) (oi := { dst := some 77, op := Go.Op.unOp Go.UnOp.not 4 (Go.Operand.tmp 76), type := 4, pos := "law.go:45", after := #[{ on := 4, ground := Go.Ground.data }], guard := none }) (v := ?v5) rfl (by kernel_rfl) (by kernel_rfl) (by kernel_rfl) (fun _ _ _ h => h) (Or.inl ⟨by rfl, ?hy5⟩) (by assumption) ?rest5
              case hy5 => (intro w hSw; (try dsimp only at hSw); go_simp <;> (try with_reducible rfl))
              try simp only [Act.put, List.setIfInBounds_toArray, List.set_cons_zero, List.set_cons_succ]
              refine wpAnyH_take (i := 6) (oi := { dst := some 78, op := Go.Op.move (Go.Operand.tmp 77), type := 4, pos := "law.go:45", after := #[{ on := 5, ground := Go.Ground.data }, { on := 4, ground := Go.Ground.chain }], guard := none }) (v := ?v6) rfl (by kernel_rfl) (by kernel_rfl) (by kernel_rfl) (fun _ _ _ h => h) (Or.inl ⟨by rfl, ?hy6⟩) (by assumption) ?rest6
              case hy6 => (intro w hSw; (try dsimp only at hSw); go_simp <;> (try with_reducible rfl))
              try simp only [Act.put, List.setIfInBounds_toArray, List.set_cons_zero, List.set_cons_succ]
              refine wpAnyH_take (i := 7) (oi := { dst := some 79, op := Go.Op.move (Go.Operand.tmp 7), type := 25, pos := "law.go:45", after := #[{ on := 6, ground := Go.Ground.guard }], guard := some (6, false) }) (v := ?v7) rfl (by kernel_rfl) (by kernel_rfl) (by kernel_rfl) (fun _ _ _ h => h) (Or.inl ⟨by rfl, ?hy7⟩) (by assumption) ?rest7
              case hy7 => (intro w hSw; (try dsimp only at hSw); go_simp <;> (try with_reducible rfl))
              try simp only [Act.put, List.setIfInBounds_toArray, List.set_cons_zero, List.set_cons_succ]
              refine wpAnyH_take (i := 8) (oi := { dst := some 80, op := Go.Op.fieldAddr 30 (Go.Operand.tmp 11) 1, type := 0, pos := "law.go:45", after := #[{ on := 6, ground := Go.Ground.guard }], guard := some (6, false) }) (v := ?v8) rfl (by kernel_rfl) (by kernel_rfl) (by kernel_rfl) (fun _ _ _ h => h) (Or.inl ⟨by rfl, ?hy8⟩) (by assumption) ?rest8
              case hy8 => (intro w hSw; (try dsimp only at hSw); go_simp <;> (try with_reducible rfl))
              try simp only [Act.put, List.setIfInBounds_toArray, List.set_cons_zero, List.set_cons_succ]
              refine wpAnyH_take (i := 9) (oi := { dst := some 81, op := Go.Op.load 9 (Go.Operand.tmp 80), type := 9, pos := "law.go:45", after := #[{ on := 8, ground := Go.Ground.data }, { on := 6, ground := Go.Ground.guard }], guard := some (6, false) }) (v := ?v9) rfl (by kernel_rfl) (by kernel_rfl) (by kernel_rfl) (fun _ _ _ h => h) (Or.inl ⟨by rfl, ?hy9⟩) (by assumption) ?rest9
              case hy9 => (intro w hSw; (try dsimp only at hSw); go_simp <;> (try with_reducible rfl))
              try simp only [Act.put, List.setIfInBounds_toArray, List.set_cons_zero, List.set_cons_succ]
              refine wpAnyH_take (i := 11) (oi := { dst := some 83, op := Go.Op.move (Go.Operand.tmp 12), type := 3, pos := "law.go:45", after := #[{ on := 6, ground := Go.Ground.guard }], guard := some (6, false) }) (v := ?v11) rfl (by kernel_rfl) (by kernel_rfl) (by kernel_rfl) (fun _ _ _ h => h) (Or.inl ⟨by rfl, ?hy11⟩) (by assumption) ?rest11
              case hy11 => (intro w hSw; (try dsimp only at hSw); go_simp <;> (try with_reducible rfl))
              try simp only [Act.put, List.setIfInBounds_toArray, List.set_cons_zero, List.set_cons_succ]
              refine wpAnyH_take (i := 12) (oi := { dst := some 84, op := Go.Op.binOp Go.BinOp.geq 3 (Go.Operand.tmp 83) (Go.Operand.const (Go.Value.int Go.IntKind.i64 0)) 3, type := 4, pos := "law.go:45", after := #[{ on := 11, ground := Go.Ground.data }, { on := 6, ground := Go.Ground.guard }], guard := some (6, false) }) (v := ?v12) rfl (by kernel_rfl) (by kernel_rfl) (by kernel_rfl) (fun _ _ _ h => h) (Or.inl ⟨by rfl, ?hy12⟩) (by assumption) ?rest12
              case hy12 => (intro w hSw; (try dsimp only at hSw); go_simp <;> (try with_reducible rfl))
              try simp only [Act.put, List.setIfInBounds_toArray, List.set_cons_zero, List.set_cons_succ]
              refine wpAnyH_ready (rs := [10]) (by kernel_rfl) (by simp) ?_
              refine AllReadyH.cons (o := { dst := some 82, op := Go.Op.call { callee := Go.Callee.value (Go.Operand.func 18), args := #[Go.Operand.tmp 79, Go.Operand.tmp 81], argTypes := #[25, 9] }, type := 4, pos := "law.go:45", after := #[{ on := 7, ground := Go.Ground.data }, { on := 9, ground := Go.Ground.data }, { on := 6, ground := Go.Ground.chain }, { on := 6, ground := Go.Ground.guard }], guard := some (6, false) }) rfl (fun K hK => ?_) AllReadyH.nil
              go_simp
              refine (CAl.out _ BC.out).mono ?_
              rintro e wv ⟨rfl, rfl⟩
              go_wp2_with fail
              refine hK.out _ _ (CG.out _ BC.out) (fun hHeld => ?_)
              clear hK K
              try simp only [Act.put, List.setIfInBounds_toArray, List.set_cons_zero, List.set_cons_succ]
              refine wpAnyH_take (i := 13) (oi := { dst := some 85, op := Go.Op.move (Go.Operand.tmp 84), type := 4, pos := "law.go:45", after := #[{ on := 12, ground := Go.Ground.data }, { on := 10, ground := Go.Ground.chain }, { on := 6, ground := Go.Ground.guard }], guard := some (6, false) }) (v := ?v13) rfl (by kernel_rfl) (by kernel_rfl) (by kernel_rfl) (fun _ _ _ h => h) (Or.inl ⟨by rfl, ?hy13⟩) (by assumption) ?rest13
              case hy13 => (intro w hSw; (try dsimp only at hSw); go_simp <;> (try with_reducible rfl))
              try simp only [Act.put, List.setIfInBounds_toArray, List.set_cons_zero, List.set_cons_succ]
              refine wpAnyH_take (i := 14) (oi := { dst := some 86, op := Go.Op.move (Go.Operand.tmp 8), type := 27, pos := "law.go:45", after := #[{ on := 13, ground := Go.Ground.guard }], guard := some (13, true) }) (v := undef) rfl (by kernel_rfl) (by kernel_rfl) (by kernel_rfl) (fun _ _ _ h => h) (Or.inr ⟨by rfl, rfl⟩) (by assumption) ?rest14
              try simp only [Act.put, List.setIfInBounds_toArray, List.set_cons_zero, List.set_cons_succ]
              refine wpAnyH_take (i := 15) (oi := { dst := some 87, op := Go.Op.move (Go.Operand.tmp 12), type := 3, pos := "law.go:45", after := #[{ on := 13, ground := Go.Ground.guard }], guard := some (13, true) }) (v := undef) rfl (by kernel_rfl) (by kernel_rfl) (by kernel_rfl) (fun _ _ _ h => h) (Or.inr ⟨by rfl, rfl⟩) (by assumption) ?rest15
              try simp only [Act.put, List.setIfInBounds_toArray, List.set_cons_zero, List.set_cons_succ]
              refine wpAnyH_take (i := 16) (oi := { dst := some 88, op := Go.Op.move (Go.Operand.tmp 8), type := 27, pos := "law.go:45", after := #[{ on := 13, ground := Go.Ground.guard }], guard := some (13, true) }) (v := undef) rfl (by kernel_rfl) (by kernel_rfl) (by kernel_rfl) (fun _ _ _ h => h) (Or.inr ⟨by rfl, rfl⟩) (by assumption) ?rest16
              try simp only [Act.put, List.setIfInBounds_toArray, List.set_cons_zero, List.set_cons_succ]
              refine wpAnyH_take (i := 17) (oi := { dst := some 89, op := Go.Op.nilCheck (Go.Operand.tmp 88), type := 0, pos := "law.go:45", after := #[{ on := 16, ground := Go.Ground.data }, { on := 13, ground := Go.Ground.guard }], guard := some (13, true) }) (v := undef) rfl (by kernel_rfl) (by kernel_rfl) (by kernel_rfl) (fun _ _ _ h => h) (Or.inr ⟨by rfl, rfl⟩) (by assumption) ?rest17
              try simp only [Act.put, List.setIfInBounds_toArray, List.set_cons_zero, List.set_cons_succ]
              refine wpAnyH_take (i := 18) (oi := { dst := some 90, op := Go.Op.fieldAddr 38 (Go.Operand.tmp 89) 2, type := 0, pos := "law.go:45", after := #[{ on := 17, ground := Go.Ground.data }, { on := 13, ground := Go.Ground.guard }], guard := some (13, true) }) (v := undef) rfl (by kernel_rfl) (by kernel_rfl) (by kernel_rfl) (fun _ _ _ h => h) (Or.inr ⟨by rfl, rfl⟩) (by assumption) ?rest18
              try simp only [Act.put, List.setIfInBounds_toArray, List.set_cons_zero, List.set_cons_succ]
              refine wpAnyH_take (i := 19) (oi := { dst := some 91, op := Go.Op.load 3 (Go.Operand.tmp 90), type := 3, pos := "law.go:45", after := #[{ on := 18, ground := Go.Ground.data }, { on := 13, ground := Go.Ground.guard }], guard := some (13, true) }) (v := undef) rfl (by kernel_rfl) (by kernel_rfl) (by kernel_rfl) (fun _ _ _ h => h) (Or.inr ⟨by rfl, rfl⟩) (by assumption) ?rest19
              try simp only [Act.put, List.setIfInBounds_toArray, List.set_cons_zero, List.set_cons_succ]
              refine wpAnyH_take (i := 20) (oi := { dst := some 92, op := Go.Op.call { callee := Go.Callee.value (Go.Operand.func 19), args := #[Go.Operand.tmp 86, Go.Operand.tmp 87, Go.Operand.tmp 91], argTypes := #[27, 3, 3] }, type := 4, pos := "law.go:45", after := #[{ on := 14, ground := Go.Ground.data }, { on := 15, ground := Go.Ground.data }, { on := 19, ground := Go.Ground.data }, { on := 13, ground := Go.Ground.chain }, { on := 13, ground := Go.Ground.guard }], guard := some (13, true) }) (v := undef) rfl (by kernel_rfl) (by kernel_rfl) (by kernel_rfl) (fun _ _ _ h => h) (Or.inr ⟨by rfl, rfl⟩) (by assumption) ?rest20
              try simp only [Act.put, List.setIfInBounds_toArray, List.set_cons_zero, List.set_cons_succ]
              refine wpAnyH_take (i := 21) (oi := { dst := some 93, op := Go.Op.pick (Go.Operand.tmp 85) (Go.Operand.tmp 92) (Go.Operand.const (Go.Value.bool false)), type := 4, pos := "law.go:45", after := #[{ on := 13, ground := Go.Ground.data }, { on := 20, ground := Go.Ground.data }, { on := 6, ground := Go.Ground.guard }], guard := some (6, false) }) (v := ?v21) rfl (by kernel_rfl) (by kernel_rfl) (by kernel_rfl) (fun _ _ _ h => h) (Or.inl ⟨by rfl, ?hy21⟩) (by assumption) ?rest21
              case hy21 => (intro w hSw; (try dsimp only at hSw); go_simp <;> (try with_reducible rfl))
              try simp only [Act.put, List.setIfInBounds_toArray, List.set_cons_zero, List.set_cons_succ]
              refine wpAnyH_take (i := 22) (oi := { dst := some 94, op := Go.Op.binOp Go.BinOp.neq 4 (Go.Operand.tmp 82) (Go.Operand.tmp 93) 4, type := 4, pos := "law.go:45", after := #[{ on := 10, ground := Go.Ground.data }, { on := 21, ground := Go.Ground.data }, { on := 6, ground := Go.Ground.guard }], guard := some (6, false) }) (v := ?v22) rfl (by kernel_rfl) (by kernel_rfl) (by kernel_rfl) (fun _ _ _ h => h) (Or.inl ⟨by rfl, ?hy22⟩) (by assumption) ?rest22
              case hy22 => (intro w hSw; (try dsimp only at hSw); go_simp <;> (try with_reducible rfl))
              try simp only [Act.put, List.setIfInBounds_toArray, List.set_cons_zero, List.set_cons_succ]
              refine wpAnyH_take (i := 23) (oi := { dst := some 95, op := Go.Op.pick (Go.Operand.tmp 78) (Go.Operand.const (Go.Value.bool true)) (Go.Operand.tmp 94), type := 4, pos := "law.go:45", after := #[{ on := 6, ground := Go.Ground.data }, { on := 22, ground := Go.Ground.data }], guard := none }) (v := ?v23) rfl (by kernel_rfl) (by kernel_rfl) (by kernel_rfl) (fun _ _ _ h => h) (Or.inl ⟨by rfl, ?hy23⟩) (by assumption) ?rest23
              case hy23 => (intro w hSw; (try dsimp only at hSw); go_simp <;> (try with_reducible rfl))
              try simp only [Act.put, List.setIfInBounds_toArray, List.set_cons_zero, List.set_cons_succ]
              refine wpAnyH_take (i := 24) (oi := { dst := some 96, op := Go.Op.move (Go.Operand.tmp 95), type := 4, pos := "law.go:45", after := #[{ on := 23, ground := Go.Ground.data }, { on := 20, ground := Go.Ground.chain }], guard := none }) (v := ?v24) rfl (by kernel_rfl) (by kernel_rfl) (by kernel_rfl) (fun _ _ _ h => h) (Or.inl ⟨by rfl, ?hy24⟩) (by assumption) ?rest24
              case hy24 => (intro w hSw; (try dsimp only at hSw); go_simp <;> (try with_reducible rfl))
              try simp only [Act.put, List.setIfInBounds_toArray, List.set_cons_zero, List.set_cons_succ]
              refine wpAnyH_take (i := 25) (oi := { dst := some 97, op := Go.Op.move (Go.Operand.tmp 7), type := 25, pos := "law.go:45", after := #[{ on := 24, ground := Go.Ground.guard }], guard := some (24, false) }) (v := ?v25) rfl (by kernel_rfl) (by kernel_rfl) (by kernel_rfl) (fun _ _ _ h => h) (Or.inl ⟨by rfl, ?hy25⟩) (by assumption) ?rest25
              case hy25 => (intro w hSw; (try dsimp only at hSw); go_simp <;> (try with_reducible rfl))
              try simp only [Act.put, List.setIfInBounds_toArray, List.set_cons_zero, List.set_cons_succ]
              refine wpAnyH_take (i := 27) (oi := { dst := some 99, op := Go.Op.move (Go.Operand.tmp 8), type := 27, pos := "law.go:45", after := #[{ on := 24, ground := Go.Ground.guard }], guard := some (24, false) }) (v := ?v27) rfl (by kernel_rfl) (by kernel_rfl) (by kernel_rfl) (fun _ _ _ h => h) (Or.inl ⟨by rfl, ?hy27⟩) (by assumption) ?rest27
              case hy27 => (intro w hSw; (try dsimp only at hSw); go_simp <;> (try with_reducible rfl))
              try simp only [Act.put, List.setIfInBounds_toArray, List.set_cons_zero, List.set_cons_succ]
              refine wpAnyH_take (i := 28) (oi := { dst := some 100, op := Go.Op.nilCheck (Go.Operand.tmp 99), type := 0, pos := "law.go:45", after := #[{ on := 27, ground := Go.Ground.data }, { on := 24, ground := Go.Ground.guard }], guard := some (24, false) }) (v := ?v28) rfl (by kernel_rfl) (by kernel_rfl) (by kernel_rfl) (fun _ _ _ h => h) (Or.inl ⟨by rfl, ?hy28⟩) (by assumption) ?rest28
              case hy28 => (intro w hSw; (try dsimp only at hSw); go_simp <;> (try with_reducible rfl))
              try simp only [Act.put, List.setIfInBounds_toArray, List.set_cons_zero, List.set_cons_succ]
              refine wpAnyH_take (i := 29) (oi := { dst := some 101, op := Go.Op.fieldAddr 38 (Go.Operand.tmp 100) 3, type := 0, pos := "law.go:45", after := #[{ on := 28, ground := Go.Ground.data }, { on := 24, ground := Go.Ground.guard }], guard := some (24, false) }) (v := ?v29) rfl (by kernel_rfl) (by kernel_rfl) (by kernel_rfl) (fun _ _ _ h => h) (Or.inl ⟨by rfl, ?hy29⟩) (by assumption) ?rest29
              case hy29 => (intro w hSw; (try dsimp only at hSw); go_simp <;> (try with_reducible rfl))
              try simp only [Act.put, List.setIfInBounds_toArray, List.set_cons_zero, List.set_cons_succ]
              refine wpAnyH_take (i := 30) (oi := { dst := some 102, op := Go.Op.load 2 (Go.Operand.tmp 101), type := 2, pos := "law.go:45", after := #[{ on := 29, ground := Go.Ground.data }, { on := 24, ground := Go.Ground.guard }], guard := some (24, false) }) (v := ?v30) rfl (by kernel_rfl) (by kernel_rfl) (by kernel_rfl) (fun _ _ _ h => h) (Or.inl ⟨by rfl, ?hy30⟩) (by assumption) ?rest30
              case hy30 => (intro w hSw; (try dsimp only at hSw); go_simp <;> (try with_reducible rfl))
              try simp only [Act.put, List.setIfInBounds_toArray, List.set_cons_zero, List.set_cons_succ]
              refine wpAnyH_ready (rs := [26]) (by kernel_rfl) (by simp) ?_
              refine AllReadyH.cons (o := { dst := some 98, op := Go.Op.call { callee := Go.Callee.value (Go.Operand.func 20), args := #[Go.Operand.tmp 97], argTypes := #[25] }, type := 2, pos := "law.go:45", after := #[{ on := 25, ground := Go.Ground.data }, { on := 24, ground := Go.Ground.chain }, { on := 24, ground := Go.Ground.guard }], guard := some (24, false) }) rfl (fun K hK => ?_) AllReadyH.nil
              go_simp
              refine (CC.out _ BC.out).mono ?_
              rintro e wv ⟨rfl, rfl⟩
              go_wp2_with fail
              refine hK.out _ _ (CG.out _ BC.out) (fun hHeld => ?_)
              clear hK K
              try simp only [Act.put, List.setIfInBounds_toArray, List.set_cons_zero, List.set_cons_succ]
              refine wpAnyH_take (i := 31) (oi := { dst := some 103, op := Go.Op.binOp Go.BinOp.neq 2 (Go.Operand.tmp 98) (Go.Operand.tmp 102) 2, type := 4, pos := "law.go:45", after := #[{ on := 26, ground := Go.Ground.data }, { on := 30, ground := Go.Ground.data }, { on := 24, ground := Go.Ground.guard }], guard := some (24, false) }) (v := ?v31) rfl (by kernel_rfl) (by kernel_rfl) (by kernel_rfl) (fun _ _ _ h => h) (Or.inl ⟨by rfl, ?hy31⟩) (by assumption) ?rest31
              case hy31 => (intro w hSw; (try dsimp only at hSw); go_simp <;> (try with_reducible rfl))
              try simp only [Act.put, List.setIfInBounds_toArray, List.set_cons_zero, List.set_cons_succ]
              refine wpAnyH_take (i := 32) (oi := { dst := some 104, op := Go.Op.pick (Go.Operand.tmp 96) (Go.Operand.const (Go.Value.bool true)) (Go.Operand.tmp 103), type := 4, pos := "law.go:45", after := #[{ on := 24, ground := Go.Ground.data }, { on := 31, ground := Go.Ground.data }], guard := none }) (v := ?v32) rfl (by kernel_rfl) (by kernel_rfl) (by kernel_rfl) (fun _ _ _ h => h) (Or.inl ⟨by rfl, ?hy32⟩) (by assumption) ?rest32
              case hy32 => (intro w hSw; (try dsimp only at hSw); go_simp <;> (try with_reducible rfl))
              try simp only [Act.put, List.setIfInBounds_toArray, List.set_cons_zero, List.set_cons_succ]
              refine wpAnyH_done (by kernel_rfl) ?_ _
              have SE := Lib.hid (SF.out.below BC.out)
              clear hHeld v1 v2 v3 BD
              go_wp2
              go_roundw
              case rel => exact ⟨k + 1, L2, now2, ch2, HK.out.1, HK.out.2, by go_num, SE.out.det, SE.out.ref, SE.out.bel, by have := HB2.out; omega, by have := HB2.out; omega, HB2.out.2.2.1⟩
              case measure => simp [intOf]; omega
      · have hcase : ¬ (k : Int) < (n : Int) ∨ ((k : Int) < (n : Int) ∧ ¬ (k : Int) < 200) := by omega
        clear hlt hk2 hkn HD HR
        rcases hcase with hc1 | ⟨hc1, hc2⟩
        all_goals
          go_wp2_with fail
          refine (live_nil wr).mono ?_
          rintro r w9 ⟨rfl, b9⟩
          have HB9 := Lib.hid (HB.out.trans (b9.mono HB.out.size))
          clear b9
          go_wp2_with fail
          refine (alive_nil _ w9).mono ?_
          rintro r w10 ⟨rfl, rfl⟩
          go_wp2_with fail
          refine (changes_nil w9).mono ?_
          rintro r w11 ⟨rfl, rfl⟩
          go_wp2
          go_ret
          exact ⟨rfl, HB9.out⟩
end Go.Proofs.Ytdmgmbjdocechaa
