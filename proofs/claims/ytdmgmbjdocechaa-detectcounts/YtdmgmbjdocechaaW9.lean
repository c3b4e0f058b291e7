/-
  The walk of DetectCounts. Its conditions: the nodes and the script lie in memory.
-/
import Derived.Test.YtdmgmbjdocechaaW6
import Derived.Deep.CutBlock
namespace Go.Proofs.Ytdmgmbjdocechaa
open Go.RowKit Go.Maps Go.ChangeMaps
open Go.Sort (grow)

theorem st_tickm {w0 W : World} {g B : Nat} {L : List Tm} {pat now ch : Int} (s : St w0 W g B L pat now ch) (hnow : now < 1000000) (hch : ch ≤ 1000000000) (hl : L.length ≤ 1000) {m : Nat} (hm : m = (dieL L pat (now + 1)).length) :
    Calls Try.prog 11 #[.pointer (some ⟨g, 0, none⟩)] W fun r w' => ∃ A c, r = .returned (.slice A m c) ∧ St w0 w' g B L pat (now + 1) (ch + (m : Int)) := by
  refine (st_tick s hnow hch hl).mono ?_
  rintro r w' ⟨v, rfl, ht, hs, _⟩
  obtain ⟨A, c, rfl, _⟩ := ht.form
  rw [← hm] at hs ⊢
  exact ⟨A, c, rfl, hs⟩
theorem st_livem {w0 W : World} {g B : Nat} {L : List Tm} {pat now ch : Int} (s : St w0 W g B L pat now ch) (hnow : now ≤ 1000000) (hl : L.length ≤ 1000) {m : Nat} (hm : m = (liveL L pat now).length) :
    Calls Try.prog 16 #[.pointer (some ⟨g, 0, none⟩)] W fun r w' => ∃ A c, r = .returned (.slice A m c) ∧ Sl eKy w' A (liveL L pat now) ∧ St w0 w' g B L pat now ch := by
  refine (st_live s hnow hl).mono ?_
  rintro r w' ⟨v, rfl, ht, hs, _⟩
  obtain ⟨A, c, rfl, hsl, _⟩ := ht.sl (by have := sel_length L (liv pat now); unfold maxLen; unfold liveL; omega)
  rw [← hm]
  exact ⟨A, c, rfl, hsl, hs⟩
def CoRel (pat : Int) (g B n : Nat) (w : World) (s8 s9 : Value) (wr : World) : Prop :=
  ∃ (i : Nat) (L : List Tm) (now ch : Int), i ≤ 200 ∧ i ≤ n ∧ s8 = .int .i64 ch ∧ s9 = .int .i64 (i : Int) ∧ St w wr g B L pat now ch ∧ now ≤ (i : Int) ∧ ch ≤ 1000 * (i : Int) ∧ L.length ≤ 50
def CcRel (pat : Int) (g B i : Nat) (w : World) (s8 : Value) (W : World) : Prop :=
  ∃ (L : List Tm) (now ch : Int), s8 = .int .i64 ch ∧ St w W g B L pat now ch ∧ now ≤ (i : Int) + 1 ∧ ch ≤ 1000 * ((i : Int) + 1) ∧ L.length ≤ 50
instance memDec (y : ByteArray) (V : List ByteArray) : Decidable (y ∈ V) := @List.instDecidableMemOfLawfulBEq _ instBEqOfDecidableEq _ y V
def LkRel (m : Nat) (w3 : World) (s59 : Value) (wr : World) : Prop := ∃ k : Nat, k ≤ m ∧ s59 = .int .i64 (k : Int) ∧ Below w3.heap.size w3 wr
def LjRel (m : Nat) (w3 : World) (V : List ByteArray) (y : ByteArray) (s13 s93 : Value) (wr : World) : Prop := ∃ j : Nat, j ≤ m ∧ s93 = .int .i64 (j : Int) ∧ s13 = .bool (decide (y ∈ V.take j)) ∧ Below w3.heap.size w3 wr
set_option maxRecDepth 100000 in
set_option maxHeartbeats 16000000 in
theorem counts_walk (p : Int) (N l : List ByteArray) (A0 : Option Addr) (n0 c0 : Nat) (A : Option Addr) (n c : Nat) (w : World) (hs0 : Sl eKy w A0 N) (hz0 : Sized N) (hn0 : N.length = n0) (hs : Sl eKy w A l) (hz : Sized l) (hn : l.length = n) :
    Calls Try.prog 5 #[.int .i64 p, .slice A0 n0 c0, .slice A n c] w fun e w' => e = .returned (.bool true) ∧ Below w.heap.size w w' := by
  have H := Lib.hid hs
  have HE := Lib.hid hn
  have HZ := Lib.hid hz
  have H0 := Lib.hid hs0
  have HE0 := Lib.hid hn0
  have HZ0 := Lib.hid hz0
  clear hs hn hz hs0 hn0 hz0
  go_enter Try.func5, Try.ntmps5
  go_wp2_with fail
  refine (awake_any w).mono ?_
  rintro e w1 ⟨rfl, b1⟩
  have B1 := Lib.hid b1
  clear b1
  by_cases hn50 : (n0 : Int) > 50
  · go_wp2
    go_ret
    exact ⟨rfl, B1.out⟩
  · have hd50 : decide ((50 : Int) < (n0 : Int)) = false := decide_eq_false (by omega)
    have HL : Hid ((newL N).length ≤ 50) := by have := newL_length N; have := HE0.out; show _ ≤ _; omega
    have CN := Lib.hid (new_any w.heap.size p N A0 n0 c0 w1 (H0.out.below (Nat.le_refl _) B1.out) HE0.out HZ0.out (by omega) B1.out.size)
    go_wp2_with fail
    refine CN.out.mono ?_
    rintro r w2 ⟨g, B, rfl, d2, b2, _, _⟩
    have S2 : Hid (St w w2 g B (newL N) (max p 1) 0 0) := ⟨d2, B1.out.trans (b2.mono B1.out.size)⟩
    obtain ⟨pat, hpat⟩ : ∃ pat, pat = max p 1 := ⟨_, rfl⟩
    rw [← hpat] at S2
    clear d2 b2 CN B1 hpat
    go_wp2
    go_loopw [8, 9] (CoRel pat g B n w) (fun _ i _ => 201 - (intOf i).toNat)
    case atStart => exact ⟨0, newL N, 0, 0, Nat.zero_le _, Nat.zero_le _, rfl, rfl, S2.out, by omega, by omega, HL.out⟩
    case round =>
      obtain ⟨i, L, now, ch, hi, hin, rfl, rfl, hm, hnow, hch, hL⟩ := hrel
      have HM := Lib.hid hm
      have HB : Hid (now ≤ (i : Int) ∧ ch ≤ 1000 * (i : Int) ∧ L.length ≤ 50 ∧ 0 ≤ now ∧ 0 ≤ ch) := ⟨hnow, hch, hL, hm.det.good.n0, hm.det.good.c0⟩
      clear hm hnow hch hL S2 HL
      by_cases hlt : i < n ∧ i < 200
      · obtain ⟨hlt1, hlt2⟩ := hlt
        have hkl : i < l.length := by rw [HE.out]; exact hlt1
        obtain ⟨b, off, rfl, _, d0⟩ := at_ky (H.out.below (Nat.le_refl _) HM.out.bel) hkl
        have HX := Lib.hid (HZ.out l[i] (List.getElem_mem hkl))
        generalize l[i] = x at d0 HX
        have hlti : (i : Int) < (n : Int) := by omega
        have hlti2 : (i : Int) < 200 := by omega
        have hi0 : (0 : Int) ≤ (i : Int) := by omega
        have HK : Hid (i + 1 ≤ 200 ∧ i + 1 ≤ n) := ⟨hlt2, hlt1⟩
        clear hkl hi hin
        obtain ⟨eb, heb⟩ : ∃ eb, x.toList.isEmpty = eb := ⟨_, rfl⟩
        go_upto_if 37 with fail
        go_cut [8] from 23 to 117 (CcRel pat g B i w)
        case first =>
          have hc0 : 0 ≤ ch := HB.out.2.2.2.2
          have hc1 : ch ≤ 200000 := by have := HB.out; omega
          cases eb
          rotate_left
          · obtain ⟨m, hm⟩ : ∃ m, m = (dieL L pat (now + 1)).length := ⟨_, rfl⟩
            have hml : m ≤ 50 := by rw [hm]; exact Nat.le_trans (sel_length _ _) HB.out.2.2.1
            have CT := Lib.hid (st_tickm HM.out (by have := HB.out; omega) (by omega) (by have := HB.out; omega) hm)
            have HML := Lib.hid hml
            have hml' : (m : Int) ≤ 50 := by omega
            have hm0 : (0 : Int) ≤ (m : Int) := by omega
            clear hm hml
            go_wp2_with fail
            refine CT.out.mono ?_
            rintro r w3 ⟨A3, c3, rfl, s3⟩
            have S3 := Lib.hid s3
            clear s3 CT
            go_wp2
            go_meet
            case rel => exact ⟨L, now + 1, ch + (m : Int), rfl, S3.out, by have := HB.out; omega, by have := HB.out; have := HML.out; omega, HB.out.2.2.1⟩
          · have CB := Lib.hid (st_beat HM.out x HX.out (by have := HB.out; omega) (by omega) (by have := HB.out; omega))
            have HLN : Hid ((beatL L now x).length ≤ 50) := by show _ ≤ _; rw [beatL_length HM.out.det.good.rs]; exact HB.out.2.2.1
            generalize beatL L now x = L2 at CB HLN
            generalize beatB L pat now x = bb at CB
            cases bb
            · go_wp2_with fail
              refine CB.out.mono ?_
              rintro r w3 ⟨rfl, s3, _⟩
              rw [show ch + b2i false = ch by simp [b2i]] at s3
              have S3 := Lib.hid s3
              clear s3 CB
              go_wp2
              go_meet
              case rel => exact ⟨L2, now, ch, rfl, S3.out, by have := HB.out; omega, by have := HB.out; omega, HLN.out⟩
            · go_wp2_with fail
              refine CB.out.mono ?_
              rintro r w3 ⟨rfl, s3, _⟩
              rw [show ch + b2i true = ch + 1 by simp [b2i]] at s3
              have S3 := Lib.hid s3
              clear s3 CB
              go_wp2
              go_meet
              case rel => exact ⟨L2, now, ch + 1, rfl, S3.out, by have := HB.out; omega, by have := HB.out; omega, HLN.out⟩
        case rest =>
          obtain ⟨L2, now2, ch2, rfl, hm2, hnow2, hch2, hL2⟩ := hcut
          have HM2 := Lib.hid hm2
          have HB2 : Hid (now2 ≤ (i : Int) + 1 ∧ ch2 ≤ 1000 * ((i : Int) + 1) ∧ L2.length ≤ 50 ∧ now2 ≤ 1000 ∧ L2.length ≤ 1000) := ⟨hnow2, hch2, hL2, by omega, by omega⟩
          clear hm2 hnow2 hch2 hL2 HM HB d0 HX
          obtain ⟨m, hm⟩ : ∃ m, m = (liveL L2 pat now2).length := ⟨_, rfl⟩
          have hm50 : (m : Int) ≤ 50 := by have := sel_length L2 (liv pat now2); have := HB2.out; unfold liveL at hm; omega
          have CL := Lib.hid (st_livem HM2.out (by have := HB2.out; omega) HB2.out.2.2.2.2 hm)
          have HMM := Lib.hid hm
          clear hm
          go_wp2_with fail
          refine CL.out.mono ?_
          rintro r w3 ⟨A3, c3, rfl, sl3, s3⟩
          have S3 := Lib.hid s3
          have SL3 := Lib.hid sl3
          clear s3 sl3 CL HM2
          go_wp2_with fail
          refine (st_changes S3.out).mono ?_
          rintro r w4 ⟨rfl, rfl⟩
          have HV := Lib.hid (sel_krises S3.out.det.good.rs (liv pat now2))
          have HAL : Hid (∀ z, alive L2 pat now2 z = decide (z ∈ liveL L2 pat now2)) := fun z => by
            rw [Bool.eq_iff_iff, ← mem_liveL S3.out.det.good.rs]
            simp
          have HNM : Hid ((liveL L2 pat now2).length = m) := HMM.out.symm
          have HV2 : Hid (KRises (liveL L2 pat now2)) := HV.out
          clear HV HMM
          have HVS : Hid (∀ z ∈ liveL L2 pat now2, z.size ≤ maxLen) := fun z hz => by
            obtain ⟨x, hx, rfl, _⟩ := mem_sel.mp hz
            exact (S3.out.det.ok x hx).k
          generalize hVV : liveL L2 pat now2 = V at SL3 HAL HNM HV2 HVS
          clear hVV
          go_wp2
          go_loopw [59] (LkRel m w3) (fun i _ => m - (intOf i).toNat)
          case atStart => exact ⟨0, Nat.zero_le _, rfl, Below.refl _ _⟩
          case round =>
            obtain ⟨k, hkm, rfl, hb⟩ := hrel
            have HBB := Lib.hid hb
            clear hb
            by_cases hkl : k < m
            · have hkV : k < V.length := by rw [HNM.out]; exact hkl
              obtain ⟨b3, o3, rfl, _, d1⟩ := at_ky (SL3.out.below (Nat.le_refl _) HBB.out) hkV
              have CA : Hid (∀ mm, Calls Try.prog 18 #[.pointer (some ⟨g, 0, none⟩), .string V[k]] (wr.drewN mm) fun r w' => r = .returned (.bool true) ∧ w' = wr.drewN mm) := fun mm => by
                have hsz : V[k].size ≤ maxLen := HVS.out _ (List.getElem_mem hkV)
                have := st_alive ((S3.out.below HBB.out).below (below_drewN wr mm)) V[k] hsz (by have := HB2.out; omega)
                rw [show alive L2 pat now2 V[k] = true by rw [HAL.out]; exact decide_eq_true (List.getElem_mem hkV)] at this
                exact this.mono fun r w' hh => ⟨hh.1, hh.2.symm⟩
              have hki : (k : Int) < (m : Int) := by omega
              have hk0 : (0 : Int) ≤ (k : Int) := by omega
              have HKM : Hid (k + 1 ≤ m) := hkl
              by_cases hkz : k = 0
              · have e1 : decide ((k : Int) > 0) = false := decide_eq_false (by omega)
                have e2 : decide (0 < k) = false := decide_eq_false (by omega)
                generalize V[k] = z1 at d1 CA
                clear hkz hkV hkm hkl
                go_wp2_with fail
                go_quiet (first | (go_at_call 18; exact Calls.quiet_of_same (CA.out _)))
                have HB7 := Lib.hid (HBB.out.trans ((below_drewN wr nq).mono HBB.out.size))
                generalize wr.drewN nq = W9 at HB7 ⊢
                go_wp2
                go_roundw
                case rel => exact ⟨k + 1, HKM.out, by go_num, HB7.out⟩
                case measure => simp [intOf]; omega
              · have e1 : decide ((k : Int) > 0) = true := decide_eq_true (by omega)
                have e2 : decide (0 < k) = true := decide_eq_true (by omega)
                obtain ⟨j, hj⟩ : ∃ j, k = j + 1 := ⟨k - 1, by omega⟩
                have hjV : j < V.length := by omega
                obtain ⟨b4, o4, e4, _, d2⟩ := at_ky (SL3.out.below (Nat.le_refl _) HBB.out) hjV
                cases e4
                have hlt2 : Op.bytesLess V[j].toList V[k].toList = true := (List.pairwise_iff_getElem.mp HV2.out) j k hjV hkV (by omega)
                have hwr : IntKind.i64.wrap ((k : Int) - 1) = (j : Int) := by
                  rw [show (k : Int) - 1 = (j : Int) by omega]
                  exact IntWalk.i64_in _ (by omega)
                have hj0 : (0 : Int) ≤ (j : Int) := by omega
                have hjm : (j : Int) < (m : Int) := by omega
                generalize V[k] = z1 at d1 CA hlt2
                generalize V[j] = z0 at d2 hlt2
                clear hkz hkV hkm hkl hj hjV
                go_wp2_with fail
                go_quiet (first | (go_at_call 18; exact Calls.quiet_of_same (CA.out _)))
                have HB7 := Lib.hid (HBB.out.trans ((below_drewN wr nq).mono HBB.out.size))
                generalize wr.drewN nq = W9 at HB7 ⊢
                go_wp2
                go_roundw
                case rel => exact ⟨k + 1, HKM.out, by go_num, HB7.out⟩
                case measure => simp [intOf]; omega
            · have hki : ¬ (k : Int) < (m : Int) := by omega
              have HB3 := Lib.hid HBB.out
              clear hkm hkl HBB
              go_wp2
              go_loopw [88] (LkRel n0 w3) (fun i _ => n0 - (intOf i).toNat)
              case atStart => exact ⟨0, Nat.zero_le _, rfl, HB3.out⟩
              case round =>
                obtain ⟨q, hqn, rfl, hb5⟩ := hrel
                have HB5 := Lib.hid hb5
                clear hb5 HB3
                by_cases hql : q < n0
                · have hqN : q < N.length := by rw [HE0.out]; exact hql
                  obtain ⟨bn, on, rfl, _, f1⟩ := at_ky (H0.out.below (Nat.le_refl _) (S3.out.below HB5.out).bel) hqN
                  have hqi : (q : Int) < (n0 : Int) := by omega
                  have hq0 : (0 : Int) ≤ (q : Int) := by omega
                  have HQM : Hid (q + 1 ≤ n0) := hql
                  have FY : Hid (∀ W, Below w3.heap.size w3 W → W.cell? ⟨bn, on + q, none⟩ = some (.string N[q])) := fun W hW => at_ky2 (H0.out.below (Nat.le_refl _) (S3.out.below hW).bel) hqN
                  have HYS := Lib.hid (HZ0.out N[q] (List.getElem_mem hqN))
                  generalize N[q] = y at f1 FY HYS
                  clear f1 hqN hql hqn
                  go_wp2
                  go_loopw [13, 93] (LjRel m w3 V y) (fun _ i _ => m - (intOf i).toNat)
                  case atStart => exact ⟨0, Nat.zero_le _, rfl, by simp, HB5.out⟩
                  case round =>
                    obtain ⟨j, hjm, rfl, hs13, hb6⟩ := hrel
                    have HB6 := Lib.hid hb6
                    have f1 := FY.out wr hb6
                    clear hb6 HB5
                    obtain ⟨isv, his⟩ : ∃ isv, isv = decide (y ∈ V.take j) := ⟨_, rfl⟩
                    rw [← his] at hs13
                    have HIS := Lib.hid his
                    subst hs13
                    clear his
                    by_cases hjl : j < m
                    · have hjV : j < V.length := by rw [HNM.out]; exact hjl
                      obtain ⟨b3, o3, rfl, _, d1⟩ := at_ky (SL3.out.below (Nat.le_refl _) HB6.out) hjV
                      have hji : (j : Int) < (m : Int) := by omega
                      have hj0 : (0 : Int) ≤ (j : Int) := by omega
                      have HJM : Hid (j + 1 ≤ m) := hjl
                      have HT : Hid (decide (y ∈ V.take (j + 1)) = (isv || decide (V[j] = y))) := by
                        show _ = _
                        rw [HIS.out, Bool.eq_iff_iff]
                        simp only [decide_eq_true_eq, Bool.or_eq_true, List.take_succ_eq_append_getElem hjV, List.mem_append, List.mem_singleton]
                        constructor
                        · rintro (h | h)
                          · exact .inl h
                          · exact .inr h.symm
                        · rintro (h | h)
                          · exact .inl h
                          · exact .inr h.symm
                      generalize V[j] = z at d1 HT
                      clear hjV hjm hjl
                      cases isv
                      · by_cases hzy : z = y
                        · subst hzy
                          go_wp2_with fail
                          go_quiet (fail)
                          have HB7 := Lib.hid (HB6.out.trans ((below_drewN wr nq).mono HB6.out.size))
                          generalize wr.drewN nq = W9 at HB7 ⊢
                          go_wp2
                          go_roundw
                          case rel => exact ⟨j + 1, HJM.out, by go_num, by rw [HT.out]; simp, HB7.out⟩
                          case measure => simp [intOf]; omega
                        · have hzy' : (z.toList == y.toList) = false := toList_ne hzy
                          have HZY := Lib.hid hzy
                          clear hzy
                          go_wp2_with fail
                          go_quiet (fail)
                          have HB7 := Lib.hid (HB6.out.trans ((below_drewN wr nq).mono HB6.out.size))
                          generalize wr.drewN nq = W9 at HB7 ⊢
                          go_wp2
                          go_roundw
                          case rel => exact ⟨j + 1, HJM.out, by go_num, by rw [HT.out]; simp [HZY.out], HB7.out⟩
                          case measure => simp [intOf]; omega
                      · go_wp2_with fail
                        go_quiet (fail)
                        have HB7 := Lib.hid (HB6.out.trans ((below_drewN wr nq).mono HB6.out.size))
                        generalize wr.drewN nq = W9 at HB7 ⊢
                        go_wp2
                        go_roundw
                        case rel => exact ⟨j + 1, HJM.out, by go_num, by rw [HT.out]; simp, HB7.out⟩
                        case measure => simp [intOf]; omega
                    · have hji : ¬ (j : Int) < (m : Int) := by omega
                      have hje : j = V.length := by rw [HNM.out]; omega
                      have CY := Lib.hid (st_alive (S3.out.below HB6.out) y HYS.out (by have := HB2.out; omega))
                      have HAV : Hid (alive L2 pat now2 y = isv) := by
                        show _ = _
                        rw [HAL.out, HIS.out, hje, List.take_length]
                      rw [HAV.out] at CY
                      clear hje hjm hjl
                      cases isv
                      all_goals
                        go_wp2_with fail
                        refine CY.out.mono ?_
                        rintro r w8 ⟨rfl, rfl⟩
                        go_wp2
                        go_roundw
                        case rel => exact ⟨q + 1, HQM.out, by go_num, HB6.out⟩
                        case measure => simp [intOf]; omega
                · have hqi : ¬ (q : Int) < (n0 : Int) := by omega
                  clear hql hqn
                  have SE := Lib.hid (S3.out.below HB5.out)
                  go_wp2
                  go_roundw
                  case rel => exact ⟨i + 1, L2, now2, ch2, HK.out.1, HK.out.2, rfl, by go_num, SE.out, by have := HB2.out; omega, by have := HB2.out; omega, HB2.out.2.2.1⟩
                  case measure => simp [intOf]; omega
      · have hcase : ¬ (i : Int) < (n : Int) ∨ ((i : Int) < (n : Int) ∧ ¬ (i : Int) < 200) := by omega
        have HBL := Lib.hid HM.out.bel
        clear hlt hi hin
        rcases hcase with hc1 | ⟨hc1, hc2⟩
        all_goals
          go_wp2
          go_ret
          exact ⟨rfl, HBL.out⟩
end Go.Proofs.Ytdmgmbjdocechaa
