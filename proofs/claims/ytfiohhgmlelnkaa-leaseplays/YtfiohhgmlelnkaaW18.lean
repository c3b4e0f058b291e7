/-
  The walk of LeasePlays. Its conditions: the script reads as steps.
-/
import Derived.Test.YtfiohhgmlelnkaaW17
namespace Go.Proofs.Ytfiohhgmlelnkaa
open Go.RowKit Go.Maps

set_option maxRecDepth 100000 in
set_option maxHeartbeats 16000000 in
theorem plays_walk (limit a : Int) (l : List Step) (A : Option Addr) (n c : Nat) (w : World) (hl2 : limit ≤ 9223372036854775807) (ha : a ≤ 9223372036854775807) (hs : Scr w A l) (hn : l.length = n) :
    Calls Try.prog 3 #[.int .i64 limit, .int .i64 a, .slice A n c] w fun e w' => e = .returned (.bool true) ∧ Below w.heap.size w w' := by
  obtain ⟨tP, hP⟩ : ∃ tP, tP = max a 1 := ⟨_, rfl⟩
  obtain ⟨tM, hM⟩ : ∃ tM, tM = min a 1000000 := ⟨_, rfl⟩
  obtain ⟨tR, hR⟩ : ∃ tR, tR = max tM 1 := ⟨_, rfl⟩
  obtain ⟨d, hd⟩ : ∃ d, d = tP - tR := ⟨_, rfl⟩
  have hmin : ∀ w, (Builtin.min_ #[3, 3] 3 #[.int .i64 a, .int .i64 1000000]).run Try.prog w = .ok (.int .i64 tM) w := fun w => run_min2 w _ _ _ _ _ hM
  have hmax : ∀ w, (Builtin.max_ #[3, 3] 3 #[.int .i64 tM, .int .i64 1]).run Try.prog w = .ok (.int .i64 tR) w := fun w => run_max2 w _ _ _ _ _ hR
  have HT : Hid (tP - d = tR ∧ (0 < d → tR = 1000000) ∧ 1 ≤ tR ∧ tR ≤ 1000000 ∧ 0 ≤ d) := by show _ ∧ _; omega
  have HP := Lib.hid hP
  have H := Lib.hid hs
  have HE := Lib.hid hn
  have HL := Lib.hid hl2
  have HA := Lib.hid ha
  clear hP hM hR hd hs hn hl2 ha
  go_enter Try.func3, Try.ntmps3
  go_wp2_with fail
  refine (awake_any w).mono ?_
  rintro e w1 ⟨rfl, b1⟩
  have B1 := Lib.hid b1
  clear b1
  go_wp2_with fail
  refine (new_any w.heap.size limit a tP w1 B1.out.size HP.out HA.out HL.out).mono ?_
  rintro e w2 ⟨g, B, rfl, t2, b2, _, _⟩
  have hB2 := B1.out.trans (b2.mono B1.out.size)
  have hb3 : Below w2.heap.size w2 (w2.alloc (.cells #[.slice none 0 0, .int .i64 limit, .int .i64 tR, .int .i64 0, .int .i64 0] 29)) := (Below.refl _ _).alloc (Nat.le_refl _) _
  have T3 := Lib.hid (t2.below hb3)
  have B3 := Lib.hid (hB2.trans (hb3.mono hB2.size))
  have R3 : Hid (RefAt (w2.alloc (.cells #[.slice none 0 0, .int .i64 limit, .int .i64 tR, .int .i64 0, .int .i64 0] 29)) w.heap.size w2.heap.size (sh (0 - d) []) limit tR 0 0) := ⟨hB2.size, by simp [sh], _, heap_new _ _, World.ownsRow_nil _ _ _ _⟩
  have HD : Hid (Late d 0 []) := by
    show Late d 0 []
    unfold Late
    have := HT.out
    rcases Decidable.em (d = 0) with h | h
    · exact .inl h
    · exact .inr ⟨by omega, by simp⟩
  clear t2 b2 B1 hB2 hb3
  go_wp2
  generalize hh0 : w2.heap.size = h at R3 ⊢
  clear hh0
  go_loopw [10] (PlRel l g B h limit tP tR d w) (fun i _ => 301 - (intOf i).toNat)
  case atStart => exact ⟨0, [], 0, 0, Nat.zero_le _, Nat.zero_le _, rfl, T3.out, R3.out, B3.out, ⟨by omega, by omega, by omega, by omega, Nat.le_refl _, HD.out⟩⟩
  case round =>
    obtain ⟨k, L, last, now, hk2, hkl, rfl, hm, hr, hb, hbd⟩ := hrel
    have HM := Lib.hid hm
    have HRF := Lib.hid hr
    have HB := Lib.hid hb
    have HBD := Lib.hid hbd
    clear hm hr hb hbd T3 B3 R3 HD hmin hmax
    rw [HE.out] at hkl
    by_cases hlt : k < n ∧ k < 300
    · obtain ⟨hlt1, hlt2⟩ := hlt
      have hkl2 : k < l.length := by rw [HE.out]; exact hlt1
      obtain ⟨b, off, rfl, hbs, c0, c1, c2⟩ := (H.out.below (Nat.le_refl _) HB.out).at_ hkl2
      have S0 := Lib.hid (pl_new l[k] HM.out HRF.out HB.out)
      have HKS := Lib.hid (H.out.2.1 l[k] (List.getElem_mem hkl2))
      generalize l[k] = x at c0 c1 c2 S0 HKS
      obtain ⟨K, key, tk⟩ := x
      simp only at c0 c1 c2 S0 HKS
      have hlti : (k : Int) < (n : Int) := by omega
      have hlti2 : (k : Int) < 300 := by omega
      have hk0 : (0 : Int) ≤ (k : Int) := by omega
      have HK2 : Hid (k ≤ 299 ∧ k + 1 ≤ l.length) := by show _ ∧ _; omega
      have HG := Lib.hid HM.out.good
      have HND : Hid ((keys (sh (now - d) L)).Nodup) := by show List.Nodup _; rw [sh_keys]; exact HG.out.nd
      clear hkl2 hbs hk2 hkl
      go_upto_block 2 with fail
      obtain ⟨W0, hW0⟩ : ∃ W0, wr.alloc (oStep ⟨K, key, tk⟩) = W0 := ⟨_, rfl⟩
      have hW0' := hW0
      simp only [oStep] at hW0'
      rw [hW0] at S0
      rw [hW0']
      clear hW0 hW0' c0 c1 c2 HM HRF HB
      generalize wr.heap.size = q at S0 ⊢
      obtain ⟨z0, z1, z2⟩ := S0.out.cells
      simp only at z0 z1 z2
      go_cut [12, 13, 14, 15, 16, 17] from 45 to 140 (PsRel w g B h q k ⟨K, key, tk⟩ limit tP tR d)
      case first =>
        by_cases hK0 : K = 0
        · subst hK0
          have C1 := Lib.hid (pl_grant S0.out key HKS.out HBD.out.l0 (by have := HBD.out.l1; have := HK2.out; omega))
          have CR : Hid (∀ W, Pl w W g B h (grL L key limit tP last) (sh (now - d) L) limit tP tR (grT L key limit last) now last q ⟨0, key, tk⟩ → Calls Try.prog 12 #[.pointer (some ⟨h, 0, none⟩), .string key] W fun r w' => r = .returned (.int .i64 (grV L key limit last)) ∧ Pl w w' g B h (grL L key limit tP last) (sh (now - d) (grL L key limit tP last)) limit tP tR (grT L key limit last) now (grT L key limit last) q ⟨0, key, tk⟩) := fun W hW => by
            have := pl_refgrant hW key (by rw [sh_length]; have := HBD.out.len; have := HK2.out; omega) ⟨HBD.out.n0, by have := HBD.out.n1; have := HK2.out; omega⟩ ⟨HT.out.2.2.1, HT.out.2.2.2.1⟩ ⟨HBD.out.l0, by have := HBD.out.l1; have := HK2.out; omega⟩
            rw [sh_grV, sh_grT, sh_rgL d tP tR now L key limit last HT.out.1] at this
            exact this
          have HB2 := Lib.hid (HBD.out.gr HT.out.1 HT.out.2.1 key limit)
          have hgv := @grV_cases L key limit last HBD.out.l0
          generalize grV L key limit last = gv at C1 CR hgv
          generalize grL L key limit tP last = L2 at C1 CR HB2
          generalize grT L key limit last = last2 at C1 CR HB2
          generalize grB L key limit = gb at C1 hgv
          go_wp2_with fail
          refine C1.out.mono ?_
          rintro r W1 ⟨rfl, s1⟩
          have C2 := Lib.hid (CR.out _ s1)
          obtain ⟨y0, y1, y2⟩ := s1.cells
          simp only at y0 y1 y2
          clear s1 C1 CR z0 z1 z2 S0
          go_wp2_with fail
          refine C2.out.mono ?_
          rintro r W2 ⟨rfl, s2⟩
          have S2 := Lib.hid s2
          obtain ⟨x0, x1, x2⟩ := s2.cells
          simp only at x0 x1 x2
          clear s2 C2 y0 y1 y2
          go_wp2_with fail
          refine (grant_nil key W2).mono ?_
          rintro r W3 ⟨rfl, b3⟩
          have S3 := Lib.hid (S2.out.below b3)
          clear b3 S2 x0 x1 x2
          rcases hgv with ⟨rfl, hgv⟩ | ⟨rfl, rfl⟩
          all_goals
            go_wp2
            go_meet
            case rel => exact ⟨_, _, _, rfl, S3.out, HB2.out⟩
        · by_cases hK1 : K = 1
          · subst hK1
            have SD := Lib.hid S0.out.drew
            have CA : Hid (∀ W, Pl w W g B h L (sh (now - d) L) limit tP tR last now last q ⟨1, key, tk⟩ → Calls Try.prog 13 #[.pointer (some ⟨g, 0, none⟩), .string key, .int .i64 tk] W fun r w' => r = .returned (.bool (useB L key tk)) ∧ Pl w w' g B h (useL L key tk) (sh (now - d) L) limit tP tR last now last q ⟨1, key, tk⟩) := fun W hW => pl_use hW key tk HKS.out
            have CB : Hid (∀ W, Pl w W g B h (useL L key tk) (sh (now - d) L) limit tP tR last now last q ⟨1, key, tk⟩ → Calls Try.prog 14 #[.pointer (some ⟨h, 0, none⟩), .string key, .int .i64 tk] W fun r w' => r = .returned (.bool (useB L key tk)) ∧ Pl w w' g B h (useL L key tk) (sh (now - d) (useL L key tk)) limit tP tR last now last q ⟨1, key, tk⟩) := fun W hW => by
              have := pl_refuse hW key tk HND.out
              rw [sh_useB, sh_useL] at this
              exact this
            have HB2 := Lib.hid (HBD.out.up.sub (useL_sub L key tk))
            generalize useB L key tk = ub at CA CB
            generalize useL L key tk = L2 at CA CB HB2
            cases ub
            all_goals
              go_wp2_with fail
              go_region_held3 (fun w' => w'.cell? ⟨q, 1, none⟩ = some (.string key) ∧ w'.cell? ⟨q, 2, none⟩ = some (.int .i64 tk)) (first | go_keep | exact ⟨ca1, ca2⟩ | exact ⟨cb1, cb2⟩ | exact ⟨z1, z2⟩)
                (first
                  | (go_at_call 13; (with_reducible refine (CA.out _ SD.out).mono ?_); rintro e wa ⟨rfl, sa⟩; have SA := Lib.hid sa; obtain ⟨ca0, ca1, ca2⟩ := sa.cells; simp only at ca0 ca1 ca2; clear sa)
                  | (go_at_call 14; (with_reducible refine (CB.out _ SA.out).mono ?_); rintro e wb ⟨rfl, sb⟩; have SB := Lib.hid sb; obtain ⟨cb0, cb1, cb2⟩ := sb.cells; simp only at cb0 cb1 cb2; clear sb)
                  | (go_at_call 13; (with_reducible refine (use_nil key tk _).mono ?_); rintro e wv ⟨rfl, rfl⟩))
              clear ca0 ca1 ca2
              go_wp2
              go_meet
              case rel => exact ⟨_, _, _, rfl, SB.out, HB2.out⟩
          · by_cases hK2 : K = 2
            · subst hK2
              have SD := Lib.hid S0.out.drew
              have CA : Hid (∀ W, Pl w W g B h L (sh (now - d) L) limit tP tR last now last q ⟨2, key, tk⟩ → Calls Try.prog 15 #[.pointer (some ⟨g, 0, none⟩), .string key] W fun r w' => r = .returned (.bool (has L key)) ∧ Pl w w' g B h (drp L key) (sh (now - d) L) limit tP tR last now last q ⟨2, key, tk⟩) := fun W hW => pl_kill hW key HKS.out
              have CB : Hid (∀ W, Pl w W g B h (drp L key) (sh (now - d) L) limit tP tR last now last q ⟨2, key, tk⟩ → Calls Try.prog 16 #[.pointer (some ⟨h, 0, none⟩), .string key] W fun r w' => r = .returned (.bool (has L key)) ∧ Pl w w' g B h (drp L key) (sh (now - d) (drp L key)) limit tP tR last now last q ⟨2, key, tk⟩) := fun W hW => by
                have := pl_refkill hW key HND.out
                rw [sh_has, sh_drp] at this
                exact this
              have HB2 := Lib.hid (HBD.out.up.sub (drp_sub L key))
              generalize has L key = ub at CA CB
              generalize drp L key = L2 at CA CB HB2
              cases ub
              all_goals
                go_wp2_with fail
                go_region_held3 (fun w' => w'.cell? ⟨q, 1, none⟩ = some (.string key)) (first | go_keep | exact ca1 | exact cb1 | exact z1)
                  (first
                    | (go_at_call 15; (with_reducible refine (CA.out _ SD.out).mono ?_); rintro e wa ⟨rfl, sa⟩; have SA := Lib.hid sa; obtain ⟨ca0, ca1, ca2⟩ := sa.cells; simp only at ca0 ca1 ca2; clear sa)
                    | (go_at_call 16; (with_reducible refine (CB.out _ SA.out).mono ?_); rintro e wb ⟨rfl, sb⟩; have SB := Lib.hid sb; obtain ⟨cb0, cb1, cb2⟩ := sb.cells; simp only at cb0 cb1 cb2; clear sb)
                    | (go_at_call 15; (with_reducible refine (kill_nil key _).mono ?_); rintro e wv ⟨rfl, rfl⟩))
                clear ca0 ca1 ca2
                go_wp2
                go_meet
                case rel => exact ⟨_, _, _, rfl, SB.out, HB2.out⟩
            · by_cases hK3 : K = 3
              · subst hK3
                have CR : Hid (∀ W, Pl w W g B h (tck L) (sh (now - d) L) limit tP tR last now last q ⟨3, key, tk⟩ → Calls Try.prog 18 #[.pointer (some ⟨h, 0, none⟩)] W fun r w' => r = .returned (.tuple #[]) ∧ Pl w w' g B h (tck L) (sh (now + 1 - d) (tck L)) limit tP tR last (now + 1) last q ⟨3, key, tk⟩) := fun W hW => by
                  have := pl_reftick hW HBD.out.n0 (by have := HBD.out.n1; have := HK2.out; omega)
                  rw [sh_aft HBD.out.late HG.out (by have := HK2.out; omega)] at this
                  exact this
                go_wp2_with fail
                refine (pl_tick S0.out).mono ?_
                rintro r W1 ⟨rfl, s1⟩
                have C2 := Lib.hid (CR.out _ s1)
                clear s1 CR z0 z1 z2 S0
                go_wp2_with fail
                refine C2.out.mono ?_
                rintro r W2 ⟨rfl, s2⟩
                have S2 := Lib.hid s2
                clear s2 C2
                go_wp2_with fail
                refine (tick_nil W2).mono ?_
                rintro r W3 ⟨rfl, rfl⟩
                go_wp2
                go_meet
                case rel => exact ⟨_, _, _, rfl, S2.out, HBD.out.tck⟩
              · by_cases hK4 : K = 4
                · subst hK4
                  go_wp2_with fail
                  refine (pl_clear S0.out).mono ?_
                  rintro r W1 ⟨rfl, s1⟩
                  obtain ⟨s2, ⟨A9, n9, c9, y0⟩, fz⟩ := pl_nil s1
                  have S2 := Lib.hid s2
                  clear s1 s2 z0 z1 z2 S0
                  go_wp2_with fail
                  refine (clear_nil _).mono ?_
                  rintro r W3 ⟨rfl, rfl⟩
                  go_wp2
                  go_meet
                  case rel => exact ⟨[], last, now, rfl, S2.out, HBD.out.up.sub (List.nil_sublist _)⟩
                · go_wp2
                  go_meet
                  case rel => exact ⟨_, _, _, rfl, S0.out, HBD.out.up⟩
      case rest =>
        obtain ⟨L2, last2, now2, rfl, sf, hb2⟩ := hcut
        have SF := Lib.hid sf
        have HB2 := Lib.hid hb2
        obtain ⟨m, hm⟩ : ∃ m, m = L2.length := ⟨_, rfl⟩
        have CU : Hid (∀ j, Calls Try.prog 20 #[.pointer (some ⟨g, 0, none⟩)] (wc.drewN j) fun r w' => r = .returned (.int .i64 (m : Int)) ∧ w' = wc.drewN j) := fun j => by
          rw [hm]
          exact (len_any _ g B L2 limit tP last2 _ (sf.below (below_drewN _ _)).tab).mono fun r w' hx => ⟨hx.1, hx.2.symm⟩
        have CV : Hid (∀ j, Calls Try.prog 21 #[.pointer (some ⟨g, 0, none⟩)] (wc.drewN j) fun r w' => r = .returned (.int .i64 last2) ∧ w' = wc.drewN j) := fun j =>
          (granted_any _ g B L2 limit tP last2 _ (sf.below (below_drewN _ _)).tab).mono fun r w' hx => ⟨hx.1, hx.2.symm⟩
        obtain ⟨A9, c9, hbox, _⟩ := sf.ref.parts
        have v0 := hbox.c0
        have v4 := hbox.c4
        rw [sh_length, ← hm] at v0
        clear sf hb2 hm hbox S0 z0 z1 z2
        go_wp2_with fail
        go_quiet (first | (go_at_call 20; exact Calls.quiet_of_same (CU.out _)) | (go_at_call 21; exact Calls.quiet_of_same (CV.out _)))
        have SE := Lib.hid (SF.out.below (below_drewN wc nq))
        clear SF CU CV v0 v4
        generalize wc.drewN nq = W9 at SE ⊢
        go_wp2
        go_roundw
        case rel => exact ⟨k + 1, L2, last2, now2, by have := HK2.out; omega, HK2.out.2, by go_num, SE.out.tab, SE.out.ref, SE.out.bel, HB2.out⟩
        case measure => simp [intOf]; omega
    · have hcase : ¬ (k : Int) < (n : Int) ∨ ((k : Int) < (n : Int) ∧ ¬ (k : Int) < 300) := by omega
      clear hlt hk2 hkl HM HRF
      rcases hcase with hc1 | ⟨hc1, hc2⟩
      all_goals
        go_wp2_with fail
        refine (len_nil wr).mono ?_
        rintro r w9 ⟨rfl, rfl⟩
        go_wp2_with fail
        refine (granted_nil wr).mono ?_
        rintro r w9 ⟨rfl, rfl⟩
        go_wp2
        go_ret
        exact ⟨rfl, HB.out⟩
end Go.Proofs.Ytfiohhgmlelnkaa
