/-
  The walk of the document's Owners. Its conditions: the slice reads as texts that lie in memory which is there.
-/
import Derived.Test.YtnbgmobcfbgenaaGreatDoorW20
namespace Go.Proofs.YtnbgmobcfbgenaaGreatDoor
open Go.RowKit Go.Maps
open Go.Sort (grow)

/-- A slice's length. -/
def lenOf : Value → Nat
  | .slice _ n _ => n
  | _ => 0
set_option maxRecDepth 100000 in
set_option maxHeartbeats 16000000 in
theorem refowners_any (l : List ByteArray) (A : Option Addr) (n c : Nat) (key : ByteArray) (u : Int) (w : World) (hs : Sl eKy w A l) (hn : l.length = n) (hz : Sized l) (hk : key.size ≤ maxLen) :
    Calls Tryz.prog 8 #[.slice A n c, .string key, .int .i64 u] w fun r w' => ∃ v, r = .returned v ∧ RowT eKy 9 w' w.heap.size v ((ordS (nodesOf l) (hsh key)).take u.toNat) ∧ Below w.heap.size w w' := by
  have C1 := Lib.hid (refnodes_any l A n c w hs hn)
  have CH := Lib.hid (fun W => refhash_any key W hk)
  have HH := Lib.hid (hsh_lt key)
  have HSZ : Hid (Sized (nodesOf l)) := fun a ha => hz a (uniq8_sub (mem_nodesOf.mp ha))
  have HRS := Lib.hid (nodesOf_krises l)
  have H8 := Lib.hid (nodesOf_len l)
  generalize nodesOf l = S at C1 HSZ HRS H8 ⊢
  generalize hsh key = H at CH HH ⊢
  clear hs hn hz hk
  go_enter Tryz.func8, Tryz.ntmps8
  go_wp2_with fail
  refine C1.out.mono ?_
  rintro r w1 ⟨v1, rfl, hrow, hb⟩
  have hF : FindI w S H u S [] v1 (.slice (some ⟨w1.heap.size, 0, none⟩) 0 0) (w1.alloc (.cells #[] 9)) := by
    have bE : Below w1.heap.size w1 (w1.alloc (.cells #[] 9)) := (Below.refl _ _).alloc (Nat.le_refl _) _
    refine ⟨hrow.below bE, (RowT.empty w1).down hb.size, fun q hq e => ?_, hb.trans (bE.mono hb.size), rfl, HRS.out, HSZ.out, by simp; omega, by simp; exact H8.out⟩
    obtain ⟨_, cs, hcs⟩ := hrow.own hq
    have h1 := lt_of_heap hcs
    have h2 : w1.heap.size = q := by simpa [Value.ownBlock] using e
    omega
  obtain ⟨A1, m1, c1, e1⟩ : ∃ A1 m1 c1, v1 = .slice A1 m1 c1 := by
    obtain ⟨A1, c1, e1, _⟩ := hrow.form
    exact ⟨_, _, _, e1⟩
  subst e1
  have HF0 := Lib.hid hF
  clear hrow hb hF C1
  go_wp2_with fail
  refine (CH.out _).mono ?_
  rintro r wh ⟨rfl, rfl⟩
  clear CH
  go_wp2
  go_loopw [7, 9] (fun s7 s9 wr => ∃ T O, FindI w S H u T O s7 s9 wr) (fun s7 _ _ => lenOf s7)
  case atStart => exact ⟨S, [], HF0.out⟩
  case round =>
    obtain ⟨T, O, hF⟩ := hrel
    have HF := Lib.hid hF
    have h8 := hF.o8
    obtain ⟨Al, cl, el, sll, hlc, _⟩ := hF.lrow.sl (by unfold maxLen; omega)
    obtain ⟨Ao, co, eo, _⟩ := hF.orow.form
    obtain ⟨m, hm⟩ : ∃ m, m = T.length := ⟨_, rfl⟩
    obtain ⟨mo, hmo⟩ : ∃ mo, mo = O.length := ⟨_, rfl⟩
    rw [← hm] at el hlc h8
    rw [← hmo] at eo h8
    subst el eo
    have HM := Lib.hid hm
    have HMO := Lib.hid hmo
    have hmI : (m : Int) ≤ 8 := by omega
    have hmoI : (mo : Int) ≤ 8 := by omega
    clear hF h8 sll hlc hm hmo HF0
    by_cases hm0 : 0 < m
    · have g1 : (m : Int) > 0 := by omega
      have g2 : decide (0 < m) = true := decide_eq_true hm0
      by_cases hu : (mo : Int) < u
      · have HUU := Lib.hid hu
        have HM0 := Lib.hid hm0
        have HB0 : Hid (Best H T 1 0) := Best.init (by rw [← HM.out]; exact hm0)
        have HGL : Hid (∃ g, Al = some ⟨g, 0, none⟩) := by
          rcases HF.out.lrow.2 with ⟨_, hz⟩ | ⟨g, cap, cur, e, _⟩
          · have hz' : T.length = 0 := hz
            rw [← HM.out] at hz'
            omega
          · injection e with e _ _
            exact ⟨g, e⟩
        obtain ⟨g, hg⟩ := HGL.out
        subst hg
        clear hm0 HGL
        go_wp2
        go_loopw [10, 11] (fun s10 s11 wi => ∃ i b : Nat, s11 = .int .i64 (i : Int) ∧ s10 = .int .i64 (b : Int) ∧ Best H T i b ∧ FindI w S H u T O (.slice (some ⟨g, 0, none⟩) m cl) (.slice Ao mo co) wi) (fun _ i _ => m - (intOf i).toNat)
        case atStart => exact ⟨1, 0, rfl, rfl, HB0.out, HF.out⟩
        case round =>
          obtain ⟨i, b, rfl, rfl, hB, hF2⟩ := hrel
          have HB := Lib.hid hB
          have HF2 := Lib.hid hF2
          have hbi := hB.bi
          have him := hB.it
          rw [← HM.out] at him
          clear hB hF2 HF HB0
          obtain ⟨A2, c2, e2, sl2, _⟩ := HF2.out.lrow.sl (by rw [← HM.out]; unfold maxLen; omega)
          injection e2 with e2 e21 e22
          subst e2
          have hbT : b < T.length := by rw [← HM.out]; omega
          have d1 := at_ky2 sl2 hbT
          by_cases hlt : i < m
          · have hiT : i < T.length := by rw [← HM.out]; exact hlt
            have d2 := at_ky2 sl2 hiT
            have HTN := Lib.hid (fun (h : way H T[i] < way H T[b]) => HB.out.turn hiT hbT h)
            have HST := Lib.hid (fun (h : ¬ way H T[i] < way H T[b]) => HB.out.stay hiT hbT h)
            have s1 := HF2.out.sz _ (List.getElem_mem hbT)
            have s2 := HF2.out.sz _ (List.getElem_mem hiT)
            generalize T[b] = y at d1 HTN HST s1
            generalize T[i] = x at d2 HTN HST s2
            rw [Nat.zero_add] at d1 d2
            have CX : Hid (∀ d os, Calls Tryz.prog 19 #[.int .u64 (H : Int), .string x] (grow (redrawn wr d) os) fun e' w'' => e' = .returned (.int .u64 (way H x : Int)) ∧ ∃ p : Regrown, w'' = grow (redrawn wr p.d) p.os) :=
              fun d os => Calls.regrown_of ((refway_any H x _ HH.out s2).mono fun r w' hh => ⟨hh.1, by rw [← hh.2]; exact Below.refl _ _⟩)
            have CY : Hid (∀ d os, Calls Tryz.prog 19 #[.int .u64 (H : Int), .string y] (grow (redrawn wr d) os) fun e' w'' => e' = .returned (.int .u64 (way H y : Int)) ∧ ∃ p : Regrown, w'' = grow (redrawn wr p.d) p.os) :=
              fun d os => Calls.regrown_of ((refway_any H y _ HH.out s1).mono fun r w' hh => ⟨hh.1, by rw [← hh.2]; exact Below.refl _ _⟩)
            generalize way H x = px at CX HTN HST
            generalize way H y = py at CY HTN HST
            have f1 := fun d os => cell_regrown d1 d os
            have f2 := fun d os => cell_regrown d2 d os
            have hii : (i : Int) < (m : Int) := by omega
            have hi0 : (0 : Int) ≤ (i : Int) := by omega
            have hbm : (b : Int) < (m : Int) := by omega
            have hb0 : (0 : Int) ≤ (b : Int) := by omega
            clear hlt hiT hbT hbi him e21 e22 sl2 s1 s2
            by_cases hp : px < py
            · have hpi : (px : Int) < (py : Int) := by omega
              have HN := Lib.hid (HTN.out hp)
              clear hp HTN HST
              go_wp2_with fail
              refine wp_region_quiet_below (by kernel_rfl) (by kernel_rfl) ?_
              repeat (go_big_quiet_step (first | with_reducible exact CX.out _ _ | with_reducible exact CY.out _ _))
              refine wpQuiet_nil ?_
              intro w9 hw'
              obtain ⟨⟨dq, osq⟩, hw''⟩ := hw'
              have HF9 : Hid (FindI w S H u T O (.slice (some ⟨g, 0, none⟩) m cl) (.slice Ao mo co) w9) := HF2.out.below (by rw [hw'']; exact below_regrown wr dq osq)
              clear hw'' f1 f2 d1 d2 CX CY
              go_wp2
              go_roundw
              case rel => exact ⟨i + 1, i, by go_num, rfl, HN.out, HF9.out⟩
              case measure => simp [intOf]; omega
            · have hpi : ¬ (px : Int) < (py : Int) := by omega
              have HN := Lib.hid (HST.out hp)
              clear hp HTN HST
              go_wp2_with fail
              refine wp_region_quiet_below (by kernel_rfl) (by kernel_rfl) ?_
              repeat (go_big_quiet_step (first | with_reducible exact CX.out _ _ | with_reducible exact CY.out _ _))
              refine wpQuiet_nil ?_
              intro w9 hw'
              obtain ⟨⟨dq, osq⟩, hw''⟩ := hw'
              have HF9 : Hid (FindI w S H u T O (.slice (some ⟨g, 0, none⟩) m cl) (.slice Ao mo co) w9) := HF2.out.below (by rw [hw'']; exact below_regrown wr dq osq)
              clear hw'' f1 f2 d1 d2 CX CY
              go_wp2
              go_roundw
              case rel => exact ⟨i + 1, b, by go_num, rfl, HN.out, HF9.out⟩
              case measure => simp [intOf]; omega
          · have hBD : Best H T T.length b := by
              have h := HB.out
              have e : i = T.length := by rw [← HM.out]; omega
              rw [e] at h
              exact h
            obtain ⟨A2, m2, c2, W2, A3, m3, c3, W3, A4, m4, c4, W4, U⟩ := HF2.out.up HH.out HM.out.symm hBD hbT (by rw [← HMO.out]; exact HUU.out)
            have hol := outN_len hbT
            have h4 : m4 = (outN T b).length := by
              obtain ⟨A9, c9, e9, _⟩ := U.out.lrow.form
              injection e9
            have HM4 : Hid (m4 < m) := by show _ < _; rw [h4, HM.out]; omega
            generalize T[b] = x at d1 U
            rw [Nat.zero_add] at d1
            have hii : ¬ (i : Int) < (m : Int) := by omega
            have hbm : (b : Int) < (m : Int) := by omega
            have hb0 : (0 : Int) ≤ (b : Int) := by omega
            have hpm : (b : Int) + 1 ≤ (m : Int) := by omega
            have hp0 : (0 : Int) ≤ (b : Int) + 1 := by omega
            have hlcI : (m : Int) ≤ (cl : Int) := by
              obtain ⟨A9, c9, e9, hl9, _⟩ := HF2.out.lrow.form
              injection e9 with _ _ e93
              subst e93
              have := HM.out
              omega
            have hbc : (b : Int) ≤ (cl : Int) := by omega
            have hpc : (b : Int) + 1 ≤ (cl : Int) := by omega
            have R1 := Lib.hid U.r1
            have R2 := Lib.hid U.r2
            have UO := Lib.hid U.out
            have R3 : Hid ((Builtin.append_ #[22, 22] 22 #[.slice A3 m3 c3, .slice (if cl = b + 1 then some ⟨g, 0, none⟩ else some ⟨g, b + 1, none⟩) (m - (b + 1)) (cl - (b + 1))]).run Tryz.prog W3 = .ok (.slice A4 m4 c4) W4) := by
              rcases U.r3 with ⟨hc, hmb, r3⟩ | ⟨hc, r3⟩
              · have z1 : m - (b + 1) = 0 := by omega
                have z2 : cl - (b + 1) = 0 := by omega
                show _ = _
                rw [if_pos (by omega), z1, z2]
                exact r3
              · show _ = _
                rw [if_neg (by omega)]
                exact r3
            clear hlt hbi him e21 e22 sl2 hbT hBD hol h4 U HB
            go_wp2_with (first
              | (at_builtin; refine wpList_append_run rfl (.tmp 47) (.tmp 52) 22 22 rfl _ _ rfl rfl _ W2 R1.out ?_)
              | (at_builtin; refine wpList_append_run rfl (.tmp 54) (.tmp 57) 22 22 rfl _ _ rfl rfl _ W3 R2.out ?_)
              | (at_builtin; refine wpList_append_run rfl (.tmp 59) (.tmp 63) 22 22 rfl _ _ rfl rfl _ W4 R3.out ?_))
            go_roundw
            case rel => exact ⟨_, _, UO.out⟩
            case measure => exact HM4.out
      · have HE : Hid (O = (ordS S H).take u.toNat) := by
          have h := HF.out.all
          have h2 := HF.out.few
          rw [← HMO.out] at h2
          have e : u.toNat = O.length := by rw [← HMO.out]; omega
          show _ = _
          rw [← h, e]
          simp
        clear hm0
        go_wp2
        go_ret
        exact ⟨_, rfl, by rw [← HE.out]; exact HF.out.orow, HF.out.bel⟩
    · have g1 : ¬ (m : Int) > 0 := by omega
      have g2 : decide (0 < m) = false := decide_eq_false hm0
      have HE : Hid (O = (ordS S H).take u.toNat) := by
        have h := HF.out.all
        have h2 := HF.out.few
        have hT : T = [] := List.eq_nil_of_length_eq_zero (by rw [← HM.out]; omega)
        rw [hT, ordS_nil, List.append_nil] at h
        show _ = _
        rw [← h, List.take_of_length_le (by omega)]
      clear hm0
      go_wp2
      go_ret
      exact ⟨_, rfl, by rw [← HE.out]; exact HF.out.orow, HF.out.bel⟩
end Go.Proofs.YtnbgmobcfbgenaaGreatDoor
