/-
  The walk of FrameRest. Its conditions: none.
-/
import Derived.Test.YtlnblcgfgkkbhaaW15
namespace Go.Proofs.Ytlnblcgfgkkbhaa
open Go.RowKit Go.Sort

theorem Fr.flat_take {ps : List (List Nat)} {j : Nat} (h : j < ps.length) : Fr.flat (ps.take (j + 1)) = Fr.flat (ps.take j) ++ Fr.frame ps[j] := by
  rw [List.take_succ_eq_append_getElem h, Fr.flat_snoc]
theorem Fr.flat_take_le (ps : List (List Nat)) (j : Nat) : (Fr.flat (ps.take j)).length ≤ (Fr.flat ps).length := by
  conv => rhs; rw [← List.take_append_drop j ps, Fr.flat_append, List.length_append]
  omega
theorem Fr.cut_none {l : List Nat} (h : Fr.first l = none) : Fr.CutIs l [] 0 := ⟨by simp, Nat.zero_le _, rfl, h⟩
def RestRel (w2 : World) (ps : List (List Nat)) (v i : Value) (wr : World) : Prop :=
  ∃ (j : Nat) (Av : Option Addr) (mv cv : Nat), j ≤ ps.length ∧ i = .int .i64 (j : Int) ∧ v = .slice Av mv cv ∧ mv = (Fr.flat (ps.take j)).length ∧ OwnB w2 wr (Fr.flat (ps.take j)) (.slice Av mv cv)
set_option maxHeartbeats 2000000 in
theorem rest_walk (b : List Nat) (B : Option Addr) (n d : Nat) (w : World) (hb : Bytes w B b) (hn : b.length = n) (hd : n ≤ d) :
    Calls Try.prog 7 #[.slice B n d] w fun e w' => e = .returned (.bool true) ∧ Below w.heap.size w w' := by
  have HB := Lib.hid hb
  have HN := Lib.hid hn
  have HD := Lib.hid hd
  clear hb hn hd
  by_cases hbig : 1000000 < (n : Int)
  · go_enter Try.func7, Try.ntmps7
    go_wp2_with fail
    refine (awake_any w).mono ?_
    rintro e w1 ⟨rfl, b1⟩
    have B1 := Lib.hid b1
    clear b1
    go_wp2
    go_ret
    exact ⟨rfl, B1.out⟩
  · have HSM : Hid (n ≤ 1000000) := by show _ ≤ _; omega
    go_enter Try.func7, Try.ntmps7
    go_wp2_with fail
    refine (awake_any w).mono ?_
    rintro e w1 ⟨rfl, b1⟩
    have B1 := Lib.hid b1
    clear b1
    go_wp2_with fail
    refine (cut_any b B n d w1 (HB.out.below B1.out) HN.out HD.out (by have := HSM.out; omega)).mono ?_
    rintro e w2 ⟨ps, kc, Ac, mc, cc, ec, hcut, hpsl, hec, rfl, oc⟩
    have B2 : Hid (Below w.heap.size w w2) := B1.out.trans (oc.bel.mono B1.out.size)
    have CI := Lib.hid hcut
    have CL := Lib.hid hpsl
    have OC := Lib.hid oc
    rw [HN.out] at hec
    have hkn : (kc : Int) ≤ (n : Int) := by have := hcut.le; rw [HN.out] at this; omega
    have hmc : (mc : Int) ≤ 1000000 := by have := hcut.few; have := HSM.out; rw [HN.out] at *; omega
    have dk0 : decide ((kc : Int) < 0) = false := by simp
    have dk1 : decide ((n : Int) < (kc : Int)) = false := by simp; omega
    have dk2 : decide (n < kc) = false := by simp; omega
    clear hcut hpsl oc
    obtain ⟨ee, hee, hdd⟩ : ∃ ee : Bool, ((ec : Int) == 0) = ee ∧ ((kc : Int) == (n : Int)) = ee := by
      by_cases hk : kc = n
      · rw [if_pos hk] at hec
        exact ⟨true, by rw [hec]; rfl, by simp [hk]⟩
      · rw [if_neg hk] at hec
        exact ⟨false, by rw [hec]; rfl, by simp; omega⟩
    have HE := Lib.hid hec
    clear hec
    cases ee
    all_goals
      go_wp2
      go_loopw [6, 43] (RestRel w2 ps) (fun _ i _ => mc - (intOf i).toNat)
      case atStart => exact ⟨0, none, 0, 0, Nat.zero_le _, rfl, rfl, rfl, OwnB.nil w2⟩
      case round =>
        obtain ⟨j, Av, mv, cv, hj, rfl, rfl, hmv, hown⟩ := hrel
        rw [CL.out] at hj
        have HMV := Lib.hid hmv
        have HO := Lib.hid hown
        clear hmv hown
        by_cases hlt : j < mc
        · have hjl : j < ps.length := by have := CL.out; omega
          obtain ⟨rb, ro, ra, rc, rn, rfl, hrb, hrn, hcell, hy, hra⟩ := ((OC.out.keep HO.out.bel).parts.1).at_ hjl
          have hgd := CI.out.good ps[j] (List.getElem_mem hjl)
          have HS := Lib.hid (seal_good ps[j] ra rn rc wr hy hrn.symm (by have := hgd.1; omega) (by have := hgd.2; omega) hra)
          have HFT := Lib.hid (Fr.flat_take hjl)
          have HFL : Hid ((Fr.flat (ps.take j)).length + (Fr.frame ps[j]).length ≤ 1000000) := by
            have h1 := Fr.flat_take_le ps (j + 1)
            rw [Fr.flat_take hjl, List.length_append, CI.out.len] at h1
            have := HSM.out
            show _ ≤ _
            omega
          clear hrn hy hra hgd
          generalize ps[j] = q at HS HFT HFL
          have ij : (j : Int) < (mc : Int) := by omega
          go_wp2_with fail
          refine HS.out.mono ?_
          rintro e w3 ⟨A3, n3, hn3, rfl, g3⟩
          obtain ⟨z1, y3, z2, z3, a3, m3, b3⟩ := g3.parts
          obtain ⟨v4, w4, hr4, o4, b4⟩ := (HO.out.keep b3).append y3 a3 (by have := HFL.out; omega) 22
          obtain ⟨A4, c4, rfl⟩ := o4.form
          rw [← HFT.out] at hr4 o4
          obtain ⟨m4, hm4⟩ : ∃ m4, m4 = (Fr.flat (ps.take (j + 1))).length := ⟨_, rfl⟩
          rw [← hm4] at hr4 o4
          rw [← hn3] at hr4
          have HM4 := Lib.hid hm4
          have HR4 := Lib.hid hr4
          have O4 := Lib.hid o4
          clear z1 y3 z2 z3 a3 m3 b3 hr4 o4 b4 hm4 g3 hn3
          go_wp2_with (at_builtin; refine wpList_append_run rfl _ _ 22 22 rfl _ _ rfl rfl _ w4 HR4.out ?_)
          go_roundw
          case rel => exact ⟨j + 1, A4, m4, c4, by rw [CL.out]; omega, by go_num, rfl, HM4.out, O4.out⟩
          case measure => simp [intOf]; omega
        · have e : ps.take j = ps := List.take_of_length_le (by rw [CL.out]; omega)
          have hown := HO.out
          have hmv := HMV.out
          rw [e] at hown hmv
          have hfl : (Fr.flat ps).length = kc := CI.out.len
          obtain ⟨X, hX⟩ : ∃ X, textOf (Fr.flat ps) = X := ⟨_, rfl⟩
          have hyv := (hown.bytes (by rw [hfl]; have := CI.out.le; rw [HN.out] at this; have := HSM.out; unfold maxLen; omega)).1
          have B3 : Hid (Below w.heap.size w wr) := B2.out.trans (hown.bel.mono B2.out.size)
          have K1 : Hid (∀ W, Below wr.heap.size wr W → (convert 22 9 (.slice Av mv cv)).run Try.prog W = .ok (.string X) W) := fun W hW => by
            rw [← hX, hmv]
            exact conv_text W Av _ cv (hyv.below hW)
          have K2 : Hid (∀ W, Below w.heap.size w W → (convert 22 9 (.slice B kc d)).run Try.prog W = .ok (.string X) W) := fun W hW => by
            have h1 := conv_text W B (b.take kc) d ((HB.out.below hW).take kc)
            rw [CI.out.eq, hfl, hX] at h1
            exact h1
          have HNK : Hid ((b.drop kc).length = n - kc) := by rw [List.length_drop, HN.out]; exact rfl
          have KC : Hid (∀ A' c', Bytes wr A' (b.drop kc) → n - kc ≤ c' → Calls Try.prog 14 #[.slice A' (n - kc) c'] wr (CutPost wr (b.drop kc))) := fun A' c' hA' hc' =>
            cut_any (b.drop kc) A' (n - kc) c' wr hA' HNK.out hc' (by have := HSM.out; omega)
          have HDR := Lib.hid ((HB.out.below B3.out).drop kc d (by rw [HN.out]; exact HD.out))
          have HF0 := Lib.hid (Fr.cut_none CI.out.stop)
          have hkd : kc ≤ d := by have := HD.out; omega
          have hkn2 : kc ≤ n := by omega
          clear e hown hmv hfl hX hyv
          rcases Decidable.em (kc = d) with rfl | hck
          all_goals
            have hdr := HDR.out
            first | rw [if_pos rfl] at hdr | (have hck2 : ¬ d = kc := fun h => hck h.symm; rw [if_neg hck2] at hdr)
            have HDR1 := Lib.hid hdr
            clear hdr
            go_wp2_with fail
            refine (KC.out _ _ HDR1.out (by have := HD.out; omega)).mono ?_
            rintro e w4 ⟨qs, k2, A2, m2, c2, e2, hcut2, hl2, he2, rfl, o2⟩
            obtain ⟨rfl, rfl⟩ := Fr.CutIs.unique (fun x hx => HB.out.1 x (List.mem_of_mem_drop hx)) hcut2 HF0.out
            obtain rfl : m2 = 0 := hl2.symm
            rw [HNK.out] at he2
            have hee2 : (e2 == 0) = ((kc : Int) == (n : Int)) := by
              by_cases hz : kc = n
              · rw [he2, if_pos (by omega)]; simp [hz]
              · rw [he2, if_neg (by omega)]; simp; omega
            rw [hdd] at hee2
            have B4 : Hid (Below w.heap.size w w4) := B3.out.trans (o2.bel.mono B3.out.size)
            have cv1 : ∀ dd os, (convert 22 9 (.slice Av mv cv)).run Try.prog (grow (redrawn w4 dd) os) = .ok (.string X) (grow (redrawn w4 dd) os) :=
              fun dd os => K1.out _ (o2.bel.trans ((below_regrown w4 dd os).mono o2.bel.size))
            have cv2 := fun dd os => K2.out (grow (redrawn w4 dd) os) (B4.out.trans ((below_regrown w4 dd os).mono B4.out.size))
            clear hcut2 hl2 he2 o2
            go_wp2
            refine wp_region_quiet_below (by kernel_rfl) (by kernel_rfl) ?_
            repeat (go_big_quiet_step (fail))
            refine wpQuiet_nil ?_
            intro _ hw'
            obtain ⟨⟨dq, osq⟩, hw''⟩ := hw'
            subst hw''
            go_wp2
            go_ret
            exact ⟨rfl, B4.out.trans ((below_regrown w4 dq osq).mono B4.out.size)⟩
end Go.Proofs.Ytlnblcgfgkkbhaa
