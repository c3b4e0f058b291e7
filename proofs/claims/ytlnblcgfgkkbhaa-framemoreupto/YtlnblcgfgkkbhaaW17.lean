/-
  The walk of FrameMore. Its conditions: at most 1048576 bytes.
-/
import Derived.Test.YtlnblcgfgkkbhaaW15
namespace Go.Proofs.Ytlnblcgfgkkbhaa
open Go.RowKit Go.Sort

set_option maxHeartbeats 2000000 in
theorem more_walk (b : List Nat) (B : Option Addr) (n d : Nat) (w : World) (hb : Bytes w B b) (hn : b.length = n) (hd : n ≤ d) (hs : n ≤ 1048576) :
    Calls Try.prog 6 #[.slice B n d] w fun e w' => e = .returned (.bool true) ∧ Below w.heap.size w w' := by
  have HB := Lib.hid hb
  have HN := Lib.hid hn
  have HD := Lib.hid hd
  have HSM := Lib.hid hs
  clear hb hn hd hs
  go_enter Try.func6, Try.ntmps6
  go_wp2_with fail
  refine (awake_any w).mono ?_
  rintro e w1 ⟨rfl, b1⟩
  have B1 := Lib.hid b1
  clear b1
  go_wp2_with fail
  refine (open_all b B n d w1 (HB.out.below B1.out) HN.out HD.out).mono ?_
  rintro e w2 ⟨Ao, no, er, Lo, rfl, hlo, yo, bo, ao, ho⟩
  have B2 : Hid (Below w.heap.size w w2) := B1.out.trans (bo.mono B1.out.size)
  have YO := Lib.hid yo
  have LO := Lib.hid hlo
  have AO := Lib.hid ao
  have HO := Lib.hid ho
  clear bo yo hlo ho ao
  go_wp2_with fail
  refine (cut_any b B n d w2 (HB.out.below B2.out) HN.out HD.out HSM.out).mono ?_
  rintro e w3 ⟨ps, kc, Ac, mc, cc, ec, hcut, hpsl, hec, rfl, oc⟩
  have B3 : Hid (Below w.heap.size w w3) := B2.out.trans (oc.bel.mono B2.out.size)
  have B23 := Lib.hid oc.bel
  have CI := Lib.hid hcut
  have CL := Lib.hid hpsl
  have OC := Lib.hid oc
  rw [HN.out] at hec
  have CE := Lib.hid hec
  clear hcut hpsl oc hec
  rcases HO.out with ⟨hop, rfl⟩ | ⟨hop, rfl, rfl⟩
  · obtain ⟨rfl, hk⟩ := Fr.CutIs.unique HB.out.1 CI.out (Fr.cut_opn HB.out.1 hop)
    rw [HN.out] at hk
    obtain rfl := hk
    obtain rfl : mc = 1 := CL.out.symm
    have hec := CE.out
    rw [if_pos rfl] at hec
    subst hec
    obtain ⟨hgd, hbf⟩ := (Fr.opn_iff HB.out.1).mp hop
    have HBF := Lib.hid hbf
    have HS := Lib.hid (seal_good Lo Ao no no w3 (YO.out.below B23.out) LO.out (by have := hgd.1; have := LO.out; omega) (by have := hgd.2; have := LO.out; omega) AO.out)
    clear hop hgd hbf HO CE
    go_wp2_with fail
    refine HS.out.mono ?_
    rintro e w4 ⟨A4, n4, hn4, rfl, g4⟩
    obtain ⟨z1, y4, z2, z3, a4, m4, b4⟩ := g4.parts
    obtain ⟨rb, ro, ra, rc, rn, rfl, hrb, hrn, hcell, hy, hra⟩ := ((OC.out.keep b4).parts.1).at_ (k := 0) (by simp)
    have hrn2 : rn = no := by rw [hrn]; exact LO.out
    subst hrn2
    have B4 : Hid (Below w.heap.size w w4) := B3.out.trans (b4.mono B3.out.size)
    have hcl : ∀ dd os, (grow (redrawn w4 dd) os).cell? ⟨rb, ro, none⟩ = some (.slice ra rn rc) := fun dd os => by
      rw [(below_regrown w4 dd os).cell (p := ⟨rb, ro, none⟩) hrb]
      exact hcell
    obtain ⟨X, hX⟩ : ∃ X, textOf Lo = X := ⟨_, rfl⟩
    obtain ⟨Y, hY⟩ : ∃ Y, textOf b = Y := ⟨_, rfl⟩
    have cv1 : ∀ dd os, (convert 22 9 (.slice ra rn rc)).run Try.prog (grow (redrawn w4 dd) os) = .ok (.string X) (grow (redrawn w4 dd) os) := fun dd os => by
      rw [← hX, ← LO.out]
      exact conv_text _ ra Lo rc (hy.below (below_regrown w4 dd os))
    have cv2 : ∀ dd os, (convert 22 9 (.slice Ao rn rn)).run Try.prog (grow (redrawn w4 dd) os) = .ok (.string X) (grow (redrawn w4 dd) os) := fun dd os => by
      have h1 := conv_text _ Ao Lo rn (((YO.out.below B23.out).below b4).below (below_regrown w4 dd os))
      rw [LO.out, hX] at h1
      exact h1
    have cv3 : ∀ dd os, (convert 22 9 (.slice A4 n4 n4)).run Try.prog (grow (redrawn w4 dd) os) = .ok (.string Y) (grow (redrawn w4 dd) os) := fun dd os => by
      have h1 := conv_text _ A4 (Fr.frame Lo) n4 (y4.below (below_regrown w4 dd os))
      rw [← hn4, ← HBF.out, hY] at h1
      exact h1
    have cv4 : ∀ dd os, (convert 22 9 (.slice B kc d)).run Try.prog (grow (redrawn w4 dd) os) = .ok (.string Y) (grow (redrawn w4 dd) os) := fun dd os => by
      have h1 := conv_text _ B b d ((HB.out.below B4.out).below (below_regrown w4 dd os))
      rw [HN.out, hY] at h1
      exact h1
    clear hX hY z1 y4 z2 z3 a4 m4 b4 g4 hn4 hrn hcell hy hra
    go_wp2
    refine wp_region_quiet_below (by kernel_rfl) (by kernel_rfl) ?_
    repeat (go_big_quiet_step (fail))
    refine wpQuiet_nil ?_
    intro _ hw'
    obtain ⟨⟨dq, osq⟩, hw''⟩ := hw'
    subst hw''
    go_wp2
    go_ret
    exact ⟨rfl, B4.out.trans ((below_regrown w4 dq osq).mono B4.out.size)⟩
  · obtain rfl : no = 0 := LO.out.symm
    by_cases hk : kc = n
    · have hm1 : mc ≠ 1 := by
        intro h1
        have hl := CL.out
        rw [h1] at hl
        obtain ⟨q, hq⟩ := List.length_eq_one_iff.mp hl
        have h2 := CI.out
        rw [hq, hk, ← HN.out] at h2
        rw [Fr.opn_cut HB.out.1 h2] at hop
        cases hop
      have hec := CE.out
      rw [if_pos hk] at hec
      subst hec
      have dm : ((mc : Int) != 1) = true := by simp; omega
      clear hk hop HO CE hm1
      go_wp2
      go_ret
      exact ⟨rfl, B3.out⟩
    · have hec := CE.out
      rw [if_neg hk] at hec
      subst hec
      clear hk hop HO CE
      go_wp2
      go_ret
      exact ⟨rfl, B3.out⟩
end Go.Proofs.Ytlnblcgfgkkbhaa
