/-
  The contracts of the document's At and On. Their conditions: the slice reads as epochs.
-/
import Derived.Test.YtkomemiebgnknaaW16
import Derived.Test.YtkomemiebgnknaaW11
import Derived.Deep.RegionWith
namespace Go.Proofs.Ytkomemiebgnknaa
open Go.RowKit Go.Sort

theorem refis_at (l : List Ep) (A : Option Addr) (n cap : Nat) (e i : Int) (w : World) (r : Bool) (h : Eps w A l) (hn : l.length = n) (hr : Ps.isB l e i = r) : Calls Try.prog 28 #[.slice A n cap, .agg #[.int .i64 e, .int .i64 i]] w fun e' w' => e' = .returned (.bool r) ∧ Below w.heap.size w w' := by
  subst hr
  exact refis_any l A n cap e i w h hn
set_option maxHeartbeats 2000000 in
theorem refat_any (l : List Ep) (A : Option Addr) (n cap : Nat) (i : Int) (w : World) (h : Eps w A l) (hn : l.length = n) : Calls Try.prog 19 #[.slice A n cap, .int .i64 i] w fun e' w' => e' = .returned (.agg #[.int .i64 (Ps.atE l i), .int .i64 (Ps.atI l i)]) ∧ Below w.heap.size w w' := by
  have HE := Lib.hid (h.alloc (.cells #[.int .i64 0, .int .i64 0] 24))
  have HX := Lib.hid (Own2.new w 0 0 24)
  have HN := Lib.hid hn
  obtain ⟨r, hr⟩ : ∃ r, Ps.rightB l = r := ⟨_, rfl⟩
  have HC := Lib.hid (refright_at l A n cap _ r HE.out hn hr)
  have HR := Lib.hid hr
  clear h hn hr
  by_cases ho : r = false ∨ i < 1 ∨ 512 < i
  · have hz := Ps.at_out (l := l) (i := i) (by
      intro hh
      have := Ps.rightB_iff.mpr hh.1
      rw [HR.out] at this
      rcases ho with rfl | ho
      · cases this
      · omega)
    rw [hz.1, hz.2]
    clear hz
    rcases (show r = false ∨ (r = true ∧ i < 1) ∨ (r = true ∧ ¬ i < 1 ∧ 512 < i) by cases r; simp; simp at ho ⊢; omega) with rfl | ⟨rfl, h1⟩ | ⟨rfl, h1, h2⟩
    all_goals
      clear ho
      go_enter Try.func19, Try.ntmps19
      go_wp2_with fail
      refine HC.out.mono ?_
      rintro e' w2 ⟨rfl, b2⟩
      obtain ⟨x0, x1, x2, x3, x4⟩ := (HX.out.below b2).cells
      have B2 := Lib.hid (bel_new b2)
      clear b2
      go_wp2
      exact bodyPost_ret (v := .agg #[.int .i64 0, .int .i64 0]) (by simp [results, Try.results19, go_sem, x1, x2]) rfl ⟨rfl, bel_set B2.out (Nat.le_refl _)⟩
  · obtain ⟨rfl, hi1, hi2⟩ : r = true ∧ 1 ≤ i ∧ i ≤ 512 := by
      cases r
      · simp at ho
      · simp at ho
        exact ⟨rfl, by omega, by omega⟩
    have hrr := Ps.rightB_iff.mp HR.out
    have hz := Ps.at_in hrr hi1 hi2
    rw [hz.1, hz.2, HN.out]
    obtain ⟨k, hk⟩ : ∃ k : Nat, i = (k : Int) := ⟨i.toNat, by omega⟩
    subst hk
    obtain ⟨t, ht⟩ : ∃ t : Int, ((Ps.topE l (k : Int) n : Nat) : Int) = t := ⟨_, rfl⟩
    have HT : Hid (brV l n k = .int .i64 t) := by show _ = _; unfold brV; rw [ht]
    rw [ht]
    have g1 : ¬ (k : Int) < 1 := by omega
    have g2 : ¬ 512 < (k : Int) := by omega
    have g3 : k < 513 := by omega
    clear ho hz hrr ht
    go_enter Try.func19, Try.ntmps19
    go_wp2_with fail
    refine HC.out.mono ?_
    rintro e' w2 ⟨rfl, b2⟩
    have X2 := Lib.hid (HX.out.below b2)
    have B2 := Lib.hid (bel_new b2)
    have E2 := Lib.hid (HE.out.below b2)
    clear b2
    go_wp2_with fail
    refine (branch_any l A n cap w2 E2.out HN.out HR.out).mono ?_
    rintro e' w3 ⟨hb, rfl, hh, hrow, b3⟩
    have r1 := hrow.cell g3
    rw [HT.out] at r1
    obtain ⟨x0, x1, x2, x3, x4⟩ := (X2.out.below b3).cells
    have B3 := Lib.hid (B2.out.trans (b3.mono B2.out.size))
    have hne : ¬ hb = w.heap.size := by have := X2.out.cells.1; omega
    clear b3 hrow hh
    go_wp2
    exact bodyPost_ret (v := .agg #[.int .i64 t, .int .i64 (k : Int)]) (by simp [results, Try.results19, go_sem, x1, x2]) rfl ⟨rfl, bel_set B3.out (Nat.le_refl _)⟩

set_option maxHeartbeats 4000000 in
theorem refon_any (l : List Ep) (A : Option Addr) (n cap : Nat) (e i : Int) (w : World) (h : Eps w A l) (hn : l.length = n) : Calls Try.prog 17 #[.slice A n cap, .agg #[.int .i64 e, .int .i64 i]] w fun e' w' => e' = .returned (.bool (Ps.onB l e i)) ∧ Below w.heap.size w w' := by
  have HE := Lib.hid (h.alloc (.cells #[.int .i64 e, .int .i64 i] 24))
  have HX := Lib.hid (Box2.new w e i 24)
  have HN := Lib.hid hn
  obtain ⟨r, hr⟩ : ∃ r, Ps.rightB l = r := ⟨_, rfl⟩
  obtain ⟨s, hs⟩ : ∃ s, Ps.isB l e i = s := ⟨_, rfl⟩
  have HR := Lib.hid hr
  have HS := Lib.hid hs
  have hp : Ps.posB l e i = (r && s) := by unfold Ps.posB; rw [hr, hs]
  have HP := Lib.hid hp
  clear h hn hr hs hp
  cases r with
  | false =>
    have HO : Hid (Ps.onB l e i = false) := Ps.on_off (by rw [HP.out]; rfl)
    go_enter Try.func17, Try.ntmps17
    go_wp2_with fail
    refine (refright_at l A n cap _ _ HE.out HN.out HR.out).mono ?_
    rintro e' w2 ⟨rfl, b2⟩
    have B2 := Lib.hid (bel_new b2)
    clear b2
    go_wp2
    go_ret
    exact ⟨ret_bool HO.out.symm, B2.out⟩
  | true =>
    cases s with
    | false =>
      have HO : Hid (Ps.onB l e i = false) := Ps.on_off (by rw [HP.out]; rfl)
      go_enter Try.func17, Try.ntmps17
      go_wp2_with fail
      refine (refright_at l A n cap _ _ HE.out HN.out HR.out).mono ?_
      rintro e' w2 ⟨rfl, b2⟩
      have E2 := Lib.hid (HE.out.below b2)
      obtain ⟨x0, x1, x2⟩ := HX.out.below b2
      have B2 := Lib.hid (bel_new b2)
      clear b2
      go_wp2_with fail
      refine (refis_at l A n cap e i w2 _ E2.out HN.out HS.out).mono ?_
      rintro e' w3 ⟨rfl, b3⟩
      have B3 := Lib.hid (B2.out.trans (b3.mono B2.out.size))
      clear b3
      go_wp2
      go_ret
      exact ⟨ret_bool HO.out.symm, B3.out⟩
    | true =>
      have hpos : Ps.posB l e i = true := by rw [HP.out]; rfl
      obtain ⟨hrr, hii⟩ := Ps.posB_iff.mp hpos
      obtain ⟨k, hk, hkl, h0, h512, hz1, hz2, hcut⟩ := hii.nat hrr
      by_cases hi0 : i = 0
      · have HO : Hid (Ps.onB l e i = true) := by
          have h1 : e = 0 := by rw [hk, hz1 hi0]; rfl
          rw [h1, hi0]
          exact Ps.onB_zero hrr
        clear hpos hrr hii hk hkl h0 h512 hz1 hz2 hcut
        have hie : (i == 0) = true := by simp [hi0]
        have HIE := Lib.hid hie
        subst hi0
        clear hie
        go_enter Try.func17, Try.ntmps17
        go_wp2_with fail
        refine (refright_at l A n cap _ _ HE.out HN.out HR.out).mono ?_
        rintro e' w2 ⟨rfl, b2⟩
        have E2 := Lib.hid (HE.out.below b2)
        have X2 := Lib.hid (HX.out.below b2)
        obtain ⟨x0, x1, x2⟩ := X2.out
        have B2 := Lib.hid (bel_new b2)
        clear b2
        go_wp2_with fail
        refine (refis_at l A n cap e 0 w2 _ E2.out HN.out HS.out).mono ?_
        rintro e' w3 ⟨rfl, b3⟩
        have X3 := Lib.hid (X2.out.below b3)
        have B3 := Lib.hid (B2.out.trans (b3.mono B2.out.size))
        clear b3 x0 x1 x2
        go_wp2
        obtain ⟨g0, g1⟩ := X3.out.grow
        refine wp_region_quiet_below (by kernel_rfl) (by kernel_rfl) ?_
        repeat (go_big_quiet_step (fail))
        refine wpQuiet_nil ?_
        intro w4 hw'
        obtain ⟨⟨dq, osq⟩, hw''⟩ := hw'
        have b4 : Below w3.heap.size w3 w4 := by rw [hw'']; exact below_regrown w3 dq osq
        have B4 := Lib.hid (B3.out.trans (b4.mono B3.out.size))
        clear hw'' b4 g0 g1
        go_wp2
        go_ret
        exact ⟨ret_bool HO.out.symm, B4.out⟩
      · obtain ⟨m, hm⟩ : ∃ m : Nat, i = (m : Int) := ⟨i.toNat, by omega⟩
        have hk1 : 1 ≤ k := by omega
        obtain ⟨t, ht⟩ : ∃ t : Int, ((Ps.topE l i n : Nat) : Int) = t := ⟨_, rfl⟩
        have HO : Hid (Ps.onB l e i = decide (t = e)) := by
          show _ = _
          unfold Ps.onB
          rw [hpos, Bool.true_and, ← ht, hk, Int.toNat_natCast, Bool.eq_iff_iff, decide_eq_true_iff, decide_eq_true_iff, ← Ps.top_own hkl (hcut hk1), HN.out]
          omega
        have HT : Hid (brV l n m = .int .i64 t) := by show _ = _; unfold brV; rw [← hm, ht]
        subst hm
        have hi0' : ((m : Int) == 0) = false := by simp; omega
        have g3 : m < 513 := by omega
        have g4 : (m : Int) < 513 := by omega
        have HBR : Hid (∀ W, Eps W A l → Calls Try.prog 29 #[.slice A n cap] W (BrPost l n W)) := fun W hW => branch_any l A n cap W hW HN.out HR.out
        clear hpos hrr hii hk hkl h0 h512 hz1 hz2 hcut hk1 ht hi0
        go_enter Try.func17, Try.ntmps17
        go_wp2_with fail
        refine (refright_at l A n cap _ _ HE.out HN.out HR.out).mono ?_
        rintro e' w2 ⟨rfl, b2⟩
        have E2 := Lib.hid (HE.out.below b2)
        have X2 := Lib.hid (HX.out.below b2)
        obtain ⟨x0, x1, x2⟩ := X2.out
        have B2 := Lib.hid (bel_new b2)
        clear b2
        go_wp2_with fail
        refine (refis_at l A n cap e (m : Int) w2 _ E2.out HN.out HS.out).mono ?_
        rintro e' w3 ⟨rfl, b3⟩
        have E3 := Lib.hid (E2.out.below b3)
        have X3 := Lib.hid (X2.out.below b3)
        have B3 := Lib.hid (B2.out.trans (b3.mono B2.out.size))
        clear b3 x0 x1 x2
        obtain ⟨x0, x1, x2⟩ := X3.out
        go_wp2
        go_region_with ((go_at_call 29; refine (HBR.out _ (E3.out.below (Below.refl _ _).drew)).mono ?_; rintro e' w4 ⟨hb, rfl, hh, hrow, b4⟩; have r1 := hrow.cell g3; rw [HT.out] at r1; have X4 := Lib.hid (X3.out.below ((Below.refl _ w3).drew.trans b4)); obtain ⟨y0, y1, y2⟩ := X4.out; have B4 := Lib.hid (B3.out.trans (((Below.refl _ w3).drew.trans b4).mono B3.out.size)); clear b4 hrow hh))
        all_goals
          go_wp2
          go_ret
          exact ⟨ret_bool (by rw [HO.out]; rfl), B4.out⟩
end Go.Proofs.Ytkomemiebgnknaa
