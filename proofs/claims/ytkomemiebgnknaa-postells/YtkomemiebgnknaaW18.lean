/-
  The contracts of the document's Cut and Covers. Their conditions: the slice reads as epochs; of Cut also that its length is at most its capacity.
-/
import Derived.Test.YtkomemiebgnknaaW17
namespace Go.Proofs.Ytkomemiebgnknaa
open Go.RowKit Go.Sort

theorem cutter_stay {l : List Ep} {e : Nat} {i : Int} {j n : Nat} (h : Ps.cutter l e i j ≠ 0) (hj : j ≤ n) : Ps.cutter l e i n = Ps.cutter l e i j := by
  induction n with
  | zero =>
    obtain rfl : j = 0 := by omega
    rfl
  | succ n ih =>
    rcases Nat.lt_or_ge n j with hn | hn
    · obtain rfl : j = n + 1 := by omega
      rfl
    · have h1 := ih hn
      have h2 := Ps.cutter_pos h
      rw [Ps.cutter_succ _ _ _ _ (by omega), if_pos (by rw [h1]; exact h), h1]
theorem cutter_here {l : List Ep} {e : Nat} {i : Int} {j : Nat} (h0 : Ps.cutter l e i (j - 1) = 0) (h : Ps.cutter l e i j ≠ 0) : Ps.cutter l e i j = j := by
  cases j with
  | zero => exact absurd rfl h
  | succ j =>
    obtain ⟨h1, h2, _⟩ := Ps.cutter_pos h
    rw [Nat.add_sub_cancel] at h0
    rw [Ps.cutter_succ _ _ _ _ (by omega), if_neg (by omega)] at h ⊢
    by_cases hc : Ps.cutAt l j < i
    · rw [if_pos hc]
    · rw [if_neg hc] at h
      exact absurd rfl h
theorem refon_at (l : List Ep) (A : Option Addr) (n cap : Nat) (e i : Int) (w : World) (r : Bool) (h : Eps w A l) (hn : l.length = n) (hr : Ps.onB l e i = r) : Calls Try.prog 17 #[.slice A n cap, .agg #[.int .i64 e, .int .i64 i]] w fun e' w' => e' = .returned (.bool r) ∧ Below w.heap.size w w' := by
  subst hr
  exact refon_any l A n cap e i w h hn
set_option maxHeartbeats 1000000 in
theorem refcovers_any (l : List Ep) (A : Option Addr) (n cap : Nat) (e i fe fi : Int) (w : World) (h : Eps w A l) (hn : l.length = n) : Calls Try.prog 23 #[.slice A n cap, .agg #[.int .i64 e, .int .i64 i], .agg #[.int .i64 fe, .int .i64 fi]] w fun e' w' => e' = .returned (.bool (Ps.covB l e i fe fi)) ∧ Below w.heap.size w w' := by
  have HE := Lib.hid ((h.alloc (.cells #[.int .i64 e, .int .i64 i] 24)).alloc (.cells #[.int .i64 fe, .int .i64 fi] 24))
  have HC := Lib.hid (refon_any l A n cap e i _ HE.out hn)
  have HX := Lib.hid ((Box2.new w e i 24).below ((Below.refl _ _).alloc (Nat.le_refl _) (.cells #[.int .i64 fe, .int .i64 fi] 24)))
  have hY := Box2.new (w.alloc (.cells #[.int .i64 e, .int .i64 i] 24)) fe fi 24
  have hsz : (w.alloc (.cells #[.int .i64 e, .int .i64 i] 24)).heap.size = w.heap.size + 1 := by simp
  rw [hsz] at hY
  have HY := Lib.hid hY
  have HN := Lib.hid hn
  obtain ⟨r, hr⟩ : ∃ r, Ps.onB l e i = r := ⟨_, rfl⟩
  obtain ⟨s, hs⟩ : ∃ s, Ps.onB l fe fi = s := ⟨_, rfl⟩
  have HV : Ps.covB l e i fe fi = (r && s && decide (fi ≤ i)) := by unfold Ps.covB; rw [hr, hs]
  rw [HV]
  rw [hr] at HC
  have HS := Lib.hid hs
  clear h hn hr hs HV hY hsz
  cases r with
  | false =>
    go_enter Try.func23, Try.ntmps23
    go_wp2_with fail
    refine HC.out.mono ?_
    rintro e' w2 ⟨rfl, b2⟩
    have B2 := Lib.hid (bel_new2 b2)
    clear b2
    go_wp2
    go_ret
    exact ⟨rfl, B2.out⟩
  | true =>
    go_enter Try.func23, Try.ntmps23
    go_wp2_with fail
    refine HC.out.mono ?_
    rintro e' w2 ⟨rfl, b2⟩
    obtain ⟨x0, x1, x2⟩ := HX.out.below b2
    obtain ⟨y0, y1, y2⟩ := HY.out.below b2
    have C2 := Lib.hid (refon_any l A n cap fe fi w2 (HE.out.below b2) HN.out)
    rw [HS.out] at C2
    have X2 := Lib.hid (HX.out.below b2)
    have Y2 := Lib.hid (HY.out.below b2)
    have B2 := Lib.hid (bel_new2 b2)
    clear b2
    cases s
    all_goals
      go_wp2_with fail
      refine C2.out.mono ?_
      rintro e' w3 ⟨rfl, b3⟩
      clear x0 x1 x2 y0 y1 y2
      obtain ⟨x0, x1, x2⟩ := X2.out.below b3
      obtain ⟨y0, y1, y2⟩ := Y2.out.below b3
      have B3 := Lib.hid (B2.out.trans (b3.mono B2.out.size))
      clear b3
      go_wp2
      go_ret
      exact ⟨rfl, B3.out⟩

set_option maxHeartbeats 2000000 in
theorem refcut_out (l : List Ep) (A : Option Addr) (n cap : Nat) (e i : Int) (w : World) (h : Eps w A l) (hn : l.length = n) (hp : Ps.posB l e i = false) : Calls Try.prog 13 #[.slice A n cap, .agg #[.int .i64 e, .int .i64 i]] w fun e' w' => e' = .returned (.tuple #[.int .i64 (Ps.cutN l e i : Nat), .bool (Ps.cutF l e i)]) ∧ Below w.heap.size w w' := by
  have HE := Lib.hid (h.alloc (.cells #[.int .i64 e, .int .i64 i] 24))
  have HX := Lib.hid (Box2.new w e i 24)
  have HN := Lib.hid hn
  rw [Ps.cutN_off hp, cutF_zero (Ps.cutN_off hp)]
  obtain ⟨r, hr⟩ : ∃ r, Ps.rightB l = r := ⟨_, rfl⟩
  have hs : r = true → Ps.isB l e i = false := fun h1 => by
    unfold Ps.posB at hp
    rw [hr, h1] at hp
    simpa using hp
  have HR := Lib.hid hr
  have HS := Lib.hid hs
  clear h hn hr hs hp
  cases r with
  | false =>
    go_enter Try.func13, Try.ntmps13
    go_wp2_with fail
    refine (refright_at l A n cap _ _ HE.out HN.out HR.out).mono ?_
    rintro e' w2 ⟨rfl, b2⟩
    have B2 := Lib.hid (bel_new b2)
    clear b2
    go_wp2
    go_ret2
    exact ⟨rfl, B2.out⟩
  | true =>
    have hs := HS.out rfl
    have HS1 := Lib.hid hs
    clear hs
    go_enter Try.func13, Try.ntmps13
    go_wp2_with fail
    refine (refright_at l A n cap _ _ HE.out HN.out HR.out).mono ?_
    rintro e' w2 ⟨rfl, b2⟩
    have E2 := Lib.hid (HE.out.below b2)
    obtain ⟨x0, x1, x2⟩ := HX.out.below b2
    have B2 := Lib.hid (bel_new b2)
    clear b2
    go_wp2_with fail
    refine (refis_at l A n cap e i w2 _ E2.out HN.out HS1.out).mono ?_
    rintro e' w3 ⟨rfl, b3⟩
    have B3 := Lib.hid (B2.out.trans (b3.mono B2.out.size))
    clear b3
    go_wp2
    go_ret2
    exact ⟨rfl, B3.out⟩

def CtRel (l : List Ep) (A : Option Addr) (k n : Nat) (w : World) (h : Nat) (i : Int) (m : Value) (wr : World) : Prop :=
  ∃ j : Nat, k ≤ j ∧ j ≤ n + 1 ∧ m = .int .i64 (j : Int) ∧ Ps.cutter l k i (j - 1) = 0 ∧ Box2 wr h (k : Int) i ∧ Eps wr A l ∧ Below w.heap.size w wr
set_option maxRecDepth 100000 in
set_option maxHeartbeats 8000000 in
theorem refcut_in (l : List Ep) (A : Option Addr) (n cap k m : Nat) (w : World) (h : Eps w A l) (hn : l.length = n) (hc : n ≤ cap) (hr : Ps.rightB l = true) (hs : Ps.isB l (k : Int) (m : Int) = true) (hk : 1 ≤ k) (hm : 1 ≤ m) :
    Calls Try.prog 13 #[.slice A n cap, .agg #[.int .i64 (k : Int), .int .i64 (m : Int)]] w fun e' w' => e' = .returned (.tuple #[.int .i64 (Ps.cutN l (k : Int) (m : Int) : Nat), .bool (Ps.cutF l (k : Int) (m : Int))]) ∧ Below w.heap.size w w' := by
  have HE := Lib.hid (h.alloc (.cells #[.int .i64 (k : Int), .int .i64 (m : Int)] 24))
  have HX := Lib.hid (Box2.new w (k : Int) (m : Int) 24)
  have HN := Lib.hid hn
  have HR := Lib.hid hr
  have HS := Lib.hid hs
  have hrr := Ps.rightB_iff.mp hr
  have HRR := Lib.hid hrr
  have hii := Ps.isB_iff.mp hs
  obtain ⟨k', hk', hkl, h0, h512, hz1, hz2, hcut⟩ := hii.nat hrr
  obtain rfl : k = k' := by omega
  have hn64 : (n : Int) ≤ 64 := by have := hrr.few; omega
  have hcn : Ps.cutN l (k : Int) (m : Int) = Ps.cutter l k (m : Int) n := by
    unfold Ps.cutN
    rw [show Ps.posB l (k : Int) (m : Int) = true from Ps.posB_iff.mpr ⟨hrr, hii⟩, Int.toNat_natCast, hn]
    rfl
  obtain ⟨c, ec⟩ : ∃ c, Ps.cutN l (k : Int) (m : Int) = c := ⟨_, rfl⟩
  obtain ⟨f, ef⟩ : ∃ f, Ps.cutF l (k : Int) (m : Int) = f := ⟨_, rfl⟩
  rw [ec, ef]
  have HCN := Lib.hid (ec.symm.trans hcn)
  have HF := Lib.hid ef
  have HC := Lib.hid ec
  have HOWN := Lib.hid (hcut hk)
  have hkn : k ≤ n := by omega
  have hm512 : m < 513 := by omega
  have hmp : 0 < (m : Int) := by omega
  have hm513 : (m : Int) < 513 := by omega
  clear h hn hr hs hrr hii hk' hkl h0 h512 hz1 hz2 hcut hcn ec ef
  go_enter Try.func13, Try.ntmps13
  go_wp2_with fail
  refine (refright_at l A n cap _ _ HE.out HN.out HR.out).mono ?_
  rintro e' w2 ⟨rfl, b2⟩
  have E2 := Lib.hid (HE.out.below b2)
  have X2 := Lib.hid (HX.out.below b2)
  obtain ⟨x0, x1, x2⟩ := X2.out
  have B2 := Lib.hid (bel_new b2)
  clear b2
  go_wp2_with fail
  refine (refis_at l A n cap (k : Int) (m : Int) w2 _ E2.out HN.out HS.out).mono ?_
  rintro e' w3 ⟨rfl, b3⟩
  have E3 := Lib.hid (E2.out.below b3)
  have X3 := Lib.hid (X2.out.below b3)
  have B3 := Lib.hid (B2.out.trans (b3.mono B2.out.size))
  clear b3 x0 x1 x2
  obtain ⟨x0, x1, x2⟩ := X3.out
  go_wp2
  clear x0 x1 x2
  go_loopw [6] (CtRel l A k n w w.heap.size (m : Int)) (fun v _ => n + 1 - (intOf v).toNat)
  case atStart => exact ⟨k, Nat.le_refl _, by omega, rfl, Ps.cutter_base _ _ _ _ (by omega), X3.out, E3.out, B3.out⟩
  case round =>
    obtain ⟨j, hj1, hj2, rfl, hcz, hbox, hE, hB⟩ := hrel
    have HCZ := Lib.hid hcz
    have HXr := Lib.hid hbox
    have HEr := Lib.hid hE
    have HBr := Lib.hid hB
    clear hcz hbox hE hB
    obtain ⟨x0, x1, x2⟩ := HXr.out
    by_cases hjn : j ≤ n
    · have hjni : (j : Int) ≤ (n : Int) := by omega
      have hjc : j ≤ cap := by omega
      obtain ⟨t, ht⟩ : ∃ t : Int, ((Ps.topE l (m : Int) j : Nat) : Int) = t := ⟨_, rfl⟩
      have HT : Hid (brV (l.take j) j m = .int .i64 t) := by show _ = _; unfold brV; rw [Ps.topE_take (Nat.le_refl _), ht]
      have HIF : Hid (t = (k : Int) ↔ Ps.cutter l k (m : Int) j = 0) := by
        rw [← Ps.top_own hj1 HOWN.out, ← ht]
        show _ ↔ _
        omega
      have HBR : Hid (∀ W, Eps W A l → Calls Try.prog 29 #[.slice A j cap] W (BrPost (l.take j) j W)) := fun W hW => branch_any (l.take j) A j cap W (hW.take j) (by rw [List.length_take, HN.out]; omega) (Ps.rightB_iff.mpr (HRR.out.take (by omega)))
      clear ht
      by_cases hz : Ps.cutter l k (m : Int) j = 0
      · obtain rfl : t = (k : Int) := HIF.out.mpr hz
        have HZ := Lib.hid hz
        clear hz
        go_wp2
        go_region_with ((go_at_call 29; refine (HBR.out _ (HEr.out.below (Below.refl _ _).drew)).mono ?_; rintro e' w4 ⟨hb, rfl, hh, hrow, b4⟩; have r1 := hrow.cell hm512; rw [HT.out] at r1; have X4 := Lib.hid (HXr.out.below ((Below.refl _ wr).drew.trans b4)); have E4 := Lib.hid (HEr.out.below ((Below.refl _ wr).drew.trans b4)); obtain ⟨y0, y1, y2⟩ := X4.out; have B4 := Lib.hid (HBr.out.trans (((Below.refl _ wr).drew.trans b4).mono HBr.out.size)); clear b4 hrow hh))
        all_goals
          go_wp2
          go_roundw
          case rel => exact ⟨j + 1, by omega, by omega, by go_num, HZ.out, X4.out, E4.out, B4.out⟩
          case measure => simp [intOf]; omega
      · have hne : ¬ t = (k : Int) := fun h1 => hz (HIF.out.mp h1)
        have hcj := cutter_here HCZ.out hz
        have hcc : c = j := by rw [HCN.out, cutter_stay hz hjn, hcj]
        obtain ⟨q, hq⟩ : ∃ q, j = q + 1 := ⟨j - 1, by omega⟩
        have hql : q < l.length := by rw [HN.out]; omega
        have hqn : q < n := by omega
        have hff : f = l[q].F := by
          rw [← HF.out]
          unfold Ps.cutF Ps.forcedAt
          rw [HC.out, hcc, if_neg (by omega), hq, Nat.add_sub_cancel, List.getElem?_eq_getElem hql]
        obtain ⟨b, off, rfl, hbs, hat⟩ := HEr.out.at_ hql
        have hc2 := hat.2.2
        rw [← hff] at hc2
        have HC2 := Lib.hid hc2
        have HBS := Lib.hid hbs
        have HCC := Lib.hid hcc
        have hwr : IntKind.i64.wrap ((j : Int) - 1) = (q : Int) := (IntWalk.i64_in _ (by omega)).trans (by omega)
        have HWR := Lib.hid hwr
        clear hz hcj hcc hq hql hff hat hc2 hbs hwr
        go_wp2
        go_region_with ((go_at_call 29; refine (HBR.out _ (HEr.out.below (Below.refl _ _).drew)).mono ?_; rintro e' w4 ⟨hb, rfl, hh, hrow, b4⟩; have r1 := hrow.cell hm512; rw [HT.out] at r1; have X4 := Lib.hid (HXr.out.below ((Below.refl _ wr).drew.trans b4)); have C4 := Lib.hid ((((Below.refl _ wr).drew.trans b4).cell (p := ⟨b, off + q * 3 + 2, none⟩) HBS.out).trans HC2.out); obtain ⟨y0, y1, y2⟩ := X4.out; have B4 := Lib.hid (HBr.out.trans (((Below.refl _ wr).drew.trans b4).mono HBr.out.size)); clear b4 hrow hh))
        all_goals
          go_wp2
          have c4 := C4.out
          have hwr := HWR.out
          go_quiet (fail)
          clear hwr
          go_wp2
          go_ret2
          exact ⟨by rw [HCC.out]; rfl, bel_drew B4.out _⟩
    · have hjni : ¬ (j : Int) ≤ (n : Int) := by omega
      have HZ : Hid (c = 0) := by
        show _ = _
        rw [HCN.out, show n = j - 1 by omega]
        exact HCZ.out
      have HFF : Hid (f = false) := by
        show _ = _
        rw [← HF.out]
        exact cutF_zero (HC.out.trans HZ.out)
      go_wp2
      go_ret2
      exact ⟨by rw [HZ.out, HFF.out]; rfl, HBr.out⟩
end Go.Proofs.Ytkomemiebgnknaa
