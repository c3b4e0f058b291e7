/-
  The walk of FrameSeals. Its conditions: none.
-/
import Derived.Test.YtlnblcgfgkkbhaaW14
import Derived.Test.YtlnblcgfgkkbhaaW10
namespace Go.Proofs.Ytlnblcgfgkkbhaa
open Go.RowKit Go.Sort

/-- Seal's answer, whole. -/
def SealPost (w : World) (p : List Nat) (e : Ending) (w' : World) : Prop :=
  ∃ (A : Option Addr) (n : Nat) (er : Int) (S : List Nat), e = .returned (.tuple #[.slice A n n, .int .i64 er]) ∧ S.length = n ∧ Bytes w' A S ∧ Below w.heap.size w w' ∧ (A = none → n = 0) ∧ ((Fr.Good p ∧ er = 0 ∧ S = Fr.frame p) ∨ (¬ Fr.Good p ∧ er = 1 ∧ S = []))
theorem seal_any (p : List Nat) (A : Option Addr) (n c : Nat) (w : World) (h : Bytes w A p) (hn : p.length = n) (hA : A = none → c = 0) : Calls Try.prog 9 #[.slice A n c] w (SealPost w p) := by
  by_cases hg : Fr.Good p
  · refine (seal_good p A n c w h hn (by have := hg.1; omega) (by have := hg.2; omega) hA).mono ?_
    rintro e w' ⟨A', n', hn', rfl, g⟩
    exact ⟨A', n', 0, Fr.frame p, rfl, hn'.symm, g.parts.2.1, g.bel, g.parts.2.2.2.2.1, .inl ⟨hg, rfl, rfl⟩⟩
  · refine (seal_bad A n c w ?_ (by rw [← hn]; exact h.2.1)).mono ?_
    · unfold Fr.Good at hg; omega
    · rintro e w' ⟨rfl, rfl⟩
      exact ⟨none, 0, 1, [], rfl, rfl, Bytes.nil _ _, Below.refl _ _, fun _ => rfl, .inr ⟨hg, rfl, rfl⟩⟩
/-- The document's answer, whole. -/
def RefSealPost (w : World) (p : List Nat) (e : Ending) (w' : World) : Prop :=
  ∃ (A : Option Addr) (n c : Nat) (ok : Bool) (S : List Nat), e = .returned (.tuple #[.slice A n c, .bool ok]) ∧ S.length = n ∧ Bytes w' A S ∧ Below w.heap.size w w' ∧ ((Fr.Good p ∧ ok = true ∧ S = Fr.frame p) ∨ (¬ Fr.Good p ∧ ok = false ∧ S = []))
theorem refseal_any (p : List Nat) (A : Option Addr) (n c : Nat) (w : World) (h : Bytes w A p) (hn : p.length = n) (hA : A = none → c = 0) : Calls Try.prog 10 #[.slice A n c] w (RefSealPost w p) := by
  by_cases hg : Fr.Good p
  · refine (refseal_good p A n c w h hn (by have := hg.1; omega) (by have := hg.2; omega) hA).mono ?_
    rintro e w' ⟨A', n', c', hn', rfl, g⟩
    exact ⟨A', n', c', true, Fr.frame p, rfl, hn'.symm, g.parts.2.1, g.bel, .inl ⟨hg, rfl, rfl⟩⟩
  · refine (refseal_bad A n c w ?_).mono ?_
    · unfold Fr.Good at hg; omega
    · rintro e w' ⟨rfl, rfl⟩
      exact ⟨none, 0, 0, false, [], rfl, rfl, Bytes.nil _ _, Below.refl _ _, .inr ⟨hg, rfl, rfl⟩⟩
theorem same_yes (a : List Nat) (A B : Option Addr) (c d n m : Nat) (w : World) (ha : Bytes w A a) (hb : Bytes w B a) (hn : a.length = n) (hm : a.length = m) :
    Calls Try.prog 11 #[.slice A n c, .slice B m d] w fun e w' => e = .returned (.bool true) ∧ w = w' := by
  have h := same_any a a A B c d n m w ha hb hn hm
  rwa [decide_eq_true rfl] at h
theorem lists_yes (ps : List (List Nat)) (A B : Option Addr) (n m c d : Nat) (w : World) (hp : Parts w A ps) (hq : Parts w B ps) (hn : ps.length = n) (hm : ps.length = m) (h63 : n ≤ maxLen) :
    Calls Try.prog 16 #[.slice A n c, .slice B m d] w fun e w' => e = .returned (.bool true) ∧ Below w.heap.size w w' := by
  have h := lists_any ps ps A B n m c d w hp hq hn hm h63 (by omega)
  rwa [decide_eq_true rfl] at h
theorem Fr.CutIs.few {l : List Nat} {ps : List (List Nat)} {k : Nat} (h : Fr.CutIs l ps k) : 8 * ps.length ≤ l.length := by
  have h1 := Fr.flat_length ps
  rw [h.len] at h1
  have := h.le
  omega
/-- Open's answer, whole. -/
def OpenAll (w : World) (l : List Nat) (e : Ending) (w' : World) : Prop :=
  ∃ (A : Option Addr) (n : Nat) (er : Int) (S : List Nat), e = .returned (.tuple #[.slice A n n, .int .i64 er]) ∧ S.length = n ∧ Bytes w' A S ∧ Below w.heap.size w w' ∧ (A = none → n = 0) ∧ ((Fr.opn l = some S ∧ er = 0) ∨ (Fr.opn l = none ∧ er = 2 ∧ S = []))
theorem open_all (l : List Nat) (A : Option Addr) (n c : Nat) (w : World) (h : Bytes w A l) (hn : l.length = n) (hc : n ≤ c) : Calls Try.prog 12 #[.slice A n c] w (OpenAll w l) := by
  refine (open_any l A n c w h hn hc).mono ?_
  rintro e w' (⟨hf, rfl, b⟩ | ⟨p, A', n', hf, hp, rfl, g⟩)
  · exact ⟨none, 0, 2, [], rfl, rfl, Bytes.nil _ _, b, fun _ => rfl, .inr ⟨hf, rfl, rfl⟩⟩
  · exact ⟨A', n', 0, p, rfl, hp, g.parts.2.1, g.bel, g.parts.2.2.2.2.1, .inl ⟨hf, rfl⟩⟩
def RefOpenAll (w : World) (l : List Nat) (e : Ending) (w' : World) : Prop :=
  ∃ (A : Option Addr) (n c : Nat) (ok : Bool) (S : List Nat), e = .returned (.tuple #[.slice A n c, .bool ok]) ∧ S.length = n ∧ Bytes w' A S ∧ Below w.heap.size w w' ∧ ((Fr.opn l = some S ∧ ok = true) ∨ (Fr.opn l = none ∧ ok = false ∧ S = []))
theorem refopen_all (l : List Nat) (A : Option Addr) (n c : Nat) (w : World) (h : Bytes w A l) (hn : l.length = n) (hc : n ≤ c) (hm : n ≤ 1048576) : Calls Try.prog 13 #[.slice A n c] w (RefOpenAll w l) := by
  refine (refopen_any l A n c w h hn hc hm).mono ?_
  rintro e w' (⟨hf, rfl, b⟩ | ⟨p, A', n', c', hf, hp, rfl, g⟩)
  · exact ⟨none, 0, 0, false, [], rfl, rfl, Bytes.nil _ _, b, .inr ⟨hf, rfl, rfl⟩⟩
  · exact ⟨A', n', c', true, p, rfl, hp, g.parts.2.1, g.bel, .inl ⟨hf, rfl⟩⟩
set_option maxHeartbeats 2000000 in
theorem seals_walk (p b : List Nat) (A B : Option Addr) (n m c d : Nat) (w : World) (hp : Bytes w A p) (hb : Bytes w B b) (hn : p.length = n) (hm : b.length = m) (hd : m ≤ d) (hA : A = none → c = 0) :
    Calls Try.prog 3 #[.slice A n c, .slice B m d] w fun e w' => e = .returned (.bool true) ∧ Below w.heap.size w w' := by
  have HP := Lib.hid hp
  have HB := Lib.hid hb
  have HN := Lib.hid hn
  have HM := Lib.hid hm
  have HD := Lib.hid hd
  have HA := Lib.hid hA
  clear hp hb hn hm hd hA
  by_cases hbig : 200000 < (m : Int)
  · go_enter Try.func3, Try.ntmps3
    go_wp2_with fail
    refine (awake_any w).mono ?_
    rintro e w1 ⟨rfl, b1⟩
    have B1 := Lib.hid b1
    clear b1
    go_wp2
    go_ret
    exact ⟨rfl, B1.out⟩
  · have HSM : Hid (m ≤ 200000) := by show _ ≤ _; omega
    go_enter Try.func3, Try.ntmps3
    go_wp2_with fail
    refine (awake_any w).mono ?_
    rintro e w1 ⟨rfl, b1⟩
    have B1 := Lib.hid b1
    clear b1
    go_wp2_with fail
    refine (seal_any p A n c w1 (HP.out.below B1.out) HN.out HA.out).mono ?_
    rintro e w2 ⟨As, ns, er, Ls, rfl, hls, ys, bs, _, hs⟩
    have B2 : Hid (Below w.heap.size w w2) := B1.out.trans (bs.mono B1.out.size)
    have YS := Lib.hid ys
    have LS := Lib.hid hls
    have HS := Lib.hid hs
    clear bs ys hls hs
    go_wp2_with fail
    refine (refseal_any p A n c w2 (HP.out.below B2.out) HN.out HA.out).mono ?_
    rintro e w3 ⟨At, nt, ct, ok, Lt, rfl, hlt, yt, bt, ht⟩
    have B3 : Hid (Below w.heap.size w w3) := B2.out.trans (bt.mono B2.out.size)
    have SM : Hid (Ls = Lt → Calls Try.prog 11 #[.slice As ns ns, .slice At nt ct] w3 fun e w' => e = .returned (.bool true) ∧ w3 = w') := by
      intro e
      subst e
      exact same_yes Ls As At ns ct ns nt w3 (YS.out.below bt) yt LS.out hlt
    have HT := Lib.hid ht
    clear bt yt hlt ht
    rcases HS.out with ⟨hg, rfl, rfl⟩ | ⟨hg, rfl, rfl⟩ <;> rcases HT.out with ⟨hg', rfl, rfl⟩ | ⟨hg', rfl, rfl⟩
    case inl.inr => exact absurd hg hg'
    case inr.inl => exact absurd hg' hg
    all_goals
      have SM1 := Lib.hid (SM.out rfl)
      clear HS HT SM hg hg'
      go_wp2_with fail
      refine SM1.out.mono ?_
      rintro e w3' ⟨rfl, rfl⟩
      go_wp2_with fail
      refine (open_all b B m d w3 (HB.out.below B3.out) HM.out HD.out).mono ?_
      rintro e w4 ⟨Ao, no, er, Lo, rfl, hlo, yo, bo, _, ho⟩
      have B4 : Hid (Below w.heap.size w w4) := B3.out.trans (bo.mono B3.out.size)
      have YO := Lib.hid yo
      have LO := Lib.hid hlo
      have HO := Lib.hid ho
      clear bo yo hlo ho
      go_wp2_with fail
      refine (refopen_all b B m d w4 (HB.out.below B4.out) HM.out HD.out (by have := HSM.out; omega)).mono ?_
      rintro e w5 ⟨Aq, nq, cq, ok, Lq, rfl, hlq, yq, bq, hq⟩
      have B5 : Hid (Below w.heap.size w w5) := B4.out.trans (bq.mono B4.out.size)
      have SO : Hid (Lo = Lq → Calls Try.prog 11 #[.slice Ao no no, .slice Aq nq cq] w5 fun e w' => e = .returned (.bool true) ∧ w5 = w') := by
        intro e
        subst e
        exact same_yes Lo Ao Aq no cq no nq w5 (YO.out.below bq) yq LO.out hlq
      have HQ := Lib.hid hq
      clear bq yq hlq hq
      rcases HO.out with ⟨hg, rfl⟩ | ⟨hg, rfl, rfl⟩ <;> rcases HQ.out with ⟨hg', rfl⟩ | ⟨hg', rfl, rfl⟩
      case inl.inr => rw [hg] at hg'; cases hg'
      case inr.inl => rw [hg] at hg'; cases hg'
      all_goals
        first
        | (have e : Lo = Lq := by rw [hg] at hg'; injection hg'
           have SO1 := Lib.hid (SO.out e)
           clear e
           have SO2 := SO1
           clear SO1)
        | have SO2 := Lib.hid (SO.out rfl)
        clear HO HQ SO hg hg'
        go_wp2_with fail
        refine SO2.out.mono ?_
        rintro e w5' ⟨rfl, rfl⟩
        go_wp2_with fail
        refine (cut_any b B m d w5 (HB.out.below B5.out) HM.out HD.out (by have := HSM.out; omega)).mono ?_
        rintro e w6 ⟨ps, kc, Ac, mc, cc, ec, hcut, hpsl, hec, rfl, oc⟩
        have B6 : Hid (Below w.heap.size w w6) := B5.out.trans (oc.bel.mono B5.out.size)
        have CI := Lib.hid hcut
        have CL := Lib.hid hpsl
        have CE := Lib.hid hec
        have OC := Lib.hid oc
        clear hcut hpsl hec oc
        go_wp2_with fail
        refine (refcut_any b B m d w6 (HB.out.below B6.out) HM.out HD.out (by have := HSM.out; omega)).mono ?_
        rintro e w7 ⟨qs, kr, Ar, mr, cr, hcut, hpsl, rfl, oc⟩
        have B7 : Hid (Below w.heap.size w w7) := B6.out.trans (oc.bel.mono B6.out.size)
        obtain ⟨rfl, rfl⟩ := Fr.CutIs.unique HB.out.1 CI.out hcut
        have HLI := Lib.hid (lists_yes ps Ac Ar mc mr cc cr w7 (OC.out.keep oc.bel).parts.1 oc.parts.1 CL.out hpsl (by have := CI.out.few; rw [HM.out] at this; have := CL.out; have := HSM.out; unfold maxLen; omega))
        have hec := CE.out
        rw [HM.out] at hec
        clear CE hcut hpsl oc
        by_cases hk : kc = m
        · subst hk
          rw [if_pos rfl] at hec
          subst hec
          go_wp2_with fail
          refine HLI.out.mono ?_
          rintro e w8 ⟨rfl, b8⟩
          have B8 : Hid (Below w.heap.size w w8) := B7.out.trans (b8.mono B7.out.size)
          clear b8
          go_wp2
          go_ret
          exact ⟨rfl, B8.out⟩
        · rw [if_neg hk] at hec
          subst hec
          have dk : ((kc : Int) == (m : Int)) = false := by simp; omega
          clear hk
          go_wp2_with fail
          refine HLI.out.mono ?_
          rintro e w8 ⟨rfl, b8⟩
          have B8 : Hid (Below w.heap.size w w8) := B7.out.trans (b8.mono B7.out.size)
          clear b8
          go_wp2
          go_ret
          exact ⟨rfl, B8.out⟩
end Go.Proofs.Ytlnblcgfgkkbhaa
