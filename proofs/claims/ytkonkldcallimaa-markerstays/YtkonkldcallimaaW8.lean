/-
  The walk of MarkerStays. Its conditions: the marker and the script are Go's.
-/
import Derived.Test.YtkonkldcallimaaW6
import Derived.Deep.CutBlock
namespace Go.Proofs.Ytkonkldcallimaa
open Go.RowKit Go.Maps Go.ChangeMaps
open Go.Sort (grow)

def SyRel (l : List Step) (g B p : Nat) (x : Step) (w : World) (s6 : Value) (wr : World) : Prop :=
  ∃ (k : Nat) (L : List Mk), k ≤ 200 ∧ k ≤ l.length ∧ s6 = .int .i64 (k : Int) ∧ St w wr g B L 1000 ∧ x.m ∈ L ∧ wr.heap[p]? = some (oStep x)
def SwRel (g B p : Nat) (x : Step) (w : World) (_ : Value) (W : World) : Prop :=
  ∃ (L : List Mk), St w W g B L 1000 ∧ x.m ∈ L ∧ W.heap[p]? = some (oStep x)
set_option maxRecDepth 100000 in
set_option maxHeartbeats 8000000 in
theorem stays_walk (x : Step) (l : List Step) (A : Option Addr) (n c : Nat) (w : World) (hx : Ok x.m) (hs : Scr w A l) (hn : l.length = n) :
    Calls Try.prog 4 #[.agg #[.int .i64 x.K, .string x.m.k, .int .i64 x.m.s, .int .i64 x.m.r], .slice A n c] w fun e w' => e = .returned (.bool true) ∧ Below w.heap.size w w' := by
  have H := Lib.hid hs
  have HE := Lib.hid hn
  have HXO := Lib.hid hx
  clear hs hn hx
  go_enter Try.func4, Try.ntmps4
  go_wp2_with fail
  obtain ⟨p, hp⟩ : ∃ p, p = w.heap.size := ⟨_, rfl⟩
  obtain ⟨W0, hW0⟩ : ∃ W0, w.alloc (.cells #[.int .i64 x.K, .string x.m.k, .int .i64 x.m.s, .int .i64 x.m.r] 31) = W0 := ⟨_, rfl⟩
  have B0 : Hid (Below w.heap.size w W0) := hW0 ▸ (Below.refl _ _).alloc (Nat.le_refl _) _
  have X0 : Hid (W0.heap[p]? = some (oStep x)) := by show _ = _; rw [← hW0, hp]; exact heap_new _ _
  rw [hW0, ← hp]
  clear hW0 hp
  refine (awake_any W0).mono ?_
  rintro e w1 ⟨rfl, b1⟩
  have B1 := Lib.hid (B0.out.trans (b1.mono B0.out.size))
  have X1 := Lib.hid (Keeps.of_below b1 _ _ X0.out (oStep_kind _))
  clear b1 B0 X0
  go_wp2_with fail
  refine (new_any w.heap.size 1000 w1 B1.out.size (by omega)).mono ?_
  rintro e w2 ⟨g, B, rfl, t2, b2, _, _⟩
  have S2 : Hid (St w w2 g B [] 1000) := ⟨t2, B1.out.trans (b2.mono B1.out.size)⟩
  have X2 := Lib.hid (Keeps.of_below b2 _ _ X1.out (oStep_kind _))
  clear t2 b2 B1 X1
  obtain ⟨z0, z1, z2, z3⟩ := step_cells X2.out
  have C2 := Lib.hid (st_set S2.out x.m HXO.out)
  have e1 : setE [] x.m 1000 = 0 := by simp [setE]
  have e2 : setL [] x.m 1000 = [x.m] := by simp [setL, ins]
  rw [e1, e2] at C2
  clear e1 e2
  go_wp2_with fail
  refine C2.out.mono ?_
  rintro e w3 ⟨rfl, s3, k3⟩
  have S3 := Lib.hid s3
  have X3 := Lib.hid (k3 _ _ X2.out (oStep_kind _))
  clear s3 k3 S2 X2 C2 z0 z1 z2 z3
  go_wp2
  go_loopw [6] (SyRel l g B p x w) (fun i _ => 201 - (intOf i).toNat)
  case atStart => exact ⟨0, [x.m], Nat.zero_le _, Nat.zero_le _, rfl, S3.out, by simp, X3.out⟩
  case round =>
    obtain ⟨k, L, hk2, hkl, rfl, hm, hin, hbx⟩ := hrel
    have HM := Lib.hid hm
    have HIN := Lib.hid hin
    have HX := Lib.hid hbx
    clear hm hin hbx S3 X3
    rw [HE.out] at hkl
    by_cases hlt : k < n ∧ k < 200
    · obtain ⟨hlt1, hlt2⟩ := hlt
      have hkl2 : k < l.length := by rw [HE.out]; exact hlt1
      obtain ⟨b, off, rfl, hbs, c0, c1, c2, c3⟩ := (H.out.below (Nat.le_refl _) HM.out.bel).at_ hkl2
      have HKS := Lib.hid (H.out.2.1 l[k] (List.getElem_mem hkl2))
      generalize l[k] = o at c0 c1 c2 c3 HKS
      obtain ⟨K, m⟩ := o
      simp only at c0 c1 c2 c3 HKS
      have hlti : (k : Int) < (n : Int) := by omega
      have hlti2 : (k : Int) < 200 := by omega
      have hk0 : (0 : Int) ≤ (k : Int) := by omega
      have HK2 : Hid (k ≤ 199 ∧ k + 1 ≤ l.length) := by show _ ∧ _; omega
      clear hkl2 hbs hk2 hkl
      go_upto_region 10 with fail
      obtain ⟨q, hq⟩ : ∃ q, q = wr.heap.size := ⟨_, rfl⟩
      obtain ⟨W, hW⟩ : ∃ W, wr.alloc (.cells #[.int .i64 K, .string m.k, .int .i64 m.s, .int .i64 m.r] 31) = W := ⟨_, rfl⟩
      have b3 : Below wr.heap.size wr W := hW ▸ (Below.refl _ _).alloc (Nat.le_refl _) _
      have x3 : W.heap[q]? = some (oStep ⟨K, m⟩) := by rw [← hW, hq]; exact heap_new _ _
      have S3 := Lib.hid (HM.out.below b3)
      have O3 := Lib.hid x3
      have X3 := Lib.hid (Keeps.of_below b3 _ _ HX.out (oStep_kind _))
      rw [hW, ← hq]
      clear b3 x3 hW hq c0 c1 c2 c3 HM HX
      obtain ⟨z0, z1, z2, z3⟩ := step_cells O3.out
      simp only at z0 z1 z2 z3
      obtain ⟨y0, y1, y2, y3⟩ := step_cells X3.out
      obtain ⟨mine, hmine⟩ : ∃ mine, mine = (decide (m.s = x.m.s) && decide (m.r ≥ x.m.r)) := ⟨_, rfl⟩
      have HMI := Lib.hid hmine
      clear hmine
      go_cut [8] from 36 to 47 (fun s8 Wc => s8 = .bool mine ∧ Wc = W)
      case first =>
        by_cases hs : m.s = x.m.s
        · have hd1 : decide (m.s = x.m.s) = true := decide_eq_true hs
          have hd2 : (m.s == x.m.s) = true := by simpa using hs
          have HS2 := Lib.hid hs
          clear hs
          by_cases hr : m.r ≥ x.m.r
          all_goals
            go_wp2
            go_meet
            case rel => exact ⟨by rw [HMI.out]; simp [HS2.out, hr], rfl⟩
        · go_wp2
          go_meet
          case rel => exact ⟨by rw [HMI.out]; simp [hs], rfl⟩
      case rest =>
        obtain ⟨rfl, rfl⟩ := hcut
        go_upto_block 2 with fail
        go_cut [48] from 49 to 129 (SwRel g B p x w)
        case first =>
          by_cases hK0 : K = 0
          · subst hK0
            go_wp2_with fail
            refine (st_set S3.out m HKS.out).mono ?_
            rintro r w4 ⟨rfl, s4, k4⟩
            have S4 := Lib.hid s4
            have X4 := Lib.hid (k4 _ _ X3.out (oStep_kind _))
            clear s4 k4
            go_wp2
            go_meet
            case rel => exact ⟨_, S4.out, mem_setL.mpr (.inl HIN.out), X4.out⟩
          · by_cases hK1 : K = 1
            · subst hK1
              by_cases ha : m.k = x.m.k
              · have ha1 : (m.k.toList == x.m.k.toList) = true := by rw [ha]; simp
                have HA := Lib.hid ha
                clear ha
                by_cases hb : m.s = x.m.s
                · have hb1 : decide (m.s = x.m.s) = true := decide_eq_true hb
                  have hb2 : (m.s == x.m.s) = true := by simpa using hb
                  have hb3 : (m.s != x.m.s) = false := by simpa using hb
                  have HB := Lib.hid hb
                  clear hb
                  by_cases hc : m.r = x.m.r
                  · have hc1 : decide (m.r = x.m.r) = true := decide_eq_true hc
                    have hc2 : (m.r == x.m.r) = true := by simpa using hc
                    have hc3 : (m.r != x.m.r) = false := by simpa using hc
                    clear hc
                    go_wp2
                    go_meet
                    case rel => exact ⟨_, S3.out, HIN.out, X3.out⟩
                  · have HNE : Hid (¬ x.m = m) := fun e => hc (by rw [e])
                    go_wp2_with fail
                    refine (st_clear S3.out m HKS.out).mono ?_
                    rintro r w4 ⟨rfl, s4, k4⟩
                    have S4 := Lib.hid s4
                    have X4 := Lib.hid (k4 _ _ X3.out (oStep_kind _))
                    clear s4 k4
                    go_wp2
                    go_meet
                    case rel => exact ⟨_, S4.out, mem_out.mpr ⟨HIN.out, by have := HNE.out; simp [isG]; exact this⟩, X4.out⟩
                · have HNE : Hid (¬ x.m = m) := fun e => hb (by rw [e])
                  go_wp2_with fail
                  refine (st_clear S3.out m HKS.out).mono ?_
                  rintro r w4 ⟨rfl, s4, k4⟩
                  have S4 := Lib.hid s4
                  have X4 := Lib.hid (k4 _ _ X3.out (oStep_kind _))
                  clear s4 k4
                  go_wp2
                  go_meet
                  case rel => exact ⟨_, S4.out, mem_out.mpr ⟨HIN.out, by have := HNE.out; simp [isG]; exact this⟩, X4.out⟩
              · have HNE : Hid (¬ x.m = m) := fun e => ha (by rw [e])
                have ha1 : (m.k.toList == x.m.k.toList) = false := toList_ne ha
                clear ha
                go_wp2_with fail
                refine (st_clear S3.out m HKS.out).mono ?_
                rintro r w4 ⟨rfl, s4, k4⟩
                have S4 := Lib.hid s4
                have X4 := Lib.hid (k4 _ _ X3.out (oStep_kind _))
                clear s4 k4
                go_wp2
                go_meet
                case rel => exact ⟨_, S4.out, mem_out.mpr ⟨HIN.out, by have := HNE.out; simp [isG]; exact this⟩, X4.out⟩
            · by_cases hK2 : K = 2
              · subst hK2
                cases mine with
                | false =>
                  have HNE : Hid (upG m.k m.s m.r x.m = false) := by
                    show _ = _
                    have := HMI.out
                    have h2 := this.symm
                    simp at h2
                    simp only [upG, Bool.and_eq_false_iff, decide_eq_false_iff_not]
                    omega
                  go_wp2_with fail
                  refine (st_upto S3.out m.k m.s m.r).mono ?_
                  rintro r w4 ⟨rfl, s4, k4⟩
                  have S4 := Lib.hid s4
                  have X4 := Lib.hid (k4 _ _ X3.out (oStep_kind _))
                  clear s4 k4
                  go_wp2
                  go_meet
                  case rel => exact ⟨_, S4.out, mem_out.mpr ⟨HIN.out, by exact HNE.out⟩, X4.out⟩
                | true =>
                  by_cases ha : m.k = x.m.k
                  · have ha1 : (m.k.toList == x.m.k.toList) = true := by rw [ha]; simp
                    clear ha
                    go_wp2
                    go_meet
                    case rel => exact ⟨_, S3.out, HIN.out, X3.out⟩
                  · have HNE : Hid (upG m.k m.s m.r x.m = false) := by
                      show _ = _
                      have : ¬ x.m.k = m.k := fun e => ha e.symm
                      simp [upG, this]
                    have ha1 : (m.k.toList == x.m.k.toList) = false := toList_ne ha
                    clear ha
                    go_wp2_with fail
                    refine (st_upto S3.out m.k m.s m.r).mono ?_
                    rintro r w4 ⟨rfl, s4, k4⟩
                    have S4 := Lib.hid s4
                    have X4 := Lib.hid (k4 _ _ X3.out (oStep_kind _))
                    clear s4 k4
                    go_wp2
                    go_meet
                    case rel => exact ⟨_, S4.out, mem_out.mpr ⟨HIN.out, by exact HNE.out⟩, X4.out⟩
              · by_cases hK3 : K = 3
                · subst hK3
                  cases mine with
                  | false =>
                    have HNE : Hid (paG m.s m.r x.m = false) := by
                      show _ = _
                      have := HMI.out
                      have h2 := this.symm
                      simp at h2
                      simp only [paG, Bool.and_eq_false_iff, decide_eq_false_iff_not]
                      omega
                    go_wp2_with fail
                    refine (st_past S3.out m.s m.r).mono ?_
                    rintro r w4 ⟨rfl, s4, k4⟩
                    have S4 := Lib.hid s4
                    have X4 := Lib.hid (k4 _ _ X3.out (oStep_kind _))
                    clear s4 k4
                    go_wp2
                    go_meet
                    case rel => exact ⟨_, S4.out, mem_out.mpr ⟨HIN.out, by exact HNE.out⟩, X4.out⟩
                  | true =>
                    go_wp2
                    go_meet
                    case rel => exact ⟨_, S3.out, HIN.out, X3.out⟩
                · have hd1 : decide (K = 1) = false := decide_eq_false hK1
                  go_wp2
                  go_meet
                  case rel => exact ⟨_, S3.out, HIN.out, X3.out⟩
        case rest =>
          obtain ⟨L2, s5, hin5, x5⟩ := hcut
          have S5 := Lib.hid s5
          have X5 := Lib.hid x5
          have hh : hasK L2 x.m.k = true := hasK_iff.mpr ⟨_, hin5, rfl⟩
          have C5 := Lib.hid (st_has s5 x.m.k)
          rw [hh] at C5
          have HI5 := Lib.hid hin5
          clear s5 x5 hin5 hh y0 y1 y2 y3 z0 z1 z2 z3 S3 O3 X3
          obtain ⟨y0, y1, y2, y3⟩ := step_cells X5.out
          go_wp2_with fail
          refine C5.out.mono ?_
          rintro r w6 ⟨rfl, s6, k6⟩
          have S6 := Lib.hid s6
          have X6 := Lib.hid (k6 _ _ X5.out (oStep_kind _))
          clear s6 k6
          go_wp2
          go_roundw
          case rel => exact ⟨k + 1, L2, by have := HK2.out; omega, HK2.out.2, by go_num, S6.out, HI5.out, X6.out⟩
          case measure => simp [intOf]; omega
    · have hcase : ¬ (k : Int) < (n : Int) ∨ ((k : Int) < (n : Int) ∧ ¬ (k : Int) < 200) := by omega
      clear hlt hk2 hkl
      have hlen : (out L (isG x.m)).length + 1 = L.length := length_out HM.out.tab.good.rs.nodup HIN.out
      obtain ⟨a2, ha2⟩ : ∃ a2 : Nat, a2 = (out L (isG x.m)).length := ⟨_, rfl⟩
      have ha1 : L.length = a2 + 1 := by omega
      have hmx : (a2 : Int) ≤ 1000 := by have := HM.out.tab.good.len; omega
      obtain ⟨y0, y1, y2, y3⟩ := step_cells HX.out
      have HA1 := Lib.hid ha1
      have HA2 := Lib.hid ha2
      have hno : decide (x.m ∈ out L (isG x.m)) = false := by simp [mem_out, isG]
      have hyes : decide (x.m ∈ L) = true := by simpa using HIN.out
      have CC := Lib.hid (fun W (s : St w W g B L 1000) => st_clear s x.m HXO.out)
      have CD := Lib.hid (fun W (s : St w W g B (out L (isG x.m)) 1000) => st_clear s x.m HXO.out)
      rw [hyes] at CC
      rw [hno] at CD
      clear hlen ha2 ha1 hyes hno
      rcases hcase with hc1 | ⟨hc1, hc2⟩
      all_goals
        go_wp2_with fail
        refine (st_len HM.out).mono ?_
        rintro r w4 ⟨rfl, rfl⟩
        rw [HA1.out]
        go_wp2_with fail
        refine (CC.out _ HM.out).mono ?_
        rintro r w5 ⟨rfl, s5, k5⟩
        have S5 := Lib.hid s5
        have X5 := Lib.hid (k5 _ _ HX.out (oStep_kind _))
        clear s5 k5 y0 y1 y2 y3
        obtain ⟨y0, y1, y2, y3⟩ := step_cells X5.out
        go_wp2_with fail
        refine (st_len S5.out).mono ?_
        rintro r w6 ⟨rfl, rfl⟩
        rw [← HA2.out]
        go_wp2_with fail
        refine (CD.out _ S5.out).mono ?_
        rintro r w7 ⟨rfl, s7, k7⟩
        have S7 := Lib.hid s7
        clear s7 k7 y0 y1 y2 y3
        go_wp2
        go_ret
        exact ⟨rfl, S7.out.bel⟩
end Go.Proofs.Ytkonkldcallimaa
