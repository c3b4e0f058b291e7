/-
  A slice of integers that came in; the walk of PackSplits. Its conditions: none.
-/
import Derived.Test.YthcmijppemochaaW4
namespace Go.Proofs.Ythcmijppemochaa
open Go.RowKit

/-- A slice (its address A) that reads as the integers l. -/
def Ints (w : World) (A : Option Addr) (l : List Int) : Prop :=
  l.length ≤ maxLen ∧ (∀ z ∈ l, (Lit.int .i64 z).wf = true) ∧ (0 < l.length → ∃ b off, A = some ⟨b, off, none⟩ ∧ b < w.heap.size ∧ ∀ (k : Nat) (z : Int), l[k]? = some z → w.cell? ⟨b, off + k, none⟩ = some (.int .i64 z))
theorem ints_of_row {w : World} {a : Option Addr} {len cap : Nat} {zs : List Int} (h : IsRow .i64 w a len cap zs) :
    ∃ l : List Int, l.length = len ∧ Ints w a l ∧ len ≤ cap ∧ cap ≤ maxLen := by
  rcases h with ⟨rfl, rfl, rfl, rfl⟩ | ⟨x, rfl, hl, hm, hz, hcell, hwz⟩
  · exact ⟨[], rfl, ⟨by simp, by simp, by simp⟩, Nat.le_refl _, Nat.zero_le _⟩
  · refine ⟨zs.take len, by simp; omega, ⟨by simp; omega, fun z hzm => hwz z (List.mem_of_mem_take hzm), fun hp => ?_⟩, hl, hm⟩
    have hp : 0 < len := by simp at hp; omega
    obtain ⟨b, off, spot⟩ := x
    have h0 := hcell 0 (by omega)
    have hspot : spot = none := by simpa [Addr.add] using World.cell?_spot h0
    subst hspot
    refine ⟨b, off, rfl, ?_, fun k z hk => ?_⟩
    · have := block_lt_of_cell h0
      simpa [Addr.add] using this
    · rw [List.getElem?_take] at hk
      split at hk
      · obtain ⟨hkz, hkv⟩ := List.getElem?_eq_some_iff.mp hk
        have hck := hcell k hkz
        rw [List.getD_eq_getElem?_getD, hk, addr_add] at hck
        exact hck
      · simp at hk
theorem Ints.below {w w' : World} {A : Option Addr} {l : List Int} (h : Ints w A l) (hb : Below w.heap.size w w') : Ints w' A l := by
  obtain ⟨h1, h2, h3⟩ := h
  refine ⟨h1, h2, fun hl => ?_⟩
  obtain ⟨b, off, hA, hlt, hc⟩ := h3 hl
  exact ⟨b, off, hA, Nat.lt_of_lt_of_le hlt hb.size, fun k c hk => by rw [hb.cell (p := ⟨b, off + k, none⟩) hlt]; exact hc k c hk⟩
theorem Ints.at_ {w : World} {A : Option Addr} {l : List Int} (h : Ints w A l) {k : Nat} (hk : k < l.length) : ∃ b off, A = some ⟨b, off, none⟩ ∧ w.cell? ⟨b, off + k, none⟩ = some (.int .i64 l[k]) := by
  obtain ⟨b, off, hA, _, hc⟩ := h.2.2 (by omega)
  exact ⟨b, off, hA, hc k _ (List.getElem?_eq_getElem hk)⟩

/-- The bytes of numbers, one behind the other. -/
def encs (l : List Int) : List Nat := l.flatMap fun z => Pk.digits z.toNat
def InRange (l : List Int) : Prop := ∀ z ∈ l, 0 ≤ z ∧ z ≤ 9007199254740992
theorem encs_append (l m : List Int) : encs (l ++ m) = encs l ++ encs m := by simp [encs]
theorem encs_one (z : Int) : encs [z] = Pk.digits z.toNat := by simp [encs]
theorem encs_length (l : List Int) (h : InRange l) : (encs l).length ≤ 8 * l.length := by
  induction l with
  | nil => simp [encs]
  | cons z l ih =>
    have h1 := ih (fun y hy => h y (List.mem_cons_of_mem _ hy))
    have h2 := h z (by simp)
    have h3 := Pk.digits_length_most (n := z.toNat) (by unfold Pk.most; omega)
    rw [show z :: l = [z] ++ l from rfl, encs_append, encs_one, List.length_append, List.length_append]
    simp
    omega
theorem InRange.take {l : List Int} (h : InRange l) (k : Nat) : InRange (l.take k) := fun z hz => h z (List.mem_of_mem_take hz)
theorem InRange.drop {l : List Int} (h : InRange l) (k : Nat) : InRange (l.drop k) := fun z hz => h z (List.mem_of_mem_drop hz)

/-- Two writers share no block. -/
def Apart (g r h s : Nat) : Prop := g ≠ h ∧ g ≠ s ∧ r ≠ h ∧ r ≠ s
theorem Apart.symm {g r h s : Nat} (a : Apart g r h s) : Apart h s g r := ⟨fun e => a.1 e.symm, fun e => a.2.2.1 e.symm, fun e => a.2.1 e.symm, fun e => a.2.2.2 e.symm⟩
theorem Apart.step {w w' : World} {g r r' h s : Nat} {x : Option (List Nat)} (a : Apart g r h s) (st : WStep w w' g r r') (hs : WS w h s x) : Apart g r' h s := by
  have hlt := hs.lt
  refine ⟨a.1, a.2.1, ?_, ?_⟩
  · rcases st.2 with rfl | h2
    · exact a.2.2.1
    · omega
  · rcases st.2 with rfl | h2
    · exact a.2.2.2
    · omega
theorem WS.other {w w' : World} {g r r' h s : Nat} {x : Option (List Nat)} (hs : WS w h s x) (a : Apart g r h s) (st : WStep w w' g r r') : WS w' h s x :=
  hs.only st.1 (fun e => by rcases e with e | e; exact a.1 e.symm; exact a.2.2.1 e.symm) (fun e => by rcases e with e | e; exact a.2.1 e.symm; exact a.2.2.2 e.symm)

/-- The loop of PackSplits. -/
def SplitRel (l : List Int) (c G : Nat) (w1 : World) (v : Value) (wr : World) : Prop :=
  ∃ (k r1 r2 r3 : Nat), v = .int .i64 (k : Int) ∧ k ≤ l.length ∧ InRange (l.take k) ∧ WS wr G r1 (some (encs (l.take k))) ∧ WS wr (G + 1) r2 (some (encs ((l.take k).take c))) ∧ WS wr (G + 1 + 1) r3 (some (encs ((l.take k).drop c))) ∧
    Apart G r1 (G + 1) r2 ∧ Apart G r1 (G + 1 + 1) r3 ∧ Apart (G + 1) r2 (G + 1 + 1) r3 ∧ G ≤ r1 ∧ G ≤ r2 ∧ G ≤ r3 ∧ Below G w1 wr
theorem take_in (P : List Int) (z : Int) (c : Nat) (h : P.length < c) : encs (P.take c) ++ Pk.digits z.toNat = encs ((P ++ [z]).take c) := by
  rw [List.take_of_length_le (by omega), List.take_of_length_le (by simp; omega), encs_append, encs_one]
theorem drop_in (P : List Int) (z : Int) (c : Nat) (h : P.length < c) : encs (P.drop c) = encs ((P ++ [z]).drop c) := by
  rw [List.drop_of_length_le (by omega), List.drop_of_length_le (by simp; omega)]
theorem take_out (P : List Int) (z : Int) (c : Nat) (h : c ≤ P.length) : encs (P.take c) = encs ((P ++ [z]).take c) := by
  rw [List.take_append_of_le_length h]
theorem drop_out (P : List Int) (z : Int) (c : Nat) (h : c ≤ P.length) : encs (P.drop c) ++ Pk.digits z.toNat = encs ((P ++ [z]).drop c) := by
  rw [List.drop_append_of_le_length h, encs_append, encs_one]
theorem three_new (w : World) (t : TypeId) (o : Obj) (ho : o = .cells #[.slice none 0 0, .bool false] t) (l : List Int) (c : Nat) :
    SplitRel l c w.heap.size w (.int .i64 0) (((w.alloc o).alloc o).alloc o) := by
  subst ho
  have b2 : ∀ (w : World) (o : Obj), Below w.heap.size w (w.alloc o) := fun w o => (Below.refl _ _).alloc (Nat.le_refl _) _
  have h1 := ((ws_new w t).below (b2 _ (.cells #[.slice none 0 0, .bool false] t))).below (b2 _ (.cells #[.slice none 0 0, .bool false] t))
  have h2 := (ws_new (w.alloc (.cells #[.slice none 0 0, .bool false] t)) t).below (b2 _ (.cells #[.slice none 0 0, .bool false] t))
  have h3 := ws_new ((w.alloc (.cells #[.slice none 0 0, .bool false] t)).alloc (.cells #[.slice none 0 0, .bool false] t)) t
  have e1 : (w.alloc (.cells #[.slice none 0 0, .bool false] t)).heap.size = w.heap.size + 1 := by simp
  have e2 : ((w.alloc (.cells #[.slice none 0 0, .bool false] t)).alloc (.cells #[.slice none 0 0, .bool false] t)).heap.size = w.heap.size + 1 + 1 := by simp
  rw [e1] at h2
  rw [e2] at h3
  refine ⟨0, w.heap.size, w.heap.size + 1, w.heap.size + 1 + 1, rfl, Nat.zero_le _, fun z hz => by simp at hz, ?_, ?_, ?_, ⟨by omega, by omega, by omega, by omega⟩, ⟨by omega, by omega, by omega, by omega⟩, ⟨by omega, by omega, by omega, by omega⟩, by omega, by omega, by omega, ?_⟩
  · simpa [encs] using h1
  · simpa [encs] using h2
  · simpa [encs] using h3
  · exact (((Below.refl _ w).alloc (Nat.le_refl _) _).alloc (by simp) _).alloc (by simp; omega) _
set_option maxHeartbeats 1000000 in
set_option maxRecDepth 100000 in
theorem splits_in (l : List Int) (A : Option Addr) (cap c : Nat) (w : World) (h : Ints w A l) (hc : c ≤ l.length) (hl : l.length ≤ 10000) :
    Calls Try.prog 7 #[.slice A l.length cap, .int .i64 c] w fun e w' => e = .returned (.bool true) ∧ Below w.heap.size w w' := by
  have H := Lib.hid h
  clear h
  have d0 : decide ((c : Int) < 0) = false := by simp
  have d1 : decide (l.length < c) = false := by simp; omega
  have d2 : decide ((10000 : Int) < (l.length : Int)) = false := by simp; omega
  go_enter Try.func7, Try.ntmps7
  go_wp2_with (go_at_call 9; refine (awake_any _).mono ?_; rintro e w1 ⟨rfl, hb⟩; have HB := Lib.hid hb; clear hb)
  clear d0 d1 d2
  have HI := Lib.hid (H.out.below HB.out)
  go_loopw [39] (SplitRel l c w1.heap.size w1) (fun i _ => l.length - (intOf i).toNat)
  case atStart => exact three_new w1 57 _ rfl l c
  case round =>
    obtain ⟨k, r1, r2, r3, rfl, hk, hin, s1, s2, s3, a12, a13, a23, b1, b2, b3, hbel⟩ := hrel
    have hsz := hbel.size
    have HBW := Lib.hid hbel
    have HIN := Lib.hid hin
    have S1 := Lib.hid s1
    have S2 := Lib.hid s2
    have S3 := Lib.hid s3
    have A12 := Lib.hid a12
    have A13 := Lib.hid a13
    have A23 := Lib.hid a23
    have B1 := Lib.hid b1
    have B2 := Lib.hid b2
    have B3 := Lib.hid b3
    have HSZ := Lib.hid hsz
    clear hbel hin s1 s2 s3 a12 a13 a23 b1 b2 b3 hsz
    have L1 := Lib.hid (encs_length _ HIN.out)
    have L2 := Lib.hid (encs_length _ (HIN.out.take c))
    have L3 := Lib.hid (encs_length _ (HIN.out.drop c))
    by_cases hlt : k < l.length
    · obtain ⟨b, off, rfl, hcell⟩ := (HI.out.below HBW.out).at_ hlt
      obtain ⟨z, hz⟩ : ∃ z, l[k] = z := ⟨_, rfl⟩
      rw [hz] at hcell
      have HT : Hid (l.take (k + 1) = l.take k ++ [z]) := by rw [← hz]; exact List.take_succ_eq_append_getElem hlt
      clear hz
      by_cases hzr : 0 ≤ z ∧ z ≤ 9007199254740992
      · obtain ⟨hz0, hz1⟩ := hzr
        have HIN' : Hid (InRange (l.take (k + 1))) := by
          rw [HT.out]
          intro y hy
          rcases List.mem_append.mp hy with hy | hy
          · exact HIN.out y hy
          · simp at hy
            subst hy
            exact ⟨hz0, hz1⟩
        have ql : (l.take k).length ≤ 10000 := by rw [List.length_take]; omega
        have ql2 : ((l.take k).take c).length ≤ 10000 := by rw [List.length_take]; omega
        have ql3 : ((l.take k).drop c).length ≤ 10000 := by rw [List.length_drop]; omega
        have M1 : Hid (room (some (encs (l.take k))) + 8 ≤ 140737488355328) := by have := L1.out; show (encs (l.take k)).length + 8 ≤ _; omega
        have M2 : Hid (room (some (encs ((l.take k).take c))) + 8 ≤ 140737488355328) := by have := L2.out; show (encs ((l.take k).take c)).length + 8 ≤ _; omega
        have M3 : Hid (room (some (encs ((l.take k).drop c))) + 8 ≤ 140737488355328) := by have := L3.out; show (encs ((l.take k).drop c)).length + 8 ≤ _; omega
        have HE1 : Hid (encs (l.take k) ++ Pk.digits z.toNat = encs (l.take (k + 1))) := by rw [HT.out, encs_append, encs_one]; exact rfl
        have K1 := Lib.hid (num_good w1.heap.size r1 _ z wr S1.out hz0 hz1 M1.out)
        have hkl : (l.take k).length = k := by rw [List.length_take]; omega
        have HKL := Lib.hid hkl
        clear ql ql2 ql3 hkl
        by_cases hkc : k < c
        · have HE2 : Hid (encs ((l.take k).take c) ++ Pk.digits z.toNat = encs ((l.take (k + 1)).take c)) := by
            rw [HT.out]
            exact take_in _ z c (by rw [HKL.out]; exact hkc)
          have HE3 : Hid (encs ((l.take k).drop c) = encs ((l.take (k + 1)).drop c)) := by
            rw [HT.out]
            exact drop_in _ z c (by rw [HKL.out]; exact hkc)
          go_wp2_with fail
          refine K1.out.mono ?_
          rintro e w2 ⟨rfl, q1, t1, st1⟩
          have T2 := S2.out.other A12.out st1
          have T3 := S3.out.other A13.out st1
          have X12 := Lib.hid (A12.out.step st1 S2.out)
          have X13 := Lib.hid (A13.out.step st1 S3.out)
          have P1 := Lib.hid (step_apart st1 B1.out HSZ.out)
          have BW2 := Lib.hid (st1.below_new HBW.out (Nat.le_refl _) B1.out (Nat.le_refl _))
          have K2 := Lib.hid (num_good (w1.heap.size + 1) r2 _ z w2 T2 hz0 hz1 M2.out)
          have T1 := Lib.hid t1
          have T3H := Lib.hid T3
          clear t1 st1 T2 T3
          go_wp2_with fail
          refine K2.out.mono ?_
          rintro e w3 ⟨rfl, q2, t2, st2⟩
          have U1 := Lib.hid (T1.out.other X12.out.symm st2)
          have U3 := Lib.hid (T3H.out.other A23.out st2)
          have Y12 := Lib.hid (X12.out.symm.step st2 T1.out).symm
          have Y23 := Lib.hid (A23.out.step st2 T3H.out)
          have P2 := Lib.hid (step_apart st2 B2.out BW2.out.size)
          have BW3 := Lib.hid (st2.below_new BW2.out (by omega) B2.out (Nat.le_refl _))
          have U2 := Lib.hid t2
          clear t2 st2
          go_wp2
          go_roundw
          case rel =>
            exact ⟨k + 1, q1, q2, r3, by go_num, by omega, HIN'.out, by rw [← HE1.out]; exact U1.out, by rw [← HE2.out]; exact U2.out, by rw [← HE3.out]; exact U3.out, Y12.out, X13.out, Y23.out, P1.out, P2.out, B3.out, BW3.out⟩
          case measure => simp [intOf]; omega
        · have HE2 : Hid (encs ((l.take k).take c) = encs ((l.take (k + 1)).take c)) := by
            rw [HT.out]
            exact take_out _ z c (by rw [HKL.out]; omega)
          have HE3 : Hid (encs ((l.take k).drop c) ++ Pk.digits z.toNat = encs ((l.take (k + 1)).drop c)) := by
            rw [HT.out]
            exact drop_out _ z c (by rw [HKL.out]; omega)
          go_wp2_with fail
          refine K1.out.mono ?_
          rintro e w2 ⟨rfl, q1, t1, st1⟩
          have T2 := S2.out.other A12.out st1
          have T3 := S3.out.other A13.out st1
          have X12 := Lib.hid (A12.out.step st1 S2.out)
          have X13 := Lib.hid (A13.out.step st1 S3.out)
          have P1 := Lib.hid (step_apart st1 B1.out HSZ.out)
          have BW2 := Lib.hid (st1.below_new HBW.out (Nat.le_refl _) B1.out (Nat.le_refl _))
          have K3 := Lib.hid (num_good (w1.heap.size + 1 + 1) r3 _ z w2 T3 hz0 hz1 M3.out)
          have T1 := Lib.hid t1
          have T2H := Lib.hid T2
          clear t1 st1 T2 T3
          go_wp2_with fail
          refine K3.out.mono ?_
          rintro e w3 ⟨rfl, q3, t3, st3⟩
          have U1 := Lib.hid (T1.out.other X13.out.symm st3)
          have U2 := Lib.hid (T2H.out.other A23.out.symm st3)
          have Y13 := Lib.hid (X13.out.symm.step st3 T1.out).symm
          have Y23 := Lib.hid (A23.out.symm.step st3 T2H.out).symm
          have P3 := Lib.hid (step_apart st3 B3.out BW2.out.size)
          have BW3 := Lib.hid (st3.below_new BW2.out (by omega) B3.out (Nat.le_refl _))
          have U3 := Lib.hid t3
          clear t3 st3
          go_wp2
          go_roundw
          case rel =>
            exact ⟨k + 1, q1, r2, q3, by go_num, by omega, HIN'.out, by rw [← HE1.out]; exact U1.out, by rw [← HE2.out]; exact U2.out, by rw [← HE3.out]; exact U3.out, X12.out, Y13.out, Y23.out, P1.out, B2.out, P3.out, BW3.out⟩
          case measure => simp [intOf]; omega
      · have hzz : z < 0 ∨ (0 ≤ z ∧ 9007199254740992 < z) := by omega
        clear hzr
        rcases hzz with hzz | ⟨hz0, hzz⟩
        all_goals
          go_wp2
          go_ret
          exact ⟨rfl, HB.out.trans (HBW.out.mono HB.out.size)⟩
    · have hkl : k = l.length := by omega
      have E1 : l.take k = l := by rw [hkl]; exact List.take_length
      rw [E1] at S1 S2 S3 L1 L2 L3
      have q2 : (l.take c).length ≤ 10000 := by rw [List.length_take]; omega
      have q3 : (l.drop c).length ≤ 10000 := by rw [List.length_drop]; omega
      have E2 : encs l = encs (l.take c) ++ encs (l.drop c) := by rw [← encs_append, List.take_append_drop]
      obtain ⟨X, hX⟩ : ∃ X, encs l = X := ⟨_, rfl⟩
      obtain ⟨Y, hY⟩ : ∃ Y, encs (l.take c) = Y := ⟨_, rfl⟩
      obtain ⟨Z, hZ⟩ : ∃ Z, encs (l.drop c) = Z := ⟨_, rfl⟩
      rw [hX] at S1 L1
      rw [hY] at S2 L2
      rw [hZ] at S3 L3
      rw [hX, hY, hZ] at E2
      have HE2 := Lib.hid E2
      have LY : Hid (Y.length ≤ 80000) := by have := L2.out; show _ ≤ _; omega
      have LZ : Hid (Z.length ≤ 80000) := by have := L3.out; show _ ≤ _; omega
      have K1 := Lib.hid (bytes_ok w1.heap.size r1 X wr S1.out (by have := L1.out; omega))
      clear E1 hkl q2 q3 E2 hX hY hZ
      go_wp2_with fail
      refine K1.out.mono ?_
      rintro e w2 ⟨v1, rfl, hg1⟩
      have G1 := Lib.hid hg1
      have T2 := S2.out.below hg1.bel
      have T3 := S3.out.below hg1.bel
      have K2 := Lib.hid (bytes_ok (w1.heap.size + 1) r2 Y w2 T2 (by have := LY.out; omega))
      have T3H := Lib.hid T3
      clear hg1 T2 T3
      go_wp2_with fail
      refine K2.out.mono ?_
      rintro e w3 ⟨v2, rfl, hg2⟩
      have G2 := Lib.hid hg2
      have F1 := Lib.hid (G1.out.keep hg2.bel)
      have K3 := Lib.hid (bytes_ok (w1.heap.size + 1 + 1) r3 Z w3 (T3H.out.below hg2.bel) (by have := LZ.out; omega))
      clear hg2
      go_wp2_with fail
      refine K3.out.mono ?_
      rintro e w4 ⟨v3, rfl, hg3⟩
      obtain ⟨A1, c1, rfl, y1⟩ := (F1.out.keep hg3.bel).bytes
      obtain ⟨A2, c2, rfl, y2⟩ := (G2.out.keep hg3.bel).bytes
      obtain ⟨A3, c3, rfl, y3⟩ := hg3.bytes
      have cv1 := conv_text w4 A1 X c1 y1
      have cv2 := conv_text w4 A2 Y c2 y2
      have cv3 := conv_text w4 A3 Z c3 y3
      have BF : Hid (Below w.heap.size w w4) := by
        have s0 := HB.out.size
        have s1 := HBW.out.size
        have s2 := G1.out.bel.size
        have s3 := G2.out.bel.size
        exact (((HB.out.trans (HBW.out.mono s0)).trans (G1.out.bel.mono (by omega))).trans (G2.out.bel.mono (by omega))).trans (hg3.bel.mono (by omega))
      clear hg3 y1 y2 y3
      have hT : textOf X = textOf Y ++ textOf Z := by rw [HE2.out, textOf_append]
      have ka : (Op.stringOp .add (textOf Y) (textOf Z)).run Try.prog w4 = .ok (.string (textOf Y ++ textOf Z)) w4 := run_string_add_sum w4 _ _ (by rw [textOf_size, textOf_size]; have := LY.out; have := LZ.out; omega)
      generalize textOf X = TX at cv1 hT
      generalize textOf Y = TY at cv2 hT ka
      generalize textOf Z = TZ at cv3 hT ka
      subst hT
      go_wp2
      go_ret
      exact ⟨rfl, BF.out⟩
set_option maxHeartbeats 400000 in
theorem splits_out (l : List Int) (A : Option Addr) (cap : Nat) (x : Int) (w : World) (h : x < 0 ∨ (l.length : Int) < x ∨ 10000 < (l.length : Int)) (hm : l.length ≤ maxLen) :
    Calls Try.prog 7 #[.slice A l.length cap, .int .i64 x] w fun e w' => e = .returned (.bool true) ∧ Below w.heap.size w w' := by
  unfold maxLen at hm
  rcases (show x < 0 ∨ (0 ≤ x ∧ (l.length : Int) < x) ∨ (0 ≤ x ∧ x ≤ (l.length : Int) ∧ 10000 < (l.length : Int)) by omega) with h | ⟨h, h2⟩ | ⟨h, h2, h3⟩
  all_goals
    go_enter Try.func7, Try.ntmps7
    go_wp2_with (go_at_call 9; refine (awake_any _).mono ?_; rintro e w1 ⟨rfl, hb⟩; have HB := Lib.hid hb; clear hb)
    go_ret
    exact ⟨rfl, HB.out⟩
theorem splits_walk (l : List Int) (A : Option Addr) (cap : Nat) (x : Int) (w : World) (h : Ints w A l) :
    Calls Try.prog 7 #[.slice A l.length cap, .int .i64 x] w fun e w' => e = .returned (.bool true) ∧ Below w.heap.size w w' := by
  by_cases hx : x < 0 ∨ (l.length : Int) < x ∨ 10000 < (l.length : Int)
  · exact splits_out l A cap x w hx h.1
  · obtain ⟨k, rfl⟩ : ∃ k : Nat, x = (k : Int) := ⟨x.toNat, by omega⟩
    exact splits_in l A cap k w h (by omega) (by omega)
end Go.Proofs.Ythcmijppemochaa
