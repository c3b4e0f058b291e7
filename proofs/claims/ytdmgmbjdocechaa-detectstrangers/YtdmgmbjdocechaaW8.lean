/-
  The walk of DetectStrangers. Its conditions: the nodes lie in memory.
-/
import Derived.Test.YtdmgmbjdocechaaW6
namespace Go.Proofs.Ytdmgmbjdocechaa
open Go.RowKit Go.Maps Go.ChangeMaps
open Go.Sort (grow)

/-- Two detectors side by side, as they should be. -/
structure Pair (w0 W : World) (g B g' B' : Nat) (L : List Tm) (pat now ch : Int) (now' ch' : Int) : Prop where
  d : DetAt W w0.heap.size g B L pat now ch
  e : DetAt W w0.heap.size g' B' L pat now' ch'
  n1 : g ≠ g'
  n2 : B ≠ B'
  bel : Below w0.heap.size w0 W
section
variable {w0 W W' : World} {base g B g' B' : Nat} {L L' : List Tm} {pat now ch now' ch' n2 c2 : Int}
theorem DetAt.apart (d : DetAt W base g B L pat now ch) (e : DetAt W base g' B' L' pat now' ch') : g' ≠ B := by
  rintro rfl
  obtain ⟨es, c, hb⟩ := d.mp.isMap
  have := e.box
  unfold Box at this
  rw [hb] at this
  cases this
theorem Pair.swap (s : Pair w0 W g B g' B' L pat now ch now' ch') : Pair w0 W g' B' g B L pat now' ch' now ch := ⟨s.e, s.d, s.n1.symm, s.n2.symm, s.bel⟩
theorem Pair.turn (s : Pair w0 W g B g' B' L pat now ch now' ch') (hd : DetAt W' w0.heap.size g B L pat n2 c2) (hf : Fr [] [g, B] w0.heap.size W W') : Pair w0 W' g B g' B' L pat n2 c2 now' ch' := by
  have h1 := s.d.apart s.e
  have h2 := s.e.apart s.d
  refine ⟨hd, s.e.keep hf (by simp) (by simp) ?_ ?_, s.n1, s.n2, s.bel.trans hf.below⟩
  · simp
    exact ⟨s.n1.symm, h1⟩
  · simp
    exact ⟨fun e => h2 e.symm, s.n2.symm⟩
theorem Pair.below (s : Pair w0 W g B g' B' L pat now ch now' ch') (hb : Below W.heap.size W W') : Pair w0 W' g B g' B' L pat now ch now' ch' := ⟨s.d.below hb, s.e.below hb, s.n1, s.n2, s.bel.trans (hb.mono s.bel.size)⟩
theorem pair_tick (s : Pair w0 W g B g' B' L pat now ch now' ch') (hnow : now < 1000000) (hch : ch ≤ 1000000000) (hl : L.length ≤ 1000) {m : Nat} (hm : m = (dieL L pat (now + 1)).length) :
    Calls Try.prog 11 #[.pointer (some ⟨g, 0, none⟩)] W fun r w' => ∃ A c, r = .returned (.slice A m c) ∧ Pair w0 w' g B g' B' L pat (now + 1) (ch + (m : Int)) now' ch' := by
  refine (tick_any _ g B L pat now ch W s.d hnow hch hl s.bel.size).mono ?_
  rintro r w' ⟨v, rfl, ht, hd, hf⟩
  obtain ⟨A, c, rfl, _⟩ := ht.form
  rw [← hm] at hd ⊢
  exact ⟨A, c, rfl, s.turn hd hf⟩
theorem pair_live (s : Pair w0 W g B g' B' L pat now ch now' ch') (hnow : now ≤ 1000000) (hl : L.length ≤ 1000) {m : Nat} (hm : m = (liveL L pat now).length) :
    Calls Try.prog 16 #[.pointer (some ⟨g, 0, none⟩)] W fun r w' => ∃ A c, r = .returned (.slice A m c) ∧ Pair w0 w' g B g' B' L pat now ch now' ch' := by
  refine (live_any _ g B L pat now ch W s.d hnow hl).mono ?_
  rintro r w' ⟨v, rfl, ht, hb⟩
  obtain ⟨A, c, rfl, _⟩ := ht.form
  rw [← hm]
  exact ⟨A, c, rfl, s.below hb⟩
theorem pair_beat (s : Pair w0 W g B g' B' L pat now ch now' ch') (k : ByteArray) (hk : k.size ≤ maxLen) (hno : has L k = false) (hnow : now ≤ 1000000) (hch : ch ≤ 1000000000) (hl : L.length ≤ 1000) :
    Calls Try.prog 13 #[.pointer (some ⟨g, 0, none⟩), .string k] W fun r w' => r = .returned (.bool false) ∧ Pair w0 w' g B g' B' L pat now ch now' ch' := by
  refine (beat_any _ g B L pat now ch k W s.d hk hnow hch hl s.bel.size).mono ?_
  rintro r w' ⟨rfl, ht, hf⟩
  have e1 : beatB L pat now k = false := by simp [beatB, hno]
  have e2 : beatL L now k = L := by simp [beatL, hno]
  rw [e1, e2, show ch + b2i false = ch by simp [b2i]] at ht
  rw [e1]
  exact ⟨rfl, s.turn ht hf⟩
theorem pair_alive (s : Pair w0 W g B g' B' L pat now ch now' ch') (k : ByteArray) (hk : k.size ≤ maxLen) (hno : has L k = false) (hnow : now ≤ 1000000) :
    Calls Try.prog 18 #[.pointer (some ⟨g, 0, none⟩), .string k] W fun r w' => r = .returned (.bool false) ∧ W = w' := by
  have := alive_any _ g B L pat now ch k W s.d hk hnow
  rw [show alive L pat now k = false by simp [alive, hno]] at this
  exact this
end
theorem newL_has {l : List ByteArray} {k : ByteArray} (h : k ∉ l) : has (newL l) k = false := by
  rw [has_no]
  intro hk
  obtain ⟨x, hx, rfl⟩ := List.mem_map.mp hk
  exact h (newL_mem hx)
def SrRel (l : List ByteArray) (who : ByteArray) (n : Nat) (w : World) (s26 : Value) (wr : World) : Prop := ∃ k : Nat, k ≤ n ∧ s26 = .int .i64 (k : Int) ∧ (∀ x ∈ l.take k, x ≠ who) ∧ Below w.heap.size w wr
def SsRel (g B g' B' : Nat) (L : List Tm) (pat : Int) (T : Nat) (w : World) (s12 : Value) (wr : World) : Prop := ∃ (i : Nat) (ch : Int), i ≤ T ∧ s12 = .int .i64 (i : Int) ∧ Pair w wr g B g' B' L pat (i : Int) ch (i : Int) ch ∧ ch ≤ 1000 * (i : Int)
set_option maxRecDepth 100000 in
set_option maxHeartbeats 8000000 in
theorem strangers_walk (l : List ByteArray) (A : Option Addr) (n c : Nat) (who : ByteArray) (x y : Nat) (w : World) (hs : Sl eKy w A l) (hz : Sized l) (hn : l.length = n) (hk : who.size ≤ maxLen) (hx : x ≤ 255) (hy : y ≤ 255) :
    Calls Try.prog 6 #[.slice A n c, .string who, .agg #[.int .u8 (x : Int), .int .u8 (y : Int)]] w fun e w' => e = .returned (.bool true) ∧ Below w.heap.size w w' := by
  have b1 : ∀ nq, Below w.heap.size w ((w.alloc (.cells #[.int .u8 (x : Int), .int .u8 (y : Int)] 44)).drewN nq) := fun nq => ((Below.refl _ _).alloc (Nat.le_refl _) _).trans ((below_drewN _ nq).mono (by simp))
  have H := Lib.hid hs
  have HZ := Lib.hid hz
  have HE := Lib.hid hn
  have HK := Lib.hid hk
  have HXY : Hid (x ≤ 255 ∧ y ≤ 255) := ⟨hx, hy⟩
  have HB1 := Lib.hid b1
  have hx' : (x : Int) ≤ 255 := by omega
  have hy' : (y : Int) ≤ 255 := by omega
  clear hs hz hn hk hx hy b1
  go_enter Try.func6, Try.ntmps6
  go_wp2_with fail
  go_quiet (fail)
  have B1 := Lib.hid (HB1.out nq)
  generalize ((w.alloc (.cells #[.int .u8 (x : Int), .int .u8 (y : Int)] 44)).drewN nq) = W1 at B1 ⊢
  clear HB1
  obtain ⟨p, hp⟩ : ∃ p : Int, p = (x : Int) % 10 := ⟨_, rfl⟩
  rw [← hp]
  clear hp hx'
  go_wp2_with fail
  refine (awake_any W1).mono ?_
  rintro e w1 ⟨rfl, b2⟩
  have B2 := Lib.hid (B1.out.trans (b2.mono B1.out.size))
  clear b2 B1
  by_cases hn50 : (n : Int) > 50
  · go_wp2
    go_ret
    exact ⟨rfl, B2.out⟩
  · go_wp2
    go_loopw [26] (SrRel l who n w) (fun i _ => n - (intOf i).toNat)
    case atStart => exact ⟨0, Nat.zero_le _, rfl, by simp, B2.out⟩
    case round =>
      obtain ⟨k, hkn, rfl, hno, hb⟩ := hrel
      have HNO := Lib.hid hno
      have HB := Lib.hid hb
      clear hno hb B2
      by_cases hlt : k < n
      · have hkl : k < l.length := by rw [HE.out]; exact hlt
        obtain ⟨b, off, rfl, _, d0⟩ := at_ky (H.out.below (Nat.le_refl _) HB.out) hkl
        have hlti : (k : Int) < (n : Int) := by omega
        have hk0 : (0 : Int) ≤ (k : Int) := by omega
        have HS : Hid (l[k] ≠ who → ∀ x ∈ l.take (k + 1), x ≠ who) := fun hne x hx => by
          rw [List.take_succ_eq_append_getElem hkl] at hx
          rcases List.mem_append.mp hx with hx | hx
          · exact HNO.out x hx
          · rw [List.mem_singleton] at hx
            rw [hx]
            exact hne
        have HKK : Hid (k + 1 ≤ n) := hlt
        generalize l[k] = z at d0 HS
        clear hkl hkn
        by_cases hzw : z = who
        · subst hzw
          go_wp2
          go_ret
          exact ⟨rfl, HB.out⟩
        · have hzw' : (z.toList == who.toList) = false := toList_ne hzw
          have HS2 := Lib.hid (HS.out hzw)
          clear hzw HS
          go_wp2
          go_roundw
          case rel => exact ⟨k + 1, HKK.out, by go_num, HS2.out, HB.out⟩
          case measure => simp [intOf]; omega
      · have hlti : ¬ (k : Int) < (n : Int) := by omega
        have hke : k = l.length := by rw [HE.out]; omega
        have HNW : Hid (has (newL l) who = false) := newL_has fun hm => by
          have := HNO.out who (by rw [hke, List.take_length]; exact hm)
          exact this rfl
        have HNL : Hid ((newL l).length ≤ 1000) := by have := newL_length l; have := HE.out; show _ ≤ _; omega
        have CN := Lib.hid (new_any w.heap.size p l A n c wr (H.out.below (Nat.le_refl _) HB.out) HE.out HZ.out (by omega) HB.out.size)
        clear hke hkn hlt HNO
        go_wp2_with fail
        refine CN.out.mono ?_
        rintro r w2 ⟨g, B, rfl, d2, b2, _, _⟩
        have B2 := Lib.hid (HB.out.trans (b2.mono HB.out.size))
        have CN2 := Lib.hid (new_any w.heap.size p l A n c w2 (H.out.below (Nat.le_refl _) B2.out) HE.out HZ.out (by omega) B2.out.size)
        have D2 := Lib.hid d2
        clear d2 b2 CN
        go_wp2_with fail
        refine CN2.out.mono ?_
        rintro r w3 ⟨g', B', rfl, d3, b3, l1, l2⟩
        have P0 : Hid (Pair w w3 g B g' B' (newL l) (max p 1) 0 0 0 0) := by
          have h1 := D2.out.box.lt
          have h2 := D2.out.ltB
          exact ⟨D2.out.below b3, d3, by omega, by omega, B2.out.trans (b3.mono B2.out.size)⟩
        clear d3 b3 l1 l2 CN2 D2 B2 HB
        obtain ⟨T, hT⟩ : ∃ T : Nat, (T : Int) = (y : Int) % 20 := ⟨y % 20, by omega⟩
        have hT20 : T ≤ 20 := by omega
        have HTY := Lib.hid hT
        clear hT
        go_wp2
        go_loopw [12] (SsRel g B g' B' (newL l) (max p 1) T w) (fun i _ => T - (intOf i).toNat)
        case atStart => exact ⟨0, 0, Nat.zero_le _, rfl, P0.out, by omega⟩
        case round =>
          obtain ⟨i, ch, hi, rfl, hpr, hch⟩ := hrel
          have HP := Lib.hid hpr
          have HC := Lib.hid hch
          clear hpr hch P0
          have hTe : (y : Int) % 20 = (T : Int) := HTY.out.symm
          have h20 : (T : Int) ≤ 20 := by omega
          clear hT20
          by_cases hiT : i < T
          · have hiT' : (i : Int) < (T : Int) := by omega
            have hi0 : (0 : Int) ≤ (i : Int) := by omega
            obtain ⟨m, hm⟩ : ∃ m, m = (dieL (newL l) (max p 1) ((i : Int) + 1)).length := ⟨_, rfl⟩
            obtain ⟨m2, hm2⟩ : ∃ m2, m2 = (liveL (newL l) (max p 1) ((i : Int) + 1)).length := ⟨_, rfl⟩
            have HM : Hid (m ≤ 1000) := by show _ ≤ _; rw [hm]; exact Nat.le_trans (sel_length _ _) HNL.out
            have HI : Hid (i + 1 ≤ T) := hiT
            have HM1 := Lib.hid hm
            have HM2 := Lib.hid hm2
            have HCH : Hid (ch ≤ 100000 ∧ (i : Int) ≤ 20) := by have := HC.out; show _ ∧ _; omega
            have C1 := Lib.hid (pair_beat HP.out who HK.out HNW.out (by omega) (by have := HCH.out; omega) HNL.out)
            clear hm hm2 hi hiT
            go_wp2_with fail
            refine C1.out.mono ?_
            rintro r w4 ⟨rfl, p4⟩
            have C2 := Lib.hid (pair_alive p4 who HK.out HNW.out (by omega))
            have C3 := Lib.hid (pair_tick p4 (by omega) (by have := HCH.out; omega) HNL.out HM1.out)
            clear C1 p4
            go_wp2_with fail
            refine C2.out.mono ?_
            rintro r w5 ⟨rfl, rfl⟩
            clear C2
            go_wp2_with fail
            refine C3.out.mono ?_
            rintro r w6 ⟨A6, c6, rfl, p6⟩
            have C4 := Lib.hid (pair_tick p6.swap (by omega) (by have := HCH.out; omega) HNL.out HM1.out)
            clear C3 p6
            go_wp2_with fail
            refine C4.out.mono ?_
            rintro r w7 ⟨A7, c7, rfl, p7⟩
            have C5 := Lib.hid (pair_live p7.swap (by omega) HNL.out HM2.out)
            clear C4 p7
            go_wp2_with fail
            refine C5.out.mono ?_
            rintro r w8 ⟨A8, c8, rfl, p8⟩
            have C6 := Lib.hid (pair_live p8.swap (by omega) HNL.out HM2.out)
            clear C5 p8
            go_wp2_with fail
            refine C6.out.mono ?_
            rintro r w9 ⟨A9, c9, rfl, p9⟩
            have HR : Hid (SsRel g B g' B' (newL l) (max p 1) T w (.int .i64 ((i : Int) + 1)) w9) := ⟨i + 1, ch + (m : Int), HI.out, by rw [Int.natCast_add]; rfl, by have h := p9.swap; rw [Int.natCast_add]; exact h, by have := HM.out; have := HC.out; omega⟩
            clear C6 p9
            go_wp2
            go_roundw
            case rel => exact HR.out
            case measure => simp [intOf]; omega
          · have hiT' : ¬ (i : Int) < (T : Int) := by omega
            clear hi hiT
            go_wp2_with fail
            refine (changes_any _ g B _ _ _ _ _ HP.out.d).mono ?_
            rintro r w4 ⟨rfl, rfl⟩
            go_wp2_with fail
            refine (changes_any _ g' B' _ _ _ _ _ HP.out.e).mono ?_
            rintro r w5 ⟨rfl, rfl⟩
            go_wp2
            go_ret
            exact ⟨rfl, HP.out.bel⟩
end Go.Proofs.Ytdmgmbjdocechaa
