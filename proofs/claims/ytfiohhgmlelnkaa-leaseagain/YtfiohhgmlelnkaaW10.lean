/-
  The walk of LeaseAgain: two tables side by side. Its conditions: the slices read as keys.
-/
import Derived.Test.YtfiohhgmlelnkaaW8
namespace Go.Proofs.Ytfiohhgmlelnkaa
open Go.RowKit Go.Maps

theorem grT_le' {L : List Ls} {k : ByteArray} {limit last : Int} : last ≤ grT L k limit last ∧ grT L k limit last ≤ last + 1 := by
  unfold grT
  split <;> omega
theorem grV_gt {L : List Ls} {k : ByteArray} {limit last : Int} (h : grB L k limit = true) : grV L k limit last = last + 1 := by simp [grV, h]
/-- No lease has a token above the last. -/
def Toks (L : List Ls) (n : Int) : Prop := ∀ l ∈ L, l.t ≤ n
theorem Toks.gr {L : List Ls} {n : Int} (h : Toks L n) (k : ByteArray) (limit ticks : Int) : Toks (grL L k limit ticks n) (grT L k limit n) := by
  unfold grL grT
  split
  · intro l hl
    rcases List.mem_append.mp hl with hl | hl
    · have := h l hl
      omega
    · simp at hl
      subst hl
      exact Int.le_refl _
  · exact h
theorem Toks.no {L : List Ls} {n t : Int} (h : Toks L n) (ht : n < t) (k : ByteArray) : useB L k t = false ∧ useL L k t = L := by
  have e : useB L k t = false := by
    unfold useB
    cases hf : fnd L k with
    | none => rfl
    | some l =>
      have := h l (fnd_some hf).1
      simp
      omega
  simp [useL, e]
/-- Two tables. -/
structure Two (w0 W : World) (g B g' B' : Nat) (L M : List Ls) (last last' : Int) : Prop where
  one : TableAt W w0.heap.size g B L 1000 5 last
  two : TableAt W w0.heap.size g' B' M 1000 5 last'
  ng : g ≠ g'
  nB : B ≠ B'
  bel : Below w0.heap.size w0 W
section
variable {w0 W : World} {g B g' B' : Nat} {L M : List Ls} {last last' : Int}
theorem Two.box_kind (s : Two w0 W g B g' B' L M last last') : ∃ o, W.heap[g']? = some o ∧ kd o = 58 := ⟨_, s.two.box, rfl⟩
theorem Two.map_kind (s : Two w0 W g B g' B' L M last last') : ∃ o, W.heap[B']? = some o ∧ kd o = 1000 := by
  obtain ⟨es, c, h⟩ := s.two.isMap
  exact ⟨_, h, rfl⟩
theorem Two.gB (s : Two w0 W g B g' B' L M last last') : g' ≠ B ∧ g ≠ B' := by
  constructor
  · rintro rfl
    obtain ⟨o, h1, h2⟩ := s.box_kind
    obtain ⟨es, c, h⟩ := s.one.isMap
    rw [h] at h1
    cases h1
    simp [kd] at h2
  · rintro rfl
    obtain ⟨o, h1, h2⟩ := s.map_kind
    have h := s.one.box
    unfold Box at h
    rw [h] at h1
    cases h1
    simp [kd] at h2
theorem two_granted (s : Two w0 W g B g' B' L M last last') : Calls Try.prog 21 #[.pointer (some ⟨g, 0, none⟩)] W fun r w' => r = .returned (.int .i64 last) ∧ Two w0 w' g B g' B' L M last last' := by
  refine (granted_any _ g B L 1000 5 last W s.one).mono ?_
  rintro r w' ⟨rfl, rfl⟩
  exact ⟨rfl, s⟩
theorem two_grant (s : Two w0 W g B g' B' L M last last') (k : ByteArray) (hk : k.size ≤ maxLen) (h1 : 0 ≤ last') (h2 : last' < 9223372036854775807) : Calls Try.prog 11 #[.pointer (some ⟨g', 0, none⟩), .string k] W fun r w' =>
    r = .returned (.tuple #[.int .i64 (grV M k 1000 last'), .bool (grB M k 1000)]) ∧ Two w0 w' g B g' B' L (grL M k 1000 5 last') last (grT M k 1000 last') := by
  refine (grant_any _ g' B' M 1000 5 last' k W s.two hk s.bel.size (by omega) h2).mono ?_
  rintro r w' ⟨rfl, ht, hf⟩
  obtain ⟨o1, e1, e2⟩ := s.box_kind
  obtain ⟨o2, e3, e4⟩ := s.map_kind
  refine ⟨rfl, s.one.keep hf (by simp) (by simp) (by simp) ?_, ht, s.ng, s.nB, s.bel.trans hf.below⟩
  intro i hi
  simp at hi
  rcases hi with rfl | rfl
  · exact ⟨s.ng.symm, s.gB.1, o1, e1, by rw [e2]; simp⟩
  · exact ⟨s.gB.2.symm, s.nB.symm, o2, e3, by rw [e4]; simp⟩
theorem two_use (s : Two w0 W g B g' B' L M last last') (k : ByteArray) (t : Int) (hk : k.size ≤ maxLen) (hT : Toks L last) (ht : last < t) : Calls Try.prog 13 #[.pointer (some ⟨g, 0, none⟩), .string k, .int .i64 t] W fun r w' =>
    r = .returned (.bool false) ∧ Two w0 w' g B g' B' L M last last' := by
  have := use_any _ g B L 1000 5 last k t W s.one hk
  rw [(hT.no ht k).1, (hT.no ht k).2] at this
  refine this.mono ?_
  rintro r w' ⟨rfl, ho, hf⟩
  refine ⟨rfl, ho, s.two.keep hf (by simp) (by simp) (by simp) ?_, s.ng, s.nB, s.bel.trans hf.below⟩
  intro i hi
  simp at hi
  subst hi
  obtain ⟨es, c, h⟩ := s.one.isMap
  exact ⟨s.gB.1.symm, s.nB, _, h, by simp [kd]⟩
end
def AgRel (l : List ByteArray) (g B : Nat) (from_ : Int) (w : World) (s8 : Value) (wr : World) : Prop :=
  ∃ (k : Nat) (L : List Ls) (last : Int), k ≤ 100 ∧ k ≤ l.length ∧ s8 = .int .i64 (k : Int) ∧ TableAt wr w.heap.size g B L 1000 5 last ∧ Below w.heap.size w wr ∧ from_ ≤ last ∧ last ≤ from_ + k ∧ Toks L last
def AhRel (l : List ByteArray) (g B g' B' : Nat) (L : List Ls) (last : Int) (w : World) (s12 : Value) (wr : World) : Prop :=
  ∃ (k : Nat) (M : List Ls) (last' : Int), k ≤ 100 ∧ k ≤ l.length ∧ s12 = .int .i64 (k : Int) ∧ Two w wr g B g' B' L M last last' ∧ last ≤ last' ∧ last' ≤ last + k
set_option maxRecDepth 100000 in
set_option maxHeartbeats 8000000 in
theorem again_walk (a : Int) (l m : List ByteArray) (A A' : Option Addr) (n c n' c' : Nat) (w : World) (hs : Kys w A l) (hn : l.length = n) (hs' : Kys w A' m) (hn' : m.length = n') :
    Calls Try.prog 6 #[.int .i64 a, .slice A n c, .slice A' n' c'] w fun e w' => e = .returned (.bool true) ∧ Below w.heap.size w w' := by
  have H := Lib.hid hs
  have HE := Lib.hid hn
  have H' := Lib.hid hs'
  have HE' := Lib.hid hn'
  clear hs hn hs' hn'
  go_enter Try.func6, Try.ntmps6
  go_wp2_with fail
  refine (awake_any w).mono ?_
  rintro e w1 ⟨rfl, b1⟩
  have B1 := Lib.hid b1
  clear b1
  go_wp2_with fail
  refine (again_any w.heap.size 1000 5 5 a w1 B1.out.size rfl (by omega) (by omega)).mono ?_
  rintro e w2 ⟨g, B, rfl, t2, b2, _, _⟩
  have T2 := Lib.hid t2
  have B2 := Lib.hid (B1.out.trans (b2.mono B1.out.size))
  clear t2 b2 B1
  have hcase : (0 ≤ a ∧ a ≤ 9007199254740992) ∨ a < 0 ∨ (¬ a < 0 ∧ a > 9007199254740992) := by omega
  rcases hcase with ⟨h1, h2⟩ | h1 | ⟨h1, h2⟩
  · have hfr : agT a = a := by unfold agT; rw [if_pos ⟨h1, h2⟩]
    rw [hfr] at T2
    have HF : Hid (0 ≤ a ∧ a ≤ 9007199254740992) := ⟨h1, h2⟩
    have h1' : ¬ a < 0 := by omega
    have h2' : ¬ a > 9007199254740992 := by omega
    clear hfr h1 h2
    go_wp2_with fail
    refine (granted_any _ g B [] 1000 5 a w2 T2.out).mono ?_
    rintro r w3 ⟨rfl, rfl⟩
    go_wp2
    go_loopw [8] (AgRel l g B a w) (fun i _ => 101 - (intOf i).toNat)
    case atStart => exact ⟨0, [], a, Nat.zero_le _, Nat.zero_le _, rfl, T2.out, B2.out, Int.le_refl _, by omega, fun x hx => by simp at hx⟩
    case round =>
      obtain ⟨k, L, last, hk2, hkl, rfl, hm, hb, hl0, hl1, htk⟩ := hrel
      have HM := Lib.hid hm
      have HB := Lib.hid hb
      have HI : Hid (a ≤ last ∧ last ≤ a + k ∧ Toks L last) := ⟨hl0, hl1, htk⟩
      clear hm hb T2 B2 hl0 hl1 htk
      rw [HE.out] at hkl
      by_cases hlt : k < n ∧ k < 100
      · obtain ⟨hlt1, hlt2⟩ := hlt
        have hkl2 : k < l.length := by rw [HE.out]; exact hlt1
        obtain ⟨b, off, rfl, hbs, c0⟩ := (H.out.1.below (Nat.le_refl _) HB.out).at_ hkl2
        have HKS := Lib.hid (H.out.2 l[k] (List.getElem_mem hkl2))
        generalize l[k] = key at c0 HKS
        have hlti : (k : Int) < (n : Int) := by omega
        have hlti2 : (k : Int) < 100 := by omega
        have hk0 : (0 : Int) ≤ (k : Int) := by omega
        have CG := Lib.hid (grant_any w.heap.size g B L 1000 5 last key _ HM.out HKS.out HB.out.size (by have := HI.out.1; have := HF.out; omega) (by have := HI.out.2.1; have := HF.out; omega))
        clear hkl2 hbs hk2
        go_wp2_with fail
        refine CG.out.mono ?_
        rintro r w4 ⟨rfl, t4, f4⟩
        have T4 := Lib.hid t4
        have B4 := Lib.hid (HB.out.trans f4.below)
        have HT4 := Lib.hid (@grT_le' L key 1000 last)
        have HTK := Lib.hid (HI.out.2.2.gr key 1000 5)
        cases hok : grB L key 1000 with
        | true =>
          rw [grV_gt hok]
          have hgt : ¬ last + 1 ≤ a := by have := HI.out.1; omega
          clear t4 f4 CG HM HB hok
          go_wp2
          go_roundw
          case rel => exact ⟨k + 1, _, _, by omega, by have := HE.out; omega, by go_num, T4.out, B4.out, by have := HI.out.1; have := HT4.out; omega, by have := HI.out.2.1; have := HT4.out; omega, HTK.out⟩
          case measure => simp [intOf]; omega
        | false =>
          generalize grV L key 1000 last = v4
          clear t4 f4 CG HM HB hok
          go_wp2
          go_roundw
          case rel => exact ⟨k + 1, _, _, by omega, by have := HE.out; omega, by go_num, T4.out, B4.out, by have := HI.out.1; have := HT4.out; omega, by have := HI.out.2.1; have := HT4.out; omega, HTK.out⟩
          case measure => simp [intOf]; omega
      · have hcase : ¬ (k : Int) < (n : Int) ∨ ((k : Int) < (n : Int) ∧ ¬ (k : Int) < 100) := by omega
        have HLL : Hid (0 ≤ last ∧ last ≤ 9007199254740992 + 100) := by show _ ∧ _; have := HI.out.1; have := HI.out.2.1; have := HF.out; omega
        have HTK := Lib.hid HI.out.2.2
        clear hlt hk2 hkl HI
        rcases hcase with hc1 | ⟨hc1, hc2⟩
        all_goals
          go_wp2_with fail
          refine (granted_any _ g B L 1000 5 last _ HM.out).mono ?_
          rintro r w5 ⟨rfl, rfl⟩
          go_wp2_with fail
          refine (again_any w.heap.size 1000 5 5 last _ HB.out.size rfl (by omega) (by omega)).mono ?_
          rintro r w6 ⟨g', B', rfl, t6, b6, hg6, hB6⟩
          have S6 : Hid (Two w w6 g B g' B' L [] last (agT last)) := ⟨HM.out.below b6, t6, by have := HM.out.box.lt; omega, by obtain ⟨es, cc, hh⟩ := HM.out.isMap; have := lt_of_heap hh; omega, HB.out.trans (b6.mono HB.out.size)⟩
          clear t6 b6 hg6 hB6 HM HB
          go_wp2_with fail
          refine (two_granted S6.out).mono ?_
          rintro r w7 ⟨rfl, s7⟩
          have S7 := Lib.hid s7
          clear s7 S6
          by_cases hbig : last > 9007199254740992
          · go_wp2
            go_ret
            exact ⟨rfl, S7.out.bel⟩
          · have hag : agT last = last := by unfold agT; rw [if_pos ⟨HLL.out.1, by omega⟩]
            rw [hag] at S7
            clear hag
            go_wp2
            go_loopw [12] (AhRel m g B g' B' L last w) (fun i _ => 101 - (intOf i).toNat)
            case atStart => exact ⟨0, [], last, Nat.zero_le _, Nat.zero_le _, rfl, S7.out, Int.le_refl _, by omega⟩
            case round =>
              obtain ⟨j, M, last', hj2, hjl, rfl, hs7, hl0, hl1⟩ := hrel
              have S8 := Lib.hid hs7
              have HJ : Hid (last ≤ last' ∧ last' ≤ last + j) := ⟨hl0, hl1⟩
              clear hs7 S7 hl0 hl1
              rw [HE'.out] at hjl
              by_cases hlt : j < n' ∧ j < 100
              · obtain ⟨hlt1, hlt2⟩ := hlt
                have hjl2 : j < m.length := by rw [HE'.out]; exact hlt1
                obtain ⟨b', off', rfl, hbs', c0'⟩ := (H'.out.1.below (Nat.le_refl _) S8.out.bel).at_ hjl2
                have HKS := Lib.hid (H'.out.2 m[j] (List.getElem_mem hjl2))
                generalize m[j] = key at c0' HKS
                have hlti : (j : Int) < (n' : Int) := by omega
                have hlti2 : (j : Int) < 100 := by omega
                have hj0 : (0 : Int) ≤ (j : Int) := by omega
                have CG := Lib.hid (two_grant S8.out key HKS.out (by have := HJ.out.1; have := HLL.out; omega) (by have := HJ.out.2; have := HLL.out; omega))
                have hbl : b' < w.heap.size := by
                  obtain ⟨b1, o1, e1, e2, _⟩ := H'.out.1.2 (by omega)
                  injection e1 with e1
                  injection e1 with e1 _ _
                  subst e1
                  exact e2
                have HBL := Lib.hid hbl
                clear hjl2 hbs' hj2 hbl
                go_wp2_with fail
                refine CG.out.mono ?_
                rintro r w9 ⟨rfl, s9⟩
                have S9 := Lib.hid s9
                have HT9 := Lib.hid (@grT_le' M key 1000 last')
                have d0 : w9.cell? ⟨b', off' + j, none⟩ = some (.string key) := by
                  have e1 := S9.out.bel.cell (p := ⟨b', off' + j, none⟩) HBL.out
                  have e2 := S8.out.bel.cell (p := ⟨b', off' + j, none⟩) HBL.out
                  rw [e1, ← e2]
                  exact c0'
                cases hok : grB M key 1000 with
                | true =>
                  rw [grV_gt hok]
                  clear s9 CG S8 hok c0'
                  go_wp2_with fail
                  refine (two_granted S9.out).mono ?_
                  rintro r w10 ⟨rfl, s10⟩
                  have S10 := Lib.hid s10
                  have hgt : ¬ last' + 1 ≤ last := by have := HJ.out.1; omega
                  have d1 : w10.cell? ⟨b', off' + j, none⟩ = some (.string key) := by
                    have e1 := S9.out.bel.cell (p := ⟨b', off' + j, none⟩) HBL.out
                    have e2 := S10.out.bel.cell (p := ⟨b', off' + j, none⟩) HBL.out
                    rw [e2, ← e1]
                    exact d0
                  clear s10 S9 d0
                  go_wp2_with fail
                  refine (two_use S10.out key (last' + 1) HKS.out HTK.out (by have := HJ.out.1; omega)).mono ?_
                  rintro r w11 ⟨rfl, s11⟩
                  have S11 := Lib.hid s11
                  clear s11 S10 d1
                  go_wp2
                  go_roundw
                  case rel => exact ⟨j + 1, _, _, by omega, by have := HE'.out; omega, by go_num, S11.out, by have := HJ.out; have := HT9.out; omega, by have := HJ.out; have := HT9.out; omega⟩
                  case measure => simp [intOf]; omega
                | false =>
                  generalize grV M key 1000 last' = v4
                  clear s9 CG S8 hok c0'
                  go_wp2
                  go_roundw
                  case rel => exact ⟨j + 1, _, _, by omega, by have := HE'.out; omega, by go_num, S9.out, by have := HJ.out; have := HT9.out; omega, by have := HJ.out; have := HT9.out; omega⟩
                  case measure => simp [intOf]; omega
              · have hcase : ¬ (j : Int) < (n' : Int) ∨ ((j : Int) < (n' : Int) ∧ ¬ (j : Int) < 100) := by omega
                clear hlt hj2 hjl
                rcases hcase with hd1 | ⟨hd1, hd2⟩
                all_goals
                  go_wp2
                  go_ret
                  exact ⟨rfl, S8.out.bel⟩
  · have hfr : agT a = 0 := by unfold agT; rw [if_neg (by omega)]
    rw [hfr] at T2
    have HF : Hid ((0 : Int) ≤ 0 ∧ (0 : Int) ≤ 9007199254740992) := by show _ ∧ _; omega
    clear hfr
    go_wp2_with fail
    refine (granted_any _ g B [] 1000 5 (0 : Int) w2 T2.out).mono ?_
    rintro r w3 ⟨rfl, rfl⟩
    go_wp2
    go_loopw [8] (AgRel l g B (0 : Int) w) (fun i _ => 101 - (intOf i).toNat)
    case atStart => exact ⟨0, [], (0 : Int), Nat.zero_le _, Nat.zero_le _, rfl, T2.out, B2.out, Int.le_refl _, by omega, fun x hx => by simp at hx⟩
    case round =>
      obtain ⟨k, L, last, hk2, hkl, rfl, hm, hb, hl0, hl1, htk⟩ := hrel
      have HM := Lib.hid hm
      have HB := Lib.hid hb
      have HI : Hid ((0 : Int) ≤ last ∧ last ≤ (0 : Int) + k ∧ Toks L last) := ⟨hl0, hl1, htk⟩
      clear hm hb T2 B2 hl0 hl1 htk
      rw [HE.out] at hkl
      by_cases hlt : k < n ∧ k < 100
      · obtain ⟨hlt1, hlt2⟩ := hlt
        have hkl2 : k < l.length := by rw [HE.out]; exact hlt1
        obtain ⟨b, off, rfl, hbs, c0⟩ := (H.out.1.below (Nat.le_refl _) HB.out).at_ hkl2
        have HKS := Lib.hid (H.out.2 l[k] (List.getElem_mem hkl2))
        generalize l[k] = key at c0 HKS
        have hlti : (k : Int) < (n : Int) := by omega
        have hlti2 : (k : Int) < 100 := by omega
        have hk0 : (0 : Int) ≤ (k : Int) := by omega
        have CG := Lib.hid (grant_any w.heap.size g B L 1000 5 last key _ HM.out HKS.out HB.out.size (by have := HI.out.1; have := HF.out; omega) (by have := HI.out.2.1; have := HF.out; omega))
        clear hkl2 hbs hk2
        go_wp2_with fail
        refine CG.out.mono ?_
        rintro r w4 ⟨rfl, t4, f4⟩
        have T4 := Lib.hid t4
        have B4 := Lib.hid (HB.out.trans f4.below)
        have HT4 := Lib.hid (@grT_le' L key 1000 last)
        have HTK := Lib.hid (HI.out.2.2.gr key 1000 5)
        cases hok : grB L key 1000 with
        | true =>
          rw [grV_gt hok]
          have hgt : ¬ last + 1 ≤ (0 : Int) := by have := HI.out.1; omega
          clear t4 f4 CG HM HB hok
          go_wp2
          go_roundw
          case rel => exact ⟨k + 1, _, _, by omega, by have := HE.out; omega, by go_num, T4.out, B4.out, by have := HI.out.1; have := HT4.out; omega, by have := HI.out.2.1; have := HT4.out; omega, HTK.out⟩
          case measure => simp [intOf]; omega
        | false =>
          generalize grV L key 1000 last = v4
          clear t4 f4 CG HM HB hok
          go_wp2
          go_roundw
          case rel => exact ⟨k + 1, _, _, by omega, by have := HE.out; omega, by go_num, T4.out, B4.out, by have := HI.out.1; have := HT4.out; omega, by have := HI.out.2.1; have := HT4.out; omega, HTK.out⟩
          case measure => simp [intOf]; omega
      · have hcase : ¬ (k : Int) < (n : Int) ∨ ((k : Int) < (n : Int) ∧ ¬ (k : Int) < 100) := by omega
        have HLL : Hid (0 ≤ last ∧ last ≤ 9007199254740992 + 100) := by show _ ∧ _; have := HI.out.1; have := HI.out.2.1; have := HF.out; omega
        have HTK := Lib.hid HI.out.2.2
        clear hlt hk2 hkl HI
        rcases hcase with hc1 | ⟨hc1, hc2⟩
        all_goals
          go_wp2_with fail
          refine (granted_any _ g B L 1000 5 last _ HM.out).mono ?_
          rintro r w5 ⟨rfl, rfl⟩
          go_wp2_with fail
          refine (again_any w.heap.size 1000 5 5 last _ HB.out.size rfl (by omega) (by omega)).mono ?_
          rintro r w6 ⟨g', B', rfl, t6, b6, hg6, hB6⟩
          have S6 : Hid (Two w w6 g B g' B' L [] last (agT last)) := ⟨HM.out.below b6, t6, by have := HM.out.box.lt; omega, by obtain ⟨es, cc, hh⟩ := HM.out.isMap; have := lt_of_heap hh; omega, HB.out.trans (b6.mono HB.out.size)⟩
          clear t6 b6 hg6 hB6 HM HB
          go_wp2_with fail
          refine (two_granted S6.out).mono ?_
          rintro r w7 ⟨rfl, s7⟩
          have S7 := Lib.hid s7
          clear s7 S6
          by_cases hbig : last > 9007199254740992
          · go_wp2
            go_ret
            exact ⟨rfl, S7.out.bel⟩
          · have hag : agT last = last := by unfold agT; rw [if_pos ⟨HLL.out.1, by omega⟩]
            rw [hag] at S7
            clear hag
            go_wp2
            go_loopw [12] (AhRel m g B g' B' L last w) (fun i _ => 101 - (intOf i).toNat)
            case atStart => exact ⟨0, [], last, Nat.zero_le _, Nat.zero_le _, rfl, S7.out, Int.le_refl _, by omega⟩
            case round =>
              obtain ⟨j, M, last', hj2, hjl, rfl, hs7, hl0, hl1⟩ := hrel
              have S8 := Lib.hid hs7
              have HJ : Hid (last ≤ last' ∧ last' ≤ last + j) := ⟨hl0, hl1⟩
              clear hs7 S7 hl0 hl1
              rw [HE'.out] at hjl
              by_cases hlt : j < n' ∧ j < 100
              · obtain ⟨hlt1, hlt2⟩ := hlt
                have hjl2 : j < m.length := by rw [HE'.out]; exact hlt1
                obtain ⟨b', off', rfl, hbs', c0'⟩ := (H'.out.1.below (Nat.le_refl _) S8.out.bel).at_ hjl2
                have HKS := Lib.hid (H'.out.2 m[j] (List.getElem_mem hjl2))
                generalize m[j] = key at c0' HKS
                have hlti : (j : Int) < (n' : Int) := by omega
                have hlti2 : (j : Int) < 100 := by omega
                have hj0 : (0 : Int) ≤ (j : Int) := by omega
                have CG := Lib.hid (two_grant S8.out key HKS.out (by have := HJ.out.1; have := HLL.out; omega) (by have := HJ.out.2; have := HLL.out; omega))
                have hbl : b' < w.heap.size := by
                  obtain ⟨b1, o1, e1, e2, _⟩ := H'.out.1.2 (by omega)
                  injection e1 with e1
                  injection e1 with e1 _ _
                  subst e1
                  exact e2
                have HBL := Lib.hid hbl
                clear hjl2 hbs' hj2 hbl
                go_wp2_with fail
                refine CG.out.mono ?_
                rintro r w9 ⟨rfl, s9⟩
                have S9 := Lib.hid s9
                have HT9 := Lib.hid (@grT_le' M key 1000 last')
                have d0 : w9.cell? ⟨b', off' + j, none⟩ = some (.string key) := by
                  have e1 := S9.out.bel.cell (p := ⟨b', off' + j, none⟩) HBL.out
                  have e2 := S8.out.bel.cell (p := ⟨b', off' + j, none⟩) HBL.out
                  rw [e1, ← e2]
                  exact c0'
                cases hok : grB M key 1000 with
                | true =>
                  rw [grV_gt hok]
                  clear s9 CG S8 hok c0'
                  go_wp2_with fail
                  refine (two_granted S9.out).mono ?_
                  rintro r w10 ⟨rfl, s10⟩
                  have S10 := Lib.hid s10
                  have hgt : ¬ last' + 1 ≤ last := by have := HJ.out.1; omega
                  have d1 : w10.cell? ⟨b', off' + j, none⟩ = some (.string key) := by
                    have e1 := S9.out.bel.cell (p := ⟨b', off' + j, none⟩) HBL.out
                    have e2 := S10.out.bel.cell (p := ⟨b', off' + j, none⟩) HBL.out
                    rw [e2, ← e1]
                    exact d0
                  clear s10 S9 d0
                  go_wp2_with fail
                  refine (two_use S10.out key (last' + 1) HKS.out HTK.out (by have := HJ.out.1; omega)).mono ?_
                  rintro r w11 ⟨rfl, s11⟩
                  have S11 := Lib.hid s11
                  clear s11 S10 d1
                  go_wp2
                  go_roundw
                  case rel => exact ⟨j + 1, _, _, by omega, by have := HE'.out; omega, by go_num, S11.out, by have := HJ.out; have := HT9.out; omega, by have := HJ.out; have := HT9.out; omega⟩
                  case measure => simp [intOf]; omega
                | false =>
                  generalize grV M key 1000 last' = v4
                  clear s9 CG S8 hok c0'
                  go_wp2
                  go_roundw
                  case rel => exact ⟨j + 1, _, _, by omega, by have := HE'.out; omega, by go_num, S9.out, by have := HJ.out; have := HT9.out; omega, by have := HJ.out; have := HT9.out; omega⟩
                  case measure => simp [intOf]; omega
              · have hcase : ¬ (j : Int) < (n' : Int) ∨ ((j : Int) < (n' : Int) ∧ ¬ (j : Int) < 100) := by omega
                clear hlt hj2 hjl
                rcases hcase with hd1 | ⟨hd1, hd2⟩
                all_goals
                  go_wp2
                  go_ret
                  exact ⟨rfl, S8.out.bel⟩
  · have hfr : agT a = 0 := by unfold agT; rw [if_neg (by omega)]
    rw [hfr] at T2
    have HF : Hid ((0 : Int) ≤ 0 ∧ (0 : Int) ≤ 9007199254740992) := by show _ ∧ _; omega
    clear hfr
    go_wp2_with fail
    refine (granted_any _ g B [] 1000 5 (0 : Int) w2 T2.out).mono ?_
    rintro r w3 ⟨rfl, rfl⟩
    go_wp2
    go_loopw [8] (AgRel l g B (0 : Int) w) (fun i _ => 101 - (intOf i).toNat)
    case atStart => exact ⟨0, [], (0 : Int), Nat.zero_le _, Nat.zero_le _, rfl, T2.out, B2.out, Int.le_refl _, by omega, fun x hx => by simp at hx⟩
    case round =>
      obtain ⟨k, L, last, hk2, hkl, rfl, hm, hb, hl0, hl1, htk⟩ := hrel
      have HM := Lib.hid hm
      have HB := Lib.hid hb
      have HI : Hid ((0 : Int) ≤ last ∧ last ≤ (0 : Int) + k ∧ Toks L last) := ⟨hl0, hl1, htk⟩
      clear hm hb T2 B2 hl0 hl1 htk
      rw [HE.out] at hkl
      by_cases hlt : k < n ∧ k < 100
      · obtain ⟨hlt1, hlt2⟩ := hlt
        have hkl2 : k < l.length := by rw [HE.out]; exact hlt1
        obtain ⟨b, off, rfl, hbs, c0⟩ := (H.out.1.below (Nat.le_refl _) HB.out).at_ hkl2
        have HKS := Lib.hid (H.out.2 l[k] (List.getElem_mem hkl2))
        generalize l[k] = key at c0 HKS
        have hlti : (k : Int) < (n : Int) := by omega
        have hlti2 : (k : Int) < 100 := by omega
        have hk0 : (0 : Int) ≤ (k : Int) := by omega
        have CG := Lib.hid (grant_any w.heap.size g B L 1000 5 last key _ HM.out HKS.out HB.out.size (by have := HI.out.1; have := HF.out; omega) (by have := HI.out.2.1; have := HF.out; omega))
        clear hkl2 hbs hk2
        go_wp2_with fail
        refine CG.out.mono ?_
        rintro r w4 ⟨rfl, t4, f4⟩
        have T4 := Lib.hid t4
        have B4 := Lib.hid (HB.out.trans f4.below)
        have HT4 := Lib.hid (@grT_le' L key 1000 last)
        have HTK := Lib.hid (HI.out.2.2.gr key 1000 5)
        cases hok : grB L key 1000 with
        | true =>
          rw [grV_gt hok]
          have hgt : ¬ last + 1 ≤ (0 : Int) := by have := HI.out.1; omega
          clear t4 f4 CG HM HB hok
          go_wp2
          go_roundw
          case rel => exact ⟨k + 1, _, _, by omega, by have := HE.out; omega, by go_num, T4.out, B4.out, by have := HI.out.1; have := HT4.out; omega, by have := HI.out.2.1; have := HT4.out; omega, HTK.out⟩
          case measure => simp [intOf]; omega
        | false =>
          generalize grV L key 1000 last = v4
          clear t4 f4 CG HM HB hok
          go_wp2
          go_roundw
          case rel => exact ⟨k + 1, _, _, by omega, by have := HE.out; omega, by go_num, T4.out, B4.out, by have := HI.out.1; have := HT4.out; omega, by have := HI.out.2.1; have := HT4.out; omega, HTK.out⟩
          case measure => simp [intOf]; omega
      · have hcase : ¬ (k : Int) < (n : Int) ∨ ((k : Int) < (n : Int) ∧ ¬ (k : Int) < 100) := by omega
        have HLL : Hid (0 ≤ last ∧ last ≤ 9007199254740992 + 100) := by show _ ∧ _; have := HI.out.1; have := HI.out.2.1; have := HF.out; omega
        have HTK := Lib.hid HI.out.2.2
        clear hlt hk2 hkl HI
        rcases hcase with hc1 | ⟨hc1, hc2⟩
        all_goals
          go_wp2_with fail
          refine (granted_any _ g B L 1000 5 last _ HM.out).mono ?_
          rintro r w5 ⟨rfl, rfl⟩
          go_wp2_with fail
          refine (again_any w.heap.size 1000 5 5 last _ HB.out.size rfl (by omega) (by omega)).mono ?_
          rintro r w6 ⟨g', B', rfl, t6, b6, hg6, hB6⟩
          have S6 : Hid (Two w w6 g B g' B' L [] last (agT last)) := ⟨HM.out.below b6, t6, by have := HM.out.box.lt; omega, by obtain ⟨es, cc, hh⟩ := HM.out.isMap; have := lt_of_heap hh; omega, HB.out.trans (b6.mono HB.out.size)⟩
          clear t6 b6 hg6 hB6 HM HB
          go_wp2_with fail
          refine (two_granted S6.out).mono ?_
          rintro r w7 ⟨rfl, s7⟩
          have S7 := Lib.hid s7
          clear s7 S6
          by_cases hbig : last > 9007199254740992
          · go_wp2
            go_ret
            exact ⟨rfl, S7.out.bel⟩
          · have hag : agT last = last := by unfold agT; rw [if_pos ⟨HLL.out.1, by omega⟩]
            rw [hag] at S7
            clear hag
            go_wp2
            go_loopw [12] (AhRel m g B g' B' L last w) (fun i _ => 101 - (intOf i).toNat)
            case atStart => exact ⟨0, [], last, Nat.zero_le _, Nat.zero_le _, rfl, S7.out, Int.le_refl _, by omega⟩
            case round =>
              obtain ⟨j, M, last', hj2, hjl, rfl, hs7, hl0, hl1⟩ := hrel
              have S8 := Lib.hid hs7
              have HJ : Hid (last ≤ last' ∧ last' ≤ last + j) := ⟨hl0, hl1⟩
              clear hs7 S7 hl0 hl1
              rw [HE'.out] at hjl
              by_cases hlt : j < n' ∧ j < 100
              · obtain ⟨hlt1, hlt2⟩ := hlt
                have hjl2 : j < m.length := by rw [HE'.out]; exact hlt1
                obtain ⟨b', off', rfl, hbs', c0'⟩ := (H'.out.1.below (Nat.le_refl _) S8.out.bel).at_ hjl2
                have HKS := Lib.hid (H'.out.2 m[j] (List.getElem_mem hjl2))
                generalize m[j] = key at c0' HKS
                have hlti : (j : Int) < (n' : Int) := by omega
                have hlti2 : (j : Int) < 100 := by omega
                have hj0 : (0 : Int) ≤ (j : Int) := by omega
                have CG := Lib.hid (two_grant S8.out key HKS.out (by have := HJ.out.1; have := HLL.out; omega) (by have := HJ.out.2; have := HLL.out; omega))
                have hbl : b' < w.heap.size := by
                  obtain ⟨b1, o1, e1, e2, _⟩ := H'.out.1.2 (by omega)
                  injection e1 with e1
                  injection e1 with e1 _ _
                  subst e1
                  exact e2
                have HBL := Lib.hid hbl
                clear hjl2 hbs' hj2 hbl
                go_wp2_with fail
                refine CG.out.mono ?_
                rintro r w9 ⟨rfl, s9⟩
                have S9 := Lib.hid s9
                have HT9 := Lib.hid (@grT_le' M key 1000 last')
                have d0 : w9.cell? ⟨b', off' + j, none⟩ = some (.string key) := by
                  have e1 := S9.out.bel.cell (p := ⟨b', off' + j, none⟩) HBL.out
                  have e2 := S8.out.bel.cell (p := ⟨b', off' + j, none⟩) HBL.out
                  rw [e1, ← e2]
                  exact c0'
                cases hok : grB M key 1000 with
                | true =>
                  rw [grV_gt hok]
                  clear s9 CG S8 hok c0'
                  go_wp2_with fail
                  refine (two_granted S9.out).mono ?_
                  rintro r w10 ⟨rfl, s10⟩
                  have S10 := Lib.hid s10
                  have hgt : ¬ last' + 1 ≤ last := by have := HJ.out.1; omega
                  have d1 : w10.cell? ⟨b', off' + j, none⟩ = some (.string key) := by
                    have e1 := S9.out.bel.cell (p := ⟨b', off' + j, none⟩) HBL.out
                    have e2 := S10.out.bel.cell (p := ⟨b', off' + j, none⟩) HBL.out
                    rw [e2, ← e1]
                    exact d0
                  clear s10 S9 d0
                  go_wp2_with fail
                  refine (two_use S10.out key (last' + 1) HKS.out HTK.out (by have := HJ.out.1; omega)).mono ?_
                  rintro r w11 ⟨rfl, s11⟩
                  have S11 := Lib.hid s11
                  clear s11 S10 d1
                  go_wp2
                  go_roundw
                  case rel => exact ⟨j + 1, _, _, by omega, by have := HE'.out; omega, by go_num, S11.out, by have := HJ.out; have := HT9.out; omega, by have := HJ.out; have := HT9.out; omega⟩
                  case measure => simp [intOf]; omega
                | false =>
                  generalize grV M key 1000 last' = v4
                  clear s9 CG S8 hok c0'
                  go_wp2
                  go_roundw
                  case rel => exact ⟨j + 1, _, _, by omega, by have := HE'.out; omega, by go_num, S9.out, by have := HJ.out; have := HT9.out; omega, by have := HJ.out; have := HT9.out; omega⟩
                  case measure => simp [intOf]; omega
              · have hcase : ¬ (j : Int) < (n' : Int) ∨ ((j : Int) < (n' : Int) ∧ ¬ (j : Int) < 100) := by omega
                clear hlt hj2 hjl
                rcases hcase with hd1 | ⟨hd1, hd2⟩
                all_goals
                  go_wp2
                  go_ret
                  exact ⟨rfl, S8.out.bel⟩
end Go.Proofs.Ytfiohhgmlelnkaa
