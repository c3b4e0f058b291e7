/-
  The walk of RingAll. Its conditions: the texts lie in memory which is there.
-/
import Derived.Test.YtnbgmobcfbgenaaDoorW12
import Derived.Deep.CutBlock
namespace Go.Proofs.YtnbgmobcfbgenaaDoor
open Go.RowKit Go.Maps
open Go.Sort (grow)

theorem run_max2 {P : Program} (w : World) (ts : Array TypeId) (t : TypeId) (x y n : Int) (h : n = max x y) :
    (Builtin.max_ ts t #[.int .i64 x, .int .i64 y]).run P w = .ok (.int .i64 n) w := by
  subst h
  simp [Builtin.max_, Builtin.max2]
  try omega
/-- How often a text stands in a list. -/
def times (t : ByteArray) (L : List ByteArray) : Nat := (L.filter fun y => decide (y = t)).length
theorem times_take {t : ByteArray} {L : List ByteArray} {k : Nat} (h : k < L.length) : times t (L.take (k + 1)) = times t (L.take k) + if L[k] = t then 1 else 0 := by
  unfold times
  rw [List.take_succ_eq_append_getElem h, List.filter_append, List.length_append]
  congr 1
  by_cases e : L[k] = t
  · simp [e]
  · simp [e]
theorem times_one {t : ByteArray} {L : List ByteArray} (hn : L.Nodup) (h : t ∈ L) : times t L = 1 := by
  unfold times
  induction L with
  | nil => cases h
  | cons a r ih =>
    obtain ⟨h1, h2⟩ := List.nodup_cons.mp hn
    rcases List.mem_cons.mp h with rfl | hm
    · rw [List.filter_cons_of_pos (by simp), List.length_cons, List.filter_eq_nil_iff.mpr]
      · rfl
      · intro y hy
        simp
        rintro rfl
        exact h1 hy
    · rw [List.filter_cons_of_neg (by simp; rintro rfl; exact h1 hm)]
      exact ih h2 hm
theorem times_le (t : ByteArray) (L : List ByteArray) : times t L ≤ L.length := List.length_filter_le _ _
/-- The first of a ring's nodes from a number on. -/
theorem all_facts {S : List ByteArray} {H : Nat} (hH : H < 18446744073709551616) (hn : S.Nodup) :
    (S.length = 0 ∧ has S = false ∧ own S H = ⟨#[]⟩) ∨ (0 < S.length ∧ has S = true ∧ ∃ h : 0 < (ordS S H).length, (ordS S H)[0] = own S H) := by
  by_cases hS : S = []
  · left
    subst hS
    exact ⟨rfl, rfl, own_none rfl⟩
  · right
    obtain ⟨r, hr⟩ := own_cons hH hS
    have hl : 0 < (ordS S H).length := by rw [hr]; simp
    refine ⟨List.length_pos_iff.mpr hS, has_true.mpr hS, hl, ?_⟩
    simp [hr]
set_option maxRecDepth 100000 in
set_option maxHeartbeats 16000000 in
theorem all_walk (l : List ByteArray) (A : Option Addr) (n c : Nat) (key : ByteArray) (u : Int) (w : World) (hs : Sl eKy w A l) (hn : l.length = n) (hz : Sized l) (hk : key.size ≤ 140737488351232) :
    Calls Tryd.prog 4 #[.slice A n c, .string key, .int .i64 u] w fun e w' => e = .returned (.bool true) ∧ Below w.heap.size w w' := by
  have HS := Lib.hid hs
  have HN := Lib.hid hn
  have HZ := Lib.hid hz
  have HK : Hid (key.size ≤ maxLen) := by show _ ≤ _; unfold maxLen; omega
  clear hs hn hz hk
  go_enter Tryd.func4, Tryd.ntmps4
  go_wp2_with fail
  refine (awake_any w).mono ?_
  rintro e w1 ⟨rfl, b1⟩
  have B1 := Lib.hid b1
  clear b1
  by_cases h20 : (n : Int) > 20
  · go_wp2
    go_ret
    exact ⟨rfl, B1.out⟩
  · go_wp2_with fail
    refine (new_any l A n c w1 (HS.out.below (Nat.le_refl _) B1.out) HN.out HZ.out).mono ?_
    rintro e w2 ⟨g, rfl, hr, hb⟩
    have R2 := Lib.hid (hr.down B1.out.size)
    have B2 := Lib.hid (B1.out.trans (hb.mono B1.out.size))
    clear hr hb h20
    generalize nodesOf l = S at R2
    have hH := hsh_lt key
    have haf := all_facts hH R2.out.rs.nodup
    obtain ⟨L, hL⟩ : ∃ L, L = ordS S (hsh key) := ⟨_, rfl⟩
    obtain ⟨m, hm⟩ : ∃ m, m = S.length := ⟨_, rfl⟩
    have hLm : L.length = m := by rw [hL, hm, ordS_length hH R2.out.rs.nodup]
    have HLM := Lib.hid hLm
    have HLN : Hid (L.Nodup) := by show List.Nodup _; rw [hL]; exact ordS_nodup hH
    have HLS : Hid (∀ t ∈ S, t ∈ L) := by
      intro t ht
      rw [hL, mem_ordS hH]
      exact ht
    have hm8 : m ≤ 8 := by rw [hm]; exact R2.out.len
    have HM8 := Lib.hid hm8
    have HM := Lib.hid hm
    have HRS := Lib.hid R2.out.rs
    have C1 := Lib.hid (owners_any _ g S key 100 w2 R2.out B2.out.size HK.out)
    rw [← hL, show (100 : Int).toNat = 100 from rfl, List.take_of_length_le (by omega)] at C1
    have CU := Lib.hid (fun W (h : RingAt W w.heap.size g S) (hb : w.heap.size ≤ W.heap.size) => owners_any _ g S key u W h hb HK.out)
    rw [← hL] at CU
    rw [← hm] at haf
    have CO := Lib.hid (fun W (h : RingAt W w.heap.size g S) (hb : w.heap.size ≤ W.heap.size) => owner_any _ g S key W h hb HK.out)
    have HAF : Hid ((m = 0 ∧ has S = false ∧ own S (hsh key) = ⟨#[]⟩) ∨ (0 < m ∧ has S = true ∧ ∃ h : 0 < L.length, L[0] = own S (hsh key))) := by
      rcases haf with h | ⟨h1, h2, h3, h4⟩
      · exact .inl h
      · right
        subst hL
        exact ⟨h1, h2, h3, h4⟩
    clear hL hm hLm hH haf hm8
    go_wp2_with fail
    refine C1.out.mono ?_
    rintro e w3 ⟨v3, rfl, hrow, hr, hf⟩
    have R3 := Lib.hid hr
    have B3 := Lib.hid (B2.out.trans hf.below)
    have ROW3 := Lib.hid hrow
    obtain ⟨A3, m3, c3, e3⟩ : ∃ A3 m3 c3, v3 = .slice A3 m3 c3 := by
      obtain ⟨A1, c1, e1, _⟩ := hrow.form
      exact ⟨_, _, _, e1⟩
    subst e3
    clear hrow hr hf C1 R2 B2
    go_wp2_with fail
    refine (nodes_any _ g S w3 R3.out).mono ?_
    rintro e w4 ⟨v4, rfl, hrow, hb⟩
    have R4 := Lib.hid (R3.out.below hb)
    have B4 := Lib.hid (B3.out.trans (hb.mono B3.out.size))
    have ROW4 := Lib.hid (ROW3.out.below hb)
    have NOD4 := Lib.hid (hrow.down B3.out.size)
    obtain ⟨A4, m4, c4, e4⟩ : ∃ A3 m3 c3, v4 = .slice A3 m3 c3 := by
      obtain ⟨A1, c1, e1, _⟩ := hrow.form
      exact ⟨_, _, _, e1⟩
    subst e4
    clear hrow hb R3 B3 ROW3
    go_wp2_with fail
    refine (CO.out w4 R4.out B4.out.size).mono ?_
    rintro e w5 ⟨rfl, hr, hf⟩
    have R5 := Lib.hid hr
    have B5 := Lib.hid (B4.out.trans hf.below)
    have ROW5 := Lib.hid (ROW4.out.other R4.out hf)
    have NOD5 := Lib.hid (NOD4.out.other R4.out hf)
    clear hr hf R4 B4 ROW4 NOD4 CO
    generalize own S (hsh key) = first at HAF
    generalize has S = ok at HAF
    obtain ⟨A5, c5, e5, sl5, _⟩ := ROW5.out.sl (by rw [HLM.out]; unfold maxLen; have := HM8.out; omega)
    injection e5 with x1 x2 x3
    subst x1 x3
    rw [HLM.out] at x2
    subst x2
    obtain ⟨A6, c6, e6, sl6, _⟩ := NOD5.out.sl (by rw [← HM.out]; unfold maxLen; have := HM8.out; omega)
    injection e6 with x1 x2 x3
    subst x1 x3
    rw [← HM.out] at x2
    subst x2
    have SL5 := Lib.hid sl5
    have SL6 := Lib.hid sl6
    have hmI : (m4 : Int) ≤ 8 := by have := HM8.out; omega
    have hq8 : ¬ (m4 : Int) > 8 := by omega
    have hd8 : decide ((8 : Int) < (m4 : Int)) = false := decide_eq_false (by omega)
    clear sl5 sl6
    go_upto_region 8 with fail
    go_cut [69] from 35 to 68 (fun s69 wx => s69 = .bool false ∧ wx = w5)
    case first =>
      rcases HAF.out with ⟨hm0, rfl, rfl⟩ | ⟨hm0, rfl, h1, h2⟩
      · have q1 : ¬ (m4 : Int) > 0 := by omega
        have q2 : decide ((m4 : Int) > 0) = false := decide_eq_false q1
        have q3 : decide (0 < m4) = false := decide_eq_false (by omega)
        clear hm0
        go_wp2
        go_meet
        case rel => exact ⟨rfl, rfl⟩
      · have q1 : (m4 : Int) > 0 := by omega
        have q2 : decide ((m4 : Int) > 0) = true := decide_eq_true q1
        have q3 : decide (0 < m4) = true := decide_eq_true (by omega)
        obtain ⟨b5, o5, rfl, _, d5⟩ := at_ky SL5.out h1
        rw [h2, Nat.add_zero] at d5
        have q4 : (first.toList != first.toList) = false := by rw [bne, toList_eq rfl]; rfl
        clear hm0 h1 h2
        go_wp2
        go_meet
        case rel => exact ⟨rfl, rfl⟩
    case rest =>
      obtain ⟨rfl, rfl⟩ := hcut
      clear hq8 hd8
      go_wp2
      go_loopw [72] (fun s72 wr => ∃ i : Nat, i ≤ m4 ∧ s72 = .int .i64 (i : Int) ∧ Below wc.heap.size wc wr) (fun i _ => m4 - (intOf i).toNat)
      case atStart => exact ⟨0, Nat.zero_le _, rfl, Below.refl _ _⟩
      case round =>
        obtain ⟨i, him, rfl, hb⟩ := hrel
        have HB := Lib.hid hb
        clear hb
        by_cases hlt : i < m4
        · have hil : i < S.length := by rw [← HM.out]; exact hlt
          have HTI := Lib.hid (HLS.out _ (List.getElem_mem hil))
          have CT := Lib.hid (fun W (h : Below wc.heap.size wc W) => at_ky (SL6.out.below (Nat.le_refl _) h) hil)
          have CP : Hid (∀ d, d + 1 = i → ∃ s : ByteArray, Op.bytesLess s.toList S[i].toList = true ∧ ∀ W, Below wc.heap.size wc W → ∃ b off, A4 = some ⟨b, off, none⟩ ∧ W.cell? ⟨b, off + d, none⟩ = some (.string s)) := by
            intro d hd
            have hdl : d < S.length := by omega
            refine ⟨S[d], (List.pairwise_iff_getElem.mp HRS.out) d i hdl hil (by omega), fun W h => ?_⟩
            obtain ⟨b, off, e, _, hc⟩ := at_ky (SL6.out.below (Nat.le_refl _) h) hdl
            exact ⟨b, off, e, hc⟩
          generalize S[i] = t at HTI CT CP
          have hlti : (i : Int) < (m4 : Int) := by omega
          have hi0 : (0 : Int) ≤ (i : Int) := by omega
          have HK2 : Hid (i + 1 ≤ m4) := hlt
          clear hil hlt him
          go_wp2
          go_loopw [13, 77] (fun s13 s77 wi => ∃ j : Nat, j ≤ m4 ∧ s77 = .int .i64 (j : Int) ∧ s13 = .int .i64 (times t (L.take j) : Int) ∧ Below wc.heap.size wc wi) (fun _ j _ => m4 - (intOf j).toNat)
          case atStart => exact ⟨0, Nat.zero_le _, rfl, rfl, HB.out⟩
          case round =>
            obtain ⟨j, hjm, rfl, rfl, hb⟩ := hrel
            have HB2 := Lib.hid hb
            clear hb HB
            obtain ⟨z, hz⟩ : ∃ z, z = times t (L.take j) := ⟨_, rfl⟩
            rw [← hz]
            by_cases hlt : j < m4
            · have hjl : j < L.length := by rw [HLM.out]; exact hlt
              obtain ⟨b5, o5, rfl, _, d5⟩ := at_ky (SL5.out.below (Nat.le_refl _) HB2.out) hjl
              obtain ⟨b6, o6, rfl, _, d6⟩ := CT.out _ HB2.out
              have HTT := Lib.hid (times_take (t := t) hjl)
              generalize L[j] = y at d5 HTT
              rw [← hz] at HTT
              have hz8 : (z : Int) ≤ 8 := by
                have := times_le t (L.take j)
                rw [← hz, List.length_take] at this
                have := HLM.out
                have := HM8.out
                omega
              have hltj : (j : Int) < (m4 : Int) := by omega
              have hj0 : (0 : Int) ≤ (j : Int) := by omega
              have HJ : Hid (j + 1 ≤ m4) := hlt
              clear hjl hlt hjm hz
              by_cases hyt : y = t
              · have he : (y.toList == t.toList) = true := toList_eq hyt
                have HE : Hid (times t (L.take (j + 1)) = z + 1) := by show _ = _; rw [HTT.out, if_pos hyt]
                clear hyt HTT
                go_wp2_with fail
                go_quiet (fail)
                go_wp2
                go_roundw
                case rel => exact ⟨j + 1, HJ.out, by go_num, by rw [HE.out]; go_num, HB2.out.trans ((below_drewN _ _).mono HB2.out.size)⟩
                case measure => simp [intOf]; omega
              · have he : (y.toList == t.toList) = false := toList_ne hyt
                have HE : Hid (times t (L.take (j + 1)) = z) := by show _ = _; rw [HTT.out, if_neg hyt]; omega
                clear hyt HTT
                go_wp2_with fail
                go_quiet (fail)
                go_wp2
                go_roundw
                case rel => exact ⟨j + 1, HJ.out, by go_num, by rw [HE.out], HB2.out.trans ((below_drewN _ _).mono HB2.out.size)⟩
                case measure => simp [intOf]; omega
            · have hz1 : z = 1 := by
                rw [hz, List.take_of_length_le (by rw [HLM.out]; omega)]
                exact times_one HLN.out HTI.out
              have hltj : ¬ (j : Int) < (m4 : Int) := by omega
              clear hlt hjm hz
              subst hz1
              by_cases hi1 : i = 0
              · have p1 : ¬ (i : Int) > 0 := by omega
                have p2 : decide ((i : Int) > 0) = false := decide_eq_false p1
                have p3 : decide (0 < i) = false := decide_eq_false (by omega)
                clear hi1
                go_wp2_with fail
                go_quiet (fail)
                go_wp2
                go_roundw
                case rel => exact ⟨i + 1, HK2.out, by go_num, HB2.out.trans ((below_drewN _ _).mono HB2.out.size)⟩
                case measure => simp [intOf]; omega
              · obtain ⟨d, hd⟩ : ∃ d, d + 1 = i := ⟨i - 1, by omega⟩
                obtain ⟨s, hsl, hsc⟩ := CP.out d hd
                obtain ⟨b6, o6, rfl, ds⟩ := hsc _ HB2.out
                obtain ⟨b7, o7, e7, _, dt⟩ := CT.out _ HB2.out
                injection e7 with e7
                injection e7 with e71 e72 _
                subst e71 e72
                have p1 : (i : Int) > 0 := by omega
                have p2 : decide ((i : Int) > 0) = true := decide_eq_true p1
                have p3 : decide (0 < i) = true := decide_eq_true (by omega)
                have hw1 : IntKind.i64.wrap ((i : Int) - 1) = (d : Int) := by rw [IntWalk.i64_in _ (by omega)]; omega
                have hw2 : wrap64 ((i : Int) - 1) = (d : Int) := by unfold wrap64; omega
                have hdi : (d : Int) < (m4 : Int) := by omega
                have hdi0 : (0 : Int) ≤ (d : Int) := by omega
                clear hi1 hd
                go_wp2_with fail
                go_quiet (fail)
                go_wp2
                go_roundw
                case rel => exact ⟨i + 1, HK2.out, by go_num, HB2.out.trans ((below_drewN _ _).mono HB2.out.size)⟩
                case measure => simp [intOf]; omega
        · have hlti : ¬ (i : Int) < (m4 : Int) := by omega
          have R6 := Lib.hid (R5.out.below HB.out)
          have B6 := Lib.hid (B5.out.trans (HB.out.mono B5.out.size))
          have ROW6 := Lib.hid (ROW5.out.below HB.out)
          clear hlt him
          go_wp2_with fail
          refine (CU.out _ R6.out B6.out.size).mono ?_
          rintro r w7 ⟨v7, rfl, hrow, hr, hf⟩
          have B7 := Lib.hid (B6.out.trans hf.below)
          have ROW7 := ROW6.out.other R6.out hf
          have hl7 : (L.take u.toNat).length ≤ 8 := by rw [List.length_take, HLM.out]; have := HM8.out; omega
          obtain ⟨A7, c7, e7, sl7, _⟩ := hrow.sl (by unfold maxLen; omega)
          obtain ⟨A8, c8, e8, sl8, _⟩ := ROW7.sl (by rw [HLM.out]; unfold maxLen; have := HM8.out; omega)
          injection e8 with x1 x2 x3
          subst x1 x3
          obtain ⟨m7, hm7⟩ : ∃ m7, m7 = (L.take u.toNat).length := ⟨_, rfl⟩
          rw [← hm7] at e7 hl7
          subst e7
          obtain ⟨mn, hmn⟩ : ∃ mn, mn = min u (m4 : Int) := ⟨_, rfl⟩
          have hmin : ∀ w, (Builtin.min_ #[3, 3] 3 #[.int .i64 u, .int .i64 (m4 : Int)]).run Tryd.prog w = .ok (.int .i64 mn) w := fun w => run_min2 w _ _ _ _ _ hmn
          have hmx : (m7 : Int) = max 0 mn := by
            rw [hm7, hmn, List.length_take, HLM.out]
            omega
          have hmax : ∀ w, (Builtin.max_ #[3, 3] 3 #[.int .i64 0, .int .i64 mn]).run Tryd.prog w = .ok (.int .i64 (m7 : Int)) w := fun w => run_max2 w _ _ _ _ _ hmx
          have hm7I : (m7 : Int) ≤ 8 := by omega
          have HM7 := Lib.hid hm7
          have SL7 := Lib.hid sl7
          have SL8 := Lib.hid sl8
          clear hrow hr hf ROW7 sl7 sl8 x2 hm7 hl7 hmn hmx
          go_wp2
          go_loopw [125] (fun s125 wi => ∃ k : Nat, k ≤ m7 ∧ s125 = .int .i64 (k : Int) ∧ Below w7.heap.size w7 wi) (fun k _ => m7 - (intOf k).toNat)
          case atStart => exact ⟨0, Nat.zero_le _, rfl, Below.refl _ _⟩
          case round =>
            obtain ⟨k, hkm, rfl, hb⟩ := hrel
            have HB2 := Lib.hid hb
            clear hb
            by_cases hlt : k < m7
            · have hkl : k < (L.take u.toNat).length := by rw [← HM7.out]; exact hlt
              have hkL : k < L.length := by rw [List.length_take] at hkl; omega
              obtain ⟨b5, o5, rfl, _, d5⟩ := at_ky (SL7.out.below (Nat.le_refl _) HB2.out) hkl
              obtain ⟨b6, o6, rfl, _, d6⟩ := at_ky (SL8.out.below (Nat.le_refl _) HB2.out) hkL
              rw [List.getElem_take] at d5
              generalize L[k] = y at d5 d6
              have he2 : (y.toList != y.toList) = false := by rw [bne, toList_eq rfl]; rfl
              have hltk : (k : Int) < (m7 : Int) := by omega
              have hk0 : (0 : Int) ≤ (k : Int) := by omega
              have hltk4 : (k : Int) < (m4 : Int) := by have := HLM.out; omega
              have HJ : Hid (k + 1 ≤ m7) := hlt
              clear hkl hkL hlt hkm
              go_wp2_with fail
              go_quiet (fail)
              go_wp2
              go_roundw
              case rel => exact ⟨k + 1, HJ.out, by go_num, HB2.out.trans ((below_drewN _ _).mono HB2.out.size)⟩
              case measure => simp [intOf]; omega
            · have hltk : ¬ (k : Int) < (m7 : Int) := by omega
              clear hlt hkm
              go_wp2
              go_ret
              exact ⟨rfl, B7.out.trans (HB2.out.mono B7.out.size)⟩
end Go.Proofs.YtnbgmobcfbgenaaDoor
