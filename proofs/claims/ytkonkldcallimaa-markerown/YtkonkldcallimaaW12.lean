/-
  The walk of MarkerOwn. Its conditions: the slice reads as steps.
-/
import Derived.Test.YtkonkldcallimaaW11
namespace Go.Proofs.Ytkonkldcallimaa
open Go.RowKit Go.Maps
open Go.Sort (grow)

theorem st_all {w0 W : World} {g B : Nat} {L : List Mk} {limit : Int} (s : St w0 W g B L limit) (hl : L.length ≤ 100000) : Calls Try.prog 21 #[.pointer (some ⟨g, 0, none⟩)] W fun r w' => ∃ A c, r = .returned (.slice A L.length c) ∧ Tgs 48 w' A L ∧ Below W.heap.size W w' ∧ L.length ≤ c ∧ (A = none → c = 0) :=
  all_any _ g B L limit W s.tab hl
theorem set_room {L : List Mk} {m : Mk} {limit : Int} (h : (L.length : Int) < limit) : setE L m limit = 0 := by
  unfold setE
  split
  · rfl
  · rw [if_neg (by omega)]
theorem setL_len {L : List Mk} {m : Mk} {limit : Int} : (setL L m limit).length ≤ L.length + 1 := by
  unfold setL
  split
  · omega
  · split
    · omega
    · rename_i h _
      rw [length_ins h]
      omega
theorem Scr.at2 {w : World} {b off : Nat} {l : List Step} (h : Scr w (some ⟨b, off, none⟩) l) {k : Nat} (hk : k < l.length) :
    w.cell? ⟨b, off + k * 4 + 1, none⟩ = some (.string l[k].m.k) ∧ w.cell? ⟨b, off + k * 4 + 2, none⟩ = some (.int .i64 l[k].m.s) ∧ w.cell? ⟨b, off + k * 4 + 3, none⟩ = some (.int .i64 l[k].m.r) := by
  obtain ⟨b', off', e, _, _, h1, h2, h3⟩ := h.at_ hk
  cases e
  exact ⟨h1, h2, h3⟩
theorem Tgs.at2 {e : TypeId} {w : World} {b off : Nat} {l : List Mk} (h : Tgs e w (some ⟨b, off, none⟩) l) {k : Nat} (hk : k < l.length) :
    w.cell? ⟨b, off + k * 3, none⟩ = some (.string l[k].k) ∧ w.cell? ⟨b, off + k * 3 + 1, none⟩ = some (.int .i64 l[k].s) ∧ w.cell? ⟨b, off + k * 3 + 2, none⟩ = some (.int .i64 l[k].r) := by
  obtain ⟨b', off', e, _, h1, h2, h3⟩ := h.at_ hk
  cases e
  exact ⟨h1, h2, h3⟩
def OwRel (l : List Step) (g B : Nat) (w : World) (s8 : Value) (wr : World) : Prop :=
  ∃ (k : Nat) (L : List Mk), k ≤ 200 ∧ k ≤ l.length ∧ s8 = .int .i64 (k : Int) ∧ St w wr g B L 1000 ∧ L.length ≤ k
def Ow2 (L : List Mk) (p : Mk → Bool) (W2 : World) (s9 s50 : Value) (wr : World) : Prop :=
  ∃ (j : Nat) (v : Value), j ≤ L.length ∧ v = s9 ∧ s50 = .int .i64 (j : Int) ∧ RowT 48 wr W2.heap.size v (out (L.take j) p) ∧ Below W2.heap.size W2 wr
def Ow3 (o : Nat) (W5 : World) (s114 : Value) (wr : World) : Prop := ∃ j : Nat, j ≤ o ∧ s114 = .int .i64 (j : Int) ∧ Below W5.heap.size W5 wr
theorem out_take {L : List Mk} {p : Mk → Bool} {j : Nat} (hj : j < L.length) : out (L.take (j + 1)) p = out (L.take j) p ++ (if p L[j] then [] else [L[j]]) := by
  unfold out
  rw [List.take_succ_eq_append_getElem hj, List.filter_append]
  congr 1
  cases h : p L[j] <;> simp [h]
set_option maxRecDepth 100000 in
set_option maxHeartbeats 8000000 in
theorem own_walk (l : List Step) (A : Option Addr) (n c : Nat) (se rq : Int) (w : World) (hs : Scr w A l) (hn : l.length = n) :
    Calls Try.prog 6 #[.slice A n c, .int .i64 se, .int .i64 rq] w fun e w' => e = .returned (.bool true) ∧ Below w.heap.size w w' := by
  have H := Lib.hid hs
  have HE := Lib.hid hn
  clear hs hn
  go_enter Try.func6, Try.ntmps6
  go_wp2_with fail
  refine (awake_any w).mono ?_
  rintro e w1 ⟨rfl, b1⟩
  have B1 := Lib.hid b1
  clear b1
  go_wp2_with fail
  refine (new_any w.heap.size 1000 w1 B1.out.size (by omega)).mono ?_
  rintro e w2 ⟨g, B, rfl, t2, b2, _, _⟩
  have S2 : Hid (St w w2 g B [] 1000) := ⟨t2, B1.out.trans (b2.mono B1.out.size)⟩
  clear t2 b2 B1
  go_wp2
  go_loopw [8] (OwRel l g B w) (fun i _ => 201 - (intOf i).toNat)
  case atStart => exact ⟨0, [], Nat.zero_le _, Nat.zero_le _, rfl, S2.out, Nat.le_refl _⟩
  case round =>
    obtain ⟨k, L, hk2, hkl, rfl, hm, hL⟩ := hrel
    have HM := Lib.hid hm
    have HLL := Lib.hid hL
    clear hm hL S2
    rw [HE.out] at hkl
    by_cases hlt : k < n ∧ k < 200
    · obtain ⟨hlt1, hlt2⟩ := hlt
      have hkl2 : k < l.length := by rw [HE.out]; exact hlt1
      obtain ⟨b, off, rfl, hbs, c0, c1, c2, c3⟩ := (H.out.below (Nat.le_refl _) HM.out.bel).at_ hkl2
      have HKS := Lib.hid (H.out.2.1 l[k] (List.getElem_mem hkl2))
      have CD := Lib.hid (fun W (hb : Below w.heap.size w W) => (H.out.below (Nat.le_refl _) hb).at2 hkl2)
      generalize l[k] = x at c0 c1 c2 c3 HKS CD
      obtain ⟨K, m⟩ := x
      simp only at c0 c1 c2 c3 HKS CD
      have hlti : (k : Int) < (n : Int) := by omega
      have hlti2 : (k : Int) < 200 := by omega
      have hk0 : (0 : Int) ≤ (k : Int) := by omega
      have HK2 : Hid (k ≤ 199 ∧ k + 1 ≤ l.length) := by show _ ∧ _; omega
      have C1 := Lib.hid (fun W (s : St w W g B L 1000) => st_set s m HKS.out)
      rw [set_room (by have := HLL.out; omega)] at C1
      have SD := Lib.hid HM.out.drew
      clear hkl2 hbs hk2 hkl
      go_wp2_with fail
      go_region_held3 (fun w' => w'.cell? ⟨b, off + k * 4 + 1, none⟩ = some (.string m.k) ∧ w'.cell? ⟨b, off + k * 4 + 2, none⟩ = some (.int .i64 m.s) ∧ w'.cell? ⟨b, off + k * 4 + 3, none⟩ = some (.int .i64 m.r)) (first | go_keep | exact CD.out _ SA.out.bel | exact ⟨c1, c2, c3⟩)
        (first | (go_at_call 10; (with_reducible refine (C1.out _ SD.out).mono ?_); rintro r wa ⟨rfl, sa, ka⟩; have SA := Lib.hid sa; clear sa ka))
      go_wp2
      go_roundw
      case rel => exact ⟨k + 1, _, by have := HK2.out; omega, HK2.out.2, by go_num, SA.out, by have := HLL.out; have := @setL_len L m 1000; omega⟩
      case measure => simp [intOf]; omega
    · have hcase : ¬ (k : Int) < (n : Int) ∨ ((k : Int) < (n : Int) ∧ ¬ (k : Int) < 200) := by omega
      have hL2 : L.length ≤ 200 := by have := HLL.out; omega
      have HL2 := Lib.hid hL2
      clear hlt hk2 hkl hL2
      have CA := Lib.hid (st_all HM.out (by have := HL2.out; omega))
      obtain ⟨a, ha⟩ : ∃ a, a = L.length := ⟨_, rfl⟩
      rw [← ha] at CA
      have HA := Lib.hid ha
      clear ha
      have hcase' : Hid (¬ (k : Int) < (n : Int) ∨ ((k : Int) < (n : Int) ∧ ¬ (k : Int) < 200)) := hcase
      rcases hcase with hc1 | ⟨hc1, hc2⟩
      all_goals
        go_wp2_with fail
        refine CA.out.mono ?_
        rintro r W2 ⟨A2, cc2, rfl, tg2, b2, hq2, hA2⟩
        have TG2 := Lib.hid tg2
        have S2 := Lib.hid (HM.out.below b2)
        clear tg2 b2 hq2 hA2 CA HM
        have han : (a : Int) ≤ 200 := by have := HL2.out; have := HA.out; omega
        go_wp2
        go_loopw [9, 50] (Ow2 L (paG se rq) W2) (fun _ i _ => a - (intOf i).toNat)
        case atStart => exact ⟨0, _, Nat.zero_le _, rfl, rfl, World.ownsRow_nil _ _ _ _, Below.refl _ _⟩
        case round =>
          obtain ⟨j, v9, hj, rfl, rfl, hrow, hb2⟩ := hrel
          have HROW := Lib.hid hrow
          have HB2 := Lib.hid hb2
          clear hrow hb2
          by_cases hja : j < a
          · have hjl : j < L.length := by have := HA.out; omega
            obtain ⟨b, off, rfl, hbs, d0, d1, d2⟩ := (TG2.out.below (Nat.le_refl _) HB2.out).at_ hjl
            have HT := Lib.hid (out_take (p := paG se rq) hjl)
            have HHK : Hid (hasK L L[j].k = true) := hasK_iff.mpr ⟨_, List.getElem_mem hjl, rfl⟩
            have CDM := Lib.hid (fun W (hb : Below W2.heap.size W2 W) => (TG2.out.below (Nat.le_refl _) hb).at2 hjl)
            have HLT : Hid ((out (L.take j) (paG se rq)).length ≤ j ∧ j ≤ 200) := ⟨Nat.le_trans (out_length_le _ _) (by rw [List.length_take]; omega), by omega⟩
            have HJ : Hid (j + 1 ≤ L.length) := hjl
            generalize L[j] = m at d0 d1 d2 HT HHK CDM
            have hji : (j : Int) < (a : Int) := by omega
            have hj0 : (0 : Int) ≤ (j : Int) := by omega
            clear hjl hbs hj
            by_cases hs : m.s = se
            · have hs1 : decide (m.s = se) = true := decide_eq_true hs
              have hs2 : (m.s == se) = true := by simpa using hs
              have hs3 : (m.s != se) = false := by simpa using hs
              by_cases hr : m.r > rq
              · have HPM : Hid (paG se rq m = false) := by show _ = _; simp [paG, hs]; omega
                clear hs
                obtain ⟨v', W', hrun, ho, hb'⟩ := RowT.grow el44 (w := W2) rfl (HROW.out.below ((Below.refl _ _).alloc (Nat.le_refl _) (.cells #[.string m.k, .int .i64 m.s, .int .i64 m.r] 48))) (HB2.out.alloc HB2.out.size (.cells #[.string m.k, .int .i64 m.s, .int .i64 m.r] 48)) (tgs_one (e := 48) wr m) rfl (by simp) (by have := HLT.out; simp; omega)
                have e0 := (CDM.out _ hb').1
                have CH := Lib.hid (has_any _ g B L 1000 m.k W' (S2.out.below hb').tab)
                rw [HHK.out] at CH
                have HO : Hid (RowT 48 W' W2.heap.size v' (out (L.take (j + 1)) (paG se rq))) := by
                  show RowT _ _ _ _ _
                  rw [HT.out, HPM.out, if_neg (by simp)]
                  exact ho
                have R1 := Lib.hid hrun
                have HBW := Lib.hid hb'
                clear ho hb' hrun
                go_wp2_with (first | (at_builtin; refine wpList_append_run rfl _ _ 44 44 rfl _ _ rfl rfl _ W' R1.out ?_))
                refine CH.out.mono ?_
                rintro r w9 ⟨rfl, b9⟩
                have HN9 := Lib.hid (HO.out.below b9)
                have HB9 := Lib.hid (HBW.out.trans (b9.mono HBW.out.size))
                clear b9
                go_wp2
                go_roundw
                case rel => exact ⟨j + 1, _, HJ.out, rfl, by go_num, HN9.out, HB9.out⟩
                case measure => simp [intOf]; omega
              · have HPM : Hid (paG se rq m = true) := by show _ = _; simp [paG, hs]; omega
                clear hs
                have CH := Lib.hid (has_any _ g B L 1000 m.k wr (S2.out.below HB2.out).tab)
                rw [HHK.out] at CH
                have HO : Hid (RowT 48 wr W2.heap.size v9 (out (L.take (j + 1)) (paG se rq))) := by
                  show RowT _ _ _ _ _
                  rw [HT.out, HPM.out, if_pos rfl, List.append_nil]
                  exact HROW.out
                go_wp2_with fail
                refine CH.out.mono ?_
                rintro r w9 ⟨rfl, b9⟩
                have HN9 := Lib.hid (HO.out.below b9)
                have HB9 := Lib.hid (HB2.out.trans (b9.mono HB2.out.size))
                clear b9
                go_wp2
                go_roundw
                case rel => exact ⟨j + 1, _, HJ.out, rfl, by go_num, HN9.out, HB9.out⟩
                case measure => simp [intOf]; omega
            · have HPM : Hid (paG se rq m = false) := by show _ = _; simp [paG, hs]
              obtain ⟨v', W', hrun, ho, hb'⟩ := RowT.grow el44 (w := W2) rfl (HROW.out.below ((Below.refl _ _).alloc (Nat.le_refl _) (.cells #[.string m.k, .int .i64 m.s, .int .i64 m.r] 48))) (HB2.out.alloc HB2.out.size (.cells #[.string m.k, .int .i64 m.s, .int .i64 m.r] 48)) (tgs_one (e := 48) wr m) rfl (by simp) (by have := HLT.out; simp; omega)
              have e0 := (CDM.out _ hb').1
              have CH := Lib.hid (has_any _ g B L 1000 m.k W' (S2.out.below hb').tab)
              rw [HHK.out] at CH
              have HO : Hid (RowT 48 W' W2.heap.size v' (out (L.take (j + 1)) (paG se rq))) := by
                show RowT _ _ _ _ _
                rw [HT.out, HPM.out, if_neg (by simp)]
                exact ho
              have R1 := Lib.hid hrun
              have HBW := Lib.hid hb'
              clear ho hb' hrun
              go_wp2_with (first | (at_builtin; refine wpList_append_run rfl _ _ 44 44 rfl _ _ rfl rfl _ W' R1.out ?_))
              refine CH.out.mono ?_
              rintro r w9 ⟨rfl, b9⟩
              have HN9 := Lib.hid (HO.out.below b9)
              have HB9 := Lib.hid (HBW.out.trans (b9.mono HBW.out.size))
              clear b9
              go_wp2
              go_roundw
              case rel => exact ⟨j + 1, _, HJ.out, rfl, by go_num, HN9.out, HB9.out⟩
              case measure => simp [intOf]; omega
          · have hje : j = L.length := by have := HA.out; omega
            have hji : ¬ (j : Int) < (a : Int) := by omega
            rw [hje, List.take_length] at HROW
            clear hje hj
            go_wp2_with fail
            refine (st_past (S2.out.below HB2.out) se rq).mono ?_
            rintro r w4 ⟨rfl, s4, k4⟩
            have S4 := Lib.hid s4
            have ROW4 := Lib.hid (HROW.out.keeps (by decide) k4)
            have hgo : gone L (paG se rq) = (a : Int) - ((out L (paG se rq)).length : Int) := by unfold gone; rw [HA.out]
            have hol := out_length_le L (paG se rq)
            have C5 := Lib.hid (st_all s4 (by have := HL2.out; omega))
            obtain ⟨A9, c9, hv9, hlc9, hn9⟩ := ROW4.out.form
            obtain ⟨M, hM⟩ : ∃ M, M = out L (paG se rq) := ⟨_, rfl⟩
            rw [← hM] at hgo hol C5 ROW4 S4 hv9
            obtain ⟨o, ho⟩ : ∃ o, o = M.length := ⟨_, rfl⟩
            rw [← ho] at hgo hol C5 hv9
            rw [hgo]
            have hoa : o ≤ a := by have := HA.out; omega
            have HO := Lib.hid ho
            subst hv9
            clear s4 k4 hgo hol hlc9 hn9 hM ho HROW HB2 S2 TG2
            go_wp2_with fail
            refine C5.out.mono ?_
            rintro r w5 ⟨A5, c5, rfl, tg5, b5, _, _⟩
            have S5 := Lib.hid (S4.out.below b5)
            have TG5 := Lib.hid tg5
            have TW5 : Hid (Tgs 48 w5 A9 M) := by
              obtain ⟨A', c', e, t', _⟩ := (ROW4.out.below b5).tgs (by have := HO.out; unfold maxLen; omega)
              cases e
              exact t'
            clear tg5 b5 C5 S4 ROW4
            go_wp2_with fail
            refine (st_len S5.out).mono ?_
            rintro r w6 ⟨rfl, rfl⟩
            rw [← HO.out]
            have hoi : (o : Int) ≤ 200 := by omega
            go_wp2
            go_loopw [114] (Ow3 o w5) (fun i _ => o - (intOf i).toNat)
            case atStart => exact ⟨0, Nat.zero_le _, rfl, Below.refl _ _⟩
            case round =>
              obtain ⟨i, hi, rfl, hb6⟩ := hrel
              have HB6 := Lib.hid hb6
              clear hb6
              by_cases hio : i < o
              · have hil : i < M.length := by have := HO.out; omega
                obtain ⟨x, xo, rfl, _, x0, x1, x2⟩ := (TG5.out.below (Nat.le_refl _) HB6.out).at_ hil
                obtain ⟨y, yo, rfl, _, y0, y1, y2⟩ := (TW5.out.below (Nat.le_refl _) HB6.out).at_ hil
                generalize M[i] = m at x0 x1 x2 y0 y1 y2
                have hii : (i : Int) < (o : Int) := by omega
                have hi0 : (0 : Int) ≤ (i : Int) := by omega
                have hio2 : i < 201 := by omega
                have HI9 : Hid (i + 1 ≤ o) := hio
                clear hil hi
                go_wp2_with fail
                go_quiet (fail)
                have HB7 := Lib.hid (HB6.out.trans ((below_drewN wr nq).mono HB6.out.size))
                generalize wr.drewN nq = W9 at HB7 ⊢
                go_wp2
                go_roundw
                case rel => exact ⟨i + 1, HI9.out, by go_num, HB7.out⟩
                case measure => simp [intOf]; omega
              · have hii : ¬ (i : Int) < (o : Int) := by omega
                go_wp2
                go_ret
                exact ⟨rfl, S5.out.bel.trans (HB6.out.mono S5.out.bel.size)⟩
end Go.Proofs.Ytkonkldcallimaa
