/-
  The walk of RingOwns. Its conditions: the texts lie in memory which is there.
-/
import Derived.Test.YtnbgmobcfbgenaaGreatDoorW21
namespace Go.Proofs.YtnbgmobcfbgenaaGreatDoor
open Go.RowKit Go.Maps
open Go.Sort (grow)

/-- Owner, beside what the document's Owners of one says. -/
theorem one_facts {S : List ByteArray} {H : Nat} (hH : H < 18446744073709551616) : (has S = false ∧ own S H = ⟨#[]⟩ ∧ (ordS S H).take 1 = []) ∨ (has S = true ∧ (ordS S H).take 1 = [own S H]) := by
  by_cases hS : S = []
  · left
    subst hS
    exact ⟨rfl, own_none rfl, by rw [ordS_nil]; rfl⟩
  · right
    obtain ⟨r, hr⟩ := own_cons hH hS
    exact ⟨has_true.mpr hS, by rw [hr]; rfl⟩
theorem bytes_empty : (ByteArray.mk #[]).toList = [] := by rw [toList_data]
/-- Two rows side by side, a ring between. -/
theorem same_rows {w : World} {base base' : Nat} {v1 v2 : Value} {l m : List ByteArray} (h1 : RowT eKy 9 w base v1 l) (h2 : RowT eKy 9 w base' v2 m) (h8 : l.length ≤ 1000) (h9 : m.length ≤ 1000) :
    Calls Tryz.prog 13 #[v1, v2] w fun r w' => r = .returned (.bool (decide (l = m))) ∧ Below w.heap.size w w' := by
  obtain ⟨A, c, rfl, sl, _⟩ := h1.sl (by unfold maxLen; omega)
  obtain ⟨B, d, rfl, sm, _⟩ := h2.sl (by unfold maxLen; omega)
  exact same_any l m A B _ c _ d w sl sm rfl rfl h8
set_option maxRecDepth 100000 in
set_option maxHeartbeats 16000000 in
theorem owns_walk (l : List ByteArray) (A : Option Addr) (n c : Nat) (key : ByteArray) (u : Int) (w : World) (hs : Sl eKy w A l) (hn : l.length = n) (hz : Sized l) (hk : key.size ≤ 140737488351232) :
    Calls Tryz.prog 3 #[.slice A n c, .string key, .int .i64 u] w fun e w' => e = .returned (.bool true) ∧ Below w.heap.size w w' := by
  have HS := Lib.hid hs
  have HN := Lib.hid hn
  have HZ := Lib.hid hz
  have HKZ := Lib.hid hk
  have HK : Hid (key.size ≤ maxLen) := by show _ ≤ _; unfold maxLen; omega
  clear hs hn hz hk
  go_enter Tryz.func3, Tryz.ntmps3
  go_wp2_with fail
  refine (awake_any w).mono ?_
  rintro e w1 ⟨rfl, b1⟩
  have B1 := Lib.hid b1
  clear b1
  go_wp2_with fail
  refine (short_any l A n c key w1 (HS.out.below (Nat.le_refl _) B1.out) HN.out).mono ?_
  rintro e w2 ⟨⟨sb, rfl⟩, rfl⟩
  cases sb with
  | false =>
    go_wp2
    go_ret
    exact ⟨rfl, B1.out⟩
  | true =>
    go_wp2_with fail
    refine (new_any l A n c w1 (HS.out.below (Nat.le_refl _) B1.out) HN.out HZ.out).mono ?_
    rintro e w2 ⟨g, rfl, hr, hb⟩
    have R2 := Lib.hid (hr.down B1.out.size)
    have B2 := Lib.hid (B1.out.trans (hb.mono B1.out.size))
    clear hr hb
    obtain ⟨S, hS⟩ : ∃ S, S = nodesOf l := ⟨_, rfl⟩
    rw [← hS] at R2
    have HSN := Lib.hid hS
    clear hS
    go_wp2_with fail
    refine (refowners_any l A n c key u w2 (HS.out.below (Nat.le_refl _) B2.out) HN.out HZ.out HK.out).mono ?_
    rintro e w3 ⟨v3, rfl, hrow, hb⟩
    rw [← HSN.out] at hrow
    have R3 := Lib.hid (R2.out.below hb)
    have W3' := Lib.hid (hrow.down B2.out.size)
    have B3 := Lib.hid (B2.out.trans (hb.mono B2.out.size))
    obtain ⟨A3, m3, c3, e3⟩ : ∃ A3 m3 c3, v3 = .slice A3 m3 c3 := by
      obtain ⟨A1, c1, e1, _⟩ := hrow.form
      exact ⟨_, _, _, e1⟩
    subst e3
    clear hrow hb R2 B2
    go_wp2_with fail
    refine (refowners_any l A n c key 1 w3 (HS.out.below (Nat.le_refl _) B3.out) HN.out HZ.out HK.out).mono ?_
    rintro e w4 ⟨v4, rfl, hrow, hb⟩
    rw [← HSN.out, show (1 : Int).toNat = 1 from rfl] at hrow
    have R4 := Lib.hid (R3.out.below hb)
    have W4' := Lib.hid (W3'.out.below hb)
    have B4 := Lib.hid (B3.out.trans (hb.mono B3.out.size))
    have ONE := Lib.hid (hrow.down B3.out.size)
    obtain ⟨A4, c4, e4, hl4⟩ := hrow.form
    subst e4
    obtain ⟨m4, hm4⟩ : ∃ m4, m4 = ((ordS S (hsh key)).take 1).length := ⟨_, rfl⟩
    rw [← hm4]
    have HM4 := Lib.hid hm4
    have hof := one_facts (S := S) (hsh_lt key)
    clear hrow hb hm4 hl4 R3 B3 W3'
    go_wp2_with fail
    refine (owner_any _ g S key w4 R4.out B4.out.size HK.out).mono ?_
    rintro e w5 ⟨rfl, hr, hf⟩
    have R5 := Lib.hid hr
    have B5 := Lib.hid (B4.out.trans hf.below)
    have W5' := Lib.hid (W4'.out.other R4.out hf)
    have ONE5 := Lib.hid (ONE.out.other R4.out hf)
    have HOF := Lib.hid hof
    clear hr hf hof R4 B4 W4' ONE
    obtain ⟨x, hx⟩ : ∃ x, x = own S (hsh key) := ⟨_, rfl⟩
    obtain ⟨ok, hok⟩ : ∃ ok, ok = has S := ⟨_, rfl⟩
    rw [← hx, ← hok]
    have HXO := Lib.hid hx
    have HOK := Lib.hid hok
    clear hx hok
    go_upto_region 9 with fail
    go_cut [58] from 36 to 57 (fun s58 wx => s58 = .bool false ∧ wx = w5)
    case first =>
      rcases HOF.out with ⟨h1, h2, h3⟩ | ⟨h1, h3⟩
      · have e1 : ok = false := by rw [HOK.out]; exact h1
        have e2 : x = ⟨#[]⟩ := by rw [HXO.out]; exact h2
        have e3 : m4 = 0 := by rw [HM4.out, h3]; rfl
        clear h1 h2 h3 HOF HXO HOK HM4 ONE5
        subst e1 e2 e3
        go_wp2
        go_meet
        case rel => exact ⟨rfl, rfl⟩
      · have e1 : ok = true := by rw [HOK.out]; exact h1
        have e3 : m4 = 1 := by rw [HM4.out, h3]; rfl
        have hrow := ONE5.out
        rw [h3, ← HXO.out] at hrow
        obtain ⟨A6, c6, e6, sl6, _⟩ := hrow.sl (by unfold maxLen; simp)
        injection e6 with e61 e62 e63
        subst e61
        obtain ⟨b6, o6, rfl, _, d6⟩ := at_ky sl6 (k := 0) (by simp)
        have d7 : w5.cell? ⟨b6, o6, none⟩ = some (.string x) := d6
        have he2 : (x.toList != x.toList) = false := by rw [bne, toList_eq rfl]; rfl
        clear h1 h3 HOF HXO HOK HM4 ONE5 hrow e62 e63 sl6 d6
        subst e1 e3
        go_wp2
        go_meet
        case rel => exact ⟨rfl, rfl⟩
    case rest =>
      obtain ⟨rfl, rfl⟩ := hcut
      clear HOF HXO HOK ONE5
      have CN := Lib.hid (owner_nil key wc HK.out)
      go_wp2_with fail
      refine CN.out.mono ?_
      rintro e w6 ⟨rfl, hb⟩
      have R6 := Lib.hid (R5.out.below hb)
      have B6 := Lib.hid (B5.out.trans (hb.mono B5.out.size))
      have W6' := Lib.hid (W5'.out.below hb)
      clear hb CN R5 B5 W5'
      go_wp2_with fail
      refine (owners_nil key u w6 HK.out).mono ?_
      rintro e w7 ⟨rfl, hb⟩
      have R7 := Lib.hid (R6.out.below hb)
      have B7 := Lib.hid (B6.out.trans (hb.mono B6.out.size))
      have W7' := Lib.hid (W6'.out.below hb)
      clear hb R6 B6 W6'
      go_wp2_with fail
      refine (nodes_nil w7).mono ?_
      rintro e w8 ⟨rfl, rfl⟩
      go_wp2_with fail
      refine (without_nil key w7).mono ?_
      rintro e w8 ⟨g8, rfl, hr, hb⟩
      rw [withoutN_nil] at hr
      have R8 := Lib.hid (R7.out.below hb)
      have B8 := Lib.hid (B7.out.trans (hb.mono B7.out.size))
      have W8' := Lib.hid (W7'.out.below hb)
      have N8 := Lib.hid hr
      clear hb hr R7 B7 W7'
      go_wp2_with fail
      refine (nodes_any _ g8 [] w8 N8.out).mono ?_
      rintro e w9 ⟨v9, rfl, hrow, hb⟩
      have R9 := Lib.hid (R8.out.below hb)
      have B9 := Lib.hid (B8.out.trans (hb.mono B8.out.size))
      have W9' := Lib.hid (W8'.out.below hb)
      obtain ⟨A9, m9, c9, e9, hm9⟩ : ∃ A m c, v9 = .slice A m c ∧ m = 0 := by
        obtain ⟨A1, c1, e1, _⟩ := hrow.form
        exact ⟨_, _, _, e1, rfl⟩
      subst e9 hm9
      clear hb hrow R8 B8 W8' N8
      go_wp2_with fail
      refine (with_nil key w9 HKZ.out).mono ?_
      rintro e w10 ⟨g10, rfl, hr, hb⟩
      rw [withN_nil] at hr
      have R10 := Lib.hid (R9.out.below hb)
      have B10 := Lib.hid (B9.out.trans (hb.mono B9.out.size))
      have W10' := Lib.hid (W9'.out.below hb)
      have N10 := Lib.hid hr
      clear hb hr R9 B9 W9'
      go_wp2_with fail
      refine (nodes_any _ g10 [key] w10 N10.out).mono ?_
      rintro e w11 ⟨v11, rfl, hrow, hb⟩
      have R11 := Lib.hid (R10.out.below hb)
      have B11 := Lib.hid (B10.out.trans (hb.mono B10.out.size))
      have W11' := Lib.hid (W10'.out.below hb)
      obtain ⟨A11, m11, c11, e11, hm11⟩ : ∃ A m c, v11 = .slice A m c ∧ m = 1 := by
        obtain ⟨A1, c1, e1, _⟩ := hrow.form
        exact ⟨_, _, _, e1, rfl⟩
      subst e11 hm11
      have bK : Below w11.heap.size w11 (w11.alloc (.cells #[.string key] 9)) := (Below.refl _ _).alloc (Nat.le_refl _) _
      have hone : RowT eKy 9 (w11.alloc (.cells #[.string key] 9)) w11.heap.size (.slice (some ⟨w11.heap.size, 0, none⟩) 1 1) [key] := RowT.one (E := eKy) w11 key
      have CS := Lib.hid (same_rows (hrow.below bK) hone (by simp) (by simp))
      rw [decide_eq_true rfl] at CS
      have R12 := Lib.hid (R11.out.below bK)
      have B12 := Lib.hid (B11.out.trans (bK.mono B11.out.size))
      have W12' := Lib.hid (W11'.out.below bK)
      clear hb hrow R10 B10 W10' N10 R11 B11 W11' bK hone
      go_wp2_with fail
      refine CS.out.mono ?_
      rintro e w13 ⟨rfl, hb⟩
      have R13 := Lib.hid (R12.out.below hb)
      have B13 := Lib.hid (B12.out.trans (hb.mono B12.out.size))
      have W13' := Lib.hid (W12'.out.below hb)
      clear hb CS R12 B12 W12'
      go_wp2_with fail
      refine (owners_any _ g S key u w13 R13.out B13.out.size HK.out).mono ?_
      rintro e w14 ⟨v14, rfl, hrow, hr, hf⟩
      have W14' := W13'.out.other R13.out hf
      have R14 := Lib.hid hr
      have B14 := Lib.hid (B13.out.trans hf.below)
      obtain ⟨A14, m14, c14, e14⟩ : ∃ A3 m3 c3, v14 = .slice A3 m3 c3 := by
        obtain ⟨A1, c1, e1, _⟩ := hrow.form
        exact ⟨_, _, _, e1⟩
      subst e14
      have hq : ((ordS S (hsh key)).take u.toNat).length ≤ 1000 := by
        rw [List.length_take, ordS_length (hsh_lt key) R13.out.rs.nodup]
        have := R13.out.len
        omega
      have CS := Lib.hid (same_rows hrow W14' hq hq)
      rw [decide_eq_true rfl] at CS
      clear hrow hr hf W14' hq W13' R13 B13
      go_wp2_with fail
      refine CS.out.mono ?_
      rintro e w15 ⟨rfl, hb⟩
      have R15 := Lib.hid (R14.out.below hb)
      have B15 := Lib.hid (B14.out.trans (hb.mono B14.out.size))
      clear hb CS R14 B14
      go_wp2_with fail
      refine (nodes_any _ g S w15 R15.out).mono ?_
      rintro e w16 ⟨v16, rfl, hrow, hb⟩
      have B16 := Lib.hid (B15.out.trans (hb.mono B15.out.size))
      have N16 := Lib.hid (hrow.down B15.out.size)
      have HS8 := Lib.hid R15.out.len
      obtain ⟨A16, m16, c16, e16⟩ : ∃ A3 m3 c3, v16 = .slice A3 m3 c3 := by
        obtain ⟨A1, c1, e1, _⟩ := hrow.form
        exact ⟨_, _, _, e1⟩
      subst e16
      clear hrow hb R15 B15
      go_wp2_with fail
      refine (refnodes_any l A n c w16 (HS.out.below (Nat.le_refl _) B16.out) HN.out).mono ?_
      rintro e w17 ⟨v17, rfl, hrow, hb⟩
      rw [← HSN.out] at hrow
      have N17 := N16.out.below hb
      have B17 := Lib.hid (B16.out.trans (hb.mono B16.out.size))
      obtain ⟨A17, m17, c17, e17⟩ : ∃ A3 m3 c3, v17 = .slice A3 m3 c3 := by
        obtain ⟨A1, c1, e1, _⟩ := hrow.form
        exact ⟨_, _, _, e1⟩
      subst e17
      have CS := Lib.hid (same_rows N17 hrow (by have := HS8.out; omega) (by have := HS8.out; omega))
      rw [decide_eq_true rfl] at CS
      clear hrow hb N17 N16 B16
      go_wp2_with fail
      refine CS.out.mono ?_
      rintro e w18 ⟨rfl, hb⟩
      have B18 := Lib.hid (B17.out.trans (hb.mono B17.out.size))
      clear hb CS
      go_wp2
      go_ret
      exact ⟨rfl, B18.out⟩
end Go.Proofs.YtnbgmobcfbgenaaGreatDoor
