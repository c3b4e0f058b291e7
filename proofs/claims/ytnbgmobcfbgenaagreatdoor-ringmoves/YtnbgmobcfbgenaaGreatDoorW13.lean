/-
  The walk of RingMoves. Its conditions: the texts lie in memory which is there.
-/
import Derived.Test.YtnbgmobcfbgenaaGreatDoorW12
import Derived.Deep.CutBlock
namespace Go.Proofs.YtnbgmobcfbgenaaGreatDoor
open Go.RowKit Go.Maps
open Go.Sort (grow)

theorem has_no {S : List ByteArray} (h : S = []) : has S = false := by
  subst h
  rfl
/-- What moves. -/
theorem mv_facts {S : List ByteArray} {H : Nat} (x : ByteArray) (hH : H < 18446744073709551616) (hn : S.Nodup) (h8 : S.length ≤ 8) :
    (has S = false ∧ own (withoutN S x) H = own S H ∧ has (withoutN S x) = false ∧ S.length ≠ 8) ∨
    (has S = true ∧ own S H = x ∧ own (withN S x) H = x ∧ has (withoutN S x) = false ∧ (ordS S H).take 2 = [x] ∧ S.length ≠ 8) ∨
    (has S = true ∧ own S H = x ∧ own (withN S x) H = x ∧ has (withoutN S x) = true ∧ (ordS S H).take 2 = [x, own (withoutN S x) H]) ∨
    (has S = true ∧ own S H ≠ x ∧ own (withN S x) H = own S H ∧ own (withoutN S x) H = own S H ∧ has (withoutN S x) = true) ∨
    (has S = true ∧ own S H ≠ x ∧ own (withN S x) H ≠ own S H ∧ own (withN S x) H = x ∧ own (withoutN S x) H = own S H ∧ has (withoutN S x) = true ∧ S.length ≠ 8) := by
  by_cases hS : S = []
  · left
    subst hS
    exact ⟨rfl, rfl, rfl, by simp⟩
  · right
    have ht := has_true.mpr hS
    have hm := own_more (x := x) hH hn h8 hS
    by_cases ha : own S H = x
    · have hb : own (withN S x) H = x := by
        rcases hm with h | h
        · rw [h, ha]
        · exact h
      have hl := own_less_own hH hn h8 hS ha
      by_cases hL : withoutN S x = []
      · left
        have h2 : (ordS S H).take 2 = [x] := by rw [hl, hL, ordS_nil]; rfl
        refine ⟨ht, ha, hb, has_no hL, h2, fun e8 => ?_⟩
        have := ordS_length hH hn
        rw [hl, hL, ordS_nil, e8] at this
        simp at this
      · right
        left
        obtain ⟨r, hr⟩ := own_cons hH hL
        have h2 : (ordS S H).take 2 = [x, own (withoutN S x) H] := by rw [hl, hr]; rfl
        exact ⟨ht, ha, hb, has_true.mpr hL, h2⟩
    · right
      right
      obtain ⟨hc, hl⟩ := own_less_other hH hn h8 hS ha
      by_cases hb : own (withN S x) H = own S H
      · exact .inl ⟨ht, ha, hb, hc, has_true.mpr hl⟩
      · right
        refine ⟨ht, ha, hb, ?_, hc, has_true.mpr hl, fun e8 => hb (own_full hH hn e8)⟩
        rcases hm with h | h
        · exact absurd h hb
        · exact h
/-- Three rings side by side. -/
structure Three (w : World) (S : List ByteArray) (x : ByteArray) (g gm gl : Nat) (W : World) : Prop where
  r : RingAt W w.heap.size g S
  m : RingAt W w.heap.size gm (withN S x)
  l : RingAt W w.heap.size gl (withoutN S x)
  bel : Below w.heap.size w W
  n1 : g ≠ gm
  n2 : g ≠ gl
  n3 : gm ≠ gl
section
variable {w W W' : World} {S : List ByteArray} {x : ByteArray} {g gm gl : Nat}
theorem Three.onR (h : Three w S x g gm gl W) (k : RingAt W' w.heap.size g S) (f : Fr [] [g] w.heap.size W W') : Three w S x g gm gl W' :=
  ⟨k, h.m.other h.r f h.n1.symm, h.l.other h.r f h.n2.symm, h.bel.trans f.below, h.n1, h.n2, h.n3⟩
theorem Three.onM (h : Three w S x g gm gl W) (k : RingAt W' w.heap.size gm (withN S x)) (f : Fr [] [gm] w.heap.size W W') : Three w S x g gm gl W' :=
  ⟨h.r.other h.m f h.n1, k, h.l.other h.m f h.n3.symm, h.bel.trans f.below, h.n1, h.n2, h.n3⟩
theorem Three.onL (h : Three w S x g gm gl W) (k : RingAt W' w.heap.size gl (withoutN S x)) (f : Fr [] [gl] w.heap.size W W') : Three w S x g gm gl W' :=
  ⟨h.r.other h.l f h.n2, h.m.other h.l f h.n3, k, h.bel.trans f.below, h.n1, h.n2, h.n3⟩
end
def TPost (w : World) (S : List ByteArray) (x : ByteArray) (g gm gl : Nat) (a : ByteArray) (b : Bool) (r : Ending) (W' : World) : Prop := r = .returned (.tuple #[.string a, .bool b]) ∧ Three w S x g gm gl W'
section
variable {w W : World} {S : List ByteArray} {x key : ByteArray} {g gm gl : Nat}
theorem three_r (h : Three w S x g gm gl W) (hk : key.size ≤ maxLen) : Calls Tryz.prog 9 #[.pointer (some ⟨g, 0, none⟩), .string key] W (TPost w S x g gm gl (own S (hsh key)) (has S)) :=
  (owner_any _ g S key W h.r h.bel.size hk).mono fun _ _ ⟨e, k, f⟩ => ⟨e, h.onR k f⟩
theorem three_m (h : Three w S x g gm gl W) (hk : key.size ≤ maxLen) : Calls Tryz.prog 9 #[.pointer (some ⟨gm, 0, none⟩), .string key] W (TPost w S x g gm gl (own (withN S x) (hsh key)) (has (withN S x))) :=
  (owner_any _ gm _ key W h.m h.bel.size hk).mono fun _ _ ⟨e, k, f⟩ => ⟨e, h.onM k f⟩
theorem three_l (h : Three w S x g gm gl W) (hk : key.size ≤ maxLen) : Calls Tryz.prog 9 #[.pointer (some ⟨gl, 0, none⟩), .string key] W (TPost w S x g gm gl (own (withoutN S x) (hsh key)) (has (withoutN S x))) :=
  (owner_any _ gl _ key W h.l h.bel.size hk).mono fun _ _ ⟨e, k, f⟩ => ⟨e, h.onL k f⟩
theorem three_two (h : Three w S x g gm gl W) (hk : key.size ≤ maxLen) : Calls Tryz.prog 10 #[.pointer (some ⟨g, 0, none⟩), .string key, .int .i64 2] W fun r W' => (∃ A m c, r = .returned (.slice A m c) ∧ m = ((ordS S (hsh key)).take 2).length ∧ Sl eKy W' A ((ordS S (hsh key)).take 2)) ∧ Three w S x g gm gl W' :=
  (owners_any _ g S key 2 W h.r h.bel.size hk).mono fun _ _ ⟨v, e, hrow, k, f⟩ => by
    obtain ⟨A, c, hv, sl, _⟩ := hrow.sl (by rw [List.length_take]; unfold maxLen; omega)
    rw [hv] at e
    exact ⟨⟨A, _, c, e, rfl, sl⟩, h.onR k f⟩
end
set_option maxRecDepth 100000 in
set_option maxHeartbeats 16000000 in
theorem moves_walk (l ks : List ByteArray) (A K : Option Addr) (n c nk ck : Nat) (x : ByteArray) (w : World) (hs : Sl eKy w A l) (hn : l.length = n) (hz : Sized l) (hx : x.size ≤ 140737488351232) (hk : Sl eKy w K ks) (hnk : ks.length = nk) (hkz : Sized ks) :
    Calls Tryz.prog 4 #[.slice A n c, .string x, .slice K nk ck] w fun e w' => e = .returned (.bool true) ∧ Below w.heap.size w w' := by
  have hnM : (nk : Int) ≤ 9223372036854775807 := by have := hk.1; unfold maxLen at this; omega
  have HS := Lib.hid hs
  have HN := Lib.hid hn
  have HZ := Lib.hid hz
  have HX := Lib.hid hx
  have HK := Lib.hid hk
  have HNK := Lib.hid hnk
  have HKZ := Lib.hid hkz
  have HSA := Lib.hid (fun W => short_any l A n c x W)
  clear hs hn hz hx hk hnk hkz
  go_enter Tryz.func4, Tryz.ntmps4
  go_wp2_with fail
  refine (awake_any w).mono ?_
  rintro e w1 ⟨rfl, b1⟩
  have B1 := Lib.hid b1
  clear b1
  go_wp2_with fail
  refine (short_any l A n c x w1 (HS.out.below (Nat.le_refl _) B1.out) HN.out).mono ?_
  rintro e w2 ⟨⟨sb, rfl⟩, rfl⟩
  cases sb with
  | false =>
    go_wp2
    go_ret
    exact ⟨rfl, B1.out⟩
  | true =>
    go_wp2_with fail
    refine (short_any ks K nk ck ⟨#[]⟩ w1 (HK.out.below (Nat.le_refl _) B1.out) HNK.out).mono ?_
    rintro e w2 ⟨⟨sb, rfl⟩, rfl⟩
    cases sb with
    | false =>
      go_wp2
      go_ret
      exact ⟨rfl, B1.out⟩
    | true =>
      go_wp2_with fail
      refine (new_any l A n c w1 (HS.out.below (Nat.le_refl _) B1.out) HN.out HZ.out).mono ?_
      rintro e w2 ⟨g, rfl, hr, hb⟩
      have R2 := Lib.hid (hr.down B1.out.size)
      have B2 := Lib.hid (B1.out.trans (hb.mono B1.out.size))
      clear hr hb
      obtain ⟨S, hS⟩ : ∃ S, S = nodesOf l := ⟨_, rfl⟩
      rw [← hS] at R2
      have HSN := Lib.hid hS
      clear hS
      go_wp2_with fail
      refine (nodes_any _ g S w2 R2.out).mono ?_
      rintro e w3 ⟨v3, rfl, hrow, hb⟩
      obtain ⟨A3, c3, rfl, _⟩ := hrow.form
      have R3 := Lib.hid (R2.out.below hb)
      have B3 := Lib.hid (B2.out.trans (hb.mono B2.out.size))
      obtain ⟨m, hm⟩ : ∃ m, m = S.length := ⟨_, rfl⟩
      rw [← hm]
      have HM := Lib.hid hm
      clear hrow hb hm
      go_wp2_with fail
      refine (with_any _ g S x w3 R3.out HX.out).mono ?_
      rintro e w4 ⟨gm, rfl, hr, hb⟩
      have HNE1 : Hid (g ≠ gm) := by
        have h1 := hr.bg
        have h2 := R3.out.lt
        show _ ≠ _
        omega
      have R4 := Lib.hid (R3.out.below hb)
      have M4 := Lib.hid (hr.down B3.out.size)
      have B4 := Lib.hid (B3.out.trans (hb.mono B3.out.size))
      clear hr hb
      go_wp2_with fail
      refine (without_any _ g S x w4 R4.out).mono ?_
      rintro e w5 ⟨gl, rfl, hr, hb⟩
      have T5 : Hid (Three w S x g gm gl w5) := by
        have h1 := hr.bg
        have h2 := R4.out.lt
        have h3 := M4.out.lt
        exact ⟨R4.out.below hb, M4.out.below hb, hr.down B4.out.size, B4.out.trans (hb.mono B4.out.size), HNE1.out, by omega, by omega⟩
      clear hr hb R2 R3 R4 M4 B2 B3 B4
      go_wp2
      go_loopw [43] (fun s43 wr => ∃ k : Nat, k ≤ nk ∧ s43 = .int .i64 (k : Int) ∧ Three w S x g gm gl wr) (fun i _ => nk - (intOf i).toNat)
      case atStart => exact ⟨0, Nat.zero_le _, rfl, T5.out⟩
      case round =>
        obtain ⟨k, hkn, rfl, hT⟩ := hrel
        have T := Lib.hid hT
        clear hT T5
        by_cases hlt : k < nk
        · have hkl : k < ks.length := by rw [HNK.out]; exact hlt
          obtain ⟨b, off, rfl, _, d0⟩ := at_ky (HK.out.below (Nat.le_refl _) T.out.bel) hkl
          have CD := Lib.hid (fun W (h : Below w.heap.size w W) => at_ky2 (HK.out.below (Nat.le_refl _) h) hkl)
          have HKS : Hid (ks[k].size ≤ maxLen) := by
            have := HKZ.out _ (List.getElem_mem hkl)
            show _ ≤ _
            unfold maxLen
            omega
          generalize ks[k] = key at d0 CD HKS
          have hlti : (k : Int) < (nk : Int) := by omega
          have hk0 : (0 : Int) ≤ (k : Int) := by omega
          have HK2 : Hid (k + 1 ≤ nk) := hlt
          have hf := mv_facts (S := S) (H := hsh key) x (hsh_lt key) T.out.r.rs.nodup T.out.r.len
          have hw : has (withN S x) = true := has_true.mpr (withN_pos S x T.out.r.rs.nodup T.out.r.len)
          have C1 := Lib.hid (fun W (h : Three w S x g gm gl W) => three_r (key := key) h HKS.out)
          have C2 := Lib.hid (fun W (h : Three w S x g gm gl W) => three_m (key := key) h HKS.out)
          have C3 := Lib.hid (fun W (h : Three w S x g gm gl W) => three_l (key := key) h HKS.out)
          have C4 := Lib.hid (fun W (h : Three w S x g gm gl W) => three_two (key := key) h HKS.out)
          rw [hw] at C2
          rw [← HM.out] at hf
          generalize own S (hsh key) = a at hf C1
          generalize own (withN S x) (hsh key) = bb at hf C2
          generalize own (withoutN S x) (hsh key) = cc at hf C3
          generalize has S = ok at hf C1
          generalize has (withoutN S x) = left at hf C3
          generalize (ordS S (hsh key)).take 2 = two at hf C4
          have HF := Lib.hid hf
          clear hkl hlt hkn hf hw
          go_wp2_with fail
          refine (C1.out _ T.out).mono ?_
          rintro r w6 ⟨rfl, h6⟩
          have T6 := Lib.hid h6
          have d6 := CD.out _ h6.bel
          clear h6
          go_wp2_with fail
          refine (C2.out _ T6.out).mono ?_
          rintro r w7 ⟨rfl, h7⟩
          have T7 := Lib.hid h7
          have d7 := CD.out _ h7.bel
          clear h7
          go_upto_region 13 with fail
          go_cut [87] from 64 to 86 (fun s87 wx => s87 = .bool false ∧ wx = w7)
          case first =>
            rcases HF.out with ⟨rfl, rfl, rfl, h8⟩ | ⟨rfl, rfl, rfl, rfl, _, h8⟩ | ⟨rfl, rfl, rfl, rfl, _⟩ | ⟨rfl, ha, rfl, rfl, rfl⟩ | ⟨rfl, ha, hb, rfl, rfl, rfl, h8⟩
            · have h81 : ((m : Int) == 8) = false := by rw [beq_eq_false_iff_ne]; omega
              have h82 : decide ((m : Int) = 8) = false := decide_eq_false (by omega)
              clear h8
              go_wp2
              go_meet
              case rel => exact ⟨rfl, rfl⟩
            · have h81 : ((m : Int) == 8) = false := by rw [beq_eq_false_iff_ne]; omega
              have h82 : decide ((m : Int) = 8) = false := decide_eq_false (by omega)
              have e1 : (bb.toList != bb.toList) = false := by rw [bne, toList_eq rfl]; rfl
              clear h8
              go_wp2
              go_meet
              case rel => exact ⟨rfl, rfl⟩
            · have e1 : (bb.toList != bb.toList) = false := by rw [bne, toList_eq rfl]; rfl
              by_cases h8 : m = 8
              · have h81 : ((m : Int) == 8) = true := by rw [h8]; rfl
                have h82 : decide ((m : Int) = 8) = true := decide_eq_true (by omega)
                clear h8
                go_wp2
                go_meet
                case rel => exact ⟨rfl, rfl⟩
              · have h81 : ((m : Int) == 8) = false := by rw [beq_eq_false_iff_ne]; omega
                have h82 : decide ((m : Int) = 8) = false := decide_eq_false (by omega)
                clear h8
                go_wp2
                go_meet
                case rel => exact ⟨rfl, rfl⟩
            · have e1 : (cc.toList != cc.toList) = false := by rw [bne, toList_eq rfl]; rfl
              by_cases h8 : m = 8
              · have h81 : ((m : Int) == 8) = true := by rw [h8]; rfl
                have h82 : decide ((m : Int) = 8) = true := decide_eq_true (by omega)
                clear h8 ha
                go_wp2
                go_meet
                case rel => exact ⟨rfl, rfl⟩
              · have h81 : ((m : Int) == 8) = false := by rw [beq_eq_false_iff_ne]; omega
                have h82 : decide ((m : Int) = 8) = false := decide_eq_false (by omega)
                clear h8 ha
                go_wp2
                go_meet
                case rel => exact ⟨rfl, rfl⟩
            · have h81 : ((m : Int) == 8) = false := by rw [beq_eq_false_iff_ne]; omega
              have h82 : decide ((m : Int) = 8) = false := decide_eq_false (by omega)
              have e0 : (bb.toList == cc.toList) = false := toList_ne hb
              have e1 : (bb.toList != cc.toList) = true := by rw [bne, e0]; rfl
              have e2 : (bb.toList != bb.toList) = false := by rw [bne, toList_eq rfl]; rfl
              clear h8 ha hb
              go_wp2
              go_meet
              case rel => exact ⟨rfl, rfl⟩
          case rest =>
            obtain ⟨rfl, rfl⟩ := hcut
            clear d6
            go_wp2_with fail
            refine (C3.out _ T7.out).mono ?_
            rintro r w8 ⟨rfl, h8⟩
            have T8 := Lib.hid h8
            have d8 := CD.out _ h8.bel
            clear h8 d7
            go_wp2_with fail
            refine (C4.out _ T8.out).mono ?_
            rintro r w9 ⟨⟨A2, m2, c2, rfl, hm2, sl2⟩, h9⟩
            have T9 := Lib.hid h9
            have HM2 := Lib.hid hm2
            have SL2 := Lib.hid sl2
            clear h9 d8 hm2 sl2 C1 C2 C3 C4 CD
            rcases HF.out with ⟨rfl, rfl, rfl, h8⟩ | ⟨rfl, hax, hbx, rfl, h2, h8⟩ | ⟨rfl, hax, hbx, rfl, h2⟩ | ⟨rfl, ha, hb, hc, rfl⟩ | ⟨rfl, ha, hb, hb2, hc, rfl, h8⟩
            · have e2 : (cc.toList != cc.toList) = false := by rw [bne, toList_eq rfl]; rfl
              clear h8
              cases he : (cc.toList == x.toList) with
              | true =>
                go_wp2
                go_roundw
                case rel => exact ⟨k + 1, HK2.out, by go_num, T9.out⟩
                case measure => simp [intOf]; omega
              | false =>
                go_wp2
                go_roundw
                case rel => exact ⟨k + 1, HK2.out, by go_num, T9.out⟩
                case measure => simp [intOf]; omega
            · have he : (a.toList == x.toList) = true := toList_eq hax
              have hm1 : m2 = 1 := by rw [HM2.out, h2]; rfl
              clear h8 h2 hax hbx HF HM2 SL2
              subst hm1
              go_wp2
              go_roundw
              case rel => exact ⟨k + 1, HK2.out, by go_num, T9.out⟩
              case measure => simp [intOf]; omega
            · have he : (a.toList == x.toList) = true := toList_eq hax
              have hm1 : m2 = 2 := by rw [HM2.out, h2]; rfl
              have sl3 := SL2.out
              rw [h2] at sl3
              obtain ⟨b3, o3, rfl, _, d9⟩ := at_ky sl3 (k := 1) (by simp)
              have d10 : w9.cell? ⟨b3, o3 + 1, none⟩ = some (.string cc) := d9
              have e2 : (cc.toList != cc.toList) = false := by rw [bne, toList_eq rfl]; rfl
              clear h2 hax hbx HF HM2 SL2 sl3 d9
              subst hm1
              go_wp2
              go_roundw
              case rel => exact ⟨k + 1, HK2.out, by go_num, T9.out⟩
              case measure => simp [intOf]; omega
            · have he : (a.toList == x.toList) = false := toList_ne ha
              clear ha hb HF
              subst hc
              go_wp2
              go_roundw
              case rel => exact ⟨k + 1, HK2.out, by go_num, T9.out⟩
              case measure => simp [intOf]; omega
            · have he : (a.toList == x.toList) = false := toList_ne ha
              clear ha hb hb2 h8 HF
              subst hc
              go_wp2
              go_roundw
              case rel => exact ⟨k + 1, HK2.out, by go_num, T9.out⟩
              case measure => simp [intOf]; omega
        · have hlti : ¬ (k : Int) < (nk : Int) := by omega
          clear hlt hkn
          go_wp2_with fail
          refine (nodes_any _ g S wr T.out.r).mono ?_
          rintro r w6 ⟨v6, rfl, hrow, hb⟩
          have B6 := Lib.hid (T.out.bel.trans (hb.mono T.out.bel.size))
          have ROW := Lib.hid (hrow.down T.out.bel.size)
          obtain ⟨A6, m6, c6, e6⟩ : ∃ A6 m6 c6, v6 = .slice A6 m6 c6 := by
            obtain ⟨A1, c1, e1, _⟩ := hrow.form
            exact ⟨_, _, _, e1⟩
          subst e6
          clear hrow hb
          go_wp2_with fail
          refine (new_any l A n c w6 (HS.out.below (Nat.le_refl _) B6.out) HN.out HZ.out).mono ?_
          rintro r w7 ⟨g7, rfl, hr, hb⟩
          rw [← HSN.out] at hr
          have R7 := Lib.hid (hr.down B6.out.size)
          have B7 := Lib.hid (B6.out.trans (hb.mono B6.out.size))
          have ROW7 := Lib.hid (ROW.out.below hb)
          clear hr hb
          go_wp2_with fail
          refine (nodes_any _ g7 S w7 R7.out).mono ?_
          rintro r w8 ⟨v8, rfl, hrow, hb⟩
          have B8 := Lib.hid (B7.out.trans (hb.mono B7.out.size))
          have ROW8 := ROW7.out.below hb
          have h8 := R7.out.len
          obtain ⟨A8, c8, rfl, sl8, _⟩ := hrow.sl (by unfold maxLen; omega)
          obtain ⟨A9, c9, e9, sl9, _⟩ := ROW8.sl (by unfold maxLen; omega)
          injection e9 with x1 x2 x3
          subst x1 x3
          have CS := Lib.hid (same_any S S A6 A8 m6 c6 S.length c8 w8 sl9 sl8 x2.symm rfl (by omega))
          rw [decide_eq_true rfl] at CS
          obtain ⟨m8, hm8⟩ : ∃ m8, m8 = S.length := ⟨_, rfl⟩
          rw [← hm8] at CS ⊢
          clear hrow hb ROW8 h8 sl8 sl9 x2 hm8
          go_wp2_with fail
          refine CS.out.mono ?_
          rintro r w9 ⟨rfl, hb⟩
          have B9 := Lib.hid (B8.out.trans (hb.mono B8.out.size))
          clear hb CS
          go_wp2
          go_ret
          exact ⟨rfl, B9.out⟩
end Go.Proofs.YtnbgmobcfbgenaaGreatDoor
