/-
  The walk of FrameBack. Its conditions: what stands behind fits memory.
-/
import Derived.Test.YtlnblcgfgkkbhaaW15
namespace Go.Proofs.Ytlnblcgfgkkbhaa
open Go.RowKit Go.Sort

/-- One byte of a row of the call's own is written. -/
theorem own_set {w0 w : World} {L : List Nat} {A : Option Addr} {n c k : Nat} (h : OwnB w0 w L (.slice A n c)) (hL : L.length ≤ maxLen) (hk : k < L.length) :
    ∃ g, A = some ⟨g, 0, none⟩ ∧ w.cell? ⟨g, k, none⟩ = some (.int .u8 (L[k] : Int)) ∧ w.frozen? ⟨g, k, none⟩ = false ∧ w0.heap.size ≤ g ∧
      ∀ y : Nat, y < 256 → Bytes (w.setCell ⟨g, k, none⟩ (.int .u8 (y : Int))) A (L.set k y) ∧ Below w0.heap.size w0 (w.setCell ⟨g, k, none⟩ (.int .u8 (y : Int))) := by
  obtain ⟨h1, h2, h3, h4⟩ := h
  rcases h1.2 with ⟨_, hz⟩ | ⟨g, cap, cur, hv, _, hb, hn, hm, hs, ht⟩
  · omega
  · injection hv with hA e1 e2
    subst hA e1 e2
    have hlt : g < w.heap.size := (Array.getElem?_eq_some_iff.mp hb).1
    have hg0 : w0.heap.size ≤ g := h3 g rfl
    have hcell : ∀ (j x : Nat), L[j]? = some x → w.cell? ⟨g, j, none⟩ = some (.int .u8 (x : Int)) := by
      intro j x hj
      have hu : (vals L)[j]? = some (.int .u8 (x : Int)) := by rw [vals, List.getElem?_map, hj]; rfl
      have := h1.cells (g := g) rfl j _ hu
      rw [addr_add, Nat.zero_add] at this
      exact this
    have hck := hcell k L[k] (List.getElem?_eq_getElem hk)
    refine ⟨g, rfl, hck, by simp [World.frozen?, hb], hg0, fun y hy => ⟨⟨fun x hx => ?_, by rw [List.length_set]; exact hL, fun _ => ⟨g, 0, rfl, by simpa [World.setCell] using hlt, fun j x hj => ?_⟩⟩, ?_⟩⟩
    · rcases List.mem_or_eq_of_mem_set hx with h | h
      · exact h2 x h
      · omega
    · rw [Nat.zero_add]
      by_cases hjk : j = k
      · subst hjk
        rw [List.getElem?_set_self hk] at hj
        injection hj with hj
        subst hj
        exact World.cell?_setCell_same _ _ _ hck
      · rw [List.getElem?_set_ne (Ne.symm hjk)] at hj
        rw [World.cell?_setCell_other _ _ _ _ (fun e => hjk (by injection e with _ e _; exact e.symm))]
        exact hcell j x hj
    · exact ⟨h4.os, h4.tape, h4.output, by simpa [World.setCell] using h4.size, fun q hq => by
        rw [Below.heap_setCell _ _ _ _ (show q ≠ (⟨g, k, none⟩ : Addr).block by show q ≠ g; omega)]
        exact h4.block q hq⟩
theorem box_cells (w : World) (a b c d : Value) : (w.alloc (.cells #[a, b, c, d] 37)).cell? ⟨w.heap.size, 0, none⟩ = some a ∧ (w.alloc (.cells #[a, b, c, d] 37)).cell? ⟨w.heap.size, 1, none⟩ = some b ∧ (w.alloc (.cells #[a, b, c, d] 37)).cell? ⟨w.heap.size, 2, none⟩ = some c ∧ (w.alloc (.cells #[a, b, c, d] 37)).cell? ⟨w.heap.size, 3, none⟩ = some d := by
  refine ⟨?_, ?_, ?_, ?_⟩ <;> exact World.cell?_alloc_at _ _ _ _ rfl
set_option maxHeartbeats 2000000 in
theorem back_walk (p m : List Nat) (A M : Option Addr) (n nm c cm : Nat) (z : Int) (y : Nat) (w : World) (hp : Bytes w A p) (hm : Bytes w M m) (hn : p.length = n) (hnm : m.length = nm) (hA : A = none → c = 0) (hM : M = none → cm = 0) (hy : y < 256) (hs : nm ≤ 140737488351232) :
    Calls Try.prog 4 #[.agg #[.slice A n c, .int .i64 z, .int .u8 (y : Int), .slice M nm cm]] w fun e w' => e = .returned (.bool true) ∧ Below w.heap.size w w' := by
  obtain ⟨W, hW⟩ : ∃ W, w.alloc (.cells #[.slice A n c, .int .i64 z, .int .u8 (y : Int), .slice M nm cm] 37) = W := ⟨_, rfl⟩
  obtain ⟨g0, g1, g2, g3⟩ := box_cells w (.slice A n c) (.int .i64 z) (.int .u8 (y : Int)) (.slice M nm cm)
  rw [hW] at g0 g1 g2 g3
  have hb0 : Below w.heap.size w W := by rw [← hW]; exact (Below.refl _ _).alloc (Nat.le_refl _) _
  have B0 := Lib.hid hb0
  have HW := Lib.hid hW
  have HP := Lib.hid hp
  have HM := Lib.hid hm
  have HN := Lib.hid hn
  have HNM := Lib.hid hnm
  have HA := Lib.hid hA
  have HMA := Lib.hid hM
  have HY := Lib.hid hy
  have HS := Lib.hid hs
  clear hW hp hm hn hnm hA hM hy hs hb0
  go_enter Try.func4, Try.ntmps4
  go_wp2
  rw [show w.alloc (Obj.cells #[Value.slice A n c, Value.int IntKind.i64 z, Value.int IntKind.u8 (y : Int), Value.slice M nm cm] 37) = W from HW.out]
  go_quiet (fail)
  go_wp2_with fail
  refine (awake_any _).mono ?_
  rintro e w1 ⟨rfl, b1⟩
  have B1 : Hid (Below w.heap.size w w1) := (drew_below B0.out).trans (b1.mono B0.out.size)
  clear b1 g0 g1 g2 g3
  go_wp2_with fail
  refine (seal_any p A n c w1 (HP.out.below B1.out) HN.out HA.out).mono ?_
  rintro e w2 ⟨As, ns, er, Ls, rfl, hls, ys, bs, sa, hs⟩
  have B2 : Hid (Below w.heap.size w w2) := B1.out.trans (bs.mono B1.out.size)
  have YS := Lib.hid ys
  have LS := Lib.hid hls
  have AS := Lib.hid sa
  clear bs ys hls sa
  rcases hs with ⟨hg, rfl, rfl⟩ | ⟨hg, rfl, rfl⟩
  · have HG := Lib.hid hg
    have HFL : Hid (ns = 8 + n) := by rw [← LS.out, Fr.frame_length, HN.out]; exact rfl
    have HOP := Lib.hid (Fr.opn_frame hg HP.out.1)
    clear hg
    go_wp2_with fail
    refine (open_all (Fr.frame p) As ns ns w2 YS.out LS.out (Nat.le_refl _)).mono ?_
    rintro e w3 ⟨Ao, no, er, Lo, rfl, hlo, yo, bo, _, ho⟩
    rw [HOP.out] at ho
    obtain ⟨e1, rfl⟩ : some p = some Lo ∧ er = 0 := by
      rcases ho with h | ⟨h, _⟩
      · exact h
      · cases h
    injection e1 with e1
    subst e1
    have B23 := Lib.hid bo
    have B3 : Hid (Below w.heap.size w w3) := B2.out.trans (bo.mono B2.out.size)
    have HSM := Lib.hid (same_yes p Ao A no c no n w3 yo (HP.out.below B3.out) hlo HN.out)
    clear bo yo hlo
    go_wp2_with fail
    refine HSM.out.mono ?_
    rintro e w3' ⟨rfl, rfl⟩
    by_cases hz : z < 0 ∨ (ns : Int) ≤ z
    · have hzz : z < 0 ∨ (¬ z < 0 ∧ (ns : Int) ≤ z) := by omega
      clear hz
      rcases hzz with hz | ⟨hz0, hz⟩
      all_goals
        go_wp2
        go_ret
        exact ⟨rfl, B3.out⟩
    · have hz0 : ¬ z < 0 := by omega
      have hz1 : ¬ (ns : Int) ≤ z := by omega
      obtain ⟨k, rfl⟩ : ∃ k : Nat, z = (k : Int) := ⟨z.toNat, by omega⟩
      have hks : k < ns := by omega
      have hksi : (k : Int) < (ns : Int) := by omega
      have HKL : Hid (k < (Fr.frame p).length) := by rw [LS.out]; exact hks
      have HNS : Hid (ns ≤ 65544) := by have := HFL.out; have := HG.out.2; have := HN.out; show _ ≤ _; omega
      obtain ⟨v4, w4, hr4, o4, b4⟩ := (OwnB.empty w3 w3 (Below.refl _ _)).append ((YS.out.below B23.out).below ((Below.refl _ w3).alloc (Nat.le_refl _) (.cells #[] 5))) AS.out (by rw [LS.out]; have := HNS.out; simp; omega) 22
      obtain ⟨A4, c4, rfl⟩ := o4.form
      rw [List.nil_append, LS.out] at hr4 o4
      obtain ⟨g, rfl, hcell, hfro, _, hset⟩ := own_set o4 (by rw [LS.out]; have := HNS.out; unfold maxLen; omega) HKL.out
      have hx : (Fr.frame p)[k]'HKL.out < 256 := Fr.frame_oct p HP.out.1 _ (List.getElem_mem HKL.out)
      obtain ⟨x, hxe⟩ : ∃ x, (Fr.frame p)[k]'HKL.out = x := ⟨_, rfl⟩
      rw [hxe] at hcell hx
      have hxor := u8_xor_nat x y hx HY.out
      have hxl : x ^^^ y < 256 := Nat.xor_lt_two_pow (n := 8) hx HY.out
      obtain ⟨hb5, bel5⟩ := hset (x ^^^ y) hxl
      have HR4 := Lib.hid hr4
      have HB5 := Lib.hid hb5
      have BW5 : Hid (Below w.heap.size w (w4.setCell ⟨g, k, none⟩ (.int .u8 ((x ^^^ y : Nat) : Int)))) := B3.out.trans (bel5.mono B3.out.size)
      have BS5 : Hid (Below w2.heap.size w2 (w4.setCell ⟨g, k, none⟩ (.int .u8 ((x ^^^ y : Nat) : Int)))) := B23.out.trans (bel5.mono B23.out.size)
      have HXE := Lib.hid hxe
      have HXX := Lib.hid hx
      have HSL : Hid (((Fr.frame p).set k (x ^^^ y)).length = ns) := by rw [List.length_set]; exact LS.out
      have HCA : Hid (ns ≤ c4) := by
        have h1 := o4.1
        rw [LS.out] at h1
        exact (owns_facts h1).1
      clear hr4 o4 b4 hset hb5 bel5 hxe hx hxl
      go_wp2_with (at_builtin; refine wpList_append_run rfl _ _ 22 22 rfl _ _ rfl rfl _ w4 HR4.out ?_)
      refine (open_all _ _ ns c4 _ HB5.out HSL.out HCA.out).mono ?_
      rintro e w6 ⟨A6, n6, er6, L6, rfl, hl6, y6, b6, _, h6⟩
      have B6 : Hid (Below w.heap.size w w6) := BW5.out.trans (b6.mono BW5.out.size)
      have BS6 : Hid (Below w2.heap.size w2 w6) := BS5.out.trans (b6.mono BS5.out.size)
      have H6 : (y = 0 ∧ er6 = 0) ∨ (y ≠ 0 ∧ er6 = 2 ∧ n6 = 0) := by
        by_cases hy0 : y = 0
        · refine .inl ⟨hy0, ?_⟩
          have e1 : (Fr.frame p).set k (x ^^^ y) = Fr.frame p := by rw [hy0, Nat.xor_zero, ← HXE.out, List.set_getElem_self]
          rw [e1, HOP.out] at h6
          rcases h6 with ⟨_, h⟩ | ⟨h, _⟩
          · exact h
          · cases h
        · refine .inr ⟨hy0, ?_⟩
          have e1 : Fr.opn ((Fr.frame p).set k (x ^^^ y)) = none := by
            refine Fr.opn_turned HP.out.1 HKL.out (Nat.xor_lt_two_pow (n := 8) HXX.out HY.out) (fun h => hy0 ?_)
            rw [HXE.out] at h
            have h2 : x ^^^ (x ^^^ y) = x ^^^ x := by rw [h]
            rw [Crc.xor_back, Nat.xor_self] at h2
            exact h2
          rw [e1] at h6
          rcases h6 with ⟨h, _⟩ | ⟨_, h1, h2⟩
          · cases h
          · exact ⟨h1, by rw [← hl6, h2]; rfl⟩
      have HH6 := Lib.hid H6
      clear H6 h6 hl6 y6 b6 hcell hfro hxor
      go_wp2_with fail
      refine (open_all ((Fr.frame p).take k) As k ns w6 ((YS.out.below BS6.out).take k) (by rw [List.length_take, LS.out]; omega) (by omega)).mono ?_
      rintro e w7 ⟨A7, n7, er7, L7, rfl, _, _, b7, _, h7⟩
      rw [Fr.opn_part HG.out HP.out.1 HKL.out] at h7
      obtain rfl : er7 = 2 := by
        rcases h7 with ⟨h, _⟩ | ⟨_, h, _⟩
        · cases h
        · exact h
      have B7 : Hid (Below w.heap.size w w7) := B6.out.trans (b7.mono B6.out.size)
      have BS7 : Hid (Below w2.heap.size w2 w7) := BS6.out.trans (b7.mono BS6.out.size)
      clear b7
      obtain ⟨v8, w8, hr8, o8, b8⟩ := (OwnB.empty w7 w7 (Below.refl _ _)).append ((YS.out.below BS7.out).below ((Below.refl _ w7).alloc (Nat.le_refl _) (.cells #[] 5))) AS.out (by rw [LS.out]; have := HNS.out; simp; omega) 22
      obtain ⟨A8, c8, rfl⟩ := o8.form
      rw [List.nil_append, LS.out] at hr8 o8
      obtain ⟨v9, w9, hr9, o9, b9⟩ := o8.append (HM.out.below (B7.out.trans (b8.mono B7.out.size))) HMA.out (by rw [LS.out, HNM.out]; have := HNS.out; have := HS.out; omega) 22
      obtain ⟨A9, c9, rfl⟩ := o9.form
      rw [HNM.out, show (Fr.frame p ++ m).length = ns + nm by rw [List.length_append, LS.out, HNM.out]] at hr9
      rw [show (Fr.frame p ++ m).length = ns + nm by rw [List.length_append, LS.out, HNM.out]] at o9
      have HR8 := Lib.hid hr8
      have HR9 := Lib.hid hr9
      have Y9 := Lib.hid (o9.bytes (by rw [List.length_append, LS.out, HNM.out]; have := HNS.out; have := HS.out; unfold maxLen; omega)).1
      have B9 : Hid (Below w.heap.size w w9) := B7.out.trans (b9.mono B7.out.size)
      have HL9 : Hid ((Fr.frame p ++ m).length = ns + nm) := by rw [List.length_append, LS.out, HNM.out]; exact rfl
      have HC9 : Hid (ns + nm ≤ c9) := by
        have h1 := o9.1
        rw [HL9.out] at h1
        exact (owns_facts h1).1
      have hnmi : (nm : Int) ≤ 140737488351232 := by have := HS.out; omega
      clear hr8 o8 b8 hr9 o9 b9
      go_wp2_with (at_builtin; first | refine wpList_append_run rfl _ _ 22 22 rfl _ _ rfl rfl _ w8 HR8.out ?_ | refine wpList_append_run rfl _ _ 22 22 rfl _ _ rfl rfl _ w9 HR9.out ?_)
      refine (open_all (Fr.frame p ++ m) A9 (ns + nm) c9 w9 Y9.out HL9.out HC9.out).mono ?_
      rintro e w10 ⟨A10, n10, er10, L10, rfl, _, _, b10, _, h10⟩
      have B10 : Hid (Below w.heap.size w w10) := B9.out.trans (b10.mono B9.out.size)
      have H10 : (nm = 0 ∧ er10 = 0) ∨ (nm ≠ 0 ∧ er10 = 2) := by
        by_cases hm0 : m = []
        · refine .inl ⟨by rw [← HNM.out, hm0]; rfl, ?_⟩
          rw [hm0, List.append_nil, HOP.out] at h10
          rcases h10 with ⟨_, h⟩ | ⟨h, _⟩
          · exact h
          · cases h
        · refine .inr ⟨fun h => hm0 (List.eq_nil_of_length_eq_zero (by rw [HNM.out]; exact h)), ?_⟩
          rw [Fr.opn_more HG.out HP.out.1 hm0] at h10
          rcases h10 with ⟨h, _⟩ | ⟨_, h, _⟩
          · cases h
          · exact h
      clear h10 b10
      rcases HH6.out with ⟨rfl, rfl⟩ | ⟨hy0, rfl, rfl⟩ <;> rcases H10 with ⟨rfl, rfl⟩ | ⟨hm0, rfl⟩
      · go_wp2
        go_ret
        exact ⟨rfl, B10.out⟩
      · have dm : ((nm : Int) == 0) = false := by simp; omega
        clear hm0
        go_wp2
        go_ret
        exact ⟨rfl, B10.out⟩
      · have dy : ((y : Int) == 0) = false := by simp; omega
        clear hy0
        go_wp2
        go_ret
        exact ⟨rfl, B10.out⟩
      · have dm : ((nm : Int) == 0) = false := by simp; omega
        have dy : ((y : Int) == 0) = false := by simp; omega
        clear hy0 hm0
        go_wp2
        go_ret
        exact ⟨rfl, B10.out⟩
  · obtain rfl : ns = 0 := LS.out.symm
    have hcs : n = 0 ∨ (n ≠ 0 ∧ 65536 < n) := by have := HN.out; unfold Fr.Good at hg; omega
    clear hg
    rcases hcs with rfl | ⟨hn0, hn1⟩
    · go_wp2
      go_ret
      exact ⟨rfl, B2.out⟩
    · have d0 : ((n : Int) == 0) = false := by simp; omega
      have d1 : 65536 < (n : Int) := by omega
      clear hn0 hn1
      go_wp2
      go_ret
      exact ⟨rfl, B2.out⟩
end Go.Proofs.Ytlnblcgfgkkbhaa
