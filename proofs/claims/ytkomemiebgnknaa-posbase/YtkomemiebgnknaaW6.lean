/-
  The contracts of Base, Cut, Covers. Their conditions: the slice reads as epochs.
-/
import Derived.Test.YtkomemiebgnknaaW5
namespace Go.Proofs.Ytkomemiebgnknaa
open Go.RowKit

/-- leave, of a position. -/
theorem leave_pos {l : List Ep} {A : Option Addr} {n cap : Nat} {e i : Int} (hn : l.length = n) (hp : Ps.posB l e i = true) : ∃ k : Nat, e = (k : Int) ∧ k ≤ n ∧ ∀ W, Eps W A l → Calls Try.prog 27 #[.slice A n cap, .agg #[.int .i64 e, .int .i64 i]] W (LvPost l k n i W) := by
  obtain ⟨hrr, hii⟩ := Ps.posB_iff.mp hp
  obtain ⟨k, hk, hkl, _⟩ := hii.nat hrr
  exact ⟨k, hk, by omega, fun W hW => leave_any l A n cap k e i W hW hn hrr (by omega) hk⟩
theorem bel_new2 {w w' : World} {o p : Obj} (hb : Below ((w.alloc o).alloc p).heap.size ((w.alloc o).alloc p) w') : Below w.heap.size w w' := bel_new (bel_new hb)
set_option maxHeartbeats 1000000 in
theorem base_any (l : List Ep) (A : Option Addr) (n cap : Nat) (e i : Int) (w : World) (h : Eps w A l) (hn : l.length = n) : Calls Try.prog 20 #[.slice A n cap, .agg #[.int .i64 e, .int .i64 i]] w fun e' w' => e' = .returned (.agg #[.int .i64 (Ps.atE l (Ps.baseS l e i)), .int .i64 (Ps.atI l (Ps.baseS l e i))]) ∧ Below w.heap.size w w' := by
  have HE := Lib.hid ((h.alloc (.cells #[.int .i64 e, .int .i64 i] 24)).alloc (.cells #[.int .i64 0, .int .i64 0] 24))
  have HC := Lib.hid (isPos_any l A n cap e i _ HE.out hn)
  have HX := Lib.hid ((Box2.new w e i 24).below ((Below.refl _ _).alloc (Nat.le_refl _) (.cells #[.int .i64 0, .int .i64 0] 24)))
  have hY := Own2.new (w.alloc (.cells #[.int .i64 e, .int .i64 i] 24)) 0 0 24
  have hsz : (w.alloc (.cells #[.int .i64 e, .int .i64 i] 24)).heap.size = w.heap.size + 1 := by simp
  rw [hsz] at hY
  have HY := Lib.hid hY
  have HN := Lib.hid hn
  obtain ⟨r, hr⟩ : ∃ r, Ps.posB l e i = r := ⟨_, rfl⟩
  rw [hr] at HC
  have HR := Lib.hid hr
  clear h hn hr hY hsz
  cases r with
  | false =>
    have hz : Ps.baseS l e i = 0 := by unfold Ps.baseS; rw [HR.out]; rfl
    rw [hz, (Ps.at_out (l := l) (i := 0) (by omega)).1, (Ps.at_out (l := l) (i := 0) (by omega)).2]
    clear hz
    go_enter Try.func20, Try.ntmps20
    go_wp2_with fail
    refine HC.out.mono ?_
    rintro e' w2 ⟨rfl, b2⟩
    obtain ⟨x0, x1, x2, x3, x4⟩ := (HY.out.below b2).cells
    have B2 := Lib.hid (bel_new2 b2)
    clear b2
    go_wp2
    exact bodyPost_ret (v := .agg #[.int .i64 0, .int .i64 0]) (by simp [results, Try.results20, go_sem, x1, x2]) rfl ⟨rfl, bel_set B2.out (Nat.le_succ _)⟩
  | true =>
    obtain ⟨k, hk, hkn, hV⟩ := leave_pos (A := A) (cap := cap) HN.out HR.out
    have hz : Ps.baseS l e i = Ps.shared l k i n := by
      unfold Ps.baseS
      rw [HR.out, hk, Int.toNat_natCast, HN.out]
      rfl
    have HZ := Lib.hid hz
    have HV := Lib.hid hV
    obtain ⟨a0, ha0⟩ : ∃ a, Ps.atE l (Ps.baseS l e i) = a := ⟨_, rfl⟩
    obtain ⟨a1, ha1⟩ : ∃ a, Ps.atI l (Ps.baseS l e i) = a := ⟨_, rfl⟩
    rw [ha0, ha1]
    have HA0 := Lib.hid ha0
    have HA1 := Lib.hid ha1
    clear hz hV hk hkn ha0 ha1
    go_enter Try.func20, Try.ntmps20
    go_wp2_with fail
    refine HC.out.mono ?_
    rintro e' w2 ⟨rfl, b2⟩
    obtain ⟨x0, x1, x2⟩ := HX.out.below b2
    have HV2 := Lib.hid (HV.out w2 (HE.out.below b2))
    have Y2 := Lib.hid (HY.out.below b2)
    have E2 := Lib.hid (HE.out.below b2)
    have B2 := Lib.hid (bel_new2 b2)
    clear b2
    go_wp2_with fail
    refine HV2.out.mono ?_
    rintro e' w3 ⟨y, z, rfl, hy, hz, b3⟩
    have HZZ := Lib.hid (hz.trans HZ.out.symm)
    have B3 := Lib.hid (B2.out.trans (b3.mono B2.out.size))
    have Y3 := Lib.hid (Y2.out.below b3)
    have C3 := Lib.hid (at_any l A n cap z w3 (E2.out.below b3) HN.out)
    rw [show Ps.atE l z = a0 by rw [HZZ.out]; exact HA0.out, show Ps.atI l z = a1 by rw [HZZ.out]; exact HA1.out] at C3
    clear hy hz b3 x0 x1 x2
    go_wp2_with fail
    refine C3.out.mono ?_
    rintro e' w4 ⟨rfl, b4⟩
    obtain ⟨x0, x1, x2, x3, x4⟩ := (Y3.out.below b4).cells
    have B4 := Lib.hid (B3.out.trans (b4.mono B3.out.size))
    clear b4
    go_wp2
    exact bodyPost_ret (v := .agg #[.int .i64 a0, .int .i64 a1]) (by simp [results, Try.results20, go_sem, x1, x2]) rfl ⟨rfl, bel_set B4.out (Nat.le_succ _)⟩
set_option maxHeartbeats 1000000 in
theorem cut_any (l : List Ep) (A : Option Addr) (n cap : Nat) (e i : Int) (w : World) (h : Eps w A l) (hn : l.length = n) : Calls Try.prog 12 #[.slice A n cap, .agg #[.int .i64 e, .int .i64 i]] w fun e' w' => e' = .returned (.tuple #[.int .i64 (Ps.cutN l e i : Nat), .bool (Ps.cutF l e i)]) ∧ Below w.heap.size w w' := by
  have HE := Lib.hid (h.alloc (.cells #[.int .i64 e, .int .i64 i] 24))
  have HC := Lib.hid (isPos_any l A n cap e i _ HE.out hn)
  have HX := Lib.hid (Box2.new w e i 24)
  have HN := Lib.hid hn
  have hm : (n : Int) ≤ 9223372036854775807 := by have := h.1; unfold maxLen at this; omega
  obtain ⟨r, hr⟩ : ∃ r, Ps.posB l e i = r := ⟨_, rfl⟩
  rw [hr] at HC
  have HR := Lib.hid hr
  clear h hn hr
  cases r with
  | false =>
    have hz := Ps.cutN_off HR.out
    have hf : Ps.cutF l e i = false := by unfold Ps.cutF; rw [if_pos hz]
    rw [hz, hf]
    clear hz hf
    go_enter Try.func12, Try.ntmps12
    go_wp2_with fail
    refine HC.out.mono ?_
    rintro e' w2 ⟨rfl, b2⟩
    have B2 := Lib.hid (bel_new b2)
    clear b2
    go_wp2
    go_ret2
    exact ⟨rfl, B2.out⟩
  | true =>
    obtain ⟨k, hk, hkn, hV⟩ := leave_pos (A := A) (cap := cap) HN.out HR.out
    have hz : Ps.cutN l e i = Ps.cutter l k i n := by
      unfold Ps.cutN
      rw [HR.out, hk, Int.toNat_natCast, HN.out]
      rfl
    have HZ := Lib.hid hz
    have HV := Lib.hid hV
    obtain ⟨f, hf⟩ : ∃ f, Ps.cutF l e i = f := ⟨_, rfl⟩
    have HF := Lib.hid hf
    rw [hf]
    clear hV hk hkn hf
    by_cases h0 : Ps.cutN l e i = 0
    · have HF0 : Hid (f = false) := by show _ = _; rw [← HF.out]; unfold Ps.cutF; rw [if_pos h0]
      rw [HF0.out, h0]
      clear hz
      have H0 := Lib.hid h0
      clear h0
      go_enter Try.func12, Try.ntmps12
      go_wp2_with fail
      refine HC.out.mono ?_
      rintro e' w2 ⟨rfl, b2⟩
      obtain ⟨x0, x1, x2⟩ := HX.out.below b2
      have HV2 := Lib.hid (HV.out w2 (HE.out.below b2))
      have B2 := Lib.hid (bel_new b2)
      clear b2
      go_wp2_with fail
      refine HV2.out.mono ?_
      rintro e' w3 ⟨y, z, rfl, hy, hz, b3⟩
      have B3 := Lib.hid (B2.out.trans (b3.mono B2.out.size))
      obtain rfl : y = 0 := by rw [hy, ← HZ.out, H0.out]; rfl
      clear hy hz b3
      go_wp2
      go_ret2
      exact ⟨rfl, B3.out⟩
    · obtain ⟨_, hlo, hhi, _, _⟩ := Ps.cut_facts h0
      obtain ⟨q, hq⟩ : ∃ q, Ps.cutN l e i = q + 1 := ⟨Ps.cutN l e i - 1, by omega⟩
      have hql : q < l.length := by omega
      have hqn : q < n := by rw [← HN.out]; exact hql
      have hff : f = l[q].F := by
        rw [← HF.out]
        unfold Ps.cutF Ps.forcedAt
        rw [if_neg h0, hq, Nat.add_sub_cancel, List.getElem?_eq_getElem hql]
      have hat := HE.out.at_ hql
      obtain ⟨b, off, rfl, hbs, hcs⟩ := hat
      have hc2 := hcs.2.2
      rw [← hff] at hc2
      have HC2 := Lib.hid hc2
      have HBS := Lib.hid hbs
      have HQ := Lib.hid hq
      rw [hq]
      clear hz h0 hlo hhi hq hff hcs hc2 hbs hql
      have hwr : IntKind.i64.wrap (((q + 1 : Nat) : Int) - 1) = (q : Int) := (IntWalk.i64_in _ (by omega)).trans (by omega)
      have HWR := Lib.hid hwr
      clear hwr
      go_enter Try.func12, Try.ntmps12
      go_wp2_with fail
      refine HC.out.mono ?_
      rintro e' w2 ⟨rfl, b2⟩
      obtain ⟨x0, x1, x2⟩ := HX.out.below b2
      have HV2 := Lib.hid (HV.out w2 (HE.out.below b2))
      have hc2 : w2.cell? ⟨b, off + q * 3 + 2, none⟩ = some (.bool f) := by rw [b2.cell (p := ⟨b, _, none⟩) HBS.out]; exact HC2.out
      have C2 := Lib.hid hc2
      have B2' := Lib.hid (Nat.lt_of_lt_of_le HBS.out b2.size)
      have B2 := Lib.hid (bel_new b2)
      clear b2 hc2
      go_wp2_with fail
      refine HV2.out.mono ?_
      rintro e' w3 ⟨y, z, rfl, hy, hz, b3⟩
      have c3 : w3.cell? ⟨b, off + q * 3 + 2, none⟩ = some (.bool f) := by rw [b3.cell (p := ⟨b, _, none⟩) B2'.out]; exact C2.out
      have B3 := Lib.hid (B2.out.trans (b3.mono B2.out.size))
      have hyq : y = ((q + 1 : Nat) : Int) := by rw [hy, ← HZ.out, HQ.out]
      have hy0 : ¬ y = 0 := by omega
      have hwy : IntKind.i64.wrap (y - 1) = (q : Int) := by rw [hyq]; exact HWR.out
      have HWY := Lib.hid hwy
      have HYQ := Lib.hid hyq
      clear hy hz b3 hyq hwy x0 x1 x2
      go_wp2
      have hwy := HWY.out
      go_quiet (fail)
      clear hwy
      go_wp2
      go_ret2
      exact ⟨by rw [HYQ.out]; rfl, bel_drew B3.out _⟩
set_option maxHeartbeats 1000000 in
theorem covers_any (l : List Ep) (A : Option Addr) (n cap : Nat) (e i fe fi : Int) (w : World) (h : Eps w A l) (hn : l.length = n) : Calls Try.prog 22 #[.slice A n cap, .agg #[.int .i64 e, .int .i64 i], .agg #[.int .i64 fe, .int .i64 fi]] w fun e' w' => e' = .returned (.bool (Ps.covB l e i fe fi)) ∧ Below w.heap.size w w' := by
  have HE := Lib.hid ((h.alloc (.cells #[.int .i64 e, .int .i64 i] 24)).alloc (.cells #[.int .i64 fe, .int .i64 fi] 24))
  have HC := Lib.hid (on_any l A n cap e i _ HE.out hn)
  have HX := Lib.hid ((Box2.new w e i 24).below ((Below.refl _ _).alloc (Nat.le_refl _) (.cells #[.int .i64 fe, .int .i64 fi] 24)))
  have hY := Box2.new (w.alloc (.cells #[.int .i64 e, .int .i64 i] 24)) fe fi 24
  have hsz : (w.alloc (.cells #[.int .i64 e, .int .i64 i] 24)).heap.size = w.heap.size + 1 := by simp
  rw [hsz] at hY
  have HY := Lib.hid hY
  have HN := Lib.hid hn
  obtain ⟨r, hr⟩ : ∃ r, Ps.onB l e i = r := ⟨_, rfl⟩
  obtain ⟨s, hs⟩ : ∃ s, Ps.onB l fe fi = s := ⟨_, rfl⟩
  have HV : Ps.covB l e i fe fi = (r && s && decide (fi ≤ i)) := by unfold Ps.covB; rw [hr, hs]
  rw [HV]
  rw [hr] at HC
  have HS := Lib.hid hs
  clear h hn hr hs HV hY hsz
  cases r with
  | false =>
    go_enter Try.func22, Try.ntmps22
    go_wp2_with fail
    refine HC.out.mono ?_
    rintro e' w2 ⟨rfl, b2⟩
    have B2 := Lib.hid (bel_new2 b2)
    clear b2
    go_wp2
    go_ret
    exact ⟨rfl, B2.out⟩
  | true =>
    go_enter Try.func22, Try.ntmps22
    go_wp2_with fail
    refine HC.out.mono ?_
    rintro e' w2 ⟨rfl, b2⟩
    obtain ⟨x0, x1, x2⟩ := HX.out.below b2
    obtain ⟨y0, y1, y2⟩ := HY.out.below b2
    have C2 := Lib.hid (on_any l A n cap fe fi w2 (HE.out.below b2) HN.out)
    rw [HS.out] at C2
    have X2 := Lib.hid (HX.out.below b2)
    have Y2 := Lib.hid (HY.out.below b2)
    have B2 := Lib.hid (bel_new2 b2)
    clear b2
    cases s
    all_goals
      go_wp2_with fail
      refine C2.out.mono ?_
      rintro e' w3 ⟨rfl, b3⟩
      clear x0 x1 x2 y0 y1 y2
      obtain ⟨x0, x1, x2⟩ := X2.out.below b3
      obtain ⟨y0, y1, y2⟩ := Y2.out.below b3
      have B3 := Lib.hid (B2.out.trans (b3.mono B2.out.size))
      clear b3
      go_wp2
      go_ret
      exact ⟨rfl, B3.out⟩
end Go.Proofs.Ytkomemiebgnknaa
