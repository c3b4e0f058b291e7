/-
  The walk of LeaseApart. Its conditions: the keys are texts, the first number a byte.
-/
import Derived.Test.YtfiohhgmlelnkaaW6
namespace Go.Proofs.Ytfiohhgmlelnkaa
open Go.RowKit Go.Maps

def oHarm (h t : Int) : Obj := .cells #[.int .u8 h, .int .i64 t] 49 (0, 0)
theorem St.harm {w0 W : World} {g B : Nat} {L : List Ls} {limit ticks last : Int} {q : Nat} {h t : Int} (s : St w0 W g B L limit ticks last q (oHarm h t)) : W.cell? ⟨q, 0, none⟩ = some (.int .u8 h) ∧ W.cell? ⟨q, 1, none⟩ = some (.int .i64 t) := by
  have := s.box
  unfold oHarm at this
  refine ⟨?_, ?_⟩ <;> simp [World.cell?, this]
theorem ap1 (a : ByteArray) : grL [] a 3 5 0 = [⟨a, 1, 5⟩] ∧ grT [] a 3 0 = 1 ∧ grV [] a 3 0 = 1 ∧ grB [] a 3 = true := ⟨rfl, rfl, rfl, rfl⟩
theorem ap2 (a : ByteArray) : grL [⟨a, 1, 5⟩] a 3 5 1 = [⟨a, 1, 5⟩] ∧ grT [⟨a, 1, 5⟩] a 3 1 = 1 ∧ grV [⟨a, 1, 5⟩] a 3 1 = 0 ∧ grB [⟨a, 1, 5⟩] a 3 = false := by
  have e : grB [⟨a, 1, 5⟩] a 3 = false := by simp [grB, has, fnd]
  simp [grL, grT, grV, e]
theorem ap3 (a : ByteArray) : useB [⟨a, 1, 5⟩] a 1 = true := by simp [useB, fnd]
theorem ap4 {a b : ByteArray} (h : ¬ a = b) : grL [⟨a, 1, 5⟩] b 3 5 1 = [⟨a, 1, 5⟩, ⟨b, 2, 5⟩] ∧ grT [⟨a, 1, 5⟩] b 3 1 = 2 ∧ grV [⟨a, 1, 5⟩] b 3 1 = 2 ∧ grB [⟨a, 1, 5⟩] b 3 = true := by
  have e : grB [⟨a, 1, 5⟩] b 3 = true := by simp [grB, has, fnd, h]
  simp [grL, grT, grV, e]
/-- The other key's lease is there. -/
def Has2 (L : List Ls) (b : ByteArray) : Prop := fnd L b = some ⟨b, 2, 5⟩
theorem has2_0 {a b : ByteArray} (h : ¬ a = b) : Has2 [⟨a, 1, 5⟩, ⟨b, 2, 5⟩] b := by simp [Has2, fnd, h]
theorem Has2.drp {L : List Ls} {a b : ByteArray} (h : Has2 L b) (hn : ¬ a = b) : Has2 (drp L a) b := by
  unfold Has2
  rw [fnd_drp (fun e => hn e.symm)]
  exact h
theorem Has2.use {L : List Ls} {a b : ByteArray} (h : Has2 L b) (hn : ¬ a = b) (t : Int) : Has2 (useL L a t) b := by
  unfold useL
  split
  · exact h.drp hn
  · exact h
theorem Has2.u1 {L : List Ls} {b : ByteArray} (h : Has2 L b) : useB L b 1 = false ∧ useL L b 1 = L := by
  have e : useB L b 1 = false := by unfold useB; rw [h]; rfl
  simp [useL, e]
theorem Has2.u2 {L : List Ls} {b : ByteArray} (h : Has2 L b) : useB L b 2 = true ∧ useL L b 2 = Ytfiohhgmlelnkaa.drp L b := by
  have e : useB L b 2 = true := by unfold useB; rw [h]; rfl
  simp [useL, e]
theorem gone_use (L : List Ls) (b : ByteArray) (t : Int) : useB (drp L b) b t = false := by
  unfold useB
  rw [fnd_none.mpr (not_in_drp L b)]
set_option maxRecDepth 100000 in
set_option maxHeartbeats 4000000 in
theorem apart_walk (a b : ByteArray) (h t : Int) (w : World) (ha : a.size ≤ maxLen) (hb : b.size ≤ maxLen) (h0 : 0 ≤ h) (h1 : h < 256) :
    Calls Try.prog 8 #[.string a, .string b, .agg #[.int .u8 h, .int .i64 t]] w fun e w' => e = .returned (.bool true) ∧ Below w.heap.size w w' := by
  have HA := Lib.hid ha
  have HB := Lib.hid hb
  clear ha hb
  go_enter Try.func8, Try.ntmps8
  go_wp2_with fail
  have b0 : Below w.heap.size w (w.alloc (oHarm h t)) := (Below.refl _ _).alloc (Nat.le_refl _) _
  have x0 : (w.alloc (oHarm h t)).heap[w.heap.size]? = some (oHarm h t) := heap_new _ _
  obtain ⟨q, hq⟩ : ∃ q, q = w.heap.size := ⟨_, rfl⟩
  rw [← hq] at x0
  rw [← hq]
  obtain ⟨W0, hW0⟩ : ∃ W0, w.alloc (oHarm h t) = W0 := ⟨_, rfl⟩
  have hW0' := hW0
  simp only [oHarm] at hW0'
  rw [hW0] at b0 x0
  rw [hW0']
  clear hW0 hW0'
  have HQ := Lib.hid hq
  have B0 := Lib.hid b0
  have X0 := Lib.hid x0
  clear hq b0 x0
  refine (awake_any W0).mono ?_
  rintro r w1 ⟨rfl, b1⟩
  have B1 := Lib.hid (B0.out.trans (b1.mono B0.out.size))
  have X1 : Hid (w1.heap[q]? = some (oHarm h t)) := (b1.block q (lt_of_heap X0.out)).trans X0.out
  clear b1 B0 X0
  go_wp2_with fail
  refine (new_any w.heap.size 3 5 5 w1 B1.out.size rfl (by omega) (by omega)).mono ?_
  rintro r w2 ⟨g, B, rfl, t2, b2, _, _⟩
  have S2 : Hid (St w w2 g B [] 3 5 0 q (oHarm h t)) := ⟨t2, (b2.block q (lt_of_heap X1.out)).trans X1.out, by simp [kd, oHarm, tK], B1.out.trans (b2.mono B1.out.size)⟩
  clear t2 b2 B1 X1
  have C2 := Lib.hid (st_grant S2.out a HA.out (by omega) (by omega))
  rw [(ap1 a).1, (ap1 a).2.1, (ap1 a).2.2.1, (ap1 a).2.2.2] at C2
  go_wp2_with fail
  refine C2.out.mono ?_
  rintro r w3 ⟨rfl, s3⟩
  have S3 := Lib.hid s3
  clear s3 S2 C2
  by_cases hab : a = b
  · subst hab
    have C3 := Lib.hid (st_grant S3.out a HA.out (by omega) (by omega))
    rw [(ap2 a).1, (ap2 a).2.1, (ap2 a).2.2.1, (ap2 a).2.2.2] at C3
    go_wp2_with fail
    refine C3.out.mono ?_
    rintro r w4 ⟨rfl, s4⟩
    have C4 := Lib.hid (st_use s4 a 1 HA.out)
    rw [ap3 a] at C4
    clear s4 S3 C3
    go_wp2_with fail
    refine C4.out.mono ?_
    rintro r w5 ⟨rfl, s5⟩
    have S5 := Lib.hid s5
    clear s5 C4
    go_wp2
    go_ret
    exact ⟨rfl, S5.out.bel⟩
  · have C3 := Lib.hid (st_grant S3.out b HB.out (by omega) (by omega))
    rw [(ap4 hab).1, (ap4 hab).2.1, (ap4 hab).2.2.1, (ap4 hab).2.2.2] at C3
    go_wp2_with fail
    refine C3.out.mono ?_
    rintro r w4 ⟨rfl, s4⟩
    have S4 := Lib.hid s4
    obtain ⟨z0, z1⟩ := s4.harm
    have HP := Lib.hid (has2_0 hab)
    have HAB := Lib.hid hab
    have hne := toList_ne hab
    clear s4 S3 C3 hab
    generalize [(⟨a, 1, 5⟩ : Ls), ⟨b, 2, 5⟩] = L4 at S4 HP
    have C9 : Hid (∀ (L : List Ls) (W : World), Has2 L b → St w W g B L 3 5 2 q (oHarm h t) → Calls Try.prog 13 #[.pointer (some ⟨g, 0, none⟩), .string b, .int .i64 1] W fun r w' => r = .returned (.bool false) ∧ St w w' g B L 3 5 2 q (oHarm h t)) := fun L W hL hs => by
      have := st_use hs b 1 HB.out
      rwa [hL.u1.1, hL.u1.2] at this
    have C10 : Hid (∀ (L : List Ls) (W : World), Has2 L b → St w W g B L 3 5 2 q (oHarm h t) → Calls Try.prog 13 #[.pointer (some ⟨g, 0, none⟩), .string b, .int .i64 2] W fun r w' => r = .returned (.bool true) ∧ St w w' g B (drp L b) 3 5 2 q (oHarm h t)) := fun L W hL hs => by
      have := st_use hs b 2 HB.out
      rwa [hL.u2.1, hL.u2.2] at this
    have C11 : Hid (∀ (L : List Ls) (W : World), St w W g B (drp L b) 3 5 2 q (oHarm h t) → Calls Try.prog 13 #[.pointer (some ⟨g, 0, none⟩), .string b, .int .i64 2] W fun r w' => r = .returned (.bool false) ∧ Below w.heap.size w w') := fun L W hs => by
      have := st_use hs b 2 HB.out
      rw [gone_use] at this
      exact this.mono fun r w' hh => ⟨hh.1, hh.2.bel⟩
    by_cases hm0 : h % 3 = 0
    · go_wp2_with fail
      refine (st_kill S4.out a HA.out).mono ?_
      rintro r w5 ⟨rfl, s5⟩
      have S5 := Lib.hid s5
      have HP5 := Lib.hid (HP.out.drp HAB.out)
      clear s5 S4 z0 z1
      go_wp2_with fail
      refine (C9.out _ _ HP5.out S5.out).mono ?_
      rintro r w6 ⟨rfl, s6⟩
      have S6 := Lib.hid s6
      clear s6 S5
      go_wp2_with fail
      refine (C10.out _ _ HP5.out S6.out).mono ?_
      rintro r w7 ⟨rfl, s7⟩
      have S7 := Lib.hid s7
      clear s7 S6
      go_wp2_with fail
      refine (C11.out _ _ S7.out).mono ?_
      rintro r w8 ⟨rfl, b8⟩
      have B8 := Lib.hid b8
      clear b8
      go_wp2
      go_ret
      exact ⟨rfl, B8.out⟩
    · by_cases hm1 : h % 3 = 1
      · go_wp2_with fail
        refine (st_use S4.out a 1 HA.out).mono ?_
        rintro r w5 ⟨rfl, s5⟩
        have S5 := Lib.hid s5
        have HP5 := Lib.hid (HP.out.use HAB.out 1)
        clear s5 S4 z0 z1
        go_wp2_with fail
        refine (C9.out _ _ HP5.out S5.out).mono ?_
        rintro r w6 ⟨rfl, s6⟩
        have S6 := Lib.hid s6
        clear s6 S5
        go_wp2_with fail
        refine (C10.out _ _ HP5.out S6.out).mono ?_
        rintro r w7 ⟨rfl, s7⟩
        have S7 := Lib.hid s7
        clear s7 S6
        go_wp2_with fail
        refine (C11.out _ _ S7.out).mono ?_
        rintro r w8 ⟨rfl, b8⟩
        have B8 := Lib.hid b8
        clear b8
        go_wp2
        go_ret
        exact ⟨rfl, B8.out⟩
      · have hm2 : h % 3 = 2 := by omega
        clear hm0 hm1
        go_wp2_with fail
        refine (st_use S4.out a t HA.out).mono ?_
        rintro r w5 ⟨rfl, s5⟩
        have S5 := Lib.hid s5
        have HP5 := Lib.hid (HP.out.use HAB.out t)
        clear s5 S4 z0 z1
        go_wp2_with fail
        refine (C9.out _ _ HP5.out S5.out).mono ?_
        rintro r w6 ⟨rfl, s6⟩
        have S6 := Lib.hid s6
        clear s6 S5
        go_wp2_with fail
        refine (C10.out _ _ HP5.out S6.out).mono ?_
        rintro r w7 ⟨rfl, s7⟩
        have S7 := Lib.hid s7
        clear s7 S6
        go_wp2_with fail
        refine (C11.out _ _ S7.out).mono ?_
        rintro r w8 ⟨rfl, b8⟩
        have B8 := Lib.hid b8
        clear b8
        go_wp2
        go_ret
        exact ⟨rfl, B8.out⟩
end Go.Proofs.Ytfiohhgmlelnkaa
