/-
  The walk of PosTells. Its conditions: the slice reads as epochs, its length is at most its capacity, it fits memory.
-/
import Derived.Test.YtkomemiebgnknaaW20
import Derived.Test.YtkomemiebgnknaaW12
namespace Go.Proofs.Ytkomemiebgnknaa
open Go.RowKit Go.Sort

def TlRel (l : List Ep) (A B : Option Addr) (n : Nat) (w : World) (e i fe fi : Int) (_ s : Value) (wr : World) : Prop :=
  ∃ j : Nat, j ≤ n ∧ s = .int .i64 (j : Int) ∧ Box2 wr w.heap.size e i ∧ Box2 wr (w.heap.size + 1) fe fi ∧ Eps wr A l ∧ Eps wr B l ∧ Below w.heap.size w wr
theorem refcut_at (l : List Ep) (A : Option Addr) (n cap : Nat) (e i : Int) (c : Nat) (f : Bool) (w : World) (h : Eps w A l) (hn : l.length = n) (hc' : n ≤ cap) (hc : Ps.cutN l e i = c) (hf : Ps.cutF l e i = f) : Calls Try.prog 13 #[.slice A n cap, .agg #[.int .i64 e, .int .i64 i]] w fun e' w' => e' = .returned (.tuple #[.int .i64 (c : Nat), .bool f]) ∧ Below w.heap.size w w' := by
  subst hc hf
  exact refcut_any l A n cap e i w h hn hc'
theorem refbase_at (l : List Ep) (A : Option Addr) (n cap : Nat) (e i x y : Int) (w : World) (h : Eps w A l) (hn : l.length = n) (hc' : n ≤ cap) (hx : Ps.atE l (Ps.baseS l e i) = x) (hy : Ps.atI l (Ps.baseS l e i) = y) : Calls Try.prog 21 #[.slice A n cap, .agg #[.int .i64 e, .int .i64 i]] w fun e' w' => e' = .returned (.agg #[.int .i64 x, .int .i64 y]) ∧ Below w.heap.size w w' := by
  subst hx hy
  exact refbase_any l A n cap e i w h hn hc'
theorem refcovers_at (l : List Ep) (A : Option Addr) (n cap : Nat) (e i fe fi : Int) (w : World) (r : Bool) (h : Eps w A l) (hn : l.length = n) (hr : Ps.covB l e i fe fi = r) : Calls Try.prog 23 #[.slice A n cap, .agg #[.int .i64 e, .int .i64 i], .agg #[.int .i64 fe, .int .i64 fi]] w fun e' w' => e' = .returned (.bool r) ∧ Below w.heap.size w w' := by
  subst hr
  exact refcovers_any l A n cap e i fe fi w h hn
set_option maxRecDepth 100000 in
set_option maxHeartbeats 8000000 in
theorem posTells_walk (l : List Ep) (A : Option Addr) (n cap : Nat) (e i fe fi : Int) (w : World) (h : Eps w A l) (hn : l.length = n) (hc : n ≤ cap) (hA : A = none → cap = 0) (hm : cap * 24 ≤ 140737488351232) :
    Calls Try.prog 3 #[.slice A n cap, .agg #[.int .i64 e, .int .i64 i], .agg #[.int .i64 fe, .int .i64 fi]] w fun e' w' => e' = .returned (.bool true) ∧ Below w.heap.size w w' := by
  have HE := Lib.hid ((h.alloc (.cells #[.int .i64 e, .int .i64 i] 24)).alloc (.cells #[.int .i64 fe, .int .i64 fi] 24))
  have HX := Lib.hid ((Box2.new w e i 24).below ((Below.refl _ _).alloc (Nat.le_refl _) (.cells #[.int .i64 fe, .int .i64 fi] 24)))
  have hY := Box2.new (w.alloc (.cells #[.int .i64 e, .int .i64 i] 24)) fe fi 24
  have hsz : (w.alloc (.cells #[.int .i64 e, .int .i64 i] 24)).heap.size = w.heap.size + 1 := by simp
  rw [hsz] at hY
  have HY := Lib.hid hY
  have HN := Lib.hid hn
  have HCAP := Lib.hid hc
  have HCP : Hid (∀ W, Eps W A l → Calls Try.prog 11 #[.slice A n cap] W (CpPost l n W)) := fun W hW => copy_any l A n cap W hW hn hA (by omega)
  obtain ⟨c, ec⟩ : ∃ c, Ps.cutN l e i = c := ⟨_, rfl⟩
  obtain ⟨f, ef⟩ : ∃ f, Ps.cutF l e i = f := ⟨_, rfl⟩
  obtain ⟨r, er⟩ : ∃ r, Ps.rightB l = r := ⟨_, rfl⟩
  obtain ⟨o, eo⟩ : ∃ o, Ps.onB l e i = o := ⟨_, rfl⟩
  obtain ⟨a0, ea0⟩ : ∃ a, Ps.atE l i = a := ⟨_, rfl⟩
  obtain ⟨a1, ea1⟩ : ∃ a, Ps.atI l i = a := ⟨_, rfl⟩
  obtain ⟨s0, es0⟩ : ∃ a, Ps.atE l (Ps.baseS l e i) = a := ⟨_, rfl⟩
  obtain ⟨s1, es1⟩ : ∃ a, Ps.atI l (Ps.baseS l e i) = a := ⟨_, rfl⟩
  obtain ⟨v, ev⟩ : ∃ v, Ps.covB l e i fe fi = v := ⟨_, rfl⟩
  have hm2 : (n : Int) ≤ 9223372036854775807 := by omega
  have K12 : Hid (∀ W B b, Eps W B l → Calls Try.prog 12 #[.slice B n b, .agg #[.int .i64 e, .int .i64 i]] W fun e' w' => e' = .returned (.tuple #[.int .i64 (c : Nat), .bool f]) ∧ Below W.heap.size W w') := fun W B b hW => cut_at l B n b e i c f W hW hn ec ef
  have K13 : Hid (∀ W, Eps W A l → Calls Try.prog 13 #[.slice A n cap, .agg #[.int .i64 e, .int .i64 i]] W fun e' w' => e' = .returned (.tuple #[.int .i64 (c : Nat), .bool f]) ∧ Below W.heap.size W w') := fun W hW => refcut_at l A n cap e i c f W hW hn hc ec ef
  have K14 : Hid (∀ W B b, Eps W B l → Calls Try.prog 14 #[.slice B n b] W fun e' w' => e' = .returned (.bool r) ∧ Below W.heap.size W w') := fun W B b hW => right_at l B n b W r hW hn er
  have K15 : Hid (∀ W, Eps W A l → Calls Try.prog 15 #[.slice A n cap] W fun e' w' => e' = .returned (.bool r) ∧ Below W.heap.size W w') := fun W hW => refright_at l A n cap W r hW hn er
  have K16 : Hid (∀ W B b, Eps W B l → Calls Try.prog 16 #[.slice B n b, .agg #[.int .i64 e, .int .i64 i]] W fun e' w' => e' = .returned (.bool o) ∧ Below W.heap.size W w') := fun W B b hW => on_at l B n b e i W o hW hn eo
  have K17 : Hid (∀ W, Eps W A l → Calls Try.prog 17 #[.slice A n cap, .agg #[.int .i64 e, .int .i64 i]] W fun e' w' => e' = .returned (.bool o) ∧ Below W.heap.size W w') := fun W hW => refon_at l A n cap e i W o hW hn eo
  have K18 : Hid (∀ W B b, Eps W B l → Calls Try.prog 18 #[.slice B n b, .int .i64 i] W fun e' w' => e' = .returned (.agg #[.int .i64 a0, .int .i64 a1]) ∧ Below W.heap.size W w') := fun W B b hW => at_at l B n b i a0 a1 W hW hn ea0 ea1
  have K19 : Hid (∀ W, Eps W A l → Calls Try.prog 19 #[.slice A n cap, .int .i64 i] W fun e' w' => e' = .returned (.agg #[.int .i64 a0, .int .i64 a1]) ∧ Below W.heap.size W w') := fun W hW => refat_at l A n cap i a0 a1 W hW hn ea0 ea1
  have K20 : Hid (∀ W B b, Eps W B l → Calls Try.prog 20 #[.slice B n b, .agg #[.int .i64 e, .int .i64 i]] W fun e' w' => e' = .returned (.agg #[.int .i64 s0, .int .i64 s1]) ∧ Below W.heap.size W w') := fun W B b hW => base_at l B n b e i s0 s1 W hW hn es0 es1
  have K21 : Hid (∀ W, Eps W A l → Calls Try.prog 21 #[.slice A n cap, .agg #[.int .i64 e, .int .i64 i]] W fun e' w' => e' = .returned (.agg #[.int .i64 s0, .int .i64 s1]) ∧ Below W.heap.size W w') := fun W hW => refbase_at l A n cap e i s0 s1 W hW hn hc es0 es1
  have K22 : Hid (∀ W B b, Eps W B l → Calls Try.prog 22 #[.slice B n b, .agg #[.int .i64 e, .int .i64 i], .agg #[.int .i64 fe, .int .i64 fi]] W fun e' w' => e' = .returned (.bool v) ∧ Below W.heap.size W w') := fun W B b hW => covers_at l B n b e i fe fi W v hW hn ev
  have K23 : Hid (∀ W, Eps W A l → Calls Try.prog 23 #[.slice A n cap, .agg #[.int .i64 e, .int .i64 i], .agg #[.int .i64 fe, .int .i64 fi]] W fun e' w' => e' = .returned (.bool v) ∧ Below W.heap.size W w') := fun W hW => refcovers_at l A n cap e i fe fi W v hW hn ev
  obtain ⟨y, hy⟩ : ∃ y : Int, (c : Int) = y := ⟨_, rfl⟩
  rw [hy] at K12 K13
  clear h hn hc hA hm hY hsz ec ef er eo ea0 ea1 es0 es1 ev hy
  go_enter Try.func3, Try.ntmps3
  go_wp2_with fail
  refine (awake_any _).mono ?_
  rintro e' w1 ⟨rfl, b1⟩
  have E1 := Lib.hid (HE.out.below b1)
  have X1 := Lib.hid (HX.out.below b1)
  have Y1 := Lib.hid (HY.out.below b1)
  have B1 := Lib.hid (bel_new2 b1)
  clear b1
  go_wp2_with fail
  refine (HCP.out w1 E1.out).mono ?_
  rintro e' w2 ⟨B, b, rfl, hB, b2⟩
  have F2 := Lib.hid hB
  have E2 := Lib.hid (E1.out.below b2)
  have X2 := Lib.hid (X1.out.below b2)
  have Y2 := Lib.hid (Y1.out.below b2)
  have B2 := Lib.hid (B1.out.trans (b2.mono B1.out.size))
  clear b2 hB
  obtain ⟨x0, x1, x2⟩ := X2.out
  go_wp2_with fail
  refine (K12.out w2 B b F2.out).mono ?_
  rintro e' w3 ⟨rfl, b3⟩
  clear x0 x1 x2
  have F3 := Lib.hid (F2.out.below b3)
  have E3 := Lib.hid (E2.out.below b3)
  have X3 := Lib.hid (X2.out.below b3)
  have Y3 := Lib.hid (Y2.out.below b3)
  have B3 := Lib.hid (B2.out.trans (b3.mono B2.out.size))
  clear b3
  obtain ⟨x0, x1, x2⟩ := X3.out
  go_wp2_with fail
  refine (K13.out w3 E3.out).mono ?_
  rintro e' w4 ⟨rfl, b4⟩
  clear x0 x1 x2
  have F4 := Lib.hid (F3.out.below b4)
  have E4 := Lib.hid (E3.out.below b4)
  have X4 := Lib.hid (X3.out.below b4)
  have Y4 := Lib.hid (Y3.out.below b4)
  have B4 := Lib.hid (B3.out.trans (b4.mono B3.out.size))
  clear b4
  have C14 : Hid (∀ d os, Calls Try.prog 14 #[.slice B n b] (grow (redrawn w4 d) os) fun e' w'' => e' = .returned (.bool r) ∧ ∃ p : Regrown, w'' = grow (redrawn w4 p.d) p.os) := fun d os => Calls.regrown_of (K14.out _ B b (F4.out.below (below_regrown w4 d os)))
  have C15 : Hid (∀ d os, Calls Try.prog 15 #[.slice A n cap] (grow (redrawn w4 d) os) fun e' w'' => e' = .returned (.bool r) ∧ ∃ p : Regrown, w'' = grow (redrawn w4 p.d) p.os) := fun d os => Calls.regrown_of (K15.out _ (E4.out.below (below_regrown w4 d os)))
  have C16 : Hid (∀ d os, Calls Try.prog 16 #[.slice B n b, .agg #[.int .i64 e, .int .i64 i]] (grow (redrawn w4 d) os) fun e' w'' => e' = .returned (.bool o) ∧ ∃ p : Regrown, w'' = grow (redrawn w4 p.d) p.os) := fun d os => Calls.regrown_of (K16.out _ B b (F4.out.below (below_regrown w4 d os)))
  have C17 : Hid (∀ d os, Calls Try.prog 17 #[.slice A n cap, .agg #[.int .i64 e, .int .i64 i]] (grow (redrawn w4 d) os) fun e' w'' => e' = .returned (.bool o) ∧ ∃ p : Regrown, w'' = grow (redrawn w4 p.d) p.os) := fun d os => Calls.regrown_of (K17.out _ (E4.out.below (below_regrown w4 d os)))
  go_wp2
  obtain ⟨g0, g1⟩ := X4.out.grow
  refine wp_region_quiet_below (by kernel_rfl) (by kernel_rfl) ?_
  repeat (go_big_quiet_step (first | with_reducible exact C14.out _ _ | with_reducible exact C15.out _ _ | with_reducible exact C16.out _ _ | with_reducible exact C17.out _ _))
  refine wpQuiet_nil ?_
  intro w5 hw'
  obtain ⟨⟨dq, osq⟩, hw''⟩ := hw'
  have b5 : Below w4.heap.size w4 w5 := by rw [hw'']; exact below_regrown w4 dq osq
  have F5 := Lib.hid (F4.out.below b5)
  have E5 := Lib.hid (E4.out.below b5)
  have X5 := Lib.hid (X4.out.below b5)
  have Y5 := Lib.hid (Y4.out.below b5)
  have B5 := Lib.hid (B4.out.trans (b5.mono B4.out.size))
  clear hw'' b5 g0 g1
  go_wp2
  go_loopw [12, 55] (TlRel l A B n w e i fe fi) (fun _ s _ => n - (intOf s).toNat)
  case atStart => exact ⟨0, Nat.zero_le _, rfl, X5.out, Y5.out, E5.out, F5.out, B5.out⟩
  case round =>
    obtain ⟨j, hj, rfl, hX, hY, hE, hF, hB⟩ := hrel
    have HXr := Lib.hid hX
    have HYr := Lib.hid hY
    have HEr := Lib.hid hE
    have HFr := Lib.hid hF
    have HBr := Lib.hid hB
    clear hX hY hE hF hB
    by_cases hlt : j < n
    · have hjl : j < l.length := by have := HN.out; omega
      obtain ⟨b1, off1, hA1, hbs, c0, c1, c2⟩ := HEr.out.at_ hjl
      obtain ⟨b2, off2, hB2, hbs', d0, d1, d2⟩ := HFr.out.at_ hjl
      have hlti : (j : Int) < (n : Int) := by omega
      generalize l[j] = x at c0 c1 c2 d0 d1 d2
      clear hjl
      obtain ⟨M, C, F⟩ := x
      simp only at c0 c1 c2 d0 d1 d2
      subst hA1 hB2
      go_wp2
      go_quiet (fail)
      go_wp2
      go_roundw
      case rel => exact ⟨j + 1, by omega, by go_num, box_drew HXr.out, box_drew HYr.out, eps_drew HEr.out, eps_drew HFr.out, bel_drew HBr.out _⟩
      case measure => simp [intOf]; omega
    · have hlti : ¬ (j : Int) < (n : Int) := by omega
      have C18 : Hid (∀ d os, Calls Try.prog 18 #[.slice B n b, .int .i64 i] (grow (redrawn wr d) os) fun e' w'' => e' = .returned (.agg #[.int .i64 a0, .int .i64 a1]) ∧ ∃ p : Regrown, w'' = grow (redrawn wr p.d) p.os) := fun d os => Calls.regrown_of (K18.out _ B b (HFr.out.below (below_regrown wr d os)))
      have C19 : Hid (∀ d os, Calls Try.prog 19 #[.slice A n cap, .int .i64 i] (grow (redrawn wr d) os) fun e' w'' => e' = .returned (.agg #[.int .i64 a0, .int .i64 a1]) ∧ ∃ p : Regrown, w'' = grow (redrawn wr p.d) p.os) := fun d os => Calls.regrown_of (K19.out _ (HEr.out.below (below_regrown wr d os)))
      have C20 : Hid (∀ d os, Calls Try.prog 20 #[.slice B n b, .agg #[.int .i64 e, .int .i64 i]] (grow (redrawn wr d) os) fun e' w'' => e' = .returned (.agg #[.int .i64 s0, .int .i64 s1]) ∧ ∃ p : Regrown, w'' = grow (redrawn wr p.d) p.os) := fun d os => Calls.regrown_of (K20.out _ B b (HFr.out.below (below_regrown wr d os)))
      have C21 : Hid (∀ d os, Calls Try.prog 21 #[.slice A n cap, .agg #[.int .i64 e, .int .i64 i]] (grow (redrawn wr d) os) fun e' w'' => e' = .returned (.agg #[.int .i64 s0, .int .i64 s1]) ∧ ∃ p : Regrown, w'' = grow (redrawn wr p.d) p.os) := fun d os => Calls.regrown_of (K21.out _ (HEr.out.below (below_regrown wr d os)))
      have C22 : Hid (∀ d os, Calls Try.prog 22 #[.slice B n b, .agg #[.int .i64 e, .int .i64 i], .agg #[.int .i64 fe, .int .i64 fi]] (grow (redrawn wr d) os) fun e' w'' => e' = .returned (.bool v) ∧ ∃ p : Regrown, w'' = grow (redrawn wr p.d) p.os) := fun d os => Calls.regrown_of (K22.out _ B b (HFr.out.below (below_regrown wr d os)))
      have C23 : Hid (∀ d os, Calls Try.prog 23 #[.slice A n cap, .agg #[.int .i64 e, .int .i64 i], .agg #[.int .i64 fe, .int .i64 fi]] (grow (redrawn wr d) os) fun e' w'' => e' = .returned (.bool v) ∧ ∃ p : Regrown, w'' = grow (redrawn wr p.d) p.os) := fun d os => Calls.regrown_of (K23.out _ (HEr.out.below (below_regrown wr d os)))
      go_wp2
      obtain ⟨g0, g1⟩ := HXr.out.grow
      obtain ⟨g2, g3⟩ := HYr.out.grow
      refine wp_region_quiet_below (by kernel_rfl) (by kernel_rfl) ?_
      repeat (go_big_quiet_step (first | with_reducible exact C18.out _ _ | with_reducible exact C19.out _ _ | with_reducible exact C20.out _ _ | with_reducible exact C21.out _ _ | with_reducible exact C22.out _ _ | with_reducible exact C23.out _ _))
      refine wpQuiet_nil ?_
      intro w6 hw'
      obtain ⟨⟨dq, osq⟩, hw''⟩ := hw'
      have b6 : Below wr.heap.size wr w6 := by rw [hw'']; exact below_regrown wr dq osq
      have B6 := Lib.hid (HBr.out.trans (b6.mono HBr.out.size))
      clear hw'' b6 g0 g1 g2 g3
      go_wp2
      go_ret
      exact ⟨rfl, B6.out⟩
end Go.Proofs.Ytkomemiebgnknaa
