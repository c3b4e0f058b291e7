/-
  The walk of PosBase. Its conditions: the slice reads as epochs.
-/
import Derived.Test.YtkomemiebgnknaaW12
namespace Go.Proofs.Ytkomemiebgnknaa
open Go.RowKit Go.Sort

theorem run_max0 {P : Program} (w : World) (ts : Array TypeId) (t : TypeId) (x n : Int) (h : n = max x 0) :
    (Builtin.max_ ts t #[.int .i64 x, .int .i64 0]).run P w = .ok (.int .i64 n) w := by
  subst h
  simp [Builtin.max_, Builtin.max2]
  try omega
theorem base_index {l : List Ep} {e i : Int} : Ps.atI l (Ps.baseS l e i) ≤ max i 0 := by
  cases hp : Ps.posB l e i with
  | true =>
    have h1 := Ps.baseS_le hp
    have h2 := Ps.atI_le l h1.1
    omega
  | false =>
    have : Ps.baseS l e i = 0 := by unfold Ps.baseS; rw [hp]; rfl
    rw [this, (Ps.at_out (l := l) (i := 0) (by omega)).2]
    omega
set_option maxHeartbeats 4000000 in
theorem base_out (l : List Ep) (A : Option Addr) (n cap : Nat) (e i k : Int) (w : World) (h : Eps w A l) (hn : l.length = n) (hr : Ps.rightB l = false) :
    Calls Try.prog 7 #[.slice A n cap, .agg #[.int .i64 e, .int .i64 i], .int .i64 k] w fun e' w' => e' = .returned (.bool true) ∧ Below w.heap.size w w' := by
  have HE := Lib.hid (h.alloc (.cells #[.int .i64 e, .int .i64 i] 24))
  have HX := Lib.hid (Box2.new w e i 24)
  have HN := Lib.hid hn
  have HR := Lib.hid hr
  have hz : Ps.atE l (Ps.baseS l e i) = 0 ∧ Ps.atI l (Ps.baseS l e i) = 0 := Ps.at_out (fun hh => Ps.rightB_false.mp hr hh.1)
  have HZ := Lib.hid hz
  clear h hn hr hz
  go_enter Try.func7, Try.ntmps7
  go_wp2_with fail
  refine (awake_any _).mono ?_
  rintro e' w1 ⟨rfl, b1⟩
  have E1 := Lib.hid (HE.out.below b1)
  have X1 := Lib.hid (HX.out.below b1)
  have B1 := Lib.hid (bel_new b1)
  clear b1
  obtain ⟨x0, x1, x2⟩ := X1.out
  go_wp2_with fail
  refine (base_at l A n cap e i 0 0 w1 E1.out HN.out HZ.out.1 HZ.out.2).mono ?_
  rintro e' w2 ⟨rfl, b2⟩
  have E2 := Lib.hid (E1.out.below b2)
  have B2 := Lib.hid (B1.out.trans (b2.mono B1.out.size))
  clear b2 x0 x1 x2
  go_wp2_with fail
  refine (right_at l A n cap _ _ (E2.out.alloc _) HN.out HR.out).mono ?_
  rintro e' w3 ⟨rfl, b3⟩
  obtain ⟨x0, x1, x2⟩ := (Box2.new w2 0 0 24).below b3
  have B3 := Lib.hid (B2.out.trans ((bel_new b3).mono B2.out.size))
  clear b3
  go_wp2
  go_ret
  exact ⟨rfl, B3.out⟩
set_option maxHeartbeats 4000000 in
theorem base_in (l : List Ep) (A : Option Addr) (n cap : Nat) (e i k : Int) (w : World) (h : Eps w A l) (hn : l.length = n) (hr : Ps.rightB l = true) :
    Calls Try.prog 7 #[.slice A n cap, .agg #[.int .i64 e, .int .i64 i], .int .i64 k] w fun e' w' => e' = .returned (.bool true) ∧ Below w.heap.size w w' := by
  have HE := Lib.hid (h.alloc (.cells #[.int .i64 e, .int .i64 i] 24))
  have HX := Lib.hid (Box2.new w e i 24)
  have HN := Lib.hid hn
  have HR := Lib.hid hr
  have hrr := Ps.rightB_iff.mp hr
  obtain ⟨b0, hb0⟩ : ∃ b, Ps.atE l (Ps.baseS l e i) = b := ⟨_, rfl⟩
  obtain ⟨b1, hb1⟩ : ∃ b, Ps.atI l (Ps.baseS l e i) = b := ⟨_, rfl⟩
  obtain ⟨q0, hq0⟩ : ∃ b, Ps.atE l k = b := ⟨_, rfl⟩
  obtain ⟨q1, hq1⟩ : ∃ b, Ps.atI l k = b := ⟨_, rfl⟩
  have honb : Ps.onB l b0 b1 = true := by rw [← hb0, ← hb1]; exact Ps.on_at hrr _
  have honq : Ps.onB l q0 q1 = true := by rw [← hq0, ← hq1]; exact Ps.on_at hrr _
  have hbb := Ps.base_on honb
  have hle : b1 ≤ max i 0 := by rw [← hb1]; exact base_index
  obtain ⟨m, hm⟩ : ∃ m, m = max i 0 := ⟨_, rfl⟩
  rw [← hm] at hle
  obtain ⟨on, hon⟩ : ∃ on, Ps.onB l e i = on := ⟨_, rfl⟩
  have hself : on = true → b0 = e ∧ b1 = i := fun h1 => by
    have h2 := Ps.base_on (hon.trans h1)
    exact ⟨hb0.symm.trans h2.1, hb1.symm.trans h2.2⟩
  obtain ⟨z, hz⟩ : ∃ z, decide (q1 ≤ b1) = z := ⟨_, rfl⟩
  have hcv : Ps.covB l b0 b1 q0 q1 = z := by unfold Ps.covB; rw [honb, honq, ← hz]; rfl
  have hmax : ∀ w, (Builtin.max_ #[3, 3] 3 #[.int .i64 i, .int .i64 0]).run Try.prog w = .ok (.int .i64 m) w := fun w => run_max0 w _ _ _ _ hm
  have HB0 := Lib.hid hb0
  have HB1 := Lib.hid hb1
  have HQ0 := Lib.hid hq0
  have HQ1 := Lib.hid hq1
  have HONB := Lib.hid honb
  have HBB := Lib.hid hbb
  have HON := Lib.hid hon
  have HSELF := Lib.hid hself
  have HCV := Lib.hid hcv
  have HMAX := Lib.hid hmax
  have dle : decide (m < b1) = false := by simp; omega
  clear h hn hr hrr hb0 hb1 hq0 hq1 honb honq hbb hm hon hself hcv hmax
  go_enter Try.func7, Try.ntmps7
  go_wp2_with fail
  refine (awake_any _).mono ?_
  rintro e' w1 ⟨rfl, b1'⟩
  have E1 := Lib.hid (HE.out.below b1')
  have X1 := Lib.hid (HX.out.below b1')
  have B1 := Lib.hid (bel_new b1')
  clear b1'
  obtain ⟨x0, x1, x2⟩ := X1.out
  go_wp2_with fail
  refine (base_at l A n cap e i b0 b1 w1 E1.out HN.out HB0.out HB1.out).mono ?_
  rintro e' w2 ⟨rfl, b2⟩
  have E2 := Lib.hid (E1.out.below b2)
  have X2 := Lib.hid (X1.out.below b2)
  have B2 := Lib.hid (B1.out.trans (b2.mono B1.out.size))
  clear b2 x0 x1 x2
  go_wp2_with fail
  refine (right_at l A n cap _ _ (E2.out.alloc _) HN.out HR.out).mono ?_
  rintro e' w3 ⟨rfl, b3⟩
  have Y3 := Lib.hid ((Box2.new w2 b0 b1 24).below b3)
  have X3 := Lib.hid ((X2.out.below ((Below.refl _ _).alloc (Nat.le_refl _) _)).below b3)
  have E3 := Lib.hid ((E2.out.alloc _).below b3)
  have B3 := Lib.hid (B2.out.trans ((bel_new b3).mono B2.out.size))
  clear b3
  have C1 : Hid (∀ d os, Calls Try.prog 16 #[.slice A n cap, .agg #[.int .i64 b0, .int .i64 b1]] (grow (redrawn w3 d) os) fun e' w'' => e' = .returned (.bool true) ∧ ∃ p : Regrown, w'' = grow (redrawn w3 p.d) p.os) :=
    fun d os => Calls.regrown_of (on_at l A n cap b0 b1 _ true (E3.out.below (below_regrown w3 d os)) HN.out HONB.out)
  have C2 : Hid (∀ d os, Calls Try.prog 20 #[.slice A n cap, .agg #[.int .i64 b0, .int .i64 b1]] (grow (redrawn w3 d) os) fun e' w'' => e' = .returned (.agg #[.int .i64 b0, .int .i64 b1]) ∧ ∃ p : Regrown, w'' = grow (redrawn w3 p.d) p.os) :=
    fun d os => Calls.regrown_of (base_at l A n cap b0 b1 b0 b1 _ (E3.out.below (below_regrown w3 d os)) HN.out HBB.out.1 HBB.out.2)
  have C3 : Hid (∀ d os, Calls Try.prog 16 #[.slice A n cap, .agg #[.int .i64 e, .int .i64 i]] (grow (redrawn w3 d) os) fun e' w'' => e' = .returned (.bool on) ∧ ∃ p : Regrown, w'' = grow (redrawn w3 p.d) p.os) :=
    fun d os => Calls.regrown_of (on_at l A n cap e i _ on (E3.out.below (below_regrown w3 d os)) HN.out HON.out)
  have C4 : Hid (∀ W, Eps W A l → Calls Try.prog 18 #[.slice A n cap, .int .i64 k] W fun e' w' => e' = .returned (.agg #[.int .i64 q0, .int .i64 q1]) ∧ Below W.heap.size W w') :=
    fun W hW => at_at l A n cap k q0 q1 W hW HN.out HQ0.out HQ1.out
  have C5 : Hid (∀ W, Eps W A l → Calls Try.prog 22 #[.slice A n cap, .agg #[.int .i64 b0, .int .i64 b1], .agg #[.int .i64 q0, .int .i64 q1]] W fun e' w' => e' = .returned (.bool z) ∧ Below W.heap.size W w') :=
    fun W hW => covers_at l A n cap b0 b1 q0 q1 W z hW HN.out HCV.out
  cases on
  all_goals
    first
      | (have hs := HSELF.out rfl
         obtain ⟨rfl, rfl⟩ := hs)
      | skip
    go_wp2
    obtain ⟨g0, g1⟩ := X3.out.grow
    obtain ⟨g2, g3⟩ := Y3.out.grow
    have hmax := HMAX.out
    refine wp_region_quiet_below (by kernel_rfl) (by kernel_rfl) ?_
    repeat (go_big_quiet_step (first | with_reducible exact C1.out _ _ | with_reducible exact C2.out _ _ | with_reducible exact C3.out _ _))
    refine wpQuiet_nil ?_
    intro w4 hw'
    obtain ⟨⟨dq, osq⟩, hw''⟩ := hw'
    have b4 : Below w3.heap.size w3 w4 := by rw [hw'']; exact below_regrown w3 dq osq
    have E4 := Lib.hid (E3.out.below b4)
    have Y4 := Lib.hid (Y3.out.below b4)
    have B4 := Lib.hid (B3.out.trans (b4.mono B3.out.size))
    clear hw'' b4 g0 g1 g2 g3 hmax
    go_wp2_with fail
    refine (C4.out w4 E4.out).mono ?_
    rintro e' w5 ⟨rfl, b5⟩
    have E5 := Lib.hid ((E4.out.below b5).alloc (.cells #[.int .i64 q0, .int .i64 q1] 24))
    have Y5 := Lib.hid ((Y4.out.below b5).below ((Below.refl _ _).alloc (Nat.le_refl _) (.cells #[.int .i64 q0, .int .i64 q1] 24)))
    have Z5 := Lib.hid (Box2.new w5 q0 q1 24)
    have B5 := Lib.hid ((B4.out.trans (b5.mono B4.out.size)).alloc (B4.out.trans (b5.mono B4.out.size)).size (.cells #[.int .i64 q0, .int .i64 q1] 24))
    clear b5
    go_wp2
    obtain ⟨w6, hw6⟩ : ∃ w6, w5.alloc (.cells #[.int .i64 q0, .int .i64 q1] 24) = w6 := ⟨_, rfl⟩
    rw [hw6] at E5 Y5 Z5 B5 ⊢
    clear hw6
    obtain ⟨g0, g1⟩ := Y5.out.grow
    obtain ⟨g2, g3⟩ := Z5.out.grow
    have C6 : Hid (∀ d os, Calls Try.prog 22 #[.slice A n cap, .agg #[.int .i64 b0, .int .i64 b1], .agg #[.int .i64 q0, .int .i64 q1]] (grow (redrawn w6 d) os) fun e' w'' => e' = .returned (.bool z) ∧ ∃ p : Regrown, w'' = grow (redrawn w6 p.d) p.os) :=
      fun d os => Calls.regrown_of (C5.out _ (E5.out.below (below_regrown w6 d os)))
    refine wp_region_quiet_below (by kernel_rfl) (by kernel_rfl) ?_
    repeat (go_big_quiet_step (with_reducible exact C6.out _ _))
    refine wpQuiet_nil ?_
    intro w7 hw'
    obtain ⟨⟨dq, osq⟩, hw''⟩ := hw'
    have b7 : Below w6.heap.size w6 w7 := by rw [hw'']; exact below_regrown w6 dq osq
    have B7 := Lib.hid (B5.out.trans (b7.mono B5.out.size))
    clear hw'' b7 g0 g1 g2 g3
    cases z
    all_goals
      go_wp2
      go_ret
      exact ⟨rfl, B7.out⟩
theorem posBase_walk (l : List Ep) (A : Option Addr) (n cap : Nat) (e i k : Int) (w : World) (h : Eps w A l) (hn : l.length = n) :
    Calls Try.prog 7 #[.slice A n cap, .agg #[.int .i64 e, .int .i64 i], .int .i64 k] w fun e' w' => e' = .returned (.bool true) ∧ Below w.heap.size w w' := by
  cases hr : Ps.rightB l with
  | false => exact base_out l A n cap e i k w h hn hr
  | true => exact base_in l A n cap e i k w h hn hr
end Go.Proofs.Ytkomemiebgnknaa
