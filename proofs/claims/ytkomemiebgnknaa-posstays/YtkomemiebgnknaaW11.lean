/-
  The walk of PosSelf. Its conditions: the slice reads as epochs.
-/
import Derived.Test.YtkomemiebgnknaaW7
namespace Go.Proofs.Ytkomemiebgnknaa
open Go.RowKit Go.Sort

theorem covers_at (l : List Ep) (A : Option Addr) (n cap : Nat) (e i fe fi : Int) (w : World) (r : Bool) (h : Eps w A l) (hn : l.length = n) (hr : Ps.covB l e i fe fi = r) : Calls Try.prog 22 #[.slice A n cap, .agg #[.int .i64 e, .int .i64 i], .agg #[.int .i64 fe, .int .i64 fi]] w fun e' w' => e' = .returned (.bool r) ∧ Below w.heap.size w w' := by
  subst hr
  exact covers_any l A n cap e i fe fi w h hn
theorem on_at (l : List Ep) (A : Option Addr) (n cap : Nat) (e i : Int) (w : World) (r : Bool) (h : Eps w A l) (hn : l.length = n) (hr : Ps.onB l e i = r) : Calls Try.prog 16 #[.slice A n cap, .agg #[.int .i64 e, .int .i64 i]] w fun e' w' => e' = .returned (.bool r) ∧ Below w.heap.size w w' := by
  subst hr
  exact on_any l A n cap e i w h hn
theorem base_at (l : List Ep) (A : Option Addr) (n cap : Nat) (e i x y : Int) (w : World) (h : Eps w A l) (hn : l.length = n) (hx : Ps.atE l (Ps.baseS l e i) = x) (hy : Ps.atI l (Ps.baseS l e i) = y) : Calls Try.prog 20 #[.slice A n cap, .agg #[.int .i64 e, .int .i64 i]] w fun e' w' => e' = .returned (.agg #[.int .i64 x, .int .i64 y]) ∧ Below w.heap.size w w' := by
  subst hx hy
  exact base_any l A n cap e i w h hn
theorem cut_at (l : List Ep) (A : Option Addr) (n cap : Nat) (e i : Int) (c : Nat) (f : Bool) (w : World) (h : Eps w A l) (hn : l.length = n) (hc : Ps.cutN l e i = c) (hf : Ps.cutF l e i = f) : Calls Try.prog 12 #[.slice A n cap, .agg #[.int .i64 e, .int .i64 i]] w fun e' w' => e' = .returned (.tuple #[.int .i64 (c : Nat), .bool f]) ∧ Below w.heap.size w w' := by
  subst hc hf
  exact cut_any l A n cap e i w h hn
theorem pos_nonneg {l : List Ep} {e i : Int} (h : Ps.onB l e i = true) : 0 ≤ i := by
  obtain ⟨hr, hi, _⟩ := Ps.onB_iff.mp h
  obtain ⟨k, _, _, h2, _⟩ := hi.nat hr
  exact h2
theorem Box2.grow {w : World} {h : Nat} {x y : Int} (b : Box2 w h x y) : (∀ d os, (grow (redrawn w d) os).cell? ⟨h, 0, none⟩ = some (.int .i64 x)) ∧ (∀ d os, (grow (redrawn w d) os).cell? ⟨h, 1, none⟩ = some (.int .i64 y)) :=
  ⟨fun d os => (b.below (below_regrown w d os)).2.1, fun d os => (b.below (below_regrown w d os)).2.2⟩
set_option maxHeartbeats 4000000 in
theorem self_on (l : List Ep) (A : Option Addr) (n cap : Nat) (e i : Int) (w : World) (h : Eps w A l) (hn : l.length = n) (ho : Ps.onB l e i = true) :
    Calls Try.prog 8 #[.slice A n cap, .agg #[.int .i64 e, .int .i64 i]] w fun e' w' => e' = .returned (.bool true) ∧ Below w.heap.size w w' := by
  have HE := Lib.hid (h.alloc (.cells #[.int .i64 e, .int .i64 i] 24))
  have HX := Lib.hid (Box2.new w e i 24)
  have HN := Lib.hid hn
  have HO := Lib.hid ho
  have hB0 : Below w.heap.size w (w.alloc (.cells #[.int .i64 e, .int .i64 i] 24)) := (Below.refl _ _).alloc (Nat.le_refl _) _
  have HB0 := Lib.hid hB0
  clear h hn ho hB0
  go_enter Try.func8, Try.ntmps8
  go_wp2_with fail
  refine (awake_any _).mono ?_
  rintro e' w1 ⟨rfl, b1⟩
  have E1 := Lib.hid (HE.out.below b1)
  have X1 := Lib.hid (HX.out.below b1)
  have B1 := Lib.hid (bel_new b1)
  obtain ⟨x0, x1, x2⟩ := X1.out
  clear b1
  go_wp2_with fail
  refine (on_at l A n cap e i w1 true E1.out HN.out HO.out).mono ?_
  rintro e' w2 ⟨rfl, b2⟩
  have E2 := Lib.hid (E1.out.below b2)
  have X2 := Lib.hid (X1.out.below b2)
  have B2 := Lib.hid (B1.out.trans (b2.mono B1.out.size))
  clear b2 x0 x1 x2
  obtain ⟨x0, x1, x2⟩ := X2.out
  go_wp2_with fail
  refine (cut_at l A n cap e i 0 false w2 E2.out HN.out (Ps.on_cutN HO.out).1 (Ps.on_cutN HO.out).2).mono ?_
  rintro e' w3 ⟨rfl, b3⟩
  have E3 := Lib.hid (E2.out.below b3)
  have X3 := Lib.hid (X2.out.below b3)
  have B3 := Lib.hid (B2.out.trans (b3.mono B2.out.size))
  clear b3 x0 x1 x2
  have C1 : Hid (∀ d os, Calls Try.prog 22 #[.slice A n cap, .agg #[.int .i64 e, .int .i64 i], .agg #[.int .i64 e, .int .i64 i]] (grow (redrawn w3 d) os) fun e w'' => e = .returned (.bool true) ∧ ∃ p : Regrown, w'' = grow (redrawn w3 p.d) p.os) :=
    fun d os => Calls.regrown_of (covers_at l A n cap e i e i _ true (E3.out.below (below_regrown w3 d os)) HN.out (by rw [Ps.cov_self]; exact HO.out))
  have C2 : Hid (∀ d os, Calls Try.prog 20 #[.slice A n cap, .agg #[.int .i64 e, .int .i64 i]] (grow (redrawn w3 d) os) fun e' w'' => e' = .returned (.agg #[.int .i64 e, .int .i64 i]) ∧ ∃ p : Regrown, w'' = grow (redrawn w3 p.d) p.os) :=
    fun d os => Calls.regrown_of (base_at l A n cap e i e i _ (E3.out.below (below_regrown w3 d os)) HN.out (Ps.base_on HO.out).1 (Ps.base_on HO.out).2)
  obtain ⟨g0, g1⟩ := X3.out.grow
  go_wp2
  refine wp_region_quiet_below (by kernel_rfl) (by kernel_rfl) ?_
  repeat (go_big_quiet_step (first | exact C1.out _ _ | exact C2.out _ _))
  refine wpQuiet_nil ?_
  intro w4 hw'
  obtain ⟨⟨dq, osq⟩, hw''⟩ := hw'
  have b4 : Below w3.heap.size w3 w4 := by rw [hw'']; exact below_regrown w3 dq osq
  have E4 := Lib.hid (E3.out.below b4)
  have X4 := Lib.hid (X3.out.below b4)
  have B4 := Lib.hid (B3.out.trans (b4.mono B3.out.size))
  clear hw'' b4 g0 g1
  obtain ⟨x0, x1, x2⟩ := X4.out
  go_wp2_with fail
  refine (covers_at l A n cap e i 0 0 w4 true E4.out HN.out (by unfold Ps.covB; rw [HO.out, Ps.onB_zero (Ps.onB_iff.mp HO.out).1]; simp; exact pos_nonneg HO.out)).mono ?_
  rintro e' w5 ⟨rfl, b5⟩
  have B5 := Lib.hid (B4.out.trans (b5.mono B4.out.size))
  clear b5
  go_wp2
  go_ret
  exact ⟨rfl, B5.out⟩
theorem cutF_zero {l : List Ep} {e i : Int} (h : Ps.cutN l e i = 0) : Ps.cutF l e i = false := by unfold Ps.cutF; rw [if_pos h]
set_option maxHeartbeats 4000000 in
theorem self_off (l : List Ep) (A : Option Addr) (n cap : Nat) (e i : Int) (w : World) (h : Eps w A l) (hn : l.length = n) (ho : Ps.onB l e i = false) :
    Calls Try.prog 8 #[.slice A n cap, .agg #[.int .i64 e, .int .i64 i]] w fun e' w' => e' = .returned (.bool true) ∧ Below w.heap.size w w' := by
  have HE := Lib.hid (h.alloc (.cells #[.int .i64 e, .int .i64 i] 24))
  have HX := Lib.hid (Box2.new w e i 24)
  have HN := Lib.hid hn
  have HO := Lib.hid ho
  obtain ⟨c, hc⟩ : ∃ c, Ps.cutN l e i = c := ⟨_, rfl⟩
  obtain ⟨f, hf⟩ : ∃ f, Ps.cutF l e i = f := ⟨_, rfl⟩
  have hcf : c = 0 → f = false := fun hz => by rw [← hf]; exact cutF_zero (hc.trans hz)
  have HC := Lib.hid hc
  have HF := Lib.hid hf
  have HCF := Lib.hid hcf
  obtain ⟨y, hy⟩ : ∃ y : Int, (c : Int) = y := ⟨_, rfl⟩
  have HY := Lib.hid hy
  obtain ⟨z, hz⟩ : ∃ z : Bool, (y == 0) = z := ⟨_, rfl⟩
  have hzf : z = true → f = false := by
    intro h1
    rw [h1] at hz
    have h2 : y = 0 := by simpa using hz
    exact hcf (by omega)
  have HZF := Lib.hid hzf
  have hz2 : (y != 0) = !z := by rw [← hz]; rfl
  clear h hn ho hc hf hcf hy hzf
  cases z
  · go_enter Try.func8, Try.ntmps8
    go_wp2_with fail
    refine (awake_any _).mono ?_
    rintro e' w1 ⟨rfl, b1⟩
    have E1 := Lib.hid (HE.out.below b1)
    have X1 := Lib.hid (HX.out.below b1)
    have B1 := Lib.hid (bel_new b1)
    obtain ⟨x0, x1, x2⟩ := X1.out
    clear b1
    go_wp2_with fail
    refine (on_at l A n cap e i w1 false E1.out HN.out HO.out).mono ?_
    rintro e' w2 ⟨rfl, b2⟩
    have E2 := Lib.hid (E1.out.below b2)
    have X2 := Lib.hid (X1.out.below b2)
    have B2 := Lib.hid (B1.out.trans (b2.mono B1.out.size))
    clear b2 x0 x1 x2
    obtain ⟨x0, x1, x2⟩ := X2.out
    have CC := Lib.hid (cut_at l A n cap e i c f w2 E2.out HN.out HC.out HF.out)
    rw [HY.out] at CC
    go_wp2_with fail
    refine CC.out.mono ?_
    rintro e' w3 ⟨rfl, b3⟩
    have E3 := Lib.hid (E2.out.below b3)
    have X3 := Lib.hid (X2.out.below b3)
    have B3 := Lib.hid (B2.out.trans (b3.mono B2.out.size))
    clear b3 x0 x1 x2
    have C1 : Hid (∀ d os, Calls Try.prog 22 #[.slice A n cap, .agg #[.int .i64 e, .int .i64 i], .agg #[.int .i64 e, .int .i64 i]] (grow (redrawn w3 d) os) fun e w'' => e = .returned (.bool false) ∧ ∃ p : Regrown, w'' = grow (redrawn w3 p.d) p.os) :=
      fun d os => Calls.regrown_of (covers_at l A n cap e i e i _ false (E3.out.below (below_regrown w3 d os)) HN.out (by rw [Ps.cov_self]; exact HO.out))
    obtain ⟨g0, g1⟩ := X3.out.grow
    go_wp2
    refine wp_region_quiet_below (by kernel_rfl) (by kernel_rfl) ?_
    repeat (go_big_quiet_step (exact C1.out _ _))
    refine wpQuiet_nil ?_
    intro w4 hw'
    obtain ⟨⟨dq, osq⟩, hw''⟩ := hw'
    have b4 : Below w3.heap.size w3 w4 := by rw [hw'']; exact below_regrown w3 dq osq
    have B4 := Lib.hid (B3.out.trans (b4.mono B3.out.size))
    clear hw'' b4 g0 g1
    go_wp2
    go_ret
    exact ⟨rfl, B4.out⟩
  · obtain rfl : f = false := HZF.out rfl
    go_enter Try.func8, Try.ntmps8
    go_wp2_with fail
    refine (awake_any _).mono ?_
    rintro e' w1 ⟨rfl, b1⟩
    have E1 := Lib.hid (HE.out.below b1)
    have X1 := Lib.hid (HX.out.below b1)
    have B1 := Lib.hid (bel_new b1)
    obtain ⟨x0, x1, x2⟩ := X1.out
    clear b1
    go_wp2_with fail
    refine (on_at l A n cap e i w1 false E1.out HN.out HO.out).mono ?_
    rintro e' w2 ⟨rfl, b2⟩
    have E2 := Lib.hid (E1.out.below b2)
    have X2 := Lib.hid (X1.out.below b2)
    have B2 := Lib.hid (B1.out.trans (b2.mono B1.out.size))
    clear b2 x0 x1 x2
    obtain ⟨x0, x1, x2⟩ := X2.out
    have CC := Lib.hid (cut_at l A n cap e i c false w2 E2.out HN.out HC.out HF.out)
    rw [HY.out] at CC
    go_wp2_with fail
    refine CC.out.mono ?_
    rintro e' w3 ⟨rfl, b3⟩
    have E3 := Lib.hid (E2.out.below b3)
    have X3 := Lib.hid (X2.out.below b3)
    have B3 := Lib.hid (B2.out.trans (b3.mono B2.out.size))
    clear b3 x0 x1 x2
    have C1 : Hid (∀ d os, Calls Try.prog 22 #[.slice A n cap, .agg #[.int .i64 e, .int .i64 i], .agg #[.int .i64 e, .int .i64 i]] (grow (redrawn w3 d) os) fun e w'' => e = .returned (.bool false) ∧ ∃ p : Regrown, w'' = grow (redrawn w3 p.d) p.os) :=
      fun d os => Calls.regrown_of (covers_at l A n cap e i e i _ false (E3.out.below (below_regrown w3 d os)) HN.out (by rw [Ps.cov_self]; exact HO.out))
    obtain ⟨g0, g1⟩ := X3.out.grow
    go_wp2
    refine wp_region_quiet_below (by kernel_rfl) (by kernel_rfl) ?_
    repeat (go_big_quiet_step (exact C1.out _ _))
    refine wpQuiet_nil ?_
    intro w4 hw'
    obtain ⟨⟨dq, osq⟩, hw''⟩ := hw'
    have b4 : Below w3.heap.size w3 w4 := by rw [hw'']; exact below_regrown w3 dq osq
    have B4 := Lib.hid (B3.out.trans (b4.mono B3.out.size))
    clear hw'' b4 g0 g1
    go_wp2
    go_ret
    exact ⟨rfl, B4.out⟩
theorem posSelf_walk (l : List Ep) (A : Option Addr) (n cap : Nat) (e i : Int) (w : World) (h : Eps w A l) (hn : l.length = n) :
    Calls Try.prog 8 #[.slice A n cap, .agg #[.int .i64 e, .int .i64 i]] w fun e' w' => e' = .returned (.bool true) ∧ Below w.heap.size w w' := by
  cases ho : Ps.onB l e i with
  | true => exact self_on l A n cap e i w h hn ho
  | false => exact self_off l A n cap e i w h hn ho
end Go.Proofs.Ytkomemiebgnknaa
