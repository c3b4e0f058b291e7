/-
  The contract of isPosition. Its conditions: the slice reads as epochs.
-/
import Derived.Test.YtkomemiebgnknaaW2
import Derived.Deep.QuietTactic
import Derived.IntWalk
namespace Go.Proofs.Ytkomemiebgnknaa
open Go.RowKit

/-- A position in block h. -/
def Box2 (w : World) (h : Nat) (x y : Int) : Prop := h < w.heap.size ∧ w.cell? ⟨h, 0, none⟩ = some (.int .i64 x) ∧ w.cell? ⟨h, 1, none⟩ = some (.int .i64 y)
theorem Box2.new (w : World) (x y : Int) (t : TypeId) : Box2 (w.alloc (.cells #[.int .i64 x, .int .i64 y] t)) w.heap.size x y :=
  ⟨by simp, World.cell?_alloc_at _ _ _ _ rfl, World.cell?_alloc_at _ _ _ _ rfl⟩
theorem Box2.below {w w' : World} {h : Nat} {x y : Int} (b : Box2 w h x y) (hb : Below w.heap.size w w') : Box2 w' h x y :=
  ⟨Nat.lt_of_lt_of_le b.1 hb.size, by rw [hb.cell (p := ⟨h, _, none⟩) b.1]; exact b.2.1, by rw [hb.cell (p := ⟨h, _, none⟩) b.1]; exact b.2.2⟩
theorem Eps.alloc {w : World} {A : Option Addr} {l : List Ep} (h : Eps w A l) (o : Obj) : Eps (w.alloc o) A l := h.below ((Below.refl _ _).alloc (Nat.le_refl _) _)
theorem bel_new {w w' : World} {o : Obj} (hb : Below (w.alloc o).heap.size (w.alloc o) w') : Below w.heap.size w w' :=
  ((Below.refl _ _).alloc (Nat.le_refl _) _).trans (hb.mono (by simp))

theorem bel_drew {B : Nat} {a w : World} (h : Below B a w) (n : Nat) : Below B a (w.drewN n) := h.trans ⟨rfl, rfl, rfl, Nat.le_refl _, fun _ _ => rfl⟩
theorem posB_bad {l : List Ep} {e i : Int} (h : Ps.rightB l = false) : Ps.posB l e i = false := by unfold Ps.posB; rw [h]; rfl
theorem posB_zero {l : List Ep} (h : Ps.rightB l = true) : Ps.posB l 0 0 = true := by unfold Ps.posB; rw [h]; rfl
theorem posB_out {l : List Ep} {e i : Int} (h : (e < 1 ∧ ¬ (e = 0 ∧ i = 0)) ∨ (l.length : Int) < e) : Ps.posB l e i = false := by
  unfold Ps.posB Ps.isB
  rcases h with ⟨h, h2⟩ | h
  · have : ¬ 1 ≤ e := by omega
    simp [this]
    omega
  · have h2 : ¬ e ≤ (l.length : Int) := by omega
    have h3 : ¬ e = 0 := by omega
    simp [h2, h3]
theorem posB_in {l : List Ep} {i : Int} {k : Nat} (h : Ps.rightB l = true) (hk : k < l.length) : Ps.posB l ((k : Int) + 1) i = (decide (l[k].C < i) && decide (i ≤ 512)) := by
  unfold Ps.posB Ps.isB
  have e1 : ((k : Int) + 1).toNat - 1 = k := by omega
  have e2 : ¬ (k : Int) + 1 = 0 := by omega
  have e3 : 1 ≤ (k : Int) + 1 := by omega
  have e4 : (k : Int) + 1 ≤ (l.length : Int) := by omega
  rw [h, e1, Ps.cutAt_get hk]
  simp only [e2, e3, e4, decide_true, decide_false, Bool.false_and, Bool.false_or, Bool.true_and]
set_option maxHeartbeats 1000000 in
theorem isPos_any (l : List Ep) (A : Option Addr) (n cap : Nat) (e i : Int) (w : World) (h : Eps w A l) (hn : l.length = n) : Calls Try.prog 26 #[.slice A n cap, .agg #[.int .i64 e, .int .i64 i]] w fun e' w' => e' = .returned (.bool (Ps.posB l e i)) ∧ Below w.heap.size w w' := by
  have HE := Lib.hid (h.alloc (.cells #[.int .i64 e, .int .i64 i] 24))
  have HC := Lib.hid (right_any l A n cap _ HE.out hn)
  have HX := Lib.hid (Box2.new w e i 24)
  have hm : (n : Int) ≤ 9223372036854775807 := by have := h.1; unfold maxLen at this; omega
  have HN := Lib.hid hn
  obtain ⟨r, hr⟩ : ∃ r, Ps.rightB l = r := ⟨_, rfl⟩
  rw [hr] at HC
  have HR := Lib.hid hr
  clear h hn hr
  cases r with
  | false =>
    go_enter Try.func26, Try.ntmps26
    go_wp2_with fail
    refine HC.out.mono ?_
    rintro e' w2 ⟨rfl, b2⟩
    have B2 := Lib.hid (bel_new b2)
    clear b2
    go_wp2
    go_ret
    exact ⟨ret_bool (posB_bad HR.out).symm, B2.out⟩
  | true =>
    by_cases hz : e = 0 ∧ i = 0
    · obtain ⟨rfl, rfl⟩ := hz
      go_enter Try.func26, Try.ntmps26
      go_wp2_with fail
      refine HC.out.mono ?_
      rintro e' w2 ⟨rfl, b2⟩
      obtain ⟨x0, x1, x2⟩ := HX.out.below b2
      have B2 := Lib.hid (bel_new b2)
      clear b2
      go_wp2
      go_ret
      exact ⟨ret_bool (posB_zero HR.out).symm, B2.out⟩
    · by_cases ho : e < 1 ∨ (n : Int) < e
      · have HO := Lib.hid (posB_out (l := l) (e := e) (i := i) (by rw [HN.out]; omega))
        rcases (show (e < 1 ∧ ¬ e = 0) ∨ (e = 0 ∧ ¬ i = 0) ∨ (¬ e = 0 ∧ ¬ e < 1 ∧ (n : Int) < e) by omega) with ⟨h1, h2⟩ | ⟨rfl, h2⟩ | ⟨h1, h2, h3⟩
        all_goals
          clear ho hz
          go_enter Try.func26, Try.ntmps26
          go_wp2_with fail
          refine HC.out.mono ?_
          rintro e' w2 ⟨rfl, b2⟩
          obtain ⟨x0, x1, x2⟩ := HX.out.below b2
          have B2 := Lib.hid (bel_new b2)
          clear b2
          go_wp2
          go_ret
          exact ⟨ret_bool (by rw [HO.out]), B2.out⟩
      · obtain ⟨k, hk⟩ : ∃ k : Nat, e = (k : Int) + 1 := ⟨(e - 1).toNat, by omega⟩
        have hkn : k < n := by omega
        have hkl : k < l.length := by rw [HN.out]; exact hkn
        have hP := posB_in (i := i) HR.out hkl
        rw [← hk] at hP
        obtain ⟨b, off, rfl, hbs, hat⟩ := HE.out.at_ hkl
        obtain ⟨C, hC⟩ : ∃ C, l[k].C = C := ⟨_, rfl⟩
        have hc1 := hat.2.1
        rw [hC] at hP hc1
        have HC1 := Lib.hid hc1
        have HBS := Lib.hid hbs
        have g0 : ¬ e = 0 := by omega
        have g1 : ¬ e < 1 := by omega
        have g2 : ¬ (n : Int) < e := by omega
        have hwr : IntKind.i64.wrap (e - 1) = (k : Int) := (IntWalk.i64_in _ (by omega)).trans (by omega)
        have HWR := Lib.hid hwr
        obtain ⟨q, hq⟩ : ∃ q, decide (C < i) = q := ⟨_, rfl⟩
        rw [hq] at hP
        have HP := Lib.hid hP
        clear hP hc1 hC hat hk hkl ho hz hbs HN HE hwr
        cases q
        all_goals
          go_enter Try.func26, Try.ntmps26
          go_wp2_with fail
          refine HC.out.mono ?_
          rintro e' w2 ⟨rfl, b2⟩
          obtain ⟨x0, x1, x2⟩ := HX.out.below b2
          have c1 : w2.cell? ⟨b, off + k * 3 + 1, none⟩ = some (.int .i64 C) := by rw [b2.cell (p := ⟨b, _, none⟩) HBS.out]; exact HC1.out
          have B2 := Lib.hid (bel_new b2)
          clear b2
          go_wp2
          have hwr := HWR.out
          go_quiet (fail)
          clear hwr
          go_wp2
          go_ret
          exact ⟨ret_bool (by rw [HP.out]; rfl), bel_drew B2.out _⟩
end Go.Proofs.Ytkomemiebgnknaa
