/-
  The walk of PosStays. Its conditions: the slice reads as epochs, and its length is at most its capacity.
-/
import Derived.Test.YtkomemiebgnknaaW11
namespace Go.Proofs.Ytkomemiebgnknaa
open Go.RowKit Go.Sort

set_option maxHeartbeats 4000000 in
theorem stays_out (l : List Ep) (A : Option Addr) (n cap : Nat) (e i : Int) (w : World) (h : Eps w A l) (hn : l.length = n) (hr : Ps.rightB l = false) :
    Calls Try.prog 6 #[.slice A n cap, .agg #[.int .i64 e, .int .i64 i]] w fun e' w' => e' = .returned (.bool true) ∧ Below w.heap.size w w' := by
  have HE := Lib.hid (h.alloc (.cells #[.int .i64 e, .int .i64 i] 24))
  have HX := Lib.hid (Box2.new w e i 24)
  have HN := Lib.hid hn
  have HR := Lib.hid hr
  have HO : Hid (Ps.onB l e i = false) := Ps.on_off (posB_bad hr)
  clear h hn hr
  go_enter Try.func6, Try.ntmps6
  go_wp2_with fail
  refine (awake_any _).mono ?_
  rintro e' w1 ⟨rfl, b1⟩
  have E1 := Lib.hid (HE.out.below b1)
  have X1 := Lib.hid (HX.out.below b1)
  have B1 := Lib.hid (bel_new b1)
  clear b1
  go_wp2_with fail
  refine (right_at l A n cap w1 _ E1.out HN.out HR.out).mono ?_
  rintro e' w2 ⟨rfl, b2⟩
  have E2 := Lib.hid (E1.out.below b2)
  have X2 := Lib.hid (X1.out.below b2)
  have B2 := Lib.hid (B1.out.trans (b2.mono B1.out.size))
  clear b2
  obtain ⟨x0, x1, x2⟩ := X2.out
  go_wp2_with fail
  refine (on_at l A n cap e i w2 false E2.out HN.out HO.out).mono ?_
  rintro e' w3 ⟨rfl, b3⟩
  have B3 := Lib.hid (B2.out.trans (b3.mono B2.out.size))
  clear b3
  go_wp2
  go_ret
  exact ⟨rfl, B3.out⟩

def StRel (l : List Ep) (A : Option Addr) (n : Nat) (w : World) (h : Nat) (e i : Int) (m : Value) (wr : World) : Prop :=
  ∃ j : Nat, 1 ≤ j ∧ j ≤ n + 1 ∧ m = .int .i64 (j : Int) ∧ Box2 wr h e i ∧ Eps wr A l ∧ Below w.heap.size w wr
theorem on_take_at {l : List Ep} {A : Option Addr} {n cap j : Nat} {e i : Int} {w : World} (h : Eps w A l) (hn : l.length = n) (hj : j ≤ n) (ho : Ps.onB (l.take j) e i = true) : Calls Try.prog 16 #[.slice A j cap, .agg #[.int .i64 e, .int .i64 i]] w fun e' w' => e' = .returned (.bool true) ∧ Below w.heap.size w w' :=
  on_at (l.take j) A j cap e i w true (h.take j) (by rw [List.length_take]; omega) ho
set_option maxHeartbeats 8000000 in
theorem stays_in (l : List Ep) (A : Option Addr) (n cap : Nat) (e i : Int) (w : World) (h : Eps w A l) (hn : l.length = n) (hc : n ≤ cap) (hr : Ps.rightB l = true) :
    Calls Try.prog 6 #[.slice A n cap, .agg #[.int .i64 e, .int .i64 i]] w fun e' w' => e' = .returned (.bool true) ∧ Below w.heap.size w w' := by
  have HE := Lib.hid (h.alloc (.cells #[.int .i64 e, .int .i64 i] 24))
  have HX := Lib.hid (Box2.new w e i 24)
  have HN := Lib.hid hn
  have HR := Lib.hid hr
  have hrr := Ps.rightB_iff.mp hr
  have HRR := Lib.hid hrr
  have hn64 : (n : Int) ≤ 64 := by have := hrr.few; omega
  obtain ⟨on, hon⟩ : ∃ on, Ps.onB l e i = on := ⟨_, rfl⟩
  have HON := Lib.hid hon
  clear h hn hr hrr hon
  cases on
  all_goals
    go_enter Try.func6, Try.ntmps6
    go_wp2_with fail
    refine (awake_any _).mono ?_
    rintro e' w1 ⟨rfl, b1⟩
    have E1 := Lib.hid (HE.out.below b1)
    have X1 := Lib.hid (HX.out.below b1)
    have B1 := Lib.hid (bel_new b1)
    clear b1
    go_wp2_with fail
    refine (right_at l A n cap w1 _ E1.out HN.out HR.out).mono ?_
    rintro e' w2 ⟨rfl, b2⟩
    have E2 := Lib.hid (E1.out.below b2)
    have X2 := Lib.hid (X1.out.below b2)
    have B2 := Lib.hid (B1.out.trans (b2.mono B1.out.size))
    clear b2
    obtain ⟨x0, x1, x2⟩ := X2.out
    go_wp2_with fail
    refine (on_at l A n cap e i w2 _ E2.out HN.out HON.out).mono ?_
    rintro e' w3 ⟨rfl, b3⟩
    have X3 := Lib.hid (X2.out.below b3)
    have E3 := Lib.hid (E2.out.below b3)
    have B3 := Lib.hid (B2.out.trans (b3.mono B2.out.size))
    clear b3 x0 x1 x2
    go_wp2
    go_loopw [6] (StRel l A n w w.heap.size e i) (fun m _ => n + 1 - (intOf m).toNat)
    case atStart => exact ⟨1, by omega, by omega, rfl, X3.out, E3.out, B3.out⟩
    case round =>
      obtain ⟨j, hj1, hj2, rfl, hbox, hEi, hBi⟩ := hrel
      have HX5 := Lib.hid hbox
      have HE5 := Lib.hid hEi
      have HB5 := Lib.hid hBi
      clear hbox hEi hBi
      by_cases hjn : j ≤ n
      · have hjni : (j : Int) ≤ (n : Int) := by omega
        have hjc : j ≤ cap := by omega
        have C1 : Hid (Ps.onB l e i = true → e ≤ (j : Int) → ∀ d os, Calls Try.prog 16 #[.slice A j cap, .agg #[.int .i64 e, .int .i64 i]] (grow (redrawn wr d) os) fun e' w'' => e' = .returned (.bool true) ∧ ∃ p : Regrown, w'' = grow (redrawn wr p.d) p.os) :=
          fun h1 h2 d os => Calls.regrown_of (on_take_at (HE5.out.below (below_regrown wr d os)) HN.out hjn (Ps.on_take h1 hj1 (by rw [HN.out]; exact hjn) h2))
        obtain ⟨g0, g1⟩ := HX5.out.grow
        obtain ⟨q, hq⟩ : ∃ q, decide (e ≤ (j : Int)) = q := ⟨_, rfl⟩
        cases q
        all_goals
          first
            | have C2 := Lib.hid (C1.out HON.out (of_decide_eq_true hq))
            | have C2 := True.intro
          go_wp2
          refine wp_region_quiet_below (by kernel_rfl) (by kernel_rfl) ?_
          repeat (go_big_quiet_step (first | exact C2.out _ _ | fail))
          refine wpQuiet_nil ?_
          intro w4 hw'
          obtain ⟨⟨dq, osq⟩, hw''⟩ := hw'
          have b4 : Below wr.heap.size wr w4 := by rw [hw'']; exact below_regrown wr dq osq
          have E4 := Lib.hid (HE5.out.below b4)
          have X4 := Lib.hid (HX5.out.below b4)
          have B4 := Lib.hid (HB5.out.trans (b4.mono HB5.out.size))
          clear hw'' b4 g0 g1
          go_wp2
          go_roundw
          case rel => exact ⟨j + 1, by omega, by omega, by go_num, X4.out, E4.out, B4.out⟩
          case measure => simp [intOf]; omega
      · have hjni : ¬ (j : Int) ≤ (n : Int) := by omega
        obtain ⟨c, hcn⟩ : ∃ c, Ps.cutN l e i = c := ⟨_, rfl⟩
        obtain ⟨f, hf⟩ : ∃ f, Ps.cutF l e i = f := ⟨_, rfl⟩
        have CC := Lib.hid (cut_at l A n cap e i c f wr HE5.out HN.out hcn hf)
        have HCN := Lib.hid hcn
        obtain ⟨x0, x1, x2⟩ := HX5.out
        clear hcn hf
        by_cases hc0 : c = 0
        · subst hc0
          go_wp2_with fail
          refine CC.out.mono ?_
          rintro e' w4 ⟨rfl, b4⟩
          have X4 := Lib.hid (HX5.out.below b4)
          have B4 := Lib.hid (HB5.out.trans (b4.mono HB5.out.size))
          clear b4 x0 x1 x2
          obtain ⟨g0, g1⟩ := X4.out.grow
          go_wp2
          refine wp_region_quiet_below (by kernel_rfl) (by kernel_rfl) ?_
          repeat (go_big_quiet_step (fail))
          refine wpQuiet_nil ?_
          intro w5 hw'
          obtain ⟨⟨dq, osq⟩, hw''⟩ := hw'
          have b5 : Below w4.heap.size w4 w5 := by rw [hw'']; exact below_regrown w4 dq osq
          have B5 := Lib.hid (B4.out.trans (b5.mono B4.out.size))
          clear hw'' b5 g0 g1
          go_wp2
          go_ret
          exact ⟨rfl, B5.out⟩
        · obtain ⟨k1, k2, k3, k4, k5⟩ := Ps.cut_facts (l := l) (e := e) (i := i) (by rw [HCN.out]; exact hc0)
          rw [HON.out] at k1
          rw [HCN.out] at k2 k3 k4 k5
          first
            | exact absurd k1 (by decide)
            | skip
          all_goals
            obtain ⟨q, hq⟩ : ∃ q, c = q + 1 := ⟨c - 1, by omega⟩
            rw [hq, Nat.add_sub_cancel] at k4 k5
            have hql : q < l.length := by omega
            have hqn : q < n := by rw [HN.out] at hql; exact hql
            obtain ⟨b, off, rfl, hbs, hat⟩ := HE5.out.at_ hql
            have hc1 := hat.2.1
            rw [← Ps.cutAt_get hql] at hc1
            obtain ⟨C, eC⟩ : ∃ C, Ps.cutAt l q = C := ⟨_, rfl⟩
            rw [eC] at hc1 k4
            have HC1 := Lib.hid hc1
            have HBS := Lib.hid hbs
            have K5 := Lib.hid k5
            obtain ⟨y, hy⟩ : ∃ y : Int, (c : Int) = y := ⟨_, rfl⟩
            rw [hy] at CC k2
            have y0 : (y == 0) = false := by simp; omega
            have y1 : decide (e < y) = true := decide_eq_true k2
            have y2 : decide (C < i) = true := decide_eq_true k4
            have y3 : IntKind.i64.wrap (y - 1) = (q : Int) := (IntWalk.i64_in _ (by omega)).trans (by omega)
            have Y3 := Lib.hid y3
            have hqc : q ≤ cap := by omega
            clear k1 k2 k3 k4 k5 hq hql hbs hat hc1 eC hy hc0 y3 HCN
            go_wp2_with fail
            refine CC.out.mono ?_
            rintro e' w4 ⟨rfl, b4⟩
            have E4 := Lib.hid (HE5.out.below b4)
            have X4 := Lib.hid (HX5.out.below b4)
            have B4 := Lib.hid (HB5.out.trans (b4.mono HB5.out.size))
            have c4 : w4.cell? ⟨b, off + q * 3 + 1, none⟩ = some (.int .i64 C) := by rw [b4.cell (p := ⟨b, _, none⟩) HBS.out]; exact HC1.out
            have g2 : ∀ d os, (grow (redrawn w4 d) os).cell? ⟨b, off + q * 3 + 1, none⟩ = some (.int .i64 C) := fun d os => by rw [(below_regrown w4 d os).cell (p := ⟨b, _, none⟩) (Nat.lt_of_lt_of_le HBS.out b4.size)]; exact c4
            have G2 := Lib.hid g2
            clear b4 x0 x1 x2 c4 g2
            have C2 : Hid (∀ d os, Calls Try.prog 16 #[.slice (some ⟨b, off, none⟩) q cap, .agg #[.int .i64 e, .int .i64 i]] (grow (redrawn w4 d) os) fun e' w'' => e' = .returned (.bool true) ∧ ∃ p : Regrown, w'' = grow (redrawn w4 p.d) p.os) :=
              fun d os => Calls.regrown_of (on_take_at (E4.out.below (below_regrown w4 d os)) HN.out (by omega) K5.out)
            go_wp2
            obtain ⟨g0, g1⟩ := X4.out.grow
            have g2 := G2.out
            have y3 := Y3.out
            refine wp_region_quiet_below (by kernel_rfl) (by kernel_rfl) ?_
            repeat (go_big_quiet_step (exact C2.out _ _))
            refine wpQuiet_nil ?_
            intro w5 hw'
            obtain ⟨⟨dq, osq⟩, hw''⟩ := hw'
            have b5 : Below w4.heap.size w4 w5 := by rw [hw'']; exact below_regrown w4 dq osq
            have B5 := Lib.hid (B4.out.trans (b5.mono B4.out.size))
            clear hw'' b5 g0 g1 g2 y3
            go_wp2
            go_ret
            exact ⟨rfl, B5.out⟩
theorem posStays_walk (l : List Ep) (A : Option Addr) (n cap : Nat) (e i : Int) (w : World) (h : Eps w A l) (hn : l.length = n) (hc : n ≤ cap) :
    Calls Try.prog 6 #[.slice A n cap, .agg #[.int .i64 e, .int .i64 i]] w fun e' w' => e' = .returned (.bool true) ∧ Below w.heap.size w w' := by
  cases hr : Ps.rightB l with
  | false => exact stays_out l A n cap e i w h hn hr
  | true => exact stays_in l A n cap e i w h hn hc hr
end Go.Proofs.Ytkomemiebgnknaa
