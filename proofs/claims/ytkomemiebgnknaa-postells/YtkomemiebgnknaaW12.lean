/-
  The walk of PosAlong. Its conditions: the slice reads as epochs.
-/
import Derived.Test.YtkomemiebgnknaaW11
namespace Go.Proofs.Ytkomemiebgnknaa
open Go.RowKit Go.Sort

theorem at_at (l : List Ep) (A : Option Addr) (n cap : Nat) (i x y : Int) (w : World) (h : Eps w A l) (hn : l.length = n) (hx : Ps.atE l i = x) (hy : Ps.atI l i = y) : Calls Try.prog 18 #[.slice A n cap, .int .i64 i] w fun e' w' => e' = .returned (.agg #[.int .i64 x, .int .i64 y]) ∧ Below w.heap.size w w' := by
  subst hx hy
  exact at_any l A n cap i w h hn
set_option maxHeartbeats 4000000 in
theorem along_out (l : List Ep) (A : Option Addr) (n cap : Nat) (i k : Int) (w : World) (h : Eps w A l) (hn : l.length = n) (ho : Ps.rightB l = false ∨ i < 1 ∨ k < i ∨ 512 < k) :
    Calls Try.prog 9 #[.slice A n cap, .int .i64 i, .int .i64 k] w fun e' w' => e' = .returned (.bool true) ∧ Below w.heap.size w w' := by
  have HE := Lib.hid h
  have HN := Lib.hid hn
  obtain ⟨r, hr⟩ : ∃ r, Ps.rightB l = r := ⟨_, rfl⟩
  rw [hr] at ho
  have HR := Lib.hid hr
  clear h hn hr
  rcases (show r = false ∨ (r = true ∧ i < 1) ∨ (r = true ∧ ¬ i < 1 ∧ k < i) ∨ (r = true ∧ ¬ i < 1 ∧ ¬ k < i ∧ 512 < k) by cases r <;> simp at ho ⊢; omega) with rfl | ⟨rfl, h1⟩ | ⟨rfl, h1, h2⟩ | ⟨rfl, h1, h2, h3⟩
  all_goals
    clear ho
    go_enter Try.func9, Try.ntmps9
    go_wp2_with fail
    refine (awake_any _).mono ?_
    rintro e' w1 ⟨rfl, b1⟩
    have E1 := Lib.hid (HE.out.below b1)
    have B1 := Lib.hid b1
    clear b1
    go_wp2_with fail
    refine (right_at l A n cap w1 _ E1.out HN.out HR.out).mono ?_
    rintro e' w2 ⟨rfl, b2⟩
    have B2 := Lib.hid (B1.out.trans (b2.mono B1.out.size))
    clear b2
    go_wp2
    go_ret
    exact ⟨rfl, B2.out⟩
set_option maxHeartbeats 4000000 in
theorem along_in (l : List Ep) (A : Option Addr) (n cap : Nat) (i k : Int) (w : World) (h : Eps w A l) (hn : l.length = n) (hr : Ps.rightB l = true) (h1 : 1 ≤ i) (h2 : i ≤ k) (h3 : k ≤ 512) :
    Calls Try.prog 9 #[.slice A n cap, .int .i64 i, .int .i64 k] w fun e' w' => e' = .returned (.bool true) ∧ Below w.heap.size w w' := by
  have HE := Lib.hid h
  have HN := Lib.hid hn
  have HR := Lib.hid hr
  have hrr := Ps.rightB_iff.mp hr
  obtain ⟨x, hx⟩ : ∃ x : Int, ((Ps.topE l i l.length : Nat) : Int) = x := ⟨_, rfl⟩
  obtain ⟨y, hy⟩ : ∃ y : Int, ((Ps.topE l k l.length : Nat) : Int) = y := ⟨_, rfl⟩
  have hxy : x ≤ y := by have := Ps.topE_mono l h2 l.length; omega
  have hx1 : 1 ≤ x := by have := hrr.top h1 hrr.pos; omega
  have hyn : y ≤ (n : Int) := by have := Ps.topE_le l k l.length; omega
  have onx := Ps.on_top hrr h1 (show i ≤ 512 by omega)
  have ony := Ps.on_top hrr (show 1 ≤ k by omega) h3
  have ax := Ps.at_in hrr h1 (show i ≤ 512 by omega)
  have ay := Ps.at_in hrr (show 1 ≤ k by omega) h3
  rw [hx] at onx ax
  rw [hy] at ony ay
  have AX := Lib.hid ax
  have AY := Lib.hid ay
  have cv1 : Ps.covB l y k x i = true := by unfold Ps.covB; rw [onx, ony]; simp; exact h2
  obtain ⟨z, hz⟩ : ∃ z : Bool, (i == k) = z := ⟨_, rfl⟩
  have cv2 : Ps.covB l x i y k = z := by
    unfold Ps.covB; rw [onx, ony, ← hz, Bool.eq_iff_iff]; simp; omega
  have CV1 := Lib.hid cv1
  have CV2 := Lib.hid cv2
  have g1 : ¬ i < 1 := by omega
  have g2 : ¬ k < i := by omega
  have g3 : ¬ 512 < k := by omega
  clear h hn hr hrr hx hy onx ony ax ay cv1 cv2 h1 h2 h3
  go_enter Try.func9, Try.ntmps9
  go_wp2_with fail
  refine (awake_any _).mono ?_
  rintro e' w1 ⟨rfl, b1⟩
  have E1 := Lib.hid (HE.out.below b1)
  have B1 := Lib.hid b1
  clear b1
  go_wp2_with fail
  refine (right_at l A n cap w1 _ E1.out HN.out HR.out).mono ?_
  rintro e' w2 ⟨rfl, b2⟩
  have E2 := Lib.hid (E1.out.below b2)
  have B2 := Lib.hid (B1.out.trans (b2.mono B1.out.size))
  clear b2
  go_wp2_with fail
  refine (at_at l A n cap i x i w2 E2.out HN.out AX.out.1 AX.out.2).mono ?_
  rintro e' w3 ⟨rfl, b3⟩
  have E3 := Lib.hid (E2.out.below b3)
  have B3 := Lib.hid (B2.out.trans (b3.mono B2.out.size))
  clear b3
  go_wp2_with fail
  refine (at_at l A n cap k y k w3 E3.out HN.out AY.out.1 AY.out.2).mono ?_
  rintro e' w4 ⟨rfl, b4⟩
  have E4 := Lib.hid (E3.out.below b4)
  have B4 := Lib.hid (B3.out.trans (b4.mono B3.out.size))
  clear b4
  go_wp2_with fail
  refine (covers_at l A n cap y k x i _ true ((E4.out.alloc _).alloc _) HN.out CV1.out).mono ?_
  rintro e' w5 ⟨rfl, b5⟩
  have E5 := Lib.hid (((E4.out.alloc _).alloc _).below b5)
  have X5 := ((Box2.new w4 x i 24).below ((Below.refl _ _).alloc (Nat.le_refl _) (.cells #[.int .i64 y, .int .i64 k] 24))).below b5
  have Y5 := (Box2.new (w4.alloc (.cells #[.int .i64 x, .int .i64 i] 24)) y k 24).below b5
  have hsz : (w4.alloc (.cells #[.int .i64 x, .int .i64 i] 24)).heap.size = w4.heap.size + 1 := by simp
  rw [hsz] at Y5
  obtain ⟨x0, x1, x2⟩ := X5
  obtain ⟨y0, y1, y2⟩ := Y5
  have B5 := Lib.hid (B4.out.trans ((bel_new2 b5).mono B4.out.size))
  clear b5 hsz
  go_wp2_with fail
  refine (covers_at l A n cap x i y k w5 z E5.out HN.out CV2.out).mono ?_
  rintro e' w6 ⟨rfl, b6⟩
  have B6 := Lib.hid (B5.out.trans (b6.mono B5.out.size))
  clear b6 x0 x1 x2 y0 y1 y2
  cases z
  all_goals
    go_wp2
    go_ret
    exact ⟨rfl, B6.out⟩
theorem posAlong_walk (l : List Ep) (A : Option Addr) (n cap : Nat) (i k : Int) (w : World) (h : Eps w A l) (hn : l.length = n) :
    Calls Try.prog 9 #[.slice A n cap, .int .i64 i, .int .i64 k] w fun e' w' => e' = .returned (.bool true) ∧ Below w.heap.size w w' := by
  by_cases ho : Ps.rightB l = false ∨ i < 1 ∨ k < i ∨ 512 < k
  · exact along_out l A n cap i k w h hn ho
  · simp at ho
    exact along_in l A n cap i k w h hn ho.1 (by omega) (by omega) (by omega)
end Go.Proofs.Ytkomemiebgnknaa
