/-
  The walk of PosOne. Its conditions: the slice reads as epochs.
-/
import Derived.Test.YtkomemiebgnknaaW12
namespace Go.Proofs.Ytkomemiebgnknaa
open Go.RowKit Go.Sort

set_option maxHeartbeats 4000000 in
theorem one_out (l : List Ep) (A : Option Addr) (n cap : Nat) (w : World) (h : Eps w A l) (hn : l.length = n) (hr : Ps.rightB l = false) :
    Calls Try.prog 5 #[.slice A n cap] w fun e' w' => e' = .returned (.bool true) ∧ Below w.heap.size w w' := by
  have HE := Lib.hid h
  have HN := Lib.hid hn
  have HR := Lib.hid hr
  have HZ := Lib.hid (Ps.at_out (l := l) (i := 1) (fun hh => Ps.rightB_false.mp hr hh.1))
  have HO : Hid (Ps.onB l 0 0 = false) := Ps.on_off (posB_bad hr)
  clear h hn hr
  go_enter Try.func5, Try.ntmps5
  go_wp2_with fail
  refine (awake_any _).mono ?_
  rintro e' w1 ⟨rfl, b1⟩
  have E1 := Lib.hid (HE.out.below b1)
  have B1 := Lib.hid b1
  clear b1
  go_wp2_with fail
  refine (right_at l A n cap w1 _ E1.out HN.out HR.out).mono ?_
  rintro e' w2 ⟨rfl, b2⟩
  have E2 := Lib.hid (E1.out.below b2)
  have B2 := Lib.hid (B1.out.trans (b2.mono B1.out.size))
  clear b2
  go_wp2_with fail
  refine (at_at l A n cap 1 0 0 w2 E2.out HN.out HZ.out.1 HZ.out.2).mono ?_
  rintro e' w3 ⟨rfl, b3⟩
  have E3 := Lib.hid (E2.out.below b3)
  have B3 := Lib.hid (B2.out.trans (b3.mono B2.out.size))
  clear b3
  go_wp2_with fail
  refine (on_at l A n cap 0 0 w3 false E3.out HN.out HO.out).mono ?_
  rintro e' w4 ⟨rfl, b4⟩
  have B4 := Lib.hid (B3.out.trans (b4.mono B3.out.size))
  clear b4
  go_wp2
  go_ret
  exact ⟨rfl, B4.out⟩

def OuRel (l : List Ep) (A : Option Addr) (n : Nat) (w : World) (last i _ _ : Value) (wr : World) : Prop :=
  ∃ (x z : Int), 1 ≤ x ∧ x ≤ 513 ∧ i = .int .i64 x ∧ last = .int .i64 z ∧ z ≤ (Ps.topE l x n : Nat) ∧ Eps wr A l ∧ Below w.heap.size w wr
def InRel (l : List Ep) (A : Option Addr) (n : Nat) (w : World) (h : Nat) (t x : Int) (e : Value) (wr : World) : Prop :=
  ∃ y : Int, 1 ≤ y ∧ y ≤ (n : Int) + 1 ∧ e = .int .i64 y ∧ Box2 wr h t x ∧ Eps wr A l ∧ Below w.heap.size w wr
/-- Of an index only its own epoch is on the branch. -/
theorem on_other {l : List Ep} {x y : Int} (h1 : 1 ≤ x) (h2 : x ≤ 512) (hy : y ≠ (Ps.topE l x l.length : Nat)) : Ps.onB l y x = false := by
  cases ho : Ps.onB l y x with
  | false => rfl
  | true =>
    have h3 := (Ps.on_is_at ho).1
    have hr := (Ps.onB_iff.mp ho).1
    rw [(Ps.at_in hr h1 h2).1] at h3
    exact absurd h3 hy
set_option maxHeartbeats 4000000 in
theorem one_in (l : List Ep) (A : Option Addr) (n cap : Nat) (w : World) (h : Eps w A l) (hn : l.length = n) (hr : Ps.rightB l = true) :
    Calls Try.prog 5 #[.slice A n cap] w fun e' w' => e' = .returned (.bool true) ∧ Below w.heap.size w w' := by
  have HE := Lib.hid h
  have HN := Lib.hid hn
  have HR := Lib.hid hr
  have hrr := Ps.rightB_iff.mp hr
  have HRR := Lib.hid hrr
  have hn64 : (n : Int) ≤ 64 := by have := hrr.few; omega
  have HZ0 := Lib.hid (Ps.at_out (l := l) (i := 0) (by omega))
  have HZ1 := Lib.hid (Ps.at_out (l := l) (i := 513) (by omega))
  clear h hn hr hrr
  go_enter Try.func5, Try.ntmps5
  go_wp2_with fail
  refine (awake_any _).mono ?_
  rintro e' w1 ⟨rfl, b1⟩
  have E1 := Lib.hid (HE.out.below b1)
  have B1 := Lib.hid b1
  clear b1
  go_wp2_with fail
  refine (right_at l A n cap w1 _ E1.out HN.out HR.out).mono ?_
  rintro e' w2 ⟨rfl, b2⟩
  have E2 := Lib.hid (E1.out.below b2)
  have B2 := Lib.hid (B1.out.trans (b2.mono B1.out.size))
  clear b2
  go_wp2
  go_loopw [3, 4, 5, 6] (OuRel l A n w) (fun _ i _ _ _ => (513 - intOf i).toNat)
  case atStart => exact ⟨1, 0, by omega, by omega, rfl, rfl, by omega, E2.out, B2.out⟩
  case round =>
    obtain ⟨x, z, hx1, hx2, rfl, rfl, hz, hE, hB⟩ := hrel
    have HEr := Lib.hid hE
    have HBr := Lib.hid hB
    clear hE hB
    by_cases hle : x ≤ 512
    · have hat := Ps.at_in HRR.out hx1 hle
      have hon := Ps.on_top HRR.out hx1 hle
      rw [HN.out] at hat hon
      have hoth : ∀ y : Int, y ≠ (Ps.topE l x n : Nat) → Ps.onB l y x = false := fun y hy => on_other hx1 hle (by rw [HN.out]; exact hy)
      have hnext : Ps.topE l x n ≤ Ps.topE l (x + 1) n := Ps.topE_mono l (by omega) n
      obtain ⟨t, ht⟩ : ∃ t : Int, ((Ps.topE l x n : Nat) : Int) = t := ⟨_, rfl⟩
      rw [ht] at hat hon hoth hz
      have HAT := Lib.hid hat
      have HON := Lib.hid hon
      have HOTH := Lib.hid hoth
      have HNX : Hid (t ≤ (Ps.topE l (x + 1) n : Nat)) := by show _ ≤ _; omega
      clear hat hon hoth hnext ht
      have hzt : ¬ t < z := by omega
      obtain ⟨q, hq⟩ : ∃ q : Bool, (x % 16 == 1) = q := ⟨_, rfl⟩
      clear hz
      go_wp2_with fail
      refine (at_at l A n cap x t x wr HEr.out HN.out HAT.out.1 HAT.out.2).mono ?_
      rintro e' w3 ⟨rfl, b3⟩
      have E3 := Lib.hid (HEr.out.below b3)
      have B3 := Lib.hid (HBr.out.trans (b3.mono HBr.out.size))
      clear b3
      go_wp2_with fail
      refine (on_at l A n cap t x _ true (E3.out.alloc _) HN.out HON.out).mono ?_
      rintro e' w4 ⟨rfl, b4⟩
      have X4 := Lib.hid ((Box2.new w3 t x 24).below b4)
      have E4 := Lib.hid ((E3.out.alloc _).below b4)
      have B4 := Lib.hid (B3.out.trans ((bel_new b4).mono B3.out.size))
      clear b4
      obtain ⟨x0, x1, x2⟩ := X4.out
      go_wp2
      clear x0 x1 x2
      go_loopw [6] (InRel l A n w w3.heap.size t x) (fun e _ => (n + 1 - intOf e).toNat)
      case atStart => exact ⟨1, by omega, by omega, rfl, X4.out, E4.out, B4.out⟩
      case round =>
        obtain ⟨y, hy1, hy2, rfl, hbox, hEi, hBi⟩ := hrel
        have HX5 := Lib.hid hbox
        have HE5 := Lib.hid hEi
        have HB5 := Lib.hid hBi
        clear hbox hEi hBi
        obtain ⟨x0, x1, x2⟩ := HX5.out
        by_cases hgo : y ≤ (n : Int) ∧ q = true
        · obtain ⟨hyn, rfl⟩ := hgo
          by_cases hyt : y = t
          · subst hyt
            go_wp2
            go_roundw
            case rel => exact ⟨y + 1, by omega, by omega, rfl, HX5.out, HE5.out, HB5.out⟩
            case measure => simp [intOf]; omega
          · have CO := Lib.hid (on_at l A n cap y x wr false HE5.out HN.out (HOTH.out y hyt))
            go_wp2_with fail
            refine CO.out.mono ?_
            rintro e' w6 ⟨rfl, b6⟩
            have X6 := Lib.hid (HX5.out.below b6)
            have E6 := Lib.hid (HE5.out.below b6)
            have B6 := Lib.hid (HB5.out.trans (b6.mono HB5.out.size))
            clear b6 x0 x1 x2
            go_wp2
            go_roundw
            case rel => exact ⟨y + 1, by omega, by omega, rfl, X6.out, E6.out, B6.out⟩
            case measure => simp [intOf]; omega
        · rcases (show ¬ y ≤ (n : Int) ∨ (y ≤ (n : Int) ∧ q = false) by
            by_cases hyn : y ≤ (n : Int)
            · right
              refine ⟨hyn, ?_⟩
              cases q
              · rfl
              · exact absurd ⟨hyn, rfl⟩ hgo
            · exact .inl hyn) with hyn | ⟨hyn, rfl⟩
          all_goals
            clear hgo
            go_wp2
            go_roundw
            case rel => exact ⟨x + 1, t, by omega, by omega, rfl, rfl, HNX.out, HE5.out, HB5.out⟩
            case measure => simp [intOf]; omega
    · go_wp2_with fail
      refine (at_at l A n cap 0 0 0 wr HEr.out HN.out HZ0.out.1 HZ0.out.2).mono ?_
      rintro e' w3 ⟨rfl, b3⟩
      have E3 := Lib.hid (HEr.out.below b3)
      have B3 := Lib.hid (HBr.out.trans (b3.mono HBr.out.size))
      clear b3
      go_wp2_with fail
      refine (at_at l A n cap 513 0 0 w3 E3.out HN.out HZ1.out.1 HZ1.out.2).mono ?_
      rintro e' w4 ⟨rfl, b4⟩
      have B4 := Lib.hid (B3.out.trans (b4.mono B3.out.size))
      clear b4
      go_wp2
      go_ret
      exact ⟨rfl, B4.out⟩
theorem posOne_walk (l : List Ep) (A : Option Addr) (n cap : Nat) (w : World) (h : Eps w A l) (hn : l.length = n) :
    Calls Try.prog 5 #[.slice A n cap] w fun e' w' => e' = .returned (.bool true) ∧ Below w.heap.size w w' := by
  cases hr : Ps.rightB l with
  | false => exact one_out l A n cap w h hn hr
  | true => exact one_in l A n cap w h hn hr
end Go.Proofs.Ytkomemiebgnknaa
