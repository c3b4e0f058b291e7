/-
  The contracts of Right, isPosition, leave. Their conditions: the slice reads as epochs; of leave also that the table is right and the position one of it.
-/
import Derived.Test.YtkomemiebgnknaaW1
namespace Go.Proofs.Ytkomemiebgnknaa
open Go.RowKit

theorem right_none {l : List Ep} (h : l.length = 0 ∨ 64 < l.length) : Ps.rightB l = false := by
  rw [Ps.rightB_false]
  intro hr
  have := hr.pos
  have := hr.few
  omega
theorem right_first {l : List Ep} {x : Ep} (h : l[0]? = some x) (hx : ¬ (x.C = 0 ∧ x.F = false)) : Ps.rightB l = false := by
  rw [Ps.rightB_false]
  exact fun hr => hx (hr.first x h)
theorem right_rest {l : List Ep} {x : Ep} (h : l[0]? = some x) (hC : x.C = 0) (hF : x.F = false) (h1 : 1 ≤ l.length) (h2 : l.length ≤ 64) : Ps.rightB l = !l.any Ps.outB := by
  unfold Ps.rightB Ps.firstB
  rw [h]
  simp [h1, h2, hC, hF]
set_option maxHeartbeats 1000000 in
theorem right_any (l : List Ep) (A : Option Addr) (n cap : Nat) (w : World) (h : Eps w A l) (hn : l.length = n) : Calls Try.prog 14 #[.slice A n cap] w fun e w' => e = .returned (.bool (Ps.rightB l)) ∧ Below w.heap.size w w' := by
  by_cases h0 : n = 0
  · have HR := Lib.hid (right_none (l := l) (.inl (by omega)))
    subst h0
    clear h hn
    go_enter Try.func14, Try.ntmps14
    go_wp2
    go_ret
    exact ⟨ret_bool HR.out.symm, Below.refl _ _⟩
  · by_cases h64 : 64 < (n : Int)
    · have HR := Lib.hid (right_none (l := l) (.inr (by omega)))
      have h1 : ¬ (n : Int) < 1 := by omega
      clear h hn h0
      go_enter Try.func14, Try.ntmps14
      go_wp2
      go_ret
      exact ⟨ret_bool HR.out.symm, Below.refl _ _⟩
    · have h1 : ¬ (n : Int) < 1 := by omega
      have h2 : 0 < n := by omega
      obtain ⟨b, off, rfl, hbs, c0, c1, c2⟩ := h.at_ (k := 0) (by omega)
      have HC := Lib.hid (contains_any l (some ⟨b, off, none⟩) n cap w h hn)
      have hx := List.getElem?_eq_getElem (l := l) (i := 0) (by omega)
      obtain ⟨x, ex⟩ : ∃ x, l[0] = x := ⟨_, rfl⟩
      rw [ex] at c0 c1 c2 hx
      have hF := fun hh => right_first hx hh
      have hG := fun a b => right_rest hx a b (by omega) (by omega)
      have HF := Lib.hid hF
      have HG := Lib.hid hG
      rw [Nat.zero_mul, Nat.add_zero] at c1 c2
      obtain ⟨M, C, F⟩ := x
      clear h hn h0 hx ex hF hG c0
      simp only at c1 c2 HF HG
      by_cases hC : C = 0
      · cases F with
        | true =>
          have hR := HF.out (by simp)
          have HR := Lib.hid hR
          subst hC
          clear hR
          go_enter Try.func14, Try.ntmps14
          go_wp2
          go_ret
          exact ⟨ret_bool HR.out.symm, Below.refl _ _⟩
        | false =>
          have hR := HG.out hC rfl
          have HR := Lib.hid hR
          subst hC
          clear hR HF HG
          go_enter Try.func14, Try.ntmps14
          go_wp2_with fail
          refine HC.out.mono ?_
          rintro e w2 ⟨rfl, b2⟩
          have B2 := Lib.hid b2
          clear b2
          go_wp2
          go_ret
          exact ⟨ret_bool HR.out.symm, B2.out⟩
      · have hR := HF.out (fun h => hC h.1)
        have HR := Lib.hid hR
        clear hR HF HG
        go_enter Try.func14, Try.ntmps14
        go_wp2
        go_ret
        exact ⟨ret_bool HR.out.symm, Below.refl _ _⟩
theorem right_at (l : List Ep) (A : Option Addr) (n cap : Nat) (w : World) (r : Bool) (h : Eps w A l) (hn : l.length = n) (hr : Ps.rightB l = r) : Calls Try.prog 14 #[.slice A n cap] w fun e w' => e = .returned (.bool r) ∧ Below w.heap.size w w' := by
  subst hr
  exact right_any l A n cap w h hn
end Go.Proofs.Ytkomemiebgnknaa
