/-
  The contract of the document's Extends, and the walk of PosExtends. Their conditions: the slices read as epochs.
-/
import Derived.Test.YtkomemiebgnknaaW9
namespace Go.Proofs.Ytkomemiebgnknaa
open Go.RowKit Go.Sort

theorem refright_at (l : List Ep) (A : Option Addr) (n cap : Nat) (w : World) (r : Bool) (h : Eps w A l) (hn : l.length = n) (hr : Ps.rightB l = r) : Calls Try.prog 15 #[.slice A n cap] w fun e w' => e = .returned (.bool r) ∧ Below w.heap.size w w' := by
  subst hr
  exact refright_any l A n cap w h hn
def ExRel (l m : List Ep) (n : Nat) (w : World) (s : Value) (wr : World) : Prop := ∃ j : Nat, j ≤ n ∧ s = .int .i64 (j : Int) ∧ Ps.sameN l m j = true ∧ Below w.heap.size w wr
set_option maxHeartbeats 2000000 in
theorem refextends_any (l m : List Ep) (A B : Option Addr) (n q cap cap' : Nat) (w : World) (h : Eps w A l) (h' : Eps w B m) (hn : l.length = n) (hq : m.length = q) : Calls Try.prog 25 #[.slice A n cap, .slice B q cap'] w fun e w' => e = .returned (.bool (Ps.extB l m)) ∧ Below w.heap.size w w' := by
  have hm : (n : Int) ≤ 9223372036854775807 := by have := h.1; unfold maxLen at this; omega
  have H := Lib.hid h
  have H' := Lib.hid h'
  have HN := Lib.hid hn
  have HQ := Lib.hid hq
  obtain ⟨r, hr⟩ : ∃ r, Ps.rightB l = r := ⟨_, rfl⟩
  obtain ⟨s, hs⟩ : ∃ s, Ps.rightB m = s := ⟨_, rfl⟩
  have hV : Ps.extB l m = (r && s && decide (n ≤ q) && Ps.sameN l m n) := by unfold Ps.extB; rw [hr, hs, hn, hq]
  rw [hV]
  have C1 := Lib.hid (refright_at l A n cap w r h hn hr)
  have hC2 : ∀ W, Below w.heap.size w W → Calls Try.prog 15 #[.slice B q cap'] W fun e w' => e = .returned (.bool s) ∧ Below W.heap.size W w' := fun W hW => refright_at m B q cap' W s (h'.below hW) hq hs
  have C2 := Lib.hid hC2
  clear h h' hn hq hr hs hV hC2
  cases r with
  | false =>
    go_enter Try.func25, Try.ntmps25
    go_wp2_with fail
    refine C1.out.mono ?_
    rintro e w2 ⟨rfl, b2⟩
    have B2 := Lib.hid b2
    clear b2
    go_wp2
    go_ret
    exact ⟨rfl, B2.out⟩
  | true =>
    cases s with
    | false =>
      go_enter Try.func25, Try.ntmps25
      go_wp2_with fail
      refine C1.out.mono ?_
      rintro e w2 ⟨rfl, b2⟩
      have B2 := Lib.hid b2
      clear b2
      go_wp2_with fail
      refine (C2.out w2 B2.out).mono ?_
      rintro e w3 ⟨rfl, b3⟩
      have B3 := Lib.hid (B2.out.trans (b3.mono B2.out.size))
      clear b3
      go_wp2
      go_ret
      exact ⟨rfl, B3.out⟩
    | true =>
      by_cases hle : n ≤ q
      · have hlei : ¬ (q : Int) < (n : Int) := by omega
        have hdi : decide ((q : Int) < (n : Int)) = false := by simp; omega
        have hdn : decide (q < n) = false := by simp; omega
        have hV : (true && true && decide (n ≤ q) && Ps.sameN l m n) = Ps.sameN l m n := by simp [hle]
        rw [hV]
        obtain ⟨f, hf⟩ : ∃ f, Ps.sameN l m n = f := ⟨_, rfl⟩
        rw [hf]
        have HR := Lib.hid hf
        clear hV hf
        go_enter Try.func25, Try.ntmps25
        go_wp2_with fail
        refine C1.out.mono ?_
        rintro e w2 ⟨rfl, b2⟩
        have B2 := Lib.hid b2
        clear b2
        go_wp2_with fail
        refine (C2.out w2 B2.out).mono ?_
        rintro e w3 ⟨rfl, b3⟩
        have B3 := Lib.hid (B2.out.trans (b3.mono B2.out.size))
        clear b3
        go_wp2
        go_loopw [5] (ExRel l m n w) (fun s _ => n - (intOf s).toNat)
        case atStart => exact ⟨0, Nat.zero_le _, rfl, rfl, B3.out⟩
        case round =>
          obtain ⟨j, hj, rfl, hsame, hbel⟩ := hrel
          have HS := Lib.hid hsame
          have HB := Lib.hid hbel
          clear hsame hbel
          by_cases hlt : j < n
          · have hjl : j < l.length := by have := HN.out; omega
            have hjm : j < m.length := by have := HQ.out; omega
            have hjq : j < q := by omega
            have hjqi : (j : Int) < (q : Int) := by omega
            obtain ⟨b, off, rfl, hbs, c0, c1, c2⟩ := (H.out.below HB.out).at_ hjl
            obtain ⟨b', off', rfl, hbs', d0, d1, d2⟩ := (H'.out.below HB.out).at_ hjm
            have HA := Lib.hid (Ps.sameAt_get hjl hjm)
            have hlti : (j : Int) < (n : Int) := by omega
            generalize l[j] = x at c0 c1 c2 HA
            generalize m[j] = y at d0 d1 d2 HA
            clear hjl hjm
            obtain ⟨M, C, F⟩ := x
            obtain ⟨M', C', F'⟩ := y
            simp only at c0 c1 c2 d0 d1 d2
            by_cases he : M = M' ∧ C = C' ∧ F = F'
            · obtain ⟨rfl, rfl, rfl⟩ := he
              have HT : Hid (Ps.sameN l m (j + 1) = true) := by show _ = _; rw [Ps.sameN, HS.out, HA.out, Ps.sameB_self]; rfl
              go_wp2
              go_quiet (fail)
              go_wp2
              go_roundw
              case rel => exact ⟨j + 1, by omega, by go_num, HT.out, bel_drew HB.out _⟩
              case measure => simp [intOf]; omega
            · have HT : Hid (Ps.sameN l m n = false) := by
                refine Ps.sameN_false (k := j) ?_ hlt
                rw [HA.out]
                unfold Ps.sameB
                simp
                intro a b c
                exact he ⟨a, b, c⟩
              have HF : Hid (f = false) := HR.out.symm.trans HT.out
              rcases (show ¬ M = M' ∨ (M = M' ∧ ¬ C = C') ∨ (M = M' ∧ C = C' ∧ ¬ F = F') by
                by_cases a : M = M'
                · by_cases b : C = C'
                  · exact .inr (.inr ⟨a, b, fun c => he ⟨a, b, c⟩⟩)
                  · exact .inr (.inl ⟨a, b⟩)
                · exact .inl a) with g | ⟨rfl, g⟩ | ⟨rfl, rfl, g⟩
              all_goals
                clear he
                go_wp2
                go_quiet (fail)
                go_wp2
                go_ret
                exact ⟨ret_bool HF.out.symm, bel_drew HB.out _⟩
          · have HF : Hid (f = true) := by
              show _ = _
              rw [← HR.out, show n = j by omega]
              exact HS.out
            have hlti : ¬ (j : Int) < (n : Int) := by omega
            go_wp2
            go_ret
            exact ⟨ret_bool HF.out.symm, HB.out⟩
      · have hlei : (q : Int) < (n : Int) := by omega
        have hV : (true && true && decide (n ≤ q) && Ps.sameN l m n) = false := by simp [hle]
        rw [hV]
        clear hV
        go_enter Try.func25, Try.ntmps25
        go_wp2_with fail
        refine C1.out.mono ?_
        rintro e w2 ⟨rfl, b2⟩
        have B2 := Lib.hid b2
        clear b2
        go_wp2_with fail
        refine (C2.out w2 B2.out).mono ?_
        rintro e w3 ⟨rfl, b3⟩
        have B3 := Lib.hid (B2.out.trans (b3.mono B2.out.size))
        clear b3
        go_wp2
        go_ret
        exact ⟨rfl, B3.out⟩

set_option maxHeartbeats 2000000 in
theorem posExtends_walk (l m : List Ep) (A B : Option Addr) (n q cap cap' : Nat) (w : World) (h : Eps w A l) (h' : Eps w B m) (hn : l.length = n) (hq : m.length = q) (hc : n ≤ cap) (hc' : q ≤ cap') :
    Calls Try.prog 4 #[.slice A n cap, .slice B q cap'] w fun e w' => e = .returned (.bool true) ∧ Below w.heap.size w w' := by
  have HE := Lib.hid h
  have HE' := Lib.hid h'
  have HN := Lib.hid hn
  obtain ⟨x, hx⟩ : ∃ x, Ps.extB l m = x := ⟨_, rfl⟩
  obtain ⟨r, hr⟩ : ∃ x, Ps.rightB l = x := ⟨_, rfl⟩
  have C1 : Hid (∀ W, Below w.heap.size w W → Calls Try.prog 24 #[.slice A n cap, .slice B q cap'] W fun e w' => e = .returned (.bool x) ∧ Below W.heap.size W w') := fun W hW => by
    rw [← hx]; exact extends_any l m A B n q cap cap' W (HE.out.below hW) (HE'.out.below hW) hn hq hc'
  have C2 : Hid (∀ W, Below w.heap.size w W → Calls Try.prog 25 #[.slice A n cap, .slice B q cap'] W fun e w' => e = .returned (.bool x) ∧ Below W.heap.size W w') := fun W hW => by
    rw [← hx]; exact refextends_any l m A B n q cap cap' W (HE.out.below hW) (HE'.out.below hW) hn hq
  have C3 : Hid (∀ W, Below w.heap.size w W → Calls Try.prog 24 #[.slice A n cap, .slice A n cap] W fun e w' => e = .returned (.bool r) ∧ Below W.heap.size W w') := fun W hW => by
    rw [← hr, ← Ps.ext_self]; exact extends_any l l A A n n cap cap W (HE.out.below hW) (HE.out.below hW) hn hn hc
  have C4 : Hid (∀ W, Below w.heap.size w W → Calls Try.prog 14 #[.slice A n cap] W fun e w' => e = .returned (.bool r) ∧ Below W.heap.size W w') := fun W hW => right_at l A n cap W r (HE.out.below hW) hn hr
  clear h h' hn hq hx hr
  go_enter Try.func4, Try.ntmps4
  go_wp2_with fail
  refine (awake_any w).mono ?_
  rintro e w1 ⟨rfl, b1⟩
  have B1 := Lib.hid b1
  clear b1
  go_wp2_with fail
  refine (C1.out w1 B1.out).mono ?_
  rintro e w2 ⟨rfl, b2⟩
  have B2 := Lib.hid (B1.out.trans (b2.mono B1.out.size))
  clear b2
  go_wp2_with fail
  refine (C2.out w2 B2.out).mono ?_
  rintro e w3 ⟨rfl, b3⟩
  have B3 := Lib.hid (B2.out.trans (b3.mono B2.out.size))
  clear b3
  cases x
  all_goals
    cases r
    all_goals
      go_wp2_with fail
      refine (C3.out w3 B3.out).mono ?_
      rintro e w4 ⟨rfl, b4⟩
      have B4 := Lib.hid (B3.out.trans (b4.mono B3.out.size))
      clear b4
      go_wp2_with fail
      refine (C4.out w4 B4.out).mono ?_
      rintro e w5 ⟨rfl, b5⟩
      have B5 := Lib.hid (B4.out.trans (b5.mono B4.out.size))
      clear b5
      go_wp2
      go_ret
      exact ⟨rfl, B5.out⟩
end Go.Proofs.Ytkomemiebgnknaa
