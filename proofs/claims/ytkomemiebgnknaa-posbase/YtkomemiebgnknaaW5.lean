/-
  The contracts of On and At. Their conditions: the slice reads as epochs.
-/
import Derived.Test.YtkomemiebgnknaaW4
namespace Go.Proofs.Ytkomemiebgnknaa
open Go.RowKit

set_option maxHeartbeats 1000000 in
theorem on_any (l : List Ep) (A : Option Addr) (n cap : Nat) (e i : Int) (w : World) (h : Eps w A l) (hn : l.length = n) : Calls Try.prog 16 #[.slice A n cap, .agg #[.int .i64 e, .int .i64 i]] w fun e' w' => e' = .returned (.bool (Ps.onB l e i)) ∧ Below w.heap.size w w' := by
  have HE := Lib.hid (h.alloc (.cells #[.int .i64 e, .int .i64 i] 24))
  have HC := Lib.hid (isPos_any l A n cap e i _ HE.out hn)
  have HX := Lib.hid (Box2.new w e i 24)
  have HN := Lib.hid hn
  obtain ⟨r, hr⟩ : ∃ r, Ps.posB l e i = r := ⟨_, rfl⟩
  rw [hr] at HC
  have HR := Lib.hid hr
  clear h hn hr
  cases r with
  | false =>
    go_enter Try.func16, Try.ntmps16
    go_wp2_with fail
    refine HC.out.mono ?_
    rintro e' w2 ⟨rfl, b2⟩
    have B2 := Lib.hid (bel_new b2)
    clear b2
    go_wp2
    go_ret
    exact ⟨ret_bool (Ps.on_off HR.out).symm, B2.out⟩
  | true =>
    obtain ⟨hrr, hii⟩ := Ps.posB_iff.mp HR.out
    obtain ⟨k, hk, hkl, _⟩ := hii.nat hrr
    have HO : Hid (Ps.onB l e i = decide (Ps.cutter l k i n = 0)) := by
      show _ = _
      unfold Ps.onB
      rw [HR.out, hk, Int.toNat_natCast, HN.out]
      rfl
    have HV : Hid (∀ W, Eps W A l → Calls Try.prog 27 #[.slice A n cap, .agg #[.int .i64 e, .int .i64 i]] W (LvPost l k n i W)) := fun W hW => leave_any l A n cap k e i W hW HN.out hrr (by rw [← HN.out]; exact hkl) hk
    clear hrr hii hk hkl
    go_enter Try.func16, Try.ntmps16
    go_wp2_with fail
    refine HC.out.mono ?_
    rintro e' w2 ⟨rfl, b2⟩
    obtain ⟨x0, x1, x2⟩ := HX.out.below b2
    have HV2 := Lib.hid (HV.out w2 (HE.out.below b2))
    have B2 := Lib.hid (bel_new b2)
    clear b2
    go_wp2_with fail
    refine HV2.out.mono ?_
    rintro e' w3 ⟨y, z, rfl, hy, hz, b3⟩
    have HY := Lib.hid hy
    have B3 := Lib.hid (B2.out.trans (b3.mono B2.out.size))
    clear hy hz b3
    go_wp2
    go_ret
    exact ⟨ret_bool (by rw [HO.out]; have := HY.out; rw [Bool.eq_iff_iff]; simp; omega), B3.out⟩

/-- A position of the call's own in block h, that can be written. -/
def Own2 (w : World) (h : Nat) (x y : Int) : Prop := ∃ t, w.heap[h]? = some (.cells #[.int .i64 x, .int .i64 y] t (0, 0))
theorem Own2.new (w : World) (x y : Int) (t : TypeId) : Own2 (w.alloc (.cells #[.int .i64 x, .int .i64 y] t)) w.heap.size x y := ⟨t, heap_new _ _⟩
theorem Own2.below {w w' : World} {h : Nat} {x y : Int} (b : Own2 w h x y) (hb : Below w.heap.size w w') : Own2 w' h x y := by
  obtain ⟨t, b⟩ := b
  exact ⟨t, by rw [hb.block h (Array.getElem?_eq_some_iff.mp b).1]; exact b⟩
theorem Own2.cells {w : World} {h : Nat} {x y : Int} (b : Own2 w h x y) : h < w.heap.size ∧ w.cell? ⟨h, 0, none⟩ = some (.int .i64 x) ∧ w.cell? ⟨h, 1, none⟩ = some (.int .i64 y) ∧ w.frozen? ⟨h, 0, none⟩ = false ∧ w.frozen? ⟨h, 1, none⟩ = false := by
  obtain ⟨t, b⟩ := b
  refine ⟨(Array.getElem?_eq_some_iff.mp b).1, ?_, ?_, ?_, ?_⟩ <;> simp [World.cell?, World.frozen?, b]
theorem bel_set {w w' : World} {a b : Value} {h : Nat} (hb : Below w.heap.size w w') (hh : w.heap.size ≤ h) : Below w.heap.size w ((w'.setCell ⟨h, 0, none⟩ a).setCell ⟨h, 1, none⟩ b) := (hb.setCell hh _).setCell hh _

def AtRel (l : List Ep) (n : Nat) (i : Int) (m : Value) : Prop := ∃ j : Nat, j < n ∧ m = .int .i64 ((j : Int) + 1) ∧ Ps.topE l i n = Ps.topE l i (j + 1)
set_option maxHeartbeats 1000000 in
theorem at_any (l : List Ep) (A : Option Addr) (n cap : Nat) (i : Int) (w : World) (h : Eps w A l) (hn : l.length = n) : Calls Try.prog 18 #[.slice A n cap, .int .i64 i] w fun e' w' => e' = .returned (.agg #[.int .i64 (Ps.atE l i), .int .i64 (Ps.atI l i)]) ∧ Below w.heap.size w w' := by
  have HE := Lib.hid (h.alloc (.cells #[.int .i64 0, .int .i64 0] 24))
  have HC := Lib.hid (right_any l A n cap _ HE.out hn)
  have HX := Lib.hid (Own2.new w 0 0 24)
  have HN := Lib.hid hn
  obtain ⟨r, hr⟩ : ∃ r, Ps.rightB l = r := ⟨_, rfl⟩
  rw [hr] at HC
  have HR := Lib.hid hr
  clear h hn hr
  by_cases ho : r = false ∨ i < 1 ∨ 512 < i
  · have hz := Ps.at_out (l := l) (i := i) (by
      intro hh
      have := Ps.rightB_iff.mpr hh.1
      rw [HR.out] at this
      rcases ho with rfl | ho
      · cases this
      · omega)
    rw [hz.1, hz.2]
    clear hz
    rcases (show r = false ∨ (r = true ∧ i < 1) ∨ (r = true ∧ ¬ i < 1 ∧ 512 < i) by cases r; simp; simp at ho ⊢; omega) with rfl | ⟨rfl, h1⟩ | ⟨rfl, h1, h2⟩
    all_goals
      clear ho
      go_enter Try.func18, Try.ntmps18
      go_wp2_with fail
      refine HC.out.mono ?_
      rintro e' w2 ⟨rfl, b2⟩
      obtain ⟨x0, x1, x2, x3, x4⟩ := (HX.out.below b2).cells
      have B2 := Lib.hid (bel_new b2)
      clear b2
      go_wp2
      exact bodyPost_ret (v := .agg #[.int .i64 0, .int .i64 0]) (by simp [results, Try.results18, go_sem, x1, x2]) rfl ⟨rfl, bel_set B2.out (Nat.le_refl _)⟩
  · obtain ⟨rfl, hi1, hi2⟩ : r = true ∧ 1 ≤ i ∧ i ≤ 512 := by
      cases r
      · simp at ho
      · simp at ho
        exact ⟨rfl, by omega, by omega⟩
    have hrr := Ps.rightB_iff.mp HR.out
    have hz := Ps.at_in hrr hi1 hi2
    rw [hz.1, hz.2, HN.out]
    have hn1 : 1 ≤ n := by have := hrr.pos; rw [HN.out] at this; exact this
    have hm : (n : Int) ≤ 64 := by have := hrr.few; rw [HN.out] at this; omega
    have HRR := Lib.hid hrr
    have g1 : ¬ i < 1 := by omega
    have g2 : ¬ 512 < i := by omega
    clear ho hz hrr
    go_enter Try.func18, Try.ntmps18
    go_wp2_with fail
    refine HC.out.mono ?_
    rintro e' w2 ⟨rfl, b2⟩
    obtain ⟨x0, x1, x2, x3, x4⟩ := (HX.out.below b2).cells
    have B2 := Lib.hid (bel_new b2)
    have E2 := Lib.hid (HE.out.below b2)
    clear b2
    go_wp2
    go_loop [5] (AtRel l n i) (fun m => (intOf m).toNat)
    case atStart => exact ⟨n - 1, by omega, by rw [show ((n - 1 : Nat) : Int) + 1 = (n : Int) by omega], by rw [show n - 1 + 1 = n by omega]⟩
    case round =>
      obtain ⟨j, hj, rfl, htop⟩ := hrel
      have hjl : j < l.length := by rw [HN.out]; exact hj
      obtain ⟨b, off, rfl, hbs, c0, c1, c2⟩ := E2.out.at_ hjl
      rw [← Ps.cutAt_get hjl] at c1
      obtain ⟨C, eC⟩ : ∃ C, Ps.cutAt l j = C := ⟨_, rfl⟩
      rw [eC] at c1
      have EC := Lib.hid eC
      have HT := Lib.hid htop
      have j1 : (j : Int) < (n : Int) := by omega
      clear c0 c2 eC htop hjl
      by_cases hci : i ≤ C
      · have hj0 : j ≠ 0 := by
          rintro rfl
          have h1 := EC.out
          have h2 := HRR.out.cut0
          omega
        obtain ⟨q, hq⟩ : ∃ q, j = q + 1 := ⟨j - 1, by omega⟩
        have HQ := Lib.hid hq
        have HT2 : Hid (Ps.topE l i n = Ps.topE l i (q + 1)) := by
          show _ = _
          rw [HT.out, Ps.topE, if_neg (by rw [EC.out]; omega), HQ.out]
        clear hq
        go_wp2
        go_round
        case rel => exact ⟨q, by have := HQ.out; omega, by have := HQ.out; rw [show (q : Int) + 1 = (j : Int) by omega], HT2.out⟩
        case measure => simp [intOf]
      · have HT2 : Hid (Ps.topE l i n = j + 1) := by
          show _ = _
          rw [HT.out, Ps.topE, if_pos (by rw [EC.out]; omega)]
        go_wp2
        rw [HT2.out]
        exact bodyPost_ret (v := .agg #[.int .i64 ((j : Int) + 1), .int .i64 i]) (by simp [results, Try.results18, go_sem, x1, x2]) rfl ⟨rfl, bel_set B2.out (Nat.le_refl _)⟩
end Go.Proofs.Ytkomemiebgnknaa
