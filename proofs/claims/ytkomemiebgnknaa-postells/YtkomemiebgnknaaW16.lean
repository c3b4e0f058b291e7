/-
  The contracts of the document's Is and Branch. Their conditions: the slice reads as epochs; of Branch also that the table is right.
-/
import Derived.Test.YtkomemiebgnknaaW10
import Derived.Deep.OwnRows
namespace Go.Proofs.Ytkomemiebgnknaa
open Go.RowKit Go.Sort

theorem isB_out {l : List Ep} {e i : Int} (h : (e < 1 ∧ ¬ (e = 0 ∧ i = 0)) ∨ (l.length : Int) < e ∨ 512 < i) : Ps.isB l e i = false := by
  rw [Ps.isB_false]
  unfold Ps.Is
  omega
theorem isB_in {l : List Ep} {i : Int} {k : Nat} (hk : k < l.length) (hi : i ≤ 512) : Ps.isB l ((k : Int) + 1) i = decide (l[k].C < i) := by
  unfold Ps.isB
  have e1 : ((k : Int) + 1).toNat - 1 = k := by omega
  have e2 : ¬ (k : Int) + 1 = 0 := by omega
  have e3 : 1 ≤ (k : Int) + 1 := by omega
  have e4 : (k : Int) + 1 ≤ (l.length : Int) := by omega
  rw [e1, Ps.cutAt_get hk]
  simp only [e2, e3, e4, hi, decide_true, decide_false, Bool.false_and, Bool.false_or, Bool.true_and, Bool.and_true]
set_option maxHeartbeats 2000000 in
theorem refis_any (l : List Ep) (A : Option Addr) (n cap : Nat) (e i : Int) (w : World) (h : Eps w A l) (hn : l.length = n) : Calls Try.prog 28 #[.slice A n cap, .agg #[.int .i64 e, .int .i64 i]] w fun e' w' => e' = .returned (.bool (Ps.isB l e i)) ∧ Below w.heap.size w w' := by
  have HB : Hid (Below w.heap.size w (w.alloc (.cells #[.int .i64 e, .int .i64 i] 24))) := (Below.refl _ _).alloc (Nat.le_refl _) _
  have hm : (n : Int) ≤ 9223372036854775807 := by have := h.1; unfold maxLen at this; omega
  by_cases hz : e = 0 ∧ i = 0
  · obtain ⟨rfl, rfl⟩ := hz
    clear h hn
    go_enter Try.func28, Try.ntmps28
    go_wp2
    go_ret
    exact ⟨rfl, HB.out⟩
  · by_cases ho : e < 1 ∨ (n : Int) < e ∨ 512 < i
    · have HO := Lib.hid (isB_out (l := l) (e := e) (i := i) (by rw [hn]; omega))
      rcases (show (e < 1 ∧ ¬ e = 0) ∨ (e = 0 ∧ ¬ i = 0) ∨ (¬ e = 0 ∧ ¬ e < 1 ∧ (n : Int) < e) ∨ (¬ e = 0 ∧ ¬ e < 1 ∧ ¬ (n : Int) < e ∧ 512 < i) by omega) with ⟨h1, h2⟩ | ⟨rfl, h2⟩ | ⟨h1, h2, h3⟩ | ⟨h1, h2, h3, h4⟩
      all_goals
        clear ho hz h hn
        go_enter Try.func28, Try.ntmps28
        go_wp2
        go_ret
        exact ⟨ret_bool (by rw [HO.out]), HB.out⟩
    · obtain ⟨k, hk⟩ : ∃ k : Nat, e = (k : Int) + 1 := ⟨(e - 1).toNat, by omega⟩
      have hkn : k < n := by omega
      have hkl : k < l.length := by rw [hn]; exact hkn
      have hP := isB_in (i := i) hkl (by omega)
      rw [← hk] at hP
      obtain ⟨b, off, rfl, hbs, hat⟩ := h.at_ hkl
      obtain ⟨C, hC⟩ : ∃ C, l[k].C = C := ⟨_, rfl⟩
      have hc1 := hat.2.1
      rw [hC] at hP hc1
      have c1 : (w.alloc (.cells #[.int .i64 e, .int .i64 i] 24)).cell? ⟨b, off + k * 3 + 1, none⟩ = some (.int .i64 C) := by rw [HB.out.cell (p := ⟨b, _, none⟩) hbs]; exact hc1
      have g0 : ¬ e = 0 := by omega
      have g1 : ¬ e < 1 := by omega
      have g2 : ¬ (n : Int) < e := by omega
      have g3 : ¬ 512 < i := by omega
      have hwr : IntKind.i64.wrap (e - 1) = (k : Int) := (IntWalk.i64_in _ (by omega)).trans (by omega)
      have HWR := Lib.hid hwr
      have HP := Lib.hid hP
      have C1 := Lib.hid c1
      have X1 := Lib.hid (Box2.new w e i 24)
      clear hP hc1 hC hat hk hkl ho hz hbs hwr h hn c1
      go_enter Try.func28, Try.ntmps28
      go_wp2
      obtain ⟨w2, hw2⟩ : ∃ w2, w.alloc (.cells #[.int .i64 e, .int .i64 i] 24) = w2 := ⟨_, rfl⟩
      rw [hw2] at C1 X1 HB ⊢
      clear hw2
      have c1 := C1.out
      obtain ⟨x0, x1, x2⟩ := X1.out
      have hwr := HWR.out
      go_quiet (fail)
      clear hwr
      go_wp2
      go_ret
      exact ⟨ret_bool (by rw [HP.out]), bel_drew HB.out _⟩

/-- The row of a branch. -/
def brV (l : List Ep) (n k : Nat) : Value := .int .i64 ((Ps.topE l (k : Int) n : Nat) : Int)
/-- The row while the epoch at place j is written, up to index x. -/
def brM (l : List Ep) (j c x k : Nat) : Value := if c < k ∧ k < x then .int .i64 ((j : Int) + 1) else brV l j k
theorem brM_start (l : List Ep) (j c k : Nat) : brV l j k = brM l j c (c + 1) k := by
  unfold brM
  rw [if_neg (by omega)]
theorem brM_step (l : List Ep) (j c x : Nat) (hx : c < x) (k : Nat) : (if k = x then Value.int .i64 ((j : Int) + 1) else brM l j c x k) = brM l j c (x + 1) k := by
  unfold brM
  by_cases h : k = x
  · rw [if_pos h, if_pos (by omega)]
  · rw [if_neg h]
    by_cases h2 : c < k ∧ k < x
    · rw [if_pos h2, if_pos (by omega)]
    · rw [if_neg h2, if_neg (by omega)]
theorem brM_end (l : List Ep) (j c k : Nat) (hc : Ps.cutAt l j = (c : Int)) (hk : k < 513) : brM l j c 513 k = brV l (j + 1) k := by
  unfold brM brV
  rw [Ps.topE, hc]
  by_cases h : c < k
  · rw [if_pos (by omega), if_pos (by omega)]
    rfl
  · rw [if_neg (by omega), if_neg (by omega)]
theorem info3 : (Try.prog.info? 3).map (fun i => (i.zero, i.size, i.bytes)) = some (some (.int .i64 0), 1, 8) := by kernel_rfl
def BrPost (l : List Ep) (n : Nat) (w : World) (e : Ending) (w' : World) : Prop := ∃ h, e = .returned (.slice (some ⟨h, 0, none⟩) 513 513) ∧ w.heap.size ≤ h ∧ w'.rowIs h 3 513 (brV l n) ∧ Below w.heap.size w w'
def BoRel (l : List Ep) (A : Option Addr) (n : Nat) (w : World) (i _ : Value) (wr : World) : Prop :=
  ∃ j : Nat, j ≤ n ∧ i = .int .i64 (j : Int) ∧ wr.rowIs w.heap.size 3 513 (brV l j) ∧ Eps wr A l ∧ Below w.heap.size w wr
def BiRel (l : List Ep) (A : Option Addr) (j c : Nat) (w : World) (k : Value) (wr : World) : Prop :=
  ∃ x : Nat, c < x ∧ x ≤ 513 ∧ k = .int .i64 (x : Int) ∧ wr.rowIs w.heap.size 3 513 (brM l j c x) ∧ Eps wr A l ∧ Below w.heap.size w wr
theorem Eps.set {w : World} {A : Option Addr} {l : List Ep} {p : Addr} {v : Value} (h : Eps w A l) (hp : ∀ a, A = some a → a.block ≠ p.block) : Eps (w.setCell p v) A l := by
  obtain ⟨h1, h3⟩ := h
  refine ⟨h1, fun hl => ?_⟩
  obtain ⟨b, off, hA, hlt, hc⟩ := h3 hl
  have hne : b ≠ p.block := hp _ hA
  have hk : ∀ o, (w.setCell p v).cell? ⟨b, o, none⟩ = w.cell? ⟨b, o, none⟩ := fun o => World.cell?_of_block (w := w) (a := ⟨b, o, none⟩) (Below.heap_setCell _ _ _ _ hne)
  refine ⟨b, off, hA, by simpa [World.setCell] using hlt, fun k x hx => ?_⟩
  obtain ⟨e1, e2, e3⟩ := hc k x hx
  exact ⟨by rw [hk]; exact e1, by rw [hk]; exact e2, by rw [hk]; exact e3⟩
set_option maxHeartbeats 4000000 in
theorem branch_any (l : List Ep) (A : Option Addr) (n cap : Nat) (w : World) (h : Eps w A l) (hn : l.length = n) (hr : Ps.rightB l = true) : Calls Try.prog 29 #[.slice A n cap] w (BrPost l n w) := by
  have hmk : ∀ w, (Instr.makeSlice 41 (.int .i64 513) (.int .i64 513)).run Try.prog w = .ok (.slice (some ⟨w.heap.size, 0, none⟩) 513 513) (w.alloc (.cells (madeCells #[.int .i64 0] 513) 3)) :=
    fun w => run_make_row' 41 3 (.int .i64 0) 8 Try.underlying41 info3 rfl .i64 .i64 513 (by omega) (by omega) w
  have HE := Lib.hid h
  have HN := Lib.hid hn
  have HR := Lib.hid hr
  have hrr := Ps.rightB_iff.mp hr
  have HRR := Lib.hid hrr
  have hn64 : (n : Int) ≤ 64 := by have := hrr.few; omega
  have hAw : ∀ a, A = some a → a.block < w.heap.size := by
    intro a ha
    obtain ⟨b, off, hA, hlt, _⟩ := h.2 (by have := hrr.pos; omega)
    rw [hA] at ha
    injection ha with ha
    subst ha
    exact hlt
  have HAW := Lib.hid hAw
  clear h hn hr hrr hAw
  go_enter Try.func29, Try.ntmps29
  go_wp2_with fail
  clear hmk
  obtain ⟨w1, hw1⟩ : ∃ w1, w.alloc (.cells (madeCells #[.int .i64 0] 513) 3) = w1 := ⟨_, rfl⟩
  have R1 : Hid (w1.rowIs w.heap.size 3 513 (brV l 0)) := by
    rw [← hw1]
    exact (World.rowIs_made w (.int .i64 0) 513 3).congr (fun i _ => rfl)
  have E1 : Hid (Eps w1 A l) := by rw [← hw1]; exact HE.out.alloc _
  have B1 : Hid (Below w.heap.size w w1) := by rw [← hw1]; exact (Below.refl _ _).alloc (Nat.le_refl _) _
  rw [hw1]
  clear hw1
  refine (refright_at l A n cap w1 _ E1.out HN.out HR.out).mono ?_
  rintro e' w2 ⟨rfl, b2⟩
  have R2 := Lib.hid (R1.out.of_block (b2.block _ R1.out.lt))
  have E2 := Lib.hid (E1.out.below b2)
  have B2 := Lib.hid (B1.out.trans (b2.mono B1.out.size))
  clear b2
  go_wp2
  go_loopw [4, 5] (BoRel l A n w) (fun i _ _ => n - (intOf i).toNat)
  case atStart => exact ⟨0, Nat.zero_le _, rfl, R2.out, E2.out, B2.out⟩
  case round =>
    obtain ⟨j, hj, rfl, hrow, hE, hB⟩ := hrel
    have HRow := Lib.hid hrow
    have HEr := Lib.hid hE
    have HBr := Lib.hid hB
    clear hrow hE hB
    by_cases hlt : j < n
    · have hjl : j < l.length := by rw [HN.out]; exact hlt
      obtain ⟨b, off, rfl, hbs, c0, c1, c2⟩ := HEr.out.at_ hjl
      rw [← Ps.cutAt_get hjl] at c1
      have hcb := HRR.out.cut j
      obtain ⟨c, hc⟩ : ∃ c : Nat, Ps.cutAt l j = (c : Int) := ⟨(Ps.cutAt l j).toNat, by omega⟩
      rw [hc] at c1 hcb
      have HC := Lib.hid hc
      have hc512 : (c : Int) ≤ 512 := hcb.2
      have hlti : (j : Int) < (n : Int) := by omega
      clear hc hcb c0 c2 hjl
      go_wp2
      clear c1
      go_loopw [5] (BiRel l (some ⟨b, off, none⟩) j c w) (fun k _ => 513 - (intOf k).toNat)
      case atStart => exact ⟨c + 1, by omega, by omega, by go_num, HRow.out.congr (fun k _ => brM_start l j c k), HEr.out, HBr.out⟩
      case round =>
        obtain ⟨x, hx1, hx2, rfl, hrow, hE, hB⟩ := hrel
        have HRow2 := Lib.hid hrow
        have HEr2 := Lib.hid hE
        have HBr2 := Lib.hid hB
        clear hrow hE hB
        by_cases hle : x ≤ 512
        · have r1 := HRow2.out.cell (i := x) (by omega)
          have r2 := HRow2.out.frozen x
          have hxi : (x : Int) ≤ 512 := by omega
          have hx3 : (x : Int) < 513 := by omega
          have hx4 : x < 513 := by omega
          go_wp2
          go_roundw
          case rel => exact ⟨x + 1, by omega, by omega, by go_num, (HRow2.out.set x _).congr (fun k _ => brM_step l j c x hx1 k), HEr2.out.set (fun a ha => by have := HAW.out a ha; show a.block ≠ w.heap.size; omega), HBr2.out.setCell (Nat.le_refl _) _⟩
          case measure => simp [intOf]; omega
        · obtain rfl : x = 513 := by omega
          go_wp2
          go_roundw
          case rel => exact ⟨j + 1, by omega, by go_num, HRow2.out.congr (fun k hk => brM_end l j c k HC.out hk), HEr2.out, HBr2.out⟩
          case measure => simp [intOf]; omega
    · have hjn : j = n := by omega
      have HJ := Lib.hid hjn
      clear hjn
      have hlti : ¬ (j : Int) < (n : Int) := by omega
      go_wp2
      go_ret
      exact ⟨w.heap.size, rfl, Nat.le_refl _, by have := HRow.out; rwa [HJ.out] at this, HBr.out⟩
end Go.Proofs.Ytkomemiebgnknaa
