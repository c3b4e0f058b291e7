/-
  Words for memory: a slice that reads as epochs. The contracts of outOfBounds, IndexFunc, ContainsFunc, Right. Their conditions: the slice reads as epochs.
-/
import Derived.Test.YtkomemiebgnknaaRows
import Derived.Test.YtkomemiebgnknaaMath
import Derived.WalkKit
import Derived.ProofKit
import Derived.Below
import Derived.Outline
import Derived.Laws.BitsAllLaws
import Derived.WalkLawsBesides
import Derived.Laws.IdiomStrings
import Derived.OpenShut
import Derived.Lib.Hide
import Derived.BigQuiet
import Derived.Lib.QuietBelow
namespace Go.Proofs.Ytkomemiebgnknaa
open Go.RowKit

theorem addr_add (b off i : Nat) : (⟨b, off, none⟩ : Addr).add i = ⟨b, off + i, none⟩ := by unfold Addr.add; split <;> simp_all
theorem heap_new (w : World) (o : Obj) : (w.alloc o).heap[w.heap.size]? = some o := by
  show (w.heap.push o)[w.heap.size]? = _
  simp
theorem ret_bool {a b : Bool} (h : a = b) : Ending.returned (.bool a) = .returned (.bool b) := by rw [h]
theorem ret_int {a b : Int} (h : a = b) : Ending.returned (.int .i64 a) = .returned (.int .i64 b) := by rw [h]

/-- An epoch lies in three cells. -/
def EpAt (w : World) (b o : Nat) (x : Ep) : Prop := w.cell? ⟨b, o, none⟩ = some (.int .i64 x.M) ∧ w.cell? ⟨b, o + 1, none⟩ = some (.int .i64 x.C) ∧ w.cell? ⟨b, o + 2, none⟩ = some (.bool x.F)
/-- A slice (its address A) that reads as the epochs l. -/
def Eps (w : World) (A : Option Addr) (l : List Ep) : Prop :=
  l.length ≤ maxLen ∧ (0 < l.length → ∃ b off, A = some ⟨b, off, none⟩ ∧ b < w.heap.size ∧ ∀ (k : Nat) (x : Ep), l[k]? = some x → EpAt w b (off + k * 3) x)
theorem Eps.below {w w' : World} {A : Option Addr} {l : List Ep} (h : Eps w A l) (hb : Below w.heap.size w w') : Eps w' A l := by
  obtain ⟨h1, h3⟩ := h
  refine ⟨h1, fun hl => ?_⟩
  obtain ⟨b, off, hA, hlt, hc⟩ := h3 hl
  refine ⟨b, off, hA, Nat.lt_of_lt_of_le hlt hb.size, fun k x hk => ?_⟩
  obtain ⟨e1, e2, e3⟩ := hc k x hk
  exact ⟨by rw [hb.cell (p := ⟨b, _, none⟩) hlt]; exact e1, by rw [hb.cell (p := ⟨b, _, none⟩) hlt]; exact e2, by rw [hb.cell (p := ⟨b, _, none⟩) hlt]; exact e3⟩
theorem Eps.take {w : World} {A : Option Addr} {l : List Ep} (h : Eps w A l) (n : Nat) : Eps w A (l.take n) := by
  obtain ⟨h1, h3⟩ := h
  refine ⟨by rw [List.length_take]; omega, fun hl => ?_⟩
  rw [List.length_take] at hl
  obtain ⟨b, off, hA, hlt, hc⟩ := h3 (by omega)
  refine ⟨b, off, hA, hlt, fun k x hk => hc k x ?_⟩
  rw [List.getElem?_take] at hk
  split at hk
  · exact hk
  · simp at hk
theorem Eps.at_ {w : World} {A : Option Addr} {l : List Ep} (h : Eps w A l) {k : Nat} (hk : k < l.length) : ∃ b off, A = some ⟨b, off, none⟩ ∧ b < w.heap.size ∧ EpAt w b (off + k * 3) l[k] := by
  obtain ⟨b, off, hA, hlt, hc⟩ := h.2 (by omega)
  exact ⟨b, off, hA, hlt, hc k _ (List.getElem?_eq_getElem hk)⟩

set_option maxHeartbeats 400000 in
theorem out_any (x : Ep) (w : World) : Calls Try.prog 31 #[.agg #[.int .i64 x.M, .int .i64 x.C, .bool x.F]] w fun e w' => e = .returned (.bool (Ps.outB x)) ∧ Below w.heap.size w w' := by
  obtain ⟨M, C, F⟩ := x
  have hO : Ps.outB ⟨M, C, F⟩ = (decide (M < 1) || decide (4 < M) || decide (C < 0) || decide (512 < C)) := rfl
  have HO := Lib.hid hO
  clear hO
  go_enter Try.func31, Try.ntmps31
  go_wp2
  all_goals
    go_ret
    exact ⟨ret_bool (by first | (rw [HO.out]; done) | (rw [HO.out]; simp; done) | (rw [HO.out]; simp; omega)), (Below.refl _ _).alloc (Nat.le_refl _) _⟩

def IdxPost (l : List Ep) (w : World) (e : Ending) (w' : World) : Prop := ∃ r : Int, e = .returned (.int .i64 r) ∧ decide (0 ≤ r) = l.any Ps.outB ∧ Below w.heap.size w w'
def IdxRel (l : List Ep) (w : World) (_ s8 : Value) (wr : World) : Prop := ∃ k : Nat, k ≤ l.length ∧ s8 = .int .i64 (k : Int) ∧ (∀ x ∈ l.take k, Ps.outB x = false) ∧ Below w.heap.size w wr
theorem any_hit {l : List Ep} {k : Nat} (hk : k < l.length) (h : Ps.outB l[k] = true) : l.any Ps.outB = true := List.any_eq_true.mpr ⟨l[k], List.getElem_mem hk, h⟩
theorem any_miss {l : List Ep} (h : ∀ x ∈ l, Ps.outB x = false) : l.any Ps.outB = false := by
  rw [List.any_eq_false]
  intro x hx
  rw [h x hx]
  simp
theorem take_step {l : List Ep} {k : Nat} (hk : k < l.length) (h : ∀ x ∈ l.take k, Ps.outB x = false) (h2 : Ps.outB l[k] = false) : ∀ x ∈ l.take (k + 1), Ps.outB x = false := by
  rw [List.take_succ_eq_append_getElem hk]
  intro x hx
  rcases List.mem_append.mp hx with hx | hx
  · exact h x hx
  · simp at hx
    subst hx
    exact h2
set_option maxHeartbeats 1000000 in
theorem idx_any (l : List Ep) (A : Option Addr) (n cap : Nat) (w : World) (h : Eps w A l) (hn : l.length = n) : Calls Try.prog 33 #[.slice A n cap, .func (.func 31) #[] #[]] w (IdxPost l w) := by
  have hm : (n : Int) ≤ 9223372036854775807 := by have := h.1; unfold maxLen at this; omega
  have H := Lib.hid h
  have HN := Lib.hid hn
  clear h hn
  go_enter Try.func33, Try.ntmps33
  go_wp2
  go_loopw [5, 8] (IdxRel l w) (fun _ i _ => n - (intOf i).toNat)
  case atStart => exact ⟨0, Nat.zero_le _, rfl, by simp, Below.refl _ _⟩
  case round =>
    obtain ⟨k, hk, rfl, hno, hbel⟩ := hrel
    have HNO := Lib.hid hno
    have HB := Lib.hid hbel
    rw [HN.out] at hk
    clear hno hbel
    by_cases hlt : k < n
    · have hkl : k < l.length := by have := HN.out; omega
      obtain ⟨b, off, rfl, hbs, c0, c1, c2⟩ := (H.out.below HB.out).at_ hkl
      have HC := Lib.hid (out_any l[k] wr)
      have HIT := Lib.hid (fun h => any_hit hkl h)
      have STEP := Lib.hid (fun h => take_step hkl HNO.out h)
      generalize l[k] = x at c0 c1 c2 HC HIT STEP
      clear hkl
      obtain ⟨M, C, F⟩ := x
      obtain ⟨o, ho⟩ : ∃ o, Ps.outB ⟨M, C, F⟩ = o := ⟨_, rfl⟩
      rw [ho] at HC HIT STEP
      clear ho
      have hlti : (k : Int) < (n : Int) := by omega
      cases o with
      | true =>
        go_wp2_with fail
        refine HC.out.mono ?_
        rintro e w2 ⟨rfl, b2⟩
        have B2 := Lib.hid b2
        clear b2
        go_wp2
        go_ret
        exact ⟨k, rfl, by rw [HIT.out (by trivial)]; simp, HB.out.trans (B2.out.mono HB.out.size)⟩
      | false =>
        go_wp2_with fail
        refine HC.out.mono ?_
        rintro e w2 ⟨rfl, b2⟩
        have B2 := Lib.hid b2
        clear b2
        go_wp2
        go_roundw
        case rel => exact ⟨k + 1, by rw [HN.out]; omega, by go_num, STEP.out (by trivial), HB.out.trans (B2.out.mono HB.out.size)⟩
        case measure => simp [intOf]; omega
    · have hall : ∀ x ∈ l, Ps.outB x = false := by
        have := HNO.out
        rwa [List.take_of_length_le (by rw [HN.out]; omega)] at this
      have HA := Lib.hid (any_miss hall)
      clear hall
      go_wp2
      go_ret
      exact ⟨-1, rfl, by rw [HA.out]; rfl, HB.out⟩
theorem contains_any (l : List Ep) (A : Option Addr) (n cap : Nat) (w : World) (h : Eps w A l) (hn : l.length = n) : Calls Try.prog 30 #[.slice A n cap, .func (.func 31) #[] #[]] w fun e w' => e = .returned (.bool (l.any Ps.outB)) ∧ Below w.heap.size w w' := by
  have HC := Lib.hid (idx_any l A n cap w h hn)
  clear h hn
  go_enter Try.func30, Try.ntmps30
  go_wp2_with fail
  refine HC.out.mono ?_
  rintro e w1 ⟨r, rfl, hr, hb⟩
  have HR := Lib.hid hr
  have HB := Lib.hid hb
  clear hr hb
  go_wp2
  go_ret
  exact ⟨ret_bool HR.out, HB.out⟩
end Go.Proofs.Ytkomemiebgnknaa
