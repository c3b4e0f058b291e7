/-
  Words for memory: what a call leaves as it was. Their conditions: none.
-/
import Derived.Test.YtppdckncnfffcaaRows
import Derived.Test.YtppdckncnfffcaaMath
import Derived.WalkKit
import Derived.ProofKit
import Derived.Below
import Derived.Outline
import Derived.Laws.BitsAllLaws
import Derived.WalkLawsBesides
import Derived.Laws.IdiomStrings
import Derived.OpenShut
import Derived.Lib.Hide
import Derived.BigQuiet
import Derived.Lib.QuietBelow
import Derived.Deep.RegionHeld3
import Derived.Deep.QuietTactic
import Derived.IntWalk
namespace Go.Proofs.Ytppdckncnfffcaa
open Go.RowKit

theorem heap_new (w : World) (o : Obj) : (w.alloc o).heap[w.heap.size]? = some o := by
  show (w.heap.push o)[w.heap.size]? = _
  simp
theorem heap_old (w : World) (o : Obj) {b : Nat} (h : b < w.heap.size) : (w.alloc o).heap[b]? = w.heap[b]? := Below.heap_alloc _ _ _ h
theorem lt_of_heap {w : World} {b : Nat} {o : Obj} (h : w.heap[b]? = some o) : b < w.heap.size := (Array.getElem?_eq_some_iff.mp h).1
theorem below_drewN (w : World) (n : Nat) : Below w.heap.size w (w.drewN n) := by
  induction n with
  | zero => exact Below.refl _ _
  | succ n ih => exact ih.drew

/-- The kind of a block: the type of its cells, or a map. -/
def kd : Obj → Nat
  | .cells _ t _ => t
  | .map _ _ => 1000
  | _ => 1001
/-- Every block lies as it lay, but those of the kinds l and the blocks ms; and every block below base. -/
structure Fr (l ms : List Nat) (base : Nat) (w w' : World) : Prop where
  below : Below base w w'
  keep : ∀ (b : Nat) (o : Obj), w.heap[b]? = some o → kd o ∉ l → b ∉ ms → w'.heap[b]? = some o
section
variable {l ms : List Nat} {base : Nat} {a b c w w' : World}
theorem Fr.refl (l ms : List Nat) (base : Nat) (w : World) : Fr l ms base w w := ⟨Below.refl _ _, fun _ _ h _ _ => h⟩
theorem Fr.trans (h : Fr l ms base a b) (k : Fr l ms base b c) : Fr l ms base a c := ⟨h.below.trans k.below, fun i o hi ho hm => k.keep i o (h.keep i o hi ho hm) ho hm⟩
theorem Fr.mono {l' ms' : List Nat} (h : Fr l ms base a b) (hs : ∀ x ∈ l, x ∈ l') (hm : ∀ x ∈ ms, x ∈ ms') : Fr l' ms' base a b := ⟨h.below, fun i o hi ho hj => h.keep i o hi (fun hx => ho (hs _ hx)) (fun hx => hj (hm _ hx))⟩
theorem Fr.down {base' : Nat} (h : Fr l ms base a b) (hs : base' ≤ base) : Fr l ms base' a b := ⟨h.below.mono hs, h.keep⟩
theorem Fr.of_below (h : Below w.heap.size w w') (hb : base ≤ w.heap.size) : Fr l ms base w w' := ⟨h.mono hb, fun b o ho _ _ => by rw [h.block b (lt_of_heap ho)]; exact ho⟩
theorem Fr.drew (h : Fr l ms base a w) : Fr l ms base a w.drew := ⟨h.below.drew, h.keep⟩
theorem Fr.alloc (h : Fr l ms base a w) (hb : base ≤ w.heap.size) (o : Obj) : Fr l ms base a (w.alloc o) := h.trans (Fr.of_below ((Below.refl _ _).alloc (Nat.le_refl _) _) hb)
theorem Fr.set {i o : Nat} {x : Obj} (h : Fr l ms base a w) (hx : w.heap[i]? = some x) (hk : kd x ∈ l ∨ i ∈ ms) (hb : base ≤ i) (u : Value) : Fr l ms base a (w.setCell ⟨i, o, none⟩ u) :=
  h.trans ⟨(Below.refl _ _).setCell hb _, fun j y hj hy hm => by
    rw [Below.heap_setCell _ _ _ _ ?_]
    · exact hj
    · rintro rfl
      rw [hx] at hj
      cases hj
      exact hk.elim hy hm⟩
theorem Fr.size (h : Fr l ms base w w') : w.heap.size ≤ w'.heap.size := h.below.size
/-- A step that writes one block. -/
theorem Fr.grown {i : Nat} {o : Obj} (h : Fr l ms base a w) (hg : w.grownBy w' (some i)) (ho : w.heap[i]? = some o) (hk : kd o ∈ l ∨ i ∈ ms) (hb : base ≤ i) : Fr l ms base a w' :=
  h.trans ⟨⟨hg.os, hg.tape, hg.output, hg.size, fun k hk => by
    by_cases e : k < w.heap.size
    · exact hg.block k e (fun he => by cases he; omega)
    · have := lt_of_heap ho
      omega⟩, fun j y hj hy hm => by
    rw [hg.block j (lt_of_heap hj) ?_]
    · exact hj
    · intro he
      cases he
      rw [ho] at hj
      cases hj
      exact hk.elim hy hm⟩
end


theorem Fr.grownNew {l ms : List Nat} {base : Nat} {a w w' : World} {i : Nat} (h : Fr l ms base a w) (hg : w.grownBy w' (some i)) (hi : a.heap.size ≤ i) (hb : base ≤ a.heap.size) : Fr l ms base a w' := by
  have hsz := h.size
  refine ⟨h.below.trans ⟨hg.os, hg.tape, hg.output, hg.size, fun k hk => hg.block k (by omega) (fun he => by cases he; omega)⟩, fun j y hj hy hm => ?_⟩
  have hjl := lt_of_heap hj
  rw [hg.block j (by omega) (fun he => by cases he; omega)]
  exact h.keep j y hj hy hm
theorem Below.grownNew {a w w' : World} {i : Nat} (h : Below a.heap.size a w) (hg : w.grownBy w' (some i)) (hi : a.heap.size ≤ i) : Below a.heap.size a w' := by
  have hsz := h.size
  exact h.trans ⟨hg.os, hg.tape, hg.output, hg.size, fun k hk => hg.block k (by omega) (fun he => by cases he; omega)⟩
theorem Below.of_none {w w' : World} (hg : w.grownBy w' none) : Below w.heap.size w w' := ⟨hg.os, hg.tape, hg.output, hg.size, fun k hk => hg.block k hk (by simp)⟩

end Go.Proofs.Ytppdckncnfffcaa
