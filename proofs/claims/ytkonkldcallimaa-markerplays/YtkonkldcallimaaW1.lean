/-
  Words for memory: what a call leaves as it was; a marker as a key of a map; a map whose keys are markers. Their conditions: none.
-/
import Derived.Test.YtkonkldcallimaaRows
import Derived.Test.YtkonkldcallimaaMath
import Derived.WalkKit
import Derived.ProofKit
import Derived.Below
import Derived.Outline
import Derived.Laws.BitsAllLaws
import Derived.WalkLawsBesides
import Derived.Laws.IdiomStrings
import Derived.OpenShut
import Derived.Lib.Hide
import Derived.BigQuiet
import Derived.Lib.QuietBelow
import Derived.Deep.RegionHeld3
import Derived.Deep.QuietTactic
import Derived.IntWalk
import Derived.Maps.OwnSet
import Derived.Maps.RangeWalk
import Derived.DeepKeys4
namespace Go.Proofs.Ytkonkldcallimaa
open Go.RowKit Go.Maps

theorem heap_new (w : World) (o : Obj) : (w.alloc o).heap[w.heap.size]? = some o := by
  show (w.heap.push o)[w.heap.size]? = _
  simp
theorem heap_old (w : World) (o : Obj) {b : Nat} (h : b < w.heap.size) : (w.alloc o).heap[b]? = w.heap[b]? := Below.heap_alloc _ _ _ h
theorem lt_of_heap {w : World} {b : Nat} {o : Obj} (h : w.heap[b]? = some o) : b < w.heap.size := (Array.getElem?_eq_some_iff.mp h).1
theorem below_drewN (w : World) (n : Nat) : Below w.heap.size w (w.drewN n) := by
  induction n with
  | zero => exact Below.refl _ _
  | succ n ih => exact ih.drew

/-- The kind of a block: the type of its cells, or a map. -/
def kd : Obj → Nat
  | .cells _ t _ => t
  | .map _ _ => 1000
  | _ => 1001
/-- Every block lies as it lay, but those of the kinds l and the blocks ms; and every block below base. -/
structure Fr (l ms : List Nat) (base : Nat) (w w' : World) : Prop where
  below : Below base w w'
  keep : ∀ (b : Nat) (o : Obj), w.heap[b]? = some o → kd o ∉ l → b ∉ ms → w'.heap[b]? = some o
section
variable {l ms : List Nat} {base : Nat} {a b c w w' : World}
theorem Fr.refl (l ms : List Nat) (base : Nat) (w : World) : Fr l ms base w w := ⟨Below.refl _ _, fun _ _ h _ _ => h⟩
theorem Fr.trans (h : Fr l ms base a b) (k : Fr l ms base b c) : Fr l ms base a c := ⟨h.below.trans k.below, fun i o hi ho hm => k.keep i o (h.keep i o hi ho hm) ho hm⟩
theorem Fr.mono {l' ms' : List Nat} (h : Fr l ms base a b) (hs : ∀ x ∈ l, x ∈ l') (hm : ∀ x ∈ ms, x ∈ ms') : Fr l' ms' base a b := ⟨h.below, fun i o hi ho hj => h.keep i o hi (fun hx => ho (hs _ hx)) (fun hx => hj (hm _ hx))⟩
theorem Fr.down {base' : Nat} (h : Fr l ms base a b) (hs : base' ≤ base) : Fr l ms base' a b := ⟨h.below.mono hs, h.keep⟩
theorem Fr.of_below (h : Below w.heap.size w w') (hb : base ≤ w.heap.size) : Fr l ms base w w' := ⟨h.mono hb, fun b o ho _ _ => by rw [h.block b (lt_of_heap ho)]; exact ho⟩
theorem Fr.drew (h : Fr l ms base a w) : Fr l ms base a w.drew := ⟨h.below.drew, h.keep⟩
theorem Fr.alloc (h : Fr l ms base a w) (hb : base ≤ w.heap.size) (o : Obj) : Fr l ms base a (w.alloc o) := h.trans (Fr.of_below ((Below.refl _ _).alloc (Nat.le_refl _) _) hb)
theorem Fr.set {i o : Nat} {x : Obj} (h : Fr l ms base a w) (hx : w.heap[i]? = some x) (hk : kd x ∈ l ∨ i ∈ ms) (hb : base ≤ i) (u : Value) : Fr l ms base a (w.setCell ⟨i, o, none⟩ u) :=
  h.trans ⟨(Below.refl _ _).setCell hb _, fun j y hj hy hm => by
    rw [Below.heap_setCell _ _ _ _ ?_]
    · exact hj
    · rintro rfl
      rw [hx] at hj
      cases hj
      exact hk.elim hy hm⟩
theorem Fr.size (h : Fr l ms base w w') : w.heap.size ≤ w'.heap.size := h.below.size
/-- A step that writes one block. -/
theorem Fr.grown {i : Nat} {o : Obj} (h : Fr l ms base a w) (hg : w.grownBy w' (some i)) (ho : w.heap[i]? = some o) (hk : kd o ∈ l ∨ i ∈ ms) (hb : base ≤ i) : Fr l ms base a w' :=
  h.trans ⟨⟨hg.os, hg.tape, hg.output, hg.size, fun k hk => by
    by_cases e : k < w.heap.size
    · exact hg.block k e (fun he => by cases he; omega)
    · have := lt_of_heap ho
      omega⟩, fun j y hj hy hm => by
    rw [hg.block j (lt_of_heap hj) ?_]
    · exact hj
    · intro he
      cases he
      rw [ho] at hj
      cases hj
      exact hk.elim hy hm⟩
end


theorem Fr.grownNew {l ms : List Nat} {base : Nat} {a w w' : World} {i : Nat} (h : Fr l ms base a w) (hg : w.grownBy w' (some i)) (hi : a.heap.size ≤ i) (hb : base ≤ a.heap.size) : Fr l ms base a w' := by
  have hsz := h.size
  refine ⟨h.below.trans ⟨hg.os, hg.tape, hg.output, hg.size, fun k hk => hg.block k (by omega) (fun he => by cases he; omega)⟩, fun j y hj hy hm => ?_⟩
  have hjl := lt_of_heap hj
  rw [hg.block j (by omega) (fun he => by cases he; omega)]
  exact h.keep j y hj hy hm
theorem Below.grownNew {a w w' : World} {i : Nat} (h : Below a.heap.size a w) (hg : w.grownBy w' (some i)) (hi : a.heap.size ≤ i) : Below a.heap.size a w' := by
  have hsz := h.size
  exact h.trans ⟨hg.os, hg.tape, hg.output, hg.size, fun k hk => hg.block k (by omega) (fun he => by cases he; omega)⟩
theorem Below.of_none {w w' : World} (hg : w.grownBy w' none) : Below w.heap.size w w' := ⟨hg.os, hg.tape, hg.output, hg.size, fun k hk => hg.block k hk (by simp)⟩

/-! ### A marker as a key -/
/-- A marker whose parts are Go's. -/
structure Ok (m : Mk) : Prop where
  k : m.k.size ≤ maxLen
  s : (Lit.int .i64 m.s).wf = true
  r : (Lit.int .i64 m.r).wf = true
def mv (m : Mk) : Value := .agg #[.string m.k, .int .i64 m.s, .int .i64 m.r]
theorem mv_inj {a b : Mk} (h : mv a = mv b) : a = b := by
  unfold mv at h
  simp at h
  exact Mk.ext' h.1 h.2.1 h.2.2
theorem laidOut : laidOutB Try.prog = true := by kernel_rfl
theorem row48 : (48 : TypeId) < Try.prog.types.size := of_decide_eq_true (by kernel_rfl)
theorem cells48 : Try.prog.cellsOf 48 = 3 := by kernel_rfl
theorem cells9 : Try.prog.cellsOf 9 = 1 := by kernel_rfl
theorem cells3 : Try.prog.cellsOf 3 = 1 := by kernel_rfl
theorem wide48 : (match Try.prog.underlying 48 with | some (.array _ _) | some (.struct _) => true | _ => false) = true := by kernel_rfl
theorem law48 : Keyed Try.prog 48 := Keyed.of_law (deep_law_laid laidOut (m := 2) (by omega) row48 (by kernel_rfl) wide48)
theorem keyType48 : Try.prog.keyType 48 = true := by kernel_rfl
theorem size_types : Try.prog.types.size = 104 + 1 := by kernel_rfl
def mLit (m : Mk) : Lit := .string (keyBytes [.string m.k.data.toList, .int .i64 m.s, .int .i64 m.r])
theorem lits9_inv {n : Nat} {c : Value} {L : List Lit} (h : Try.prog.keyLits (n + 1) 9 [c] = some L) : ∃ k : ByteArray, c = .string k ∧ k.size ≤ maxLen ∧ L = [.string k.data.toList] := by
  cases c <;> simp [Program.keyLits, Try.underlying9] at h
  exact ⟨_, rfl, h.1, h.2.symm⟩
theorem lits3_inv {n : Nat} {c : Value} {L : List Lit} (h : Try.prog.keyLits (n + 1) 3 [c] = some L) : ∃ s : Int, c = .int .i64 s ∧ (Lit.int .i64 s).wf = true ∧ L = [.int .i64 s] := by
  cases c <;> simp [Program.keyLits, Try.underlying3] at h
  obtain ⟨⟨rfl, h1⟩, h2⟩ := h
  exact ⟨_, rfl, h1, h2.symm⟩
theorem lits48 (n : Nat) (c0 c1 c2 : Value) : Try.prog.keyLits (n + 2) 48 [c0, c1, c2] =
    (Try.prog.keyLits (n + 1) 9 [c0]).bind fun a => (Try.prog.keyLits (n + 1) 3 [c1]).bind fun b => (Try.prog.keyLits (n + 1) 3 [c2]).bind fun c => some (a ++ (b ++ c)) := by
  conv => lhs; unfold Program.keyLits
  simp only [Try.underlying48]
  rw [if_pos ⟨by rw [cells48]; rfl, by kernel_rfl⟩]
  simp only [List.mapM_cons, List.mapM_nil, cells9, cells3, List.drop, List.take]
  cases Try.prog.keyLits (n + 1) 9 [c0] with
  | none => rfl
  | some a =>
    cases Try.prog.keyLits (n + 1) 3 [c1] with
    | none => rfl
    | some b =>
      cases Try.prog.keyLits (n + 1) 3 [c2] with
      | none => rfl
      | some c => simp
theorem keyOf_mv {m : Mk} (h : Ok m) : keyOf Try.prog 48 (mv m) = some (mLit m) := by
  have hf : (mv m).formed Try.prog 48 = true := by simp [mv, Value.formed, Try.underlying48, cells48]
  unfold keyOf
  simp only [Try.underlying48, keyType48, hf, Bool.and_self, if_true]
  rw [size_types]
  show ((Try.prog.keyLits (104 + 2) 48 [.string m.k, .int .i64 m.s, .int .i64 m.r]).map _) = _
  rw [lits48]
  simp [Program.keyLits, Try.underlying9, Try.underlying3, h.k, h.s, h.r, mLit]
theorem keyOf48_inv {key : Value} {kl : Lit} (h : keyOf Try.prog 48 key = some kl) : ∃ m, key = mv m ∧ Ok m ∧ kl = mLit m := by
  have hsz : ∀ xs : Array Value, (Value.agg xs).formed Try.prog 48 = true → xs.size = 3 := fun xs hx => by simpa [Value.formed, Try.underlying48, cells48] using hx
  have hfm : key.formed Try.prog 48 = true := by
    unfold keyOf at h
    simp only [Try.underlying48, keyType48, Bool.true_and] at h
    split at h
    · assumption
    · cases h
  obtain ⟨xs, L, rfl, h1, e1⟩ := keyOf_top wide48 h
  have h3 := hsz xs hfm
  obtain ⟨l⟩ := xs
  match l, h3 with
  | [c0, c1, c2], _ =>
    rw [size_types, show 104 + 1 + 1 = 104 + 2 from rfl] at h1
    have h1' : Try.prog.keyLits (104 + 2) 48 [c0, c1, c2] = some L := h1
    rw [lits48] at h1'
    obtain ⟨x, hx, h1'⟩ := Option.bind_eq_some_iff.mp h1'
    obtain ⟨y, hy, h1'⟩ := Option.bind_eq_some_iff.mp h1'
    obtain ⟨z, hz, h1'⟩ := Option.bind_eq_some_iff.mp h1'
    obtain ⟨k, rfl, hk, rfl⟩ := lits9_inv hx
    obtain ⟨s, rfl, hs, rfl⟩ := lits3_inv hy
    obtain ⟨r, rfl, hr, rfl⟩ := lits3_inv hz
    injection h1' with h1'
    subst h1'
    exact ⟨⟨k, s, r⟩, rfl, ⟨hk, hs, hr⟩, e1⟩
end Go.Proofs.Ytkonkldcallimaa
