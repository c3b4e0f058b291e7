/-
  Words for memory: what a call leaves as it was; a map from keys to numbers. Their conditions: none.
-/
import Derived.Test.YtdmgmbjdocechaaRows
import Derived.Test.YtdmgmbjdocechaaMath
import Derived.WalkKit
import Derived.ProofKit
import Derived.Below
import Derived.Outline
import Derived.Laws.BitsAllLaws
import Derived.WalkLawsBesides
import Derived.Laws.IdiomStrings
import Derived.OpenShut
import Derived.Lib.Hide
import Derived.BigQuiet
import Derived.Lib.QuietBelow
import Derived.Deep.RegionHeld3
import Derived.Deep.QuietTactic
import Derived.IntWalk
import Derived.Maps.OwnSet
import Derived.Maps.RangeWalk
namespace Go.Proofs.Ytdmgmbjdocechaa
open Go.RowKit Go.Maps Go.ChangeMaps

theorem heap_new (w : World) (o : Obj) : (w.alloc o).heap[w.heap.size]? = some o := by
  show (w.heap.push o)[w.heap.size]? = _
  simp
theorem heap_old (w : World) (o : Obj) {b : Nat} (h : b < w.heap.size) : (w.alloc o).heap[b]? = w.heap[b]? := Below.heap_alloc _ _ _ h
theorem lt_of_heap {w : World} {b : Nat} {o : Obj} (h : w.heap[b]? = some o) : b < w.heap.size := (Array.getElem?_eq_some_iff.mp h).1
theorem below_drewN (w : World) (n : Nat) : Below w.heap.size w (w.drewN n) := by
  induction n with
  | zero => exact Below.refl _ _
  | succ n ih => exact ih.drew

/-- The kind of a block: the type of its cells, or a map. -/
def kd : Obj → Nat
  | .cells _ t _ => t
  | .map _ _ => 1000
  | _ => 1001
/-- Every block lies as it lay, but those of the kinds l and the blocks ms; and every block below base. -/
structure Fr (l ms : List Nat) (base : Nat) (w w' : World) : Prop where
  below : Below base w w'
  keep : ∀ (b : Nat) (o : Obj), w.heap[b]? = some o → kd o ∉ l → b ∉ ms → w'.heap[b]? = some o
section
variable {l ms : List Nat} {base : Nat} {a b c w w' : World}
theorem Fr.refl (l ms : List Nat) (base : Nat) (w : World) : Fr l ms base w w := ⟨Below.refl _ _, fun _ _ h _ _ => h⟩
theorem Fr.trans (h : Fr l ms base a b) (k : Fr l ms base b c) : Fr l ms base a c := ⟨h.below.trans k.below, fun i o hi ho hm => k.keep i o (h.keep i o hi ho hm) ho hm⟩
theorem Fr.mono {l' ms' : List Nat} (h : Fr l ms base a b) (hs : ∀ x ∈ l, x ∈ l') (hm : ∀ x ∈ ms, x ∈ ms') : Fr l' ms' base a b := ⟨h.below, fun i o hi ho hj => h.keep i o hi (fun hx => ho (hs _ hx)) (fun hx => hj (hm _ hx))⟩
theorem Fr.down {base' : Nat} (h : Fr l ms base a b) (hs : base' ≤ base) : Fr l ms base' a b := ⟨h.below.mono hs, h.keep⟩
theorem Fr.of_below (h : Below w.heap.size w w') (hb : base ≤ w.heap.size) : Fr l ms base w w' := ⟨h.mono hb, fun b o ho _ _ => by rw [h.block b (lt_of_heap ho)]; exact ho⟩
theorem Fr.drew (h : Fr l ms base a w) : Fr l ms base a w.drew := ⟨h.below.drew, h.keep⟩
theorem Fr.alloc (h : Fr l ms base a w) (hb : base ≤ w.heap.size) (o : Obj) : Fr l ms base a (w.alloc o) := h.trans (Fr.of_below ((Below.refl _ _).alloc (Nat.le_refl _) _) hb)
theorem Fr.set {i o : Nat} {x : Obj} (h : Fr l ms base a w) (hx : w.heap[i]? = some x) (hk : kd x ∈ l ∨ i ∈ ms) (hb : base ≤ i) (u : Value) : Fr l ms base a (w.setCell ⟨i, o, none⟩ u) :=
  h.trans ⟨(Below.refl _ _).setCell hb _, fun j y hj hy hm => by
    rw [Below.heap_setCell _ _ _ _ ?_]
    · exact hj
    · rintro rfl
      rw [hx] at hj
      cases hj
      exact hk.elim hy hm⟩
theorem Fr.size (h : Fr l ms base w w') : w.heap.size ≤ w'.heap.size := h.below.size
/-- A step that writes one block. -/
theorem Fr.grown {i : Nat} {o : Obj} (h : Fr l ms base a w) (hg : w.grownBy w' (some i)) (ho : w.heap[i]? = some o) (hk : kd o ∈ l ∨ i ∈ ms) (hb : base ≤ i) : Fr l ms base a w' :=
  h.trans ⟨⟨hg.os, hg.tape, hg.output, hg.size, fun k hk => by
    by_cases e : k < w.heap.size
    · exact hg.block k e (fun he => by cases he; omega)
    · have := lt_of_heap ho
      omega⟩, fun j y hj hy hm => by
    rw [hg.block j (lt_of_heap hj) ?_]
    · exact hj
    · intro he
      cases he
      rw [ho] at hj
      cases hj
      exact hk.elim hy hm⟩
end


theorem Fr.grownNew {l ms : List Nat} {base : Nat} {a w w' : World} {i : Nat} (h : Fr l ms base a w) (hg : w.grownBy w' (some i)) (hi : a.heap.size ≤ i) (hb : base ≤ a.heap.size) : Fr l ms base a w' := by
  have hsz := h.size
  refine ⟨h.below.trans ⟨hg.os, hg.tape, hg.output, hg.size, fun k hk => hg.block k (by omega) (fun he => by cases he; omega)⟩, fun j y hj hy hm => ?_⟩
  have hjl := lt_of_heap hj
  rw [hg.block j (by omega) (fun he => by cases he; omega)]
  exact h.keep j y hj hy hm
theorem Below.grownNew {a w w' : World} {i : Nat} (h : Below a.heap.size a w) (hg : w.grownBy w' (some i)) (hi : a.heap.size ≤ i) : Below a.heap.size a w' := by
  have hsz := h.size
  exact h.trans ⟨hg.os, hg.tape, hg.output, hg.size, fun k hk => hg.block k (by omega) (fun he => by cases he; omega)⟩
theorem Below.of_none {w w' : World} (hg : w.grownBy w' none) : Below w.heap.size w w' := ⟨hg.os, hg.tape, hg.output, hg.size, fun k hk => hg.block k hk (by simp)⟩

/-! ### A map from keys to numbers -/
/-- A tombstone whose parts are Go's. -/
structure Ok (x : Tm) : Prop where
  k : x.k.size ≤ maxLen
  n : (Lit.int .i64 x.n).wf = true
theorem laidOut : laidOutB Try.prog = true := by kernel_rfl
theorem law9 : Keyed Try.prog 9 := string_keyed Try.underlying9
def kLit (k : ByteArray) : Lit := .string k.data.toList
theorem kLit_inj {a b : ByteArray} (h : kLit a = kLit b) : a = b := by
  unfold kLit at h
  injection h with h
  cases a
  cases b
  simp only at h
  congr
  exact Array.toList_inj.mp h
theorem kLit_key (k : ByteArray) : WideAt.IsKeyLit (kLit k) := trivial
theorem same_lit (a b : ByteArray) : (kLit a).sameKey (kLit b) = decide (a = b) := by
  by_cases h : a = b
  · subst h
    rw [WideAt.sameKey_self (kLit_key _)]
    simp
  · rw [sameKey_ne (fun e => h (kLit_inj e))]
    simp [h]
theorem keyOf9 {k : ByteArray} (h : k.size ≤ maxLen) : keyOf Try.prog 9 (.string k) = some (kLit k) := WideMaps.keyOf_string_mk Try.underlying9 h
/-- How an element reads. -/
noncomputable abbrev iE : Value → Option (DataW Unit × List MemPlace) := plainElem (H := Unit) Try.prog 3
theorem iE_mk {n : Int} (h : (Lit.int .i64 n).wf = true) : iE (.int .i64 n) = some (.lit (.int .i64 n), []) := plainElem_int Try.underlying3 h
theorem wf0 : (Lit.int .i64 0).wf = true := by decide
theorem zero3 (w : World) : (zeroValue 3).run Try.prog w = .ok (.int .i64 0) w := by kernel_rfl
/-- What stands at a key. -/
def look (L : List Tm) (k : ByteArray) (z : DataW Unit) : DataW Unit :=
  match fnd L k with
  | some x => .lit (.int .i64 x.n)
  | none => z
theorem look_val (L : List Tm) (k : ByteArray) : look L k (.lit (.int .i64 0)) = .lit (.int .i64 (val L k)) := by
  unfold look val
  cases fnd L k <;> rfl
/-- The datum D has just the tombstones of L. -/
structure Reads (D : DataW Unit) (L : List Tm) : Prop where
  at_ : ∀ k z, D.atKey (kLit k) z = look L k z
  sz : Maps.size D = L.length
theorem Reads.has {D : DataW Unit} {L : List Tm} (h : Reads D L) (k : ByteArray) : Maps.has D (kLit k) = has L k := by
  unfold Ytdmgmbjdocechaa.has
  cases hf : fnd L k with
  | none => exact has_false_of_atKey fun z => by rw [h.at_]; simp [look, hf]
  | some x => exact has_true_of_atKey (y := .lit (.int .i64 x.n)) fun z => by rw [h.at_]; simp [look, hf]
/-- Block B is a map from keys to numbers: those of L. -/
def MapAt (w : World) (B : Nat) (L : List Tm) : Prop := ∃ D : DataW Unit, w.ownsMap Try.prog 9 iE B L.length D ∧ Reads D L
theorem tight {w : World} {B n : Nat} {D : DataW Unit} (h : w.ownsMap Try.prog 9 iE B n D) : w.ownsMap Try.prog 9 iE B (Maps.size D) D := by
  obtain ⟨es, clock, hb, F, hs, rfl⟩ := h
  exact ⟨es, clock, hb, F, by simp [Maps.size, length_sorted], rfl⟩
theorem MapAt.of {w : World} {B n : Nat} {D : DataW Unit} {L : List Tm} (h : w.ownsMap Try.prog 9 iE B n D) (hr : Reads D L) : MapAt w B L := ⟨D, by rw [← hr.sz]; exact tight h, hr⟩
theorem MapAt.isMap {w : World} {B : Nat} {L : List Tm} (h : MapAt w B L) : ∃ es c, w.heap[B]? = some (.map es c) := by
  obtain ⟨D, ⟨es, c, hb, _⟩, _⟩ := h
  exact ⟨es, c, hb⟩
theorem MapAt.keep {w w' : World} {B : Nat} {L : List Tm} (h : MapAt w B L) (hb : w'.heap[B]? = w.heap[B]?) : MapAt w' B L := by
  obtain ⟨D, ⟨es, c, h1, h2⟩, h3⟩ := h
  exact ⟨D, ⟨es, c, hb.trans h1, h2⟩, h3⟩
theorem MapAt.fr {w w' : World} {B : Nat} {L : List Tm} {l ms : List Nat} {base : Nat} (h : MapAt w B L) (hf : Fr l ms base w w') (hl : 1000 ∉ l) (hm : B ∉ ms) : MapAt w' B L := by
  obtain ⟨es, c, hb⟩ := h.isMap
  exact h.keep (by rw [hf.keep B _ hb hl hm, hb])
theorem MapAt.below {w w' : World} {B : Nat} {L : List Tm} (h : MapAt w B L) (hf : Below w.heap.size w w') : MapAt w' B L := by
  obtain ⟨es, c, hb⟩ := h.isMap
  exact h.keep (by rw [hf.block B (lt_of_heap hb)])
theorem MapAt.val {w : World} {B : Nat} {L : List Tm} (h : MapAt w B L) {k : ByteArray} (hk : k.size ≤ maxLen) : (Instr.lookup 46 (.map (some B)) (.string k) false).run Try.prog w = .ok (.int .i64 (val L k)) w := by
  obtain ⟨D, hown, hat⟩ := h
  obtain ⟨c, hr, hc, _⟩ := hown.lookup_int law9 Try.underlying46 Try.underlying3 (zero3 w) (keyOf9 hk)
  rw [hat.at_, look_val] at hc
  injection hc with hc
  injection hc with _ hc
  rw [hr, hc]
theorem MapAt.find {w : World} {B : Nat} {L : List Tm} (h : MapAt w B L) {k : ByteArray} (hk : k.size ≤ maxLen) : (Instr.lookup 46 (.map (some B)) (.string k) true).run Try.prog w = .ok (.tuple #[.int .i64 (Ytdmgmbjdocechaa.val L k), .bool (has L k)]) w := by
  obtain ⟨D, hown, hat⟩ := h
  obtain ⟨v, ps, hr, hv⟩ := hown.look_ok law9 Try.underlying46 (zero3 w) (iE_mk wf0) (keyOf9 hk)
  rw [hat.at_, look_val] at hv
  obtain ⟨c, rfl, hc, _⟩ := plainElem_int_inv Try.underlying3 hv
  simp only [Prod.mk.injEq] at hc
  have hc := hc.1
  injection hc with hc
  injection hc with _ hc
  rw [hr, hat.has, hc]
theorem MapAt.len {w : World} {B : Nat} {L : List Tm} (h : MapAt w B L) (ty : TypeId) : (Builtin.len_ #[46] ty #[.map (some B)]).run Try.prog w = .ok (.int .i64 (L.length : Int)) w := by
  obtain ⟨D, hown, hat⟩ := h
  rw [hown.len Try.underlying46, hat.sz]
theorem Reads.del {w : World} {B n : Nat} {D : DataW Unit} {L : List Tm} (h : Reads D L) (hown : w.ownsMap Try.prog 9 iE B n D) (hn : Rises L) (k : ByteArray) : Reads (D.del (kLit k)) (drp L k) := by
  refine ⟨fun j z => ?_, ?_⟩
  · by_cases e : j = k
    · subst e
      rw [atKey_del_same]
      simp [look, fnd_drp_same]
    · rw [atKey_del_other (fun h => e (kLit_inj h)), h.at_]
      simp [look, fnd_drp_other e]
  · have := size_del (k := kLit k) (hown.tidy law9)
    rw [h.has, h.sz] at this
    by_cases hk : k ∈ keys L
    · rw [has_iff.mpr hk] at this
      have h2 := length_drp hn hk
      simp at this
      omega
    · rw [has_no.mpr hk] at this
      rw [drp_none hk]
      simpa using this
theorem MapAt.put {w : World} {B : Nat} {L : List Tm} (h : MapAt w B L) (hrs : Rises L) {x : Tm} (hx : Ok x) (hl : L.length < maxLen) :
    ∃ w', (Instr.mapUpdate 46 (.map (some B)) (.string x.k) (.int .i64 x.n)).run Try.prog w = .ok () w' ∧ MapAt w' B (ins L x) ∧ w.grownBy w' (some B) := by
  obtain ⟨D, hown, hat⟩ := h
  obtain ⟨w', hr, ho, hg⟩ := hown.update law9 Try.underlying46 hl (keyOf9 hx.k) (iE_mk hx.n)
  refine ⟨w', hr, MapAt.of ho ⟨fun j z => ?_, ?_⟩, hg⟩
  · by_cases e : j = x.k
    · subst e
      rw [atKey_put_same hown.isMap (kLit_key _)]
      simp [look, fnd_ins_same hrs]
    · rw [atKey_put_other (fun h => e (kLit_inj h)), hat.at_]
      simp [look, fnd_ins_other hrs e]
  · rw [size_put (hown.tidy law9), hat.has, hat.sz]
    by_cases hk : x.k ∈ keys L
    · rw [has_iff.mpr hk, length_ins_old hrs hk]
      rfl
    · rw [has_no.mpr hk, length_ins_new hk]
      rfl
theorem MapAt.del {w : World} {B : Nat} {L : List Tm} (h : MapAt w B L) (hrs : Rises L) {k : ByteArray} (hk : k.size ≤ maxLen) (ty : TypeId) :
    ∃ w', (Builtin.delete_ #[46, 9] ty #[.map (some B), .string k]).run Try.prog w = .ok (.tuple #[]) w' ∧ MapAt w' B (drp L k) ∧ w.grownBy w' (some B) := by
  obtain ⟨D, hown, hat⟩ := h
  obtain ⟨w', hr, ho, ht⟩ := hown.drop law9 Try.underlying46 (keyOf9 hk) ty
  exact ⟨w', hr, MapAt.of ho (hat.del hown hrs k), ht.grown⟩
theorem MapAt.clear {w : World} {B : Nat} {L : List Tm} (h : MapAt w B L) (ty : TypeId) :
    ∃ w', (Builtin.clear_ #[46] ty #[.map (some B)]).run Try.prog w = .ok (.tuple #[]) w' ∧ MapAt w' B [] ∧ w.grownBy w' (some B) := by
  obtain ⟨es, c, hb⟩ := h.isMap
  refine ⟨setBlock w B (.map #[] c), ?_, ⟨.map [], ⟨#[], c, heap_setBlock_same hb _, ⟨by simp, ?_, by simp⟩, Nat.le_refl _, rfl⟩, fun _ _ => rfl, rfl⟩, ?_⟩
  · simp [Builtin.clear_, run_underlying Try.underlying46, MapKept.run_getObj_map hb, MapKept.run_setObj_map _ hb, Result.andThen, setBlock]
  · exact MapKept.stamped_empty c
  · exact World.mapTurned.grown ⟨es, c, #[], c, hb, rfl⟩
/-- The map's keys. -/
theorem MapAt.made (w : World) : MapAt (w.alloc (.map #[] 0)) w.heap.size [] := ⟨.map [], World.ownsMap_made w Try.prog 9 iE, fun _ _ => rfl, rfl⟩
end Go.Proofs.Ytdmgmbjdocechaa
