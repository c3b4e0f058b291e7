/-
  Words for memory: what a call leaves as it was, a map from keys to leases, a table of leases. The contracts of find, Len, Granted, Kill, Use, Clear, New. Their conditions: the table lies in memory.
-/
import Derived.Test.YtfiohhgmlelnkaaRows
import Derived.Test.YtfiohhgmlelnkaaMath
import Derived.WalkKit
import Derived.ProofKit
import Derived.Below
import Derived.Outline
import Derived.Laws.BitsAllLaws
import Derived.Laws.LoneSync
import Derived.WalkLawsBesides
import Derived.Laws.IdiomStrings
import Derived.OpenShut
import Derived.Lib.Hide
import Derived.BigQuiet
import Derived.Lib.QuietBelow
import Derived.Deep.RegionHeld3
import Derived.Deep.QuietTactic
import Derived.IntWalk
import Derived.Maps.OwnSet
import Derived.Maps.RangeWalk
namespace Go.Proofs.Ytfiohhgmlelnkaa
open Go.RowKit Go.Maps

theorem heap_new (w : World) (o : Obj) : (w.alloc o).heap[w.heap.size]? = some o := by
  show (w.heap.push o)[w.heap.size]? = _
  simp
theorem heap_old (w : World) (o : Obj) {b : Nat} (h : b < w.heap.size) : (w.alloc o).heap[b]? = w.heap[b]? := Below.heap_alloc _ _ _ h
theorem lt_of_heap {w : World} {b : Nat} {o : Obj} (h : w.heap[b]? = some o) : b < w.heap.size := (Array.getElem?_eq_some_iff.mp h).1
theorem below_drewN (w : World) (n : Nat) : Below w.heap.size w (w.drewN n) := by
  induction n with
  | zero => exact Below.refl _ _
  | succ n ih => exact ih.drew

/-- The kind of a block: the type of its cells, or a map. -/
def kd : Obj → Nat
  | .cells _ t _ => t
  | .map _ _ => 1000
  | _ => 1001
/-- Every block lies as it lay, but those of the kinds l and the blocks ms; and every block below base. -/
structure Fr (l ms : List Nat) (base : Nat) (w w' : World) : Prop where
  below : Below base w w'
  keep : ∀ (b : Nat) (o : Obj), w.heap[b]? = some o → kd o ∉ l → b ∉ ms → w'.heap[b]? = some o
section
variable {l ms : List Nat} {base : Nat} {a b c w w' : World}
theorem Fr.refl (l ms : List Nat) (base : Nat) (w : World) : Fr l ms base w w := ⟨Below.refl _ _, fun _ _ h _ _ => h⟩
theorem Fr.trans (h : Fr l ms base a b) (k : Fr l ms base b c) : Fr l ms base a c := ⟨h.below.trans k.below, fun i o hi ho hm => k.keep i o (h.keep i o hi ho hm) ho hm⟩
theorem Fr.mono {l' ms' : List Nat} (h : Fr l ms base a b) (hs : ∀ x ∈ l, x ∈ l') (hm : ∀ x ∈ ms, x ∈ ms') : Fr l' ms' base a b := ⟨h.below, fun i o hi ho hj => h.keep i o hi (fun hx => ho (hs _ hx)) (fun hx => hj (hm _ hx))⟩
theorem Fr.down {base' : Nat} (h : Fr l ms base a b) (hs : base' ≤ base) : Fr l ms base' a b := ⟨h.below.mono hs, h.keep⟩
theorem Fr.of_below (h : Below w.heap.size w w') (hb : base ≤ w.heap.size) : Fr l ms base w w' := ⟨h.mono hb, fun b o ho _ _ => by rw [h.block b (lt_of_heap ho)]; exact ho⟩
theorem Fr.drew (h : Fr l ms base a w) : Fr l ms base a w.drew := ⟨h.below.drew, h.keep⟩
theorem Fr.alloc (h : Fr l ms base a w) (hb : base ≤ w.heap.size) (o : Obj) : Fr l ms base a (w.alloc o) := h.trans (Fr.of_below ((Below.refl _ _).alloc (Nat.le_refl _) _) hb)
theorem Fr.set {i o : Nat} {x : Obj} (h : Fr l ms base a w) (hx : w.heap[i]? = some x) (hk : kd x ∈ l ∨ i ∈ ms) (hb : base ≤ i) (u : Value) : Fr l ms base a (w.setCell ⟨i, o, none⟩ u) :=
  h.trans ⟨(Below.refl _ _).setCell hb _, fun j y hj hy hm => by
    rw [Below.heap_setCell _ _ _ _ ?_]
    · exact hj
    · rintro rfl
      rw [hx] at hj
      cases hj
      exact hk.elim hy hm⟩
theorem Fr.size (h : Fr l ms base w w') : w.heap.size ≤ w'.heap.size := h.below.size
/-- A step that writes one block. -/
theorem Fr.grown {i : Nat} {o : Obj} (h : Fr l ms base a w) (hg : w.grownBy w' (some i)) (ho : w.heap[i]? = some o) (hk : kd o ∈ l ∨ i ∈ ms) (hb : base ≤ i) : Fr l ms base a w' :=
  h.trans ⟨⟨hg.os, hg.tape, hg.output, hg.size, fun k hk => by
    by_cases e : k < w.heap.size
    · exact hg.block k e (fun he => by cases he; omega)
    · have := lt_of_heap ho
      omega⟩, fun j y hj hy hm => by
    rw [hg.block j (lt_of_heap hj) ?_]
    · exact hj
    · intro he
      cases he
      rw [ho] at hj
      cases hj
      exact hk.elim hy hm⟩
end

/-- A lease lies in block b. -/
def LsAt (w : World) (b : Nat) (l : Ls) : Prop := w.heap[b]? = some (.cells #[.int .i64 l.t, .int .i64 l.n] 63 (0, 0))
section
variable {w : World} {b : Nat} {l : Ls}
theorem LsAt.lt (h : LsAt w b l) : b < w.heap.size := lt_of_heap h
theorem LsAt.c0 (h : LsAt w b l) : w.cell? ⟨b, 0, none⟩ = some (.int .i64 l.t) := by simp [World.cell?, show w.heap[b]? = _ from h]
theorem LsAt.c1 (h : LsAt w b l) : w.cell? ⟨b, 1, none⟩ = some (.int .i64 l.n) := by simp [World.cell?, show w.heap[b]? = _ from h]
theorem LsAt.frozen (h : LsAt w b l) (o : Nat) : w.frozen? ⟨b, o, none⟩ = false := by simp [World.frozen?, show w.heap[b]? = _ from h]
theorem LsAt.set1 (h : LsAt w b l) : LsAt (w.setCell ⟨b, 1, none⟩ (.int .i64 (l.n - 1))) b (dec l) := by
  unfold LsAt at h ⊢
  simp [World.setCell, Array.getElem?_modify, h, dec]
theorem LsAt.fr {k ms : List Nat} {base : Nat} {w' : World} (h : LsAt w b l) (hf : Fr k ms base w w') (hk : 63 ∉ k) (hm : b ∉ ms) : LsAt w' b l := hf.keep b _ h hk hm
end

/-- How a lease's address reads. -/
def ptrE (v : Value) : Option (DataW Unit × List MemPlace) :=
  match v with
  | .pointer none => some (.nil, [])
  | .pointer (some ⟨b, 0, none⟩) => some (.lit (.int .i64 (b : Int)), [])
  | _ => none
theorem ptrE_nil : ptrE (.pointer none) = some (.nil, []) := rfl
theorem ptrE_mk (b : Nat) : ptrE (.pointer (some ⟨b, 0, none⟩)) = some (.lit (.int .i64 (b : Int)), []) := rfl
theorem ptrE_inv {v : Value} {d : DataW Unit} {ps : List MemPlace} (h : ptrE v = some (d, ps)) : (v = .pointer none ∧ d = .nil) ∨ ∃ b : Nat, v = .pointer (some ⟨b, 0, none⟩) ∧ d = .lit (.int .i64 (b : Int)) := by
  unfold ptrE at h
  split at h
  · injection h with h
    injection h with h _
    exact .inl ⟨rfl, h.symm⟩
  · rename_i b
    injection h with h
    injection h with h _
    exact .inr ⟨b, rfl, h.symm⟩
  · cases h
theorem law9 : Keyed Try.prog 9 := string_keyed Try.underlying9
theorem zero59 (w : World) : (zeroValue 59).run Try.prog w = .ok (.pointer none) w := by kernel_rfl

/-- A block and the lease that lies in it. -/
abbrev Nd := Nat × Ls
/-- What stands at a key. -/
def look (N : List Nd) (k : ByteArray) (z : DataW Unit) : DataW Unit :=
  match N.find? fun x => decide (x.2.k = k) with
  | some x => .lit (.int .i64 (x.1 : Int))
  | none => z
/-- The address of a key's lease. -/
def ptrOf (N : List Nd) (k : ByteArray) : Option Addr := (N.find? fun x => decide (x.2.k = k)).map fun x => ⟨x.1, 0, none⟩
def kLit (k : ByteArray) : Lit := .string k.data.toList
theorem kLit_inj {a b : ByteArray} (h : kLit a = kLit b) : a = b := by
  unfold kLit at h
  injection h with h
  cases a
  cases b
  simp only at h
  congr
  exact Array.toList_inj.mp h
theorem kLit_key (k : ByteArray) : WideAt.IsKeyLit (kLit k) := trivial
theorem keyOf9 {k : ByteArray} (h : k.size ≤ maxLen) : keyOf Try.prog 9 (.string k) = some (kLit k) := WideMaps.keyOf_string_mk Try.underlying9 h

/-- The datum D is a map from the keys of N to their blocks. -/
structure Reads (D : DataW Unit) (N : List Nd) : Prop where
  at_ : ∀ k z, D.atKey (kLit k) z = look N k z
  sz : Maps.size D = N.length
/-- Block B is a map from the keys of N to their blocks. -/
def MapAt (w : World) (B : Nat) (N : List Nd) : Prop := ∃ D : DataW Unit, w.ownsMap Try.prog 9 ptrE B N.length D ∧ Reads D N
theorem tight {w : World} {B n : Nat} {D : DataW Unit} (h : w.ownsMap Try.prog 9 ptrE B n D) : w.ownsMap Try.prog 9 ptrE B (Maps.size D) D := by
  obtain ⟨es, clock, hb, F, hs, rfl⟩ := h
  exact ⟨es, clock, hb, F, by simp [Maps.size, length_sorted], rfl⟩
theorem MapAt.of {w : World} {B n : Nat} {D : DataW Unit} {N : List Nd} (h : w.ownsMap Try.prog 9 ptrE B n D) (hr : Reads D N) : MapAt w B N := ⟨D, by rw [← hr.sz]; exact tight h, hr⟩
theorem MapAt.isMap {w : World} {B : Nat} {N : List Nd} (h : MapAt w B N) : ∃ es c, w.heap[B]? = some (.map es c) := by
  obtain ⟨D, ⟨es, c, hb, _⟩, _⟩ := h
  exact ⟨es, c, hb⟩
theorem MapAt.keep {w w' : World} {B : Nat} {N : List Nd} (h : MapAt w B N) (hb : w'.heap[B]? = w.heap[B]?) : MapAt w' B N := by
  obtain ⟨D, ⟨es, c, h1, h2⟩, h3⟩ := h
  exact ⟨D, ⟨es, c, hb.trans h1, h2⟩, h3⟩
theorem MapAt.fr {w w' : World} {B : Nat} {N : List Nd} {l ms : List Nat} {base : Nat} (h : MapAt w B N) (hf : Fr l ms base w w') (hl : 1000 ∉ l) (hm : B ∉ ms) : MapAt w' B N := by
  obtain ⟨es, c, hb⟩ := h.isMap
  exact h.keep (by rw [hf.keep B _ hb hl hm, hb])
theorem find_ptr (N : List Nd) (k : ByteArray) {v : Value} {ps : List MemPlace} (h : ptrE v = some (look N k .nil, ps)) : v = .pointer (ptrOf N k) := by
  unfold look at h
  unfold ptrOf
  cases hf : N.find? fun x => decide (x.2.k = k) with
  | none =>
    rw [hf] at h
    rcases ptrE_inv h with ⟨rfl, _⟩ | ⟨b, _, h2⟩
    · rfl
    · cases h2
  | some x =>
    rw [hf] at h
    rcases ptrE_inv h with ⟨_, h2⟩ | ⟨b, rfl, h2⟩
    · cases h2
    · injection h2 with h2
      injection h2 with _ h2
      have : x.1 = b := by omega
      simp [this]
theorem MapAt.find {w : World} {B : Nat} {N : List Nd} (h : MapAt w B N) {k : ByteArray} (hk : k.size ≤ maxLen) : (Instr.lookup 51 (.map (some B)) (.string k) false).run Try.prog w = .ok (.pointer (ptrOf N k)) w := by
  obtain ⟨D, hown, hat⟩ := h
  obtain ⟨v, ps, hr, hv⟩ := hown.lookup law9 Try.underlying51 (zero59 w) ptrE_nil (keyOf9 hk)
  rw [hat.at_] at hv
  rw [hr, find_ptr N k hv]
theorem MapAt.len {w : World} {B : Nat} {N : List Nd} (h : MapAt w B N) (ty : TypeId) : (Builtin.len_ #[51] ty #[.map (some B)]).run Try.prog w = .ok (.int .i64 (N.length : Int)) w := by
  obtain ⟨D, hown, hat⟩ := h
  rw [hown.len Try.underlying51, hat.sz]
theorem look_has {N : List Nd} {D : DataW Unit} (h : Reads D N) {k : ByteArray} : Maps.has D (kLit k) = (N.find? fun x => decide (x.2.k = k)).isSome := by
  cases hf : N.find? fun x => decide (x.2.k = k) with
  | none => exact has_false_of_atKey fun z => by rw [h.at_]; simp [look, hf]
  | some x => exact has_true_of_atKey (y := .lit (.int .i64 (x.1 : Int))) fun z => by rw [h.at_]; simp [look, hf]
theorem find_none {N : List Nd} {k : ByteArray} (h : k ∉ keys (N.map (·.2))) : (N.find? fun x => decide (x.2.k = k)) = none := by
  rw [List.find?_eq_none]
  intro x hx e
  exact h (List.mem_map.mpr ⟨x.2, List.mem_map_of_mem hx, by simpa using e⟩)
/-- Without a key. -/
def ndrp (N : List Nd) (k : ByteArray) : List Nd := N.filter fun x => decide (x.2.k ≠ k)
theorem ndrp_map (N : List Nd) (k : ByteArray) : (ndrp N k).map (·.2) = drp (N.map (·.2)) k := by
  unfold ndrp drp
  rw [List.filter_map]
  rfl
theorem ndrp_sub (N : List Nd) (k : ByteArray) : (ndrp N k).Sublist N := List.filter_sublist
theorem find_ndrp {N : List Nd} {k j : ByteArray} (h : j ≠ k) : ((ndrp N k).find? fun x => decide (x.2.k = j)) = N.find? fun x => decide (x.2.k = j) := by
  unfold ndrp
  rw [List.find?_filter]
  congr
  funext l
  by_cases e : l.2.k = j
  · simp [e, h]
  · simp [e]
theorem find_ndrp_same (N : List Nd) (k : ByteArray) : ((ndrp N k).find? fun x => decide (x.2.k = k)) = none := by
  refine find_none ?_
  rw [ndrp_map]
  exact not_in_drp _ _
theorem ndrp_none {N : List Nd} {k : ByteArray} (h : k ∉ keys (N.map (·.2))) : ndrp N k = N := by
  unfold ndrp
  rw [List.filter_eq_self]
  intro x hx
  simp only [decide_eq_true_eq]
  rintro rfl
  exact h (List.mem_map.mpr ⟨x.2, List.mem_map_of_mem hx, rfl⟩)
/-- A key's place. -/
theorem nd_split {N : List Nd} {k : ByteArray} {x : Nd} (hn : (keys (N.map (·.2))).Nodup) (h : (N.find? fun x => decide (x.2.k = k)) = some x) : ∃ A C, N = A ++ x :: C ∧ ndrp N k = A ++ C ∧ x.2.k = k := by
  have hx := List.mem_of_find?_eq_some h
  have hk : x.2.k = k := by simpa using List.find?_some h
  obtain ⟨A, C, rfl⟩ := List.append_of_mem hx
  subst hk
  have hn' : (keys (A.map (·.2)) ++ x.2.k :: keys (C.map (·.2))).Nodup := by simpa [keys] using hn
  obtain ⟨_, h2, h3⟩ := List.nodup_append.mp hn'
  have hA : x.2.k ∉ keys (A.map (·.2)) := fun hx => h3 _ hx _ (by simp) rfl
  have hC := (List.nodup_cons.mp h2).1
  refine ⟨A, C, rfl, ?_, rfl⟩
  have e : ndrp (A ++ x :: C) x.2.k = ndrp A x.2.k ++ ndrp C x.2.k := by simp [ndrp]
  rw [e, ndrp_none hA, ndrp_none hC]
/-- A datum without a key. -/
theorem Reads.del {w : World} {B n : Nat} {D : DataW Unit} {N : List Nd} (h : Reads D N) (hown : w.ownsMap Try.prog 9 ptrE B n D) (hn : (keys (N.map (·.2))).Nodup) (k : ByteArray) : Reads (D.del (kLit k)) (ndrp N k) := by
  refine ⟨fun j z => ?_, ?_⟩
  · by_cases e : j = k
    · subst e
      rw [atKey_del_same]
      simp [look, find_ndrp_same]
    · rw [atKey_del_other (fun h => e (kLit_inj h)), h.at_]
      simp [look, find_ndrp e]
  · have := size_del (k := kLit k) (hown.tidy law9)
    rw [look_has h, h.sz] at this
    cases hf : N.find? fun x => decide (x.2.k = k) with
    | none =>
      rw [hf] at this
      have e : ndrp N k = N := by
        refine ndrp_none fun hk => ?_
        obtain ⟨l, hl, rfl⟩ := List.mem_map.mp hk
        obtain ⟨x, hx, rfl⟩ := List.mem_map.mp hl
        simpa using List.find?_eq_none.mp hf x hx
      rw [e]
      simp at this
      omega
    | some x =>
      rw [hf] at this
      obtain ⟨A, C, rfl, e, _⟩ := nd_split hn hf
      rw [e]
      simp at this ⊢
      omega
theorem MapAt.put {w : World} {B : Nat} {N : List Nd} (h : MapAt w B N) {l : Ls} (b : Nat) (hk : l.k.size ≤ maxLen) (hn : l.k ∉ keys (N.map (·.2))) (hl : N.length < maxLen) :
    ∃ w', (Instr.mapUpdate 51 (.map (some B)) (.string l.k) (.pointer (some ⟨b, 0, none⟩))).run Try.prog w = .ok () w' ∧ MapAt w' B (N ++ [(b, l)]) ∧ w.grownBy w' (some B) := by
  obtain ⟨D, hown, hat⟩ := h
  obtain ⟨w', hr, ho, hg⟩ := hown.update law9 Try.underlying51 hl (keyOf9 hk) (ptrE_mk b)
  refine ⟨w', hr, MapAt.of ho ⟨fun k z => ?_, ?_⟩, hg⟩
  · by_cases e : k = l.k
    · subst e
      rw [atKey_put_same hown.isMap (kLit_key _)]
      simp [look, List.find?_append, find_none hn]
    · rw [atKey_put_other (fun h => e (kLit_inj h)), hat.at_]
      have : ¬ l.k = k := fun h => e h.symm
      simp [look, List.find?_append, this]
  · rw [size_put (hown.tidy law9), look_has hat, find_none hn, hat.sz]
    simp
theorem MapAt.del {w : World} {B : Nat} {N : List Nd} (h : MapAt w B N) {k : ByteArray} (hk : k.size ≤ maxLen) (hn : (keys (N.map (·.2))).Nodup) (ty : TypeId) :
    ∃ w', (Builtin.delete_ #[51, 9] ty #[.map (some B), .string k]).run Try.prog w = .ok (.tuple #[]) w' ∧ MapAt w' B (ndrp N k) ∧ w.grownBy w' (some B) := by
  obtain ⟨D, hown, hat⟩ := h
  obtain ⟨w', hr, ho, ht⟩ := hown.drop law9 Try.underlying51 (keyOf9 hk) ty
  exact ⟨w', hr, MapAt.of ho (hat.del hown hn k), ht.grown⟩
end Go.Proofs.Ytfiohhgmlelnkaa
