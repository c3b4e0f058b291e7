/-
  A map from keys to links, in memory, and a cache's parts. The contracts of find, add, remove, use. Their conditions: the cache lies in memory, and has no more things than a bound.
-/
import Derived.Test.YtmhpngfkipooiaaW1
namespace Go.Proofs.Ytmhpngfkipooiaa
open Go.RowKit Go.Maps

/-- How a link's address reads. -/
def ptrE (v : Value) : Option (DataW Unit × List MemPlace) :=
  match v with
  | .pointer none => some (.nil, [])
  | .pointer (some ⟨b, 0, none⟩) => some (.lit (.int .i64 (b : Int)), [])
  | _ => none
theorem ptrE_nil : ptrE (.pointer none) = some (.nil, []) := rfl
theorem ptrE_mk (b : Nat) : ptrE (.pointer (some ⟨b, 0, none⟩)) = some (.lit (.int .i64 (b : Int)), []) := rfl
theorem ptrE_inv {v : Value} {d : DataW Unit} {ps : List MemPlace} (h : ptrE v = some (d, ps)) : (v = .pointer none ∧ d = .nil) ∨ ∃ b : Nat, v = .pointer (some ⟨b, 0, none⟩) ∧ d = .lit (.int .i64 (b : Int)) := by
  unfold ptrE at h
  split at h
  · injection h with h
    injection h with h _
    exact .inl ⟨rfl, h.symm⟩
  · rename_i b
    injection h with h
    injection h with h _
    exact .inr ⟨b, rfl, h.symm⟩
  · cases h
theorem law9 : Keyed Try.prog 9 := string_keyed Try.underlying9
theorem zero55 (w : World) : (zeroValue 55).run Try.prog w = .ok (.pointer none) w := by kernel_rfl

/-- What stands at a key. -/
def look (N : List Nd) (k : ByteArray) (z : DataW Unit) : DataW Unit :=
  match N.find? fun x => decide (x.2.k = k) with
  | some x => .lit (.int .i64 (x.1 : Int))
  | none => z
/-- The address of a key's link. -/
def ptrOf (N : List Nd) (k : ByteArray) : Option Addr := (N.find? fun x => decide (x.2.k = k)).map fun x => ⟨x.1, 0, none⟩
def kLit (k : ByteArray) : Lit := .string k.data.toList
theorem kLit_inj {a b : ByteArray} (h : kLit a = kLit b) : a = b := by
  unfold kLit at h
  injection h with h
  cases a
  cases b
  simp only at h
  congr
  exact Array.toList_inj.mp h
theorem kLit_key (k : ByteArray) : WideAt.IsKeyLit (kLit k) := trivial
theorem keyOf9 {k : ByteArray} (h : k.size ≤ maxLen) : keyOf Try.prog 9 (.string k) = some (kLit k) := WideMaps.keyOf_string_mk Try.underlying9 h

/-- Block B is a map from the keys of N to their blocks. -/
def MapAt (w : World) (B : Nat) (N : List Nd) : Prop :=
  ∃ D : DataW Unit, w.ownsMap Try.prog 9 ptrE B N.length D ∧ (∀ k z, D.atKey (kLit k) z = look N k z) ∧ Maps.size D = N.length
theorem tight {w : World} {B n : Nat} {D : DataW Unit} (h : w.ownsMap Try.prog 9 ptrE B n D) : w.ownsMap Try.prog 9 ptrE B (Maps.size D) D := by
  obtain ⟨es, clock, hb, F, hs, rfl⟩ := h
  exact ⟨es, clock, hb, F, by simp [Maps.size, length_sorted], rfl⟩
theorem MapAt.isMap {w : World} {B : Nat} {N : List Nd} (h : MapAt w B N) : ∃ es c, w.heap[B]? = some (.map es c) := by
  obtain ⟨D, ⟨es, c, hb, _⟩, _⟩ := h
  exact ⟨es, c, hb⟩
theorem MapAt.keep {w w' : World} {B : Nat} {N : List Nd} (h : MapAt w B N) (hb : w'.heap[B]? = w.heap[B]?) : MapAt w' B N := by
  obtain ⟨D, ⟨es, c, h1, h2⟩, h3⟩ := h
  exact ⟨D, ⟨es, c, hb.trans h1, h2⟩, h3⟩
theorem MapAt.fr {w w' : World} {B : Nat} {N : List Nd} {l : List Nat} {base : Nat} (h : MapAt w B N) (hf : Fr l base w w') (hl : 1000 ∉ l) : MapAt w' B N := by
  obtain ⟨es, c, hb⟩ := h.isMap
  exact h.keep (by rw [hf.keep B _ hb hl, hb])
theorem find_ptr (N : List Nd) (k : ByteArray) {v : Value} {ps : List MemPlace} (h : ptrE v = some (look N k .nil, ps)) : v = .pointer (ptrOf N k) := by
  unfold look at h
  unfold ptrOf
  cases hf : N.find? fun x => decide (x.2.k = k) with
  | none =>
    rw [hf] at h
    rcases ptrE_inv h with ⟨rfl, _⟩ | ⟨b, _, h2⟩
    · rfl
    · cases h2
  | some x =>
    rw [hf] at h
    rcases ptrE_inv h with ⟨_, h2⟩ | ⟨b, rfl, h2⟩
    · cases h2
    · injection h2 with h2
      injection h2 with _ h2
      have : x.1 = b := by omega
      simp [this]
theorem MapAt.find {w : World} {B : Nat} {N : List Nd} (h : MapAt w B N) {k : ByteArray} (hk : k.size ≤ maxLen) : (Instr.lookup 56 (.map (some B)) (.string k) false).run Try.prog w = .ok (.pointer (ptrOf N k)) w := by
  obtain ⟨D, hown, hat, _⟩ := h
  obtain ⟨v, ps, hr, hv⟩ := hown.lookup law9 Try.underlying56 (zero55 w) ptrE_nil (keyOf9 hk)
  rw [hat] at hv
  rw [hr, find_ptr N k hv]
theorem look_has {N : List Nd} {D : DataW Unit} (hat : ∀ k z, D.atKey (kLit k) z = look N k z) {k : ByteArray} : Maps.has D (kLit k) = (N.find? fun x => decide (x.2.k = k)).isSome := by
  cases hf : N.find? fun x => decide (x.2.k = k) with
  | none => exact has_false_of_atKey fun z => by rw [hat]; simp [look, hf]
  | some x => exact has_true_of_atKey (y := .lit (.int .i64 (x.1 : Int))) fun z => by rw [hat]; simp [look, hf]
theorem find_none {N : List Nd} {k : ByteArray} (h : k ∉ keys (N.map (·.2))) : (N.find? fun x => decide (x.2.k = k)) = none := by
  rw [List.find?_eq_none]
  intro x hx e
  exact h (List.mem_map.mpr ⟨x.2, List.mem_map_of_mem hx, by simpa using e⟩)
theorem find_some {A C : List Nd} {x : Nd} (h : (keys ((A ++ x :: C).map (·.2))).Nodup) : ((A ++ x :: C).find? fun y => decide (y.2.k = x.2.k)) = some x := by
  rw [List.find?_append, find_none (N := A)]
  · simp
  · have hn : (keys (A.map (·.2)) ++ x.2.k :: keys (C.map (·.2))).Nodup := by simpa [keys] using h
    obtain ⟨_, _, h3⟩ := List.nodup_append.mp hn
    exact fun hx => h3 _ hx _ (by simp) rfl
theorem MapAt.put {w : World} {B : Nat} {N : List Nd} (h : MapAt w B N) {t : Th} (b : Nat) (hk : t.k.size ≤ maxLen) (hn : t.k ∉ keys (N.map (·.2))) (hl : N.length ≤ 100000) :
    ∃ w', (Instr.mapUpdate 56 (.map (some B)) (.string t.k) (.pointer (some ⟨b, 0, none⟩))).run Try.prog w = .ok () w' ∧ MapAt w' B ((b, t) :: N) ∧ w.grownBy w' (some B) := by
  obtain ⟨D, hown, hat, hsz⟩ := h
  obtain ⟨w', hr, ho, hg⟩ := hown.update law9 Try.underlying56 (by unfold maxLen; omega) (keyOf9 hk) (ptrE_mk b)
  refine ⟨w', hr, ⟨_, ho, fun k z => ?_, ?_⟩, hg⟩
  · by_cases e : k = t.k
    · subst e
      rw [atKey_put_same hown.isMap (kLit_key _)]
      simp [look]
    · rw [atKey_put_other (fun h => e (kLit_inj h)), hat]
      have : ¬ t.k = k := fun h => e h.symm
      simp [look, this]
  · rw [size_put (hown.tidy law9), look_has hat, find_none hn, hsz]
    simp
theorem MapAt.del {w : World} {B : Nat} {A C : List Nd} {x : Nd} (h : MapAt w B (A ++ x :: C)) (hk : x.2.k.size ≤ maxLen) (hn : (keys ((A ++ x :: C).map (·.2))).Nodup) (ty : TypeId) :
    ∃ w', (Builtin.delete_ #[56, 9] ty #[.map (some B), .string x.2.k]).run Try.prog w = .ok (.tuple #[]) w' ∧ MapAt w' B (A ++ C) ∧ w.grownBy w' (some B) := by
  obtain ⟨D, hown, hat, hsz⟩ := h
  obtain ⟨w', hr, ho, ht⟩ := hown.drop law9 Try.underlying56 (keyOf9 hk) ty
  have hs2 : Maps.size (D.del (kLit x.2.k)) = (A ++ C).length := by
    have := size_del (k := kLit x.2.k) (hown.tidy law9)
    rw [look_has hat, find_some hn, hsz] at this
    simp at this ⊢
    omega
  have hn' : (keys (A.map (·.2)) ++ x.2.k :: keys (C.map (·.2))).Nodup := by simpa [keys] using hn
  obtain ⟨_, h2, h3⟩ := List.nodup_append.mp hn'
  have hA : x.2.k ∉ keys (A.map (·.2)) := fun hx => h3 _ hx _ (by simp) rfl
  have hC := (List.nodup_cons.mp h2).1
  refine ⟨w', hr, ⟨_, by rw [← hs2]; exact tight ho, fun k z => ?_, hs2⟩, ht.grown⟩
  by_cases e : k = x.2.k
  · subst e
    rw [atKey_del_same]
    simp [look, find_none hA, find_none hC, List.find?_append]
  · rw [atKey_del_other (fun h => e (kLit_inj h)), hat]
    have : ¬ x.2.k = k := fun h => e h.symm
    simp [look, List.find?_append, this]

/-- A cache's own block. -/
def Box (w : World) (g e B : Nat) (sz room kept : Int) : Prop := w.heap[g]? = some (.cells #[.pointer (some ⟨e, 0, none⟩), .map (some B), .int .i64 sz, .int .i64 room, .int .i64 kept] 61 (0, 0))
section
variable {w : World} {g e B : Nat} {sz room kept : Int}
theorem Box.lt (h : Box w g e B sz room kept) : g < w.heap.size := (Array.getElem?_eq_some_iff.mp h).1
theorem Box.c0 (h : Box w g e B sz room kept) : w.cell? ⟨g, 0, none⟩ = some (.pointer (some ⟨e, 0, none⟩)) := by simp [World.cell?, show w.heap[g]? = _ from h]
theorem Box.c1 (h : Box w g e B sz room kept) : w.cell? ⟨g, 1, none⟩ = some (.map (some B)) := by simp [World.cell?, show w.heap[g]? = _ from h]
theorem Box.c2 (h : Box w g e B sz room kept) : w.cell? ⟨g, 2, none⟩ = some (.int .i64 sz) := by simp [World.cell?, show w.heap[g]? = _ from h]
theorem Box.c3 (h : Box w g e B sz room kept) : w.cell? ⟨g, 3, none⟩ = some (.int .i64 room) := by simp [World.cell?, show w.heap[g]? = _ from h]
theorem Box.c4 (h : Box w g e B sz room kept) : w.cell? ⟨g, 4, none⟩ = some (.int .i64 kept) := by simp [World.cell?, show w.heap[g]? = _ from h]
theorem Box.frozen (h : Box w g e B sz room kept) (o : Nat) : w.frozen? ⟨g, o, none⟩ = false := by simp [World.frozen?, show w.heap[g]? = _ from h]
theorem Box.set2 (h : Box w g e B sz room kept) (x : Int) : Box (w.setCell ⟨g, 2, none⟩ (.int .i64 x)) g e B x room kept := by
  unfold Box at h ⊢
  simp [World.setCell, Array.getElem?_modify, h]
theorem Box.set4 (h : Box w g e B sz room kept) (x : Int) : Box (w.setCell ⟨g, 4, none⟩ (.int .i64 x)) g e B sz room x := by
  unfold Box at h ⊢
  simp [World.setCell, Array.getElem?_modify, h]
theorem Box.fr {l : List Nat} {base : Nat} {w' : World} (h : Box w g e B sz room kept) (hf : Fr l base w w') (hl : 61 ∉ l) : Box w' g e B sz room kept := hf.keep g _ h hl
end

/-- The kinds of a cache's blocks. -/
def cK : List Nat := [61, 66, 1000]
/-- A cache's parts: its box, its links, its map. -/
structure Core (w : World) (base g e B : Nat) (N : List Nd) (nw ol : Nat → Nat) (sz room kept : Int) : Prop where
  box : Box w g e B sz room kept
  ln : Links w ((e, th0) :: N) nw ol
  fr : From base ((e, th0) :: N)
  sg : seg ol nw e (N.map (·.1)) e
  nd : (e :: N.map (·.1)).Nodup
  mp : MapAt w B N
  bg : base ≤ g
  bB : base ≤ B
  ks : ∀ x ∈ N, x.2.k.size ≤ maxLen
  kn : (keys (N.map (·.2))).Nodup
theorem Core.keep {w w' : World} {base g e B : Nat} {N : List Nd} {nw ol : Nat → Nat} {sz room kept : Int} (h : Core w base g e B N nw ol sz room kept) {l : List Nat} {base' : Nat} (hf : Fr l base' w w') (hl : ∀ x ∈ cK, x ∉ l) : Core w' base g e B N nw ol sz room kept :=
  ⟨h.box.fr hf (hl _ (by simp [cK])), h.ln.fr hf (hl _ (by simp [cK])), h.fr, h.sg, h.nd, h.mp.fr hf (hl _ (by simp [cK])), h.bg, h.bB, h.ks, h.kn⟩
theorem Fr.grown {l : List Nat} {base : Nat} {a w w' : World} (h : Fr l base a w) {B : Nat} {o : Obj} (hg : w.grownBy w' (some B)) (ho : w.heap[B]? = some o) (hk : kd o ∈ l) (hb : base ≤ B) : Fr l base a w' :=
  h.trans ⟨⟨hg.os, hg.tape, hg.output, hg.size, fun k hk => by
    by_cases e : k < w.heap.size
    · exact hg.block k e (fun he => by cases he; omega)
    · have := (Array.getElem?_eq_some_iff.mp ho).1
      omega⟩, fun i y hi hy => by
    rw [hg.block i (Array.getElem?_eq_some_iff.mp hi).1 ?_]
    · exact hi
    · intro he
      cases he
      rw [ho] at hi
      cases hi
      exact hy hk⟩
theorem grown_box {w w' : World} {B g : Nat} {o : Obj} {N : List Nd} (hg : w.grownBy w' (some B)) (hm : MapAt w B N) (ho : w.heap[g]? = some o) (hk : kd o ≠ 1000) : w'.heap[g]? = w.heap[g]? := by
  refine hg.block g (Array.getElem?_eq_some_iff.mp ho).1 ?_
  intro he
  cases he
  obtain ⟨es, c, hb⟩ := hm.isMap
  rw [hb] at ho
  cases ho
  exact hk rfl

set_option maxHeartbeats 1000000 in
theorem find_any (g e B : Nat) (N : List Nd) (sz room kept : Int) (k : ByteArray) (w : World) (hb : Box w g e B sz room kept) (hm : MapAt w B N) (hk : k.size ≤ maxLen) :
    Calls Try.prog 33 #[.pointer (some ⟨g, 0, none⟩), .string k] w fun x w' => x = .returned (.pointer (ptrOf N k)) ∧ w = w' := by
  have c1 := hb.c1
  have hr := hm.find hk
  clear hb hm hk
  go_enter Try.func33, Try.ntmps33
  go_wp2
  go_ret
  exact ⟨rfl, rfl⟩
theorem find_nil (k : ByteArray) (w : World) : Calls Try.prog 33 #[.pointer none, .string k] w fun x w' => x = .returned (.pointer none) ∧ w = w' := by
  go_enter Try.func33, Try.ntmps33
  go_wp2
  go_ret
  exact ⟨rfl, rfl⟩
end Go.Proofs.Ytmhpngfkipooiaa
