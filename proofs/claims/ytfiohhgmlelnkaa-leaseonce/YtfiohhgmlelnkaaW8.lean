/-
  Words for memory: keys and a script that came in. Their conditions: none.
-/
import Derived.Test.YtfiohhgmlelnkaaW6
namespace Go.Proofs.Ytfiohhgmlelnkaa
open Go.RowKit Go.Maps

/-- A slice (its address A) that reads as the texts l. -/
def Strs (w : World) (A : Option Addr) (l : List ByteArray) : Prop :=
  l.length ≤ maxLen ∧ (0 < l.length → ∃ b off, A = some ⟨b, off, none⟩ ∧ b < w.heap.size ∧ ∀ (k : Nat) (s : ByteArray), l[k]? = some s → w.cell? ⟨b, off + k, none⟩ = some (.string s))
theorem Strs.below {w w' : World} {A : Option Addr} {l : List ByteArray} {B : Nat} (h : Strs w A l) (hB : w.heap.size ≤ B) (hb : Below B w w') : Strs w' A l := by
  obtain ⟨h1, h3⟩ := h
  refine ⟨h1, fun hl => ?_⟩
  obtain ⟨b, off, hA, hlt, hc⟩ := h3 hl
  exact ⟨b, off, hA, Nat.lt_of_lt_of_le hlt hb.size, fun k s hk => by rw [hb.cell (p := ⟨b, _, none⟩) (Nat.lt_of_lt_of_le hlt hB)]; exact hc k s hk⟩
theorem Strs.at_ {w : World} {A : Option Addr} {l : List ByteArray} (h : Strs w A l) {k : Nat} (hk : k < l.length) : ∃ b off, A = some ⟨b, off, none⟩ ∧ b < w.heap.size ∧ w.cell? ⟨b, off + k, none⟩ = some (.string l[k]) := by
  obtain ⟨b, off, hA, hlt, hc⟩ := h.2 (by omega)
  exact ⟨b, off, hA, hlt, hc k _ (List.getElem?_eq_getElem hk)⟩
/-- A slice that reads as keys. -/
def Kys (w : World) (A : Option Addr) (l : List ByteArray) : Prop := Strs w A l ∧ ∀ s ∈ l, s.size ≤ maxLen

/-- One step of a script. -/
structure Step where
  K : Int
  key : ByteArray
  T : Int
/-- A slice (its address A) that reads as the steps l. -/
def Scr (w : World) (A : Option Addr) (l : List Step) : Prop :=
  l.length ≤ maxLen ∧ (∀ x ∈ l, x.key.size ≤ maxLen) ∧ (0 < l.length → ∃ b off, A = some ⟨b, off, none⟩ ∧ b < w.heap.size ∧ ∀ (k : Nat) (x : Step), l[k]? = some x →
    w.cell? ⟨b, off + k * 3, none⟩ = some (.int .i64 x.K) ∧ w.cell? ⟨b, off + k * 3 + 1, none⟩ = some (.string x.key) ∧ w.cell? ⟨b, off + k * 3 + 2, none⟩ = some (.int .i64 x.T))
theorem Scr.below {w w' : World} {A : Option Addr} {l : List Step} {B : Nat} (h : Scr w A l) (hB : w.heap.size ≤ B) (hb : Below B w w') : Scr w' A l := by
  obtain ⟨h1, h2, h3⟩ := h
  refine ⟨h1, h2, fun hl => ?_⟩
  obtain ⟨b, off, hA, hlt, hc⟩ := h3 hl
  have e : ∀ o, w'.cell? ⟨b, o, none⟩ = w.cell? ⟨b, o, none⟩ := fun o => hb.cell (p := ⟨b, o, none⟩) (Nat.lt_of_lt_of_le hlt hB)
  exact ⟨b, off, hA, Nat.lt_of_lt_of_le hlt hb.size, fun k x hk => by rw [e, e, e]; exact hc k x hk⟩
theorem Scr.at_ {w : World} {A : Option Addr} {l : List Step} (h : Scr w A l) {k : Nat} (hk : k < l.length) : ∃ b off, A = some ⟨b, off, none⟩ ∧ b < w.heap.size ∧
    w.cell? ⟨b, off + k * 3, none⟩ = some (.int .i64 l[k].K) ∧ w.cell? ⟨b, off + k * 3 + 1, none⟩ = some (.string l[k].key) ∧ w.cell? ⟨b, off + k * 3 + 2, none⟩ = some (.int .i64 l[k].T) := by
  obtain ⟨b, off, hA, hlt, hc⟩ := h.2.2 (by omega)
  exact ⟨b, off, hA, hlt, hc k _ (List.getElem?_eq_getElem hk)⟩
def oStep (x : Step) : Obj := .cells #[.int .i64 x.K, .string x.key, .int .i64 x.T] 31 (0, 0)
theorem step_cells {W : World} {q : Nat} {x : Step} (h : W.heap[q]? = some (oStep x)) : W.cell? ⟨q, 0, none⟩ = some (.int .i64 x.K) ∧ W.cell? ⟨q, 1, none⟩ = some (.string x.key) ∧ W.cell? ⟨q, 2, none⟩ = some (.int .i64 x.T) := by
  unfold oStep at h
  refine ⟨?_, ?_, ?_⟩ <;> simp [World.cell?, h]
theorem oStep_kind (x : Step) : kd (oStep x) = 31 := rfl
end Go.Proofs.Ytfiohhgmlelnkaa
