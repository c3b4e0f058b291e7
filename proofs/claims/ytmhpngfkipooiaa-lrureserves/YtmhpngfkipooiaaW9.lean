/-
  Words for memory: things and keys that came in. Their conditions: none.
-/
import Derived.Test.YtmhpngfkipooiaaW8
namespace Go.Proofs.Ytmhpngfkipooiaa
open Go.RowKit Go.Maps

/-- A thing as it comes in: its key, its size, whether it is got. -/
structure Tk where
  key : ByteArray
  S : Int
  got : Bool
/-- A slice (its address A) that reads as the things l. -/
def Ths (w : World) (A : Option Addr) (l : List Tk) : Prop :=
  l.length ≤ maxLen ∧ (∀ x ∈ l, x.key.size ≤ maxLen) ∧ (0 < l.length → ∃ b off, A = some ⟨b, off, none⟩ ∧ b < w.heap.size ∧ ∀ (k : Nat) (x : Tk), l[k]? = some x →
    w.cell? ⟨b, off + k * 3, none⟩ = some (.string x.key) ∧ w.cell? ⟨b, off + k * 3 + 1, none⟩ = some (.int .i64 x.S) ∧ w.cell? ⟨b, off + k * 3 + 2, none⟩ = some (.bool x.got))
theorem Ths.below {w w' : World} {A : Option Addr} {l : List Tk} {B : Nat} (h : Ths w A l) (hB : w.heap.size ≤ B) (hb : Below B w w') : Ths w' A l := by
  obtain ⟨h1, h2, h3⟩ := h
  refine ⟨h1, h2, fun hl => ?_⟩
  obtain ⟨b, off, hA, hlt, hc⟩ := h3 hl
  have e : ∀ o, w'.cell? ⟨b, o, none⟩ = w.cell? ⟨b, o, none⟩ := fun o => hb.cell (p := ⟨b, o, none⟩) (Nat.lt_of_lt_of_le hlt hB)
  exact ⟨b, off, hA, Nat.lt_of_lt_of_le hlt hb.size, fun k x hk => by rw [e, e, e]; exact hc k x hk⟩
theorem Ths.at_ {w : World} {A : Option Addr} {l : List Tk} (h : Ths w A l) {k : Nat} (hk : k < l.length) : ∃ b off, A = some ⟨b, off, none⟩ ∧ b < w.heap.size ∧
    w.cell? ⟨b, off + k * 3, none⟩ = some (.string l[k].key) ∧ w.cell? ⟨b, off + k * 3 + 1, none⟩ = some (.int .i64 l[k].S) ∧ w.cell? ⟨b, off + k * 3 + 2, none⟩ = some (.bool l[k].got) := by
  obtain ⟨b, off, hA, hlt, hc⟩ := h.2.2 (by omega)
  exact ⟨b, off, hA, hlt, hc k _ (List.getElem?_eq_getElem hk)⟩
/-- A slice that reads as keys. -/
def Kys (w : World) (A : Option Addr) (l : List ByteArray) : Prop := Strs w A l ∧ ∀ s ∈ l, s.size ≤ maxLen
end Go.Proofs.Ytmhpngfkipooiaa
