/-
  What PackReads is asked, and its two readers side by side. Its conditions: none.
-/
import Derived.Test.YthcmijppemochaaW26
import Derived.Test.YthcmijppemochaaW10
namespace Go.Proofs.Ythcmijppemochaa
open Go.RowKit

/-- What is asked: a kind, a bound. -/
structure Aq where
  K : Int
  M : Int
def AqAt (w : World) (b o : Nat) (x : Aq) : Prop := w.cell? ⟨b, o, none⟩ = some (.int .i64 x.K) ∧ w.cell? ⟨b, o + 1, none⟩ = some (.int .i64 x.M)
def Asks (w : World) (A : Option Addr) (l : List Aq) : Prop :=
  l.length ≤ maxLen ∧ (0 < l.length → ∃ b off, A = some ⟨b, off, none⟩ ∧ b < w.heap.size ∧ ∀ (k : Nat) (x : Aq), l[k]? = some x → AqAt w b (off + k * 2) x)
theorem Asks.below {w w' : World} {A : Option Addr} {l : List Aq} (h : Asks w A l) (hb : Below w.heap.size w w') : Asks w' A l := by
  obtain ⟨h1, h3⟩ := h
  refine ⟨h1, fun hl => ?_⟩
  obtain ⟨b, off, hA, hlt, hc⟩ := h3 hl
  refine ⟨b, off, hA, Nat.lt_of_lt_of_le hlt hb.size, fun k x hk => ?_⟩
  obtain ⟨e1, e2⟩ := hc k x hk
  exact ⟨by rw [hb.cell (p := ⟨b, _, none⟩) hlt]; exact e1, by rw [hb.cell (p := ⟨b, _, none⟩) hlt]; exact e2⟩
theorem Asks.at_ {w : World} {A : Option Addr} {l : List Aq} (h : Asks w A l) {k : Nat} (hk : k < l.length) : ∃ b off, A = some ⟨b, off, none⟩ ∧ b < w.heap.size ∧ AqAt w b (off + k * 2) l[k] := by
  obtain ⟨b, off, hA, hlt, hc⟩ := h.2 (by omega)
  exact ⟨b, off, hA, hlt, hc k _ (List.getElem?_eq_getElem hk)⟩

/-- The row that is handed to Read, and changed behind it. -/
def InRow (w : World) (B g : Nat) (A : Option Addr) (n : Nat) : Prop :=
  0 < n → ∃ q, A = some ⟨q, 0, none⟩ ∧ B ≤ q ∧ q < g ∧ ∃ cur, w.heap[q]? = some (.cells cur 5 (0, 0)) ∧ ∀ i, i < n → ∃ x : Nat, x < 256 ∧ cur[i]? = some (.int .u8 (x : Int))
theorem InRow.only {S : Nat → Prop} {w w' : World} {B g : Nat} {A : Option Addr} {n : Nat} (h : InRow w B g A n) (ho : Only S w w') (hS : ∀ k, S k → g ≤ k) : InRow w' B g A n := by
  intro hn
  obtain ⟨q, h1, h2, h3, cur, h4, h5⟩ := h hn
  refine ⟨q, h1, h2, h3, cur, ?_, h5⟩
  rw [ho.block q (Array.getElem?_eq_some_iff.mp h4).1 (fun hs => by have := hS q hs; omega)]
  exact h4
theorem InRow.at_ {w : World} {B g : Nat} {A : Option Addr} {n k : Nat} (h : InRow w B g A n) (hk : k < n) : ∃ q x, A = some ⟨q, 0, none⟩ ∧ B ≤ q ∧ q < g ∧ x < 256 ∧ w.cell? ⟨q, k, none⟩ = some (.int .u8 ((x : Nat) : Int)) ∧ w.frozen? ⟨q, k, none⟩ = false := by
  obtain ⟨q, h1, h2, h3, cur, h4, h5⟩ := h (by omega)
  obtain ⟨x, hx, hc⟩ := h5 k hk
  exact ⟨q, x, h1, h2, h3, hx, by simp [World.cell?, h4, hc], by simp [World.frozen?, h4]⟩
theorem InRow.set {w : World} {B g : Nat} {q n k : Nat} (h : InRow w B g (some ⟨q, 0, none⟩) n) (y : Nat) (hy : y < 256) : InRow (w.setCell ⟨q, k, none⟩ (.int .u8 (y : Int))) B g (some ⟨q, 0, none⟩) n := by
  intro hn
  obtain ⟨q', h1, h2, h3, cur, h4, h5⟩ := h hn
  injection h1 with h1
  injection h1 with h1 _
  subst h1
  refine ⟨q, rfl, h2, h3, cur.setIfInBounds k (.int .u8 (y : Int)), by simp [World.setCell, Array.getElem?_modify, h4], fun i hi => ?_⟩
  obtain ⟨x, hx, hc⟩ := h5 i hi
  rw [Array.getElem?_setIfInBounds]
  by_cases hik : k = i
  · subst hik
    have : k < cur.size := (Array.getElem?_eq_some_iff.mp hc).1
    refine ⟨y, hy, ?_⟩
    simp [this]
  · refine ⟨x, hx, ?_⟩
    rw [if_neg hik]
    exact hc

/-- Both readers, what is left for each, and the row. -/
def St (w1 : World) (g r h : Nat) (A Ai : Option Addr) (c : Nat) (b : List Nat) (s t : Option (List Nat)) (w : World) : Prop :=
  RS w g r s ∧ RR w h A c b t ∧ InRow w w1.heap.size g Ai b.length ∧ Below w1.heap.size w1 w ∧ g ≤ r ∧ r < h ∧ g < h ∧ w1.heap.size ≤ g
theorem St.alloc {w1 : World} {g r h : Nat} {A Ai : Option Addr} {c : Nat} {b : List Nat} {s t : Option (List Nat)} {w : World} (st : St w1 g r h A Ai c b s t w) (o : Obj) : St w1 g r h A Ai c b s t (w.alloc o) := by
  obtain ⟨h1, h2, h3, h4, h5⟩ := st
  have hb : Below w.heap.size w (w.alloc o) := (Below.refl _ _).alloc (Nat.le_refl _) _
  exact ⟨h1.below hb, h2.below hb, h3.only (S := fun _ => False) (Only.of_below hb) (fun _ h => h.elim), h4.trans (hb.mono h4.size), h5⟩
theorem St.drew {w1 : World} {g r h : Nat} {A Ai : Option Addr} {c : Nat} {b : List Nat} {s t : Option (List Nat)} {w : World} (st : St w1 g r h A Ai c b s t w) : St w1 g r h A Ai c b s t w.drew := by
  obtain ⟨h1, h2, h3, h4, h5⟩ := st
  have hb : Below w.heap.size w w.drew := (Below.refl _ _).drew
  exact ⟨h1.below hb, h2.below hb, h3.only (S := fun _ => False) (Only.of_below hb) (fun _ h => h.elim), h4.drew, h5⟩
theorem St.later {w1 : World} {g r h : Nat} {A Ai : Option Addr} {c : Nat} {b : List Nat} {s t : Option (List Nat)} {w w' : World} (st : St w1 g r h A Ai c b s t w) (hb : Below w.heap.size w w') : St w1 g r h A Ai c b s t w' := by
  obtain ⟨h1, h2, h3, h4, h5⟩ := st
  exact ⟨h1.below hb, h2.below hb, h3.only (S := fun _ => False) (Only.of_below hb) (fun _ h => h.elim), h4.trans (hb.mono h4.size), h5⟩
theorem St.inc {w1 : World} {g r h : Nat} {A : Option Addr} {c q k : Nat} {b : List Nat} {s t : Option (List Nat)} {w : World} (st : St w1 g r h A (some ⟨q, 0, none⟩) c b s t w) (hk : k < b.length) (y : Nat) (hy : y < 256) : St w1 g r h A (some ⟨q, 0, none⟩) c b s t (w.setCell ⟨q, k, none⟩ (.int .u8 (y : Int))) := by
  obtain ⟨h1, h2, h3, h4, h5, h6, h7, h8⟩ := st
  obtain ⟨q', e1, e2, e3, _⟩ := h3 (by omega)
  injection e1 with e1
  injection e1 with e1 _
  subst e1
  have ho : Only (fun k => k = q) w (w.setCell ⟨q, k, none⟩ (.int .u8 (y : Int))) := (Only.refl (fun k => k = q) w).setCell (p := ⟨q, k, none⟩) (.inr rfl) _
  exact ⟨h1.only ho (by omega) (by omega), h2.only ho (by omega), h3.set y hy, h4.setCell e2 _, h5, h6, h7, h8⟩
theorem St.read {w1 : World} {g r h : Nat} {A Ai : Option Addr} {c : Nat} {b : List Nat} {s s' t : Option (List Nat)} {w w' : World} (st : St w1 g r h A Ai c b s t w) (ho : Only (fun k => k = g) w w') (hs : RS w' g r s') : St w1 g r h A Ai c b s' t w' := by
  obtain ⟨h1, h2, h3, h4, h5, h6, h7, h8⟩ := st
  exact ⟨hs, h2.only ho (by omega), h3.only ho (fun k hk => by omega), h4.trans (ho.below h4.size (fun k _ hk => by omega)), h5, h6, h7, h8⟩
theorem St.ref {w1 : World} {g r h : Nat} {A Ai : Option Addr} {c : Nat} {b : List Nat} {s t t' : Option (List Nat)} {w w' : World} (st : St w1 g r h A Ai c b s t w) (ho : Only (fun k => k = h) w w') (ht : RR w' h A c b t') : St w1 g r h A Ai c b s t' w' := by
  obtain ⟨h1, h2, h3, h4, h5, h6, h7, h8⟩ := st
  exact ⟨h1.only ho (by omega) (by omega), ht, h3.only ho (fun k hk => by omega), h4.trans (ho.below h4.size (fun k _ hk => by omega)), h5, h6, h7, h8⟩
def ReadsRel (w1 : World) (g r h : Nat) (A Ai : Option Addr) (c : Nat) (b : List Nat) (n : Nat) (i : Value) (wr : World) : Prop :=
  ∃ (k : Nat) (s : Option (List Nat)), i = .int .i64 (k : Int) ∧ k ≤ n ∧ k ≤ 100 ∧ St w1 g r h A Ai c b s s wr
end Go.Proofs.Ythcmijppemochaa
