/-
  Words for memory: a slice that reads as bytes, a row of the call's own, what a call leaves as it was, a hand (a slice and a flag). Its conditions: none.
-/
import Derived.Test.YthcmijppemochaaRows
import Derived.Test.YthcmijppemochaaMath
import Derived.WalkKit
import Derived.ProofKit
import Derived.Below
import Derived.Outline
import Derived.Laws.BitsAllLaws
import Derived.WalkLawsBesides
import Derived.Laws.IdiomStrings
import Derived.Laws.AppendOwn
import Derived.Laws.AppendOwnNone
import Derived.OpenShut
import Derived.Lib.Hide
namespace Go.Proofs.Ythcmijppemochaa
open Go.RowKit

theorem addr_add (b off i : Nat) : (⟨b, off, none⟩ : Addr).add i = ⟨b, off + i, none⟩ := by unfold Addr.add; split <;> simp_all
theorem heap_new (w : World) (o : Obj) : (w.alloc o).heap[w.heap.size]? = some o := by
  show (w.heap.push o)[w.heap.size]? = _
  simp

/-- A slice (its address A) that reads as the bytes l. -/
def Bytes (w : World) (A : Option Addr) (l : List Nat) : Prop :=
  (∀ c ∈ l, c < 256) ∧ l.length ≤ maxLen ∧ (0 < l.length → ∃ b off, A = some ⟨b, off, none⟩ ∧ b < w.heap.size ∧ ∀ (k c : Nat), l[k]? = some c → w.cell? ⟨b, off + k, none⟩ = some (.int .u8 (c : Int)))
theorem Bytes.nil (w : World) (A : Option Addr) : Bytes w A [] := ⟨by simp, by simp, by simp⟩
theorem Bytes.keep {w w' : World} {A : Option Addr} {l : List Nat} (h : Bytes w A l) (hs : w.heap.size ≤ w'.heap.size) (hb : ∀ a, A = some a → a.block < w.heap.size → w'.heap[a.block]? = w.heap[a.block]?) : Bytes w' A l := by
  obtain ⟨h1, h2, h3⟩ := h
  refine ⟨h1, h2, fun hl => ?_⟩
  obtain ⟨b, off, hA, hlt, hc⟩ := h3 hl
  refine ⟨b, off, hA, Nat.lt_of_lt_of_le hlt hs, fun k c hk => ?_⟩
  rw [World.cell?_of_block (w := w) (a := ⟨b, off + k, none⟩) (show w'.heap[b]? = w.heap[b]? from hb _ hA hlt)]
  exact hc k c hk
theorem Bytes.below {w w' : World} {A : Option Addr} {l : List Nat} (h : Bytes w A l) (hb : Below w.heap.size w w') : Bytes w' A l := h.keep hb.size fun _ _ hlt => hb.block _ hlt
theorem Bytes.take {w : World} {A : Option Addr} {l : List Nat} (h : Bytes w A l) (k : Nat) : Bytes w A (l.take k) := by
  obtain ⟨h1, h2, h3⟩ := h
  refine ⟨fun c hc => h1 c (List.mem_of_mem_take hc), by rw [List.length_take]; omega, fun hl => ?_⟩
  rw [List.length_take] at hl
  obtain ⟨b, off, hA, hlt, hc⟩ := h3 (by omega)
  refine ⟨b, off, hA, hlt, fun j c hj => hc j c ?_⟩
  rw [List.getElem?_take] at hj
  split at hj
  · exact hj
  · simp at hj
theorem Bytes.drop {w : World} {A : Option Addr} {l : List Nat} (h : Bytes w A l) (k cap : Nat) (hcap : l.length ≤ cap) : Bytes w (if cap = k then A else A.map (·.add k)) (l.drop k) := by
  obtain ⟨h1, h2, h3⟩ := h
  refine ⟨fun c hc => h1 c (List.mem_of_mem_drop hc), by rw [List.length_drop]; omega, fun hl => ?_⟩
  rw [List.length_drop] at hl
  obtain ⟨b, off, rfl, hlt, hc⟩ := h3 (by omega)
  rw [if_neg (by omega)]
  refine ⟨b, off + k, ?_, hlt, fun j c hj => ?_⟩
  · show some (Addr.add _ k) = _
    rw [addr_add]
  · rw [List.getElem?_drop] at hj
    have := hc (k + j) c hj
    rwa [← Nat.add_assoc] at this
theorem Bytes.at_ {w : World} {A : Option Addr} {l : List Nat} (h : Bytes w A l) {k : Nat} (hk : k < l.length) : ∃ b off, A = some ⟨b, off, none⟩ ∧ w.cell? ⟨b, off + k, none⟩ = some (.int .u8 (l[k] : Int)) ∧ l[k] < 256 := by
  obtain ⟨b, off, hA, _, hc⟩ := h.2.2 (by omega)
  exact ⟨b, off, hA, hc k _ (List.getElem?_eq_getElem hk), h.1 _ (List.getElem_mem hk)⟩

/-- What a slice of integers that came in is known as. -/
def IsRow (k : IntKind) (w : World) (a : Option Addr) (len cap : Nat) (zs : List Int) : Prop :=
  (a = none ∧ len = 0 ∧ cap = 0 ∧ zs = []) ∨
  ∃ x, a = some x ∧ len ≤ cap ∧ cap ≤ maxLen ∧ zs.length = cap ∧ (∀ i, i < zs.length → w.cell? (x.add i) = some (.int k (zs.getD i 0))) ∧ ∀ n ∈ zs, (Lit.int k n).wf = true
theorem bytes_of_row {w : World} {a : Option Addr} {len cap : Nat} {zs : List Int} (h : IsRow .u8 w a len cap zs) :
    ∃ l : List Nat, l.length = len ∧ Bytes w a l ∧ len ≤ cap ∧ cap ≤ maxLen ∧ (a = none → cap = 0) := by
  rcases h with ⟨rfl, rfl, rfl, rfl⟩ | ⟨x, rfl, hl, hm, hz, hcell, hwz⟩
  · exact ⟨[], rfl, Bytes.nil _ _, Nat.le_refl _, Nat.zero_le _, fun _ => rfl⟩
  · refine ⟨(zs.take len).map Int.toNat, by simp; omega, ⟨?_, by simp; omega, fun hp => ?_⟩, hl, hm, fun h => by cases h⟩
    · intro c hc
      obtain ⟨n, hn, rfl⟩ := List.mem_map.mp hc
      have := bounds_u8 (hwz n (List.mem_of_mem_take hn))
      omega
    · have hp : 0 < len := by simp at hp; omega
      obtain ⟨b, off, spot⟩ := x
      have h0 := hcell 0 (by omega)
      have hspot : spot = none := by simpa [Addr.add] using World.cell?_spot h0
      subst hspot
      refine ⟨b, off, rfl, ?_, fun k c hk => ?_⟩
      · have := block_lt_of_cell h0
        simpa [Addr.add] using this
      · rw [List.getElem?_map, List.getElem?_take] at hk
        split at hk
        · have hkz : k < zs.length := by omega
          rw [List.getElem?_eq_getElem hkz] at hk
          simp at hk
          have hck := hcell k hkz
          rw [List.getD_eq_getElem?_getD, List.getElem?_eq_getElem hkz] at hck
          have hb := bounds_u8 (hwz zs[k] (List.getElem_mem hkz))
          have e : zs[k] = (c : Int) := by omega
          rw [addr_add] at hck
          rw [hck, Option.getD_some, e]
        · simp at hk

/-- The string of the bytes l. -/
def textOf (l : List Nat) : ByteArray := ⟨(l.map UInt8.ofNat).toArray⟩
theorem textOf_size (l : List Nat) : (textOf l).size = l.length := by
  show (List.toArray _).size = _
  simp
theorem conv_text (w : World) (A : Option Addr) (l : List Nat) (cap : Nat) (h : Bytes w A l) : (convert 25 9 (.slice A l.length cap)).run Try.prog w = .ok (.string (textOf l)) w := by
  obtain ⟨h1, _, h3⟩ := h
  cases A with
  | none =>
    have hl : l = [] := by
      cases l with
      | nil => rfl
      | cons c l => obtain ⟨b, off, hA, _⟩ := h3 (by simp); simp at hA
    subst hl
    rw [run_convert_bytes_string w 25 9 5 none _ cap Try.underlying25 Try.underlying5 Try.underlying9]
    rfl
  | some a =>
    have h := run_convert_bytes_back (P := Try.prog) w 25 9 5 a cap (l.map UInt8.ofNat) Try.underlying25 Try.underlying5 Try.underlying9 (fun j hj => by
      have hj' : j < l.length := by simpa using hj
      obtain ⟨b, off, hA, _, hc⟩ := h3 (by omega)
      injection hA with hA
      subst hA
      have hcj := hc j l[j] (List.getElem?_eq_getElem hj')
      rw [addr_add, hcj]
      have hlt := h1 l[j] (List.getElem_mem hj')
      simp [Nat.mod_eq_of_lt hlt])
    rw [List.length_map] at h
    exact h

/-- What has not turned: every block that was there, but those of S. -/
structure Only (S : Nat → Prop) (w w' : World) : Prop where
  os : w'.os = w.os
  tape : w'.tape = w.tape
  output : w'.output = w.output
  size : w.heap.size ≤ w'.heap.size
  block : ∀ k, k < w.heap.size → ¬ S k → w'.heap[k]? = w.heap[k]?
theorem Only.refl (S : Nat → Prop) (w : World) : Only S w w := ⟨rfl, rfl, rfl, Nat.le_refl _, fun _ _ _ => rfl⟩
theorem Only.trans {S T : Nat → Prop} {a b c : World} (h : Only S a b) (k : Only T b c) (hT : ∀ i, i < a.heap.size → T i → S i) : Only S a c :=
  ⟨k.os.trans h.os, k.tape.trans h.tape, k.output.trans h.output, Nat.le_trans h.size k.size,
    fun i hi hS => (k.block i (Nat.lt_of_lt_of_le hi h.size) (fun ht => hS (hT i hi ht))).trans (h.block i hi hS)⟩
theorem Only.mono {S T : Nat → Prop} {a b : World} (h : Only S a b) (hT : ∀ i, i < a.heap.size → S i → T i) : Only T a b :=
  ⟨h.os, h.tape, h.output, h.size, fun i hi hS => h.block i hi (fun hs => hS (hT i hi hs))⟩
theorem Only.of_below {S : Nat → Prop} {w w' : World} (h : Below w.heap.size w w') : Only S w w' := ⟨h.os, h.tape, h.output, h.size, fun k hk _ => h.block k hk⟩
theorem Only.below {S : Nat → Prop} {B : Nat} {w w' : World} (h : Only S w w') (hB : B ≤ w.heap.size) (hS : ∀ k, k < w.heap.size → S k → B ≤ k) : Below B w w' :=
  ⟨h.os, h.tape, h.output, h.size, fun k hk => h.block k (by omega) (fun hs => by have := hS k (by omega) hs; omega)⟩
theorem Only.drew {S : Nat → Prop} {a w : World} (h : Only S a w) : Only S a w.drew := ⟨h.os, h.tape, h.output, h.size, h.block⟩
theorem Only.alloc {S : Nat → Prop} {a w : World} (h : Only S a w) (o : Obj) : Only S a (w.alloc o) :=
  h.trans (T := fun _ => False) ⟨rfl, rfl, rfl, by simp, fun k hk _ => Below.heap_alloc _ _ _ hk⟩ (fun _ _ h => h.elim)
theorem Only.setCell {S : Nat → Prop} {a w : World} (h : Only S a w) {p : Addr} (hp : a.heap.size ≤ p.block ∨ S p.block) (u : Value) : Only S a (w.setCell p u) :=
  h.trans (T := fun k => k = p.block) ⟨rfl, rfl, rfl, by simp [World.setCell], fun k _ hk => Below.heap_setCell _ _ _ _ hk⟩ (fun i hi e => by
    subst e
    rcases hp with hp | hp
    · omega
    · exact hp)
theorem Only.grown {S : Nat → Prop} {a w w' : World} {row : Option Nat} (h : Only S a w) (hg : w.grownBy w' row) (hr : ∀ k, row = some k → a.heap.size ≤ k ∨ S k) : Only S a w' :=
  h.trans (T := fun k => row = some k) ⟨hg.os, hg.tape, hg.output, hg.size, fun k hk hn => hg.block k hk (fun e => hn e.symm)⟩ (fun i hi e => by
    rcases hr i e with h | h
    · omega
    · exact h)
theorem Bytes.only {S : Nat → Prop} {w w' : World} {A : Option Addr} {l : List Nat} (h : Bytes w A l) (ho : Only S w w') (hS : ∀ a, A = some a → ¬ S a.block) : Bytes w' A l :=
  h.keep ho.size fun a ha hlt => ho.block _ hlt (hS a ha)

/-- A hand lies in block g: its bytes, its flag. -/
def Hand (w : World) (g : Nat) (v : Value) (sp : Bool) : Prop := ∃ t, w.heap[g]? = some (.cells #[v, .bool sp] t (0, 0))
theorem Hand.lt {w : World} {g : Nat} {v : Value} {sp : Bool} (h : Hand w g v sp) : g < w.heap.size := by
  obtain ⟨t, h⟩ := h
  obtain ⟨hlt, _⟩ := Array.getElem?_eq_some_iff.mp h
  exact hlt
theorem Hand.cell0 {w : World} {g : Nat} {v : Value} {sp : Bool} (h : Hand w g v sp) : w.cell? ⟨g, 0, none⟩ = some v := by
  obtain ⟨t, h⟩ := h
  simp [World.cell?, h]
theorem Hand.cell1 {w : World} {g : Nat} {v : Value} {sp : Bool} (h : Hand w g v sp) : w.cell? ⟨g, 1, none⟩ = some (.bool sp) := by
  obtain ⟨t, h⟩ := h
  simp [World.cell?, h]
theorem Hand.frozen {w : World} {g : Nat} {v : Value} {sp : Bool} (h : Hand w g v sp) (o : Nat) : w.frozen? ⟨g, o, none⟩ = false := by
  obtain ⟨t, h⟩ := h
  simp [World.frozen?, h]
theorem Hand.set0 {w : World} {g : Nat} {v : Value} {sp : Bool} (h : Hand w g v sp) (u : Value) : Hand (w.setCell ⟨g, 0, none⟩ u) g u sp := by
  obtain ⟨t, h⟩ := h
  exact ⟨t, by simp [World.setCell, Array.getElem?_modify, h]⟩
theorem Hand.set1 {w : World} {g : Nat} {v : Value} {sp : Bool} (h : Hand w g v sp) (b : Bool) : Hand (w.setCell ⟨g, 1, none⟩ (.bool b)) g v b := by
  obtain ⟨t, h⟩ := h
  exact ⟨t, by simp [World.setCell, Array.getElem?_modify, h]⟩
theorem Hand.block {w w' : World} {g : Nat} {v : Value} {sp : Bool} (h : Hand w g v sp) (hb : w'.heap[g]? = w.heap[g]?) : Hand w' g v sp := by
  obtain ⟨t, h⟩ := h
  exact ⟨t, by rw [hb]; exact h⟩
theorem Hand.only {S : Nat → Prop} {w w' : World} {g : Nat} {v : Value} {sp : Bool} (h : Hand w g v sp) (ho : Only S w w') (hS : ¬ S g) : Hand w' g v sp := h.block (ho.block g h.lt hS)

/-- spoil: the hand has nothing, and its flag is set. -/
theorem spoil_any (g : Nat) (v : Value) (sp : Bool) (w : World) (h : Hand w g v sp) :
    Calls Try.prog 30 #[.pointer (some ⟨g, 0, none⟩)] w fun e w' => e = .returned (.tuple #[]) ∧ Hand w' g (.slice none 0 0) true ∧ Only (fun k => k = g) w w' := by
  have c0 := h.cell0
  have c1 := h.cell1
  have f0 := h.frozen 0
  have f1 := h.frozen 1
  have H := Lib.hid h
  clear h
  go_enter Try.func30, Try.ntmps30
  go_wp2
  go_end0
  exact ⟨rfl, (H.out.set0 _).set1 _, ((Only.refl (fun k => k = g) w).setCell (p := ⟨g, 0, none⟩) (.inr rfl) _).setCell (p := ⟨g, 1, none⟩) (.inr rfl) _⟩
end Go.Proofs.Ythcmijppemochaa
