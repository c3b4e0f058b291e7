/-
  The contracts of the hand that reads: take, takeNumber, and of Read and Reader's Count, Num, Flag, Text, End. Their conditions: the reader is the call's own.
-/
import Derived.Test.YthcmijppemochaaW4
namespace Go.Proofs.Ythcmijppemochaa
open Go.RowKit

/-- A reader's hand in block g, its row in block r: what is left, or nothing, if a fault was met. -/
def RS (w : World) (g r : Nat) : Option (List Nat) → Prop
  | none => Hand w g (.slice none 0 0) true
  | some L => r < w.heap.size ∧ ∃ A c, Hand w g (.slice A L.length c) false ∧ Bytes w A L ∧ L.length ≤ c ∧ c ≤ maxLen ∧ (A = none → c = 0) ∧ ∀ a, A = some a → a.block = r ∧ r ≠ g
theorem RS.lt {w : World} {g r : Nat} {s : Option (List Nat)} (h : RS w g r s) : g < w.heap.size := by
  cases s with
  | none => exact Hand.lt h
  | some L => obtain ⟨_, A, c, h1, _⟩ := h; exact h1.lt
theorem RS.only {S : Nat → Prop} {w w' : World} {g r : Nat} {s : Option (List Nat)} (h : RS w g r s) (ho : Only S w w') (hg : ¬ S g) (hr : ¬ S r) : RS w' g r s := by
  cases s with
  | none => exact Hand.only h ho hg
  | some L =>
    obtain ⟨h0, A, c, h1, h2, h3, h4, h5, h6⟩ := h
    exact ⟨Nat.lt_of_lt_of_le h0 ho.size, A, c, h1.only ho hg, h2.only ho (fun a ha => by rw [(h6 a ha).1]; exact hr), h3, h4, h5, h6⟩
theorem RS.below {w w' : World} {g r : Nat} {s : Option (List Nat)} (h : RS w g r s) (hb : Below w.heap.size w w') : RS w' g r s := h.only (S := fun _ => False) (Only.of_below hb) (fun h => h) (fun h => h)

/-- take: a slice of the first bytes; the hand goes on behind them. -/
def TakePost (w : World) (g r : Nat) (s : Option (List Nat)) (n : Nat) (e : Ending) (w' : World) : Prop :=
  ∃ A c, e = .returned (.slice A (Pk.rtake s n).1.length c) ∧ Bytes w' A (Pk.rtake s n).1 ∧ RS w' g r (Pk.rtake s n).2 ∧ Only (fun k => k = g) w w'
theorem take_much (g r : Nat) (L : List Nat) (n : Nat) (w : World) (h : RS w g r (some L)) (hn : (L.length : Int) < (n : Int)) :
    Calls Try.prog 35 #[.pointer (some ⟨g, 0, none⟩), .int .i64 n] w (TakePost w g r (some L) n) := by
  obtain ⟨_, A, c, hh, _⟩ := h
  have HC := Lib.hid (spoil_any g _ _ w hh)
  have c0 := hh.cell0
  have HE : Hid (Pk.rtake (some L) n = ([], none)) := by unfold Pk.rtake; exact if_pos (by omega)
  clear hh
  go_enter Try.func35, Try.ntmps35
  go_wp2_with (go_at_call 30; refine HC.out.mono ?_; rintro e w2 ⟨rfl, hh2, ho2⟩; have H2 := Lib.hid hh2; have HO := Lib.hid ho2; clear hh2 ho2)
  go_ret
  unfold TakePost
  rw [HE.out]
  exact ⟨none, 0, rfl, Bytes.nil _ _, H2.out, HO.out⟩
theorem take_some (g r : Nat) (L : List Nat) (n : Nat) (w : World) (h : RS w g r (some L)) (hn : n ≤ L.length) :
    Calls Try.prog 35 #[.pointer (some ⟨g, 0, none⟩), .int .i64 n] w (TakePost w g r (some L) n) := by
  obtain ⟨hrg, A, c, hh, hb, hc, hm, hA, hr⟩ := h
  have c0 := hh.cell0
  have f0 := hh.frozen 0
  unfold maxLen at hm
  have H : Hid (∀ w2, w2 = w.setCell ⟨g, 0, none⟩ (.slice (if c = n then A else A.map (·.add n)) (L.length - n) (c - n)) → TakePost w g r (some L) n (.returned (.slice A n c)) w2) := by
    intro w2 e2
    have HE : Pk.rtake (some L) n = (L.take n, some (L.drop n)) := by unfold Pk.rtake; exact if_neg (by omega)
    have hl : (L.take n).length = n := by rw [List.length_take]; omega
    have ho : Only (fun k => k = g) w w2 := by rw [e2]; exact (Only.refl (fun k => k = g) w).setCell (p := ⟨g, 0, none⟩) (.inr rfl) _
    have hne : ∀ a, A = some a → ¬ a.block = g := fun a ha => by rw [(hr a ha).1]; exact (hr a ha).2
    unfold TakePost
    rw [HE]
    refine ⟨A, c, by rw [hl], (hb.take n).only ho hne, ⟨Nat.lt_of_lt_of_le hrg ho.size, (if c = n then A else A.map (·.add n)), c - n, ?_, ?_, by rw [List.length_drop]; omega, by unfold maxLen; omega, ?_, ?_⟩, ho⟩
    · rw [List.length_drop, e2]
      exact hh.set0 _
    · refine (hb.drop n c hc).only ho ?_
      intro a ha
      split at ha
      · exact hne a ha
      · cases A with
        | none => simp at ha
        | some a0 =>
          simp at ha
          have h1 : a.block = a0.block := by rw [← ha]; unfold Addr.add; split <;> rfl
          rw [h1]
          exact hne a0 rfl
    · intro hn2
      split at hn2
      · have := hA hn2; omega
      · cases A with
        | none => have := hA rfl; omega
        | some a0 => simp at hn2
    · intro a ha
      split at ha
      · exact hr a ha
      · cases A with
        | none => simp at ha
        | some a0 =>
          simp at ha
          have h1 : a.block = a0.block := by rw [← ha]; unfold Addr.add; split <;> rfl
          rw [h1]
          exact hr a0 rfl
  clear hrg hh hb hA hr
  go_enter Try.func35, Try.ntmps35
  go_wp2
  · rename_i h
    go_ret
    have hx := H.out _ rfl
    rw [if_pos h, h, Nat.sub_self] at hx
    exact hx
  · rename_i h
    go_ret
    have hx := H.out _ rfl
    rw [if_neg h] at hx
    exact hx
theorem take_none (g r : Nat) (w : World) (h : RS w g r none) :
    Calls Try.prog 35 #[.pointer (some ⟨g, 0, none⟩), .int .i64 0] w (TakePost w g r none 0) := by
  have hh : Hand w g (.slice none 0 0) true := h
  have c0 := hh.cell0
  have f0 := hh.frozen 0
  have H := Lib.hid hh
  clear h hh
  go_enter Try.func35, Try.ntmps35
  go_wp2
  go_ret
  exact ⟨none, 0, rfl, Bytes.nil _ _, H.out.set0 _, (Only.refl (fun k => k = g) w).setCell (p := ⟨g, 0, none⟩) (.inr rfl) _⟩
theorem take_any (g r : Nat) (s : Option (List Nat)) (n : Nat) (w : World) (h : RS w g r s) (hn : s = none → n = 0) :
    Calls Try.prog 35 #[.pointer (some ⟨g, 0, none⟩), .int .i64 n] w (TakePost w g r s n) := by
  cases s with
  | none => rw [hn rfl]; exact take_none g r w h
  | some L =>
    by_cases hl : n ≤ L.length
    · exact take_some g r L n w h hl
    · exact take_much g r L n w h (by omega)
end Go.Proofs.Ythcmijppemochaa
