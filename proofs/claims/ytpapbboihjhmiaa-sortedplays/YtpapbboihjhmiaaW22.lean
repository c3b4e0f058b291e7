/-
  The contracts of the document's Get and From. Their conditions: the map lies in memory.
-/
import Derived.Test.YtpapbboihjhmiaaW21
namespace Go.Proofs.Ytpapbboihjhmiaa
open Go.RowKit

theorem get_place {L : List KV} (hr : Rises L) (k : ByteArray) : lget L k = match L[place L k]? with | some p => if p.1 = k then some p.2 else none | none => none := by
  rw [get_from hr, from_place]
  cases L[place L k]? <;> rfl
set_option maxHeartbeats 1000000 in
theorem refget_any (base h : Nat) (L : List KV) (k : ByteArray) (w : World) (hr : RefAt w base h L) :
    Calls Try.prog 17 #[.pointer (some ⟨h, 0, none⟩), .string k] w fun e w' => e = .returned (getV (lget L k)) ∧ w = w' := by
  have C1 := Lib.hid (place_any base h L k w hr)
  have HG := Lib.hid (get_place hr.2.1 k)
  have hpl := place_le L k
  obtain ⟨A, c, hbox, hp, x1, x2, x3, x4, x5⟩ := hr.parts
  clear x1 x2 x3 x4 x5
  have c0 := hbox.c0
  have hlen := hr.2.2.1
  clear hbox hr
  by_cases hlt : place L k < L.length
  · obtain ⟨b, off, rfl, hb, d0, d1⟩ := hp.at_ hlt
    have hG := HG.out
    rw [List.getElem?_eq_getElem hlt] at hG
    generalize L[place L k] = x at d0 d1 hG
    obtain ⟨n, hn⟩ : ∃ n, L.length = n := ⟨_, rfl⟩
    obtain ⟨j, hj⟩ : ∃ j, place L k = j := ⟨_, rfl⟩
    rw [hj] at C1 d0 d1 hlt
    rw [hn] at c0 hlt hlen
    have hlti : (j : Int) < (n : Int) := by omega
    obtain ⟨xk, xv⟩ := x
    simp only at hG d0 d1
    clear hn hj hp hpl HG
    by_cases hx : xk = k
    · subst hx
      rw [if_pos rfl] at hG
      rw [hG]
      clear hG
      go_enter Try.func17, Try.ntmps17
      go_wp2_with fail
      refine C1.out.mono ?_
      rintro e w1 ⟨rfl, rfl⟩
      go_wp2
      go_ret2
      exact ⟨rfl, rfl⟩
    · rw [if_neg hx] at hG
      rw [hG]
      have h2' : (xk.toList == k.toList) = false := toList_ne hx
      clear hG hx
      go_enter Try.func17, Try.ntmps17
      go_wp2_with fail
      refine C1.out.mono ?_
      rintro e w1 ⟨rfl, rfl⟩
      go_wp2
      go_ret2
      exact ⟨rfl, rfl⟩
  · have hG := HG.out
    rw [List.getElem?_eq_none (by omega)] at hG
    rw [hG]
    obtain ⟨n, hn⟩ : ∃ n, L.length = n := ⟨_, rfl⟩
    obtain ⟨j, hj⟩ : ∃ j, place L k = j := ⟨_, rfl⟩
    rw [hj] at C1 hlt
    rw [hn] at c0 hlt hlen
    have hlti : ¬ (j : Int) < (n : Int) := by omega
    have hlti2 : (n : Int) ≤ (j : Int) := by omega
    clear hn hj hp hpl HG hG
    go_enter Try.func17, Try.ntmps17
    go_wp2_with fail
    refine C1.out.mono ?_
    rintro e w1 ⟨rfl, rfl⟩
    go_wp2
    go_ret2
    exact ⟨rfl, rfl⟩

/-- What the document's From tells. -/
def fromP : Option KV → Value
  | none => .tuple #[.agg #[.string ⟨#[]⟩, .int .i64 0], .bool false]
  | some p => .tuple #[.agg #[.string p.1, .int .i64 p.2], .bool true]
/-- A pair of the call's own in block h. -/
def Own2 (w : World) (h : Nat) (x : ByteArray) (y : Int) : Prop := w.heap[h]? = some (.cells #[.string x, .int .i64 y] 39 (0, 0))
theorem Own2.new (w : World) (x : ByteArray) (y : Int) : Own2 (w.alloc (.cells #[.string x, .int .i64 y] 39)) w.heap.size x y := heap_new _ _
theorem Own2.cells {w : World} {h : Nat} {x : ByteArray} {y : Int} (b : Own2 w h x y) : h < w.heap.size ∧ w.cell? ⟨h, 0, none⟩ = some (.string x) ∧ w.cell? ⟨h, 1, none⟩ = some (.int .i64 y) ∧ w.frozen? ⟨h, 0, none⟩ = false ∧ w.frozen? ⟨h, 1, none⟩ = false := by
  unfold Own2 at b
  refine ⟨(Array.getElem?_eq_some_iff.mp b).1, ?_, ?_, ?_, ?_⟩ <;> simp [World.cell?, World.frozen?, b]
theorem bel_set {w w' : World} {B : Nat} {a b : Value} {h : Nat} (hb : Below B w w') (hh : B ≤ h) : Below B w ((w'.setCell ⟨h, 0, none⟩ a).setCell ⟨h, 1, none⟩ b) := (hb.setCell hh _).setCell hh _
set_option maxHeartbeats 1000000 in
theorem reffrom_any (base h : Nat) (L : List KV) (k : ByteArray) (w : World) (hr : RefAt w base h L) :
    Calls Try.prog 19 #[.pointer (some ⟨h, 0, none⟩), .string k] w fun e w' => e = .returned (fromP (lfrom L k)) ∧ Below w.heap.size w w' := by
  have hb0 : Below w.heap.size w (w.alloc (.cells #[.string ⟨#[]⟩, .int .i64 0] 39)) := (Below.refl _ _).alloc (Nat.le_refl _) _
  have C1 := Lib.hid (place_any base h L k _ (hr.below hb0))
  have HG := Lib.hid (from_place L k)
  have hpl := place_le L k
  obtain ⟨A, c, hbox, hp, x1, x2, x3, x4, x5⟩ := (hr.below hb0).parts
  clear x1 x2 x3 x4 x5
  have c0 := hbox.c0
  have hlen := hr.2.2.1
  have O1 := Own2.new w ⟨#[]⟩ 0
  obtain ⟨o0, o1, o2, o3, o4⟩ := O1.cells
  have hne : ¬ h = w.heap.size := by have := hr.2.2.2; obtain ⟨v, hv, _⟩ := this; have := hv.lt; omega
  have B0 := Lib.hid hb0
  clear hbox hr O1 hb0 o0
  by_cases hlt : place L k < L.length
  · obtain ⟨b, off, rfl, hb, d0, d1⟩ := hp.at_ hlt
    have hG := HG.out
    rw [List.getElem?_eq_getElem hlt] at hG
    rw [hG]
    generalize L[place L k] = x at d0 d1 hG
    obtain ⟨n, hn⟩ : ∃ n, L.length = n := ⟨_, rfl⟩
    obtain ⟨j, hj⟩ : ∃ j, place L k = j := ⟨_, rfl⟩
    rw [hj] at C1 d0 d1 hlt
    rw [hn] at c0 hlt hlen
    have hlti : (j : Int) < (n : Int) := by omega
    obtain ⟨xk, xv⟩ := x
    simp only [fromP] at d0 d1 ⊢
    clear hn hj hp hpl HG hG hb
    go_enter Try.func19, Try.ntmps19
    go_wp2_with fail
    obtain ⟨wa, hwa⟩ : ∃ wa, w.alloc (.cells #[.string ⟨#[]⟩, .int .i64 0] 39) = wa := ⟨_, rfl⟩
    rw [hwa] at C1 c0 o1 o2 o3 o4 B0 d0 d1 ⊢
    clear hwa
    refine C1.out.mono ?_
    rintro e w1 ⟨rfl, rfl⟩
    go_wp2
    exact bodyPost_ret (v := .tuple #[.agg #[.string xk, .int .i64 xv], .bool true]) (by simp [results, Try.results19, go_sem, o1, o2]) rfl ⟨rfl, bel_set B0.out (Nat.le_refl _)⟩
  · have hG := HG.out
    rw [List.getElem?_eq_none (by omega)] at hG
    rw [hG]
    obtain ⟨n, hn⟩ : ∃ n, L.length = n := ⟨_, rfl⟩
    obtain ⟨j, hj⟩ : ∃ j, place L k = j := ⟨_, rfl⟩
    rw [hj] at C1 hlt
    rw [hn] at c0 hlt hlen
    have hlti : ¬ (j : Int) < (n : Int) := by omega
    have hlti2 : (n : Int) ≤ (j : Int) := by omega
    clear hn hj hp hpl HG hG
    simp only [fromP]
    go_enter Try.func19, Try.ntmps19
    go_wp2_with fail
    obtain ⟨wa, hwa⟩ : ∃ wa, w.alloc (.cells #[.string ⟨#[]⟩, .int .i64 0] 39) = wa := ⟨_, rfl⟩
    rw [hwa] at C1 c0 o1 o2 o3 o4 B0 ⊢
    clear hwa
    refine C1.out.mono ?_
    rintro e w1 ⟨rfl, rfl⟩
    go_wp2
    exact bodyPost_ret (v := .tuple #[.agg #[.string ⟨#[]⟩, .int .i64 0], .bool false]) (by simp [results, Try.results19, go_sem, o1, o2]) rfl ⟨rfl, bel_set B0.out (Nat.le_refl _)⟩
end Go.Proofs.Ytpapbboihjhmiaa
