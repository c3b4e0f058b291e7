/-
  A slice of epochs that came in reads as epochs; a position that came in by value. Its conditions: none.
-/
import Derived.Test.YtkomemiebgnknaaW1
import Derived.ProofKit
import Derived.Deep.Slices
import Derived.Lib.SmallJoins
namespace Go.Proofs.Ytkomemiebgnknaa
open Go.ChangeShapes Go.WideShapes Go.ChangeAt Go.RowKit Go.Deep

theorem cells32 : Try.prog.cellsOf 32 = 3 := by kernel_rfl
theorem cells24 : Try.prog.cellsOf 24 = 2 := by kernel_rfl
theorem cells3 : Try.prog.cellsOf 3 = 1 := by kernel_rfl
theorem cells4 : Try.prog.cellsOf 4 = 1 := by kernel_rfl
section
variable {H : Type} {enc : TypeId × Value → H} {W : World} {base : Nat} {spare : Nat → Bool} {held : Bool}
theorem open_ep {a : Addr} {cs : List Value} {n : Nat} {x : DataW H × List MemPlace} (hc : W.cells? base a 3 = some cs) (h : DataW.trod enc Try.prog W base spare held n 32 cs = some x) :
    ∃ y : Ep, W.cell? (a.add 0) = some (.int .i64 y.M) ∧ W.cell? (a.add 1) = some (.int .i64 y.C) ∧ W.cell? (a.add 2) = some (.bool y.F) := by
  obtain ⟨_, hl, hat⟩ := World.cells?_some hc
  obtain ⟨ys, m, _, _, _, hyl, hf⟩ := DataW.trod_struct Try.underlying32 h
  match cs, hl with
  | [c0, c1, c2], _ =>
    match ys, hyl with
    | [y0, y1, y2], _ =>
      have f0 : DataW.trod enc Try.prog W base spare held m 3 (([c0, c1, c2].drop 0).take (Try.prog.cellsOf 3)) = some y0 := hf 0 _ rfl
      have f1 : DataW.trod enc Try.prog W base spare held m 3 (([c0, c1, c2].drop 1).take (Try.prog.cellsOf 3)) = some y1 := hf 1 _ rfl
      have f2 : DataW.trod enc Try.prog W base spare held m 4 (([c0, c1, c2].drop 2).take (Try.prog.cellsOf 4)) = some y2 := hf 2 _ rfl
      rw [cells3] at f0 f1
      rw [cells4] at f2
      obtain ⟨k, e0, _, w0⟩ := DataW.trod_int Try.underlying3 (show DataW.trod enc Try.prog W base spare held m 3 [c0] = some y0 from f0)
      obtain ⟨q, e1, _, w1⟩ := DataW.trod_int Try.underlying3 (show DataW.trod enc Try.prog W base spare held m 3 [c1] = some y1 from f1)
      obtain ⟨s, e2, _⟩ := DataW.trod_bool Try.underlying4 (show DataW.trod enc Try.prog W base spare held m 4 [c2] = some y2 from f2)
      injection e0 with e0 _
      injection e1 with e1 _
      injection e2 with e2 _
      subst e0 e1 e2
      exact ⟨⟨k, q, s⟩, hat 0 (by omega), hat 1 (by omega), hat 2 (by omega)⟩
theorem open_eps {a : Option Addr} {len cap fuel : Nat} {x : DataW H × List MemPlace} (h : DataW.trod enc Try.prog W base (fun _ => true) held fuel 22 [.slice a len cap] = some x) :
    ∃ l : List Ep, l.length = len ∧ Eps W a l ∧ len ≤ cap ∧ (a = none → cap = 0) ∧ (cap = 0 ∨ ∃ es sp : List (DataW H), x.1 = .slice es sp ∧ es.length + sp.length = cap) := by
  rcases open_slice Try.underlying22 h with ⟨hcs, _⟩ | ⟨ad, ln, c, m, n, D, Pl, hcs, _, hl, hm, hmm, hx, hcell⟩
  · simp at hcs
    obtain ⟨rfl, rfl, rfl⟩ := hcs
    exact ⟨[], rfl, ⟨by simp, by simp⟩, Nat.le_refl _, fun _ => rfl, .inl rfl⟩
  · simp at hcs
    obtain ⟨rfl, rfl, rfl⟩ := hcs
    have hmc : m = cap := by simpa using hmm
    subst hmc
    have hex : ∀ i, ∃ y : Ep, i < m → W.cell? (ad.add (i * 3)) = some (.int .i64 y.M) ∧ W.cell? (ad.add (i * 3 + 1)) = some (.int .i64 y.C) ∧ W.cell? (ad.add (i * 3 + 2)) = some (.bool y.F) := by
      intro i
      by_cases hi : i < m
      · obtain ⟨cs, hc, ht⟩ := hcell i hi
        rw [cells32] at hc
        obtain ⟨y, y0, y1, y2⟩ := open_ep hc ht
        rw [add_add] at y0 y1 y2
        exact ⟨y, fun _ => ⟨y0, y1, y2⟩⟩
      · exact ⟨⟨0, 0, false⟩, fun h => absurd h hi⟩
    obtain ⟨f, hfx⟩ := Classical.skolem.mp hex
    refine ⟨(List.range len).map f, by simp, ⟨by simp; omega, fun hp => ?_⟩, hl, (fun h => by cases h), .inr ⟨_, _, by rw [hx], by simp; omega⟩⟩
    have hp : 0 < len := by simpa using hp
    obtain ⟨b, off, spot⟩ := ad
    have h0 := (hfx 0 (by omega)).1
    have hspot : spot = none := by simpa [Addr.add] using World.cell?_spot h0
    subst hspot
    refine ⟨b, off, rfl, ?_, fun k y hk => ?_⟩
    · have := block_lt_of_cell h0
      simpa [Addr.add] using this
    · obtain ⟨hkl, hky⟩ := List.getElem?_eq_some_iff.mp hk
      have hkl : k < len := by simpa using hkl
      have e : y = f k := by rw [← hky]; simp
      subst e
      obtain ⟨z0, z1, z2⟩ := hfx k (by omega)
      rw [addr_add] at z0 z1 z2
      exact ⟨z0, z1, z2⟩
theorem list2 {α : Type} (l : List α) (h : (⟨l⟩ : Array α).size = 2) : ∃ a b, l = [a, b] := by
  match l, h with
  | [a, b], _ => exact ⟨a, b, rfl⟩
theorem open_pos {v : Value} {d : DataW H} {p : List MemPlace} {b0 : Nat} (hval : Value.okWide Try.prog W .any b0 24 v) (h : DataW.Trod enc Try.prog W base spare held 24 v d p) :
    ∃ e i : Int, v = .agg #[.int .i64 e, .int .i64 i] := by
  obtain ⟨cs, rfl, hsz2, _⟩ : ∃ cs, v = .agg cs ∧ cs.size = Try.prog.cellsOf 24 ∧ Row.okWide Try.prog W .any b0 24 cs := by
    simpa [Value.okWide, Try.underlying24] using hval
  rw [cells24] at hsz2
  obtain ⟨l⟩ := cs
  obtain ⟨c0, c1, rfl⟩ := list2 l hsz2
  obtain ⟨fuel, hf⟩ := h
  obtain ⟨ys, m, _, _, _, hyl, hh⟩ := DataW.trod_struct Try.underlying24 hf
  match ys, hyl with
  | [y0, y1], _ =>
    have f0 : DataW.trod enc Try.prog W base spare held m 3 (([c0, c1].drop 0).take (Try.prog.cellsOf 3)) = some y0 := hh 0 _ rfl
    have f1 : DataW.trod enc Try.prog W base spare held m 3 (([c0, c1].drop 1).take (Try.prog.cellsOf 3)) = some y1 := hh 1 _ rfl
    rw [cells3] at f0 f1
    obtain ⟨k, e0, _, _⟩ := DataW.trod_int Try.underlying3 (show DataW.trod enc Try.prog W base spare held m 3 [c0] = some y0 from f0)
    obtain ⟨q, e1, _, _⟩ := DataW.trod_int Try.underlying3 (show DataW.trod enc Try.prog W base spare held m 3 [c1] = some y1 from f1)
    injection e0 with e0 _
    injection e1 with e1 _
    subst e0 e1
    exact ⟨k, q, rfl⟩
end
end Go.Proofs.Ytkomemiebgnknaa
