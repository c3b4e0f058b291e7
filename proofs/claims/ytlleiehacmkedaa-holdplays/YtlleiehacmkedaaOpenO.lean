/-
  A script and stones that came in read as such. Its conditions: none.
-/
import Derived.Test.YtlleiehacmkedaaW4
import Derived.ProofKit
import Derived.Deep.Slices
namespace Go.Proofs.Ytlleiehacmkedaa
open Go.ChangeShapes Go.WideShapes Go.ChangeAt Go.RowKit Go.Deep

theorem addr_add (b o k : Nat) : (⟨b, o, none⟩ : Addr).add k = ⟨b, o + k, none⟩ := by unfold Addr.add; split <;> simp_all
theorem cells31 : Try.prog.cellsOf 31 = 3 := by kernel_rfl
theorem cells43 : Try.prog.cellsOf 43 = 2 := by kernel_rfl
theorem cells3 : Try.prog.cellsOf 3 = 1 := by kernel_rfl
theorem cellsS : Try.prog.cellsOf 9 = 1 := by kernel_rfl
section
variable {H : Type} {enc : TypeId × Value → H} {W : World} {base : Nat} {spare : Nat → Bool} {held : Bool}
theorem open_step {a : Addr} {cs : List Value} {n : Nat} {x : DataW H × List MemPlace} (hc : W.cells? base a 3 = some cs) (h : DataW.trod enc Try.prog W base spare held n 31 cs = some x) :
    ∃ y : Step, Ok y.t ∧ W.cell? (a.add 0) = some (.int .i64 y.K) ∧ W.cell? (a.add 1) = some (.string y.t.k) ∧ W.cell? (a.add 2) = some (.int .i64 y.t.n) := by
  obtain ⟨_, hl, hat⟩ := World.cells?_some hc
  obtain ⟨ys, m, _, _, _, hyl, hf⟩ := DataW.trod_struct Try.underlying31 h
  match cs, hl with
  | [c0, c1, c2], _ =>
    match ys, hyl with
    | [y0, y1, y2], _ =>
      have f0 : DataW.trod enc Try.prog W base spare held m 3 (([c0, c1, c2].drop 0).take (Try.prog.cellsOf 3)) = some y0 := hf 0 _ rfl
      have f1 : DataW.trod enc Try.prog W base spare held m 9 (([c0, c1, c2].drop 1).take (Try.prog.cellsOf 9)) = some y1 := hf 1 _ rfl
      have f2 : DataW.trod enc Try.prog W base spare held m 3 (([c0, c1, c2].drop 2).take (Try.prog.cellsOf 3)) = some y2 := hf 2 _ rfl
      rw [cells3] at f0 f2
      rw [cellsS] at f1
      obtain ⟨k, e0, _, _⟩ := DataW.trod_int Try.underlying3 (show DataW.trod enc Try.prog W base spare held m 3 [c0] = some y0 from f0)
      obtain ⟨s, e1, _, hs⟩ := DataW.trod_string Try.underlying9 (show DataW.trod enc Try.prog W base spare held m 9 [c1] = some y1 from f1)
      obtain ⟨q, e2, _, hq⟩ := DataW.trod_int Try.underlying3 (show DataW.trod enc Try.prog W base spare held m 3 [c2] = some y2 from f2)
      injection e0 with e0 _
      injection e1 with e1 _
      injection e2 with e2 _
      subst e0 e1 e2
      exact ⟨⟨k, s, q⟩, ⟨hs, hq⟩, hat 0 (by omega), hat 1 (by omega), hat 2 (by omega)⟩
theorem open_stone {a : Addr} {cs : List Value} {n : Nat} {x : DataW H × List MemPlace} (hc : W.cells? base a 2 = some cs) (h : DataW.trod enc Try.prog W base spare held n 43 cs = some x) :
    ∃ y : Tm, Ok y ∧ W.cell? (a.add 0) = some (.string y.k) ∧ W.cell? (a.add 1) = some (.int .i64 y.n) := by
  obtain ⟨_, hl, hat⟩ := World.cells?_some hc
  obtain ⟨ys, m, _, _, _, hyl, hf⟩ := DataW.trod_struct Try.underlying43 h
  match cs, hl with
  | [c1, c2], _ =>
    match ys, hyl with
    | [y1, y2], _ =>
      have f1 : DataW.trod enc Try.prog W base spare held m 9 (([c1, c2].drop 0).take (Try.prog.cellsOf 9)) = some y1 := hf 0 _ rfl
      have f2 : DataW.trod enc Try.prog W base spare held m 3 (([c1, c2].drop 1).take (Try.prog.cellsOf 3)) = some y2 := hf 1 _ rfl
      rw [cells3] at f2
      rw [cellsS] at f1
      obtain ⟨s, e1, _, hs⟩ := DataW.trod_string Try.underlying9 (show DataW.trod enc Try.prog W base spare held m 9 [c1] = some y1 from f1)
      obtain ⟨q, e2, _, hq⟩ := DataW.trod_int Try.underlying3 (show DataW.trod enc Try.prog W base spare held m 3 [c2] = some y2 from f2)
      injection e1 with e1 _
      injection e2 with e2 _
      subst e1 e2
      exact ⟨⟨s, q⟩, ⟨hs, hq⟩, hat 0 (by omega), hat 1 (by omega)⟩
theorem open_ops {a : Option Addr} {len cap fuel : Nat} {x : DataW H × List MemPlace} (h : DataW.trod enc Try.prog W base (fun _ => true) held fuel 22 [.slice a len cap] = some x) :
    ∃ l : List Step, l.length = len ∧ Scr W a l := by
  rcases open_slice Try.underlying22 h with ⟨hcs, _⟩ | ⟨ad, ln, c, m, n, D, Pl, hcs, _, hl, hm, hmm, _, hcell⟩
  · simp at hcs
    obtain ⟨rfl, rfl, rfl⟩ := hcs
    exact ⟨[], rfl, sl_nil _, by simp⟩
  · simp at hcs
    obtain ⟨rfl, rfl, rfl⟩ := hcs
    have hmc : m = cap := by simpa using hmm
    subst hmc
    have hex : ∀ i, ∃ y : Step, i < m → Ok y.t ∧ W.cell? (ad.add (i * 3)) = some (.int .i64 y.K) ∧ W.cell? (ad.add (i * 3 + 1)) = some (.string y.t.k) ∧ W.cell? (ad.add (i * 3 + 2)) = some (.int .i64 y.t.n) := by
      intro i
      by_cases hi : i < m
      · obtain ⟨cs, hc, ht⟩ := hcell i hi
        rw [cells31] at hc
        obtain ⟨y, ys, y0, y1, y2⟩ := open_step hc ht
        rw [add_add] at y0 y1 y2
        exact ⟨y, fun _ => ⟨ys, y0, y1, y2⟩⟩
      · exact ⟨⟨0, ⟨⟨#[]⟩, 0⟩⟩, fun h => absurd h hi⟩
    obtain ⟨f, hfx⟩ := Classical.skolem.mp hex
    refine ⟨(List.range len).map f, by simp, ⟨by simp; omega, fun hp => ?_⟩, ?_⟩
    · have hp : 0 < len := by simpa using hp
      obtain ⟨b, off, spot⟩ := ad
      have h0 := (hfx 0 (by omega)).2.1
      have hspot : spot = none := by simpa [Addr.add] using World.cell?_spot h0
      subst hspot
      refine ⟨b, off, rfl, ?_, fun k y hk i u hu => ?_⟩
      · have := block_lt_of_cell h0
        simpa [Addr.add] using this
      · obtain ⟨hkl, hky⟩ := List.getElem?_eq_some_iff.mp hk
        have hkl : k < len := by simpa using hkl
        have e : y = f k := by rw [← hky]; simp
        subst e
        obtain ⟨_, z0, z1, z2⟩ := hfx k (by omega)
        rw [addr_add] at z0 z1 z2
        match i, hu with
        | 0, hu => cases hu; exact z0
        | 1, hu => cases hu; exact z1
        | 2, hu => cases hu; exact z2
    · intro y hy
      obtain ⟨i, hi, rfl⟩ := List.mem_map.mp hy
      exact (hfx i (by have := List.mem_range.mp hi; omega)).1
theorem open_ths {a : Option Addr} {len cap fuel : Nat} {x : DataW H × List MemPlace} (h : DataW.trod enc Try.prog W base (fun _ => true) held fuel 41 [.slice a len cap] = some x) :
    ∃ l : List Tk, l.length = len ∧ Ths W a l := by
  rcases open_slice Try.underlying41 h with ⟨hcs, _⟩ | ⟨ad, ln, c, m, n, D, Pl, hcs, _, hl, hm, hmm, _, hcell⟩
  · simp at hcs
    obtain ⟨rfl, rfl, rfl⟩ := hcs
    exact ⟨[], rfl, sl_nil _, by simp⟩
  · simp at hcs
    obtain ⟨rfl, rfl, rfl⟩ := hcs
    have hmc : m = cap := by simpa using hmm
    subst hmc
    have hex : ∀ i, ∃ y : Tm, i < m → Ok y ∧ W.cell? (ad.add (i * 2)) = some (.string y.k) ∧ W.cell? (ad.add (i * 2 + 1)) = some (.int .i64 y.n) := by
      intro i
      by_cases hi : i < m
      · obtain ⟨cs, hc, ht⟩ := hcell i hi
        rw [cells43] at hc
        obtain ⟨y, ys, y0, y1⟩ := open_stone hc ht
        rw [add_add] at y0 y1
        exact ⟨y, fun _ => ⟨ys, y0, y1⟩⟩
      · exact ⟨⟨⟨#[]⟩, 0⟩, fun h => absurd h hi⟩
    obtain ⟨f, hfx⟩ := Classical.skolem.mp hex
    refine ⟨(List.range len).map f, by simp, ⟨by simp; omega, fun hp => ?_⟩, ?_⟩
    · have hp : 0 < len := by simpa using hp
      obtain ⟨b, off, spot⟩ := ad
      have h0 := (hfx 0 (by omega)).2.1
      have hspot : spot = none := by simpa [Addr.add] using World.cell?_spot h0
      subst hspot
      refine ⟨b, off, rfl, ?_, fun k y hk i u hu => ?_⟩
      · have := block_lt_of_cell h0
        simpa [Addr.add] using this
      · obtain ⟨hkl, hky⟩ := List.getElem?_eq_some_iff.mp hk
        have hkl : k < len := by simpa using hkl
        have e : y = f k := by rw [← hky]; simp
        subst e
        obtain ⟨_, z0, z1⟩ := hfx k (by omega)
        rw [addr_add] at z0 z1
        match i, hu with
        | 0, hu => cases hu; exact z0
        | 1, hu => cases hu; exact z1
    · intro y hy
      obtain ⟨i, hi, rfl⟩ := List.mem_map.mp hy
      exact (hfx i (by have := List.mem_range.mp hi; omega)).1
end
end Go.Proofs.Ytlleiehacmkedaa
