/-
  A script and one step of it that came in read as such. Its conditions: none.
-/
import Derived.Test.YtkonkldcallimaaW6
import Derived.ProofKit
import Derived.Deep.Slices
namespace Go.Proofs.Ytkonkldcallimaa
open Go.ChangeShapes Go.WideShapes Go.ChangeAt Go.RowKit Go.Deep

theorem addr_add (b o k : Nat) : (⟨b, o, none⟩ : Addr).add k = ⟨b, o + k, none⟩ := by unfold Addr.add; split <;> simp_all
theorem cells31 : Try.prog.cellsOf 31 = 4 := by kernel_rfl
theorem list4 {α : Type} (l : List α) (h : (⟨l⟩ : Array α).size = 4) : ∃ a b c d, l = [a, b, c, d] := by
  match l, h with
  | [a, b, c, d], _ => exact ⟨a, b, c, d, rfl⟩
section
variable {H : Type} {enc : TypeId × Value → H} {W : World} {base : Nat} {spare : Nat → Bool} {held : Bool}
theorem open_cells {c0 c1 c2 c3 : Value} {n : Nat} {x : DataW H × List MemPlace} (h : DataW.trod enc Try.prog W base spare held n 31 [c0, c1, c2, c3] = some x) :
    ∃ y : Step, Ok y.m ∧ c0 = .int .i64 y.K ∧ c1 = .string y.m.k ∧ c2 = .int .i64 y.m.s ∧ c3 = .int .i64 y.m.r := by
  obtain ⟨ys, m, _, _, _, hyl, hf⟩ := DataW.trod_struct Try.underlying31 h
  match ys, hyl with
  | [y0, y1, y2, y3], _ =>
    have f0 : DataW.trod enc Try.prog W base spare held m 3 (([c0, c1, c2, c3].drop 0).take (Try.prog.cellsOf 3)) = some y0 := hf 0 _ rfl
    have f1 : DataW.trod enc Try.prog W base spare held m 9 (([c0, c1, c2, c3].drop 1).take (Try.prog.cellsOf 9)) = some y1 := hf 1 _ rfl
    have f2 : DataW.trod enc Try.prog W base spare held m 3 (([c0, c1, c2, c3].drop 2).take (Try.prog.cellsOf 3)) = some y2 := hf 2 _ rfl
    have f3 : DataW.trod enc Try.prog W base spare held m 3 (([c0, c1, c2, c3].drop 3).take (Try.prog.cellsOf 3)) = some y3 := hf 3 _ rfl
    rw [cells3] at f0 f2 f3
    rw [cells9] at f1
    obtain ⟨k, e0, _, _⟩ := DataW.trod_int Try.underlying3 (show DataW.trod enc Try.prog W base spare held m 3 [c0] = some y0 from f0)
    obtain ⟨s, e1, _, hs⟩ := DataW.trod_string Try.underlying9 (show DataW.trod enc Try.prog W base spare held m 9 [c1] = some y1 from f1)
    obtain ⟨q, e2, _, hq⟩ := DataW.trod_int Try.underlying3 (show DataW.trod enc Try.prog W base spare held m 3 [c2] = some y2 from f2)
    obtain ⟨r, e3, _, hr⟩ := DataW.trod_int Try.underlying3 (show DataW.trod enc Try.prog W base spare held m 3 [c3] = some y3 from f3)
    injection e0 with e0 _
    injection e1 with e1 _
    injection e2 with e2 _
    injection e3 with e3 _
    subst e0 e1 e2 e3
    exact ⟨⟨k, s, q, r⟩, ⟨hs, hq, hr⟩, rfl, rfl, rfl, rfl⟩
theorem open_op {v : Value} {d : DataW H} {p : List MemPlace} {b0 : Nat} (hval : Value.okWide Try.prog W .any b0 31 v) (h : DataW.Trod enc Try.prog W base spare held 31 v d p) :
    ∃ x : Step, v = .agg #[.int .i64 x.K, .string x.m.k, .int .i64 x.m.s, .int .i64 x.m.r] ∧ Ok x.m := by
  obtain ⟨cs, rfl, hsz2, _⟩ : ∃ cs, v = .agg cs ∧ cs.size = Try.prog.cellsOf 31 ∧ Row.okWide Try.prog W .any b0 31 cs := by
    simpa [Value.okWide, Try.underlying31] using hval
  rw [cells31] at hsz2
  obtain ⟨l⟩ := cs
  obtain ⟨c0, c1, c2, c3, rfl⟩ := list4 l hsz2
  obtain ⟨fuel, hf⟩ := h
  obtain ⟨y, hy, rfl, rfl, rfl, rfl⟩ := open_cells (show DataW.trod enc Try.prog W base spare held fuel 31 [c0, c1, c2, c3] = some (d, p) from hf)
  exact ⟨y, rfl, hy⟩
theorem open_step {a : Addr} {cs : List Value} {n : Nat} {x : DataW H × List MemPlace} (hc : W.cells? base a 4 = some cs) (h : DataW.trod enc Try.prog W base spare held n 31 cs = some x) :
    ∃ y : Step, Ok y.m ∧ W.cell? (a.add 0) = some (.int .i64 y.K) ∧ W.cell? (a.add 1) = some (.string y.m.k) ∧ W.cell? (a.add 2) = some (.int .i64 y.m.s) ∧ W.cell? (a.add 3) = some (.int .i64 y.m.r) := by
  obtain ⟨_, hl, hat⟩ := World.cells?_some hc
  match cs, hl with
  | [c0, c1, c2, c3], _ =>
    obtain ⟨y, hy, rfl, rfl, rfl, rfl⟩ := open_cells h
    exact ⟨y, hy, hat 0 (by omega), hat 1 (by omega), hat 2 (by omega), hat 3 (by omega)⟩
theorem open_ops {a : Option Addr} {len cap fuel : Nat} {x : DataW H × List MemPlace} (h : DataW.trod enc Try.prog W base (fun _ => true) held fuel 22 [.slice a len cap] = some x) :
    ∃ l : List Step, l.length = len ∧ Scr W a l := by
  rcases open_slice Try.underlying22 h with ⟨hcs, _⟩ | ⟨ad, ln, c, m, n, D, Pl, hcs, _, hl, hm, hmm, _, hcell⟩
  · simp at hcs
    obtain ⟨rfl, rfl, rfl⟩ := hcs
    exact ⟨[], rfl, by simp, by simp, by simp⟩
  · simp at hcs
    obtain ⟨rfl, rfl, rfl⟩ := hcs
    have hmc : m = cap := by simpa using hmm
    subst hmc
    have hex : ∀ i, ∃ y : Step, i < m → Ok y.m ∧ W.cell? (ad.add (i * 4)) = some (.int .i64 y.K) ∧ W.cell? (ad.add (i * 4 + 1)) = some (.string y.m.k) ∧ W.cell? (ad.add (i * 4 + 2)) = some (.int .i64 y.m.s) ∧ W.cell? (ad.add (i * 4 + 3)) = some (.int .i64 y.m.r) := by
      intro i
      by_cases hi : i < m
      · obtain ⟨cs, hc, ht⟩ := hcell i hi
        rw [cells31] at hc
        obtain ⟨y, ys, y0, y1, y2, y3⟩ := open_step hc ht
        rw [add_add] at y0 y1 y2 y3
        exact ⟨y, fun _ => ⟨ys, y0, y1, y2, y3⟩⟩
      · exact ⟨⟨0, default⟩, fun h => absurd h hi⟩
    obtain ⟨f, hfx⟩ := Classical.skolem.mp hex
    refine ⟨(List.range len).map f, by simp, by simp; omega, ?_, fun hp => ?_⟩
    · intro y hy
      obtain ⟨i, hi, rfl⟩ := List.mem_map.mp hy
      exact (hfx i (by have := List.mem_range.mp hi; omega)).1
    have hp : 0 < len := by simpa using hp
    obtain ⟨b, off, spot⟩ := ad
    have h0 := (hfx 0 (by omega)).2.1
    have hspot : spot = none := by simpa [Addr.add] using World.cell?_spot h0
    subst hspot
    refine ⟨b, off, rfl, ?_, fun k y hk => ?_⟩
    · have := block_lt_of_cell h0
      simpa [Addr.add] using this
    · obtain ⟨hkl, hky⟩ := List.getElem?_eq_some_iff.mp hk
      have hkl : k < len := by simpa using hkl
      have e : y = f k := by rw [← hky]; simp
      subst e
      obtain ⟨_, z0, z1, z2, z3⟩ := hfx k (by omega)
      rw [addr_add] at z0 z1 z2 z3
      exact ⟨z0, z1, z2, z3⟩
end
theorem int_top {n : Int} (h : (Lit.int .i64 n).wf = true) : n ≤ 9223372036854775807 := by
  have := bounds_i64 h
  omega
end Go.Proofs.Ytkonkldcallimaa
