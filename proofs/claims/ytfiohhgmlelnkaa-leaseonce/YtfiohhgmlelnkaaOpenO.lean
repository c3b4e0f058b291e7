/-
  A script, keys and a struct that came in read as such. Its conditions: none.
-/
import Derived.Test.YtfiohhgmlelnkaaW8
import Derived.ProofKit
import Derived.Deep.Slices
namespace Go.Proofs.Ytfiohhgmlelnkaa
open Go.ChangeShapes Go.WideShapes Go.ChangeAt Go.RowKit Go.Deep

theorem addr_add (b o k : Nat) : (⟨b, o, none⟩ : Addr).add k = ⟨b, o + k, none⟩ := by unfold Addr.add; split <;> simp_all
theorem cells31 : Try.prog.cellsOf 31 = 3 := by kernel_rfl
theorem cells49 : Try.prog.cellsOf 49 = 2 := by kernel_rfl
theorem cells2 : Try.prog.cellsOf 2 = 1 := by kernel_rfl
theorem cells3 : Try.prog.cellsOf 3 = 1 := by kernel_rfl
theorem cells5 : Try.prog.cellsOf 5 = 1 := by kernel_rfl
theorem cellsS : Try.prog.cellsOf 9 = 1 := by kernel_rfl
theorem list2 {α : Type} (l : List α) (h : (⟨l⟩ : Array α).size = 2) : ∃ a b, l = [a, b] := by
  match l, h with
  | [a, b], _ => exact ⟨a, b, rfl⟩
section
variable {H : Type} {enc : TypeId × Value → H} {W : World} {base : Nat} {spare : Nat → Bool} {held : Bool}
theorem open_harm {v : Value} {d : DataW H} {p : List MemPlace} {b0 : Nat} (hval : Value.okWide Try.prog W .any b0 49 v) (h : DataW.Trod enc Try.prog W base spare held 49 v d p) :
    ∃ x y : Int, v = .agg #[.int .u8 x, .int .i64 y] ∧ 0 ≤ x ∧ x ≤ 255 := by
  obtain ⟨cs, rfl, hsz2, _⟩ : ∃ cs, v = .agg cs ∧ cs.size = Try.prog.cellsOf 49 ∧ Row.okWide Try.prog W .any b0 49 cs := by
    simpa [Value.okWide, Try.underlying49] using hval
  rw [cells49] at hsz2
  obtain ⟨l⟩ := cs
  obtain ⟨c0, c1, rfl⟩ := list2 l hsz2
  obtain ⟨fuel, hf⟩ := h
  obtain ⟨ys, m, _, _, _, hyl, hh⟩ := DataW.trod_struct Try.underlying49 hf
  match ys, hyl with
  | [y0, y1], _ =>
    have f0 : DataW.trod enc Try.prog W base spare held m 5 (([c0, c1].drop 0).take (Try.prog.cellsOf 5)) = some y0 := hh 0 _ rfl
    have f1 : DataW.trod enc Try.prog W base spare held m 2 (([c0, c1].drop 1).take (Try.prog.cellsOf 2)) = some y1 := hh 1 _ rfl
    rw [cells5] at f0
    rw [cells2] at f1
    obtain ⟨k, e0, _, hk⟩ := DataW.trod_int Try.underlying5 (show DataW.trod enc Try.prog W base spare held m 5 [c0] = some y0 from f0)
    obtain ⟨q, e1, _, _⟩ := DataW.trod_int Try.underlying2 (show DataW.trod enc Try.prog W base spare held m 2 [c1] = some y1 from f1)
    injection e0 with e0 _
    injection e1 with e1 _
    subst e0 e1
    have := bounds_u8 hk
    exact ⟨k, q, rfl, this.1, this.2⟩
theorem open_step {a : Addr} {cs : List Value} {n : Nat} {x : DataW H × List MemPlace} (hc : W.cells? base a 3 = some cs) (h : DataW.trod enc Try.prog W base spare held n 31 cs = some x) :
    ∃ y : Step, y.key.size ≤ maxLen ∧ W.cell? (a.add 0) = some (.int .i64 y.K) ∧ W.cell? (a.add 1) = some (.string y.key) ∧ W.cell? (a.add 2) = some (.int .i64 y.T) := by
  obtain ⟨_, hl, hat⟩ := World.cells?_some hc
  obtain ⟨ys, m, _, _, _, hyl, hf⟩ := DataW.trod_struct Try.underlying31 h
  match cs, hl with
  | [c0, c1, c2], _ =>
    match ys, hyl with
    | [y0, y1, y2], _ =>
      have f0 : DataW.trod enc Try.prog W base spare held m 3 (([c0, c1, c2].drop 0).take (Try.prog.cellsOf 3)) = some y0 := hf 0 _ rfl
      have f1 : DataW.trod enc Try.prog W base spare held m 9 (([c0, c1, c2].drop 1).take (Try.prog.cellsOf 9)) = some y1 := hf 1 _ rfl
      have f2 : DataW.trod enc Try.prog W base spare held m 2 (([c0, c1, c2].drop 2).take (Try.prog.cellsOf 2)) = some y2 := hf 2 _ rfl
      rw [cells3] at f0
      rw [cellsS] at f1
      rw [cells2] at f2
      obtain ⟨k, e0, _, _⟩ := DataW.trod_int Try.underlying3 (show DataW.trod enc Try.prog W base spare held m 3 [c0] = some y0 from f0)
      obtain ⟨s, e1, _, hs⟩ := DataW.trod_string Try.underlying9 (show DataW.trod enc Try.prog W base spare held m 9 [c1] = some y1 from f1)
      obtain ⟨q, e2, _, _⟩ := DataW.trod_int Try.underlying2 (show DataW.trod enc Try.prog W base spare held m 2 [c2] = some y2 from f2)
      injection e0 with e0 _
      injection e1 with e1 _
      injection e2 with e2 _
      subst e0 e1 e2
      exact ⟨⟨k, s, q⟩, hs, hat 0 (by omega), hat 1 (by omega), hat 2 (by omega)⟩
theorem open_ops {a : Option Addr} {len cap fuel : Nat} {x : DataW H × List MemPlace} (h : DataW.trod enc Try.prog W base (fun _ => true) held fuel 22 [.slice a len cap] = some x) :
    ∃ l : List Step, l.length = len ∧ Scr W a l := by
  rcases open_slice Try.underlying22 h with ⟨hcs, _⟩ | ⟨ad, ln, c, m, n, D, Pl, hcs, _, hl, hm, hmm, _, hcell⟩
  · simp at hcs
    obtain ⟨rfl, rfl, rfl⟩ := hcs
    exact ⟨[], rfl, by simp, by simp, by simp⟩
  · simp at hcs
    obtain ⟨rfl, rfl, rfl⟩ := hcs
    have hmc : m = cap := by simpa using hmm
    subst hmc
    have hex : ∀ i, ∃ y : Step, i < m → y.key.size ≤ maxLen ∧ W.cell? (ad.add (i * 3)) = some (.int .i64 y.K) ∧ W.cell? (ad.add (i * 3 + 1)) = some (.string y.key) ∧ W.cell? (ad.add (i * 3 + 2)) = some (.int .i64 y.T) := by
      intro i
      by_cases hi : i < m
      · obtain ⟨cs, hc, ht⟩ := hcell i hi
        rw [cells31] at hc
        obtain ⟨y, ys, y0, y1, y2⟩ := open_step hc ht
        rw [add_add] at y0 y1 y2
        exact ⟨y, fun _ => ⟨ys, y0, y1, y2⟩⟩
      · exact ⟨⟨0, ⟨#[]⟩, 0⟩, fun h => absurd h hi⟩
    obtain ⟨f, hfx⟩ := Classical.skolem.mp hex
    refine ⟨(List.range len).map f, by simp, by simp; omega, ?_, fun hp => ?_⟩
    · intro y hy
      obtain ⟨i, hi, rfl⟩ := List.mem_map.mp hy
      exact (hfx i (by have := List.mem_range.mp hi; omega)).1
    have hp : 0 < len := by simpa using hp
    obtain ⟨b, off, spot⟩ := ad
    have h0 := (hfx 0 (by omega)).2.1
    have hspot : spot = none := by simpa [Addr.add] using World.cell?_spot h0
    subst hspot
    refine ⟨b, off, rfl, ?_, fun k y hk => ?_⟩
    · have := block_lt_of_cell h0
      simpa [Addr.add] using this
    · obtain ⟨hkl, hky⟩ := List.getElem?_eq_some_iff.mp hk
      have hkl : k < len := by simpa using hkl
      have e : y = f k := by rw [← hky]; simp
      subst e
      obtain ⟨_, z0, z1, z2⟩ := hfx k (by omega)
      rw [addr_add] at z0 z1 z2
      exact ⟨z0, z1, z2⟩
theorem open_kys {a : Option Addr} {len cap fuel : Nat} {x : DataW H × List MemPlace} (h : DataW.trod enc Try.prog W base (fun _ => true) held fuel 41 [.slice a len cap] = some x) :
    ∃ l : List ByteArray, l.length = len ∧ Kys W a l := by
  rcases open_slice Try.underlying41 h with ⟨hcs, _⟩ | ⟨ad, ln, c, m, n, D, Pl, hcs, _, hl, hm, hmm, _, hcell⟩
  · simp at hcs
    obtain ⟨rfl, rfl, rfl⟩ := hcs
    exact ⟨[], rfl, ⟨by simp, by simp⟩, by simp⟩
  · simp at hcs
    obtain ⟨rfl, rfl, rfl⟩ := hcs
    have hmc : m = cap := by simpa using hmm
    subst hmc
    have hex : ∀ i, ∃ y : ByteArray, i < m → y.size ≤ maxLen ∧ W.cell? (ad.add i) = some (.string y) := by
      intro i
      by_cases hi : i < m
      · obtain ⟨cs, hc, ht⟩ := hcell i hi
        rw [cellsS] at hc
        obtain ⟨_, hl1, hat⟩ := World.cells?_some hc
        match cs, hl1 with
        | [c0], _ =>
          obtain ⟨s, e0, _, hs⟩ := DataW.trod_string Try.underlying9 ht
          injection e0 with e0 _
          subst e0
          have z0 := hat 0 (by omega)
          rw [add_add] at z0
          exact ⟨s, fun _ => ⟨hs, by simpa using z0⟩⟩
      · exact ⟨⟨#[]⟩, fun h => absurd h hi⟩
    obtain ⟨f, hfx⟩ := Classical.skolem.mp hex
    refine ⟨(List.range len).map f, by simp, ⟨by simp; omega, fun hp => ?_⟩, ?_⟩
    · have hp : 0 < len := by simpa using hp
      obtain ⟨b, off, spot⟩ := ad
      have h0 := (hfx 0 (by omega)).2
      have hspot : spot = none := by simpa [Addr.add] using World.cell?_spot h0
      subst hspot
      refine ⟨b, off, rfl, ?_, fun k y hk => ?_⟩
      · have := block_lt_of_cell h0
        simpa [Addr.add] using this
      · obtain ⟨hkl, hky⟩ := List.getElem?_eq_some_iff.mp hk
        have hkl : k < len := by simpa using hkl
        have e : y = f k := by rw [← hky]; simp
        subst e
        have z0 := (hfx k (by omega)).2
        rw [addr_add] at z0
        exact z0
    · intro y hy
      obtain ⟨i, hi, rfl⟩ := List.mem_map.mp hy
      exact (hfx i (by have := List.mem_range.mp hi; omega)).1
end
theorem int_top {n : Int} (h : (Lit.int .i64 n).wf = true) : n ≤ 9223372036854775807 := by
  have := bounds_i64 h
  omega
end Go.Proofs.Ytfiohhgmlelnkaa
