/-
  A script's steps that came in read as such, and what each holds is below the bound of sizes. Its conditions: none.
-/
import Derived.Test.YtghfhjeaiiianaaOpen
import Derived.SizedLaws
namespace Go.Proofs.Ytghfhjeaiiianaa
open Go.ChangeShapes Go.WideShapes Go.ChangeAt Go.RowKit Go.Deep

theorem weights_of {H : Type} {P : Program} {e : TypeId} {k : Nat} : ∀ {l : List (DataW H)} {d : DataW H}, d ∈ l → k ∈ DataW.weights P e d → k ∈ DataW.weightsAll P e l
  | a :: r, d, h, hk => by
    simp only [DataW.weightsAll, List.mem_append]
    rcases List.mem_cons.mp h with rfl | h
    · exact .inl hk
    · exact .inr (weights_of h hk)
section
variable {H : Type} {enc : TypeId × Value → H} {W : World} {base : Nat} {held : Bool}
theorem open_genW {α : Type} {E : Enc α} {t e : TypeId} {Q : α → Prop} (z : α) (hu : Try.prog.underlying t = some (.slice e)) (hc : Try.prog.cellsOf e = E.wd)
    (hE : ∀ (cs : List Value) (n : Nat) (x : DataW H × List MemPlace), cs.length = E.wd → DataW.trod enc Try.prog W base (fun _ => true) held n e cs = some x → (∀ k ∈ DataW.weights Try.prog e x.1, k ≤ reachBytes) → ∃ y : α, Q y ∧ E.f y = cs)
    {a : Option Addr} {len cap fuel : Nat} {d : DataW H} {p : List MemPlace} (h : DataW.trod enc Try.prog W base (fun _ => true) held fuel t [.slice a len cap] = some (d, p)) (hw : ∀ k ∈ DataW.weights Try.prog t d, k ≤ reachBytes) :
    ∃ l : List α, l.length = len ∧ Sl E W a l ∧ ∀ y ∈ l, Q y := by
  have hp := E.pos
  rcases open_slice hu h with ⟨hcs, _⟩ | ⟨ad, ln, c, m, n, D, Pl, hcs, _, hl, hm, hmm, hx, hcell⟩
  · simp at hcs
    obtain ⟨rfl, rfl, rfl⟩ := hcs
    exact ⟨[], rfl, sl_nil _, by simp⟩
  · simp at hcs
    obtain ⟨rfl, rfl, rfl⟩ := hcs
    have hmc : m = cap := by simpa using hmm
    subst hmc
    have hd : d = .slice ((List.range len).map D) ((List.range (m - len)).map fun j => D (len + j)) := (Prod.mk.inj hx).1
    have hD : ∀ i, i < m → ∀ k ∈ DataW.weights Try.prog e (D i), k ≤ reachBytes := by
      intro i hi k hk
      refine hw k ?_
      rw [hd]
      simp only [DataW.weights, hu, List.mem_cons, List.mem_append]
      by_cases hil : i < len
      · exact .inr (.inl (weights_of (List.mem_map.mpr ⟨i, List.mem_range.mpr hil, rfl⟩) hk))
      · exact .inr (.inr (weights_of (List.mem_map.mpr ⟨i - len, List.mem_range.mpr (by omega), by rw [show len + (i - len) = i by omega]⟩) hk))
    have hex : ∀ i, ∃ y : α, i < m → Q y ∧ ∀ (j : Nat) (u : Value), (E.f y)[j]? = some u → W.cell? (ad.add (i * E.wd + j)) = some u := by
      intro i
      by_cases hi : i < m
      · obtain ⟨cs, hc2, ht⟩ := hcell i hi
        rw [hc] at hc2
        obtain ⟨_, hl2, hat⟩ := World.cells?_some hc2
        obtain ⟨y, hq, rfl⟩ := hE cs _ _ hl2 ht (hD i hi)
        refine ⟨y, fun _ => ⟨hq, fun j u hu => ?_⟩⟩
        have hj := (List.getElem?_eq_some_iff.mp hu).1
        have := hat j (by rw [← hl2]; exact hj)
        rw [add_add] at this
        rw [this, hu]
      · exact ⟨z, fun h => absurd h hi⟩
    obtain ⟨f, hf⟩ := Classical.skolem.mp hex
    refine ⟨(List.range len).map f, by simp, ⟨by simp; omega, fun hp2 => ?_⟩, ?_⟩
    · have hp2 : 0 < len := by simpa using hp2
      obtain ⟨b, off, spot⟩ := ad
      obtain ⟨u0, hu0⟩ : ∃ u, (E.f (f 0))[0]? = some u := ⟨(E.f (f 0))[0]'(by rw [E.len]; exact hp), List.getElem?_eq_getElem _⟩
      have h0 := (hf 0 (by omega)).2 0 u0 hu0
      have hspot : spot = none := by simpa [Addr.add] using World.cell?_spot h0
      subst hspot
      refine ⟨b, off, rfl, ?_, fun k y hk i u hu => ?_⟩
      · have := block_lt_of_cell h0
        simpa [Addr.add] using this
      · obtain ⟨hkl, hky⟩ := List.getElem?_eq_some_iff.mp hk
        have hkl : k < len := by simpa using hkl
        have e : y = f k := by rw [← hky]; simp
        subst e
        have := (hf k (by omega)).2 i u hu
        rw [addr_at, ← Nat.add_assoc] at this
        exact this
    · intro y hy
      obtain ⟨i, hi, rfl⟩ := List.mem_map.mp hy
      exact (hf i (by have := List.mem_range.mp hi; omega)).1
theorem open_oprsW {a : Option Addr} {len cap fuel : Nat} {d : DataW H} {p : List MemPlace} (h : DataW.trod enc Try.prog W base (fun _ => true) held fuel 22 [.slice a len cap] = some (d, p)) (hw : ∀ k ∈ DataW.weights Try.prog 22 d, k ≤ reachBytes) :
    ∃ l : List OpR, l.length = len ∧ Ops W a l ∧ ∀ x ∈ l, x.n ≤ 140737488351232 := by
  obtain ⟨l, h1, h2, h3⟩ := open_genW (E := eOp) (Q := fun x => OpOk W x ∧ x.n ≤ 140737488351232) ⟨0, 0, none, 0, 0, []⟩ Try.underlying22 cells37 (fun cs n x hl ht hk => by
    match cs, hl with
    | [c0, c1, c2], _ =>
      obtain ⟨ys, m, _, hxe, _, hyl, hf⟩ := DataW.trod_struct Try.underlying37 ht
      match ys, hyl with
      | [y0, y1, y2], _ =>
        have f0 : DataW.trod enc Try.prog W base (fun _ => true) held m 3 (([c0, c1, c2].drop 0).take (Try.prog.cellsOf 3)) = some y0 := hf 0 _ rfl
        have f1 : DataW.trod enc Try.prog W base (fun _ => true) held m 3 (([c0, c1, c2].drop 1).take (Try.prog.cellsOf 3)) = some y1 := hf 1 _ rfl
        have f2 : DataW.trod enc Try.prog W base (fun _ => true) held m 29 (([c0, c1, c2].drop 2).take (Try.prog.cellsOf 29)) = some y2 := hf 2 _ rfl
        rw [cells3] at f0 f1
        rw [cells29] at f2
        obtain ⟨k, e0, _, _⟩ := DataW.trod_int Try.underlying3 (show DataW.trod enc Try.prog W base (fun _ => true) held m 3 [c0] = some y0 from f0)
        obtain ⟨j, e1, _, hj⟩ := DataW.trod_int Try.underlying3 (show DataW.trod enc Try.prog W base (fun _ => true) held m 3 [c1] = some y1 from f1)
        have f2' : DataW.trod enc Try.prog W base (fun _ => true) held m 29 [c2] = some y2 := f2
        obtain ⟨A, n2, c, l, rfl, g1, g2, g3⟩ := cell_by f2'
        injection e0 with e0 _
        injection e1 with e1 _
        subst e0 e1
        refine ⟨⟨k, j, A, n2, c, l⟩, ⟨⟨g2, g1, g3, hj⟩, ?_⟩, rfl⟩
        show n2 ≤ _
        have hx1 : x.1 = .agg [y0.1, y1.1, y2.1] := by rw [hxe]; rfl
        have hwe : (DataW.weightsEach Try.prog [3, 3, 29] [y0.1, y1.1, y2.1]).all (· ≤ reachBytes) = true := by
          refine List.all_eq_true.mpr fun q hq => ?_
          have := hk q (by rw [hx1]; simpa [DataW.weights, Try.underlying37] using hq)
          simpa using this
        rcases DataW.trod_slice Try.underlying29 f2' with ⟨e, _⟩ | ⟨a', len', cap', elems, rest, n', _, e, hy, _, _, _, hel, _⟩
        · simp at e
          omega
        · have hlen : n2 = len' := by simp at e; exact e.2.1
          have hs := sized_slice hwe (j := 2) (t := 29) (e := 5) rfl (by rw [hy]; rfl) Try.underlying29
          rw [show Try.prog.bytesOf 5 = 1 by kernel_rfl] at hs
          simp only [List.length_map, reachBytes] at hs
          omega) h hw
  exact ⟨l, h1, ⟨h2, fun x hx => (h3 x hx).1⟩, fun x hx => (h3 x hx).2⟩
end
end Go.Proofs.Ytghfhjeaiiianaa
