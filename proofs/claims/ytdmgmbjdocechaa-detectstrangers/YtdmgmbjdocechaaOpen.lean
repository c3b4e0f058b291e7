/-
  Slices of texts, of numbers, of a script's steps, and an array of two bytes, that came in read as such. Its conditions: none.
-/
import Derived.Test.YtdmgmbjdocechaaW6
import Derived.ProofKit
import Derived.Deep.Slices
namespace Go.Proofs.Ytdmgmbjdocechaa
open Go.ChangeShapes Go.WideShapes Go.ChangeAt Go.RowKit Go.Deep

theorem cells9 : Try.prog.cellsOf 9 = 1 := by kernel_rfl
theorem cells3 : Try.prog.cellsOf 3 = 1 := by kernel_rfl
theorem cells5 : Try.prog.cellsOf 5 = 1 := by kernel_rfl
theorem cells30 : Try.prog.cellsOf 30 = 2 := by kernel_rfl
theorem cells44 : Try.prog.cellsOf 44 = 2 := by kernel_rfl
def Strs (w : World) (A : Option Addr) (l : List ByteArray) : Prop := Sl eKy w A l ∧ Sized l
def Nums (w : World) (A : Option Addr) (l : List Int) : Prop := Sl eIn w A l
def Scr (w : World) (A : Option Addr) (l : List Step) : Prop := Sl eSt w A l ∧ ∀ x ∈ l, x.k.size ≤ maxLen
section
variable {H : Type} {enc : TypeId × Value → H} {W : World} {base : Nat} {spare : Nat → Bool} {held : Bool}
/-- A slice that came in, whatever its elements: each is read by 'hE'. -/
theorem open_gen {α : Type} {E : Enc α} {t e : TypeId} {Q : α → Prop} (z : α) (hu : Try.prog.underlying t = some (.slice e)) (hc : Try.prog.cellsOf e = E.wd)
    (hE : ∀ (cs : List Value) (n : Nat) (x : DataW H × List MemPlace), cs.length = E.wd → DataW.trod enc Try.prog W base (fun _ => true) held n e cs = some x → ∃ y : α, Q y ∧ E.f y = cs)
    {a : Option Addr} {len cap fuel : Nat} {x : DataW H × List MemPlace} (h : DataW.trod enc Try.prog W base (fun _ => true) held fuel t [.slice a len cap] = some x) :
    ∃ l : List α, l.length = len ∧ Sl E W a l ∧ ∀ y ∈ l, Q y := by
  have hp := E.pos
  rcases open_slice hu h with ⟨hcs, _⟩ | ⟨ad, ln, c, m, n, D, Pl, hcs, _, hl, hm, hmm, _, hcell⟩
  · simp at hcs
    obtain ⟨rfl, rfl, rfl⟩ := hcs
    exact ⟨[], rfl, sl_nil _, by simp⟩
  · simp at hcs
    obtain ⟨rfl, rfl, rfl⟩ := hcs
    have hmc : m = cap := by simpa using hmm
    subst hmc
    have hex : ∀ i, ∃ y : α, i < m → Q y ∧ ∀ (j : Nat) (u : Value), (E.f y)[j]? = some u → W.cell? (ad.add (i * E.wd + j)) = some u := by
      intro i
      by_cases hi : i < m
      · obtain ⟨cs, hc2, ht⟩ := hcell i hi
        rw [hc] at hc2
        obtain ⟨_, hl2, hat⟩ := World.cells?_some hc2
        obtain ⟨y, hq, rfl⟩ := hE cs _ _ hl2 ht
        refine ⟨y, fun _ => ⟨hq, fun j u hu => ?_⟩⟩
        have hj := (List.getElem?_eq_some_iff.mp hu).1
        have := hat j (by rw [← hl2]; exact hj)
        rw [add_add] at this
        rw [this, hu]
      · exact ⟨z, fun h => absurd h hi⟩
    obtain ⟨f, hf⟩ := Classical.skolem.mp hex
    refine ⟨(List.range len).map f, by simp, ⟨by simp; omega, fun hp2 => ?_⟩, ?_⟩
    · have hp2 : 0 < len := by simpa using hp2
      obtain ⟨b, off, spot⟩ := ad
      obtain ⟨u0, hu0⟩ : ∃ u, (E.f (f 0))[0]? = some u := ⟨(E.f (f 0))[0]'(by rw [E.len]; exact hp), List.getElem?_eq_getElem _⟩
      have h0 := (hf 0 (by omega)).2 0 u0 hu0
      have hspot : spot = none := by simpa [Addr.add] using World.cell?_spot h0
      subst hspot
      refine ⟨b, off, rfl, ?_, fun k y hk i u hu => ?_⟩
      · have := block_lt_of_cell h0
        simpa [Addr.add] using this
      · obtain ⟨hkl, hky⟩ := List.getElem?_eq_some_iff.mp hk
        have hkl : k < len := by simpa using hkl
        have e : y = f k := by rw [← hky]; simp
        subst e
        have := (hf k (by omega)).2 i u hu
        rw [addr_at, ← Nat.add_assoc] at this
        exact this
    · intro y hy
      obtain ⟨i, hi, rfl⟩ := List.mem_map.mp hy
      exact (hf i (by have := List.mem_range.mp hi; omega)).1
theorem open_strs {a : Option Addr} {len cap fuel : Nat} {x : DataW H × List MemPlace} (h : DataW.trod enc Try.prog W base (fun _ => true) held fuel 22 [.slice a len cap] = some x) :
    ∃ l : List ByteArray, l.length = len ∧ Strs W a l := by
  obtain ⟨l, h1, h2, h3⟩ := open_gen (E := eKy) (Q := fun s => s.size ≤ maxLen) ⟨#[]⟩ Try.underlying22 cells9 (fun cs n x hl ht => by
    match cs, hl with
    | [c0], _ =>
      obtain ⟨s, e1, _, hs⟩ := DataW.trod_string Try.underlying9 ht
      injection e1 with e1 _
      subst e1
      exact ⟨s, hs, rfl⟩) h
  exact ⟨l, h1, h2, h3⟩
theorem open_nums {a : Option Addr} {len cap fuel : Nat} {x : DataW H × List MemPlace} (h : DataW.trod enc Try.prog W base (fun _ => true) held fuel 41 [.slice a len cap] = some x) :
    ∃ l : List Int, l.length = len ∧ Nums W a l := by
  obtain ⟨l, h1, h2, _⟩ := open_gen (E := eIn) (Q := fun _ => True) 0 Try.underlying41 cells3 (fun cs n x hl ht => by
    match cs, hl with
    | [c0], _ =>
      obtain ⟨k, e1, _, hs⟩ := DataW.trod_int Try.underlying3 ht
      injection e1 with e1 _
      subst e1
      exact ⟨k, trivial, rfl⟩) h
  exact ⟨l, h1, h2⟩
theorem open_ops {a : Option Addr} {len cap fuel : Nat} {x : DataW H × List MemPlace} (h : DataW.trod enc Try.prog W base (fun _ => true) held fuel 23 [.slice a len cap] = some x) :
    ∃ l : List Step, l.length = len ∧ Scr W a l := by
  obtain ⟨l, h1, h2, h3⟩ := open_gen (E := eSt) (Q := fun s => s.k.size ≤ maxLen) ⟨0, ⟨#[]⟩⟩ Try.underlying23 cells30 (fun cs n x hl ht => by
    match cs, hl with
    | [c0, c1], _ =>
      obtain ⟨ys, m, _, _, _, hyl, hf⟩ := DataW.trod_struct Try.underlying30 ht
      match ys, hyl with
      | [y0, y1], _ =>
        have f0 : DataW.trod enc Try.prog W base (fun _ => true) held m 3 (([c0, c1].drop 0).take (Try.prog.cellsOf 3)) = some y0 := hf 0 _ rfl
        have f1 : DataW.trod enc Try.prog W base (fun _ => true) held m 9 (([c0, c1].drop 1).take (Try.prog.cellsOf 9)) = some y1 := hf 1 _ rfl
        rw [cells3] at f0
        rw [cells9] at f1
        obtain ⟨k, e0, _, _⟩ := DataW.trod_int Try.underlying3 (show DataW.trod enc Try.prog W base (fun _ => true) held m 3 [c0] = some y0 from f0)
        obtain ⟨s, e1, _, hs⟩ := DataW.trod_string Try.underlying9 (show DataW.trod enc Try.prog W base (fun _ => true) held m 9 [c1] = some y1 from f1)
        injection e0 with e0 _
        injection e1 with e1 _
        subst e0 e1
        exact ⟨⟨k, s⟩, hs, rfl⟩) h
  exact ⟨l, h1, h2, h3⟩
/-- An array of two bytes that came in by value. -/
theorem open_two8 {v : Value} {d : DataW H} {p : List MemPlace} {b0 : Nat} (hval : Value.okWide Try.prog W .any b0 44 v) (h : DataW.Trod enc Try.prog W base spare held 44 v d p) :
    ∃ x y : Int, v = .agg #[.int .u8 x, .int .u8 y] ∧ (0 ≤ x ∧ x ≤ 255) ∧ (0 ≤ y ∧ y ≤ 255) := by
  obtain ⟨⟨l⟩, rfl, hsz2, _⟩ : ∃ cs, v = .agg cs ∧ cs.size = Try.prog.cellsOf 44 ∧ Row.okWide Try.prog W .any b0 44 cs := by
    simpa [Value.okWide, Try.underlying44] using hval
  rw [cells44] at hsz2
  match l, hsz2 with
  | [c0, c1], _ =>
    obtain ⟨fuel, hf⟩ := h
    have hf : DataW.trod enc Try.prog W base spare held fuel 44 [c0, c1] = some (d, p) := hf
    cases fuel with
    | zero => simp [DataW.trod] at hf
    | succ n =>
      unfold DataW.trod at hf
      rw [Try.underlying44] at hf
      simp [show List.range 2 = [0, 1] from rfl, cells5] at hf
      obtain ⟨_, hf⟩ := hf
      cases e0 : DataW.trod enc Try.prog W base spare held n 5 [c0] with
      | none => simp [e0] at hf
      | some y0 =>
        cases e1 : DataW.trod enc Try.prog W base spare held n 5 [c1] with
        | none => simp [e0, e1] at hf
        | some y1 =>
          obtain ⟨x, k0, _, u0⟩ := DataW.trod_int Try.underlying5 e0
          obtain ⟨y, k1, _, u1⟩ := DataW.trod_int Try.underlying5 e1
          injection k0 with k0 _
          injection k1 with k1 _
          subst k0 k1
          have b0 := bounds_u8 u0
          have b1 := bounds_u8 u1
          exact ⟨x, y, rfl, by omega, by omega⟩
end
end Go.Proofs.Ytdmgmbjdocechaa
