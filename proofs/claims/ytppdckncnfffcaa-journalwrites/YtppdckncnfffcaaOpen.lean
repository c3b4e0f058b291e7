/-
  Slices of bytes, of slices of bytes, of steps of a script, of lives, that came in read as such. Its conditions: none.
-/
import Derived.Test.YtppdckncnfffcaaG1
namespace Go.Proofs.Ytppdckncnfffcaa
open Go.ChangeShapes Go.WideShapes Go.ChangeAt Go.RowKit Go.Deep

theorem cells3 : Try.prog.cellsOf 3 = 1 := by kernel_rfl
theorem cells4 : Try.prog.cellsOf 4 = 1 := by kernel_rfl
theorem cells5 : Try.prog.cellsOf 5 = 1 := by kernel_rfl
theorem cells38 : Try.prog.cellsOf 38 = 1 := by kernel_rfl
theorem cells40 : Try.prog.cellsOf 40 = 3 := by kernel_rfl
theorem cells54 : Try.prog.cellsOf 54 = 4 := by kernel_rfl
/-- A slice of bytes as it lies, with its bytes. -/
structure ByX where
  x : SlX
  l : List UInt8
structure ByOk (w : World) (b : ByX) : Prop where
  s : Sl eBy w b.x.A b.l
  n : b.l.length = b.x.n
  c : b.x.n ≤ b.x.c
  z : b.x.A = none → b.x.c = 0
theorem ByOk.below {w w' : World} {b : ByX} {B : Nat} (h : ByOk w b) (hB : w.heap.size ≤ B) (hb : Below B w w') : ByOk w' b := ⟨h.s.below hB hb, h.n, h.c, h.z⟩
structure OpX where
  K : Int
  N : Int
  B : ByX
structure LfX where
  S : Bool
  B : ByX
  F : Int
  C : ByX
def eX : Enc ByX := ⟨fun b => [b.x.v], 1, fun _ => rfl, fun x v hv => by simp at hv; subst hv; rfl, by decide⟩
def eOp : Enc OpX := ⟨fun x => [.int .i64 x.K, .int .i64 x.N, x.B.x.v], 3, fun _ => rfl, fun x v hv => by simp at hv; rcases hv with rfl | rfl | rfl <;> rfl, by decide⟩
def eLf : Enc LfX := ⟨fun x => [.bool x.S, x.B.x.v, .int .i64 x.F, x.C.x.v], 4, fun _ => rfl, fun x v hv => by simp at hv; rcases hv with rfl | rfl | rfl | rfl <;> rfl, by decide⟩
structure OpOk (w : World) (x : OpX) : Prop where
  b : ByOk w x.B
  k : (Lit.int .i64 x.K).wf = true
  i : (Lit.int .i64 x.N).wf = true
structure LfOk (w : World) (x : LfX) : Prop where
  b : ByOk w x.B
  f : (Lit.int .i64 x.F).wf = true
  c : ByOk w x.C
def Ops (w : World) (A : Option Addr) (l : List OpX) : Prop := Sl eOp w A l ∧ ∀ x ∈ l, OpOk w x
def Lfs (w : World) (A : Option Addr) (l : List LfX) : Prop := Sl eLf w A l ∧ ∀ x ∈ l, LfOk w x
section
variable {H : Type} {enc : TypeId × Value → H} {W : World} {base : Nat} {spare : Nat → Bool} {held : Bool}
/-- A slice that came in, whatever its elements: each is read by 'hE'. -/
theorem open_gen {α : Type} {E : Enc α} {t e : TypeId} {Q : α → Prop} (z : α) (hu : Try.prog.underlying t = some (.slice e)) (hc : Try.prog.cellsOf e = E.wd)
    (hE : ∀ (cs : List Value) (n : Nat) (x : DataW H × List MemPlace), cs.length = E.wd → DataW.trod enc Try.prog W base (fun _ => true) held n e cs = some x → ∃ y : α, Q y ∧ E.f y = cs)
    {a : Option Addr} {len cap fuel : Nat} {x : DataW H × List MemPlace} (h : DataW.trod enc Try.prog W base (fun _ => true) held fuel t [.slice a len cap] = some x) :
    ∃ l : List α, l.length = len ∧ Sl E W a l ∧ ∀ y ∈ l, Q y := by
  have hp := E.pos
  rcases open_slice hu h with ⟨hcs, _⟩ | ⟨ad, ln, c, m, n, D, Pl, hcs, _, hl, hm, hmm, _, hcell⟩
  · simp at hcs
    obtain ⟨rfl, rfl, rfl⟩ := hcs
    exact ⟨[], rfl, sl_nil _, by simp⟩
  · simp at hcs
    obtain ⟨rfl, rfl, rfl⟩ := hcs
    have hmc : m = cap := by simpa using hmm
    subst hmc
    have hex : ∀ i, ∃ y : α, i < m → Q y ∧ ∀ (j : Nat) (u : Value), (E.f y)[j]? = some u → W.cell? (ad.add (i * E.wd + j)) = some u := by
      intro i
      by_cases hi : i < m
      · obtain ⟨cs, hc2, ht⟩ := hcell i hi
        rw [hc] at hc2
        obtain ⟨_, hl2, hat⟩ := World.cells?_some hc2
        obtain ⟨y, hq, rfl⟩ := hE cs _ _ hl2 ht
        refine ⟨y, fun _ => ⟨hq, fun j u hu => ?_⟩⟩
        have hj := (List.getElem?_eq_some_iff.mp hu).1
        have := hat j (by rw [← hl2]; exact hj)
        rw [add_add] at this
        rw [this, hu]
      · exact ⟨z, fun h => absurd h hi⟩
    obtain ⟨f, hf⟩ := Classical.skolem.mp hex
    refine ⟨(List.range len).map f, by simp, ⟨by simp; omega, fun hp2 => ?_⟩, ?_⟩
    · have hp2 : 0 < len := by simpa using hp2
      obtain ⟨b, off, spot⟩ := ad
      obtain ⟨u0, hu0⟩ : ∃ u, (E.f (f 0))[0]? = some u := ⟨(E.f (f 0))[0]'(by rw [E.len]; exact hp), List.getElem?_eq_getElem _⟩
      have h0 := (hf 0 (by omega)).2 0 u0 hu0
      have hspot : spot = none := by simpa [Addr.add] using World.cell?_spot h0
      subst hspot
      refine ⟨b, off, rfl, ?_, fun k y hk i u hu => ?_⟩
      · have := block_lt_of_cell h0
        simpa [Addr.add] using this
      · obtain ⟨hkl, hky⟩ := List.getElem?_eq_some_iff.mp hk
        have hkl : k < len := by simpa using hkl
        have e : y = f k := by rw [← hky]; simp
        subst e
        have := (hf k (by omega)).2 i u hu
        rw [addr_at, ← Nat.add_assoc] at this
        exact this
    · intro y hy
      obtain ⟨i, hi, rfl⟩ := List.mem_map.mp hy
      exact (hf i (by have := List.mem_range.mp hi; omega)).1
theorem one_by (cs : List Value) (n : Nat) (x : DataW H × List MemPlace) (hl : cs.length = 1) (ht : DataW.trod enc Try.prog W base (fun _ => true) held n 5 cs = some x) : ∃ y : UInt8, True ∧ eBy.f y = cs := by
  match cs, hl with
  | [c0], _ =>
    obtain ⟨k, e1, _, hs⟩ := DataW.trod_int Try.underlying5 ht
    injection e1 with e1 _
    subst e1
    have hb := bounds_u8 hs
    refine ⟨UInt8.ofNat k.toNat, trivial, ?_⟩
    show [Value.int .u8 ((UInt8.ofNat k.toNat).toNat : Int)] = _
    rw [UInt8.toNat_ofNat', Nat.mod_eq_of_lt (by omega)]
    congr 2
    omega
theorem open_by {a : Option Addr} {len cap fuel : Nat} {x : DataW H × List MemPlace} (h : DataW.trod enc Try.prog W base (fun _ => true) held fuel 38 [.slice a len cap] = some x) :
    ∃ l : List UInt8, l.length = len ∧ Sl eBy W a l := by
  obtain ⟨l, h1, h2, _⟩ := open_gen (E := eBy) (Q := fun _ => True) 0 Try.underlying38 cells5 one_by h
  exact ⟨l, h1, h2⟩
/-- A slice of bytes that lies in a cell. -/
theorem cell_by {c0 : Value} {n : Nat} {x : DataW H × List MemPlace} (h : DataW.trod enc Try.prog W base (fun _ => true) held n 38 [c0] = some x) : ∃ b : ByX, c0 = b.x.v ∧ ByOk W b := by
  have hs : ∃ (A : Option Addr) (k c : Nat), c0 = .slice A k c ∧ k ≤ c ∧ (A = none → c = 0) := by
    rcases DataW.trod_slice Try.underlying38 h with ⟨e, _⟩ | ⟨a, len, cap, _, _, _, _, e, _, _, hlc, _⟩
    · injection e with e _
      exact ⟨none, 0, 0, e, Nat.le_refl _, fun _ => rfl⟩
    · injection e with e _
      exact ⟨some a, len, cap, e, hlc, fun h => by cases h⟩
  obtain ⟨A, k, c, rfl, hkc, hz⟩ := hs
  obtain ⟨l, h1, h2⟩ := open_by h
  exact ⟨⟨⟨A, k, c⟩, l⟩, rfl, h2, h1, hkc, hz⟩
theorem open_rcs {a : Option Addr} {len cap fuel : Nat} {x : DataW H × List MemPlace} (h : DataW.trod enc Try.prog W base (fun _ => true) held fuel 30 [.slice a len cap] = some x) :
    ∃ rs : List (List UInt8), Rcs W a len rs ∧ len ≤ cap := by
  have hlc : len ≤ cap := by
    rcases DataW.trod_slice Try.underlying30 h with ⟨e, _⟩ | ⟨a2, len2, cap2, _, _, _, _, e, _, _, hlc, _⟩
    · simp at e; omega
    · simp at e; omega
  obtain ⟨l, h1, h2, h3⟩ := open_gen (E := eX) (Q := ByOk W) ⟨⟨none, 0, 0⟩, []⟩ Try.underlying30 cells38 (fun cs n x hl ht => by
    match cs, hl with
    | [c0], _ =>
      obtain ⟨b, rfl, hb⟩ := cell_by ht
      exact ⟨b, hb, rfl⟩) h
  refine ⟨l.map (·.l), ⟨l.map (·.x), ⟨by rw [List.length_map]; exact h2.1, fun hp => ?_⟩, by rw [List.length_map]; exact h1, by simp, fun k x r e1 e2 => ?_⟩, ?_⟩
  · obtain ⟨b, off, e, hb, hc⟩ := h2.2 (by simpa using hp)
    refine ⟨b, off, e, hb, fun k x hk i u hu => ?_⟩
    rw [List.getElem?_map] at hk
    cases hlk : l[k]? with
    | none => rw [hlk] at hk; cases hk
    | some y =>
      rw [hlk] at hk
      injection hk with hk
      subst hk
      exact hc k y hlk i u hu
  · rw [List.getElem?_map] at e1 e2
    cases hlk : l[k]? with
    | none => rw [hlk] at e1; cases e1
    | some y =>
      rw [hlk] at e1 e2
      injection e1 with e1
      injection e2 with e2
      subst e1 e2
      have := h3 y (List.mem_of_getElem? hlk)
      exact ⟨this.s, this.n, this.c, this.z⟩
  · exact hlc
theorem open_ops {a : Option Addr} {len cap fuel : Nat} {x : DataW H × List MemPlace} (h : DataW.trod enc Try.prog W base (fun _ => true) held fuel 22 [.slice a len cap] = some x) :
    ∃ l : List OpX, l.length = len ∧ Ops W a l := by
  obtain ⟨l, h1, h2, h3⟩ := open_gen (E := eOp) (Q := OpOk W) ⟨0, 0, ⟨⟨none, 0, 0⟩, []⟩⟩ Try.underlying22 cells40 (fun cs n x hl ht => by
    match cs, hl with
    | [c0, c1, c2], _ =>
      obtain ⟨ys, m, _, _, _, hyl, hf⟩ := DataW.trod_struct Try.underlying40 ht
      match ys, hyl with
      | [y0, y1, y2], _ =>
        have f0 : DataW.trod enc Try.prog W base (fun _ => true) held m 3 (([c0, c1, c2].drop 0).take (Try.prog.cellsOf 3)) = some y0 := hf 0 _ rfl
        have f1 : DataW.trod enc Try.prog W base (fun _ => true) held m 3 (([c0, c1, c2].drop 1).take (Try.prog.cellsOf 3)) = some y1 := hf 1 _ rfl
        have f2 : DataW.trod enc Try.prog W base (fun _ => true) held m 38 (([c0, c1, c2].drop 2).take (Try.prog.cellsOf 38)) = some y2 := hf 2 _ rfl
        rw [cells3] at f0 f1
        rw [cells38] at f2
        obtain ⟨k, e0, _, hk⟩ := DataW.trod_int Try.underlying3 (show DataW.trod enc Try.prog W base (fun _ => true) held m 3 [c0] = some y0 from f0)
        obtain ⟨j, e1, _, hj⟩ := DataW.trod_int Try.underlying3 (show DataW.trod enc Try.prog W base (fun _ => true) held m 3 [c1] = some y1 from f1)
        obtain ⟨b, rfl, hb⟩ := cell_by (show DataW.trod enc Try.prog W base (fun _ => true) held m 38 [c2] = some y2 from f2)
        injection e0 with e0 _
        injection e1 with e1 _
        subst e0 e1
        exact ⟨⟨k, j, b⟩, ⟨hb, hk, hj⟩, rfl⟩) h
  exact ⟨l, h1, h2, h3⟩
theorem open_lfs {a : Option Addr} {len cap fuel : Nat} {x : DataW H × List MemPlace} (h : DataW.trod enc Try.prog W base (fun _ => true) held fuel 52 [.slice a len cap] = some x) :
    ∃ l : List LfX, l.length = len ∧ Lfs W a l := by
  obtain ⟨l, h1, h2, h3⟩ := open_gen (E := eLf) (Q := LfOk W) ⟨false, ⟨⟨none, 0, 0⟩, []⟩, 0, ⟨⟨none, 0, 0⟩, []⟩⟩ Try.underlying52 cells54 (fun cs n x hl ht => by
    match cs, hl with
    | [c0, c1, c2, c3], _ =>
      obtain ⟨ys, m, _, _, _, hyl, hf⟩ := DataW.trod_struct Try.underlying54 ht
      match ys, hyl with
      | [y0, y1, y2, y3], _ =>
        have f0 : DataW.trod enc Try.prog W base (fun _ => true) held m 4 (([c0, c1, c2, c3].drop 0).take (Try.prog.cellsOf 4)) = some y0 := hf 0 _ rfl
        have f1 : DataW.trod enc Try.prog W base (fun _ => true) held m 38 (([c0, c1, c2, c3].drop 1).take (Try.prog.cellsOf 38)) = some y1 := hf 1 _ rfl
        have f2 : DataW.trod enc Try.prog W base (fun _ => true) held m 3 (([c0, c1, c2, c3].drop 2).take (Try.prog.cellsOf 3)) = some y2 := hf 2 _ rfl
        have f3 : DataW.trod enc Try.prog W base (fun _ => true) held m 38 (([c0, c1, c2, c3].drop 3).take (Try.prog.cellsOf 38)) = some y3 := hf 3 _ rfl
        rw [cells4] at f0
        rw [cells3] at f2
        rw [cells38] at f1 f3
        obtain ⟨s, e0, _⟩ := DataW.trod_bool Try.underlying4 (show DataW.trod enc Try.prog W base (fun _ => true) held m 4 [c0] = some y0 from f0)
        obtain ⟨b, rfl, hb⟩ := cell_by (show DataW.trod enc Try.prog W base (fun _ => true) held m 38 [c1] = some y1 from f1)
        obtain ⟨j, e2, _, hj⟩ := DataW.trod_int Try.underlying3 (show DataW.trod enc Try.prog W base (fun _ => true) held m 3 [c2] = some y2 from f2)
        obtain ⟨c, rfl, hc⟩ := cell_by (show DataW.trod enc Try.prog W base (fun _ => true) held m 38 [c3] = some y3 from f3)
        injection e0 with e0 _
        injection e2 with e2 _
        subst e0 e2
        exact ⟨⟨s, b, j, c⟩, ⟨hb, hj, hc⟩, rfl⟩) h
  exact ⟨l, h1, h2, h3⟩
end
end Go.Proofs.Ytppdckncnfffcaa
