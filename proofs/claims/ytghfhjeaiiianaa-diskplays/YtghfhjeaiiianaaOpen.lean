/-
  Slices of bytes, of Puts, of a script's steps, and a struct of three slices of bytes and a number by value, that came in read as such. Its conditions: none.
-/
import Derived.Test.YtghfhjeaiiianaaW14
import Derived.ProofKit
import Derived.Deep.Slices
namespace Go.Proofs.Ytghfhjeaiiianaa
open Go.ChangeShapes Go.WideShapes Go.ChangeAt Go.RowKit Go.Deep

theorem cells3 : Try.prog.cellsOf 3 = 1 := by kernel_rfl
theorem cells4 : Try.prog.cellsOf 4 = 1 := by kernel_rfl
theorem cells5 : Try.prog.cellsOf 5 = 1 := by kernel_rfl
theorem cells29 : Try.prog.cellsOf 29 = 1 := by kernel_rfl
theorem cells37 : Try.prog.cellsOf 37 = 3 := by kernel_rfl
theorem cells51 : Try.prog.cellsOf 51 = 4 := by kernel_rfl
theorem cells56 : Try.prog.cellsOf 56 = 3 := by kernel_rfl
/-- A step of a script as it lies: its bytes are told apart. -/
structure OpR where
  K : Int
  I : Int
  A : Option Addr
  n : Nat
  c : Nat
  l : List UInt8
/-- A Torn as it lies. -/
structure TornR where
  A0 : Option Addr
  n0 : Nat
  c0 : Nat
  l0 : List UInt8
  A1 : Option Addr
  n1 : Nat
  c1 : Nat
  l1 : List UInt8
  A2 : Option Addr
  n2 : Nat
  c2 : Nat
  l2 : List UInt8
  i : Int
def tornV (x : TornR) : Value := .agg #[.slice x.A0 x.n0 x.c0, .slice x.A1 x.n1 x.c1, .slice x.A2 x.n2 x.c2, .int .i64 x.i]
structure TornOk (w : World) (x : TornR) : Prop where
  a : Sl eBy w x.A0 x.l0 ∧ x.l0.length = x.n0
  b : Sl eBy w x.A1 x.l1 ∧ x.l1.length = x.n1
  c : Sl eBy w x.A2 x.l2 ∧ x.l2.length = x.n2
  i : (Lit.int .i64 x.i).wf = true
/-- A step's cells. -/
def eOp : Enc OpR := ⟨fun x => [.int .i64 x.K, .int .i64 x.I, .slice x.A x.n x.c], 3, fun _ => rfl, fun x v hv => by simp at hv; rcases hv with rfl | rfl | rfl <;> rfl, by decide⟩
structure OpOk (w : World) (x : OpR) : Prop where
  b : Sl eBy w x.A x.l
  n : x.l.length = x.n
  z : x.A = none → x.c = 0
  i : (Lit.int .i64 x.I).wf = true
def Puts (w : World) (A : Option Addr) (l : List Pt) : Prop := Sl ePt w A l
def Ops (w : World) (A : Option Addr) (l : List OpR) : Prop := Sl eOp w A l ∧ ∀ x ∈ l, OpOk w x
section
variable {H : Type} {enc : TypeId × Value → H} {W : World} {base : Nat} {spare : Nat → Bool} {held : Bool}
/-- A slice that came in, whatever its elements: each is read by 'hE'. -/
theorem open_gen {α : Type} {E : Enc α} {t e : TypeId} {Q : α → Prop} (z : α) (hu : Try.prog.underlying t = some (.slice e)) (hc : Try.prog.cellsOf e = E.wd)
    (hE : ∀ (cs : List Value) (n : Nat) (x : DataW H × List MemPlace), cs.length = E.wd → DataW.trod enc Try.prog W base (fun _ => true) held n e cs = some x → ∃ y : α, Q y ∧ E.f y = cs)
    {a : Option Addr} {len cap fuel : Nat} {x : DataW H × List MemPlace} (h : DataW.trod enc Try.prog W base (fun _ => true) held fuel t [.slice a len cap] = some x) :
    ∃ l : List α, l.length = len ∧ Sl E W a l ∧ ∀ y ∈ l, Q y := by
  have hp := E.pos
  rcases open_slice hu h with ⟨hcs, _⟩ | ⟨ad, ln, c, m, n, D, Pl, hcs, _, hl, hm, hmm, _, hcell⟩
  · simp at hcs
    obtain ⟨rfl, rfl, rfl⟩ := hcs
    exact ⟨[], rfl, sl_nil _, by simp⟩
  · simp at hcs
    obtain ⟨rfl, rfl, rfl⟩ := hcs
    have hmc : m = cap := by simpa using hmm
    subst hmc
    have hex : ∀ i, ∃ y : α, i < m → Q y ∧ ∀ (j : Nat) (u : Value), (E.f y)[j]? = some u → W.cell? (ad.add (i * E.wd + j)) = some u := by
      intro i
      by_cases hi : i < m
      · obtain ⟨cs, hc2, ht⟩ := hcell i hi
        rw [hc] at hc2
        obtain ⟨_, hl2, hat⟩ := World.cells?_some hc2
        obtain ⟨y, hq, rfl⟩ := hE cs _ _ hl2 ht
        refine ⟨y, fun _ => ⟨hq, fun j u hu => ?_⟩⟩
        have hj := (List.getElem?_eq_some_iff.mp hu).1
        have := hat j (by rw [← hl2]; exact hj)
        rw [add_add] at this
        rw [this, hu]
      · exact ⟨z, fun h => absurd h hi⟩
    obtain ⟨f, hf⟩ := Classical.skolem.mp hex
    refine ⟨(List.range len).map f, by simp, ⟨by simp; omega, fun hp2 => ?_⟩, ?_⟩
    · have hp2 : 0 < len := by simpa using hp2
      obtain ⟨b, off, spot⟩ := ad
      obtain ⟨u0, hu0⟩ : ∃ u, (E.f (f 0))[0]? = some u := ⟨(E.f (f 0))[0]'(by rw [E.len]; exact hp), List.getElem?_eq_getElem _⟩
      have h0 := (hf 0 (by omega)).2 0 u0 hu0
      have hspot : spot = none := by simpa [Addr.add] using World.cell?_spot h0
      subst hspot
      refine ⟨b, off, rfl, ?_, fun k y hk i u hu => ?_⟩
      · have := block_lt_of_cell h0
        simpa [Addr.add] using this
      · obtain ⟨hkl, hky⟩ := List.getElem?_eq_some_iff.mp hk
        have hkl : k < len := by simpa using hkl
        have e : y = f k := by rw [← hky]; simp
        subst e
        have := (hf k (by omega)).2 i u hu
        rw [addr_at, ← Nat.add_assoc] at this
        exact this
    · intro y hy
      obtain ⟨i, hi, rfl⟩ := List.mem_map.mp hy
      exact (hf i (by have := List.mem_range.mp hi; omega)).1
theorem one_by (cs : List Value) (n : Nat) (x : DataW H × List MemPlace) (hl : cs.length = 1) (ht : DataW.trod enc Try.prog W base (fun _ => true) held n 5 cs = some x) : ∃ y : UInt8, True ∧ eBy.f y = cs := by
  match cs, hl with
  | [c0], _ =>
    obtain ⟨k, e1, _, hs⟩ := DataW.trod_int Try.underlying5 ht
    injection e1 with e1 _
    subst e1
    have hb := bounds_u8 hs
    refine ⟨UInt8.ofNat k.toNat, trivial, ?_⟩
    show [Value.int .u8 ((UInt8.ofNat k.toNat).toNat : Int)] = _
    rw [UInt8.toNat_ofNat', Nat.mod_eq_of_lt (by omega)]
    congr 2
    omega
theorem open_by {a : Option Addr} {len cap fuel : Nat} {x : DataW H × List MemPlace} (h : DataW.trod enc Try.prog W base (fun _ => true) held fuel 29 [.slice a len cap] = some x) :
    ∃ l : List UInt8, l.length = len ∧ Sl eBy W a l := by
  obtain ⟨l, h1, h2, _⟩ := open_gen (E := eBy) (Q := fun _ => True) 0 Try.underlying29 cells5 one_by h
  exact ⟨l, h1, h2⟩
theorem open_puts {a : Option Addr} {len cap fuel : Nat} {x : DataW H × List MemPlace} (h : DataW.trod enc Try.prog W base (fun _ => true) held fuel 53 [.slice a len cap] = some x) :
    ∃ l : List Pt, l.length = len ∧ Puts W a l := by
  obtain ⟨l, h1, h2, _⟩ := open_gen (E := ePt) (Q := fun _ => True) ⟨0, 0, false⟩ Try.underlying53 cells56 (fun cs n x hl ht => by
    match cs, hl with
    | [c0, c1, c2], _ =>
      obtain ⟨ys, m, _, _, _, hyl, hf⟩ := DataW.trod_struct Try.underlying56 ht
      match ys, hyl with
      | [y0, y1, y2], _ =>
        have f0 : DataW.trod enc Try.prog W base (fun _ => true) held m 3 (([c0, c1, c2].drop 0).take (Try.prog.cellsOf 3)) = some y0 := hf 0 _ rfl
        have f1 : DataW.trod enc Try.prog W base (fun _ => true) held m 5 (([c0, c1, c2].drop 1).take (Try.prog.cellsOf 5)) = some y1 := hf 1 _ rfl
        have f2 : DataW.trod enc Try.prog W base (fun _ => true) held m 4 (([c0, c1, c2].drop 2).take (Try.prog.cellsOf 4)) = some y2 := hf 2 _ rfl
        rw [cells3] at f0
        rw [cells5] at f1
        rw [cells4] at f2
        obtain ⟨k, e0, _, _⟩ := DataW.trod_int Try.underlying3 (show DataW.trod enc Try.prog W base (fun _ => true) held m 3 [c0] = some y0 from f0)
        obtain ⟨f, _, e1⟩ := one_by [c1] m y1 rfl f1
        obtain ⟨b, e2, _⟩ := DataW.trod_bool Try.underlying4 (show DataW.trod enc Try.prog W base (fun _ => true) held m 4 [c2] = some y2 from f2)
        injection e0 with e0 _
        injection e2 with e2 _
        have e1 : Value.int .u8 (f.toNat : Int) = c1 := by simpa [eBy] using e1
        subst e0 e2
        exact ⟨⟨k, f, b⟩, trivial, by simp [ePt, e1]⟩) h
  exact ⟨l, h1, h2⟩
/-- A slice of bytes that lies in a cell. -/
theorem cell_by {c0 : Value} {n : Nat} {x : DataW H × List MemPlace} (h : DataW.trod enc Try.prog W base (fun _ => true) held n 29 [c0] = some x) : ∃ (A : Option Addr) (k c : Nat) (l : List UInt8), c0 = .slice A k c ∧ l.length = k ∧ Sl eBy W A l ∧ (A = none → c = 0) := by
  have hs : ∃ (A : Option Addr) (k c : Nat), c0 = .slice A k c ∧ (A = none → c = 0) := by
    rcases DataW.trod_slice Try.underlying29 h with ⟨e, _⟩ | ⟨a, len, cap, _, _, _, _, e, _⟩
    · injection e with e _
      exact ⟨none, 0, 0, e, fun _ => rfl⟩
    · injection e with e _
      exact ⟨some a, len, cap, e, fun h => by cases h⟩
  obtain ⟨A, k, c, rfl, hz⟩ := hs
  obtain ⟨l, h1, h2⟩ := open_by h
  exact ⟨A, k, c, l, rfl, h1, h2, hz⟩
theorem open_oprs {a : Option Addr} {len cap fuel : Nat} {x : DataW H × List MemPlace} (h : DataW.trod enc Try.prog W base (fun _ => true) held fuel 22 [.slice a len cap] = some x) :
    ∃ l : List OpR, l.length = len ∧ Ops W a l := by
  obtain ⟨l, h1, h2, h3⟩ := open_gen (E := eOp) (Q := OpOk W) ⟨0, 0, none, 0, 0, []⟩ Try.underlying22 cells37 (fun cs n x hl ht => by
    match cs, hl with
    | [c0, c1, c2], _ =>
      obtain ⟨ys, m, _, _, _, hyl, hf⟩ := DataW.trod_struct Try.underlying37 ht
      match ys, hyl with
      | [y0, y1, y2], _ =>
        have f0 : DataW.trod enc Try.prog W base (fun _ => true) held m 3 (([c0, c1, c2].drop 0).take (Try.prog.cellsOf 3)) = some y0 := hf 0 _ rfl
        have f1 : DataW.trod enc Try.prog W base (fun _ => true) held m 3 (([c0, c1, c2].drop 1).take (Try.prog.cellsOf 3)) = some y1 := hf 1 _ rfl
        have f2 : DataW.trod enc Try.prog W base (fun _ => true) held m 29 (([c0, c1, c2].drop 2).take (Try.prog.cellsOf 29)) = some y2 := hf 2 _ rfl
        rw [cells3] at f0 f1
        rw [cells29] at f2
        obtain ⟨k, e0, _, _⟩ := DataW.trod_int Try.underlying3 (show DataW.trod enc Try.prog W base (fun _ => true) held m 3 [c0] = some y0 from f0)
        obtain ⟨j, e1, _, hj⟩ := DataW.trod_int Try.underlying3 (show DataW.trod enc Try.prog W base (fun _ => true) held m 3 [c1] = some y1 from f1)
        obtain ⟨A, n2, c, l, rfl, g1, g2, g3⟩ := cell_by (show DataW.trod enc Try.prog W base (fun _ => true) held m 29 [c2] = some y2 from f2)
        injection e0 with e0 _
        injection e1 with e1 _
        subst e0 e1
        exact ⟨⟨k, j, A, n2, c, l⟩, ⟨g2, g1, g3, hj⟩, rfl⟩) h
  exact ⟨l, h1, h2, h3⟩
theorem open_torn {v : Value} {d : DataW H} {p : List MemPlace} {b0 : Nat} (hval : Value.okWide Try.prog W .any b0 51 v) (h : DataW.Trod enc Try.prog W base (fun _ => true) held 51 v d p) :
    ∃ x : TornR, v = tornV x ∧ TornOk W x := by
  obtain ⟨cs, rfl, hsz2, _⟩ : ∃ cs, v = .agg cs ∧ cs.size = Try.prog.cellsOf 51 ∧ Row.okWide Try.prog W .any b0 51 cs := by
    simpa [Value.okWide, Try.underlying51] using hval
  rw [cells51] at hsz2
  obtain ⟨l⟩ := cs
  obtain ⟨fuel, hf⟩ := h
  match l, hsz2 with
  | [c0, c1, c2, c3], _ =>
    obtain ⟨ys, m, _, _, _, hyl, hh⟩ := DataW.trod_struct Try.underlying51 hf
    match ys, hyl with
    | [y0, y1, y2, y3], _ =>
      have f0 : DataW.trod enc Try.prog W base (fun _ => true) held m 29 (([c0, c1, c2, c3].drop 0).take (Try.prog.cellsOf 29)) = some y0 := hh 0 _ rfl
      have f1 : DataW.trod enc Try.prog W base (fun _ => true) held m 29 (([c0, c1, c2, c3].drop 1).take (Try.prog.cellsOf 29)) = some y1 := hh 1 _ rfl
      have f2 : DataW.trod enc Try.prog W base (fun _ => true) held m 29 (([c0, c1, c2, c3].drop 2).take (Try.prog.cellsOf 29)) = some y2 := hh 2 _ rfl
      have f3 : DataW.trod enc Try.prog W base (fun _ => true) held m 3 (([c0, c1, c2, c3].drop 3).take (Try.prog.cellsOf 3)) = some y3 := hh 3 _ rfl
      rw [cells29] at f0 f1 f2
      rw [cells3] at f3
      obtain ⟨A0, n0, k0, l0, rfl, g0, s0, _⟩ := cell_by (show DataW.trod enc Try.prog W base (fun _ => true) held m 29 [c0] = some y0 from f0)
      obtain ⟨A1, n1, k1, l1, rfl, g1, s1, _⟩ := cell_by (show DataW.trod enc Try.prog W base (fun _ => true) held m 29 [c1] = some y1 from f1)
      obtain ⟨A2, n2, k2, l2, rfl, g2, s2, _⟩ := cell_by (show DataW.trod enc Try.prog W base (fun _ => true) held m 29 [c2] = some y2 from f2)
      obtain ⟨j, e3, _, hj⟩ := DataW.trod_int Try.underlying3 (show DataW.trod enc Try.prog W base (fun _ => true) held m 3 [c3] = some y3 from f3)
      injection e3 with e3 _
      subst e3
      exact ⟨⟨A0, n0, k0, l0, A1, n1, k1, l1, A2, n2, k2, l2, j⟩, rfl, ⟨s0, g0⟩, ⟨s1, g1⟩, ⟨s2, g2⟩, hj⟩
end
end Go.Proofs.Ytghfhjeaiiianaa
