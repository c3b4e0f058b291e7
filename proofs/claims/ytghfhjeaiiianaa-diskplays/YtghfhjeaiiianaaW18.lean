/-
  The document's disk in memory. The contracts of its Step, Read, Write, Sync. Their conditions: it lies in memory, its steps and its pending writes are below a bound.
-/
import Derived.Test.YtghfhjeaiiianaaW16
import Derived.StillTailTactics
namespace Go.Proofs.Ytghfhjeaiiianaa
open Go.RowKit
open Go.Sort (grow)

/-- A text's cell, a number's. -/
def eKy : Enc ByteArray := ⟨fun x => [.string x], 1, fun _ => rfl, fun x v hv => by simp at hv; subst hv; rfl, by decide⟩
def eIn : Enc Nat := ⟨fun x => [.int .i64 (x : Int)], 1, fun _ => rfl, fun x v hv => by simp at hv; subst hv; rfl, by decide⟩
theorem el44 : El eKy 44 9 := ⟨Try.underlying44, .string ⟨#[]⟩, 16, by kernel_rfl, rfl, by decide⟩
theorem el45 : El eIn 45 3 := ⟨Try.underlying45, .int .i64 0, 8, by kernel_rfl, rfl, by decide⟩
def tx (s : Sec) : ByteArray := txt s.v
theorem at_ky {w : World} {A : Option Addr} {l : List ByteArray} (h : Sl eKy w A l) {k : Nat} (hk : k < l.length) : ∃ b off, A = some ⟨b, off, none⟩ ∧ b < w.heap.size ∧ w.cell? ⟨b, off + k, none⟩ = some (.string l[k]) := by
  obtain ⟨b, off, hA, hb, hc⟩ := h.at_ hk
  have := hc 0 _ rfl
  rw [show eKy.wd = 1 from rfl, Nat.mul_one] at this
  exact ⟨b, off, hA, hb, this⟩
theorem at_in {w : World} {A : Option Addr} {l : List Nat} (h : Sl eIn w A l) {k : Nat} (hk : k < l.length) : ∃ b off, A = some ⟨b, off, none⟩ ∧ b < w.heap.size ∧ w.cell? ⟨b, off + k, none⟩ = some (.int .i64 (l[k] : Int)) := by
  obtain ⟨b, off, hA, hb, hc⟩ := h.at_ hk
  have := hc 0 _ rfl
  rw [show eIn.wd = 1 from rfl, Nat.mul_one] at this
  exact ⟨b, off, hA, hb, this⟩
/-- A cell of a row of texts is written over. -/
theorem RowT.set {w : World} {base : Nat} {l : List ByteArray} {g n c : Nat} (h : RowT eKy 9 w base (.slice (some ⟨g, 0, none⟩) n c) l) (k : Nat) (x : ByteArray) :
    RowT eKy 9 (w.setCell ⟨g, k, none⟩ (.string x)) base (.slice (some ⟨g, 0, none⟩) n c) (l.set k x) ∧ w.grownBy (w.setCell ⟨g, k, none⟩ (.string x)) (some g) ∧ w.frozen? ⟨g, k, none⟩ = false := by
  rcases h.2 with ⟨hv, _⟩ | ⟨g', cap, cur, hv, hb, hg, hle, hm, hsz, htk⟩
  · cases hv
  · have e : g' = g ∧ l.length = n ∧ cap = c := by
      simp only [Value.slice.injEq, Option.some.injEq, Addr.mk.injEq, and_true] at hv
      obtain ⟨e1, e2, e3⟩ := hv
      exact ⟨e1.symm, e2.symm, e3.symm⟩
    obtain ⟨rfl, rfl, rfl⟩ := e
    have hv2 : ∀ m : List ByteArray, eKy.vals m = m.map Value.string := fun m => by
      induction m with
      | nil => rfl
      | cons y r ih =>
        have : eKy.vals (y :: r) = eKy.f y ++ eKy.vals r := by simp [Enc.vals]
        rw [this, ih]
        rfl
    refine ⟨?_, ⟨rfl, rfl, rfl, by simp, fun i _ hi => Below.heap_setCell _ _ _ _ (fun e => hi (by simp [e]))⟩, by simp [World.frozen?, hg]⟩
    refine ⟨by rw [eKy.vals_length], .inr ⟨g', cap, cur.setIfInBounds k (.string x), by rw [List.length_set], hb, ?_, by rw [List.length_set]; exact hle, hm, by simpa using hsz, ?_⟩⟩
    · simp [World.setCell, Array.getElem?_modify, hg]
    · rw [List.length_set, Array.toList_setIfInBounds, List.take_set, htk, hv2, hv2, List.map_set]
/-- The document's own block. -/
def RBox (w : World) (h : Nat) (kv sv av wv : Value) (fuse : Int) (down : Bool) (steps : Int) : Prop :=
  w.heap[h]? = some (.cells #[kv, sv, av, wv, .int .i64 fuse, .bool down, .int .i64 steps] 47 (0, 0))
section
variable {w w' : World} {h : Nat} {kv sv av wv : Value} {fuse steps : Int} {down : Bool}
theorem RBox.lt (b : RBox w h kv sv av wv fuse down steps) : h < w.heap.size := lt_of_heap b
theorem RBox.c0 (b : RBox w h kv sv av wv fuse down steps) : w.cell? ⟨h, 0, none⟩ = some kv := by simp [World.cell?, show w.heap[h]? = _ from b]
theorem RBox.c1 (b : RBox w h kv sv av wv fuse down steps) : w.cell? ⟨h, 1, none⟩ = some sv := by simp [World.cell?, show w.heap[h]? = _ from b]
theorem RBox.c2 (b : RBox w h kv sv av wv fuse down steps) : w.cell? ⟨h, 2, none⟩ = some av := by simp [World.cell?, show w.heap[h]? = _ from b]
theorem RBox.c3 (b : RBox w h kv sv av wv fuse down steps) : w.cell? ⟨h, 3, none⟩ = some wv := by simp [World.cell?, show w.heap[h]? = _ from b]
theorem RBox.c4 (b : RBox w h kv sv av wv fuse down steps) : w.cell? ⟨h, 4, none⟩ = some (.int .i64 fuse) := by simp [World.cell?, show w.heap[h]? = _ from b]
theorem RBox.c5 (b : RBox w h kv sv av wv fuse down steps) : w.cell? ⟨h, 5, none⟩ = some (.bool down) := by simp [World.cell?, show w.heap[h]? = _ from b]
theorem RBox.c6 (b : RBox w h kv sv av wv fuse down steps) : w.cell? ⟨h, 6, none⟩ = some (.int .i64 steps) := by simp [World.cell?, show w.heap[h]? = _ from b]
theorem RBox.frozen (b : RBox w h kv sv av wv fuse down steps) (o : Nat) : w.frozen? ⟨h, o, none⟩ = false := by simp [World.frozen?, show w.heap[h]? = _ from b]
theorem RBox.set0 (b : RBox w h kv sv av wv fuse down steps) (x : Value) : RBox (w.setCell ⟨h, 0, none⟩ x) h x sv av wv fuse down steps := by
  unfold RBox at b ⊢
  simp [World.setCell, Array.getElem?_modify, b]
theorem RBox.set1 (b : RBox w h kv sv av wv fuse down steps) (x : Value) : RBox (w.setCell ⟨h, 1, none⟩ x) h kv x av wv fuse down steps := by
  unfold RBox at b ⊢
  simp [World.setCell, Array.getElem?_modify, b]
theorem RBox.set2 (b : RBox w h kv sv av wv fuse down steps) (x : Value) : RBox (w.setCell ⟨h, 2, none⟩ x) h kv sv x wv fuse down steps := by
  unfold RBox at b ⊢
  simp [World.setCell, Array.getElem?_modify, b]
theorem RBox.set3 (b : RBox w h kv sv av wv fuse down steps) (x : Value) : RBox (w.setCell ⟨h, 3, none⟩ x) h kv sv av x fuse down steps := by
  unfold RBox at b ⊢
  simp [World.setCell, Array.getElem?_modify, b]
theorem RBox.set4 (b : RBox w h kv sv av wv fuse down steps) (x : Int) : RBox (w.setCell ⟨h, 4, none⟩ (.int .i64 x)) h kv sv av wv x down steps := by
  unfold RBox at b ⊢
  simp [World.setCell, Array.getElem?_modify, b]
theorem RBox.set5 (b : RBox w h kv sv av wv fuse down steps) (x : Bool) : RBox (w.setCell ⟨h, 5, none⟩ (.bool x)) h kv sv av wv fuse x steps := by
  unfold RBox at b ⊢
  simp [World.setCell, Array.getElem?_modify, b]
theorem RBox.set6 (b : RBox w h kv sv av wv fuse down steps) (x : Int) : RBox (w.setCell ⟨h, 6, none⟩ (.int .i64 x)) h kv sv av wv fuse down x := by
  unfold RBox at b ⊢
  simp [World.setCell, Array.getElem?_modify, b]
theorem RBox.below (b : RBox w h kv sv av wv fuse down steps) (hb : Below w.heap.size w w') : RBox w' h kv sv av wv fuse down steps := (hb.block h b.lt).trans b
end
/-- Two values lie in blocks of their own. -/
def Apart (v u : Value) : Prop := ∀ k, v.ownBlock = some k → u.ownBlock ≠ some k
theorem Apart.symm {v u : Value} (h : Apart v u) : Apart u v := fun k hk he => h k he hk
theorem apart_nil (u : Value) : Apart (.slice none 0 0) u := fun k hk => by cases hk
/-- The document's rows. -/
structure Rows3 (w : World) (base : Nat) (kv sv av wv : Value) (K S : List Sec) (ps : List Pw) : Prop where
  k : RowT eKy 9 w base kv (K.map tx)
  s : RowT eKy 9 w base sv (S.map tx)
  a : RowT eIn 3 w base av (ps.map (·.p))
  w : RowT eKy 9 w base wv (ps.map fun x => tx x.n)
  ks : Apart kv sv
  kw : Apart kv wv
  sw : Apart sv wv
/-- The kinds of the document's blocks. -/
abbrev kR : List Nat := [47, 9, 3]
/-- The document's disk in block h. -/
structure RefAt (w : World) (base h : Nat) (d : Dk) : Prop where
  ex : ∃ kv sv av wv, RBox w h kv sv av wv d.fuse d.down d.steps ∧ Rows3 w base kv sv av wv d.K (seen d.K d.ps) d.ps
  bh : base ≤ h
  good : Good d
section
variable {w w' : World} {base base' h : Nat} {d : Dk} {l ms : List Nat} {kv sv av wv : Value} {K S : List Sec} {ps : List Pw}
theorem Rows3.below (r : Rows3 w base kv sv av wv K S ps) (hf : Below w.heap.size w w') : Rows3 w' base kv sv av wv K S ps := ⟨r.k.below hf, r.s.below hf, r.a.below hf, r.w.below hf, r.ks, r.kw, r.sw⟩
theorem Rows3.fr (r : Rows3 w base kv sv av wv K S ps) (hf : Fr l ms base' w w') (h9 : 9 ∉ l) (h3 : 3 ∉ l) (hm : ∀ i ∈ ms, ∃ o, w.heap[i]? = some o ∧ kd o ∉ kR) : Rows3 w' base kv sv av wv K S ps :=
  ⟨r.k.fr hf h9 (fun i hi => by obtain ⟨o, ho, hk⟩ := hm i hi; exact ⟨o, ho, fun e => hk (by simp [e])⟩), r.s.fr hf h9 (fun i hi => by obtain ⟨o, ho, hk⟩ := hm i hi; exact ⟨o, ho, fun e => hk (by simp [e])⟩),
    r.a.fr hf h3 (fun i hi => by obtain ⟨o, ho, hk⟩ := hm i hi; exact ⟨o, ho, fun e => hk (by simp [e])⟩), r.w.fr hf h9 (fun i hi => by obtain ⟨o, ho, hk⟩ := hm i hi; exact ⟨o, ho, fun e => hk (by simp [e])⟩), r.ks, r.kw, r.sw⟩
theorem RefAt.below (r : RefAt w base h d) (hf : Below w.heap.size w w') : RefAt w' base h d := by
  obtain ⟨kv, sv, av, wv, h1, h2⟩ := r.ex
  exact ⟨⟨kv, sv, av, wv, h1.below hf, h2.below hf⟩, r.bh, r.good⟩
theorem RefAt.keep (r : RefAt w base h d) (hf : Fr l ms base' w w') (h47 : 47 ∉ l) (h9 : 9 ∉ l) (h3 : 3 ∉ l) (hm : ∀ i ∈ ms, ∃ o, w.heap[i]? = some o ∧ kd o ∉ kR) : RefAt w' base h d := by
  obtain ⟨kv, sv, av, wv, h1, h2⟩ := r.ex
  refine ⟨⟨kv, sv, av, wv, hf.keep h _ h1 h47 (fun hx => ?_), h2.fr hf h9 h3 hm⟩, r.bh, r.good⟩
  obtain ⟨o, ho, hk⟩ := hm _ hx
  rw [show w.heap[h]? = _ from h1] at ho
  cases ho
  exact hk (by simp [kd])
theorem RowT.len {α : Type} {E : Enc α} {e : TypeId} {v : Value} {l : List α} (r : RowT E e w base v l) : ∃ A c, v = .slice A l.length c := by
  obtain ⟨A, c, hv, _⟩ := r.form
  exact ⟨A, c, hv⟩
end
def RPost (w : World) (base h : Nat) (d : Dk) (v : Value) (r : Ending) (w' : World) : Prop := r = .returned v ∧ RefAt w' base h d ∧ Fr kR [] base w w'
set_option maxHeartbeats 2000000 in
theorem rstep_any (base h : Nat) (d : Dk) (w : World) (r : RefAt w base h d) (hs : d.steps ≤ 1000000) : Calls Try.prog 28 #[.pointer (some ⟨h, 0, none⟩)] w (RPost w base h (stepD d) (.bool (stepB d))) := by
  have hg := r.good.step
  have hgd := r.good
  have hbh := r.bh
  obtain ⟨kv, sv, av, wv, b, rw3⟩ := r.ex
  have s0 := hgd.s0
  have g0 := hgd.f0
  have g1 := hgd.f1
  have c4 := b.c4
  have c5 := b.c5
  have c6 := b.c6
  have z4 := b.frozen 4
  have z5 := b.frozen 5
  have z6 := b.frozen 6
  by_cases hf : d.fuse = 0
  · have e1 : stepD d = { d with down := true } := by
      unfold stepD
      cases hd : d.down <;> simp [hf]
      cases d
      simp_all
    have e2 : stepB d = false := by simp [stepB, hf]
    rw [e1] at hg ⊢
    rw [e2]
    have f1 : Fr [47] [] base w (w.setCell ⟨h, 5, none⟩ (.bool true)) := (Fr.refl _ _ _ _).set b (.inl (by simp [kd])) hbh _
    have HE : Hid (RPost w base h { d with down := true } (.bool false) (.returned (.bool false)) (w.setCell ⟨h, 5, none⟩ (.bool true))) :=
      ⟨rfl, ⟨⟨kv, sv, av, wv, b.set5 true, rw3.fr f1 (by simp) (by simp) (by simp)⟩, hbh, hg⟩, f1.mono (by simp) (by simp)⟩
    rw [hf] at c4
    clear hg hgd b rw3 hbh e1 e2 r hf f1 s0 g0 g1 hs c6 z6 z4
    go_enter Try.func28, Try.ntmps28
    go_wp2
    go_ret
    exact HE.out
  · cases hd : d.down with
    | true =>
      have e1 : stepD d = d := by simp [stepD, hd]
      have e2 : stepB d = false := by simp [stepB, hd]
      rw [e1, e2]
      rw [hd] at c5
      have HE : Hid (RPost w base h d (.bool false) (.returned (.bool false)) w) := ⟨rfl, r, Fr.refl _ _ _ _⟩
      generalize d.fuse = fu at *
      clear hg hgd b rw3 hbh e1 e2 r hd s0 g0 g1 hs c6 z6 z4 z5
      go_enter Try.func28, Try.ntmps28
      go_wp2
      go_ret
      exact HE.out
    | false =>
      have e2 : stepB d = true := by simp [stepB, hd, hf]
      obtain ⟨m, hm⟩ : ∃ m, m = (if 0 < d.fuse then d.fuse - 1 else d.fuse) := ⟨_, rfl⟩
      have e1 : stepD d = { d with fuse := m, steps := d.steps + 1 } := by simp [stepD, hd, hf, hm]
      rw [e1] at hg ⊢
      rw [e2]
      rw [hd] at c5 b
      have hws : IntKind.i64.wrap (d.steps + 1) = d.steps + 1 := IntWalk.i64_in _ (by omega)
      by_cases hp : 0 < d.fuse
      · have hme : m = d.fuse - 1 := by rw [hm, if_pos hp]
        have b2 := b.set4 m
        have f1 : Fr [47] [] base w ((w.setCell ⟨h, 4, none⟩ (.int .i64 m)).setCell ⟨h, 6, none⟩ (.int .i64 (d.steps + 1))) := ((Fr.refl _ _ _ _).set b (.inl (by simp [kd])) hbh _).set b2 (.inl (by simp [kd])) hbh _
        have HE : Hid (RPost w base h { d with fuse := m, steps := d.steps + 1 } (.bool true) (.returned (.bool true)) ((w.setCell ⟨h, 4, none⟩ (.int .i64 m)).setCell ⟨h, 6, none⟩ (.int .i64 (d.steps + 1)))) :=
          ⟨rfl, ⟨⟨kv, sv, av, wv, by have := b2.set6 (d.steps + 1); rw [← hd] at this; exact this, rw3.fr f1 (by simp) (by simp) (by simp)⟩, hbh, hg⟩, f1.mono (by simp) (by simp)⟩
        generalize d.fuse = fu at *
        generalize d.steps = st at *
        have hw : IntKind.i64.wrap (fu - 1) = m := by rw [hme]; exact IntWalk.i64_in _ (by omega)
        clear hg hgd b b2 rw3 hbh e1 e2 r hd s0 g0 g1 hs f1 hm hme z5
        go_enter Try.func28, Try.ntmps28
        go_wp2
        go_ret
        exact HE.out
      · have hme : m = d.fuse := by rw [hm, if_neg hp]
        have f1 : Fr [47] [] base w (w.setCell ⟨h, 6, none⟩ (.int .i64 (d.steps + 1))) := (Fr.refl _ _ _ _).set b (.inl (by simp [kd])) hbh _
        have HE : Hid (RPost w base h { d with fuse := m, steps := d.steps + 1 } (.bool true) (.returned (.bool true)) (w.setCell ⟨h, 6, none⟩ (.int .i64 (d.steps + 1)))) :=
          ⟨rfl, ⟨⟨kv, sv, av, wv, by have := b.set6 (d.steps + 1); rw [← hd] at this; rw [hme]; exact this, rw3.fr f1 (by simp) (by simp) (by simp)⟩, hbh, hg⟩, f1.mono (by simp) (by simp)⟩
        generalize d.fuse = fu at *
        generalize d.steps = st at *
        clear hg hgd b rw3 hbh e1 e2 r hd s0 g0 g1 hs f1 hm hme z5 z4
        go_enter Try.func28, Try.ntmps28
        go_wp2
        go_ret
        exact HE.out
end Go.Proofs.Ytghfhjeaiiianaa
