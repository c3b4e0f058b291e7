/-
  Records in memory: rows of slices of bytes. What one more part does to what found keeps. Their conditions: the blocks lie as said.
-/
import Derived.Test.YtppdckncnfffcaaJ8
namespace Go.Proofs.Ytppdckncnfffcaa
open Go.RowKit Go.Maps
set_option maxRecDepth 100000

/-- Two values lie in blocks of their own. -/
def Apart (v u : Value) : Prop := ∀ k, v.ownBlock = some k → u.ownBlock ≠ some k
theorem Apart.symm {v u : Value} (h : Apart v u) : Apart u v := fun k hk he => h k he hk
theorem apart_nil (u : Value) : Apart (.slice none 0 0) u := fun k hk => by cases hk
section
variable {α : Type} {E : Enc α} {t e : TypeId} {w W w' : World} {base : Nat} {v u : Value} {l m : List α}
/-- An append onto a row: the row it makes lies where the row lay, or in new memory. -/
theorem RowT.app_own (hE : El E t e) (h : RowT E e W base v l) (hbs : base ≤ W.heap.size) {A : Option Addr} {n c : Nat} (hm : Sl E W A m) (hn : m.length = n) (hA : A = none → c = 0) (hlen : l.length + n ≤ 1000000) :
    ∃ v' W', (Builtin.append_ #[t, t] t #[v, .slice A n c]).run Try.prog W = .ok v' W' ∧ RowT E e W' base v' (l ++ m) ∧ W.grownBy W' v.ownBlock ∧ (∀ k, v'.ownBlock = some k → v.ownBlock = some k ∨ W.heap.size ≤ k) := by
  obtain ⟨v', W', hr, ho, hg⟩ := h.app hE hbs hm hn hA hlen
  refine ⟨v', W', hr, ho, hg, fun k hk => ?_⟩
  rcases h.2 with ⟨rfl, hn0⟩ | ⟨g, cap, cur, rfl, _, hgg, hnc, hcm, hcs, htake⟩
  · have hl0 : l = [] := List.eq_nil_of_length_eq_zero hn0
    subst hl0
    obtain ⟨v2, W2, hr2, ho2, _⟩ := (RowT.nil (E := E) (e := e) (base := W.heap.size) W).app hE (Nat.le_refl _) hm hn hA hlen
    rw [hr] at hr2
    injection hr2 with e1 e2
    subst e1 e2
    exact .inr (ho2.own hk).1
  · obtain ⟨z, by_, hinf, hzs, hby⟩ := hE.info
    obtain ⟨i, hi, hz0, hz1, hz2⟩ := info_parts hinf
    subst hn
    cases A with
    | none =>
      have hl : m = [] := by
        cases m with
        | nil => rfl
        | cons c l => obtain ⟨b, off, hA, _⟩ := hm.2 (by simp); simp at hA
      subst hl
      rw [hA rfl] at hr
      have hr2 := run_append_owned_none W base t t e i E.wd hE.und hi (.slice (some ⟨g, 0, none⟩) l.length cap) l.length _ h
      rw [show ([] : List α).length = 0 from rfl, hr2] at hr
      injection hr with e1 e2
      subst e1
      exact .inl hk
    | some ad =>
      by_cases hroom : l.length + m.length ≤ cap
      · have hr2 := run_append_room (P := Try.prog) W t t e i hE.und hi g l.length cap cur hgg ad m.length c (E.vals m) (by rw [E.vals_length, hz1]) hm.news (E.vals_one m) hroom (by
          rw [E.vals_length, hz1, hcs, ← Nat.add_mul]
          exact Nat.mul_le_mul_right _ hroom)
        rw [hr] at hr2
        injection hr2 with e1 e2
        subst e1
        exact .inl (by simpa [Value.ownBlock] using hk)
      · have hr2 := run_append_grow (P := Try.prog) W t t e i z hE.und hi hz0 ⟨g, 0, none⟩ l.length cap (E.vals l) (by rw [hz1]; exact h.1) (h.cells (g := g) rfl) ad m.length c (E.vals m) (by rw [E.vals_length, hz1]) hm.news (by omega) (by omega) (by rw [hz2]; exact growslice_fits (by omega) (Nat.le_trans (Nat.mul_le_mul hlen hby) (by omega)))
        rw [hr] at hr2
        injection hr2 with e1 e2
        subst e1
        refine .inr ?_
        simp [Value.ownBlock] at hk
        omega
theorem Apart.of (h : Apart v u) (hk : ∀ k, u.ownBlock = some k → k < W.heap.size) {v' : Value} (ho : ∀ k, v'.ownBlock = some k → v.ownBlock = some k ∨ W.heap.size ≤ k) : Apart v' u := fun k hk' he => by
  rcases ho k hk' with h1 | h1
  · exact h k h1 he
  · have := hk k he
    omega
theorem RowT.lt (h : RowT E e W base v l) : ∀ k, v.ownBlock = some k → k < W.heap.size := fun k hk => by
  obtain ⟨_, cs, hc⟩ := h.own hk
  exact lt_of_heap hc
/-- A row, past a step that writes a block of its own. -/
theorem RowT.past (h : RowT E e W base v l) (hg : W.grownBy w' (u.ownBlock)) (hap : Apart v u) : RowT E e w' base v l := by
  refine ⟨h.1, ?_⟩
  rcases h.2 with h2 | ⟨g, cap, cur, rfl, hb, hgg, rest⟩
  · exact .inl h2
  · refine .inr ⟨g, cap, cur, rfl, hb, ?_, rest⟩
    rw [hg.block g (lt_of_heap hgg) (fun he => hap g (by simp [Value.ownBlock]) he.symm)]
    exact hgg
end

/-- A slice's value. -/
structure SlX where
  A : Option Addr
  n : Nat
  c : Nat
def SlX.v (x : SlX) : Value := .slice x.A x.n x.c
def eVl : Enc SlX := ⟨fun x => [x.v], 1, fun _ => rfl, fun x v hv => by simp at hv; subst hv; rfl, by decide⟩
theorem el30 : El eVl 30 38 := ⟨Try.underlying30, .slice none 0 0, 24, by kernel_rfl, rfl, by decide⟩
theorem RowT.low {α : Type} {E : Enc α} {e : TypeId} {w : World} {base q o : Nat} {u v : Value} {l : List α} (h : RowT E e w base v l) (hq : q < base) : RowT E e (w.setCell ⟨q, o, none⟩ u) base v l := by
  refine ⟨h.1, ?_⟩
  rcases h.2 with h2 | ⟨g, cap, cur, rfl, hb, hgg, rest⟩
  · exact .inl h2
  · refine .inr ⟨g, cap, cur, rfl, hb, ?_, rest⟩
    rw [Below.heap_setCell _ _ _ _ (by simp; omega)]
    exact hgg
/-- Records in memory: a row of slices, each a row of bytes. -/
def Recs (W : World) (base : Nat) (xs : List SlX) (rs : List (List UInt8)) : Prop := xs.length = rs.length ∧ ∀ (k : Nat) (x : SlX) (r : List UInt8), xs[k]? = some x → rs[k]? = some r → RowT eBy 5 W base x.v r
structure RecsV (W : World) (base : Nat) (vr : Value) (xs : List SlX) (rs : List (List UInt8)) : Prop where
  row : RowT eVl 38 W base vr xs
  rcd : Recs W base xs rs
section
variable {w0 w W W' : World} {b base : Nat} {G : Gt} {va vr v : Value} {xs : List SlX} {rs : List (List UInt8)} {m : List UInt8}
theorem RecsV.below (h : RecsV W base vr xs rs) (hb : Below W.heap.size W W') : RecsV W' base vr xs rs := ⟨h.row.below hb, h.rcd.1, fun k x r h1 h2 => (h.rcd.2 k x r h1 h2).below hb⟩
theorem RecsV.down {base' : Nat} (h : RecsV W base vr xs rs) (hb : base' ≤ base) : RecsV W base' vr xs rs := ⟨h.row.down hb, h.rcd.1, fun k x r h1 h2 => (h.rcd.2 k x r h1 h2).down hb⟩
theorem RecsV.low {q o : Nat} {u : Value} (h : RecsV W base vr xs rs) (hq : q < base) : RecsV (W.setCell ⟨q, o, none⟩ u) base vr xs rs := ⟨h.row.low hq, h.rcd.1, fun k x r h1 h2 => (h.rcd.2 k x r h1 h2).low hq⟩
/-- What found keeps. -/
structure FdI (w0 W : World) (b : Nat) (G : Gt) (va vr : Value) : Prop where
  lap : W.heap[b]? = some (.cells #[.int .i64 (G.lap : Int)] 3 (0, 0))
  acc : W.heap[b + 1]? = some (.cells #[va] 38 (0, 0))
  rcs : W.heap[b + 2]? = some (.cells #[vr] 30 (0, 0))
  row : RowT eBy 5 W (b + 3) va G.acc
  all : ∃ xs, RecsV W (b + 3) vr xs G.rs ∧ ∀ x ∈ xs, Apart va x.v
  bel : Below w0.heap.size w0 W
  ge : w0.heap.size ≤ b
theorem FdI.below (h : FdI w0 W b G va vr) (hb : Below W.heap.size W W') : FdI w0 W' b G va vr := by
  obtain ⟨xs, h1, h2⟩ := h.all
  exact ⟨(hb.block _ (lt_of_heap h.lap)).trans h.lap, (hb.block _ (lt_of_heap h.acc)).trans h.acc, (hb.block _ (lt_of_heap h.rcs)).trans h.rcs, h.row.below hb, ⟨xs, h1.below hb, h2⟩, h.bel.trans (hb.mono h.bel.size), h.ge⟩
theorem grown_fr {base : Nat} {W W' : World} {v : Value} (hg : W.grownBy W' v.ownBlock) (hb : base ≤ W.heap.size) (ho : ∀ k, v.ownBlock = some k → base ≤ k) : Below base W W' :=
  ⟨hg.os, hg.tape, hg.output, hg.size, fun k hk => hg.block k (Nat.lt_of_lt_of_le hk hb) (fun he => by have := ho k he.symm; omega)⟩
/-- One more part's bytes. -/
theorem FdI.app (h : FdI w0 W b G va vr) {A : Option Addr} {n c : Nat} (hm : Sl eBy W A m) (hn : m.length = n) (hA : A = none → c = 0) (hlen : G.acc.length + n ≤ 1000000) :
    ∃ A' n' c' W1, (Builtin.append_ #[38, 38] 38 #[va, .slice A n c]).run Try.prog W = .ok (.slice A' n' c') W1 ∧ W1.cell? ⟨b + 1, 0, none⟩ = some va ∧ W1.frozen? ⟨b + 1, 0, none⟩ = false ∧
      FdI w0 (W1.setCell ⟨b + 1, 0, none⟩ (.slice A' n' c')) b ⟨G.acc ++ m, G.rs, G.lap⟩ (.slice A' n' c') vr ∧ Fr [5] [b + 1] w0.heap.size W (W1.setCell ⟨b + 1, 0, none⟩ (.slice A' n' c')) := by
  have hlt := lt_of_heap h.rcs
  obtain ⟨va', W1, hr, hro, hg, how⟩ := h.row.app_own el29 (by omega) hm hn hA hlen
  obtain ⟨A', c', rfl, _⟩ := hro.form
  have hbase : Below (b + 3) W W1 := grown_fr hg (by omega) (fun k hk => (h.row.own hk).1)
  have k0 := (hbase.block b (by omega)).trans h.lap
  have k1 := (hbase.block (b + 1) (by omega)).trans h.acc
  have k2 := (hbase.block (b + 2) (by omega)).trans h.rcs
  have f1 : Fr [5] [] w0.heap.size W W1 := (h.row.fr_app hg (by omega)).down (by have := h.ge; omega)
  have f2 : Fr [5] [b + 1] w0.heap.size W (W1.setCell ⟨b + 1, 0, none⟩ (.slice A' (G.acc ++ m).length c')) := (f1.mono (by simp) (by simp)).set k1 (.inr (by simp)) (by have := h.ge; omega) _
  obtain ⟨xs, h1, h2⟩ := h.all
  refine ⟨A', _, c', W1, hr, one_cell k1, by simp [World.frozen?, k1], ⟨?_, ?_, ?_, hro.low (by omega), ⟨xs, ?_, ?_⟩, h.bel.trans f2.below, h.ge⟩, f2⟩
  · rw [Below.heap_setCell _ _ _ _ (by simp)]
    exact k0
  · simp [World.setCell, Array.getElem?_modify, k1]
  · rw [Below.heap_setCell _ _ _ _ (by simp)]
    exact k2
  · refine RecsV.low ⟨h1.row.fr f1 (by simp) (by simp), h1.rcd.1, fun k x r e1 e2 => ?_⟩ (by omega)
    exact (h1.rcd.2 k x r e1 e2).past hg (h2 x (List.mem_of_getElem? e1)).symm
  · intro x hx
    obtain ⟨k, hk⟩ := List.getElem?_of_mem hx
    have hkl : k < G.rs.length := by rw [← h1.rcd.1]; exact (List.getElem?_eq_some_iff.mp hk).1
    exact Apart.of (h2 x hx) (h1.rcd.2 k x _ hk (List.getElem?_eq_getElem hkl)).lt how
/-- A record that is whole. -/
theorem FdI.whole {A : Option Addr} {n c : Nat} (h : FdI w0 W b G (.slice A n c) vr) (lap : Nat) (hlen : G.rs.length + 1 ≤ 1000000) :
    ∃ A' n' c' W5, (Builtin.append_ #[30, 30] 30 #[vr, .slice (some ⟨W.heap.size, 0, none⟩) 1 1]).run Try.prog ((W.setCell ⟨b, 0, none⟩ (.int .i64 (lap : Int))).alloc (.cells #[.slice A n c] 38)) = .ok (.slice A' n' c') W5 ∧
      W5.cell? ⟨b + 2, 0, none⟩ = some vr ∧ W5.frozen? ⟨b + 2, 0, none⟩ = false ∧ (W5.setCell ⟨b + 2, 0, none⟩ (.slice A' n' c')).cell? ⟨b + 1, 0, none⟩ = some (.slice A n c) ∧ (W5.setCell ⟨b + 2, 0, none⟩ (.slice A' n' c')).frozen? ⟨b + 1, 0, none⟩ = false ∧
      FdI w0 ((W5.setCell ⟨b + 2, 0, none⟩ (.slice A' n' c')).setCell ⟨b + 1, 0, none⟩ (.slice none 0 0)) b ⟨[], G.rs ++ [G.acc], lap⟩ (.slice none 0 0) (.slice A' n' c') ∧
      Fr [38] [b, b + 1, b + 2] w0.heap.size W ((W5.setCell ⟨b + 2, 0, none⟩ (.slice A' n' c')).setCell ⟨b + 1, 0, none⟩ (.slice none 0 0)) := by
  have hlt := lt_of_heap h.rcs
  have hge := h.ge
  obtain ⟨xs, h1, h2⟩ := h.all
  obtain ⟨W3, hW3⟩ : ∃ W3, W3 = W.setCell ⟨b, 0, none⟩ (.int .i64 (lap : Int)) := ⟨_, rfl⟩
  have hsz : W3.heap.size = W.heap.size := by rw [hW3]; simp
  have f3 : Fr [] [b] w0.heap.size W W3 := by rw [hW3]; exact (Fr.refl _ _ _ _).set h.lap (.inr (by simp)) hge _
  have l3 : W3.heap[b]? = some (.cells #[.int .i64 (lap : Int)] 3 (0, 0)) := by rw [hW3]; simp [World.setCell, Array.getElem?_modify, h.lap]
  have a3 := f3.keep _ _ h.acc (by simp) (by simp)
  have c3 := f3.keep _ _ h.rcs (by simp) (by simp)
  have r3 : RowT eBy 5 W3 (b + 3) (.slice A n c) G.acc := by rw [hW3]; exact h.row.low (by omega)
  have x3 : RecsV W3 (b + 3) vr xs G.rs := by rw [hW3]; exact h1.low (by omega)
  obtain ⟨W4, hW4⟩ : ∃ W4, W4 = W3.alloc (.cells #[.slice A n c] 38) := ⟨_, rfl⟩
  have b4 : Below W3.heap.size W3 W4 := by rw [hW4]; exact Below.alloc (Below.refl _ _) (Nat.le_refl _) _
  have l4 := (b4.block _ (lt_of_heap l3)).trans l3
  have a4 := (b4.block _ (lt_of_heap a3)).trans a3
  have c4 := (b4.block _ (lt_of_heap c3)).trans c3
  have r4 := r3.below b4
  have x4 := x3.below b4
  have hs4 : Sl eVl W4 (some ⟨W.heap.size, 0, none⟩) [(⟨A, n, c⟩ : SlX)] := by
    rw [hW4, ← hsz]
    exact sl_one (E := eVl) W3 ⟨A, n, c⟩ 38
  have hbs4 : b + 3 ≤ W4.heap.size := by have := b4.size; omega
  have hxl : xs.length = G.rs.length := x4.rcd.1
  obtain ⟨vr', W5, hr, hro, hg, how⟩ := x4.row.app_own el30 hbs4 hs4 (n := 1) (c := 1) rfl (fun h => by cases h) (by omega)
  obtain ⟨A', c', rfl, _⟩ := hro.form
  have hbase : Below (b + 3) W4 W5 := grown_fr hg hbs4 (fun k hk => (x4.row.own hk).1)
  have l5 := (hbase.block _ (by omega)).trans l4
  have a5 := (hbase.block (b + 1) (by omega)).trans a4
  have c5 := (hbase.block (b + 2) (by omega)).trans c4
  have f5 : Fr [38] [] w0.heap.size W4 W5 := (x4.row.fr_app hg hbs4).down (by omega)
  have r5 := r4.fr f5 (by simp) (by simp)
  obtain ⟨vv, hvv⟩ : ∃ vv : Value, vv = .slice A' (xs ++ [(⟨A, n, c⟩ : SlX)]).length c' := ⟨_, rfl⟩
  have hrec : RecsV W5 (b + 3) (.slice A' (xs ++ [(⟨A, n, c⟩ : SlX)]).length c') (xs ++ [(⟨A, n, c⟩ : SlX)]) (G.rs ++ [G.acc]) := by
    refine ⟨hro, by simp [hxl], fun k x r e1 e2 => ?_⟩
    by_cases hk : k < xs.length
    · rw [List.getElem?_append_left hk] at e1
      rw [List.getElem?_append_left (by omega)] at e2
      exact (x4.rcd.2 k x r e1 e2).fr f5 (by simp) (by simp)
    · have hke : k = xs.length := by
        have := (List.getElem?_eq_some_iff.mp e1).1
        simp at this
        omega
      subst hke
      simp at e1
      rw [hxl] at e2
      simp at e2
      subst e1 e2
      exact r5
  obtain ⟨W6, hW6⟩ : ∃ W6, W6 = W5.setCell ⟨b + 2, 0, none⟩ vv := ⟨_, rfl⟩
  have l6 : W6.heap[b]? = some (.cells #[.int .i64 (lap : Int)] 3 (0, 0)) := by rw [hW6, Below.heap_setCell _ _ _ _ (by simp)]; exact l5
  have a6 : W6.heap[b + 1]? = some (.cells #[.slice A n c] 38 (0, 0)) := by rw [hW6, Below.heap_setCell _ _ _ _ (by simp)]; exact a5
  have c6 : W6.heap[b + 2]? = some (.cells #[vv] 30 (0, 0)) := by rw [hW6]; simp [World.setCell, Array.getElem?_modify, c5]
  have f6 : Fr [38] [b, b + 1, b + 2] w0.heap.size W W6 := by
    rw [hW6]
    exact (((f3.mono (by simp) (by simp)).trans (Fr.of_below b4 (by omega))).trans (f5.mono (by simp) (by simp))).set c5 (.inr (by simp)) (by omega) _
  refine ⟨A', _, c', W5, by rw [hW4, hW3] at hr; exact hr, one_cell c5, by simp [World.frozen?, c5], ?_, ?_, ⟨?_, ?_, ?_, RowT.nil _, ⟨xs ++ [(⟨A, n, c⟩ : SlX)], ?_, fun x _ => apart_nil _⟩, ?_, hge⟩, ?_⟩
  · rw [← hvv, ← hW6]; exact one_cell a6
  · rw [← hvv, ← hW6]; simp [World.frozen?, a6]
  · rw [← hvv, ← hW6, Below.heap_setCell _ _ _ _ (by simp)]; exact l6
  · rw [← hvv, ← hW6]; simp [World.setCell, Array.getElem?_modify, a6]
  · rw [← hvv, ← hW6, Below.heap_setCell _ _ _ _ (by simp)]; exact c6
  · exact (hrec.low (q := b + 2) (by omega)).low (q := b + 1) (by omega)
  · rw [← hvv, ← hW6]
    exact h.bel.trans (f6.set a6 (.inr (by simp)) (by omega) _).below
  · rw [← hvv, ← hW6]
    exact f6.set a6 (.inr (by simp)) (by omega) _
end
end Go.Proofs.Ytppdckncnfffcaa
