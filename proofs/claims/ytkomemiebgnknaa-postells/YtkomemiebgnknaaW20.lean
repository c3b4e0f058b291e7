/-
  The contract of the document's Copy. Its conditions: the slice reads as epochs and fits memory.
-/
import Derived.Test.YtkomemiebgnknaaW19
import Derived.Laws.AppendOwn
import Derived.Laws.AppendOwnNone
import Derived.Deep.DeepAppendWide
namespace Go.Proofs.Ytkomemiebgnknaa
open Go.RowKit Go.Sort

/-- The cells of epochs. -/
def epCells (x : Ep) : List Value := [.int .i64 x.M, .int .i64 x.C, .bool x.F]
def epVals (l : List Ep) : List Value := l.flatMap epCells
theorem epVals_length (l : List Ep) : (epVals l).length = l.length * 3 := by
  induction l with
  | nil => rfl
  | cons x l ih =>
    unfold epVals at ih ⊢
    rw [List.flatMap_cons, List.length_append, ih, List.length_cons]
    simp [epCells]
    omega
theorem epVals_at (l : List Ep) (k : Nat) (x : Ep) (h : l[k]? = some x) (j : Nat) (hj : j < 3) : (epVals l)[k * 3 + j]? = (epCells x)[j]? := by
  induction l generalizing k with
  | nil => simp at h
  | cons y l ih =>
    have hc : epVals (y :: l) = epCells y ++ epVals l := by unfold epVals; rw [List.flatMap_cons]
    rw [hc]
    cases k with
    | zero =>
      simp at h
      subst h
      rw [List.getElem?_append_left (by simp [epCells]; omega), Nat.zero_mul, Nat.zero_add]
    | succ k =>
      rw [List.getElem?_append_right (by simp [epCells]; omega)]
      rw [show (k + 1) * 3 + j - (epCells y).length = k * 3 + j by simp [epCells]; omega]
      exact ih k (by simpa using h)
theorem epVals_one (l : List Ep) : ∀ u ∈ epVals l, u.oneCell' = true := by
  intro u hu
  unfold epVals at hu
  obtain ⟨x, _, hx⟩ := List.mem_flatMap.mp hu
  simp [epCells] at hx
  rcases hx with rfl | rfl | rfl <;> rfl
theorem epVals_news {w : World} {ad : Addr} {l : List Ep} (h : Eps w (some ad) l) : ∀ (j : Nat) (u : Value), (epVals l)[j]? = some u → w.cell? (ad.add j) = some u := by
  intro j u hj
  have hlen : j < l.length * 3 := by rw [← epVals_length l]; exact (List.getElem?_eq_some_iff.mp hj).1
  obtain ⟨b, off, hA, _, hc⟩ := h.2 (by omega)
  injection hA with hA
  subst hA
  have hk : j / 3 < l.length := by omega
  have hat := hc (j / 3) _ (List.getElem?_eq_getElem hk)
  have hv := epVals_at l (j / 3) _ (List.getElem?_eq_getElem hk) (j % 3) (by omega)
  rw [show j / 3 * 3 + j % 3 = j by omega, hj] at hv
  rw [addr_add]
  obtain ⟨e1, e2, e3⟩ := hat
  rcases (show j % 3 = 0 ∨ j % 3 = 1 ∨ j % 3 = 2 by omega) with hm | hm | hm
  · rw [hm] at hv
    simp [epCells] at hv
    rw [hv, ← e1, show off + j = off + j / 3 * 3 by omega]
  · rw [hm] at hv
    simp [epCells] at hv
    rw [hv, ← e2, show off + j = off + j / 3 * 3 + 1 by omega]
  · rw [hm] at hv
    simp [epCells] at hv
    rw [hv, ← e3, show off + j = off + j / 3 * 3 + 2 by omega]
theorem info32 : (Try.prog.info? 32).map (fun i => (i.zero, i.size, i.bytes)) = some (some (.agg #[.int .i64 0, .int .i64 0, .bool false]), 3, 24) := by kernel_rfl
theorem info32p : ∃ i, Try.prog.info? 32 = some i ∧ i.zero = some (.agg #[.int .i64 0, .int .i64 0, .bool false]) ∧ i.size = 3 ∧ i.bytes = 24 := info_parts info32
theorem owns_empty (w : World) : (w.alloc (.cells #[] 32)).ownsRow 0 32 3 (.slice (some ⟨w.heap.size, 0, none⟩) 0 0) 0 [] :=
  ⟨rfl, .inr ⟨w.heap.size, 0, #[], rfl, Nat.zero_le _, heap_new _ _, Nat.le_refl _, Nat.zero_le _, rfl, rfl⟩⟩
theorem owns_eps {w : World} {l : List Ep} {v : Value} {n : Nat} (h : w.ownsRow 0 32 3 v n (epVals l)) (hn : l.length = n) (hm : n ≤ maxLen) : ∃ B c, v = .slice B n c ∧ Eps w B l := by
  rcases h.2 with ⟨hv, hz⟩ | ⟨g, cap, cur, hv, hg, hb, _⟩
  · subst hz
    exact ⟨none, 0, hv, by omega, fun h => by omega⟩
  · refine ⟨_, _, hv, by omega, fun _ => ⟨g, 0, rfl, (Array.getElem?_eq_some_iff.mp hb).1, fun k x hk => ?_⟩⟩
    have hcs := h.cells (g := g) (by rw [hv]; rfl)
    have g0 := hcs (k * 3 + 0) _ ((epVals_at l k x hk 0 (by omega)).trans rfl)
    have g1 := hcs (k * 3 + 1) _ ((epVals_at l k x hk 1 (by omega)).trans rfl)
    have g2 := hcs (k * 3 + 2) _ ((epVals_at l k x hk 2 (by omega)).trans rfl)
    rw [addr_add] at g0 g1 g2
    rw [Nat.add_zero] at g0
    rw [← Nat.add_assoc] at g1 g2
    exact ⟨g0, g1, g2⟩
/-- append of a table onto an empty one that was just made. -/
theorem append_eps {w : World} {A : Option Addr} {l : List Ep} {n c : Nat} (h : Eps w A l) (hn : l.length = n) (hA : A = none → c = 0) (hm : n * 24 ≤ 140737488351232) (ty : TypeId) :
    ∃ B c' w', (Builtin.append_ #[22, 22] ty #[.slice (some ⟨w.heap.size, 0, none⟩) 0 0, .slice A n c]).run Try.prog (w.alloc (.cells #[] 32)) = .ok (.slice B n c') w' ∧ Eps w' B l ∧ Below w.heap.size w w' := by
  obtain ⟨i, hi, hz0, hz1, hz2⟩ := info32p
  have hbel : Below w.heap.size w (w.alloc (.cells #[] 32)) := (Below.refl _ _).alloc (Nat.le_refl _) _
  have hmx := h.1
  cases A with
  | none =>
    have hl : l = [] := by
      cases l with
      | nil => rfl
      | cons c l => obtain ⟨b, off, hA, _⟩ := h.2 (by simp); simp at hA
    subst hl
    subst hn
    rw [hA rfl]
    exact ⟨_, _, _, run_append_owned_none _ 0 22 ty 32 i 3 Try.underlying22 hi _ 0 [] (owns_empty w), ⟨by simp, by simp⟩, hbel⟩
  | some ad =>
    obtain ⟨v', w', hr, ho, hg, _⟩ := run_append_own_wide (P := Try.prog) (w.alloc (.cells #[] 32)) 0 22 ty 32 i _ 3 24 Try.underlying22 hi hz0 hz1 hz2 rfl (by omega) _ 0 [] (owns_empty w) ad n c (epVals l) (by rw [epVals_length, hn]) (epVals_news (h.below hbel)) (epVals_one l) (by omega) (by omega) (Nat.zero_le _)
    rw [List.nil_append, Nat.zero_add] at ho
    obtain ⟨B, c', rfl, hE⟩ := owns_eps ho hn (by omega)
    exact ⟨B, c', w', hr, hE, hbel.grown hg (by simp) (fun k hk => by simp [Value.ownBlock] at hk; omega)⟩
/-- append by the equation of its run. -/
theorem wpList_append_run {P : Program} {w : World} {ops : Array Oper} {rest : List Oper} {o : Oper} {a : Act} {Q : Exit → Act → World → Prop} (hgd : o.guard = none) (s x : Operand) (t u : TypeId)
    (ho : o.op = .call { callee := .builtin .append, args := #[s, x], argTypes := #[t, u] }) (v y : Value) (hs : a.eval s = v) (hx : a.eval x = y) (v' : Value) (w' : World)
    (hr : (Builtin.append_ #[t, u] o.type #[v, y]).run P w = .ok v' w') (h : wpList P ops Q rest (a.put o.dst v') w') : wpList P ops Q (o :: rest) a w := by
  refine wpList_plain hgd fun K hK => ?_
  unfold Oper.wp
  simp [execOp, ho, resolve, invoke, builtin, hs, hx, hr, Result.andThen]
  exact hK _ _ h
def CpPost (l : List Ep) (n : Nat) (w : World) (e : Ending) (w' : World) : Prop := ∃ B c, e = .returned (.slice B n c) ∧ Eps w' B l ∧ Below w.heap.size w w'
set_option maxHeartbeats 1000000 in
theorem copy_any (l : List Ep) (A : Option Addr) (n cap : Nat) (w : World) (h : Eps w A l) (hn : l.length = n) (hA : A = none → cap = 0) (hm : n * 24 ≤ 140737488351232) : Calls Try.prog 11 #[.slice A n cap] w (CpPost l n w) := by
  obtain ⟨B, c', w', hr, hE, hb⟩ := append_eps h hn hA hm 22
  have HRU := Lib.hid hr
  have HE := Lib.hid hE
  have HB := Lib.hid hb
  clear h hn hA hm hr hE hb
  go_enter Try.func11, Try.ntmps11
  go_wp2_with (at_builtin; refine wpList_append_run rfl _ _ 22 22 rfl _ _ rfl rfl _ w' HRU.out ?_)
  go_ret
  exact ⟨B, c', rfl, HE.out, HB.out⟩
end Go.Proofs.Ytkomemiebgnknaa
