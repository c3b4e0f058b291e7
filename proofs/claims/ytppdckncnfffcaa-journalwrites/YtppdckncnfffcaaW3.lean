/-
  Words for memory: a block of sectors; a block that holds one pending write; steps by the equation of their run. Their conditions: the blocks lie as said.
-/
import Derived.Test.YtppdckncnfffcaaW2
import Derived.Deep.WholeRow
namespace Go.Proofs.Ytppdckncnfffcaa
open Go.RowKit

section
variable {α : Type} (E : Enc α)
theorem Enc.vals_cons (x : α) (l : List α) : E.vals (x :: l) = E.f x ++ E.vals l := by simp [Enc.vals]
theorem Enc.vals_split {l : List α} {k : Nat} {x : α} (h : l[k]? = some x) : E.vals l = (E.vals l).take (k * E.wd) ++ E.f x ++ (E.vals l).drop (k * E.wd + E.wd) := by
  induction l generalizing k with
  | nil => simp at h
  | cons y r ih =>
    rw [E.vals_cons]
    cases k with
    | zero =>
      have e : y = x := by simpa using h
      subst e
      have hl := E.len y
      simp [hl]
    | succ k =>
      have hl := E.len y
      have := ih (k := k) (by simpa using h)
      have e1 : (k + 1) * E.wd = E.wd + k * E.wd := by rw [Nat.succ_mul, Nat.add_comm]
      rw [e1, List.take_append, List.drop_append, hl]
      rw [List.take_of_length_le (by omega), List.drop_of_length_le (by omega)]
      have e2 : E.wd + k * E.wd - E.wd = k * E.wd := by omega
      have e3 : E.wd + k * E.wd + E.wd - E.wd = k * E.wd + E.wd := by omega
      rw [e2, e3]
      simp only [List.append_assoc, List.nil_append] at this ⊢
      rw [← this]
theorem Enc.vals_set {l : List α} {k : Nat} (x : α) (h : k < l.length) : E.vals (l.set k x) = (E.vals l).take (k * E.wd) ++ E.f x ++ (E.vals l).drop (k * E.wd + E.wd) := by
  induction l generalizing k with
  | nil => simp at h
  | cons y r ih =>
    have hl := E.len y
    cases k with
    | zero =>
      rw [List.set_cons_zero, E.vals_cons, E.vals_cons]
      simp
      rw [List.drop_append_of_le_length (by omega), List.drop_of_length_le (by omega)]
      rfl
    | succ k =>
      have := ih (k := k) (by simpa using h)
      rw [List.set_cons_succ, E.vals_cons, E.vals_cons, this]
      have e1 : (k + 1) * E.wd = E.wd + k * E.wd := by rw [Nat.succ_mul, Nat.add_comm]
      rw [e1, List.take_append, List.drop_append, hl]
      rw [List.take_of_length_le (show (E.f y).length ≤ _ by omega), List.drop_of_length_le (show (E.f y).length ≤ _ by omega)]
      have e2 : E.wd + k * E.wd - E.wd = k * E.wd := by omega
      have e3 : E.wd + k * E.wd + E.wd - E.wd = k * E.wd + E.wd := by omega
      rw [e2, e3]
      simp only [List.append_assoc, List.nil_append]
end

/-- Block B has the sectors S. -/
def Sects (w : World) (B : Nat) (S : List Sec) : Prop := w.heap[B]? = some (.cells (eSec.vals S).toArray 86 (0, 0))
section
variable {w w' : World} {B : Nat} {S : List Sec}
theorem Sects.lt (h : Sects w B S) : B < w.heap.size := lt_of_heap h
theorem Sects.range (h : Sects w B S) {k : Nat} (hk : k < S.length) : w.rangeAt B (k * 64) (eSec.f (at_ S k)) := by
  intro j v hv
  rw [cell_of h]
  have := eSec.vals_get (at_get hk) hv
  rw [show eSec.wd = 64 from rfl] at this
  simpa using this
theorem Sects.load (h : Sects w B S) {k : Nat} (hk : k < S.length) : (Instr.loadAt 86 (.pointer (some ⟨B, k * 64, none⟩))).run Try.prog w = .ok (secV (at_ S k)) w :=
  run_loadAt_mid w B (k * 64) 86 _ _ (h.range hk) Try.underlying86 rfl (by rw [size72, eSec.len]; rfl)
theorem vals_size (S : List Sec) : (eSec.vals S).toArray.size = S.length * 64 := by
  have := eSec.vals_length S
  rw [show eSec.wd = 64 from rfl] at this
  simpa using this
/-- A sector is stored. -/
theorem Sects.store (h : Sects w B S) {k : Nat} (hk : k < S.length) (s : Sec) :
    (Instr.storeAt 86 (.pointer (some ⟨B, k * 64, none⟩)) (secV s)).run Try.prog w = .ok () (w.setRow B (eSec.vals (S.set k s)).toArray) := by
  have h1 := run_storeCells_at Try.prog B (k * 64) 86 (eSec.f s) 0 _ w h (by rw [vals_size, eSec.len, show eSec.wd = 64 from rfl]; omega) (eSec.one s)
  have e := eSec.vals_set s hk
  rw [show eSec.wd = 64 from rfl] at e
  have e2 : (List.take (k * 64 + 0) (eSec.vals S).toArray.toList ++ eSec.f s ++ List.drop (k * 64 + 0 + (eSec.f s).length) (eSec.vals S).toArray.toList) = eSec.vals (S.set k s) := by
    rw [e, eSec.len, show eSec.wd = 64 from rfl]
    simp
  rw [e2] at h1
  have hl : ¬ (eSec.f s).length ≠ 64 := by rw [eSec.len, show eSec.wd = 64 from rfl]; omega
  obtain ⟨i, hi⟩ : ∃ i, Try.prog.info? 86 = some i := by
    cases e : Try.prog.info? 86 with
    | none => have := size72; simp [e] at this
    | some i => exact ⟨i, rfl⟩
  have hs : i.size = 64 := by have := size72; simpa [hi] using this
  simp only [Instr.storeAt, Instr.sureAddr, Sem.run_bind, Sem.run_pure, Result.andThen_ok, storeVar, sizeOf, typeInfo]
  simp [hi, hs, secV, Value.cells, eSec.len, show eSec.wd = 64 from rfl, h1]
theorem Sects.set (h : Sects w B S) (T : List Sec) : Sects (w.setRow B (eSec.vals T).toArray) B T := setRow_heap w B _ _ _ _ h
/-- The first bytes of a sector are written over. -/
theorem Sects.copy (h : Sects w B S) {k n c1 c2 : Nat} (hk : k < S.length) (t : Sec) (hn : n ≤ 64) {q o : Nat} (hq : w.rangeAt q o (eSec.f t)) (ty : TypeId) :
    (Builtin.copy_ #[38, 38] ty #[.slice (some ⟨B, k * 64, none⟩) n c1, .slice (some ⟨q, o, none⟩) n c2]).run Try.prog w = .ok (goInt n) (w.setRow B (eSec.vals (S.set k (lay (at_ S k) t n))).toArray) := by
  have hl : ((eSec.f t).take n).length = n := by
    have := eSec.len t
    rw [show eSec.wd = 64 from rfl] at this
    rw [List.length_take]
    omega
  have h1 := run_copy_row (P := Try.prog) w 38 38 ty 5 B (k * 64) n c1 ⟨q, o, none⟩ n c2 _ 86 ((eSec.f t).take n) Try.underlying38 size5 h (by rw [hl]; exact (Nat.min_self n).symm) (fun j v hv => by
    rw [addr_at]
    refine hq j v ?_
    rw [List.getElem?_take] at hv
    split at hv
    · exact hv
    · cases hv) (by rw [vals_size, hl]; omega) (fun v hv => eSec.one t v (List.mem_of_mem_take hv))
  rw [hl] at h1
  have e := eSec.vals_set (lay (at_ S k) t n) hk
  have e3 := eSec.vals_split (at_get hk)
  rw [show eSec.wd = 64 from rfl] at e e3
  have hf : eSec.f (lay (at_ S k) t n) = (eSec.f t).take n ++ (eSec.f (at_ S k)).drop n := by
    show bv _ = (bv _).take n ++ (bv _).drop n
    simp [lay, bv_append, bv_take, bv_drop]
  have hv : (eSec.vals S).drop (k * 64 + n) = (eSec.f (at_ S k)).drop n ++ (eSec.vals S).drop (k * 64 + 64) := by
    have hvl := eSec.vals_length S
    rw [show eSec.wd = 64 from rfl] at hvl
    have hfl := eSec.len (at_ S k)
    rw [show eSec.wd = 64 from rfl] at hfl
    conv => lhs; rw [e3]
    rw [List.append_assoc, List.drop_append, List.drop_of_length_le (by rw [List.length_take]; omega), List.nil_append, List.length_take, show k * 64 + n - min (k * 64) (eSec.vals S).length = n by omega]
    rw [List.drop_append_of_le_length (by omega)]
  have e2 : (List.take (k * 64) (eSec.vals S).toArray.toList ++ (eSec.f t).take n ++ List.drop (k * 64 + n) (eSec.vals S).toArray.toList) = eSec.vals (S.set k (lay (at_ S k) t n)) := by
    rw [e, hf]
    simp only []
    rw [hv]
    simp
  rw [e2] at h1
  exact h1
theorem Sects.keep (h : Sects w B S) (hb : w'.heap[B]? = w.heap[B]?) : Sects w' B S := hb.trans h
theorem Sects.below (h : Sects w B S) (hf : Below w.heap.size w w') : Sects w' B S := h.keep (hf.block B h.lt)
theorem Sects.fr {l ms : List Nat} {base : Nat} (h : Sects w B S) (hf : Fr l ms base w w') (hl : 86 ∉ l) (hm : B ∉ ms) : Sects w' B S := hf.keep B _ h hl hm
theorem Fr.row {l ms : List Nat} {base : Nat} {a : World} {i : Nat} {x : Obj} (h : Fr l ms base a w) (hx : w.heap[i]? = some x) (hk : kd x ∈ l ∨ i ∈ ms) (hb : base ≤ i) (cs : Array Value) : Fr l ms base a (w.setRow i cs) :=
  h.trans ⟨⟨rfl, rfl, rfl, by simp, fun k hk => setRow_other w i k cs (by omega)⟩, fun j y hj hy hm => by
    rw [setRow_other w i j cs ?_]
    · exact hj
    · rintro rfl
      rw [hx] at hj
      cases hj
      exact hk.elim hy hm⟩
end
theorem rep_cells (n : Nat) : (madeCells (eSec.f zs).toArray (n * 64)) = (eSec.vals (List.replicate n zs)).toArray := by
  have hl := eSec.len zs
  rw [show eSec.wd = 64 from rfl] at hl
  have hv := eSec.vals_length (List.replicate n zs)
  rw [show eSec.wd = 64 from rfl, List.length_replicate] at hv
  apply Array.ext
  · rw [size_madeCells, List.size_toArray, hv]
  · intro j h1 h2
    rw [size_madeCells] at h1
    have e1 : (eSec.vals (List.replicate n zs))[j]? = (eSec.f zs)[j % 64]? := by
      have hj : j / 64 < n := by omega
      have hm : j % 64 < (eSec.f zs).length := by rw [hl]; omega
      have := eSec.vals_get (l := List.replicate n zs) (k := j / 64) (t := zs) (by simp [hj]) (i := j % 64) (List.getElem?_eq_getElem hm)
      rw [show eSec.wd = 64 from rfl, Nat.div_add_mod'] at this
      rw [this, List.getElem?_eq_getElem hm]
    have hm : j % 64 < (eSec.f zs).length := by rw [hl]; omega
    rw [List.getElem?_eq_getElem hm, List.getElem?_eq_getElem (by omega)] at e1
    injection e1 with e1
    simp only [madeCells, Array.getElem_map, Array.getElem_range, List.getElem_toArray, List.size_toArray, hl]
    rw [e1]
    simp [hm]
/-- What New makes. -/
theorem run_make61 (n : Nat) (hn : n ≤ 4096) (w : World) : (Instr.makeSlice 61 (.int .i64 (n : Int)) (.int .i64 (n : Int))).run Try.prog w = .ok (.slice (some ⟨w.heap.size, 0, none⟩) n n) (w.alloc (.cells (eSec.vals (List.replicate n zs)).toArray 86)) := by
  obtain ⟨z, h, hz⟩ : ∃ z, (Try.prog.info? 86).map (fun i => (i.zero, i.size, i.bytes)) = some (some z, 64, 64) ∧ z = secV zs := ⟨_, by kernel_rfl, rfl⟩
  obtain ⟨i, hi, hz0, hz1, hz2⟩ := info_parts h
  have hr := run_make (P := Try.prog) w 61 86 i z Try.underlying61 hi hz0 .i64 .i64 n n (by omega) (Int.le_refl _) (by rw [hz2]; omega) (by omega)
  simp only [Int.toNat_natCast, hz1] at hr
  rw [hr, hz]
  simp only [secV, Value.cells]
  rw [rep_cells]

/-- Block q has one pending write. -/
def WrAt (w : World) (q : Nat) (x : Wr) : Prop := w.heap[q]? = some (.cells (eWr.f x).toArray 88 (0, 0))
section
variable {w w' : World} {q : Nat} {x : Wr}
theorem WrAt.lt (h : WrAt w q x) : q < w.heap.size := lt_of_heap h
theorem WrAt.below (h : WrAt w q x) (hf : Below w.heap.size w w') : WrAt w' q x := (hf.block q h.lt).trans h
theorem WrAt.place (h : WrAt w q x) : w.cell? ⟨q, 0, none⟩ = some (.int .i64 (x.p : Int)) := by
  rw [cell_of h]
  rfl
theorem WrAt.whole (h : WrAt w q x) : w.rangeAt q 0 (eWr.f x) := by
  intro j v hv
  rw [cell_of h]
  simpa using hv
theorem WrAt.old (h : WrAt w q x) : w.rangeAt q 1 (eSec.f x.o) := by
  intro j v hv
  rw [cell_of h]
  have hj : j < (bv x.o.v).length := (List.getElem?_eq_some_iff.mp hv).1
  show (eWr.f x).toArray[1 + j]? = _
  have : (eWr.f x)[1 + j]? = some v := by
    rw [Nat.add_comm]
    show (bv x.o.v ++ bv x.n.v)[j]? = _
    rw [List.getElem?_append_left hj]
    exact hv
  simpa using this
theorem WrAt.new (h : WrAt w q x) : w.rangeAt q 65 (eSec.f x.n) := by
  intro j v hv
  rw [cell_of h]
  have hl : (bv x.o.v).length = 64 := by rw [bv_length, x.o.h]
  have : (eWr.f x)[65 + j]? = some v := by
    rw [show 65 + j = (64 + j) + 1 by omega]
    show (bv x.o.v ++ bv x.n.v)[64 + j]? = _
    rw [List.getElem?_append_right (by omega), hl, Nat.add_sub_cancel_left]
    exact hv
  simpa using this
theorem load74 {b o : Nat} (h : w.rangeAt b o (eWr.f x)) : (Instr.loadAt 88 (.pointer (some ⟨b, o, none⟩))).run Try.prog w = .ok (wrV x) w :=
  run_loadAt_mid w b o 88 _ _ h Try.underlying88 rfl (by rw [size74, eWr.len]; rfl)
theorem load72 {b o : Nat} {s : Sec} (h : w.rangeAt b o (eSec.f s)) : (Instr.loadAt 86 (.pointer (some ⟨b, o, none⟩))).run Try.prog w = .ok (secV s) w :=
  run_loadAt_mid w b o 86 _ _ h Try.underlying86 rfl (by rw [size72, eSec.len]; rfl)
theorem setRow_new (w : World) (cs cs' : Array Value) (t : TypeId) : (w.alloc (.cells cs t)).setRow w.heap.size cs' = w.alloc (.cells cs' t) := World.setRow_alloc_new w cs cs' t
end
/-- A whole value goes into a new block. -/
theorem run_storeNew {ty : TypeId} {n : Nat} (w : World) (c c' : Array Value) (hs : (Try.prog.info? ty).map (·.size) = some n) (h1 : c.size = n) (h2 : c'.size = n) (h3 : ∀ v ∈ c', v.oneCell' = true) :
    (Instr.storeAt ty (.pointer (some ⟨w.heap.size, 0, none⟩)) (.agg c')).run Try.prog (w.alloc (.cells c ty)) = .ok () (w.alloc (.cells c' ty)) := by
  have h := run_storeVar_row (P := Try.prog) (w.alloc (.cells c ty)) w.heap.size ty ty c c' (heap_new w _) (by rw [hs, h2]) (by omega) (Array.all_eq_true_iff_forall_mem.2 h3)
  simp only [Instr.storeAt, Instr.sureAddr, Sem.run_bind, Sem.run_pure, Result.andThen_ok, h, setRow_new]
theorem store74new (w : World) (x y : Wr) : (Instr.storeAt 88 (.pointer (some ⟨w.heap.size, 0, none⟩)) (wrV y)).run Try.prog (w.alloc (.cells (eWr.f x).toArray 88)) = .ok () (w.alloc (.cells (eWr.f y).toArray 88)) :=
  run_storeNew w _ _ size74 (by simp [eWr.len]; rfl) (by simp [eWr.len]; rfl) (fun v hv => eWr.one y v (by simpa using hv))
theorem store72new (w : World) (x y : Sec) : (Instr.storeAt 86 (.pointer (some ⟨w.heap.size, 0, none⟩)) (secV y)).run Try.prog (w.alloc (.cells (eSec.f x).toArray 86)) = .ok () (w.alloc (.cells (eSec.f y).toArray 86)) :=
  run_storeNew w _ _ size72 (by simp [eSec.len]; rfl) (by simp [eSec.len]; rfl) (fun v hv => eSec.one y v (by simpa using hv))

/-! ### Steps by the equation of their run -/
section
variable {P : Program} {w w' : World} {ops : Array Oper} {rest : List Oper} {o : Oper} {a : Act} {Q : Exit → Act → World → Prop} {v : Value}
theorem exec_load {ty : TypeId} {x : Operand} {p : Value} (ho : o.op = .load ty x) (hx : a.eval x = p) (hr : (Instr.loadAt ty p).run P w = .ok v w') : (execOp a.eval o).run P w = .ok (.value v) w' := by
  unfold execOp
  simp only [ho, hx, Sem.run_bind, hr, Result.andThen_ok, Sem.run_pure]
theorem exec_store {ty : TypeId} {x y : Operand} {p u : Value} (ho : o.op = .store ty x y) (hx : a.eval x = p) (hy : a.eval y = u) (hr : (Instr.storeAt ty p u).run P w = .ok () w') : (execOp a.eval o).run P w = .ok .skip w' := by
  unfold execOp
  simp only [ho, hx, hy, Sem.run_bind, hr, Result.andThen_ok, Sem.run_pure]
theorem exec_alloc {ty : TypeId} (ho : o.op = .alloc ty) (hr : (Instr.alloc ty true (.tuple #[])).run P w = .ok v w') : (execOp a.eval o).run P w = .ok (.value v) w' := by
  unfold execOp
  simp only [ho, Sem.run_bind, hr, Result.andThen_ok, Sem.run_pure]
theorem exec_build {ty : TypeId} {ps : Array (Nat × Operand)} {qs : Array (Nat × Value)} (ho : o.op = .build ty ps) (hx : (ps.map fun (i, x) => (i, a.eval x)) = qs) (hr : (Instr.build ty qs).run P w = .ok v w') : (execOp a.eval o).run P w = .ok (.value v) w' := by
  unfold execOp
  simp only [ho, hx, Sem.run_bind, hr, Result.andThen_ok, Sem.run_pure]
theorem exec_buildSlice {ty : TypeId} {n : Nat} {ps : Array (Nat × Operand)} {qs : Array (Nat × Value)} (ho : o.op = .buildSlice ty n ps) (hx : (ps.map fun (i, x) => (i, a.eval x)) = qs) (hr : (Instr.buildSlice ty n qs).run P w = .ok v w') : (execOp a.eval o).run P w = .ok (.value v) w' := by
  unfold execOp
  simp only [ho, hx, Sem.run_bind, hr, Result.andThen_ok, Sem.run_pure]
theorem exec_make {ty : TypeId} {x y : Operand} {p u : Value} (ho : o.op = .makeSlice ty x y) (hx : a.eval x = p) (hy : a.eval y = u) (hr : (Instr.makeSlice ty p u).run P w = .ok v w') : (execOp a.eval o).run P w = .ok (.value v) w' := by
  unfold execOp
  simp only [ho, hx, hy, Sem.run_bind, hr, Result.andThen_ok, Sem.run_pure]
theorem exec_copy {s x : Operand} {t u : TypeId} {p y : Value} (ho : o.op = .call { callee := .builtin .copy, args := #[s, x], argTypes := #[t, u] }) (hs : a.eval s = p) (hx : a.eval x = y)
    (hr : (Builtin.copy_ #[t, u] o.type #[p, y]).run P w = .ok v w') : (execOp a.eval o).run P w = .ok (.value v) w' := by
  simp [execOp, ho, resolve, invoke, builtin, hs, hx, hr, Result.andThen]
theorem exec_append {s x : Operand} {t u : TypeId} {p y : Value} (ho : o.op = .call { callee := .builtin .append, args := #[s, x], argTypes := #[t, u] }) (hs : a.eval s = p) (hx : a.eval x = y)
    (hr : (Builtin.append_ #[t, u] o.type #[p, y]).run P w = .ok v w') : (execOp a.eval o).run P w = .ok (.value v) w' := by
  simp [execOp, ho, resolve, invoke, builtin, hs, hx, hr, Result.andThen]
/-- A step that yields a value. -/
theorem wpList_value (hgd : o.guard = none) (hr : (execOp a.eval o).run P w = .ok (.value v) w') (h : wpList P ops Q rest (a.put o.dst v) w') : wpList P ops Q (o :: rest) a w := by
  refine wpList_plain hgd fun K hK => ?_
  unfold Oper.wp
  rw [hr]
  exact hK _ _ h
theorem wpList_unit (hgd : o.guard = none) (hr : (execOp a.eval o).run P w = .ok .skip w') (h : wpList P ops Q rest (a.put o.dst undef) w') : wpList P ops Q (o :: rest) a w := by
  refine wpList_plain hgd fun K hK => ?_
  unfold Oper.wp
  rw [hr]
  exact hK _ _ h
theorem wp_value {K : Act → World → Prop} (hr : (execOp a.eval o).run P w = .ok (.value v) w') (h : K (a.put o.dst v) w') : o.wp P a w K Q := by
  unfold Oper.wp
  rw [hr]
  exact h
theorem wp_unit {K : Act → World → Prop} (hr : (execOp a.eval o).run P w = .ok .skip w') (h : K (a.put o.dst undef) w') : o.wp P a w K Q := by
  unfold Oper.wp
  rw [hr]
  exact h
end
end Go.Proofs.Ytppdckncnfffcaa
