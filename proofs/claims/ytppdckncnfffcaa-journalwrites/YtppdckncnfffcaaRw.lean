/-
  Words for memory, for things of any shape that lie in cells: slices that read as such, and rows of them of the call's own. Their conditions: none.
-/
import Derived.Test.YtppdckncnfffcaaW1
import Derived.Maps.AppendAt
import Derived.Deep.DeepAppendWide
import Derived.Laws.AppendOwnNone
import Derived.Laws.MakeOwn
namespace Go.Proofs.Ytppdckncnfffcaa
open Go.RowKit Go.Maps

/-- Every block of cells lies as it lay. -/
def Keeps (W W' : World) : Prop := ∀ (q : Nat) (cs : Array Value) (t : TypeId) (fr : Nat × Nat), W.heap[q]? = some (.cells cs t fr) → W'.heap[q]? = some (.cells cs t fr)
theorem Keeps.of_below {W W' : World} (h : Below W.heap.size W W') : Keeps W W' := fun q _ _ _ hq => (h.block q (lt_of_heap hq)).trans hq
theorem Keeps.refl (w : World) : Keeps w w := fun _ _ _ _ h => h
theorem Keeps.trans {a b c : World} (h : Keeps a b) (k : Keeps b c) : Keeps a c := fun q cs t fr hq => k q cs t fr (h q cs t fr hq)
theorem grown_of_below {w w' : World} (h : Below w.heap.size w w') (row : Option Nat) : w.grownBy w' row := ⟨h.os, h.tape, h.output, h.size, fun k hk _ => h.block k hk⟩
theorem addr_at (b o k : Nat) : (⟨b, o, none⟩ : Addr).add k = ⟨b, o + k, none⟩ := by unfold Addr.add; split <;> simp_all
theorem cell_of {w : World} {b : Nat} {cs : Array Value} {e : TypeId} {fr : Nat × Nat} (h : w.heap[b]? = some (.cells cs e fr)) (o : Nat) : w.cell? ⟨b, o, none⟩ = cs[o]? := by simp [World.cell?, h]
/-- A block that has a cell is a block of cells. -/
theorem cells_of_cell {w : World} {b o : Nat} {u : Value} (h : w.cell? ⟨b, o, none⟩ = some u) : ∃ cs t fr, w.heap[b]? = some (.cells cs t fr) := by
  unfold World.cell? at h
  split at h
  · rename_i heq
    exact ⟨_, _, _, heq⟩
  all_goals cases h
/-- append by the equation of its run. -/
theorem wpList_append_run {P : Program} {w : World} {ops : Array Oper} {rest : List Oper} {o : Oper} {a : Act} {Q : Exit → Act → World → Prop} (hgd : o.guard = none) (s x : Operand) (t u : TypeId)
    (ho : o.op = .call { callee := .builtin .append, args := #[s, x], argTypes := #[t, u] }) (v y : Value) (hs : a.eval s = v) (hx : a.eval x = y) (v' : Value) (w' : World)
    (hr : (Builtin.append_ #[t, u] o.type #[v, y]).run P w = .ok v' w') (h : wpList P ops Q rest (a.put o.dst v') w') : wpList P ops Q (o :: rest) a w := by
  refine wpList_plain hgd fun K hK => ?_
  unfold Oper.wp
  simp [execOp, ho, resolve, invoke, builtin, hs, hx, hr, Result.andThen]
  exact hK _ _ h

/-- How a thing lies: its cells. -/
structure Enc (α : Type) where
  f : α → List Value
  wd : Nat
  len : ∀ x, (f x).length = wd
  one : ∀ x, ∀ v ∈ f x, v.oneCell' = true
  pos : 0 < wd
section
variable {α : Type} (E : Enc α)
/-- The cells of things. -/
def Enc.vals (l : List α) : List Value := l.flatMap E.f
theorem Enc.vals_append (l m : List α) : E.vals (l ++ m) = E.vals l ++ E.vals m := by simp [Enc.vals]
theorem Enc.vals_length (l : List α) : (E.vals l).length = l.length * E.wd := by
  induction l with
  | nil => simp [Enc.vals]
  | cons t r ih =>
    have e : E.vals (t :: r) = E.f t ++ E.vals r := by simp [Enc.vals]
    rw [e, List.length_append, ih, E.len, List.length_cons, Nat.succ_mul, Nat.add_comm]
theorem Enc.vals_one (l : List α) : ∀ u ∈ E.vals l, u.oneCell' = true := by
  intro u hu
  obtain ⟨t, _, ht⟩ := List.mem_flatMap.mp hu
  exact E.one t u ht
theorem Enc.vals_at {l : List α} {j : Nat} {u : Value} (h : (E.vals l)[j]? = some u) : ∃ t, l[j / E.wd]? = some t ∧ (E.f t)[j % E.wd]? = some u := by
  have hp := E.pos
  induction l generalizing j with
  | nil => simp [Enc.vals] at h
  | cons t r ih =>
    have e : E.vals (t :: r) = E.f t ++ E.vals r := by simp [Enc.vals]
    rw [e] at h
    by_cases hj : j < E.wd
    · rw [List.getElem?_append_left (by rw [E.len]; exact hj)] at h
      exact ⟨t, by rw [Nat.div_eq_of_lt hj]; rfl, by rw [Nat.mod_eq_of_lt hj]; exact h⟩
    · rw [List.getElem?_append_right (by rw [E.len]; omega), E.len] at h
      obtain ⟨i, rfl⟩ : ∃ i, j = i + E.wd := ⟨j - E.wd, by omega⟩
      rw [Nat.add_sub_cancel] at h
      obtain ⟨t', h1, h2⟩ := ih h
      exact ⟨t', by rw [Nat.add_div_right _ hp]; exact h1, by rw [Nat.add_mod_right]; exact h2⟩
theorem Enc.vals_get {l : List α} {k : Nat} {t : α} (hk : l[k]? = some t) {i : Nat} {u : Value} (hu : (E.f t)[i]? = some u) : (E.vals l)[k * E.wd + i]? = some u := by
  have hi : i < E.wd := by
    have := (List.getElem?_eq_some_iff.mp hu).1
    rw [E.len] at this
    exact this
  induction l generalizing k with
  | nil => simp at hk
  | cons s r ih =>
    have e : E.vals (s :: r) = E.f s ++ E.vals r := by simp [Enc.vals]
    rw [e]
    cases k with
    | zero =>
      simp at hk
      subst hk
      rw [List.getElem?_append_left (by rw [E.len]; omega)]
      simpa using hu
    | succ k =>
      rw [List.getElem?_append_right (by rw [E.len, Nat.succ_mul]; omega), E.len, show (k + 1) * E.wd + i - E.wd = k * E.wd + i by rw [Nat.succ_mul]; omega]
      exact ih (by simpa using hk)
/-- A slice (its address A) that reads as the things l. -/
def Sl (w : World) (A : Option Addr) (l : List α) : Prop :=
  l.length ≤ maxLen ∧ (0 < l.length → ∃ b off, A = some ⟨b, off, none⟩ ∧ b < w.heap.size ∧ ∀ (k : Nat) (x : α), l[k]? = some x → ∀ (i : Nat) (u : Value), (E.f x)[i]? = some u → w.cell? ⟨b, off + k * E.wd + i, none⟩ = some u)
variable {E}
section
variable {w w' : World} {A : Option Addr} {l : List α}
theorem Sl.below {B : Nat} (h : Sl E w A l) (hB : w.heap.size ≤ B) (hb : Below B w w') : Sl E w' A l := by
  refine ⟨h.1, fun hl => ?_⟩
  obtain ⟨b, off, hA, hlt, hc⟩ := h.2 hl
  exact ⟨b, off, hA, Nat.lt_of_lt_of_le hlt hb.size, fun k x hk i u hu => by rw [hb.cell (p := ⟨b, _, none⟩) (Nat.lt_of_lt_of_le hlt hB)]; exact hc k x hk i u hu⟩
theorem Sl.keeps (h : Sl E w A l) (hk : Keeps w w') : Sl E w' A l := by
  refine ⟨h.1, fun hl => ?_⟩
  obtain ⟨b, off, hA, hlt, hc⟩ := h.2 hl
  have hp := E.pos
  obtain ⟨x0, hx0⟩ : ∃ x, l[0]? = some x := ⟨l[0], List.getElem?_eq_getElem hl⟩
  obtain ⟨u0, hu0⟩ : ∃ u, (E.f x0)[0]? = some u := ⟨(E.f x0)[0]'(by rw [E.len]; exact hp), List.getElem?_eq_getElem _⟩
  obtain ⟨cs, t, fr, hb⟩ := cells_of_cell (hc 0 x0 hx0 0 u0 hu0)
  have hb' := hk b _ _ _ hb
  exact ⟨b, off, hA, lt_of_heap hb', fun k x hkx i u hu => by
    have := hc k x hkx i u hu
    rw [cell_of hb] at this
    rw [cell_of hb']
    exact this⟩
theorem Sl.at_ (h : Sl E w A l) {k : Nat} (hk : k < l.length) : ∃ b off, A = some ⟨b, off, none⟩ ∧ b < w.heap.size ∧ ∀ (i : Nat) (u : Value), (E.f l[k])[i]? = some u → w.cell? ⟨b, off + k * E.wd + i, none⟩ = some u := by
  obtain ⟨b, off, hA, hb, hc⟩ := h.2 (by omega)
  exact ⟨b, off, hA, hb, hc k _ (List.getElem?_eq_getElem hk)⟩
theorem Sl.at2 {b off : Nat} (h : Sl E w (some ⟨b, off, none⟩) l) {k : Nat} (hk : k < l.length) : ∀ (i : Nat) (u : Value), (E.f l[k])[i]? = some u → w.cell? ⟨b, off + k * E.wd + i, none⟩ = some u := by
  obtain ⟨b', off', hA, _, hc⟩ := h.at_ hk
  injection hA with hA
  injection hA with e1 e2 _
  subst e1 e2
  exact hc
theorem Sl.take (h : Sl E w A l) (j : Nat) : Sl E w A (l.take j) := by
  refine ⟨by rw [List.length_take]; have := h.1; omega, fun h0 => ?_⟩
  obtain ⟨b, off, e1, e2, e3⟩ := h.2 (by rw [List.length_take] at h0; omega)
  exact ⟨b, off, e1, e2, fun i s hi => e3 i s (by rw [List.getElem?_take] at hi; split at hi; exact hi; cases hi)⟩
theorem Sl.drop {b off : Nat} (h : Sl E w (some ⟨b, off, none⟩) l) (j : Nat) : Sl E w (some ⟨b, off + j * E.wd, none⟩) (l.drop j) := by
  refine ⟨by rw [List.length_drop]; have := h.1; omega, fun h0 => ?_⟩
  obtain ⟨b', off', e1, e2, e3⟩ := h.2 (by rw [List.length_drop] at h0; omega)
  injection e1 with e1
  injection e1 with e1 e4 _
  subst e1 e4
  refine ⟨b, off + j * E.wd, rfl, e2, fun i s hi m u hu => ?_⟩
  rw [List.getElem?_drop] at hi
  have := e3 (j + i) s hi m u hu
  rw [Nat.add_mul, ← Nat.add_assoc] at this
  exact this
theorem sl_end {j : Nat} (A : Option Addr) (h : l.length ≤ j) : Sl E w A (l.drop j) := ⟨by rw [List.drop_of_length_le h]; simp, fun h0 => by rw [List.length_drop] at h0; omega⟩
theorem sl_nil (A : Option Addr) : Sl E w A [] := ⟨by simp, by simp⟩
theorem Sl.news {ad : Addr} (h : Sl E w (some ad) l) : ∀ (j : Nat) (u : Value), (E.vals l)[j]? = some u → w.cell? (ad.add j) = some u := by
  intro j u hj
  obtain ⟨t, h1, h2⟩ := E.vals_at hj
  have hl := (List.getElem?_eq_some_iff.mp h1).1
  obtain ⟨b, off, hA, _, hc⟩ := h.2 (Nat.lt_of_le_of_lt (Nat.zero_le _) hl)
  injection hA with hA
  subst hA
  have := hc _ _ h1 _ _ h2
  rw [addr_at]
  rw [show off + j = off + j / E.wd * E.wd + j % E.wd by rw [Nat.add_assoc, Nat.div_add_mod']]
  exact this
end
/-- A type of slices whose elements are such things. -/
structure El (E : Enc α) (t e : TypeId) : Prop where
  und : Try.prog.underlying t = some (.slice e)
  info : ∃ z by_, (Try.prog.info? e).map (fun i => (i.zero, i.size, i.bytes)) = some (some z, E.wd, by_) ∧ z.cells.size = E.wd ∧ by_ ≤ 1000
/-- A row of such things of the call's own. -/
def RowT (E : Enc α) (e : TypeId) (w : World) (base : Nat) (v : Value) (l : List α) : Prop := w.ownsRow base e E.wd v l.length (E.vals l)
section
variable {t e : TypeId} {w w' W : World} {base base' : Nat} {v : Value} {l m : List α}
theorem RowT.form (h : RowT E e w base v l) : ∃ A c, v = .slice A l.length c ∧ l.length ≤ c ∧ (A = none → c = 0) := by
  rcases h.2 with ⟨rfl, hn⟩ | ⟨g, cap, cur, rfl, _, _, hle, _⟩
  · have : l.length = 0 := hn
    rw [this]
    exact ⟨none, 0, rfl, Nat.le_refl _, fun _ => rfl⟩
  · exact ⟨_, _, rfl, hle, fun h => by cases h⟩
theorem RowT.sl (h : RowT E e w base v l) (hm : l.length ≤ maxLen) : ∃ A c, v = .slice A l.length c ∧ Sl E w A l ∧ l.length ≤ c ∧ (A = none → c = 0) ∧ ∀ ad, A = some ad → ∃ g, ad = ⟨g, 0, none⟩ ∧ base ≤ g := by
  rcases h.2 with ⟨rfl, hn⟩ | ⟨g, cap, cur, rfl, hb, hg, hle, _, _, htk⟩
  · have h0 : l.length = 0 := hn
    have hl : l = [] := List.eq_nil_of_length_eq_zero h0
    subst hl
    exact ⟨none, 0, rfl, sl_nil _, Nat.le_refl _, fun _ => rfl, fun _ h => by cases h⟩
  · refine ⟨some ⟨g, 0, none⟩, cap, rfl, ⟨hm, fun hl => ⟨g, 0, rfl, lt_of_heap hg, fun k x hk i u hu => ?_⟩⟩, hle, (fun h => by cases h), (fun ad h => by cases h; exact ⟨g, rfl, hb⟩)⟩
    have e1 := E.vals_get hk hu
    have hkl := (List.getElem?_eq_some_iff.mp hk).1
    have hi : i < E.wd := by
      have := (List.getElem?_eq_some_iff.mp hu).1
      rw [E.len] at this
      exact this
    have hlt : k * E.wd + i < l.length * E.wd := by
      have h1 : (k + 1) * E.wd ≤ l.length * E.wd := Nat.mul_le_mul_right _ hkl
      rw [Nat.succ_mul] at h1
      omega
    rw [← htk, List.getElem?_take, if_pos hlt] at e1
    rw [cell_of hg, Nat.zero_add]
    simpa using e1
theorem RowT.own (h : RowT E e w base v l) {k : Nat} (hk : v.ownBlock = some k) : base ≤ k ∧ ∃ cs, w.heap[k]? = some (.cells cs e (0, 0)) := by
  rcases h.2 with ⟨rfl, _⟩ | ⟨g, cap, cur, rfl, hb, hg, _⟩
  · cases hk
  · have : g = k := by simpa [Value.ownBlock] using hk
    subst this
    exact ⟨hb, cur, hg⟩
theorem RowT.keeps (h : RowT E e w base v l) (hk : Keeps w w') : RowT E e w' base v l := by
  refine ⟨h.1, ?_⟩
  rcases h.2 with h2 | ⟨g, cap, cur, hv, hb, hg, rest⟩
  · exact .inl h2
  · exact .inr ⟨g, cap, cur, hv, hb, hk g _ _ _ hg, rest⟩
theorem RowT.fr {k ms : List Nat} (h : RowT E e w base v l) (hf : Fr k ms base' w w') (hk : e ∉ k) (hm : ∀ i ∈ ms, ∃ o, w.heap[i]? = some o ∧ kd o ≠ e) : RowT E e w' base v l := by
  refine ⟨h.1, ?_⟩
  rcases h.2 with h2 | ⟨g, cap, cur, hv, hb, hg, rest⟩
  · exact .inl h2
  · refine .inr ⟨g, cap, cur, hv, hb, hf.keep g _ hg hk (fun hx => ?_), rest⟩
    obtain ⟨o, ho, hko⟩ := hm _ hx
    rw [hg] at ho
    cases ho
    exact hko rfl
theorem RowT.below (h : RowT E e w base v l) (hb : Below w.heap.size w w') : RowT E e w' base v l := by
  refine ⟨h.1, ?_⟩
  rcases h.2 with h2 | ⟨g, cap, cur, hv, h1, hg, rest⟩
  · exact .inl h2
  · exact .inr ⟨g, cap, cur, hv, h1, (hb.block g (lt_of_heap hg)).trans hg, rest⟩
theorem RowT.down (h : RowT E e w base v l) (hb : base' ≤ base) : RowT E e w base' v l := by
  refine ⟨h.1, ?_⟩
  rcases h.2 with h2 | ⟨g, cap, cur, hv, hg, rest⟩
  · exact .inl h2
  · exact .inr ⟨g, cap, cur, hv, by omega, rest⟩
/-- A row of nothing: nil. -/
theorem RowT.nil (w : World) : RowT E e w base (.slice none 0 0) [] := ⟨by simp [Enc.vals], .inl ⟨rfl, rfl⟩⟩
/-- An append onto a row: what is written is the row's own block. -/
theorem RowT.app (hE : El E t e) (h : RowT E e W base v l) (hbs : base ≤ W.heap.size) {A : Option Addr} {n c : Nat} (hm : Sl E W A m) (hn : m.length = n) (hA : A = none → c = 0) (hlen : l.length + n ≤ 1000000) :
    ∃ v' W', (Builtin.append_ #[t, t] t #[v, .slice A n c]).run Try.prog W = .ok v' W' ∧ RowT E e W' base v' (l ++ m) ∧ W.grownBy W' v.ownBlock := by
  obtain ⟨z, by_, hinf, hzs, hby⟩ := hE.info
  obtain ⟨i, hi, hz0, hz1, hz2⟩ := info_parts hinf
  subst hn
  cases A with
  | none =>
    have hl : m = [] := by
      cases m with
      | nil => rfl
      | cons c l => obtain ⟨b, off, hA, _⟩ := hm.2 (by simp); simp at hA
    subst hl
    rw [hA rfl]
    exact ⟨v, W, run_append_owned_none W base t t e i E.wd hE.und hi v l.length _ h, by simpa using h, grown_of_below (Below.refl _ _) _⟩
  | some ad =>
    have hml : l.length + m.length ≤ maxLen := by unfold maxLen; omega
    have hbb : (l.length + m.length) * by_ ≤ 140737488355328 := Nat.le_trans (Nat.mul_le_mul hlen hby) (by omega)
    obtain ⟨v', w', hr, ho, hg, _⟩ := run_append_own (P := Try.prog) W base t t e i z E.wd by_ hE.und hi hz0 hz1 hz2 hzs E.pos v l.length (E.vals l) h ad m.length c (E.vals m) (E.vals_length m) hm.news (E.vals_one m) hml hbb hbs
    refine ⟨v', w', hr, ?_, hg⟩
    unfold RowT
    rw [List.length_append, E.vals_append]
    exact ho
/-- One more append onto a row that begins in new memory. -/
theorem RowT.grow (hE : El E t e) {B : Nat} (hB : B = w.heap.size) (h : RowT E e W B v l) (hb : Below B w W) {A : Option Addr} {n c : Nat} (hm : Sl E W A m) (hn : m.length = n) (hA : A = none → c = 0) (hlen : l.length + n ≤ 1000000) :
    ∃ v' W', (Builtin.append_ #[t, t] t #[v, .slice A n c]).run Try.prog W = .ok v' W' ∧ RowT E e W' B v' (l ++ m) ∧ Below B w W' := by
  have hsz := hb.size
  obtain ⟨v', W', hr, ho, hg⟩ := h.app hE (by omega) hm hn hA hlen
  exact ⟨v', W', hr, ho, hb.grown hg (by omega) (fun k hk => (h.own hk).1)⟩
theorem RowT.empty (w : World) : RowT E e (w.alloc (.cells #[] e)) w.heap.size (.slice (some ⟨w.heap.size, 0, none⟩) 0 0) [] :=
  ⟨by simp [Enc.vals], .inr ⟨w.heap.size, 0, #[], rfl, Nat.le_refl _, heap_new _ _, Nat.le_refl _, Nat.zero_le _, by simp, by simp [Enc.vals]⟩⟩
theorem RowT.one (w : World) (t : α) : RowT E e (w.alloc (.cells (E.f t).toArray e)) w.heap.size (.slice (some ⟨w.heap.size, 0, none⟩) 1 1) [t] := by
  have e1 : E.vals [t] = E.f t := by simp [Enc.vals]
  refine ⟨by rw [e1, E.len]; simp, .inr ⟨w.heap.size, 1, (E.f t).toArray, rfl, Nat.le_refl _, heap_new _ _, Nat.le_refl _, by unfold maxLen; omega, by simp [E.len], ?_⟩⟩
  rw [e1]
  simp [← E.len t]
theorem sl_one (w : World) (t : α) (e : TypeId) : Sl E (w.alloc (.cells (E.f t).toArray e)) (some ⟨w.heap.size, 0, none⟩) [t] := by
  obtain ⟨A, c, h1, h2, _⟩ := (RowT.one (E := E) (e := e) w t).sl (by unfold maxLen; simp)
  cases h1
  exact h2
theorem RowT.make (hE : El E t e) (W : World) (base c : Nat) (hb : base ≤ W.heap.size) (hc : c ≤ 100001) :
    ∃ w', (Instr.makeSlice t (.int .i64 0) (.int .i64 (c : Int))).run Try.prog W = .ok (.slice (some ⟨W.heap.size, 0, none⟩) 0 c) w' ∧ RowT E e w' base (.slice (some ⟨W.heap.size, 0, none⟩) 0 c) [] ∧ Below W.heap.size W w' := by
  obtain ⟨z, by_, hinf, hzs, hby⟩ := hE.info
  obtain ⟨i0, hi, hz0, hz1, hz2⟩ := info_parts hinf
  obtain ⟨w', hr, ho, hg⟩ := run_make_own (P := Try.prog) W base t e i0 z E.wd hE.und hi hz0 hz1 .i64 .i64 c (by rw [hz2]; exact Nat.le_trans (Nat.mul_le_mul hby hc) (by omega)) (by unfold maxLen; omega) hb
  exact ⟨w', hr, ho, Below.of_none hg⟩
end
end

end Go.Proofs.Ytppdckncnfffcaa
