/-
  Words for memory: slices of markers, the program's and the document's, and rows of them of the call's own. Their conditions: none.
-/
import Derived.Test.YtkonkldcallimaaW6
import Derived.Maps.AppendAt
import Derived.Laws.AppendOwnNone
import Derived.Laws.MakeOwn
namespace Go.Proofs.Ytkonkldcallimaa
open Go.RowKit Go.Maps

/-- append by the equation of its run. -/
theorem wpList_append_run {P : Program} {w : World} {ops : Array Oper} {rest : List Oper} {o : Oper} {a : Act} {Q : Exit → Act → World → Prop} (hgd : o.guard = none) (s x : Operand) (t u : TypeId)
    (ho : o.op = .call { callee := .builtin .append, args := #[s, x], argTypes := #[t, u] }) (v y : Value) (hs : a.eval s = v) (hx : a.eval x = y) (v' : Value) (w' : World)
    (hr : (Builtin.append_ #[t, u] o.type #[v, y]).run P w = .ok v' w') (h : wpList P ops Q rest (a.put o.dst v') w') : wpList P ops Q (o :: rest) a w := by
  refine wpList_plain hgd fun K hK => ?_
  unfold Oper.wp
  simp [execOp, ho, resolve, invoke, builtin, hs, hx, hr, Result.andThen]
  exact hK _ _ h
theorem addr_at (b o k : Nat) : (⟨b, o, none⟩ : Addr).add k = ⟨b, o + k, none⟩ := by unfold Addr.add; split <;> simp_all
/-- A slice (its address A, its elements of type e) that reads as the markers l. -/
def Tgs (e : TypeId) (w : World) (A : Option Addr) (l : List Mk) : Prop :=
  l.length ≤ maxLen ∧ (0 < l.length → ∃ b off cs, A = some ⟨b, off, none⟩ ∧ w.heap[b]? = some (.cells cs e (0, 0)) ∧ ∀ (k : Nat) (m : Mk), l[k]? = some m →
    cs[off + k * 3]? = some (.string m.k) ∧ cs[off + k * 3 + 1]? = some (.int .i64 m.s) ∧ cs[off + k * 3 + 2]? = some (.int .i64 m.r))
theorem cell_of {w : World} {b : Nat} {cs : Array Value} {e : TypeId} {fr : Nat × Nat} (h : w.heap[b]? = some (.cells cs e fr)) (o : Nat) : w.cell? ⟨b, o, none⟩ = cs[o]? := by simp [World.cell?, h]
section
variable {e : TypeId} {w w' : World} {A : Option Addr} {l : List Mk}
theorem Tgs.keeps (h : Tgs e w A l) (he : e ≠ 1000) (hk : Keeps w w') : Tgs e w' A l := by
  refine ⟨h.1, fun hl => ?_⟩
  obtain ⟨b, off, cs, hA, hb, hc⟩ := h.2 hl
  exact ⟨b, off, cs, hA, hk b _ hb he, hc⟩
theorem Tgs.below {B : Nat} (h : Tgs e w A l) (hB : w.heap.size ≤ B) (hb : Below B w w') : Tgs e w' A l := by
  refine ⟨h.1, fun hl => ?_⟩
  obtain ⟨b, off, cs, hA, hx, hc⟩ := h.2 hl
  exact ⟨b, off, cs, hA, (hb.block b (Nat.lt_of_lt_of_le (lt_of_heap hx) hB)).trans hx, hc⟩
theorem Tgs.at_ (h : Tgs e w A l) {k : Nat} (hk : k < l.length) : ∃ b off, A = some ⟨b, off, none⟩ ∧ b < w.heap.size ∧
    w.cell? ⟨b, off + k * 3, none⟩ = some (.string l[k].k) ∧ w.cell? ⟨b, off + k * 3 + 1, none⟩ = some (.int .i64 l[k].s) ∧ w.cell? ⟨b, off + k * 3 + 2, none⟩ = some (.int .i64 l[k].r) := by
  obtain ⟨b, off, cs, hA, hb, hc⟩ := h.2 (by omega)
  have := hc k _ (List.getElem?_eq_getElem hk)
  refine ⟨b, off, hA, lt_of_heap hb, ?_, ?_, ?_⟩ <;> rw [cell_of hb]
  · exact this.1
  · exact this.2.1
  · exact this.2.2
theorem Tgs.take (h : Tgs e w A l) (j : Nat) : Tgs e w A (l.take j) := by
  refine ⟨by rw [List.length_take]; have := h.1; omega, fun h0 => ?_⟩
  obtain ⟨b, off, cs, e1, e2, e3⟩ := h.2 (by rw [List.length_take] at h0; omega)
  exact ⟨b, off, cs, e1, e2, fun i s hi => e3 i s (by rw [List.getElem?_take] at hi; split at hi; exact hi; cases hi)⟩
theorem Tgs.drop {b off : Nat} (h : Tgs e w (some ⟨b, off, none⟩) l) (j : Nat) : Tgs e w (some ⟨b, off + j * 3, none⟩) (l.drop j) := by
  refine ⟨by rw [List.length_drop]; have := h.1; omega, fun h0 => ?_⟩
  obtain ⟨b', off', cs, e1, e2, e3⟩ := h.2 (by rw [List.length_drop] at h0; omega)
  injection e1 with e1
  injection e1 with e1 e4 _
  subst e1 e4
  refine ⟨b, off + j * 3, cs, rfl, e2, fun i s hi => ?_⟩
  rw [List.getElem?_drop] at hi
  have := e3 (j + i) s hi
  rw [show off + j * 3 + i * 3 = off + (j + i) * 3 by omega]
  exact this
theorem tgs_end {j : Nat} (A : Option Addr) (h : l.length ≤ j) : Tgs e w A (l.drop j) := ⟨by rw [List.drop_of_length_le h]; simp, fun h0 => by rw [List.length_drop] at h0; omega⟩
theorem tgs_nil (A : Option Addr) : Tgs e w A [] := ⟨by simp, by simp⟩
end
/-- The cells of markers. -/
def mkVals (l : List Mk) : List Value := l.flatMap fun t => [.string t.k, .int .i64 t.s, .int .i64 t.r]
theorem mkVals_append (l m : List Mk) : mkVals (l ++ m) = mkVals l ++ mkVals m := by simp [mkVals]
theorem mkVals_length (l : List Mk) : (mkVals l).length = l.length * 3 := by
  induction l with
  | nil => rfl
  | cons t r ih => simp [mkVals] at ih ⊢; omega
theorem mkVals_one (l : List Mk) : ∀ u ∈ mkVals l, u.oneCell' = true := by
  intro u hu
  obtain ⟨t, _, ht⟩ := List.mem_flatMap.mp hu
  simp at ht
  rcases ht with rfl | rfl | rfl <;> rfl
theorem mkVals_at {l : List Mk} {j : Nat} {u : Value} (h : (mkVals l)[j]? = some u) : ∃ t, l[j / 3]? = some t ∧ ((j % 3 = 0 ∧ u = .string t.k) ∨ (j % 3 = 1 ∧ u = .int .i64 t.s) ∨ (j % 3 = 2 ∧ u = .int .i64 t.r)) := by
  induction l generalizing j with
  | nil => simp [mkVals] at h
  | cons t r ih =>
    have e : mkVals (t :: r) = [.string t.k, .int .i64 t.s, .int .i64 t.r] ++ mkVals r := by simp [mkVals]
    rw [e] at h
    match j, h with
    | 0, h => exact ⟨t, rfl, .inl ⟨rfl, by simpa using h.symm⟩⟩
    | 1, h => exact ⟨t, rfl, .inr (.inl ⟨rfl, by simpa using h.symm⟩)⟩
    | 2, h => exact ⟨t, rfl, .inr (.inr ⟨rfl, by simpa using h.symm⟩)⟩
    | j + 3, h =>
      have h' : (mkVals r)[j]? = some u := by simpa using h
      obtain ⟨t', h1, h2⟩ := ih h'
      refine ⟨t', ?_, ?_⟩
      · rw [show (j + 3) / 3 = j / 3 + 1 by omega]
        simpa using h1
      · rw [show (j + 3) % 3 = j % 3 by omega]
        exact h2
theorem mkVals_get {l : List Mk} {k : Nat} {t : Mk} (hk : l[k]? = some t) {i : Nat} {u : Value} (hi : i < 3) (hu : [Value.string t.k, .int .i64 t.s, .int .i64 t.r][i]? = some u) : (mkVals l)[k * 3 + i]? = some u := by
  induction l generalizing k with
  | nil => simp at hk
  | cons s r ih =>
    have e : mkVals (s :: r) = [.string s.k, .int .i64 s.s, .int .i64 s.r] ++ mkVals r := by simp [mkVals]
    rw [e]
    cases k with
    | zero =>
      simp at hk
      subst hk
      rw [List.getElem?_append_left (by simp; omega)]
      simpa using hu
    | succ k =>
      rw [List.getElem?_append_right (by simp; omega), show (k + 1) * 3 + i - [Value.string s.k, .int .i64 s.s, .int .i64 s.r].length = k * 3 + i by simp; omega]
      exact ih (by simpa using hk)
theorem news_mks {e : TypeId} {w : World} {ad : Addr} {l : List Mk} (h : Tgs e w (some ad) l) : ∀ (j : Nat) (u : Value), (mkVals l)[j]? = some u → w.cell? (ad.add j) = some u := by
  intro j u hj
  obtain ⟨t, h1, h2⟩ := mkVals_at hj
  have hl := (List.getElem?_eq_some_iff.mp h1).1
  obtain ⟨b, off, cs, hA, hb, hc⟩ := h.2 (by omega)
  injection hA with hA
  subst hA
  rw [addr_at, cell_of hb]
  obtain ⟨x0, x1, x2⟩ := hc _ _ h1
  rcases h2 with ⟨e, rfl⟩ | ⟨e, rfl⟩ | ⟨e, rfl⟩
  · rw [show off + j = off + j / 3 * 3 by omega]; exact x0
  · rw [show off + j = off + j / 3 * 3 + 1 by omega]; exact x1
  · rw [show off + j = off + j / 3 * 3 + 2 by omega]; exact x2
/-- A type of slices whose elements are markers. -/
structure El (t e : TypeId) : Prop where
  und : Try.prog.underlying t = some (.slice e)
  info : (Try.prog.info? e).map (fun i => (i.zero, i.size, i.bytes)) = some (some (.agg #[.string ⟨#[]⟩, .int .i64 0, .int .i64 0]), 3, 32)
  ne : e ≠ 1000 ∧ e ≠ 1001
theorem el44 : El 44 48 := ⟨Try.underlying44, by kernel_rfl, by decide⟩
theorem el27 : El 27 33 := ⟨Try.underlying27, by kernel_rfl, by decide⟩
/-- A row of markers of the call's own. -/
def RowT (e : TypeId) (w : World) (base : Nat) (v : Value) (l : List Mk) : Prop := w.ownsRow base e 3 v l.length (mkVals l)
section
variable {t e : TypeId} {w w' W : World} {base base' : Nat} {v : Value} {l m : List Mk}
theorem RowT.form (h : RowT e w base v l) : ∃ A c, v = .slice A l.length c ∧ l.length ≤ c ∧ (A = none → c = 0) := by
  rcases h.2 with ⟨rfl, hn⟩ | ⟨g, cap, cur, rfl, _, _, hle, _⟩
  · have : l.length = 0 := hn
    rw [this]
    exact ⟨none, 0, rfl, Nat.le_refl _, fun _ => rfl⟩
  · exact ⟨_, _, rfl, hle, fun h => by cases h⟩
theorem RowT.tgs (h : RowT e w base v l) (hm : l.length ≤ maxLen) : ∃ A c, v = .slice A l.length c ∧ Tgs e w A l ∧ l.length ≤ c ∧ (A = none → c = 0) := by
  rcases h.2 with ⟨rfl, hn⟩ | ⟨g, cap, cur, rfl, hb, hg, hle, _, _, htk⟩
  · have h0 : l.length = 0 := hn
    have hl : l = [] := List.eq_nil_of_length_eq_zero h0
    subst hl
    exact ⟨none, 0, rfl, tgs_nil _, Nat.le_refl _, fun _ => rfl⟩
  · refine ⟨some ⟨g, 0, none⟩, cap, rfl, ⟨hm, fun hl => ⟨g, 0, cur, rfl, hg, fun k t hk => ?_⟩⟩, hle, fun h => by cases h⟩
    have hkl := (List.getElem?_eq_some_iff.mp hk).1
    have key : ∀ i u, i < 3 → [Value.string t.k, .int .i64 t.s, .int .i64 t.r][i]? = some u → cur[0 + k * 3 + i]? = some u := fun i u hi hu => by
      have e1 := mkVals_get hk hi hu
      rw [← htk, List.getElem?_take, if_pos (by omega)] at e1
      rw [show 0 + k * 3 + i = k * 3 + i by omega]
      simpa using e1
    exact ⟨key 0 _ (by omega) rfl, key 1 _ (by omega) rfl, key 2 _ (by omega) rfl⟩
theorem RowT.own (h : RowT e w base v l) {k : Nat} (hk : v.ownBlock = some k) : base ≤ k ∧ ∃ cs, w.heap[k]? = some (.cells cs e (0, 0)) := by
  rcases h.2 with ⟨rfl, _⟩ | ⟨g, cap, cur, rfl, hb, hg, _⟩
  · cases hk
  · have : g = k := by simpa [Value.ownBlock] using hk
    subst this
    exact ⟨hb, cur, hg⟩
theorem RowT.keeps (h : RowT e w base v l) (he : e ≠ 1000) (hk : Keeps w w') : RowT e w' base v l := by
  refine ⟨h.1, ?_⟩
  rcases h.2 with h2 | ⟨g, cap, cur, hv, hb, hg, rest⟩
  · exact .inl h2
  · exact .inr ⟨g, cap, cur, hv, hb, hk g _ hg he, rest⟩
theorem RowT.fr {k ms : List Nat} (h : RowT e w base v l) (hf : Fr k ms base' w w') (hk : e ∉ k) (hm : ∀ i ∈ ms, ∃ o, w.heap[i]? = some o ∧ kd o ≠ e) : RowT e w' base v l := by
  refine ⟨h.1, ?_⟩
  rcases h.2 with h2 | ⟨g, cap, cur, hv, hb, hg, rest⟩
  · exact .inl h2
  · refine .inr ⟨g, cap, cur, hv, hb, hf.keep g _ hg hk (fun hx => ?_), rest⟩
    obtain ⟨o, ho, hko⟩ := hm _ hx
    rw [hg] at ho
    cases ho
    exact hko rfl
theorem RowT.below (h : RowT e w base v l) (hb : Below w.heap.size w w') : RowT e w' base v l := by
  refine ⟨h.1, ?_⟩
  rcases h.2 with h2 | ⟨g, cap, cur, hv, h1, hg, rest⟩
  · exact .inl h2
  · exact .inr ⟨g, cap, cur, hv, h1, (hb.block g (lt_of_heap hg)).trans hg, rest⟩
theorem RowT.down (h : RowT e w base v l) (hb : base' ≤ base) : RowT e w base' v l := by
  refine ⟨h.1, ?_⟩
  rcases h.2 with h2 | ⟨g, cap, cur, hv, hg, rest⟩
  · exact .inl h2
  · exact .inr ⟨g, cap, cur, hv, by omega, rest⟩
/-- An append onto a row: what is written is the row's own block. -/
theorem RowT.app (E : El t e) (h : RowT e W base v l) (hbs : base ≤ W.heap.size) {e' : TypeId} {A : Option Addr} {n c : Nat} (hm : Tgs e' W A m) (hn : m.length = n) (hA : A = none → c = 0) (hlen : l.length + n ≤ 1000000) :
    ∃ v' W', (Builtin.append_ #[t, t] t #[v, .slice A n c]).run Try.prog W = .ok v' W' ∧ RowT e W' base v' (l ++ m) ∧ W.grownBy W' v.ownBlock := by
  obtain ⟨i, hi, hz0, hz1, hz2⟩ := info_parts E.info
  subst hn
  cases A with
  | none =>
    have hl : m = [] := by
      cases m with
      | nil => rfl
      | cons c l => obtain ⟨b, off, cs, hA, _⟩ := hm.2 (by simp); simp at hA
    subst hl
    rw [hA rfl]
    exact ⟨v, W, run_append_owned_none W base t t e i 3 E.und hi v l.length _ h, by simpa using h, grown_of_below (Below.refl _ _) _⟩
  | some ad =>
    have hml : l.length + m.length ≤ maxLen := by unfold maxLen; omega
    obtain ⟨v', w', hr, ho, hg, _⟩ := run_append_own (P := Try.prog) W base t t e i (.agg #[.string ⟨#[]⟩, .int .i64 0, .int .i64 0]) 3 32 E.und hi hz0 hz1 hz2 rfl (by decide) v l.length (mkVals l) h ad m.length c (mkVals m) (mkVals_length m) (news_mks hm) (mkVals_one m) hml (by omega) hbs
    refine ⟨v', w', hr, ?_, hg⟩
    unfold RowT
    rw [List.length_append, mkVals_append]
    exact ho
/-- One more append onto a row that begins in new memory. -/
theorem RowT.grow (E : El t e) {B : Nat} (hB : B = w.heap.size) (h : RowT e W B v l) (hb : Below B w W) {e' : TypeId} {A : Option Addr} {n c : Nat} (hm : Tgs e' W A m) (hn : m.length = n) (hA : A = none → c = 0) (hlen : l.length + n ≤ 1000000) :
    ∃ v' W', (Builtin.append_ #[t, t] t #[v, .slice A n c]).run Try.prog W = .ok v' W' ∧ RowT e W' B v' (l ++ m) ∧ Below B w W' := by
  have hsz := hb.size
  obtain ⟨v', W', hr, ho, hg⟩ := h.app E (by omega) hm hn hA hlen
  exact ⟨v', W', hr, ho, hb.grown hg (by omega) (fun k hk => (h.own hk).1)⟩
theorem RowT.empty (w : World) : RowT e (w.alloc (.cells #[] e)) w.heap.size (.slice (some ⟨w.heap.size, 0, none⟩) 0 0) [] :=
  ⟨rfl, .inr ⟨w.heap.size, 0, #[], rfl, Nat.le_refl _, heap_new _ _, Nat.le_refl _, Nat.zero_le _, rfl, rfl⟩⟩
theorem RowT.one (w : World) (t : Mk) : RowT e (w.alloc (.cells #[.string t.k, .int .i64 t.s, .int .i64 t.r] e)) w.heap.size (.slice (some ⟨w.heap.size, 0, none⟩) 1 1) [t] :=
  ⟨rfl, .inr ⟨w.heap.size, 1, #[.string t.k, .int .i64 t.s, .int .i64 t.r], rfl, Nat.le_refl _, heap_new _ _, Nat.le_refl _, by unfold maxLen; omega, rfl, by simp [mkVals]⟩⟩
theorem tgs_one (w : World) (t : Mk) : Tgs e (w.alloc (.cells #[.string t.k, .int .i64 t.s, .int .i64 t.r] e)) (some ⟨w.heap.size, 0, none⟩) [t] := by
  obtain ⟨A, c, h1, h2, _⟩ := (RowT.one (e := e) w t).tgs (by unfold maxLen; simp)
  cases h1
  exact h2
theorem RowT.make (E : El t e) (W : World) (base c : Nat) (hb : base ≤ W.heap.size) (hc : c ≤ 100001) :
    ∃ w', (Instr.makeSlice t (.int .i64 0) (.int .i64 (c : Int))).run Try.prog W = .ok (.slice (some ⟨W.heap.size, 0, none⟩) 0 c) w' ∧ RowT e w' base (.slice (some ⟨W.heap.size, 0, none⟩) 0 c) [] ∧ Below W.heap.size W w' := by
  obtain ⟨i0, hi, hz0, hz1, hz2⟩ := info_parts E.info
  obtain ⟨w', hr, ho, hg⟩ := run_make_own (P := Try.prog) W base t e i0 (.agg #[.string ⟨#[]⟩, .int .i64 0, .int .i64 0]) 3 E.und hi hz0 hz1 .i64 .i64 c (by rw [hz2]; omega) (by unfold maxLen; omega) hb
  exact ⟨w', hr, ho, Below.of_none hg⟩
end
end Go.Proofs.Ytkonkldcallimaa
