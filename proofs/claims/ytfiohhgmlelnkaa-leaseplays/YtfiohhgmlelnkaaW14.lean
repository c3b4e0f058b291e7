/-
  Words for memory: the document's table. The contracts of its Find and Drop. Their conditions: the table lies in memory, and has no more leases than a bound.
-/
import Derived.Test.YtfiohhgmlelnkaaW8
import Derived.Maps.AppendAt
import Derived.Laws.AppendOwnNone
namespace Go.Proofs.Ytfiohhgmlelnkaa
open Go.RowKit Go.Maps

/-- append by the equation of its run. -/
theorem wpList_append_run {P : Program} {w : World} {ops : Array Oper} {rest : List Oper} {o : Oper} {a : Act} {Q : Exit → Act → World → Prop} (hgd : o.guard = none) (s x : Operand) (t u : TypeId)
    (ho : o.op = .call { callee := .builtin .append, args := #[s, x], argTypes := #[t, u] }) (v y : Value) (hs : a.eval s = v) (hx : a.eval x = y) (v' : Value) (w' : World)
    (hr : (Builtin.append_ #[t, u] o.type #[v, y]).run P w = .ok v' w') (h : wpList P ops Q rest (a.put o.dst v') w') : wpList P ops Q (o :: rest) a w := by
  refine wpList_plain hgd fun K hK => ?_
  unfold Oper.wp
  simp [execOp, ho, resolve, invoke, builtin, hs, hx, hr, Result.andThen]
  exact hK _ _ h
theorem addr_at (b o k : Nat) : (⟨b, o, none⟩ : Addr).add k = ⟨b, o + k, none⟩ := by unfold Addr.add; split <;> simp_all
/-- A slice (its address A) that reads as the leases l. -/
def Tgs (w : World) (A : Option Addr) (l : List Ls) : Prop :=
  l.length ≤ maxLen ∧ (0 < l.length → ∃ b off, A = some ⟨b, off, none⟩ ∧ b < w.heap.size ∧ ∀ (k : Nat) (t : Ls), l[k]? = some t →
    w.cell? ⟨b, off + k * 3, none⟩ = some (.string t.k) ∧ w.cell? ⟨b, off + k * 3 + 1, none⟩ = some (.int .i64 t.t) ∧ w.cell? ⟨b, off + k * 3 + 2, none⟩ = some (.int .i64 t.n))
theorem Tgs.below {w w' : World} {A : Option Addr} {l : List Ls} {B : Nat} (h : Tgs w A l) (hB : w.heap.size ≤ B) (hb : Below B w w') : Tgs w' A l := by
  obtain ⟨h1, h3⟩ := h
  refine ⟨h1, fun hl => ?_⟩
  obtain ⟨b, off, hA, hlt, hc⟩ := h3 hl
  have e : ∀ o, w'.cell? ⟨b, o, none⟩ = w.cell? ⟨b, o, none⟩ := fun o => hb.cell (p := ⟨b, o, none⟩) (Nat.lt_of_lt_of_le hlt hB)
  exact ⟨b, off, hA, Nat.lt_of_lt_of_le hlt hb.size, fun k x hk => by rw [e, e, e]; exact hc k x hk⟩
theorem Tgs.at_ {w : World} {A : Option Addr} {l : List Ls} (h : Tgs w A l) {k : Nat} (hk : k < l.length) : ∃ b off, A = some ⟨b, off, none⟩ ∧ b < w.heap.size ∧
    w.cell? ⟨b, off + k * 3, none⟩ = some (.string l[k].k) ∧ w.cell? ⟨b, off + k * 3 + 1, none⟩ = some (.int .i64 l[k].t) ∧ w.cell? ⟨b, off + k * 3 + 2, none⟩ = some (.int .i64 l[k].n) := by
  obtain ⟨b, off, hA, hlt, hc⟩ := h.2 (by omega)
  exact ⟨b, off, hA, hlt, hc k _ (List.getElem?_eq_getElem hk)⟩
theorem Tgs.take {w : World} {A : Option Addr} {l : List Ls} (h : Tgs w A l) (j : Nat) : Tgs w A (l.take j) := by
  refine ⟨by rw [List.length_take]; have := h.1; omega, fun h0 => ?_⟩
  obtain ⟨b, off, e1, e2, e3⟩ := h.2 (by rw [List.length_take] at h0; omega)
  exact ⟨b, off, e1, e2, fun i s hi => e3 i s (by rw [List.getElem?_take] at hi; split at hi; exact hi; cases hi)⟩
theorem Tgs.drop {w : World} {b off : Nat} {l : List Ls} (h : Tgs w (some ⟨b, off, none⟩) l) (j : Nat) : Tgs w (some ⟨b, off + j * 3, none⟩) (l.drop j) := by
  refine ⟨by rw [List.length_drop]; have := h.1; omega, fun h0 => ?_⟩
  obtain ⟨b', off', e1, e2, e3⟩ := h.2 (by rw [List.length_drop] at h0; omega)
  injection e1 with e1
  injection e1 with e1 e4 _
  subst e1 e4
  refine ⟨b, off + j * 3, rfl, e2, fun i s hi => ?_⟩
  rw [List.getElem?_drop] at hi
  have := e3 (j + i) s hi
  rw [show off + j * 3 + i * 3 = off + (j + i) * 3 by omega]
  exact this
/-- The cells of leases. -/
def thVals (l : List Ls) : List Value := l.flatMap fun t => [.string t.k, .int .i64 t.t, .int .i64 t.n]
theorem thVals_append (l m : List Ls) : thVals (l ++ m) = thVals l ++ thVals m := by simp [thVals]
theorem thVals_length (l : List Ls) : (thVals l).length = l.length * 3 := by
  induction l with
  | nil => rfl
  | cons t r ih => simp [thVals] at ih ⊢; omega
theorem thVals_one (l : List Ls) : ∀ u ∈ thVals l, u.oneCell' = true := by
  intro u hu
  obtain ⟨t, _, ht⟩ := List.mem_flatMap.mp hu
  simp at ht
  rcases ht with rfl | rfl | rfl <;> rfl
theorem thVals_at {l : List Ls} {j : Nat} {u : Value} (h : (thVals l)[j]? = some u) : ∃ t, l[j / 3]? = some t ∧ ((j % 3 = 0 ∧ u = .string t.k) ∨ (j % 3 = 1 ∧ u = .int .i64 t.t) ∨ (j % 3 = 2 ∧ u = .int .i64 t.n)) := by
  induction l generalizing j with
  | nil => simp [thVals] at h
  | cons t r ih =>
    have e : thVals (t :: r) = [.string t.k, .int .i64 t.t, .int .i64 t.n] ++ thVals r := by simp [thVals]
    rw [e] at h
    match j, h with
    | 0, h => exact ⟨t, rfl, .inl ⟨rfl, by simpa using h.symm⟩⟩
    | 1, h => exact ⟨t, rfl, .inr (.inl ⟨rfl, by simpa using h.symm⟩)⟩
    | 2, h => exact ⟨t, rfl, .inr (.inr ⟨rfl, by simpa using h.symm⟩)⟩
    | j + 3, h =>
      have h' : (thVals r)[j]? = some u := by simpa using h
      obtain ⟨t', h1, h2⟩ := ih h'
      refine ⟨t', ?_, ?_⟩
      · rw [show (j + 3) / 3 = j / 3 + 1 by omega]
        simpa using h1
      · rw [show (j + 3) % 3 = j % 3 by omega]
        exact h2
theorem news_ths {w : World} {ad : Addr} {l : List Ls} (h : Tgs w (some ad) l) : ∀ (j : Nat) (u : Value), (thVals l)[j]? = some u → w.cell? (ad.add j) = some u := by
  intro j u hj
  obtain ⟨t, h1, h2⟩ := thVals_at hj
  have hl := (List.getElem?_eq_some_iff.mp h1).1
  obtain ⟨b, off, hA, _, hc⟩ := h.2 (by omega)
  injection hA with hA
  subst hA
  rw [addr_at]
  obtain ⟨x0, x1, x2⟩ := hc _ _ h1
  rcases h2 with ⟨e, rfl⟩ | ⟨e, rfl⟩ | ⟨e, rfl⟩
  · rw [show off + j = off + j / 3 * 3 by omega]; exact x0
  · rw [show off + j = off + j / 3 * 3 + 1 by omega]; exact x1
  · rw [show off + j = off + j / 3 * 3 + 2 by omega]; exact x2
theorem info66 : (Try.prog.info? 66).map (fun i => (i.zero, i.size, i.bytes)) = some (some (.agg #[.string ⟨#[]⟩, .int .i64 0, .int .i64 0]), 3, 32) := by kernel_rfl
/-- A row of leases of the call's own. -/
def RowT (w : World) (base : Nat) (v : Value) (l : List Ls) : Prop := w.ownsRow base 66 3 v l.length (thVals l)
theorem RowT.form {w : World} {base : Nat} {v : Value} {l : List Ls} (h : RowT w base v l) : ∃ A c, v = .slice A l.length c ∧ l.length ≤ c ∧ (A = none → c = 0) := by
  rcases h.2 with ⟨rfl, hn⟩ | ⟨g, cap, cur, rfl, _, _, hle, _⟩
  · have : l.length = 0 := hn
    rw [this]
    exact ⟨none, 0, rfl, Nat.le_refl _, fun _ => rfl⟩
  · exact ⟨_, _, rfl, hle, fun h => by cases h⟩
theorem RowT.tgs {w : World} {base : Nat} {v : Value} {l : List Ls} (h : RowT w base v l) (hm : l.length ≤ maxLen) : ∃ A c, v = .slice A l.length c ∧ Tgs w A l ∧ l.length ≤ c ∧ (A = none → c = 0) := by
  have h' := h
  rcases h.2 with ⟨rfl, hn⟩ | ⟨g, cap, cur, rfl, hb, hg, hle, rest⟩
  · have h0 : l.length = 0 := hn
    have hl : l = [] := List.eq_nil_of_length_eq_zero h0
    subst hl
    exact ⟨none, 0, rfl, ⟨by simp, by simp⟩, Nat.le_refl _, fun _ => rfl⟩
  · refine ⟨some ⟨g, 0, none⟩, cap, rfl, ⟨hm, fun hl => ⟨g, 0, rfl, (Array.getElem?_eq_some_iff.mp hg).1, fun k t hk => ?_⟩⟩, hle, fun h => by cases h⟩
    have hc := World.ownsRow.cells h' (g := g) rfl
    have key : ∀ i u, i < 3 → [Value.string t.k, .int .i64 t.t, .int .i64 t.n][i]? = some u → w.cell? ⟨g, 0 + k * 3 + i, none⟩ = some u := fun i u hi hu => by
      have e : (thVals l)[k * 3 + i]? = some u := by
        clear hc h' hg rest hle hb hm h hl
        induction l generalizing k with
        | nil => simp at hk
        | cons s r ih =>
          have e : thVals (s :: r) = [.string s.k, .int .i64 s.t, .int .i64 s.n] ++ thVals r := by simp [thVals]
          rw [e]
          cases k with
          | zero =>
            simp at hk
            subst hk
            rw [List.getElem?_append_left (by simp; omega)]
            simpa using hu
          | succ k =>
            rw [List.getElem?_append_right (by simp; omega), show (k + 1) * 3 + i - [Value.string s.k, .int .i64 s.t, .int .i64 s.n].length = k * 3 + i by simp; omega]
            exact ih k (by simpa using hk)
      have := hc _ _ e
      rw [addr_at] at this
      rw [show 0 + k * 3 + i = 0 + (k * 3 + i) by omega]
      exact this
    exact ⟨key 0 _ (by omega) rfl, key 1 _ (by omega) rfl, key 2 _ (by omega) rfl⟩
theorem RowT.fr {w w' : World} {base base' : Nat} {v : Value} {l : List Ls} {k ms : List Nat} (h : RowT w base v l) (hf : Fr k ms base' w w') (hk : 66 ∉ k) (hm : ms = []) : RowT w' base v l := by
  subst hm
  refine ⟨h.1, ?_⟩
  rcases h.2 with h2 | ⟨g, cap, cur, hv, hb, hg, rest⟩
  · exact .inl h2
  · exact .inr ⟨g, cap, cur, hv, hb, hf.keep g _ hg hk (by simp), rest⟩
/-- One more append onto a row that begins in new memory. -/
theorem RowT.grow {B : Nat} {w W : World} {v : Value} {l m : List Ls} (hB : B = w.heap.size) (h : RowT W B v l) (hb : Below B w W) {A : Option Addr} {n c : Nat} (hm : Tgs W A m) (hn : m.length = n) (hA : A = none → c = 0) (hlen : l.length + n ≤ 1000000) :
    ∃ v' W', (Builtin.append_ #[27, 27] 27 #[v, .slice A n c]).run Try.prog W = .ok v' W' ∧ RowT W' B v' (l ++ m) ∧ Below B w W' := by
  obtain ⟨i, hi, hz0, hz1, hz2⟩ := info_parts info66
  have hsz := hb.size
  subst hn
  cases A with
  | none =>
    have hl : m = [] := by
      cases m with
      | nil => rfl
      | cons c l => obtain ⟨b, off, hA, _⟩ := hm.2 (by simp); simp at hA
    subst hl
    rw [hA rfl]
    exact ⟨v, W, run_append_owned_none W B 27 27 66 i 3 Try.underlying27 hi v l.length _ h, by simpa using h, hb⟩
  | some ad =>
    have hml : l.length + m.length ≤ maxLen := by unfold maxLen; omega
    obtain ⟨v', w', hr, ho, hg, _⟩ := run_append_own (P := Try.prog) W B 27 27 66 i (.agg #[.string ⟨#[]⟩, .int .i64 0, .int .i64 0]) 3 32 Try.underlying27 hi hz0 hz1 hz2 rfl (by decide) v l.length (thVals l) h ad m.length c (thVals m) (thVals_length m) (news_ths hm) (thVals_one m) hml (by omega) (by omega)
    refine ⟨v', w', hr, ?_, hb.grown hg (by omega) (fun k hk => (World.ownsRow.lt h k hk).1)⟩
    unfold RowT
    rw [List.length_append, thVals_append]
    exact ho
theorem RowT.empty (w : World) : RowT (w.alloc (.cells #[] 66)) w.heap.size (.slice (some ⟨w.heap.size, 0, none⟩) 0 0) [] :=
  ⟨rfl, .inr ⟨w.heap.size, 0, #[], rfl, Nat.le_refl _, heap_new _ _, Nat.le_refl _, Nat.zero_le _, rfl, rfl⟩⟩
theorem RowT.one (w : World) (t : Ls) : RowT (w.alloc (.cells #[.string t.k, .int .i64 t.t, .int .i64 t.n] 66)) w.heap.size (.slice (some ⟨w.heap.size, 0, none⟩) 1 1) [t] :=
  ⟨rfl, .inr ⟨w.heap.size, 1, #[.string t.k, .int .i64 t.t, .int .i64 t.n], rfl, Nat.le_refl _, heap_new _ _, Nat.le_refl _, by unfold maxLen; omega, rfl, by simp [thVals]⟩⟩

/-- The document's table lies in block h. -/
def RBox (w : World) (h : Nat) (v : Value) (limit ticks now last : Int) : Prop := w.heap[h]? = some (.cells #[v, .int .i64 limit, .int .i64 ticks, .int .i64 now, .int .i64 last] 29 (0, 0))
section
variable {w : World} {h : Nat} {v : Value} {limit ticks now last : Int}
theorem RBox.lt (r : RBox w h v limit ticks now last) : h < w.heap.size := lt_of_heap r
theorem RBox.c0 (r : RBox w h v limit ticks now last) : w.cell? ⟨h, 0, none⟩ = some v := by simp [World.cell?, show w.heap[h]? = _ from r]
theorem RBox.c1 (r : RBox w h v limit ticks now last) : w.cell? ⟨h, 1, none⟩ = some (.int .i64 limit) := by simp [World.cell?, show w.heap[h]? = _ from r]
theorem RBox.c2 (r : RBox w h v limit ticks now last) : w.cell? ⟨h, 2, none⟩ = some (.int .i64 ticks) := by simp [World.cell?, show w.heap[h]? = _ from r]
theorem RBox.c3 (r : RBox w h v limit ticks now last) : w.cell? ⟨h, 3, none⟩ = some (.int .i64 now) := by simp [World.cell?, show w.heap[h]? = _ from r]
theorem RBox.c4 (r : RBox w h v limit ticks now last) : w.cell? ⟨h, 4, none⟩ = some (.int .i64 last) := by simp [World.cell?, show w.heap[h]? = _ from r]
theorem RBox.frozen (r : RBox w h v limit ticks now last) (o : Nat) : w.frozen? ⟨h, o, none⟩ = false := by simp [World.frozen?, show w.heap[h]? = _ from r]
theorem RBox.set0 (r : RBox w h v limit ticks now last) (u : Value) : RBox (w.setCell ⟨h, 0, none⟩ u) h u limit ticks now last := by
  unfold RBox at r ⊢
  simp [World.setCell, Array.getElem?_modify, r]
theorem RBox.set3 (r : RBox w h v limit ticks now last) (x : Int) : RBox (w.setCell ⟨h, 3, none⟩ (.int .i64 x)) h v limit ticks x last := by
  unfold RBox at r ⊢
  simp [World.setCell, Array.getElem?_modify, r]
theorem RBox.set4 (r : RBox w h v limit ticks now last) (x : Int) : RBox (w.setCell ⟨h, 4, none⟩ (.int .i64 x)) h v limit ticks now x := by
  unfold RBox at r ⊢
  simp [World.setCell, Array.getElem?_modify, r]
end
/-- The kinds of the document's blocks that a call writes. -/
def rK : List Nat := [29]
def RefAt (w : World) (base h : Nat) (L : List Ls) (limit ticks now last : Int) : Prop := base ≤ h ∧ L.length ≤ 100000 ∧ ∃ v, RBox w h v limit ticks now last ∧ RowT w base v L
section
variable {w w' : World} {base base' h : Nat} {L : List Ls} {limit ticks now last : Int}
theorem RefAt.keep (r : RefAt w base h L limit ticks now last) {l : List Nat} (hf : Fr l [] base' w w') (h1 : 29 ∉ l) (h2 : 66 ∉ l) : RefAt w' base h L limit ticks now last := by
  obtain ⟨a1, a2, v, h3, h4⟩ := r
  exact ⟨a1, a2, v, hf.keep h _ h3 h1 (by simp), h4.fr hf h2 rfl⟩
theorem RefAt.below (r : RefAt w base h L limit ticks now last) (hf : Below w.heap.size w w') : RefAt w' base h L limit ticks now last := r.keep (l := []) (base' := w.heap.size) (Fr.of_below hf (Nat.le_refl _)) (by simp) (by simp)
theorem RefAt.parts (r : RefAt w base h L limit ticks now last) : ∃ A c, RBox w h (.slice A L.length c) limit ticks now last ∧ Tgs w A L ∧ L.length ≤ c ∧ (A = none → c = 0) ∧ L.length ≤ 100000 := by
  obtain ⟨h1, h2, v, h3, h4⟩ := r
  obtain ⟨A, c, rfl, h5, h6, h7⟩ := h4.tgs (by unfold maxLen; omega)
  exact ⟨A, c, h3, h5, h6, h7, h2⟩
theorem RefAt.bh (r : RefAt w base h L limit ticks now last) : base ≤ h := r.1
theorem RefAt.len (r : RefAt w base h L limit ticks now last) : L.length ≤ 100000 := r.2.1
theorem RefAt.set3 (r : RefAt w base h L limit ticks now last) (x : Int) : RefAt (w.setCell ⟨h, 3, none⟩ (.int .i64 x)) base h L limit ticks x last ∧ Fr rK [] base w (w.setCell ⟨h, 3, none⟩ (.int .i64 x)) := by
  obtain ⟨a1, a2, v, h3, h4⟩ := r
  have hF : Fr rK [] base w (w.setCell ⟨h, 3, none⟩ (.int .i64 x)) := (Fr.refl _ _ _ _).set h3 (.inl (by simp [kd, rK])) a1 _
  exact ⟨⟨a1, a2, v, h3.set3 x, h4.fr hF (by simp [rK]) rfl⟩, hF⟩
theorem RefAt.set4 (r : RefAt w base h L limit ticks now last) (x : Int) : RefAt (w.setCell ⟨h, 4, none⟩ (.int .i64 x)) base h L limit ticks now x ∧ Fr rK [] base w (w.setCell ⟨h, 4, none⟩ (.int .i64 x)) := by
  obtain ⟨a1, a2, v, h3, h4⟩ := r
  have hF : Fr rK [] base w (w.setCell ⟨h, 4, none⟩ (.int .i64 x)) := (Fr.refl _ _ _ _).set h3 (.inl (by simp [kd, rK])) a1 _
  exact ⟨⟨a1, a2, v, h3.set4 x, h4.fr hF (by simp [rK]) rfl⟩, hF⟩
theorem RowT.down {w : World} {base base' : Nat} {v : Value} {l : List Ls} (h : RowT w base v l) (hb : base' ≤ base) : RowT w base' v l := by
  refine ⟨h.1, ?_⟩
  rcases h.2 with h2 | ⟨g, cap, cur, hv, hg, rest⟩
  · exact .inl h2
  · exact .inr ⟨g, cap, cur, hv, by omega, rest⟩
/-- The table's box is written behind it. -/
theorem ref_store {W : World} {L' : List Ls} {v : Value} (hr : RefAt w base h L limit ticks now last) (hbs : base ≤ w.heap.size) (hb : Below w.heap.size w W) (ho : RowT W w.heap.size v L') (hl : L'.length ≤ 100000) :
    RefAt (W.setCell ⟨h, 0, none⟩ v) base h L' limit ticks now last ∧ Fr rK [] base w (W.setCell ⟨h, 0, none⟩ v) := by
  obtain ⟨a1, a2, v0, hbox, _⟩ := hr
  have hlt := hbox.lt
  have hbox3 : RBox W h v0 limit ticks now last := (hb.block h hlt).trans hbox
  have hF : Fr rK [] base W (W.setCell ⟨h, 0, none⟩ v) := (Fr.refl _ _ _ _).set hbox3 (.inl (by simp [kd, rK])) a1 _
  exact ⟨⟨a1, hl, v, hbox3.set0 v, (ho.down hbs).fr hF (by simp [rK]) rfl⟩, (Fr.of_below hb hbs).trans hF⟩
end
theorem tgs_end {w : World} {L : List Ls} {j : Nat} (A : Option Addr) (h : L.length ≤ j) : Tgs w A (L.drop j) := ⟨by rw [List.drop_of_length_le h]; simp, fun h0 => by rw [List.length_drop] at h0; omega⟩
/-- A key's place, if it has one. -/
structure Hit (L : List Ls) (key : ByteArray) (k : Nat) (t : Ls) : Prop where
  at_ : L[k]? = some t
  has : t.k = key
  ahead : key ∉ keys (L.take k)
theorem hit_of {L : List Ls} {key : ByteArray} {t : Ls} (h : fnd L key = some t) : ∃ k, Hit L key k t := by
  obtain ⟨h1, A, B, h2, h3⟩ := List.find?_eq_some_iff_append.mp h
  refine ⟨A.length, ⟨by rw [h2]; simp, by simpa using h1, ?_⟩⟩
  rw [h2]
  simp only [List.take_left]
  intro hx
  obtain ⟨t', ht', e⟩ := List.mem_map.mp hx
  have := h3 t' ht'
  simp [e] at this
theorem Hit.lt {L : List Ls} {key : ByteArray} {k : Nat} {t : Ls} (h : Hit L key k t) : k < L.length := (List.getElem?_eq_some_iff.mp h.at_).1
theorem Hit.one {L : List Ls} {key : ByteArray} {k k' : Nat} {t t' : Ls} (h : Hit L key k t) (h' : Hit L key k' t') : k = k' := by
  have hno : ∀ {a b : Nat} {s s' : Ls}, Hit L key a s → Hit L key b s' → ¬ a < b := fun {a b s s'} x y hlt => by
    refine y.ahead ?_
    have hm : s ∈ L.take b := List.mem_of_getElem? (i := a) (by rw [List.getElem?_take, if_pos hlt]; exact x.at_)
    exact List.mem_map.mpr ⟨s, hm, x.has⟩
  have h1 := hno h h'
  have h2 := hno h' h
  omega
theorem Hit.drp {L : List Ls} {key : ByteArray} {k : Nat} {t : Ls} (h : Hit L key k t) (hn : (keys L).Nodup) : drp L key = L.take k ++ L.drop (k + 1) := by
  have hl := h.lt
  have ht : L[k] = t := by have := h.at_; rw [List.getElem?_eq_getElem hl] at this; injection this
  have e : L = L.take k ++ t :: L.drop (k + 1) := by rw [← ht, ← List.drop_eq_getElem_cons hl, List.take_append_drop]
  have hn' : (keys (L.take k) ++ t.k :: keys (L.drop (k + 1))).Nodup := by
    have : keys L = keys (L.take k) ++ t.k :: keys (L.drop (k + 1)) := by
      conv => lhs; rw [e]
      simp [keys]
    rw [← this]
    exact hn
  obtain ⟨_, h2, h3⟩ := List.nodup_append.mp hn'
  have hB := (List.nodup_cons.mp h2).1
  have e1 : Ytfiohhgmlelnkaa.drp L key = Ytfiohhgmlelnkaa.drp (L.take k) key ++ Ytfiohhgmlelnkaa.drp (L.drop (k + 1)) key := by
    conv => lhs; rw [e]
    simp [Ytfiohhgmlelnkaa.drp, h.has]
  rw [e1, drp_none h.ahead, drp_none (by rw [← h.has]; exact hB)]
def FdRel (L : List Ls) (key : ByteArray) (w : World) (s5 : Value) (wr : World) : Prop := ∃ k : Nat, k ≤ L.length ∧ s5 = .int .i64 (k : Int) ∧ key ∉ keys (L.take k) ∧ wr = w
set_option maxHeartbeats 2000000 in
theorem reffind_any (base h : Nat) (L : List Ls) (limit ticks now last : Int) (key : ByteArray) (w : World) (hr : RefAt w base h L limit ticks now last) :
    Calls Try.prog 25 #[.pointer (some ⟨h, 0, none⟩), .string key] w fun r w' => ((fnd L key = none ∧ r = .returned (.int .i64 (-1))) ∨ ∃ (k : Nat) (t : Ls), Hit L key k t ∧ r = .returned (.int .i64 (k : Int))) ∧ w = w' := by
  obtain ⟨A, c, hbox, hp, hc, hA, hl⟩ := hr.parts
  have c0 := hbox.c0
  have HP := Lib.hid hp
  obtain ⟨n, hn⟩ : ∃ n, n = L.length := ⟨_, rfl⟩
  rw [← hn] at c0
  have HN := Lib.hid hn
  have hn2 : (n : Int) ≤ 100000 := by omega
  clear hbox hp hc hA hl hr hn
  go_enter Try.func25, Try.ntmps25
  go_wp2
  go_loopw [5] (FdRel L key w) (fun i _ => n - (intOf i).toNat)
  case atStart => exact ⟨0, Nat.zero_le _, rfl, by simp [keys], rfl⟩
  case round =>
    obtain ⟨k, hk, rfl, hnk, rfl⟩ := hrel
    have HNK := Lib.hid hnk
    clear hnk
    by_cases hkn : k < n
    · have hkl : k < L.length := by have := HN.out; omega
      obtain ⟨b, off, rfl, xl, x0, x1, x2⟩ := HP.out.at_ hkl
      have hki : (k : Int) < (n : Int) := by omega
      have hk0 : (0 : Int) ≤ (k : Int) := by omega
      by_cases hxy : L[k].k = key
      · have HALL : Hid (Hit L key k L[k]) := ⟨List.getElem?_eq_getElem hkl, hxy, HNK.out⟩
        rw [hxy] at x0
        clear xl hxy x1 x2 HNK
        go_wp2
        go_ret
        exact ⟨.inr ⟨k, _, HALL.out, rfl⟩, rfl⟩
      · have HST : Hid (key ∉ keys (L.take (k + 1))) := by
          show _ ∉ _
          rw [List.take_succ_eq_append_getElem hkl]
          simp only [keys, List.map_append, List.mem_append, List.map_cons, List.map_nil, List.mem_singleton]
          rintro (h | h)
          · exact HNK.out h
          · exact hxy h.symm
        have hxy' : (L[k].k.toList == key.toList) = false := toList_ne hxy
        generalize L[k].k = x at x0 hxy'
        have HKL := Lib.hid hkl
        clear xl hxy x1 x2 hkl
        go_wp2
        go_roundw
        case rel => exact ⟨k + 1, HKL.out, by go_num, HST.out, rfl⟩
        case measure => simp [intOf]; omega
    · have hke : k = L.length := by have := HN.out; omega
      have HR : Hid (fnd L key = none) := by
        show _ = _
        rw [fnd_none]
        have := HNK.out
        rw [hke, List.take_length] at this
        exact this
      have hki : ¬ (k : Int) < (n : Int) := by omega
      clear hke HNK
      go_wp2
      go_ret
      exact ⟨.inl ⟨HR.out, rfl⟩, rfl⟩
theorem find_hit (base h : Nat) (L : List Ls) (limit ticks now last : Int) (key : ByteArray) (k : Nat) (t : Ls) (w : World) (hr : RefAt w base h L limit ticks now last) (hh : Hit L key k t) :
    Calls Try.prog 25 #[.pointer (some ⟨h, 0, none⟩), .string key] w fun r w' => r = .returned (.int .i64 (k : Int)) ∧ w = w' := by
  refine (reffind_any base h L limit ticks now last key w hr).mono ?_
  rintro r w' ⟨hc, rfl⟩
  rcases hc with ⟨h1, _⟩ | ⟨k', t', h1, rfl⟩
  · exact absurd (by rw [← hh.has]; exact List.mem_map_of_mem (List.mem_of_getElem? hh.at_)) (fnd_none.mp h1)
  · have : k' = k := h1.one hh
    subst this
    exact ⟨rfl, rfl⟩
theorem find_miss (base h : Nat) (L : List Ls) (limit ticks now last : Int) (key : ByteArray) (w : World) (hr : RefAt w base h L limit ticks now last) (hf : fnd L key = none) :
    Calls Try.prog 25 #[.pointer (some ⟨h, 0, none⟩), .string key] w fun r w' => r = .returned (.int .i64 (-1)) ∧ w = w' := by
  refine (reffind_any base h L limit ticks now last key w hr).mono ?_
  rintro r w' ⟨hc, rfl⟩
  rcases hc with ⟨_, rfl⟩ | ⟨k', t', h2, _⟩
  · exact ⟨rfl, rfl⟩
  · exact absurd (by rw [← h2.has]; exact List.mem_map_of_mem (List.mem_of_getElem? h2.at_)) (fnd_none.mp hf)
def RefPost (w : World) (base h : Nat) (L : List Ls) (limit ticks now last : Int) (v : Value) (r : Ending) (w' : World) : Prop := r = .returned v ∧ RefAt w' base h L limit ticks now last ∧ Fr rK [] base w w'
/-- What Drop makes. -/
structure DrUp (w : World) (base h : Nat) (L' : List Ls) (limit ticks now last : Int) (A A' : Option Addr) (n j c m c' : Nat) (w1 w3 : World) (v1 : Value) (B3 : Option Addr) (l3 c3 : Nat) : Prop where
  r1 : (Builtin.append_ #[27, 27] 27 #[.slice (some ⟨w.heap.size, 0, none⟩) 0 0, .slice A j c]).run Try.prog (w.alloc (.cells #[] 66)) = .ok v1 w1
  r3 : (Builtin.append_ #[27, 27] 27 #[v1, .slice A' m c']).run Try.prog w1 = .ok (.slice B3 l3 c3) w3
  d0 : (w.alloc (.cells #[] 66)).cell? ⟨h, 0, none⟩ = some (.slice A n c)
  d1 : w1.cell? ⟨h, 0, none⟩ = some (.slice A n c)
  d3 : w3.cell? ⟨h, 0, none⟩ = some (.slice A n c)
  f3 : w3.frozen? ⟨h, 0, none⟩ = false
  out : RefAt (w3.setCell ⟨h, 0, none⟩ (.slice B3 l3 c3)) base h L' limit ticks now last ∧ Fr rK [] base w (w3.setCell ⟨h, 0, none⟩ (.slice B3 l3 c3))
theorem dr_up {base h : Nat} {L : List Ls} {limit ticks now last : Int} {w : World} {A A' : Option Addr} {n j c c' m : Nat} (hr : RefAt w base h L limit ticks now last) (hbs : base ≤ w.heap.size) (hl : n ≤ 100000) (hbox : RBox w h (.slice A n c) limit ticks now last) (hp : Tgs w A L) (hA : A = none → c = 0) (hn : L.length = n) (hj : j < n)
    (hp' : Tgs w A' (L.drop (j + 1))) (hA' : A' = none → c' = 0) (hm : n - (j + 1) = m) : ∃ w1 w3 v1 B3 l3 c3, DrUp w base h (L.take j ++ L.drop (j + 1)) limit ticks now last A A' n j c m c' w1 w3 v1 B3 l3 c3 := by
  have b0 : Below w.heap.size w (w.alloc (.cells #[] 66)) := (Below.refl _ _).alloc (Nat.le_refl _) _
  obtain ⟨v1, w1, r1, o1, b1⟩ := RowT.grow rfl (RowT.empty w) b0 (n := j) (c := c) ((hp.take j).below (Nat.le_refl _) b0) (by rw [List.length_take]; omega) hA (by simp; omega)
  obtain ⟨v3, w3, r3, o3, b3⟩ := RowT.grow rfl o1 b1 (n := m) (c := c') (hp'.below (Nat.le_refl _) b1) (by rw [List.length_drop]; omega) hA' (by simp; omega)
  simp only [List.nil_append] at o3
  obtain ⟨B3, c3, rfl, _⟩ := o3.form
  have hlt := hbox.lt
  exact ⟨w1, w3, v1, B3, _, c3, r1, r3, (b0.cell (p := ⟨h, 0, none⟩) hlt).trans hbox.c0, (b1.cell (p := ⟨h, 0, none⟩) hlt).trans hbox.c0, (b3.cell (p := ⟨h, 0, none⟩) hlt).trans hbox.c0, RBox.frozen ((b3.block h hlt).trans hbox) 0,
    ref_store hr hbs b3 o3 (by rw [List.length_append, List.length_take, List.length_drop]; omega)⟩
set_option maxHeartbeats 2000000 in
theorem refdrop_any (base h : Nat) (L : List Ls) (limit ticks now last : Int) (j : Nat) (w : World) (hr : RefAt w base h L limit ticks now last) (hbs : base ≤ w.heap.size) (hjl : j < L.length) :
    Calls Try.prog 26 #[.pointer (some ⟨h, 0, none⟩), .int .i64 (j : Int)] w (RefPost w base h (L.take j ++ L.drop (j + 1)) limit ticks now last (.tuple #[])) := by
  obtain ⟨A, c, hbox, hp, hnc, hA, hl⟩ := hr.parts
  have hlt := hbox.lt
  have hne : ¬ h = w.heap.size := by omega
  have c0 := hbox.c0
  obtain ⟨b, off, rfl, hb, e0⟩ := hp.at_ hjl
  clear e0 hlt
  obtain ⟨n, hn⟩ : ∃ n, L.length = n := ⟨_, rfl⟩
  rw [hn] at c0 hl hjl hnc hbox
  have hbn : ¬ b = w.heap.size := by omega
  have hlti : (j : Int) < (n : Int) := by omega
  have hj0 : (0 : Int) ≤ (j : Int) := by omega
  clear hb
  by_cases hcj : c = j + 1
  · have hnj : n = j + 1 := by omega
    subst hnj
    subst hcj
    obtain ⟨w1, w3, v1, B3, l3, c3, U⟩ := dr_up (c' := 0) (m := 0) (j := j) hr hbs hl hbox hp hA hn (by omega) (tgs_end (some ⟨b, off, none⟩) (by omega)) (fun _ => rfl) (by omega)
    obtain ⟨r1, r3, d0, d1, d3, f3, hout⟩ := U
    have HF := Lib.hid hout
    clear hout hn hbox hp hA hr hbs
    have hln : j < 100000 := by omega
    clear hnc hjl hl hlti
    have R1 := Lib.hid r1
    have R3 := Lib.hid r3
    clear r1 r3
    go_enter Try.func26, Try.ntmps26
    go_wp2_with (first | (at_builtin; refine wpList_append_run rfl _ _ 27 27 rfl _ _ rfl rfl _ w1 R1.out ?_) | (at_builtin; refine wpList_append_run rfl _ _ 27 27 rfl _ _ rfl rfl _ w3 R3.out ?_))
    go_end0
    exact ⟨rfl, HF.out.1, HF.out.2⟩
  · obtain ⟨w1, w3, v1, B3, l3, c3, U⟩ := dr_up (c' := c - (j + 1)) (m := n - (j + 1)) (j := j) hr hbs hl hbox hp hA hn hjl (hp.drop (j + 1)) (by intro h; cases h) rfl
    obtain ⟨r1, r3, d0, d1, d3, f3, hout⟩ := U
    have HF := Lib.hid hout
    clear hout hn hbox hp hA hr hbs
    have hjc : (j : Int) + 1 ≤ (c : Int) := by omega
    have hjn : (j : Int) + 1 ≤ (n : Int) := by omega
    have hln : j < 100000 := by omega
    clear hnc hjl hl
    have R1 := Lib.hid r1
    have R3 := Lib.hid r3
    clear r1 r3
    go_enter Try.func26, Try.ntmps26
    go_wp2_with (first | (at_builtin; refine wpList_append_run rfl _ _ 27 27 rfl _ _ rfl rfl _ w1 R1.out ?_) | (at_builtin; refine wpList_append_run rfl _ _ 27 27 rfl _ _ rfl rfl _ w3 R3.out ?_))
    go_end0
    exact ⟨rfl, HF.out.1, HF.out.2⟩
end Go.Proofs.Ytfiohhgmlelnkaa
