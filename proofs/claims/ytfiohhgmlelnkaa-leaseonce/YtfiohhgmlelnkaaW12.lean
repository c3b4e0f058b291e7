/-
  Words for memory: rows of the call's own that grow and are written, three of them beside a table. Their conditions: none.
-/
import Derived.Test.YtfiohhgmlelnkaaW9
import Derived.Test.YtfiohhgmlelnkaaHist
import Derived.Maps.AppendAt
import Derived.Laws.OwnMore
import Derived.Deep.CutBlock
namespace Go.Proofs.Ytfiohhgmlelnkaa
open Go.RowKit Go.Maps

/-- A row of the call's own, of elements of one cell. -/
def RowV (w : World) (base : Nat) (e : TypeId) (v : Value) (xs : List Value) : Prop := w.ownsRow base e 1 v xs.length xs
section
variable {w w' : World} {base : Nat} {e : TypeId} {v : Value} {xs : List Value}
theorem RowV.nil (w : World) (base : Nat) (e : TypeId) : RowV w base e (.slice none 0 0) [] := World.ownsRow_nil _ _ _ _
theorem RowV.form (h : RowV w base e v xs) : ∃ A c, v = .slice A xs.length c := by
  rcases h.2 with ⟨rfl, hn⟩ | ⟨g, cap, cur, rfl, _⟩
  · rw [hn]
    exact ⟨none, 0, rfl⟩
  · exact ⟨_, _, rfl⟩
theorem RowV.fr {k ms : List Nat} {base' : Nat} (h : RowV w base e v xs) (hf : Fr k ms base' w w') (hk : e ∉ k) (hm : ms = []) : RowV w' base e v xs := by
  subst hm
  refine ⟨h.1, ?_⟩
  rcases h.2 with h2 | ⟨g, cap, cur, hv, hb, hg, rest⟩
  · exact .inl h2
  · exact .inr ⟨g, cap, cur, hv, hb, hf.keep g _ hg hk (by simp), rest⟩
theorem RowV.below (h : RowV w base e v xs) (hf : Below w.heap.size w w') : RowV w' base e v xs := h.fr (k := []) (ms := []) (base' := w.heap.size) (Fr.of_below hf (Nat.le_refl _)) (by simp) rfl
theorem RowV.at_ (h : RowV w base e v xs) {A : Option Addr} {n c : Nat} (hv : v = .slice A n c) {k : Nat} (hk : k < xs.length) : ∃ g, A = some ⟨g, 0, none⟩ ∧ base ≤ g ∧ n = xs.length ∧ (∃ cur, w.heap[g]? = some (.cells cur e (0, 0))) ∧ w.cell? ⟨g, k, none⟩ = some xs[k] ∧ w.frozen? ⟨g, k, none⟩ = false := by
  have h' := h
  rcases h.2 with ⟨rfl, hn⟩ | ⟨g, cap, cur, rfl, hb, hg, rest⟩
  · omega
  · injection hv with h1 h2 h3
    subst h1 h2 h3
    refine ⟨g, rfl, hb, rfl, ⟨cur, hg⟩, ?_, World.ownsRow.frozenAt h' k⟩
    rw [World.ownsRow.cellAt h' k (by omega), List.getElem?_eq_getElem hk]
theorem RowV.set {g c : Nat} (h : RowV w base e (.slice (some ⟨g, 0, none⟩) xs.length c) xs) (k : Nat) (u : Value) : RowV (w.setCell ⟨g, k, none⟩ u) base e (.slice (some ⟨g, 0, none⟩) xs.length c) (xs.set k u) := by
  have := (World.ownsRow.stored h k u).1
  unfold RowV
  rw [List.length_set]
  exact this
end
/-- A new block of one cell. -/
def One (w : World) (c : Nat) (e : TypeId) (u : Value) : Prop := w.heap[c]? = some (.cells #[u] e (0, 0))
theorem One.fr {w w' : World} {c : Nat} {e : TypeId} {u : Value} {k : List Nat} {base : Nat} (h : One w c e u) (hf : Fr k [] base w w') (hk : e ∉ k) : One w' c e u := hf.keep c _ h hk (by simp)
theorem One.below {w w' : World} {c : Nat} {e : TypeId} {u : Value} (h : One w c e u) (hf : Below w.heap.size w w') : One w' c e u := (hf.block c (lt_of_heap h)).trans h
theorem info2 : (Try.prog.info? 2).map (fun i => (i.zero, i.size, i.bytes)) = some (some (.int .i64 0), 1, 8) := by kernel_rfl
theorem info3 : (Try.prog.info? 3).map (fun i => (i.zero, i.size, i.bytes)) = some (some (.int .i64 0), 1, 8) := by kernel_rfl
theorem info9 : (Try.prog.info? 9).map (fun i => (i.zero, i.size, i.bytes)) = some (some (.string ⟨#[]⟩), 1, 16) := by kernel_rfl
/-- What a row of elements of one cell wants to know of its types. -/
structure Ty (t e : TypeId) : Prop where
  ht : Try.prog.underlying t = some (.slice e)
  hi : ∃ z by_, (Try.prog.info? e).map (fun i => (i.zero, i.size, i.bytes)) = some (some z, 1, by_) ∧ z.cells.size = 1 ∧ by_ ≤ 16
theorem ty40 : Ty 40 2 := ⟨Try.underlying40, _, _, info2, rfl, by omega⟩
theorem ty41 : Ty 41 9 := ⟨Try.underlying41, _, _, info9, rfl, by omega⟩
theorem ty42 : Ty 42 3 := ⟨Try.underlying42, _, _, info3, rfl, by omega⟩
/-- One more. -/
theorem RowV.append {w : World} {base c : Nat} {t e : TypeId} {v u : Value} {xs : List Value} (T : Ty t e) (h : RowV w base e v xs) (ho : One w c e u) (hu : u.oneCell' = true) (hb : base ≤ w.heap.size) (hl : xs.length ≤ 1000000) (ty : TypeId) :
    ∃ A' c' w', (Builtin.append_ #[t, t] ty #[v, .slice (some ⟨c, 0, none⟩) 1 1]).run Try.prog w = .ok (.slice A' (xs.length + 1) c') w' ∧ RowV w' base e (.slice A' (xs.length + 1) c') (xs ++ [u]) ∧ Fr [e] [] base w w' := by
  obtain ⟨z, by_, hinfo, hz, hby⟩ := T.hi
  obtain ⟨i0, hi, hz0, hz1, hz2⟩ := info_parts hinfo
  have hnews : ∀ (j : Nat) (x : Value), [u][j]? = some x → w.cell? ((⟨c, 0, none⟩ : Addr).add j) = some x := by
    intro j x hj
    cases j with
    | zero =>
      simp at hj
      subst hj
      have : w.heap[c]? = some (.cells #[u] e (0, 0)) := ho
      simp [Addr.add, World.cell?, this]
    | succ j => simp at hj
  obtain ⟨v', w', hr, ho', hg, _⟩ := run_append_own (P := Try.prog) w base t ty e i0 z 1 by_ T.ht hi hz0 hz1 hz2 hz (by decide) v xs.length xs h ⟨c, 0, none⟩ 1 1 [u] rfl hnews (by simpa using hu) (by unfold maxLen; omega) (by
    have : (xs.length + 1) * by_ ≤ (xs.length + 1) * 16 := Nat.mul_le_mul_left _ hby
    omega) hb
  have ho2 : RowV w' base e v' (xs ++ [u]) := by
    unfold RowV
    rw [List.length_append]
    exact ho'
  obtain ⟨A', c', hv⟩ := ho2.form
  subst hv
  rw [List.length_append] at hr ho2
  refine ⟨A', c', w', hr, ho2, ?_, fun b o hbo hk _ => ?_⟩
  · exact (Below.refl base w).grown hg hb (fun j hj => (World.ownsRow.lt h j hj).1)
  · rw [hg.block b (lt_of_heap hbo) ?_]
    · exact hbo
    · intro he
      rcases h.2 with ⟨rfl, _⟩ | ⟨g, cap, cur, rfl, _, hgb, _⟩
      · simp [Value.ownBlock] at he
      · obtain rfl : b = g := by simpa [Value.ownBlock] using he
        rw [hgb] at hbo
        cases hbo
        exact hk (by simp [kd])
/-- append by the equation of its run, as a step of a region that draws. -/
theorem step_append_run {P : Program} {ops : Array Oper} {o : Oper} {a : Act} {w : World} {K : Act → World → Prop} {Q : Exit → Act → World → Prop} {E : Prop}
    (hg : o.guard = none) (s x : Operand) (t u : TypeId) (hop : o.op = Op.call { callee := Callee.builtin Builtin.append, args := #[s, x], argTypes := #[t, u] }) (v y : Value) (hs : a.eval s = v) (hx : a.eval x = y) (v' : Value) (w' : World)
    (hr : (Builtin.append_ #[t, u] o.type #[v, y]).run P w = .ok v' w') (hK : K (a.put o.dst v') w') : if Region.wanted o (yielded ops a.tmps) = true then Oper.wp P o a w K Q else E := by
  have hw : Region.wanted o (yielded ops a.tmps) = true := by simp [Region.wanted, hg]
  rw [if_pos hw]
  unfold Oper.wp
  simp [execOp, hop, resolve, invoke, builtin, hs, hx, hr, Result.andThen]
  exact hK
/-- append onto a row of the call's own, as a step of a region that draws. -/
theorem step_app {ops : Array Oper} {o : Oper} {a : Act} {w : World} {K : Act → World → Prop} {Q : Exit → Act → World → Prop} {E : Prop} {base c : Nat} {t e : TypeId} {v u : Value} {xs : List Value} (T : Ty t e)
    (hg : o.guard = none) (s x : Operand) (hop : o.op = Op.call { callee := Callee.builtin Builtin.append, args := #[s, x], argTypes := #[t, t] }) (hs : a.eval s = v) (hx : a.eval x = .slice (some ⟨c, 0, none⟩) 1 1)
    (h : RowV w base e v xs) (ho : One w c e u) (hu : u.oneCell' = true) (hb : base ≤ w.heap.size) (hl : xs.length ≤ 1000000)
    (hK : ∀ A' c' w', RowV w' base e (.slice A' (xs.length + 1) c') (xs ++ [u]) → Fr [e] [] base w w' → K (a.put o.dst (.slice A' (xs.length + 1) c')) w') : if Region.wanted o (yielded ops a.tmps) = true then Oper.wp Try.prog o a w K Q else E := by
  obtain ⟨A', c', w', hr, h1, h2⟩ := h.append T ho hu hb hl o.type
  exact step_append_run hg s x t t hop _ _ hs hx _ _ hr (hK A' c' w' h1 h2)

/-- The memory goes on: what was there is there. -/
def Ext (w w' : World) : Prop := Below w.heap.size w w'
theorem Ext.refl (w : World) : Ext w w := Below.refl _ _
theorem Ext.alloc {w w' : World} (h : Ext w w') (o : Obj) : Ext w (w'.alloc o) := Below.alloc h (Below.size h) o
theorem Ext.drew {w w' : World} (h : Ext w w') : Ext w w'.drew := Below.drew h

def tokV (H : List Rc) : List Value := H.map fun r => .int .i64 r.t
def keyV (H : List Rc) : List Value := H.map fun r => .string r.k
def sinV (S : List Int) : List Value := S.map fun s => .int .i64 s
/-- A table beside the step that is played and three rows: tokens, keys, ticks since. -/
structure On (w0 W : World) (g B : Nat) (L : List Ls) (limit T last : Int) (q : Nat) (x : Step) (v8 v9 v10 : Value) (H : List Rc) (S : List Int) : Prop where
  st : St w0 W g B L limit T last q (oStep x)
  r8 : RowV W w0.heap.size 2 v8 (tokV H)
  r9 : RowV W w0.heap.size 9 v9 (keyV H)
  r10 : RowV W w0.heap.size 3 v10 (sinV S)
  sl : S.length = H.length
section
variable {w0 W W' : World} {g B : Nat} {L L' : List Ls} {limit T last last' : Int} {q : Nat} {x : Step} {v8 v9 v10 : Value} {H : List Rc} {S : List Int}
theorem On.below (s : On w0 W g B L limit T last q x v8 v9 v10 H S) (hb : Below W.heap.size W W') : On w0 W' g B L limit T last q x v8 v9 v10 H S := ⟨s.st.below hb, s.r8.below hb, s.r9.below hb, s.r10.below hb, s.sl⟩
theorem On.drew (s : On w0 W g B L limit T last q x v8 v9 v10 H S) : On w0 W.drew g B L limit T last q x v8 v9 v10 H S := s.below (Below.refl _ _).drew
theorem On.cells (s : On w0 W g B L limit T last q x v8 v9 v10 H S) : W.cell? ⟨q, 0, none⟩ = some (.int .i64 x.K) ∧ W.cell? ⟨q, 1, none⟩ = some (.string x.key) ∧ W.cell? ⟨q, 2, none⟩ = some (.int .i64 x.T) := step_cells s.st.box
/-- A call of the table. -/
theorem On.turn {l ms : List Nat} (s : On w0 W g B L limit T last q x v8 v9 v10 H S) (hf : Fr l ms w0.heap.size W W') (hl : ∀ x ∈ l, x ∈ tK) (hm : ∀ x ∈ ms, x = g ∨ x = B) (ht : TableAt W' w0.heap.size g B L' limit T last') : On w0 W' g B L' limit T last' q x v8 v9 v10 H S := by
  have hk := s.st.tab.kinds hf hl hm
  exact ⟨s.st.turn hf hl hm ht, s.r8.fr hk (by simp [tK]) rfl, s.r9.fr hk (by simp [tK]) rfl, s.r10.fr hk (by simp [tK]) rfl, s.sl⟩
theorem on_kill (s : On w0 W g B L limit T last q x v8 v9 v10 H S) (k : ByteArray) (hk : k.size ≤ maxLen) : Calls Try.prog 15 #[.pointer (some ⟨g, 0, none⟩), .string k] W fun r w' => r = .returned (.bool (has L k)) ∧ On w0 w' g B (drp L k) limit T last q x v8 v9 v10 H S := by
  refine (kill_any _ g B L limit T last k W s.st.tab hk).mono ?_
  rintro r w' ⟨rfl, ht, hf⟩
  exact ⟨rfl, s.turn hf (by simp) (by simp) ht⟩
theorem on_use (s : On w0 W g B L limit T last q x v8 v9 v10 H S) (k : ByteArray) (t : Int) (hk : k.size ≤ maxLen) : Calls Try.prog 13 #[.pointer (some ⟨g, 0, none⟩), .string k, .int .i64 t] W fun r w' => r = .returned (.bool (useB L k t)) ∧ On w0 w' g B (useL L k t) limit T last q x v8 v9 v10 H S := by
  refine (use_any _ g B L limit T last k t W s.st.tab hk).mono ?_
  rintro r w' ⟨rfl, ht, hf⟩
  exact ⟨rfl, s.turn hf (by simp) (by simp) ht⟩
theorem on_clear (s : On w0 W g B L limit T last q x v8 v9 v10 H S) : Calls Try.prog 19 #[.pointer (some ⟨g, 0, none⟩)] W fun r w' => r = .returned (.tuple #[]) ∧ On w0 w' g B [] limit T last q x v8 v9 v10 H S := by
  refine (clear_any _ g B L limit T last W s.st.tab).mono ?_
  rintro r w' ⟨rfl, ht, hf⟩
  exact ⟨rfl, s.turn hf (by simp) (by simp) ht⟩
theorem on_tick (s : On w0 W g B L limit T last q x v8 v9 v10 H S) : Calls Try.prog 17 #[.pointer (some ⟨g, 0, none⟩)] W fun r w' => r = .returned (.tuple #[]) ∧ On w0 w' g B (tck L) limit T last q x v8 v9 v10 H S := by
  refine (tick_any _ g B L limit T last W s.st.tab s.st.bel.size).mono ?_
  rintro r w' ⟨rfl, ht, hf⟩
  exact ⟨rfl, s.turn hf (by simp [tK]) (by simp) ht⟩
theorem on_grant (s : On w0 W g B L limit T last q x v8 v9 v10 H S) (k : ByteArray) (hk : k.size ≤ maxLen) (h1 : 0 ≤ last) (h2 : last < 9223372036854775807) : Calls Try.prog 11 #[.pointer (some ⟨g, 0, none⟩), .string k] W fun r w' =>
    r = .returned (.tuple #[.int .i64 (grV L k limit last), .bool (grB L k limit)]) ∧ On w0 w' g B (grL L k limit T last) limit T (grT L k limit last) q x v8 v9 v10 H S := by
  refine (grant_any _ g B L limit T last k W s.st.tab hk s.st.bel.size (by omega) h2).mono ?_
  rintro r w' ⟨rfl, ht, hf⟩
  exact ⟨rfl, s.turn hf (by simp) (by simp) ht⟩
/-- What writes blocks of kinds that are not the table's leaves the table and the step. -/
theorem St.other {k : List Nat} (s : St w0 W g B L limit T last q (oStep x)) (hf : Fr k [] w0.heap.size W W') (hk : ∀ y ∈ k, y ≠ 58 ∧ y ≠ 63 ∧ y ≠ 1000 ∧ y ≠ 31) : St w0 W' g B L limit T last q (oStep x) := by
  refine ⟨s.tab.keep hf (fun h => (hk _ h).1 rfl) (fun h => (hk _ h).2.1 rfl) (fun h => (hk _ h).2.2.1 rfl) (by simp), hf.keep q _ s.box (fun h => (hk _ h).2.2.2 rfl) (by simp), s.kind, s.bel.trans hf.below⟩
/-- A number of ticks is written. -/
theorem On.set {A : Option Addr} {n c : Nat} (s : On w0 W g B L limit T last q x v8 v9 (.slice A n c) H S) {j : Nat} (hj : j < H.length) : ∃ b, A = some ⟨b, 0, none⟩ ∧ W.frozen? ⟨b, j, none⟩ = false ∧ (∀ z, S[j]? = some z → W.cell? ⟨b, j, none⟩ = some (.int .i64 z)) ∧
    ∀ u : Int, On w0 (W.setCell ⟨b, j, none⟩ (.int .i64 u)) g B L limit T last q x v8 v9 (.slice A n c) H (S.set j u) := by
  have hj' : j < S.length := by rw [s.sl]; exact hj
  have hjs : j < (sinV S).length := by unfold sinV; rw [List.length_map]; exact hj'
  obtain ⟨b, rfl, hb, rfl, ⟨cur, hcur⟩, hc, hf⟩ := s.r10.at_ rfl hjs
  refine ⟨b, rfl, hf, fun z hz => ?_, fun u => ?_⟩
  · rw [hc]
    simp only [sinV, List.getElem_map]
    rw [List.getElem?_eq_getElem hj'] at hz
    injection hz with hz
    rw [hz]
  have hF : Fr [3] [] w0.heap.size W (W.setCell ⟨b, j, none⟩ (.int .i64 u)) := (Fr.refl _ _ _ _).set hcur (.inl (by simp [kd])) hb _
  refine ⟨s.st.other hF (by simp), s.r8.fr hF (by simp) rfl, s.r9.fr hF (by simp) rfl, ?_, by rw [List.length_set]; exact s.sl⟩
  have := s.r10.set j (.int .i64 u)
  have e : (sinV S).set j (.int .i64 u) = sinV (S.set j u) := by unfold sinV; rw [List.map_set]
  rwa [e] at this
end
theorem One.new {w : World} {c : Nat} {e : TypeId} {u : Value} (h : c = w.heap.size) : One (w.alloc (.cells #[u] e (0, 0))) c e u := by
  subst h
  exact heap_new _ _
theorem One.alloc {w : World} {c : Nat} {e : TypeId} {u : Value} (h : One w c e u) (o : Obj) : One (w.alloc o) c e u := (heap_old w o (lt_of_heap h)).trans h
theorem One.drew {w : World} {c : Nat} {e : TypeId} {u : Value} (h : One w c e u) : One w.drew c e u := h
/-- A table beside the step that is played and three rows, each as it is. -/
structure Tr (w0 W : World) (g B : Nat) (L : List Ls) (limit T last : Int) (q : Nat) (x : Step) (v8 : Value) (l8 : List Value) (v9 : Value) (l9 : List Value) (v10 : Value) (l10 : List Value) : Prop where
  st : St w0 W g B L limit T last q (oStep x)
  r8 : RowV W w0.heap.size 2 v8 l8
  r9 : RowV W w0.heap.size 9 v9 l9
  r10 : RowV W w0.heap.size 3 v10 l10
section
variable {w0 W W' : World} {g B : Nat} {L : List Ls} {limit T last : Int} {q : Nat} {x : Step} {v8 v9 v10 v : Value} {l8 l9 l10 l : List Value}
theorem Tr.ext (s : Tr w0 W g B L limit T last q x v8 l8 v9 l9 v10 l10) (h : Ext W W') : Tr w0 W' g B L limit T last q x v8 l8 v9 l9 v10 l10 := ⟨s.st.below h, s.r8.below h, s.r9.below h, s.r10.below h⟩
theorem Tr.a8 (s : Tr w0 W g B L limit T last q x v8 l8 v9 l9 v10 l10) (r : RowV W' w0.heap.size 2 v l) (h : Fr [2] [] w0.heap.size W W') : Tr w0 W' g B L limit T last q x v l v9 l9 v10 l10 := ⟨s.st.other h (by simp), r, s.r9.fr h (by simp) rfl, s.r10.fr h (by simp) rfl⟩
theorem Tr.a9 (s : Tr w0 W g B L limit T last q x v8 l8 v9 l9 v10 l10) (r : RowV W' w0.heap.size 9 v l) (h : Fr [9] [] w0.heap.size W W') : Tr w0 W' g B L limit T last q x v8 l8 v l v10 l10 := ⟨s.st.other h (by simp), s.r8.fr h (by simp) rfl, r, s.r10.fr h (by simp) rfl⟩
theorem Tr.a10 (s : Tr w0 W g B L limit T last q x v8 l8 v9 l9 v10 l10) (r : RowV W' w0.heap.size 3 v l) (h : Fr [3] [] w0.heap.size W W') : Tr w0 W' g B L limit T last q x v8 l8 v9 l9 v l := ⟨s.st.other h (by simp), s.r8.fr h (by simp) rfl, s.r9.fr h (by simp) rfl, r⟩
theorem Tr.size (s : Tr w0 W g B L limit T last q x v8 l8 v9 l9 v10 l10) : w0.heap.size ≤ W.heap.size := s.st.bel.size
end
/-- The frame behind the three appends. -/
def putsA (a : Act) (v70 v71 v72 v73 v74 v75 v76 v77 v78 v79 v80 v81 : Value) : Act :=
  ((((((((((((((a.put (some 70) v70).put (some 71) v71).put (some 72) v72).put (some 73) v73).put (some 74) v74).put (some 75) v75).put (some 76) v76).put (some 77) v77).put (some 78) v78).put (some 79) v79).put (some 80) v80).put (some 81) v81).put (some 8) v73).put (some 9) v78).put (some 10) v81
/-- What the three appends leave. -/
def AppR (w0 : World) (g B : Nat) (L : List Ls) (limit T last : Int) (q : Nat) (x : Step) (v8 v9 v10 : Value) (l8 l9 l10 : List Value) (m : Nat) (n : Value) (a a' : Act) (w' : World) : Prop :=
  ∃ A1 k1 A2 k2 A3 k3 u72 u77 u80, a' = putsA a v8 n u72 (.slice A1 (m + 1) k1) v9 (.pointer (some ⟨q, 1, none⟩)) (.string x.key) u77 (.slice A2 (m + 1) k2) v10 u80 (.slice A3 (m + 1) k3) ∧
    Tr w0 w' g B L limit T last q x (.slice A1 (m + 1) k1) l8 (.slice A2 (m + 1) k2) l9 (.slice A3 (m + 1) k3) l10
/-- The way behind the region, once. -/
theorem region_cut {P : Program} {id : Nat} {ops : Array Oper} {b : Bool} {Q : Exit → Act → World → Prop} {a : Act} {w : World} (R : Act → Act → World → Prop)
    (h1 : (Code.region id ops b).wp P (fun e a' w' => match e with | .normal => R a a' w' | _ => False) a w) (h2 : ∀ a' w', R a a' w' → Q .normal a' w') : (Code.region id ops b).wp P Q a w :=
  Code.wp_mono (fun e a' w' h => by
    cases e
    case normal => exact h2 a' w' h
    all_goals exact (h : False).elim) h1
end Go.Proofs.Ytfiohhgmlelnkaa
