/-
  Words for memory: the document's cache. The contracts of its Used, Find, Keys, Release. Their conditions: the cache lies in memory, and has no more things than a bound.
-/
import Derived.Test.YtmhpngfkipooiaaW11
namespace Go.Proofs.Ytmhpngfkipooiaa
open Go.RowKit Go.Maps

theorem addr_at (b o k : Nat) : (⟨b, o, none⟩ : Addr).add k = ⟨b, o + k, none⟩ := by unfold Addr.add; split <;> simp_all
/-- A slice (its address A) that reads as the things l. -/
def Tgs (w : World) (A : Option Addr) (l : List Th) : Prop :=
  l.length ≤ maxLen ∧ (0 < l.length → ∃ b off, A = some ⟨b, off, none⟩ ∧ b < w.heap.size ∧ ∀ (k : Nat) (t : Th), l[k]? = some t →
    w.cell? ⟨b, off + k * 3, none⟩ = some (.string t.k) ∧ w.cell? ⟨b, off + k * 3 + 1, none⟩ = some (.int .i64 t.s) ∧ w.cell? ⟨b, off + k * 3 + 2, none⟩ = some (.int .i64 t.n))
theorem Tgs.below {w w' : World} {A : Option Addr} {l : List Th} {B : Nat} (h : Tgs w A l) (hB : w.heap.size ≤ B) (hb : Below B w w') : Tgs w' A l := by
  obtain ⟨h1, h3⟩ := h
  refine ⟨h1, fun hl => ?_⟩
  obtain ⟨b, off, hA, hlt, hc⟩ := h3 hl
  have e : ∀ o, w'.cell? ⟨b, o, none⟩ = w.cell? ⟨b, o, none⟩ := fun o => hb.cell (p := ⟨b, o, none⟩) (Nat.lt_of_lt_of_le hlt hB)
  exact ⟨b, off, hA, Nat.lt_of_lt_of_le hlt hb.size, fun k x hk => by rw [e, e, e]; exact hc k x hk⟩
theorem Tgs.at_ {w : World} {A : Option Addr} {l : List Th} (h : Tgs w A l) {k : Nat} (hk : k < l.length) : ∃ b off, A = some ⟨b, off, none⟩ ∧ b < w.heap.size ∧
    w.cell? ⟨b, off + k * 3, none⟩ = some (.string l[k].k) ∧ w.cell? ⟨b, off + k * 3 + 1, none⟩ = some (.int .i64 l[k].s) ∧ w.cell? ⟨b, off + k * 3 + 2, none⟩ = some (.int .i64 l[k].n) := by
  obtain ⟨b, off, hA, hlt, hc⟩ := h.2 (by omega)
  exact ⟨b, off, hA, hlt, hc k _ (List.getElem?_eq_getElem hk)⟩
theorem Tgs.take {w : World} {A : Option Addr} {l : List Th} (h : Tgs w A l) (j : Nat) : Tgs w A (l.take j) := by
  refine ⟨by rw [List.length_take]; have := h.1; omega, fun h0 => ?_⟩
  obtain ⟨b, off, e1, e2, e3⟩ := h.2 (by rw [List.length_take] at h0; omega)
  exact ⟨b, off, e1, e2, fun i s hi => e3 i s (by rw [List.getElem?_take] at hi; split at hi; exact hi; cases hi)⟩
theorem Tgs.drop {w : World} {b off : Nat} {l : List Th} (h : Tgs w (some ⟨b, off, none⟩) l) (j : Nat) : Tgs w (some ⟨b, off + j * 3, none⟩) (l.drop j) := by
  refine ⟨by rw [List.length_drop]; have := h.1; omega, fun h0 => ?_⟩
  obtain ⟨b', off', e1, e2, e3⟩ := h.2 (by rw [List.length_drop] at h0; omega)
  injection e1 with e1
  injection e1 with e1 e4 _
  subst e1 e4
  refine ⟨b, off + j * 3, rfl, e2, fun i s hi => ?_⟩
  rw [List.getElem?_drop] at hi
  have := e3 (j + i) s hi
  rw [show off + j * 3 + i * 3 = off + (j + i) * 3 by omega]
  exact this
/-- The cells of things. -/
def thVals (l : List Th) : List Value := l.flatMap fun t => [.string t.k, .int .i64 t.s, .int .i64 t.n]
theorem thVals_append (l m : List Th) : thVals (l ++ m) = thVals l ++ thVals m := by simp [thVals]
theorem thVals_length (l : List Th) : (thVals l).length = l.length * 3 := by
  induction l with
  | nil => rfl
  | cons t r ih => simp [thVals] at ih ⊢; omega
theorem thVals_one (l : List Th) : ∀ u ∈ thVals l, u.oneCell' = true := by
  intro u hu
  obtain ⟨t, _, ht⟩ := List.mem_flatMap.mp hu
  simp at ht
  rcases ht with rfl | rfl | rfl <;> rfl
theorem thVals_at {l : List Th} {j : Nat} {u : Value} (h : (thVals l)[j]? = some u) : ∃ t, l[j / 3]? = some t ∧ ((j % 3 = 0 ∧ u = .string t.k) ∨ (j % 3 = 1 ∧ u = .int .i64 t.s) ∨ (j % 3 = 2 ∧ u = .int .i64 t.n)) := by
  induction l generalizing j with
  | nil => simp [thVals] at h
  | cons t r ih =>
    have e : thVals (t :: r) = [.string t.k, .int .i64 t.s, .int .i64 t.n] ++ thVals r := by simp [thVals]
    rw [e] at h
    match j, h with
    | 0, h => exact ⟨t, rfl, .inl ⟨rfl, by simpa using h.symm⟩⟩
    | 1, h => exact ⟨t, rfl, .inr (.inl ⟨rfl, by simpa using h.symm⟩)⟩
    | 2, h => exact ⟨t, rfl, .inr (.inr ⟨rfl, by simpa using h.symm⟩)⟩
    | j + 3, h =>
      have h' : (thVals r)[j]? = some u := by simpa using h
      obtain ⟨t', h1, h2⟩ := ih h'
      refine ⟨t', ?_, ?_⟩
      · rw [show (j + 3) / 3 = j / 3 + 1 by omega]
        simpa using h1
      · rw [show (j + 3) % 3 = j % 3 by omega]
        exact h2
theorem news_ths {w : World} {ad : Addr} {l : List Th} (h : Tgs w (some ad) l) : ∀ (j : Nat) (u : Value), (thVals l)[j]? = some u → w.cell? (ad.add j) = some u := by
  intro j u hj
  obtain ⟨t, h1, h2⟩ := thVals_at hj
  have hl := (List.getElem?_eq_some_iff.mp h1).1
  obtain ⟨b, off, hA, _, hc⟩ := h.2 (by omega)
  injection hA with hA
  subst hA
  rw [addr_at]
  obtain ⟨x0, x1, x2⟩ := hc _ _ h1
  rcases h2 with ⟨e, rfl⟩ | ⟨e, rfl⟩ | ⟨e, rfl⟩
  · rw [show off + j = off + j / 3 * 3 by omega]; exact x0
  · rw [show off + j = off + j / 3 * 3 + 1 by omega]; exact x1
  · rw [show off + j = off + j / 3 * 3 + 2 by omega]; exact x2
theorem info37 : (Try.prog.info? 37).map (fun i => (i.zero, i.size, i.bytes)) = some (some (.agg #[.string ⟨#[]⟩, .int .i64 0, .int .i64 0]), 3, 32) := by kernel_rfl
/-- A row of things of the call's own. -/
def RowT (w : World) (base : Nat) (v : Value) (l : List Th) : Prop := w.ownsRow base 37 3 v l.length (thVals l)
theorem RowT.form {w : World} {base : Nat} {v : Value} {l : List Th} (h : RowT w base v l) : ∃ A c, v = .slice A l.length c ∧ l.length ≤ c ∧ (A = none → c = 0) := by
  rcases h.2 with ⟨rfl, hn⟩ | ⟨g, cap, cur, rfl, _, _, hle, _⟩
  · have : l.length = 0 := hn
    rw [this]
    exact ⟨none, 0, rfl, Nat.le_refl _, fun _ => rfl⟩
  · exact ⟨_, _, rfl, hle, fun h => by cases h⟩
theorem RowT.tgs {w : World} {base : Nat} {v : Value} {l : List Th} (h : RowT w base v l) (hm : l.length ≤ maxLen) : ∃ A c, v = .slice A l.length c ∧ Tgs w A l ∧ l.length ≤ c ∧ (A = none → c = 0) := by
  have h' := h
  rcases h.2 with ⟨rfl, hn⟩ | ⟨g, cap, cur, rfl, hb, hg, hle, rest⟩
  · have h0 : l.length = 0 := hn
    have hl : l = [] := List.eq_nil_of_length_eq_zero h0
    subst hl
    exact ⟨none, 0, rfl, ⟨by simp, by simp⟩, Nat.le_refl _, fun _ => rfl⟩
  · refine ⟨some ⟨g, 0, none⟩, cap, rfl, ⟨hm, fun hl => ⟨g, 0, rfl, (Array.getElem?_eq_some_iff.mp hg).1, fun k t hk => ?_⟩⟩, hle, fun h => by cases h⟩
    have hc := World.ownsRow.cells h' (g := g) rfl
    have key : ∀ i u, i < 3 → [Value.string t.k, .int .i64 t.s, .int .i64 t.n][i]? = some u → w.cell? ⟨g, 0 + k * 3 + i, none⟩ = some u := fun i u hi hu => by
      have e : (thVals l)[k * 3 + i]? = some u := by
        clear hc h' hg rest hle hb hm h hl
        induction l generalizing k with
        | nil => simp at hk
        | cons s r ih =>
          have e : thVals (s :: r) = [.string s.k, .int .i64 s.s, .int .i64 s.n] ++ thVals r := by simp [thVals]
          rw [e]
          cases k with
          | zero =>
            simp at hk
            subst hk
            rw [List.getElem?_append_left (by simp; omega)]
            simpa using hu
          | succ k =>
            rw [List.getElem?_append_right (by simp; omega), show (k + 1) * 3 + i - [Value.string s.k, .int .i64 s.s, .int .i64 s.n].length = k * 3 + i by simp; omega]
            exact ih k (by simpa using hk)
      have := hc _ _ e
      rw [addr_at] at this
      rw [show 0 + k * 3 + i = 0 + (k * 3 + i) by omega]
      exact this
    exact ⟨key 0 _ (by omega) rfl, key 1 _ (by omega) rfl, key 2 _ (by omega) rfl⟩
theorem RowT.fr {w w' : World} {base base' : Nat} {v : Value} {l : List Th} {k : List Nat} (h : RowT w base v l) (hf : Fr k base' w w') (hk : 37 ∉ k) : RowT w' base v l := by
  refine ⟨h.1, ?_⟩
  rcases h.2 with h2 | ⟨g, cap, cur, hv, hb, hg, rest⟩
  · exact .inl h2
  · exact .inr ⟨g, cap, cur, hv, hb, hf.keep g _ hg hk, rest⟩
/-- One more append onto a row that begins in new memory. -/
theorem RowT.grow {B : Nat} {w W : World} {v : Value} {l m : List Th} (hB : B = w.heap.size) (h : RowT W B v l) (hb : Below B w W) {A : Option Addr} {n c : Nat} (hm : Tgs W A m) (hn : m.length = n) (hA : A = none → c = 0) (hlen : l.length + n ≤ 1000000) :
    ∃ v' W', (Builtin.append_ #[27, 27] 27 #[v, .slice A n c]).run Try.prog W = .ok v' W' ∧ RowT W' B v' (l ++ m) ∧ Below B w W' := by
  obtain ⟨i, hi, hz0, hz1, hz2⟩ := info_parts info37
  have hsz := hb.size
  subst hn
  cases A with
  | none =>
    have hl : m = [] := by
      cases m with
      | nil => rfl
      | cons c l => obtain ⟨b, off, hA, _⟩ := hm.2 (by simp); simp at hA
    subst hl
    rw [hA rfl]
    exact ⟨v, W, run_append_owned_none W B 27 27 37 i 3 Try.underlying27 hi v l.length _ h, by simpa using h, hb⟩
  | some ad =>
    have hml : l.length + m.length ≤ maxLen := by unfold maxLen; omega
    obtain ⟨v', w', hr, ho, hg, _⟩ := run_append_own (P := Try.prog) W B 27 27 37 i (.agg #[.string ⟨#[]⟩, .int .i64 0, .int .i64 0]) 3 32 Try.underlying27 hi hz0 hz1 hz2 rfl (by decide) v l.length (thVals l) h ad m.length c (thVals m) (thVals_length m) (news_ths hm) (thVals_one m) hml (by omega) (by omega)
    refine ⟨v', w', hr, ?_, hb.grown hg (by omega) (fun k hk => (World.ownsRow.lt h k hk).1)⟩
    unfold RowT
    rw [List.length_append, thVals_append]
    exact ho
theorem RowT.empty (w : World) : RowT (w.alloc (.cells #[] 37)) w.heap.size (.slice (some ⟨w.heap.size, 0, none⟩) 0 0) [] :=
  ⟨rfl, .inr ⟨w.heap.size, 0, #[], rfl, Nat.le_refl _, heap_new _ _, Nat.le_refl _, Nat.zero_le _, rfl, rfl⟩⟩
theorem RowT.one (w : World) (t : Th) : RowT (w.alloc (.cells #[.string t.k, .int .i64 t.s, .int .i64 t.n] 37)) w.heap.size (.slice (some ⟨w.heap.size, 0, none⟩) 1 1) [t] :=
  ⟨rfl, .inr ⟨w.heap.size, 1, #[.string t.k, .int .i64 t.s, .int .i64 t.n], rfl, Nat.le_refl _, heap_new _ _, Nat.le_refl _, by unfold maxLen; omega, rfl, by simp [thVals]⟩⟩

/-- The document's cache lies in block h. -/
def RBox (w : World) (h : Nat) (v : Value) (room kept : Int) : Prop := w.heap[h]? = some (.cells #[v, .int .i64 room, .int .i64 kept] 29 (0, 0))
section
variable {w : World} {h : Nat} {v : Value} {room kept : Int}
theorem RBox.lt (r : RBox w h v room kept) : h < w.heap.size := (Array.getElem?_eq_some_iff.mp r).1
theorem RBox.c0 (r : RBox w h v room kept) : w.cell? ⟨h, 0, none⟩ = some v := by simp [World.cell?, show w.heap[h]? = _ from r]
theorem RBox.c1 (r : RBox w h v room kept) : w.cell? ⟨h, 1, none⟩ = some (.int .i64 room) := by simp [World.cell?, show w.heap[h]? = _ from r]
theorem RBox.c2 (r : RBox w h v room kept) : w.cell? ⟨h, 2, none⟩ = some (.int .i64 kept) := by simp [World.cell?, show w.heap[h]? = _ from r]
theorem RBox.frozen (r : RBox w h v room kept) (o : Nat) : w.frozen? ⟨h, o, none⟩ = false := by simp [World.frozen?, show w.heap[h]? = _ from r]
theorem RBox.set0 (r : RBox w h v room kept) (u : Value) : RBox (w.setCell ⟨h, 0, none⟩ u) h u room kept := by
  unfold RBox at r ⊢
  simp [World.setCell, Array.getElem?_modify, r]
theorem RBox.set2 (r : RBox w h v room kept) (x : Int) : RBox (w.setCell ⟨h, 2, none⟩ (.int .i64 x)) h v room x := by
  unfold RBox at r ⊢
  simp [World.setCell, Array.getElem?_modify, r]
end
/-- The kinds of the document's blocks. -/
def rK : List Nat := [29]
def rL : List Nat := [29, 37]
def RefAt (w : World) (base h : Nat) (L : List Th) (room kept : Int) : Prop := base ≤ h ∧ L.length ≤ 100000 ∧ ∃ v, RBox w h v room kept ∧ RowT w base v L
theorem RefAt.keep {w w' : World} {base h : Nat} {L : List Th} {room kept : Int} (r : RefAt w base h L room kept) {l : List Nat} {base' : Nat} (hf : Fr l base' w w') (hl : ∀ x ∈ rL, x ∉ l) : RefAt w' base h L room kept := by
  obtain ⟨h1, h2, v, h3, h4⟩ := r
  exact ⟨h1, h2, v, hf.keep h _ h3 (hl _ (by simp [rL, kd])), h4.fr hf (hl _ (by simp [rL]))⟩
theorem RefAt.below {w w' : World} {base h : Nat} {L : List Th} {room kept : Int} (r : RefAt w base h L room kept) (hf : Below w.heap.size w w') : RefAt w' base h L room kept := r.keep (l := []) (base' := w.heap.size) (Fr.of_below hf (Nat.le_refl _)) (by simp)
theorem RefAt.parts {w : World} {base h : Nat} {L : List Th} {room kept : Int} (r : RefAt w base h L room kept) : ∃ A c, RBox w h (.slice A L.length c) room kept ∧ Tgs w A L ∧ L.length ≤ c ∧ (A = none → c = 0) ∧ L.length ≤ 100000 := by
  obtain ⟨h1, h2, v, h3, h4⟩ := r
  obtain ⟨A, c, rfl, h5, h6, h7⟩ := h4.tgs (by unfold maxLen; omega)
  exact ⟨A, c, h3, h5, h6, h7, h2⟩
end Go.Proofs.Ytmhpngfkipooiaa
