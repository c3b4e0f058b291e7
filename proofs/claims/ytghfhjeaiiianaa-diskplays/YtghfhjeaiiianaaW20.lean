/-
  The contract of the document's Write. Its conditions: its disk lies in memory, its steps and its pending writes are below a bound.
-/
import Derived.Test.YtghfhjeaiiianaaW19
namespace Go.Proofs.Ytghfhjeaiiianaa
open Go.RowKit
open Go.Sort (grow)

section
variable {α : Type} {E : Enc α} {t e : TypeId} {w W w' : World} {base : Nat} {v u : Value} {l m : List α}
/-- An append onto a row: the row it makes lies where the row lay, or in new memory. -/
theorem RowT.app_own (hE : El E t e) (h : RowT E e W base v l) (hbs : base ≤ W.heap.size) {A : Option Addr} {n c : Nat} (hm : Sl E W A m) (hn : m.length = n) (hA : A = none → c = 0) (hlen : l.length + n ≤ 1000000) :
    ∃ v' W', (Builtin.append_ #[t, t] t #[v, .slice A n c]).run Try.prog W = .ok v' W' ∧ RowT E e W' base v' (l ++ m) ∧ W.grownBy W' v.ownBlock ∧ (∀ k, v'.ownBlock = some k → v.ownBlock = some k ∨ W.heap.size ≤ k) := by
  obtain ⟨v', W', hr, ho, hg⟩ := h.app hE hbs hm hn hA hlen
  refine ⟨v', W', hr, ho, hg, fun k hk => ?_⟩
  rcases h.2 with ⟨rfl, hn0⟩ | ⟨g, cap, cur, rfl, _, hgg, hnc, hcm, hcs, htake⟩
  · have hl0 : l = [] := List.eq_nil_of_length_eq_zero hn0
    subst hl0
    obtain ⟨v2, W2, hr2, ho2, _⟩ := (RowT.nil (E := E) (e := e) (base := W.heap.size) W).app hE (Nat.le_refl _) hm hn hA hlen
    rw [hr] at hr2
    injection hr2 with e1 e2
    subst e1 e2
    exact .inr (ho2.own hk).1
  · obtain ⟨z, by_, hinf, hzs, hby⟩ := hE.info
    obtain ⟨i, hi, hz0, hz1, hz2⟩ := info_parts hinf
    subst hn
    cases A with
    | none =>
      have hl : m = [] := by
        cases m with
        | nil => rfl
        | cons c l => obtain ⟨b, off, hA, _⟩ := hm.2 (by simp); simp at hA
      subst hl
      rw [hA rfl] at hr
      have hr2 := run_append_owned_none W base t t e i E.wd hE.und hi (.slice (some ⟨g, 0, none⟩) l.length cap) l.length _ h
      rw [show ([] : List α).length = 0 from rfl, hr2] at hr
      injection hr with e1 e2
      subst e1
      exact .inl hk
    | some ad =>
      by_cases hroom : l.length + m.length ≤ cap
      · have hr2 := run_append_room (P := Try.prog) W t t e i hE.und hi g l.length cap cur hgg ad m.length c (E.vals m) (by rw [E.vals_length, hz1]) hm.news (E.vals_one m) hroom (by
          rw [E.vals_length, hz1, hcs, ← Nat.add_mul]
          exact Nat.mul_le_mul_right _ hroom)
        rw [hr] at hr2
        injection hr2 with e1 e2
        subst e1
        exact .inl (by simpa [Value.ownBlock] using hk)
      · have hr2 := run_append_grow (P := Try.prog) W t t e i z hE.und hi hz0 ⟨g, 0, none⟩ l.length cap (E.vals l) (by rw [hz1]; exact h.1) (h.cells (g := g) rfl) ad m.length c (E.vals m) (by rw [E.vals_length, hz1]) hm.news (by omega) (by omega) (by rw [hz2]; exact growslice_fits (by omega) (Nat.le_trans (Nat.mul_le_mul hlen hby) (by omega)))
        rw [hr] at hr2
        injection hr2 with e1 e2
        subst e1
        refine .inr ?_
        simp [Value.ownBlock] at hk
        omega
theorem Apart.of (h : Apart v u) (hk : ∀ k, u.ownBlock = some k → k < W.heap.size) {v' : Value} (ho : ∀ k, v'.ownBlock = some k → v.ownBlock = some k ∨ W.heap.size ≤ k) : Apart v' u := fun k hk' he => by
  rcases ho k hk' with h1 | h1
  · exact h k h1 he
  · have := hk k he
    omega
theorem RowT.lt (h : RowT E e W base v l) : ∀ k, v.ownBlock = some k → k < W.heap.size := fun k hk => by
  obtain ⟨_, cs, hc⟩ := h.own hk
  exact lt_of_heap hc
/-- A row, past a step that writes a block of its own. -/
theorem RowT.past (h : RowT E e W base v l) (hg : W.grownBy w' (u.ownBlock)) (hap : Apart v u) : RowT E e w' base v l := by
  refine ⟨h.1, ?_⟩
  rcases h.2 with h2 | ⟨g, cap, cur, rfl, hb, hgg, rest⟩
  · exact .inl h2
  · refine .inr ⟨g, cap, cur, rfl, hb, ?_, rest⟩
    rw [hg.block g (lt_of_heap hgg) (fun he => hap g (by simp [Value.ownBlock]) he.symm)]
    exact hgg
end
/-- What the document's Write does to memory. -/
theorem rput_mem {w : World} {base h : Nat} {kv av wv : Value} {A1 : Option Addr} {k1 : Nat} {fuse steps : Int} {down : Bool} {K : List Sec} {ps : List Pw} {k : Nat} (x : Sec)
    (b : RBox w h kv (.slice A1 K.length k1) av wv fuse down steps) (r : Rows3 w base kv (.slice A1 K.length k1) av wv K (seen K ps) ps) (hbh : base ≤ h) (hk : k < K.length) (hK : K.length ≤ 4096) (hp : ps.length ≤ 100000) :
    ∃ av' w3 wv' w6 g1, A1 = some ⟨g1, 0, none⟩ ∧ (Builtin.append_ #[45, 45] 45 #[av, .slice (some ⟨w.heap.size, 0, none⟩) 1 1]).run Try.prog (w.alloc (.cells #[.int .i64 (k : Int)] 3)) = .ok av' w3 ∧
      (Builtin.append_ #[44, 44] 44 #[wv, .slice (some ⟨w3.heap.size, 0, none⟩) 1 1]).run Try.prog ((w3.setCell ⟨h, 2, none⟩ av').alloc (.cells #[.string (tx x)] 9)) = .ok wv' w6 ∧
      w3.frozen? ⟨h, 2, none⟩ = false ∧ w3.cell? ⟨h, 2, none⟩ = some av ∧ (w3.setCell ⟨h, 2, none⟩ av').cell? ⟨h, 3, none⟩ = some wv ∧ w6.cell? ⟨h, 3, none⟩ = some wv ∧ w6.frozen? ⟨h, 3, none⟩ = false ∧
      (w6.setCell ⟨h, 3, none⟩ wv').cell? ⟨h, 1, none⟩ = some (.slice (some ⟨g1, 0, none⟩) K.length k1) ∧ (w6.setCell ⟨h, 3, none⟩ wv').cell? ⟨g1, k, none⟩ = some (.string (tx (at_ (seen K ps) k))) ∧ (w6.setCell ⟨h, 3, none⟩ wv').frozen? ⟨g1, k, none⟩ = false ∧
      RBox ((w6.setCell ⟨h, 3, none⟩ wv').setCell ⟨g1, k, none⟩ (.string (tx x))) h kv (.slice (some ⟨g1, 0, none⟩) K.length k1) av' wv' fuse down steps ∧
      Rows3 ((w6.setCell ⟨h, 3, none⟩ wv').setCell ⟨g1, k, none⟩ (.string (tx x))) base kv (.slice (some ⟨g1, 0, none⟩) K.length k1) av' wv' K (seen K (ps ++ [⟨k, x⟩])) (ps ++ [⟨k, x⟩]) ∧
      Fr kR [] base w ((w6.setCell ⟨h, 3, none⟩ wv').setCell ⟨g1, k, none⟩ (.string (tx x))) := by
  have hks : k < (seen K ps).length := by rw [seen_length]; exact hk
  have hbl : base ≤ w.heap.size := by have := b.lt; omega
  obtain ⟨g1, hg1⟩ : ∃ g1, A1 = some ⟨g1, 0, none⟩ := by
    rcases r.s.2 with ⟨hv, hn⟩ | ⟨g, cap, cur, hv, _⟩
    · rw [List.length_map] at hn
      omega
    · simp only [Value.slice.injEq] at hv
      exact ⟨g, hv.1⟩
  subst hg1
  have b2 : Below w.heap.size w (w.alloc (.cells #[.int .i64 (k : Int)] 3)) := Below.alloc (Below.refl _ _) (Nat.le_refl _) _
  have r2 := r.below b2
  have x2 := b.below b2
  have hb2 : base ≤ (w.alloc (.cells #[.int .i64 (k : Int)] 3)).heap.size := Nat.le_trans hbl b2.size
  obtain ⟨av', w3, hr3, ra3, g3, _⟩ := r2.a.app_own el45 hb2 (sl_one (E := eIn) w k 3) (n := 1) (c := 1) rfl (fun h => by cases h) (by rw [List.length_map]; omega)
  have f3 := r2.a.fr_app g3 hb2
  have rk3 := r2.k.fr f3 (by simp) (by simp)
  have rs3 := r2.s.fr f3 (by simp) (by simp)
  have rw3 := r2.w.fr f3 (by simp) (by simp)
  have x3 : RBox w3 h kv (.slice (some ⟨g1, 0, none⟩) K.length k1) av wv fuse down steps := f3.keep h _ x2 (by simp [kd]) (by simp)
  have f4 : Fr [47] [] base w3 (w3.setCell ⟨h, 2, none⟩ av') := (Fr.refl _ _ _ _).set x3 (.inl (by simp [kd])) hbh _
  have x4 := x3.set2 av'
  have rk4 := rk3.fr f4 (by simp) (by simp)
  have rs4 := rs3.fr f4 (by simp) (by simp)
  have rw4 := rw3.fr f4 (by simp) (by simp)
  have ra4 := ra3.fr f4 (by simp) (by simp)
  generalize hw4 : w3.setCell ⟨h, 2, none⟩ av' = w4 at *
  have b5 : Below w4.heap.size w4 (w4.alloc (.cells #[.string (tx x)] 9)) := Below.alloc (Below.refl _ _) (Nat.le_refl _) _
  have hbl4 : base ≤ w4.heap.size := Nat.le_trans (Nat.le_trans hb2 f3.size) f4.size
  have hb5 : base ≤ (w4.alloc (.cells #[.string (tx x)] 9)).heap.size := Nat.le_trans hbl4 b5.size
  have rw5 := rw4.below b5
  have rk5 := rk4.below b5
  have rs5 := rs4.below b5
  have ra5 := ra4.below b5
  have x5 := x4.below b5
  obtain ⟨wv', w6, hr6, rw6, g6, o6⟩ := rw5.app_own el44 hb5 (sl_one (E := eKy) w4 (tx x) 9) (n := 1) (c := 1) rfl (fun h => by cases h) (by rw [List.length_map]; omega)
  have f6 := rw5.fr_app g6 hb5
  have ak : Apart kv wv' := (Apart.of r.kw.symm rk5.lt o6).symm
  have as_ : Apart (.slice (some ⟨g1, 0, none⟩) K.length k1) wv' := (Apart.of r.sw.symm rs5.lt o6).symm
  have rk6 := rk5.past g6 r.kw
  have rs6 := rs5.past g6 r.sw
  have ra6 := ra5.fr f6 (by simp) (by simp)
  have x6 : RBox w6 h kv (.slice (some ⟨g1, 0, none⟩) K.length k1) av' wv fuse down steps := f6.keep h _ x5 (by simp [kd]) (by simp)
  have f7 : Fr [47] [] base w6 (w6.setCell ⟨h, 3, none⟩ wv') := (Fr.refl _ _ _ _).set x6 (.inl (by simp [kd])) hbh _
  have x7 := x6.set3 wv'
  have rk7 := rk6.fr f7 (by simp) (by simp)
  have rs7 := rs6.fr f7 (by simp) (by simp)
  have rw7 := rw6.fr f7 (by simp) (by simp)
  have ra7 := ra6.fr f7 (by simp) (by simp)
  obtain ⟨rs8, g8, z8⟩ := rs7.set k (tx x)
  have f8 := rs7.fr_app g8 (by have := f7.size; have := f6.size; omega)
  have rk8 := rk7.past g8 r.ks
  have rw8 := rw7.past g8 as_.symm
  have ra8 := ra7.fr f8 (by simp) (by simp)
  obtain ⟨b9, o9, e9, _, d9⟩ := at_ky (by obtain ⟨A, c, hA, hS, _⟩ := rs7.sl (by rw [List.length_map, seen_length]; unfold maxLen; omega); simp only [Value.slice.injEq] at hA; rw [← hA.1] at hS; exact hS) (k := k) (by rw [List.length_map]; exact hks)
  simp only [Option.some.injEq, Addr.mk.injEq, and_true] at e9
  rw [← e9.1, ← e9.2, Nat.zero_add] at d9
  have e3 : ((seen K ps).map tx)[k]'(by rw [List.length_map]; exact hks) = tx (at_ (seen K ps) k) := by
    have := at_get hks
    rw [List.getElem?_eq_getElem hks] at this
    simp only [List.getElem_map]
    rw [Option.some.inj this]
  rw [e3] at d9
  refine ⟨av', w3, wv', w6, g1, rfl, hr3, ?_, x3.frozen 2, x3.c2, ?_, x6.c3, x6.frozen 3, x7.c1, d9, z8, f8.keep h _ x7 (by simp [kd]) (by simp), ⟨rk8, ?_, ?_, ?_, r.ks, ak, as_⟩, ?_⟩
  · have e : w3.heap.size = w4.heap.size := by rw [← hw4]; simp [World.setCell]
    rw [hw4, e]
    exact hr6
  · rw [hw4]
    exact x4.c3
  · rw [seen_snoc, List.map_set]
    exact rs8
  · rw [List.map_append]
    exact ra8
  · rw [List.map_append]
    exact rw8
  · exact ((((((Fr.of_below b2 hbl).trans (f3.mono (l' := kR) (ms' := []) (by simp) (by simp))).trans (f4.mono (by simp) (by simp))).trans (Fr.of_below b5 hbl4)).trans (f6.mono (by simp) (by simp))).trans (f7.mono (by simp) (by simp))).trans (f8.mono (by simp) (by simp))
end Go.Proofs.Ytghfhjeaiiianaa
