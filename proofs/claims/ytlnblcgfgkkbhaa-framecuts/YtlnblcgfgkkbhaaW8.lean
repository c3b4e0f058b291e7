/-
  A row of slices of bytes of the call's own, that grows by append. Its conditions: it fits memory.
-/
import Derived.Test.YtlnblcgfgkkbhaaW7
namespace Go.Proofs.Ytlnblcgfgkkbhaa
open Go.RowKit

theorem info22 : (Try.prog.info? 22).map (fun i => (i.zero, i.size, i.bytes)) = some (some (.slice none 0 0), 1, 24) := by kernel_rfl
theorem info22p : ∃ i, Try.prog.info? 22 = some i ∧ i.zero = some (.slice none 0 0) ∧ i.size = 1 ∧ i.bytes = 24 := info_parts info22
/-- append of one slice onto a row of slices of the call's own. -/
theorem append_row {w : World} {v : Value} {n : Nat} {xs : List Value} (hown : w.ownsRow 0 22 1 v n xs) {ad : Addr} {u : Value} {c : Nat} (hu : w.cell? ad = some u) (hsp : ad.spot = none) (hu1 : u.oneCell' = true) (hm : n + 1 ≤ 9000000000000) (ty : TypeId) :
    ∃ v' w', (Builtin.append_ #[30, 30] ty #[v, .slice (some ad) 1 c]).run Try.prog w = .ok v' w' ∧ w'.ownsRow 0 22 1 v' (n + 1) (xs ++ [u]) ∧ w.grownBy w' v.ownBlock ∧
      (∀ k, v'.ownBlock = some k → v.ownBlock = some k ∨ w.heap.size ≤ k) := by
  obtain ⟨i, hi, hz0, hz1, hz2⟩ := info22p
  have hnews : ∀ j x, [u][j]? = some x → w.cell? (ad.add j) = some x := by
    intro j x hx
    match j with
    | 0 =>
      simp at hx
      subst hx
      obtain ⟨b, off, spot⟩ := ad
      simp at hsp
      subst hsp
      rw [addr_add]
      exact hu
    | j + 1 => simp at hx
  have h1 : ∀ x ∈ [u], x.oneCell' = true := by simpa using hu1
  have hml : n + 1 ≤ maxLen := by unfold maxLen; omega
  obtain ⟨v', w', hr, ho, hg, _⟩ := run_append_own_wide (P := Try.prog) w 0 30 ty 22 i (.slice none 0 0) 1 24 Try.underlying30 hi hz0 hz1 hz2 rfl (by omega) v n xs hown ad 1 c [u] rfl hnews h1 hml (by omega) (Nat.zero_le _)
  refine ⟨v', w', hr, ho, hg, fun k hk => ?_⟩
  rcases hown.2 with ⟨rfl, hl0⟩ | ⟨g, cap, cur, rfl, _, hgg, hnc, hcm, hcs, htake⟩
  · obtain ⟨v2, w2, hr2, ho2, _, _⟩ := run_append_own_wide (P := Try.prog) w w.heap.size 30 ty 22 i (.slice none 0 0) 1 24 Try.underlying30 hi hz0 hz1 hz2 rfl (by omega) (.slice none 0 0) n xs ⟨hown.1, .inl ⟨rfl, hl0⟩⟩ ad 1 c [u] rfl hnews h1 hml (by omega) (Nat.le_refl _)
    rw [hr] at hr2
    injection hr2 with e1 e2
    subst e1 e2
    exact .inr (ho2.lt k hk).1
  · by_cases hroom : n + 1 ≤ cap
    · have hr2 := run_append_room (P := Try.prog) w 30 ty 22 i Try.underlying30 hi g n cap cur hgg ad 1 c [u] (by rw [hz1]; rfl) hnews h1 hroom (by rw [hz1, hcs]; simp; omega)
      rw [hr] at hr2
      injection hr2 with e1 e2
      subst e1
      exact .inl (by simpa [Value.ownBlock] using hk)
    · have hr2 := run_append_grow (P := Try.prog) w 30 ty 22 i (.slice none 0 0) Try.underlying30 hi hz0 ⟨g, 0, none⟩ n cap xs (by rw [hz1]; exact hown.1) (hown.cells (g := g) rfl) ad 1 c [u] (by rw [hz1]; rfl) hnews (by omega) (by omega) (by rw [hz2]; exact growslice_fits_wide (by omega) (by omega))
      rw [hr] at hr2
      injection hr2 with e1 e2
      subst e1
      refine .inr ?_
      simp [Value.ownBlock] at hk
      omega

/-- v is a slice of the call's own, made since w0, of slices that read as ps. -/
structure OwnP (w0 w : World) (ps : List (List Nat)) (v : Value) : Prop where
  row : ∃ xs, w.ownsRow 0 22 1 v ps.length xs ∧ ∀ (k : Nat) (p : List Nat), ps[k]? = some p → ∃ a c, xs[k]? = some (.slice a p.length c) ∧ Bytes w a p ∧ (a = none → c = 0) ∧ ∀ ad, a = some ad → 0 < p.length → v.ownBlock ≠ some ad.block
  new : ∀ q, v.ownBlock = some q → w0.heap.size ≤ q
  bel : Below w0.heap.size w0 w
theorem OwnP.form {w0 w : World} {ps : List (List Nat)} {v : Value} (h : OwnP w0 w ps v) : ∃ A c, v = .slice A ps.length c := by
  obtain ⟨xs, h1, _⟩ := h.row
  exact owns_form h1
theorem OwnP.lt {w0 w : World} {ps : List (List Nat)} {v : Value} (h : OwnP w0 w ps v) : ∀ q, v.ownBlock = some q → q < w.heap.size := by
  obtain ⟨xs, h1, _⟩ := h.row
  exact fun q hq => (h1.lt q hq).2
theorem OwnP.nil (w0 w : World) (h : Below w0.heap.size w0 w) : OwnP w0 w [] (.slice none 0 0) :=
  ⟨⟨[], ⟨rfl, .inl ⟨rfl, rfl⟩⟩, fun k p hk => by simp at hk⟩, fun q hq => by simp [Value.ownBlock] at hq, h⟩
theorem OwnP.empty (w0 w : World) (h : Below w0.heap.size w0 w) : OwnP w0 (w.alloc (.cells #[] 22)) [] (.slice (some ⟨w.heap.size, 0, none⟩) 0 0) :=
  ⟨⟨[], ⟨rfl, .inr ⟨w.heap.size, 0, #[], rfl, Nat.zero_le _, heap_new _ _, Nat.le_refl _, Nat.zero_le _, rfl, rfl⟩⟩, fun k p hk => by simp at hk⟩, fun q hq => by simp [Value.ownBlock] at hq; have := h.size; omega, h.alloc h.size _⟩
theorem OwnP.keep {w0 w w' : World} {ps : List (List Nat)} {v : Value} (h : OwnP w0 w ps v) (hb : Below w.heap.size w w') : OwnP w0 w' ps v := by
  obtain ⟨⟨xs, h1, h2⟩, h3, h4⟩ := h
  refine ⟨⟨xs, ⟨h1.1, ?_⟩, fun k p hk => ?_⟩, h3, h4.trans (hb.mono h4.size)⟩
  · rcases h1.2 with hn | ⟨k, cap, cur, hv, hbb, hkk, rest⟩
    · exact .inl hn
    · refine .inr ⟨k, cap, cur, hv, hbb, ?_, rest⟩
      rw [hb.block k (Array.getElem?_eq_some_iff.mp hkk).1]
      exact hkk
  · obtain ⟨a, c, e1, e2, e3, e4⟩ := h2 k p hk
    exact ⟨a, c, e1, e2.below hb, e3, e4⟩
theorem OwnP.parts {w0 w : World} {ps : List (List Nat)} {A : Option Addr} {n c : Nat} (h : OwnP w0 w ps (.slice A n c)) : Parts w A ps ∧ ps.length ≤ c ∧ n = ps.length := by
  obtain ⟨xs, h1, h2⟩ := h.row
  obtain ⟨A', c', e⟩ := owns_form h1
  injection e with e1 e2 e3
  subst e1 e2 e3
  refine ⟨fun hp => ?_, ?_, rfl⟩
  · rcases h1.2 with ⟨hv, hz⟩ | ⟨g, cap, cur, hv, hg, hb, _⟩
    · omega
    · injection hv with hA _ _
      subst hA
      refine ⟨g, 0, rfl, (Array.getElem?_eq_some_iff.mp hb).1, fun k p hk => ?_⟩
      obtain ⟨a, d, e1, e2, e3, _⟩ := h2 k p hk
      have := h1.cells (g := g) rfl k _ e1
      rw [addr_add] at this
      exact ⟨a, d, this, e2, e3⟩
  · rcases h1.2 with ⟨hv, hz⟩ | ⟨g, cap, cur, hv, hg, hb, hn, _⟩
    · omega
    · injection hv with _ _ hc
      omega
theorem OwnP.append {w0 w : World} {ps : List (List Nat)} {v : Value} (h : OwnP w0 w ps v) {a : Option Addr} {p : List Nat} {c n : Nat} (hn : n = p.length) (hb : Bytes w a p) (ha : a = none → c = 0) (hm : ps.length + 1 ≤ 9000000000000)
    (hne : ∀ ad, a = some ad → 0 < p.length → v.ownBlock ≠ some ad.block) (ty : TypeId) :
    ∃ v' w', (Builtin.append_ #[30, 30] ty #[v, .slice (some ⟨w.heap.size, 0, none⟩) 1 1]).run Try.prog (w.alloc (.cells #[.slice a n c] 22)) = .ok v' w' ∧ OwnP w0 w' (ps ++ [p]) v' ∧ w.grownBy w' v.ownBlock := by
  subst hn
  have hbel : Below w.heap.size w (w.alloc (.cells #[.slice a p.length c] 22)) := (Below.refl _ _).alloc (Nat.le_refl _) _
  have h' := h.keep hbel
  obtain ⟨xs, h1, h2⟩ := h'.row
  obtain ⟨v', w', hr, ho, hg, hk⟩ := append_row h1 (ad := ⟨w.heap.size, 0, none⟩) (u := .slice a p.length c) (c := 1) (by rw [World.cell?_alloc_at _ _ _ _ rfl]; rfl) rfl rfl hm ty
  have hlt := h.lt
  have stay : ∀ (q : List Nat) (b : Option Addr), Bytes w b q → (∀ ad, b = some ad → 0 < q.length → v.ownBlock ≠ some ad.block) → Bytes w' b q ∧ ∀ ad, b = some ad → 0 < q.length → v'.ownBlock ≠ some ad.block := by
    intro q b hq hnq
    by_cases hz : 0 < q.length
    · obtain ⟨bb, off, rfl, hbl, _⟩ := hq.2.2 hz
      refine ⟨(hq.below hbel).keep hg.size fun ad had hl => ?_, fun ad had _ e => ?_⟩
      · exact hg.block _ hl (fun e => hnq ad had hz e.symm)
      · injection had with had
        subst had
        rcases hk _ e with e | e
        · exact hnq _ rfl hz e
        · simp at e
          omega
    · have : q = [] := List.eq_nil_of_length_eq_zero (by omega)
      subst this
      exact ⟨Bytes.nil _ _, fun _ _ h => absurd h (by simp)⟩
  have hg0 : w.grownBy w' v.ownBlock := by
    refine ⟨hg.os, hg.tape, hg.output, Nat.le_trans hbel.size hg.size, fun k hk hne => ?_⟩
    rw [hg.block k (Nat.lt_of_lt_of_le hk hbel.size) hne]
    exact hbel.block k hk
  refine ⟨v', w', hr, ⟨⟨xs ++ [.slice a p.length c], by rw [List.length_append]; exact ho, fun k q hkq => ?_⟩, fun q hq => ?_, h.bel.grown hg0 h.bel.size (fun k hk => h.new k hk)⟩, hg0⟩
  · have hxl : xs.length = ps.length := by have := h1.1; omega
    by_cases hlk : k < ps.length
    · rw [List.getElem?_append_left hlk] at hkq
      obtain ⟨xs0, g1, g2⟩ := h.row
      obtain ⟨b, d, e1, e2, e3, e4⟩ := h2 k q hkq
      obtain ⟨b', d', f1, f2, f3, f4⟩ := g2 k q hkq
      have hex : xs0 = xs := by
        rcases h1.2 with ⟨hv, hz⟩ | ⟨g, cap, cur, hv, _, hb1, _, _, _, ht⟩
        · have e1 := h1.1
          have e2 := g1.1
          rw [hz] at e1 e2
          exact (show xs0 = [] from List.eq_nil_of_length_eq_zero (by simpa using e2)).trans (show xs = [] from List.eq_nil_of_length_eq_zero (by simpa using e1)).symm
        · rcases g1.2 with ⟨hv', _⟩ | ⟨g', cap', cur', hv', _, hb2, _, _, _, ht'⟩
          · rw [hv] at hv'
            cases hv'
          · rw [hv] at hv'
            injection hv' with hA _ _
            injection hA with hA
            injection hA with hA _ _
            subst hA
            rw [hbel.block g (h.lt g (by rw [hv]; rfl))] at hb1
            rw [hb1] at hb2
            injection hb2 with hb2
            injection hb2 with hb2 _ _
            rw [← ht, ← ht', hb2]
      subst hex
      rw [e1] at f1
      injection f1 with f1
      injection f1 with f1 _ f3'
      subst f1 f3'
      obtain ⟨s1, s2⟩ := stay q b f2 f4
      exact ⟨b, d, by rw [List.getElem?_append_left (by omega)]; exact e1, s1, f3, s2⟩
    · rw [List.getElem?_append_right (by omega)] at hkq
      have hk0 : k - ps.length = 0 := by
        have := (List.getElem?_eq_some_iff.mp hkq).1
        simp at this
        omega
      rw [hk0] at hkq
      simp at hkq
      subst hkq
      obtain ⟨s1, s2⟩ := stay p a hb hne
      exact ⟨a, c, by rw [List.getElem?_append_right (by omega), hxl, hk0]; rfl, s1, ha, s2⟩
  · rcases hk q hq with e | e
    · exact h.new q e
    · have := h.bel.size
      have := hbel.size
      omega
end Go.Proofs.Ytlnblcgfgkkbhaa
