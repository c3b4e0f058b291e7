/-
  Three rows of the call's own, side by side: bytes, numbers, slices of bytes; each grows by append. Its conditions: they fit memory.
-/
import Derived.Test.YtlnblcgfgkkbhaaW15
namespace Go.Proofs.Ytlnblcgfgkkbhaa
open Go.RowKit

theorem info3 : (Try.prog.info? 3).map (fun i => (i.zero, i.size, i.bytes)) = some (some (.int .i64 0), 1, 8) := by kernel_rfl
theorem info3p : ∃ i, Try.prog.info? 3 = some i ∧ i.zero = some (.int .i64 0) ∧ i.size = 1 ∧ i.bytes = 8 := info_parts info3
/-- append onto a row of the call's own, of elements of one cell: it grows in place, or lies in a new block. -/
theorem append_gen {w : World} {v : Value} {n : Nat} {xs : List Value} (t e ty : TypeId) (i : TypeInfo) (z : Value) (by_ : Nat) (ht : Try.prog.underlying t = some (.slice e)) (hi : Try.prog.info? e = some i) (hz0 : i.zero = some z) (hz1 : i.size = 1) (hz2 : i.bytes = by_) (hzc : z.cells.size = 1)
    (hown : w.ownsRow 0 e 1 v n xs) (ad : Addr) (m c : Nat) (news : List Value) (hl : news.length = m) (hnews : ∀ j u, news[j]? = some u → w.cell? (ad.add j) = some u) (h1 : ∀ u ∈ news, u.oneCell' = true) (hml : n + m ≤ maxLen) (hb : ((n + m) + (n + m) / 4 + 192) * by_ ≤ 281474976710656) :
    ∃ v' w', (Builtin.append_ #[t, t] ty #[v, .slice (some ad) m c]).run Try.prog w = .ok v' w' ∧ w'.ownsRow 0 e 1 v' (n + m) (xs ++ news) ∧ w.grownBy w' v.ownBlock ∧
      (∀ k, v'.ownBlock = some k → v.ownBlock = some k ∨ w.heap.size ≤ k) := by
  have hlm : news.length = m * 1 := by omega
  obtain ⟨v', w', hr, ho, hg, _⟩ := run_append_own_wide (P := Try.prog) w 0 t ty e i z 1 by_ ht hi hz0 hz1 hz2 hzc (by omega) v n xs hown ad m c news hlm hnews h1 hml hb (Nat.zero_le _)
  refine ⟨v', w', hr, ho, hg, fun k hk => ?_⟩
  rcases hown.2 with ⟨rfl, hl0⟩ | ⟨g, cap, cur, rfl, _, hgg, hnc, hcm, hcs, htake⟩
  · obtain ⟨v2, w2, hr2, ho2, _, _⟩ := run_append_own_wide (P := Try.prog) w w.heap.size t ty e i z 1 by_ ht hi hz0 hz1 hz2 hzc (by omega) (.slice none 0 0) n xs ⟨hown.1, .inl ⟨rfl, hl0⟩⟩ ad m c news hlm hnews h1 hml hb (Nat.le_refl _)
    rw [hr] at hr2
    injection hr2 with e1 e2
    subst e1 e2
    exact .inr (ho2.lt k hk).1
  · by_cases hroom : n + m ≤ cap
    · have hr2 := run_append_room (P := Try.prog) w t ty e i ht hi g n cap cur hgg ad m c news (by rw [hz1]; exact hlm) hnews h1 hroom (by rw [hz1, hcs, hl]; omega)
      rw [hr] at hr2
      injection hr2 with e1 e2
      subst e1
      exact .inl (by simpa [Value.ownBlock] using hk)
    · unfold maxLen at hml
      have hr2 := run_append_grow (P := Try.prog) w t ty e i z ht hi hz0 ⟨g, 0, none⟩ n cap xs (by rw [hz1]; exact hown.1) (hown.cells (g := g) rfl) ad m c news (by rw [hz1]; exact hlm) hnews (by omega) (by omega) (by rw [hz2]; exact growslice_fits_wide (by omega) hb)
      rw [hr] at hr2
      injection hr2 with e1 e2
      subst e1
      refine .inr ?_
      simp [Value.ownBlock] at hk
      omega

def iVals (l : List Int) : List Value := l.map (Value.int .i64)
/-- Elements that read, in w0, as ps. -/
def Elems (w0 : World) (xs : List Value) (ps : List (List Nat)) : Prop := ∀ (k : Nat) (p : List Nat), ps[k]? = some p → ∃ a c, xs[k]? = some (.slice a p.length c) ∧ Bytes w0 a p ∧ (a = none → c = 0)
/-- The three rows. -/
structure Trio (w0 w : World) (LA : List Nat) (LE : List Int) (xs : List Value) (va ve vk : Value) : Prop where
  rowA : w.ownsRow 0 5 1 va LA.length (vals LA)
  rowE : w.ownsRow 0 3 1 ve LE.length (iVals LE)
  rowK : w.ownsRow 0 22 1 vk xs.length xs
  newA : ∀ q, va.ownBlock = some q → w0.heap.size ≤ q
  newE : ∀ q, ve.ownBlock = some q → w0.heap.size ≤ q
  newK : ∀ q, vk.ownBlock = some q → w0.heap.size ≤ q
  apAE : ∀ q, va.ownBlock = some q → ve.ownBlock ≠ some q
  apAK : ∀ q, va.ownBlock = some q → vk.ownBlock ≠ some q
  apEK : ∀ q, ve.ownBlock = some q → vk.ownBlock ≠ some q
  oct : ∀ c ∈ LA, c < 256
  bel : Below w0.heap.size w0 w
theorem owns_keep {w w' : World} {e : TypeId} {v : Value} {n : Nat} {xs : List Value} (h1 : w.ownsRow 0 e 1 v n xs) (hb : Below w.heap.size w w') : w'.ownsRow 0 e 1 v n xs := by
  refine ⟨h1.1, ?_⟩
  rcases h1.2 with hn | ⟨k, cap, cur, hv, hbb, hkk, rest⟩
  · exact .inl hn
  · refine .inr ⟨k, cap, cur, hv, hbb, ?_, rest⟩
    rw [hb.block k (Array.getElem?_eq_some_iff.mp hkk).1]
    exact hkk
theorem owns_stay {w w' : World} {e : TypeId} {v u : Value} {n : Nat} {xs : List Value} (h : w.ownsRow 0 e 1 v n xs) (hg : w.grownBy w' u.ownBlock) (hap : ∀ q, u.ownBlock = some q → v.ownBlock ≠ some q) : w'.ownsRow 0 e 1 v n xs := by
  refine h.kept hg ?_
  cases hv : v.ownBlock with
  | none => exact .inl rfl
  | some q =>
    refine .inr fun e => ?_
    exact hap q e.symm hv
theorem Trio.keep {w0 w w' : World} {LA : List Nat} {LE : List Int} {xs : List Value} {va ve vk : Value} (h : Trio w0 w LA LE xs va ve vk) (hb : Below w.heap.size w w') : Trio w0 w' LA LE xs va ve vk :=
  ⟨owns_keep h.rowA hb, owns_keep h.rowE hb, owns_keep h.rowK hb, h.newA, h.newE, h.newK, h.apAE, h.apAK, h.apEK, h.oct, h.bel.trans (hb.mono h.bel.size)⟩
/-- The new row's block is another than each other row's. -/
theorem apart_new {w : World} {e : TypeId} {u v v' : Value} {n : Nat} {xs : List Value} (hu : w.ownsRow 0 e 1 u n xs) (hk : ∀ k, v'.ownBlock = some k → v.ownBlock = some k ∨ w.heap.size ≤ k) (hap : ∀ q, v.ownBlock = some q → u.ownBlock ≠ some q) : ∀ q, v'.ownBlock = some q → u.ownBlock ≠ some q := by
  intro q hq e
  rcases hk q hq with h | h
  · exact hap q h e
  · have := (hu.lt q e).2
    omega
theorem ap_symm {u v : Value} (h : ∀ q, u.ownBlock = some q → v.ownBlock ≠ some q) : ∀ q, v.ownBlock = some q → u.ownBlock ≠ some q := fun q hv hu => h q hu hv
theorem new_of {w0 w : World} {v v' : Value} (hw : w0.heap.size ≤ w.heap.size) (hn : ∀ q, v.ownBlock = some q → w0.heap.size ≤ q) (hk : ∀ k, v'.ownBlock = some k → v.ownBlock = some k ∨ w.heap.size ≤ k) : ∀ q, v'.ownBlock = some q → w0.heap.size ≤ q := by
  intro q hq
  rcases hk q hq with h | h
  · exact hn q h
  · omega
theorem Trio.a {w0 w : World} {LA : List Nat} {LE : List Int} {xs : List Value} {va ve vk : Value} (h : Trio w0 w LA LE xs va ve vk) {ad : Addr} {l : List Nat} (c : Nat) (hb : Bytes w (some ad) l) (hm : LA.length + l.length ≤ 1000000) (ty : TypeId) :
    ∃ v' w', (Builtin.append_ #[22, 22] ty #[va, .slice (some ad) l.length c]).run Try.prog w = .ok v' w' ∧ Trio w0 w' (LA ++ l) LE xs v' ve vk := by
  obtain ⟨i, hi, hz0, hz1, hz2⟩ := info5p
  obtain ⟨v', w', hr, ho, hg, hk⟩ := append_gen 22 5 ty i _ 1 Try.underlying22 hi hz0 hz1 hz2 rfl h.rowA ad l.length c (vals l) (vals_length l) (news_of hb) (vals_one l) (by unfold maxLen; omega) (by omega)
  refine ⟨v', w', hr, ⟨by rw [List.length_append, vals_append]; exact ho, owns_stay h.rowE hg h.apAE, owns_stay h.rowK hg h.apAK, new_of h.bel.size h.newA hk, h.newE, h.newK, apart_new h.rowE hk h.apAE, apart_new h.rowK hk h.apAK, h.apEK, ?_, h.bel.grown hg h.bel.size (fun k hk => h.newA k hk)⟩⟩
  exact fun x hx => (List.mem_append.mp hx).elim (h.oct x) (hb.1 x)
theorem Trio.e {w0 w : World} {LA : List Nat} {LE : List Int} {xs : List Value} {va ve vk : Value} (h : Trio w0 w LA LE xs va ve vk) (x : Int) (hm : LE.length + 1 ≤ 1000000) (ty : TypeId) :
    ∃ v' w', (Builtin.append_ #[39, 39] ty #[ve, .slice (some ⟨w.heap.size, 0, none⟩) 1 1]).run Try.prog (w.alloc (.cells #[.int .i64 x] 3)) = .ok v' w' ∧ Trio w0 w' LA (LE ++ [x]) xs va v' vk := by
  obtain ⟨i, hi, hz0, hz1, hz2⟩ := info3p
  have h := h.keep ((Below.refl _ w).alloc (Nat.le_refl _) (.cells #[.int .i64 x] 3))
  have hcell : (w.alloc (.cells #[.int .i64 x] 3)).cell? ⟨w.heap.size, 0, none⟩ = some (.int .i64 x) := World.cell?_alloc_at _ _ _ _ rfl
  obtain ⟨w1, hw1⟩ : ∃ w1, w.alloc (.cells #[.int .i64 x] 3) = w1 := ⟨_, rfl⟩
  rw [hw1] at h hcell ⊢
  obtain ⟨v', w', hr, ho, hg, hk⟩ := append_gen 39 3 ty i _ 8 Try.underlying39 hi hz0 hz1 hz2 rfl h.rowE ⟨w.heap.size, 0, none⟩ 1 1 [.int .i64 x] rfl (by
    intro j u hu
    match j with
    | 0 => simp at hu; subst hu; rw [addr_add]; exact hcell
    | j + 1 => simp at hu) (by simp [Value.oneCell']) (by unfold maxLen; omega) (by omega)
  refine ⟨v', w', hr, ⟨owns_stay h.rowA hg (ap_symm h.apAE), ?_, owns_stay h.rowK hg h.apEK, h.newA, new_of h.bel.size h.newE hk, h.newK, ap_symm (apart_new h.rowA hk (ap_symm h.apAE)), h.apAK, apart_new h.rowK hk h.apEK, h.oct, h.bel.grown hg h.bel.size (fun k hk => h.newE k hk)⟩⟩
  rw [List.length_append]
  unfold iVals at ho ⊢
  rw [List.map_append]
  exact ho
theorem Trio.k {w0 w : World} {LA : List Nat} {LE : List Int} {xs : List Value} {va ve vk : Value} (h : Trio w0 w LA LE xs va ve vk) (a : Option Addr) (n c : Nat) (hm : xs.length + 1 ≤ 1000000) (ty : TypeId) :
    ∃ v' w', (Builtin.append_ #[30, 30] ty #[vk, .slice (some ⟨w.heap.size, 0, none⟩) 1 1]).run Try.prog (w.alloc (.cells #[.slice a n c] 22)) = .ok v' w' ∧ Trio w0 w' LA LE (xs ++ [.slice a n c]) va ve v' := by
  obtain ⟨i, hi, hz0, hz1, hz2⟩ := info22p
  have h := h.keep ((Below.refl _ w).alloc (Nat.le_refl _) (.cells #[.slice a n c] 22))
  have hcell : (w.alloc (.cells #[.slice a n c] 22)).cell? ⟨w.heap.size, 0, none⟩ = some (.slice a n c) := World.cell?_alloc_at _ _ _ _ rfl
  obtain ⟨w1, hw1⟩ : ∃ w1, w.alloc (.cells #[.slice a n c] 22) = w1 := ⟨_, rfl⟩
  rw [hw1] at h hcell ⊢
  obtain ⟨v', w', hr, ho, hg, hk⟩ := append_gen 30 22 ty i _ 24 Try.underlying30 hi hz0 hz1 hz2 rfl h.rowK ⟨w.heap.size, 0, none⟩ 1 1 [.slice a n c] rfl (by
    intro j u hu
    match j with
    | 0 => simp at hu; subst hu; rw [addr_add]; exact hcell
    | j + 1 => simp at hu) (by simp [Value.oneCell']) (by unfold maxLen; omega) (by omega)
  refine ⟨v', w', hr, ⟨owns_stay h.rowA hg (ap_symm h.apAK), owns_stay h.rowE hg (ap_symm h.apEK), by rw [List.length_append]; exact ho, h.newA, h.newE, new_of h.bel.size h.newK hk, h.apAE, ap_symm (apart_new h.rowA hk (ap_symm h.apAK)), ap_symm (apart_new h.rowE hk (ap_symm h.apEK)), h.oct, h.bel.grown hg h.bel.size (fun k hk => h.newK k hk)⟩⟩
theorem Elems.snoc {w0 : World} {xs : List Value} {ps : List (List Nat)} (h : Elems w0 xs ps) (hl : xs.length = ps.length) {a : Option Addr} {p : List Nat} {n c : Nat} (hn : p.length = n) (hb : Bytes w0 a p) (ha : a = none → c = 0) : Elems w0 (xs ++ [.slice a n c]) (ps ++ [p]) := by
  subst hn
  intro k q hk
  by_cases hlt : k < ps.length
  · rw [List.getElem?_append_left hlt] at hk
    obtain ⟨b, d, h1, h2, h3⟩ := h k q hk
    exact ⟨b, d, by rw [List.getElem?_append_left (by omega)]; exact h1, h2, h3⟩
  · rw [List.getElem?_append_right (by omega)] at hk
    have h0 : k - ps.length = 0 := by
      have := (List.getElem?_eq_some_iff.mp hk).1
      simp at this
      omega
    rw [h0] at hk
    simp at hk
    subst hk
    exact ⟨a, c, by rw [List.getElem?_append_right (by omega), hl, h0]; rfl, hb, ha⟩
/-- The three empty rows. -/
theorem trio_empty (w0 : World) : Trio w0 (((w0.alloc (.cells #[] 5)).alloc (.cells #[] 3)).alloc (.cells #[] 22)) [] [] [] (.slice (some ⟨w0.heap.size, 0, none⟩) 0 0) (.slice (some ⟨w0.heap.size + 1, 0, none⟩) 0 0) (.slice (some ⟨w0.heap.size + 2, 0, none⟩) 0 0) := by
  have hb : ∀ (w : World) (o : Obj), Below w.heap.size w (w.alloc o) := fun w o => (Below.refl _ _).alloc (Nat.le_refl _) _
  have s1 : (w0.alloc (.cells #[] 5)).heap.size = w0.heap.size + 1 := by simp
  have s2 : ((w0.alloc (.cells #[] 5)).alloc (.cells #[] 3)).heap.size = w0.heap.size + 2 := by simp
  have e1 : (w0.alloc (.cells #[] 5)).ownsRow 0 5 1 (.slice (some ⟨w0.heap.size, 0, none⟩) 0 0) 0 [] := ⟨rfl, .inr ⟨w0.heap.size, 0, #[], rfl, Nat.zero_le _, heap_new _ _, Nat.le_refl _, Nat.zero_le _, rfl, rfl⟩⟩
  have e2 : ((w0.alloc (.cells #[] 5)).alloc (.cells #[] 3)).ownsRow 0 3 1 (.slice (some ⟨w0.heap.size + 1, 0, none⟩) 0 0) 0 [] := ⟨rfl, .inr ⟨w0.heap.size + 1, 0, #[], rfl, Nat.zero_le _, by rw [← s1]; exact heap_new _ _, Nat.le_refl _, Nat.zero_le _, rfl, rfl⟩⟩
  have e3 : (((w0.alloc (.cells #[] 5)).alloc (.cells #[] 3)).alloc (.cells #[] 22)).ownsRow 0 22 1 (.slice (some ⟨w0.heap.size + 2, 0, none⟩) 0 0) 0 [] := ⟨rfl, .inr ⟨w0.heap.size + 2, 0, #[], rfl, Nat.zero_le _, by rw [← s2]; exact heap_new _ _, Nat.le_refl _, Nat.zero_le _, rfl, rfl⟩⟩
  have hbel : Below w0.heap.size w0 (((w0.alloc (.cells #[] 5)).alloc (.cells #[] 3)).alloc (.cells #[] 22)) := (((Below.refl _ _).alloc (Nat.le_refl _) _).alloc (by simp) _).alloc (by simp; omega) _
  refine ⟨owns_keep (owns_keep e1 (hb _ _)) (hb _ _), owns_keep e2 (hb _ _), e3, ?_, ?_, ?_, ?_, ?_, ?_, by simp, hbel⟩
  all_goals
    intro q hq
    simp [Value.ownBlock] at hq ⊢
    omega
end Go.Proofs.Ytlnblcgfgkkbhaa
