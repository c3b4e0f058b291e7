/-
  Items that are read one by one: their mathematics, and a row of items of the call's own. Its conditions: none.
-/
import Derived.Test.YthcmijppemochaaW16
import Derived.Test.YthcmijppemochaaW15
import Derived.Test.YthcmijppemochaaW5
namespace Go.Proofs.Ythcmijppemochaa
open Go.RowKit

/-- The item that is read as of kind K, and what is left. -/
def readItem (s : Option (List Nat)) (K : Int) : It × Option (List Nat) :=
  if K = 1 then (⟨K, if rflagB s then 1 else 0, ⟨#[]⟩⟩, (Pk.rcount s 1).2)
  else if K = 2 then (⟨K, 0, textOf (Pk.rtext s 10000).1⟩, (Pk.rtext s 10000).2)
  else (⟨K, ((Pk.rcount s 9007199254740992).1 : Nat), ⟨#[]⟩⟩, (Pk.rcount s 9007199254740992).2)
theorem readItem_none (K : Int) : (readItem none K).2 = none := by
  unfold readItem
  by_cases h1 : K = 1
  · rw [if_pos h1]; rfl
  · rw [if_neg h1]
    by_cases h2 : K = 2
    · rw [if_pos h2]; rfl
    · rw [if_neg h2]; rfl
theorem empty_size : (⟨#[]⟩ : ByteArray).size = 0 := rfl
theorem readItem_some {L R : List Nat} {K : Int} (hb : ∀ c ∈ L, c < 256) (h : (readItem (some L) K).2 = some R) :
    ∃ e, itemEnc (readItem (some L) K).1 = some e ∧ L = e ++ R ∧ (readItem (some L) K).1.S.size ≤ e.length := by
  unfold readItem at h ⊢
  by_cases h1 : K = 1
  · rw [if_pos h1] at h ⊢
    cases hc : Pk.rcount (some L) 1 with
    | mk n s =>
      rw [hc] at h
      simp only at h
      subst h
      obtain ⟨g1, g2, g3⟩ := rcount_some hb hc
      have hr : rflagB (some L) = decide (n = 1) := by unfold rflagB; rw [hc]
      refine ⟨[n], ?_, by rw [g3, Pk.digits_small (by omega)], by simp [empty_size]⟩
      rw [itemEnc_flag h1, hr]
      have : n = 0 ∨ n = 1 := by omega
      rcases this with rfl | rfl <;> rfl
  · rw [if_neg h1] at h ⊢
    by_cases h2 : K = 2
    · rw [if_pos h2] at h ⊢
      cases hc : Pk.rtext (some L) 10000 with
      | mk T s =>
        rw [hc] at h
        simp only at h
        subst h
        obtain ⟨g1, g2, g3⟩ := rtext_some hb hc
        have hT : ∀ c ∈ T, c < 256 := fun c hc => hb c (by rw [g3]; exact List.mem_append_left _ (List.mem_append_right _ hc))
        refine ⟨Pk.digits T.length ++ T, ?_, g3, ?_⟩
        · rw [itemEnc_text h2, textOf_size, bytesOf_textOf T hT]
        · rw [textOf_size, List.length_append]
          show T.length ≤ _
          omega
    · rw [if_neg h2] at h ⊢
      cases hc : Pk.rcount (some L) 9007199254740992 with
      | mk n s =>
        rw [hc] at h
        simp only at h
        subst h
        obtain ⟨g1, g2, g3⟩ := rcount_some hb hc
        refine ⟨Pk.digits n, ?_, g3, by simp [empty_size]⟩
        rw [itemEnc_num h1 h2]
        show (if 0 ≤ ((n : Nat) : Int) ∧ ((n : Nat) : Int) ≤ 9007199254740992 then some (Pk.digits ((n : Nat) : Int).toNat) else none) = _
        rw [if_pos (by omega)]
        simp
/-- What has been read so far. -/
def Done (b : List Nat) (its : List It) (s : Option (List Nat)) : Prop := ∀ R, s = some R → ∃ E, wfold its = some E ∧ b = E ++ R ∧ weight its ≤ its.length + E.length
theorem Done.start (b : List Nat) : Done b [] (some b) := by
  intro R h
  injection h with h
  subst h
  exact ⟨[], rfl, rfl, by simp [weight]⟩
theorem Done.step {b : List Nat} {its : List It} {s : Option (List Nat)} (hb : ∀ c ∈ b, c < 256) (h : Done b its s) (K : Int) : Done b (its ++ [(readItem s K).1]) (readItem s K).2 := by
  intro R hR
  cases s with
  | none => rw [readItem_none] at hR; cases hR
  | some L =>
    obtain ⟨E, h1, h2, h3⟩ := h L rfl
    obtain ⟨e, g1, g2, g3⟩ := readItem_some (fun c hc => hb c (by rw [h2]; exact List.mem_append_right _ hc)) hR
    refine ⟨E ++ e, ?_, by rw [h2, g2, List.append_assoc], ?_⟩
    · rw [wfold_snoc, h1]
      unfold wstep
      rw [g1]
      rfl
    · rw [weight_snoc, List.length_append, List.length_append]
      simp only [List.length_singleton]
      omega

/-- The cells of items. -/
def itCells (x : It) : List Value := [.int .i64 x.K, .int .i64 x.N, .string x.S]
def itVals (l : List It) : List Value := l.flatMap itCells
theorem itVals_length (l : List It) : (itVals l).length = l.length * 3 := by
  induction l with
  | nil => rfl
  | cons x l ih =>
    unfold itVals at ih ⊢
    rw [List.flatMap_cons, List.length_append, ih, List.length_cons]
    simp [itCells]
    omega
theorem itVals_snoc (l : List It) (x : It) : itVals (l ++ [x]) = itVals l ++ itCells x := by simp [itVals]
theorem itVals_at (l : List It) (k : Nat) (x : It) (h : l[k]? = some x) (j : Nat) (hj : j < 3) : (itVals l)[k * 3 + j]? = (itCells x)[j]? := by
  induction l generalizing k with
  | nil => simp at h
  | cons y l ih =>
    have hc : itVals (y :: l) = itCells y ++ itVals l := by unfold itVals; rw [List.flatMap_cons]
    rw [hc]
    cases k with
    | zero =>
      simp at h
      subst h
      rw [List.getElem?_append_left (by simp [itCells]; omega), Nat.zero_mul, Nat.zero_add]
    | succ k =>
      rw [List.getElem?_append_right (by simp [itCells]; omega)]
      rw [show (k + 1) * 3 + j - (itCells y).length = k * 3 + j by simp [itCells]; omega]
      exact ih k (by simpa using h)
theorem info52 : (Try.prog.info? 52).map (fun i => (i.zero, i.size, i.bytes)) = some (some (.agg #[.int .i64 0, .int .i64 0, .string ⟨#[]⟩]), 3, 32) := by kernel_rfl
theorem info52p : ∃ i, Try.prog.info? 52 = some i ∧ i.zero = some (.agg #[.int .i64 0, .int .i64 0, .string ⟨#[]⟩]) ∧ i.size = 3 ∧ i.bytes = 32 := info_parts info52
/-- append of one item onto a row of items of the call's own. -/
theorem append_item {w : World} {v : Value} {l : List It} (hown : w.ownsRow 0 52 3 v l.length (itVals l)) (x : It) (hm : l.length ≤ 1000) (ty : TypeId) :
    ∃ v' w', (Builtin.append_ #[22, 22] ty #[v, .slice (some ⟨w.heap.size, 0, none⟩) 1 1]).run Try.prog (w.alloc (.cells #[.int .i64 x.K, .int .i64 x.N, .string x.S] 52)) = .ok v' w' ∧
      w'.ownsRow 0 52 3 v' (l ++ [x]).length (itVals (l ++ [x])) ∧ (w.alloc (.cells #[.int .i64 x.K, .int .i64 x.N, .string x.S] 52)).grownBy w' v.ownBlock ∧ (∀ k, v'.ownBlock = some k → v.ownBlock = some k ∨ w.heap.size ≤ k) := by
  obtain ⟨i, hi, hz0, hz1, hz2⟩ := info52p
  obtain ⟨w1, hw1⟩ : ∃ w1, w.alloc (.cells #[.int .i64 x.K, .int .i64 x.N, .string x.S] 52) = w1 := ⟨_, rfl⟩
  have hown1 : w1.ownsRow 0 52 3 v l.length (itVals l) := by rw [← hw1]; exact hown.alloc _
  have hnews : ∀ j u, (itCells x)[j]? = some u → w1.cell? ((⟨w.heap.size, 0, none⟩ : Addr).add j) = some u := by
    intro j u hu
    rw [addr_add, Nat.zero_add, ← hw1, World.cell?_alloc_at _ _ _ _ rfl]
    simpa [itCells] using hu
  have h1 : ∀ u ∈ itCells x, u.oneCell' = true := by
    intro u hu
    simp [itCells] at hu
    rcases hu with rfl | rfl | rfl <;> rfl
  have hsz : w1.heap.size = w.heap.size + 1 := by rw [← hw1]; simp
  have hlen : (itCells x).length = 1 * 3 := rfl
  obtain ⟨v', w', hr, ho, hg, _⟩ := run_append_own (P := Try.prog) w1 0 22 ty 52 i _ 3 32 Try.underlying22 hi hz0 hz1 hz2 rfl (by omega) v l.length (itVals l) hown1 ⟨w.heap.size, 0, none⟩ 1 1 (itCells x) hlen hnews h1 (by unfold maxLen; omega) (by omega) (Nat.zero_le _)
  rw [hw1]
  refine ⟨v', w', hr, by rw [itVals_snoc, List.length_append]; exact ho, hg, fun k hk => ?_⟩
  rcases hown1.2 with ⟨rfl, hl0⟩ | ⟨g, cap, cur, rfl, _, hgg, hnc, hcm, hcs, htake⟩
  · obtain ⟨v2, w2, hr2, ho2, _, _⟩ := run_append_own (P := Try.prog) w1 w1.heap.size 22 ty 52 i _ 3 32 Try.underlying22 hi hz0 hz1 hz2 rfl (by omega) (.slice none 0 0) l.length (itVals l) ⟨hown1.1, .inl ⟨rfl, hl0⟩⟩ ⟨w.heap.size, 0, none⟩ 1 1 (itCells x) hlen hnews h1 (by unfold maxLen; omega) (by omega) (Nat.le_refl _)
    rw [hr] at hr2
    injection hr2 with e1 e2
    subst e1 e2
    have := (ho2.lt k hk).1
    exact .inr (by omega)
  · by_cases hroom : l.length + 1 ≤ cap
    · have hr2 := run_append_room (P := Try.prog) w1 22 ty 52 i Try.underlying22 hi g l.length cap cur hgg ⟨w.heap.size, 0, none⟩ 1 1 (itCells x) (by rw [hz1]; exact hlen) hnews h1 hroom (by rw [hlen, hz1, hcs]; omega)
      rw [hr] at hr2
      injection hr2 with e1 e2
      subst e1
      exact .inl (by simpa [Value.ownBlock] using hk)
    · have hr2 := run_append_grow (P := Try.prog) w1 22 ty 52 i _ Try.underlying22 hi hz0 ⟨g, 0, none⟩ l.length cap (itVals l) (by rw [hz1]; exact hown1.1) (hown1.cells (g := g) rfl) ⟨w.heap.size, 0, none⟩ 1 1 (itCells x) (by rw [hz1]; exact hlen) hnews (by omega) (by omega) (by rw [hz2]; exact growslice_fits (by omega) (by omega))
      rw [hr] at hr2
      injection hr2 with e1 e2
      subst e1
      refine .inr ?_
      simp [Value.ownBlock] at hk
      omega

def OneRel (b : List Nat) (ks : List Int) (w1 : World) (g r : Nat) (lv i : Value) (wr : World) : Prop :=
  ∃ (k : Nat) (its : List It) (s : Option (List Nat)) (A : Option Addr) (c : Nat), i = .int .i64 (k : Int) ∧ k ≤ ks.length ∧ k ≤ 1000 ∧ its.length = k ∧ (∀ x ∈ its, ItOk x) ∧ Done b its s ∧ RS wr g r s ∧
    lv = .slice A k c ∧ wr.ownsRow 0 52 3 (.slice A k c) its.length (itVals its) ∧ (∀ a, A = some a → a.block ≠ g ∧ a.block ≠ r) ∧ r < wr.heap.size ∧ (∀ a, A = some a → w1.heap.size ≤ a.block) ∧ Below w1.heap.size w1 wr
/-- One item more. -/
theorem one_step {b : List Nat} {ks : List Int} {w1 : World} {g r k : Nat} {its : List It} {s' : Option (List Nat)} {A : Option Addr} {c : Nat} {wr w4 : World} (x : It)
    (hk : k + 1 ≤ ks.length) (hk1 : k + 1 ≤ 1000) (hik : its.length = k) (hok : ∀ y ∈ its, ItOk y) (hx : ItOk x) (hd : Done b (its ++ [x]) s') (hown : wr.ownsRow 0 52 3 (.slice A k c) its.length (itVals its))
    (hal : ∀ a, A = some a → a.block ≠ g ∧ a.block ≠ r) (hr : r < wr.heap.size) (hal1 : ∀ a, A = some a → w1.heap.size ≤ a.block) (hbel : Below w1.heap.size w1 wr) (hg : w1.heap.size ≤ g) (hgl : g < wr.heap.size)
    (ho : Only (fun k => k = g) wr w4) (hrs : RS w4 g r s') :
    ∃ A' c' w5, (Builtin.append_ #[22, 22] 22 #[.slice A k c, .slice (some ⟨w4.heap.size, 0, none⟩) 1 1]).run Try.prog (w4.alloc (.cells #[.int .i64 x.K, .int .i64 x.N, .string x.S] 52)) = .ok (.slice A' (k + 1) c') w5 ∧
      OneRel b ks w1 g r (.slice A' (k + 1) c') (.int .i64 ((k : Int) + 1)) w5 := by
  have hown4 : w4.ownsRow 0 52 3 (.slice A k c) its.length (itVals its) := by
    refine ⟨hown.1, ?_⟩
    rcases hown.2 with hn | ⟨q, cap, cur, hv, hb, hqq, rest⟩
    · exact .inl hn
    · refine .inr ⟨q, cap, cur, hv, hb, ?_, rest⟩
      injection hv with hv _ _
      rw [ho.block q (Array.getElem?_eq_some_iff.mp hqq).1 (hal _ hv).1]
      exact hqq
  obtain ⟨v', w5, hrun, hown5, hgr, hkk⟩ := append_item hown4 x (by omega) 22
  obtain ⟨A', c', rfl⟩ := owns_form hown5
  have hlen : (its ++ [x]).length = k + 1 := by rw [List.length_append, hik]; rfl
  rw [hlen] at hrun
  have hsz := ho.size
  have hb4 : Below w1.heap.size w1 w4 := hbel.trans (ho.below hbel.size (fun k _ hk => by rw [hk]; exact hg))
  have hb5 : Below w1.heap.size w1 w5 := by
    refine (hb4.alloc hb4.size _).grown hgr (by simp; have := hb4.size; omega) (fun q hq => ?_)
    cases hA : A with
    | none => rw [hA] at hq; cases hq
    | some a =>
      rw [hA] at hq
      injection hq with hq
      subst hq
      exact hal1 a hA
  have ho5 : Only (fun q => ∃ a, A = some a ∧ q = a.block) w4 w5 := by
    refine ((Only.refl _ w4).alloc _).grown hgr (fun q hq => ?_)
    cases hA : A with
    | none => rw [hA] at hq; cases hq
    | some a =>
      rw [hA] at hq
      injection hq with hq
      exact .inr ⟨a, rfl, hq.symm⟩
  have hnew : ∀ a, A' = some a → (∃ a0, A = some a0 ∧ a.block = a0.block) ∨ w4.heap.size ≤ a.block := by
    intro a ha
    subst ha
    rcases hkk a.block rfl with h | h
    · cases hA : A with
      | none => rw [hA] at h; cases h
      | some a0 =>
        rw [hA] at h
        injection h with h
        exact .inl ⟨a0, rfl, h.symm⟩
    · exact .inr h
  refine ⟨A', c', w5, hrun, k + 1, its ++ [x], s', A', c', by go_num, hk, hk1, hlen, ?_, hd, ?_, rfl, by rw [← hlen]; exact hown5, ?_, ?_, ?_, hb5⟩
  · intro y hy
    rcases List.mem_append.mp hy with hy | hy
    · exact hok y hy
    · simp at hy
      subst hy
      exact hx
  · exact hrs.only ho5 (fun ⟨a, ha, e⟩ => (hal a ha).1 e.symm) (fun ⟨a, ha, e⟩ => (hal a ha).2 e.symm)
  · intro a ha
    rcases hnew a ha with ⟨a0, ha0, e⟩ | h
    · rw [e]; exact hal a0 ha0
    · constructor <;> omega
  · have := ho5.size
    omega
  · intro a ha
    rcases hnew a ha with ⟨a0, ha0, e⟩ | h
    · rw [e]; exact hal1 a0 ha0
    · have := hb4.size
      omega
/-- Where an item lies that was just made. -/
theorem new_item {wr w3 : World} {g : Nat} {a b c : Value} {t : TypeId} (ho : Only (fun k => k = g) (wr.alloc (.cells #[a, b, c] t)) w3) (hg : g < wr.heap.size) :
    w3.cell? ⟨wr.heap.size, 0, none⟩ = some a ∧ w3.cell? ⟨wr.heap.size, 1, none⟩ = some b ∧ w3.cell? ⟨wr.heap.size, 2, none⟩ = some c ∧ w3.frozen? ⟨wr.heap.size, 1, none⟩ = false ∧ w3.frozen? ⟨wr.heap.size, 2, none⟩ = false := by
  have hb : w3.heap[wr.heap.size]? = some (.cells #[a, b, c] t (0, 0)) := by
    rw [ho.block wr.heap.size (by simp) (by omega)]
    exact heap_new _ _
  refine ⟨?_, ?_, ?_, ?_, ?_⟩ <;> simp [World.cell?, World.frozen?, hb]
end Go.Proofs.Ythcmijppemochaa
