/-
  Plain mathematics: a journal whose disk has a fuse: what Start and Append come to, and what a crash behind them leaves. Their conditions: laps below 256.
-/
import Derived.Test.YtppdckncnfffcaaM2
namespace Go.Proofs.Ytppdckncnfffcaa
set_option maxRecDepth 100000

/-! ### Sectors of small laps -/
def Sm (s : Sec) : Prop := ∀ i, (i < 3 ∨ (60 ≤ i ∧ i < 63)) → s.v[i]? = some 0
theorem Sm.zs : Sm zs := by
  intro i hi
  show (List.replicate 64 (0 : UInt8))[i]? = some 0
  rw [List.getElem?_replicate, if_pos (by omega)]
theorem lay_get (a b : Sec) (m i : Nat) (hm : m ≤ 64) : (lay a b m).v[i]? = if i < m then b.v[i]? else a.v[i]? := by
  have hb := b.h
  show (b.v.take m ++ a.v.drop m)[i]? = _
  by_cases h : i < m
  · rw [if_pos h, List.getElem?_append_left (by simp; omega), List.getElem?_take, if_pos h]
  · have e : (b.v.take m).length = m := by simp; omega
    rw [if_neg h, List.getElem?_append_right (by omega), e, List.getElem?_drop, show m + (i - m) = i by omega]
theorem Sm.lay {a b : Sec} (ha : Sm a) (hb : Sm b) {m : Nat} (hm : m ≤ 64) : Sm (lay a b m) := by
  intro i hi
  rw [lay_get a b m i hm]
  split
  · exact hb i hi
  · exact ha i hi
theorem lay_old {a b : Sec} (ha : Sm a) (hb : Sm b) {m : Nat} (hm : m ≤ 3) : lay a b m = a := by
  apply Sec.ext'
  apply List.ext_getElem?
  intro i
  rw [lay_get a b m i (by omega)]
  split
  · rw [hb i (by omega), ha i (by omega)]
  · rfl
theorem lay_lapE {a b : Sec} (ha : Sm a) (hb : Sm b) {m : Nat} (hm : m ≤ 63) : lapE (lay a b m) = lapE a := by
  unfold lapE
  congr 1
  apply List.ext_getElem?
  intro i
  rw [List.getElem?_drop, List.getElem?_drop, lay_get a b m _ (by omega)]
  split
  · rw [hb _ (by omega), ha _ (by omega)]
  · rfl
theorem lay_lapF {a b : Sec} {m : Nat} (h4 : 4 ≤ m) (hm : m ≤ 64) : lapF (lay a b m) = lapF b := by
  unfold lapF
  congr 1
  apply List.ext_getElem?
  intro i
  rw [List.getElem?_take, List.getElem?_take]
  split
  · rw [lay_get a b m _ hm, if_pos (by omega)]
  · rfl
theorem dig4_small {n : Nat} (h : n < 256) : dig 4 n = [0, 0, 0, UInt8.ofNat n] := by
  have e : n / 256 = 0 := by omega
  have e2 : n % 256 = n := by omega
  simp [dig, e, e2]
theorem Sm.pt {p : Pt} (hb : p.bs.length ≤ 47) (hl : p.lap < 256) : Sm (ptS p) := by
  intro i hi
  rw [ptS_v hb]
  rcases hi with h | ⟨h1, h2⟩
  · have e := ptB_take4 p
    rw [dig4_small hl] at e
    have e2 : ((ptB p).take 4)[i]? = (ptB p)[i]? := by rw [List.getElem?_take, if_pos (by omega)]
    rw [← e2, e]
    match i, h with
    | 0, _ => rfl
    | 1, _ => rfl
    | 2, _ => rfl
  · have e := ptB_drop60 p hb
    rw [dig4_small hl] at e
    obtain ⟨k, rfl⟩ : ∃ k, i = 60 + k := ⟨i - 60, by omega⟩
    rw [← List.getElem?_drop, e]
    match k, (show k < 3 by omega) with
    | 0, _ => rfl
    | 1, _ => rfl
    | 2, _ => rfl
theorem secs_sm {lap k : Nat} {r : List UInt8} (hl : lap < 256) : ∀ s ∈ secsOf lap k r, Sm s := by
  intro s hs
  unfold secsOf at hs
  obtain ⟨i, _, rfl⟩ := List.mem_map.mp hs
  exact Sm.pt (ptOf_len lap k r i) hl
theorem secs_lapF {lap k : Nat} {r : List UInt8} (hl : lap < 4294967296) : ∀ s ∈ secsOf lap k r, lapF s = lap := by
  intro s hs
  unfold secsOf at hs
  obtain ⟨i, _, rfl⟩ := List.mem_map.mp hs
  have e3 : lapF (ptS (ptOf lap k r i)) = (ptOf lap k r i).lap := lapF_pt (ptOf_len lap k r i) hl
  rw [e3]
  rfl
theorem at_mem2 {ss : List Sec} {i : Nat} (h : i < ss.length) : at_ ss i ∈ ss := List.mem_of_getElem? (at_get h)
def SmK (K : List Sec) : Prop := ∀ i, Sm (at_ K i)
theorem SmK.new (n : Nat) : SmK (newD n).K := by
  intro i
  have e : at_ (newD n).K i = zs := by
    unfold at_ newD
    rw [List.getD_eq_getElem?_getD]
    by_cases h : i < n
    · simp [h]
    · simp [h]
  rw [e]
  exact Sm.zs
theorem SmK.ovw {K : List Sec} {p : Nat} {ss : List Sec} (h : SmK K) (hp : p + ss.length ≤ K.length) (hs : ∀ s ∈ ss, Sm s) : SmK (ovw K p ss) := by
  intro i
  rw [at_ovw hp]
  split
  · exact hs _ (at_mem2 (by omega))
  · exact h i

/-! ### What a crash leaves of sectors that were written one behind the other -/
def torn (K : List Sec) (p : Nat) (cs : List UInt8) : Nat → List Sec → List Sec
  | _, [] => []
  | k, s :: r => lay (at_ K (p + k)) s (pick cs k) :: torn K p cs (k + 1) r
theorem torn_length (K : List Sec) (p : Nat) (cs : List UInt8) (k : Nat) (ss : List Sec) : (torn K p cs k ss).length = ss.length := by
  induction ss generalizing k with
  | nil => rfl
  | cons s r ih => simp [torn, ih]
theorem torn_get (K : List Sec) (p : Nat) (cs : List UInt8) (k : Nat) (ss : List Sec) (i : Nat) : (torn K p cs k ss)[i]? = (ss[i]?).map fun s => lay (at_ K (p + (k + i))) s (pick cs (k + i)) := by
  induction ss generalizing k i with
  | nil => rfl
  | cons s r ih =>
    cases i with
    | zero => rfl
    | succ i => simp only [torn, List.getElem?_cons_succ, ih]; rw [show k + 1 + i = k + (i + 1) by omega]
theorem torn_at {K : List Sec} {p : Nat} {cs : List UInt8} {ss : List Sec} {i : Nat} (h : i < ss.length) : at_ (torn K p cs 0 ss) i = lay (at_ K (p + i)) (at_ ss i) (pick cs i) := by
  have h1 := torn_get K p cs 0 ss i
  rw [at_get (K := torn K p cs 0 ss) (by rw [torn_length]; exact h), at_get h] at h1
  simp only [Option.map_some, Nat.zero_add] at h1
  injection h1
theorem crash_at (K : List Sec) (p : Nat) (ss : List Sec) (cs : List UInt8) (hp : p + ss.length ≤ K.length) (k : Nat) (hk : k ≤ ss.length) (i : Nat) :
    at_ (crashN K (pend p ss) cs k) i = if p ≤ i ∧ i < p + k then lay (at_ K i) (at_ ss (i - p)) (pick cs (i - p)) else at_ K i := by
  induction k generalizing i with
  | zero => rw [if_neg (by omega)]; rfl
  | succ k ih =>
    have e : (pend p ss)[k]? = some ⟨p + k, at_ ss k⟩ := by rw [pend_get, at_get (by omega)]; rfl
    rw [crashN_step cs e]
    show at_ ((crashN K (pend p ss) cs k).set (p + k) (lay (at_ (crashN K (pend p ss) cs k) (p + k)) (at_ ss k) (pick cs k))) i = _
    by_cases h : p + k = i
    · subst h
      rw [at_set _ _ (by rw [crashN_length]; omega), ih (by omega), if_neg (by omega), if_pos (by omega), show p + k - p = k by omega]
    · rw [at_set_ne _ _ h, ih (by omega)]
      by_cases h2 : p ≤ i ∧ i < p + k
      · rw [if_pos h2, if_pos (by omega)]
      · rw [if_neg h2, if_neg (by omega)]
theorem ext_at {A B : List Sec} (hl : A.length = B.length) (h : ∀ i, i < A.length → at_ A i = at_ B i) : A = B := by
  apply List.ext_getElem?
  intro i
  by_cases hi : i < A.length
  · rw [at_get hi, at_get (by omega), h i hi]
  · rw [List.getElem?_eq_none (by omega), List.getElem?_eq_none (by omega)]
theorem crash_torn (K : List Sec) (p : Nat) (ss : List Sec) (cs : List UInt8) (hp : p + ss.length ≤ K.length) : crashN K (pend p ss) cs ss.length = ovw K p (torn K p cs 0 ss) := by
  refine ext_at (by rw [crashN_length, ovw_length]) (fun i _ => ?_)
  rw [crash_at K p ss cs hp _ (Nat.le_refl _), at_ovw (by rw [torn_length]; exact hp), torn_length]
  split
  · rw [torn_at (by omega), show p + (i - p) = i by omega]
  · rfl
theorem torn_sm {K : List Sec} {p : Nat} {cs : List UInt8} {ss : List Sec} (hK : SmK K) (hs : ∀ s ∈ ss, Sm s) : ∀ s ∈ torn K p cs 0 ss, Sm s := by
  intro s h
  obtain ⟨i, hi⟩ := List.getElem?_of_mem h
  have hl : i < ss.length := by
    have := (List.getElem?_eq_some_iff.mp hi).1
    rwa [torn_length] at this
  rw [at_get (by rw [torn_length]; exact hl), torn_at hl] at hi
  injection hi with hi
  subst hi
  exact (hK _).lay (hs _ (at_mem2 hl)) (pick_lt _ _)
theorem torn_lapE {K : List Sec} {p : Nat} {cs : List UInt8} {ss : List Sec} (hK : SmK K) (hs : ∀ s ∈ ss, Sm s) {i : Nat} (hi : i < ss.length) :
    (at_ (torn K p cs 0 ss) i = at_ ss i) ∨ (pick cs i ≤ 63 ∧ lapE (at_ (torn K p cs 0 ss) i) = lapE (at_ K (p + i))) := by
  rw [torn_at hi]
  by_cases h : pick cs i ≤ 63
  · exact .inr ⟨h, lay_lapE (hK _) (hs _ (at_mem2 hi)) h⟩
  · exact .inl (lay_all _ _ (by omega))
/-- The first of them that is not whole. -/
theorem torn_pre {K : List Sec} {p : Nat} {cs : List UInt8} {ss : List Sec} (hK : SmK K) (hs : ∀ s ∈ ss, Sm s) (t : Nat) (ht : t ≤ ss.length) :
    ∃ q, q ≤ t ∧ (torn K p cs 0 ss).take q = ss.take q ∧ (q < t → pick cs q ≤ 63 ∧ lapE (at_ (torn K p cs 0 ss) q) = lapE (at_ K (p + q))) := by
  induction t with
  | zero => exact ⟨0, Nat.le_refl _, by simp, fun h => absurd h (by omega)⟩
  | succ t ih =>
    obtain ⟨q, h1, h2, h3⟩ := ih (by omega)
    by_cases hq : q < t
    · exact ⟨q, by omega, h2, fun _ => h3 hq⟩
    · obtain rfl : q = t := by omega
      rcases torn_lapE (p := p) (cs := cs) hK hs (i := q) (by omega) with h | h
      · refine ⟨q + 1, Nat.le_refl _, ?_, fun h => absurd h (by omega)⟩
        have e1 : (torn K p cs 0 ss)[q]? = some (at_ ss q) := by rw [at_get (by rw [torn_length]; omega), h]
        rw [List.take_add_one, List.take_add_one, h2, e1, at_get (K := ss) (by omega)]
      · exact ⟨q, by omega, h2, fun _ => h⟩
end Go.Proofs.Ytppdckncnfffcaa
