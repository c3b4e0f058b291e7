/-
  Plain mathematics: a journal that was started, on a quiet disk: what Start and Append come to, what is found then. Their conditions: as said.
-/
import Derived.Test.YtppdckncnfffcaaM1
namespace Go.Proofs.Ytppdckncnfffcaa
set_option maxRecDepth 100000

theorem at_mem {h : List Sec} (hn : h ≠ []) : at_ h 0 ∈ h := by
  cases h with
  | nil => exact absurd rfl hn
  | cons s r => exact List.mem_cons_self
theorem secs_lap {lap k : Nat} {r : List UInt8} (hl : lap < 4294967296) : ∀ s ∈ secsOf lap k r, lapE s = lap := by
  intro s hs
  unfold secsOf at hs
  obtain ⟨i, _, rfl⟩ := List.mem_map.mp hs
  have e3 : lapE (ptS (ptOf lap k r i)) = (ptOf lap k r i).lap := lapE_pt (ptOf_len lap k r i) hl
  rw [e3]
  rfl
theorem at_ovw {K : List Sec} {p : Nat} {ss : List Sec} (h : p + ss.length ≤ K.length) (i : Nat) : at_ (ovw K p ss) i = if p ≤ i ∧ i < p + ss.length then at_ ss (i - p) else at_ K i := by
  unfold at_
  rw [List.getD_eq_getElem?_getD, ovw_get _ _ _ h]
  split
  · rw [List.getD_eq_getElem?_getD]
  · rw [List.getD_eq_getElem?_getD]
theorem lastU_ovw {K : List Sec} {p m l : Nat} {ss : List Sec} (hm : m ≤ K.length) (hp : p + ss.length ≤ m) (hs : ∀ s ∈ ss, lapE s = l) (hn : ss ≠ []) (hl : lastU K m ≤ l) : lastU (ovw K p ss) m = l := by
  have hsl : 0 < ss.length := List.length_pos_iff.mpr hn
  have hat : ∀ i, i < ss.length → lapE (at_ ss i) = l := by
    intro i hi
    refine hs _ ?_
    have := at_get hi
    exact List.mem_of_getElem? this
  apply Nat.le_antisymm
  · refine lastU_le _ _ _ (fun i hi => ?_)
    rw [at_ovw (by omega)]
    split
    · rw [hat _ (by omega)]; exact Nat.le_refl _
    · exact Nat.le_trans (lastU_ge K m i hi) hl
  · have h1 := lastU_ge (ovw K p ss) m p (by omega)
    rw [at_ovw (by omega), if_pos (by omega), Nat.sub_self, hat 0 hsl] at h1
    exact h1
theorem half_lt {S : List Sec} {f n m : Nat} (hfm : f + n ≤ m) (hS : f + n ≤ S.length) : ∀ s ∈ halfL S f n, lapE s ≤ lastU S m := by
  intro s hs
  obtain ⟨i, hi⟩ := List.getElem?_of_mem hs
  rw [halfL_get] at hi
  split at hi
  · rename_i h
    have h1 := at_get (K := S) (i := f + i) (by omega)
    rw [h1] at hi
    injection hi with hi
    rw [← hi]
    exact lastU_ge S m _ (by omega)
  · cases hi
/-- What is found in a half is of its own lap. -/
theorem foundN_lt {h : List Sec} {l : Nat} (h0 : 0 < l) (hh : ∀ s ∈ h, lapE s < l) : foundN h < l := by
  rcases foundN_is h with h1 | ⟨_, h1, h2⟩
  · omega
  · rw [h1]; exact hh _ (at_mem h2)
theorem gth_none (l : List Pt) : ∀ G : Gt, (G.lap = 0 → G.rs = []) → ((∀ p ∈ l, 0 < p.lap) → ((l.foldl gth G).lap = 0 → (l.foldl gth G).rs = [])) := by
  induction l with
  | nil => intro G hG _; exact hG
  | cons p t ih =>
    intro G hG hp
    rw [List.foldl_cons]
    refine ih _ ?_ (fun q hq => hp q (List.mem_cons_of_mem _ hq))
    unfold gth
    split
    · intro h
      have := hp p (by simp)
      exact absurd h (by show p.lap ≠ 0; omega)
    · exact hG
/-- Where there is a record there is a lap. -/
theorem found_zero (h : List Sec) (hz : foundN h = 0) : foundL h = [] := by
  unfold foundN foundL gathered partsL at *
  by_cases h0 : lapF (at_ h 0) = 0
  · rw [if_pos h0]; rfl
  · rw [if_neg h0] at hz ⊢
    exact gth_none _ ⟨[], [], 0⟩ (fun _ => rfl) (fun p hp => by rw [walk_lap _ _ p hp]; show 0 < lapF (at_ h 0); omega) hz
/-- The records of the one half, where the other one has an elder lap. -/
theorem look_of {S : List Sec} {n f l : Nat} {rs : List (List UInt8)} (hf : f = 0 ∨ f = n) (hn : 0 < n) (h1 : foundL (halfL S f n) = rs) (h2 : foundN (halfL S f n) = l) (hne : rs ≠ []) (ho : foundN (halfL S (n - f) n) < l) : lookL S n = rs ∧ lookF S n = n - f := by
  have hl : rs.length ≠ 0 := fun h => hne (List.eq_nil_of_length_eq_zero h)
  rcases hf with rfl | rfl
  · rw [Nat.sub_zero] at ho ⊢
    have : pickB S n = false := by
      unfold pickB
      rw [h1, h2]
      simp only [Bool.or_eq_false_iff, decide_eq_false_iff_not]
      exact ⟨hl, by omega⟩
    unfold lookL lookF
    rw [this]
    exact ⟨h1, rfl⟩
  · rw [Nat.sub_self] at ho ⊢
    have : pickB S f = true := by
      unfold pickB
      rw [h2]
      simp only [Bool.or_eq_true, decide_eq_true_eq]
      exact .inr (by omega)
    unfold lookL lookF
    rw [this]
    exact ⟨h1, rfl⟩
theorem lookF_or (S : List Sec) (n : Nat) : lookF S n = 0 ∨ lookF S n = n := by
  unfold lookF
  split
  · exact .inl rfl
  · exact .inr rfl

/-- A journal that was started, and has these records. -/
structure Led (d : Dk) (j : Jn) (rs : List (List UInt8)) : Prop where
  qt : Qt d
  ov : j.over = false
  sz : 0 < j.size
  s2 : j.size ≤ 2048
  len : 2 * j.size ≤ d.K.length
  f : j.first = 0 ∨ j.first = j.size
  fr : j.free ≤ j.size
  l0 : 0 < j.lap
  l1 : j.lap ≤ 2147483647
  rc : j.recs = rs.length
  ne : rs ≠ []
  us : j.used = (lays j.lap 0 rs).length
  le : j.used ≤ j.size
  rp : ∀ r ∈ rs, partsN r.length ≤ 2048
  half : ∃ rest, halfL d.K j.first j.size = lays j.lap 0 rs ++ rest ∧ ∀ s ∈ rest, lapE s < j.lap
  oth : ∀ s ∈ halfL d.K (j.size - j.first) j.size, lapE s < j.lap
  last : lastU d.K (2 * j.size) = j.lap
theorem stops_of {lap : Nat} {rest : List Sec} (h : ∀ s ∈ rest, lapE s < lap) : Stops lap rest := fun s r e => .inl (by subst e; have := h s (by simp); omega)
theorem Led.look {d : Dk} {j : Jn} {rs : List (List UInt8)} (h : Led d j rs) : lookL d.K j.size = rs ∧ lookF d.K j.size = j.size - j.first := by
  obtain ⟨rest, e, hr⟩ := h.half
  have h1 := h.l1
  obtain ⟨a, b⟩ := half_recs (lap := j.lap) (by omega) h.l0 (fun r hr => Nat.lt_of_le_of_lt (h.rp r hr) (by decide)) (stops_of hr) h.ne
  rw [← e] at a b
  exact look_of h.f h.sz a b h.ne (foundN_lt h.l0 h.oth)
theorem Led.room {d : Dk} {j : Jn} {rs : List (List UInt8)} (h : Led d j rs) : roomN j = j.size - j.used := by
  have := h.l0
  unfold roomN
  rw [if_neg (by omega), h.ov]
  rfl
/-- Start. -/
theorem start_led {d : Dk} {j : Jn} {r : List UInt8} (hq : Qt d) (hov : j.over = false) (hsz : 0 < j.size) (hs2 : j.size ≤ 2048) (hlen : 2 * j.size ≤ d.K.length) (hp : partsN r.length ≤ j.size) (hl : lastU d.K (2 * j.size) < 2147483647) :
    Led (startF d j r).1 (startF d j r).2.1 [r] ∧ (startF d j r).2.2 = 0 ∧ (startF d j r).2.1.lap = lastU d.K (2 * j.size) + 1 ∧ (startF d j r).2.1.used = partsN r.length ∧ (startF d j r).2.1.size = j.size ∧ (startF d j r).1.K.length = d.K.length ∧ (startF d j r).1.steps = d.steps + partsN r.length + 1
      ∧ (startF d j r).2.1.first = lookF d.K j.size ∧ (startF d j r).1.K = ovw d.K (lookF d.K j.size) (secsOf (lastU d.K (2 * j.size) + 1) 0 r) := by
  obtain ⟨L, hL⟩ : ∃ L, L = lastU d.K (2 * j.size) := ⟨_, rfl⟩
  obtain ⟨F, hF⟩ : ∃ F, F = lookF d.K j.size := ⟨_, rfl⟩
  have hFor := lookF_or d.K j.size
  rw [← hF] at hFor
  have e1 : lookD d j = { j with last := L, free := F } := by
    unfold lookD lookJ
    rw [hq.dn, hq.ps, seen_nil, ← hL, ← hF]
    rfl
  have e2 : fullJ (lookD d j) r = false := by
    rw [e1]
    unfold fullJ
    simp only [Bool.or_eq_false_iff, decide_eq_false_iff_not]
    exact ⟨by omega, by omega⟩
  have e3 : startF d j r = (laidD d F (secsOf (L + 1) 0 r), { j with lap := L + 1, first := F, recs := 1, used := partsN r.length, free := F, last := max L (L + 1) }, 0) := by
    unfold startF
    rw [hov, e2, e1]
    unfold wrF
    rw [wrA_quiet hq]
    simp [wrJ, hov]
  have hss : (secsOf (L + 1) 0 r).length = partsN r.length := secsOf_length _ _ _
  have hsp := partsN_pos r.length
  have hn0 : secsOf (L + 1) 0 r ≠ [] := fun h => by rw [h] at hss; simp at hss; omega
  rw [e3, ← hL]
  refine ⟨?_, rfl, rfl, rfl, rfl, ovw_length _ _ _, by show d.steps + ((secsOf (L + 1) 0 r).length : Int) + 1 = _; rw [hss], hF, by rw [← hF]; rfl⟩
  have hlays : lays (L + 1) 0 [r] = secsOf (L + 1) 0 r := by simp [lays]
  refine ⟨hq.laid _ _, hov, hsz, hs2, ?_, hFor, ?_, Nat.succ_pos _, ?_, rfl, by simp, ?_, hp, ?_, ?_, ?_, ?_⟩
  · show 2 * j.size ≤ (ovw _ _ _).length
    rw [ovw_length]
    exact hlen
  · show F ≤ j.size
    omega
  · show L + 1 ≤ 2147483647
    omega
  · show partsN r.length = (lays (L + 1) 0 [r]).length
    rw [hlays, hss]
  · intro x hx
    rw [List.mem_singleton.mp hx]
    omega
  · show ∃ rest, halfL (ovw d.K F (secsOf (L + 1) 0 r)) F j.size = lays (L + 1) 0 [r] ++ rest ∧ ∀ s ∈ rest, lapE s < L + 1
    rw [half_in (Nat.le_refl _) (by omega) (by omega), hlays, Nat.sub_self, List.take_zero, List.nil_append]
    refine ⟨_, rfl, fun s hs => ?_⟩
    have h2 := half_lt (S := d.K) (f := F) (n := j.size) (m := 2 * j.size) (by omega) (by omega) s (List.mem_of_mem_drop hs)
    omega
  · show ∀ s ∈ halfL (ovw d.K F (secsOf (L + 1) 0 r)) (j.size - F) j.size, lapE s < L + 1
    rw [half_out (by omega) (by omega)]
    intro s hs
    have h2 := half_lt (S := d.K) (f := j.size - F) (n := j.size) (m := 2 * j.size) (by omega) (by omega) s hs
    omega
  · show lastU (ovw d.K F (secsOf (L + 1) 0 r)) (2 * j.size) = L + 1
    exact lastU_ovw hlen (by omega) (secs_lap (by omega)) hn0 (by omega)
/-- Start with too much. -/
theorem start_full {d : Dk} {j : Jn} {r : List UInt8} (hq : Qt d) (hov : j.over = false) (hp : j.size < partsN r.length ∨ 2147483647 ≤ lastU d.K (2 * j.size)) : startF d j r = (d, lookJ d.K j, 5) := by
  have e1 : lookD d j = lookJ d.K j := by
    unfold lookD
    rw [hq.dn, hq.ps, seen_nil]
    rfl
  have e2 : fullJ (lookJ d.K j) r = true := by
    unfold fullJ
    simp only [Bool.or_eq_true, decide_eq_true_eq]
    exact hp
  unfold startF
  rw [hov, e1, e2]
  rfl
theorem append_full {d : Dk} {j : Jn} {rs : List (List UInt8)} {r : List UInt8} (h : Led d j rs) (hp : j.size - j.used < partsN r.length) : appendF d j r = (d, j, 5) := by
  have h0 := h.l0
  unfold appendF
  rw [h.ov, if_neg (by decide), if_neg (by omega), h.room, if_pos hp]
theorem append_led {d : Dk} {j : Jn} {rs : List (List UInt8)} {r : List UInt8} (h : Led d j rs) (hp : partsN r.length ≤ j.size - j.used) :
    Led (appendF d j r).1 (appendF d j r).2.1 (rs ++ [r]) ∧ (appendF d j r).2.2 = 0 ∧ (appendF d j r).2.1.lap = j.lap ∧ (appendF d j r).2.1.used = j.used + partsN r.length ∧ (appendF d j r).2.1.size = j.size ∧ (appendF d j r).1.K.length = d.K.length ∧ (appendF d j r).1.steps = d.steps + partsN r.length + 1
      ∧ (appendF d j r).2.1.first = j.first ∧ (appendF d j r).1.K = ovw d.K (j.first + j.used) (secsOf j.lap j.recs r) := by
  have h0 := h.l0
  have h1 := h.l1
  have hle := h.le
  have hlen := h.len
  have hs2 := h.s2
  have hsp := partsN_pos r.length
  have hf := h.f
  have hss : (secsOf j.lap j.recs r).length = partsN r.length := secsOf_length _ _ _
  have hn0 : secsOf j.lap j.recs r ≠ [] := fun h => by rw [h] at hss; simp at hss; omega
  have e3 : appendF d j r = (laidD d (j.first + j.used) (secsOf j.lap j.recs r), { j with lap := j.lap, first := j.first, recs := j.recs + 1, used := j.used + partsN r.length, last := max j.last j.lap }, 0) := by
    unfold appendF
    rw [h.ov, if_neg (by decide), if_neg (by omega), h.room, if_neg (by omega)]
    unfold wrF
    rw [wrA_quiet h.qt]
    simp [wrJ, h.ov]
  rw [e3]
  refine ⟨?_, rfl, rfl, rfl, rfl, ovw_length _ _ _, by show d.steps + ((secsOf j.lap j.recs r).length : Int) + 1 = _; rw [hss], rfl, rfl⟩
  have hlays : lays j.lap 0 (rs ++ [r]) = lays j.lap 0 rs ++ secsOf j.lap j.recs r := by rw [lays_snoc, Nat.zero_add, h.rc]
  refine ⟨h.qt.laid _ _, h.ov, h.sz, hs2, ?_, hf, h.fr, h0, h1, ?_, by simp, ?_, ?_, ?_, ?_, ?_, ?_⟩
  · show 2 * j.size ≤ (ovw _ _ _).length
    rw [ovw_length]
    exact hlen
  · show j.recs + 1 = (rs ++ [r]).length
    rw [h.rc]
    simp
  · show j.used + partsN r.length = (lays j.lap 0 (rs ++ [r])).length
    rw [hlays, List.length_append, hss, ← h.us]
  · show j.used + partsN r.length ≤ j.size
    omega
  · intro x hx
    rcases List.mem_append.mp hx with hx | hx
    · exact h.rp x hx
    · rw [List.mem_singleton.mp hx]; omega
  · show ∃ rest, halfL (ovw d.K (j.first + j.used) (secsOf j.lap j.recs r)) j.first j.size = lays j.lap 0 (rs ++ [r]) ++ rest ∧ ∀ s ∈ rest, lapE s < j.lap
    obtain ⟨rest, e, hr⟩ := h.half
    rw [half_in (by omega) (by omega) (by omega), hlays, e, show j.first + j.used - j.first = (lays j.lap 0 rs).length by rw [← h.us]; omega, List.take_left]
    rw [List.drop_append]
    refine ⟨rest.drop (secsOf j.lap j.recs r).length, ?_, fun s hs => hr s (List.mem_of_mem_drop hs)⟩
    simp
  · show ∀ s ∈ halfL (ovw d.K (j.first + j.used) (secsOf j.lap j.recs r)) (j.size - j.first) j.size, lapE s < j.lap
    rw [half_out (by omega) (by omega)]
    exact h.oth
  · show lastU (ovw d.K (j.first + j.used) (secsOf j.lap j.recs r)) (2 * j.size) = j.lap
    exact lastU_ovw hlen (by omega) (secs_lap (by omega)) hn0 (by rw [h.last]; exact Nat.le_refl _)
/-- A new disk is empty. -/
theorem zs_lap : lapE zs = 0 := by decide +kernel
theorem new_last (n m : Nat) : lastU (newD n).K m = 0 := by
  have := lastU_le (newD n).K m 0 (fun i _ => by
    have e : at_ (newD n).K i = zs := by
      unfold at_ newD
      rw [List.getD_eq_getElem?_getD]
      by_cases h : i < n
      · simp [h]
      · simp [h]
    rw [e, zs_lap]
    exact Nat.le_refl _)
  omega
theorem look_none {S : List Sec} {n : Nat} (hn : 0 < n) (hS : 2 * n ≤ S.length) (h : lastU S (2 * n) = 0) : lookL S n = [] ∧ lookF S n = 0 := by
  have h1 := foundN_le (S := S) (f := n) hn (by omega)
  have h2 : foundN (halfL S 0 n) = 0 := by
    rcases foundN_is (halfL S 0 n) with h0 | ⟨_, h0, _⟩
    · exact h0
    · rw [h0, halfL_0 hn (by omega)]
      have := lastU_ge S (2 * n) 0 (by omega)
      omega
  rw [show n + n = 2 * n by omega, h] at h1
  have e1 := found_zero _ h2
  have e2 := found_zero (halfL S n n) (by omega)
  have : pickB S n = true := by unfold pickB; rw [e1]; rfl
  unfold lookL lookF
  rw [this]
  exact ⟨e2, rfl⟩
end Go.Proofs.Ytppdckncnfffcaa
