/-
  Plain mathematics: what is found in a half, and what is looked up, behind a crash that broke off Start or Append. Their conditions: laps below 256.
-/
import Derived.Test.YtppdckncnfffcaaM3
namespace Go.Proofs.Ytppdckncnfffcaa
set_option maxRecDepth 100000

theorem gth_grow (l : List Pt) (lo : Nat) (h : ∀ p ∈ l, p.lap = lo) : ∀ G : Gt, G.rs <+: (l.foldl gth G).rs ∧ (G.lap = lo → (l.foldl gth G).lap = lo) := by
  induction l with
  | nil => intro G; exact ⟨List.prefix_refl _, fun h => h⟩
  | cons p t ih =>
    intro G
    obtain ⟨a, b⟩ := ih (fun q hq => h q (List.mem_cons_of_mem _ hq)) (gth G p)
    rw [List.foldl_cons]
    have hg : G.rs <+: (gth G p).rs ∧ (G.lap = lo → (gth G p).lap = lo) := by
      unfold gth
      split
      · exact ⟨List.prefix_append _ _, fun _ => h p (by simp)⟩
      · exact ⟨List.prefix_refl _, fun h => h⟩
    exact ⟨hg.1.trans a, fun h => b (hg.2 h)⟩
theorem walk_pre (h : List Sec) : ∀ (p : Pt) (h' : List Sec), h'.length = h.length → (∀ i, i < h.length → at_ h' i = at_ h i ∨ lapF (at_ h' i) ≠ p.lap) → p.lap < 4294967296 → walk p h' <+: walk p h := by
  induction h with
  | nil => intro p h' hl _ _; rw [List.eq_nil_of_length_eq_zero hl]; exact List.prefix_refl _
  | cons s r ih =>
    intro p h' hl hp hlt
    cases h' with
    | nil => exact List.nil_prefix
    | cons s' r' =>
      by_cases hn : nextB p s' = true
      · have h0 := hp 0 (by simp)
        have h1 := nextB_lap hn hlt
        rcases h0 with h0 | h0
        · have e : s' = s := h0
          subst e
          rw [walk, if_pos hn, walk, if_pos hn]
          refine List.cons_prefix_cons.mpr ⟨rfl, ih _ r' (by simpa using hl) (fun i hi => ?_) (by rw [nextP_lap]; exact hlt)⟩
          rw [nextP_lap]
          exact hp (i + 1) (by simp; exact hi)
        · exact absurd h1.1 h0
      · rw [walk, if_neg hn]
        exact List.nil_prefix
theorem lapF_lt (s : Sec) : lapF s < 4294967296 := by
  have := num_lt (s.v.take 4)
  rw [List.length_take, s.h] at this
  exact this
theorem found_pre {h h' : List Sec} (hl : h'.length = h.length) (h0 : at_ h' 0 = at_ h 0) (hp : ∀ i, i < h.length → at_ h' i = at_ h i ∨ lapF (at_ h' i) ≠ lapF (at_ h 0)) : foundN h' ≤ foundN h ∧ (foundL h = [] → foundL h' = []) := by
  unfold foundN foundL gathered partsL
  rw [h0]
  by_cases hz : lapF (at_ h 0) = 0
  · rw [if_pos hz, if_pos hz]; exact ⟨Nat.le_refl _, fun h => h⟩
  · rw [if_neg hz, if_neg hz]
    obtain ⟨t, ht⟩ := walk_pre h (p0 (lapF (at_ h 0))) h' hl hp (lapF_lt _)
    have hw := walk_lap (p0 (lapF (at_ h 0))) h
    rw [← ht] at hw ⊢
    rw [List.foldl_append]
    obtain ⟨a, b⟩ := gth_grow t (lapF (at_ h 0)) (fun p hp => hw p (List.mem_append_right _ hp)) ((walk (p0 (lapF (at_ h 0))) h').foldl gth ⟨[], [], 0⟩)
    refine ⟨?_, fun he => ?_⟩
    · rcases gth_lap (walk (p0 (lapF (at_ h 0))) h') (lapF (at_ h 0)) (fun p hp => hw p (List.mem_append_left _ hp)) ⟨[], [], 0⟩ (.inl rfl) with e | e
      · rw [e]; exact Nat.zero_le _
      · rw [b e, e]; exact Nat.le_refl _
    · rw [he] at a
      exact List.prefix_nil.mp a
theorem at_half {S : List Sec} {f n i : Nat} (h : f + n ≤ S.length) (hi : i < n) : at_ (halfL S f n) i = at_ S (f + i) := by
  have h1 := halfL_get S f n i
  rw [if_pos hi, at_get (K := halfL S f n) (by rw [halfL_length h]; exact hi), at_get (K := S) (by omega)] at h1
  injection h1
theorem look_keep {S T : List Sec} {n : Nat} (ho : halfL T (n - lookF S n) n = halfL S (n - lookF S n) n) (hN : foundN (halfL T (lookF S n) n) ≤ foundN (halfL S (lookF S n) n)) (hL : foundL (halfL S (lookF S n) n) = [] → foundL (halfL T (lookF S n) n) = []) : lookL T n = lookL S n := by
  cases hp : pickB S n with
  | true =>
    have e : lookF S n = 0 := by unfold lookF; rw [hp]; rfl
    rw [e] at ho hN hL
    rw [Nat.sub_zero] at ho
    have ht : pickB T n = true := by
      unfold pickB at hp ⊢
      rw [ho]
      simp only [Bool.or_eq_true, decide_eq_true_eq] at hp ⊢
      rcases hp with h | h
      · exact .inl (by rw [hL (List.eq_nil_of_length_eq_zero h)]; rfl)
      · exact .inr (by omega)
    unfold lookL
    rw [hp, ht, if_pos rfl, if_pos rfl, ho]
  | false =>
    have e : lookF S n = n := by unfold lookF; rw [hp]; rfl
    rw [e] at ho hN hL
    rw [Nat.sub_self] at ho
    have ht : pickB T n = false := by
      unfold pickB at hp ⊢
      rw [ho]
      simp only [Bool.or_eq_false_iff, decide_eq_false_iff_not] at hp ⊢
      exact ⟨hp.1, by have := hp.2; omega⟩
    unfold lookL
    rw [hp, ht, if_neg (by decide), if_neg (by decide), ho]
theorem lastU_new {K : List Sec} {p m l : Nat} {ss : List Sec} (hm : m ≤ K.length) (hp : p + ss.length ≤ m) (hs : ∀ i, i < ss.length → lapE (at_ ss i) ≤ l) (hl : lastU K m ≤ l) : lastU (ovw K p ss) m ≤ l := by
  refine lastU_le _ _ _ (fun i hi => ?_)
  rw [at_ovw (by omega)]
  split
  · exact hs _ (by omega)
  · exact Nat.le_trans (lastU_ge K m i hi) hl
theorem drop_head {h : List Sec} {k : Nat} {s : Sec} {r : List Sec} (e : h.drop k = s :: r) : k < h.length ∧ s = at_ h k := by
  have hk : k < h.length := by
    apply Nat.lt_of_not_le
    intro hn
    rw [List.drop_of_length_le hn] at e
    cases e
  refine ⟨hk, ?_⟩
  have h1 : (h.drop k)[0]? = some s := by rw [e]; rfl
  rw [List.getElem?_drop, Nat.add_zero, at_get hk] at h1
  injection h1 with h1
  exact h1.symm
/-- Where the torn ones begin, this lap goes on no further. -/
theorem torn_stops {K : List Sec} {p q t l : Nat} {cs : List UInt8} {ss rest : List Sec} (hq : q ≤ t) (hss : ss.length = t) (hx : q < t → lapE (at_ (torn K p cs 0 ss) q) = lapE (at_ K (p + q))) (hl : q < t → lapE (at_ K (p + q)) < l) (hr : ∀ s ∈ rest, lapE s < l) : Stops l ((torn K p cs 0 ss).drop q ++ rest) := by
  intro s r e
  left
  by_cases h : q < t
  · obtain ⟨a, b, hab⟩ : ∃ a b, (torn K p cs 0 ss).drop q = a :: b := by
      cases h2 : (torn K p cs 0 ss).drop q with
      | nil =>
        have h3 := congrArg List.length h2
        rw [List.length_drop, torn_length, hss] at h3
        simp at h3
        omega
      | cons a b => exact ⟨a, b, rfl⟩
    rw [hab] at e
    injection e with e1 e2
    subst e1
    rw [(drop_head hab).2, hx h]
    have := hl h
    omega
  · rw [List.drop_of_length_le (by rw [torn_length]; omega), List.nil_append] at e
    have := hr s (by rw [e]; simp)
    omega
/-- A crash of Append. -/
theorem crash_append {d : Dk} {j : Jn} {rs : List (List UInt8)} {r cs : List UInt8} {t : Nat} (h : Led d j rs) (hK : SmK d.K) (hl : j.lap < 256) (hp : partsN r.length ≤ j.size - j.used) (ht : t ≤ partsN r.length) :
    lookL (ovw d.K (j.first + j.used) (torn d.K (j.first + j.used) cs 0 ((secsOf j.lap j.recs r).take t))) j.size = rs ∨ lookL (ovw d.K (j.first + j.used) (torn d.K (j.first + j.used) cs 0 ((secsOf j.lap j.recs r).take t))) j.size = rs ++ [r] := by
  have h0 := h.l0
  have hle := h.le
  have hlen := h.len
  have hs2 := h.s2
  have hsz := h.sz
  have hf := h.f
  obtain ⟨ss, hss⟩ : ∃ ss, ss = (secsOf j.lap j.recs r).take t := ⟨_, rfl⟩
  have hsl : ss.length = t := by rw [hss, List.length_take, secsOf_length]; omega
  have hsm : ∀ s ∈ ss, Sm s := fun s hs => secs_sm hl s (by rw [hss] at hs; exact List.mem_of_mem_take hs)
  rw [← hss]
  obtain ⟨tt, htt⟩ : ∃ tt, tt = torn d.K (j.first + j.used) cs 0 ss := ⟨_, rfl⟩
  have htl : tt.length = t := by rw [htt, torn_length, hsl]
  obtain ⟨q, h1, h2, h3⟩ := torn_pre (p := j.first + j.used) (cs := cs) hK hsm t (by omega)
  obtain ⟨rest, e, hr⟩ := h.half
  have hrest : ∀ i, j.used + i < j.size → at_ d.K (j.first + j.used + i) ∈ rest := by
    intro i hi
    have e1 := halfL_get d.K j.first j.size (j.used + i)
    rw [if_pos hi, e, List.getElem?_append_right (by rw [← h.us]; omega), ← h.us, show j.used + i - j.used = i by omega, ← Nat.add_assoc, at_get (K := d.K) (by omega)] at e1
    exact List.mem_of_getElem? e1
  have hhalf : halfL (ovw d.K (j.first + j.used) tt) j.first j.size = lays j.lap 0 rs ++ (tt ++ rest.drop t) := by
    rw [half_in (by omega) (by omega) (by omega), e, show j.first + j.used - j.first = (lays j.lap 0 rs).length by rw [← h.us]; omega, List.take_left, htl, List.drop_append, List.drop_of_length_le (by omega), List.nil_append]
    rw [show (lays j.lap 0 rs).length + t - (lays j.lap 0 rs).length = t by omega]
  have hoth : halfL (ovw d.K (j.first + j.used) tt) (j.size - j.first) j.size = halfL d.K (j.size - j.first) j.size := half_out (by omega) (by omega)
  have hol : foundN (halfL (ovw d.K (j.first + j.used) tt) (j.size - j.first) j.size) < j.lap := by rw [hoth]; exact foundN_lt h0 h.oth
  have hrp : ∀ x ∈ rs, partsN x.length < 65536 := fun x hx => Nat.lt_of_le_of_lt (h.rp x hx) (by decide)
  have hdr : ∀ s ∈ rest.drop t, lapE s < j.lap := fun s hs => hr s (List.mem_of_mem_drop hs)
  rw [← htt] at h2 h3 ⊢
  by_cases hq : q = partsN r.length
  · right
    have ht2 : t = partsN r.length := by omega
    have e3 : tt = secsOf j.lap j.recs r := by
      rw [List.take_of_length_le (by omega), List.take_of_length_le (by omega), hss, List.take_of_length_le (by rw [secsOf_length]; omega)] at h2
      exact h2
    have hl2 : lays j.lap 0 (rs ++ [r]) = lays j.lap 0 rs ++ secsOf j.lap j.recs r := by rw [lays_snoc, Nat.zero_add, h.rc]
    obtain ⟨a, b⟩ := half_recs (lap := j.lap) (rs := rs ++ [r]) (rest := rest.drop t) (by omega) h0 (fun x hx => by
      rcases List.mem_append.mp hx with hx | hx
      · exact hrp x hx
      · rw [List.mem_singleton.mp hx]; omega) (stops_of hdr) (by simp)
    have e4 : lays j.lap 0 (rs ++ [r]) ++ rest.drop t = halfL (ovw d.K (j.first + j.used) tt) j.first j.size := by rw [hhalf, hl2, e3, List.append_assoc]
    rw [e4] at a b
    exact (look_of hf hsz a b (by simp) hol).1
  · left
    have hst : Stops j.lap (tt.drop q ++ rest.drop t) := by
      rw [htt]
      exact torn_stops h1 hsl (fun hq => by have := (h3 hq).2; rw [← htt]; exact this) (fun hq => hr _ (hrest q (by omega))) hdr
    obtain ⟨a, b⟩ := half_found (lap := j.lap) (rs := rs) (x := r) (m := q) (rest := tt.drop q ++ rest.drop t) (by omega) h0 hrp (by omega) (by omega) hst (.inl h.ne)
    rw [if_neg h.ne] at b
    have e5 : (secsOf j.lap rs.length r).take q = tt.take q := by rw [h2, hss, List.take_take, Nat.min_eq_left h1, h.rc]
    have e4 : lays j.lap 0 rs ++ ((secsOf j.lap rs.length r).take q ++ (tt.drop q ++ rest.drop t)) = halfL (ovw d.K (j.first + j.used) tt) j.first j.size := by
      rw [hhalf, e5, ← List.append_assoc (tt.take q), List.take_append_drop]
    rw [e4] at a b
    exact (look_of hf hsz a b h.ne hol).1
/-- A crash of Start. -/
theorem crash_start {K : List Sec} {n t l : Nat} {r cs : List UInt8} (hK : SmK K) (hn : 0 < n) (hn2 : n ≤ 2048) (hlen : 2 * n ≤ K.length) (hl : lastU K (2 * n) < l) (hl2 : l < 256) (hp : partsN r.length ≤ n) (ht : t ≤ partsN r.length) :
    lookL (ovw K (lookF K n) (torn K (lookF K n) cs 0 ((secsOf l 0 r).take t))) n = lookL K n ∨ lookL (ovw K (lookF K n) (torn K (lookF K n) cs 0 ((secsOf l 0 r).take t))) n = [r] := by
  obtain ⟨F, hF⟩ : ∃ F, F = lookF K n := ⟨_, rfl⟩
  have hFor := lookF_or K n
  rw [← hF] at hFor ⊢
  obtain ⟨ss, hss⟩ : ∃ ss, ss = (secsOf l 0 r).take t := ⟨_, rfl⟩
  have hsl : ss.length = t := by rw [hss, List.length_take, secsOf_length]; omega
  have hmem : ∀ s ∈ ss, s ∈ secsOf l 0 r := fun s hs => by rw [hss] at hs; exact List.mem_of_mem_take hs
  have hsm : ∀ s ∈ ss, Sm s := fun s hs => secs_sm hl2 s (hmem s hs)
  rw [← hss]
  obtain ⟨tt, htt⟩ : ∃ tt, tt = torn K F cs 0 ss := ⟨_, rfl⟩
  have htl : tt.length = t := by rw [htt, torn_length, hsl]
  obtain ⟨q, h1, h2, h3⟩ := torn_pre (p := F) (cs := cs) hK hsm t (by omega)
  have hold : ∀ i, F + i < 2 * n → lapE (at_ K (F + i)) < l := fun i hi => Nat.lt_of_le_of_lt (lastU_ge K (2 * n) _ hi) hl
  have hrest : ∀ s ∈ (halfL K F n).drop t, lapE s < l := fun s hs => Nat.lt_of_le_of_lt (half_lt (m := 2 * n) (by omega) (by omega) s (List.mem_of_mem_drop hs)) hl
  have hhalf : halfL (ovw K F tt) F n = tt ++ (halfL K F n).drop t := by
    rw [half_in (Nat.le_refl _) (by omega) (by omega), Nat.sub_self, List.take_zero, List.nil_append, htl, Nat.zero_add]
  have hoth : halfL (ovw K F tt) (n - F) n = halfL K (n - F) n := half_out (by omega) (by omega)
  rw [← htt] at h2 h3 ⊢
  by_cases hq : q = partsN r.length
  · right
    have e3 : tt = secsOf l 0 r := by
      rw [List.take_of_length_le (by omega), List.take_of_length_le (by omega), hss, List.take_of_length_le (by rw [secsOf_length]; omega)] at h2
      exact h2
    obtain ⟨a, b⟩ := half_recs (lap := l) (rs := [r]) (rest := (halfL K F n).drop t) (by omega) (by omega) (fun x hx => by rw [List.mem_singleton.mp hx]; omega) (stops_of hrest) (by simp)
    have e4 : lays l 0 [r] ++ (halfL K F n).drop t = halfL (ovw K F tt) F n := by rw [hhalf, e3]; simp [lays]
    rw [e4] at a b
    refine (look_of hFor hn a b (by simp) ?_).1
    rw [hoth]
    exact foundN_lt (by omega) (fun s hs => Nat.lt_of_le_of_lt (half_lt (m := 2 * n) (by omega) (by omega) s hs) hl)
  · left
    have hko : foundN (halfL (ovw K F tt) F n) ≤ foundN (halfL K F n) ∧ (foundL (halfL K F n) = [] → foundL (halfL (ovw K F tt) F n) = []) := by
      have hzero : foundN (halfL (ovw K F tt) F n) = 0 → foundN (halfL (ovw K F tt) F n) ≤ foundN (halfL K F n) ∧ (foundL (halfL K F n) = [] → foundL (halfL (ovw K F tt) F n) = []) := fun h => ⟨by omega, fun _ => found_zero _ h⟩
      have hat : ∀ i, i < n → at_ (halfL (ovw K F tt) F n) i = if i < t then at_ tt i else at_ K (F + i) := by
        intro i hi
        rw [at_half (by rw [ovw_length]; omega) hi, at_ovw (by omega), htl]
        by_cases h : i < t
        · rw [if_pos (by omega), if_pos h, show F + i - F = i by omega]
        · rw [if_neg (by omega), if_neg h]
      by_cases hq0 : 0 < q
      · apply hzero
        have hst : Stops l (tt.drop q ++ (halfL K F n).drop t) := by
          rw [htt]
          exact torn_stops h1 hsl (fun hq => by have := (h3 hq).2; rw [← htt]; exact this) (fun hq => hold q (by omega)) hrest
        obtain ⟨_, b⟩ := half_found (lap := l) (rs := []) (x := r) (m := q) (rest := tt.drop q ++ (halfL K F n).drop t) (by omega) (by omega) (by simp) (by omega) (by omega) hst (.inr hq0)
        have e5 : (secsOf l 0 r).take q = tt.take q := by rw [h2, hss, List.take_take, Nat.min_eq_left h1]
        have e4 : lays l 0 [] ++ ((secsOf l ([] : List (List UInt8)).length r).take q ++ (tt.drop q ++ (halfL K F n).drop t)) = halfL (ovw K F tt) F n := by
          rw [hhalf]
          show [] ++ ((secsOf l 0 r).take q ++ _) = _
          rw [List.nil_append, e5, ← List.append_assoc (tt.take q), List.take_append_drop]
        rw [e4] at b
        simpa using b
      · have hq1 : q = 0 := by omega
        subst hq1
        by_cases ht0 : t = 0
        · have e0 : tt = [] := List.eq_nil_of_length_eq_zero (by omega)
          rw [e0]
          exact ⟨Nat.le_refl _, fun h => h⟩
        · obtain ⟨hm, hE⟩ := h3 (by omega)
          have hE0 := hold 0 (by omega)
          have h0t : at_ (halfL (ovw K F tt) F n) 0 = at_ tt 0 := by rw [hat 0 hn, if_pos (by omega)]
          have h0k : at_ (halfL K F n) 0 = at_ K F := by rw [at_half (by omega) hn, Nat.add_zero]
          have htt0 : at_ tt 0 = lay (at_ K (F + 0)) (at_ ss 0) (pick cs 0) := by rw [htt, torn_at (by omega)]
          by_cases hm4 : 4 ≤ pick cs 0
          · apply hzero
            rcases foundN_is (halfL (ovw K F tt) F n) with h | ⟨ha, hb, _⟩
            · exact h
            · rw [h0t] at ha hb
              have hlf : lapF (at_ tt 0) = l := by rw [htt0, lay_lapF hm4 (by omega)]; exact secs_lapF (by omega) _ (hmem _ (at_mem2 (by omega)))
              omega
          · have hsame : at_ tt 0 = at_ K F := by rw [htt0, lay_old (hK _) (hsm _ (at_mem2 (by omega))) (by omega)]; rfl
            by_cases hfe : lapF (at_ K F) = lapE (at_ K F)
            · refine found_pre (by rw [halfL_length (by rw [ovw_length]; omega), halfL_length (by omega)]) (by rw [h0t, h0k, hsame]) (fun i hi => ?_)
              rw [halfL_length (by omega)] at hi
              rw [h0k, hat i hi, at_half (by omega) hi]
              by_cases hit : i < t
              · rw [if_pos hit, htt, torn_at (by omega)]
                by_cases hi4 : 4 ≤ pick cs i
                · right
                  rw [lay_lapF hi4 (pick_lt _ _), secs_lapF (by omega) _ (hmem _ (at_mem2 (by omega)))]
                  rw [Nat.add_zero] at hE0
                  omega
                · left
                  exact lay_old (hK _) (hsm _ (at_mem2 (by omega))) (by omega)
              · rw [if_neg hit]
                exact .inl rfl
            · apply hzero
              rcases foundN_is (halfL (ovw K F tt) F n) with h | ⟨ha, hb, _⟩
              · exact h
              · rw [h0t, hsame] at ha hb
                omega
    subst hF
    exact look_keep hoth hko.1 hko.2
end Go.Proofs.Ytppdckncnfffcaa
