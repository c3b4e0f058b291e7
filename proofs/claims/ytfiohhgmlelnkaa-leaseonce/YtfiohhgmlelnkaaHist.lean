/-
  What was granted, one behind the other, and how it stands to a table, apart from memory. Its conditions: none.
-/
import Derived.Test.YtfiohhgmlelnkaaMath
namespace Go.Proofs.Ytfiohhgmlelnkaa

/-- What was granted: the token, the key, the ticks since (-1: it is over). -/
structure Rc where
  t : Int
  k : ByteArray
  s : Int
def toLs (T : Int) (r : Rc) : Ls := ⟨r.k, r.t, T - r.s⟩
/-- The leases that are left. -/
def live (T : Int) (H : List Rc) : List Ls := (H.filter fun r => decide (0 ≤ r.s)).map (toLs T)
structure Hist (T last : Int) (H : List Rc) (L : List Ls) : Prop where
  eq : L = live T H
  tok : ∀ r ∈ H, r.t ≤ last
  nd : (H.map (·.t)).Nodup
  sin : ∀ r ∈ H, -1 ≤ r.s ∧ r.s < T
  t1 : 1 ≤ T
theorem Hist.nil {T last : Int} (h : 1 ≤ T) : Hist T last [] [] := ⟨rfl, by simp, by simp, by simp, h⟩
theorem live_append (T : Int) (H M : List Rc) : live T (H ++ M) = live T H ++ live T M := by simp [live]
theorem mem_live {T : Int} {H : List Rc} {l : Ls} : l ∈ live T H ↔ ∃ r ∈ H, 0 ≤ r.s ∧ l = toLs T r := by
  unfold live
  rw [List.mem_map]
  constructor
  · rintro ⟨r, hr, rfl⟩
    obtain ⟨h1, h2⟩ := List.mem_filter.mp hr
    exact ⟨r, h1, by simpa using h2, rfl⟩
  · rintro ⟨r, hr, h1, rfl⟩
    exact ⟨r, List.mem_filter.mpr ⟨hr, by simpa using h1⟩, rfl⟩
/-- One more is granted. -/
theorem Hist.grant {T last : Int} {H : List Rc} {L : List Ls} (h : Hist T last H L) (k : ByteArray) : Hist T (last + 1) (H ++ [⟨last + 1, k, 0⟩]) (L ++ [⟨k, last + 1, T⟩]) := by
  refine ⟨?_, ?_, ?_, ?_, h.t1⟩
  · rw [live_append, ← h.eq]
    simp [live, toLs]
  · intro r hr
    rcases List.mem_append.mp hr with hr | hr
    · have := h.tok r hr
      omega
    · simp at hr
      subst hr
      exact Int.le_refl _
  · rw [List.map_append]
    refine List.nodup_append.mpr ⟨h.nd, by simp, ?_⟩
    intro a ha b hb e
    simp at hb
    obtain ⟨r, hr, rfl⟩ := List.mem_map.mp ha
    have := h.tok r hr
    omega
  · intro r hr
    rcases List.mem_append.mp hr with hr | hr
    · exact h.sin r hr
    · simp at hr
      subst hr
      have := h.t1
      show -1 ≤ (0 : Int) ∧ (0 : Int) < T
      omega
/-- With other numbers of ticks. -/
def put (r : Rc) (s : Int) : Rc := ⟨r.t, r.k, s⟩
def puts (F : Rc → Int) (H : List Rc) : List Rc := H.map fun r => put r (F r)
theorem puts_t (F : Rc → Int) (H : List Rc) : (puts F H).map (·.t) = H.map (·.t) := by
  unfold puts
  rw [List.map_map]
  rfl
theorem puts_k (F : Rc → Int) (H : List Rc) : (puts F H).map (·.k) = H.map (·.k) := by
  unfold puts
  rw [List.map_map]
  rfl
theorem puts_s (F : Rc → Int) (H : List Rc) : (puts F H).map (·.s) = H.map F := by
  unfold puts
  rw [List.map_map]
  rfl
theorem Hist.puts {T last : Int} {H : List Rc} {L M : List Ls} (h : Hist T last H L) (F : Rc → Int) (hF : ∀ r ∈ H, -1 ≤ F r ∧ F r < T) (hM : M = live T (puts F H)) : Hist T last (puts F H) M := by
  refine ⟨hM, ?_, by rw [puts_t]; exact h.nd, ?_, h.t1⟩
  · intro r hr
    obtain ⟨x, hx, rfl⟩ := List.mem_map.mp hr
    exact h.tok x hx
  · intro r hr
    obtain ⟨x, hx, rfl⟩ := List.mem_map.mp hr
    exact hF x hx
/-- Some are over, all else stays. -/
theorem live_over {T : Int} (H : List Rc) (p : Rc → Bool) : live T (puts (fun r => if p r then -1 else r.s) H) = ((H.filter fun r => decide (0 ≤ r.s)).filter fun r => !p r).map (toLs T) := by
  induction H with
  | nil => rfl
  | cons r H ih =>
    have e : live T (puts (fun r => if p r then -1 else r.s) (r :: H)) = live T [put r (if p r then -1 else r.s)] ++ live T (puts (fun r => if p r then -1 else r.s) H) := by
      rw [← live_append]
      rfl
    rw [e, ih]
    by_cases h1 : p r = true
    · by_cases h2 : 0 ≤ r.s
      · simp [live, put, h1, h2]
      · simp [live, put, h1, h2]
    · by_cases h2 : 0 ≤ r.s
      · simp [live, put, h1, h2, toLs]
      · simp [live, put, h1, h2]
def killF (key : ByteArray) (r : Rc) : Int := if decide (r.k = key) then -1 else r.s
def useP (key : ByteArray) (t : Int) (r : Rc) : Bool := decide (r.t = t) && decide (r.k = key) && decide (0 ≤ r.s)
def useF (key : ByteArray) (t : Int) (r : Rc) : Int := if useP key t r then -1 else r.s
def tickS (r : Rc) : Int := if 0 ≤ r.s then r.s + 1 else r.s
def tickF (T : Int) (r : Rc) : Int := if T ≤ tickS r then -1 else tickS r
def clearF (_ : Rc) : Int := -1
theorem filter_map' {α β : Type} (f : α → β) (p : β → Bool) (l : List α) : (l.map f).filter p = (l.filter (p ∘ f)).map f := List.filter_map
theorem Hist.kill {T last : Int} {H : List Rc} {L : List Ls} (h : Hist T last H L) (key : ByteArray) : Hist T last (Ytfiohhgmlelnkaa.puts (killF key) H) (drp L key) := by
  refine h.puts _ ?_ ?_
  · intro r hr
    have := h.sin r hr
    have := h.t1
    unfold killF
    split <;> omega
  · have := live_over (T := T) H fun r => decide (r.k = key)
    unfold killF
    rw [this, h.eq]
    unfold drp live
    rw [filter_map']
    congr 1
    refine List.filter_congr fun r _ => ?_
    by_cases e : r.k = key <;> simp [toLs, e]
theorem Hist.clear {T last : Int} {H : List Rc} {L : List Ls} (h : Hist T last H L) : Hist T last (Ytfiohhgmlelnkaa.puts clearF H) [] := by
  refine h.puts _ ?_ ?_
  · intro r _
    have := h.t1
    unfold clearF
    omega
  · unfold live Ytfiohhgmlelnkaa.puts clearF
    rw [filter_map']
    have e : (H.filter ((fun r : Rc => decide (0 ≤ r.s)) ∘ fun r => put r (-1))) = [] := by
      rw [List.filter_eq_nil_iff]
      intro r _
      simp [put]
    rw [e]
    rfl
theorem Hist.tick {T last : Int} {H : List Rc} {L : List Ls} (h : Hist T last H L) : Hist T last (Ytfiohhgmlelnkaa.puts (tickF T) H) (tck L) := by
  refine h.puts _ ?_ ?_
  · intro r hr
    have := h.sin r hr
    have := h.t1
    unfold tickF tickS
    split <;> split at * <;> omega
  · rw [h.eq]
    have hs := h.sin
    have ht := h.t1
    clear h
    induction H with
    | nil => rfl
    | cons r H ih =>
      have e1 : live T (Ytfiohhgmlelnkaa.puts (tickF T) (r :: H)) = live T [put r (tickF T r)] ++ live T (Ytfiohhgmlelnkaa.puts (tickF T) H) := by
        rw [← live_append]
        rfl
      have e2 : tck (live T (r :: H)) = tck (live T [r]) ++ tck (live T H) := by
        have : live T (r :: H) = live T [r] ++ live T H := by rw [← live_append]; rfl
        rw [this]
        simp [tck]
      rw [e1, e2, ih fun x hx => hs x (by simp [hx])]
      congr 1
      have h1 := hs r (by simp)
      by_cases h2 : 0 ≤ r.s
      · by_cases h3 : T ≤ r.s + 1
        · have h4 : T - r.s = 1 := by omega
          simp [live, put, tck, toLs, tickF, tickS, h2, h3, h4]
        · have h4 : ¬ T - r.s = 1 := by omega
          have h5 : 0 ≤ r.s + 1 := by omega
          simp [live, put, tck, toLs, tickF, tickS, h2, h3, h4, h5, dec]
          omega
      · have h3 : ¬ T ≤ r.s := by omega
        simp [live, put, tck, tickF, tickS, h2, h3]
theorem fnd_of {L : List Ls} (hn : (keys L).Nodup) {l : Ls} (hl : l ∈ L) : fnd L l.k = some l := by
  cases hf : fnd L l.k with
  | none => exact absurd (List.mem_map_of_mem hl) (fnd_none.mp hf)
  | some m =>
    obtain ⟨h1, h2⟩ := fnd_some hf
    obtain ⟨A, C, rfl⟩ := List.append_of_mem hl
    have hn' : (keys A ++ l.k :: keys C).Nodup := by simpa [keys] using hn
    obtain ⟨_, h3, h4⟩ := List.nodup_append.mp hn'
    rcases List.mem_append.mp h1 with h1 | h1
    · exact absurd h2 (h4 _ (List.mem_map_of_mem h1) _ (by simp))
    · rcases List.mem_cons.mp h1 with rfl | h1
      · rfl
      · exact absurd (h2 ▸ List.mem_map_of_mem h1) (List.nodup_cons.mp h3).1
theorem Hist.used {T last : Int} {H : List Rc} {L : List Ls} (h : Hist T last H L) (hn : (keys L).Nodup) (key : ByteArray) (t : Int) : useB L key t = H.any (useP key t) := by
  rw [Bool.eq_iff_iff, List.any_eq_true]
  unfold useB
  constructor
  · intro hu
    cases hf : fnd L key with
    | none => rw [hf] at hu; cases hu
    | some l =>
      rw [hf] at hu
      simp at hu
      obtain ⟨h1, h2⟩ := fnd_some hf
      rw [h.eq] at h1
      obtain ⟨r, hr, h3, rfl⟩ := mem_live.mp h1
      exact ⟨r, hr, by simp [useP, h3]; exact ⟨hu, h2⟩⟩
  · rintro ⟨r, hr, hp⟩
    simp [useP] at hp
    obtain ⟨⟨h1, h2⟩, h3⟩ := hp
    have hm : toLs T r ∈ L := by rw [h.eq]; exact mem_live.mpr ⟨r, hr, h3, rfl⟩
    have := fnd_of hn hm
    rw [show (toLs T r).k = key from h2] at this
    rw [this]
    simp
    exact h1
theorem Hist.use {T last : Int} {H : List Rc} {L : List Ls} (h : Hist T last H L) (hn : (keys L).Nodup) (key : ByteArray) (t : Int) : Hist T last (Ytfiohhgmlelnkaa.puts (useF key t) H) (useL L key t) := by
  refine h.puts _ ?_ ?_
  · intro r hr
    have := h.sin r hr
    have := h.t1
    unfold useF
    split <;> omega
  · have e := live_over (T := T) H (useP key t)
    unfold useF
    rw [e]
    unfold useL
    rw [h.used hn]
    by_cases ha : H.any (useP key t) = true
    · rw [if_pos ha, h.eq]
      obtain ⟨x, hx, hp⟩ := List.any_eq_true.mp ha
      simp [useP] at hp
      obtain ⟨⟨h1, h2⟩, h3⟩ := hp
      unfold drp live
      rw [filter_map']
      congr 1
      refine List.filter_congr fun r hr => ?_
      obtain ⟨hr1, hr2⟩ := List.mem_filter.mp hr
      simp at hr2
      by_cases hk : r.k = key
      · have m1 : toLs T r ∈ L := by rw [h.eq]; exact mem_live.mpr ⟨r, hr1, hr2, rfl⟩
        have m2 : toLs T x ∈ L := by rw [h.eq]; exact mem_live.mpr ⟨x, hx, h3, rfl⟩
        have e1 := fnd_of hn m1
        have e2 := fnd_of hn m2
        rw [show (toLs T r).k = key from hk] at e1
        rw [show (toLs T x).k = key from h2, e1] at e2
        injection e2 with e2
        have : r.t = x.t := congrArg Ls.t e2
        simp [useP, toLs, hk, this, h1, hr2]
      · simp [useP, toLs, hk]
    · rw [if_neg ha, h.eq]
      unfold live
      congr 1
      symm
      rw [List.filter_eq_self]
      intro r hr
      obtain ⟨hr1, _⟩ := List.mem_filter.mp hr
      have : ¬ useP key t r = true := fun hp => ha (List.any_eq_true.mpr ⟨r, hr1, hp⟩)
      simp [this]
/-- The first j have their new numbers. -/
def sUpto (F : Rc → Int) (j : Nat) (H : List Rc) : List Int := (H.take j).map F ++ (H.drop j).map (·.s)
theorem sUpto_zero (F : Rc → Int) (H : List Rc) : sUpto F 0 H = H.map (·.s) := by simp [sUpto]
theorem sUpto_all (F : Rc → Int) (H : List Rc) : sUpto F H.length H = H.map F := by simp [sUpto]
theorem sUpto_length (F : Rc → Int) (j : Nat) (H : List Rc) : (sUpto F j H).length = H.length := by simp [sUpto]; omega
theorem sUpto_get (F : Rc → Int) {j : Nat} {H : List Rc} (h : j < H.length) : (sUpto F j H)[j]? = some H[j].s := by
  unfold sUpto
  rw [List.getElem?_append_right (by simp; omega)]
  simp [h, Nat.min_eq_left (Nat.le_of_lt h)]
theorem sUpto_set (F : Rc → Int) {j : Nat} {H : List Rc} (h : j < H.length) : (sUpto F j H).set j (F H[j]) = sUpto F (j + 1) H := by
  unfold sUpto
  rw [List.take_succ_eq_append_getElem h, List.drop_eq_getElem_cons h, List.map_append, List.map_cons, List.set_append_right _ _ (by simp; omega)]
  simp [Nat.min_eq_left (Nat.le_of_lt h)]
theorem sUpto_same (F : Rc → Int) {j : Nat} {H : List Rc} (h : j < H.length) (he : F H[j] = H[j].s) : sUpto F (j + 1) H = sUpto F j H := by
  rw [← sUpto_set F h, he]
  apply List.ext_getElem?
  intro i
  rw [List.getElem?_set]
  split
  · rename_i e
    subst e
    rw [sUpto_get F h, if_pos (by rw [sUpto_length]; exact h)]
  · rfl
end Go.Proofs.Ytfiohhgmlelnkaa
