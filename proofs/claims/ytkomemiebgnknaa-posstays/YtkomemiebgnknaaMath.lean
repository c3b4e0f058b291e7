/-
  The mathematics of tables and positions: what is right, what is on the branch, where a way leaves it. Its conditions: none.
-/
namespace Go.Proofs.Ytkomemiebgnknaa
/-- An epoch. -/
structure Ep where
  M : Int
  C : Int
  F : Bool
namespace Ps

def outB (x : Ep) : Bool := decide (x.M < 1) || decide (4 < x.M) || decide (x.C < 0) || decide (512 < x.C)
theorem outB_false {x : Ep} : outB x = false ↔ 1 ≤ x.M ∧ x.M ≤ 4 ∧ 0 ≤ x.C ∧ x.C ≤ 512 := by
  unfold outB
  simp [Bool.or_eq_false_iff]
  omega
theorem outB_true {x : Ep} : outB x = true ↔ ¬ (1 ≤ x.M ∧ x.M ≤ 4 ∧ 0 ≤ x.C ∧ x.C ≤ 512) := by
  rw [← outB_false]
  simp

structure Right (l : List Ep) : Prop where
  pos : 1 ≤ l.length
  few : l.length ≤ 64
  ok : ∀ x ∈ l, outB x = false
  first : ∀ x, l[0]? = some x → x.C = 0 ∧ x.F = false
def firstB (l : List Ep) : Bool := match l[0]? with
  | none => false
  | some x => decide (x.C = 0) && !x.F
def rightB (l : List Ep) : Bool := decide (1 ≤ l.length) && decide (l.length ≤ 64) && firstB l && !l.any outB
theorem rightB_iff {l : List Ep} : rightB l = true ↔ Right l := by
  unfold rightB
  rw [Bool.and_eq_true, Bool.and_eq_true, Bool.and_eq_true]
  constructor
  · rintro ⟨⟨⟨h1, h2⟩, h3⟩, h4⟩
    refine ⟨of_decide_eq_true h1, of_decide_eq_true h2, fun x hx => ?_, fun x hx => ?_⟩
    · simp at h4
      exact h4 x hx
    · unfold firstB at h3
      rw [hx] at h3
      simpa using h3
  · rintro ⟨h1, h2, h3, h4⟩
    refine ⟨⟨⟨decide_eq_true h1, decide_eq_true h2⟩, ?_⟩, ?_⟩
    · have hx := List.getElem?_eq_getElem (l := l) (i := 0) (by omega)
      have := h4 _ hx
      unfold firstB
      rw [hx]
      simpa using this
    · simp
      exact h3
theorem Right.of {l : List Ep} (h : rightB l = true) : Right l := rightB_iff.mp h
theorem rightB_false {l : List Ep} : rightB l = false ↔ ¬ Right l := by
  rw [← rightB_iff]
  simp

/-- The Cut of the epoch at place k (its number is k + 1). -/
def cutAt (l : List Ep) (k : Nat) : Int := match l[k]? with
  | some x => x.C
  | none => 0
theorem cutAt_get {l : List Ep} {k : Nat} (h : k < l.length) : cutAt l k = l[k].C := by
  unfold cutAt
  rw [List.getElem?_eq_getElem h]
theorem cutAt_take {l : List Ep} {k m : Nat} (h : k < m) : cutAt (l.take m) k = cutAt l k := by
  unfold cutAt
  rw [List.getElem?_take, if_pos h]
theorem Right.cut {l : List Ep} (h : Right l) (k : Nat) : 0 ≤ cutAt l k ∧ cutAt l k ≤ 512 := by
  unfold cutAt
  cases hk : l[k]? with
  | none => simp
  | some x =>
    have := outB_false.mp (h.ok x (List.mem_of_getElem? hk))
    exact ⟨this.2.2.1, this.2.2.2⟩
theorem Right.cut0 {l : List Ep} (h : Right l) : cutAt l 0 = 0 := by
  unfold cutAt
  cases hk : l[0]? with
  | none => rfl
  | some x => exact (h.first x hk).1
theorem Right.take {l : List Ep} (h : Right l) {n : Nat} (hn : 1 ≤ n) : Right (l.take n) := by
  obtain ⟨h1, h2, h3, h4⟩ := h
  refine ⟨by rw [List.length_take]; omega, by rw [List.length_take]; omega, fun x hx => h3 x (List.mem_of_mem_take hx), fun x hx => h4 x ?_⟩
  rwa [List.getElem?_take, if_pos (by omega)] at hx

/-- Of the first n epochs the last one whose Cut is below i: its number. -/
def topE (l : List Ep) (i : Int) : Nat → Nat
  | 0 => 0
  | n + 1 => if cutAt l n < i then n + 1 else topE l i n
theorem topE_le (l : List Ep) (i : Int) (n : Nat) : topE l i n ≤ n := by
  induction n with
  | zero => exact Nat.le_refl _
  | succ n ih => unfold topE; split <;> omega
theorem topE_mono (l : List Ep) {i j : Int} (h : i ≤ j) (n : Nat) : topE l i n ≤ topE l j n := by
  induction n with
  | zero => exact Nat.le_refl _
  | succ n ih =>
    have := topE_le l i n
    unfold topE
    split
    · rw [if_pos (by omega)]; omega
    · split <;> omega
theorem topE_spec (l : List Ep) (i : Int) (n : Nat) (h : 0 < topE l i n) : cutAt l (topE l i n - 1) < i := by
  induction n with
  | zero => simp [topE] at h
  | succ n ih =>
    unfold topE at h ⊢
    split
    · simpa using ‹_›
    · rw [if_neg ‹_›] at h
      exact ih h
theorem topE_over (l : List Ep) (i : Int) (n k : Nat) (h1 : topE l i n ≤ k) (h2 : k < n) : i ≤ cutAt l k := by
  induction n with
  | zero => omega
  | succ n ih =>
    unfold topE at h1
    split at h1
    · omega
    · rcases Nat.lt_or_ge k n with hk | hk
      · exact ih h1 hk
      · obtain rfl : k = n := by omega
        omega
theorem topE_eq {l : List Ep} {i : Int} {n e : Nat} (h1 : e ≤ n) (h2 : 0 < e → cutAt l (e - 1) < i) (h3 : ∀ k, e ≤ k → k < n → i ≤ cutAt l k) : topE l i n = e := by
  induction n with
  | zero => simp [topE]; omega
  | succ n ih =>
    unfold topE
    rcases Nat.lt_or_ge n e with hn | hn
    · obtain rfl : e = n + 1 := by omega
      rw [if_pos (by simpa using h2 (by omega))]
    · rw [if_neg (by have := h3 n hn (by omega); omega)]
      exact ih hn (fun k hk hkn => h3 k hk (by omega))
theorem topE_take {l : List Ep} {i : Int} {n m : Nat} (h : n ≤ m) : topE (l.take m) i n = topE l i n := by
  induction n with
  | zero => rfl
  | succ n ih => unfold topE; rw [cutAt_take (by omega), ih (by omega)]
theorem Right.top {l : List Ep} (h : Right l) {i : Int} (hi : 1 ≤ i) {n : Nat} (hn : 1 ≤ n) : 1 ≤ topE l i n := by
  rcases Nat.eq_zero_or_pos (topE l i n) with h0 | h0
  · have := topE_over l i n 0 (by omega) (by omega)
    rw [h.cut0] at this
    omega
  · exact h0
theorem Right.top0 {l : List Ep} (h : Right l) (n : Nat) : topE l 0 n = 0 := topE_eq (Nat.zero_le _) (by omega) fun k _ _ => (h.cut k).1

/-- The first epoch, of those behind the e-th up to the n-th, that cuts index i off: its number (0: none). -/
def cutter (l : List Ep) (e : Nat) (i : Int) : Nat → Nat
  | 0 => 0
  | n + 1 => if n < e then 0 else if cutter l e i n ≠ 0 then cutter l e i n else if cutAt l n < i then n + 1 else 0
/-- Up to which index the way and the branch are one. -/
def shared (l : List Ep) (e : Nat) (i : Int) : Nat → Int
  | 0 => i
  | n + 1 => if n < e then i else min (shared l e i n) (cutAt l n)
theorem cutter_base (l : List Ep) (e : Nat) (i : Int) (n : Nat) (h : n ≤ e) : cutter l e i n = 0 := by
  cases n with
  | zero => rfl
  | succ n => unfold cutter; rw [if_pos (by omega)]
theorem shared_base (l : List Ep) (e : Nat) (i : Int) (n : Nat) (h : n ≤ e) : shared l e i n = i := by
  cases n with
  | zero => rfl
  | succ n => unfold shared; rw [if_pos (by omega)]
theorem cutter_succ (l : List Ep) (e : Nat) (i : Int) (n : Nat) (h : e ≤ n) : cutter l e i (n + 1) = if cutter l e i n ≠ 0 then cutter l e i n else if cutAt l n < i then n + 1 else 0 := by
  rw [cutter, if_neg (by omega)]
theorem shared_succ (l : List Ep) (e : Nat) (i : Int) (n : Nat) (h : e ≤ n) : shared l e i (n + 1) = min (shared l e i n) (cutAt l n) := by
  rw [shared, if_neg (by omega)]
theorem cutter_take {l : List Ep} {e : Nat} {i : Int} {n m : Nat} (h : n ≤ m) : cutter (l.take m) e i n = cutter l e i n := by
  induction n with
  | zero => rfl
  | succ n ih => unfold cutter; rw [cutAt_take (by omega), ih (by omega)]
theorem cutter_zero {l : List Ep} {e : Nat} {i : Int} {n : Nat} : cutter l e i n = 0 ↔ ∀ k, e ≤ k → k < n → i ≤ cutAt l k := by
  induction n with
  | zero => simp [cutter]
  | succ n ih =>
    rcases Nat.lt_or_ge n e with hn | hn
    · rw [cutter_base _ _ _ _ (by omega)]
      simp
      omega
    · rw [cutter_succ _ _ _ _ hn]
      by_cases hz : cutter l e i n = 0
      · rw [if_neg (by omega)]
        have := ih.mp hz
        by_cases hc : cutAt l n < i
        · rw [if_pos hc]
          constructor
          · omega
          · intro h
            have := h n hn (by omega)
            omega
        · rw [if_neg hc]
          refine ⟨fun _ k hk hkn => ?_, fun _ => rfl⟩
          rcases Nat.lt_or_ge k n with hk2 | hk2
          · exact this k hk hk2
          · obtain rfl : k = n := by omega
            omega
      · rw [if_pos hz]
        refine ⟨fun h => absurd h hz, fun h => absurd (ih.mpr fun k hk hkn => h k hk (by omega)) hz⟩
theorem cutter_pos {l : List Ep} {e : Nat} {i : Int} {n : Nat} (h : cutter l e i n ≠ 0) : e < cutter l e i n ∧ cutter l e i n ≤ n ∧ cutAt l (cutter l e i n - 1) < i ∧ ∀ k, e ≤ k → k < cutter l e i n - 1 → i ≤ cutAt l k := by
  induction n with
  | zero => exact absurd rfl h
  | succ n ih =>
    rcases Nat.lt_or_ge n e with hn | hn
    · rw [cutter_base _ _ _ _ (by omega)] at h
      exact absurd rfl h
    · rw [cutter_succ _ _ _ _ hn] at h ⊢
      by_cases hz : cutter l e i n = 0
      · rw [if_neg (by omega)] at h ⊢
        by_cases hc : cutAt l n < i
        · rw [if_pos hc]
          exact ⟨by omega, by omega, by simpa using hc, fun k hk hkn => cutter_zero.mp hz k hk (by omega)⟩
        · rw [if_neg hc] at h
          exact absurd rfl h
      · rw [if_pos hz]
        obtain ⟨h1, h2, h3, h4⟩ := ih hz
        exact ⟨h1, by omega, h3, h4⟩
theorem shared_le (l : List Ep) (e : Nat) (i : Int) (n : Nat) : shared l e i n ≤ i := by
  induction n with
  | zero => exact Int.le_refl _
  | succ n ih => unfold shared; split <;> omega
theorem shared_cut {l : List Ep} {e : Nat} {i : Int} {n k : Nat} (h1 : e ≤ k) (h2 : k < n) : shared l e i n ≤ cutAt l k := by
  induction n with
  | zero => omega
  | succ n ih =>
    rw [shared_succ _ _ _ _ (by omega)]
    rcases Nat.lt_or_ge k n with hk | hk
    · have := ih hk
      omega
    · obtain rfl : k = n := by omega
      omega
theorem shared_or (l : List Ep) (e : Nat) (i : Int) (n : Nat) : shared l e i n = i ∨ ∃ k, e ≤ k ∧ k < n ∧ shared l e i n = cutAt l k := by
  induction n with
  | zero => exact .inl rfl
  | succ n ih =>
    rcases Nat.lt_or_ge n e with hn | hn
    · exact .inl (shared_base _ _ _ _ (by omega))
    · rw [shared_succ _ _ _ _ hn]
      rcases Int.le_total (shared l e i n) (cutAt l n) with hc | hc
      · rw [Int.min_eq_left hc]
        rcases ih with h | ⟨k, h1, h2, h3⟩
        · exact .inl h
        · exact .inr ⟨k, h1, by omega, h3⟩
      · rw [Int.min_eq_right hc]
        exact .inr ⟨n, hn, by omega, rfl⟩
theorem Right.shared {l : List Ep} (h : Right l) {e : Nat} {i : Int} (hi : 0 ≤ i) (n : Nat) : 0 ≤ Ps.shared l e i n := by
  rcases shared_or l e i n with hs | ⟨k, _, _, hs⟩
  · omega
  · have := (h.cut k).1
    omega
theorem shared_whole {l : List Ep} {e : Nat} {i : Int} {n : Nat} (h : cutter l e i n = 0) : shared l e i n = i := by
  rcases shared_or l e i n with hs | ⟨k, h1, h2, hs⟩
  · exact hs
  · have := cutter_zero.mp h k h1 h2
    have := shared_le l e i n
    omega
theorem shared_part {l : List Ep} {e : Nat} {i : Int} {n : Nat} (h : cutter l e i n ≠ 0) : shared l e i n < i := by
  obtain ⟨h1, h2, h3, _⟩ := cutter_pos h
  have := shared_cut (l := l) (e := e) (i := i) (n := n) (k := cutter l e i n - 1) (by omega) (by omega)
  omega
/-- Where own branch and whole branch have one epoch. -/
theorem top_same {l : List Ep} {e n : Nat} {i k : Int} (he : e ≤ n) (hki : k ≤ i) : topE l k e = topE l k n ↔ k ≤ shared l e i n := by
  constructor
  · intro h
    rcases shared_or l e i n with hs | ⟨j, h1, h2, hs⟩
    · omega
    · rw [hs]
      have h3 := topE_le l k e
      exact topE_over l k n j (by omega) h2
  · intro h
    symm
    refine topE_eq (Nat.le_trans (topE_le _ _ _) he) (fun h0 => topE_spec l k e h0) (fun j h1 h2 => ?_)
    rcases Nat.lt_or_ge j e with hj | hj
    · exact topE_over l k e j h1 hj
    · have := shared_cut (l := l) (e := e) (i := i) hj h2
      omega
/-- An index has another epoch behind just if it has been cut off. -/
theorem top_own {l : List Ep} {e n : Nat} {i : Int} (he : e ≤ n) (hc : cutAt l (e - 1) < i) : topE l i n = e ↔ cutter l e i n = 0 := by
  rw [cutter_zero]
  constructor
  · intro h k h1 h2
    exact topE_over l i n k (by omega) h2
  · intro h
    exact topE_eq he (fun _ => hc) h

/-- Is it a position of a table? -/
def Is (l : List Ep) (e i : Int) : Prop := (e = 0 ∧ i = 0) ∨ (1 ≤ e ∧ e ≤ l.length ∧ cutAt l (e.toNat - 1) < i ∧ i ≤ 512)
def isB (l : List Ep) (e i : Int) : Bool := (decide (e = 0) && decide (i = 0)) || (decide (1 ≤ e) && decide (e ≤ l.length) && decide (cutAt l (e.toNat - 1) < i) && decide (i ≤ 512))
theorem isB_iff {l : List Ep} {e i : Int} : isB l e i = true ↔ Is l e i := by
  unfold isB Is
  simp
  omega
theorem isB_false {l : List Ep} {e i : Int} : isB l e i = false ↔ ¬ Is l e i := by
  rw [← isB_iff]
  simp
theorem Is.nat {l : List Ep} {e i : Int} (h : Is l e i) (hr : Right l) : ∃ k : Nat, e = (k : Int) ∧ k ≤ l.length ∧ 0 ≤ i ∧ i ≤ 512 ∧ (i = 0 → k = 0) ∧ (k = 0 → i = 0) ∧ (1 ≤ k → cutAt l (k - 1) < i) := by
  rcases h with ⟨rfl, rfl⟩ | ⟨h1, h2, h3, h4⟩
  · exact ⟨0, rfl, Nat.zero_le _, by omega, by omega, fun _ => rfl, fun _ => rfl, by omega⟩
  · have := (hr.cut (e.toNat - 1)).1
    exact ⟨e.toNat, by omega, by omega, by omega, h4, by omega, by omega, fun _ => h3⟩

/-- What is told of a table and a position. -/
def posB (l : List Ep) (e i : Int) : Bool := rightB l && isB l e i
def cutN (l : List Ep) (e i : Int) : Nat := if posB l e i then cutter l e.toNat i l.length else 0
def forcedAt (l : List Ep) (k : Nat) : Bool := match l[k]? with
  | some x => x.F
  | none => false
def cutF (l : List Ep) (e i : Int) : Bool := if cutN l e i = 0 then false else forcedAt l (cutN l e i - 1)
def onB (l : List Ep) (e i : Int) : Bool := posB l e i && decide (cutter l e.toNat i l.length = 0)
def atB (l : List Ep) (i : Int) : Bool := rightB l && decide (1 ≤ i) && decide (i ≤ 512)
def atE (l : List Ep) (i : Int) : Int := if atB l i then (topE l i l.length : Nat) else 0
def atI (l : List Ep) (i : Int) : Int := if atB l i then i else 0
def baseS (l : List Ep) (e i : Int) : Int := if posB l e i then shared l e.toNat i l.length else 0
def covB (l : List Ep) (e i fe fi : Int) : Bool := onB l e i && onB l fe fi && decide (fi ≤ i)

theorem posB_iff {l : List Ep} {e i : Int} : posB l e i = true ↔ Right l ∧ Is l e i := by
  unfold posB
  rw [Bool.and_eq_true, rightB_iff, isB_iff]
theorem onB_iff {l : List Ep} {e i : Int} : onB l e i = true ↔ Right l ∧ Is l e i ∧ cutter l e.toNat i l.length = 0 := by
  unfold onB
  rw [Bool.and_eq_true, posB_iff, decide_eq_true_iff, and_assoc]
theorem atB_iff {l : List Ep} {i : Int} : atB l i = true ↔ Right l ∧ 1 ≤ i ∧ i ≤ 512 := by
  unfold atB
  rw [Bool.and_eq_true, Bool.and_eq_true, rightB_iff, decide_eq_true_iff, decide_eq_true_iff, and_assoc]
theorem onB_zero {l : List Ep} (h : Right l) : onB l 0 0 = true := onB_iff.mpr ⟨h, .inl ⟨rfl, rfl⟩, cutter_zero.mpr fun k _ _ => (h.cut k).1⟩
theorem at_in {l : List Ep} {i : Int} (h : Right l) (h1 : 1 ≤ i) (h2 : i ≤ 512) : atE l i = (topE l i l.length : Nat) ∧ atI l i = i := by
  have := atB_iff.mpr ⟨h, h1, h2⟩
  unfold atE atI
  rw [this]
  exact ⟨rfl, rfl⟩
theorem at_out {l : List Ep} {i : Int} (h : ¬ (Right l ∧ 1 ≤ i ∧ i ≤ 512)) : atE l i = 0 ∧ atI l i = 0 := by
  have : atB l i = false := by
    rw [← atB_iff] at h
    simpa using h
  unfold atE atI
  rw [this]
  exact ⟨rfl, rfl⟩
/-- The position of an index is on the branch. -/
theorem on_top {l : List Ep} {i : Int} (h : Right l) (h1 : 1 ≤ i) (h2 : i ≤ 512) : onB l (topE l i l.length : Nat) i = true := by
  have ht := h.top h1 h.pos
  have hle := topE_le l i l.length
  have hsp := topE_spec l i l.length ht
  refine onB_iff.mpr ⟨h, .inr ⟨by omega, by omega, by simpa using hsp, h2⟩, ?_⟩
  rw [Int.toNat_natCast, ← top_own hle hsp]
theorem on_at {l : List Ep} (h : Right l) (i : Int) : onB l (atE l i) (atI l i) = true := by
  by_cases hi : 1 ≤ i ∧ i ≤ 512
  · obtain ⟨e1, e2⟩ := at_in h hi.1 hi.2
    rw [e1, e2]
    exact on_top h hi.1 hi.2
  · obtain ⟨e1, e2⟩ := at_out (l := l) (i := i) (fun h => hi h.2)
    rw [e1, e2]
    exact onB_zero h
/-- What is on the branch is the position of its index. -/
theorem on_is_at {l : List Ep} {e i : Int} (h : onB l e i = true) : e = atE l i ∧ i = atI l i := by
  obtain ⟨hr, hi, hc⟩ := onB_iff.mp h
  obtain ⟨k, rfl, h1, h2, h3, h4, h5, h6⟩ := hi.nat hr
  rw [Int.toNat_natCast] at hc
  by_cases hz : i = 0
  · obtain ⟨e1, e2⟩ := at_out (l := l) (i := i) (by omega)
    rw [e1, e2, hz, h4 hz]
    exact ⟨rfl, rfl⟩
  · obtain ⟨e1, e2⟩ := at_in hr (i := i) (by omega) h3
    rw [e1, e2]
    have hk : 1 ≤ k := by omega
    exact ⟨by rw [(top_own h1 (h6 hk)).mpr hc], rfl⟩
theorem atI_le (l : List Ep) {i : Int} (h : 0 ≤ i) : atI l i ≤ i := by
  unfold atI
  split <;> omega
theorem atI_nonneg (l : List Ep) (i : Int) : 0 ≤ atI l i ∧ atI l i ≤ 512 := by
  by_cases h : atB l i = true
  · have := atB_iff.mp h
    unfold atI
    rw [if_pos h]
    omega
  · unfold atI
    rw [if_neg h]
    omega
theorem baseS_le {l : List Ep} {e i : Int} (h : posB l e i = true) : 0 ≤ baseS l e i ∧ baseS l e i ≤ i ∧ i ≤ 512 := by
  obtain ⟨hr, hi⟩ := posB_iff.mp h
  obtain ⟨k, rfl, h1, h2, h3, h4, h5, h6⟩ := hi.nat hr
  unfold baseS
  rw [if_pos h]
  exact ⟨hr.shared h2 _, shared_le _ _ _ _, h3⟩
/-- The Base of what is on the branch is itself. -/
theorem base_on {l : List Ep} {e i : Int} (h : onB l e i = true) : atE l (baseS l e i) = e ∧ atI l (baseS l e i) = i := by
  obtain ⟨hr, hi, hc⟩ := onB_iff.mp h
  have hs : baseS l e i = i := by
    unfold baseS
    rw [if_pos (posB_iff.mpr ⟨hr, hi⟩)]
    exact shared_whole hc
  rw [hs]
  obtain ⟨e1, e2⟩ := on_is_at h
  exact ⟨e1.symm, e2.symm⟩
theorem cutN_on {l : List Ep} {e i : Int} (h : posB l e i = true) : onB l e i = decide (cutN l e i = 0) := by
  unfold onB cutN
  rw [h, if_pos rfl]
  rfl
theorem on_off {l : List Ep} {e i : Int} (h : posB l e i = false) : onB l e i = false := by
  unfold onB
  rw [h]
  rfl
theorem cutN_off {l : List Ep} {e i : Int} (h : posB l e i = false) : cutN l e i = 0 := by
  unfold cutN
  rw [h]
  rfl
theorem on_cutN {l : List Ep} {e i : Int} (h : onB l e i = true) : cutN l e i = 0 ∧ cutF l e i = false := by
  obtain ⟨hr, hi, hc⟩ := onB_iff.mp h
  have h0 : cutN l e i = 0 := by
    unfold cutN
    rw [if_pos (posB_iff.mpr ⟨hr, hi⟩)]
    exact hc
  exact ⟨h0, by unfold cutF; rw [if_pos h0]⟩
theorem cov_self (l : List Ep) (e i : Int) : covB l e i e i = onB l e i := by
  unfold covB
  cases onB l e i <;> simp
/-- What is on the branch was so on that of each beginning that has its epoch. -/
theorem on_take {l : List Ep} {e i : Int} {n : Nat} (h : onB l e i = true) (h1 : 1 ≤ n) (h2 : n ≤ l.length) (h3 : e ≤ n) : onB (l.take n) e i = true := by
  obtain ⟨hr, hi, hc⟩ := onB_iff.mp h
  have hlen : (l.take n).length = n := by rw [List.length_take]; omega
  refine onB_iff.mpr ⟨hr.take h1, ?_, ?_⟩
  · rcases hi with hz | ⟨a, b, c, d⟩
    · exact .inl hz
    · exact .inr ⟨a, by rw [hlen]; exact h3, by rw [cutAt_take (by omega)]; exact c, d⟩
  · rw [hlen, cutter_take (Nat.le_refl _)]
    rw [cutter_zero] at hc ⊢
    exact fun k a b => hc k a (by omega)
/-- What has been cut off: by whom, and till then it was on the branch. -/
theorem cut_facts {l : List Ep} {e i : Int} (h : cutN l e i ≠ 0) : onB l e i = false ∧ e < cutN l e i ∧ cutN l e i ≤ l.length ∧ cutAt l (cutN l e i - 1) < i ∧ onB (l.take (cutN l e i - 1)) e i = true := by
  have hp : posB l e i = true := by
    cases hp : posB l e i with
    | true => rfl
    | false => exact absurd (cutN_off hp) h
  have hof : onB l e i = false := by rw [cutN_on hp]; exact decide_eq_false h
  obtain ⟨hr, hi⟩ := posB_iff.mp hp
  have hcn : cutN l e i = cutter l e.toNat i l.length := by unfold cutN; rw [if_pos hp]
  rw [hcn] at h ⊢
  obtain ⟨h1, h2, h3, h4⟩ := cutter_pos h
  obtain ⟨k, rfl, g1, g2, g3, g4, g5, g6⟩ := hi.nat hr
  rw [Int.toNat_natCast] at *
  have hc0 := (hr.cut (cutter l k i l.length - 1)).1
  have hk : 1 ≤ k := by omega
  have hlen : (l.take (cutter l k i l.length - 1)).length = cutter l k i l.length - 1 := by rw [List.length_take]; omega
  refine ⟨hof, by omega, h2, h3, onB_iff.mpr ⟨hr.take (by omega), .inr ⟨by omega, by omega, ?_, g3⟩, ?_⟩⟩
  · rw [Int.toNat_natCast, cutAt_take (by omega)]
    exact g6 hk
  · rw [Int.toNat_natCast, hlen, cutter_take (Nat.le_refl _), cutter_zero]
    exact h4

/-- The first n epochs of two tables are the same. -/
def sameB (x y : Ep) : Bool := decide (x.M = y.M) && decide (x.C = y.C) && (x.F == y.F)
def sameAt (l m : List Ep) (k : Nat) : Bool := match l[k]?, m[k]? with
  | some x, some y => sameB x y
  | _, _ => false
def sameN (l m : List Ep) : Nat → Bool
  | 0 => true
  | n + 1 => sameN l m n && sameAt l m n
theorem sameB_self (x : Ep) : sameB x x = true := by simp [sameB]
theorem sameAt_get {l m : List Ep} {k : Nat} (h : k < l.length) (h2 : k < m.length) : sameAt l m k = sameB l[k] m[k] := by
  unfold sameAt
  rw [List.getElem?_eq_getElem h, List.getElem?_eq_getElem h2]
theorem sameN_false {l m : List Ep} {k n : Nat} (h : sameAt l m k = false) (hk : k < n) : sameN l m n = false := by
  induction n with
  | zero => omega
  | succ n ih =>
    unfold sameN
    rcases Nat.lt_or_ge k n with hkn | hkn
    · rw [ih hkn]; rfl
    · obtain rfl : k = n := by omega
      rw [h, Bool.and_false]
theorem sameN_take {l m : List Ep} {n q : Nat} (h : n ≤ q) : sameN l (m.take q) n = sameN l m n := by
  induction n with
  | zero => rfl
  | succ n ih =>
    unfold sameN
    rw [ih (by omega)]
    unfold sameAt
    rw [List.getElem?_take, if_pos (by omega)]
theorem sameN_self (l : List Ep) {n : Nat} (h : n ≤ l.length) : sameN l l n = true := by
  induction n with
  | zero => rfl
  | succ n ih => unfold sameN; rw [ih (by omega), sameAt_get (by omega) (by omega), sameB_self]; rfl
def extB (l m : List Ep) : Bool := rightB l && rightB m && decide (l.length ≤ m.length) && sameN l m l.length
theorem ext_self (l : List Ep) : extB l l = rightB l := by
  unfold extB
  rw [sameN_self l (Nat.le_refl _)]
  cases rightB l <;> simp
end Ps
end Go.Proofs.Ytkomemiebgnknaa
