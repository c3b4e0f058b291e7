/-
  Plain mathematics: what the document's Records and Open come to is what is found. Their conditions: as said.
-/
import Derived.Test.YtppdckncnfffcaaG5
namespace Go.Proofs.Ytppdckncnfffcaa
set_option maxRecDepth 100000

theorem nextB_is {p : Pt} {s : Sec} (h : nextB p s = true) : ptS (nextP p s) = s ∧ fitsP (nextP p s) = true := by
  unfold nextB at h
  obtain ⟨h1, h2⟩ := Bool.and_eq_true_iff.mp h
  have h2 := of_decide_eq_true h2
  exact ⟨by unfold ptS; rw [h2, secOf_eq], h1⟩
theorem bsF_le (s : Sec) : (bsF s).length ≤ 47 := by rw [bsF_length]; exact lenF_le s
theorem piece_end (acc bs : List UInt8) (i : Nat) (h1 : acc.length = i * 47) (h2 : bs.length ≤ 47) : piece (acc ++ bs) i = bs := by
  unfold piece
  rw [← h1, List.drop_left, List.take_of_length_le h2]
theorem piece_mid {r acc bs : List UInt8} {i : Nat} (h : r.take ((i + 1) * 47) = acc ++ bs) (h1 : acc.length = i * 47) : r.take (i * 47) = acc ∧ piece r i = bs := by
  have e : r.take ((i + 1) * 47) = r.take (i * 47) ++ piece r i := by
    unfold piece
    rw [show (i + 1) * 47 = i * 47 + 47 by omega, List.take_add]
  rw [e] at h
  have hl : (r.take (i * 47)).length = acc.length := by
    have h2 := congrArg List.length h
    have h3 := piece_length r i
    rw [List.length_append, List.length_append] at h2
    rw [List.length_take] at h2 ⊢
    omega
  exact List.append_inj h hl
theorem map_from {α : Type} (f : Nat → α) (i n : Nat) (h : i < n) : ((List.range (n - i)).map fun x => f (i + x)) = f i :: (List.range (n - (i + 1))).map fun x => f (i + 1 + x) := by
  rw [show n - i = (n - (i + 1)) + 1 by omega, map_range_succ]
  congr 1
  apply List.map_congr_left
  intro x _
  rw [show i + (0 + 1 + x) = i + 1 + x by omega]
/-- In the midst of a record: it isn't ended, or its parts stand there. -/
theorem mid_rec {lap k n : Nat} (rest : List Sec) : ∀ (i : Nat) (acc : List UInt8) (p : Pt), p.num = i → p.of = n → p.lap = lap → p.rn = (k : Int) → 1 ≤ i → i < n → acc.length = i * 47 → ∀ (R : List (List UInt8)) (l : Nat),
    ((walk p rest).foldl gth ⟨acc, R, l⟩).rs = R ∨ ∃ (r : List UInt8) (t : List Sec), rest = ((List.range (n - i)).map fun x => ptS (ptOf lap k r (i + x))) ++ t ∧ partsN r.length = n ∧ r.take (i * 47) = acc := by
  induction rest with
  | nil => intro i acc p _ _ _ _ _ _ _ R l; exact .inl rfl
  | cons s t ih =>
    intro i acc p h1 h2 h3 h4 h5 h6 h7 R l
    by_cases hn : nextB p s = true
    · obtain ⟨e1, e2⟩ := nextB_is hn
      have e3 := bsF_le s
      have eq : nextP p s = ⟨lap, (k : Int), i + 1, n, bsF s⟩ := by
        unfold nextP
        rw [if_neg (by omega), h1, h2, h3, h4]
      rw [eq] at e1 e2
      have hw : walk p (s :: t) = ⟨lap, (k : Int), i + 1, n, bsF s⟩ :: walk ⟨lap, (k : Int), i + 1, n, bsF s⟩ t := by rw [walk, if_pos hn, eq]
      rw [hw, List.foldl_cons]
      unfold fitsP at e2
      dsimp only at e2
      by_cases hlast : i + 1 = n
      · right
        rw [if_neg (by omega)] at e2
        simp only [Bool.and_eq_true, decide_eq_true_eq, Bool.or_eq_true] at e2
        have hb : 0 < (bsF s).length := by rcases e2.2 with h | h <;> omega
        have hp : partsN (acc ++ bsF s).length = n := by
          rw [List.length_append]
          refine partsN_of (by omega) (by omega) (fun _ => by rw [show n - 1 = i by omega]; omega)
        refine ⟨acc ++ bsF s, t, ?_, hp, ?_⟩
        · rw [show n - i = 0 + 1 by omega, map_range_succ]
          have e : ptOf lap k (acc ++ bsF s) (i + 0) = ⟨lap, (k : Int), i + 1, n, bsF s⟩ := by
            unfold ptOf
            rw [hp]
            simp only [Nat.add_zero, piece_end acc _ i h7 e3]
          simp only [e, e1]
          rfl
        · rw [← h7, List.take_left]
      · rw [if_pos (by omega)] at e2
        have hb : (bsF s).length = 47 := of_decide_eq_true e2
        have hg : gth ⟨acc, R, l⟩ ⟨lap, (k : Int), i + 1, n, bsF s⟩ = ⟨acc ++ bsF s, R, l⟩ := by
          unfold gth
          rw [if_neg (by show ¬ i + 1 = n; omega)]
        rw [hg]
        rcases ih (i + 1) (acc ++ bsF s) ⟨lap, (k : Int), i + 1, n, bsF s⟩ rfl rfl rfl rfl (by omega) (by omega) (by rw [List.length_append]; omega) R l with h | ⟨r, t', e, hp, ht⟩
        · exact .inl h
        · right
          obtain ⟨a1, a2⟩ := piece_mid ht h7
          refine ⟨r, t', ?_, hp, a1⟩
          have e5 : ptOf lap k r i = ⟨lap, (k : Int), i + 1, n, bsF s⟩ := by
            unfold ptOf
            rw [hp, a2]
          have e6 := map_from (fun x => ptS (ptOf lap k r x)) i n h6
          have e7 : ptS (ptOf lap k r i) = s := by rw [← e1]; exact congrArg ptS e5
          rw [e6, e7, e, List.cons_append]
    · left
      rw [walk, if_neg hn]
      rfl
theorem first_rec {lap k : Nat} {p : Pt} (hp : Ends lap k p) (rest : List Sec) (R : List (List UInt8)) (l : Nat) : ((walk p rest).foldl gth ⟨[], R, l⟩).rs = R ∨ ∃ (r : List UInt8) (t : List Sec), rest = secsOf lap k r ++ t := by
  cases rest with
  | nil => exact .inl rfl
  | cons s t =>
    by_cases hn : nextB p s = true
    · obtain ⟨e1, e2⟩ := nextB_is hn
      have e3 := bsF_le s
      have eq : nextP p s = ⟨lap, (k : Int), 1, ofF s, bsF s⟩ := by
        unfold nextP
        rw [if_pos hp.e, hp.l, hp.n]
      rw [eq] at e1 e2
      have hw : walk p (s :: t) = ⟨lap, (k : Int), 1, ofF s, bsF s⟩ :: walk ⟨lap, (k : Int), 1, ofF s, bsF s⟩ t := by rw [walk, if_pos hn, eq]
      rw [hw, List.foldl_cons]
      unfold fitsP at e2
      dsimp only at e2
      by_cases hlast : 1 < ofF s
      · rw [if_pos hlast] at e2
        have hb : (bsF s).length = 47 := of_decide_eq_true e2
        have hg : gth ⟨[], R, l⟩ ⟨lap, (k : Int), 1, ofF s, bsF s⟩ = ⟨bsF s, R, l⟩ := by
          unfold gth
          rw [if_neg (by show ¬ 1 = ofF s; omega)]
          rfl
        rw [hg]
        rcases mid_rec (lap := lap) (k := k) (n := ofF s) t 1 (bsF s) ⟨lap, (k : Int), 1, ofF s, bsF s⟩ rfl rfl rfl rfl (Nat.le_refl _) hlast (by omega) R l with h | ⟨r, t', e, hp2, ht⟩
        · exact .inl h
        · right
          refine ⟨r, t', ?_⟩
          have hpc : piece r 0 = bsF s := by
            unfold piece
            rw [show 0 * 47 = 0 from rfl, List.drop_zero, ← ht]
          have e5 : ptOf lap k r 0 = ⟨lap, (k : Int), 1, ofF s, bsF s⟩ := by
            unfold ptOf
            rw [hp2, hpc]
          unfold secsOf
          rw [hp2, show ofF s = (ofF s - 1) + 1 by omega, map_range_succ, e5, e1, e]
          rfl
      · rw [if_neg hlast] at e2
        simp only [Bool.and_eq_true, decide_eq_true_eq, Bool.or_eq_true] at e2
        right
        have hp2 : partsN (bsF s).length = 1 := partsN_of (Nat.le_refl _) (by omega) (by omega)
        refine ⟨bsF s, t, ?_⟩
        have e5 : ptOf lap k (bsF s) 0 = ⟨lap, (k : Int), 1, ofF s, bsF s⟩ := by
          unfold ptOf
          rw [hp2, ← e2.1]
          have := piece_end [] (bsF s) 0 rfl e3
          rw [List.nil_append] at this
          rw [this]
        unfold secsOf
        rw [hp2]
        show s :: t = ptS (ptOf lap k (bsF s) 0) :: ([] ++ t)
        rw [e5, e1, List.nil_append]
    · left
      rw [walk, if_neg hn]
      rfl
/-- Records that stand at a half's begin, and no further one. -/
theorem found_max {lap : Nat} (h0 : 0 < lap) {rs : List (List UInt8)} (hr : ∀ r ∈ rs, partsN r.length < 65536) {rest : List Sec} (hl : lapF (at_ (lays lap 0 rs ++ rest) 0) = lap) (hm : ∀ r, ¬ secsOf lap rs.length r <+: rest) : foundL (lays lap 0 rs ++ rest) = rs := by
  unfold foundL gathered partsL
  rw [hl, if_neg (by omega)]
  obtain ⟨q, hq, e⟩ := walk_recs rs hr 0 (p0 lap) (Ends.p0 lap) rest
  rw [Nat.zero_add] at hq
  rw [e, List.foldl_append, gth_recs]
  rcases first_rec hq rest ([] ++ rs) (if rs = [] then 0 else lap) with h | ⟨r, t, e⟩
  · rw [h]
    rfl
  · exact absurd ⟨t, e.symm⟩ (hm r)
/-- The bytes of some sectors, one behind the other. -/
def catB (h : List Sec) (a : Nat) : Nat → List UInt8
  | 0 => []
  | n + 1 => catB h a n ++ bsF (at_ h (a + n))
theorem catB_length (h : List Sec) (a n : Nat) : (catB h a n).length ≤ n * 47 := by
  induction n with
  | zero => exact Nat.le_refl _
  | succ n ih =>
    rw [catB, List.length_append]
    have := bsF_le (at_ h (a + n))
    omega
theorem sec_at {lap k a : Nat} {r : List UInt8} {h : List Sec} (hp : secsOf lap k r <+: h.drop a) {i : Nat} (hi : i < partsN r.length) : at_ h (a + i) = ptS (ptOf lap k r i) := by
  obtain ⟨t, e⟩ := hp
  have h1 : (h.drop a)[i]? = some (ptS (ptOf lap k r i)) := by
    rw [← e, List.getElem?_append_left (by rw [secsOf_length]; exact hi), secsOf_at lap k r hi]
  rw [List.getElem?_drop] at h1
  unfold at_
  rw [List.getD_eq_getElem?_getD, h1]
  rfl
theorem catB_rec {lap k a : Nat} {r : List UInt8} {h : List Sec} (hp : secsOf lap k r <+: h.drop a) (n : Nat) (hn : n ≤ partsN r.length) : catB h a n = r.take (n * 47) := by
  induction n with
  | zero => simp [catB]
  | succ n ih =>
    rw [catB, ih (by omega), sec_at hp (by omega), bsF_pt (ptOf_len lap k r n)]
    show r.take (n * 47) ++ piece r n = _
    unfold piece
    rw [show (n + 1) * 47 = n * 47 + 47 by omega, List.take_add]
/-- Where a further record stands, the document finds it. -/
theorem rec_there {lap k a : Nat} {r : List UInt8} {h : List Sec} (hp : secsOf lap k r <+: h.drop a) (hb : h.length < 65536) : ofF (at_ h a) = partsN r.length ∧ partsN r.length ≤ h.length - a ∧ catB h a (ofF (at_ h a)) = r := by
  have hl : partsN r.length ≤ h.length - a := by
    have := hp.length_le
    rw [secsOf_length, List.length_drop] at this
    exact this
  have h1 := sec_at hp (i := 0) (partsN_pos _)
  rw [Nat.add_zero] at h1
  have h2 : ofF (at_ h a) = partsN r.length := by
    rw [h1, ofF_pt (ptOf_len lap k r 0) (by show partsN r.length < 65536; omega)]
    rfl
  refine ⟨h2, hl, ?_⟩
  rw [h2, catB_rec hp _ (Nat.le_refl _), List.take_of_length_le (partsN_le _)]
/-- Where what would be written stands, there is the record. -/
theorem rec_is {lap k a n : Nat} {r : List UInt8} {h : List Sec} (hn : (secsOf lap k r).length = n) (hle : n ≤ h.length - a) (hs : ∀ i, i < n → at_ (secsOf lap k r) i = at_ h (a + i)) : h.drop a = secsOf lap k r ++ h.drop (a + n) := by
  apply List.ext_getElem?
  intro i
  by_cases hi : i < n
  · rw [List.getElem?_append_left (by omega), List.getElem?_drop, at_get (by omega), at_get (by omega), hs i hi]
  · rw [List.getElem?_append_right (by omega), List.getElem?_drop, List.getElem?_drop, hn, show a + n + (i - n) = a + i by omega]
/-- In the midst of the document's Records. -/
structure RecI (h : List Sec) (lap a : Nat) (out : List (List UInt8)) : Prop where
  e : h = lays lap 0 out ++ h.drop a
  pos : a = (lays lap 0 out).length
  le : a ≤ h.length
  rp : ∀ r ∈ out, partsN r.length < 65536
theorem lays_len (lap : Nat) (rs : List (List UInt8)) : ∀ k, rs.length ≤ (lays lap k rs).length := by
  induction rs with
  | nil => intro k; exact Nat.le_refl _
  | cons r t ih =>
    intro k
    rw [lays, List.length_append, secsOf_length, List.length_cons]
    have := ih (k + 1)
    have := partsN_pos r.length
    omega
section
variable {h : List Sec} {lap a n : Nat} {out : List (List UInt8)}
theorem RecI.zero : RecI h lap 0 [] := ⟨rfl, rfl, Nat.zero_le _, by simp⟩
theorem RecI.ct (i : RecI h lap a out) : out.length ≤ a := by
  have := lays_len lap out 0
  rw [← i.pos] at this
  exact this
theorem RecI.stop (i : RecI h lap a out) (h0 : 0 < lap) (hl : lapF (at_ h 0) = lap) (hm : ∀ r, ¬ secsOf lap out.length r <+: h.drop a) : foundL h = out := by
  have e := found_max h0 i.rp (rest := h.drop a) (by rw [← i.e]; exact hl) hm
  rw [← i.e] at e
  exact e
theorem RecI.next (i : RecI h lap a out) (hb : h.length < 65536) (hn : (secsOf lap out.length (catB h a n)).length = n) (hle : n ≤ h.length - a) (hs : ∀ j, j < n → at_ (secsOf lap out.length (catB h a n)) j = at_ h (a + j)) : RecI h lap (a + n) (out ++ [catB h a n]) := by
  have hd := rec_is hn hle hs
  have hla : lays lap 0 (out ++ [catB h a n]) = lays lap 0 out ++ secsOf lap out.length (catB h a n) := by rw [lays_snoc, Nat.zero_add]
  have hle2 := i.le
  refine ⟨?_, ?_, by omega, fun r hr => ?_⟩
  · rw [hla, List.append_assoc, ← hd]
    exact i.e
  · rw [hla, List.length_append, hn, ← i.pos]
  · rcases List.mem_append.mp hr with hr | hr
    · exact i.rp r hr
    · rw [List.mem_singleton.mp hr]
      rw [secsOf_length] at hn
      omega
end
theorem found_noLap {h : List Sec} (hl : lapF (at_ h 0) = 0) : foundL h = [] := by
  unfold foundL gathered partsL
  rw [hl, if_pos rfl]
  rfl
theorem gth_both (l : List Pt) : ∀ G : Gt, (G.rs = [] → G.lap = 0) → ((l.foldl gth G).rs = [] → (l.foldl gth G).lap = 0) := by
  induction l with
  | nil => intro G hG; exact hG
  | cons p t ih =>
    intro G hG
    rw [List.foldl_cons]
    refine ih _ ?_
    unfold gth
    split
    · intro h
      simp at h
    · exact hG
theorem found_lap {h : List Sec} : (foundL h = [] → foundN h = 0) ∧ (foundL h ≠ [] → foundN h = lapF (at_ h 0) ∧ 0 < lapF (at_ h 0)) := by
  refine ⟨gth_both _ ⟨[], [], 0⟩ (fun _ => rfl), fun hne => ?_⟩
  rcases foundN_is h with h0 | ⟨h1, _, _⟩
  · exact absurd (found_zero h h0) hne
  · refine ⟨h1, ?_⟩
    by_cases hz : lapF (at_ h 0) = 0
    · exact absurd (found_noLap hz) hne
    · omega
/-- The document's Open, half by half. -/
structure Oj where
  L : List (List UInt8)
  H : Int
  lap : Nat
def oAt (S : List Sec) (n : Nat) : Nat → Oj
  | 0 => ⟨[], -1, 0⟩
  | h + 1 => if 0 < (foundL (halfL S (h * n) n)).length ∧ (oAt S n h).lap < lapF (at_ S (h * n)) then ⟨foundL (halfL S (h * n) n), (h : Int), lapF (at_ S (h * n))⟩ else oAt S n h
def openO (S : List Sec) (n : Nat) : Oj := oAt S n 2
theorem lapF_lt (s : Sec) : lapF s < 4294967296 := by
  have h := num_lt (s.v.take 4)
  rw [List.length_take, s.h] at h
  exact h
theorem oAt_lap (S : List Sec) (n : Nat) (h : Nat) : (oAt S n h).lap < 4294967296 := by
  induction h with
  | zero =>
    show 0 < 4294967296
    decide
  | succ h ih =>
    rw [oAt]
    split
    · exact lapF_lt _
    · exact ih
theorem open_is {S : List Sec} {n : Nat} (hn : 0 < n) (hS : 2 * n ≤ S.length) : (openO S n).L = lookL S n ∧ lookF S n = (if (openO S n).H = 0 then n else 0) := by
  have e0 := halfL_0 (S := S) (first := 0) hn (by omega)
  have e1 := halfL_0 (S := S) (first := n) hn (by omega)
  obtain ⟨a1, a2⟩ := found_lap (h := halfL S 0 n)
  obtain ⟨b1, b2⟩ := found_lap (h := halfL S n n)
  rw [e0] at a2
  rw [e1] at b2
  unfold openO
  have h0 : oAt S n 1 = if 0 < (foundL (halfL S 0 n)).length ∧ 0 < lapF (at_ S 0) then ⟨foundL (halfL S 0 n), 0, lapF (at_ S 0)⟩ else ⟨[], -1, 0⟩ := by
    show (if 0 < (foundL (halfL S (0 * n) n)).length ∧ 0 < lapF (at_ S (0 * n)) then _ else _) = _
    rw [Nat.zero_mul]
    rfl
  have h1 : oAt S n 2 = if 0 < (foundL (halfL S n n)).length ∧ (oAt S n 1).lap < lapF (at_ S n) then ⟨foundL (halfL S n n), 1, lapF (at_ S n)⟩ else oAt S n 1 := by
    show (if 0 < (foundL (halfL S (1 * n) n)).length ∧ (oAt S n 1).lap < lapF (at_ S (1 * n)) then _ else _) = _
    rw [Nat.one_mul]
    rfl
  by_cases z0 : foundL (halfL S 0 n) = []
  · have hp : pickB S n = true := by unfold pickB; rw [z0]; rfl
    have hz : ¬ (0 < (foundL (halfL S 0 n)).length ∧ 0 < lapF (at_ S 0)) := by rw [z0]; simp
    rw [if_neg hz] at h0
    rw [h0] at h1
    have hl : lookL S n = foundL (halfL S n n) := by unfold lookL; rw [hp]; rfl
    have hf : lookF S n = 0 := by unfold lookF; rw [hp]; rfl
    rw [hl, hf]
    by_cases z1 : foundL (halfL S n n) = []
    · rw [if_neg (by rw [z1]; simp)] at h1
      rw [h1]
      exact ⟨z1.symm, rfl⟩
    · obtain ⟨_, h3⟩ := b2 z1
      rw [if_pos ⟨List.length_pos_iff.mpr z1, h3⟩] at h1
      rw [h1]
      exact ⟨rfl, rfl⟩
  · obtain ⟨h2, h3⟩ := a2 z0
    rw [if_pos ⟨List.length_pos_iff.mpr z0, h3⟩] at h0
    rw [h0] at h1
    have hz : (foundL (halfL S 0 n)).length ≠ 0 := fun h => z0 (List.eq_nil_of_length_eq_zero h)
    have no : pickB S n = false → oAt S n 2 = ⟨foundL (halfL S 0 n), 0, lapF (at_ S 0)⟩ → (oAt S n 2).L = lookL S n ∧ lookF S n = (if (oAt S n 2).H = 0 then n else 0) := by
      intro hp e
      have hl : lookL S n = foundL (halfL S 0 n) := by unfold lookL; rw [hp]; rfl
      have hf : lookF S n = n := by unfold lookF; rw [hp]; rfl
      rw [hl, hf, e]
      exact ⟨rfl, rfl⟩
    by_cases z1 : foundL (halfL S n n) = []
    · rw [if_neg (by rw [z1]; simp)] at h1
      refine no ?_ h1
      unfold pickB
      rw [b1 z1, h2]
      simp only [Bool.or_eq_false_iff, decide_eq_false_iff_not]
      exact ⟨hz, by omega⟩
    · obtain ⟨h4, h5⟩ := b2 z1
      by_cases hc : lapF (at_ S 0) < lapF (at_ S n)
      · rw [if_pos ⟨List.length_pos_iff.mpr z1, hc⟩] at h1
        have hp : pickB S n = true := by
          unfold pickB
          rw [h4, h2]
          simp only [Bool.or_eq_true, decide_eq_true_eq]
          exact .inr hc
        have hl : lookL S n = foundL (halfL S n n) := by unfold lookL; rw [hp]; rfl
        have hf : lookF S n = 0 := by unfold lookF; rw [hp]; rfl
        rw [hl, hf, h1]
        exact ⟨rfl, rfl⟩
      · rw [if_neg (fun h => hc h.2)] at h1
        refine no ?_ h1
        unfold pickB
        rw [h4, h2]
        simp only [Bool.or_eq_false_iff, decide_eq_false_iff_not]
        exact ⟨hz, hc⟩
end Go.Proofs.Ytppdckncnfffcaa
