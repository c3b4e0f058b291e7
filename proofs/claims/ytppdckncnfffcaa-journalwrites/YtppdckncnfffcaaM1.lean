/-
  Plain mathematics: sectors laid over on a disk that is quiet, what a sector's fields tell, and what is found in a half that begins with records. Their conditions: as said.
-/
import Derived.Test.YtppdckncnfffcaaJ16
namespace Go.Proofs.Ytppdckncnfffcaa
set_option maxRecDepth 100000

/-! ### Sectors laid over -/
def ovw : List Sec → Nat → List Sec → List Sec
  | K, _, [] => K
  | K, p, s :: r => ovw (K.set p s) (p + 1) r
def pend : Nat → List Sec → List Pw
  | _, [] => []
  | p, s :: r => ⟨p, s⟩ :: pend (p + 1) r
theorem pend_length (p : Nat) (ss : List Sec) : (pend p ss).length = ss.length := by
  induction ss generalizing p with
  | nil => rfl
  | cons s r ih => simp [pend, ih]
theorem pend_get (p : Nat) (ss : List Sec) (i : Nat) : (pend p ss)[i]? = (ss[i]?).map fun s => ⟨p + i, s⟩ := by
  induction ss generalizing p i with
  | nil => rfl
  | cons s r ih =>
    cases i with
    | zero => rfl
    | succ i => simp only [pend, List.getElem?_cons_succ, ih]; rw [show p + 1 + i = p + (i + 1) by omega]
theorem seen_pend (K : List Sec) (p : Nat) (ss : List Sec) : seen K (pend p ss) = ovw K p ss := by
  induction ss generalizing K p with
  | nil => rfl
  | cons s r ih => rw [pend, seen_cons, ih]; rfl
theorem ovw_length (K : List Sec) (p : Nat) (ss : List Sec) : (ovw K p ss).length = K.length := by rw [← seen_pend, seen_length]
theorem ovw_get (K : List Sec) (p : Nat) (ss : List Sec) (h : p + ss.length ≤ K.length) (i : Nat) : (ovw K p ss)[i]? = if p ≤ i ∧ i < p + ss.length then ss[i - p]? else K[i]? := by
  induction ss generalizing K p with
  | nil => rw [if_neg (by simp)]; rfl
  | cons s r ih =>
    simp only [List.length_cons] at h ⊢
    rw [ovw, ih _ _ (by rw [List.length_set]; omega)]
    by_cases h1 : i = p
    · subst h1
      rw [if_neg (by omega), if_pos (by omega), List.getElem?_set_self (by omega), Nat.sub_self]
      rfl
    · by_cases h2 : p + 1 ≤ i ∧ i < p + 1 + r.length
      · rw [if_pos h2, if_pos (by omega), show i - p = (i - (p + 1)) + 1 by omega]
        rfl
      · rw [if_neg h2, if_neg (by omega), List.getElem?_set_ne (by omega)]
theorem halfL_get (S : List Sec) (f n i : Nat) : (halfL S f n)[i]? = if i < n then S[f + i]? else none := by
  unfold halfL
  rw [List.getElem?_take]
  split
  · rw [List.getElem?_drop]
  · rfl
theorem halfL_length {S : List Sec} {f n : Nat} (h : f + n ≤ S.length) : (halfL S f n).length = n := by simp [halfL]; omega
theorem half_in {K : List Sec} {p f n : Nat} {ss : List Sec} (h1 : f ≤ p) (h2 : p + ss.length ≤ f + n) (h3 : f + n ≤ K.length) :
    halfL (ovw K p ss) f n = (halfL K f n).take (p - f) ++ (ss ++ (halfL K f n).drop (p - f + ss.length)) := by
  have hl := halfL_length h3
  apply List.ext_getElem?
  intro i
  rw [halfL_get, ovw_get _ _ _ (by omega)]
  by_cases a : i < p - f
  · rw [List.getElem?_append_left (by simp; omega), List.getElem?_take, if_pos a, halfL_get, if_pos (show i < n by omega), if_neg (by omega), if_pos (show i < n by omega)]
  · rw [List.getElem?_append_right (by simp; omega)]
    have e : ((halfL K f n).take (p - f)).length = p - f := by simp; omega
    rw [e]
    by_cases b : i < p - f + ss.length
    · rw [List.getElem?_append_left (by omega), if_pos (by omega), if_pos (by omega)]
      congr 1
      omega
    · rw [List.getElem?_append_right (by omega), List.getElem?_drop, halfL_get, show p - f + ss.length + (i - (p - f) - ss.length) = i by omega]
      by_cases c : i < n
      · rw [if_pos c, if_neg (by omega), if_pos c]
      · rw [if_neg c, if_neg c]
theorem half_out {K : List Sec} {p f n : Nat} {ss : List Sec} (h : p + ss.length ≤ f ∨ f + n ≤ p) (h3 : p + ss.length ≤ K.length) : halfL (ovw K p ss) f n = halfL K f n := by
  apply List.ext_getElem?
  intro i
  rw [halfL_get, halfL_get]
  by_cases c : i < n
  · rw [if_pos c, if_pos c, ovw_get _ _ _ h3, if_neg (by omega)]
  · rw [if_neg c, if_neg c]

/-! ### A quiet disk -/
structure Qt (d : Dk) : Prop where
  ps : d.ps = []
  fu : d.fuse = -1
  dn : d.down = false
theorem Qt.new (n : Nat) : Qt (newD n) := ⟨rfl, rfl, rfl⟩
theorem step_free {d : Dk} (h1 : d.fuse = -1) (h2 : d.down = false) : stepB d = true ∧ stepD d = { d with steps := d.steps + 1 } := by
  constructor
  · simp [stepB, h1, h2]
  · simp [stepD, h1, h2]
theorem wrP_free (d : Dk) (p : Nat) (ss : List Sec) (h1 : d.fuse = -1) (h2 : d.down = false) : wrP d p ss = ({ d with ps := d.ps ++ pend p ss, steps := d.steps + ss.length }, true) := by
  induction ss generalizing d p with
  | nil => simp [wrP, pend]
  | cons s r ih =>
    obtain ⟨a, b⟩ := step_free h1 h2
    have e : putD d p s = { d with ps := d.ps ++ [⟨p, s⟩], steps := d.steps + 1 } := by simp [putD, b]
    rw [wrP, if_pos a, e, ih { d with ps := d.ps ++ [⟨p, s⟩], steps := d.steps + 1 } (p + 1) h1 h2]
    simp [pend]
    omega
def laidD (d : Dk) (p : Nat) (ss : List Sec) : Dk := { d with K := ovw d.K p ss, steps := d.steps + ss.length + 1 }
theorem wrA_quiet {d : Dk} (h : Qt d) (p : Nat) (ss : List Sec) : wrA d p ss = (laidD d p ss, true) := by
  have h1 := wrP_free d p ss h.fu h.dn
  unfold wrA
  rw [h1]
  obtain ⟨a, b⟩ := step_free (d := { d with ps := d.ps ++ pend p ss, steps := d.steps + ss.length }) h.fu h.dn
  rw [if_pos rfl, if_pos a]
  simp only [keepD, b]
  simp [h.ps, seen_pend, laidD]
theorem Qt.laid {d : Dk} (h : Qt d) (p : Nat) (ss : List Sec) : Qt (laidD d p ss) := ⟨h.ps, h.fu, h.dn⟩

/-! ### What a sector's fields tell -/
theorem ptB_drop60 (p : Pt) (h : p.bs.length ≤ 47) : (ptB p).drop 60 = dig 4 p.lap := by
  unfold ptB
  rw [List.drop_append_of_le_length (by simp [dig_length]; omega), List.drop_of_length_le (by simp [dig_length]; omega)]
  rfl
theorem ptB_take4 (p : Pt) : (ptB p).take 4 = dig 4 p.lap := by
  unfold ptB
  simp only [List.append_assoc]
  rw [List.take_append_of_le_length (by simp [dig_length]), List.take_of_length_le (by simp [dig_length])]
theorem ptB_of (p : Pt) : ((ptB p).drop 10).take 2 = dig 2 p.of := by
  unfold ptB
  simp only [List.append_assoc]
  have e : ∀ (X : List UInt8), dig 4 p.lap ++ (dig 4 p.rn.toNat ++ (dig 2 p.num ++ (dig 2 p.of ++ X))) = (dig 4 p.lap ++ dig 4 p.rn.toNat ++ dig 2 p.num) ++ (dig 2 p.of ++ X) := by intro X; simp
  rw [e, List.drop_append_of_le_length (by simp [dig_length]), List.drop_of_length_le (by simp [dig_length])]
  rw [List.nil_append, List.take_append_of_le_length (by simp [dig_length]), List.take_of_length_le (by simp [dig_length])]
theorem ptB_tail (p : Pt) : (ptB p).drop 12 = UInt8.ofNat p.bs.length :: ((p.bs ++ List.replicate (47 - p.bs.length) 0) ++ dig 4 p.lap) := by
  unfold ptB
  have e : ∀ (X Y : List UInt8), dig 4 p.lap ++ dig 4 p.rn.toNat ++ dig 2 p.num ++ dig 2 p.of ++ [UInt8.ofNat p.bs.length] ++ X ++ Y = (dig 4 p.lap ++ dig 4 p.rn.toNat ++ dig 2 p.num ++ dig 2 p.of) ++ ([UInt8.ofNat p.bs.length] ++ X ++ Y) := by intro X Y; simp
  rw [e, List.drop_append_of_le_length (by simp [dig_length]), List.drop_of_length_le (by simp [dig_length])]
  simp
section
variable {p : Pt} (h : p.bs.length ≤ 47)
include h
theorem lapE_pt (hl : p.lap < 4294967296) : lapE (ptS p) = p.lap := by
  unfold lapE
  rw [ptS_v h, ptB_drop60 p h, num_dig (by simpa using hl)]
theorem lapF_pt (hl : p.lap < 4294967296) : lapF (ptS p) = p.lap := by
  unfold lapF
  rw [ptS_v h, ptB_take4 p, num_dig (by simpa using hl)]
theorem ofF_pt (ho : p.of < 65536) : ofF (ptS p) = p.of := by
  unfold ofF
  rw [ptS_v h, ptB_of p, num_dig (by simpa using ho)]
theorem lenF_pt : lenF (ptS p) = p.bs.length := by
  have e : (ptS p).v.getD 12 0 = UInt8.ofNat p.bs.length := by
    have h1 : ((ptS p).v.drop 12)[0]? = some (UInt8.ofNat p.bs.length) := by rw [ptS_v h, ptB_tail]; rfl
    rw [List.getElem?_drop] at h1
    rw [List.getD_eq_getElem?_getD, h1]
    rfl
  unfold lenF
  rw [e, UInt8.toNat_ofNat', Nat.mod_eq_of_lt (by omega)]
  omega
theorem bsF_pt : bsF (ptS p) = p.bs := by
  unfold bsF
  rw [lenF_pt h]
  have e : (ptS p).v.drop 13 = (p.bs ++ List.replicate (47 - p.bs.length) 0) ++ dig 4 p.lap := by
    have h1 : ((ptS p).v.drop 12).drop 1 = (p.bs ++ List.replicate (47 - p.bs.length) 0) ++ dig 4 p.lap := by rw [ptS_v h, ptB_tail]; rfl
    rw [List.drop_drop] at h1
    exact h1
  rw [e, List.append_assoc, List.take_append_of_le_length (Nat.le_refl _), List.take_length]
end
/-- A sector that is the next has the lap at both places. -/
theorem nextB_lap {p : Pt} {s : Sec} (h : nextB p s = true) (hl : p.lap < 4294967296) : lapF s = p.lap ∧ lapE s = p.lap := by
  unfold nextB at h
  obtain ⟨_, h2⟩ := Bool.and_eq_true_iff.mp h
  have h2 := of_decide_eq_true h2
  have hb : (nextP p s).bs.length ≤ 47 := by rw [nextP_bs, bsF_length]; exact lenF_le s
  have e : ptS (nextP p s) = s := by unfold ptS; rw [h2, secOf_eq]
  have h3 := lapF_pt hb (by rw [nextP_lap]; exact hl)
  have h4 := lapE_pt hb (by rw [nextP_lap]; exact hl)
  rw [e, nextP_lap] at h3 h4
  exact ⟨h3, h4⟩
/-- No further part of this lap. -/
def Stops (lap : Nat) (rest : List Sec) : Prop := ∀ s r, rest = s :: r → lapE s ≠ lap ∨ lapF s ≠ lap
theorem Stops.walk {p : Pt} {rest : List Sec} (h : Stops p.lap rest) (hl : p.lap < 4294967296) : walk p rest = [] := by
  cases rest with
  | nil => rfl
  | cons s r =>
    rw [Go.Proofs.Ytppdckncnfffcaa.walk, if_neg]
    intro hn
    obtain ⟨a, b⟩ := nextB_lap hn hl
    rcases h s r rfl with h | h
    · exact h b
    · exact h a

/-! ### Records in a half -/
section
variable {lap k : Nat} {r : List UInt8} (hl : lap < 4294967296) (hr : partsN r.length < 65536)
theorem fits_ptOf (lap k : Nat) (r : List UInt8) {i : Nat} (h : i < partsN r.length) : fitsP (ptOf lap k r i) = true := by
  have e := piece_length r i
  have h1 := partsN_le r.length
  unfold fitsP
  by_cases hi : i + 1 < partsN r.length
  · have h2 := partsN_lt r.length i hi
    rw [if_pos (show (ptOf lap k r i).num < (ptOf lap k r i).of from hi)]
    show decide ((piece r i).length = 47) = true
    rw [e]
    simp
    omega
  · rw [if_neg (show ¬ (ptOf lap k r i).num < (ptOf lap k r i).of from hi)]
    show (decide (i + 1 = partsN r.length) && (decide (partsN r.length = 1) || decide (0 < (piece r i).length))) = true
    rw [e]
    have h3 : partsN r.length = 1 ∨ 0 < min 47 (r.length - i * 47) := by
      by_cases h4 : partsN r.length = 1
      · exact .inl h4
      · have h5 := partsN_lt r.length (i - 1) (by omega)
        have : (i - 1 + 1) * 47 = i * 47 := by rw [show i - 1 + 1 = i by omega]
        right
        omega
    simp only [Bool.and_eq_true, decide_eq_true_eq, Bool.or_eq_true]
    exact ⟨by omega, h3⟩
include hr in
theorem next_first {p : Pt} (hp : p.num = p.of) (hpl : p.lap = lap) (hpn : p.rn + 1 = (k : Int)) : nextP p (ptS (ptOf lap k r 0)) = ptOf lap k r 0 ∧ nextB p (ptS (ptOf lap k r 0)) = true := by
  have hb := ptOf_len lap k r 0
  have e : nextP p (ptS (ptOf lap k r 0)) = ptOf lap k r 0 := by
    unfold nextP
    rw [if_pos hp, ofF_pt hb hr, bsF_pt hb, hpl, hpn]
    rfl
  refine ⟨e, ?_⟩
  unfold nextB
  rw [e, fits_ptOf lap k r (partsN_pos _), ptS_v hb]
  simp
theorem next_more {i : Nat} (h : i + 1 < partsN r.length) : nextP (ptOf lap k r i) (ptS (ptOf lap k r (i + 1))) = ptOf lap k r (i + 1) ∧ nextB (ptOf lap k r i) (ptS (ptOf lap k r (i + 1))) = true := by
  have hb := ptOf_len lap k r (i + 1)
  have e : nextP (ptOf lap k r i) (ptS (ptOf lap k r (i + 1))) = ptOf lap k r (i + 1) := by
    unfold nextP
    rw [if_neg (show ¬ (ptOf lap k r i).num = (ptOf lap k r i).of by show ¬ i + 1 = partsN r.length; omega), bsF_pt hb]
    rfl
  refine ⟨e, ?_⟩
  unfold nextB
  rw [e, fits_ptOf lap k r h, ptS_v hb]
  simp
theorem walk_cons {p : Pt} {s : Sec} {t : List Sec} {q : Pt} (h : nextP p s = q ∧ nextB p s = true) : walk p (s :: t) = q :: walk q t := by
  rw [walk, if_pos h.2, h.1]
/-- The first m parts of a record. -/
theorem walk_from {i : Nat} (m : Nat) (h : i + 1 + m ≤ partsN r.length) (rest : List Sec) :
    walk (ptOf lap k r i) (((List.range m).map fun x => ptS (ptOf lap k r (i + 1 + x))) ++ rest) = ((List.range m).map fun x => ptOf lap k r (i + 1 + x)) ++ walk (ptOf lap k r (i + m)) rest := by
  induction m generalizing i with
  | zero => rfl
  | succ m ih =>
    rw [List.range_succ_eq_map]
    simp only [List.map_cons, List.map_map, List.cons_append, Nat.add_zero]
    rw [walk_cons (next_more (by omega))]
    have e1 : ((fun x => ptS (ptOf lap k r (i + 1 + x))) ∘ Nat.succ) = fun x => ptS (ptOf lap k r (i + 1 + 1 + x)) := by
      funext x
      simp only [Function.comp]
      rw [show i + 1 + x.succ = i + 1 + 1 + x by omega]
    have e2 : ((fun x => ptOf lap k r (i + 1 + x)) ∘ Nat.succ) = fun x => ptOf lap k r (i + 1 + 1 + x) := by
      funext x
      simp only [Function.comp]
      rw [show i + 1 + x.succ = i + 1 + 1 + x by omega]
    rw [e1, e2, ih (by omega), show i + 1 + m = i + (m + 1) by omega]
theorem take_map_range {α : Type} (f : Nat → α) (n m : Nat) (h : m ≤ n) : ((List.range n).map f).take m = (List.range m).map f := by
  rw [← List.map_take, List.take_range, Nat.min_eq_left h]
theorem map_range_succ {α : Type} (f : Nat → α) (n : Nat) : (List.range (n + 1)).map f = f 0 :: (List.range n).map fun x => f (0 + 1 + x) := by
  rw [List.range_succ_eq_map, List.map_cons, List.map_map]
  congr 1
  apply List.map_congr_left
  intro x _
  simp only [Function.comp]
  congr 1
  omega
include hr in
theorem walk_take {p : Pt} (hp : p.num = p.of) (hpl : p.lap = lap) (hpn : p.rn + 1 = (k : Int)) (m : Nat) (hm : m + 1 ≤ partsN r.length) (rest : List Sec) :
    walk p ((secsOf lap k r).take (m + 1) ++ rest) = (partsOf lap k r).take (m + 1) ++ walk (ptOf lap k r m) rest := by
  unfold secsOf partsOf
  rw [take_map_range _ _ _ hm, take_map_range _ _ _ hm, map_range_succ, map_range_succ, List.cons_append, walk_cons (next_first hr hp hpl hpn), walk_from m (by omega), show 0 + m = m by omega]
  rfl
end
/-! ### Gathered -/
theorem gth_take (lap k : Nat) (r : List UInt8) (R : List (List UInt8)) (l : Nat) (m : Nat) (hm : m < partsN r.length) : ((partsOf lap k r).take m).foldl gth ⟨[], R, l⟩ = ⟨r.take (m * 47), R, l⟩ := by
  induction m with
  | zero => simp
  | succ m ih =>
    rw [partsOf_take lap k r (by omega), List.foldl_append, ih (by omega)]
    show gth _ (ptOf lap k r m) = _
    unfold gth
    rw [if_neg (show ¬ (ptOf lap k r m).num = (ptOf lap k r m).of by show ¬ m + 1 = partsN r.length; omega)]
    show Gt.mk (r.take (m * 47) ++ piece r m) R l = _
    unfold piece
    congr 1
    rw [show (m + 1) * 47 = m * 47 + 47 by omega, List.take_add]
theorem gth_all (lap k : Nat) (r : List UInt8) (R : List (List UInt8)) (l : Nat) : (partsOf lap k r).foldl gth ⟨[], R, l⟩ = ⟨[], R ++ [r], lap⟩ := by
  have hp := partsN_pos r.length
  have hle := partsN_le r.length
  obtain ⟨m, hm⟩ : ∃ m, partsN r.length = m + 1 := ⟨partsN r.length - 1, by omega⟩
  have e : partsOf lap k r = (partsOf lap k r).take (m + 1) := by rw [List.take_of_length_le]; simp [partsOf, hm]
  rw [e, partsOf_take lap k r (by omega), List.foldl_append, gth_take lap k r R l m (by omega)]
  show gth _ (ptOf lap k r m) = _
  unfold gth
  rw [if_pos (show (ptOf lap k r m).num = (ptOf lap k r m).of by show m + 1 = partsN r.length; omega)]
  show Gt.mk [] (R ++ [r.take (m * 47) ++ piece r m]) lap = _
  unfold piece
  rw [← List.take_add, List.take_of_length_le (by omega)]
/-- The parts of records, from the number k on. -/
def allParts (lap : Nat) : Nat → List (List UInt8) → List Pt
  | _, [] => []
  | k, r :: rs => partsOf lap k r ++ allParts lap (k + 1) rs
theorem gth_recs (lap : Nat) (rs : List (List UInt8)) : ∀ (k : Nat) (R : List (List UInt8)) (l : Nat), (allParts lap k rs).foldl gth ⟨[], R, l⟩ = ⟨[], R ++ rs, if rs = [] then l else lap⟩ := by
  induction rs with
  | nil => intro k R l; simp [allParts]
  | cons r t ih =>
    intro k R l
    rw [allParts, List.foldl_append, gth_all, ih]
    simp
/-- A part that ends a record. -/
structure Ends (lap k : Nat) (p : Pt) : Prop where
  e : p.num = p.of
  l : p.lap = lap
  n : p.rn + 1 = (k : Int)
theorem Ends.p0 (lap : Nat) : Ends lap 0 (p0 lap) := ⟨rfl, rfl, rfl⟩
theorem Ends.last (lap k : Nat) (r : List UInt8) : Ends lap (k + 1) (ptOf lap k r (partsN r.length - 1)) := by
  have := partsN_pos r.length
  exact ⟨by show partsN r.length - 1 + 1 = partsN r.length; omega, rfl, rfl⟩
theorem walk_rec {lap k : Nat} {r : List UInt8} (hr : partsN r.length < 65536) {p : Pt} (hp : Ends lap k p) (rest : List Sec) :
    walk p (secsOf lap k r ++ rest) = partsOf lap k r ++ walk (ptOf lap k r (partsN r.length - 1)) rest := by
  have h1 := partsN_pos r.length
  have h := walk_take hr hp.e hp.l hp.n (partsN r.length - 1) (by omega) rest
  rw [show partsN r.length - 1 + 1 = partsN r.length by omega] at h
  rw [List.take_of_length_le (by rw [secsOf_length]; exact Nat.le_refl _), List.take_of_length_le (by simp [partsOf])] at h
  exact h
theorem walk_recs {lap : Nat} (rs : List (List UInt8)) (hr : ∀ r ∈ rs, partsN r.length < 65536) : ∀ (k : Nat) (p : Pt) (_ : Ends lap k p) (rest : List Sec), ∃ q, Ends lap (k + rs.length) q ∧ walk p (lays lap k rs ++ rest) = allParts lap k rs ++ walk q rest := by
  induction rs with
  | nil => intro k p hp rest; exact ⟨p, hp, rfl⟩
  | cons r t ih =>
    intro k p hp rest
    obtain ⟨q, hq, e⟩ := ih (fun x hx => hr x (List.mem_cons_of_mem _ hx)) (k + 1) _ (Ends.last lap k r) rest
    refine ⟨q, by rw [List.length_cons, show k + (t.length + 1) = k + 1 + t.length by omega]; exact hq, ?_⟩
    rw [lays, List.append_assoc, walk_rec (hr r (by simp)) hp, e, allParts, List.append_assoc]
/-- A half that begins with records, and a part of one more, behind which nothing goes on. -/
theorem half_found {lap : Nat} (hl : lap < 4294967296) (h0 : 0 < lap) {rs : List (List UInt8)} (hr : ∀ r ∈ rs, partsN r.length < 65536) {x : List UInt8} (hx : partsN x.length < 65536) {m : Nat} (hm : m < partsN x.length) {rest : List Sec} (hs : Stops lap rest)
    (hne : rs ≠ [] ∨ 0 < m) : foundL (lays lap 0 rs ++ ((secsOf lap rs.length x).take m ++ rest)) = rs ∧ foundN (lays lap 0 rs ++ ((secsOf lap rs.length x).take m ++ rest)) = if rs = [] then 0 else lap := by
  obtain ⟨H, hH⟩ : ∃ H, H = lays lap 0 rs ++ ((secsOf lap rs.length x).take m ++ rest) := ⟨_, rfl⟩
  have hlap : lapF (at_ H 0) = lap := by
    have : ∃ (k : Nat) (y : List UInt8) (t : List Sec), H = ptS (ptOf lap k y 0) :: t := by
      rcases rs with _ | ⟨r, t⟩
      · rcases hne with h | h
        · exact absurd rfl h
        · obtain ⟨m', rfl⟩ : ∃ m', m = m' + 1 := ⟨m - 1, by omega⟩
          refine ⟨0, x, (List.range m').map (fun i => ptS (ptOf lap 0 x (0 + 1 + i))) ++ rest, ?_⟩
          rw [hH]
          unfold secsOf
          rw [take_map_range _ _ _ (by omega), map_range_succ]
          rfl
      · obtain ⟨m', hm'⟩ : ∃ m', partsN r.length = m' + 1 := ⟨partsN r.length - 1, by have := partsN_pos r.length; omega⟩
        refine ⟨0, r, ((List.range m').map (fun i => ptS (ptOf lap 0 r (0 + 1 + i)))) ++ lays lap 1 t ++ ((secsOf lap (r :: t).length x).take m ++ rest), ?_⟩
        have e : secsOf lap 0 r = ptS (ptOf lap 0 r 0) :: (List.range m').map (fun i => ptS (ptOf lap 0 r (0 + 1 + i))) := by
          unfold secsOf
          rw [hm', map_range_succ]
        rw [hH, lays, e]
        simp
    obtain ⟨k, y, t, e⟩ := this
    have e2 : at_ (ptS (ptOf lap k y 0) :: t) 0 = ptS (ptOf lap k y 0) := rfl
    have e3 : lapF (ptS (ptOf lap k y 0)) = (ptOf lap k y 0).lap := lapF_pt (ptOf_len lap k y 0) hl
    rw [e, e2, e3]
    rfl
  have hw : ∃ W, partsL H = allParts lap 0 rs ++ W ∧ ∀ R l, (W.foldl gth ⟨[], R, l⟩).rs = R ∧ (W.foldl gth ⟨[], R, l⟩).lap = l := by
    unfold partsL
    rw [hlap, if_neg (by omega), hH]
    obtain ⟨q, hq, e⟩ := walk_recs rs hr 0 (p0 lap) (Ends.p0 lap) ((secsOf lap rs.length x).take m ++ rest)
    rw [Nat.zero_add] at hq
    refine ⟨_, e, fun R l => ?_⟩
    by_cases hm0 : m = 0
    · subst hm0
      rw [List.take_zero, List.nil_append, Stops.walk (by rw [hq.l]; exact hs) (by rw [hq.l]; exact hl)]
      exact ⟨rfl, rfl⟩
    · obtain ⟨m', rfl⟩ : ∃ m', m = m' + 1 := ⟨m - 1, by omega⟩
      rw [walk_take hx hq.e hq.l hq.n m' (by omega), Stops.walk (p := ptOf lap rs.length x m') hs hl, List.append_nil, gth_take _ _ _ _ _ _ hm]
      exact ⟨rfl, rfl⟩
  obtain ⟨W, e, hW⟩ := hw
  rw [← hH]
  unfold foundL foundN gathered
  rw [e, List.foldl_append, gth_recs]
  have := hW ([] ++ rs) (if rs = [] then 0 else lap)
  simpa using this
/-- .. with nothing of one more. -/
theorem half_recs {lap : Nat} (hl : lap < 4294967296) (h0 : 0 < lap) {rs : List (List UInt8)} (hr : ∀ r ∈ rs, partsN r.length < 65536) {rest : List Sec} (hs : Stops lap rest) (hne : rs ≠ []) : foundL (lays lap 0 rs ++ rest) = rs ∧ foundN (lays lap 0 rs ++ rest) = lap := by
  have h := half_found hl h0 hr (x := []) (m := 0) (by decide) (by decide) hs (.inl hne)
  rw [if_neg hne] at h
  simpa using h
/-- What a half's lap is. -/
theorem gth_lap (l : List Pt) (lap : Nat) (h : ∀ p ∈ l, p.lap = lap) : ∀ G : Gt, (G.lap = 0 ∨ G.lap = lap) → ((l.foldl gth G).lap = 0 ∨ (l.foldl gth G).lap = lap) := by
  induction l with
  | nil => intro G hG; exact hG
  | cons p t ih =>
    intro G hG
    rw [List.foldl_cons]
    refine ih (fun q hq => h q (List.mem_cons_of_mem _ hq)) _ ?_
    unfold gth
    split
    · exact .inr (h p (by simp))
    · exact hG
theorem walk_lap (p : Pt) (h : List Sec) : ∀ q ∈ walk p h, q.lap = p.lap := by
  induction h generalizing p with
  | nil => intro q hq; cases hq
  | cons s r ih =>
    intro q hq
    rw [walk] at hq
    split at hq
    · rcases List.mem_cons.mp hq with rfl | hq
      · exact nextP_lap p s
      · rw [ih _ _ hq, nextP_lap]
    · cases hq
theorem foundN_is (h : List Sec) : foundN h = 0 ∨ (foundN h = lapF (at_ h 0) ∧ foundN h = lapE (at_ h 0) ∧ h ≠ []) := by
  have hlt : lapF (at_ h 0) < 4294967296 := by
    have := num_lt ((at_ h 0).v.take 4)
    rw [List.length_take, (at_ h 0).h] at this
    exact this
  unfold foundN gathered partsL
  by_cases hz : lapF (at_ h 0) = 0
  · rw [if_pos hz]; exact .inl rfl
  · rw [if_neg hz]
    cases h with
    | nil => exact .inl rfl
    | cons s r =>
      have e0 : at_ (s :: r) 0 = s := rfl
      rw [e0]
      by_cases hn : nextB (p0 (lapF s)) s = true
      · obtain ⟨a, b⟩ := nextB_lap hn hlt
        rcases gth_lap (walk (p0 (lapF s)) (s :: r)) (lapF s) (walk_lap (p0 (lapF s)) _) ⟨[], [], 0⟩ (.inl rfl) with h | h
        · exact .inl h
        · exact .inr ⟨h, by rw [h]; exact b.symm, by simp⟩
      · rw [walk, if_neg hn]
        exact .inl rfl
theorem lastU_ge (S : List Sec) (k i : Nat) (h : i < k) : lapE (at_ S i) ≤ lastU S k := by
  induction k with
  | zero => omega
  | succ k ih =>
    rw [lastU]
    by_cases e : i = k
    · subst e; omega
    · have := ih (by omega); omega
theorem lastU_le (S : List Sec) (k b : Nat) (h : ∀ i, i < k → lapE (at_ S i) ≤ b) : lastU S k ≤ b := by
  induction k with
  | zero => exact Nat.zero_le _
  | succ k ih =>
    rw [lastU]
    have h1 := ih (fun i hi => h i (by omega))
    have h2 := h k (by omega)
    omega
theorem foundN_le {S : List Sec} {f n : Nat} (hn : 0 < n) (h : f + n ≤ S.length) : foundN (halfL S f n) ≤ lastU S (f + n) := by
  rcases foundN_is (halfL S f n) with h0 | ⟨_, h0, _⟩
  · omega
  · rw [h0, halfL_0 hn h]
    exact lastU_ge S _ _ (by omega)
end Go.Proofs.Ytppdckncnfffcaa
