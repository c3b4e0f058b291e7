/-
  Plain mathematics of frames (no Go in it): a number in four bytes, a payload's frame, the frame with which bytes begin, frames one behind the other. Its conditions: none.
-/
import Derived.Test.YtlnblcgfgkkbhaaMath
namespace Go.Proofs.Ytlnblcgfgkkbhaa.Fr

/-- A number in four bytes, the highest first. -/
def four (n : Nat) : List Nat := [n / 16777216 % 256, n / 65536 % 256, n / 256 % 256, n % 256]
/-- The number that bytes are, the highest first. -/
def num (l : List Nat) : Nat := l.foldl (fun a c => a * 256 + c) 0
theorem num_snoc (l : List Nat) (c : Nat) : num (l ++ [c]) = num l * 256 + c := by
  unfold num
  rw [List.foldl_append]
  rfl
theorem four_length (n : Nat) : (four n).length = 4 := rfl
theorem four_lt (n : Nat) : ∀ c ∈ four n, c < 256 := by
  intro c hc
  simp only [four, List.mem_cons, List.not_mem_nil, or_false] at hc
  omega
theorem num_four (n : Nat) (h : n < 4294967296) : num (four n) = n := by
  simp only [num, four, List.foldl_cons, List.foldl_nil]
  omega
theorem list4 {α : Type} {l : List α} (h : l.length = 4) : ∃ a b c d, l = [a, b, c, d] := by
  match l, h with
  | [a, b, c, d], _ => exact ⟨a, b, c, d, rfl⟩
theorem four_num (l : List Nat) (h4 : l.length = 4) (hl : ∀ c ∈ l, c < 256) : four (num l) = l := by
  obtain ⟨a, b, c, d, rfl⟩ := list4 h4
  have ha := hl a (by simp)
  have hb := hl b (by simp)
  have hc := hl c (by simp)
  have hd := hl d (by simp)
  simp only [num, four, List.foldl_cons, List.foldl_nil]
  congr 1
  · omega
  · congr 1
    · omega
    · congr 1
      · omega
      · congr 1
        omega
theorem num_lt4 (l : List Nat) (h4 : l.length = 4) (hl : ∀ c ∈ l, c < 256) : num l < 4294967296 := by
  obtain ⟨a, b, c, d, rfl⟩ := list4 h4
  have ha := hl a (by simp)
  have hb := hl b (by simp)
  have hc := hl c (by simp)
  have hd := hl d (by simp)
  simp only [num, List.foldl_cons, List.foldl_nil]
  omega
theorem four_inj {m n : Nat} (hm : m < 4294967296) (hn : n < 4294967296) (h : four m = four n) : m = n := by
  rw [← num_four m hm, h, num_four n hn]

/-- The sum that stands in a payload's frame. -/
def mark (p : List Nat) : Nat := Crc.more 0 (four p.length ++ p)
/-- A payload's frame. -/
def frame (p : List Nat) : List Nat := four p.length ++ (four (mark p) ++ p)
/-- A payload that has a frame. -/
def Good (p : List Nat) : Prop := 0 < p.length ∧ p.length ≤ 65536
def Oct (l : List Nat) : Prop := ∀ c ∈ l, c < 256
theorem frame_length (p : List Nat) : (frame p).length = 8 + p.length := by
  simp only [frame, List.length_append, four_length]
  omega
theorem mark_lt (p : List Nat) (hp : Oct p) : mark p < 4294967296 := by
  refine Crc.more_lt _ _ (by omega) fun c hc => ?_
  rcases List.mem_append.mp hc with h | h
  · exact four_lt _ c h
  · exact hp c h
theorem frame_oct (p : List Nat) (hp : Oct p) : Oct (frame p) := by
  intro c hc
  unfold frame at hc
  rcases List.mem_append.mp hc with h | h
  · exact four_lt _ c h
  · rcases List.mem_append.mp h with h | h
    · exact four_lt _ c h
    · exact hp c h
theorem take_len {α : Type} (a b : List α) (n : Nat) (h : a.length = n) : (a ++ b).take n = a := by subst h; exact List.take_left
theorem drop_len {α : Type} (a b : List α) (n : Nat) (h : a.length = n) : (a ++ b).drop n = b := by subst h; exact List.drop_left
theorem frame_take4 (p r : List Nat) : (frame p ++ r).take 4 = four p.length := by
  unfold frame
  rw [List.append_assoc]
  exact take_len _ _ 4 rfl
theorem frame_drop4 (p r : List Nat) : (frame p ++ r).drop 4 = four (mark p) ++ (p ++ r) := by
  unfold frame
  rw [List.append_assoc, drop_len _ _ 4 rfl, List.append_assoc]
theorem frame_drop8 (p r : List Nat) : (frame p ++ r).drop 8 = p ++ r := by
  rw [show 8 = 4 + 4 from rfl, ← List.drop_drop, frame_drop4, drop_len _ _ 4 rfl]

/-- The payload of the frame with which bytes begin. -/
def first (b : List Nat) : Option (List Nat) :=
  if b.length < 8 then none
  else if num (b.take 4) = 0 ∨ 65536 < num (b.take 4) ∨ b.length - 8 < num (b.take 4) then none
  else if Crc.more 0 (b.take 4 ++ (b.drop 8).take (num (b.take 4))) = num ((b.drop 4).take 4) then some ((b.drop 8).take (num (b.take 4))) else none
theorem first_frame (p r : List Nat) (hg : Good p) (hp : Oct p) : first (frame p ++ r) = some p := by
  have hn : num ((frame p ++ r).take 4) = p.length := by rw [frame_take4]; exact num_four _ (by have := hg.2; omega)
  have hl : (frame p ++ r).length = 8 + p.length + r.length := by rw [List.length_append, frame_length]
  have h1 := hg.1
  have h2 := hg.2
  unfold first
  rw [hn, if_neg (by omega), if_neg (by omega), frame_drop8, frame_take4, frame_drop4, take_len _ _ 4 rfl, List.take_left, num_four _ (mark_lt p hp)]
  exact if_pos rfl
theorem first_some {b p : List Nat} (hb : Oct b) (h : first b = some p) : Good p ∧ b = frame p ++ b.drop (8 + p.length) := by
  unfold first at h
  split at h
  · cases h
  · rename_i h8
    split at h
    · cases h
    · rename_i hn
      split at h
      · rename_i hc
        injection h with h
        have ht : (b.take 4).length = 4 := by rw [List.length_take]; omega
        have ht2 : ((b.drop 4).take 4).length = 4 := by rw [List.length_take, List.length_drop]; omega
        have ho : Oct (b.take 4) := fun c hc => hb c (List.mem_of_mem_take hc)
        have ho2 : Oct ((b.drop 4).take 4) := fun c hc => hb c (List.mem_of_mem_drop (List.mem_of_mem_take hc))
        have hl : p.length = num (b.take 4) := by rw [← h, List.length_take, List.length_drop]; omega
        have e4 : four p.length = b.take 4 := by rw [hl]; exact four_num _ ht ho
        have em : four (mark p) = (b.drop 4).take 4 := by
          unfold mark
          rw [e4]
          rw [h] at hc
          rw [hc]
          exact four_num _ ht2 ho2
        refine ⟨⟨by omega, by omega⟩, ?_⟩
        unfold frame
        rw [e4, em]
        conv => lhs; rw [← List.take_append_drop 4 b, ← List.take_append_drop 4 (b.drop 4), List.drop_drop]
        have hp : p ++ b.drop (8 + p.length) = b.drop 8 := by
          conv => rhs; rw [← List.take_append_drop p.length (b.drop 8), List.drop_drop]
          rw [hl, h]
        rw [List.append_assoc, List.append_assoc, hp]
      · cases h
theorem first_short {b : List Nat} (h : b.length < 9) : first b = none := by
  unfold first
  split
  · rfl
  · rw [if_pos (by omega)]
theorem Oct.of_append {a b : List Nat} (h : Oct (a ++ b)) : Oct a ∧ Oct b := ⟨fun c hc => h c (by simp [hc]), fun c hc => h c (by simp [hc])⟩
theorem frame_oct_back {p r : List Nat} (h : Oct (frame p ++ r)) : Oct p := by
  have h2 : Oct (p ++ r) := by
    rw [← frame_drop8 p r]
    exact fun c hc => h c (List.mem_of_mem_drop hc)
  exact h2.of_append.1
theorem frame_oct_back' {p : List Nat} (h : Oct (frame p)) : Oct p := frame_oct_back (r := []) (by rwa [List.append_nil])
theorem first_iff {b p : List Nat} (hb : Oct b) : first b = some p ↔ Good p ∧ ∃ r, b = frame p ++ r := by
  constructor
  · intro h
    have := first_some hb h
    exact ⟨this.1, _, this.2⟩
  · rintro ⟨hg, r, rfl⟩
    exact first_frame p r hg (frame_oct_back hb)

/-- The payload whose frame bytes are. -/
def opn (b : List Nat) : Option (List Nat) :=
  match first b with
  | some p => if 8 + p.length = b.length then some p else none
  | none => none
theorem opn_iff {b p : List Nat} (hb : Oct b) : opn b = some p ↔ Good p ∧ b = frame p := by
  unfold opn
  constructor
  · intro h
    cases hf : first b with
    | none => rw [hf] at h; cases h
    | some q =>
      rw [hf] at h
      obtain ⟨hg, hq⟩ := first_some hb hf
      simp only at h
      split at h
      · rename_i hl
        injection h with h
        subst h
        refine ⟨hg, ?_⟩
        conv at hq => rhs; rw [hl, List.drop_length, List.append_nil]
        exact hq
      · cases h
  · rintro ⟨hg, rfl⟩
    have := first_frame p [] hg (frame_oct_back' hb)
    rw [List.append_nil] at this
    rw [this]
    exact if_pos (frame_length p).symm

/-- Frames one behind the other. -/
def flat (ps : List (List Nat)) : List Nat := (ps.map frame).flatten
theorem flat_nil : flat [] = [] := rfl
theorem flat_cons (p : List Nat) (ps : List (List Nat)) : flat (p :: ps) = frame p ++ flat ps := rfl
theorem flat_append (ps qs : List (List Nat)) : flat (ps ++ qs) = flat ps ++ flat qs := by simp [flat]
theorem flat_snoc (ps : List (List Nat)) (p : List Nat) : flat (ps ++ [p]) = flat ps ++ frame p := by simp [flat]
theorem flat_length (ps : List (List Nat)) : 8 * ps.length ≤ (flat ps).length := by
  induction ps with
  | nil => simp [flat]
  | cons p ps ih => rw [flat_cons, List.length_append, frame_length, List.length_cons]; omega
theorem flat_empty {ps : List (List Nat)} (h : flat ps = []) : ps = [] := by
  cases ps with
  | nil => rfl
  | cons p ps =>
    have := congrArg List.length h
    rw [flat_cons, List.length_append, frame_length] at this
    simp at this

/-- The payloads of the frames with which b begins, and the place behind them. -/
structure CutIs (b : List Nat) (ps : List (List Nat)) (k : Nat) : Prop where
  good : ∀ p ∈ ps, Good p
  le : k ≤ b.length
  eq : b.take k = flat ps
  stop : first (b.drop k) = none
theorem CutIs.split {b : List Nat} {ps : List (List Nat)} {k : Nat} (h : CutIs b ps k) : b = flat ps ++ b.drop k := by
  rw [← h.eq, List.take_append_drop]
theorem CutIs.len {b : List Nat} {ps : List (List Nat)} {k : Nat} (h : CutIs b ps k) : (flat ps).length = k := by
  rw [← h.eq, List.length_take]
  have := h.le
  omega
theorem CutIs.mk' {ps : List (List Nat)} {r : List Nat} (hg : ∀ p ∈ ps, Good p) (hr : first r = none) : CutIs (flat ps ++ r) ps (flat ps).length :=
  ⟨hg, by rw [List.length_append]; omega, List.take_left, by rw [List.drop_left]; exact hr⟩
theorem frame_append_inj {p q r s : List Nat} (hp : Good p) (hq : Good q) (h : frame p ++ r = frame q ++ s) : p = q ∧ r = s := by
  have hn : p.length = q.length := by
    refine four_inj (by have := hp.2; omega) (by have := hq.2; omega) ?_
    rw [← frame_take4 p r, ← frame_take4 q s, h]
  have h8 : p ++ r = q ++ s := by rw [← frame_drop8 p r, ← frame_drop8 q s, h]
  exact List.append_inj h8 hn
theorem cut_unique : ∀ {ps qs : List (List Nat)} {r s : List Nat}, (∀ p ∈ ps, Good p) → (∀ p ∈ qs, Good p) → Oct (flat ps ++ r) → first r = none → first s = none → flat ps ++ r = flat qs ++ s → ps = qs ∧ r = s
  | [], [], _, _, _, _, _, _, _, h => ⟨rfl, h⟩
  | [], q :: qs, r, s, _, hq, ho, hr, _, h => by
    rw [flat_nil, List.nil_append, flat_cons, List.append_assoc] at h
    rw [flat_nil, List.nil_append] at ho
    rw [h] at ho hr
    rw [first_frame q _ (hq q (by simp)) (frame_oct_back ho)] at hr
    cases hr
  | p :: ps, [], r, s, hp, _, ho, _, hs, h => by
    rw [flat_nil, List.nil_append, flat_cons, List.append_assoc] at h
    rw [flat_cons, List.append_assoc] at ho
    rw [← h, first_frame p _ (hp p (by simp)) (frame_oct_back ho)] at hs
    cases hs
  | p :: ps, q :: qs, r, s, hp, hq, ho, hr, hs, h => by
    rw [flat_cons, List.append_assoc] at ho
    rw [flat_cons, List.append_assoc, flat_cons, List.append_assoc] at h
    obtain ⟨rfl, h2⟩ := frame_append_inj (hp p (by simp)) (hq q (by simp)) h
    obtain ⟨rfl, h3⟩ := cut_unique (fun x hx => hp x (by simp [hx])) (fun x hx => hq x (by simp [hx])) (Oct.of_append ho).2 hr hs h2
    exact ⟨rfl, h3⟩
theorem CutIs.unique {b : List Nat} {ps qs : List (List Nat)} {k m : Nat} (hb : Oct b) (h : CutIs b ps k) (g : CutIs b qs m) : ps = qs ∧ k = m := by
  have e := cut_unique h.good g.good (h.split ▸ hb) h.stop g.stop (h.split.symm.trans g.split)
  refine ⟨e.1, ?_⟩
  rw [← h.len, ← g.len, e.1]

/-- Bytes with which a frame begins, and not all of it: they begin with none. -/
theorem first_part {p : List Nat} {k : Nat} (hg : Good p) (hp : Oct p) (hk : k < (frame p).length) : first ((frame p).take k) = none := by
  cases hf : first ((frame p).take k) with
  | none => rfl
  | some q =>
    obtain ⟨hq, h⟩ := first_some (fun c hc => frame_oct p hp c (List.mem_of_mem_take hc)) hf
    have h2 : frame p ++ [] = frame q ++ (((frame p).take k).drop (8 + q.length) ++ (frame p).drop k) := by
      rw [← List.append_assoc, ← h, List.append_nil, List.take_append_drop]
    have h3 := (frame_append_inj hg hq h2).2
    have h4 := congrArg List.length h3
    rw [List.length_append, List.length_drop, List.length_drop, List.length_nil] at h4
    omega
/-- Frames one behind the other, cut off behind the first n and k bytes of the next. -/
theorem cut_part (ps : List (List Nat)) (r : List Nat) (hg : ∀ p ∈ ps, Good p) (hr : first r = none) : CutIs (flat ps ++ r) ps (flat ps).length := CutIs.mk' hg hr

/-! One byte turned. -/
theorem replicate_zip : ∀ (l : List Nat), List.zipWith (· ^^^ ·) l l = List.replicate l.length 0
  | [] => rfl
  | c :: l => by rw [List.zipWith_cons_cons, Nat.xor_self, replicate_zip l]; rfl
theorem zip_app (a b c d : List Nat) (h : a.length = b.length) : List.zipWith (· ^^^ ·) (a ++ c) (b ++ d) = List.zipWith (· ^^^ ·) a b ++ List.zipWith (· ^^^ ·) c d := List.zipWith_append h
/-- Two payloads that differ in one byte have other sums. -/
theorem more_one (a b : List Nat) (x y : Nat) (hx : x < 256) (hy : y < 256) (h : Crc.more 0 (a ++ x :: b) = Crc.more 0 (a ++ y :: b)) : x = y := by
  rw [Crc.more_eq_iff _ _ (by simp), zip_app _ _ _ _ rfl, List.zipWith_cons_cons, replicate_zip, replicate_zip] at h
  have h2 := (Crc.reg_diff a.length b.length [x ^^^ y] (by simpa using Nat.xor_lt_two_pow (n := 8) hx hy) (by simp)).mp (by simpa using h)
  exact Crc.xor_zero_eq (h2 _ (by simp))
theorem set_split (l : List Nat) (k x : Nat) (h : k < l.length) : l.set k x = l.take k ++ x :: l.drop (k + 1) := by
  rw [List.set_eq_take_append_cons_drop, if_pos h]
theorem get_split (l : List Nat) (k : Nat) (h : k < l.length) : l = l.take k ++ l[k] :: l.drop (k + 1) := by
  rw [← set_split l k l[k] h, List.set_getElem_self]
theorem opn_turned {p : List Nat} {k x : Nat} (hp : Oct p) (hk : k < (frame p).length) (hx : x < 256) (hne : x ≠ (frame p)[k]) : opn ((frame p).set k x) = none := by
  have hol := frame_length p
  have hoc : Oct ((frame p).set k x) := by
    intro c hc
    rcases List.mem_or_eq_of_mem_set hc with h | h
    · exact frame_oct p hp c h
    · omega
  cases ho : opn ((frame p).set k x) with
  | none => rfl
  | some q =>
    exfalso
    obtain ⟨hq, e⟩ := (opn_iff hoc).mp ho
    have hlen : p.length = q.length := by
      have := congrArg List.length e
      rw [List.length_set, frame_length, frame_length] at this
      omega
    have hqo : Oct q := frame_oct_back' (e ▸ hoc)
    have same : frame q = frame p → False := fun h => by
      rw [h] at e
      have : ((frame p).set k x)[k]'(by rw [List.length_set]; exact hk) = (frame p)[k] := by simp [e]
      rw [List.getElem_set_self] at this
      exact hne this
    have d8 : ∀ l : List Nat, (frame l).drop 8 = l := fun l => by have := frame_drop8 l []; simpa using this
    have t4 : ∀ l : List Nat, (frame l).take 4 = four l.length := fun l => by have := frame_take4 l []; simpa using this
    have d4 : ∀ l : List Nat, (frame l).drop 4 = four (mark l) ++ l := fun l => by have := frame_drop4 l []; simpa using this
    by_cases h8 : k < 8
    · have : q = p := by
        rw [← d8 q, ← d8 p, ← e, List.drop_set, if_pos h8]
      exact same (by rw [this])
    · -- the payload is turned, the sum is the old one
      have hm : mark q = mark p := by
        refine four_inj (mark_lt q hqo) (mark_lt p hp) ?_
        have h1 : ((frame q).drop 4).take 4 = ((frame p).drop 4).take 4 := by
          rw [← e, List.drop_set, if_neg (by omega), List.take_set_of_le (by omega)]
        rw [d4, d4, take_len _ _ 4 rfl, take_len _ _ 4 rfl] at h1
        exact h1
      have hqs : q = p.set (k - 8) x := by
        rw [← d8 q, ← e, List.drop_set, if_neg (by omega), d8]
      have hk8 : k - 8 < p.length := by omega
      unfold mark at hm
      rw [← hlen, hqs, set_split p _ x hk8] at hm
      conv at hm => rhs; rw [get_split p (k - 8) hk8]
      rw [← List.append_assoc, ← List.append_assoc] at hm
      have hb : p[k - 8] < 256 := hp _ (List.getElem_mem hk8)
      have hxp : x = p[k - 8] := by
        rw [List.length_append, List.length_cons, List.length_take, List.length_drop] at hm
        refine more_one (four p.length ++ p.take (k - 8)) (p.drop (k - 8 + 1)) x p[k - 8] hx hb ?_
        rw [show min (k - 8) p.length + (p.length - (k - 8 + 1) + 1) = p.length by omega] at hm
        exact hm
      refine same ?_
      rw [hqs, hxp, List.set_getElem_self]
theorem opn_part {p : List Nat} {k : Nat} (hg : Good p) (hp : Oct p) (hk : k < (frame p).length) : opn ((frame p).take k) = none := by
  unfold opn
  rw [first_part hg hp hk]
theorem opn_frame {p : List Nat} (hg : Good p) (hp : Oct p) : opn (frame p) = some p := (opn_iff (frame_oct p hp)).mpr ⟨hg, rfl⟩
theorem opn_more {p r : List Nat} (hg : Good p) (hp : Oct p) (h0 : r ≠ []) : opn (frame p ++ r) = none := by
  unfold opn
  rw [first_frame p r hg hp]
  refine if_neg ?_
  rw [List.length_append, frame_length]
  have : r.length ≠ 0 := fun h => h0 (List.eq_nil_of_length_eq_zero h)
  omega
/-- What is opened is the one frame that is cut. -/
theorem cut_opn {b p : List Nat} (hb : Oct b) (h : opn b = some p) : CutIs b [p] b.length := by
  obtain ⟨hg, rfl⟩ := (opn_iff hb).mp h
  refine ⟨by simpa using hg, Nat.le_refl _, ?_, ?_⟩
  · rw [List.take_length, flat_cons, flat_nil, List.append_nil]
  · rw [List.drop_length]; rfl
theorem opn_cut {b p : List Nat} (hb : Oct b) (h : CutIs b [p] b.length) : opn b = some p := by
  have e := h.eq
  rw [List.take_length, flat_cons, flat_nil, List.append_nil] at e
  exact (opn_iff hb).mpr ⟨h.good p (by simp), e⟩
end Go.Proofs.Ytlnblcgfgkkbhaa.Fr
