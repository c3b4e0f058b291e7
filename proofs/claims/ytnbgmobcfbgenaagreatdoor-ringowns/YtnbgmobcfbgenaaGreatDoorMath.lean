/-
  Plain mathematics: the order of texts; the hash; the nodes of a ring; points, and the order in which nodes are met from a number on. Its conditions: none.
-/
import GoSem.Op.String
namespace Go.Proofs.YtnbgmobcfbgenaaGreatDoor

/-! ### The order of texts -/

instance memDec (x : ByteArray) (l : List ByteArray) : Decidable (x ∈ l) := @List.instDecidableMemOfLawfulBEq _ (@instBEqOfDecidableEq _ inferInstance) inferInstance x l
theorem bl_irrefl : ∀ a : List UInt8, Op.bytesLess a a = false
  | [] => rfl
  | a :: x => by
    have h : ¬ a < a := by simp
    simp [Op.bytesLess, h, bl_irrefl x]
theorem bl_trans : ∀ {a b c : List UInt8}, Op.bytesLess a b = true → Op.bytesLess b c = true → Op.bytesLess a c = true
  | _, [], _, h, _ => by cases ‹List UInt8› <;> simp [Op.bytesLess] at h
  | _, _ :: _, [], _, h => by simp [Op.bytesLess] at h
  | [], _ :: _, _ :: _, _, _ => by simp [Op.bytesLess]
  | a :: x, b :: y, c :: z, h1, h2 => by
    simp only [Op.bytesLess, Bool.or_eq_true, decide_eq_true_eq, Bool.and_eq_true, beq_iff_eq] at h1 h2 ⊢
    rcases h1 with h1 | ⟨rfl, h1⟩
    · rcases h2 with h2 | ⟨rfl, h2⟩
      · exact .inl (UInt8.lt_trans h1 h2)
      · exact .inl h1
    · rcases h2 with h2 | ⟨rfl, h2⟩
      · exact .inl h2
      · exact .inr ⟨rfl, bl_trans h1 h2⟩
theorem bl_tri : ∀ {a b : List UInt8}, Op.bytesLess a b = false → Op.bytesLess b a = false → a = b
  | [], [], _, _ => rfl
  | [], _ :: _, h, _ => by simp [Op.bytesLess] at h
  | _ :: _, [], _, h => by simp [Op.bytesLess] at h
  | a :: x, b :: y, h1, h2 => by
    simp only [Op.bytesLess, Bool.or_eq_false_iff, decide_eq_false_iff_not, Bool.and_eq_false_iff] at h1 h2
    have e : a = b := by
      have h3 := h1.1
      have h4 := h2.1
      rw [UInt8.not_lt] at h3 h4
      exact UInt8.le_antisymm h4 h3
    subst e
    rcases h1.2 with h | h
    · simp at h
    · rcases h2.2 with h' | h'
      · simp at h'
      · rw [bl_tri h h']

theorem toList_data (s : ByteArray) : s.toList = s.data.toList := by
  have loop : ∀ (n i : Nat) (r : List UInt8), s.size - i = n → ByteArray.toList.loop s i r = r.reverse ++ s.data.toList.drop i := by
    intro n
    induction n with
    | zero =>
      intro i r h
      unfold ByteArray.toList.loop
      have hs : s.size = s.data.toList.length := Array.length_toList.symm
      rw [if_neg (by omega), List.drop_of_length_le (by omega), List.append_nil]
    | succ n ih =>
      intro i r h
      unfold ByteArray.toList.loop
      have hs : s.size = s.data.toList.length := Array.length_toList.symm
      have hi : i < s.data.toList.length := by omega
      rw [if_pos (by omega), ih _ _ (by omega), List.drop_eq_getElem_cons hi]
      simp [ByteArray.get!, Array.getElem!_eq_getD, Array.getD]
      rw [dif_pos (by omega)]
  unfold ByteArray.toList
  rw [loop _ 0 [] rfl]
  simp
theorem toList_inj {a b : ByteArray} (h : a.toList = b.toList) : a = b := by
  rw [toList_data, toList_data] at h
  exact ByteArray.ext (Array.toList_inj.mp h)

/-- One text stands ahead of another. -/
def lt (a b : ByteArray) : Bool := Op.bytesLess a.toList b.toList
theorem lt_irrefl (a : ByteArray) : lt a a = false := bl_irrefl _
theorem lt_trans {a b c : ByteArray} (h : lt a b = true) (k : lt b c = true) : lt a c = true := bl_trans h k
theorem lt_tri {a b : ByteArray} (h : lt a b = false) (k : lt b a = false) : a = b := toList_inj (bl_tri h k)
theorem lt_asymm {a b : ByteArray} (h : lt a b = true) : lt b a = false := by
  cases hb : lt b a with
  | false => rfl
  | true => rw [← lt_irrefl a, lt_trans h hb]
theorem lt_ne {a b : ByteArray} (h : lt a b = true) : a ≠ b := by
  rintro rfl
  rw [lt_irrefl] at h
  cases h
theorem lt_other {a b : ByteArray} (h : lt a b = false) (hn : b ≠ a) : lt b a = true := by
  cases h2 : lt b a with
  | true => rfl
  | false => exact absurd (lt_tri h h2).symm hn
theorem toList_ne {a b : ByteArray} (h : ¬ a = b) : (a.toList == b.toList) = false := by
  rw [beq_eq_false_iff_ne]
  intro e
  exact h (toList_inj e)

/-- Texts that rise. -/
def KRises (K : List ByteArray) : Prop := K.Pairwise fun p q => lt p q = true
theorem krises_cons {p : ByteArray} {B : List ByteArray} : KRises (p :: B) ↔ (∀ q ∈ B, lt p q = true) ∧ KRises B := List.pairwise_cons
theorem KRises.nodup {K : List ByteArray} (h : KRises K) : K.Nodup := List.Pairwise.imp (fun h => lt_ne h) h
/-- Two lists of texts that rise and have the same texts are one. -/
theorem krises_one : ∀ {A B : List ByteArray}, KRises A → KRises B → (∀ q, q ∈ A ↔ q ∈ B) → A = B
  | [], [], _, _, _ => rfl
  | [], q :: _, _, _, h => absurd ((h q).mpr (by simp)) (by simp)
  | p :: _, [], _, _, h => absurd ((h p).mp (by simp)) (by simp)
  | p :: A, q :: B, ha, hb, h => by
    rw [krises_cons] at ha hb
    have e : p = q := by
      rcases List.mem_cons.mp ((h p).mp (by simp)) with e | h1
      · exact e
      · rcases List.mem_cons.mp ((h q).mpr (by simp)) with e | h2
        · exact e.symm
        · have h3 := lt_asymm (hb.1 p h1)
          rw [ha.1 q h2] at h3
          cases h3
    subst e
    congr 1
    refine krises_one ha.2 hb.2 fun x => ?_
    constructor
    · intro hx
      rcases List.mem_cons.mp ((h x).mp (by simp [hx])) with e | h1
      · subst e
        have := ha.1 x hx
        rw [lt_irrefl] at this
        cases this
      · exact h1
    · intro hx
      rcases List.mem_cons.mp ((h x).mpr (by simp [hx])) with e | h1
      · subst e
        have := hb.1 x hx
        rw [lt_irrefl] at this
        cases this
      · exact h1
theorem nodup_le {α : Type} [DecidableEq α] {V : List α} : ∀ {L : List α}, V.Nodup → (∀ x ∈ V, x ∈ L) → V.length ≤ L.length := by
  induction V with
  | nil => intro L _ _; simp
  | cons x r ih =>
    intro L hn hs
    obtain ⟨h1, h2⟩ := List.nodup_cons.mp hn
    have hx := hs x (by simp)
    have := ih (L := L.erase x) h2 (fun y hy => (List.mem_erase_of_ne (fun (e : y = x) => h1 (by rw [← e]; exact hy))).mpr (hs y (by simp [hy])))
    rw [List.length_erase_of_mem hx] at this
    have h0 := List.length_pos_of_mem hx
    simp
    omega
theorem nodup_eq {α : Type} [DecidableEq α] {V L : List α} (hV : V.Nodup) (hL : L.Nodup) (h : ∀ x, x ∈ V ↔ x ∈ L) : V.length = L.length :=
  Nat.le_antisymm (nodup_le hV fun x hx => (h x).mp hx) (nodup_le hL fun x hx => (h x).mpr hx)

/-! ### Nodes -/
/-- A text is put in its place. -/
def ins (x : ByteArray) : List ByteArray → List ByteArray
  | [] => [x]
  | y :: r => if lt y x then y :: ins x r else x :: y :: r
theorem mem_ins {x q : ByteArray} {l : List ByteArray} : q ∈ ins x l ↔ q = x ∨ q ∈ l := by
  induction l with
  | nil => simp [ins]
  | cons y r ih =>
    unfold ins
    split
    · rw [List.mem_cons, ih, List.mem_cons]
      constructor
      · rintro (h | h | h)
        · exact .inr (.inl h)
        · exact .inl h
        · exact .inr (.inr h)
      · rintro (h | h | h)
        · exact .inr (.inl h)
        · exact .inl h
        · exact .inr (.inr h)
    · simp
theorem krises_ins {x : ByteArray} {l : List ByteArray} (h : KRises l) (hx : x ∉ l) : KRises (ins x l) := by
  induction l with
  | nil => exact List.pairwise_singleton _ _
  | cons y r ih =>
    rw [krises_cons] at h
    unfold ins
    cases hl : lt y x with
    | true =>
      simp only [if_true]
      rw [krises_cons]
      refine ⟨fun q hq => ?_, ih h.2 (fun hm => hx (by simp [hm]))⟩
      rcases mem_ins.mp hq with rfl | hq
      · exact hl
      · exact h.1 q hq
    | false =>
      simp only [Bool.false_eq_true, if_false]
      have hxy : lt x y = true := lt_other hl (fun e => hx (by simp [e]))
      rw [krises_cons, krises_cons]
      refine ⟨fun q hq => ?_, h⟩
      rcases List.mem_cons.mp hq with rfl | hq
      · exact hxy
      · exact lt_trans hxy (h.1 q hq)
def srt (l : List ByteArray) : List ByteArray := l.foldr ins []
theorem mem_srt {q : ByteArray} {l : List ByteArray} : q ∈ srt l ↔ q ∈ l := by
  induction l with
  | nil => simp [srt]
  | cons x r ih =>
    show q ∈ ins x (srt r) ↔ _
    rw [mem_ins, ih, List.mem_cons]
theorem krises_srt {l : List ByteArray} (h : l.Nodup) : KRises (srt l) := by
  induction l with
  | nil => exact List.Pairwise.nil
  | cons x r ih =>
    obtain ⟨h1, h2⟩ := List.nodup_cons.mp h
    exact krises_ins (ih h2) (fun hm => h1 (mem_srt.mp hm))
/-- One more node, where there is room. -/
def add1 (acc : List ByteArray) (x : ByteArray) : List ByteArray := if acc.length = 8 then acc else if x ∈ acc then acc else acc ++ [x]
/-- The first eight different ones. -/
def uniq8 (l : List ByteArray) : List ByteArray := l.foldl add1 []
theorem uniq8_snoc (l : List ByteArray) (x : ByteArray) : uniq8 (l ++ [x]) = add1 (uniq8 l) x := by simp [uniq8, List.foldl_append]
theorem uniq8_take {l : List ByteArray} {k : Nat} (h : k < l.length) : uniq8 (l.take (k + 1)) = add1 (uniq8 (l.take k)) l[k] := by
  rw [List.take_succ_eq_append_getElem h, uniq8_snoc]
theorem add1_full {acc : List ByteArray} (h : acc.length = 8) (x : ByteArray) : add1 acc x = acc := by simp [add1, h]
theorem uniq8_full {l : List ByteArray} {k : Nat} (h : (uniq8 (l.take k)).length = 8) : uniq8 l = uniq8 (l.take k) := by
  have : ∀ (t acc : List ByteArray), acc.length = 8 → t.foldl add1 acc = acc := by
    intro t
    induction t with
    | nil => intro acc _; rfl
    | cons x r ih => intro acc ha; rw [List.foldl_cons, add1_full ha, ih acc ha]
  unfold uniq8
  conv => lhs; rw [← List.take_append_drop k l]
  rw [List.foldl_append]
  exact this _ _ h
theorem snocInd {α : Type} {p : List α → Prop} (h0 : p []) (h1 : ∀ l x, p l → p (l ++ [x])) (l : List α) : p l := by
  have h : ∀ (n : Nat) (l : List α), l.length = n → p l := by
    intro n
    induction n with
    | zero => intro l hl; rw [List.eq_nil_of_length_eq_zero hl]; exact h0
    | succ n ih =>
      intro l hl
      have hd : l ≠ [] := by intro e; rw [e] at hl; simp at hl
      rw [← List.dropLast_concat_getLast hd]
      exact h1 _ _ (ih _ (by simp [hl]))
  exact h _ l rfl
theorem uniq8_facts (l : List ByteArray) : (uniq8 l).Nodup ∧ (uniq8 l).length ≤ 8 ∧ (∀ q ∈ uniq8 l, q ∈ l) ∧ ((uniq8 l).length < 8 → ∀ q ∈ l, q ∈ uniq8 l) := by
  induction l using snocInd with
  | h0 => exact ⟨List.nodup_nil, by simp [uniq8], by simp [uniq8], by simp⟩
  | h1 l x ih =>
    obtain ⟨h1, h2, h3, h4⟩ := ih
    rw [uniq8_snoc]
    unfold add1
    split
    · rename_i h8
      exact ⟨h1, h2, fun q hq => by simp [h3 q hq], fun h => by omega⟩
    · split
      · rename_i hm
        refine ⟨h1, h2, fun q hq => by simp [h3 q hq], fun h q hq => ?_⟩
        rcases List.mem_append.mp hq with hq | hq
        · exact h4 h q hq
        · rw [List.mem_singleton.mp hq]
          exact hm
      · rename_i h8 hm
        refine ⟨List.nodup_append.mpr ⟨h1, by simp, fun a ha b hb e => ?_⟩, by simp; omega, fun q hq => ?_, fun h q hq => ?_⟩
        · rw [List.mem_singleton.mp hb] at e
          rw [e] at ha
          exact hm ha
        · rcases List.mem_append.mp hq with hq | hq
          · simp [h3 q hq]
          · simp [List.mem_singleton.mp hq]
        · rcases List.mem_append.mp hq with hq | hq
          · simp [h4 (by omega) q hq]
          · simp [List.mem_singleton.mp hq]
theorem uniq8_nodup (l : List ByteArray) : (uniq8 l).Nodup := (uniq8_facts l).1
theorem uniq8_len (l : List ByteArray) : (uniq8 l).length ≤ 8 := (uniq8_facts l).2.1
theorem uniq8_sub {l : List ByteArray} {q : ByteArray} (h : q ∈ uniq8 l) : q ∈ l := (uniq8_facts l).2.2.1 q h
/-- Where there are at most eight in all, all are there. -/
theorem uniq8_all {l : List ByteArray} (h : l.length ≤ 8) {q : ByteArray} (hq : q ∈ l) : q ∈ uniq8 l := by
  obtain ⟨h1, h2, h3, h4⟩ := uniq8_facts l
  by_cases h8 : (uniq8 l).length < 8
  · exact h4 h8 q hq
  · by_cases hm : q ∈ uniq8 l
    · exact hm
    · have := nodup_le (V := q :: uniq8 l) (L := l) (List.nodup_cons.mpr ⟨hm, h1⟩) (fun x hx => by
        rcases List.mem_cons.mp hx with rfl | hx
        · exact hq
        · exact h3 x hx)
      simp at this
      omega
theorem uniq8_self {l : List ByteArray} (h : l.Nodup) (h8 : l.length ≤ 8) : uniq8 l = l := by
  induction l using snocInd with
  | h0 => rfl
  | h1 l x ih =>
    obtain ⟨n1, _, n3⟩ := List.nodup_append.mp h
    simp at h8
    rw [uniq8_snoc, ih n1 (by omega)]
    unfold add1
    have hx : x ∉ l := fun hm => n3 x hm x (by simp) rfl
    rw [if_neg (by omega), if_neg hx]
/-- A ring's nodes, rising. -/
def nodesOf (l : List ByteArray) : List ByteArray := srt (uniq8 l)
theorem nodesOf_krises (l : List ByteArray) : KRises (nodesOf l) := krises_srt (uniq8_nodup l)
theorem mem_nodesOf {l : List ByteArray} {q : ByteArray} : q ∈ nodesOf l ↔ q ∈ uniq8 l := mem_srt
theorem nodesOf_nodup (l : List ByteArray) : (nodesOf l).Nodup := (nodesOf_krises l).nodup
theorem nodesOf_length (l : List ByteArray) : (nodesOf l).length = (uniq8 l).length := nodup_eq (nodesOf_nodup l) (uniq8_nodup l) fun _ => mem_nodesOf
theorem nodesOf_len (l : List ByteArray) : (nodesOf l).length ≤ 8 := by rw [nodesOf_length]; exact uniq8_len l
theorem nodesOf_one {l m : List ByteArray} (h : ∀ q, q ∈ uniq8 l ↔ q ∈ uniq8 m) : nodesOf l = nodesOf m := krises_one (nodesOf_krises l) (nodesOf_krises m) fun q => by rw [mem_nodesOf, mem_nodesOf, h]
theorem nodesOf_same {l m : List ByteArray} (hl : l.length ≤ 8) (hm : m.length ≤ 8) (h : ∀ q, q ∈ l ↔ q ∈ m) : nodesOf l = nodesOf m :=
  nodesOf_one fun q => ⟨fun hq => uniq8_all hm ((h q).mp (uniq8_sub hq)), fun hq => uniq8_all hl ((h q).mpr (uniq8_sub hq))⟩
theorem nodesOf_nil : nodesOf [] = [] := rfl
theorem nodesOf_single (x : ByteArray) : nodesOf [x] = [x] := by simp [nodesOf, uniq8, add1, srt, ins]
/-- One node more. -/
def withN (S : List ByteArray) (x : ByteArray) : List ByteArray := nodesOf (S ++ [x])
/-- One node fewer. -/
def dropN (S : List ByteArray) (x : ByteArray) : List ByteArray := S.filter fun q => decide (q ≠ x)
def withoutN (S : List ByteArray) (x : ByteArray) : List ByteArray := nodesOf (dropN S x)
theorem mem_dropN {S : List ByteArray} {x q : ByteArray} : q ∈ dropN S x ↔ q ∈ S ∧ q ≠ x := by simp [dropN]
theorem mem_withN {S : List ByteArray} {x q : ByteArray} (hn : S.Nodup) (h8 : S.length ≤ 8) : q ∈ withN S x ↔ q ∈ S ∨ (q = x ∧ S.length < 8) := by
  unfold withN
  rw [mem_nodesOf, uniq8_snoc, uniq8_self hn h8]
  unfold add1
  split
  · rename_i h
    constructor
    · exact .inl
    · rintro (h1 | ⟨_, h1⟩)
      · exact h1
      · omega
  · split
    · rename_i hm
      constructor
      · exact .inl
      · rintro (h1 | ⟨rfl, h1⟩)
        · exact h1
        · exact hm
    · rw [List.mem_append, List.mem_singleton]
      constructor
      · rintro (h1 | h1)
        · exact .inl h1
        · exact .inr ⟨h1, by omega⟩
      · rintro (h1 | ⟨h1, _⟩)
        · exact .inl h1
        · exact .inr h1
theorem mem_withoutN {S : List ByteArray} {x q : ByteArray} (hn : S.Nodup) (h8 : S.length ≤ 8) : q ∈ withoutN S x ↔ q ∈ S ∧ q ≠ x := by
  unfold withoutN
  have hl : (dropN S x).length ≤ S.length := List.length_filter_le _ _
  have hd : (dropN S x).Nodup := List.Pairwise.filter _ hn
  rw [mem_nodesOf, uniq8_self hd (by omega), mem_dropN]
theorem withN_pos (S : List ByteArray) (x : ByteArray) (hn : S.Nodup) (h8 : S.length ≤ 8) : withN S x ≠ [] := by
  intro e
  cases S with
  | nil =>
    have := (mem_withN (q := x) hn h8).mpr (.inr ⟨rfl, by simp⟩)
    rw [e] at this
    cases this
  | cons y r =>
    have := (mem_withN (x := x) (q := y) hn h8).mpr (.inl (by simp))
    rw [e] at this
    cases this
/-- With a node, and without it, is as without it. -/
theorem back (S : List ByteArray) (x : ByteArray) (hn : S.Nodup) (h8 : S.length ≤ 8) : withoutN (withN S x) x = withoutN S x := by
  refine krises_one (nodesOf_krises _) (nodesOf_krises _) fun q => ?_
  rw [mem_withoutN (S := withN S x) (nodesOf_nodup _) (nodesOf_len _), mem_withoutN hn h8, mem_withN hn h8]
  constructor
  · rintro ⟨h1 | ⟨h1, _⟩, h2⟩
    · exact ⟨h1, h2⟩
    · exact absurd h1 h2
  · rintro ⟨h1, h2⟩
    exact ⟨.inl h1, h2⟩

/-! ### The hash -/
def hstep (h c : Nat) : Nat := ((h ^^^ c) * 1099511628211) % 18446744073709551616
def hstart : Nat := 14695981039346656037
def hspread (h : Nat) : Nat := ((h ^^^ (h / 4294967296)) * 15459136393263645077) % 18446744073709551616
def hend (h : Nat) : Nat := h ^^^ (h / 4294967296)
def hash (l : List Nat) : Nat := hend (hspread (l.foldl hstep hstart))
theorem hstep_lt (h c : Nat) : hstep h c < 18446744073709551616 := Nat.mod_lt _ (by decide)
theorem hspread_lt (h : Nat) : hspread h < 18446744073709551616 := Nat.mod_lt _ (by decide)
theorem hstart_lt : hstart < 18446744073709551616 := by unfold hstart; omega
theorem hfold_lt (l : List Nat) : ∀ h, h < 18446744073709551616 → l.foldl hstep h < 18446744073709551616 := by
  induction l with
  | nil => intro h hh; exact hh
  | cons c l ih => intro h _; rw [List.foldl_cons]; exact ih _ (hstep_lt _ _)
theorem pow64 : (18446744073709551616 : Nat) = 2 ^ 64 := by decide
theorem hend_lt {h : Nat} (hh : h < 18446744073709551616) : hend h < 18446744073709551616 := by
  unfold hend
  rw [pow64] at hh ⊢
  exact Nat.xor_lt_two_pow hh (Nat.lt_of_le_of_lt (Nat.div_le_self _ _) hh)
/-- A text's hash. -/
def hsh (s : ByteArray) : Nat := hash (s.data.toList.map UInt8.toNat)
theorem hsh_lt (s : ByteArray) : hsh s < 18446744073709551616 := hend_lt (hspread_lt _)

/-! ### Points -/
/-- j in decimal digits. -/
def dig (j : Nat) : ByteArray := if j < 10 then ⟨#[UInt8.ofNat (48 + j)]⟩ else ⟨#[49, UInt8.ofNat (38 + j)]⟩
def slash : ByteArray := ⟨#[47]⟩
/-- The text of a node's point. -/
def ptext (a : ByteArray) (j : Nat) : ByteArray := (a ++ slash) ++ dig j
def pt (a : ByteArray) (j : Nat) : Nat := hsh (ptext a j)
theorem pt_lt (a : ByteArray) (j : Nat) : pt a j < 18446744073709551616 := hsh_lt _
/-- How far it is from H up to p. -/
def dist (H p : Nat) : Nat := (p + 18446744073709551616 - H) % 18446744073709551616
theorem dist_up {H p : Nat} (hp : p < 18446744073709551616) (h : H ≤ p) : dist H p = p - H := by
  unfold dist
  omega
theorem dist_round {H p : Nat} (hH : H < 18446744073709551616) (h : p < H) : dist H p = p + 18446744073709551616 - H := by
  unfold dist
  omega
def wayUpto (H : Nat) (a : ByteArray) : Nat → Nat
  | 0 => dist H (pt a 0)
  | n + 1 => if dist H (pt a (n + 1)) < wayUpto H a n then dist H (pt a (n + 1)) else wayUpto H a n
theorem wayUpto_le {H : Nat} {a : ByteArray} : ∀ {n j : Nat}, j ≤ n → wayUpto H a n ≤ dist H (pt a j)
  | 0, j, h => by
    have : j = 0 := by omega
    subst this
    exact Nat.le_refl _
  | n + 1, j, h => by
    unfold wayUpto
    by_cases e : j = n + 1
    · subst e
      split <;> omega
    · have := wayUpto_le (H := H) (a := a) (n := n) (j := j) (by omega)
      split <;> omega
theorem wayUpto_is {H : Nat} {a : ByteArray} : ∀ n : Nat, ∃ j, j ≤ n ∧ wayUpto H a n = dist H (pt a j)
  | 0 => ⟨0, Nat.le_refl _, rfl⟩
  | n + 1 => by
    unfold wayUpto
    split
    · exact ⟨n + 1, Nat.le_refl _, rfl⟩
    · obtain ⟨j, h1, h2⟩ := wayUpto_is (H := H) (a := a) n
      exact ⟨j, by omega, h2⟩
/-- How far it is up to a node's nearest point. -/
def way (H : Nat) (a : ByteArray) : Nat := wayUpto H a 15
theorem way_le {H : Nat} {a : ByteArray} {j : Nat} (h : j < 16) : way H a ≤ dist H (pt a j) := wayUpto_le (by omega)
theorem way_is (H : Nat) (a : ByteArray) : ∃ j, j < 16 ∧ way H a = dist H (pt a j) := by
  obtain ⟨j, h1, h2⟩ := wayUpto_is (H := H) (a := a) 15
  exact ⟨j, by omega, h2⟩
/-- One node is met ahead of another. -/
def wl (H : Nat) (a b : ByteArray) : Prop := way H a < way H b ∨ (way H a = way H b ∧ lt a b = true)
theorem wl_asymm {H : Nat} {a b : ByteArray} (h : wl H a b) : ¬ wl H b a := by
  rintro (h2 | ⟨h2, h3⟩)
  · rcases h with h | ⟨h, _⟩ <;> omega
  · rcases h with h | ⟨_, h⟩
    · omega
    · rw [lt_asymm h] at h3
      cases h3
theorem wl_irrefl {H : Nat} {a : ByteArray} : ¬ wl H a a := fun h => wl_asymm h h
theorem wl_ne {H : Nat} {a b : ByteArray} (h : wl H a b) : a ≠ b := by
  rintro rfl
  exact wl_irrefl h
/-- L is the nodes of S in the order in which they are met from H on. -/
structure IsOrd (S : List ByteArray) (H : Nat) (L : List ByteArray) : Prop where
  mem : ∀ q, q ∈ L ↔ q ∈ S
  pw : L.Pairwise (wl H)
theorem wl_one {H : Nat} : ∀ {A B : List ByteArray}, A.Pairwise (wl H) → B.Pairwise (wl H) → (∀ q, q ∈ A ↔ q ∈ B) → A = B
  | [], [], _, _, _ => rfl
  | [], q :: _, _, _, h => absurd ((h q).mpr (by simp)) (by simp)
  | p :: _, [], _, _, h => absurd ((h p).mp (by simp)) (by simp)
  | p :: A, q :: B, ha, hb, h => by
    rw [List.pairwise_cons] at ha hb
    have e : p = q := by
      rcases List.mem_cons.mp ((h p).mp (by simp)) with e | h1
      · exact e
      · rcases List.mem_cons.mp ((h q).mpr (by simp)) with e | h2
        · exact e.symm
        · exact absurd (ha.1 q h2) (wl_asymm (hb.1 p h1))
    subst e
    congr 1
    refine wl_one ha.2 hb.2 fun x => ?_
    constructor
    · intro hx
      rcases List.mem_cons.mp ((h x).mp (by simp [hx])) with e | h1
      · subst e
        exact absurd (ha.1 x hx) wl_irrefl
      · exact h1
    · intro hx
      rcases List.mem_cons.mp ((h x).mpr (by simp [hx])) with e | h1
      · subst e
        exact absurd (hb.1 x hx) wl_irrefl
      · exact h1
theorem IsOrd.nodup {S : List ByteArray} {H : Nat} {L : List ByteArray} (h : IsOrd S H L) : L.Nodup := List.Pairwise.imp (fun h => wl_ne h) h.pw
theorem IsOrd.one {S T : List ByteArray} {H : Nat} {L M : List ByteArray} (h : IsOrd S H L) (k : IsOrd T H M) (hs : ∀ q, q ∈ S ↔ q ∈ T) : L = M :=
  wl_one h.pw k.pw fun q => by rw [h.mem, k.mem, hs]

/-- A point: its number, its node. -/
structure Pt where
  h : Nat
  n : ByteArray
instance : Inhabited Pt := ⟨⟨0, ⟨#[]⟩⟩⟩
theorem Pt.ext' {a b : Pt} (h1 : a.h = b.h) (h2 : a.n = b.n) : a = b := by
  cases a
  cases b
  simp_all
def ptLt (a b : Pt) : Bool := decide (a.h < b.h) || (decide (a.h = b.h) && lt a.n b.n)
theorem ptLt_iff {a b : Pt} : ptLt a b = true ↔ a.h < b.h ∨ (a.h = b.h ∧ lt a.n b.n = true) := by simp [ptLt]
theorem ptLt_no {a b : Pt} : ptLt a b = false ↔ b.h ≤ a.h ∧ (a.h = b.h → lt a.n b.n = false) := by
  rw [← Bool.not_eq_true, ptLt_iff]
  constructor
  · intro h
    refine ⟨by have : ¬ a.h < b.h := fun h1 => h (.inl h1); omega, fun e => ?_⟩
    cases h2 : lt a.n b.n with
    | false => rfl
    | true => exact absurd (.inr ⟨e, h2⟩) h
  · rintro ⟨h1, h2⟩ (h3 | ⟨h3, h4⟩)
    · omega
    · rw [h2 h3] at h4
      cases h4
theorem ptLt_irrefl (a : Pt) : ptLt a a = false := ptLt_no.mpr ⟨Nat.le_refl _, fun _ => lt_irrefl _⟩
theorem ptLt_trans {a b c : Pt} (h : ptLt a b = true) (k : ptLt b c = true) : ptLt a c = true := by
  rw [ptLt_iff] at *
  rcases h with h | ⟨h, h2⟩ <;> rcases k with k | ⟨k, k2⟩
  · exact .inl (by omega)
  · exact .inl (by omega)
  · exact .inl (by omega)
  · exact .inr ⟨by omega, lt_trans h2 k2⟩
theorem ptLt_tri {a b : Pt} (h : ptLt a b = false) (k : ptLt b a = false) : a = b := by
  rw [ptLt_no] at *
  have e : a.h = b.h := by omega
  exact Pt.ext' e (lt_tri (h.2 e) (k.2 e.symm))
theorem ptLt_asymm {a b : Pt} (h : ptLt a b = true) : ptLt b a = false := by
  cases hb : ptLt b a with
  | false => rfl
  | true => rw [← ptLt_irrefl a, ptLt_trans h hb]
/-- A node's first j points. -/
def ptsOf (a : ByteArray) (j : Nat) : List Pt := (List.range j).map fun i => ⟨pt a i, a⟩
theorem ptsOf_succ (a : ByteArray) (j : Nat) : ptsOf a (j + 1) = ptsOf a j ++ [⟨pt a j, a⟩] := by simp [ptsOf, List.range_succ]
theorem ptsOf_zero (a : ByteArray) : ptsOf a 0 = [] := rfl
theorem ptsOf_length (a : ByteArray) (j : Nat) : (ptsOf a j).length = j := by simp [ptsOf]
/-- All points, node by node. -/
def raw (S : List ByteArray) : List Pt := S.flatMap fun a => ptsOf a 16
theorem raw_take {S : List ByteArray} {k : Nat} (h : k < S.length) : raw (S.take (k + 1)) = raw (S.take k) ++ ptsOf S[k] 16 := by
  rw [List.take_succ_eq_append_getElem h]
  unfold raw
  rw [List.flatMap_append]
  simp
theorem raw_length (S : List ByteArray) : (raw S).length = S.length * 16 := by
  induction S with
  | nil => rfl
  | cons a r ih =>
    show (ptsOf a 16 ++ raw r).length = _
    rw [List.length_append, ih, ptsOf_length]
    simp
    omega
theorem mem_raw {S : List ByteArray} {p : Pt} : p ∈ raw S ↔ p.n ∈ S ∧ ∃ j, j < 16 ∧ p.h = pt p.n j := by
  unfold raw ptsOf
  rw [List.mem_flatMap]
  constructor
  · rintro ⟨a, ha, hp⟩
    obtain ⟨j, hj, rfl⟩ := List.mem_map.mp hp
    exact ⟨ha, j, List.mem_range.mp hj, rfl⟩
  · rintro ⟨ha, j, hj, e⟩
    exact ⟨p.n, ha, List.mem_map.mpr ⟨j, List.mem_range.mpr hj, Pt.ext' e.symm rfl⟩⟩
/-- All points in their order. -/
def sortP (l : List Pt) : List Pt := l.mergeSort fun x y => !ptLt y x
def laidP (S : List ByteArray) : List Pt := sortP (raw S)
theorem laidP_perm (S : List ByteArray) : (laidP S).Perm (raw S) := List.mergeSort_perm _ _
theorem laidP_length (S : List ByteArray) : (laidP S).length = S.length * 16 := by rw [(laidP_perm S).length_eq, raw_length]
theorem mem_laidP {S : List ByteArray} {p : Pt} : p ∈ laidP S ↔ p.n ∈ S ∧ ∃ j, j < 16 ∧ p.h = pt p.n j := by rw [(laidP_perm S).mem_iff, mem_raw]
theorem laidP_sorted (S : List ByteArray) : (laidP S).Pairwise fun x y => ptLt y x = false := by
  have := List.pairwise_mergeSort (le := fun x y : Pt => !ptLt y x) (fun a b c h1 h2 => by
    simp only [Bool.not_eq_true'] at h1 h2 ⊢
    cases h : ptLt c a with
    | false => rfl
    | true =>
      cases h3 : ptLt b c with
      | true => rw [ptLt_trans h3 h] at h1; cases h1
      | false =>
        have := ptLt_tri h3 h2
        subst this
        rw [h] at h1
        cases h1) (fun a b => by
    cases h : ptLt b a with
    | false => simp
    | true => rw [ptLt_asymm h]; rfl) (raw S)
  exact this.imp fun h => by simpa using h
/-- f parts the points: those below H, and the others. -/
structure Splits (H : Nat) (P : List Pt) (f : Nat) : Prop where
  le : f ≤ P.length
  lo : ∀ p ∈ P.take f, p.h < H
  hi : ∀ p ∈ P.drop f, H ≤ p.h
theorem splits_is (H : Nat) : ∀ {P : List Pt}, P.Pairwise (fun x y => ptLt y x = false) → ∃ f, Splits H P f
  | [], _ => ⟨0, Nat.le_refl _, by simp, by simp⟩
  | p :: r, h => by
    rw [List.pairwise_cons] at h
    by_cases hp : p.h < H
    · obtain ⟨f, h1, h2, h3⟩ := splits_is H h.2
      refine ⟨f + 1, by simp; omega, ?_, ?_⟩
      · intro q hq
        rw [List.take_succ_cons] at hq
        rcases List.mem_cons.mp hq with rfl | hq
        · exact hp
        · exact h2 q hq
      · intro q hq
        rw [List.drop_succ_cons] at hq
        exact h3 q hq
    · refine ⟨0, Nat.zero_le _, by simp, ?_⟩
      intro q hq
      rw [List.drop_zero] at hq
      rcases List.mem_cons.mp hq with rfl | hq
      · omega
      · have := (ptLt_no.mp (h.1 q hq)).1
        omega
/-- How many points are below H. -/
def cnt (H : Nat) (P : List Pt) : Nat := (P.filter fun p => decide (p.h < H)).length
theorem Splits.eq {H : Nat} {P : List Pt} {f : Nat} (h : Splits H P f) : f = cnt H P := by
  unfold cnt
  conv => rhs; rw [← List.take_append_drop f P]
  rw [List.filter_append, List.filter_eq_self.mpr (fun p hp => decide_eq_true (h.lo p hp)), List.filter_eq_nil_iff.mpr (fun p hp => by have := h.hi p hp; simp; omega), List.append_nil, List.length_take]
  have := h.le
  omega
/-- The points from H on, around the ring. -/
def rot (f : Nat) (P : List Pt) : List Pt := P.drop f ++ P.take f
theorem rot_length {f : Nat} {P : List Pt} (h : f ≤ P.length) : (rot f P).length = P.length := by simp [rot]; omega
theorem rot_get {f : Nat} {P : List Pt} (h : f ≤ P.length) {i : Nat} (hi : i < P.length) : (rot f P)[i]? = P[(f + i) % P.length]? := by
  unfold rot
  by_cases hd : i < P.length - f
  · rw [List.getElem?_append_left (by simp; omega), List.getElem?_drop, Nat.mod_eq_of_lt (by omega)]
  · rw [List.getElem?_append_right (by simp; omega), List.length_drop, List.getElem?_take, if_pos (by omega)]
    congr 1
    rw [show f + i = (i - (P.length - f)) + P.length by omega, Nat.add_mod_right, Nat.mod_eq_of_lt (by omega)]
def dLe (H : Nat) (x y : Pt) : Prop := dist H x.h < dist H y.h ∨ (dist H x.h = dist H y.h ∧ lt y.n x.n = false)
theorem rot_pw {H : Nat} (hH : H < 18446744073709551616) {P : List Pt} {f : Nat} (hs : Splits H P f) (hp : ∀ p ∈ P, p.h < 18446744073709551616) (h : P.Pairwise fun x y => ptLt y x = false) : (rot f P).Pairwise (dLe H) := by
  unfold rot
  rw [List.pairwise_append]
  have hd : ∀ p ∈ P.drop f, p ∈ P := fun p hp => List.mem_of_mem_drop hp
  have ht : ∀ p ∈ P.take f, p ∈ P := fun p hp => List.mem_of_mem_take hp
  refine ⟨?_, ?_, ?_⟩
  · refine List.Pairwise.imp_of_mem ?_ (h.sublist (List.drop_sublist f P))
    intro x y hx hy hxy
    have h1 := ptLt_no.mp hxy
    have hx2 := dist_up (hp x (hd x hx)) (hs.hi x hx)
    have hy2 := dist_up (hp y (hd y hy)) (hs.hi y hy)
    have := hs.hi x hx
    unfold dLe
    rw [hx2, hy2]
    by_cases e : y.h = x.h
    · exact .inr ⟨by omega, h1.2 e⟩
    · exact .inl (by omega)
  · refine List.Pairwise.imp_of_mem ?_ (h.sublist (List.take_sublist f P))
    intro x y hx hy hxy
    have h1 := ptLt_no.mp hxy
    have hx2 := dist_round hH (hs.lo x hx)
    have hy2 := dist_round hH (hs.lo y hy)
    unfold dLe
    rw [hx2, hy2]
    by_cases e : y.h = x.h
    · exact .inr ⟨by omega, h1.2 e⟩
    · exact .inl (by omega)
  · intro x hx y hy
    have hx2 := dist_up (hp x (hd x hx)) (hs.hi x hx)
    have hy2 := dist_round hH (hs.lo y hy)
    have := hp x (hd x hx)
    have := hs.hi x hx
    unfold dLe
    rw [hx2, hy2]
    exact .inl (by omega)
/-- One node more, where it isn't there. -/
def fst1 (acc : List ByteArray) (x : ByteArray) : List ByteArray := if x ∈ acc then acc else acc ++ [x]
/-- Each node once, as it is met first. -/
def firsts (l : List ByteArray) : List ByteArray := l.foldl fst1 []
theorem firsts_snoc (l : List ByteArray) (x : ByteArray) : firsts (l ++ [x]) = fst1 (firsts l) x := by simp [firsts, List.foldl_append]
theorem firsts_take {l : List ByteArray} {k : Nat} (h : k < l.length) : firsts (l.take (k + 1)) = fst1 (firsts (l.take k)) l[k] := by
  rw [List.take_succ_eq_append_getElem h, firsts_snoc]
theorem foldl_fst1_prefix : ∀ (t acc : List ByteArray), ∃ r, t.foldl fst1 acc = acc ++ r
  | [], acc => ⟨[], by simp⟩
  | x :: t, acc => by
    rw [List.foldl_cons]
    obtain ⟨r, hr⟩ := foldl_fst1_prefix t (fst1 acc x)
    rw [hr]
    unfold fst1
    split
    · exact ⟨r, rfl⟩
    · exact ⟨x :: r, by simp⟩
theorem firsts_prefix (l : List ByteArray) (k : Nat) : ∃ r, firsts l = firsts (l.take k) ++ r := by
  unfold firsts
  obtain ⟨r, hr⟩ := foldl_fst1_prefix (l.drop k) ((l.take k).foldl fst1 [])
  refine ⟨r, ?_⟩
  rw [← hr, ← List.foldl_append, List.take_append_drop]
/-- What has been met when so many are found. -/
theorem firsts_enough {l : List ByteArray} {k : Nat} {n : Int} (h1 : ((firsts (l.take k)).length : Int) ≥ n) (h2 : ((firsts (l.take k)).length : Int) ≤ max n 0) : firsts (l.take k) = (firsts l).take n.toNat := by
  obtain ⟨r, hr⟩ := firsts_prefix l k
  rw [hr, show n.toNat = (firsts (l.take k)).length by omega]
  simp
theorem firsts_all {l : List ByteArray} {n : Int} (h2 : ((firsts l).length : Int) ≤ max n 0) : firsts l = (firsts l).take n.toNat := by
  rw [List.take_of_length_le (by omega)]
/-- The nodes that are met are in their order. -/
theorem firsts_ord {S : List ByteArray} {H : Nat} {R : List Pt} (hm : ∀ p, p ∈ R ↔ p.n ∈ S ∧ ∃ j, j < 16 ∧ p.h = pt p.n j) (hp : R.Pairwise (dLe H)) : IsOrd S H (firsts (R.map (·.n))) := by
  have key : ∀ Q : List Pt, ∀ T, R = Q ++ T → (∀ q, q ∈ firsts (Q.map (·.n)) ↔ ∃ p ∈ Q, p.n = q) ∧ (∀ q ∈ firsts (Q.map (·.n)), ∃ p ∈ Q, p.n = q ∧ dist H p.h = way H q) ∧ (firsts (Q.map (·.n))).Pairwise (wl H) := by
    intro Q
    induction Q using snocInd with
    | h0 => intro T _; exact ⟨by simp [firsts], by simp [firsts], by simp [firsts]⟩
    | h1 Q p ih =>
      intro T hT
      rw [List.append_assoc] at hT
      obtain ⟨i1, i2, i3⟩ := ih _ hT
      rw [List.map_append, List.map_cons, List.map_nil, firsts_snoc]
      unfold fst1
      split
      · rename_i hin
        refine ⟨fun q => ?_, fun q hq => ?_, i3⟩
        · rw [i1]
          constructor
          · rintro ⟨x, hx, e⟩
            exact ⟨x, by simp [hx], e⟩
          · rintro ⟨x, hx, e⟩
            rcases List.mem_append.mp hx with hx | hx
            · exact ⟨x, hx, e⟩
            · rw [List.mem_singleton.mp hx] at e
              subst e
              exact (i1 _).mp hin
        · obtain ⟨x, hx, e⟩ := i2 q hq
          exact ⟨x, by simp [hx], e⟩
      · rename_i hin
        have hpR : p ∈ R := by rw [hT]; simp
        have hpS := (hm p).mp hpR
        have hway : dist H p.h = way H p.n := by
          obtain ⟨j0, hj0, e0⟩ := hpS.2
          have h1 : way H p.n ≤ dist H p.h := by rw [e0]; exact way_le hj0
          obtain ⟨j, hj, e⟩ := way_is H p.n
          have hzR : (⟨pt p.n j, p.n⟩ : Pt) ∈ R := (hm _).mpr ⟨hpS.1, j, hj, rfl⟩
          rw [hT] at hzR
          rcases List.mem_append.mp hzR with hz | hz
          · exact absurd ((i1 p.n).mpr ⟨_, hz, rfl⟩) hin
          · have h2 : dist H p.h ≤ dist H (pt p.n j) := by
              rcases List.mem_cons.mp hz with hz | hz
              · rw [← hz]
                exact Nat.le_refl _
              · have hpw := hp
                rw [hT, List.pairwise_append] at hpw
                have := (List.pairwise_cons.mp hpw.2.1).1 _ hz
                rcases this with h | ⟨h, _⟩
                · exact Nat.le_of_lt h
                · exact Nat.le_of_eq h
            omega
        refine ⟨fun q => ?_, fun q hq => ?_, ?_⟩
        · rw [List.mem_append, i1, List.mem_singleton]
          constructor
          · rintro (⟨x, hx, e⟩ | rfl)
            · exact ⟨x, by simp [hx], e⟩
            · exact ⟨p, by simp, rfl⟩
          · rintro ⟨x, hx, e⟩
            rcases List.mem_append.mp hx with hx | hx
            · exact .inl ⟨x, hx, e⟩
            · rw [List.mem_singleton.mp hx] at e
              exact .inr e.symm
        · rcases List.mem_append.mp hq with hq | hq
          · obtain ⟨x, hx, e⟩ := i2 q hq
            exact ⟨x, by simp [hx], e⟩
          · rw [List.mem_singleton.mp hq]
            exact ⟨p, by simp, rfl, hway⟩
        · rw [List.pairwise_append]
          refine ⟨i3, List.pairwise_singleton _ _, fun b hb a ha => ?_⟩
          rw [List.mem_singleton.mp ha]
          obtain ⟨x, hx, ex, dx⟩ := i2 b hb
          have hpw := hp
          rw [hT, List.pairwise_append] at hpw
          have hxp := hpw.2.2 x hx p (by simp)
          have hne : p.n ≠ b := fun e => hin (by rw [e]; exact hb)
          unfold wl
          rw [← dx, ← hway]
          rcases hxp with h | ⟨h, h2⟩
          · exact .inl h
          · rw [ex] at h2
            exact .inr ⟨h, lt_other h2 (fun e => hne e.symm)⟩
  obtain ⟨k1, k2, k3⟩ := key R [] (by simp)
  refine ⟨fun q => ?_, k3⟩
  rw [k1]
  constructor
  · rintro ⟨p, hp, rfl⟩
    exact ((hm p).mp hp).1
  · intro hq
    exact ⟨⟨pt q 0, q⟩, (hm _).mpr ⟨hq, 0, by omega, rfl⟩, rfl⟩
/-- The nodes of S in the order in which they are met from H on. -/
def ordS (S : List ByteArray) (H : Nat) : List ByteArray := firsts ((rot (cnt H (laidP S)) (laidP S)).map (·.n))
theorem ordS_is (S : List ByteArray) {H : Nat} (hH : H < 18446744073709551616) : IsOrd S H (ordS S H) := by
  obtain ⟨f, hf⟩ := splits_is H (laidP_sorted S)
  unfold ordS
  rw [← hf.eq]
  refine firsts_ord (fun p => ?_) (rot_pw hH hf (fun p hp => ?_) (laidP_sorted S))
  · rw [← mem_laidP]
    unfold rot
    rw [List.mem_append]
    constructor
    · rintro (h | h)
      · exact List.mem_of_mem_drop h
      · exact List.mem_of_mem_take h
    · intro h
      rw [← List.take_append_drop f (laidP S)] at h
      exact (List.mem_append.mp h).symm
  · obtain ⟨_, j, _, e⟩ := mem_laidP.mp hp
    rw [e]
    exact pt_lt _ _
section
variable {S T : List ByteArray} {H : Nat} {x : ByteArray}
theorem ordS_one (hH : H < 18446744073709551616) {L : List ByteArray} (h : IsOrd S H L) : ordS S H = L := (ordS_is S hH).one h fun _ => Iff.rfl
theorem ordS_same (hH : H < 18446744073709551616) (h : ∀ q, q ∈ S ↔ q ∈ T) : ordS S H = ordS T H := (ordS_is S hH).one (ordS_is T hH) h
theorem mem_ordS (hH : H < 18446744073709551616) {q : ByteArray} : q ∈ ordS S H ↔ q ∈ S := (ordS_is S hH).mem q
theorem ordS_nodup (hH : H < 18446744073709551616) : (ordS S H).Nodup := (ordS_is S hH).nodup
theorem ordS_length (hH : H < 18446744073709551616) (hn : S.Nodup) : (ordS S H).length = S.length := nodup_eq (ordS_nodup hH) hn fun _ => mem_ordS hH
theorem ordS_nil (H : Nat) : ordS [] H = [] := by
  show firsts ((rot (cnt H (laidP [])) (laidP [])).map (·.n)) = []
  have : laidP [] = [] := List.eq_nil_of_length_eq_zero (by rw [laidP_length]; rfl)
  rw [this]
  simp [rot, firsts]
theorem ordS_filter (hH : H < 18446744073709551616) (hT : ∀ q, q ∈ T ↔ q ∈ S ∧ q ≠ x) : ordS T H = dropN (ordS S H) x := by
  refine ordS_one hH ⟨fun q => ?_, (ordS_is S hH).pw.filter _⟩
  rw [mem_dropN, mem_ordS hH, hT]
theorem ordS_single (hH : H < 18446744073709551616) (x : ByteArray) : ordS [x] H = [x] := ordS_one hH ⟨fun _ => Iff.rfl, List.pairwise_singleton _ _⟩
/-- A key's owner, and whether there is one. -/
def own (S : List ByteArray) (H : Nat) : ByteArray := (ordS S H).headD ⟨#[]⟩
def has (S : List ByteArray) : Bool := decide (0 < S.length)
theorem has_true : has S = true ↔ S ≠ [] := by
  unfold has
  rw [decide_eq_true_iff]
  exact List.length_pos_iff
theorem ordS_ne (hH : H < 18446744073709551616) : ordS S H ≠ [] ↔ S ≠ [] := by
  constructor
  · intro h e
    rw [e, ordS_nil] at h
    exact h rfl
  · intro h e
    cases S with
    | nil => exact h rfl
    | cons y r =>
      have := (mem_ordS (S := y :: r) hH).mpr (List.mem_cons_self (a := y) (l := r))
      rw [e] at this
      cases this
theorem own_cons (hH : H < 18446744073709551616) (h : S ≠ []) : ∃ r, ordS S H = own S H :: r := by
  have := (ordS_ne (S := S) hH).mpr h
  unfold own
  cases e : ordS S H with
  | nil => exact absurd e this
  | cons a r => exact ⟨r, rfl⟩
theorem own_mem (hH : H < 18446744073709551616) (h : S ≠ []) : own S H ∈ S := by
  obtain ⟨r, hr⟩ := own_cons hH h
  rw [← mem_ordS hH, hr]
  simp
theorem own_none (h : S = []) : own S H = ⟨#[]⟩ := by
  subst h
  unfold own
  rw [ordS_nil]
  rfl
/-- With one node more. -/
theorem own_more (hH : H < 18446744073709551616) (hn : S.Nodup) (h8 : S.length ≤ 8) (h : S ≠ []) : own (withN S x) H = own S H ∨ own (withN S x) H = x := by
  by_cases hx : x ∈ S
  · left
    unfold own
    rw [ordS_same hH (T := S) fun q => ?_]
    rw [mem_withN hn h8]
    constructor
    · rintro (h | ⟨rfl, _⟩)
      · exact h
      · exact hx
    · exact .inl
  · by_cases e : own (withN S x) H = x
    · exact .inr e
    · left
      obtain ⟨r, hr⟩ := own_cons hH (withN_pos S x hn h8)
      obtain ⟨r2, hr2⟩ := own_cons hH h
      have hf : ordS S H = dropN (ordS (withN S x) H) x := ordS_filter hH fun q => by
        rw [mem_withN hn h8]
        constructor
        · intro hq
          exact ⟨.inl hq, fun e => hx (by rw [← e]; exact hq)⟩
        · rintro ⟨h1 | ⟨h1, _⟩, h2⟩
          · exact h1
          · exact absurd h1 h2
      rw [hr, hr2] at hf
      unfold dropN at hf
      rw [List.filter_cons_of_pos (by simpa using e)] at hf
      injection hf with h1 _
      exact h1.symm
theorem own_full (hH : H < 18446744073709551616) (hn : S.Nodup) (h8 : S.length = 8) : own (withN S x) H = own S H := by
  unfold own
  rw [ordS_same hH (T := S) fun q => ?_]
  rw [mem_withN hn (by omega)]
  constructor
  · rintro (h | ⟨_, h⟩)
    · exact h
    · omega
  · exact .inl
/-- Without one node: its own keys have the second one. -/
theorem own_less_own (hH : H < 18446744073709551616) (hn : S.Nodup) (h8 : S.length ≤ 8) (h : S ≠ []) (hx : own S H = x) : ordS S H = x :: ordS (withoutN S x) H := by
  obtain ⟨r, hr⟩ := own_cons hH h
  have hnd := ordS_nodup (S := S) hH
  rw [ordS_filter hH (S := S) (x := x) fun q => mem_withoutN hn h8, hr, hx]
  rw [hr, hx, List.nodup_cons] at hnd
  unfold dropN
  rw [List.filter_cons_of_neg (by simp), List.filter_eq_self.mpr]
  intro q hq
  rw [decide_eq_true_iff]
  rintro rfl
  exact hnd.1 hq
/-- All others keep theirs. -/
theorem own_less_other (hH : H < 18446744073709551616) (hn : S.Nodup) (h8 : S.length ≤ 8) (h : S ≠ []) (hx : own S H ≠ x) : own (withoutN S x) H = own S H ∧ withoutN S x ≠ [] := by
  obtain ⟨r, hr⟩ := own_cons hH h
  have hf : ordS (withoutN S x) H = own S H :: dropN r x := by
    rw [ordS_filter hH (S := S) (x := x) fun q => mem_withoutN hn h8, hr]
    unfold dropN
    rw [List.filter_cons_of_pos (by simpa using hx)]
  constructor
  · conv => lhs; unfold own
    rw [hf]
    rfl
  · exact (ordS_ne hH).mp (by rw [hf]; simp)
theorem withoutN_nil (x : ByteArray) : withoutN [] x = [] := rfl
theorem withN_nil (x : ByteArray) : withN [] x = [x] := nodesOf_single x
end
end Go.Proofs.YtnbgmobcfbgenaaGreatDoor
