/-
  Plain mathematics of the check sum (no Go in it): the register by one bit, by four bits with the table of sixteen words, by a byte, by a text; it is linear over xor; four bytes side by side are told.
-/
namespace Go.Proofs.Ytlnblcgfgkkbhaa.Crc

/-- The register, moved by one bit. -/
def bit (r : Nat) : Nat := if r % 2 = 1 then (r / 2) ^^^ 3988292384 else r / 2
def bit4 (r : Nat) : Nat := bit (bit (bit (bit r)))
/-- The register, moved by n bits. -/
def biter : Nat → Nat → Nat
  | 0, r => r
  | n + 1, r => bit (biter n r)
def tabL : List Nat := [0, 498536548, 997073096, 651767980, 1994146192, 1802195444, 1303535960, 1342533948, 3988292384, 4027552580, 3604390888, 3412177804, 2607071920, 2262029012, 2685067896, 3183342108]
def tab (k : Nat) : Nat := tabL.getD k 0
/-- The register, moved by four bits, by the table. -/
def quad (r : Nat) : Nat := (r / 16) ^^^ tab (r % 16)
def byte (r c : Nat) : Nat := quad (quad (r ^^^ c))
def reg (r : Nat) (l : List Nat) : Nat := l.foldl byte r
def turn (s : Nat) : Nat := 4294967295 ^^^ s
/-- The sum that goes on from s. -/
def more (s : Nat) (l : List Nat) : Nat := turn (reg (turn s) l)

theorem tab_lt (k : Nat) : tab k < 4294967296 := by
  unfold tab
  rw [List.getD_eq_getElem?_getD]
  by_cases h : k < 16
  · have : ∀ k : Fin 16, tabL[k.val]?.getD 0 < 4294967296 := by decide
    exact this ⟨k, h⟩
  · rw [List.getElem?_eq_none (by simpa [tabL] using h)]
    show (0 : Nat) < _
    omega
theorem bit_lin (a b : Nat) : bit (a ^^^ b) = bit a ^^^ bit b := by
  unfold bit
  rw [Nat.xor_div_two]
  by_cases ha : a % 2 = 1 <;> by_cases hb : b % 2 = 1
  · have h : ¬ (a ^^^ b) % 2 = 1 := by rw [Nat.xor_mod_two_eq_one]; simp [ha, hb]
    rw [if_neg h, if_pos ha, if_pos hb]
    rw [Nat.xor_assoc (a / 2), ← Nat.xor_assoc 3988292384, Nat.xor_comm 3988292384 (b / 2), Nat.xor_assoc (b / 2), Nat.xor_self, Nat.xor_zero]
  · have h : (a ^^^ b) % 2 = 1 := by rw [Nat.xor_mod_two_eq_one]; simp [ha, hb]
    rw [if_pos h, if_pos ha, if_neg hb]
    rw [Nat.xor_assoc, Nat.xor_assoc, Nat.xor_comm (b / 2)]
  · have h : (a ^^^ b) % 2 = 1 := by rw [Nat.xor_mod_two_eq_one]; simp [ha, hb]
    rw [if_pos h, if_neg ha, if_pos hb, Nat.xor_assoc]
  · have h : ¬ (a ^^^ b) % 2 = 1 := by rw [Nat.xor_mod_two_eq_one]; simp [ha, hb]
    rw [if_neg h, if_neg ha, if_neg hb]

theorem bit_two (m : Nat) : bit (2 * m) = m := by
  unfold bit
  rw [if_neg (by omega)]
  omega

theorem bit4_lin (a b : Nat) : bit4 (a ^^^ b) = bit4 a ^^^ bit4 b := by unfold bit4; simp only [bit_lin]
theorem bit4_16 (m : Nat) : bit4 (16 * m) = m := by
  unfold bit4
  rw [show 16 * m = 2 * (2 * (2 * (2 * m))) by omega, bit_two, bit_two, bit_two, bit_two]
theorem bit4_small (k : Nat) (h : k < 16) : bit4 k = tab k := by
  have : ∀ k : Fin 16, bit4 k.val = tab k.val := by decide
  exact this ⟨k, h⟩

theorem split_pow (r n : Nat) : 2 ^ n * (r / 2 ^ n) ^^^ r % 2 ^ n = r := by
  apply Nat.eq_of_testBit_eq
  intro i
  rw [Nat.testBit_xor, Nat.testBit_two_pow_mul, Nat.testBit_mod_two_pow, Nat.testBit_div_two_pow]
  by_cases h : n ≤ i
  · simp [h, Nat.sub_add_cancel h, Nat.not_lt.mpr h]
  · simp [h, Nat.lt_of_not_le h]

theorem quad_eq (r : Nat) : quad r = bit4 r := by
  have h := split_pow r 4
  have h2 : bit4 (16 * (r / 16) ^^^ r % 16) = bit4 r := by rw [show (16 : Nat) = 2 ^ 4 by decide, h]
  rw [← h2, bit4_lin, bit4_16, bit4_small _ (Nat.mod_lt _ (by decide))]
  rfl

theorem byte_eq (r c : Nat) : byte r c = biter 8 (r ^^^ c) := by
  unfold byte
  rw [quad_eq, quad_eq]
  rfl

theorem biter_lin (n a b : Nat) : biter n (a ^^^ b) = biter n a ^^^ biter n b := by
  induction n with
  | zero => rfl
  | succ n ih => simp only [biter, ih, bit_lin]

theorem xor4 (a b c d : Nat) : a ^^^ b ^^^ (c ^^^ d) = a ^^^ c ^^^ (b ^^^ d) := by
  rw [Nat.xor_assoc, Nat.xor_assoc, ← Nat.xor_assoc b, Nat.xor_comm b c, Nat.xor_assoc c]

theorem byte_lin (a b c d : Nat) : byte (a ^^^ b) (c ^^^ d) = byte a c ^^^ byte b d := by
  rw [byte_eq, byte_eq, byte_eq, ← biter_lin, xor4]

theorem bit_lt (r : Nat) (h : r < 4294967296) : bit r < 4294967296 := by
  unfold bit
  split
  · exact Nat.xor_lt_two_pow (n := 32) (by omega) (by omega)
  · omega
theorem biter_lt (n r : Nat) (h : r < 4294967296) : biter n r < 4294967296 := by
  induction n with
  | zero => exact h
  | succ n ih => exact bit_lt _ ih
theorem xor_lt32 (a b : Nat) (ha : a < 4294967296) (hb : b < 4294967296) : a ^^^ b < 4294967296 :=
  Nat.xor_lt_two_pow (n := 32) (by omega) (by omega)
theorem byte_lt (r c : Nat) (hr : r < 4294967296) (hc : c < 256) : byte r c < 4294967296 := by
  rw [byte_eq]
  exact biter_lt _ _ (xor_lt32 _ _ hr (by omega))
theorem reg_lt (l : List Nat) : ∀ r, r < 4294967296 → (∀ c ∈ l, c < 256) → reg r l < 4294967296 := by
  induction l with
  | nil => intro r hr _; exact hr
  | cons c l ih =>
    intro r hr hl
    exact ih _ (byte_lt _ _ hr (hl c (by simp))) (fun x hx => hl x (by simp [hx]))
theorem turn_lt (s : Nat) (h : s < 4294967296) : turn s < 4294967296 := xor_lt32 _ _ (by omega) h
theorem more_lt (s : Nat) (l : List Nat) (hs : s < 4294967296) (hl : ∀ c ∈ l, c < 256) : more s l < 4294967296 :=
  turn_lt _ (reg_lt l _ (turn_lt _ hs) hl)
theorem xor_back (t s : Nat) : t ^^^ (t ^^^ s) = s := by rw [← Nat.xor_assoc, Nat.xor_self, Nat.zero_xor]
theorem turn_def (s : Nat) : turn s = 4294967295 ^^^ s := rfl
theorem turn_turn (s : Nat) : turn (turn s) = s := by rw [turn_def, turn_def]; exact xor_back 4294967295 s
theorem turn_sub (s : Nat) (h : s < 4294967296) : 4294967295 - s = turn s := by
  apply Nat.eq_of_testBit_eq
  intro i
  have e : 4294967295 - s = 2 ^ 32 - (s + 1) := by omega
  rw [e, Nat.testBit_two_pow_sub_succ (by omega)]
  unfold turn
  rw [show 4294967295 = 2 ^ 32 - 1 by decide, Nat.testBit_xor, Nat.testBit_two_pow_sub_one]
  by_cases hi : i < 32
  · simp [hi]
  · have : s.testBit i = false := Nat.testBit_lt_two_pow (Nat.lt_of_lt_of_le h (by
      have : 2 ^ 32 ≤ 2 ^ i := Nat.pow_le_pow_right (by omega) (by omega)
      simpa using this))
    simp [hi, this]

/-- A text in two pieces. -/
theorem more_append (s : Nat) (l m : List Nat) : more (more s l) m = more s (l ++ m) := by
  unfold more
  rw [turn_turn]
  unfold reg
  rw [List.foldl_append]
theorem more_nil (s : Nat) : more s [] = s := turn_turn s
theorem reg_snoc (r : Nat) (l : List Nat) (c : Nat) : reg r (l ++ [c]) = byte (reg r l) c := by
  unfold reg
  rw [List.foldl_append]
  rfl

/-- The sums of three texts of one length. -/
theorem reg_xor : ∀ (a b : List Nat) (r s : Nat), a.length = b.length → reg (r ^^^ s) (List.zipWith (· ^^^ ·) a b) = reg r a ^^^ reg s b
  | [], [], _, _, _ => rfl
  | [], _ :: _, _, _, h => by simp at h
  | _ :: _, [], _, _, h => by simp at h
  | c :: a, d :: b, r, s, h => by
    have ih := reg_xor a b (byte r c) (byte s d) (by simpa using h)
    rw [← byte_lin] at ih
    exact ih
theorem more_three (a b c : List Nat) (hb : b.length = a.length) (hc : c.length = a.length) :
    more 0 a ^^^ more 0 b ^^^ more 0 c = more 0 (List.zipWith (· ^^^ ·) (List.zipWith (· ^^^ ·) a b) c) := by
  have h1 := reg_xor a b (turn 0) (turn 0) hb.symm
  have h2 := reg_xor (List.zipWith (· ^^^ ·) a b) c (turn 0 ^^^ turn 0) (turn 0) (by rw [List.length_zipWith, hb, hc]; simp)
  rw [Nat.xor_self, Nat.zero_xor] at h2
  rw [Nat.xor_self] at h1
  unfold more
  rw [h2, h1]
  generalize reg (turn 0) a = x
  generalize reg (turn 0) b = y
  generalize reg (turn 0) c = z
  unfold turn
  generalize 4294967295 = t
  rw [xor4 t x t y, Nat.xor_self, Nat.zero_xor, ← Nat.xor_assoc, Nat.xor_comm (x ^^^ y) t, Nat.xor_assoc]

/-! What one bit makes of a register is 0 only for 0. -/
theorem xor_zero_eq {a b : Nat} (h : a ^^^ b = 0) : a = b := by
  have : a ^^^ b ^^^ b = b := by rw [h, Nat.zero_xor]
  rw [Nat.xor_assoc, Nat.xor_self, Nat.xor_zero] at this
  exact this
theorem bit_zero (r : Nat) (h : r < 4294967296) (hz : bit r = 0) : r = 0 := by
  unfold bit at hz
  split at hz
  · have := xor_zero_eq hz
    omega
  · omega
theorem bit_of_zero : bit 0 = 0 := rfl
theorem biter_zero (n r : Nat) (h : r < 4294967296) : biter n r = 0 ↔ r = 0 := by
  induction n with
  | zero => exact Iff.rfl
  | succ n ih =>
    constructor
    · intro hz
      exact ih.mp (bit_zero _ (biter_lt _ _ h) hz)
    · intro hz
      show bit (biter n r) = 0
      rw [ih.mpr hz]
      rfl
theorem biter_add (m n r : Nat) : biter (m + n) r = biter m (biter n r) := by
  induction m with
  | zero => rw [Nat.zero_add]; rfl
  | succ m ih => rw [Nat.succ_add]; show bit _ = bit _; rw [ih]
theorem biter_pow (n m : Nat) : biter n (2 ^ n * m) = m := by
  induction n generalizing m with
  | zero => simp [biter]
  | succ n ih =>
    show bit (biter n (2 ^ (n + 1) * m)) = m
    rw [show 2 ^ (n + 1) * m = 2 ^ n * (2 * m) by rw [Nat.pow_succ, Nat.mul_assoc], ih, bit_two]

/-- The number that up to four bytes are, the first one lowest. -/
def num : List Nat → Nat
  | [] => 0
  | c :: l => c + 256 * num l
theorem num_lt : ∀ (l : List Nat), (∀ c ∈ l, c < 256) → num l < 256 ^ l.length
  | [], _ => by simp [num]
  | c :: l, h => by
    have h1 := num_lt l (fun x hx => h x (by simp [hx]))
    have h2 := h c (by simp)
    simp only [num, List.length_cons, Nat.pow_succ]
    omega
theorem num_zero : ∀ (l : List Nat), num l = 0 ↔ ∀ c ∈ l, c = 0
  | [] => by simp [num]
  | c :: l => by
    have ih := num_zero l
    simp only [num, List.mem_cons, forall_eq_or_imp]
    rw [← ih]
    omega
/-- From a register r: a text of n bytes moves 'r xor the text's number' by 8 n bits. -/
theorem reg_num : ∀ (l : List Nat) (r : Nat), (∀ c ∈ l, c < 256) → reg r l = biter (8 * l.length) (r ^^^ num l)
  | [], r, _ => by simp [reg, num, biter]
  | c :: l, r, h => by
    have ih := reg_num l (byte r c) (fun x hx => h x (by simp [hx]))
    show reg (byte r c) l = _
    rw [ih, byte_eq]
    have e : biter 8 (r ^^^ c) ^^^ num l = biter 8 (r ^^^ num (c :: l)) := by
      have e1 : num (c :: l) = 2 ^ 8 * num l ^^^ c := by
        have hc := h c (by simp)
        have := split_pow (num (c :: l)) 8
        rw [show num (c :: l) / 2 ^ 8 = num l by simp only [num]; omega, show num (c :: l) % 2 ^ 8 = c by simp only [num]; omega] at this
        exact this.symm
      rw [e1, Nat.xor_comm (2 ^ 8 * num l) c, ← Nat.xor_assoc, biter_lin 8 (r ^^^ c), biter_pow]
    rw [e, ← biter_add, List.length_cons, Nat.mul_succ]

theorem reg_zeros (n r : Nat) : reg r (List.replicate n 0) = biter (8 * n) r := by
  have h := reg_num (List.replicate n 0) r (fun c hc => by have := List.eq_of_mem_replicate hc; omega)
  have hz : num (List.replicate n 0) = 0 := (num_zero _).mpr (fun c hc => List.eq_of_mem_replicate hc)
  rw [h, hz, Nat.xor_zero, List.length_replicate]

/-- A difference of up to four bytes side by side, zeros ahead and behind, is 0 only where all of it is. -/
theorem reg_diff (p q : Nat) (d : List Nat) (hd : ∀ c ∈ d, c < 256) (h4 : d.length ≤ 4) :
    reg 0 (List.replicate p 0 ++ d ++ List.replicate q 0) = 0 ↔ ∀ c ∈ d, c = 0 := by
  have hr : ∀ r a b, reg r (a ++ b) = reg (reg r a) b := fun r a b => by unfold reg; rw [List.foldl_append]
  have hn : num d < 4294967296 := Nat.lt_of_lt_of_le (num_lt d hd) (by
    have : 256 ^ d.length ≤ 256 ^ 4 := Nat.pow_le_pow_right (by omega) h4
    simpa using this)
  have h0 : reg 0 (List.replicate p 0) = 0 := by rw [reg_zeros]; exact (biter_zero _ _ (by omega)).mpr rfl
  rw [hr, hr, h0, reg_num d 0 hd, Nat.zero_xor, reg_zeros, biter_zero _ _ (biter_lt _ _ hn), biter_zero _ _ hn]
  exact num_zero d

/-- Two texts of one length: their sums are one just if their difference comes to 0. -/
theorem more_eq_iff (a b : List Nat) (h : a.length = b.length) : more 0 a = more 0 b ↔ reg 0 (List.zipWith (· ^^^ ·) a b) = 0 := by
  have hx := reg_xor a b (turn 0) (turn 0) h
  rw [Nat.xor_self] at hx
  rw [hx]
  unfold more
  constructor
  · intro e
    have : reg (turn 0) a = reg (turn 0) b := by
      have := congrArg turn e
      rwa [turn_turn, turn_turn] at this
    rw [this, Nat.xor_self]
  · intro e
    rw [xor_zero_eq e]

theorem awake_sum : more 0 [49, 50, 51, 52, 53, 54, 55, 56, 57] = 3421780262 := by decide


end Go.Proofs.Ytlnblcgfgkkbhaa.Crc
