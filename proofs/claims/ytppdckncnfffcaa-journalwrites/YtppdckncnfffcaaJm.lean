/-
  Plain mathematics: numbers as bytes, parts of records as sectors, and what stands in a half: which parts go on, and the records that they are. Its conditions: none.
-/
import Derived.Test.YtppdckncnfffcaaW6
namespace Go.Proofs.Ytppdckncnfffcaa

/-- The number that bytes are, the highest first. -/
def num (b : List UInt8) : Nat := b.foldl (fun n c => n * 256 + c.toNat) 0
/-- A number in so many bytes. -/
def dig : Nat → Nat → List UInt8
  | 0, _ => []
  | m + 1, n => dig m (n / 256) ++ [UInt8.ofNat (n % 256)]
theorem dig_length (m n : Nat) : (dig m n).length = m := by
  induction m generalizing n with
  | zero => rfl
  | succ m ih => simp [dig, ih]
theorem num_snoc (b : List UInt8) (c : UInt8) : num (b ++ [c]) = num b * 256 + c.toNat := by simp [num]
theorem num_dig {m n : Nat} (h : n < 256 ^ m) : num (dig m n) = n := by
  induction m generalizing n with
  | zero => simp [dig, num] at h ⊢; omega
  | succ m ih =>
    have h1 : n / 256 < 256 ^ m := by
      rw [Nat.pow_succ] at h
      omega
    rw [dig, num_snoc, ih h1]
    have : (UInt8.ofNat (n % 256)).toNat = n % 256 := by simp
    rw [this]
    omega
theorem snoc_of {b : List UInt8} {m : Nat} (h : b.length = m + 1) : ∃ r c, b = r ++ [c] ∧ r.length = m := by
  refine ⟨b.dropLast, b.getLast (by intro e; subst e; cases h), (List.dropLast_concat_getLast _).symm, ?_⟩
  rw [List.length_dropLast]
  omega
theorem dig_num (b : List UInt8) (m : Nat) (h : b.length = m) : dig m (num b) = b := by
  induction m generalizing b with
  | zero => rw [List.eq_nil_of_length_eq_zero h]; rfl
  | succ m ih =>
    obtain ⟨r, c, rfl, hr⟩ := snoc_of h
    have hc := UInt8.toNat_lt c
    rw [num_snoc, dig, show (num r * 256 + c.toNat) / 256 = num r by omega, ih r hr, show (num r * 256 + c.toNat) % 256 = c.toNat by omega]
    congr
    simp
theorem num_lt (b : List UInt8) : num b < 256 ^ b.length := by
  obtain ⟨m, hm⟩ : ∃ m, b.length = m := ⟨_, rfl⟩
  rw [hm]
  induction m generalizing b with
  | zero => rw [List.eq_nil_of_length_eq_zero hm]; simp [num]
  | succ m ih =>
    obtain ⟨r, c, rfl, hr⟩ := snoc_of hm
    have hc := UInt8.toNat_lt c
    have := ih r hr
    rw [num_snoc, Nat.pow_succ]
    omega
theorem num_inj {a b : List UInt8} (hl : a.length = b.length) (h : num a = num b) : a = b := by
  rw [← dig_num a _ rfl, ← dig_num b _ rfl, h, hl]
theorem dig_inj {m a b : Nat} (ha : a < 256 ^ m) (hb : b < 256 ^ m) (h : dig m a = dig m b) : a = b := by rw [← num_dig ha, ← num_dig hb, h]
/-- The digit at a place. -/
theorem dig_at (m n i : Nat) (h : i < m) : (dig m n)[m - 1 - i]? = some (UInt8.ofNat (n / 256 ^ i % 256)) := by
  induction m generalizing n i with
  | zero => omega
  | succ m ih =>
    rw [dig]
    cases i with
    | zero => rw [List.getElem?_append_right (by rw [dig_length]; omega)]; simp [dig_length]
    | succ i =>
      rw [List.getElem?_append_left (by rw [dig_length]; omega), show m + 1 - 1 - (i + 1) = m - 1 - i by omega, ih (n / 256) i (by omega), Nat.div_div_eq_div_mul, Nat.pow_succ, Nat.mul_comm 256]

/-- How many parts a record of n bytes has. -/
def partsN (n : Nat) : Nat := (n - 1) / 47 + 1
theorem partsN_pos (n : Nat) : 1 ≤ partsN n := by unfold partsN; omega
theorem partsN_le (n : Nat) : n ≤ partsN n * 47 := by unfold partsN; omega
theorem partsN_lt (n i : Nat) (h : i + 1 < partsN n) : (i + 1) * 47 < n := by unfold partsN at h; omega
theorem partsN_of {n m : Nat} (hm : 1 ≤ m) (h1 : n ≤ m * 47) (h2 : 1 < m → (m - 1) * 47 < n) : partsN n = m := by
  unfold partsN
  by_cases h : 1 < m
  · have := h2 h
    omega
  · omega

/-- A part of a record. -/
structure Pt where
  lap : Nat
  rn : Int
  num : Nat
  of : Nat
  bs : List UInt8
/-- What a part's sector has. -/
def ptB (p : Pt) : List UInt8 := dig 4 p.lap ++ dig 4 p.rn.toNat ++ dig 2 p.num ++ dig 2 p.of ++ [UInt8.ofNat p.bs.length] ++ (p.bs ++ List.replicate (47 - p.bs.length) 0) ++ dig 4 p.lap
theorem ptB_length {p : Pt} (h : p.bs.length ≤ 47) : (ptB p).length = 64 := by
  simp [ptB, dig_length]
  omega
def ptS (p : Pt) : Sec := secOf (ptB p)
theorem ptS_v {p : Pt} (h : p.bs.length ≤ 47) : (ptS p).v = ptB p := secOf_v (ptB_length h)
/-- Can a record have this part? -/
def fitsP (p : Pt) : Bool := if p.num < p.of then decide (p.bs.length = 47) else decide (p.num = p.of) && (decide (p.of = 1) || decide (0 < p.bs.length))
/-- The fields of a sector. -/
def lapF (s : Sec) : Nat := num (s.v.take 4)
def lapE (s : Sec) : Nat := num (s.v.drop 60)
def ofF (s : Sec) : Nat := num ((s.v.drop 10).take 2)
def lenF (s : Sec) : Nat := min (s.v.getD 12 0).toNat 47
def bsF (s : Sec) : List UInt8 := (s.v.drop 13).take (lenF s)
theorem bsF_length (s : Sec) : (bsF s).length = lenF s := by
  have := s.h
  simp [bsF, lenF, this]
theorem lenF_le (s : Sec) : lenF s ≤ 47 := by unfold lenF; omega
/-- The part that a sector has, if it is the one behind p. -/
def nextP (p : Pt) (s : Sec) : Pt := if p.num = p.of then ⟨p.lap, p.rn + 1, 1, ofF s, bsF s⟩ else ⟨p.lap, p.rn, p.num + 1, p.of, bsF s⟩
theorem nextP_bs (p : Pt) (s : Sec) : (nextP p s).bs = bsF s := by unfold nextP; split <;> rfl
theorem nextP_lap (p : Pt) (s : Sec) : (nextP p s).lap = p.lap := by unfold nextP; split <;> rfl
def nextB (p : Pt) (s : Sec) : Bool := fitsP (nextP p s) && decide (ptB (nextP p s) = s.v)
/-- The parts that go on from p. -/
def walk : Pt → List Sec → List Pt
  | _, [] => []
  | p, s :: r => if nextB p s then nextP p s :: walk (nextP p s) r else []
def p0 (lap : Nat) : Pt := ⟨lap, -1, 0, 0, []⟩
/-- The parts that stand in a half. -/
def partsL (h : List Sec) : List Pt := if lapF (at_ h 0) = 0 then [] else walk (p0 (lapF (at_ h 0))) h
/-- Records, gathered part by part. -/
structure Gt where
  acc : List UInt8
  rs : List (List UInt8)
  lap : Nat
def gth (g : Gt) (p : Pt) : Gt := if p.num = p.of then ⟨[], g.rs ++ [g.acc ++ p.bs], p.lap⟩ else ⟨g.acc ++ p.bs, g.rs, g.lap⟩
def gathered (l : List Pt) : Gt := l.foldl gth ⟨[], [], 0⟩
theorem gathered_snoc (l : List Pt) (p : Pt) : gathered (l ++ [p]) = gth (gathered l) p := by simp [gathered]
/-- What is found in a half: a lap, and records. -/
def foundN (h : List Sec) : Nat := (gathered (partsL h)).lap
def foundL (h : List Sec) : List (List UInt8) := (gathered (partsL h)).rs

/-! ### Records as they are written -/
/-- A part's bytes. -/
def piece (r : List UInt8) (i : Nat) : List UInt8 := (r.drop (i * 47)).take 47
theorem piece_length (r : List UInt8) (i : Nat) : (piece r i).length = min 47 (r.length - i * 47) := by simp [piece]
/-- The part i (from 0 on) of the record number k. -/
def ptOf (lap k : Nat) (r : List UInt8) (i : Nat) : Pt := ⟨lap, k, i + 1, partsN r.length, piece r i⟩
theorem ptOf_len (lap k : Nat) (r : List UInt8) (i : Nat) : (ptOf lap k r i).bs.length ≤ 47 := by
  show (piece r i).length ≤ 47
  rw [piece_length]
  omega
def secsOf (lap k : Nat) (r : List UInt8) : List Sec := (List.range (partsN r.length)).map fun i => ptS (ptOf lap k r i)
theorem secsOf_length (lap k : Nat) (r : List UInt8) : (secsOf lap k r).length = partsN r.length := by simp [secsOf]
theorem secsOf_at (lap k : Nat) (r : List UInt8) {i : Nat} (h : i < partsN r.length) : (secsOf lap k r)[i]? = some (ptS (ptOf lap k r i)) := by
  simp [secsOf, h]
/-- Records one behind the other, from the number k on. -/
def lays (lap : Nat) : Nat → List (List UInt8) → List Sec
  | _, [] => []
  | k, r :: rs => secsOf lap k r ++ lays lap (k + 1) rs
theorem lays_snoc (lap : Nat) (rs : List (List UInt8)) (r : List UInt8) : ∀ k, lays lap k (rs ++ [r]) = lays lap k rs ++ secsOf lap (k + rs.length) r := by
  induction rs with
  | nil => intro k; simp [lays]
  | cons x l ih =>
    intro k
    simp only [List.cons_append, lays, ih, List.append_assoc, List.length_cons]
    rw [show k + 1 + l.length = k + (l.length + 1) by omega]
/-- A half that begins with these records of a lap, and goes on with no further one. -/
def IsRecs (lap : Nat) (h : List Sec) (rs : List (List UInt8)) : Prop := lays lap 0 rs <+: h ∧ ∀ r, ¬ lays lap 0 (rs ++ [r]) <+: h
end Go.Proofs.Ytppdckncnfffcaa
