/-
  Plain mathematics: a disk by what is kept and what is pending; what is seen, what each pending write found, what a crash leaves. Its conditions: none.
-/
import GoSem.Op.String
namespace Go.Proofs.Ytppdckncnfffcaa

/-- A sector's bytes. -/
structure Sec where
  v : List UInt8
  h : v.length = 64
theorem Sec.ext' {a b : Sec} (h : a.v = b.v) : a = b := by
  cases a
  cases b
  simp only at h
  subst h
  rfl
/-- A sector of noughts. -/
def zs : Sec := ⟨List.replicate 64 0, by simp⟩
/-- The first n bytes of t, laid over s. -/
def lay (s t : Sec) (n : Nat) : Sec := ⟨t.v.take n ++ s.v.drop n, by
  have := s.h
  have := t.h
  simp
  omega⟩
theorem lay_zero (s t : Sec) : lay s t 0 = s := Sec.ext' (by simp [lay])
theorem lay_all (s t : Sec) {n : Nat} (h : 64 ≤ n) : lay s t n = t := Sec.ext' (by
  have := s.h
  have := t.h
  simp [lay]
  rw [List.take_of_length_le (by omega), List.drop_of_length_le (by omega), List.append_nil])
/-- A pending write: where, what. -/
structure Pw where
  p : Nat
  n : Sec
/-- A pending write with what its sector had. -/
structure Wr where
  p : Nat
  o : Sec
  n : Sec
def at_ (K : List Sec) (i : Nat) : Sec := K.getD i zs
theorem at_get {K : List Sec} {i : Nat} (h : i < K.length) : K[i]? = some (at_ K i) := by
  unfold at_
  rw [List.getD_eq_getElem?_getD, List.getElem?_eq_getElem h]
  rfl
theorem at_set (K : List Sec) {i : Nat} (s : Sec) (h : i < K.length) : at_ (K.set i s) i = s := by simp [at_, h]
theorem at_set_ne (K : List Sec) {i j : Nat} (s : Sec) (h : i ≠ j) : at_ (K.set i s) j = at_ K j := by simp [at_, List.getElem?_set_ne h]
theorem set_at (K : List Sec) (i : Nat) : K.set i (at_ K i) = K := by
  by_cases h : i < K.length
  · apply List.ext_getElem?
    intro j
    by_cases e : i = j
    · subst e
      rw [List.getElem?_set_self h, at_get h]
    · rw [List.getElem?_set_ne e]
  · exact List.set_eq_of_length_le (by omega)
/-- What is seen: what is kept with what is pending. -/
def seen (K : List Sec) (ps : List Pw) : List Sec := ps.foldl (fun S x => S.set x.p x.n) K
theorem seen_nil (K : List Sec) : seen K [] = K := rfl
theorem seen_cons (K : List Sec) (x : Pw) (r : List Pw) : seen K (x :: r) = seen (K.set x.p x.n) r := rfl
theorem seen_snoc (K : List Sec) (ps : List Pw) (x : Pw) : seen K (ps ++ [x]) = (seen K ps).set x.p x.n := by simp [seen]
theorem seen_length (K : List Sec) (ps : List Pw) : (seen K ps).length = K.length := by
  induction ps generalizing K with
  | nil => rfl
  | cons x r ih => rw [seen_cons, ih, List.length_set]
/-- The pending writes, each with what it found. -/
def wrs : List Sec → List Pw → List Wr
  | _, [] => []
  | K, x :: r => ⟨x.p, at_ K x.p, x.n⟩ :: wrs (K.set x.p x.n) r
theorem wrs_length (K : List Sec) (ps : List Pw) : (wrs K ps).length = ps.length := by
  induction ps generalizing K with
  | nil => rfl
  | cons x r ih => simp [wrs, ih]
theorem wrs_snoc (K : List Sec) (ps : List Pw) (x : Pw) : wrs K (ps ++ [x]) = wrs K ps ++ [⟨x.p, at_ (seen K ps) x.p, x.n⟩] := by
  induction ps generalizing K with
  | nil => rfl
  | cons y r ih => simp only [List.cons_append, wrs, ih, seen_cons]
theorem wrs_at {K : List Sec} {ps : List Pw} {k : Nat} {y : Wr} (h : (wrs K ps)[k]? = some y) : ps[k]? = some ⟨y.p, y.n⟩ := by
  induction ps generalizing K k with
  | nil => simp [wrs] at h
  | cons x r ih =>
    cases k with
    | zero => simp [wrs] at h; subst h; rfl
    | succ k => simp [wrs] at h ⊢; exact ih h
/-- Taken back: from the last one to the first one. -/
def undo (S : List Sec) (l : List Wr) : List Sec := l.foldl (fun S x => S.set x.p x.o) S
theorem undo_snoc (S : List Sec) (l : List Wr) (x : Wr) : undo S (l ++ [x]) = (undo S l).set x.p x.o := by simp [undo]
theorem undo_length (S : List Sec) (l : List Wr) : (undo S l).length = S.length := by
  induction l generalizing S with
  | nil => rfl
  | cons x r ih =>
    show (undo (S.set x.p x.o) r).length = _
    rw [ih, List.length_set]
theorem undo_seen (K : List Sec) (ps : List Pw) : undo (seen K ps) (wrs K ps).reverse = K := by
  induction ps generalizing K with
  | nil => rfl
  | cons x r ih =>
    rw [seen_cons]
    simp only [wrs, List.reverse_cons]
    rw [undo_snoc, ih, List.set_set, set_at]
/-- How many bytes the choice k keeps. -/
def pick (cs : List UInt8) (k : Nat) : Nat := (cs.getD k 0).toNat % 65
theorem pick_lt (cs : List UInt8) (k : Nat) : pick cs k ≤ 64 := by
  have : (cs.getD k 0).toNat % 65 < 65 := Nat.mod_lt _ (by decide)
  unfold pick
  omega
theorem pick_none {cs : List UInt8} {k : Nat} (h : cs.length ≤ k) : pick cs k = 0 := by simp [pick, List.getElem?_eq_none h]
theorem pick_some {cs : List UInt8} {k : Nat} (h : k < cs.length) : pick cs k = (cs[k]).toNat % 65 := by simp [pick, h]
/-- What k pending writes leave in a crash. -/
def crashN (K : List Sec) (ps : List Pw) (cs : List UInt8) : Nat → List Sec
  | 0 => K
  | k + 1 => match ps[k]? with
    | some x => (crashN K ps cs k).set x.p (lay (at_ (crashN K ps cs k) x.p) x.n (pick cs k))
    | none => crashN K ps cs k
theorem crashN_step {K : List Sec} {ps : List Pw} (cs : List UInt8) {k : Nat} {x : Pw} (h : ps[k]? = some x) :
    crashN K ps cs (k + 1) = (crashN K ps cs k).set x.p (lay (at_ (crashN K ps cs k) x.p) x.n (pick cs k)) := by simp [crashN, h]
theorem crashN_skip {K : List Sec} {ps : List Pw} {cs : List UInt8} {k : Nat} (h : cs.length ≤ k) : crashN K ps cs (k + 1) = crashN K ps cs k := by
  cases e : ps[k]? with
  | none => simp [crashN, e]
  | some x => rw [crashN_step cs e, pick_none h, lay_zero, set_at]
theorem crashN_length (K : List Sec) (ps : List Pw) (cs : List UInt8) (k : Nat) : (crashN K ps cs k).length = K.length := by
  induction k with
  | zero => rfl
  | succ k ih =>
    cases e : ps[k]? with
    | none => simp [crashN, e, ih]
    | some x => rw [crashN_step cs e, List.length_set, ih]

/-- A disk. -/
structure Dk where
  K : List Sec
  ps : List Pw
  fuse : Int
  down : Bool
  steps : Int
structure Good (d : Dk) : Prop where
  pl : ∀ x ∈ d.ps, x.p < d.K.length
  len : d.K.length ≤ 4096
  f0 : -1 ≤ d.fuse
  f1 : d.fuse ≤ 9223372036854775807
  s0 : 0 ≤ d.steps
def stepB (d : Dk) : Bool := !d.down && !decide (d.fuse = 0)
def stepD (d : Dk) : Dk := if d.down then d else if d.fuse = 0 then { d with down := true } else { d with fuse := if 0 < d.fuse then d.fuse - 1 else d.fuse, steps := d.steps + 1 }
theorem stepD_K (d : Dk) : (stepD d).K = d.K := by unfold stepD; split; rfl; split <;> rfl
theorem stepD_ps (d : Dk) : (stepD d).ps = d.ps := by unfold stepD; split; rfl; split <;> rfl
theorem stepD_steps (d : Dk) : (stepD d).steps ≤ d.steps + 1 := by
  unfold stepD
  split
  · omega
  · split
    · simp; omega
    · simp
theorem Good.step {d : Dk} (h : Good d) : Good (stepD d) := by
  unfold stepD
  split
  · exact h
  · split
    · exact ⟨h.pl, h.len, h.f0, h.f1, h.s0⟩
    · refine ⟨h.pl, h.len, ?_, ?_, ?_⟩
      · simp; split; omega; exact h.f0
      · have := h.f1; simp; split <;> omega
      · have := h.s0; simp; omega
def putD (d : Dk) (i : Nat) (s : Sec) : Dk := { stepD d with ps := d.ps ++ [⟨i, s⟩] }
theorem Good.put {d : Dk} (h : Good d) {i : Nat} (s : Sec) (hi : i < d.K.length) : Good (putD d i s) := by
  have g := h.step
  refine ⟨?_, g.len, g.f0, g.f1, g.s0⟩
  intro x hx
  show x.p < (stepD d).K.length
  rw [stepD_K]
  rcases List.mem_append.mp hx with hx | hx
  · exact h.pl x hx
  · rw [List.mem_singleton.mp hx]
    exact hi
def keepD (d : Dk) : Dk := { stepD d with K := seen d.K d.ps, ps := [] }
theorem Good.keep {d : Dk} (h : Good d) : Good (keepD d) := by
  have g := h.step
  exact ⟨by simp [keepD], by show (seen d.K d.ps).length ≤ _; rw [seen_length]; exact h.len, g.f0, g.f1, g.s0⟩
def crashD (d : Dk) (cs : List UInt8) : Dk := ⟨crashN d.K d.ps cs d.ps.length, [], -1, false, d.steps⟩
theorem Good.crash {d : Dk} (h : Good d) (cs : List UInt8) : Good (crashD d cs) :=
  ⟨by simp [crashD], by show (crashN _ _ _ _).length ≤ _; rw [crashN_length]; exact h.len, by simp [crashD], by simp [crashD], h.s0⟩
def fuseD (d : Dk) (n : Int) : Dk := { d with fuse := max n (-1) }
theorem Good.fuse {d : Dk} (h : Good d) {n : Int} (hn : n ≤ 9223372036854775807) : Good (fuseD d n) :=
  ⟨h.pl, h.len, by simp [fuseD]; omega, by simp [fuseD]; omega, h.s0⟩
def newD (n : Nat) : Dk := ⟨List.replicate n zs, [], -1, false, 0⟩
theorem newD_good {n : Nat} (h : n ≤ 4096) : Good (newD n) := ⟨by simp [newD], by simpa [newD] using h, by simp [newD], by simp [newD], by simp [newD]⟩
/-- Is i a sector, and has b a sector's size? -/
def fits (d : Dk) (i : Int) (n : Nat) : Bool := decide (0 ≤ i) && decide (i < (d.K.length : Int)) && decide (n = 64)
def has (d : Dk) (i : Int) : Bool := decide (0 ≤ i) && decide (i < (d.K.length : Int))
end Go.Proofs.Ytppdckncnfffcaa
