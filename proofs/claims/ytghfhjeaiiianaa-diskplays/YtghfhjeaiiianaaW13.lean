/-
  Words for a disk beside other blocks. The document's example is answered as it says. Their conditions: none.
-/
import Derived.Test.YtghfhjeaiiianaaW12
namespace Go.Proofs.Ytghfhjeaiiianaa
open Go.RowKit
open Go.Sort (grow)

/-- A disk, and what lay there before. -/
structure St (w0 W : World) (g : Nat) (d : Dk) : Prop where
  dk : DiskAt W w0.heap.size g d
  bel : Below w0.heap.size w0 W
section
variable {w0 W W' : World} {g : Nat} {d : Dk}
theorem St.below (s : St w0 W g d) (hb : Below W.heap.size W W') : St w0 W' g d := ⟨s.dk.below hb, s.bel.trans (hb.mono s.bel.size)⟩
theorem St.drew (s : St w0 W g d) : St w0 W.drew g d := s.below (Below.refl _ _).drew
theorem st_new (n : Nat) (h1 : 1 ≤ n) (h2 : n ≤ 4096) (hb : Below w0.heap.size w0 W) : Calls Try.prog 8 #[.int .i64 (n : Int)] W fun r w' => ∃ g, r = .returned (.tuple #[.pointer (some ⟨g, 0, none⟩), .int .i64 0]) ∧ St w0 w' g (newD n) ∧ Below W.heap.size W w' := by
  refine (new_any (n : Int) W).mono ?_
  intro r w' h
  unfold NewPost at h
  rw [if_pos (by omega), Int.toNat_natCast] at h
  obtain ⟨g, rfl, hd, hb'⟩ := h
  exact ⟨g, rfl, ⟨hd.down hb.size, hb.trans (hb'.mono hb.size)⟩, hb'⟩
theorem st_write (s : St w0 W g d) (i : Int) (l : List UInt8) (A : Option Addr) (nb c : Nat) (hs : d.steps ≤ 1000000) (hp : d.ps.length ≤ 100000) (hl : l.length = nb) (hA : ∀ w', Fr kD [] w0.heap.size W w' → Sl eBy w' A l) :
    Calls Try.prog 9 #[.pointer (some ⟨g, 0, none⟩), .int .i64 i, .slice A nb c] W fun r w' => r = .returned (.int .i64 (writeR d i l)) ∧ St w0 w' g (writeD d i l) ∧ Fr kD [] w0.heap.size W w' := by
  refine (write_any _ g d i l A nb c W s.dk hs hp hl s.bel.size hA).mono ?_
  rintro r w' ⟨rfl, hd, hf⟩
  exact ⟨rfl, ⟨hd, s.bel.trans hf.below⟩, hf⟩
theorem st_sync (s : St w0 W g d) (hs : d.steps ≤ 1000000) : Calls Try.prog 11 #[.pointer (some ⟨g, 0, none⟩)] W fun r w' => r = .returned (.int .i64 (if stepB d then 0 else 7)) ∧ St w0 w' g (if stepB d then keepD d else stepD d) ∧ Fr kD [] w0.heap.size W w' := by
  refine (sync_any _ g d W s.dk hs).mono ?_
  rintro r w' ⟨rfl, hd, hf⟩
  exact ⟨rfl, ⟨hd, s.bel.trans hf.below⟩, hf⟩
theorem st_fuse (s : St w0 W g d) (n : Int) (hn : n ≤ 9223372036854775807) : Calls Try.prog 21 #[.pointer (some ⟨g, 0, none⟩), .int .i64 n] W fun r w' => r = .returned (.tuple #[]) ∧ St w0 w' g (fuseD d n) ∧ Fr kD [] w0.heap.size W w' := by
  refine (fuse_any _ g d n W s.dk hn).mono ?_
  rintro r w' ⟨rfl, hd, hf⟩
  exact ⟨rfl, ⟨hd, s.bel.trans hf.below⟩, hf⟩
theorem st_crash (s : St w0 W g d) (cs : List UInt8) (C : Option Addr) (nc cc : Nat) (hl : cs.length = nc) (hp : d.ps.length ≤ 100000) (hC : ∀ w', Fr kD [] w0.heap.size W w' → Sl eBy w' C cs) :
    Calls Try.prog 22 #[.pointer (some ⟨g, 0, none⟩), .slice C nc cc] W fun r w' => r = .returned (.tuple #[]) ∧ St w0 w' g (crashD d cs) ∧ Fr kD [] w0.heap.size W w' := by
  refine (crash_any _ g d cs C nc cc W s.dk hl hp s.bel.size hC).mono ?_
  rintro r w' ⟨rfl, hd, hf⟩
  exact ⟨rfl, ⟨hd, s.bel.trans hf.below⟩, hf⟩
theorem st_read (s : St w0 W g d) (i : Int) : Calls Try.prog 19 #[.pointer (some ⟨g, 0, none⟩), .int .i64 i] W fun r w' => ∃ v, r = .returned (.tuple #[v, .int .i64 (readR d i)]) ∧ OwnB w' W.heap.size v (readL d i) ∧ St w0 w' g d ∧ Below W.heap.size W w' := by
  refine (read_any _ g d i W s.dk).mono ?_
  rintro r w' ⟨v, rfl, ho, hb⟩
  exact ⟨v, rfl, ho, s.below hb, hb⟩
theorem st_down (s : St w0 W g d) : Calls Try.prog 13 #[.pointer (some ⟨g, 0, none⟩)] W fun r w' => r = .returned (.bool d.down) ∧ W = w' := down_any _ g d W s.dk
theorem st_pend (s : St w0 W g d) : Calls Try.prog 14 #[.pointer (some ⟨g, 0, none⟩)] W fun r w' => r = .returned (.int .i64 (d.ps.length : Int)) ∧ W = w' := pend_any _ g d W s.dk
theorem st_steps (s : St w0 W g d) : Calls Try.prog 15 #[.pointer (some ⟨g, 0, none⟩)] W fun r w' => r = .returned (.int .i64 d.steps) ∧ W = w' := steps_any _ g d W s.dk
end
/-- A row of bytes isn't a disk's. -/
theorem row_keep {base b0 : Nat} {W w' : World} {v : Value} {l : List UInt8} {A : Option Addr} {n c : Nat} (h : RowT eBy 5 W b0 v l) (hv : v = .slice A n c) (hm : l.length ≤ maxLen) (hf : Fr kD [] base W w') : Sl eBy w' A l := by
  obtain ⟨A', c', e, hs, _⟩ := (h.fr hf (by simp) (by simp)).sl hm
  rw [hv] at e
  cases e
  exact hs
theorem sl_one_by (w : World) (x : UInt8) : Sl eBy (w.alloc (.cells #[.int .u8 (x.toNat : Int)] 5)) (some ⟨w.heap.size, 0, none⟩) [x] := sl_one w x 5
theorem row_one_by (w : World) (x : UInt8) : RowT eBy 5 (w.alloc (.cells #[.int .u8 (x.toNat : Int)] 5)) w.heap.size (.slice (some ⟨w.heap.size, 0, none⟩) 1 1) [x] := RowT.one w x

/-! ### The example -/
def s1 : Sec := secOf (fullL [1])
def exD : Dk := writeD (newD 2) 0 (fullL [1])
theorem ex_R : writeR (newD 2) 0 (fullL [1]) = 0 := by decide
theorem ex_L : ∃ l, readL (crashD exD [3]) 0 = l ∧ l.length = 64 ∧ l[2]? = some 1 ∧ l[3]? = some 0 := ⟨_, rfl, by decide, by decide, by decide⟩
theorem ex_S : readR (crashD exD [3]) 0 = 0 := by decide
theorem ex_P : exD.ps.length = 1 := by decide
set_option maxHeartbeats 4000000 in
theorem awake_any (w : World) : Calls Try.prog 7 #[] w fun e w' => e = .returned (.bool true) ∧ Below w.heap.size w w' := by
  have CN := Lib.hid (st_new (w0 := w) (W := w) 2 (by omega) (by omega) (Below.refl _ _))
  go_enter Try.func7, Try.ntmps7
  go_wp2_with fail
  refine CN.out.mono ?_
  rintro r w1 ⟨g, rfl, s1, _⟩
  have r2 := row_one_by w1 1
  have CF := Lib.hid (full_any [1] _ 1 1 _ (sl_one_by w1 1) rfl)
  have S2 := Lib.hid (s1.below (Below.alloc (Below.refl _ _) (Nat.le_refl _) (.cells #[.int .u8 ((1 : UInt8).toNat : Int)] 5)))
  clear CN s1
  go_wp2_with fail
  refine CF.out.mono ?_
  rintro r w2 ⟨v, rfl, r3, b3⟩
  have s3 := S2.out.below b3
  obtain ⟨A, c, hv, _⟩ := r3.form
  have hl : (fullL [1]).length = 64 := fullL_length _
  rw [hl] at hv
  have CW := Lib.hid (st_write s3 0 (fullL [1]) A 64 c (by decide) (by decide) hl (fun w' hf => row_keep r3 hv (by rw [hl]; unfold maxLen; omega) hf))
  rw [ex_R] at CW
  subst hv
  clear s3 r3 b3 CF S2 hl
  go_wp2_with fail
  refine CW.out.mono ?_
  rintro r w3 ⟨rfl, s4, _⟩
  change St w w3 g exD at s4
  have r5 := row_one_by w3 3
  have s5 := s4.below (Below.alloc (Below.refl _ _) (Nat.le_refl _) (.cells #[.int .u8 ((3 : UInt8).toNat : Int)] 5))
  have CC := Lib.hid (st_crash s5 [3] _ 1 1 rfl (by rw [ex_P]; omega) (fun w' hf => row_keep r5 rfl (by unfold maxLen; simp) hf))
  clear s4 s5 r5 CW
  go_wp2_with fail
  refine CC.out.mono ?_
  rintro r w4 ⟨rfl, s6, _⟩
  have CR := Lib.hid (st_read s6 0)
  rw [ex_S] at CR
  clear s6 CC
  go_wp2_with fail
  refine CR.out.mono ?_
  rintro r w5 ⟨v, rfl, o7, s7, _⟩
  obtain ⟨l, h1, h2, h3, h4⟩ := ex_L
  rw [h1] at o7
  obtain ⟨A7, c7, rfl, sl7, _⟩ := o7.form
  obtain ⟨b, off, rfl, _, d2⟩ := at_by sl7 (k := 2) (by omega)
  obtain ⟨b', off', e, _, d3⟩ := at_by sl7 (k := 3) (by omega)
  cases e
  have e2 : l[2] = 1 := by rw [List.getElem?_eq_getElem (by omega)] at h3; simpa using h3
  have e3 : l[3] = 0 := by rw [List.getElem?_eq_getElem (by omega)] at h4; simpa using h4
  rw [e2] at d2
  rw [e3] at d3
  rw [h2]
  have d2' : w5.cell? ⟨b, off + 2, none⟩ = some (.int .u8 1) := d2
  have d3' : w5.cell? ⟨b, off + 3, none⟩ = some (.int .u8 0) := d3
  have S7 := Lib.hid s7.bel
  clear d2 d3 e2 e3 h1 h2 h3 h4 s7 sl7 o7 CR
  go_wp2
  go_ret
  exact ⟨rfl, S7.out⟩
end Go.Proofs.Ytghfhjeaiiianaa
