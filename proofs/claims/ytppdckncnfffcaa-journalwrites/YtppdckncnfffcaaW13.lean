/-
  Words for a disk beside other blocks. The document's example is answered as it says. Their conditions: none.
-/
import Derived.Test.YtppdckncnfffcaaW11
namespace Go.Proofs.Ytppdckncnfffcaa
open Go.RowKit
open Go.Sort (grow)

/-- A disk, and what lay there before. -/
structure St (w0 W : World) (g : Nat) (d : Dk) : Prop where
  dk : DiskAt W w0.heap.size g d
  bel : Below w0.heap.size w0 W
section
variable {w0 W W' : World} {g : Nat} {d : Dk}
theorem St.below (s : St w0 W g d) (hb : Below W.heap.size W W') : St w0 W' g d := ⟨s.dk.below hb, s.bel.trans (hb.mono s.bel.size)⟩
theorem St.drew (s : St w0 W g d) : St w0 W.drew g d := s.below (Below.refl _ _).drew
theorem st_new (n : Nat) (h1 : 1 ≤ n) (h2 : n ≤ 4096) (hb : Below w0.heap.size w0 W) : Calls Try.prog 9 #[.int .i64 (n : Int)] W fun r w' => ∃ g, r = .returned (.tuple #[.pointer (some ⟨g, 0, none⟩), .int .i64 0]) ∧ St w0 w' g (newD n) ∧ Below W.heap.size W w' := by
  refine (new_any (n : Int) W).mono ?_
  intro r w' h
  unfold NewPost at h
  rw [if_pos (by omega), Int.toNat_natCast] at h
  obtain ⟨g, rfl, hd, hb'⟩ := h
  exact ⟨g, rfl, ⟨hd.down hb.size, hb.trans (hb'.mono hb.size)⟩, hb'⟩
theorem st_write (s : St w0 W g d) (i : Int) (l : List UInt8) (A : Option Addr) (nb c : Nat) (hs : d.steps ≤ 1000000) (hp : d.ps.length ≤ 100000) (hl : l.length = nb) (hA : ∀ w', Fr kD [] w0.heap.size W w' → Sl eBy w' A l) :
    Calls Try.prog 20 #[.pointer (some ⟨g, 0, none⟩), .int .i64 i, .slice A nb c] W fun r w' => r = .returned (.int .i64 (writeR d i l)) ∧ St w0 w' g (writeD d i l) ∧ Fr kD [] w0.heap.size W w' := by
  refine (write_any _ g d i l A nb c W s.dk hs hp hl s.bel.size hA).mono ?_
  rintro r w' ⟨rfl, hd, hf⟩
  exact ⟨rfl, ⟨hd, s.bel.trans hf.below⟩, hf⟩
theorem st_sync (s : St w0 W g d) (hs : d.steps ≤ 1000000) : Calls Try.prog 21 #[.pointer (some ⟨g, 0, none⟩)] W fun r w' => r = .returned (.int .i64 (if stepB d then 0 else 7)) ∧ St w0 w' g (if stepB d then keepD d else stepD d) ∧ Fr kD [] w0.heap.size W w' := by
  refine (sync_any _ g d W s.dk hs).mono ?_
  rintro r w' ⟨rfl, hd, hf⟩
  exact ⟨rfl, ⟨hd, s.bel.trans hf.below⟩, hf⟩
theorem st_fuse (s : St w0 W g d) (n : Int) (hn : n ≤ 9223372036854775807) : Calls Try.prog 29 #[.pointer (some ⟨g, 0, none⟩), .int .i64 n] W fun r w' => r = .returned (.tuple #[]) ∧ St w0 w' g (fuseD d n) ∧ Fr kD [] w0.heap.size W w' := by
  refine (fuse_any _ g d n W s.dk hn).mono ?_
  rintro r w' ⟨rfl, hd, hf⟩
  exact ⟨rfl, ⟨hd, s.bel.trans hf.below⟩, hf⟩
theorem st_crash (s : St w0 W g d) (cs : List UInt8) (C : Option Addr) (nc cc : Nat) (hl : cs.length = nc) (hp : d.ps.length ≤ 100000) (hC : ∀ w', Fr kD [] w0.heap.size W w' → Sl eBy w' C cs) :
    Calls Try.prog 30 #[.pointer (some ⟨g, 0, none⟩), .slice C nc cc] W fun r w' => r = .returned (.tuple #[]) ∧ St w0 w' g (crashD d cs) ∧ Fr kD [] w0.heap.size W w' := by
  refine (crash_any _ g d cs C nc cc W s.dk hl hp s.bel.size hC).mono ?_
  rintro r w' ⟨rfl, hd, hf⟩
  exact ⟨rfl, ⟨hd, s.bel.trans hf.below⟩, hf⟩
theorem st_read (s : St w0 W g d) (i : Int) : Calls Try.prog 36 #[.pointer (some ⟨g, 0, none⟩), .int .i64 i] W fun r w' => ∃ v, r = .returned (.tuple #[v, .int .i64 (readR d i)]) ∧ OwnB w' W.heap.size v (readL d i) ∧ St w0 w' g d ∧ Below W.heap.size W w' := by
  refine (read_any _ g d i W s.dk).mono ?_
  rintro r w' ⟨v, rfl, ho, hb⟩
  exact ⟨v, rfl, ho, s.below hb, hb⟩
theorem st_down (s : St w0 W g d) : Calls Try.prog 32 #[.pointer (some ⟨g, 0, none⟩)] W fun r w' => r = .returned (.bool d.down) ∧ W = w' := down_any _ g d W s.dk
theorem st_pend (s : St w0 W g d) : Calls Try.prog 25 #[.pointer (some ⟨g, 0, none⟩)] W fun r w' => r = .returned (.int .i64 (d.ps.length : Int)) ∧ W = w' := pend_any _ g d W s.dk
end
/-- A row of bytes isn't a disk's. -/
theorem row_keep {base b0 : Nat} {W w' : World} {v : Value} {l : List UInt8} {A : Option Addr} {n c : Nat} (h : RowT eBy 5 W b0 v l) (hv : v = .slice A n c) (hm : l.length ≤ maxLen) (hf : Fr kD [] base W w') : Sl eBy w' A l := by
  obtain ⟨A', c', e, hs, _⟩ := (h.fr hf (by simp) (by simp)).sl hm
  rw [hv] at e
  cases e
  exact hs
theorem sl_one_by (w : World) (x : UInt8) : Sl eBy (w.alloc (.cells #[.int .u8 (x.toNat : Int)] 5)) (some ⟨w.heap.size, 0, none⟩) [x] := sl_one w x 5
theorem row_one_by (w : World) (x : UInt8) : RowT eBy 5 (w.alloc (.cells #[.int .u8 (x.toNat : Int)] 5)) w.heap.size (.slice (some ⟨w.heap.size, 0, none⟩) 1 1) [x] := RowT.one w x

end Go.Proofs.Ytppdckncnfffcaa
