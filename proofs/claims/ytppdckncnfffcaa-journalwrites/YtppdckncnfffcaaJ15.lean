/-
  The contracts of Open, Start, Append. Their conditions: the journal, its disk and the record lie in memory, the disk's steps and pending writes are below a bound.
-/
import Derived.Test.YtppdckncnfffcaaJ14
namespace Go.Proofs.Ytppdckncnfffcaa
open Go.RowKit
set_option maxRecDepth 100000

def j0 (n : Nat) : Jn := ⟨n, 0, 0, 0, 0, 0, 0, false⟩
/-- Open: of a disk that is too small, or down. -/
theorem jopen_nil (w : World) : Calls Try.prog 11 #[.pointer none] w fun r w' => r = .returned (.tuple #[.pointer none, .slice none 0 0, .int .i64 1]) ∧ w = w' := by
  go_enter Try.func11, Try.ntmps11
  go_wp2_with (go_at_call 18; refine (len_nil w).mono ?_; rintro r w1 ⟨rfl, rfl⟩)
  go_ret3
  exact ⟨rfl, rfl⟩
theorem jopen_few (base dg : Nat) (d : Dk) (w : World) (hdk : DiskAt w base dg d) (h : d.K.length < 4) : Calls Try.prog 11 #[.pointer (some ⟨dg, 0, none⟩)] w fun r w' => r = .returned (.tuple #[.pointer none, .slice none 0 0, .int .i64 1]) ∧ w = w' := by
  have CL := Lib.hid (len_any base dg d w hdk)
  have hi : (d.K.length : Int) < 4 := by omega
  clear hdk h
  generalize d.K.length = m at *
  go_enter Try.func11, Try.ntmps11
  go_wp2_with (go_at_call 18; refine CL.out.mono ?_; rintro r w1 ⟨rfl, rfl⟩)
  go_ret3
  exact ⟨rfl, rfl⟩
theorem Fr.belowNew {base g n : Nat} {w w' : World} (h : Fr [] [g] base w w') (hg : n ≤ g) (hn : n ≤ w.heap.size) : Below n w w' :=
  ⟨h.below.os, h.below.tape, h.below.output, h.below.size, fun k hk => by
    have e : w.heap[k]? = some (w.heap[k]'(by omega)) := Array.getElem?_eq_getElem (by omega)
    rw [e]
    exact h.keep k _ e (by simp) (by simp; omega)⟩
/-- What Open answers. -/
def JOpen (w : World) (dg n : Nat) (S : List Sec) (r : Ending) (w' : World) : Prop :=
  ∃ g vr xs, r = .returned (.tuple #[.pointer (some ⟨g, 0, none⟩), vr, .int .i64 0]) ∧ RecsV w' w.heap.size vr xs (lookL S n) ∧ JBox w' g dg (lookJ S (j0 n)) ∧ w.heap.size ≤ g ∧ Below w.heap.size w w'
set_option maxHeartbeats 2000000 in
theorem jopen_any (base dg : Nat) (d : Dk) (w : World) (hdk : DiskAt w base dg d) (hd : d.down = false) (h : 4 ≤ d.K.length) :
    Calls Try.prog 11 #[.pointer (some ⟨dg, 0, none⟩)] w (JOpen w dg (d.K.length / 2) (seen d.K d.ps)) := by
  have CL := Lib.hid (len_any base dg d w hdk)
  have CD := Lib.hid (down_any base dg d w hdk)
  rw [hd] at CD
  obtain ⟨n, hn⟩ : ∃ n, n = d.K.length / 2 := ⟨_, rfl⟩
  rw [← hn]
  have bA : Below w.heap.size w (w.alloc (.cells (jCells dg (j0 n)) 76)) := Below.alloc (Below.refl _ _) (Nat.le_refl _) _
  have hjb : JBox (w.alloc (.cells (jCells dg (j0 n)) 76)) w.heap.size dg (j0 n) := heap_new _ _
  have hdb := hdk.bg
  have hdl := hdk.lt
  have hgl := hdk.good.len
  have CK : Hid (Calls Try.prog 33 #[.pointer (some ⟨w.heap.size, 0, none⟩)] (w.alloc (.cells #[.pointer (some ⟨dg, 0, none⟩), .int .i64 (n : Int), .int .i64 0, .int .i64 0, .int .i64 0, .int .i64 0, .int .i64 0, .int .i64 0, .int .u32 0] 76))
      (LookPost (w.alloc (.cells (jCells dg (j0 n)) 76)) base w.heap.size dg (lookJ (seen d.K d.ps) (j0 n)) (lookL (seen d.K d.ps) n))) :=
    look_any w.heap.size dg base (j0 n) d (w.alloc (.cells (jCells dg (j0 n)) 76)) hjb (hdk.below bA) hd (by show 2 * n ≤ _; omega) (by show 0 < n; omega) (by show n ≤ 2048; omega) (by omega) (by simp; omega)
  have hni : (n : Int) ≤ 2048 := by omega
  have HA := Lib.hid bA
  have hi : ¬ (d.K.length : Int) < 4 := by omega
  have hq : ((d.K.length : Int)).tdiv 2 = (n : Int) := by rw [Int.tdiv_eq_ediv_of_nonneg (by omega)]; omega
  have hm1 : (d.K.length : Int) ≤ 4096 := by omega
  clear hdk hd h hn hjb bA hdb hdl hgl
  generalize seen d.K d.ps = S at *
  generalize d.K.length = m at *
  go_enter Try.func11, Try.ntmps11
  go_wp2_with (first | (go_at_call 18; refine CL.out.mono ?_; rintro r w1 ⟨rfl, rfl⟩) | (go_at_call 32; refine CD.out.mono ?_; rintro r w1 ⟨rfl, rfl⟩) | (go_at_call 33; refine CK.out.mono ?_; rintro r w1 ⟨vr, xs, rfl, hr, hj, hf⟩))
  go_ret3
  refine ⟨w.heap.size, vr, xs, rfl, hr.down HA.out.size, hj, Nat.le_refl _, HA.out.trans (hf.belowNew (Nat.le_refl _) HA.out.size)⟩
end Go.Proofs.Ytppdckncnfffcaa
