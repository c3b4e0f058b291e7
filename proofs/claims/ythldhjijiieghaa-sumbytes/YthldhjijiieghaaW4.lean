/-
  string(b) of a slice that reads as bytes; the walk of SumBytes. Its conditions: none.
-/
import Derived.Test.YthldhjijiieghaaW3
import Derived.Laws.IdiomStrings
namespace Go.Proofs.Ythldhjijiieghaa
open Go.RowKit Go.Sort

theorem regrown_same {P : Program} {f : FuncId} {args : Array Value} {w : World} {d : Nat} {os : Array Obj} {v : Value}
    (h : Calls P f args (grow (redrawn w d) os) fun e w' => e = .returned v ∧ grow (redrawn w d) os = w') : Calls P f args (grow (redrawn w d) os) fun e w'' => e = .returned v ∧ ∃ p : Regrown, w'' = grow (redrawn w p.d) p.os :=
  h.mono fun _ _ ⟨he, hw⟩ => ⟨he, ⟨d, os⟩, hw.symm⟩

/-- The string of the bytes l. -/
def textOf (l : List Nat) : ByteArray := ⟨(l.map UInt8.ofNat).toArray⟩
theorem textOf_size (l : List Nat) : (textOf l).size = l.length := by
  show (List.toArray _).size = _
  simp
theorem conv_text (w : World) (A : Option Addr) (l : List Nat) (cap : Nat) (h : Bytes w A l) : (convert 22 9 (.slice A l.length cap)).run Try.prog w = .ok (.string (textOf l)) w := by
  obtain ⟨h1, _, h3⟩ := h
  cases A with
  | none =>
    have hl : l = [] := by
      cases l with
      | nil => rfl
      | cons c l => obtain ⟨b, off, hA, _⟩ := h3 (by simp); simp at hA
    subst hl
    rw [run_convert_bytes_string w 22 9 5 none _ cap Try.underlying22 Try.underlying5 Try.underlying9]
    rfl
  | some a =>
    have h := run_convert_bytes_back (P := Try.prog) w 22 9 5 a cap (l.map UInt8.ofNat) Try.underlying22 Try.underlying5 Try.underlying9 (fun j hj => by
      have hj' : j < l.length := by simpa using hj
      obtain ⟨b, off, hA, _, hc⟩ := h3 (by omega)
      injection hA with hA
      subst hA
      have hcj := hc j l[j] (List.getElem?_eq_getElem hj')
      rw [show (⟨b, off, none⟩ : Addr).add j = ⟨b, off + j, none⟩ by unfold Addr.add; split <;> simp_all, hcj]
      have hlt := h1 l[j] (List.getElem_mem hj')
      simp [Nat.mod_eq_of_lt hlt])
    rw [List.length_map] at h
    exact h

set_option maxHeartbeats 1000000 in
theorem bytes_in (l : List Nat) (A : Option Addr) (cap s : Nat) (w : World) (h : Bytes w A l) (hs : s < 4294967296) (hl : l.length ≤ 100000) :
    Calls Try.prog 3 #[.slice A l.length cap, .int .u32 s] w fun e w' => e = .returned (.bool true) ∧ Below w.heap.size w w' := by
  have H := Lib.hid h
  clear h
  go_enter Try.func3, Try.ntmps3
  go_wp2_with (go_at_call 8; refine (awake_any _).mono ?_; rintro e w1 ⟨rfl, hb⟩; have HB := Lib.hid hb; clear hb)
  have H1 := H.out.below HB.out
  obtain ⟨T, hT⟩ : ∃ T, Crc.more 0 l = T := ⟨_, rfl⟩
  obtain ⟨S, hS⟩ : ∃ S, Crc.more s l = S := ⟨_, rfl⟩
  obtain ⟨X, hX⟩ : ∃ X, textOf l = X := ⟨_, rfl⟩
  obtain ⟨N, hN⟩ : ∃ N, Crc.hash (X.data.toList.map UInt8.toNat) = N := ⟨_, rfl⟩
  have hXm : X.size ≤ maxLen := by rw [← hX, textOf_size]; exact H1.2.1
  have cv : ∀ d os, (convert 22 9 (.slice A l.length cap)).run Try.prog (grow (redrawn w1 d) os) = .ok (.string X) (grow (redrawn w1 d) os) := fun d os => by rw [← hX]; exact conv_text _ A l cap (H1.grow d os)
  have C1 : Hid (∀ d os, Calls Try.prog 9 #[.slice A l.length cap] (grow (redrawn w1 d) os) fun e w'' => e = .returned (.int .u32 T) ∧ ∃ p : Regrown, w'' = grow (redrawn w1 p.d) p.os) :=
    fun d os => Calls.regrown_of (of_at l l.length A cap _ rfl (H1.grow d os) T hT)
  have C2 : Hid (∀ d os, Calls Try.prog 10 #[.slice A l.length cap] (grow (redrawn w1 d) os) fun e w'' => e = .returned (.int .u32 T) ∧ ∃ p : Regrown, w'' = grow (redrawn w1 p.d) p.os) :=
    fun d os => regrown_same (by rw [← hT]; exact refof_any l A cap _ (H1.grow d os))
  have C3 : Hid (∀ d os, Calls Try.prog 11 #[.int .u32 s, .slice A l.length cap] (grow (redrawn w1 d) os) fun e w'' => e = .returned (.int .u32 S) ∧ ∃ p : Regrown, w'' = grow (redrawn w1 p.d) p.os) :=
    fun d os => Calls.regrown_of (more_at s l l.length A cap _ rfl hs (H1.grow d os) S hS)
  have C4 : Hid (∀ d os, Calls Try.prog 12 #[.int .u32 s, .slice A l.length cap] (grow (redrawn w1 d) os) fun e w'' => e = .returned (.int .u32 S) ∧ ∃ p : Regrown, w'' = grow (redrawn w1 p.d) p.os) :=
    fun d os => regrown_same (by rw [← hS]; exact refmore_any s l A cap _ hs (H1.grow d os))
  have C5 : Hid (∀ d os, Calls Try.prog 13 #[.string X] (grow (redrawn w1 d) os) fun e w'' => e = .returned (.int .u64 N) ∧ ∃ p : Regrown, w'' = grow (redrawn w1 p.d) p.os) :=
    fun d os => regrown_same (by rw [← hN]; exact hash_any X _ hXm)
  have C6 : Hid (∀ d os, Calls Try.prog 14 #[.string X] (grow (redrawn w1 d) os) fun e w'' => e = .returned (.int .u64 N) ∧ ∃ p : Regrown, w'' = grow (redrawn w1 p.d) p.os) :=
    fun d os => regrown_same (by rw [← hN]; exact refhash_any X _ hXm)
  clear hT hS hX hN hXm H1
  refine wp_region_quiet_below (by kernel_rfl) (by kernel_rfl) ?_
  repeat (go_big_quiet_step (first | (go_at_call 9; exact C1.out _ _) | (go_at_call 10; exact C2.out _ _) | (go_at_call 11; exact C3.out _ _) | (go_at_call 12; exact C4.out _ _) | (go_at_call 13; exact C5.out _ _) | (go_at_call 14; exact C6.out _ _)))
  refine wpQuiet_nil ?_
  intro _ hw'
  obtain ⟨⟨dq, osq⟩, hw''⟩ := hw'
  subst hw''
  go_wp2
  go_ret
  exact ⟨rfl, HB.out.trans ((below_regrown w1 dq osq).mono HB.out.size)⟩

set_option maxHeartbeats 400000 in
theorem bytes_out (l : List Nat) (A : Option Addr) (cap : Nat) (x : Int) (w : World) (hl : 100000 < (l.length : Int)) :
    Calls Try.prog 3 #[.slice A l.length cap, .int .u32 x] w fun e w' => e = .returned (.bool true) ∧ Below w.heap.size w w' := by
  go_enter Try.func3, Try.ntmps3
  go_wp2_with (go_at_call 8; refine (awake_any _).mono ?_; rintro e w1 ⟨rfl, hb⟩; have HB := Lib.hid hb; clear hb)
  go_ret
  exact ⟨rfl, HB.out⟩
theorem bytes_walk (l : List Nat) (A : Option Addr) (cap : Nat) (x : Int) (w : World) (h : Bytes w A l) (hx : (Lit.int .u32 x).wf = true) :
    Calls Try.prog 3 #[.slice A l.length cap, .int .u32 x] w fun e w' => e = .returned (.bool true) ∧ Below w.heap.size w w' := by
  have hb : 0 ≤ x ∧ x ≤ 4294967295 := bounds_u32 hx
  by_cases hl : 100000 < (l.length : Int)
  · exact bytes_out l A cap x w hl
  · obtain ⟨s, rfl⟩ : ∃ s : Nat, x = (s : Int) := ⟨x.toNat, by omega⟩
    exact bytes_in l A cap s w h (by omega) (by omega)
end Go.Proofs.Ythldhjijiieghaa
