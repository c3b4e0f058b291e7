/-
  The contract of awake, and what LruNil says. Their conditions: none.
-/
import Derived.Test.YtmhpngfkipooiaaW6
namespace Go.Proofs.Ytmhpngfkipooiaa
open Go.RowKit Go.Maps

def ta : Th := ⟨⟨#[97]⟩, 4, 1⟩
def tb : Th := ⟨⟨#[98]⟩, 4, 2⟩
def tc : Th := ⟨⟨#[99]⟩, 4, 3⟩
theorem st1 : putL 10 0 [] ta = [ta] := by rfl
theorem st2 : putL 10 0 [ta] tb = [tb, ta] := by rfl
theorem st3 : usd [tb, ta] ta.k = [ta, tb] := by rfl
theorem st4 : putL 10 0 [ta, tb] tc = [tc, ta] := by rfl
theorem st5 : wG 10 0 4 (drp [ta, tb] tc.k) = [tb.k] := by rfl
theorem st6 : wayOk 10 0 4 = true := by rfl
theorem st7 : tot [tc, ta] + 0 = 8 := by rfl
theorem small1 (x : UInt8) : (⟨#[x]⟩ : ByteArray).size ≤ maxLen := by
  show 1 ≤ maxLen
  unfold maxLen
  omega
set_option maxHeartbeats 1000000 in
theorem awake_any (w : World) : Calls Try.prog 9 #[] w fun e w' => e = .returned (.bool true) ∧ Below w.heap.size w w' := by
  go_enter Try.func9, Try.ntmps9
  go_wp2_with fail
  refine (new_any w.heap.size 10 10 w (Nat.le_refl _) rfl (by omega)).mono ?_
  rintro r w1 ⟨g, rfl, _, c1, b1⟩
  have C1 := Lib.hid (put_any w.heap.size g [] 10 0 ta w1 c1 b1.size (by simp) (small1 _))
  rw [st1] at C1
  have B1 := Lib.hid b1
  clear c1 b1
  go_wp2_with fail
  refine C1.out.mono ?_
  rintro r w2 ⟨v2, rfl, _, c2, f2⟩
  have B2 := Lib.hid (B1.out.trans f2.below)
  have C2 := Lib.hid (put_any w.heap.size g [ta] 10 0 tb w2 c2 B2.out.size (by simp) (small1 _))
  rw [st2] at C2
  clear c2 f2 C1
  go_wp2_with fail
  refine C2.out.mono ?_
  rintro r w3 ⟨v3, rfl, _, c3, f3⟩
  have B3 := Lib.hid (B2.out.trans f3.below)
  have C3 := Lib.hid (get_any w.heap.size g [tb, ta] 10 0 ta.k w3 c3 (small1 _))
  rw [st3] at C3
  clear c3 f3 C2
  go_wp2_with fail
  refine C3.out.mono ?_
  rintro r w4 ⟨rfl, c4, f4⟩
  have B4 := Lib.hid (B3.out.trans f4.below)
  have C4 := Lib.hid (put_any w.heap.size g [ta, tb] 10 0 tc w4 c4 B4.out.size (by simp) (small1 _))
  rw [st4] at C4
  rw [show tc.s = 4 from rfl, st5, st6] at C4
  clear c4 f4 C3
  go_wp2_with fail
  refine C4.out.mono ?_
  rintro r w5 ⟨v5, rfl, o5, c5, f5⟩
  have B5 := Lib.hid (B4.out.trans f5.below)
  have C5 := Lib.hid (used_any w.heap.size g [tc, ta] 10 0 w5 c5)
  rw [st7] at C5
  obtain ⟨A, c, rfl, hs⟩ := o5.strs (by simp [maxLen])
  obtain ⟨b, off, rfl, _, k0⟩ := hs.at_ (k := 0) (by simp)
  simp only [List.getElem_cons_zero, Nat.add_zero] at k0
  rw [show tb.k = ⟨#[98]⟩ from rfl] at k0
  clear o5 c5 f5 C4 hs
  simp only [List.length_singleton]
  go_wp2_with fail
  refine C5.out.mono ?_
  rintro r w6 ⟨rfl, rfl⟩
  go_wp2
  go_ret
  exact ⟨rfl, B5.out.drew⟩
set_option maxHeartbeats 2000000 in
theorem nil_walk (k : ByteArray) (n : Int) (w : World) : Calls Try.prog 6 #[.string k, .int .i64 n] w fun e w' => e = .returned (.bool true) ∧ Below w.heap.size w w' := by
  go_enter Try.func6, Try.ntmps6
  go_wp2_with fail
  refine (awake_any w).mono ?_
  rintro r w1 ⟨rfl, b1⟩
  have B1 := Lib.hid b1
  clear b1
  go_wp2_with fail
  refine (put_nil k n n w1).mono ?_
  rintro r w2 ⟨rfl, b2⟩
  have B2 := Lib.hid (B1.out.trans (b2.mono B1.out.size))
  clear b2 B1
  go_wp2_with fail
  refine (reserve_nil n w2).mono ?_
  rintro r w3 ⟨rfl, b3⟩
  have B3 := Lib.hid (B2.out.trans (b3.mono B2.out.size))
  clear b3 B2
  go_wp2_with fail
  refine (get_nil k w3).mono ?_
  rintro r w4 ⟨rfl, rfl⟩
  go_wp2_with fail
  refine (peek_nil k w3).mono ?_
  rintro r w4 ⟨rfl, rfl⟩
  go_wp2_with fail
  refine (release_nil n w3).mono ?_
  rintro r w4 ⟨rfl, rfl⟩
  go_wp2_with fail
  refine (clear_nil w3).mono ?_
  rintro r w4 ⟨rfl, rfl⟩
  go_wp2_with fail
  refine (drop_nil k w3).mono ?_
  rintro r w4 ⟨rfl, rfl⟩
  go_wp2_with fail
  refine (used_nil w3).mono ?_
  rintro r w4 ⟨rfl, rfl⟩
  go_wp2_with fail
  refine (reserved_nil w3).mono ?_
  rintro r w4 ⟨rfl, rfl⟩
  go_wp2_with fail
  refine (keys_nil w3).mono ?_
  rintro r w4 ⟨rfl, rfl⟩
  go_wp2
  go_ret
  exact ⟨rfl, B3.out⟩
end Go.Proofs.Ytmhpngfkipooiaa
