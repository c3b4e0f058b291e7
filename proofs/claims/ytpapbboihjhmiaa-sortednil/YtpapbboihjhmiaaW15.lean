/-
  The walk of SortedNil. Its conditions: the key fits memory.
-/
import Derived.Test.YtpapbboihjhmiaaW13
import Derived.Test.YtpapbboihjhmiaaW14
import Derived.Laws.Concat
namespace Go.Proofs.Ytpapbboihjhmiaa
open Go.RowKit

abbrev sX : ByteArray := ⟨#[120]⟩
theorem key_more (k : ByteArray) : k ≠ k ++ sX := by
  intro h
  have := congrArg ByteArray.size h
  simp [ByteArray.size_append] at this
  exact absurd this (by decide)
theorem nil_len (k : ByteArray) (n : Int) : (ldel (lset [(k, n)] (k ++ sX) n) k).length = 1 := by
  have hr : Rises [(k, n)] := List.pairwise_singleton _ _
  have h1 := length_lset (k ++ sX) n hr
  have h2 : lhas [(k, n)] (k ++ sX) = false := lhas_false.mpr (by intro p hp; simp at hp; subst hp; exact key_more k)
  have h3 := length_ldel k (rises_lset hr (k ++ sX) n)
  have h4 : lhas (lset [(k, n)] (k ++ sX) n) k = true := lhas_iff.mpr ⟨(k, n), (mem_lset hr).mpr (.inr ⟨by simp, key_more k⟩), rfl⟩
  rw [h2] at h1
  rw [h4] at h3
  simp at h1 h3
  omega
theorem nil_get (k : ByteArray) (n : Int) : lget [(k, n)] k = some n := by simp [lget]

set_option maxRecDepth 100000 in
set_option maxHeartbeats 2000000 in
theorem nil_walk (k : ByteArray) (n : Int) (w : World) (hk : k.size ≤ 140737488351232) : Calls Try.prog 6 #[.string k, .int .i64 n] w fun e w' => e = .returned (.bool true) ∧ Below w.heap.size w w' := by
  have hsx : sX.size = 1 := rfl
  have HK := Lib.hid (fun w => run_string_add_sum (P := Try.prog) (w := w) k sX (by omega))
  clear hk hsx
  go_enter Try.func6, Try.ntmps6
  go_wp2_with fail
  refine (awake_any w).mono ?_
  rintro e w1 ⟨rfl, b1⟩
  have B1 := Lib.hid b1
  clear b1
  go_wp2_with fail
  refine (get_nil k w1).mono ?_
  rintro e w2 ⟨rfl, rfl⟩
  go_wp2_with fail
  refine (from_nil k w1).mono ?_
  rintro e w2 ⟨rfl, rfl⟩
  go_wp2_with fail
  refine (set_nil k n w1).mono ?_
  rintro e w2 ⟨rfl, rfl⟩
  go_wp2_with fail
  refine (del_nil k w1).mono ?_
  rintro e w2 ⟨rfl, rfl⟩
  go_wp2_with fail
  refine (len_nil w1).mono ?_
  rintro e w2 ⟨rfl, rfl⟩
  go_wp2_with fail
  refine (depth_nil w1).mono ?_
  rintro e w2 ⟨rfl, rfl⟩
  go_wp2_with fail
  refine (copy_nil w1).mono ?_
  rintro e w2 ⟨rfl, rfl⟩
  go_wp2_with fail
  refine (all_nil 5 w1).mono ?_
  rintro e w2 ⟨rfl, b2⟩
  have B2 := Lib.hid (B1.out.trans (b2.mono B1.out.size))
  clear b2
  go_wp2_with fail
  refine (new_any w2).mono ?_
  rintro e w3 ⟨rfl, m3, b3, s3⟩
  have B3 := Lib.hid (B2.out.trans (b3.mono B2.out.size))
  have C3 := Lib.hid (set_any w2.heap.size [] k n w3 m3 (by simp))
  have hg : w.heap.size ≤ w2.heap.size := B2.out.size
  clear m3 b3 s3
  go_wp2_with fail
  refine C3.out.mono ?_
  rintro e w4 ⟨rfl, m4, o4⟩
  have B4 := Lib.hid (B3.out.trans (o4.below B3.out.size hg))
  have M4 := Lib.hid m4
  have G4 := Lib.hid m4.lt
  have C4 := Lib.hid (copy_any w2.heap.size _ w4 m4)
  clear m4 o4 C3
  go_wp2_with fail
  refine C4.out.mono ?_
  rintro e w5 ⟨rfl, m5, b5, _⟩
  have B5 := Lib.hid (B4.out.trans (b5.mono B4.out.size))
  have M5 := Lib.hid (M4.out.below b5)
  have N5 := Lib.hid m5
  have C5 := Lib.hid (set_any w4.heap.size _ (k ++ sX) n w5 m5 (by simp [lset]))
  have hk1 := HK.out
  have hg4 : w.heap.size ≤ w4.heap.size := B4.out.size
  clear m5 b5 C4
  go_wp2_with fail
  clear hk1
  refine C5.out.mono ?_
  rintro e w6 ⟨rfl, m6, o6⟩
  have B6 := Lib.hid (B5.out.trans (o6.below B5.out.size hg4))
  have M6 := Lib.hid (M5.out.other N5.out o6 (Nat.ne_of_lt G4.out))
  have hl6 : (lset (lset [] k n) (k ++ sX) n).length ≤ 100000 := by
    have := length_lset (k ++ sX) n (List.pairwise_singleton _ _ : Rises [(k, n)])
    show (lset [(k, n)] (k ++ sX) n).length ≤ 100000
    rw [this]
    simp
    split <;> omega
  have N6 := Lib.hid m6
  have C6 := Lib.hid (del_any w4.heap.size _ k w6 m6 hl6)
  clear m6 o6 C5 hl6
  go_wp2_with fail
  refine C6.out.mono ?_
  rintro e w7 ⟨rfl, m7, o7⟩
  have B7 := Lib.hid (B6.out.trans (o7.below B6.out.size hg4))
  have M7 := Lib.hid (M6.out.other N6.out o7 (Nat.ne_of_lt G4.out))
  have N7 := Lib.hid m7
  have C7 := Lib.hid (get_any w2.heap.size _ k w7 M7.out)
  rw [show lset [] k n = [(k, n)] from rfl, nil_get] at C7
  clear m7 o7 C6
  go_wp2_with fail
  refine C7.out.mono ?_
  rintro e w8 ⟨rfl, b8⟩
  simp only [getV]
  have B8 := Lib.hid (B7.out.trans (b8.mono B7.out.size))
  have C8 := Lib.hid (len_any w2.heap.size _ w8 (M7.out.below b8))
  have C9 := Lib.hid (len_any w4.heap.size _ w8 (N7.out.below b8))
  rw [show lset [] k n = [(k, n)] from rfl, nil_len] at C9
  clear b8 C7
  go_wp2_with fail
  refine C8.out.mono ?_
  rintro e w9 ⟨rfl, rfl⟩
  go_wp2_with fail
  refine C9.out.mono ?_
  rintro e w9 ⟨rfl, rfl⟩
  go_wp2
  go_ret
  exact ⟨rfl, B8.out⟩
end Go.Proofs.Ytpapbboihjhmiaa
