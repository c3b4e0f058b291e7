/-
  The digit that is laid over a number: or is plus. Its conditions: the number is below the digit's place.
-/
import Derived.Test.YthcmijppemochaaMath
import Derived.WalkKit
import Derived.IntWalk
namespace Go.Proofs.Ythcmijppemochaa
open Go.RowKit

theorem or_i64_nat (a b : Nat) (ha : a < 9223372036854775808) (hb : b < 9223372036854775808) :
    bits .or .i64 (a : Int) (b : Int) = ((a ||| b : Nat) : Int) := by
  have hx : a ||| b < 2 ^ 63 := Nat.or_lt_two_pow (by omega) (by omega)
  have h1 : (BitVec.ofInt 64 (a : Int)).toNat = a := by
    rw [BitVec.toNat_ofInt]
    omega
  have h2 : (BitVec.ofInt 64 (b : Int)).toNat = b := by
    rw [BitVec.toNat_ofInt]
    omega
  show IntKind.i64.wrap ((BitVec.ofInt 64 (a : Int) ||| BitVec.ofInt 64 (b : Int)).toNat : Int) = _
  rw [BitVec.toNat_or, h1, h2, IntKind.wrap_i64]
  generalize a ||| b = c at hx ⊢
  omega
theorem pow_seven (k : Nat) : 2 ^ (k * 7) = 128 ^ k := by
  rw [Nat.mul_comm, Nat.pow_mul]
theorem digit_or (V d k : Nat) (hV : V < 128 ^ k) (hk : k < 8) :
    bits .or .i64 (V : Int) (wrap64 ((d : Int) % 128 * 2 ^ (k * 7))) = ((V + 128 ^ k * (d % 128) : Nat) : Int) := by
  have hp : 128 ^ k ≤ 128 ^ 7 := Nat.pow_le_pow_right (by omega) (by omega)
  have hp7 : 128 ^ 7 = 562949953421312 := by decide
  have hm : d % 128 ≤ 127 := by omega
  have hmul : 128 ^ k * (d % 128) ≤ 562949953421312 * 127 := Nat.mul_le_mul (by omega) hm
  have e : ((d : Int) % 128 * 2 ^ (k * 7)) = ((128 ^ k * (d % 128) : Nat) : Int) := by
    rw [← pow_seven]
    push_cast
    exact Int.mul_comm _ _
  rw [e, IntWalk.wrap64_in _ (by omega), or_i64_nat _ _ (by omega) (by omega)]
  have h := Nat.two_pow_add_eq_or_of_lt (i := k * 7) (b := V) (by rw [pow_seven]; exact hV) (d % 128)
  rw [pow_seven] at h
  rw [Nat.or_comm, ← h, Nat.add_comm]
end Go.Proofs.Ythcmijppemochaa
