/-
  The contracts of number and put. Their conditions: the bytes lie in memory.
-/
import Derived.Test.YtppdckncnfffcaaJm
import Derived.Test.YtppdckncnfffcaaW13
namespace Go.Proofs.Ytppdckncnfffcaa
open Go.RowKit
set_option maxRecDepth 100000

theorem or_i64_nat (a b : Nat) (ha : a < 9223372036854775808) (hb : b < 9223372036854775808) :
    bits .or .i64 (a : Int) (b : Int) = ((a ||| b : Nat) : Int) := by
  have hx : a ||| b < 2 ^ 63 := Nat.or_lt_two_pow (by omega) (by omega)
  have h1 : (BitVec.ofInt 64 (a : Int)).toNat = a := by
    rw [BitVec.toNat_ofInt]
    omega
  have h2 : (BitVec.ofInt 64 (b : Int)).toNat = b := by
    rw [BitVec.toNat_ofInt]
    omega
  show IntKind.i64.wrap ((BitVec.ofInt 64 (a : Int) ||| BitVec.ofInt 64 (b : Int)).toNat : Int) = _
  rw [BitVec.toNat_or, h1, h2, IntKind.wrap_i64]
  generalize a ||| b = c at hx ⊢
  omega
theorem or_low (a c : Nat) (hc : c < 256) : a * 256 ||| c = a * 256 + c := by
  have h := Nat.two_pow_add_eq_or_of_lt (i := 8) (b := c) (by simpa using hc) a
  rw [show (2 : Nat) ^ 8 = 256 from rfl, Nat.mul_comm 256 a] at h
  exact h.symm
theorem or_go (a c : Nat) (ha : a < 4294967296) (hc : c < 256) : bits .or .i64 ((a : Int) * 256) (c : Int) = ((a * 256 + c : Nat) : Int) := by
  have h := or_i64_nat (a * 256) c (by omega) (by omega)
  rw [or_low a c hc] at h
  rw [← h]
  rfl
theorem num_take_succ {l : List UInt8} {k : Nat} (h : k < l.length) : num (l.take (k + 1)) = num (l.take k) * 256 + l[k].toNat := by
  rw [List.take_succ_eq_append_getElem h, num_snoc]
theorem num_take_lt {l : List UInt8} (k : Nat) (hl : l.length ≤ 4) : num (l.take k) < 4294967296 := by
  have h := num_lt (l.take k)
  have h2 : (l.take k).length ≤ 4 := by rw [List.length_take]; omega
  have h3 : 256 ^ (l.take k).length ≤ 256 ^ 4 := Nat.pow_le_pow_right (by decide) h2
  omega
set_option maxHeartbeats 1000000 in
theorem number_any (A : Option Addr) (n c : Nat) (l : List UInt8) (w : World) (h : Sl eBy w A l) (hn : l.length = n) (h4 : n ≤ 4) :
    Calls Try.prog 44 #[.slice A n c] w fun r w' => r = .returned (.int .i64 (num l : Int)) ∧ w = w' := by
  have HS := Lib.hid h
  have HN := Lib.hid hn
  have hn1 : (n : Int) ≤ 4 := by omega
  clear h hn
  go_enter Try.func44, Try.ntmps44
  go_wp2
  go_loopw [3, 8] (fun s3 s8 wr => ∃ k : Nat, k ≤ n ∧ s8 = .int .i64 (k : Int) ∧ s3 = .int .i64 (num (l.take k) : Int) ∧ w = wr) (fun _ s _ => n - (intOf s).toNat)
  case atStart => exact ⟨0, Nat.zero_le _, rfl, rfl, rfl⟩
  case round =>
    obtain ⟨k, hk, rfl, rfl, rfl⟩ := hrel
    by_cases hlt : k < n
    · have hkl : k < l.length := by rw [HN.out]; exact hlt
      obtain ⟨b, off, rfl, _, dC⟩ := at_by HS.out hkl
      have hlti : (k : Int) < (n : Int) := by omega
      have hk0 : (0 : Int) ≤ (k : Int) := by omega
      have e1 := num_take_succ hkl
      have e2 := num_take_lt (l := l) k (by rw [HN.out]; omega)
      obtain ⟨y, hy⟩ : ∃ y, y = l[k].toNat := ⟨_, rfl⟩
      have hyl : y < 256 := by rw [hy]; exact UInt8.toNat_lt _
      rw [← hy] at dC e1
      have HY := Lib.hid hyl
      have hyi : (y : Int) ≤ 255 := by omega
      have HK : Hid (k + 1 ≤ n) := hlt
      clear hy hyl
      generalize num (l.take k) = N at *
      have HE := Lib.hid e1
      clear e1 hlt hk hkl
      go_wp2
      go_roundw
      case rel =>
        refine ⟨k + 1, HK.out, by go_num, ?_, trivial⟩
        rw [or_go N y e2 HY.out, HE.out]
      case measure => simp [intOf]; have := HK.out; omega
    · have hlti : ¬ (k : Int) < (n : Int) := by omega
      have e1 : l.take k = l := List.take_of_length_le (by rw [HN.out]; omega)
      rw [e1]
      clear hk hlt
      go_wp2
      go_ret
      exact ⟨rfl, rfl⟩

/-- Block q has the bytes X. -/
def By (w : World) (q : Nat) (t : TypeId) (X : List UInt8) : Prop := w.heap[q]? = some (.cells (bv X).toArray t (0, 0))
theorem By.lt {w : World} {q : Nat} {t : TypeId} {X : List UInt8} (h : By w q t X) : q < w.heap.size := lt_of_heap h
theorem By.set {w : World} {q : Nat} {t : TypeId} {X : List UInt8} (h : By w q t X) (k : Nat) (x : UInt8) : By (w.setCell ⟨q, k, none⟩ (.int .u8 (x.toNat : Int))) q t (X.set k x) := by
  unfold By at h ⊢
  simp [World.setCell, Array.getElem?_modify, h, bv, List.map_set]
theorem By.cell {w : World} {q : Nat} {t : TypeId} {X : List UInt8} (h : By w q t X) {k : Nat} (hk : k < X.length) : w.cell? ⟨q, k, none⟩ = some (.int .u8 (X[k].toNat : Int)) := by
  rw [cell_of h]
  simp [bv, hk]
theorem By.frozen {w : World} {q : Nat} {t : TypeId} {X : List UInt8} (h : By w q t X) (o : Nat) : w.frozen? ⟨q, o, none⟩ = false := by simp [World.frozen?, show w.heap[q]? = _ from h]
theorem By.sl {w : World} {q : Nat} {t : TypeId} {X : List UInt8} (h : By w q t X) (hm : X.length ≤ maxLen) (o m : Nat) : Sl eBy w (some ⟨q, o, none⟩) ((X.drop o).take m) := by
  refine ⟨by simp; omega, fun _ => ⟨q, o, rfl, h.lt, fun k x hk i u hu => ?_⟩⟩
  have hi : i = 0 := by
    have := (List.getElem?_eq_some_iff.mp hu).1
    have e : (eBy.f x).length = 1 := rfl
    omega
  subst hi
  have hu : Value.int .u8 (x.toNat : Int) = u := by simpa [eBy] using hu
  have hk2 : X[o + k]? = some x := by
    rw [List.getElem?_take] at hk
    split at hk
    · rwa [List.getElem?_drop] at hk
    · cases hk
  rw [cell_of h, show eBy.wd = 1 from rfl, ← hu]
  simp [bv, hk2]
/-- Y, laid over X from the place o on. -/
def ovr (X : List UInt8) (o : Nat) (Y : List UInt8) : List UInt8 := X.take o ++ Y ++ X.drop (o + Y.length)
theorem ovr_nil (X : List UInt8) (o : Nat) : ovr X o [] = X := by simp [ovr]
theorem ovr_length {X : List UInt8} {o : Nat} {Y : List UInt8} (h : o + Y.length ≤ X.length) : (ovr X o Y).length = X.length := by
  simp [ovr]
  omega
theorem ovr_set {X : List UInt8} {o : Nat} {Y : List UInt8} (b : UInt8) (h : o < X.length) : (ovr X (o + 1) Y).set o b = ovr X o (b :: Y) := by
  unfold ovr
  rw [List.append_assoc, List.set_append_left _ _ (by simp; omega), List.take_succ_eq_append_getElem h, List.set_append_right _ _ (by simp; omega)]
  have e : o - (X.take o).length = 0 := by simp; omega
  rw [e]
  simp
  omega
theorem dig_drop (m n i : Nat) (h : i < m) : (dig m n).drop (m - 1 - i) = UInt8.ofNat (n / 256 ^ i % 256) :: (dig m n).drop (m - i) := by
  have h1 := dig_at m n i h
  have h2 : m - 1 - i < (dig m n).length := by rw [dig_length]; omega
  rw [List.getElem?_eq_getElem h2] at h1
  injection h1 with h1
  rw [List.drop_eq_getElem_cons h2, h1, show m - 1 - i + 1 = m - i by omega]
set_option maxHeartbeats 1000000 in
theorem put_any (q o m c t n : Nat) (X : List UInt8) (w : World) (base : Nat) (h : By w q t X) (ho : o + m ≤ X.length) (h4 : m ≤ 4) (hb : base ≤ q) :
    Calls Try.prog 54 #[.slice (some ⟨q, o, none⟩) m c, .int .i64 (n : Int)] w fun r w' => (∃ v, r = .returned v) ∧ By w' q t (ovr X o (dig m n)) ∧ Fr [] [q] base w w' := by
  have H := Lib.hid h
  have HO := Lib.hid ho
  have hm1 : (m : Int) ≤ 4 := by omega
  have HB := Lib.hid hb
  clear h ho hb
  go_enter Try.func54, Try.ntmps54
  go_wp2
  go_loopw [7] (fun s7 wr => ∃ k : Nat, k ≤ m ∧ s7 = .int .i64 (k : Int) ∧ By wr q t (ovr X (o + (m - k)) ((dig m n).drop (m - k))) ∧ Fr [] [q] base w wr) (fun s _ => m - (intOf s).toNat)
  case atStart =>
    refine ⟨0, Nat.zero_le _, rfl, ?_, Fr.refl _ _ _ _⟩
    rw [List.drop_of_length_le (by rw [dig_length]; omega), ovr_nil]
    exact H.out
  case round =>
    obtain ⟨k, hk, rfl, hy, hf⟩ := hrel
    by_cases hlt : k < m
    · have hlti : (k : Int) < (m : Int) := by omega
      have hk0 : (0 : Int) ≤ (k : Int) := by omega
      obtain ⟨p, hp⟩ : ∃ p, p = o + (m - 1 - k) := ⟨_, rfl⟩
      have hpX : p < X.length := by have := HO.out; omega
      have hpo : p < (ovr X (o + (m - k)) ((dig m n).drop (m - k))).length := by
        rw [ovr_length (by rw [List.length_drop, dig_length]; have := HO.out; omega)]
        exact hpX
      have dC := hy.cell hpo
      have fz := hy.frozen p
      have e1 : (ovr X (o + (m - k)) ((dig m n).drop (m - k))).set p (UInt8.ofNat (n / 256 ^ k % 256)) = ovr X (o + (m - (k + 1))) ((dig m n).drop (m - (k + 1))) := by
        rw [show o + (m - k) = p + 1 by omega, ovr_set _ hpX, show m - (k + 1) = m - 1 - k by omega, dig_drop m n k hlt, ← hp]
      have hb2 : ((n : Int) / 2 ^ (8 * k) % 256) = ((UInt8.ofNat (n / 256 ^ k % 256)).toNat : Int) := by
        have : (UInt8.ofNat (n / 256 ^ k % 256)).toNat = n / 256 ^ k % 256 := by simp
        rw [this, show (256 : Nat) = 2 ^ 8 from rfl, ← Nat.pow_mul]
        push_cast
        rfl
      have HE : Hid (By (wr.setCell ⟨q, p, none⟩ (.int .u8 ((n : Int) / 2 ^ (8 * k) % 256))) q t (ovr X (o + (m - (k + 1))) ((dig m n).drop (m - (k + 1)))) ∧ Fr [] [q] base w (wr.setCell ⟨q, p, none⟩ (.int .u8 ((n : Int) / 2 ^ (8 * k) % 256)))) := by
        refine ⟨?_, hf.set hy (.inr (by simp)) HB.out _⟩
        rw [hb2, ← e1]
        exact hy.set _ _
      have HK : Hid (k + 1 ≤ m) := hlt
      generalize (ovr X (o + (m - k)) ((dig m n).drop (m - k)))[p].toNat = v0 at dC
      clear hy hf hpX e1 hb2 hlt hk hpo
      subst hp
      go_wp2
      go_roundw
      case rel => exact ⟨k + 1, HK.out, by go_num, HE.out⟩
      case measure => simp [intOf]; have := HK.out; omega
    · have hlti : ¬ (k : Int) < (m : Int) := by omega
      have hkm : k = m := by omega
      have HE : Hid (By wr q t (ovr X o (dig m n)) ∧ Fr [] [q] base w wr) := by
        refine ⟨?_, hf⟩
        rw [hkm] at hy
        simpa using hy
      clear hy hf hk hlt hkm
      go_wp2
      go_end0
      exact ⟨⟨_, rfl⟩, HE.out⟩
end Go.Proofs.Ytppdckncnfffcaa
