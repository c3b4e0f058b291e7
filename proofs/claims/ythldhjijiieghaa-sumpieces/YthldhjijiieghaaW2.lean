/-
  The contracts of sum.Of, sum.Hash, of the document's own Register, More, Of and Hash, and of the statements' example. Their conditions: the slice reads as bytes.
-/
import Derived.Test.YthldhjijiieghaaW1
import Derived.Lib.SlBytesConst
namespace Go.Proofs.Ythldhjijiieghaa
open Go.RowKit

theorem Bytes.below {w w' : World} {A : Option Addr} {l : List Nat} (h : Bytes w A l) (hb : Below w.heap.size w w') : Bytes w' A l := by
  obtain ⟨h1, h2, h3⟩ := h
  refine ⟨h1, h2, fun hl => ?_⟩
  obtain ⟨b, off, hA, hlt, hc⟩ := h3 hl
  exact ⟨b, off, hA, Nat.lt_of_lt_of_le hlt hb.size, fun k c hk => by rw [hb.cell (p := ⟨b, off + k, none⟩) hlt]; exact hc k c hk⟩

theorem of_any (l : List Nat) (A : Option Addr) (cap : Nat) (w : World) (h : Bytes w A l) :
    Calls Try.prog 9 #[.slice A l.length cap] w fun e w' => e = .returned (.int .u32 (Crc.more 0 l : Nat)) ∧ Below w.heap.size w w' := by
  have hm := more_any 0 l A cap w (by omega) h
  have HM := Lib.hid hm
  clear hm h
  go_enter Try.func9, Try.ntmps9
  go_wp2_with (go_at_call 11; refine HM.out.mono ?_; rintro e w' ⟨rfl, hb⟩)
  go_ret
  exact ⟨rfl, hb⟩

theorem wrap_u64_nat (n : Nat) : IntKind.u64.wrap (n : Int) = ((n % 18446744073709551616 : Nat) : Int) := by
  simp [IntKind.wrap, IntKind.bits, IntKind.signed]
theorem hstep_go (H c : Nat) (hH : H < 18446744073709551616) (hc : c < 256) :
    IntKind.u64.wrap (bits .xor .u64 (H : Int) (c : Int) * 1099511628211) = ((Crc.hstep H c : Nat) : Int) := by
  rw [u64_xor_nat H c hH (by omega)]
  exact wrap_u64_nat ((H ^^^ c) * 1099511628211)
theorem div_go (H : Nat) : (H : Int) / 4294967296 = ((H / 4294967296 : Nat) : Int) := by omega
theorem tdiv_go (H : Nat) (hH : H < 18446744073709551616) : IntKind.u64.wrap ((H : Int).tdiv 4294967296) = (H : Int) / 4294967296 := by
  rw [Int.tdiv_eq_ediv_of_nonneg (by omega), div_go, wrap_u64_nat, Nat.mod_eq_of_lt (by omega)]
theorem hspread_go (H : Nat) (hH : H < 18446744073709551616) :
    IntKind.u64.wrap (bits .xor .u64 (H : Int) ((H : Int) / 4294967296) * 15459136393263645077) = ((Crc.hspread H : Nat) : Int) := by
  rw [div_go, u64_xor_nat H (H / 4294967296) hH (by omega)]
  exact wrap_u64_nat ((H ^^^ H / 4294967296) * 15459136393263645077)
theorem hend_go (H : Nat) (hH : H < 18446744073709551616) :
    bits .xor .u64 (H : Int) ((H : Int) / 4294967296) = ((Crc.hend H : Nat) : Int) := by
  rw [div_go, u64_xor_nat H (H / 4294967296) hH (by omega)]
  rfl
theorem conv_u64 (c : Nat) (h : c < 256) : IntKind.u64.wrap (c : Int) = (c : Int) := by
  rw [wrap_u64_nat, Nat.mod_eq_of_lt (by omega)]

theorem snoc_hash (s : ByteArray) (k : Nat) (h : k < s.size) (f : Nat → Nat → Nat) (h0 : Nat) :
    ((s.data.toList.map UInt8.toNat).take (k + 1)).foldl f h0 = f (((s.data.toList.map UInt8.toNat).take k).foldl f h0) s[k].toNat := by
  rw [List.take_succ_eq_append_getElem (by simpa using h), List.foldl_append, List.foldl_cons, List.foldl_nil, List.getElem_map]
  rfl

set_option maxHeartbeats 400000 in
theorem hash_any (s : ByteArray) (w : World) (hs : s.size ≤ maxLen) :
    Calls Try.prog 13 #[.string s] w fun e w' => e = .returned (.int .u64 (Crc.hash (s.data.toList.map UInt8.toNat) : Nat)) ∧ w = w' := by
  unfold maxLen at hs
  go_enter Try.func13, Try.ntmps13
  go_wp2
  go_loop [3, 4] (fun h i => ∃ k : Nat, k ≤ s.size ∧ i = .int .i64 k ∧ h = .int .u64 ((((s.data.toList.map UInt8.toNat).take k).foldl Crc.hstep Crc.hstart : Nat) : Int)) (fun _ i => s.size - (intOf i).toNat)
  case atStart => exact ⟨0, Nat.zero_le _, rfl, rfl⟩
  case round =>
    obtain ⟨k, hk, rfl, rfl⟩ := hrel
    have hH := Crc.hfold_lt ((s.data.toList.map UInt8.toNat).take k) _ Crc.hstart_lt
    by_cases hlt : k < s.size
    · have hc : s[k].toNat < 256 := UInt8.toNat_lt _
      have HS := Lib.hid (snoc_hash s k hlt Crc.hstep Crc.hstart)
      have HC := Lib.hid (conv_u64 _ hc)
      have HG := Lib.hid (hstep_go _ _ hH hc)
      clear hc hH
      go_wp2
      go_round
      case rel => exact ⟨k + 1, by omega, by go_num, by rw [HS.out, ← HG.out, HC.out]⟩
      case measure => simp [intOf]; omega
    · go_wp2
      go_ret
      rw [hspread_go _ hH, hend_go _ (Crc.hspread_lt _), List.take_of_length_le (by simp; omega)]
      exact ⟨rfl, rfl⟩

set_option maxHeartbeats 400000 in
theorem refhash_any (s : ByteArray) (w : World) (hs : s.size ≤ maxLen) :
    Calls Try.prog 14 #[.string s] w fun e w' => e = .returned (.int .u64 (Crc.hash (s.data.toList.map UInt8.toNat) : Nat)) ∧ w = w' := by
  unfold maxLen at hs
  go_enter Try.func14, Try.ntmps14
  go_wp2
  go_loop [3, 4] (fun h i => ∃ k : Nat, k ≤ s.size ∧ i = .int .i64 k ∧ h = .int .u64 ((((s.data.toList.map UInt8.toNat).take k).foldl Crc.hstep Crc.hstart : Nat) : Int)) (fun _ i => s.size - (intOf i).toNat)
  case atStart => exact ⟨0, Nat.zero_le _, rfl, rfl⟩
  case round =>
    obtain ⟨k, hk, rfl, rfl⟩ := hrel
    have hH := Crc.hfold_lt ((s.data.toList.map UInt8.toNat).take k) _ Crc.hstart_lt
    by_cases hlt : k < s.size
    · have hc : s[k].toNat < 256 := UInt8.toNat_lt _
      have HS := Lib.hid (snoc_hash s k hlt Crc.hstep Crc.hstart)
      have HC := Lib.hid (conv_u64 _ hc)
      have HG := Lib.hid (hstep_go _ _ hH hc)
      clear hc hH
      go_wp2
      go_round
      case rel => exact ⟨k + 1, by omega, by go_num, by rw [HS.out, ← HG.out, HC.out]⟩
      case measure => simp [intOf]; omega
    · go_wp2
      go_ret
      rw [hspread_go _ hH, tdiv_go _ (Crc.hspread_lt _), hend_go _ (Crc.hspread_lt _), List.take_of_length_le (by simp; omega)]
      exact ⟨rfl, rfl⟩

theorem bit_odd (R : Nat) (hR : R < 4294967296) (h : ((R : Int) % 2 == 1) = true) : bits .xor .u32 ((R : Int) / 2) 3988292384 = ((Crc.bit R : Nat) : Int) := by
  have h1 : R % 2 = 1 := by have := eq_of_beq h; omega
  have h2 := u32_xor_nat (R / 2) 3988292384 (by omega) (by omega)
  unfold Crc.bit
  rw [if_pos h1, ← h2]
  rfl
theorem bit_even (R : Nat) (h : ((R : Int) % 2 == 1) = false) : (R : Int) / 2 = ((Crc.bit R : Nat) : Int) := by
  have h1 : ¬ R % 2 = 1 := by
    intro h1
    have : (R : Int) % 2 = 1 := by omega
    rw [this] at h
    exact absurd h (by decide)
  unfold Crc.bit
  rw [if_neg h1]
  rfl
theorem turn_go (s : Nat) (hs : s < 4294967296) : 4294967295 - (s : Int) = ((Crc.turn s : Nat) : Int) := by
  rw [← Crc.turn_sub s hs]
  omega

set_option maxHeartbeats 400000 in
theorem register_any (r c : Nat) (w : World) (hr : r < 4294967296) (hc : c < 256) :
    Calls Try.prog 15 #[.int .u32 r, .int .u8 c] w fun e w' => e = .returned (.int .u32 (Crc.byte r c : Nat)) ∧ w = w' := by
  obtain ⟨X, hX⟩ : ∃ X, X = r ^^^ c := ⟨_, rfl⟩
  have lX : X < 4294967296 := by rw [hX]; exact Crc.xor_lt32 _ _ hr (by omega)
  have e0 : bits .xor .u32 (r : Int) (c : Int) = (X : Int) := by rw [hX]; exact u32_xor_nat r c hr (by omega)
  have HE : Hid (Crc.byte r c = Crc.biter 8 X) := by rw [hX]; exact Crc.byte_eq r c
  clear hX
  go_enter Try.func15, Try.ntmps15
  go_wp2
  clear e0
  go_loop [0, 5, 6] (fun r i _ => ∃ k : Nat, k ≤ 8 ∧ i = .int .i64 k ∧ r = .int .u32 ((Crc.biter k X : Nat) : Int)) (fun _ i _ => 8 - (intOf i).toNat)
  case atStart => exact ⟨0, Nat.zero_le _, rfl, rfl⟩
  case round =>
    obtain ⟨k, hk, rfl, rfl⟩ := hrel
    have lR := Crc.biter_lt k X lX
    have HN : Hid (Crc.biter (k + 1) X = Crc.bit (Crc.biter k X)) := rfl
    obtain ⟨R, hq⟩ : ∃ R, R = Crc.biter k X := ⟨_, rfl⟩
    rw [← hq] at lR HN ⊢
    have HQ := Lib.hid hq
    clear hq
    by_cases hlt : k < 8
    · go_wp2
      · have ht : ((R : Int) % 2 == 1) = true := by assumption
        go_round
        case rel => exact ⟨k + 1, by omega, by go_num, by rw [HN.out, ← bit_odd R lR ht]⟩
        case measure => simp [intOf]; omega
      · have ht : ((R : Int) % 2 == 1) = false := by assumption
        go_round
        case rel => exact ⟨k + 1, by omega, by go_num, by rw [HN.out, ← bit_even R ht]⟩
        case measure => simp [intOf]; omega
    · have HK : k = 8 := by omega
      have HR : Hid (R = Crc.byte r c) := by rw [HE.out, ← HK]; exact HQ
      clear HK
      go_wp2
      go_ret
      exact ⟨by rw [← HR.out]; rfl, rfl⟩

set_option maxHeartbeats 400000 in
theorem refmore_any (s : Nat) (l : List Nat) (A : Option Addr) (cap : Nat) (w : World) (hs : s < 4294967296) (h : Bytes w A l) :
    Calls Try.prog 12 #[.int .u32 s, .slice A l.length cap] w fun e w' => e = .returned (.int .u32 (Crc.more s l : Nat)) ∧ w = w' := by
  obtain ⟨hl, hm, hcell⟩ := h
  unfold maxLen at hm
  have HL := Lib.hid hcell
  have HB := Lib.hid hl
  clear hcell hl
  go_enter Try.func12, Try.ntmps12
  go_wp2
  go_loop [5, 6] (fun r i => ∃ k : Nat, k ≤ l.length ∧ i = .int .i64 k ∧ r = .int .u32 ((Crc.reg (Crc.turn s) (l.take k) : Nat) : Int)) (fun _ i => l.length - (intOf i).toNat)
  case atStart => exact ⟨0, Nat.zero_le _, rfl, by rw [turn_go s hs]; rfl⟩
  case round =>
    obtain ⟨k, hk, rfl, rfl⟩ := hrel
    have hR : Crc.reg (Crc.turn s) (l.take k) < 4294967296 := Crc.reg_lt _ _ (Crc.turn_lt _ hs) (fun c hc => HB.out c (List.mem_of_mem_take hc))
    by_cases hlt : k < l.length
    · obtain ⟨b, off, rfl, hb, hc⟩ := HL.out (by omega)
      have hget : l[k]? = some l[k] := List.getElem?_eq_getElem hlt
      have hc1 := hc k l[k] hget
      have hcb : l[k] < 256 := HB.out _ (List.getElem_mem hlt)
      have HN : Hid (Crc.reg (Crc.turn s) (l.take (k + 1)) = Crc.byte (Crc.reg (Crc.turn s) (l.take k)) l[k]) := by
        rw [List.take_succ_eq_append_getElem hlt, Crc.reg_snoc]
        exact rfl
      clear hc hget
      generalize l[k] = c at hcb HN hc1
      generalize Crc.reg (Crc.turn s) (l.take k) = R at hR HN ⊢
      have HC := Lib.hid (register_any R c w hR hcb)
      go_wp2_with (go_at_call 15; refine HC.out.mono ?_; rintro e w' ⟨rfl, rfl⟩)
      go_round
      case rel => exact ⟨k + 1, by omega, by go_num, by rw [HN.out]⟩
      case measure => simp [intOf]; omega
    · go_wp2
      go_ret
      rw [turn_go _ hR, List.take_of_length_le (by omega)]
      exact ⟨rfl, rfl⟩

theorem refof_any (l : List Nat) (A : Option Addr) (cap : Nat) (w : World) (h : Bytes w A l) :
    Calls Try.prog 10 #[.slice A l.length cap] w fun e w' => e = .returned (.int .u32 (Crc.more 0 l : Nat)) ∧ w = w' := by
  have HM := Lib.hid (refmore_any 0 l A cap w (by omega) h)
  clear h
  go_enter Try.func10, Try.ntmps10
  go_wp2_with (go_at_call 12; refine HM.out.mono ?_; rintro e w' ⟨rfl, rfl⟩)
  go_ret
  exact ⟨rfl, rfl⟩

def nine : Array Value := #[Value.int IntKind.u8 49, Value.int IntKind.u8 50, Value.int IntKind.u8 51, Value.int IntKind.u8 52, Value.int IntKind.u8 53, Value.int IntKind.u8 54, Value.int IntKind.u8 55, Value.int IntKind.u8 56, Value.int IntKind.u8 57]
theorem nine_bytes (w : World) : Bytes (w.alloc (.cells nine 5 (9, 10))) (some ⟨w.heap.size, 0, none⟩) [49, 50, 51, 52, 53, 54, 55, 56, 57] := by
  refine ⟨by decide, by decide, fun _ => ⟨w.heap.size, 0, rfl, by simp, fun k c hk => ?_⟩⟩
  rw [Nat.zero_add, World.cell?_alloc_mark]
  match k with
  | 0 | 1 | 2 | 3 | 4 | 5 | 6 | 7 | 8 => simp at hk; subst hk; rfl
  | k + 9 => simp at hk
theorem of_nine (w : World) : Calls Try.prog 9 #[.slice (some ⟨w.heap.size, 0, none⟩) 9 9] (w.alloc (.cells nine 5 (9, 10))) fun e w' => e = .returned (.int .u32 3421780262) ∧ Below (w.alloc (.cells nine 5 (9, 10))).heap.size (w.alloc (.cells nine 5 (9, 10))) w' := by
  have h := of_any _ _ 9 _ (nine_bytes w)
  rw [Crc.awake_sum] at h
  exact h
def emptyHash : Int := (Crc.hash [] : Nat)
theorem emptyHash_ne : (emptyHash != 0) = true := by
  unfold emptyHash
  rw [Crc.hash_empty]
  decide
theorem hash_none (w : World) : Calls Try.prog 13 #[.string ⟨#[]⟩] w fun e w' => e = .returned (.int .u64 emptyHash) ∧ w = w' :=
  hash_any ⟨#[]⟩ w (by decide)

set_option maxHeartbeats 400000 in
theorem awake_any (w : World) : Calls Try.prog 8 #[] w fun e w' => e = .returned (.bool true) ∧ Below w.heap.size w w' := by
  have kc := fun (w : World) (C : Array Value) (n c : Nat) => Lib.run_convert_bytes_const (P := Try.prog) w 22 5 C n c Try.underlying22 Try.underlying5
  have HN := Lib.hid (of_nine w)
  have hz := emptyHash_ne
  unfold nine at HN
  go_enter Try.func8, Try.ntmps8
  go_wp2_with (first | (go_at_call 9; refine HN.out.mono ?_; rintro e w' ⟨rfl, hb⟩; have HB := Lib.hid hb; clear hb) | (go_at_call 13; refine (hash_none _).mono ?_; rintro e w' ⟨rfl, rfl⟩))
  go_ret
  refine ⟨rfl, ?_⟩
  exact ((Below.refl _ _).alloc (Nat.le_refl _) _).trans (HB.out.mono (by simp))
end Go.Proofs.Ythldhjijiieghaa
