/-
  The contracts of sum.More, sum.Of and of the document's own Register, More and Of. Their conditions: the slice reads as bytes.
-/
import Derived.Test.YtlnblcgfgkkbhaaW1
namespace Go.Proofs.Ytlnblcgfgkkbhaa
open Go.RowKit

theorem turn_xor (s : Nat) (hs : s < 4294967296) : bits .xor .u32 IntKind.u32.max (s : Int) = ((Crc.turn s : Nat) : Int) := by
  have := u32_xor_nat 4294967295 s (by omega) hs
  exact this
theorem and15 (x : Nat) (hx : x < 4294967296) : bits .and .u32 (x : Int) 15 = ((x % 16 : Nat) : Int) := by
  have h := u32_and_nat x 15 hx (by omega)
  rw [show x &&& 15 = x % 16 from Nat.and_two_pow_sub_one_eq_mod x 4] at h
  exact h
def tabObj : Obj := Obj.cells #[Value.int IntKind.u32 0, Value.int IntKind.u32 498536548, Value.int IntKind.u32 997073096, Value.int IntKind.u32 651767980, Value.int IntKind.u32 1994146192, Value.int IntKind.u32 1802195444, Value.int IntKind.u32 1303535960, Value.int IntKind.u32 1342533948, Value.int IntKind.u32 3988292384, Value.int IntKind.u32 4027552580, Value.int IntKind.u32 3604390888, Value.int IntKind.u32 3412177804, Value.int IntKind.u32 2607071920, Value.int IntKind.u32 2262029012, Value.int IntKind.u32 2685067896, Value.int IntKind.u32 3183342108] 51
theorem tab_cell (w : World) (k : Nat) (hk : k < 16) : (w.alloc tabObj).cell? ⟨w.heap.size, k, none⟩ = some (.int .u32 ((Crc.tab k : Nat) : Int)) := by
  have h : (#[Value.int IntKind.u32 0, Value.int IntKind.u32 498536548, Value.int IntKind.u32 997073096, Value.int IntKind.u32 651767980, Value.int IntKind.u32 1994146192, Value.int IntKind.u32 1802195444, Value.int IntKind.u32 1303535960, Value.int IntKind.u32 1342533948, Value.int IntKind.u32 3988292384, Value.int IntKind.u32 4027552580, Value.int IntKind.u32 3604390888, Value.int IntKind.u32 3412177804, Value.int IntKind.u32 2607071920, Value.int IntKind.u32 2262029012, Value.int IntKind.u32 2685067896, Value.int IntKind.u32 3183342108] : Array Value)[k]? = some (.int .u32 ((Crc.tab k : Nat) : Int)) := by
    match k, hk with
    | 0, _ | 1, _ | 2, _ | 3, _ | 4, _ | 5, _ | 6, _ | 7, _ | 8, _ | 9, _ | 10, _ | 11, _ | 12, _ | 13, _ | 14, _ | 15, _ => rfl
    | k + 16, h => omega
  rw [← h]
  exact World.cell?_alloc_at _ _ _ _ rfl

set_option maxHeartbeats 400000 in
theorem more_any (s : Nat) (l : List Nat) (A : Option Addr) (cap : Nat) (w : World) (hs : s < 4294967296) (h : Bytes w A l) :
    Calls Try.prog 23 #[.int .u32 s, .slice A l.length cap] w fun e w' => e = .returned (.int .u32 (Crc.more s l : Nat)) ∧ Below w.heap.size w w' := by
  obtain ⟨hl, hm, hcell⟩ := h
  unfold maxLen at hm
  obtain ⟨W, hW⟩ : ∃ W, w.alloc (Obj.cells #[Value.int IntKind.u32 0, Value.int IntKind.u32 498536548, Value.int IntKind.u32 997073096, Value.int IntKind.u32 651767980, Value.int IntKind.u32 1994146192, Value.int IntKind.u32 1802195444, Value.int IntKind.u32 1303535960, Value.int IntKind.u32 1342533948, Value.int IntKind.u32 3988292384, Value.int IntKind.u32 4027552580, Value.int IntKind.u32 3604390888, Value.int IntKind.u32 3412177804, Value.int IntKind.u32 2607071920, Value.int IntKind.u32 2262029012, Value.int IntKind.u32 2685067896, Value.int IntKind.u32 3183342108] 51) = W := ⟨_, rfl⟩
  have HW : Hid (w.alloc tabObj = W) := hW
  have HL := Lib.hid hcell
  have HB := Lib.hid hl
  clear hcell hl
  go_enter Try.func23, Try.ntmps23
  clear hW
  go_wp2
  rw [show w.alloc (Obj.cells #[Value.int IntKind.u32 0, Value.int IntKind.u32 498536548, Value.int IntKind.u32 997073096, Value.int IntKind.u32 651767980, Value.int IntKind.u32 1994146192, Value.int IntKind.u32 1802195444, Value.int IntKind.u32 1303535960, Value.int IntKind.u32 1342533948, Value.int IntKind.u32 3988292384, Value.int IntKind.u32 4027552580, Value.int IntKind.u32 3604390888, Value.int IntKind.u32 3412177804, Value.int IntKind.u32 2607071920, Value.int IntKind.u32 2262029012, Value.int IntKind.u32 2685067896, Value.int IntKind.u32 3183342108] 51) = W from HW]
  go_loop [6, 14] (fun r i => ∃ k : Nat, k ≤ l.length ∧ i = .int .i64 k ∧ r = .int .u32 ((Crc.reg (Crc.turn s) (l.take k) : Nat) : Int)) (fun _ i => l.length - (intOf i).toNat)
  case atStart => exact ⟨0, Nat.zero_le _, rfl, by rw [turn_xor s hs]; rfl⟩
  case round =>
    obtain ⟨k, hk, rfl, rfl⟩ := hrel
    by_cases hlt : k < l.length
    · obtain ⟨b, off, rfl, hb, hc⟩ := HL.out (by omega)
      have hget : l[k]? = some l[k] := List.getElem?_eq_getElem hlt
      have hc1 := hc k l[k] hget
      have hcb : l[k] < 256 := HB.out _ (List.getElem_mem hlt)
      have hR : Crc.reg (Crc.turn s) (l.take k) < 4294967296 := Crc.reg_lt _ _ (Crc.turn_lt _ hs) (fun c hc => HB.out c (List.mem_of_mem_take hc))
      have HN : Hid (Crc.reg (Crc.turn s) (l.take (k + 1)) = Crc.byte (Crc.reg (Crc.turn s) (l.take k)) l[k]) := by
        rw [List.take_succ_eq_append_getElem hlt, Crc.reg_snoc]
        exact rfl
      clear hc hget
      have hcW : W.cell? ⟨b, off + k, none⟩ = some (.int .u8 (l[k] : Int)) := by rw [← HW.out, World.cell?_alloc_past _ _ _ hb]; exact hc1
      clear hc1
      generalize l[k] = c at hcb HN hcW
      generalize Crc.reg (Crc.turn s) (l.take k) = R at hR HN ⊢
      obtain ⟨X0, hX0⟩ : ∃ X, X = R ^^^ c := ⟨_, rfl⟩
      have lX0 : X0 < 4294967296 := by rw [hX0]; exact Crc.xor_lt32 _ _ hR (by omega)
      have e0 : bits .xor .u32 (R : Int) (c : Int) = (X0 : Int) := by rw [hX0]; exact u32_xor_nat R c hR (by omega)
      obtain ⟨M0, hM0⟩ : ∃ X, X = X0 % 16 := ⟨_, rfl⟩
      have lM0 : M0 < 16 := by omega
      have e1 : bits .and .u32 (X0 : Int) 15 = (M0 : Int) := by rw [hM0]; exact and15 X0 lX0
      obtain ⟨X1, hX1⟩ : ∃ X, X = Crc.quad X0 := ⟨_, rfl⟩
      have hT0 : W.cell? ⟨w.heap.size, M0, none⟩ = some (.int .u32 ((Crc.tab M0 : Nat) : Int)) := by rw [← HW.out]; exact tab_cell w M0 lM0
      have lX1 : X1 < 4294967296 := by rw [hX1, Crc.quad_eq]; exact Crc.biter_lt 4 _ lX0
      have e2 : bits .xor .u32 ((X0 : Int) / 16) ((Crc.tab M0 : Nat) : Int) = (X1 : Int) := by
        have := u32_xor_nat (X0 / 16) (Crc.tab M0) (by omega) (Crc.tab_lt M0)
        rw [hX1, Crc.quad, ← hM0]
        exact this
      obtain ⟨M1, hM1⟩ : ∃ X, X = X1 % 16 := ⟨_, rfl⟩
      have lM1 : M1 < 16 := by omega
      have e3 : bits .and .u32 (X1 : Int) 15 = (M1 : Int) := by rw [hM1]; exact and15 X1 lX1
      have hT1 : W.cell? ⟨w.heap.size, M1, none⟩ = some (.int .u32 ((Crc.tab M1 : Nat) : Int)) := by rw [← HW.out]; exact tab_cell w M1 lM1
      have e4 : bits .xor .u32 ((X1 : Int) / 16) ((Crc.tab M1 : Nat) : Int) = ((Crc.byte R c : Nat) : Int) := by
        have := u32_xor_nat (X1 / 16) (Crc.tab M1) (by omega) (Crc.tab_lt M1)
        rw [Crc.byte, ← hX0, ← hX1, Crc.quad, ← hM1]
        exact this
      clear hX0 hX1 hM0 hM1
      go_wp2
      go_round
      case rel => exact ⟨k + 1, by omega, by go_num, by rw [HN.out]⟩
      case measure => simp [intOf]; omega
    · go_wp2
      go_ret
      rw [List.take_of_length_le (by omega)]
      have hR : Crc.reg (Crc.turn s) l < 4294967296 := Crc.reg_lt _ _ (Crc.turn_lt _ hs) HB.out
      refine ⟨by rw [turn_xor _ hR]; rfl, ?_⟩
      rw [← HW.out]
      exact (Below.refl _ _).alloc (Nat.le_refl _) _
theorem of_any (l : List Nat) (A : Option Addr) (cap : Nat) (w : World) (h : Bytes w A l) :
    Calls Try.prog 24 #[.slice A l.length cap] w fun e w' => e = .returned (.int .u32 (Crc.more 0 l : Nat)) ∧ Below w.heap.size w w' := by
  have hm := more_any 0 l A cap w (by omega) h
  have HM := Lib.hid hm
  clear hm h
  go_enter Try.func24, Try.ntmps24
  go_wp2_with (go_at_call 23; refine HM.out.mono ?_; rintro e w' ⟨rfl, hb⟩)
  go_ret
  exact ⟨rfl, hb⟩

theorem bit_odd (R : Nat) (hR : R < 4294967296) (h : ((R : Int) % 2 == 1) = true) : bits .xor .u32 ((R : Int) / 2) 3988292384 = ((Crc.bit R : Nat) : Int) := by
  have h1 : R % 2 = 1 := by have := eq_of_beq h; omega
  have h2 := u32_xor_nat (R / 2) 3988292384 (by omega) (by omega)
  unfold Crc.bit
  rw [if_pos h1, ← h2]
  rfl
theorem bit_even (R : Nat) (h : ((R : Int) % 2 == 1) = false) : (R : Int) / 2 = ((Crc.bit R : Nat) : Int) := by
  have h1 : ¬ R % 2 = 1 := by
    intro h1
    have : (R : Int) % 2 = 1 := by omega
    rw [this] at h
    exact absurd h (by decide)
  unfold Crc.bit
  rw [if_neg h1]
  rfl
theorem turn_go (s : Nat) (hs : s < 4294967296) : 4294967295 - (s : Int) = ((Crc.turn s : Nat) : Int) := by
  rw [← Crc.turn_sub s hs]
  omega

set_option maxHeartbeats 400000 in
theorem register_any (r c : Nat) (w : World) (hr : r < 4294967296) (hc : c < 256) :
    Calls Try.prog 27 #[.int .u32 r, .int .u8 c] w fun e w' => e = .returned (.int .u32 (Crc.byte r c : Nat)) ∧ w = w' := by
  obtain ⟨X, hX⟩ : ∃ X, X = r ^^^ c := ⟨_, rfl⟩
  have lX : X < 4294967296 := by rw [hX]; exact Crc.xor_lt32 _ _ hr (by omega)
  have e0 : bits .xor .u32 (r : Int) (c : Int) = (X : Int) := by rw [hX]; exact u32_xor_nat r c hr (by omega)
  have HE : Hid (Crc.byte r c = Crc.biter 8 X) := by rw [hX]; exact Crc.byte_eq r c
  clear hX
  go_enter Try.func27, Try.ntmps27
  go_wp2
  clear e0
  go_loop [0, 5, 6] (fun r i _ => ∃ k : Nat, k ≤ 8 ∧ i = .int .i64 k ∧ r = .int .u32 ((Crc.biter k X : Nat) : Int)) (fun _ i _ => 8 - (intOf i).toNat)
  case atStart => exact ⟨0, Nat.zero_le _, rfl, rfl⟩
  case round =>
    obtain ⟨k, hk, rfl, rfl⟩ := hrel
    have lR := Crc.biter_lt k X lX
    have HN : Hid (Crc.biter (k + 1) X = Crc.bit (Crc.biter k X)) := rfl
    obtain ⟨R, hq⟩ : ∃ R, R = Crc.biter k X := ⟨_, rfl⟩
    rw [← hq] at lR HN ⊢
    have HQ := Lib.hid hq
    clear hq
    by_cases hlt : k < 8
    · go_wp2
      · have ht : ((R : Int) % 2 == 1) = true := by assumption
        go_round
        case rel => exact ⟨k + 1, by omega, by go_num, by rw [HN.out, ← bit_odd R lR ht]⟩
        case measure => simp [intOf]; omega
      · have ht : ((R : Int) % 2 == 1) = false := by assumption
        go_round
        case rel => exact ⟨k + 1, by omega, by go_num, by rw [HN.out, ← bit_even R ht]⟩
        case measure => simp [intOf]; omega
    · have HK : k = 8 := by omega
      have HR : Hid (R = Crc.byte r c) := by rw [HE.out, ← HK]; exact HQ
      clear HK
      go_wp2
      go_ret
      exact ⟨by rw [← HR.out]; rfl, rfl⟩

set_option maxHeartbeats 400000 in
theorem refmore_any (s : Nat) (l : List Nat) (A : Option Addr) (cap : Nat) (w : World) (hs : s < 4294967296) (h : Bytes w A l) :
    Calls Try.prog 25 #[.int .u32 s, .slice A l.length cap] w fun e w' => e = .returned (.int .u32 (Crc.more s l : Nat)) ∧ w = w' := by
  obtain ⟨hl, hm, hcell⟩ := h
  unfold maxLen at hm
  have HL := Lib.hid hcell
  have HB := Lib.hid hl
  clear hcell hl
  go_enter Try.func25, Try.ntmps25
  go_wp2
  go_loop [5, 6] (fun r i => ∃ k : Nat, k ≤ l.length ∧ i = .int .i64 k ∧ r = .int .u32 ((Crc.reg (Crc.turn s) (l.take k) : Nat) : Int)) (fun _ i => l.length - (intOf i).toNat)
  case atStart => exact ⟨0, Nat.zero_le _, rfl, by rw [turn_go s hs]; rfl⟩
  case round =>
    obtain ⟨k, hk, rfl, rfl⟩ := hrel
    have hR : Crc.reg (Crc.turn s) (l.take k) < 4294967296 := Crc.reg_lt _ _ (Crc.turn_lt _ hs) (fun c hc => HB.out c (List.mem_of_mem_take hc))
    by_cases hlt : k < l.length
    · obtain ⟨b, off, rfl, hb, hc⟩ := HL.out (by omega)
      have hget : l[k]? = some l[k] := List.getElem?_eq_getElem hlt
      have hc1 := hc k l[k] hget
      have hcb : l[k] < 256 := HB.out _ (List.getElem_mem hlt)
      have HN : Hid (Crc.reg (Crc.turn s) (l.take (k + 1)) = Crc.byte (Crc.reg (Crc.turn s) (l.take k)) l[k]) := by
        rw [List.take_succ_eq_append_getElem hlt, Crc.reg_snoc]
        exact rfl
      clear hc hget
      generalize l[k] = c at hcb HN hc1
      generalize Crc.reg (Crc.turn s) (l.take k) = R at hR HN ⊢
      have HC := Lib.hid (register_any R c w hR hcb)
      go_wp2_with (go_at_call 27; refine HC.out.mono ?_; rintro e w' ⟨rfl, rfl⟩)
      go_round
      case rel => exact ⟨k + 1, by omega, by go_num, by rw [HN.out]⟩
      case measure => simp [intOf]; omega
    · go_wp2
      go_ret
      rw [turn_go _ hR, List.take_of_length_le (by omega)]
      exact ⟨rfl, rfl⟩

theorem refof_any (l : List Nat) (A : Option Addr) (cap : Nat) (w : World) (h : Bytes w A l) :
    Calls Try.prog 21 #[.slice A l.length cap] w fun e w' => e = .returned (.int .u32 (Crc.more 0 l : Nat)) ∧ w = w' := by
  have HM := Lib.hid (refmore_any 0 l A cap w (by omega) h)
  clear h
  go_enter Try.func21, Try.ntmps21
  go_wp2_with (go_at_call 25; refine HM.out.mono ?_; rintro e w' ⟨rfl, rfl⟩)
  go_ret
  exact ⟨rfl, rfl⟩

end Go.Proofs.Ytlnblcgfgkkbhaa
