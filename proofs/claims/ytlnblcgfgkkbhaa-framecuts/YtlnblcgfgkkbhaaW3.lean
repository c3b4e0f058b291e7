/-
  The contracts of frame's numberBytes, number and check, of the document's Four and Same. Their conditions: the slices read as bytes.
-/
import Derived.Test.YtlnblcgfgkkbhaaW2
import Derived.Lib.SlBytesConst
namespace Go.Proofs.Ytlnblcgfgkkbhaa
open Go.RowKit

theorem OwnB.of_alloc (w : World) (C : Array Value) (L : List Nat) (n : Nat) (hn : L.length = n) (hC : C.toList = vals L) (hL : ∀ c ∈ L, c < 256) (hm : L.length ≤ maxLen) :
    OwnB w (w.alloc (.cells C 5)) L (.slice (some ⟨w.heap.size, 0, none⟩) n n) := by
  subst hn
  have hs : C.size = L.length := by rw [← vals_length L, ← hC, Array.length_toList]
  refine ⟨⟨by rw [vals_length, Nat.mul_one], .inr ⟨w.heap.size, L.length, C, rfl, Nat.zero_le _, heap_new _ _, Nat.le_refl _, hm, by rw [hs, Nat.mul_one], ?_⟩⟩, hL, fun q hq => ?_, (Below.refl _ _).alloc (Nat.le_refl _) _⟩
  · rw [hC, Nat.mul_one, ← vals_length L, List.take_length]
  · simp [Value.ownBlock] at hq
    omega
def FourPost (w : World) (n : Nat) (e : Ending) (w' : World) : Prop := ∃ A c, e = .returned (.slice A 4 c) ∧ OwnB w w' (Fr.four n) (.slice A 4 c)
theorem four_post (w : World) (n : Nat) (a b c d : Int) (ha : a = ((n / 16777216 % 256 : Nat) : Int)) (hb : b = ((n / 65536 % 256 : Nat) : Int)) (hc : c = ((n / 256 % 256 : Nat) : Int)) (hd : d = ((n % 256 : Nat) : Int)) :
    FourPost w n (.returned (.slice (some ⟨w.heap.size, 0, none⟩) 4 4)) (w.alloc (.cells #[.int .u8 a, .int .u8 b, .int .u8 c, .int .u8 d] 5)) := by
  subst ha hb hc hd
  exact ⟨_, _, rfl, OwnB.of_alloc w _ (Fr.four n) 4 rfl rfl (Fr.four_lt n) (by simp [Fr.four, maxLen])⟩

theorem numberBytes_any (n : Nat) (w : World) (hn : n < 4294967296) :
    Calls Try.prog 17 #[.int .u32 (n : Int)] w (FourPost w n) := by
  go_enter Try.func17, Try.ntmps17
  go_wp2
  go_ret
  exact four_post w n _ _ _ _ (by omega) (by omega) (by omega) (by omega)
theorem four_any (n : Nat) (w : World) (hn : n < 4294967296) :
    Calls Try.prog 20 #[.int .i64 (n : Int)] w (FourPost w n) := by
  go_enter Try.func20, Try.ntmps20
  go_wp2
  go_ret
  exact four_post w n _ _ _ _ (by omega) (by omega) (by omega) (by omega)

theorem or_low (a c : Nat) (hc : c < 256) : a * 256 ||| c = a * 256 + c := by
  have h := Nat.two_pow_add_eq_or_of_lt (i := 8) (b := c) (by simpa using hc) a
  rw [show (2 : Nat) ^ 8 = 256 from rfl, Nat.mul_comm 256 a] at h
  exact h.symm
theorem or_go (a c : Nat) (ha : a < 16777216) (hc : c < 256) : bits .or .u32 ((a : Int) * 256) (c : Int) = ((a * 256 + c : Nat) : Int) := by
  have h := u32_or_nat (a * 256) c (by omega) (by omega)
  rw [or_low a c hc] at h
  rw [← h]
  rfl
theorem num_take_lt : ∀ (k : Nat) (l : List Nat), k ≤ l.length → (∀ c ∈ l, c < 256) → Fr.num (l.take k) < 256 ^ k
  | 0, l, _, _ => by simp [Fr.num]
  | k + 1, l, h, hl => by
    have ih := num_take_lt k l (by omega) hl
    rw [List.take_succ_eq_append_getElem (by omega), Fr.num_snoc, Nat.pow_succ]
    have := hl l[k] (List.getElem_mem (by omega))
    omega
set_option maxHeartbeats 400000 in
theorem number_any (l : List Nat) (A : Option Addr) (c : Nat) (w : World) (h : Bytes w A l) (h4 : l.length = 4) :
    Calls Try.prog 26 #[.slice A 4 c] w fun e w' => e = .returned (.int .u32 ((Fr.num l : Nat) : Int)) ∧ w = w' := by
  obtain ⟨hl, _, hcell⟩ := h
  have HL := Lib.hid (hcell (by omega))
  have HB := Lib.hid hl
  have H4 := Lib.hid h4
  clear hcell hl h4
  go_enter Try.func26, Try.ntmps26
  go_wp2
  go_loop [3, 8] (fun r i => ∃ k : Nat, k ≤ 4 ∧ i = .int .i64 k ∧ r = .int .u32 ((Fr.num (l.take k) : Nat) : Int)) (fun _ i => 4 - (intOf i).toNat)
  case atStart => exact ⟨0, Nat.zero_le _, rfl, rfl⟩
  case round =>
    obtain ⟨k, hk, rfl, rfl⟩ := hrel
    by_cases hlt : k < 4
    · obtain ⟨b, off, rfl, hb, hc⟩ := HL.out
      have hkl : k < l.length := by have := H4.out; omega
      have hc1 := hc k l[k] (List.getElem?_eq_getElem hkl)
      have hcb : l[k] < 256 := HB.out _ (List.getElem_mem hkl)
      have hR : Fr.num (l.take k) < 16777216 := by
        have h1 := num_take_lt k l (by omega) HB.out
        have h2 : 256 ^ k ≤ 256 ^ 3 := Nat.pow_le_pow_right (by omega) (by omega)
        have h3 : (256 : Nat) ^ 3 = 16777216 := rfl
        omega
      have HN : Hid (Fr.num (l.take (k + 1)) = Fr.num (l.take k) * 256 + l[k]) := by
        rw [List.take_succ_eq_append_getElem hkl, Fr.num_snoc]
        exact rfl
      clear hc
      generalize l[k] = x at hcb HN hc1
      generalize Fr.num (l.take k) = R at hR HN ⊢
      have e0 := or_go R x hR hcb
      go_wp2
      go_round
      case rel => exact ⟨k + 1, by omega, by go_num, by rw [HN.out, Int.natCast_add, Int.natCast_mul]; rfl⟩
      case measure => simp [intOf]; omega
    · go_wp2
      go_ret
      rw [List.take_of_length_le (by have := H4.out; omega)]
      exact ⟨rfl, rfl⟩
theorem check_any (a p : List Nat) (A P : Option Addr) (c d n m : Nat) (w : World) (ha : Bytes w A a) (hp : Bytes w P p) (hn : a.length = n) (hm : p.length = m) :
    Calls Try.prog 19 #[.slice A n c, .slice P m d] w fun e w' => e = .returned (.int .u32 ((Crc.more 0 (a ++ p) : Nat) : Int)) ∧ Below w.heap.size w w' := by
  subst hn hm
  have HO := Lib.hid (of_any a A c w ha)
  have HM : Hid (∀ w1, Below w.heap.size w w1 → Calls Try.prog 23 #[.int .u32 ((Crc.more 0 a : Nat) : Int), .slice P p.length d] w1 fun e w' => e = .returned (.int .u32 ((Crc.more 0 (a ++ p) : Nat) : Int)) ∧ Below w1.heap.size w1 w') := by
    intro w1 hb
    rw [← Crc.more_append]
    exact more_any _ p P d w1 (Crc.more_lt _ _ (by omega) ha.1) (hp.below hb)
  clear ha hp
  go_enter Try.func19, Try.ntmps19
  go_wp2_with fail
  refine HO.out.mono ?_
  rintro e w1 ⟨rfl, hb1⟩
  have B1 := Lib.hid hb1
  clear hb1
  go_wp2_with fail
  refine (HM.out w1 B1.out).mono ?_
  rintro e w2 ⟨rfl, hb2⟩
  have B2 := Lib.hid hb2
  clear hb2
  go_wp2
  go_ret
  exact ⟨rfl, B1.out.trans (B2.out.mono B1.out.size)⟩
theorem textOf_inj {a b : List Nat} (ha : ∀ c ∈ a, c < 256) (hb : ∀ c ∈ b, c < 256) (h : textOf a = textOf b) : a = b := by
  have back : ∀ l : List Nat, (∀ c ∈ l, c < 256) → (textOf l).data.toList.map UInt8.toNat = l := by
    intro l hl
    unfold textOf
    simp only [List.map_map]
    conv => rhs; rw [← List.map_id l]
    apply List.map_congr_left
    intro c hc
    have := hl c hc
    simp [Nat.mod_eq_of_lt this]
  rw [← back a ha, ← back b hb, h]
theorem text_ne {S T : ByteArray} (h : ¬ S = T) : (S.toList == T.toList) = false := by
  cases hc : (S.toList == T.toList) with
  | false => rfl
  | true =>
    have := eq_of_beq hc
    rw [ByteArray.toList_eq, ByteArray.toList_eq] at this
    exact absurd (ByteArray.ext (Array.toList_inj.mp this)) h
theorem textOf_beq (a b : List Nat) (ha : ∀ c ∈ a, c < 256) (hb : ∀ c ∈ b, c < 256) : ((textOf a).toList == (textOf b).toList) = decide (a = b) := by
  by_cases h : a = b
  · subst h; simp
  · rw [decide_eq_false h]
    exact text_ne fun e => h (textOf_inj ha hb e)
theorem same_any (a b : List Nat) (A B : Option Addr) (c d n m : Nat) (w : World) (ha : Bytes w A a) (hb : Bytes w B b) (hn : a.length = n) (hm : b.length = m) :
    Calls Try.prog 11 #[.slice A n c, .slice B m d] w fun e w' => e = .returned (.bool (decide (a = b))) ∧ w = w' := by
  subst hn hm
  have c1 := conv_text w A a c ha
  have c2 := conv_text w B b d hb
  have HT := Lib.hid (textOf_beq a b ha.1 hb.1)
  clear ha hb
  go_enter Try.func11, Try.ntmps11
  go_wp2
  go_ret
  exact ⟨by rw [← HT.out]; rfl, rfl⟩
end Go.Proofs.Ytlnblcgfgkkbhaa
