/-
  The contracts of putNumber, Writer's Num, Flag, Text, Bytes. Their conditions: the writer is the call's own, and what it has fits memory.
-/
import Derived.Test.YthcmijppemochaaW2
namespace Go.Proofs.Ythcmijppemochaa
open Go.RowKit

theorem one_bytes (w : World) (c : Nat) (h : c < 256) : Bytes (w.alloc (.cells #[.int .u8 (c : Int)] 5)) (some ⟨w.heap.size, 0, none⟩) [c] := by
  refine ⟨by simpa using h, by simp [maxLen], fun _ => ⟨w.heap.size, 0, rfl, by simp, fun k x hk => ?_⟩⟩
  match k with
  | 0 =>
    simp at hk
    subst hk
    rw [World.cell?_alloc_at _ _ _ _ rfl]
    rfl
  | k + 1 => simp at hk
/-- One byte put behind: the contract, at the world with its new cell. -/
theorem put_one (g r : Nat) (s : Option (List Nat)) (c : Nat) (x : Int) (w : World) (h : WS w g r s) (hx : x = (c : Int)) (hc : c < 256) (hm : room s + 1 ≤ 140737488355328) :
    Calls Try.prog 32 #[.pointer (some ⟨g, 0, none⟩), .slice (some ⟨w.heap.size, 0, none⟩) 1 1] (w.alloc (.cells #[.int .u8 x] 5)) (WPost w g r (Pk.wput s [c])) := by
  subst hx
  have hb : Below w.heap.size w (w.alloc (.cells #[.int .u8 (c : Int)] 5)) := (Below.refl _ _).alloc (Nat.le_refl _) _
  refine (put_any g r s [c] _ 1 _ (h.below hb) (one_bytes w c hc) (fun h => by cases h) hm).mono fun e w' ⟨he, r', h1, h2⟩ => ⟨he, r', h1, h2.below hb⟩
theorem wput_wput (s : Option (List Nat)) (a b : List Nat) : Pk.wput (Pk.wput s a) b = Pk.wput s (a ++ b) := by
  cases s with
  | none => rfl
  | some L => simp [Pk.wput]
theorem wput_nil (s : Option (List Nat)) : Pk.wput s [] = s := by
  cases s with
  | none => rfl
  | some L => simp [Pk.wput]
theorem room_wput (s : Option (List Nat)) (a : List Nat) : room (Pk.wput s a) ≤ room s + a.length := by
  cases s with
  | none => simp [Pk.wput, room]
  | some L => simp [Pk.wput, room]

def NumRel (w : World) (g r : Nat) (s : Option (List Nat)) (n : Int) (v : Value) (wr : World) : Prop :=
  ∃ (x : Int) (pre : List Nat) (r1 : Nat), v = .int .i64 x ∧ 0 ≤ x ∧ x ≤ n ∧ pre ++ Pk.digits x.toNat = Pk.digits n.toNat ∧ WS wr g r1 (Pk.wput s pre) ∧ WStep w wr g r r1
set_option maxHeartbeats 400000 in
theorem putNumber_any (g r : Nat) (s : Option (List Nat)) (n : Int) (w : World) (h : WS w g r s) (h0 : 0 ≤ n) (hn : n ≤ 9007199254740992) (hm : room s + 8 ≤ 140737488355328) :
    Calls Try.prog 31 #[.pointer (some ⟨g, 0, none⟩), .int .i64 n] w (WPost w g r (Pk.wput s (Pk.digits n.toNat))) := by
  have hlen := Pk.digits_length_most (n := n.toNat) (by unfold Pk.most; omega)
  have H := Lib.hid h
  have HM := Lib.hid hm
  clear h hm
  go_enter Try.func31, Try.ntmps31
  go_wp2
  go_loopw [1] (NumRel w g r s n) (fun v _ => (intOf v).toNat)
  case atStart => exact ⟨n, [], r, rfl, h0, Int.le_refl _, rfl, by rw [wput_nil]; exact H.out, WStep.refl _ _ _⟩
  case round =>
    obtain ⟨x, pre, r1, rfl, hx0, hxn, hpre, hws, hst⟩ := hrel
    have HP := Lib.hid hpre
    have HW := Lib.hid hws
    have HS := Lib.hid hst
    have hpl : pre.length + (Pk.digits x.toNat).length ≤ 8 := by rw [← List.length_append, hpre]; exact hlen
    have hi : x ≤ 9007199254740992 := by omega
    have HR := Lib.hid (room_wput s pre)
    have HMN := Lib.hid hxn
    clear hpre hws hst hxn
    by_cases hlt : x < 128
    · have hd : Pk.digits x.toNat = [x.toNat] := Pk.digits_small (by omega)
      rw [hd] at hpl HP
      have HPL := Lib.hid hpl
      clear hd hpl
      go_wp2_with fail
      refine (put_one g r1 (Pk.wput s pre) x.toNat x wr HW.out (by omega) (by omega) (by have := HR.out; have := HM.out; have := HPL.out; simp at this; omega)).mono ?_
      rintro e w2 ⟨rfl, r2, hw2, hs2⟩
      have HW2 := Lib.hid hw2
      have HS2 := Lib.hid hs2
      clear hw2 hs2
      go_wp2
      go_end0
      exact ⟨rfl, r2, by rw [← HP.out, ← wput_wput]; exact HW2.out, HS.out.trans HS2.out⟩
    · have hd : Pk.digits x.toNat = (x.toNat % 128 + 128) :: Pk.digits (x.toNat / 128) := Pk.digits_great (by omega)
      rw [hd] at hpl HP
      have HPL := Lib.hid hpl
      clear hd hpl
      go_wp2_with fail
      refine (put_one g r1 (Pk.wput s pre) (x.toNat % 128 + 128) (x % 128 + 128) wr HW.out (by omega) (by omega) (by have := HR.out; have := HM.out; have := HPL.out; simp at this; omega)).mono ?_
      rintro e w2 ⟨rfl, r2, hw2, hs2⟩
      have HW2 := Lib.hid hw2
      have HS2 := Lib.hid hs2
      clear hw2 hs2
      go_wp2
      go_roundw
      case rel =>
        refine ⟨x / 128, pre ++ [x.toNat % 128 + 128], r2, rfl, by omega, by have := HMN.out; omega, ?_, by rw [← wput_wput]; exact HW2.out, HS.out.trans HS2.out⟩
        rw [← HP.out, show (x / 128).toNat = x.toNat / 128 by omega]
        simp
      case measure => simp [intOf]; omega

/-- Writer.Num. -/
theorem num_bad (g r : Nat) (s : Option (List Nat)) (n : Int) (w : World) (h : WS w g r s) (hn : n < 0 ∨ 9007199254740992 < n) :
    Calls Try.prog 13 #[.pointer (some ⟨g, 0, none⟩), .int .i64 n] w (WPost w g r none) := by
  obtain ⟨v, sp, hh⟩ : ∃ v sp, Hand w g v sp := by
    cases s with
    | none => exact ⟨_, _, h.1⟩
    | some L => obtain ⟨_, v, h2, _⟩ := h; exact ⟨_, _, h2⟩
  have hlt := h.lt
  have HL := Lib.hid hlt.1
  have HC := Lib.hid (spoil_any g v sp w hh)
  clear h hh hlt
  have hc : n < 0 ∨ (0 ≤ n ∧ 9007199254740992 < n) := by omega
  clear hn
  rcases hc with hn | ⟨h0, hn⟩
  all_goals
    go_enter Try.func13, Try.ntmps13
    go_wp2_with (go_at_call 30; refine HC.out.mono ?_; rintro e w2 ⟨rfl, hh2, ho2⟩; have H2 := Lib.hid hh2; have HO := Lib.hid ho2; clear hh2 ho2)
    go_end0
    exact ⟨rfl, r, ⟨H2.out, Nat.lt_of_lt_of_le HL.out HO.out.size⟩, HO.out.mono (fun i _ h => .inl h), .inl rfl⟩
theorem num_good (g r : Nat) (s : Option (List Nat)) (n : Int) (w : World) (h : WS w g r s) (h0 : 0 ≤ n) (hn : n ≤ 9007199254740992) (hm : room s + 8 ≤ 140737488355328) :
    Calls Try.prog 13 #[.pointer (some ⟨g, 0, none⟩), .int .i64 n] w (WPost w g r (Pk.wput s (Pk.digits n.toNat))) := by
  have HC := Lib.hid (putNumber_any g r s n w h h0 hn hm)
  clear h hm
  go_enter Try.func13, Try.ntmps13
  go_wp2_with (go_at_call 31; refine HC.out.mono ?_; rintro e w2 ⟨rfl, hp⟩; have H2 := Lib.hid hp; clear hp)
  go_end0
  exact ⟨rfl, H2.out⟩
theorem num_any (g r : Nat) (s : Option (List Nat)) (n : Int) (w : World) (h : WS w g r s) (hm : room s + 8 ≤ 140737488355328) :
    Calls Try.prog 13 #[.pointer (some ⟨g, 0, none⟩), .int .i64 n] w (WPost w g r (Pk.wnum s n)) := by
  unfold Pk.wnum
  by_cases hn : 0 ≤ n ∧ n ≤ 9007199254740992
  · rw [if_pos hn]
    exact num_good g r s n w h hn.1 hn.2 hm
  · rw [if_neg hn]
    exact num_bad g r s n w h (by omega)
theorem num_nil (n : Int) (w : World) : Calls Try.prog 13 #[.pointer none, .int .i64 n] w fun e w' => e = .returned (.tuple #[]) ∧ w = w' := by
  go_enter Try.func13, Try.ntmps13
  go_wp2
  refine bodyPost_ret (results_none rfl _ _ _) rfl ?_
  exact ⟨rfl, rfl⟩

/-- Writer.Flag. -/
def flagByte (b : Bool) : Nat := if b then 1 else 0
theorem flag_any (g r : Nat) (s : Option (List Nat)) (b : Bool) (w : World) (h : WS w g r s) (hm : room s + 8 ≤ 140737488355328) :
    Calls Try.prog 28 #[.pointer (some ⟨g, 0, none⟩), .bool b] w (WPost w g r (Pk.wput s [flagByte b])) := by
  have h1 : Calls Try.prog 13 #[.pointer (some ⟨g, 0, none⟩), .int .i64 1] w (WPost w g r (Pk.wput s [1])) := by
    have := num_good g r s 1 w h (by omega) (by omega) hm
    rwa [show (1 : Int).toNat = 1 from rfl, Pk.digits_small (by omega)] at this
  have h0 : Calls Try.prog 13 #[.pointer (some ⟨g, 0, none⟩), .int .i64 0] w (WPost w g r (Pk.wput s [0])) := by
    have := num_good g r s 0 w h (by omega) (by omega) hm
    rwa [show (0 : Int).toNat = 0 from rfl, Pk.digits_small (by omega)] at this
  have H1 := Lib.hid h1
  have H0 := Lib.hid h0
  clear h h1 h0 hm
  cases b with
  | true =>
    go_enter Try.func28, Try.ntmps28
    go_wp2_with (go_at_call 13; refine H1.out.mono ?_; rintro e w2 ⟨rfl, hp⟩; have H2 := Lib.hid hp; clear hp)
    go_end0
    exact ⟨rfl, H2.out⟩
  | false =>
    go_enter Try.func28, Try.ntmps28
    go_wp2_with (go_at_call 13; refine H0.out.mono ?_; rintro e w2 ⟨rfl, hp⟩; have H2 := Lib.hid hp; clear hp)
    go_end0
    exact ⟨rfl, H2.out⟩
end Go.Proofs.Ythcmijppemochaa
