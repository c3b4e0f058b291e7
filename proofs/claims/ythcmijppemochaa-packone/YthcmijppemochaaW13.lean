/-
  A row that the document's functions make; the contract of the document's Digits. Its conditions: none.
-/
import Derived.Test.YthcmijppemochaaW4
import Derived.Lib.AppendStr
namespace Go.Proofs.Ythcmijppemochaa
open Go.RowKit

/-- v is a slice of bytes of the call's own, made since w0. -/
def OwnB (w0 w : World) (L : List Nat) (v : Value) : Prop :=
  w.ownsRow 0 5 1 v L.length (vals L) ∧ (∀ c ∈ L, c < 256) ∧ (∀ q, v.ownBlock = some q → w0.heap.size ≤ q) ∧ Below w0.heap.size w0 w
theorem OwnB.form {w0 w : World} {L : List Nat} {v : Value} (h : OwnB w0 w L v) : ∃ A c, v = .slice A L.length c := owns_form h.1
theorem OwnB.bel {w0 w : World} {L : List Nat} {v : Value} (h : OwnB w0 w L v) : Below w0.heap.size w0 w := h.2.2.2
theorem OwnB.got {w0 w : World} {L : List Nat} {v : Value} (h : OwnB w0 w L v) (hm : L.length ≤ maxLen) : Got w0 w L v := by
  obtain ⟨h1, h2, h3, h4⟩ := h
  obtain ⟨A, c, rfl⟩ := owns_form h1
  obtain ⟨f1, f2, f3⟩ := owns_facts h1
  refine ⟨A, c, rfl, owns_bytes h1 h2 hm, f1, f2, f3, fun a ha => ?_, h4⟩
  subst ha
  exact ⟨h3 a.block rfl, (h1.lt a.block rfl).2⟩
theorem OwnB.keep {w0 w w' : World} {L : List Nat} {v : Value} (h : OwnB w0 w L v) (hb : Below w.heap.size w w') : OwnB w0 w' L v := by
  obtain ⟨h1, h2, h3, h4⟩ := h
  refine ⟨⟨h1.1, ?_⟩, h2, h3, h4.trans (hb.mono h4.size)⟩
  rcases h1.2 with hn | ⟨k, cap, cur, hv, hbb, hkk, rest⟩
  · exact .inl hn
  · refine .inr ⟨k, cap, cur, hv, hbb, ?_, rest⟩
    rw [hb.block k (Array.getElem?_eq_some_iff.mp hkk).1]
    exact hkk
theorem OwnB.empty (w0 w : World) (h : Below w0.heap.size w0 w) : OwnB w0 (w.alloc (.cells #[] 5)) [] (.slice (some ⟨w.heap.size, 0, none⟩) 0 0) :=
  ⟨owns_empty w, by simp, fun q hq => by simp [Value.ownBlock] at hq; have := h.size; omega, h.alloc h.size _⟩
theorem OwnB.append {w0 w : World} {L : List Nat} {v : Value} (h : OwnB w0 w L v) {A : Option Addr} {l : List Nat} {c : Nat} (hb : Bytes w A l) (hA : A = none → c = 0) (hm : L.length + l.length ≤ 140737488355328) (ty : TypeId) :
    ∃ v' w', (Builtin.append_ #[25, 25] ty #[v, .slice A l.length c]).run Try.prog w = .ok v' w' ∧ OwnB w0 w' (L ++ l) v' ∧ Below w0.heap.size w0 w' := by
  obtain ⟨h1, h2, h3, h4⟩ := h
  obtain ⟨v', w', hr, ho, hg, hk⟩ := append_own h1 hb hA hm ty
  have hbel := h4.grown hg h4.size (fun k hk => h3 k hk)
  refine ⟨v', w', hr, ⟨by rw [List.length_append, vals_append]; exact ho, fun c hc => (List.mem_append.mp hc).elim (h2 c) (hb.1 c), fun q hq => ?_, hbel⟩, hbel⟩
  rcases hk q hq with hh | hh
  · exact h3 q hh
  · exact Nat.le_trans h4.size hh
theorem one_cells (w : World) (c : Nat) (h : c < 256) : Bytes (w.alloc (.cells #[.int .u8 (c : Int)] 5)) (some ⟨w.heap.size, 0, none⟩) [c] := by
  refine ⟨by simpa using h, by simp [maxLen], fun _ => ⟨w.heap.size, 0, rfl, by simp, fun k x hk => ?_⟩⟩
  match k with
  | 0 =>
    simp at hk
    subst hk
    rw [World.cell?_alloc_at _ _ _ _ rfl]
    rfl
  | k + 1 => simp at hk
theorem OwnB.append_one {w0 w : World} {L : List Nat} {v : Value} (h : OwnB w0 w L v) (c : Nat) (x : Int) (hx : x = (c : Int)) (hc : c < 256) (hm : L.length + 1 ≤ 140737488355328) (ty : TypeId) :
    ∃ v' w', (Builtin.append_ #[25, 25] ty #[v, .slice (some ⟨w.heap.size, 0, none⟩) 1 1]).run Try.prog (w.alloc (.cells #[.int .u8 x] 5)) = .ok v' w' ∧ OwnB w0 w' (L ++ [c]) v' := by
  subst hx
  obtain ⟨v', w', h1, h2, _⟩ := (h.keep ((Below.refl _ _).alloc (Nat.le_refl _) (.cells #[.int .u8 (c : Int)] 5))).append (one_bytes w c hc) (c := 1) (fun h => by cases h) hm ty
  exact ⟨v', w', h1, h2⟩
theorem strCells_vals (s : ByteArray) : Lib.strCells s = vals (bytesOf s) := by
  unfold Lib.strCells vals bytesOf
  simp
theorem OwnB.append_string {w0 w : World} {L : List Nat} {v : Value} (h : OwnB w0 w L v) (s : ByteArray) (hm : L.length + s.size ≤ 140737488355328) (ty : TypeId) :
    ∃ v' w', (Builtin.append_ #[25, 9] ty #[v, .string s]).run Try.prog w = .ok v' w' ∧ OwnB w0 w' (L ++ bytesOf s) v' := by
  obtain ⟨i, hi, hz0, hz1, hz2⟩ := info5p
  obtain ⟨h1, h2, h3, h4⟩ := h
  have hown : w.ownsRow w0.heap.size 5 1 v L.length (vals L) := by
    refine ⟨h1.1, ?_⟩
    rcases h1.2 with hn | ⟨k, cap, cur, hv, hbb, rest⟩
    · exact .inl hn
    · exact .inr ⟨k, cap, cur, hv, h3 k (by rw [hv]; rfl), rest⟩
  obtain ⟨v', w', hr, ho, hg, _⟩ := Lib.run_append_own_string (P := Try.prog) w w0.heap.size 25 9 ty 5 i Try.underlying25 Try.underlying9 hi hz0 hz1 hz2 v L.length (vals L) hown s (by unfold maxLen; omega) hm h4.size
  have hbel := h4.grown hg h4.size (fun k hk => h3 k hk)
  refine ⟨v', w', hr, ?_, fun c hc => (List.mem_append.mp hc).elim (h2 c) (bytesOf_lt s c), fun q hq => (ho.lt q hq).1, hbel⟩
  rw [List.length_append, vals_append, bytesOf_length]
  rw [strCells_vals] at ho
  refine ⟨ho.1, ?_⟩
  rcases ho.2 with hn | ⟨k, cap, cur, hv, hbb, rest⟩
  · exact .inl hn
  · exact .inr ⟨k, cap, cur, hv, Nat.zero_le _, rest⟩

/-- What the document's Digits leaves. -/
def DPost (w : World) (n : Int) (e : Ending) (w' : World) : Prop := ∃ v, e = .returned (.tuple #[v, .bool true]) ∧ Got w w' (Pk.digits n.toNat) v
def DigRel (w : World) (n : Int) (x out : Value) (wr : World) : Prop :=
  ∃ (z : Int) (pre : List Nat) (A : Option Addr) (c : Nat), x = .int .i64 z ∧ 0 ≤ z ∧ z ≤ n ∧ pre ++ Pk.digits z.toNat = Pk.digits n.toNat ∧ out = .slice A pre.length c ∧ OwnB w wr pre (.slice A pre.length c)
theorem digits_bad (n : Int) (w : World) (h : n < 0 ∨ 9007199254740992 < n) : Calls Try.prog 29 #[.int .i64 n] w fun e w' => e = .returned (.tuple #[.slice none 0 0, .bool false]) ∧ w = w' := by
  have hc : n < 0 ∨ (0 ≤ n ∧ 9007199254740992 < n) := by omega
  clear h
  rcases hc with hn | ⟨h0, hn⟩
  all_goals
    go_enter Try.func29, Try.ntmps29
    go_wp2
    go_ret2
    exact ⟨rfl, rfl⟩
set_option maxHeartbeats 400000 in
theorem digits_good (n : Int) (w : World) (h0 : 0 ≤ n) (hn : n ≤ 9007199254740992) : Calls Try.prog 29 #[.int .i64 n] w (DPost w n) := by
  have hlen := Pk.digits_length_most (n := n.toNat) (by unfold Pk.most; omega)
  have HL := Lib.hid hlen
  have HO := Lib.hid (OwnB.empty w w (Below.refl _ _))
  clear hlen
  have d0 : decide (n < 0) = false := by simp; omega
  have d1 : decide (9007199254740992 < n) = false := by simp; omega
  go_enter Try.func29, Try.ntmps29
  go_wp2
  go_loopw [0, 4] (DigRel w n) (fun v _ _ => (intOf v).toNat)
  case atStart => exact ⟨n, [], _, 0, rfl, h0, Int.le_refl _, rfl, rfl, HO.out⟩
  case round =>
    obtain ⟨z, pre, A, c, rfl, hz0, hzn, hpre, rfl, hown⟩ := hrel
    have hi : z ≤ 9007199254740992 := by omega
    have hpl : pre.length + (Pk.digits z.toNat).length ≤ 8 := by rw [← List.length_append, hpre]; exact HL.out
    have HP := Lib.hid hpre
    have HMN := Lib.hid hzn
    by_cases hlt : z < 128
    · have hd : Pk.digits z.toNat = [z.toNat] := Pk.digits_small (by omega)
      obtain ⟨v', w', hr, ho⟩ := hown.append_one z.toNat (z % 128) (by omega) (by omega) (by omega) 25
      obtain ⟨A2, c2, rfl⟩ := ho.form
      have HR := Lib.hid hr
      have HG : Hid (Got w w' (Pk.digits n.toNat) (.slice A2 (pre ++ [z.toNat]).length c2)) := by
        rw [← hpre, hd]
        exact ho.got (by rw [hd] at hpl; simp at hpl ⊢; unfold maxLen; omega)
      have hq : (z / 128 == 0) = true := by simp; omega
      clear hpre hzn hown hr ho hpl hd
      go_wp2_with (at_builtin; refine wpList_append_run rfl _ _ 25 25 rfl _ _ rfl rfl _ w' HR.out ?_)
      go_ret2
      have hg := HG.out
      rw [show (pre ++ [z.toNat]).length = pre.length + 1 by simp] at hg
      exact ⟨_, rfl, hg⟩
    · have hd : Pk.digits z.toNat = (z.toNat % 128 + 128) :: Pk.digits (z.toNat / 128) := Pk.digits_great (by omega)
      obtain ⟨v', w', hr, ho⟩ := hown.append_one (z.toNat % 128 + 128) (z % 128 + 128) (by omega) (by omega) (by omega) 25
      obtain ⟨A2, c2, rfl⟩ := ho.form
      have HR := Lib.hid hr
      have HO2 := Lib.hid ho
      have HP2 : Hid ((pre ++ [z.toNat % 128 + 128]) ++ Pk.digits (z / 128).toNat = Pk.digits n.toNat) := by
        rw [← hpre, hd, show (z / 128).toNat = z.toNat / 128 by omega]
        simp [Hid]
      have hq : (z / 128 == 0) = false := by simp; omega
      clear hpre hzn hown hr ho hpl hd
      go_wp2_with (at_builtin; refine wpList_append_run rfl _ _ 25 25 rfl _ _ rfl rfl _ w' HR.out ?_)
      go_roundw
      case rel => exact ⟨z / 128, _, A2, c2, rfl, by omega, by have := HMN.out; omega, HP2.out, by simp, HO2.out⟩
      case measure => simp [intOf]; omega
end Go.Proofs.Ythcmijppemochaa
