/-
  Items as they are written; the contract of written. Its conditions: the items are few.
-/
import Derived.Test.YthcmijppemochaaW11
namespace Go.Proofs.Ythcmijppemochaa
open Go.RowKit

/-- An item's bytes, if it can be written. -/
def itemEnc (x : It) : Option (List Nat) :=
  if x.K = 1 then some [flagByte (x.N != 0)] else if x.K = 2 then some (Pk.digits x.S.size ++ bytesOf x.S) else if 0 ≤ x.N ∧ x.N ≤ 9007199254740992 then some (Pk.digits x.N.toNat) else none
def wstep (s : Option (List Nat)) (x : It) : Option (List Nat) := match itemEnc x with | none => none | some e => Pk.wput s e
def wfold (l : List It) : Option (List Nat) := l.foldl wstep (some [])
theorem wfold_snoc (l : List It) (x : It) : wfold (l ++ [x]) = wstep (wfold l) x := by simp [wfold]
theorem wfold_step {l : List It} {k : Nat} (hk : k < l.length) : wfold (l.take (k + 1)) = wstep (wfold (l.take k)) l[k] := by
  rw [List.take_succ_eq_append_getElem hk, wfold_snoc]
theorem wstep_none (x : It) : wstep none x = none := by
  unfold wstep
  cases itemEnc x <;> rfl
theorem wfold_none (l : List It) : l.foldl wstep none = none := by
  induction l with
  | nil => rfl
  | cons x l ih => rw [List.foldl_cons, wstep_none]; exact ih
theorem wfold_none_of {l : List It} {k : Nat} (h : wfold (l.take k) = none) : wfold l = none := by
  rw [← List.take_append_drop k l]
  unfold wfold at h ⊢
  rw [List.foldl_append, h, wfold_none]
theorem itemEnc_flag {x : It} (h : x.K = 1) : itemEnc x = some [flagByte (x.N != 0)] := by unfold itemEnc; rw [if_pos h]
theorem itemEnc_text {x : It} (h : x.K = 2) : itemEnc x = some (Pk.digits x.S.size ++ bytesOf x.S) := by unfold itemEnc; rw [if_neg (by omega), if_pos h]
theorem itemEnc_num {x : It} (h1 : ¬ x.K = 1) (h2 : ¬ x.K = 2) : itemEnc x = if 0 ≤ x.N ∧ x.N ≤ 9007199254740992 then some (Pk.digits x.N.toNat) else none := by unfold itemEnc; rw [if_neg h1, if_neg h2]
theorem wstep_num {x : It} (s : Option (List Nat)) (h1 : ¬ x.K = 1) (h2 : ¬ x.K = 2) : wstep s x = Pk.wnum s x.N := by
  unfold wstep
  rw [itemEnc_num h1 h2]
  unfold Pk.wnum
  by_cases h : 0 ≤ x.N ∧ x.N ≤ 9007199254740992
  · rw [if_pos h, if_pos h]; rfl
  · rw [if_neg h, if_neg h]
theorem flagByte_lt (b : Bool) : flagByte b < 256 := by cases b <;> decide
theorem itemEnc_length {x : It} {e : List Nat} (hs : x.S.size ≤ 100000) (h : itemEnc x = some e) : e.length ≤ 9 * (1 + min x.S.size 100000) := by
  unfold itemEnc at h
  by_cases h1 : x.K = 1
  · rw [if_pos h1] at h
    injection h with h
    rw [← h]
    simp
    omega
  · rw [if_neg h1] at h
    by_cases h2 : x.K = 2
    · rw [if_pos h2] at h
      injection h with h
      have := Pk.digits_length_most (n := x.S.size) (by unfold Pk.most; omega)
      rw [← h, List.length_append, bytesOf_length]
      omega
    · rw [if_neg h2] at h
      by_cases h3 : 0 ≤ x.N ∧ x.N ≤ 9007199254740992
      · rw [if_pos h3] at h
        injection h with h
        have := Pk.digits_length_most (n := x.N.toNat) (by unfold Pk.most; omega)
        rw [← h]
        omega
      · rw [if_neg h3] at h
        cases h
theorem room_wstep (s : Option (List Nat)) (x : It) (hs : x.S.size ≤ 100000) : room (wstep s x) ≤ room s + 9 * (1 + min x.S.size 100000) := by
  unfold wstep
  cases h : itemEnc x with
  | none => simp [room]
  | some e =>
    have h1 := itemEnc_length hs h
    have h2 := room_wput s e
    show room (Pk.wput s e) ≤ _
    omega
theorem size_of_weight {l : List It} (h : weight l ≤ 100000) : ∀ x ∈ l, x.S.size ≤ 100000 := by
  intro x hx
  have : 1 + min x.S.size 100000 ≤ weight l := by
    clear h
    induction l with
    | nil => simp at hx
    | cons y l ih =>
      unfold weight at ih ⊢
      rw [List.map_cons, List.sum_cons]
      rcases List.mem_cons.mp hx with rfl | hx
      · omega
      · have := ih hx
        omega
  omega
theorem room_wfold (l : List It) (h : ∀ x ∈ l, x.S.size ≤ 100000) : ∀ k, k ≤ l.length → room (wfold (l.take k)) ≤ 9 * weight (l.take k) := by
  intro k
  induction k with
  | zero => intro _; simp [wfold, room]
  | succ k ih =>
    intro hk
    have h1 := ih (by omega)
    have h2 := room_wstep (wfold (l.take k)) l[k] (h _ (List.getElem_mem (by omega)))
    rw [wfold_step (by omega), weight_step (by omega)]
    omega
theorem length_le_weight (l : List It) : l.length ≤ weight l := by
  induction l with
  | nil => simp
  | cons x l ih =>
    unfold weight at ih ⊢
    rw [List.map_cons, List.sum_cons, List.length_cons]
    omega

def WrRel (l : List It) (w0 : World) (g : Nat) (i : Value) (wr : World) : Prop :=
  ∃ (k r1 : Nat), i = .int .i64 (k : Int) ∧ k ≤ l.length ∧ WS wr g r1 (wfold (l.take k)) ∧ WStep w0 wr g g r1
/-- What written leaves. -/
def WrPost (w : World) (s : Option (List Nat)) (e : Ending) (w' : World) : Prop :=
  match s with
  | none => e = .returned (.tuple #[.slice none 0 0, .int .i64 1]) ∧ Below w.heap.size w w'
  | some L => ∃ v, e = .returned (.tuple #[v, .int .i64 0]) ∧ Got w w' L v
theorem Got.older {w w1 w2 : World} {L : List Nat} {v : Value} (h : Got w1 w2 L v) (hb : Below w.heap.size w w1) : Got w w2 L v := by
  obtain ⟨A, c, h1, h2, h3, h4, h5, h6, h7⟩ := h
  exact ⟨A, c, h1, h2, h3, h4, h5, fun a ha => ⟨Nat.le_trans hb.size (h6 a ha).1, (h6 a ha).2⟩, hb.trans (h7.mono hb.size)⟩
set_option maxHeartbeats 1000000 in
theorem written_any (l : List It) (A : Option Addr) (cap : Nat) (w : World) (h : Items w A l) (hw : weight l ≤ 100000) :
    Calls Try.prog 11 #[.slice A l.length cap] w (WrPost w (wfold l)) := by
  have HSZ := Lib.hid (size_of_weight hw)
  have HRM := Lib.hid (room_wfold l HSZ.out)
  have HWT := Lib.hid hw
  have hll := length_le_weight l
  have hlen : l.length ≤ 100000 := by omega
  have H := Lib.hid h
  have hb0 : Below w.heap.size w (w.alloc (Obj.cells #[Value.slice none 0 0, Value.bool false] 57)) := (Below.refl _ _).alloc (Nat.le_refl _) _
  have HB0 := Lib.hid hb0
  have HN := Lib.hid (ws_new w 57)
  clear h hw hll hb0
  go_enter Try.func11, Try.ntmps11
  go_wp2
  go_loopw [10] (WrRel l (w.alloc (Obj.cells #[Value.slice none 0 0, Value.bool false] 57)) w.heap.size) (fun i _ => l.length - (intOf i).toNat)
  case atStart => exact ⟨0, w.heap.size, rfl, Nat.zero_le _, HN.out, WStep.refl _ _ _⟩
  case round =>
    obtain ⟨k, r1, rfl, hk, hws, hst⟩ := hrel
    have HW := Lib.hid hws
    have HS := Lib.hid hst
    have HB := Lib.hid (hst.below_new HB0.out (Nat.le_refl _) (Nat.le_refl _) (Nat.le_refl _))
    clear hws hst
    have HM : Hid (room (wfold (l.take k)) ≤ 900000) := by
      have h1 := HRM.out k hk
      have h2 := weight_take_le l k
      have h3 := HWT.out
      show _ ≤ _
      omega
    have hlI : (l.length : Int) ≤ 100000 := by omega
    have HL := Lib.hid hlen
    clear hlen
    by_cases hlt : k < l.length
    · obtain ⟨b, off, rfl, ⟨c0, c1, c2⟩, hok⟩ := (H.out.below HB.out).at_ hlt
      have HE := Lib.hid (wfold_step hlt)
      have HZ := Lib.hid (HSZ.out _ (List.getElem_mem hlt))
      clear hok
      obtain ⟨x, hx⟩ : ∃ x, l[k] = x := ⟨_, rfl⟩
      rw [hx] at c0 c1 c2 HE HZ
      clear hx
      by_cases h1 : x.K = 1
      · have K1 := flag_any w.heap.size r1 _ (x.N != 0) wr HW.out (by have := HM.out; omega)
        rw [h1] at c0
        have HE2 : Hid (wfold (l.take (k + 1)) = Pk.wput (wfold (l.take k)) [flagByte (x.N != 0)]) := by rw [HE.out]; unfold wstep; rw [itemEnc_flag h1]; exact rfl
        have K1H := Lib.hid K1
        clear K1 h1
        go_wp2_with fail
        refine K1H.out.mono ?_
        rintro e w2 ⟨rfl, r2, hw2, hs2⟩
        have HW2 := Lib.hid hw2
        have HS2 := Lib.hid hs2
        clear hw2 hs2
        go_wp2
        go_roundw
        case rel => exact ⟨k + 1, r2, by go_num, by omega, by rw [HE2.out]; exact HW2.out, HS.out.trans HS2.out⟩
        case measure => simp [intOf]; omega
      · by_cases h2 : x.K = 2
        · have K1 := text_any w.heap.size r1 _ x.S wr HW.out (by have := HZ.out; omega) (by have := HM.out; omega)
          rw [h2] at c0
          have HE2 : Hid (wfold (l.take (k + 1)) = Pk.wput (wfold (l.take k)) (Pk.digits x.S.size ++ bytesOf x.S)) := by rw [HE.out]; unfold wstep; rw [itemEnc_text h2]; exact rfl
          have K1H := Lib.hid K1
          clear K1 h1 h2
          go_wp2_with fail
          refine K1H.out.mono ?_
          rintro e w2 ⟨rfl, r2, hw2, hs2⟩
          have HW2 := Lib.hid hw2
          have HS2 := Lib.hid hs2
          clear hw2 hs2
          go_wp2
          go_roundw
          case rel => exact ⟨k + 1, r2, by go_num, by omega, by rw [HE2.out]; exact HW2.out, HS.out.trans HS2.out⟩
          case measure => simp [intOf]; omega
        · have K1H := Lib.hid (num_any w.heap.size r1 _ x.N wr HW.out (by have := HM.out; omega))
          have HE2 : Hid (wfold (l.take (k + 1)) = Pk.wnum (wfold (l.take k)) x.N) := by rw [HE.out, wstep_num _ h1 h2]; exact rfl
          have b1 : (x.K == 1) = false := by simpa using h1
          have b2 : (x.K == 2) = false := by simpa using h2
          clear h1 h2
          go_wp2_with fail
          refine K1H.out.mono ?_
          rintro e w2 ⟨rfl, r2, hw2, hs2⟩
          have HW2 := Lib.hid hw2
          have HS2 := Lib.hid hs2
          clear hw2 hs2
          go_wp2
          go_roundw
          case rel => exact ⟨k + 1, r2, by go_num, by omega, by rw [HE2.out]; exact HW2.out, HS.out.trans HS2.out⟩
          case measure => simp [intOf]; omega
    · have hkl : l.take k = l := List.take_of_length_le (by omega)
      have K1 := bytes_any w.heap.size r1 _ wr HW.out (by have := HM.out; omega)
      rw [hkl] at K1
      have K1H := Lib.hid K1
      have HF : Hid (∀ e w2, BPost wr (wfold l) e w2 → ∃ v n, e = .returned (.tuple #[v, .int .i64 n]) ∧ WrPost w (wfold l) e w2) := by
        intro e w2 hp
        cases hs : wfold l with
        | none =>
          rw [hs] at hp
          obtain ⟨rfl, rfl⟩ := hp
          exact ⟨_, _, rfl, rfl, HB.out⟩
        | some L =>
          rw [hs] at hp
          obtain ⟨v, rfl, hg⟩ := hp
          exact ⟨_, _, rfl, v, rfl, hg.older HB.out⟩
      clear K1 hkl
      go_wp2_with fail
      refine K1H.out.mono ?_
      intro e w2 hp
      obtain ⟨v, n, rfl, hpp⟩ := HF.out e w2 hp
      have HPP := Lib.hid hpp
      clear hp hpp
      go_wp2
      go_ret2
      exact HPP.out
end Go.Proofs.Ythcmijppemochaa
