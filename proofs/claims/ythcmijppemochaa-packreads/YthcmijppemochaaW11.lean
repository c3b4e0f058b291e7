/-
  A slice of items that came in; the contract of few. Its conditions: none.
-/
import Derived.Test.YthcmijppemochaaW9
namespace Go.Proofs.Ythcmijppemochaa
open Go.RowKit

/-- An item: its kind, its number, its text. -/
structure It where
  K : Int
  N : Int
  S : ByteArray
/-- An item lies in three cells. -/
def ItAt (w : World) (b o : Nat) (x : It) : Prop := w.cell? ⟨b, o, none⟩ = some (.int .i64 x.K) ∧ w.cell? ⟨b, o + 1, none⟩ = some (.int .i64 x.N) ∧ w.cell? ⟨b, o + 2, none⟩ = some (.string x.S)
def ItOk (x : It) : Prop := (Lit.int .i64 x.K).wf = true ∧ (Lit.int .i64 x.N).wf = true ∧ x.S.size ≤ maxLen
/-- A slice (its address A) that reads as the items l. -/
def Items (w : World) (A : Option Addr) (l : List It) : Prop :=
  l.length ≤ maxLen ∧ (∀ x ∈ l, ItOk x) ∧ (0 < l.length → ∃ b off, A = some ⟨b, off, none⟩ ∧ b < w.heap.size ∧ ∀ (k : Nat) (x : It), l[k]? = some x → ItAt w b (off + k * 3) x)
theorem Items.below {w w' : World} {A : Option Addr} {l : List It} (h : Items w A l) (hb : Below w.heap.size w w') : Items w' A l := by
  obtain ⟨h1, h2, h3⟩ := h
  refine ⟨h1, h2, fun hl => ?_⟩
  obtain ⟨b, off, hA, hlt, hc⟩ := h3 hl
  refine ⟨b, off, hA, Nat.lt_of_lt_of_le hlt hb.size, fun k x hk => ?_⟩
  obtain ⟨e1, e2, e3⟩ := hc k x hk
  exact ⟨by rw [hb.cell (p := ⟨b, _, none⟩) hlt]; exact e1, by rw [hb.cell (p := ⟨b, _, none⟩) hlt]; exact e2, by rw [hb.cell (p := ⟨b, _, none⟩) hlt]; exact e3⟩
theorem Items.at_ {w : World} {A : Option Addr} {l : List It} (h : Items w A l) {k : Nat} (hk : k < l.length) : ∃ b off, A = some ⟨b, off, none⟩ ∧ ItAt w b (off + k * 3) l[k] ∧ ItOk l[k] := by
  obtain ⟨b, off, hA, _, hc⟩ := h.2.2 (by omega)
  exact ⟨b, off, hA, hc k _ (List.getElem?_eq_getElem hk), h.2.1 _ (List.getElem_mem hk)⟩

/-- How much few counts. -/
def weight (l : List It) : Nat := (l.map fun x => 1 + min x.S.size 100000).sum
theorem weight_snoc (l : List It) (x : It) : weight (l ++ [x]) = weight l + (1 + min x.S.size 100000) := by simp [weight]
theorem weight_take_le (l : List It) (k : Nat) : weight (l.take k) ≤ weight l := by
  have h : weight l = weight (l.take k) + weight (l.drop k) := by
    conv => lhs; rw [← List.take_append_drop k l]
    unfold weight
    rw [List.map_append, List.sum_append]
  omega
theorem weight_step {l : List It} {k : Nat} (hk : k < l.length) : weight (l.take (k + 1)) = weight (l.take k) + (1 + min l[k].S.size 100000) := by
  rw [List.take_succ_eq_append_getElem hk, weight_snoc]
def FewRel (l : List It) (n i : Value) : Prop := ∃ k : Nat, k ≤ l.length ∧ i = .int .i64 (k : Int) ∧ n = .int .i64 ((weight (l.take k) : Nat) : Int) ∧ weight (l.take k) ≤ 100000
def fewB (l : List It) : Bool := decide (weight l ≤ 100000)
set_option maxHeartbeats 400000 in
theorem few_any (l : List It) (A : Option Addr) (cap : Nat) (w : World) (h : Items w A l) :
    Calls Try.prog 10 #[.slice A l.length cap] w fun e w' => e = .returned (.bool (fewB l)) ∧ w = w' := by
  have hm := h.1
  unfold maxLen at hm
  have H := Lib.hid h
  clear h
  go_enter Try.func10, Try.ntmps10
  go_wp2
  go_loop [3, 7] (FewRel l) (fun _ i => l.length - (intOf i).toNat)
  case atStart => exact ⟨0, Nat.zero_le _, rfl, rfl, by simp [weight]⟩
  case round =>
    obtain ⟨k, hk, rfl, rfl, hwt⟩ := hrel
    by_cases hlt : k < l.length
    · obtain ⟨b, off, rfl, ⟨c0, c1, c2⟩, hok⟩ := H.out.at_ hlt
      have hst := weight_step hlt
      have hle := weight_take_le l (k + 1)
      have HSZ := Lib.hid hok.2.2
      obtain ⟨y, hy⟩ : ∃ y : Int, ((weight (l.take k) : Nat) : Int) = y := ⟨_, rfl⟩
      obtain ⟨T, hT⟩ : ∃ T, l[k].S = T := ⟨_, rfl⟩
      obtain ⟨x, hx⟩ : ∃ x, l[k] = x := ⟨_, rfl⟩
      rw [hx] at c2 hst HSZ hT
      rw [hT] at c2 hst HSZ
      rw [hy]
      have HE : Hid (((weight (l.take (k + 1)) : Nat) : Int) = y + (1 + min (T.size : Int) 100000)) := by show _ = _; omega
      have HLE := Lib.hid hle
      have hy0 : 0 ≤ y := by omega
      have hy1 : y ≤ 100000 := by omega
      have HZ : Hid (T.size ≤ maxLen) := HSZ
      clear hst hle HSZ hok hy hT hx hwt c0 c1
      by_cases hbig : 100000 < (T.size : Int)
      · have HF : Hid (fewB l = false) := by
          have h1 := HE.out
          have h2 := HLE.out
          unfold fewB
          exact decide_eq_false (by omega)
        go_wp2
        go_ret
        exact ⟨by rw [HF.out]; rfl, rfl⟩
      · by_cases hsum : y + (1 + (T.size : Int)) ≤ 100000
        · have HN : Hid (((weight (l.take (k + 1)) : Nat) : Int) = y + (1 + (T.size : Int))) := by
            have h1 := HE.out
            show _ = _
            omega
          go_wp2
          go_round
          case rel => exact ⟨k + 1, by omega, by go_num, by rw [HN.out], by have := HN.out; omega⟩
          case measure => simp [intOf]; omega
        · have HF : Hid (fewB l = false) := by
            have h1 := HE.out
            have h2 := HLE.out
            unfold fewB
            exact decide_eq_false (by omega)
          go_wp2
          go_ret
          exact ⟨by rw [HF.out]; rfl, rfl⟩
    · have HF : Hid (fewB l = true) := by
        rw [List.take_of_length_le (by omega)] at hwt
        unfold fewB
        exact decide_eq_true hwt
      clear hwt
      go_wp2
      go_ret
      exact ⟨by rw [HF.out]; rfl, rfl⟩
end Go.Proofs.Ythcmijppemochaa
