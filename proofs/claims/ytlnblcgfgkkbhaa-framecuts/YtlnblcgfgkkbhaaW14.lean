/-
  The contract of the document's Lists. Its conditions: the slices read as lists of bytes.
-/
import Derived.Test.YtlnblcgfgkkbhaaW13
import Derived.Lib.QuietBelow
namespace Go.Proofs.Ytlnblcgfgkkbhaa
open Go.RowKit Go.Sort

theorem Parts.at_ {w : World} {A : Option Addr} {ps : List (List Nat)} (h : Parts w A ps) {k : Nat} (hk : k < ps.length) : ∃ b off a c n, A = some ⟨b, off, none⟩ ∧ b < w.heap.size ∧ n = ps[k].length ∧ w.cell? ⟨b, off + k, none⟩ = some (.slice a n c) ∧ Bytes w a ps[k] ∧ (a = none → c = 0) := by
  obtain ⟨b, off, hA, hb, hc⟩ := h (by omega)
  obtain ⟨a, c, h1, h2, h3⟩ := hc k ps[k] (List.getElem?_eq_getElem hk)
  exact ⟨b, off, a, c, _, hA, hb, rfl, h1, h2, h3⟩
theorem take_next {α : Type} {ps qs : List α} {k : Nat} (hp : k < ps.length) (hq : k < qs.length) (h : ps.take k = qs.take k) (he : ps[k] = qs[k]) : ps.take (k + 1) = qs.take (k + 1) := by
  rw [List.take_succ_eq_append_getElem hp, List.take_succ_eq_append_getElem hq, h, he]
set_option maxHeartbeats 1000000 in
theorem lists_any (ps qs : List (List Nat)) (A B : Option Addr) (n m c d : Nat) (w : World) (hp : Parts w A ps) (hq : Parts w B qs) (hn : ps.length = n) (hm : qs.length = m) (h63 : n ≤ maxLen) (hm63 : m ≤ maxLen) :
    Calls Try.prog 16 #[.slice A n c, .slice B m d] w fun e w' => e = .returned (.bool (decide (ps = qs))) ∧ Below w.heap.size w w' := by
  by_cases hne : n = m
  · subst hne
    have HP := Lib.hid hp
    have HQ := Lib.hid hq
    have HN := Lib.hid hn
    have HM := Lib.hid hm
    unfold maxLen at h63
    clear hp hq hn hm hm63
    go_enter Try.func16, Try.ntmps16
    go_wp2
    go_loopw [5] (fun i wr => ∃ k : Nat, k ≤ n ∧ i = .int .i64 k ∧ ps.take k = qs.take k ∧ Below w.heap.size w wr) (fun i _ => n - (intOf i).toNat)
    case atStart => exact ⟨0, Nat.zero_le _, rfl, rfl, Below.refl _ _⟩
    case round =>
      obtain ⟨k, hk, rfl, heq, hbel⟩ := hrel
      have HE := Lib.hid heq
      have HB := Lib.hid hbel
      clear heq hbel
      by_cases hlt : k < n
      · have hkp : k < ps.length := by have := HN.out; omega
        have hkq : k < qs.length := by have := HM.out; omega
        obtain ⟨bp, op, ap, cp, np, rfl, hbp, hnp, hcp, hyp, _⟩ := (HP.out.below HB.out).at_ hkp
        obtain ⟨bq, oq, aq, cq, nq, rfl, hbq, hnq, hcq, hyq, _⟩ := (HQ.out.below HB.out).at_ hkq
        have gp : ∀ d os, (grow (redrawn wr d) os).cell? ⟨bp, op + k, none⟩ = some (.slice ap np cp) := fun d os => by
          rw [(below_regrown wr d os).cell (p := ⟨bp, op + k, none⟩) hbp]; exact hcp
        have gq : ∀ d os, (grow (redrawn wr d) os).cell? ⟨bq, oq + k, none⟩ = some (.slice aq nq cq) := fun d os => by
          rw [(below_regrown wr d os).cell (p := ⟨bq, oq + k, none⟩) hbq]; exact hcq
        have HCC : Hid (∀ d os, Calls Try.prog 11 #[.slice ap np cp, .slice aq nq cq] (grow (redrawn wr d) os) fun e w'' => e = .returned (.bool (decide (ps[k] = qs[k]))) ∧ ∃ p : Regrown, w'' = grow (redrawn wr p.d) p.os) :=
          fun d os => Calls.regrown_of ((same_any ps[k] qs[k] ap aq cp cq np nq _ (hyp.below (below_regrown wr d os)) (hyq.below (below_regrown wr d os)) hnp.symm hnq.symm).mono (by rintro e w' ⟨rfl, rfl⟩; exact ⟨rfl, Below.refl _ _⟩))
        clear hyp hyq hnp hnq
        have ik : (k : Int) < (n : Int) := by omega
        by_cases hs : ps[k] = qs[k]
        · have HT : Hid (ps.take (k + 1) = qs.take (k + 1)) := take_next hkp hkq HE.out hs
          rw [decide_eq_true hs] at HCC
          clear hs hkp hkq
          go_wp2
          refine wp_region_quiet_below (by kernel_rfl) (by kernel_rfl) ?_
          repeat (go_big_quiet_step (exact HCC.out _ _))
          refine wpQuiet_nil ?_
          intro w3 hw'
          obtain ⟨⟨dq, osq⟩, hw''⟩ := hw'
          have hb3 : Below wr.heap.size wr w3 := by rw [hw'']; exact below_regrown wr dq osq
          have HB3 : Hid (Below w.heap.size w w3) := HB.out.trans (hb3.mono HB.out.size)
          clear hw'' hb3 gp gq hcp hcq
          go_wp2
          go_roundw
          case rel => exact ⟨k + 1, by omega, by go_num, HT.out, HB3.out⟩
          case measure => simp [intOf]; omega
        · have HD : Hid (decide (ps = qs) = false) := decide_eq_false (fun h => hs (by subst h; rfl))
          rw [decide_eq_false hs] at HCC
          clear hs hkp hkq
          go_wp2
          refine wp_region_quiet_below (by kernel_rfl) (by kernel_rfl) ?_
          repeat (go_big_quiet_step (exact HCC.out _ _))
          refine wpQuiet_nil ?_
          intro w3 hw'
          obtain ⟨⟨dq, osq⟩, hw''⟩ := hw'
          have hb3 : Below wr.heap.size wr w3 := by rw [hw'']; exact below_regrown wr dq osq
          have HB3 : Hid (Below w.heap.size w w3) := HB.out.trans (hb3.mono HB.out.size)
          clear hw'' hb3 gp gq hcp hcq
          go_wp2
          go_ret
          exact ⟨by rw [HD.out]; rfl, HB3.out⟩
      · have HD : Hid (decide (ps = qs) = true) := by
          refine decide_eq_true ?_
          have := HE.out
          rwa [List.take_of_length_le (by have := HN.out; omega), List.take_of_length_le (by have := HM.out; omega)] at this
        go_wp2
        go_ret
        exact ⟨by rw [HD.out]; rfl, HB.out⟩
  · have HD : Hid (decide (ps = qs) = false) := decide_eq_false (fun h => hne (by rw [← hn, ← hm, h]))
    have dn : ((n : Int) != (m : Int)) = true := by simp; omega
    clear hp hq hn hm hne h63 hm63
    go_enter Try.func16, Try.ntmps16
    go_wp2
    go_ret
    exact ⟨by rw [HD.out]; rfl, Below.refl _ _⟩
end Go.Proofs.Ytlnblcgfgkkbhaa
