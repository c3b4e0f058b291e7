/-
  The contract of the document's Reader.Text whole. Its conditions: the reader is the call's own, its bytes lie elsewhere and fit memory.
-/
import Derived.Test.YthcmijppemochaaW25
namespace Go.Proofs.Ythcmijppemochaa
open Go.RowKit Go.Sort

set_option maxHeartbeats 1000000 in
set_option maxRecDepth 100000 in
theorem reftext_ok (h : Nat) (A : Option Addr) (c n a : Nat) (b : List Nat) (m : Int) (w : World) (hm : b.length ≤ 140737488355328) (hb : Bytes w A b) (hA : 0 < b.length → ∀ ad, A = some ad → ad.block ≠ h) (hc : b.length ≤ c) (ha : a + n ≤ b.length) (hn : (n : Int) ≤ m)
    (K : Calls Try.prog 19 #[.pointer (some ⟨h, 0, none⟩), .int .i64 9007199254740992] w fun e w' => e = .returned (.int .i64 (n : Int)) ∧ Box3 w' h (.slice A b.length c) (.int .i64 (a : Int)) (.bool false) ∧ Only (fun k => k = h) w w') :
    Calls Try.prog 23 #[.pointer (some ⟨h, 0, none⟩), .int .i64 m] w (RfPost w h A c b (.string (textOf ((b.drop a).take n))) (some (b.drop (a + n)))) := by
  have KH := Lib.hid K
  have HM := Lib.hid hm
  have HB := Lib.hid hb
  have HAN := Lib.hid hA
  have HC := Lib.hid hc
  have HAL := Lib.hid ha
  obtain ⟨q, hq⟩ : ∃ q, a + n = q := ⟨_, rfl⟩
  rw [hq] at HAL ⊢
  have HQ := Lib.hid hq
  clear K hm hb hA
  have d1 : decide (m < (n : Int)) = false := by simp; omega
  go_enter Try.func23, Try.ntmps23
  go_wp2_with fail
  refine KH.out.mono ?_
  rintro e w2 ⟨rfl, hbx, ho2⟩
  have g0 : ∀ d os, (grow (redrawn w2 d) os).cell? ⟨h, 0, none⟩ = some (.slice A b.length c) := fun d os => (hbx.below (below_regrown w2 d os)).cells.1
  have g1 : ∀ d os, (grow (redrawn w2 d) os).cell? ⟨h, 1, none⟩ = some (.int .i64 (a : Int)) := fun d os => (hbx.below (below_regrown w2 d os)).cells.2.1
  have g2 : ∀ d os, (grow (redrawn w2 d) os).cell? ⟨h, 2, none⟩ = some (.bool false) := fun d os => (hbx.below (below_regrown w2 d os)).cells.2.2.1
  have HBX := Lib.hid hbx
  have HO2 := Lib.hid ho2
  have e1 : IntKind.i64.wrap ((b.length : Int) - (a : Int)) = (b.length : Int) - (a : Int) := by rw [IntKind.wrap_i64]; have := HM.out; omega
  have d2 : decide ((b.length : Int) - (a : Int) < (n : Int)) = false := by simp; omega
  clear hbx ho2 ha hq hn
  go_wp2
  refine wp_region_quiet_below (by kernel_rfl) (by kernel_rfl) ?_
  repeat (go_big_quiet_step (fail))
  refine wpQuiet_nil ?_
  intro w3 hw'
  obtain ⟨⟨dq, osq⟩, hw''⟩ := hw'
  have hb3 : Below w2.heap.size w2 w3 := by rw [hw'']; exact below_regrown w2 dq osq
  have HX3 := Lib.hid (HBX.out.below hb3)
  have HO3 : Hid (Only (fun k => k = h) w w3) := HO2.out.trans (Only.of_below (S := fun _ => False) hb3) (fun _ _ h => h.elim)
  have HY3 : Hid (Bytes w3 A b) := HB.out.only_at HO3.out HAN.out
  clear hw'' hb3 g0 g1 g2 e1 d1 d2
  have g0 : ∀ d os, (grow (redrawn w3 d) os).cell? ⟨h, 0, none⟩ = some (.slice A b.length c) := fun d os => (HX3.out.below (below_regrown w3 d os)).cells.1
  have g1 : ∀ d os, (grow (redrawn w3 d) os).cell? ⟨h, 1, none⟩ = some (.int .i64 (a : Int)) := fun d os => (HX3.out.below (below_regrown w3 d os)).cells.2.1
  have e1 : IntKind.i64.wrap ((a : Int) + (n : Int)) = (q : Int) := by rw [IntKind.wrap_i64]; have := HM.out; have := HAL.out; have := HQ.out; omega
  have e4 : a ≤ q := by have := HQ.out; omega
  have e5 : q ≤ c := by have := HAL.out; have := HC.out; omega
  have hqI : (q : Int) ≤ 140737488355328 := by have := HM.out; have := HAL.out; omega
  have e7 : (0 : Int) ≤ (a : Int) := by omega
  have e8 : (0 : Int) ≤ (q : Int) := by omega
  have hlen : ((b.drop a).take n).length = q - a := by rw [List.length_take, List.length_drop]; have := HQ.out; have := HAL.out; omega
  by_cases hca : c = a
  · have cv : ∀ d os x, (convert 25 9 (.slice A (q - a) x)).run Try.prog (grow (redrawn w3 d) os) = .ok (.string (textOf ((b.drop a).take n))) (grow (redrawn w3 d) os) := fun d os x => by
      have h0 : (b.drop a).take n = [] := by rw [List.drop_of_length_le (by have := HC.out; omega)]; simp
      have h1 := conv_text (grow (redrawn w3 d) os) A [] x (Bytes.nil _ _)
      rw [h0, show q - a = 0 by have := HAL.out; have := HC.out; omega]
      exact h1
    generalize hT : textOf ((b.drop a).take n) = T at cv
    have HT := Lib.hid hT
    clear hlen hT
    go_wp2
    refine wp_region_quiet_below (by kernel_rfl) (by kernel_rfl) ?_
    repeat (go_big_quiet_step (fail))
    refine wpQuiet_nil ?_
    intro w4 hw'
    obtain ⟨⟨dq, osq⟩, hw''⟩ := hw'
    have hb4 : Below w3.heap.size w3 w4 := by rw [hw'']; exact below_regrown w3 dq osq
    have HX4 := Lib.hid (HX3.out.below hb4)
    have HO4 : Hid (Only (fun k => k = h) w w4) := HO3.out.trans (Only.of_below (S := fun _ => False) hb4) (fun _ _ h => h.elim)
    obtain ⟨c0, c1, c2, f1, f2⟩ := HX4.out.cells
    have haI : (a : Int) ≤ 140737488355328 := by omega
    have hnI : (n : Int) ≤ 140737488355328 := by have := HQ.out; omega
    clear hw'' hb4 g0 g1 e1 cv
    go_wp2
    go_ret
    refine ⟨by rw [HT.out]; rfl, ⟨q, false, HAL.out, ?_, .inr ⟨rfl, rfl⟩⟩, HO4.out.setCell (p := ⟨h, 1, none⟩) (.inr rfl) _⟩
    have hx := HX4.out.set1 ((a : Int) + (n : Int))
    rw [show ((a : Int) + (n : Int)) = (q : Int) by have := HQ.out; omega] at hx ⊢
    exact hx
  · have cv : ∀ d os, (convert 25 9 (.slice (Option.map (fun x => x.add a) A) (q - a) (c - a))).run Try.prog (grow (redrawn w3 d) os) = .ok (.string (textOf ((b.drop a).take n))) (grow (redrawn w3 d) os) := fun d os => by
      have h0 := (HY3.out.drop a c HC.out).take n
      rw [if_neg hca] at h0
      have h1 := conv_text (grow (redrawn w3 d) os) _ _ (c - a) (h0.below (below_regrown w3 d os))
      rw [hlen] at h1
      exact h1
    generalize hT : textOf ((b.drop a).take n) = T at cv
    have HT := Lib.hid hT
    clear hlen hT
    go_wp2
    refine wp_region_quiet_below (by kernel_rfl) (by kernel_rfl) ?_
    repeat (go_big_quiet_step (fail))
    refine wpQuiet_nil ?_
    intro w4 hw'
    obtain ⟨⟨dq, osq⟩, hw''⟩ := hw'
    have hb4 : Below w3.heap.size w3 w4 := by rw [hw'']; exact below_regrown w3 dq osq
    have HX4 := Lib.hid (HX3.out.below hb4)
    have HO4 : Hid (Only (fun k => k = h) w w4) := HO3.out.trans (Only.of_below (S := fun _ => False) hb4) (fun _ _ h => h.elim)
    obtain ⟨c0, c1, c2, f1, f2⟩ := HX4.out.cells
    have haI : (a : Int) ≤ 140737488355328 := by omega
    have hnI : (n : Int) ≤ 140737488355328 := by have := HQ.out; omega
    clear hw'' hb4 g0 g1 e1 cv
    go_wp2
    go_ret
    refine ⟨by rw [HT.out]; rfl, ⟨q, false, HAL.out, ?_, .inr ⟨rfl, rfl⟩⟩, HO4.out.setCell (p := ⟨h, 1, none⟩) (.inr rfl) _⟩
    have hx := HX4.out.set1 ((a : Int) + (n : Int))
    rw [show ((a : Int) + (n : Int)) = (q : Int) by have := HQ.out; omega] at hx ⊢
    exact hx
theorem reftext_any (h : Nat) (A : Option Addr) (c : Nat) (b : List Nat) (s : Option (List Nat)) (m : Int) (w : World) (hr : RR w h A c b s) (hb : Bytes w A b) (hA : 0 < b.length → ∀ ad, A = some ad → ad.block ≠ h) (hc : b.length ≤ c) (hm : b.length ≤ 140737488355328) :
    Calls Try.prog 23 #[.pointer (some ⟨h, 0, none⟩), .int .i64 m] w (RfPost w h A c b (.string (textOf (Pk.rtext s m).1)) (Pk.rtext s m).2) := by
  have K := refnum_any h A c b s 9007199254740992 w hr hb hc hm
  cases hp : Pk.rcount s 9007199254740992 with
  | mk n s1 =>
    rw [hp] at K
    cases s1 with
    | none =>
      rw [rtext_via_none hp]
      refine reftext_fault h A c b m (n : Int) w hm (K.mono fun e w' ⟨he, hr', ho⟩ => ⟨he, ?_, ho⟩)
      obtain ⟨a, bad, ha, hbx, ⟨rfl, _⟩ | ⟨_, hs⟩⟩ := hr'
      · exact ⟨a, true, ha, hbx, .inl rfl⟩
      · cases hs
    | some R =>
      by_cases hbad : m < (n : Int) ∨ R.length < n
      · rw [rtext_via_bad hp hbad]
        refine reftext_fault h A c b m (n : Int) w hm (K.mono fun e w' ⟨he, hr', ho⟩ => ⟨he, ?_, ho⟩)
        obtain ⟨a, bad, ha, hbx, ⟨_, hs⟩ | ⟨rfl, hs⟩⟩ := hr'
        · cases hs
        · injection hs with hs
          have hl : R.length = b.length - a := by rw [hs, List.length_drop]
          refine ⟨a, false, ha, hbx, ?_⟩
          by_cases h1 : m < (n : Int)
          · exact .inr (.inl ⟨rfl, h1⟩)
          · exact .inr (.inr ⟨rfl, by omega, by omega⟩)
      · have hg := rtext_via_good (m := m) hp (by omega) (by omega)
        rw [hg]
        obtain ⟨a, ha, hRa⟩ : ∃ a, a + n ≤ b.length ∧ R = b.drop a := by
          obtain ⟨a0, bad, ha0, _, hs⟩ := hr
          have hsome : s = some (b.drop a0) := by
            rcases hs with ⟨_, hs⟩ | ⟨_, hs⟩
            · subst hs; cases hp
            · exact hs
          subst hsome
          obtain ⟨g1, g2, g3⟩ := rcount_some (fun x hx => hb.1 x (List.mem_of_mem_drop hx)) hp
          have hl := congrArg List.length g3
          rw [List.length_drop, List.length_append] at hl
          refine ⟨a0 + (Pk.digits n).length, by omega, ?_⟩
          rw [← List.drop_drop, g3, List.drop_left]
        have hfin := reftext_ok h A c n a b m w hm hb hA hc ha (by omega) (K.mono fun e w' ⟨he, hr', ho⟩ => ⟨he, ?_, ho⟩)
        · rw [hRa, List.drop_drop]
          exact hfin
        · obtain ⟨a2, bad, ha2, hbx, ⟨_, hs⟩ | ⟨rfl, hs⟩⟩ := hr'
          · cases hs
          · injection hs with hs
            have h1 : (b.drop a).length = (b.drop a2).length := by rw [← hRa, hs]
            rw [List.length_drop, List.length_drop] at h1
            have h2 : a = a2 := by omega
            subst h2
            exact hbx
end Go.Proofs.Ythcmijppemochaa
