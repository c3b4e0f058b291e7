/-
  The walk of HoldMost. Its conditions: the stones read as such.
-/
import Derived.Test.YtlleiehacmkedaaW5
namespace Go.Proofs.Ytlleiehacmkedaa
open Go.RowKit Go.Maps Go.ChangeMaps
open Go.Sort (grow)

def MoRel (l : List Tk) (g B : Nat) (limit : Int) (w : World) (s8 s9 : Value) (wr : World) : Prop :=
  ∃ (k : Nat) (L : List Tm) (f most : Int), k ≤ 200 ∧ k ≤ l.length ∧ s9 = .int .i64 (k : Int) ∧ s8 = .int .i64 most ∧ St w wr g B L f limit ∧ L.length ≤ k ∧ Most L f most ∧ 0 ≤ most
set_option maxRecDepth 100000 in
set_option maxHeartbeats 8000000 in
theorem most_walk (limit : Int) (l : List Tk) (A : Option Addr) (n c : Nat) (key : ByteArray) (w : World) (hs : Ths w A l) (hn : l.length = n) (hk : key.size ≤ maxLen) :
    Calls Try.prog 6 #[.int .i64 limit, .slice A n c, .string key] w fun e w' => e = .returned (.bool true) ∧ Below w.heap.size w w' := by
  have H := Lib.hid hs
  have HE := Lib.hid hn
  have HK := Lib.hid hk
  clear hs hn hk
  go_enter Try.func6, Try.ntmps6
  go_wp2_with fail
  refine (awake_any w).mono ?_
  rintro e w1 ⟨rfl, b1⟩
  have B1 := Lib.hid b1
  clear b1
  go_wp2_with fail
  refine (new_any w.heap.size limit w1 B1.out.size).mono ?_
  rintro e w2 ⟨g, B, rfl, t2, b2, _, _⟩
  have S2 : Hid (St w w2 g B [] 0 limit) := ⟨t2, B1.out.trans (b2.mono B1.out.size)⟩
  clear t2 b2 B1
  go_wp2
  go_loopw [8, 9] (MoRel l g B limit w) (fun _ i _ => 201 - (intOf i).toNat)
  case atStart => exact ⟨0, [], 0, 0, Nat.zero_le _, Nat.zero_le _, rfl, rfl, S2.out, Nat.le_refl _, most_nil, Int.le_refl _⟩
  case round =>
    obtain ⟨k, L, f, most, hk2, hkl, rfl, rfl, hm, hL, hmo, hm0⟩ := hrel
    have HM := Lib.hid hm
    have HLL := Lib.hid hL
    have HMO := Lib.hid hmo
    have HM0 := Lib.hid hm0
    clear hm hL hmo hm0 S2
    rw [HE.out] at hkl
    by_cases hlt : k < n ∧ k < 200
    · obtain ⟨hlt1, hlt2⟩ := hlt
      have hkl2 : k < l.length := by rw [HE.out]; exact hlt1
      obtain ⟨b, off, rfl, hbs, c0, c1⟩ := at_tm (H.out.below (Nat.le_refl _) HM.out.bel).1 hkl2
      have HKS := Lib.hid (H.out.2 l[k] (List.getElem_mem hkl2))
      have CD := Lib.hid (fun W (hb : Below w.heap.size w W) => at_tm2 (H.out.below (Nat.le_refl _) hb).1 hkl2)
      generalize l[k] = x at c0 c1 HKS CD
      have hlti : (k : Int) < (n : Int) := by omega
      have hlti2 : (k : Int) < 200 := by omega
      have hk0 : (0 : Int) ≤ (k : Int) := by omega
      have HK2 : Hid (k ≤ 199 ∧ k + 1 ≤ l.length) := by show _ ∧ _; omega
      have C1 := Lib.hid (fun W (s : St w W g B L f limit) => st_note s x HKS.out (by have := HLL.out; have := HK2.out; omega))
      have SD := Lib.hid HM.out.drew
      obtain ⟨m2, hm2⟩ : ∃ m2, m2 = max most x.n := ⟨_, rfl⟩
      have hmax2 : ∀ w, (Builtin.max_ #[3, 3] 3 #[.int .i64 most, .int .i64 x.n]).run Try.prog w = .ok (.int .i64 m2) w := fun w => run_max2 w _ _ _ _ _ hm2
      have MO2 : Hid (Most (noteL L x.k x.n limit) (noteF L f x.k x.n limit) m2 ∧ 0 ≤ m2) := by
        show _ ∧ _
        rw [hm2]
        have := HM0.out
        exact ⟨HMO.out.note this x.k x.n, by omega⟩
      have LL2 := Lib.hid (noteL_le L x.k x.n limit HM.out.tab.good.rs)
      have BN : Hid (1 ≤ x.n → x.n ≤ bar (noteL L x.k x.n limit) (noteF L f x.k x.n limit) x.k) := fun h1 => bar_noted HM.out.tab.good x.k h1
      clear hkl2 hbs hk2 hkl hm2
      go_wp2_with fail
      go_region_held3 (fun w' => w'.cell? ⟨b, off + k * 2, none⟩ = some (.string x.k) ∧ w'.cell? ⟨b, off + k * 2 + 1, none⟩ = some (.int .i64 x.n)) (first | go_keep | exact CD.out _ SA.out.bel | exact ⟨c0, c1⟩)
        (first | (go_at_call 10; (with_reducible refine (C1.out _ SD.out).mono ?_); rintro r wa ⟨rfl, sa, ka⟩; have SA := Lib.hid sa; clear sa ka))
      generalize noteL L x.k x.n limit = L2 at *
      generalize noteF L f x.k x.n limit = f2 at *
      clear c0 c1
      obtain ⟨e0, e1⟩ := CD.out _ SA.out.bel
      have hf1 : ¬ f2 > m2 := by have := MO2.out.1.f; omega
      have hf2 : ¬ f2 < 0 := by have := SA.out.tab.good.f0; omega
      have CA : Hid (∀ W k, St w W g B L2 f2 limit → k.size ≤ maxLen → Calls Try.prog 15 #[.pointer (some ⟨g, 0, none⟩), .string k, .int .i64 m2] W fun r w' => r = .returned (.bool true) ∧ St w w' g B L2 f2 limit ∧ Below W.heap.size W w') := fun W k s hk => by
        have := st_allows s k hk m2
        rw [show decide (m2 ≥ bar L2 f2 k) = true from decide_eq_true (MO2.out.1.bar MO2.out.2 k)] at this
        exact this
      go_wp2_with fail
      refine (st_floor SA.out).mono ?_
      rintro r w5 ⟨rfl, rfl⟩
      go_wp2_with fail
      refine (st_floor SA.out).mono ?_
      rintro r w5 ⟨rfl, rfl⟩
      go_wp2_with fail
      refine (CA.out _ key SA.out HK.out).mono ?_
      rintro r w5 ⟨rfl, s5, _⟩
      have S5 := Lib.hid s5
      clear s5 e0 e1 SA
      obtain ⟨e0, e1⟩ := CD.out _ S5.out.bel
      go_wp2_with fail
      refine (CA.out _ x.k S5.out HKS.out.k).mono ?_
      rintro r w6 ⟨rfl, s6, _⟩
      have S6 := Lib.hid s6
      clear s6 e0 e1 S5
      obtain ⟨e0, e1⟩ := CD.out _ S6.out.bel
      have g0 := fun d os => cell_regrown e0 d os
      have g1 := fun d os => cell_regrown e1 d os
      obtain ⟨pr, hpr⟩ : ∃ pr, pr = x.n - 1 := ⟨_, rfl⟩
      by_cases hx1 : 1 ≤ x.n
      · have hwr : IntKind.i64.wrap (x.n - 1) = pr := by rw [hpr]; exact IntWalk.i64_in _ (by have := int_top HKS.out.n; omega)
        have hwr2 : wrap64 (x.n - 1) = pr := by rw [hpr]; unfold wrap64; have := int_top HKS.out.n; omega
        have C9 : Hid (∀ d os, Calls Try.prog 15 #[.pointer (some ⟨g, 0, none⟩), .string x.k, .int .i64 pr] (grow (redrawn w6 d) os) fun e' w'' => e' = .returned (.bool false) ∧ ∃ p : Regrown, w'' = grow (redrawn w6 p.d) p.os) :=
          fun d os => Calls.regrown_of ((st_allows (S6.out.below (below_regrown w6 d os)) x.k HKS.out.k pr).mono fun r w' hh => ⟨by rw [hh.1, show decide (pr ≥ bar L2 f2 x.k) = false from decide_eq_false (by have := BN.out hx1; omega)], hh.2.2⟩)
        have hge : decide (x.n ≥ 1) = true := decide_eq_true hx1
        have hge2 : x.n ≥ 1 := hx1
        clear hpr hx1
        go_wp2_with fail
        refine wp_region_quiet_below (by kernel_rfl) (by kernel_rfl) ?_
        repeat (go_big_quiet_step (first | with_reducible exact C9.out _ _))
        refine wpQuiet_nil ?_
        intro w7 hw'
        obtain ⟨⟨dq, osq⟩, hw''⟩ := hw'
        have b7 : Below w6.heap.size w6 w7 := by rw [hw'']; exact below_regrown w6 dq osq
        have S7 := Lib.hid (S6.out.below b7)
        clear hw'' b7 g0 g1 C9 e0 e1 S6
        go_wp2
        go_roundw
        case rel => exact ⟨k + 1, L2, f2, m2, by have := HK2.out; omega, HK2.out.2, by go_num, rfl, S7.out, by have := LL2.out; have := HLL.out; omega, MO2.out.1, MO2.out.2⟩
        case measure => simp [intOf]; omega
      · have hge : decide (x.n ≥ 1) = false := decide_eq_false hx1
        have hge2 : ¬ x.n ≥ 1 := hx1
        clear hpr hx1
        go_wp2_with fail
        refine wp_region_quiet_below (by kernel_rfl) (by kernel_rfl) ?_
        repeat (go_big_quiet_step (fail))
        refine wpQuiet_nil ?_
        intro w7 hw'
        obtain ⟨⟨dq, osq⟩, hw''⟩ := hw'
        have b7 : Below w6.heap.size w6 w7 := by rw [hw'']; exact below_regrown w6 dq osq
        have S7 := Lib.hid (S6.out.below b7)
        clear hw'' b7 g0 g1 e0 e1 S6
        go_wp2
        go_roundw
        case rel => exact ⟨k + 1, L2, f2, m2, by have := HK2.out; omega, HK2.out.2, by go_num, rfl, S7.out, by have := LL2.out; have := HLL.out; omega, MO2.out.1, MO2.out.2⟩
        case measure => simp [intOf]; omega
    · have hcase : ¬ (k : Int) < (n : Int) ∨ ((k : Int) < (n : Int) ∧ ¬ (k : Int) < 200) := by omega
      clear hlt hk2 hkl
      rcases hcase with hc1 | ⟨hc1, hc2⟩
      all_goals
        go_wp2
        go_ret
        exact ⟨rfl, HM.out.bel⟩
end Go.Proofs.Ytlleiehacmkedaa
