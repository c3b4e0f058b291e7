/-
  The walk of MarkerBound. Its conditions: the script reads as steps.
-/
import Derived.Test.YtkonkldcallimaaW6
namespace Go.Proofs.Ytkonkldcallimaa
open Go.RowKit Go.Maps Go.ChangeMaps
open Go.Sort (grow)

theorem set_cases (L : List Mk) (m : Mk) (limit : Int) : (setE L m limit = 0 ∧ hasK (setL L m limit) m.k = true) ∨ (setE L m limit = 4 ∧ setL L m limit = L ∧ (L.length : Int) ≥ limit) := by
  unfold setE setL
  by_cases h : m ∈ L
  · simp only [h, if_true]
    exact .inl ⟨trivial, hasK_iff.mpr ⟨m, h, rfl⟩⟩
  · simp only [h, if_false]
    by_cases h1 : (L.length : Int) ≥ limit
    · simp only [h1, if_true]
      exact .inr ⟨trivial, trivial, trivial⟩
    · simp only [h1, if_false]
      exact .inl ⟨trivial, hasK_iff.mpr ⟨m, mem_ins.mpr (.inl rfl), rfl⟩⟩
def BdRel (l : List Step) (g B : Nat) (limit : Int) (w : World) (s6 : Value) (wr : World) : Prop :=
  ∃ (k : Nat) (L : List Mk), k ≤ 200 ∧ k ≤ l.length ∧ s6 = .int .i64 (k : Int) ∧ St w wr g B L limit
set_option maxRecDepth 100000 in
set_option maxHeartbeats 8000000 in
theorem bound_walk (limit : Int) (l : List Step) (A : Option Addr) (n c : Nat) (w : World) (hl2 : limit ≤ 9223372036854775807) (hs : Scr w A l) (hn : l.length = n) :
    Calls Try.prog 5 #[.int .i64 limit, .slice A n c] w fun e w' => e = .returned (.bool true) ∧ Below w.heap.size w w' := by
  obtain ⟨mx, hmx⟩ : ∃ mx, mx = max limit 0 := ⟨_, rfl⟩
  have hmax : ∀ w, (Builtin.max_ #[3, 3] 3 #[.int .i64 limit, .int .i64 0]).run Try.prog w = .ok (.int .i64 mx) w := fun w => run_max2 w _ _ _ _ _ hmx
  have HX := Lib.hid hmx
  have HL := Lib.hid hl2
  have H := Lib.hid hs
  have HE := Lib.hid hn
  clear hmx hl2 hs hn
  go_enter Try.func5, Try.ntmps5
  go_wp2_with fail
  refine (awake_any w).mono ?_
  rintro e w1 ⟨rfl, b1⟩
  have B1 := Lib.hid b1
  clear b1
  go_wp2_with fail
  refine (new_any w.heap.size limit w1 B1.out.size HL.out).mono ?_
  rintro e w2 ⟨g, B, rfl, t2, b2, _, _⟩
  have S2 : Hid (St w w2 g B [] limit) := ⟨t2, B1.out.trans (b2.mono B1.out.size)⟩
  clear t2 b2 B1
  go_wp2
  go_loopw [6] (BdRel l g B limit w) (fun i _ => 201 - (intOf i).toNat)
  case atStart => exact ⟨0, [], Nat.zero_le _, Nat.zero_le _, rfl, S2.out⟩
  case round =>
    obtain ⟨k, L, hk2, hkl, rfl, hm⟩ := hrel
    have HM := Lib.hid hm
    clear hm S2
    rw [HE.out] at hkl
    by_cases hlt : k < n ∧ k < 200
    · obtain ⟨hlt1, hlt2⟩ := hlt
      have hkl2 : k < l.length := by rw [HE.out]; exact hlt1
      obtain ⟨b, off, rfl, hbs, c0, c1, c2, c3⟩ := (H.out.below (Nat.le_refl _) HM.out.bel).at_ hkl2
      have HKS := Lib.hid (H.out.2.1 l[k] (List.getElem_mem hkl2))
      generalize l[k] = x at c0 c1 c2 c3 HKS
      obtain ⟨K, m⟩ := x
      simp only at c0 c1 c2 c3 HKS
      have hlti : (k : Int) < (n : Int) := by omega
      have hlti2 : (k : Int) < 200 := by omega
      have hk0 : (0 : Int) ≤ (k : Int) := by omega
      have HK2 : Hid (k ≤ 199 ∧ k + 1 ≤ l.length) := by show _ ∧ _; omega
      clear hkl2 hbs hk2 hkl
      go_wp2_with fail
      obtain ⟨q, hq⟩ : ∃ q, q = wr.heap.size := ⟨_, rfl⟩
      obtain ⟨W, hW⟩ : ∃ W, wr.alloc (.cells #[.int .i64 K, .string m.k, .int .i64 m.s, .int .i64 m.r] 31) = W := ⟨_, rfl⟩
      have b3 : Below wr.heap.size wr W := hW ▸ (Below.refl _ _).alloc (Nat.le_refl _) _
      have x3 : W.heap[q]? = some (oStep ⟨K, m⟩) := by rw [← hW, hq]; exact heap_new _ _
      have S3 := Lib.hid (HM.out.below b3)
      have X3 := Lib.hid x3
      rw [hW, ← hq]
      clear b3 x3 hW hq c0 c1 c2 c3 HM
      obtain ⟨z0, z1, z2, z3⟩ := step_cells X3.out
      simp only at z0 z1 z2 z3
      have g1 := fun d os => cell_regrown z1 d os
      obtain ⟨m0, hm0⟩ : ∃ m0 : Nat, m0 = L.length := ⟨_, rfl⟩
      obtain ⟨hd, hhd⟩ : ∃ hd, hd = hasK L m.k := ⟨_, rfl⟩
      have C1 : Hid (∀ d os, Calls Try.prog 19 #[.pointer (some ⟨g, 0, none⟩)] (grow (redrawn W d) os) fun e' w'' => e' = .returned (.int .i64 (m0 : Int)) ∧ ∃ p : Regrown, w'' = grow (redrawn W p.d) p.os) :=
        fun d os => Calls.regrown_of ((len_any _ g B L limit _ (S3.out.tab.below (below_regrown W d os))).mono fun r w' hh => ⟨by rw [hm0]; exact hh.1, by rw [← hh.2]; exact Below.refl _ _⟩)
      have C2 : Hid (∀ d os, Calls Try.prog 17 #[.pointer (some ⟨g, 0, none⟩), .string m.k] (grow (redrawn W d) os) fun e' w'' => e' = .returned (.bool hd) ∧ ∃ p : Regrown, w'' = grow (redrawn W p.d) p.os) :=
        fun d os => Calls.regrown_of ((has_any _ g B L limit m.k _ (S3.out.tab.below (below_regrown W d os))).mono fun r w' hh => ⟨by rw [hhd]; exact hh.1, hh.2⟩)
      refine wp_region_quiet_below (by kernel_rfl) (by kernel_rfl) ?_
      repeat (go_big_quiet_step (first | with_reducible exact C1.out _ _ | with_reducible exact C2.out _ _))
      refine wpQuiet_nil ?_
      intro w4 hw'
      obtain ⟨⟨dq, osq⟩, hw''⟩ := hw'
      have b4 : Below W.heap.size W w4 := by rw [hw'']; exact below_regrown W dq osq
      have S4 := Lib.hid (S3.out.below b4)
      have X4 := Lib.hid (Keeps.of_below b4 _ _ X3.out (oStep_kind _))
      clear hw'' b4 g1 z0 z1 z2 z3 C1 C2 S3 X3
      obtain ⟨z0, z1, z2, z3⟩ := step_cells X4.out
      simp only at z0 z1 z2 z3
      have HM0 := Lib.hid hm0
      have HHD := Lib.hid hhd
      clear hm0 hhd
      go_wp2_with fail
      refine (st_set S4.out m HKS.out).mono ?_
      rintro r w5 ⟨rfl, s5, k5⟩
      have S5 := Lib.hid s5
      have X5 := Lib.hid (k5 _ _ X4.out (oStep_kind _))
      clear s5 k5 S4 X4 z0 z1 z2 z3
      obtain ⟨z0, z1, z2, z3⟩ := step_cells X5.out
      simp only at z0 z1 z2 z3
      have hgl : ((setL L m limit).length : Int) ≤ mx := by rw [HX.out]; exact S5.out.tab.good.len
      rcases set_cases L m limit with ⟨e1, e2⟩ | ⟨e1, e2, e3⟩
      · rw [e1]
        generalize setL L m limit = L2 at S5 hgl e2
        have C6 := Lib.hid (st_has S5.out m.k)
        rw [e2] at C6
        have HGL := Lib.hid hgl
        clear e1 e2 hgl
        go_wp2_with fail
        refine C6.out.mono ?_
        rintro r w6 ⟨rfl, s6, k6⟩
        have SF := Lib.hid s6
        have XF := Lib.hid (k6 _ _ X5.out (oStep_kind _))
        clear s6 k6 S5 X5 z0 z1 z2 z3 C6
        obtain ⟨z0, z1, z2, z3⟩ := step_cells XF.out
        simp only at z0 z1 z2 z3
        go_wp2_with fail
        refine (st_len SF.out).mono ?_
        rintro r w7 ⟨rfl, rfl⟩
        obtain ⟨m2, hm2⟩ : ∃ m2 : Nat, m2 = L2.length := ⟨_, rfl⟩
        rw [← hm2]
        have hge : ¬ (m2 : Int) > mx := by rw [hm2]; have := HGL.out; omega
        clear hm2
        by_cases hK1 : K = 1
        · subst hK1
          go_wp2_with fail
          refine (st_upto SF.out m.k m.s m.r).mono ?_
          rintro r w9 ⟨rfl, s9, _⟩
          have S9 := Lib.hid s9
          clear s9
          go_wp2
          go_roundw
          case rel => exact ⟨k + 1, _, by have := HK2.out; omega, HK2.out.2, by go_num, S9.out⟩
          case measure => simp [intOf]; omega
        · go_wp2
          go_roundw
          case rel => exact ⟨k + 1, _, by have := HK2.out; omega, HK2.out.2, by go_num, SF.out⟩
          case measure => simp [intOf]; omega
      · rw [e1]
        rw [e2] at S5 hgl
        have HGL := Lib.hid hgl
        have hnl : ¬ (m0 : Int) < limit := by rw [HM0.out]; omega
        clear e1 e2 e3 hgl
        go_wp2_with fail
        refine (st_len S5.out).mono ?_
        rintro r w6 ⟨rfl, rfl⟩
        rw [← HM0.out]
        have C6 := Lib.hid (st_has S5.out m.k)
        rw [← HHD.out] at C6
        go_wp2_with fail
        refine C6.out.mono ?_
        rintro r w7 ⟨rfl, s7, k7⟩
        have SF := Lib.hid s7
        have XF := Lib.hid (k7 _ _ X5.out (oStep_kind _))
        clear s7 k7 S5 X5 z0 z1 z2 z3 C6
        obtain ⟨z0, z1, z2, z3⟩ := step_cells XF.out
        simp only at z0 z1 z2 z3
        have hge : ¬ (m0 : Int) > mx := by rw [HM0.out]; have := HGL.out; omega
        cases hd
        all_goals
          go_wp2_with fail
          refine (st_len SF.out).mono ?_
          rintro r w8 ⟨rfl, rfl⟩
          rw [← HM0.out]
          by_cases hK1 : K = 1
          · subst hK1
            go_wp2_with fail
            refine (st_upto SF.out m.k m.s m.r).mono ?_
            rintro r w9 ⟨rfl, s9, _⟩
            have S9 := Lib.hid s9
            clear s9
            go_wp2
            go_roundw
            case rel => exact ⟨k + 1, _, by have := HK2.out; omega, HK2.out.2, by go_num, S9.out⟩
            case measure => simp [intOf]; omega
          · go_wp2
            go_roundw
            case rel => exact ⟨k + 1, _, by have := HK2.out; omega, HK2.out.2, by go_num, SF.out⟩
            case measure => simp [intOf]; omega
    · have hcase : ¬ (k : Int) < (n : Int) ∨ ((k : Int) < (n : Int) ∧ ¬ (k : Int) < 200) := by omega
      clear hlt hk2 hkl
      rcases hcase with hc1 | ⟨hc1, hc2⟩
      all_goals
        go_wp2
        go_ret
        exact ⟨rfl, HM.out.bel⟩
end Go.Proofs.Ytkonkldcallimaa
