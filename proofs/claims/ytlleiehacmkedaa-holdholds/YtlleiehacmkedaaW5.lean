/-
  The walk of HoldBound. Its conditions: the script reads as steps.
-/
import Derived.Test.YtlleiehacmkedaaW4
namespace Go.Proofs.Ytlleiehacmkedaa
open Go.RowKit Go.Maps Go.ChangeMaps
open Go.Sort (grow)

theorem most_nil : Most [] 0 0 := ⟨by simp, Int.le_refl _⟩
def BdRel (l : List Step) (g B : Nat) (limit : Int) (w : World) (s8 s9 : Value) (wr : World) : Prop :=
  ∃ (k : Nat) (L : List Tm) (f most : Int), k ≤ 200 ∧ k ≤ l.length ∧ s9 = .int .i64 (k : Int) ∧ s8 = .int .i64 most ∧ St w wr g B L f limit ∧ L.length ≤ k ∧ Most L f most ∧ 0 ≤ most
set_option maxRecDepth 100000 in
set_option maxHeartbeats 8000000 in
theorem bound_walk (limit : Int) (l : List Step) (A : Option Addr) (n c : Nat) (key : ByteArray) (w : World) (hs : Scr w A l) (hn : l.length = n) (hk : key.size ≤ maxLen) :
    Calls Try.prog 5 #[.int .i64 limit, .slice A n c, .string key] w fun e w' => e = .returned (.bool true) ∧ Below w.heap.size w w' := by
  obtain ⟨mx, hmx⟩ : ∃ mx, mx = max limit 0 := ⟨_, rfl⟩
  have hmax : ∀ w, (Builtin.max_ #[3, 3] 3 #[.int .i64 limit, .int .i64 0]).run Try.prog w = .ok (.int .i64 mx) w := fun w => run_max2 w _ _ _ _ _ hmx
  have HX := Lib.hid hmx
  have H := Lib.hid hs
  have HE := Lib.hid hn
  have HK := Lib.hid hk
  clear hmx hs hn hk
  go_enter Try.func5, Try.ntmps5
  go_wp2_with fail
  refine (awake_any w).mono ?_
  rintro e w1 ⟨rfl, b1⟩
  have B1 := Lib.hid b1
  clear b1
  go_wp2_with fail
  refine (new_any w.heap.size limit w1 B1.out.size).mono ?_
  rintro e w2 ⟨g, B, rfl, t2, b2, _, _⟩
  have S2 : Hid (St w w2 g B [] 0 limit) := ⟨t2, B1.out.trans (b2.mono B1.out.size)⟩
  clear t2 b2 B1
  go_wp2
  go_loopw [8, 9] (BdRel l g B limit w) (fun _ i _ => 201 - (intOf i).toNat)
  case atStart => exact ⟨0, [], 0, 0, Nat.zero_le _, Nat.zero_le _, rfl, rfl, S2.out, Nat.le_refl _, most_nil, Int.le_refl _⟩
  case round =>
    obtain ⟨k, L, f, most, hk2, hkl, rfl, rfl, hm, hL, hmo, hm0⟩ := hrel
    have HM := Lib.hid hm
    have HLL := Lib.hid hL
    have HMO := Lib.hid hmo
    have HM0 := Lib.hid hm0
    clear hm hL hmo hm0 S2
    rw [HE.out] at hkl
    by_cases hlt : k < n ∧ k < 200
    · obtain ⟨hlt1, hlt2⟩ := hlt
      have hkl2 : k < l.length := by rw [HE.out]; exact hlt1
      obtain ⟨b, off, rfl, hbs, c0, c1, c2⟩ := at_st (H.out.below (Nat.le_refl _) HM.out.bel).1 hkl2
      have HKS := Lib.hid (H.out.2 l[k] (List.getElem_mem hkl2))
      have CD := Lib.hid (fun W (hb : Below w.heap.size w W) => at_st2 (H.out.below (Nat.le_refl _) hb).1 hkl2)
      generalize l[k] = x at c0 c1 c2 HKS CD
      obtain ⟨K, x⟩ := x
      simp only at c0 c1 c2 HKS CD
      have hlti : (k : Int) < (n : Int) := by omega
      have hlti2 : (k : Int) < 200 := by omega
      have hk0 : (0 : Int) ≤ (k : Int) := by omega
      have HK2 : Hid (k ≤ 199 ∧ k + 1 ≤ l.length) := by show _ ∧ _; omega
      have C1 := Lib.hid (fun W (s : St w W g B L f limit) => st_note s x HKS.out (by have := HLL.out; have := HK2.out; omega))
      have SD := Lib.hid HM.out.drew
      obtain ⟨m2, hm2⟩ : ∃ m2, m2 = max most x.n := ⟨_, rfl⟩
      have hmax2 : ∀ w, (Builtin.max_ #[3, 3] 3 #[.int .i64 most, .int .i64 x.n]).run Try.prog w = .ok (.int .i64 m2) w := fun w => run_max2 w _ _ _ _ _ hm2
      have MO2 : Hid (Most (noteL L x.k x.n limit) (noteF L f x.k x.n limit) m2 ∧ 0 ≤ m2) := by
        show _ ∧ _
        rw [hm2]
        have := HM0.out
        exact ⟨HMO.out.note this x.k x.n, by omega⟩
      have LL2 := Lib.hid (noteL_le L x.k x.n limit HM.out.tab.good.rs)
      clear hkl2 hbs hk2 hkl hm2
      go_wp2_with fail
      go_region_held3 (fun w' => w'.cell? ⟨b, off + k * 3 + 1, none⟩ = some (.string x.k) ∧ w'.cell? ⟨b, off + k * 3 + 2, none⟩ = some (.int .i64 x.n)) (first | go_keep | exact (CD.out _ SA.out.bel).2 | exact ⟨c1, c2⟩)
        (first | (go_at_call 10; (with_reducible refine (C1.out _ SD.out).mono ?_); rintro r wa ⟨rfl, sa, ka⟩; have SA := Lib.hid sa; clear sa ka))
      generalize noteL L x.k x.n limit = L2 at *
      generalize noteF L f x.k x.n limit = f2 at *
      obtain ⟨e0, e1, e2⟩ := CD.out _ SA.out.bel
      have hgl : ((L2.length : Nat) : Int) ≤ mx := by rw [HX.out]; exact SA.out.tab.good.len
      obtain ⟨p, hp⟩ : ∃ p : Nat, p = L2.length := ⟨_, rfl⟩
      have CL := Lib.hid (st_len SA.out)
      rw [← hp] at CL hgl
      have hnp : ¬ (p : Int) > mx := by omega
      have HP := Lib.hid hp
      clear hgl hp c0 c1 c2 e0 e1
      go_wp2_with fail
      refine CL.out.mono ?_
      rintro r w5 ⟨rfl, rfl⟩
      go_wp2
      go_roundw
      case rel => exact ⟨k + 1, L2, f2, m2, by have := HK2.out; omega, HK2.out.2, by go_num, rfl, SA.out, by have := LL2.out; have := HLL.out; omega, MO2.out.1, MO2.out.2⟩
      case measure => simp [intOf]; omega
    · have hcase : ¬ (k : Int) < (n : Int) ∨ ((k : Int) < (n : Int) ∧ ¬ (k : Int) < 200) := by omega
      have HL3 : Hid (L.length ≤ 1000) := by have := HLL.out; show _ ≤ _; omega
      clear hlt hk2 hkl
      obtain ⟨p, hp⟩ : ∃ p : Nat, p = L.length := ⟨_, rfl⟩
      have CL := Lib.hid (st_len HM.out)
      have CP := Lib.hid (st_pass HM.out most HL3.out)
      have e1 : gone L most = (p : Int) := by unfold gone; rw [HMO.out.pass.1, hp]; simp
      rw [HMO.out.pass.1, HMO.out.pass.2, e1] at CP
      rw [← hp] at CL
      have HR : Hid (decide ((0 : Int) ≥ bar [] 0 key) = true) := by show _ = _; rw [aw5 _ _ (Int.le_refl _)]; rfl
      clear hp e1
      rcases hcase with hc1 | ⟨hc1, hc2⟩
      all_goals
        go_wp2_with fail
        refine CL.out.mono ?_
        rintro r w5 ⟨rfl, rfl⟩
        go_wp2_with fail
        refine CP.out.mono ?_
        rintro r w6 ⟨rfl, s6, _⟩
        have S6 := Lib.hid s6
        clear s6
        go_wp2_with fail
        refine (st_len S6.out).mono ?_
        rintro r w7 ⟨rfl, rfl⟩
        go_wp2_with fail
        refine (st_floor S6.out).mono ?_
        rintro r w8 ⟨rfl, rfl⟩
        have CA := Lib.hid (st_allows S6.out key HK.out 0)
        rw [HR.out] at CA
        go_wp2_with fail
        refine CA.out.mono ?_
        rintro r w9 ⟨rfl, s9, _⟩
        have S9 := Lib.hid s9
        clear s9
        go_wp2
        go_ret
        exact ⟨rfl, S9.out.bel⟩
end Go.Proofs.Ytlleiehacmkedaa
