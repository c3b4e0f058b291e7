/-
  The walk of PackOne. Its conditions: none.
-/
import Derived.Test.YthcmijppemochaaW19
import Derived.IntWalk
namespace Go.Proofs.Ythcmijppemochaa
open Go.RowKit

theorem wf_i64 (n : Int) (h : -9223372036854775808 ≤ n ∧ n ≤ 9223372036854775807) : (Lit.int .i64 n).wf = true := by
  have := wrap64_wf n
  rwa [IntWalk.wrap64_in n h] at this
theorem rcount_le (s : Option (List Nat)) (m : Int) : (Pk.rcount s m).1 ≤ 9007199254740992 := by
  have hn : (numS s).1 ≤ 9007199254740992 := by
    cases s with
    | none => exact Nat.zero_le _
    | some L =>
      show numAns (Pk.numOf L) ≤ _
      cases hn : Pk.numOf L with
      | none => exact Nat.zero_le _
      | some p =>
        obtain ⟨k, Q⟩ := p
        show k ≤ _
        unfold Pk.numOf at hn
        split at hn
        · rename_i hh
          injection hn with hn
          injection hn with h1 _
          have := hh.2.2.1
          unfold Pk.most at this
          omega
        · cases hn
  rw [rcount_eq]
  by_cases h : m < ((numS s).1 : Int)
  · rw [if_pos h]
    exact Nat.zero_le _
  · rw [if_neg h]
    exact hn
theorem items_of_own {w : World} {A : Option Addr} {n c : Nat} {its : List It} (h : w.ownsRow 0 52 3 (.slice A n c) its.length (itVals its)) (hok : ∀ x ∈ its, ItOk x) (hl : its.length ≤ maxLen) : Items w A its := by
  refine ⟨hl, hok, fun hp => ?_⟩
  have hx := h
  rcases h.2 with ⟨_, hn⟩ | ⟨g, cap, cur, hv, hb, hgg, rest⟩
  · omega
  · injection hv with hA _ _
    subst hA
    have hlt : g < w.heap.size := (Array.getElem?_eq_some_iff.mp hgg).1
    have hcells := hx.cells (g := g) rfl
    refine ⟨g, 0, rfl, hlt, fun k x hk => ?_⟩
    have h0 := hcells (k * 3 + 0) _ (itVals_at its k x hk 0 (by omega))
    have h1 := hcells (k * 3 + 1) _ (itVals_at its k x hk 1 (by omega))
    have h2 := hcells (k * 3 + 2) _ (itVals_at its k x hk 2 (by omega))
    rw [addr_add] at h0 h1 h2
    exact ⟨h0, by rw [Nat.add_assoc]; exact h1, by rw [Nat.add_assoc]; exact h2⟩
theorem rtext_size (s : Option (List Nat)) : (Pk.rtext s 10000).1.length ≤ 10000 := by
  unfold Pk.rtext
  have hle : ((Pk.rcount s 10000).1 : Int) ≤ 10000 := by
    rw [rcount_eq]
    by_cases h : (10000 : Int) < ((numS s).1 : Int)
    · rw [if_pos h]; simp
    · rw [if_neg h]; omega
  generalize Pk.rcount s 10000 = p at hle ⊢
  obtain ⟨n, t⟩ := p
  unfold Pk.rtake
  cases t with
  | none => simp
  | some L =>
    simp only
    by_cases h : n > L.length
    · rw [if_pos h]; simp
    · rw [if_neg h]
      simp only [List.length_take]
      simp only at hle
      omega
theorem rs_set {w3 : World} {g r X : Nat} {s : Option (List Nat)} {o : Nat} (v : Value) (h : RS w3 g r s) (hg : g < X) (hr : r < X) : RS (w3.setCell ⟨X, o, none⟩ v) g r s :=
  h.only (S := fun k => k = X) ((Only.refl (fun k => k = X) w3).setCell (p := ⟨X, o, none⟩) (.inr rfl) v) (by omega) (by omega)
theorem set_size (w : World) (a : Addr) (v : Value) : (w.setCell a v).heap.size = w.heap.size := by simp [World.setCell]
theorem only_new {wr w3 : World} {g : Nat} {o : Obj} (h : Only (fun k => k = g) (wr.alloc o) w3) : Only (fun k => k = g) wr w3 := ((Only.refl _ wr).alloc o).trans h (fun _ _ e => e)
set_option maxHeartbeats 1000000 in
set_option maxRecDepth 100000 in
theorem one_in (b : List Nat) (ks : List Int) (A B : Option Addr) (c d : Nat) (w : World) (hb : Bytes w A b) (hA : A = none → c = 0) (hl : b.length ≤ 10000) (hk : Ints w B ks) :
    Calls Try.prog 6 #[.slice A b.length c, .slice B ks.length d] w fun e w' => e = .returned (.bool true) ∧ Below w.heap.size w w' := by
  have HA := Lib.hid hb
  have HN := Lib.hid hA
  have HL := Lib.hid hl
  have HK := Lib.hid hk
  have hli : (b.length : Int) ≤ 10000 := by omega
  have d0 : decide ((10000 : Int) < (b.length : Int)) = false := by simp; omega
  clear hb hA hk hl
  go_enter Try.func6, Try.ntmps6
  go_wp2_with (first
    | (go_at_call 9; refine (awake_any _).mono ?_; rintro e w1 ⟨rfl, hb⟩; have HB := Lib.hid hb; clear hb)
    | (go_at_call 17; refine (read_any b A c w1 (HA.out.below HB.out) HN.out (by have := HL.out; omega)).mono ?_; rintro e w2 ⟨r, rfl, hs2, hb2, hr2⟩; have HS2 := Lib.hid hs2; have HB2 := Lib.hid hb2; have HR2 := Lib.hid hr2; clear hs2 hb2 hr2))
  clear d0
  go_loopw [6, 7] (OneRel b ks w1 w1.heap.size r) (fun _ i _ => ks.length - (intOf i).toNat)
  case atStart =>
    have hrl : r < w2.heap.size := HS2.out.1
    have hgl := HS2.out.lt
    refine ⟨0, [], some b, _, 0, rfl, Nat.zero_le _, by omega, rfl, by simp, Done.start b, HS2.out.below ((Below.refl _ _).alloc (Nat.le_refl _) _), rfl, ?_, ?_, by simp; omega, ?_, HB2.out.alloc HB2.out.size _⟩
    · exact ⟨rfl, .inr ⟨w2.heap.size, 0, #[], rfl, Nat.zero_le _, heap_new _ _, Nat.le_refl _, Nat.zero_le _, rfl, rfl⟩⟩
    · intro a ha
      injection ha with ha
      subst ha
      exact ⟨by show w2.heap.size ≠ _; omega, by show w2.heap.size ≠ _; omega⟩
    · intro a ha
      injection ha with ha
      subst ha
      exact HB2.out.size
  case round =>
    obtain ⟨k, its, s, Al, cl, rfl, hk, hk1, hik, hok, hdone, hrs, rfl, hown, hal, hrl, hal1, hbel⟩ := hrel
    have HST : Hid (∀ (x : It) (s' : Option (List Nat)) (w4 : World), k + 1 ≤ ks.length → k + 1 ≤ 1000 → ItOk x → Done b (its ++ [x]) s' → Only (fun k => k = w1.heap.size) wr w4 → RS w4 w1.heap.size r s' →
        ∃ A' c' w5, (Builtin.append_ #[22, 22] 22 #[.slice Al k cl, .slice (some ⟨w4.heap.size, 0, none⟩) 1 1]).run Try.prog (w4.alloc (.cells #[.int .i64 x.K, .int .i64 x.N, .string x.S] 52)) = .ok (.slice A' (k + 1) c') w5 ∧
        OneRel b ks w1 w1.heap.size r (.slice A' (k + 1) c') (.int .i64 ((k : Int) + 1)) w5) :=
      fun x s' w4 e1 e2 e3 e4 e5 e6 => one_step x e1 e2 hik hok e3 e4 hown hal hrl hal1 hbel (Nat.le_refl _) hrs.lt e5 e6
    have HD := Lib.hid (hdone.step HA.out.1)
    have HD0 := Lib.hid hdone
    have HRS := Lib.hid hrs
    have HGL := Lib.hid hrs.lt
    have HRL := Lib.hid hrl
    have HOK := Lib.hid hok
    have HOW := Lib.hid hown
    have HIK := Lib.hid hik
    have HWR : Hid (Below w.heap.size w wr) := HB.out.trans (hbel.mono HB.out.size)
    clear hok hdone hrs hown hal hbel hik hrl hal1
    by_cases hlt : k < ks.length ∧ (k : Int) < 1000
    · obtain ⟨h1, h2⟩ := hlt
      have hwf := HK.out.2.1 _ (List.getElem_mem h1)
      obtain ⟨bb, off, rfl, hcell⟩ := (HK.out.below HWR.out).at_ h1
      obtain ⟨K, hKe⟩ : ∃ K, ks[k] = K := ⟨_, rfl⟩
      rw [hKe] at hcell hwf
      have HWF := Lib.hid hwf
      have HDK := Lib.hid (HD.out K)
      have hz0 : (0 : Int) ≤ (k : Int) := by omega
      clear hKe hwf
      by_cases hK1 : K = 1
      · subst hK1
        have hri : readItem s 1 = (⟨1, if rflagB s then 1 else 0, ⟨#[]⟩⟩, (Pk.rcount s 1).2) := if_pos rfl
        rw [hri] at HDK
        have K0 := rflag_any w1.heap.size r s (wr.alloc (.cells #[.int .i64 1, .int .i64 0, .string ⟨#[]⟩] 52)) (HRS.out.below ((Below.refl _ _).alloc (Nat.le_refl _) _))
        cases hf : rflagB s with
        | true =>
          rw [hf] at K0 HDK
          have KH := Lib.hid K0
          clear K0 hri hf
          go_wp2_with fail
          refine KH.out.mono ?_
          rintro e w3 ⟨rfl, hs3, ho3⟩
          obtain ⟨x0, x1, x2, f1, f2⟩ := new_item ho3 HGL.out
          obtain ⟨A5, c5, w5, hrun, hrel5⟩ := HST.out ⟨1, 1, ⟨#[]⟩⟩ _ (w3.setCell ⟨wr.heap.size, 1, none⟩ (.int .i64 1)) (by omega) (by omega) ⟨HWF.out, by decide, by simp [empty_size]⟩ HDK.out ((only_new ho3).setCell (p := ⟨wr.heap.size, 1, none⟩) (.inl (Nat.le_refl _)) _) (rs_set _ hs3 HGL.out HRL.out)
          rw [set_size] at hrun
          simp only at hrun
          have HR := Lib.hid hrun
          have HREL := Lib.hid hrel5
          clear hs3 ho3 hrun hrel5 f2
          go_wp2_with (at_builtin; refine wpList_append_run rfl _ _ 22 22 rfl _ _ rfl rfl _ w5 HR.out ?_)
          go_roundw
          case rel => exact HREL.out
          case measure => simp [intOf]; omega
        | false =>
          rw [hf] at K0 HDK
          have KH := Lib.hid K0
          clear K0 hri hf
          go_wp2_with fail
          refine KH.out.mono ?_
          rintro e w3 ⟨rfl, hs3, ho3⟩
          obtain ⟨x0, x1, x2, f1, f2⟩ := new_item ho3 HGL.out
          obtain ⟨A5, c5, w5, hrun, hrel5⟩ := HST.out ⟨1, 0, ⟨#[]⟩⟩ _ w3 (by omega) (by omega) ⟨HWF.out, by decide, by simp [empty_size]⟩ HDK.out (only_new ho3) hs3
          simp only at hrun
          have HR := Lib.hid hrun
          have HREL := Lib.hid hrel5
          clear hs3 ho3 hrun hrel5 f1 f2
          go_wp2_with (at_builtin; refine wpList_append_run rfl _ _ 22 22 rfl _ _ rfl rfl _ w5 HR.out ?_)
          go_roundw
          case rel => exact HREL.out
          case measure => simp [intOf]; omega
      · by_cases hK2 : K = 2
        · subst hK2
          have hri : readItem s 2 = (⟨2, 0, textOf (Pk.rtext s 10000).1⟩, (Pk.rtext s 10000).2) := by unfold readItem; rw [if_neg (by omega), if_pos rfl]
          rw [hri] at HDK
          have K0 := rtext_any w1.heap.size r s 10000 (wr.alloc (.cells #[.int .i64 2, .int .i64 0, .string ⟨#[]⟩] 52)) (HRS.out.below ((Below.refl _ _).alloc (Nat.le_refl _) _))
          have hts : (textOf (Pk.rtext s 10000).1).size ≤ maxLen := by rw [textOf_size]; have := rtext_size s; unfold maxLen; omega
          have HTS := Lib.hid hts
          generalize textOf (Pk.rtext s 10000).1 = T at K0 HDK HTS
          have KH := Lib.hid K0
          clear K0 hri hts
          go_wp2_with fail
          refine KH.out.mono ?_
          rintro e w3 ⟨rfl, hs3, ho3⟩
          obtain ⟨x0, x1, x2, f1, f2⟩ := new_item ho3 HGL.out
          obtain ⟨A5, c5, w5, hrun, hrel5⟩ := HST.out ⟨2, 0, T⟩ _ (w3.setCell ⟨wr.heap.size, 2, none⟩ (.string T)) (by omega) (by omega) ⟨HWF.out, (by decide : (Lit.int .i64 0).wf = true), HTS.out⟩ HDK.out ((only_new ho3).setCell (p := ⟨wr.heap.size, 2, none⟩) (.inl (Nat.le_refl _)) _) (rs_set _ hs3 HGL.out HRL.out)
          rw [set_size] at hrun
          simp only at hrun
          have HR := Lib.hid hrun
          have HREL := Lib.hid hrel5
          clear hs3 ho3 hrun hrel5 f1
          go_wp2_with (at_builtin; refine wpList_append_run rfl _ _ 22 22 rfl _ _ rfl rfl _ w5 HR.out ?_)
          go_roundw
          case rel => exact HREL.out
          case measure => simp [intOf]; omega
        · have hri : readItem s K = (⟨K, ((Pk.rcount s 9007199254740992).1 : Nat), ⟨#[]⟩⟩, (Pk.rcount s 9007199254740992).2) := by unfold readItem; rw [if_neg hK1, if_neg hK2]
          rw [hri] at HDK
          have b1 : (K == 1) = false := by simpa using hK1
          have b2 : (K == 2) = false := by simpa using hK2
          have K0 := rnum_any w1.heap.size r s (wr.alloc (.cells #[.int .i64 K, .int .i64 0, .string ⟨#[]⟩] 52)) (HRS.out.below ((Below.refl _ _).alloc (Nat.le_refl _) _))
          have hy0 := rcount_le s 9007199254740992
          have HYW := Lib.hid (wf_i64 (((Pk.rcount s 9007199254740992).1 : Nat) : Int) (by omega))
          generalize (((Pk.rcount s 9007199254740992).1 : Nat) : Int) = y at K0 HDK HYW
          have KH := Lib.hid K0
          clear K0 hri hy0 hK1 hK2
          go_wp2_with fail
          refine KH.out.mono ?_
          rintro e w3 ⟨rfl, hs3, ho3⟩
          obtain ⟨x0, x1, x2, f1, f2⟩ := new_item ho3 HGL.out
          obtain ⟨A5, c5, w5, hrun, hrel5⟩ := HST.out ⟨K, y, ⟨#[]⟩⟩ _ (w3.setCell ⟨wr.heap.size, 1, none⟩ (.int .i64 y)) (by omega) (by omega) ⟨HWF.out, HYW.out, by simp [empty_size]⟩ HDK.out ((only_new ho3).setCell (p := ⟨wr.heap.size, 1, none⟩) (.inl (Nat.le_refl _)) _) (rs_set _ hs3 HGL.out HRL.out)
          rw [set_size] at hrun
          simp only at hrun
          have HR := Lib.hid hrun
          have HREL := Lib.hid hrel5
          clear hs3 ho3 hrun hrel5 f2
          go_wp2_with (at_builtin; refine wpList_append_run rfl _ _ 22 22 rfl _ _ rfl rfl _ w5 HR.out ?_)
          go_roundw
          case rel => exact HREL.out
          case measure => simp [intOf]; omega
    · have hc : ¬ k < ks.length ∨ (k < ks.length ∧ ¬ (k : Int) < 1000) := by omega
      have K0 := rend_any w1.heap.size r s wr HRS.out
      clear hlt
      by_cases hs : s = some []
      · subst hs
        obtain ⟨E, e1, e2, e3⟩ := HD0.out [] rfl
        have hE : E = b := by rw [e2, List.append_nil]
        subst hE
        have hi := items_of_own HOW.out HOK.out (by rw [HIK.out]; unfold maxLen; omega)
        have hw : weight its ≤ 100000 := by have := HIK.out; have := HL.out; omega
        have K1 := written_any its Al cl wr hi hw
        rw [e1, HIK.out] at K1
        have KE : Hid (Calls Try.prog 25 #[.pointer (some ⟨w1.heap.size, 0, none⟩)] wr fun e w' => e = .returned (.int .i64 0) ∧ wr = w') := K0
        have KW := Lib.hid K1
        have HY := Lib.hid (HA.out.below HWR.out)
        clear K0 K1 hi hw e1 e2 e3
        rcases hc with h1 | ⟨h1, h2⟩
        all_goals
          go_wp2_with fail
          refine KE.out.mono ?_
          rintro e w3 ⟨rfl, rfl⟩
          go_wp2_with fail
          refine KW.out.mono ?_
          rintro e w4 ⟨v, rfl, hg⟩
          have hbel4 := hg.bel
          obtain ⟨A4, c4, rfl, hby4, _, _⟩ := hg.parts
          have KS := Lib.hid (same_true E A A4 c c4 w4 (HY.out.below hbel4) hby4)
          have HB4 : Hid (Below w.heap.size w w4) := HWR.out.trans (hbel4.mono HWR.out.size)
          clear hg hbel4 hby4
          go_wp2_with fail
          refine KS.out.mono ?_
          rintro e w5 ⟨rfl, rfl⟩
          go_wp2
          go_ret
          exact ⟨rfl, HB4.out⟩
      · have hre : Pk.rend s = 2 := by unfold Pk.rend; exact if_neg hs
        rw [hre] at K0
        have KE := Lib.hid K0
        clear K0 hre hs
        rcases hc with h1 | ⟨h1, h2⟩
        all_goals
          go_wp2_with fail
          refine KE.out.mono ?_
          rintro e w3 ⟨rfl, rfl⟩
          go_wp2_with fail
          refine KE.out.mono ?_
          rintro e w3 ⟨rfl, rfl⟩
          go_wp2
          go_ret
          exact ⟨rfl, HWR.out⟩
set_option maxHeartbeats 400000 in
theorem one_out (b : List Nat) (ks : List Int) (A B : Option Addr) (c d : Nat) (w : World) (hl : 10000 < (b.length : Int)) :
    Calls Try.prog 6 #[.slice A b.length c, .slice B ks.length d] w fun e w' => e = .returned (.bool true) ∧ Below w.heap.size w w' := by
  go_enter Try.func6, Try.ntmps6
  go_wp2_with (go_at_call 9; refine (awake_any _).mono ?_; rintro e w1 ⟨rfl, hb⟩; have HB := Lib.hid hb; clear hb)
  go_ret
  exact ⟨rfl, HB.out⟩
theorem one_walk (b : List Nat) (ks : List Int) (A B : Option Addr) (c d : Nat) (w : World) (hb : Bytes w A b) (hA : A = none → c = 0) (hk : Ints w B ks) :
    Calls Try.prog 6 #[.slice A b.length c, .slice B ks.length d] w fun e w' => e = .returned (.bool true) ∧ Below w.heap.size w w' := by
  by_cases hl : 10000 < (b.length : Int)
  · exact one_out b ks A B c d w hl
  · exact one_in b ks A B c d w hb hA (by omega) hk
end Go.Proofs.Ythcmijppemochaa
