/-
  The contract of the document's Number. Its conditions: the slice reads as bytes, and fits memory.
-/
import Derived.Test.YthcmijppemochaaW16
import Derived.Test.YthcmijppemochaaW14
import Derived.Lib.QuietBelow
import Derived.BigQuiet
namespace Go.Proofs.Ythcmijppemochaa
open Go.RowKit Go.Sort

theorem val_cons_drop (P : List Nat) (j : Nat) (h : j < P.length) : Pk.val (P.drop j) = P[j] % 128 + 128 * Pk.val (P.drop (j + 1)) := by
  rw [List.drop_eq_getElem_cons h]
  rfl
theorem val_drop_le (P : List Nat) (j : Nat) : Pk.val (P.drop j) ≤ Pk.val P := by
  induction P generalizing j with
  | nil => simp
  | cons c P ih =>
    cases j with
    | zero => simp
    | succ j =>
      have := ih j
      simp only [List.drop_succ_cons, Pk.val]
      omega
theorem numOf_val {D : List Nat} {n : Nat} {R : List Nat} (h : Pk.numOf D = some (n, R)) : n = Pk.val (D.take (Pk.lead D + 1)) ∧ R = D.drop (Pk.lead D + 1) := by
  unfold Pk.numOf at h
  split at h
  · injection h with h
    injection h with h1 h2
    exact ⟨h1.symm, h2.symm⟩
  · cases h
theorem numOf_yes {D : List Nat} (hm : Pk.val (D.take (Pk.lead D + 1)) ≤ Pk.most) (h : Pk.digits (Pk.val (D.take (Pk.lead D + 1))) = D.take (Pk.lead D + 1)) :
    Pk.numOf D = some (Pk.val (D.take (Pk.lead D + 1)), D.drop (Pk.lead D + 1)) := by
  have h1 := Pk.numOf_digits (Pk.val (D.take (Pk.lead D + 1))) (D.drop (Pk.lead D + 1)) hm
  rw [h, List.take_append_drop] at h1
  exact h1
theorem numOf_no {D : List Nat} (hb : ∀ x ∈ D, x < 256) (h : ¬ Pk.digits (Pk.val (D.take (Pk.lead D + 1))) = D.take (Pk.lead D + 1)) : Pk.numOf D = none := by
  cases hn : Pk.numOf D with
  | none => rfl
  | some p =>
    obtain ⟨n, R⟩ := p
    obtain ⟨_, h2⟩ := Pk.numOf_some hb hn
    obtain ⟨h3, h4⟩ := numOf_val hn
    subst h3 h4
    have h5 : D.take (Pk.lead D + 1) ++ D.drop (Pk.lead D + 1) = Pk.digits (Pk.val (D.take (Pk.lead D + 1))) ++ D.drop (Pk.lead D + 1) := by rw [List.take_append_drop]; exact h2
    exact absurd (List.append_cancel_right h5).symm h
theorem numOf_great {D : List Nat} (h : Pk.most < Pk.val (D.take (Pk.lead D + 1))) : Pk.numOf D = none := by
  unfold Pk.numOf
  rw [if_neg]
  rintro ⟨_, _, h1, _⟩
  omega

/-- What the document's Number leaves. -/
def NumTuple (at_ : Nat) (p : Option (Nat × List Nat)) : Value :=
  match p with
  | none => .tuple #[.int .i64 0, .int .i64 0, .bool false]
  | some (n, _) => .tuple #[.int .i64 n, .int .i64 ((at_ + (Pk.digits n).length : Nat) : Int), .bool true]
def EndRel (D : List Nat) (a n : Nat) (v : Value) : Prop := ∃ p : Nat, a ≤ p ∧ p ≤ n ∧ p - a ≤ Pk.lead D ∧ v = .int .i64 (p : Int)
/-- The second loop: the digits from the place j on. -/
def BackRel (P : List Nat) (a : Nat) (n i : Value) : Prop := ∃ (j : Nat) (z y : Int), j ≤ P.length ∧ z = (a : Int) + (j : Int) - 1 ∧ i = .int .i64 z ∧ ((Pk.val (P.drop j) : Nat) : Int) = y ∧ n = .int .i64 y ∧ y ≤ 9007199254740992
set_option maxHeartbeats 1000000 in
set_option maxRecDepth 100000 in
theorem number_any (b : List Nat) (A : Option Addr) (c a : Nat) (w : World) (h : Bytes w A b) (ha : a ≤ b.length) (hc : b.length ≤ c) (hm : b.length ≤ 140737488355328) :
    Calls Try.prog 34 #[.slice A b.length c, .int .i64 (a : Int)] w fun e w' => e = .returned (NumTuple a (Pk.numOf (b.drop a))) ∧ Below w.heap.size w w' := by
  obtain ⟨D, hD⟩ : ∃ D, b.drop a = D := ⟨_, rfl⟩
  rw [hD]
  have HD := Lib.hid hD
  have HB := Lib.hid h
  have HDL : Hid (D.length = b.length - a) := by rw [← hD, List.length_drop]; exact rfl
  have HM := Lib.hid hm
  have HLE := Lib.hid (Pk.lead_le D)
  have HBD : Hid (∀ x ∈ D, x < 256) := by rw [← hD]; exact fun x hx => h.1 x (List.mem_of_mem_drop hx)
  have HAT : Hid (∀ (k : Nat) (hk : k < D.length), ∃ (hk2 : a + k < b.length), b[a + k] = D[k]) := by
    intro k hk
    have h1 := HDL.out
    refine ⟨by omega, ?_⟩
    simp only [← hD, List.getElem_drop]
  clear h hD hm
  go_enter Try.func34, Try.ntmps34
  go_wp2
  go_loop [7] (EndRel D a b.length) (fun i => b.length - (intOf i).toNat)
  case atStart => exact ⟨a, Nat.le_refl _, ha, by omega, rfl⟩
  case round =>
    obtain ⟨p, hap, hpn, hpl, rfl⟩ := hrel
    have HPL := Lib.hid hpl
    have HAP := Lib.hid hap
    have HPN := Lib.hid hpn
    have hpI : (p : Int) ≤ 140737488355328 := by have := HM.out; omega
    have haI : (a : Int) ≤ (p : Int) := by omega
    clear hpl hap hpn
    by_cases hlt : p < b.length
    · obtain ⟨bb, off, hAe, hcell, hcl⟩ := HB.out.at_ hlt
      have hpd : p - a < D.length := by have := HDL.out; have := HAP.out; omega
      obtain ⟨_, hat⟩ := HAT.out (p - a) hpd
      have hpa : a + (p - a) = p := by have := HAP.out; omega
      have hv : b[p] = D[p - a] := by rw [← hat]; congr 1; exact hpa.symm
      rw [hv] at hcell hcl
      obtain ⟨d, hd⟩ : ∃ d, D[p - a] = d := ⟨_, rfl⟩
      rw [hd] at hcell hcl
      have HD8 := Lib.hid hd
      subst hAe
      clear hat hv hd hpa
      by_cases hd8 : d < 128
      · have hdi : (d : Int) < 128 := by omega
        have HLD : Hid (Pk.lead D = p - a) := by
          have h1 := HPL.out
          have h2 := HD8.out
          rcases Nat.lt_or_ge (p - a) (Pk.lead D) with h | h
          · have := Pk.lead_at D (p - a) h hpd
            omega
          · show _ = _
            omega
        by_cases hfar : 8 < (p : Int) - (a : Int)
        · have HN := Lib.hid (numOf_far (L := D) (.inl (by have := HLD.out; omega)))
          go_wp2
          refine bodyPost_ret (v := .tuple #[.int .i64 0, .int .i64 0, .bool false]) (by simp [results, Try.results34, go_sem]) rfl ?_
          rw [HN.out]
          exact ⟨rfl, Below.refl _ _⟩
        · have hfar2 : (p : Int) - (a : Int) ≤ 8 := by omega
          obtain ⟨P, hP⟩ : ∃ P, D.take (Pk.lead D + 1) = P := ⟨_, rfl⟩
          have HPL2 : Hid (P.length = p - a + 1) := by rw [← hP, List.length_take, HLD.out]; show _ = _; omega
          have HPA : Hid (∀ (j : Nat) (hj : j < P.length), ∃ (hk2 : a + j < b.length), b[a + j] = P[j]) := by
            intro j hj
            have hjd : j < D.length := by rw [← hP, List.length_take] at hj; omega
            obtain ⟨h1, h2⟩ := HAT.out j hjd
            refine ⟨h1, ?_⟩
            rw [h2]
            simp only [← hP, List.getElem_take]
          have HP := Lib.hid hP
          clear hP
          go_wp2
          go_loop [8, 9] (BackRel P a) (fun _ i => (intOf i + 1 - (a : Int)).toNat)
          case atStart => exact ⟨P.length, (p : Int), 0, Nat.le_refl _, by rw [HPL2.out]; have := HAP.out; omega, rfl, by simp [Pk.val], rfl, by omega⟩
          case round =>
            obtain ⟨j, z, y, hj, hz, rfl, hy, rfl, hym⟩ := hrel
            have hy0 : 0 ≤ y := by omega
            have HY := Lib.hid hy
            have HJ := Lib.hid hj
            clear hy hj
            cases j with
            | zero =>
              have hz2 : z < (a : Int) := by omega
              have HZ := Lib.hid hz
              clear hz
              have K1 := Lib.hid (digits_good y w hy0 hym)
              go_wp2_with fail
              refine K1.out.mono ?_
              rintro e w2 ⟨v, rfl, hg⟩
              obtain ⟨A2, c2, rfl, hb2, _, hbel2⟩ := hg.parts
              have HB2 := Lib.hid hbel2
              have HY2 := Lib.hid hb2
              have cv1 : ∀ d os, (convert 25 9 (.slice A2 (Pk.digits y.toNat).length c2)).run Try.prog (grow (redrawn w2 d) os) = .ok (.string (textOf (Pk.digits y.toNat))) (grow (redrawn w2 d) os) := fun d os => conv_text _ _ _ _ (hb2.below (below_regrown w2 d os))
              have e1 : IntKind.i64.wrap ((p : Int) + 1) = (p : Int) + 1 := by rw [IntKind.wrap_i64]; omega
              have e2 : 0 ≤ (p : Int) + 1 := by omega
              have e3 : ((p : Int) + 1).toNat = p + 1 := by omega
              have e4 : a ≤ p + 1 := by have := HAP.out; omega
              have e5 : p + 1 ≤ c := by omega
              have e6 : ¬ c = a := by have := HAP.out; omega
              have e7 : (0 : Int) ≤ (a : Int) := by omega
              have hbP : Bytes w (some ⟨bb, off + a, none⟩) P := by
                have h1 := (HB.out.drop a c hc).take (Pk.lead D + 1)
                rw [if_neg e6, HD.out, HP.out] at h1
                have e8 : Option.map (fun x => Addr.add x a) (some (⟨bb, off, none⟩ : Addr)) = some ⟨bb, off + a, none⟩ := by rw [Option.map_some, addr_add]
                rw [e8] at h1
                exact h1
              have cv2 : ∀ d os, (convert 25 9 (.slice (some ⟨bb, off + a, none⟩) (p + 1 - a) (c - a))).run Try.prog (grow (redrawn w2 d) os) = .ok (.string (textOf P)) (grow (redrawn w2 d) os) := fun d os => by
                have h1 := conv_text _ _ P (c - a) ((hbP.below hbel2).below (below_regrown w2 d os))
                rw [HPL2.out, show p - a + 1 = p + 1 - a by have := HAP.out; omega] at h1
                exact h1
              have hval : ((Pk.val P : Nat) : Int) = y := HY.out
              have hyn : y.toNat = Pk.val P := by omega
              have HYN := Lib.hid hyn
              have HVM : Hid (Pk.val P ≤ Pk.most) := by unfold Pk.most; show _ ≤ _; omega
              have HPb : Hid (∀ x ∈ P, x < 256) := hbP.1
              by_cases hEq : Pk.digits y.toNat = P
              · have HN : Hid (Pk.numOf D = some (Pk.val P, D.drop (Pk.lead D + 1))) := by
                  have h1 := numOf_yes (D := D) (by rw [HP.out]; exact HVM.out) (by rw [HP.out, ← hyn]; exact hEq)
                  rw [HP.out] at h1
                  exact h1
                have HF : Hid (NumTuple a (Pk.numOf D) = .tuple #[.int .i64 y, .int .i64 ((p : Int) + 1), .bool true]) := by
                  rw [HN.out]
                  unfold NumTuple
                  simp only
                  rw [← hyn, hEq, HPL2.out, hyn, hval]
                  rw [show ((a + (p - a + 1) : Nat) : Int) = (p : Int) + 1 by have := HAP.out; omega]
                  exact rfl
                rw [hEq] at cv1 ⊢
                clear hg hb2 hbel2 hval hyn hEq hbP
                go_wp2
                refine wp_region_quiet_below (by kernel_rfl) (by kernel_rfl) ?_
                repeat (go_big_quiet_step (fail))
                refine wpQuiet_nil ?_
                intro _ hw'
                obtain ⟨⟨dq, osq⟩, hw''⟩ := hw'
                subst hw''
                go_wp2
                refine bodyPost_ret (v := .tuple #[.int .i64 y, .int .i64 ((p : Int) + 1), .bool true]) (by simp [results, Try.results34, go_sem]) rfl ?_
                rw [HF.out]
                exact ⟨rfl, HB2.out.trans ((below_regrown w2 dq osq).mono HB2.out.size)⟩
              · have HN : Hid (Pk.numOf D = none) := numOf_no HBD.out (by rw [HP.out, ← hyn]; exact hEq)
                have hne : ((textOf (Pk.digits y.toNat)).toList == (textOf P).toList) = false := text_ne (fun e => hEq (by
                  have h1 := congrArg bytesOf e
                  rw [bytesOf_textOf _ (Pk.digits_lt _), bytesOf_textOf _ HPb.out] at h1
                  exact h1))
                clear hg hb2 hbel2 hval hyn hEq hbP
                generalize textOf (Pk.digits y.toNat) = T1 at cv1 hne
                generalize textOf P = T2 at cv2 hne
                go_wp2
                refine wp_region_quiet_below (by kernel_rfl) (by kernel_rfl) ?_
                repeat (go_big_quiet_step (fail))
                refine wpQuiet_nil ?_
                intro _ hw'
                obtain ⟨⟨dq, osq⟩, hw''⟩ := hw'
                subst hw''
                go_wp2
                refine bodyPost_ret (v := .tuple #[.int .i64 0, .int .i64 0, .bool false]) (by simp [results, Try.results34, go_sem]) rfl ?_
                rw [HN.out]
                exact ⟨rfl, HB2.out.trans ((below_regrown w2 dq osq).mono HB2.out.size)⟩
            | succ j =>
              obtain ⟨q, hq⟩ : ∃ q, a + j = q := ⟨_, rfl⟩
              obtain rfl : z = (q : Int) := by omega
              have hjP : j < P.length := HJ.out
              obtain ⟨hqb, hqv⟩ := HPA.out j hjP
              obtain ⟨bb2, off2, hA2, hcell2, hcl2⟩ := HB.out.at_ hqb
              injection hA2 with hA2
              injection hA2 with hA3 hA4
              subst hA3 hA4
              have hidx : b[a + j] = P[j] := hqv
              have hcq : w.cell? ⟨bb, off + q, none⟩ = some (.int .u8 (P[j] : Int)) := by rw [← hidx, ← hq]; exact hcell2
              have hval := val_cons_drop P j hjP
              have hxl : P[j] < 256 := by rw [← hidx]; exact hcl2
              obtain ⟨x, hx⟩ : ∃ x, P[j] = x := ⟨_, rfl⟩
              rw [hx] at hcq hval hxl
              have hqa : (a : Int) ≤ (q : Int) := by omega
              have hqb2 : q < b.length := by omega
              have hq0 : (0 : Int) ≤ (q : Int) := by omega
              have hqI : (q : Int) ≤ 140737488355328 := by have := HM.out; omega
              have hval2 : ((Pk.val (P.drop j) : Nat) : Int) = y * 128 + (x : Int) % 128 := by have := HY.out; omega
              have HV2 := Lib.hid hval2
              have HQ := Lib.hid hq
              have hx1 : (x : Int) < 256 := by omega
              have hx0 : (0 : Int) ≤ (x : Int) % 128 ∧ (x : Int) % 128 ≤ 127 := by omega
              clear hz hqv hidx hcell2 hcl2 hval hx hval2 hq
              by_cases hgr : 9007199254740992 < y * 128 + (x : Int) % 128
              · have HN : Hid (Pk.numOf D = none) := numOf_great (by
                  have h1 := HV2.out
                  have h2 := val_drop_le P j
                  rw [HP.out]
                  unfold Pk.most
                  omega)
                go_wp2
                refine bodyPost_ret (v := .tuple #[.int .i64 0, .int .i64 0, .bool false]) (by simp [results, Try.results34, go_sem]) rfl ?_
                rw [HN.out]
                exact ⟨rfl, Below.refl _ _⟩
              · have hgr2 : y * 128 + (x : Int) % 128 ≤ 9007199254740992 := by omega
                go_wp2
                go_round
                case rel => exact ⟨j, (q : Int) - 1, _, by have := HJ.out; omega, by have := HQ.out; omega, rfl, HV2.out, rfl, hgr2⟩
                case measure => simp [intOf]; omega
      · have hdi : (128 : Int) ≤ (d : Int) := by omega
        have HLO := Lib.hid (lead_on hpd HPL.out (by rw [HD8.out]; omega))
        go_wp2
        go_round
        case rel => exact ⟨p + 1, by have := HAP.out; omega, by omega, by have := HLO.out; have := HAP.out; omega, by go_num⟩
        case measure => simp [intOf]; omega
    · have HN := Lib.hid (numOf_far (L := D) (.inr (by have := HPL.out; have := HLE.out; have := HDL.out; have := HPN.out; have := HAP.out; omega)))
      have hpl : b.length ≤ p := by omega
      go_wp2
      refine bodyPost_ret (v := .tuple #[.int .i64 0, .int .i64 0, .bool false]) (by simp [results, Try.results34, go_sem]) rfl ?_
      rw [HN.out]
      exact ⟨rfl, Below.refl _ _⟩
end Go.Proofs.Ythcmijppemochaa
