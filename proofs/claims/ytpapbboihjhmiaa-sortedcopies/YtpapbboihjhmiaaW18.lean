/-
  The walk of SortedCopies. Its conditions: the slices read as texts.
-/
import Derived.Test.YtpapbboihjhmiaaW17
namespace Go.Proofs.Ytpapbboihjhmiaa
open Go.RowKit

theorem RowS.at_ {w : World} {A : Option Addr} {n cap : Nat} {l : List ByteArray} (h : RowS w (.slice A n cap) l) (hm : l.length ≤ maxLen) : Strs w A l := by
  obtain ⟨A', c', e, hs⟩ := h.strs hm
  injection e with e1 _ _
  rw [e1]
  exact hs
/-- The loops over the copy. -/
def CopRel (l : List ByteArray) (b : Nat) (g1 g2 : Nat) (L1 : List KV) (was : Value) (w : World) (_ s : Value) (wr : World) : Prop :=
  ∃ (k : Nat) (L : List KV), k ≤ l.length ∧ s = .int .i64 (k : Int) ∧ MapAt wr g1 L1 ∧ MapAt wr g2 L ∧ L.length ≤ b + k ∧ RowS wr was (keysOf L1) ∧ Below w.heap.size w wr
def CopRel2 (l : List ByteArray) (g1 g2 : Nat) (L1 : List KV) (was : Value) (w : World) (_ s : Value) (wr : World) : Prop :=
  ∃ (k : Nat) (L : List KV), k ≤ l.length ∧ s = .int .i64 (k : Int) ∧ MapAt wr g1 L1 ∧ MapAt wr g2 L ∧ L.length ≤ 600 ∧ RowS wr was (keysOf L1) ∧ Below w.heap.size w wr
/-- The loop over the map. -/
def CopRel3 (l ws : List ByteArray) (g1 g2 : Nat) (Lc : List KV) (was left : Value) (w : World) (_ s : Value) (wr : World) : Prop :=
  ∃ (k : Nat) (L : List KV), k ≤ ws.length ∧ s = .int .i64 (k : Int) ∧ MapAt wr g1 L ∧ Holds L (fun x => x ∈ l ∧ x ∉ ws.take k) ∧ L.length ≤ 600 ∧ MapAt wr g2 Lc ∧ RowS wr was ws ∧ RowS wr left (keysOf Lc) ∧ Below w.heap.size w wr
theorem cop_drop {l ws : List ByteArray} {k : Nat} (hk : k < ws.length) (x : ByteArray) : ((x ∈ l ∧ x ∉ ws.take k) ∧ x ≠ ws[k]) ↔ (x ∈ l ∧ x ∉ ws.take (k + 1)) := by
  rw [mem_take_succ hk]
  exact ⟨fun ⟨⟨a, b⟩, c⟩ => ⟨a, fun h => h.elim b c⟩, fun ⟨a, b⟩ => ⟨⟨a, fun h => b (.inl h)⟩, fun h => b (.inr h)⟩⟩

set_option maxRecDepth 100000 in
set_option maxHeartbeats 4000000 in
theorem copies_walk (l m : List ByteArray) (A B : Option Addr) (n n' c c' : Nat) (w : World) (h : Strs w A l) (h' : Strs w B m) (hn : l.length = n) (hn' : m.length = n') :
    Calls Try.prog 8 #[.slice A n c, .slice B n' c'] w fun e w' => e = .returned (.bool true) ∧ Below w.heap.size w w' := by
  have H := Lib.hid h
  have H' := Lib.hid h'
  have HN := Lib.hid hn
  have HN' := Lib.hid hn'
  clear h h' hn hn'
  by_cases hbig : 300 < n ∨ 300 < n'
  · rcases (show (300 : Int) < (n : Int) ∨ (¬ (300 : Int) < (n : Int) ∧ (300 : Int) < (n' : Int)) by omega) with h1 | ⟨h1, h2⟩
    all_goals
      clear hbig
      go_enter Try.func8, Try.ntmps8
      go_wp2_with fail
      refine (awake_any w).mono ?_
      rintro e w1 ⟨rfl, b1⟩
      have B1 := Lib.hid b1
      clear b1
      go_wp2
      go_ret
      exact ⟨rfl, B1.out⟩
  · have h1 : ¬ (300 : Int) < (n : Int) := by omega
    have h2 : ¬ (300 : Int) < (n' : Int) := by omega
    have hl1 : n ≤ 300 := by omega
    have hl2 : n' ≤ 300 := by omega
    clear hbig
    go_enter Try.func8, Try.ntmps8
    go_wp2_with fail
    refine (awake_any w).mono ?_
    rintro e w1 ⟨rfl, b1⟩
    have B1 := Lib.hid b1
    have C1 := Lib.hid (filled_any l A n c w1 (H.out.below (Nat.le_refl _) b1) HN.out hl1)
    clear b1
    go_wp2_with fail
    refine C1.out.mono ?_
    rintro e w2 ⟨g1, L1, rfl, hg1, m2, h2', l2, b2⟩
    have M2 := Lib.hid m2
    have P2 := Lib.hid h2'
    have B2 := Lib.hid (B1.out.trans (b2.mono B1.out.size))
    have LL1 : Hid (L1.length ≤ 300) := by show _ ≤ _; have := HN.out; omega
    have C2 := Lib.hid (told_row g1 L1 w2 m2 (by have := LL1.out; omega))
    have G1 : Hid (w.heap.size ≤ g1) := by show _ ≤ _; have := B1.out.size; omega
    clear m2 h2' b2 C1 l2 hg1
    go_wp2_with fail
    refine C2.out.mono ?_
    rintro e w3 ⟨A6, c6, rfl, r3, _, b3⟩
    have M3 := Lib.hid (M2.out.below b3)
    have R3 := Lib.hid r3
    have B3 := Lib.hid (B2.out.trans (b3.mono B2.out.size))
    have C3 := Lib.hid (copy_any g1 L1 w3 (M2.out.below b3))
    clear r3 b3 C2
    go_wp2_with fail
    refine C3.out.mono ?_
    rintro e w4 ⟨rfl, m4, b4, _⟩
    have M4 := Lib.hid (M3.out.below b4)
    have N4 := Lib.hid m4
    have R4 := Lib.hid (R3.out.keep (Keep.below b4))
    have B4 := Lib.hid (B3.out.trans (b4.mono B3.out.size))
    have hne : g1 ≠ w3.heap.size := by have := M3.out.lt; omega
    have NE := Lib.hid hne
    have G2 : Hid (w.heap.size ≤ w3.heap.size) := B3.out.size
    generalize w3.heap.size = g2 at N4 NE G2 ⊢
    clear m4 b4 C3 hne
    go_wp2
    go_loopw [8, 30] (CopRel m 300 g1 g2 L1 (.slice A6 (keysOf L1).length c6) w) (fun _ i _ => n' - (intOf i).toNat)
    case atStart => exact ⟨0, L1, Nat.zero_le _, rfl, M4.out, N4.out, LL1.out, R4.out, B4.out⟩
    case round =>
      obtain ⟨k, L, hk, rfl, hm1, hm2, hlen, hrw, hb⟩ := hrel
      have HM1 := Lib.hid hm1
      have HM2 := Lib.hid hm2
      have HR := Lib.hid hrw
      have HB := Lib.hid hb
      rw [HN'.out] at hk
      clear hm1 hm2 hrw hb
      by_cases hlt : k < n'
      · have hkl : k < m.length := by have := HN'.out; omega
        obtain ⟨b, off, rfl, hbs, c0⟩ := (H'.out.below (Nat.le_refl _) HB.out).at_ hkl
        have HLE := Lib.hid (len_set_le L m[k] (m[k].size : Int) HM2.out.rises)
        have CS : Hid (∀ W, W = wr.drew → Calls Try.prog 11 #[.pointer (some ⟨g2, 0, none⟩), .string m[k], .int .i64 (m[k].size : Int)] W (MapPost W g2 (lset L m[k] (m[k].size : Int)) (!lhas L m[k]))) :=
          fun W hW => set_any g2 L m[k] _ W (by rw [hW]; exact HM2.out.below (Below.refl _ _).drew) (by omega)
        have CK : Hid (∀ w', Only g2 wr.drew w' → w'.cell? ⟨b, off + k, none⟩ = some (.string m[k])) := fun w' ho => by
          have hbel : Below w.heap.size w w' := (HB.out.drew).trans (ho.below HB.out.size G2.out)
          obtain ⟨b', off', e1, _, c1⟩ := (H'.out.below (Nat.le_refl _) hbel).at_ hkl
          injection e1 with e1
          injection e1 with e1 e2 _
          subst e1 e2
          exact c1
        generalize m[k] = x at c0 CS HLE CK
        clear hkl
        have hlti : (k : Int) < (n' : Int) := by omega
        go_wp2_with fail
        go_region_held3 (fun w' => w'.cell? ⟨b, off + k, none⟩ = some (.string x)) (first | go_keep | assumption)
          (first | (go_at_call 11; (with_reducible refine (CS.out _ ?hh).mono ?_); (case hh => exact rfl); rintro e w2 ⟨rfl, m2, o2⟩; have M2' := Lib.hid m2; have O2 := Lib.hid o2; have c2 := CK.out _ o2; clear m2 o2))
        go_wp2
        go_roundw
        case rel =>
          have hm2 := HM2.out.below (Below.refl _ _).drew
          exact ⟨k + 1, _, by rw [HN'.out]; omega, by go_num, (HM1.out.below (Below.refl _ _).drew).other hm2 O2.out NE.out, M2'.out, by have := HLE.out; omega, (HR.out.keep (Keep.below (Below.refl _ _).drew)).keep (O2.out.keep9 hm2 (by decide)), HB.out.drew.trans (O2.out.below HB.out.size G2.out)⟩
        case measure => simp [intOf]; omega
      · have HLL : Hid (L.length ≤ 600) := by show _ ≤ _; omega
        clear hlen
        go_wp2
        go_loopw [9, 47] (CopRel2 l g1 g2 L1 (.slice A6 (keysOf L1).length c6) w) (fun _ i _ => n - (intOf i).toNat)
        case atStart => exact ⟨0, L, Nat.zero_le _, rfl, HM1.out, HM2.out, HLL.out, HR.out, HB.out⟩
        case round =>
          clear HM1 HM2 HR HB HLL
          obtain ⟨k, L, hk, rfl, hm1, hm2, hlen, hrw, hb⟩ := hrel
          have HM1 := Lib.hid hm1
          have HM2 := Lib.hid hm2
          have HR := Lib.hid hrw
          have HB := Lib.hid hb
          rw [HN.out] at hk
          clear hm1 hm2 hrw hb
          by_cases hlt : k < n
          · have hkl : k < l.length := by have := HN.out; omega
            obtain ⟨b, off, rfl, hbs, c0⟩ := (H.out.below (Nat.le_refl _) HB.out).at_ hkl
            have HLE := Lib.hid (len_del_le L l[k])
            have CD := Lib.hid (del_any g2 L l[k] wr HM2.out (by omega))
            generalize l[k] = x at c0 CD HLE
            clear hkl
            have hlti : (k : Int) < (n : Int) := by omega
            go_wp2_with fail
            refine CD.out.mono ?_
            rintro e w5 ⟨rfl, m5, o5⟩
            have M5 := Lib.hid m5
            have O5 := Lib.hid o5
            clear m5 o5
            go_wp2
            go_roundw
            case rel => exact ⟨k + 1, _, by rw [HN.out]; omega, by go_num, HM1.out.other HM2.out O5.out NE.out, M5.out, by have := HLE.out; omega, HR.out.keep (O5.out.keep9 HM2.out (by decide)), HB.out.trans (O5.out.below HB.out.size G2.out)⟩
            case measure => simp [intOf]; omega
          · have T1 := Lib.hid (told_row g1 L1 wr HM1.out (by have := LL1.out; omega))
            have KL : Hid ((keysOf L1).length ≤ maxLen) := by show _ ≤ _; have := keysOf_len L1; have := LL1.out; unfold maxLen; omega
            go_wp2_with fail
            refine T1.out.mono ?_
            rintro e w5 ⟨A5, c5, rfl, _, s5, b5⟩
            have B5 := Lib.hid (HB.out.trans (b5.mono HB.out.size))
            have T2 := Lib.hid (alike_any _ _ A5 A6 _ _ c5 c6 w5 s5 ((HR.out.keep (Keep.below b5)).at_ KL.out) rfl rfl)
            rw [show decide (keysOf L1 = keysOf L1) = true by simp] at T2
            have HM1' := Lib.hid (HM1.out.below b5)
            have HM2' := Lib.hid (HM2.out.below b5)
            have HR' := Lib.hid (HR.out.keep (Keep.below b5))
            clear s5 b5 T1 HM1 HM2 HR HB
            go_wp2_with fail
            refine T2.out.mono ?_
            rintro e w6 ⟨rfl, b6⟩
            have B6 := Lib.hid (B5.out.trans (b6.mono B5.out.size))
            have T3 := Lib.hid (told_row g2 L w6 (HM2'.out.below b6) (by omega))
            have HM1 := Lib.hid (HM1'.out.below b6)
            have HM2 := Lib.hid (HM2'.out.below b6)
            have HR := Lib.hid (HR'.out.keep (Keep.below b6))
            clear b6 T2 HM1' HM2' HR' B5
            go_wp2_with fail
            refine T3.out.mono ?_
            rintro e w7 ⟨A7, c7, rfl, r7, _, b7⟩
            have B7 := Lib.hid (B6.out.trans (b7.mono B6.out.size))
            have HM1' := Lib.hid (HM1.out.below b7)
            have HM2' := Lib.hid (HM2.out.below b7)
            have HR' := Lib.hid (HR.out.keep (Keep.below b7))
            have R7 := Lib.hid r7
            have LC : Hid (L.length ≤ 600) := hlen
            have HK0 := Lib.hid ((P2.out).iff (Q := fun x => x ∈ l ∧ x ∉ (keysOf L1).take 0) (fun x => by simp))
            have KM := Lib.hid P2.out.keys_mem
            clear b7 T3 HM1 HM2 HR B6 r7 hlen hk hlt
            go_wp2
            go_loopw [11, 66] (CopRel3 l (keysOf L1) g1 g2 L (.slice A6 (keysOf L1).length c6) (.slice A7 (keysOf L).length c7) w) (fun _ i _ => (keysOf L1).length - (intOf i).toNat)
            case atStart => exact ⟨0, L1, Nat.zero_le _, rfl, HM1'.out, HK0.out, by have := LL1.out; omega, HM2'.out, HR'.out, R7.out, B7.out⟩
            case round =>
              clear HM1' HM2' HR' R7 HK0
              obtain ⟨k, LM, hk, rfl, hm1, hh, hlen, hm2, hrw, hrl, hb⟩ := hrel
              have HM1 := Lib.hid hm1
              have HM2 := Lib.hid hm2
              have HH := Lib.hid hh
              have HR := Lib.hid hrw
              have HR2 := Lib.hid hrl
              have HB := Lib.hid hb
              clear hm1 hm2 hh hrw hrl hb
              by_cases hlt : k < (keysOf L1).length
              · obtain ⟨b, off, rfl, hbs, c0⟩ := (HR.out.at_ KL.out).at_ hlt
                have HLE := Lib.hid (len_del_le LM (keysOf L1)[k])
                have HS := Lib.hid ((HH.out.del (keysOf L1)[k]).iff (cop_drop hlt))
                have CD := Lib.hid (del_any g1 LM (keysOf L1)[k] wr HM1.out (by omega))
                generalize (keysOf L1)[k] = x at c0 CD HLE HS
                obtain ⟨q, hq⟩ : ∃ q, (keysOf L1).length = q := ⟨_, rfl⟩
                have HQ := Lib.hid hq
                have hq3 : q ≤ 300 := by have := keysOf_len L1; have := LL1.out; omega
                rw [hq] at hlt hk ⊢
                clear hq
                have hlti : (k : Int) < (q : Int) := by omega
                go_wp2_with fail
                refine CD.out.mono ?_
                rintro e w8 ⟨rfl, m8, o8⟩
                have M8 := Lib.hid m8
                have O8 := Lib.hid o8
                clear m8 o8
                go_wp2
                go_roundw
                case rel => exact ⟨k + 1, _, by rw [HQ.out]; omega, by go_num, M8.out, HS.out, by have := HLE.out; omega, HM2.out.other HM1.out O8.out (Ne.symm NE.out), by rw [← HQ.out]; exact HR.out.keep (O8.out.keep9 HM1.out (by decide)), HR2.out.keep (O8.out.keep9 HM1.out (by decide)), HB.out.trans (O8.out.below HB.out.size G1.out)⟩
                case measure => simp [intOf]; omega
              · have HE : Hid (LM = []) := by
                  show _ = _
                  refine (HH.out.iff (Q := fun _ => False) (fun x => ?_)).one Holds.nil
                  rw [List.take_of_length_le (by omega), KM.out]
                  exact ⟨fun h => h.2 h.1, False.elim⟩
                have T4 := Lib.hid (len_any g1 LM wr HM1.out)
                rw [HE.out] at T4
                have T5 := Lib.hid (told_row g2 L wr HM2.out (by have := LC.out; omega))
                have KL2 : Hid ((keysOf L).length ≤ maxLen) := by show _ ≤ _; have := keysOf_len L; have := LC.out; unfold maxLen; omega
                clear HH HE
                go_wp2_with fail
                refine T4.out.mono ?_
                rintro e w8 ⟨rfl, rfl⟩
                go_wp2_with fail
                refine T5.out.mono ?_
                rintro e w8 ⟨A8, c8, rfl, _, s8, b8⟩
                have B8 := Lib.hid (HB.out.trans (b8.mono HB.out.size))
                have T6 := Lib.hid (alike_any _ _ A8 A7 _ _ c8 c7 w8 s8 ((HR2.out.keep (Keep.below b8)).at_ KL2.out) rfl rfl)
                rw [show decide (keysOf L = keysOf L) = true by simp] at T6
                clear s8 b8 T5
                go_wp2_with fail
                refine T6.out.mono ?_
                rintro e w9 ⟨rfl, b9⟩
                have B9 := Lib.hid (B8.out.trans (b9.mono B8.out.size))
                clear b9
                go_wp2
                go_ret
                exact ⟨rfl, B9.out⟩
end Go.Proofs.Ytpapbboihjhmiaa
