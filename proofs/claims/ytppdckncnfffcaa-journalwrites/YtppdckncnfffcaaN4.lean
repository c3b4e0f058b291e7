/-
  The contract of the document's Records. Its condition: the half lies in memory, below a bound, and the lap is the one with which it begins.
-/
import Derived.Test.YtppdckncnfffcaaN3
namespace Go.Proofs.Ytppdckncnfffcaa
open Go.RowKit
open Go.Sort (grow)
set_option maxRecDepth 100000

theorem at_tx {w : World} {A : Option Addr} {S : List Sec} (h : Sl eKy w A (S.map tx)) {k : Nat} (hk : k < S.length) : ∃ b off, A = some ⟨b, off, none⟩ ∧ w.cell? ⟨b, off + k, none⟩ = some (.string (tx (at_ S k))) := by
  obtain ⟨b, off, hA, _, hc⟩ := at_ky h (k := k) (by rw [List.length_map]; exact hk)
  have e := at_get hk
  rw [List.getElem?_eq_getElem hk] at e
  simp only [List.getElem_map] at hc
  rw [Option.some.inj e] at hc
  exact ⟨b, off, hA, hc⟩
theorem tx_inj {s t : Sec} (h : tx s = tx t) : s = t := Sec.ext' (txt_eq h)
theorem tx_ofF (s : Sec) : (tx s).extract 10 12 = txt ((s.v.drop 10).take 2) := txt_extract _ _ _
theorem tx_lenF (s : Sec) : (tx s).extract 12 13 = txt ((s.v.drop 12).take 1) ∧ num ((s.v.drop 12).take 1) = (s.v.getD 12 0).toNat := by
  refine ⟨txt_extract _ _ _, ?_⟩
  have h := s.h
  have e : (s.v.drop 12).take 1 = [s.v.getD 12 0] := by
    rw [List.drop_eq_getElem_cons (by omega), List.getD_eq_getElem?_getD, List.getElem?_eq_getElem (by omega)]
    rfl
  rw [e]
  simp [num]
theorem tx_bsF (s : Sec) : (tx s).extract 13 (13 + lenF s) = txt (bsF s) := by
  rw [tx, txt_extract]
  unfold bsF
  rw [Nat.add_sub_cancel_left]
instance decSec : DecidableEq Sec := fun a b => decidable_of_iff (a.v = b.v) ⟨Sec.ext', fun h => by rw [h]⟩
/-- The first so many are the same. -/
def sameN (h : List Sec) (a : Nat) (S : List Sec) (i : Nat) : Bool := decide (∀ j, j < i → at_ S j = at_ h (a + j))
theorem sameN_zero (h : List Sec) (a : Nat) (S : List Sec) : sameN h a S 0 = true := by simp [sameN]
theorem sameN_succ (h : List Sec) (a : Nat) (S : List Sec) (i : Nat) : sameN h a S (i + 1) = (sameN h a S i && decide (at_ S i = at_ h (a + i))) := by
  unfold sameN
  rw [← Bool.decide_and]
  congr 1
  apply propext
  constructor
  · intro hh
    exact ⟨fun j hj => hh j (by omega), hh i (by omega)⟩
  · rintro ⟨h1, h2⟩ j hj
    by_cases e : j = i
    · subst e; exact h2
    · exact h1 j (by omega)
/-- No further record where there is no room, or where the fields say so. -/
theorem no_more {lap a : Nat} {h : List Sec} {out : List (List UInt8)} (hb : h.length < 65536) (hc : h.length ≤ a ∨ ofF (at_ h a) < 1 ∨ h.length - a < ofF (at_ h a) ∨ (secsOf lap out.length (catB h a (ofF (at_ h a)))).length ≠ ofF (at_ h a) ∨ sameN h a (secsOf lap out.length (catB h a (ofF (at_ h a)))) (ofF (at_ h a)) = false) (r : List UInt8) : ¬ secsOf lap out.length r <+: h.drop a := by
  intro hp
  rcases hc with h1 | hc
  · have h2 := hp.length_le
    rw [secsOf_length, List.length_drop] at h2
    have := partsN_pos r.length
    omega
  · obtain ⟨e1, e2, e3⟩ := rec_there hp hb
    have := partsN_pos r.length
    rcases hc with h1 | h1 | h1 | h1
    · omega
    · omega
    · rw [e3, secsOf_length] at h1
      exact h1 e1.symm
    · rw [e3] at h1
      unfold sameN at h1
      have h1 := of_decide_eq_false h1
      apply h1
      intro j hj
      rw [sec_at hp (by omega)]
      have h2 := secsOf_at lap out.length r (i := j) (by omega)
      unfold at_
      rw [List.getD_eq_getElem?_getD, h2]
      rfl
theorem same_all {h : List Sec} {a n : Nat} {S : List Sec} (hs : sameN h a S n = true) : ∀ j, j < n → at_ S j = at_ h (a + j) := of_decide_eq_true hs
set_option maxHeartbeats 8000000 in
/-- The document's Records. -/
theorem refrecs_any (h : List Sec) (lap : Nat) (A : Option Addr) (n c : Nat) (w : World) (hs : Sl eKy w A (h.map tx)) (hn : h.length = n) (hn1 : n ≤ 1000) (hlap : 0 < n → lapF (at_ h 0) = lap) (hll : lap < 4294967296) :
    Calls Try.prog 35 #[.slice A n c, .int .i64 (lap : Int)] w fun e w' => ∃ v, e = .returned v ∧ RowT eKy 9 w' w.heap.size v ((foundL h).map txt) ∧ Below w.heap.size w w' := by
  have HS := Lib.hid hs
  have HN := Lib.hid hn
  have HN1 := Lib.hid hn1
  have HLAP := Lib.hid hlap
  have HLL := Lib.hid hll
  have hl0 : (0 : Int) ≤ (lap : Int) := by omega
  obtain ⟨w1, hw1⟩ : ∃ w1, w1 = w.alloc (.cells #[] 9) := ⟨_, rfl⟩
  have HB1 : Hid (Below w.heap.size w w1) := by rw [hw1]; exact Below.alloc (Below.refl _ _) (Nat.le_refl _) _
  have HR1 : Hid (RowT eKy 9 w1 w.heap.size (.slice (some ⟨w.heap.size, 0, none⟩) 0 0) []) := by rw [hw1]; exact RowT.empty w
  clear hs hn hn1 hlap hll
  go_enter Try.func35, Try.ntmps35
  go_wp2_with fail
  rw [← hw1]
  clear hw1
  go_loopw [5, 6] (fun s5 s6 wr => ∃ (a : Nat) (out : List (List UInt8)), a ≤ n ∧ s6 = .int .i64 (a : Int) ∧ RecI h lap a out ∧ (lap = 0 → out = []) ∧ RowT eKy 9 wr w.heap.size s5 (out.map txt) ∧ Below w.heap.size w wr) (fun _ s _ => n - (intOf s).toNat)
  case atStart => exact ⟨0, [], Nat.zero_le _, rfl, RecI.zero, fun _ => rfl, HR1.out, HB1.out⟩
  case round =>
    obtain ⟨a, out, ha, rfl, hi, hz, hr, hb⟩ := hrel
    clear HR1 HB1
    have HI := Lib.hid hi
    have HZ := Lib.hid hz
    have HR := Lib.hid hr
    have HB := Lib.hid hb
    have HA := Lib.hid ha
    obtain ⟨k, hk⟩ : ∃ k, k = (out.map txt).length := ⟨_, rfl⟩
    obtain ⟨Ao, co, hv, -⟩ := hr.form
    rw [← hk] at hv
    subst hv
    have HK : Hid (k = out.length) := by show _ = _; rw [hk, List.length_map]
    have ha0 : (0 : Int) ≤ (a : Int) := by omega
    obtain ⟨W0, rfl⟩ : ∃ W0, W0 = wr := ⟨wr, rfl⟩
    clear hk hi hz hr hb
    by_cases hl : 0 < lap
    · have hli : (0 : Int) < (lap : Int) := by omega
      have HL := Lib.hid hl
      by_cases hlt : a < n
      · have hlti : (a : Int) < (n : Int) := by omega
        have HLT := Lib.hid hlt
        have hal : a < h.length := by rw [HN.out]; exact hlt
        have slW := HS.out.below (Nat.le_refl _) HB.out
        obtain ⟨b, off, rfl, d0⟩ := at_tx slW hal
        have hts := tx_size (at_ h a)
        have hex := tx_ofF (at_ h a)
        obtain ⟨T, hT⟩ : ∃ T, T = tx (at_ h a) := ⟨_, rfl⟩
        rw [← hT] at hts hex d0
        have CN := refnum_any (((at_ h a).v.drop 10).take 2) W0 (by rw [List.length_take]; omega)
        rw [← hex] at CN
        obtain ⟨q, hq⟩ : ∃ q, q = ofF (at_ h a) := ⟨_, rfl⟩
        have hq' : num (((at_ h a).v.drop 10).take 2) = q := by rw [hq]; rfl
        rw [hq'] at CN
        have HCN := Lib.hid CN
        have HQ := Lib.hid hq
        clear hl hlt hal slW hT hq hq' CN hex ha
        go_wp2_with fail
        refine HCN.out.mono ?_
        rintro e w1 ⟨rfl, rfl⟩
        clear HCN d0 hts
        have HSTOP : Hid ((h.length ≤ a ∨ ofF (at_ h a) < 1 ∨ h.length - a < ofF (at_ h a) ∨ (secsOf lap out.length (catB h a (ofF (at_ h a)))).length ≠ ofF (at_ h a) ∨ sameN h a (secsOf lap out.length (catB h a (ofF (at_ h a)))) (ofF (at_ h a)) = false) → foundL h = out) := fun hc => HI.out.stop HL.out (HLAP.out (by have := HLT.out; omega)) (no_more (by rw [HN.out]; have := HN1.out; omega) hc)
        by_cases hq1 : q < 1
        · have hq1i : (q : Int) < 1 := by omega
          have HE := Lib.hid (HSTOP.out (.inr (.inl (by rw [← HQ.out]; exact hq1))))
          clear hq1 HSTOP
          go_wp2
          go_ret
          exact ⟨_, rfl, by rw [HE.out]; exact HR.out, HB.out⟩
        · have hq1i : ¬ (q : Int) < 1 := by omega
          have hw1 : IntKind.i64.wrap ((n : Int) - (a : Int)) = (n : Int) - (a : Int) := IntWalk.i64_in _ (by have := HN1.out; have := HA.out; omega)
          by_cases hq2 : n - a < q
          · have hq2i : (n : Int) - (a : Int) < (q : Int) := by have := HA.out; omega
            have HE := Lib.hid (HSTOP.out (.inr (.inr (.inl (by rw [← HQ.out, HN.out]; exact hq2)))))
            clear hq1 hq2 HSTOP
            go_wp2
            go_ret
            exact ⟨_, rfl, by rw [HE.out]; exact HR.out, HB.out⟩
          · have hq2i : ¬ (n : Int) - (a : Int) < (q : Int) := by have := HA.out; omega
            have HQ2 : Hid (1 ≤ q ∧ a + q ≤ n) := ⟨by omega, by have := HA.out; omega⟩
            clear hq1 hq2
            go_wp2_with fail
            have HSA := Lib.hid (HS.out.below (Nat.le_refl _) HB.out)
            have hqn : (q : Int) ≤ 1000 := by have := HQ2.out; have := HN1.out; omega
            have HQN : Hid (q ≤ 1000) := by show _ ≤ _; omega
            clear hw1
            go_loopw [8, 9] (fun s8 s9 wr => ∃ i : Nat, i ≤ q ∧ s8 = .string (txt (catB h a i)) ∧ s9 = .int .i64 (i : Int) ∧ W0 = wr) (fun _ s _ => q - (intOf s).toNat)
            case atStart => exact ⟨0, Nat.zero_le _, rfl, rfl, rfl⟩
            case round =>
              obtain ⟨i, hi, rfl, rfl, rfl⟩ := hrel
              obtain ⟨R, hR⟩ : ∃ R, R = txt (catB h a i) := ⟨_, rfl⟩
              rw [← hR]
              by_cases hiq : i < q
              · have hiqi : (i : Int) < (q : Int) := by omega
                have hal : a + i < h.length := by rw [HN.out]; have := HQ2.out; omega
                obtain ⟨b', off', e1, d0⟩ := at_tx HSA.out hal
                injection e1 with e1
                injection e1 with e1 e2 _
                subst e1 e2
                have hts := tx_size (at_ h (a + i))
                obtain ⟨hex, hnx⟩ := tx_lenF (at_ h (a + i))
                have hex2 := tx_bsF (at_ h (a + i))
                obtain ⟨T, hT⟩ : ∃ T, T = tx (at_ h (a + i)) := ⟨_, rfl⟩
                rw [← hT] at hts hex hex2 d0
                have CN := refnum_any (((at_ h (a + i)).v.drop 12).take 1) W0 (by rw [List.length_take]; omega)
                rw [← hex, hnx] at CN
                obtain ⟨z, hz⟩ : ∃ z, z = ((at_ h (a + i)).v.getD 12 0).toNat := ⟨_, rfl⟩
                rw [← hz] at CN
                have HCN := Lib.hid CN
                obtain ⟨y, hy⟩ : ∃ y, y = lenF (at_ h (a + i)) := ⟨_, rfl⟩
                have hyz : y = min z 47 := by rw [hy, hz]; rfl
                rw [← hy] at hex2
                obtain ⟨P, hP⟩ : ∃ P, P = txt (bsF (at_ h (a + i))) := ⟨_, rfl⟩
                rw [← hP] at hex2
                have hPs : P.size = y := by rw [hP, txt_size, bsF_length, hy]
                have HE : Hid (R ++ P = txt (catB h a (i + 1))) := by show _ = _; rw [hR, hP, txt_append]; rfl
                have hRs : R.size ≤ i * 47 := by rw [hR, txt_size]; exact catB_length _ _ _
                have hn0 : (a : Int) + (i : Int) < (n : Int) := by have := HQ2.out; omega
                have hbig : ¬ 9223372036854775807 < R.size + y := by have := HQN.out; omega
                have hIQ : Hid (i + 1 ≤ q) := hiq
                have hi0 : (0 : Int) ≤ (i : Int) := by omega
                have hnn : (n : Int) ≤ 1000 := by have := HN1.out; omega
                clear hiq hal hT hex hnx CN hz hy hP hR hRs hi
                go_wp2_with fail
                refine HCN.out.mono ?_
                rintro e w1 ⟨rfl, rfl⟩
                clear HCN d0
                by_cases hz47 : 47 < z
                · have hz47i : (47 : Int) < (z : Int) := by omega
                  have hy47 : y = 47 := by omega
                  subst hy47
                  have hex3 : T.extract 13 60 = P := hex2
                  have hbig2 : ¬ 9223372036854775807 < R.size + 47 := hbig
                  clear hz47 hyz hex2 hbig
                  go_wp2_with fail
                  go_roundw
                  case rel => exact ⟨i + 1, hIQ.out, by rw [← HE.out], by go_num, trivial⟩
                  case measure => simp [intOf]; have := hIQ.out; omega
                · have hz47i : ¬ (47 : Int) < (z : Int) := by omega
                  have hyz2 : y = z := by omega
                  subst hyz2
                  obtain ⟨ee, hee⟩ : ∃ ee, ee = 13 + y := ⟨_, rfl⟩
                  rw [← hee] at hex2
                  have hadd : (13 : Int) + (y : Int) = (ee : Int) := by omega
                  have hwa : IntKind.i64.wrap ((13 : Int) + (y : Int)) = (ee : Int) := by rw [IntWalk.i64_in _ (by omega)]; exact hadd
                  have he1 : (13 : Int) ≤ (ee : Int) := by omega
                  have he2 : (ee : Int) ≤ 64 := by omega
                  clear hz47 hyz hee
                  go_wp2_with fail
                  go_roundw
                  case rel => exact ⟨i + 1, hIQ.out, by rw [← HE.out], by go_num, trivial⟩
                  case measure => simp [intOf]; have := hIQ.out; omega
              · have hiq2 : i = q := by omega
                subst hiq2
                have HRE := Lib.hid hR
                have hcl := catB_length h a i
                have CS := refsecs_any lap k (catB h a i) W0 (by have := HLL.out; omega) (by have := HK.out; have := HI.out.ct; have := HA.out; have := HN1.out; omega) (by have := HQN.out; omega)
                rw [← hR] at CS
                have HCS := Lib.hid CS
                obtain ⟨S, hS⟩ : ∃ S, S = secsOf lap k (catB h a i) := ⟨_, rfl⟩
                rw [← hS] at HCS
                have hiqi : ¬ (i : Int) < (i : Int) := by omega
                have HSE := Lib.hid hS
                clear hiq hi hR hcl CS hS
                go_wp2_with fail
                refine HCS.out.mono ?_
                rintro e w7 ⟨vS, rfl, rS, b7⟩
                clear HCS
                have HST : Hid ((S.length ≠ i ∨ sameN h a S i = false) → foundL h = out) := fun hc => HSTOP.out (.inr (.inr (.inr (by rw [← HQ.out, ← HK.out, ← HSE.out]; exact hc))))
                have HR7 := Lib.hid (HR.out.below b7)
                have HB7 := Lib.hid (HB.out.trans (b7.mono HB.out.size))
                have hSl : S.length ≤ 100000 := by
                  rw [HSE.out, secsOf_length]
                  have := catB_length h a i
                  have := HQN.out
                  unfold partsN
                  omega
                obtain ⟨As, cs, hv, slS, -⟩ := rS.sl (by rw [List.length_map]; unfold maxLen; omega)
                obtain ⟨ms, hms⟩ : ∃ ms, ms = (S.map tx).length := ⟨_, rfl⟩
                rw [← hms] at hv
                subst hv
                rw [List.length_map] at hms
                have HSA7 := Lib.hid (HSA.out.below (Nat.le_refl _) b7)
                have HSS := Lib.hid slS
                have HMS := Lib.hid hms
                have hmi : (ms : Int) ≤ 100000 := by omega
                clear rS b7 slS HSA HSTOP HR HB
                by_cases hmq : ms = i
                · subst hmq
                  have hSl2 : S.length = ms := HMS.out.symm
                  have HSL := Lib.hid hSl2
                  have hne : ((ms : Int) != (ms : Int)) = false := by simp
                  clear hms hSl hSl2
                  go_wp2_with fail
                  go_loopw [13, 14] (fun s13 s14 wr => ∃ i : Nat, i ≤ ms ∧ s13 = .bool (sameN h a S i) ∧ s14 = .int .i64 (i : Int) ∧ Below w7.heap.size w7 wr) (fun _ s _ => ms - (intOf s).toNat)
                  case atStart => exact ⟨0, Nat.zero_le _, by rw [sameN_zero], rfl, Below.refl _ _⟩
                  case round =>
                    obtain ⟨i, hi, rfl, rfl, hb⟩ := hrel
                    have HBi := Lib.hid hb
                    clear hb
                    by_cases him : i < ms
                    · have himi : (i : Int) < (ms : Int) := by omega
                      have hal : a + i < h.length := by rw [HN.out]; have := HQ2.out; omega
                      have hsl : i < S.length := by rw [HSL.out]; exact him
                      obtain ⟨b', off', e1, d0⟩ := at_tx (HSA7.out.below (Nat.le_refl _) HBi.out) hal
                      injection e1 with e1
                      injection e1 with e1 e2 _
                      subst e1 e2
                      obtain ⟨b2, off2, e1, d1⟩ := at_tx (HSS.out.below (Nat.le_refl _) HBi.out) hsl
                      subst e1
                      have hE := sameN_succ h a S i
                      have hE2 : decide (at_ S i = at_ h (a + i)) = decide (tx (at_ S i) = tx (at_ h (a + i))) := by
                        by_cases e : at_ S i = at_ h (a + i)
                        · rw [e]; simp
                        · rw [decide_eq_false e, decide_eq_false (fun hh => e (tx_inj hh))]
                      rw [hE2] at hE
                      generalize tx (at_ S i) = X at d1 hE
                      generalize tx (at_ h (a + i)) = Y at d0 hE
                      obtain ⟨sb, hsb⟩ : ∃ sb, sb = sameN h a S i := ⟨_, rfl⟩
                      rw [← hsb] at hE ⊢
                      have HE := Lib.hid hE
                      have HIM : Hid (i + 1 ≤ ms) := him
                      have hi0 : (0 : Int) ≤ (i : Int) := by omega
                      have hn0 : (a : Int) + (i : Int) < (n : Int) := by have := HQ2.out; omega
                      have hnn : (n : Int) ≤ 1000 := by have := HN1.out; omega
                      have hwa : IntKind.i64.wrap ((a : Int) + (i : Int)) = (a : Int) + (i : Int) := IntWalk.i64_in _ (by omega)
                      clear hE2 hE hsb him hal hsl hi
                      cases sb with
                      | true =>
                        by_cases hxy : X = Y
                        · have he := toList_eq hxy
                          have HX : Hid (sameN h a S (i + 1) = true) := by show _ = _; rw [HE.out, decide_eq_true hxy]; rfl
                          clear hxy HE
                          go_wp2_with fail
                          go_quiet (fail)
                          go_wp2
                          go_roundw
                          case rel => exact ⟨i + 1, HIM.out, by rw [HX.out], by go_num, HBi.out.trans ((below_drewN _ _).mono HBi.out.size)⟩
                          case measure => simp [intOf]; have := HIM.out; omega
                        · have he := toList_ne hxy
                          have HX : Hid (sameN h a S (i + 1) = false) := by show _ = _; rw [HE.out, decide_eq_false hxy]; rfl
                          clear hxy HE
                          go_wp2_with fail
                          go_quiet (fail)
                          go_wp2
                          go_roundw
                          case rel => exact ⟨i + 1, HIM.out, by rw [HX.out], by go_num, HBi.out.trans ((below_drewN _ _).mono HBi.out.size)⟩
                          case measure => simp [intOf]; have := HIM.out; omega
                      | false =>
                        have HX : Hid (sameN h a S (i + 1) = false) := by show _ = _; rw [HE.out]; rfl
                        clear HE d0 d1
                        go_wp2_with fail
                        go_quiet (fail)
                        go_wp2
                        go_roundw
                        case rel => exact ⟨i + 1, HIM.out, by rw [HX.out], by go_num, HBi.out.trans ((below_drewN _ _).mono HBi.out.size)⟩
                        case measure => simp [intOf]; have := HIM.out; omega
                    · have him2 : i = ms := by omega
                      subst him2
                      have himi : ¬ (i : Int) < (i : Int) := by omega
                      obtain ⟨sb, hsb⟩ : ∃ sb, sb = sameN h a S i := ⟨_, rfl⟩
                      rw [← hsb]
                      cases sb with
                      | false =>
                        have HE := Lib.hid (HST.out (.inr hsb.symm))
                        have HBF := Lib.hid (HB7.out.trans (HBi.out.mono HB7.out.size))
                        have HRF := Lib.hid (HR7.out.below HBi.out)
                        clear him hsb hi
                        go_wp2_with fail
                        go_ret
                        exact ⟨_, rfl, by rw [HE.out]; exact HRF.out, HBF.out⟩
                      | true =>
                        have hnx : RecI h lap (a + i) (out ++ [catB h a i]) := by
                          refine HI.out.next (by rw [HN.out]; have := HN1.out; omega) ?_ (by rw [HN.out]; have := HQ2.out; omega) ?_
                          · rw [← HK.out, ← HSE.out]; exact HSL.out
                          · rw [← HK.out, ← HSE.out]; exact same_all hsb.symm
                        have HNX := Lib.hid hnx
                        have hBw := HB7.out.trans (HBi.out.mono HB7.out.size)
                        have hRw := HR7.out.below HBi.out
                        have bA : Below wr.heap.size wr (wr.alloc (.cells #[.string R] 9)) := (Below.refl _ _).alloc (Nat.le_refl _) _
                        obtain ⟨va, W8, hrun, hrow8, hg8⟩ := (hRw.below bA).app el33 (Nat.le_trans hBw.size bA.size) (A := some ⟨wr.heap.size, 0, none⟩) (n := 1) (c := 1) (sl_one (E := eKy) wr R 9) rfl (by simp) (by rw [List.length_map]; have := HK.out; have := HI.out.ct; have := HA.out; have := HN1.out; omega)
                        have HW8 : Hid (Below w.heap.size w W8) := (hBw.trans (bA.mono hBw.size)).grown hg8 (Nat.le_trans hBw.size bA.size) (fun k hk => ((hRw.below bA).own hk).1)
                        have HR8 : Hid (RowT eKy 9 W8 w.heap.size va ((out ++ [catB h a i]).map txt)) := by
                          show RowT _ _ _ _ _ _
                          rw [List.map_append, List.map_cons, List.map_nil, ← HRE.out]
                          exact hrow8
                        have hwa : IntKind.i64.wrap ((a : Int) + (i : Int)) = (a : Int) + (i : Int) := IntWalk.i64_in _ (by have := HN1.out; have := HQ2.out; omega)
                        clear him hsb hi hnx hBw hRw bA hrow8 hg8
                        go_wp2_with (refine wpList_append_run rfl _ _ _ _ rfl _ _ rfl rfl _ _ hrun ?_)
                        go_roundw
                        case rel => exact ⟨a + i, out ++ [catB h a i], HQ2.out.2, by go_num, HNX.out, fun h0 => absurd h0 (by have := HL.out; omega), HR8.out, HW8.out⟩
                        case measure => simp [intOf]; have := HQ2.out; omega
                · have hmqi : ¬ (ms : Int) = (i : Int) := by omega
                  have hne : ((ms : Int) == (i : Int)) = false := by rw [beq_eq_false_iff_ne]; omega
                  have hne2 : ((ms : Int) != (i : Int)) = true := by rw [bne, hne]; rfl
                  have HE := Lib.hid (HST.out (.inl (by rw [← HMS.out]; exact hmq)))
                  clear hmq hms hSl
                  go_wp2_with fail
                  go_ret
                  exact ⟨_, rfl, by rw [HE.out]; exact HR7.out, HB7.out⟩
      · have hlti : ¬ (a : Int) < (n : Int) := by omega
        have HE : Hid (foundL h = out) := by
          show _ = _
          by_cases h0 : 0 < n
          · exact HI.out.stop HL.out (HLAP.out h0) (no_more (by rw [HN.out]; have := HN1.out; omega) (.inl (by rw [HN.out]; omega)))
          · have h1 : h = [] := List.eq_nil_of_length_eq_zero (by rw [HN.out]; omega)
            have h2 := HI.out.ct
            have h3 := HI.out.le
            rw [h1] at h3 ⊢
            have h4 : out = [] := List.eq_nil_of_length_eq_zero (by simp at h3; omega)
            rw [h4]
            rfl
        clear hl hlt ha
        go_wp2
        go_ret
        exact ⟨_, rfl, by rw [HE.out]; exact HR.out, HB.out⟩
    · have hl1 : lap = 0 := by omega
      have HE : Hid (foundL h = out) := by
        show _ = _
        rw [HZ.out hl1]
        by_cases h0 : 0 < n
        · exact found_noLap (by rw [HLAP.out h0, hl1])
        · have h1 : h = [] := List.eq_nil_of_length_eq_zero (by rw [HN.out]; omega)
          rw [h1]
          rfl
      have hli : ¬ (0 : Int) < (lap : Int) := by omega
      clear hl hl1 ha
      go_wp2
      go_ret
      exact ⟨_, rfl, by rw [HE.out]; exact HR.out, HB.out⟩
end Go.Proofs.Ytppdckncnfffcaa
