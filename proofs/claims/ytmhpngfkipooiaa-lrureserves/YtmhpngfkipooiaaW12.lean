/-
  The walk of LruReserves. Its conditions: the things read as such.
-/
import Derived.Test.YtmhpngfkipooiaaW11
namespace Go.Proofs.Ytmhpngfkipooiaa
open Go.RowKit Go.Maps

theorem keys_at {W : World} (base g : Nat) (L : List Th) (room kept : Int) (h : CacheAt W base g L room kept) (hl : L.length ≤ 100000) :
    Calls Try.prog 27 #[.pointer (some ⟨g, 0, none⟩)] W fun r w' => ∃ A c, r = .returned (.slice A L.length c) ∧ Strs w' A (keys L) ∧ Below W.heap.size W w' := by
  refine (keys_any base g L room kept W h hl).mono ?_
  rintro r w' ⟨v, rfl, ho, hb⟩
  obtain ⟨A, c, rfl, hs⟩ := ho.strs (by rw [keys_length]; unfold maxLen; omega)
  rw [keys_length]
  exact ⟨A, c, rfl, hs, hb⟩
theorem reserve_at {W : World} (base g : Nat) (L : List Th) (room kept n : Int) (h : CacheAt W base g L room kept) (hbs : base ≤ W.heap.size) (hl : L.length ≤ 100000) :
    Calls Try.prog 19 #[.pointer (some ⟨g, 0, none⟩), .int .i64 n] W fun r w' => ∃ A c, r = .returned (.tuple #[.slice A (wG room kept n L).length c, .bool (wayOk room kept n)]) ∧ Strs w' A (wG room kept n L) ∧
      Row w' W.heap.size (.slice A (wG room kept n L).length c) (wG room kept n L) ∧ CacheAt w' base g (wL room kept n L) room (resK room kept n) ∧ Fr cK base W w' := by
  refine (reserve_any base g L room kept n W h hbs hl).mono ?_
  rintro r w' ⟨v, rfl, ho, hc, hf⟩
  obtain ⟨A, c, rfl, hs⟩ := ho.strs (by have := wG_len room kept n L; unfold maxLen; omega)
  exact ⟨A, c, rfl, hs, ho, hc, hf⟩
/-- A slice of texts stays where its row isn't turned. -/
theorem Row.strs_of {w : World} {base : Nat} {A : Option Addr} {n c : Nat} {l : List ByteArray} (h : Row w base (.slice A n c) l) (hm : l.length ≤ maxLen) : Strs w A l := by
  obtain ⟨A', c', e, hs⟩ := h.strs hm
  injection e with e1 e2 e3
  subst e1
  exact hs
theorem keys_at2 {W : World} (base g : Nat) (L : List Th) (room kept : Int) (h : CacheAt W base g L room kept) (hl : L.length ≤ 100000) :
    Calls Try.prog 27 #[.pointer (some ⟨g, 0, none⟩)] W fun r w' => ∃ A c, r = .returned (.slice A L.length c) ∧ Row w' W.heap.size (.slice A L.length c) (keys L) ∧ Below W.heap.size W w' := by
  refine (keys_any base g L room kept W h hl).mono ?_
  rintro r w' ⟨v, rfl, ho, hb⟩
  obtain ⟨A, c, rfl⟩ := ho.form
  rw [keys_length] at ho ⊢
  exact ⟨A, c, rfl, ho, hb⟩
set_option maxRecDepth 100000 in
set_option maxHeartbeats 8000000 in
theorem reserves_walk (a : Int) (l : List Tk) (A : Option Addr) (n c : Nat) (nr : Int) (w : World) (ha : a ≤ 9223372036854775807) (hs : Ths w A l) (hn : l.length = n) :
    Calls Try.prog 8 #[.int .i64 a, .slice A n c, .int .i64 nr] w fun e w' => e = .returned (.bool true) ∧ Below w.heap.size w w' := by
  obtain ⟨room, hroom⟩ : ∃ room, room = max a 0 := ⟨_, rfl⟩
  have hmax : ∀ w, (Builtin.max_ #[3, 3] 3 #[.int .i64 a, .int .i64 0]).run Try.prog w = .ok (.int .i64 room) w := fun w => run_max2 w _ _ _ _ _ hroom
  have H := Lib.hid hs
  have HE := Lib.hid hn
  have HR := Lib.hid hroom
  have HA := Lib.hid ha
  clear hs hn hroom ha
  go_enter Try.func8, Try.ntmps8
  go_wp2_with fail
  refine (awake_any w).mono ?_
  rintro e w1 ⟨rfl, b1⟩
  have B1 := Lib.hid b1
  clear b1
  go_wp2_with fail
  refine (new_any w.heap.size a room w1 B1.out.size HR.out HA.out).mono ?_
  rintro e w2 ⟨g, rfl, _, c2, b2⟩
  have C2 := Lib.hid c2
  have B2 := Lib.hid (B1.out.trans (b2.mono B1.out.size))
  clear c2 b2 B1
  go_wp2
  go_loopw [8] (RsRel l g room w) (fun i _ => 201 - (intOf i).toNat)
  case atStart => exact ⟨0, [], Nat.zero_le _, Nat.zero_le _, rfl, C2.out, B2.out, Nat.le_refl _⟩
  case round =>
    obtain ⟨k, L, hk2, hkl, rfl, hm, hb, hlen⟩ := hrel
    have HM := Lib.hid hm
    have HB := Lib.hid hb
    clear hm hb C2 B2
    rw [HE.out] at hkl
    by_cases hlt : k < n ∧ k < 200
    · obtain ⟨hlt1, hlt2⟩ := hlt
      have hkl2 : k < l.length := by rw [HE.out]; exact hlt1
      obtain ⟨b, off, rfl, hbs, c0, c1, c2x⟩ := (H.out.below (Nat.le_refl _) HB.out).at_ hkl2
      clear c2x
      have HKS := Lib.hid (H.out.2.1 l[k] (List.getElem_mem hkl2))
      generalize l[k] = x at c0 c1 HKS
      obtain ⟨key, S, got⟩ := x
      simp only at c0 c1 HKS
      have hlti : (k : Int) < (n : Int) := by omega
      have hlti2 : (k : Int) < 200 := by omega
      have hk0 : (0 : Int) ≤ (k : Int) := by omega
      have HL := Lib.hid hlen
      have HK2 := Lib.hid hk2
      have HPL := Lib.hid (putL_len room 0 L ⟨key, S, (k : Int)⟩)
      have C5 : Hid (∀ W, W = wr.drew → Calls Try.prog 11 #[.pointer (some ⟨g, 0, none⟩), .string key, .int .i64 S, .int .i64 (k : Int)] W (WayPost W w.heap.size g (putL room 0 L ⟨key, S, (k : Int)⟩) room 0 (wayOk room 0 S) (wG room 0 S (drp L key)))) := fun W hW => by
        subst hW
        exact put_any _ g L room 0 ⟨key, S, (k : Int)⟩ _ (HM.out.below (Below.refl _ _).drew) HB.out.size (by have := HL.out; have := HK2.out; omega) HKS.out
      have CC : Hid (∀ W W', W = wr.drew → Fr cK w.heap.size W W' → Below w.heap.size w W') := fun W W' hW hf => by subst hW; exact HB.out.drew.trans hf.below
      have CD : Hid (∀ W', Below w.heap.size w W' → W'.cell? ⟨b, off + k * 3, none⟩ = some (.string key) ∧ W'.cell? ⟨b, off + k * 3 + 1, none⟩ = some (.int .i64 S)) := fun W' hW' => by
        have hlt0 : b < w.heap.size := by
          obtain ⟨b', off', e1, h1, _⟩ := H.out.2.2 (by omega)
          injection e1 with e1
          injection e1 with e1 e2 _
          omega
        have e : ∀ o, W'.cell? ⟨b, o, none⟩ = wr.cell? ⟨b, o, none⟩ := fun o => (hW'.cell (p := ⟨b, o, none⟩) hlt0).trans (HB.out.cell (p := ⟨b, o, none⟩) hlt0).symm
        rw [e, e]
        exact ⟨c0, c1⟩
      clear hkl2 hlen hbs
      go_wp2_with fail
      go_region_held3 (fun w' => w'.cell? ⟨b, off + k * 3, none⟩ = some (.string key) ∧ w'.cell? ⟨b, off + k * 3 + 1, none⟩ = some (.int .i64 S)) (first | go_keep | exact CD.out _ B3.out)
        (first | (go_at_call 11; (with_reducible refine (C5.out _ ?hh).mono ?_); (case hh => exact rfl); rintro r W3 ⟨v3, rfl, _, c3, f3⟩; have C3 := Lib.hid c3; have B3 := Lib.hid (CC.out _ _ rfl f3); clear c3 f3))
      go_wp2
      go_roundw
      case rel => exact ⟨k + 1, _, by omega, by have := HE.out; omega, by go_num, C3.out, B3.out, by have := HPL.out; have := HL.out; omega⟩
      case measure => simp [intOf]; omega
    · have hcase : ¬ (k : Int) < (n : Int) ∨ ((k : Int) < (n : Int) ∧ ¬ (k : Int) < 200) := by omega
      have HLL : Hid (L.length ≤ 200) := by show _ ≤ _; omega
      clear hlt hk2 hkl hlen H
      obtain ⟨j, hj, hwl, hwg⟩ := way_split room 0 nr L
      obtain ⟨nL, hnL⟩ : ∃ nL, nL = L.length := ⟨_, rfl⟩
      obtain ⟨nG, hnG⟩ : ∃ nG, nG = nL - j := ⟨_, rfl⟩
      obtain ⟨okb, hokb⟩ : ∃ okb, okb = wayOk room 0 nr := ⟨_, rfl⟩
      obtain ⟨kp, hkp⟩ : ∃ kp, kp = resK room 0 nr := ⟨_, rfl⟩
      have CK : Hid (∀ W, CacheAt W w.heap.size g L room 0 → Calls Try.prog 27 #[.pointer (some ⟨g, 0, none⟩)] W fun r w' => ∃ A c, r = .returned (.slice A nL c) ∧ Row w' W.heap.size (.slice A nL c) (keys L) ∧ Below W.heap.size W w') := fun W hW => by
        rw [hnL]
        exact keys_at2 _ g L room 0 hW (by have := HLL.out; omega)
      have CR : Hid (∀ W, CacheAt W w.heap.size g L room 0 → w.heap.size ≤ W.heap.size → Calls Try.prog 19 #[.pointer (some ⟨g, 0, none⟩), .int .i64 nr] W fun r w' => ∃ A c, r = .returned (.tuple #[.slice A nG c, .bool okb]) ∧
          Row w' W.heap.size (.slice A nG c) ((keys L).drop j).reverse ∧ CacheAt w' w.heap.size g (L.take j) room kp ∧ Fr cK w.heap.size W w') := fun W hW hs => by
        refine (reserve_at _ g L room 0 nr hW hs (by have := HLL.out; omega)).mono ?_
        rintro r w' ⟨A, c, rfl, _, ho, hc, hf⟩
        rw [hwl] at hc
        rw [hwg, gone_len, ← hnL, ← hnG] at ho ⊢
        rw [gone_keys] at ho
        rw [← hokb]
        rw [← hkp] at hc
        exact ⟨A, c, rfl, ho, hc, hf⟩
      have CK2 : Hid (∀ W kk, CacheAt W w.heap.size g (L.take j) room kk → Calls Try.prog 27 #[.pointer (some ⟨g, 0, none⟩)] W fun r w' => ∃ A c, r = .returned (.slice A j c) ∧ Row w' W.heap.size (.slice A j c) ((keys L).take j) ∧ Below W.heap.size W w') := fun W kk hW => by
        have := keys_at2 _ g (L.take j) room kk hW (by have := HLL.out; rw [List.length_take]; omega)
        rw [List.length_take, show min j L.length = j by omega, take_keys] at this
        exact this
      obtain ⟨uu, huu⟩ : ∃ uu, uu = tot (L.take j) + kp := ⟨_, rfl⟩
      have CU : Hid (∀ W, CacheAt W w.heap.size g (L.take j) room kp → Calls Try.prog 24 #[.pointer (some ⟨g, 0, none⟩)] W fun r w' => r = .returned (.int .i64 uu) ∧ w' = W.drew ∧ ¬ uu > room) := fun W hW => by
        rw [huu]
        refine (used_any _ g (L.take j) room kp W hW).mono ?_
        rintro r w' ⟨rfl, rfl⟩
        exact ⟨rfl, rfl, by have := hW.good.fits; omega⟩
      have CL : Hid (∀ W, CacheAt W w.heap.size g (L.take j) room kp → Calls Try.prog 21 #[.pointer (some ⟨g, 0, none⟩), .int .i64 nr] W (GetPost W w.heap.size g (L.take j) room 0 (.tuple #[]))) := fun W hW => by
        have := release_any w.heap.size g (L.take j) room kp nr W hW
        rw [hkp, rel_res] at this
        exact this
      have hsum : (j : Int) + (nG : Int) = (nL : Int) := by omega
      have hways : (okb = true ∧ nr ≥ 0 ∧ nr ≤ room ∧ kp = nr) ∨ (okb = false ∧ kp = 0 ∧ ¬ nr ≥ 0) ∨ (okb = false ∧ kp = 0 ∧ nr ≥ 0 ∧ ¬ nr ≤ room) := by
        rw [hokb, hkp]
        unfold resK
        cases hw : wayOk room 0 nr with
        | true =>
          obtain ⟨h1, h2⟩ := wayOk_iff.mp hw
          exact .inl ⟨rfl, by omega, by omega, by simp⟩
        | false =>
          have : ¬ (0 ≤ nr ∧ nr ≤ room - 0) := fun h => by rw [wayOk_iff.mpr h] at hw; cases hw
          by_cases h0 : nr ≥ 0
          · exact .inr (.inr ⟨rfl, by simp, h0, by omega⟩)
          · exact .inr (.inl ⟨rfl, by simp, h0⟩)
      have HKL : Hid ((keys L).length = nL ∧ j ≤ nL ∧ nL ≤ 200 ∧ nG = nL - j) := ⟨by rw [keys_length, hnL], by omega, by have := HLL.out; omega, hnG⟩
      generalize keys L = kl at CK CR CK2 HKL
      clear hj hwl hwg hnL hnG hokb hkp huu
      have hjn : (j : Int) ≤ (nL : Int) := by have := HKL.out; omega
      have hwn : wrap64 (nL : Int) = (nL : Int) := by unfold wrap64; have := HKL.out; omega
      rcases hcase with hc1 | ⟨hc1, hc2⟩ <;> rcases hways with ⟨rfl, hw1, hw2, hw3⟩ | ⟨rfl, hw3, hw1⟩ | ⟨rfl, hw3, hw1, hw2⟩
      all_goals
        go_wp2_with fail
        refine (CK.out _ HM.out).mono ?_
        rintro r wa ⟨Ak, ck, rfl, ra, ba⟩
        have RA := Lib.hid ra
        have BA := Lib.hid (HB.out.trans (ba.mono HB.out.size))
        have MA := Lib.hid (HM.out.below ba)
        clear ra ba
        go_wp2_with fail
        refine (CR.out _ MA.out BA.out.size).mono ?_
        rintro r wb ⟨Ag, cg, rfl, rg, cb, fb⟩
        have RG := Lib.hid rg
        have RB := Lib.hid (RA.out.fr fb (by simp [cK]))
        have MB := Lib.hid cb
        have BB := Lib.hid (BA.out.trans fb.below)
        clear rg cb fb RA BA MA
        go_wp2_with fail
        refine (CK2.out _ _ MB.out).mono ?_
        rintro r wc ⟨Al, cl, rfl, rl, bc⟩
        have RL := Lib.hid rl
        have RGc := Lib.hid (RG.out.below bc)
        have RKc := Lib.hid (RB.out.below bc)
        have MC := Lib.hid (MB.out.below bc)
        have BC := Lib.hid (BB.out.trans (bc.mono BB.out.size))
        clear rl bc RG RB MB BB
        go_wp2_with fail
        refine (reserved_any _ g _ room kp wc MC.out).mono ?_
        rintro r wd ⟨rfl, rfl⟩
        go_wp2_with fail
        refine (CU.out _ MC.out).mono ?_
        rintro r wd ⟨rfl, rfl, hle⟩
        have SK := Lib.hid (Row.strs_of (RKc.out.below (Below.refl _ _).drew) (by have := HKL.out; unfold maxLen; omega))
        have SG := Lib.hid (Row.strs_of (RGc.out.below (Below.refl _ _).drew) (by have := HKL.out; simp; unfold maxLen; omega))
        have SL := Lib.hid (Row.strs_of (RL.out.below (Below.refl _ _).drew) (by have := HKL.out; simp; unfold maxLen; omega))
        have MD := Lib.hid (MC.out.below (Below.refl _ _).drew)
        have BD := Lib.hid (BC.out.drew)
        clear RL RGc RKc MC BC
        go_wp2
        go_loopw [97] (Ix j wc.drew) (fun i _ => j - (intOf i).toNat)
        case atStart => exact ⟨0, Nat.zero_le _, rfl, Below.refl _ _⟩
        case round =>
          obtain ⟨i, hi, rfl, hbi⟩ := hrel
          have HBI := Lib.hid hbi
          clear hbi
          by_cases hij : i < j
          · have hil : i < kl.length := by have := HKL.out; omega
            have hx : kl[i]? = some kl[i] := List.getElem?_eq_getElem hil
            obtain ⟨b1, o1, rfl, k1⟩ := SL.out.get HBI.out (k := i) (s := kl[i]) (by rw [List.getElem?_take, if_pos hij]; exact hx)
            obtain ⟨b2, o2, rfl, k2⟩ := SK.out.get HBI.out hx
            generalize kl[i] = x at k1 k2
            have hiji : (i : Int) < (j : Int) := by omega
            have hin : (i : Int) < (nL : Int) := by omega
            have hi0 : (0 : Int) ≤ (i : Int) := by omega
            have hi2 : (i : Int) ≤ 200 := by have := HKL.out; omega
            clear hil hx
            go_wp2_with fail
            go_quiet (fail)
            go_wp2
            go_roundw
            case rel => exact ⟨i + 1, by omega, by go_num, HBI.out.trans ⟨rfl, rfl, rfl, Nat.le_refl _, fun _ _ => rfl⟩⟩
            case measure => simp [intOf]; omega
          · have hije : ¬ (i : Int) < (j : Int) := by omega
            clear hi
            go_wp2
            have HBI2 := Lib.hid HBI.out
            go_loopw [112] (Ix nG wr) (fun i _ => nG - (intOf i).toNat)
            case atStart => exact ⟨0, Nat.zero_le _, rfl, Below.refl _ _⟩
            case round =>
              obtain ⟨m, hm, rfl, hbm⟩ := hrel
              have HBM := Lib.hid (HBI2.out.trans (hbm.mono HBI2.out.size))
              have HB0 := Lib.hid hbm
              clear hbm
              by_cases hmn : m < nG
              · have hkk := HKL.out
                have hil : nL - 1 - m < kl.length := by omega
                have hx : kl[nL - 1 - m]? = some kl[nL - 1 - m] := List.getElem?_eq_getElem hil
                obtain ⟨b1, o1, rfl, k1⟩ := SG.out.get HBM.out (k := m) (s := kl[nL - 1 - m]) (by rw [rev_at hkk.1 (by omega)]; exact hx)
                obtain ⟨b2, o2, rfl, k2⟩ := SK.out.get HBM.out hx
                generalize kl[nL - 1 - m] = x at k1 k2
                obtain ⟨p, hp⟩ : ∃ p, p = nL - 1 := ⟨_, rfl⟩
                obtain ⟨r, hr⟩ : ∃ r, r = p - m := ⟨_, rfl⟩
                have hs1 : IntKind.i64.wrap ((nL : Int) - 1) = (p : Int) := by rw [show (nL : Int) - 1 = (p : Int) by omega]; exact IntWalk.i64_in _ (by omega)
                have hs2 : IntKind.i64.wrap ((p : Int) - (m : Int)) = (r : Int) := by rw [show (p : Int) - (m : Int) = (r : Int) by omega]; exact IntWalk.i64_in _ (by omega)
                rw [show nL - 1 - m = r by omega] at k2
                have hmni : (m : Int) < (nG : Int) := by omega
                have hrn : (r : Int) < (nL : Int) := by omega
                have hm0 : (0 : Int) ≤ (m : Int) := by omega
                have hr0 : (0 : Int) ≤ (r : Int) := by omega
                have hm2 : (m : Int) ≤ 200 := by omega
                clear hil hx hkk hp hr
                go_wp2_with fail
                go_quiet (fail)
                go_wp2
                go_roundw
                case rel => exact ⟨m + 1, by omega, by go_num, HB0.out.trans ⟨rfl, rfl, rfl, Nat.le_refl _, fun _ _ => rfl⟩⟩
                case measure => simp [intOf]; omega
              · have hmne : ¬ (m : Int) < (nG : Int) := by omega
                have ME := Lib.hid (MD.out.below HBM.out)
                have BE := Lib.hid (BD.out.trans (HBM.out.mono BD.out.size))
                clear hm
                go_wp2_with fail
                refine (CL.out _ ME.out).mono ?_
                rintro r we ⟨rfl, ce, fe⟩
                have MF := Lib.hid ce
                have BF := Lib.hid (BE.out.trans fe.below)
                clear ce fe ME BE
                go_wp2_with fail
                refine (reserved_any _ g _ room 0 we MF.out).mono ?_
                rintro r wf ⟨rfl, rfl⟩
                go_wp2_with fail
                refine (CK2.out _ _ MF.out).mono ?_
                rintro r wh ⟨Ah, ch, rfl, _, bh⟩
                have BH := Lib.hid (BF.out.trans (bh.mono BF.out.size))
                clear bh
                go_wp2
                go_ret
                exact ⟨rfl, BH.out⟩
end Go.Proofs.Ytmhpngfkipooiaa
