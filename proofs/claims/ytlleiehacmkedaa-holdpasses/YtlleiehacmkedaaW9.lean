/-
  The walk of HoldPasses. Its conditions: the stones read as such.
-/
import Derived.Test.YtlleiehacmkedaaW8
import Derived.Deep.CutBlock
namespace Go.Proofs.Ytlleiehacmkedaa
open Go.RowKit Go.Maps Go.ChangeMaps
open Go.Sort (grow)

theorem st_keys {w0 W : World} {g B : Nat} {L : List Tm} {floor limit : Int} (s : St w0 W g B L floor limit) (hl : L.length ≤ 100000) : Calls Try.prog 20 #[.pointer (some ⟨g, 0, none⟩)] W fun r w' => ∃ A c, r = .returned (.slice A L.length c) ∧ Sl eKy w' A (keys L) ∧ Below W.heap.size W w' ∧ L.length ≤ c ∧ (A = none → c = 0) :=
  keys_any _ g B L floor limit W s.tab hl
theorem mem_bar {L : List Tm} {f n : Int} {k : ByteArray} (hr : Rises L) (hk : k ∈ keys (passL L n)) : ¬ n ≥ bar (passL L n) f k := by
  obtain ⟨x, hx, rfl⟩ := List.mem_map.mp hk
  have h1 := val_mem (hr.filter _) hx
  have h2 := (mem_passL.mp hx).2
  unfold bar
  unfold passL at h1 ⊢
  rw [h1]
  omega
theorem passF_cases (f n : Int) : passF f n = 0 ∨ (¬ passF f n = 0 ∧ ¬ passF f n ≤ n) := by
  unfold passF
  split
  · exact .inl rfl
  · by_cases h : f = 0
    · exact .inl h
    · exact .inr ⟨h, by omega⟩
def P1Rel (l : List Tk) (g B : Nat) (limit : Int) (w : World) (s8 : Value) (wr : World) : Prop :=
  ∃ (k : Nat) (L : List Tm) (f : Int), k ≤ 200 ∧ k ≤ l.length ∧ s8 = .int .i64 (k : Int) ∧ St w wr g B L f limit ∧ L.length ≤ k
def C1Rel (g B : Nat) (limit : Int) (w : World) (_s8 : Value) (wc : World) : Prop := ∃ (L : List Tm) (f : Int), St w wc g B L f limit ∧ L.length ≤ 200
def K2Rel (m : Nat) (W5 : World) (s73 : Value) (wr : World) : Prop := ∃ j : Nat, j ≤ m ∧ s73 = .int .i64 (j : Int) ∧ Below W5.heap.size W5 wr
def K3Rel (W5 : World) (s13 : Value) (wr : World) : Prop := ∃ j : Nat, j ≤ 200 ∧ s13 = .int .i64 (j : Int) ∧ Below W5.heap.size W5 wr
set_option maxRecDepth 100000 in
set_option maxHeartbeats 8000000 in
theorem passes_walk (limit : Int) (l : List Tk) (A : Option Addr) (n c : Nat) (idx : Int) (w : World) (hs : Ths w A l) (hn : l.length = n) :
    Calls Try.prog 7 #[.int .i64 limit, .slice A n c, .int .i64 idx] w fun e w' => e = .returned (.bool true) ∧ Below w.heap.size w w' := by
  have H := Lib.hid hs
  have HE := Lib.hid hn
  clear hs hn
  go_enter Try.func7, Try.ntmps7
  go_wp2_with fail
  refine (awake_any w).mono ?_
  rintro e w1 ⟨rfl, b1⟩
  have B1 := Lib.hid b1
  clear b1
  go_wp2_with fail
  refine (new_any w.heap.size limit w1 B1.out.size).mono ?_
  rintro e w2 ⟨g, B, rfl, t2, b2, _, _⟩
  have S2 : Hid (St w w2 g B [] 0 limit) := ⟨t2, B1.out.trans (b2.mono B1.out.size)⟩
  clear t2 b2 B1
  go_upto_block 0 with fail
  go_cut [8] from 18 to 39 (C1Rel g B limit w)
  case first =>
    go_wp2
    go_loopw [8] (P1Rel l g B limit w) (fun i _ => 201 - (intOf i).toNat)
    case atStart => exact ⟨0, [], 0, Nat.zero_le _, Nat.zero_le _, rfl, S2.out, Nat.le_refl _⟩
    case round =>
      obtain ⟨k, L, f, hk2, hkl, rfl, hm, hL⟩ := hrel
      have HM := Lib.hid hm
      have HLL := Lib.hid hL
      clear hm hL S2
      rw [HE.out] at hkl
      by_cases hlt : k < n ∧ k < 200
      · obtain ⟨hlt1, hlt2⟩ := hlt
        have hkl2 : k < l.length := by rw [HE.out]; exact hlt1
        obtain ⟨b, off, rfl, hbs, c0, c1⟩ := at_tm (H.out.below (Nat.le_refl _) HM.out.bel).1 hkl2
        have HKS := Lib.hid (H.out.2 l[k] (List.getElem_mem hkl2))
        have CD := Lib.hid (fun W (hb : Below w.heap.size w W) => at_tm2 (H.out.below (Nat.le_refl _) hb).1 hkl2)
        generalize l[k] = x at c0 c1 HKS CD
        have hlti : (k : Int) < (n : Int) := by omega
        have hlti2 : (k : Int) < 200 := by omega
        have hk0 : (0 : Int) ≤ (k : Int) := by omega
        have HK2 : Hid (k ≤ 199 ∧ k + 1 ≤ l.length) := by show _ ∧ _; omega
        have C1 := Lib.hid (fun W (s : St w W g B L f limit) => st_note s x HKS.out (by have := HLL.out; have := HK2.out; omega))
        have SD := Lib.hid HM.out.drew
        have LL2 := Lib.hid (noteL_le L x.k x.n limit HM.out.tab.good.rs)
        clear hkl2 hbs hk2 hkl
        go_wp2_with fail
        go_region_held3 (fun w' => w'.cell? ⟨b, off + k * 2, none⟩ = some (.string x.k) ∧ w'.cell? ⟨b, off + k * 2 + 1, none⟩ = some (.int .i64 x.n)) (first | go_keep | exact CD.out _ SA.out.bel | exact ⟨c0, c1⟩)
          (first | (go_at_call 10; (with_reducible refine (C1.out _ SD.out).mono ?_); rintro r wa ⟨rfl, sa, ka⟩; have SA := Lib.hid sa; clear sa ka))
        clear c0 c1
        go_wp2
        go_roundw
        case rel => exact ⟨k + 1, _, _, by have := HK2.out; omega, HK2.out.2, by go_num, SA.out, by have := LL2.out; have := HLL.out; omega⟩
        case measure => simp [intOf]; omega
      · have hcase : ¬ (k : Int) < (n : Int) ∨ ((k : Int) < (n : Int) ∧ ¬ (k : Int) < 200) := by omega
        have HL3 : Hid (L.length ≤ 200) := by have := HLL.out; show _ ≤ _; omega
        clear hlt hk2 hkl
        rcases hcase with hc1 | ⟨hc1, hc2⟩
        all_goals
          go_wp2
          go_meet
          case rel => exact ⟨L, f, HM.out, HL3.out⟩
  case rest =>
    obtain ⟨L, f, s3, hL⟩ := hcut
    have S3 := Lib.hid s3
    have HL := Lib.hid hL
    obtain ⟨p1, hp1⟩ : ∃ p1, p1 = L.length := ⟨_, rfl⟩
    obtain ⟨p2, hp2⟩ : ∃ p2, p2 = (passL L idx).length := ⟨_, rfl⟩
    have hle := passL_le L idx
    obtain ⟨gn, hgn⟩ : ∃ gn, gn = gone L idx := ⟨_, rfl⟩
    have hwr : wrap64 (gn + (p2 : Int)) = (p1 : Int) := by rw [hgn]; unfold gone wrap64; rw [← hp1, ← hp2]; omega
    have hwr2 : IntKind.i64.wrap (gn + (p2 : Int)) = (p1 : Int) := by rw [IntWalk.i64_in _ (by rw [hgn]; unfold gone; rw [← hp1, ← hp2]; omega), hgn]; unfold gone; rw [← hp1, ← hp2]; omega
    have CL := Lib.hid (st_len s3)
    rw [← hp1] at CL
    have CP := Lib.hid (st_pass s3 idx (by omega))
    rw [← hgn] at CP
    have HP2 := Lib.hid hp2
    have HP1 : Hid (p2 ≤ 200) := by show _ ≤ _; omega
    have HRS := Lib.hid s3.tab.good.rs
    clear s3 hL hp1 hp2 hle hgn S2
    go_wp2_with fail
    refine CL.out.mono ?_
    rintro r w5 ⟨rfl, rfl⟩
    go_wp2_with fail
    refine CP.out.mono ?_
    rintro r w6 ⟨rfl, s6, _⟩
    have S6 := Lib.hid s6
    have CK := Lib.hid (st_keys s6 (by rw [← HP2.out]; have := HP1.out; omega))
    rw [← HP2.out] at CK
    clear s6 CL CP S3
    go_wp2_with fail
    refine CK.out.mono ?_
    rintro r w7 ⟨A7, c7, rfl, sl7, b7, _, _⟩
    have S7 := Lib.hid (S6.out.below b7)
    have SL7 := Lib.hid sl7
    clear sl7 b7 CK S6
    have CL7 := Lib.hid (st_len S7.out)
    rw [← HP2.out] at CL7
    obtain ⟨f2, hf2⟩ : ∃ f2, f2 = passF f idx := ⟨_, rfl⟩
    have hfc := passF_cases f idx
    rw [← hf2] at S7 hfc
    have HFC := Lib.hid hfc
    clear hf2 hfc
    go_upto_region 11 with fail
    go_cut [70] from 47 to 69 (fun s70 wx => s70 = .bool false ∧ wx = w7)
    case first =>
      go_wp2_with fail
      refine CL7.out.mono ?_
      rintro r w8 ⟨rfl, rfl⟩
      go_wp2_with fail
      refine CL7.out.mono ?_
      rintro r w8 ⟨rfl, rfl⟩
      go_wp2_with fail
      refine (st_floor S7.out).mono ?_
      rintro r w8 ⟨rfl, rfl⟩
      rcases HFC.out with h1 | ⟨h1, h2⟩
      · go_wp2
        go_meet
        case rel => exact ⟨rfl, rfl⟩
      · have h3 : decide (f2 ≤ idx) = false := decide_eq_false (by omega)
        go_wp2_with fail
        refine (st_floor S7.out).mono ?_
        rintro r w8 ⟨rfl, rfl⟩
        go_wp2
        go_meet
        case rel => exact ⟨rfl, rfl⟩
    case rest =>
      obtain ⟨rfl, rfl⟩ := hcut
      have hp200 : (p2 : Int) ≤ 200 := by have := HP1.out; omega
      go_wp2
      go_loopw [73] (K2Rel p2 wc) (fun i _ => p2 - (intOf i).toNat)
      case atStart => exact ⟨0, Nat.zero_le _, rfl, Below.refl _ _⟩
      case round =>
        obtain ⟨j, hj, rfl, hb⟩ := hrel
        have HB := Lib.hid hb
        clear hb
        by_cases hjp : j < p2
        · have hjl : j < (keys (passL L idx)).length := by rw [keys_length]; have := HP2.out; omega
          obtain ⟨bk, ok, rfl, _, d0⟩ := at_ky (SL7.out.below (Nat.le_refl _) HB.out) hjl
          have hmem := List.getElem_mem hjl
          have HNB := Lib.hid (mem_bar (f := f2) HRS.out hmem)
          have HOK : Hid ((keys (passL L idx))[j].size ≤ maxLen) := by
            obtain ⟨x, hx, e⟩ := List.mem_map.mp hmem
            show _ ≤ _
            rw [← e]
            exact (S7.out.tab.ok x hx).k
          have HPR : Hid (∀ d, d + 1 = j → ∃ kd', wr.cell? ⟨bk, ok + d, none⟩ = some (.string kd') ∧ Op.bytesLess kd'.toList (keys (passL L idx))[j].toList = true) := by
            intro d hd
            have hdl : d < (keys (passL L idx)).length := by omega
            obtain ⟨b', o', e, _, d1⟩ := at_ky (SL7.out.below (Nat.le_refl _) HB.out) hdl
            cases e
            have hkr : KRises (keys (passL L idx)) := (HRS.out.filter _ : Rises (passL L idx)).keys
            exact ⟨_, d1, (List.pairwise_iff_getElem.mp hkr) d j hdl hjl (by omega)⟩
          have HJ : Hid (j + 1 ≤ p2) := hjp
          generalize (keys (passL L idx))[j] = key at d0 HNB HOK HPR
          have hji : (j : Int) < (p2 : Int) := by omega
          have hj0 : (0 : Int) ≤ (j : Int) := by omega
          have C1 : Hid (∀ d os, Calls Try.prog 15 #[.pointer (some ⟨g, 0, none⟩), .string key, .int .i64 idx] (grow (redrawn wr d) os) fun e' w'' => e' = .returned (.bool false) ∧ ∃ p : Regrown, w'' = grow (redrawn wr p.d) p.os) :=
            fun d os => Calls.regrown_of ((st_allows ((S7.out.below HB.out).below (below_regrown wr d os)) key HOK.out idx).mono fun r w' hh => ⟨by rw [hh.1, show decide (idx ≥ bar (passL L idx) f2 key) = false from decide_eq_false HNB.out], hh.2.2⟩)
          have g0 := fun d os => cell_regrown d0 d os
          clear hmem hjl hj
          by_cases hz : j = 0
          · have hd1 : decide ((j : Int) > 0) = false := decide_eq_false (by omega)
            have hd2 : ¬ (j : Int) > 0 := by omega
            have hd3 : decide (0 < j) = false := decide_eq_false (by omega)
            clear hz
            go_wp2_with fail
            refine wp_region_quiet_below (by kernel_rfl) (by kernel_rfl) ?_
            repeat (go_big_quiet_step (first | with_reducible exact C1.out _ _))
            refine wpQuiet_nil ?_
            intro w9 hw'
            obtain ⟨⟨dq, osq⟩, hw''⟩ := hw'
            have b9 : Below wr.heap.size wr w9 := by rw [hw'']; exact below_regrown wr dq osq
            have HB9 := Lib.hid (HB.out.trans (b9.mono HB.out.size))
            clear hw'' b9 g0 d0 C1
            go_wp2
            go_roundw
            case rel => exact ⟨j + 1, HJ.out, by go_num, HB9.out⟩
            case measure => simp [intOf]; omega
          · obtain ⟨d, hd⟩ : ∃ d, d + 1 = j := ⟨j - 1, by omega⟩
            obtain ⟨kd', d1, hbl⟩ := HPR.out d hd
            have g1 := fun d os => cell_regrown d1 d os
            have hd1 : decide ((j : Int) > 0) = true := decide_eq_true (by omega)
            have hd2 : (j : Int) > 0 := by omega
            have hd3 : decide (0 < j) = true := decide_eq_true (by omega)
            have hw1 : IntKind.i64.wrap ((j : Int) - 1) = (d : Int) := by rw [IntWalk.i64_in _ (by omega)]; omega
            have hw2 : wrap64 ((j : Int) - 1) = (d : Int) := by unfold wrap64; omega
            have hdi : (d : Int) < (p2 : Int) := by omega
            have hdi0 : (0 : Int) ≤ (d : Int) := by omega
            have HD := Lib.hid hd
            clear hz hd
            go_wp2_with fail
            refine wp_region_quiet_below (by kernel_rfl) (by kernel_rfl) ?_
            repeat (go_big_quiet_step (first | with_reducible exact C1.out _ _))
            refine wpQuiet_nil ?_
            intro w9 hw'
            obtain ⟨⟨dq, osq⟩, hw''⟩ := hw'
            have b9 : Below wr.heap.size wr w9 := by rw [hw'']; exact below_regrown wr dq osq
            have HB9 := Lib.hid (HB.out.trans (b9.mono HB.out.size))
            clear hw'' b9 g0 g1 d0 d1 C1 hbl hw1 hw2
            go_wp2
            go_roundw
            case rel => exact ⟨j + 1, HJ.out, by go_num, HB9.out⟩
            case measure => simp [intOf]; omega
        · have hji : ¬ (j : Int) < (p2 : Int) := by omega
          have HBj := Lib.hid HB.out
          obtain ⟨W9, hW9⟩ : ∃ W9, W9 = wr := ⟨_, rfl⟩
          rw [← hW9] at HBj
          have HW9 := Lib.hid hW9
          clear hjp hj hW9
          go_wp2
          go_loopw [13] (K3Rel wc) (fun i _ => 201 - (intOf i).toNat)
          case atStart => exact ⟨0, Nat.zero_le _, rfl, by rw [← HW9.out]; exact HBj.out⟩
          case round =>
            obtain ⟨i, hi, rfl, hb3⟩ := hrel
            have HB3 := Lib.hid hb3
            clear hb3
            by_cases hlt : i < n ∧ i < 200
            · obtain ⟨hlt1, hlt2⟩ := hlt
              have hil : i < l.length := by rw [HE.out]; exact hlt1
              obtain ⟨b, off, rfl, _, c0, c1⟩ := at_tm (H.out.below (Nat.le_refl _) (S7.out.below HB3.out).bel).1 hil
              have HKS := Lib.hid (H.out.2 l[i] (List.getElem_mem hil))
              generalize l[i] = x at c0 c1 HKS
              have hlti : (i : Int) < (n : Int) := by omega
              have hlti2 : (i : Int) < 200 := by omega
              have hi0 : (0 : Int) ≤ (i : Int) := by omega
              have HI : Hid (i ≤ 199) := by show _ ≤ _; omega
              clear hil hi
              by_cases hp : p2 = 0
              · have hp4 : decide ((p2 : Int) = 0) = true := decide_eq_true (by omega)
                have hp5 : ((p2 : Int) == 0) = true := by simpa using hp
                have hnil : passL L idx = [] := List.eq_nil_of_length_eq_zero (by rw [← HP2.out]; exact hp)
                have HNIL := Lib.hid hnil
                clear hp hnil
                by_cases hf0 : f2 = 0
                · have CA := Lib.hid (st_allows (S7.out.below HB3.out) x.k HKS.out.k 0)
                  rw [HNIL.out, hf0, aw5 _ _ (Int.le_refl _)] at CA
                  have CF := Lib.hid (st_floor (S7.out.below HB3.out))
                  rw [hf0] at CF
                  clear hf0
                  go_wp2_with fail
                  refine CF.out.mono ?_
                  rintro r w9 ⟨rfl, rfl⟩
                  go_wp2_with fail
                  refine CA.out.mono ?_
                  rintro r w9 ⟨rfl, _, b9⟩
                  have HB9 := Lib.hid (HB3.out.trans (b9.mono HB3.out.size))
                  clear b9
                  go_wp2
                  go_roundw
                  case rel => exact ⟨i + 1, by have := HI.out; omega, by go_num, HB9.out⟩
                  case measure => simp [intOf]; omega
                · have hf1 : decide (f2 = 0) = false := decide_eq_false hf0
                  go_wp2_with fail
                  refine (st_floor (S7.out.below HB3.out)).mono ?_
                  rintro r w9 ⟨rfl, rfl⟩
                  go_wp2
                  go_roundw
                  case rel => exact ⟨i + 1, by have := HI.out; omega, by go_num, HB3.out⟩
                  case measure => simp [intOf]; omega
              · have hp3 : ¬ (p2 : Int) = 0 := by omega
                have hp4 : decide ((p2 : Int) = 0) = false := decide_eq_false hp3
                clear hp
                go_wp2
                go_roundw
                case rel => exact ⟨i + 1, by have := HI.out; omega, by go_num, HB3.out⟩
                case measure => simp [intOf]; omega
            · have hcase : ¬ (i : Int) < (n : Int) ∨ ((i : Int) < (n : Int) ∧ ¬ (i : Int) < 200) := by omega
              clear hlt hi
              rcases hcase with hc1 | ⟨hc1, hc2⟩
              all_goals
                go_wp2
                go_ret
                exact ⟨rfl, (S7.out.below HB3.out).bel⟩
end Go.Proofs.Ytlleiehacmkedaa
