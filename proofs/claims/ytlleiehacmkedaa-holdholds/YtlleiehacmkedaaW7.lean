/-
  The walk of HoldHolds. Its conditions: the script reads as steps.
-/
import Derived.Test.YtlleiehacmkedaaW6
import Derived.Deep.CutBlock
namespace Go.Proofs.Ytlleiehacmkedaa
open Go.RowKit Go.Maps Go.ChangeMaps
open Go.Sort (grow)

/-- What was noted holds. -/
def Held (N : List Step) (L : List Tm) (f : Int) : Prop := ∀ x ∈ N, 1 ≤ x.t.n → x.t.n ≤ bar L f x.t.k
theorem Held.note {N : List Step} {L : List Tm} {f limit : Int} (h : Held N L f) (hg : Good L f limit) (o : Step) : Held (N ++ [o]) (noteL L o.t.k o.t.n limit) (noteF L f o.t.k o.t.n limit) := by
  intro x hx h1
  rcases List.mem_append.mp hx with hx | hx
  · exact Int.le_trans (h x hx h1) (bar_note hg _ _ _)
  · rw [List.mem_singleton] at hx
    subst hx
    exact bar_noted hg _ h1
/-- Those above a number. -/
def above (n : Int) (N : List Step) : List Step := N.filter fun x => decide (x.t.n > n)
theorem Held.pass {N : List Step} {L : List Tm} {f limit : Int} (h : Held N L f) (hg : Good L f limit) (n : Int) : Held (above n N) (passL L n) (passF f n) := by
  intro x hx h1
  obtain ⟨h2, h3⟩ := List.mem_filter.mp hx
  exact bar_pass hg (h x h2 h1) (by simpa using h3)
theorem above_take {N : List Step} {n : Int} {j : Nat} (hj : j < N.length) : above n (N.take (j + 1)) = above n (N.take j) ++ (if N[j].t.n > n then [N[j]] else []) := by
  unfold above
  rw [List.take_succ_eq_append_getElem hj, List.filter_append]
  congr 1
  by_cases h : N[j].t.n > n <;> simp [h]
theorem above_le (n : Int) (N : List Step) : (above n N).length ≤ N.length := List.length_filter_le _ _
theorem RowT.app_fr {α : Type} {E : Enc α} {e : TypeId} {W W' : World} {base : Nat} {v : Value} {l : List α} (h : RowT E e W base v l) (hbs : base ≤ W.heap.size) (hg : W.grownBy W' v.ownBlock) : Fr [e] [] base W W' := by
  cases hk : v.ownBlock with
  | none =>
    rw [hk] at hg
    exact Fr.of_below (Below.of_none hg) hbs
  | some k =>
    rw [hk] at hg
    obtain ⟨hb, cs, hcs⟩ := h.own hk
    exact (Fr.refl _ _ _ _).grown hg hcs (.inl (by simp [kd])) hb
def HhRel (l : List Step) (g B : Nat) (limit : Int) (w : World) (s6 s7 : Value) (wr : World) : Prop :=
  ∃ (k : Nat) (L : List Tm) (f : Int) (N : List Step) (v : Value), k ≤ 100 ∧ k ≤ l.length ∧ v = s6 ∧ s7 = .int .i64 (k : Int) ∧ St w wr g B L f limit ∧ L.length ≤ k ∧ RowT eSt 31 wr w.heap.size v N ∧ N.length ≤ k ∧ (∀ x ∈ N, Ok x.t) ∧ Held N L f
def SwRel (g B : Nat) (limit : Int) (w : World) (k : Nat) (s6 _s9 _s11 : Value) (wc : World) : Prop :=
  ∃ (L : List Tm) (f : Int) (N : List Step) (v : Value), v = s6 ∧ St w wc g B L f limit ∧ L.length ≤ k + 1 ∧ RowT eSt 31 wc w.heap.size v N ∧ N.length ≤ k + 1 ∧ (∀ x ∈ N, Ok x.t) ∧ Held N L f
def HlRel (N : List Step) (n : Int) (W4 : World) (s9 s54 : Value) (wr : World) : Prop :=
  ∃ (j : Nat) (v : Value), j ≤ N.length ∧ v = s9 ∧ s54 = .int .i64 (j : Int) ∧ RowT eSt 31 wr W4.heap.size v (above n (N.take j)) ∧ Below W4.heap.size W4 wr
def H3Rel (m : Nat) (W5 : World) (s75 : Value) (wr : World) : Prop := ∃ j : Nat, j ≤ m ∧ s75 = .int .i64 (j : Int) ∧ Below W5.heap.size W5 wr
set_option maxRecDepth 100000 in
set_option maxHeartbeats 8000000 in
theorem holds_walk (limit : Int) (l : List Step) (A : Option Addr) (n c : Nat) (w : World) (hs : Scr w A l) (hn : l.length = n) :
    Calls Try.prog 4 #[.int .i64 limit, .slice A n c] w fun e w' => e = .returned (.bool true) ∧ Below w.heap.size w w' := by
  have H := Lib.hid hs
  have HE := Lib.hid hn
  clear hs hn
  go_enter Try.func4, Try.ntmps4
  go_wp2_with fail
  refine (awake_any w).mono ?_
  rintro e w1 ⟨rfl, b1⟩
  have B1 := Lib.hid b1
  clear b1
  go_wp2_with fail
  refine (new_any w.heap.size limit w1 B1.out.size).mono ?_
  rintro e w2 ⟨g, B, rfl, t2, b2, _, _⟩
  have S2 : Hid (St w w2 g B [] 0 limit) := ⟨t2, B1.out.trans (b2.mono B1.out.size)⟩
  clear t2 b2 B1
  go_wp2
  go_loopw [6, 7] (HhRel l g B limit w) (fun _ i _ => 101 - (intOf i).toNat)
  case atStart => exact ⟨0, [], 0, [], _, Nat.zero_le _, Nat.zero_le _, rfl, rfl, S2.out, Nat.le_refl _, RowT.nil _, Nat.le_refl _, by simp, by intro x hx; cases hx⟩
  case round =>
    obtain ⟨k, L, f, N, v, hk2, hkl, rfl, rfl, hm, hL, hrow, hNl, hNo, hh⟩ := hrel
    have HM := Lib.hid hm
    have HLL := Lib.hid hL
    have HROW := Lib.hid hrow
    have HNL := Lib.hid hNl
    have HNO := Lib.hid hNo
    have HH := Lib.hid hh
    obtain ⟨m, hmn⟩ : ∃ m, m = N.length := ⟨_, rfl⟩
    obtain ⟨A6, c6, hv, hc6, hA6⟩ := hrow.form
    rw [← hmn] at hv
    subst hv
    have HMN := Lib.hid hmn
    clear hm hL hrow hNl hNo hh S2 hmn hc6 hA6
    rw [HE.out] at hkl
    by_cases hlt : k < n ∧ k < 100
    · obtain ⟨hlt1, hlt2⟩ := hlt
      have hkl2 : k < l.length := by rw [HE.out]; exact hlt1
      obtain ⟨b, off, rfl, hbs, c0, c1, c2⟩ := at_st (H.out.below (Nat.le_refl _) HM.out.bel).1 hkl2
      have HKS := Lib.hid (H.out.2 l[k] (List.getElem_mem hkl2))
      generalize l[k] = o at c0 c1 c2 HKS
      obtain ⟨K, o⟩ := o
      simp only at c0 c1 c2 HKS
      have hlti : (k : Int) < (n : Int) := by omega
      have hlti2 : (k : Int) < 100 := by omega
      have hk0 : (0 : Int) ≤ (k : Int) := by omega
      have HK2 : Hid (k ≤ 99 ∧ k + 1 ≤ l.length) := by show _ ∧ _; omega
      clear hkl2 hbs hk2 hkl
      go_upto_block 2 with fail
      obtain ⟨q, hq⟩ : ∃ q, q = wr.heap.size := ⟨_, rfl⟩
      obtain ⟨W, hW⟩ : ∃ W, wr.alloc (.cells #[.int .i64 K, .string o.k, .int .i64 o.n] 31) = W := ⟨_, rfl⟩
      have b3 : Below wr.heap.size wr W := hW ▸ (Below.refl _ _).alloc (Nat.le_refl _) _
      have x3 : W.heap[q]? = some (oStep ⟨K, o⟩) := by rw [← hW, hq]; exact heap_new _ _
      have S3 := Lib.hid (HM.out.below b3)
      have O3 := Lib.hid x3
      have ROW3 := Lib.hid (HROW.out.below b3)
      rw [hW, ← hq]
      clear b3 x3 hW hq c0 c1 c2 HM HROW
      obtain ⟨z0, z1, z2⟩ := step_cells O3.out
      simp only at z0 z1 z2
      go_cut [6, 9, 11] from 34 to 91 (SwRel g B limit w k)
      case first =>
        by_cases hK0 : K = 0
        · subst hK0
          have C1 := Lib.hid (st_note S3.out o HKS.out (by have := HLL.out; have := HK2.out; omega))
          go_wp2_with fail
          refine C1.out.mono ?_
          rintro r w4 ⟨rfl, s4, k4⟩
          have S4 := Lib.hid s4
          have O4 := Lib.hid (k4.keep q _ O3.out (by simp [oStep, kd, kT]) (by simp))
          have ROW4 := Lib.hid (ROW3.out.fr k4 (by simp [kT]) (by simp))
          clear s4 k4 z0 z1 z2
          obtain ⟨z0, z1, z2⟩ := step_cells O4.out
          simp only at z0 z1 z2
          have b5 : Below w4.heap.size w4 (w4.alloc (.cells #[.int .i64 0, .string o.k, .int .i64 o.n] 31)) := (Below.refl _ _).alloc (Nat.le_refl _) _
          have row5 := ROW4.out.below b5
          have hbs5 : w.heap.size ≤ (w4.alloc (.cells #[.int .i64 0, .string o.k, .int .i64 o.n] 31)).heap.size := Nat.le_trans S4.out.bel.size b5.size
          obtain ⟨v', W', hrun, ho, hg'⟩ := RowT.app el22 row5 hbs5 (sl_one (E := eSt) w4 ⟨0, o⟩ 31) (n := 1) (c := 1) rfl (by simp) (by have := HNL.out; have := HK2.out; omega)
          have HRUN := Lib.hid hrun
          have S5 := Lib.hid ((S4.out.below b5).fr (row5.app_fr hbs5 hg') (by simp) (by simp))
          have HO := Lib.hid ho
          clear hrun hg' row5 hbs5 b5 ho
          go_wp2_with (first | (at_builtin; refine wpList_append_run rfl _ _ 22 22 rfl _ _ rfl rfl _ W' HRUN.out ?_))
          go_meet
          case rel => exact ⟨_, _, _, _, rfl, S5.out, by have := noteL_le L o.k o.n limit S3.out.tab.good.rs; have := HLL.out; omega, HO.out, by simp; have := HNL.out; omega, fun x hx => by rcases List.mem_append.mp hx with hx | hx; exact HNO.out x hx; rw [List.mem_singleton] at hx; subst hx; exact HKS.out, HH.out.note S3.out.tab.good ⟨0, o⟩⟩
        · by_cases hK1 : K = 1
          · subst hK1
            have C1 := Lib.hid (st_pass S3.out o.n (by have := HLL.out; have := HK2.out; omega))
            go_wp2_with fail
            refine C1.out.mono ?_
            rintro r w4 ⟨rfl, s4, k4⟩
            have S4 := Lib.hid s4
            have O4 := Lib.hid (k4.keep q _ O3.out (by simp [oStep, kd, kT]) (by simp))
            have ROW4 := Lib.hid (ROW3.out.fr k4 (by simp [kT]) (by simp))
            have SL4 : Hid (Sl eSt w4 A6 N) := by
              obtain ⟨A', c', e, t', _⟩ := ROW4.out.sl (by have := HNL.out; have := HK2.out; unfold maxLen; omega)
              cases e
              exact t'
            have hm100 : (m : Int) ≤ 100 := by have := HNL.out; have := HK2.out; have := HMN.out; omega
            clear s4 k4 z0 z1 z2 C1
            go_wp2
            go_loopw [9, 54] (HlRel N o.n w4) (fun _ i _ => m - (intOf i).toNat)
            case atStart => exact ⟨0, _, Nat.zero_le _, rfl, rfl, RowT.nil _, Below.refl _ _⟩
            case round =>
              obtain ⟨j, v9, hj, rfl, rfl, hrow, hb⟩ := hrel
              have HR := Lib.hid hrow
              have HB := Lib.hid hb
              have hj100 : j ≤ 100 := by have := HNL.out; have := HK2.out; omega
              clear hrow hb
              by_cases hjm : j < m
              · have hjl : j < N.length := by have := HMN.out; omega
                obtain ⟨b5, o5, rfl, _, d0, d1, d2⟩ := at_st (SL4.out.below (Nat.le_refl _) HB.out) hjl
                have HT := Lib.hid (above_take (n := o.n) hjl)
                have HJ : Hid (j + 1 ≤ N.length) := hjl
                have HAL : Hid ((above o.n (N.take j)).length ≤ j) := Nat.le_trans (above_le _ _) (by rw [List.length_take]; omega)
                generalize N[j] = x at d0 d1 d2 HT
                obtain ⟨K2, x⟩ := x
                simp only at d0 d1 d2 HT
                have hji : (j : Int) < (m : Int) := by omega
                have hj0 : (0 : Int) ≤ (j : Int) := by omega
                clear hjl hj
                go_upto_region 19 with fail
                obtain ⟨p, hp⟩ : ∃ p, p = wr.heap.size := ⟨_, rfl⟩
                obtain ⟨W1, hW1⟩ : ∃ W1, wr.alloc (.cells #[.int .i64 K2, .string x.k, .int .i64 x.n] 31) = W1 := ⟨_, rfl⟩
                have b6 : Below wr.heap.size wr W1 := hW1 ▸ (Below.refl _ _).alloc (Nat.le_refl _) _
                have x6 : W1.heap[p]? = some (oStep ⟨K2, x⟩) := by rw [← hW1, hp]; exact heap_new _ _
                have O6 : W1.heap[q]? = some (oStep ⟨1, o⟩) := ((HB.out.trans (b6.mono HB.out.size)).block q (lt_of_heap O4.out)).trans O4.out
                have HB6 := Lib.hid (HB.out.trans (b6.mono HB.out.size))
                have HR6 := Lib.hid (HR.out.below b6)
                rw [hW1, ← hp]
                obtain ⟨y0, y1, y2⟩ := step_cells x6
                obtain ⟨z0, z1, z2⟩ := step_cells O6
                simp only at y0 y1 y2 z0 z1 z2
                clear b6 x6 O6 hW1 hp d0 d1 d2 HB HR
                by_cases hgt : x.n > o.n
                · have b7 : Below W1.heap.size W1 (W1.alloc (.cells #[.int .i64 K2, .string x.k, .int .i64 x.n] 31)) := (Below.refl _ _).alloc (Nat.le_refl _) _
                  obtain ⟨v', W', hrun, ho, hb'⟩ := RowT.grow el22 (w := w4) rfl (HR6.out.below b7) (HB6.out.trans (b7.mono HB6.out.size)) (sl_one (E := eSt) W1 ⟨K2, x⟩ 31) (n := 1) (c := 1) rfl (by simp) (by have := HAL.out; omega)
                  have HRUN := Lib.hid hrun
                  have HO : Hid (RowT eSt 31 W' w4.heap.size v' (above o.n (N.take (j + 1)))) := by
                    show RowT _ _ _ _ _ _
                    rw [HT.out, if_pos hgt]
                    exact ho
                  have HBB := Lib.hid hb'
                  clear hrun ho hb' b7
                  go_wp2_with (first | (at_builtin; refine wpList_append_run rfl _ _ 22 22 rfl _ _ rfl rfl _ W' HRUN.out ?_))
                  go_roundw
                  case rel => exact ⟨j + 1, _, HJ.out, rfl, by go_num, HO.out, HBB.out⟩
                  case measure => simp [intOf]; omega
                · have HO : Hid (RowT eSt 31 W1 w4.heap.size v9 (above o.n (N.take (j + 1)))) := by
                    show RowT _ _ _ _ _ _
                    rw [HT.out, if_neg hgt, List.append_nil]
                    exact HR6.out
                  go_wp2
                  go_roundw
                  case rel => exact ⟨j + 1, _, HJ.out, rfl, by go_num, HO.out, HB6.out⟩
                  case measure => simp [intOf]; omega
              · have hje : j = N.length := by have := HMN.out; omega
                have hji : ¬ (j : Int) < (m : Int) := by omega
                rw [hje, List.take_length] at HR
                clear hje hj
                go_wp2
                go_meet
                case rel => exact ⟨_, _, _, _, rfl, S4.out.below HB.out, by have := passL_le L o.n; have := HLL.out; omega, HR.out.down S4.out.bel.size, by have := above_le o.n N; have := HNL.out; omega, fun x hx => HNO.out x (List.mem_filter.mp hx).1, HH.out.pass S3.out.tab.good o.n⟩
          · by_cases hK2 : K = 2
            · subst hK2
              go_wp2_with fail
              refine (st_clear S3.out).mono ?_
              rintro r w4 ⟨rfl, s4, k4⟩
              have S4 := Lib.hid s4
              clear s4 k4
              go_wp2
              go_meet
              case rel => exact ⟨_, _, [], _, rfl, S4.out, by simp, RowT.nil _, by simp, by simp, by intro x hx; cases hx⟩
            · go_wp2
              go_meet
              case rel => exact ⟨_, _, _, _, rfl, S3.out, by have := HLL.out; omega, ROW3.out, by have := HNL.out; omega, HNO.out, HH.out⟩
      case rest =>
        obtain ⟨L2, f2, N2, v2, rfl, s5, hL2, row5, hN2, hok2, hh2⟩ := hcut
        obtain ⟨A2, c2, hv2, sl5, _⟩ := row5.sl (by have := HK2.out; unfold maxLen; omega)
        obtain ⟨m2, hm2⟩ : ∃ m2, m2 = N2.length := ⟨_, rfl⟩
        rw [← hm2] at hv2
        subst hv2
        have hm100 : (m2 : Int) ≤ 101 := by have := HK2.out; omega
        have S5 := Lib.hid s5
        have SL5 := Lib.hid sl5
        have ROW5 := Lib.hid row5
        have HL5 : Hid (L2.length ≤ k + 1 ∧ N2.length ≤ k + 1) := ⟨hL2, hN2⟩
        have HOK5 := Lib.hid hok2
        have HH5 := Lib.hid hh2
        have HM2 := Lib.hid hm2
        clear s5 hL2 row5 hN2 hok2 hh2 sl5 hm2 z0 z1 z2 S3 O3 ROW3 HH HNO HNL HLL HMN
        go_wp2
        go_loopw [75] (H3Rel m2 wc) (fun i _ => m2 - (intOf i).toNat)
        case atStart => exact ⟨0, Nat.zero_le _, rfl, Below.refl _ _⟩
        case round =>
          obtain ⟨j, hj, rfl, hb⟩ := hrel
          have HB := Lib.hid hb
          clear hb
          by_cases hjm : j < m2
          · have hjl : j < N2.length := by have := HM2.out; omega
            obtain ⟨b5, o5, rfl, _, d0, d1, d2⟩ := at_st (SL5.out.below (Nat.le_refl _) HB.out) hjl
            have HX := Lib.hid (HOK5.out N2[j] (List.getElem_mem hjl))
            have HXH := Lib.hid (HH5.out N2[j] (List.getElem_mem hjl))
            have HJ : Hid (j + 1 ≤ m2) := hjm
            generalize N2[j] = x at d0 d1 d2 HX HXH
            obtain ⟨K2, x⟩ := x
            simp only at d0 d1 d2 HX HXH
            have hji : (j : Int) < (m2 : Int) := by omega
            have hj0 : (0 : Int) ≤ (j : Int) := by omega
            clear hjl hj
            go_upto_region 29 with fail
            obtain ⟨p, hp⟩ : ∃ p, p = wr.heap.size := ⟨_, rfl⟩
            obtain ⟨W1, hW1⟩ : ∃ W1, wr.alloc (.cells #[.int .i64 K2, .string x.k, .int .i64 x.n] 31) = W1 := ⟨_, rfl⟩
            have b6 : Below wr.heap.size wr W1 := hW1 ▸ (Below.refl _ _).alloc (Nat.le_refl _) _
            have x6 : W1.heap[p]? = some (oStep ⟨K2, x⟩) := by rw [← hW1, hp]; exact heap_new _ _
            have HB6 := Lib.hid (HB.out.trans (b6.mono HB.out.size))
            have S6 := Lib.hid (S5.out.below HB6.out)
            rw [hW1, ← hp]
            obtain ⟨y0, y1, y2⟩ := step_cells x6
            simp only at y0 y1 y2
            clear b6 x6 hW1 hp d0 d1 d2 HB
            obtain ⟨pr, hpr⟩ : ∃ pr, pr = x.n - 1 := ⟨_, rfl⟩
            by_cases hx1 : x.n ≥ 1
            · have hwr : IntKind.i64.wrap (x.n - 1) = pr := by rw [hpr]; exact IntWalk.i64_in _ (by have := int_top HX.out.n; omega)
              have hwr2 : wrap64 (x.n - 1) = pr := by rw [hpr]; unfold wrap64; have := int_top HX.out.n; omega
              have CA := Lib.hid (st_allows S6.out x.k HX.out.k pr)
              rw [show decide (pr ≥ bar L2 f2 x.k) = false from decide_eq_false (by have := HXH.out hx1; omega)] at CA
              clear hpr
              go_wp2_with fail
              refine CA.out.mono ?_
              rintro r w7 ⟨rfl, s7, b7⟩
              have HB7 := Lib.hid (HB6.out.trans (b7.mono HB6.out.size))
              clear s7 b7
              go_wp2
              go_roundw
              case rel => exact ⟨j + 1, HJ.out, by go_num, HB7.out⟩
              case measure => simp [intOf]; omega
            · clear hpr
              go_wp2
              go_roundw
              case rel => exact ⟨j + 1, HJ.out, by go_num, HB6.out⟩
              case measure => simp [intOf]; omega
          · have hji : ¬ (j : Int) < (m2 : Int) := by omega
            clear hjm hj
            go_wp2
            go_roundw
            case rel => exact ⟨k + 1, L2, f2, N2, _, by have := HK2.out; omega, HK2.out.2, rfl, by go_num, S5.out.below HB.out, HL5.out.1, ROW5.out.below HB.out, HL5.out.2, HOK5.out, HH5.out⟩
            case measure => simp [intOf]; omega
    · have hcase : ¬ (k : Int) < (n : Int) ∨ ((k : Int) < (n : Int) ∧ ¬ (k : Int) < 100) := by omega
      clear hlt hk2 hkl
      rcases hcase with hc1 | ⟨hc1, hc2⟩
      all_goals
        go_wp2
        go_ret
        exact ⟨rfl, HM.out.bel⟩
end Go.Proofs.Ytlleiehacmkedaa
