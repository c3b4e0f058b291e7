/-
  The walk of MarkerOrder. Its conditions: the slice reads as steps.
-/
import Derived.Test.YtkonkldcallimaaW11
namespace Go.Proofs.Ytkonkldcallimaa
open Go.RowKit Go.Maps
open Go.Sort (grow)

theorem setE_room {L : List Mk} {m : Mk} {limit : Int} (h : (L.length : Int) < limit) : setE L m limit = 0 := by
  unfold setE
  split
  · rfl
  · rw [if_neg (by omega)]
theorem length_setL {L : List Mk} {m : Mk} {limit : Int} : (setL L m limit).length ≤ L.length + 1 := by
  unfold setL
  split
  · omega
  · split
    · omega
    · rename_i h _
      rw [length_ins h]
      omega
theorem scr_cells {w : World} {b off : Nat} {l : List Step} (h : Scr w (some ⟨b, off, none⟩) l) {k : Nat} (hk : k < l.length) :
    w.cell? ⟨b, off + k * 4 + 1, none⟩ = some (.string l[k].m.k) ∧ w.cell? ⟨b, off + k * 4 + 2, none⟩ = some (.int .i64 l[k].m.s) ∧ w.cell? ⟨b, off + k * 4 + 3, none⟩ = some (.int .i64 l[k].m.r) := by
  obtain ⟨b', off', e, _, _, h1, h2, h3⟩ := h.at_ hk
  cases e
  exact ⟨h1, h2, h3⟩
theorem tgs_cells {e : TypeId} {w : World} {b off : Nat} {l : List Mk} (h : Tgs e w (some ⟨b, off, none⟩) l) {k : Nat} (hk : k < l.length) :
    w.cell? ⟨b, off + k * 3, none⟩ = some (.string l[k].k) ∧ w.cell? ⟨b, off + k * 3 + 1, none⟩ = some (.int .i64 l[k].s) ∧ w.cell? ⟨b, off + k * 3 + 2, none⟩ = some (.int .i64 l[k].r) := by
  obtain ⟨b', off', e, _, h1, h2, h3⟩ := h.at_ hk
  cases e
  exact ⟨h1, h2, h3⟩
/-- Two tables side by side. -/
structure Two (w0 W : World) (g B h C : Nat) (L M : List Mk) : Prop where
  one : TableAt W w0.heap.size g B L 1000
  two : TableAt W w0.heap.size h C M 1000
  ne : B ≠ C
  bel : Below w0.heap.size w0 W
section
variable {w0 W W' : World} {g B h C : Nat} {L M L' : List Mk}
theorem Two.below (s : Two w0 W g B h C L M) (hb : Below W.heap.size W W') : Two w0 W' g B h C L M := ⟨s.one.below hb, s.two.below hb, s.ne, s.bel.trans (hb.mono s.bel.size)⟩
theorem Two.drew (s : Two w0 W g B h C L M) : Two w0 W.drew g B h C L M := s.below (Below.refl _ _).drew
theorem not_mapB {limit limit' : Int} {base base' : Nat} (s : TableAt W base g B L limit) (t : TableAt W base' h C M limit') : h ≠ B := by
  rintro rfl
  obtain ⟨es, c, hb⟩ := s.mp.isMap
  have := t.box
  unfold Box at this
  rw [hb] at this
  cases this
theorem two_one (s : Two w0 W g B h C L M) (m : Mk) (hm : Ok m) : Calls Try.prog 10 #[.pointer (some ⟨g, 0, none⟩), .string m.k, .int .i64 m.s, .int .i64 m.r] W fun r w' => r = .returned (.int .i64 (setE L m 1000)) ∧ Two w0 w' g B h C (setL L m 1000) M := by
  refine (set_any _ g B L 1000 m W s.one hm s.bel.size).mono ?_
  rintro r w' ⟨rfl, ht, hf⟩
  exact ⟨rfl, ht, s.two.keep hf (by simp) (by simp) (by simpa using not_mapB s.one s.two) (by simpa using fun e => s.ne e.symm), s.ne, s.bel.trans hf.below⟩
theorem two_two (s : Two w0 W g B h C L M) (m : Mk) (hm : Ok m) : Calls Try.prog 10 #[.pointer (some ⟨h, 0, none⟩), .string m.k, .int .i64 m.s, .int .i64 m.r] W fun r w' => r = .returned (.int .i64 (setE M m 1000)) ∧ Two w0 w' g B h C L (setL M m 1000) := by
  refine (set_any _ h C M 1000 m W s.two hm s.bel.size).mono ?_
  rintro r w' ⟨rfl, ht, hf⟩
  exact ⟨rfl, s.one.keep hf (by simp) (by simp) (by simpa using not_mapB s.two s.one) (by simpa using s.ne), ht, s.ne, s.bel.trans hf.below⟩
end
/-- Both tables have what was set: the one from the first on, the other from the last. -/
structure Had (l : List Step) (N k : Nat) (L M : List Mk) : Prop where
  one : ∀ q, q ∈ L ↔ ∃ i x, i < k ∧ l[i]? = some x ∧ x.m = q
  two : ∀ q, q ∈ M ↔ ∃ i x, i < k ∧ l[N - 1 - i]? = some x ∧ x.m = q
  l1 : L.length ≤ k
  l2 : M.length ≤ k
theorem Had.start (l : List Step) (N : Nat) : Had l N 0 [] [] := ⟨by simp, by simp, Nat.le_refl _, Nat.le_refl _⟩
theorem Had.next {l : List Step} {N k : Nat} {L M : List Mk} (h : Had l N k L M) (hk : k < 200) {x y : Step} (hx : l[k]? = some x) (hy : l[N - 1 - k]? = some y) : Had l N (k + 1) (setL L x.m 1000) (setL M y.m 1000) := by
  have e1 : setE L x.m 1000 = 0 := setE_room (by have := h.l1; omega)
  have e2 : setE M y.m 1000 = 0 := setE_room (by have := h.l2; omega)
  refine ⟨fun q => ?_, fun q => ?_, by have := h.l1; have := @length_setL L x.m 1000; omega, by have := h.l2; have := @length_setL M y.m 1000; omega⟩
  · rw [mem_setL, h.one, e1]
    constructor
    · rintro (⟨i, z, hi, hz, e⟩ | ⟨rfl, _⟩)
      · exact ⟨i, z, by omega, hz, e⟩
      · exact ⟨k, x, by omega, hx, rfl⟩
    · rintro ⟨i, z, hi, hz, e⟩
      by_cases hik : i = k
      · subst hik
        rw [hx] at hz
        cases hz
        exact .inr ⟨e.symm, rfl⟩
      · exact .inl ⟨i, z, by omega, hz, e⟩
  · rw [mem_setL, h.two, e2]
    constructor
    · rintro (⟨i, z, hi, hz, e⟩ | ⟨rfl, _⟩)
      · exact ⟨i, z, by omega, hz, e⟩
      · exact ⟨k, y, by omega, hy, rfl⟩
    · rintro ⟨i, z, hi, hz, e⟩
      by_cases hik : i = k
      · subst hik
        rw [hy] at hz
        cases hz
        exact .inr ⟨e.symm, rfl⟩
      · exact .inl ⟨i, z, by omega, hz, e⟩
theorem Had.same {l : List Step} {N : Nat} {L M : List Mk} (h : Had l N N L M) (h1 : Rises L) (h2 : Rises M) : L = M := by
  refine rises_one h1 h2 fun q => ?_
  rw [h.one, h.two]
  constructor
  · rintro ⟨i, x, hi, hx, e⟩
    exact ⟨N - 1 - i, x, by omega, by rw [show N - 1 - (N - 1 - i) = i by omega]; exact hx, e⟩
  · rintro ⟨i, x, hi, hx, e⟩
    exact ⟨N - 1 - i, x, by omega, hx, e⟩
def OrRel (l : List Step) (N g B h C : Nat) (w : World) (s6 : Value) (wr : World) : Prop :=
  ∃ (k : Nat) (L M : List Mk), k ≤ N ∧ s6 = .int .i64 (k : Int) ∧ Two w wr g B h C L M ∧ Had l N k L M
def Or2 (o : Nat) (W5 : World) (s85 : Value) (wr : World) : Prop := ∃ j : Nat, j ≤ o ∧ s85 = .int .i64 (j : Int) ∧ Below W5.heap.size W5 wr
set_option maxRecDepth 100000 in
set_option maxHeartbeats 8000000 in
theorem order_walk (l : List Step) (A : Option Addr) (n c : Nat) (w : World) (hs : Scr w A l) (hn : l.length = n) :
    Calls Try.prog 7 #[.slice A n c] w fun e w' => e = .returned (.bool true) ∧ Below w.heap.size w w' := by
  obtain ⟨N, hN⟩ : ∃ N : Nat, N = min n 200 := ⟨_, rfl⟩
  have hmin : ∀ w, (Builtin.min_ #[3, 3] 3 #[.int .i64 (n : Int), .int .i64 200]).run Try.prog w = .ok (.int .i64 (N : Int)) w := fun w => run_min2 w _ _ _ _ _ (by omega)
  have H := Lib.hid hs
  have HE := Lib.hid hn
  have HN : Hid (N ≤ n ∧ N ≤ 200) := by show _ ∧ _; omega
  clear hs hn hN
  go_enter Try.func7, Try.ntmps7
  go_wp2_with fail
  refine (awake_any w).mono ?_
  rintro e w1 ⟨rfl, b1⟩
  have B1 := Lib.hid b1
  clear b1
  go_wp2_with fail
  refine (new_any w.heap.size 1000 w1 B1.out.size (by omega)).mono ?_
  rintro e w2 ⟨g, B, rfl, t2, b2, hg2, hB2⟩
  have T2 := Lib.hid t2
  have B2 := Lib.hid (B1.out.trans (b2.mono B1.out.size))
  clear t2 b2 B1 hg2 hB2
  go_wp2_with fail
  refine (new_any w.heap.size 1000 w2 B2.out.size (by omega)).mono ?_
  rintro e w3 ⟨h, C, rfl, t3, b3, hg3, hC3⟩
  have S3 : Hid (Two w w3 g B h C [] []) := ⟨T2.out.below b3, t3, by have := lt_of_heap T2.out.mp.isMap.choose_spec.choose_spec; omega, B2.out.trans (b3.mono B2.out.size)⟩
  clear t3 b3 hg3 hC3 T2 B2
  go_wp2
  go_loopw [6] (OrRel l N g B h C w) (fun i _ => 201 - (intOf i).toNat)
  case atStart => exact ⟨0, [], [], Nat.zero_le _, rfl, S3.out, Had.start l N⟩
  case round =>
    obtain ⟨k, L, M, hkN, rfl, hm, hh⟩ := hrel
    have HM := Lib.hid hm
    have HH := Lib.hid hh
    clear hm hh S3 hmin
    by_cases hlt : k < N
    · have hkl : k < l.length := by have := HE.out; have := HN.out; omega
      have hdl : N - 1 - k < l.length := by have := HE.out; have := HN.out; omega
      obtain ⟨b, off, rfl, hbs, c0, c1, c2, c3⟩ := (H.out.below (Nat.le_refl _) HM.out.bel).at_ hkl
      have HKX := Lib.hid (H.out.2.1 l[k] (List.getElem_mem hkl))
      have HKY := Lib.hid (H.out.2.1 l[N - 1 - k] (List.getElem_mem hdl))
      have CX := Lib.hid (fun W (hb : Below w.heap.size w W) => scr_cells (H.out.below (Nat.le_refl _) hb) hkl)
      have CY := Lib.hid (fun W (hb : Below w.heap.size w W) => scr_cells (H.out.below (Nat.le_refl _) hb) hdl)
      have HNX := Lib.hid (HH.out.next (by have := HN.out; omega) (List.getElem?_eq_getElem hkl) (List.getElem?_eq_getElem hdl))
      generalize l[k] = x at c0 c1 c2 c3 HKX CX HNX
      generalize l[N - 1 - k] = y at HKY CY HNX
      obtain ⟨K, m⟩ := x
      obtain ⟨K2, m2⟩ := y
      simp only at c0 c1 c2 c3 HKX HKY CX CY HNX
      obtain ⟨p, hp⟩ : ∃ p, p = N - 1 := ⟨_, rfl⟩
      obtain ⟨d, hd⟩ : ∃ d, d = N - 1 - k := ⟨_, rfl⟩
      rw [← hd] at CY
      have hw1 : IntKind.i64.wrap ((N : Int) - 1) = (p : Int) := by rw [IntWalk.i64_in _ (by have := HN.out; omega)]; omega
      have hw2 : IntKind.i64.wrap ((p : Int) - (k : Int)) = (d : Int) := by rw [IntWalk.i64_in _ (by have := HN.out; omega)]; omega
      have hw3 : wrap64 ((N : Int) - 1) = (p : Int) := by have := HN.out; unfold wrap64; omega
      have hw4 : wrap64 ((p : Int) - (k : Int)) = (d : Int) := by have := HN.out; unfold wrap64; omega
      have hki : (k : Int) < (N : Int) := by omega
      have hkn : (k : Int) < (n : Int) := by have := HN.out; omega
      have hdn : (d : Int) < (n : Int) := by have := HN.out; omega
      have hk0 : (0 : Int) ≤ (k : Int) := by omega
      have hd0 : (0 : Int) ≤ (d : Int) := by omega
      have hk2 : (k : Int) < 200 := by have := HN.out; omega
      have HK2 : Hid (k + 1 ≤ N ∧ k < 200) := by show _ ∧ _; have := HN.out; omega
      have SD := Lib.hid HM.out.drew
      clear hkl hdl hbs hlt hkN hp hd
      go_wp2_with fail
      go_region_held3 (fun w' => w'.cell? ⟨b, off + k * 4 + 1, none⟩ = some (.string m.k) ∧ w'.cell? ⟨b, off + k * 4 + 2, none⟩ = some (.int .i64 m.s) ∧ w'.cell? ⟨b, off + k * 4 + 3, none⟩ = some (.int .i64 m.r)) (first | go_keep | exact CX.out _ SA.out.bel | exact ⟨c1, c2, c3⟩)
        (first | (go_at_call 10; (with_reducible refine (two_one SD.out m HKX.out).mono ?_); rintro r wa ⟨rfl, sa⟩; have SA := Lib.hid sa; clear sa))
      have SD2 := Lib.hid SA.out.drew
      obtain ⟨e1, e2, e3⟩ := CY.out _ SA.out.bel
      clear c0 c1 c2 c3 SD HM
      go_wp2_with fail
      go_region_held3 (fun w' => w'.cell? ⟨b, off + d * 4 + 1, none⟩ = some (.string m2.k) ∧ w'.cell? ⟨b, off + d * 4 + 2, none⟩ = some (.int .i64 m2.s) ∧ w'.cell? ⟨b, off + d * 4 + 3, none⟩ = some (.int .i64 m2.r)) (first | go_keep | exact CY.out _ SB.out.bel | exact ⟨e1, e2, e3⟩)
        (first | (go_at_call 10; (with_reducible refine (two_two SD2.out m2 HKY.out).mono ?_); rintro r wb ⟨rfl, sb⟩; have SB := Lib.hid sb; clear sb))
      go_wp2
      go_roundw
      case rel => exact ⟨k + 1, _, _, HK2.out.1, by go_num, SB.out, HNX.out⟩
      case measure => simp [intOf]; omega
    · have hke : k = N := by omega
      subst hke
      have hLM : L = M := HH.out.same HM.out.one.good.rs HM.out.two.good.rs
      subst hLM
      have HL2 : Hid (L.length ≤ 200) := by show _ ≤ _; have := HH.out.l1; have := HN.out; omega
      have hki : ¬ (k : Int) < (k : Int) := by omega
      clear hlt hkN HH
      have CA := Lib.hid (all_any _ g B L 1000 wr HM.out.one (by have := HL2.out; omega))
      obtain ⟨a, ha⟩ : ∃ a, a = L.length := ⟨_, rfl⟩
      rw [← ha] at CA
      have HA := Lib.hid ha
      clear ha
      go_wp2_with fail
      refine CA.out.mono ?_
      rintro r W2 ⟨A2, cc2, rfl, tg2, b2, _, _⟩
      have TG2 := Lib.hid tg2
      have S2 := Lib.hid (HM.out.below b2)
      clear tg2 b2 CA HM
      have CB := Lib.hid (all_any _ h C L 1000 W2 S2.out.two (by have := HL2.out; omega))
      rw [← HA.out] at CB
      go_wp2_with fail
      refine CB.out.mono ?_
      rintro r W3 ⟨A3, cc3, rfl, tg3, b3, _, _⟩
      have TG3 := Lib.hid tg3
      have TX3 := Lib.hid (TG2.out.below (Nat.le_refl _) b3)
      have S3 := Lib.hid (S2.out.below b3)
      clear tg3 b3 CB S2 TG2
      have CL := Lib.hid (len_any _ g B L 1000 W3 S3.out.one)
      rw [← HA.out] at CL
      have han : (a : Int) ≤ 200 := by have := HL2.out; have := HA.out; omega
      go_wp2_with fail
      refine CL.out.mono ?_
      rintro r W4 ⟨rfl, rfl⟩
      go_wp2
      go_loopw [85] (Or2 a W3) (fun i _ => a - (intOf i).toNat)
      case atStart => exact ⟨0, Nat.zero_le _, rfl, Below.refl _ _⟩
      case round =>
        obtain ⟨i, hi, rfl, hb6⟩ := hrel
        have HB6 := Lib.hid hb6
        clear hb6
        by_cases hio : i < a
        · have hil : i < L.length := by have := HA.out; omega
          obtain ⟨x, xo, rfl, hxl, x0, x1, x2⟩ := (TX3.out.below (Nat.le_refl _) HB6.out).at_ hil
          obtain ⟨y, yo, rfl, _, y0, y1, y2⟩ := (TG3.out.below (Nat.le_refl _) HB6.out).at_ hil
          have HI9 : Hid (i + 1 ≤ a) := hio
          have hii : (i : Int) < (a : Int) := by omega
          have hi0 : (0 : Int) ≤ (i : Int) := by omega
          have HIL := Lib.hid hil
          have CQ := Lib.hid (fun W (hb : Below W3.heap.size W3 W) => tgs_cells (TX3.out.below (Nat.le_refl _) hb) hil)
          have hRS : ∀ j, i = j + 1 → ∃ hj : j < L.length, mlt L[j] L[i] = true := fun j e => by
            subst e
            exact ⟨by omega, List.pairwise_iff_getElem.mp S3.out.one.good.rs j (j + 1) (by omega) hil (by omega)⟩
          have HRS := Lib.hid hRS
          generalize L[i] = m at x0 x1 x2 y0 y1 y2 HRS CQ
          have hi200 : (i : Int) < 200 := by omega
          clear hil hi hxl hRS
          go_wp2_with fail
          go_quiet (fail)
          have HB7 := Lib.hid (HB6.out.trans ((below_drewN wr nq).mono HB6.out.size))
          generalize wr.drewN nq = W9 at HB7 ⊢
          clear x0 x1 x2 y0 y1 y2
          by_cases hiz : i = 0
          · subst hiz
            go_wp2
            go_roundw
            case rel => exact ⟨0 + 1, HI9.out, by go_num, HB7.out⟩
            case measure => simp [intOf]; omega
          · obtain ⟨j, hj⟩ : ∃ j, i = j + 1 := ⟨i - 1, by omega⟩
            obtain ⟨hjl, hlt⟩ := HRS.out j hj
            have CP := Lib.hid (fun W (hb : Below W3.heap.size W3 W) => tgs_cells (TX3.out.below (Nat.le_refl _) hb) hjl)
            generalize L[j] = p at CP hlt
            have HLT := Lib.hid hlt
            obtain ⟨p0, p1, p2⟩ := CP.out _ HB7.out
            obtain ⟨x0, x1, x2⟩ := CQ.out _ HB7.out
            have hw1 : IntKind.i64.wrap ((i : Int) - 1) = (j : Int) := by rw [IntWalk.i64_in _ (by omega)]; omega
            have hw2 : wrap64 ((i : Int) - 1) = (j : Int) := by unfold wrap64; omega
            have hj0 : (0 : Int) ≤ (j : Int) := by omega
            have hja : (j : Int) < (a : Int) := by omega
            have hin : ¬ (i : Int) = 0 := by omega
            have hne : ¬ x = W9.heap.size := by have := block_lt_of_cell x0; simp at this; omega
            clear hj hjl hlt hiz hio HRS
            go_wp2_with fail
            have q1 : ∀ o, (W9.alloc o).cell? ⟨x, xo + j * 3, none⟩ = some (.string p.k) ∧ (W9.alloc o).cell? ⟨x, xo + j * 3 + 1, none⟩ = some (.int .i64 p.s) ∧ (W9.alloc o).cell? ⟨x, xo + j * 3 + 2, none⟩ = some (.int .i64 p.r) := fun o => CP.out _ (HB7.out.alloc HB7.out.size o)
            have q2 : ∀ o o', ((W9.alloc o).alloc o').cell? ⟨x, xo + j * 3, none⟩ = some (.string p.k) ∧ ((W9.alloc o).alloc o').cell? ⟨x, xo + j * 3 + 1, none⟩ = some (.int .i64 p.s) ∧ ((W9.alloc o).alloc o').cell? ⟨x, xo + j * 3 + 2, none⟩ = some (.int .i64 p.r) := fun o o' => CP.out _ ((HB7.out.alloc HB7.out.size o).alloc (HB7.out.alloc HB7.out.size o).size o')
            have q3 : ∀ o, (W9.alloc o).cell? ⟨x, xo + i * 3, none⟩ = some (.string m.k) ∧ (W9.alloc o).cell? ⟨x, xo + i * 3 + 1, none⟩ = some (.int .i64 m.s) ∧ (W9.alloc o).cell? ⟨x, xo + i * 3 + 2, none⟩ = some (.int .i64 m.r) := fun o => CQ.out _ (HB7.out.alloc HB7.out.size o)
            have q4 : ∀ o o', ((W9.alloc o).alloc o').cell? ⟨x, xo + i * 3, none⟩ = some (.string m.k) ∧ ((W9.alloc o).alloc o').cell? ⟨x, xo + i * 3 + 1, none⟩ = some (.int .i64 m.s) ∧ ((W9.alloc o).alloc o').cell? ⟨x, xo + i * 3 + 2, none⟩ = some (.int .i64 m.r) := fun o o' => CQ.out _ ((HB7.out.alloc HB7.out.size o).alloc (HB7.out.alloc HB7.out.size o).size o')
            have q10 := fun o => (q1 o).1
            have q11 := fun o => (q1 o).2.1
            have q12 := fun o => (q1 o).2.2
            have q20 := fun o o' => (q2 o o').1
            have q21 := fun o o' => (q2 o o').2.1
            have q22 := fun o o' => (q2 o o').2.2
            have q30 := fun o => (q3 o).1
            have q31 := fun o => (q3 o).2.1
            have q32 := fun o => (q3 o).2.2
            have q40 := fun o o' => (q4 o o').1
            have q41 := fun o o' => (q4 o o').2.1
            have q42 := fun o o' => (q4 o o').2.2
            clear q1 q2 q3 q4
            go_region
            all_goals
              have HB8 : Hid (∀ o o', Below W3.heap.size W3 ((W9.alloc o).alloc o').drew) := fun o o' => ((HB7.out.alloc HB7.out.size o).alloc (HB7.out.alloc HB7.out.size o).size o').drew
              clear q10 q11 q12 q20 q21 q22 q30 q31 q32 q40 q41 q42 x0 x1 x2 p0 p1 p2 CP CQ HB7 hw1 hw2 hne
              rcases mlt_iff.mp HLT.out with h1 | ⟨h1, h2⟩
              · have h1' : Op.bytesLess p.k.toList m.k.toList = true := h1
                have h3 : (p.k.toList == m.k.toList) = false := toList_ne (lt_ne h1)
                clear h1
                go_wp2
                go_roundw
                case rel => exact ⟨i + 1, HI9.out, by go_num, HB8.out _ _⟩
                case measure => simp [intOf]; omega
              · have h1' : Op.bytesLess p.k.toList m.k.toList = false := by rw [h1]; exact lt_irrefl _
                have h3 : (p.k.toList == m.k.toList) = true := by rw [h1]; simp
                clear h1
                rcases h2 with h2 | ⟨h2, h4⟩
                · have h5 : ¬ p.s > m.s := by omega
                  have h6 : ¬ p.s = m.s := by omega
                  clear h2
                  go_wp2
                  go_roundw
                  case rel => exact ⟨i + 1, HI9.out, by go_num, HB8.out _ _⟩
                  case measure => simp [intOf]; omega
                · have h5 : ¬ p.s > m.s := by omega
                  have h6 : decide (p.s = m.s) = true := decide_eq_true h2
                  have h7 : (p.s == m.s) = true := by simpa using h2
                  have h8 : ¬ p.r ≥ m.r := by omega
                  clear h2 h4
                  go_wp2
                  go_roundw
                  case rel => exact ⟨i + 1, HI9.out, by go_num, HB8.out _ _⟩
                  case measure => simp [intOf]; omega
        · have hii : ¬ (i : Int) < (a : Int) := by omega
          go_wp2
          go_ret
          exact ⟨rfl, S3.out.bel.trans (HB6.out.mono S3.out.bel.size)⟩
end Go.Proofs.Ytkonkldcallimaa
