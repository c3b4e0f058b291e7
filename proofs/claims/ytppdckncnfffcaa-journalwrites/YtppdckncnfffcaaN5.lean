/-
  The contracts of the document's Next and Open. Their conditions: the sectors lie in memory, below a bound.
-/
import Derived.Test.YtppdckncnfffcaaN4
namespace Go.Proofs.Ytppdckncnfffcaa
open Go.RowKit
open Go.Sort (grow)
set_option maxRecDepth 100000

theorem tx_lapE (s : Sec) : (tx s).extract 60 64 = txt (s.v.drop 60) := by
  rw [tx, txt_extract, List.take_of_length_le (by rw [List.length_drop, s.h]; omega)]
theorem tx_lapF (s : Sec) : (tx s).extract 0 4 = txt (s.v.take 4) := by
  rw [tx, txt_extract]
  rfl
set_option maxHeartbeats 4000000 in
/-- The document's Next. -/
theorem refnext_any (S : List Sec) (A : Option Addr) (n c : Nat) (w : World) (hs : Sl eKy w A (S.map tx)) (hn : S.length = n) (hn1 : n ≤ 1000) :
    Calls Try.prog 16 #[.slice A n c] w fun e w' => e = .returned (.int .i64 ((lastU S (2 * (n / 2)) : Int) + 1)) ∧ w = w' := by
  have HS := Lib.hid hs
  have HN := Lib.hid hn
  obtain ⟨m, hm⟩ : ∃ m, m = n / 2 := ⟨_, rfl⟩
  have hq : (n : Int).tdiv 2 = (m : Int) := by rw [Int.tdiv_eq_ediv_of_nonneg (by omega)]; omega
  have HM : Hid (2 * m ≤ n ∧ n / 2 = m) := ⟨by omega, hm.symm⟩
  have hm5 : (m : Int) ≤ 500 := by omega
  have hm0 : (0 : Int) ≤ (m : Int) := by omega
  have hn0 : (n : Int) ≤ 1000 := by omega
  clear hs hn hm hn1
  rw [HM.out.2]
  go_enter Try.func16, Try.ntmps16
  go_wp2_with fail
  go_loopw [3, 5] (fun s3 s5 wr => ∃ k : Nat, k ≤ 2 * m ∧ s3 = .int .i64 (lastU S k : Int) ∧ s5 = .int .i64 (k : Int) ∧ w = wr) (fun _ s _ => 2 * m - (intOf s).toNat)
  case atStart => exact ⟨0, Nat.zero_le _, rfl, rfl, rfl⟩
  case round =>
    obtain ⟨k, hk, rfl, rfl, rfl⟩ := hrel
    have hu1 := lastU_lt S k
    obtain ⟨u, hu⟩ : ∃ u, u = lastU S k := ⟨_, rfl⟩
    rw [← hu] at hu1 ⊢
    have hw1 : IntKind.i64.wrap ((u : Int) + 1) = (u : Int) + 1 := IntWalk.i64_in _ (by omega)
    by_cases hlt : k < 2 * m
    · have hlti : (k : Int) < 2 * (m : Int) := by omega
      have hkn : (k : Int) < (n : Int) := by have := HM.out.1; omega
      have hk0 : (0 : Int) ≤ (k : Int) := by omega
      obtain ⟨b, off, rfl, d0⟩ := at_tx HS.out (k := k) (by rw [HN.out]; omega)
      have hts := tx_size (at_ S k)
      have hex := tx_lapE (at_ S k)
      obtain ⟨T, hT⟩ : ∃ T, T = tx (at_ S k) := ⟨_, rfl⟩
      rw [← hT] at hts hex d0
      have CN := refnum_any ((at_ S k).v.drop 60) w (by rw [List.length_drop, (at_ S k).h]; omega)
      rw [← hex] at CN
      obtain ⟨f, he⟩ : ∃ f, f = lapE (at_ S k) := ⟨_, rfl⟩
      have he' : num ((at_ S k).v.drop 60) = f := by rw [he]; rfl
      rw [he'] at CN
      have HCN := Lib.hid CN
      have HU : Hid (lastU S (k + 1) = max u f) := by show _ = _; rw [hu, he]; rfl
      have HK : Hid (k + 1 ≤ 2 * m) := hlt
      have hkb : (k : Int) ≤ 1000 := by omega
      clear hT hex CN he he' hu hlt hk hw1
      go_wp2_with fail
      refine HCN.out.mono ?_
      rintro e w1 ⟨rfl, rfl⟩
      by_cases hc : u < f
      · have hci : (u : Int) < (f : Int) := by omega
        have HU2 : Hid (lastU S (k + 1) = f) := by show _ = _; rw [HU.out]; omega
        clear hc hu1
        go_wp2_with fail
        go_roundw
        case rel => exact ⟨k + 1, HK.out, by rw [HU2.out], by go_num, trivial⟩
        case measure => simp [intOf]; have := HK.out; omega
      · have hci : ¬ (u : Int) < (f : Int) := by omega
        have HU2 : Hid (lastU S (k + 1) = u) := by show _ = _; rw [HU.out]; omega
        clear hc hu1
        go_wp2_with fail
        go_roundw
        case rel => exact ⟨k + 1, HK.out, by rw [HU2.out], by go_num, trivial⟩
        case measure => simp [intOf]; have := HK.out; omega
    · have hk2 : k = 2 * m := by omega
      have hlti : ¬ (k : Int) < 2 * (m : Int) := by omega
      have HU := Lib.hid hu
      subst hk2
      clear hlt hk hu hu1
      go_wp2_with fail
      go_ret
      exact ⟨by rw [← HU.out]; rfl, rfl⟩
theorem slice33 (b o n c lo hi : Nat) (h0 : lo < c) (h1 : lo ≤ hi) (h2 : hi ≤ c) (w : World) : (Instr.sliceAt 33 (.slice (some ⟨b, o, none⟩) n c) (some (.int .i64 (lo : Int))) (some (.int .i64 (hi : Int))) none).run Try.prog w = .ok (.slice (some ⟨b, o + lo, none⟩) (hi - lo) (c - lo)) w := by
  have h3 : (hi : Int) ≤ (c : Int) := by omega
  have h4 : (0 : Int) ≤ (hi : Int) := by omega
  have h5 : (lo : Int) ≤ (hi : Int) := by omega
  have h6 : (0 : Int) ≤ (lo : Int) := by omega
  have h7 : ¬ c = lo := by omega
  simp [go_sem, h3, h5, h7, addr_at]
/-- What the document's Open answers, in memory. -/
def RefB (w : World) (q : Nat) (v : Value) (H : Int) (lap : Nat) : Prop := w.heap[q]? = some (.cells #[v, .int .i64 H, .int .i64 (lap : Int)] 35 (0, 0))
section
variable {w w' : World} {q : Nat} {v : Value} {H : Int} {lap : Nat}
theorem RefB.c0 (h : RefB w q v H lap) : w.cell? ⟨q, 0, none⟩ = some v := by rw [cell_of h]; rfl
theorem RefB.c1 (h : RefB w q v H lap) : w.cell? ⟨q, 1, none⟩ = some (.int .i64 H) := by rw [cell_of h]; rfl
theorem RefB.c2 (h : RefB w q v H lap) : w.cell? ⟨q, 2, none⟩ = some (.int .i64 (lap : Int)) := by rw [cell_of h]; rfl
theorem RefB.fz (h : RefB w q v H lap) (o : Nat) : w.frozen? ⟨q, o, none⟩ = false := by unfold RefB at h; simp [World.frozen?, h]
theorem RefB.below (h : RefB w q v H lap) (hb : Below w.heap.size w w') : RefB w' q v H lap := (hb.block q (lt_of_heap h)).trans h
theorem RefB.set (h : RefB w q v H lap) (v' : Value) (H' : Int) (lap' : Nat) : RefB (((w.setCell ⟨q, 0, none⟩ v').setCell ⟨q, 1, none⟩ (.int .i64 H')).setCell ⟨q, 2, none⟩ (.int .i64 (lap' : Int))) q v' H' lap' := by
  unfold RefB at h ⊢
  simp [World.setCell, Array.getElem?_modify, h]
theorem RefB.fr3 {base : Nat} (h : RefB w q v H lap) (hb : base ≤ q) (x y z : Value) : Fr [35] [] base w (((w.setCell ⟨q, 0, none⟩ x).setCell ⟨q, 1, none⟩ y).setCell ⟨q, 2, none⟩ z) := by
  refine ⟨(((Below.refl _ _).setCell hb _).setCell hb _).setCell hb _, fun i o ho hk _ => ?_⟩
  have hne : i ≠ q := by
    rintro rfl
    unfold RefB at h
    rw [h] at ho
    cases ho
    exact hk (by simp [kd])
  rw [Below.heap_setCell _ _ _ _ hne, Below.heap_setCell _ _ _ _ hne, Below.heap_setCell _ _ _ _ hne]
  exact ho
end
set_option maxHeartbeats 4000000 in
/-- The document's Open. -/
theorem refopen_any (S : List Sec) (b off N c : Nat) (w : World) (hs : Sl eKy w (some ⟨b, off, none⟩) (S.map tx)) (hn : S.length = N) (hn4 : 4 ≤ N) (hn1 : N ≤ 1000) (hc : N ≤ c) :
    Calls Try.prog 12 #[.slice (some ⟨b, off, none⟩) N c] w fun e w' => ∃ v, e = .returned (.agg #[v, .int .i64 (openO S (N / 2)).H, .int .i64 ((openO S (N / 2)).lap : Int)]) ∧ RowT eKy 9 w' w.heap.size v ((openO S (N / 2)).L.map txt) ∧ Below w.heap.size w w' := by
  have HS := Lib.hid hs
  have HN := Lib.hid hn
  obtain ⟨n, hm⟩ : ∃ n, n = N / 2 := ⟨_, rfl⟩
  have hq : (N : Int).tdiv 2 = (n : Int) := by rw [Int.tdiv_eq_ediv_of_nonneg (by omega)]; omega
  rw [← hm]
  have HM : Hid (2 * n ≤ N ∧ 2 ≤ n ∧ n ≤ 500) := ⟨by omega, by omega, by omega⟩
  have hm5 : (n : Int) ≤ 500 := by omega
  have hm0 : (2 : Int) ≤ (n : Int) := by omega
  have hn0 : (N : Int) ≤ 1000 := by omega
  have HC := Lib.hid hc
  clear hs hn hm hn1 hn4 hc
  go_enter Try.func12, Try.ntmps12
  go_wp2_with fail
  obtain ⟨q1, hq1⟩ : ∃ q1, q1 = w.heap.size := ⟨_, rfl⟩
  obtain ⟨q2, hq2⟩ : ∃ q2, q2 = w.heap.size + 1 := ⟨_, rfl⟩
  have b1 : Below w.heap.size w (w.alloc (.cells #[.slice none 0 0, .int .i64 0, .int .i64 0] 35)) := (Below.refl _ _).alloc (Nat.le_refl _) _
  have x1 : RefB (w.alloc (.cells #[.slice none 0 0, .int .i64 0, .int .i64 0] 35)) q1 (.slice none 0 0) 0 0 := by rw [hq1]; exact heap_new _ _
  have s1 : (w.alloc (.cells #[.slice none 0 0, .int .i64 0, .int .i64 0] 35)).heap.size = q2 := by rw [hq2]; simp
  generalize hw1 : w.alloc (.cells #[.slice none 0 0, .int .i64 0, .int .i64 0] 35) = w1 at *
  have b2 : Below w1.heap.size w1 (w1.alloc (.cells #[.slice none 0 0, .int .i64 (-1), .int .i64 0] 35)) := (Below.refl _ _).alloc (Nat.le_refl _) _
  have x2 : RefB (w1.alloc (.cells #[.slice none 0 0, .int .i64 (-1), .int .i64 0] 35)) q2 (.slice none 0 0) (-1) 0 := by rw [← s1]; exact heap_new _ _
  have x3 := x1.below b2
  have b3 := b1.trans (b2.mono b1.size)
  generalize w1.alloc (.cells #[.slice none 0 0, .int .i64 (-1), .int .i64 0] 35) = w2 at *
  rw [← hq2, ← hq1]
  have HX2 := Lib.hid x2
  have HX3 := Lib.hid x3
  have HB3 := Lib.hid b3
  have HQ1 : Hid (w.heap.size ≤ q1 ∧ w.heap.size ≤ q2 ∧ q1 ≠ q2) := ⟨by omega, by omega, by omega⟩
  clear x1 x2 x3 b1 b2 b3 s1 hw1 hq1 hq2 hq
  go_loopw [5] (fun s5 wr => ∃ (h : Nat) (v : Value), h ≤ 2 ∧ s5 = .int .i64 (h : Int) ∧ RefB wr q1 (.slice none 0 0) 0 0 ∧ RefB wr q2 v (oAt S n h).H (oAt S n h).lap ∧ RowT eKy 9 wr w.heap.size v ((oAt S n h).L.map txt) ∧ Below w.heap.size w wr) (fun s _ => 2 - (intOf s).toNat)
  case atStart => exact ⟨0, _, by omega, rfl, HX3.out, HX2.out, RowT.nil _, HB3.out⟩
  case round =>
    obtain ⟨h, v, hh, rfl, hx1, hx2, hr, hb⟩ := hrel
    have HR := Lib.hid hr
    have HB := Lib.hid hb
    have HX1 := Lib.hid hx1
    have HX2 := Lib.hid hx2
    have HOL := Lib.hid (oAt_lap S n h)
    obtain ⟨W0, rfl⟩ : ∃ W0, W0 = wr := ⟨wr, rfl⟩
    clear hr hb HX3 HB3
    by_cases hlt : h < 2
    · obtain ⟨a, ha⟩ : ∃ a, a = h * n := ⟨_, rfl⟩
      have haN : a + n ≤ N := by
        have := HM.out.1
        rcases (show h = 0 ∨ h = 1 by omega) with rfl | rfl <;> omega
      have hlti : (h : Int) < 2 := by omega
      have hh0 : (0 : Int) ≤ (h : Int) := by omega
      have hmul : (h : Int) * (n : Int) = (a : Int) := by rw [ha]; push_cast; rfl
      obtain ⟨e, he⟩ : ∃ e, e = a + n := ⟨_, rfl⟩
      have hadd : (a : Int) + (n : Int) = (e : Int) := by omega
      have hae : (a : Int) < (N : Int) := by have := HM.out.2.1; omega
      have ha0 : (0 : Int) ≤ (a : Int) := by omega
      obtain ⟨cc, hcc⟩ : ∃ cc, cc = c - a := ⟨_, rfl⟩
      have hsl : ∀ w, (Instr.sliceAt 33 (.slice (some ⟨b, off, none⟩) N c) (some (.int .i64 (a : Int))) (some (.int .i64 (e : Int))) none).run Try.prog w = .ok (.slice (some ⟨b, off + a, none⟩) n cc) w := fun w => by
        have := slice33 b off N c a e (by have := HC.out; have := HM.out.2.1; omega) (by omega) (by have := HC.out; omega) w
        rw [show e - a = n by omega, ← hcc] at this
        exact this
      have hel : (e : Int) ≤ 1000 := by omega
      have hsA : Sl eKy W0 (some ⟨b, off + a, none⟩) ((halfL S a n).map tx) := by
        have := ((HS.out.below (Nat.le_refl _) HB.out).drop a).take n
        rw [show off + a * eKy.wd = off + a by show off + a * 1 = _; omega] at this
        unfold halfL
        rw [List.map_take, List.map_drop]
        exact this
      obtain ⟨b', off', e1, d0⟩ := at_tx (HS.out.below (Nat.le_refl _) HB.out) (k := a) (by rw [HN.out]; have := HM.out.2.1; omega)
      injection e1 with e1
      injection e1 with e1 e2 _
      subst e1 e2
      have hts := tx_size (at_ S a)
      have hex := tx_lapF (at_ S a)
      obtain ⟨T, hT⟩ : ∃ T, T = tx (at_ S a) := ⟨_, rfl⟩
      rw [← hT] at hts hex d0
      have CN := refnum_any ((at_ S a).v.take 4) W0 (by rw [List.length_take]; omega)
      rw [← hex] at CN
      obtain ⟨f, hf⟩ : ∃ f, f = lapF (at_ S a) := ⟨_, rfl⟩
      have hf' : num ((at_ S a).v.take 4) = f := by rw [hf]; rfl
      rw [hf'] at CN
      have HCN := Lib.hid CN
      have CR := refrecs_any (halfL S a n) f (some ⟨b, off + a, none⟩) n cc W0 hsA (halfL_length (by rw [HN.out]; exact haN)) (by have := HM.out; omega) (fun h0 => by rw [halfL_0 h0 (by rw [HN.out]; exact haN), hf]) (by rw [hf]; exact lapF_lt _)
      have HCR := Lib.hid CR
      have HO : Hid (oAt S n (h + 1) = if 0 < (foundL (halfL S a n)).length ∧ (oAt S n h).lap < f then ⟨foundL (halfL S a n), (h : Int), f⟩ else oAt S n h) := by
        show _ = _
        rw [ha, hf, ha]
        rfl
      have HH : Hid (h + 1 ≤ 2) := hlt
      clear hT hex CN hf' hf hsA CR hx1 hx2 ha haN he hcc hlt hh
      go_wp2_with fail
      refine HCN.out.mono ?_
      rintro e' w1' ⟨rfl, rfl⟩
      clear HCN d0 hts
      go_wp2_with (refine wpList_value rfl (exec_slice rfl rfl rfl rfl rfl (hsl _)) ?_)
      refine HCR.out.mono ?_
      rintro e' w5 ⟨vl, rfl, rl, b5⟩
      have x5 := HX2.out.below b5
      have x51 := HX1.out.below b5
      have hb5 := HB.out.trans (b5.mono HB.out.size)
      have rl2 := rl.down HB.out.size
      obtain ⟨Al, cl, hv, -⟩ := rl.form
      obtain ⟨ml, hml⟩ : ∃ ml, ml = ((foundL (halfL S a n)).map txt).length := ⟨_, rfl⟩
      rw [← hml] at hv
      subst hv
      rw [List.length_map] at hml
      obtain ⟨u, hu⟩ : ∃ u, u = (oAt S n h).lap := ⟨_, rfl⟩
      have x5' := x5
      rw [← hu] at x5
      have c0 := x5.c0
      have c1 := x5.c1
      have c2 := x5.c2
      have z0 := x5.fz 0
      have z1 := x5.fz 1
      have z2 := x5.fz 2
      have HX5 := Lib.hid x5'
      have HX51 := Lib.hid x51
      have HB5 := Lib.hid hb5
      have HRL := Lib.hid rl2
      have HR5 := Lib.hid (HR.out.below b5)
      have hml0 : (0 : Int) ≤ (ml : Int) := by omega
      rw [← hml, ← hu] at HO
      clear rl b5 x5 x51 hb5 rl2 x5' HCR hsl HOL
      by_cases hc : 0 < ml ∧ u < f
      · have hi1 : (0 : Int) < (ml : Int) := by omega
        have hi2 : (u : Int) < (f : Int) := by omega
        have HO2 : Hid (oAt S n (h + 1) = ⟨foundL (halfL S a n), (h : Int), f⟩) := by show _ = _; rw [HO.out, if_pos hc]
        have hfr := HX5.out.fr3 HQ1.out.2.1 (.slice Al ml cl) (.int .i64 (h : Int)) (.int .i64 (f : Int))
        have hr2 := HX5.out.set (.slice Al ml cl) (h : Int) f
        generalize hw6 : ((w5.setCell ⟨q2, 0, none⟩ (.slice Al ml cl)).setCell ⟨q2, 1, none⟩ (.int .i64 (h : Int))).setCell ⟨q2, 2, none⟩ (.int .i64 (f : Int)) = w6 at hfr hr2
        have HW6 := Lib.hid hw6
        have hx1' : RefB w6 q1 (.slice none 0 0) 0 0 := by
          have h51 := HX51.out
          unfold RefB at h51 ⊢
          rw [← HW6.out, Below.heap_setCell _ _ _ _ HQ1.out.2.2, Below.heap_setCell _ _ _ _ HQ1.out.2.2, Below.heap_setCell _ _ _ _ HQ1.out.2.2]
          exact h51
        have HX61 := Lib.hid hx1'
        have HFIN : Hid (∃ v, RefB w6 q2 v (oAt S n (h + 1)).H (oAt S n (h + 1)).lap ∧ RowT eKy 9 w6 w.heap.size v ((oAt S n (h + 1)).L.map txt)) := by
          show ∃ v, _
          rw [HO2.out]
          exact ⟨_, hr2, HRL.out.fr hfr (by simp) (by simp)⟩
        have HB6 := Lib.hid (HB5.out.trans hfr.below)
        clear hc hml hu hfr hr2 hw6 hx1'
        go_wp2_with fail
        go_roundw
        case rel =>
          obtain ⟨v', r1, r2⟩ := HFIN.out
          rw [HW6.out]
          exact ⟨h + 1, v', HH.out, by go_num, HX61.out, r1, r2, HB6.out⟩
        case measure => simp [intOf]; have := HH.out; omega
      · have HO2 : Hid (oAt S n (h + 1) = oAt S n h) := by show _ = _; rw [HO.out, if_neg hc]
        have HFIN : Hid (∃ v, RefB w5 q2 v (oAt S n (h + 1)).H (oAt S n (h + 1)).lap ∧ RowT eKy 9 w5 w.heap.size v ((oAt S n (h + 1)).L.map txt)) := by
          show ∃ v, _
          rw [HO2.out]
          exact ⟨v, HX5.out, HR5.out⟩
        by_cases h1 : 0 < ml
        · have hi1 : (0 : Int) < (ml : Int) := by omega
          have hi2 : ¬ (u : Int) < (f : Int) := by omega
          clear hc hml hu h1
          go_wp2_with fail
          go_roundw
          case rel =>
            obtain ⟨v', r1, r2⟩ := HFIN.out
            exact ⟨h + 1, v', HH.out, by go_num, HX51.out, r1, r2, HB5.out⟩
          case measure => simp [intOf]; have := HH.out; omega
        · have hi1 : ¬ (0 : Int) < (ml : Int) := by omega
          clear hc hml hu h1
          go_wp2_with fail
          go_roundw
          case rel =>
            obtain ⟨v', r1, r2⟩ := HFIN.out
            exact ⟨h + 1, v', HH.out, by go_num, HX51.out, r1, r2, HB5.out⟩
          case measure => simp [intOf]; have := HH.out; omega
    · have hh2 : h = 2 := by omega
      subst hh2
      have hlti : ¬ ((2 : Nat) : Int) < 2 := by omega
      obtain ⟨y, hy⟩ : ∃ y, y = openO S n := ⟨_, rfl⟩
      have e2 : oAt S n 2 = y := hy.symm
      rw [e2] at HX2 HR
      have HY := Lib.hid hy
      obtain ⟨L, H, lap⟩ := y
      dsimp only at HX2 HR
      obtain ⟨Av, cv, hv, -⟩ := HR.out.form
      obtain ⟨kv, hkv⟩ : ∃ kv, kv = (L.map txt).length := ⟨_, rfl⟩
      rw [← hkv] at hv
      subst hv
      clear hkv
      generalize hgv : Value.slice Av kv cv = v at *
      have hrs := HX1.out.set v H lap
      have hfr := HX1.out.fr3 HQ1.out.1 v (.int .i64 H) (.int .i64 (lap : Int))
      have HRS := Lib.hid hrs
      have HRF := Lib.hid (HR.out.fr hfr (by simp) (by simp))
      have HBF := Lib.hid (HB.out.trans hfr.below)
      have c0 := HX2.out.c0
      have c1 := HX2.out.c1
      have c2 := HX2.out.c2
      have d0 := HX1.out.c0
      have d1 := HX1.out.c1
      have d2 := HX1.out.c2
      have z0 := HX1.out.fz 0
      have z1 := HX1.out.fz 1
      have z2 := HX1.out.fz 2
      skip
      subst hgv
      clear hlt hh hx1 hx2 hy e2 hrs hfr
      go_wp2_with fail
      have r0 := HRS.out.c0
      have r1 := HRS.out.c1
      have r2 := HRS.out.c2
      refine bodyPost_ret (v := .agg #[.slice Av kv cv, .int .i64 H, .int .i64 (lap : Int)]) (by simp [results, Try.results12, go_sem, r0, r1, r2]) rfl ⟨.slice Av kv cv, by rw [← HY.out], by rw [← HY.out]; exact HRF.out, HBF.out⟩
end Go.Proofs.Ytppdckncnfffcaa
