/-
  The contract of the document's Crash. Its conditions: its disk lies in memory, its pending writes are below a bound.
-/
import Derived.Test.YtghfhjeaiiianaaW22
namespace Go.Proofs.Ytghfhjeaiiianaa
open Go.RowKit
open Go.Sort (grow)

/-- In the midst of the document's Crash: k pending writes are laid. -/
structure RcI (base h : Nat) (d : Dk) (cs : List UInt8) (kv sv av wv : Value) (w0 : World) (k : Nat) (w : World) : Prop where
  box : RBox w h kv sv av wv d.fuse d.down d.steps
  kk : RowT eKy 9 w base kv ((crashN d.K d.ps cs k).map tx)
  ss : RowT eKy 9 w base sv ((seen d.K d.ps).map tx)
  aa : RowT eIn 3 w base av (d.ps.map (·.p))
  ww : RowT eKy 9 w base wv (d.ps.map fun x => tx x.n)
  fr : Fr kR [] base w0 w
section
variable {base h : Nat} {d : Dk} {cs : List UInt8} {kv sv av wv : Value} {w0 w w' : World} {k : Nat}
theorem RcI.below (i : RcI base h d cs kv sv av wv w0 k w) (hb : Below w.heap.size w w') (hbs : base ≤ w.heap.size) : RcI base h d cs kv sv av wv w0 k w' :=
  ⟨i.box.below hb, i.kk.below hb, i.ss.below hb, i.aa.below hb, i.ww.below hb, i.fr.trans (Fr.of_below hb hbs)⟩
theorem RcI.step {g0 n c : Nat} {x : Pw} (i : RcI base h d cs (.slice (some ⟨g0, 0, none⟩) n c) sv av wv w0 k w) (hks : Apart (.slice (some ⟨g0, 0, none⟩) n c) sv) (hkw : Apart (.slice (some ⟨g0, 0, none⟩) n c) wv) (hbs : base ≤ w.heap.size)
    (hx : d.ps[k]? = some x) : RcI base h d cs (.slice (some ⟨g0, 0, none⟩) n c) sv av wv w0 (k + 1) (w.setCell ⟨g0, x.p, none⟩ (.string (tx (lay (at_ (crashN d.K d.ps cs k) x.p) x.n (pick cs k))))) ∧ w.frozen? ⟨g0, x.p, none⟩ = false := by
  obtain ⟨rk, g, z⟩ := i.kk.set x.p (tx (lay (at_ (crashN d.K d.ps cs k) x.p) x.n (pick cs k)))
  have f := i.kk.fr_app g hbs
  refine ⟨⟨f.keep h _ i.box (by simp [kd]) (by simp), ?_, i.ss.past (u := .slice (some ⟨g0, 0, none⟩) n c) g hks.symm, i.aa.fr f (by simp) (by simp), i.ww.past (u := .slice (some ⟨g0, 0, none⟩) n c) g hkw.symm, i.fr.trans (f.mono (by simp) (by simp))⟩, z⟩
  rw [crashN_step cs hx, List.map_set]
  exact rk
end
theorem at_tx {w : World} {A : Option Addr} {S : List Sec} (h : Sl eKy w A (S.map tx)) {k : Nat} (hk : k < S.length) : ∃ b off, A = some ⟨b, off, none⟩ ∧ w.cell? ⟨b, off + k, none⟩ = some (.string (tx (at_ S k))) := by
  obtain ⟨b, off, hA, _, hc⟩ := at_ky h (k := k) (by rw [List.length_map]; exact hk)
  have e := at_get hk
  rw [List.getElem?_eq_getElem hk] at e
  simp only [List.getElem_map] at hc
  rw [Option.some.inj e] at hc
  exact ⟨b, off, hA, hc⟩
theorem tx_lay (s t : Sec) (n : Nat) : (tx t).extract 0 n ++ (tx s).extract n 64 = tx (lay s t n) := by
  have hs := s.h
  unfold tx txt lay
  ext1
  simp
  rw [List.take_of_length_le (by rw [List.length_drop]; omega)]
theorem tx_size (s : Sec) : (tx s).size = 64 := by
  have := s.h
  simpa [tx, txt, ByteArray.size] using this
set_option maxHeartbeats 4000000 in
theorem rcrash_any (base h : Nat) (d : Dk) (cs : List UInt8) (C : Option Addr) (nc cc : Nat) (w : World) (r : RefAt w base h d) (hl : cs.length = nc) (hp : d.ps.length ≤ 100000) (hC : ∀ w', Fr kR [] base w w' → Sl eBy w' C cs) :
    Calls Try.prog 23 #[.pointer (some ⟨h, 0, none⟩), .slice C nc cc] w (RPost w base h (crashD d cs) (.tuple #[])) := by
  obtain ⟨kv, sv, av, wv, b, r3⟩ := r.ex
  have HGC := Lib.hid (r.good.crash cs)
  have HPL := Lib.hid r.good.pl
  have HLEN := Lib.hid r.good.len
  have HBH := Lib.hid r.bh
  obtain ⟨n, hn⟩ : ∃ n, n = d.K.length := ⟨_, rfl⟩
  obtain ⟨m, hm⟩ : ∃ m, m = d.ps.length := ⟨_, rfl⟩
  obtain ⟨A0, k0, rfl⟩ := r3.k.len
  obtain ⟨A2, k2, rfl⟩ := r3.a.len
  obtain ⟨A3, k3, rfl⟩ := r3.w.len
  simp only [List.length_map] at b r3
  rw [← hm, ← hn] at b r3
  have HI0 : Hid (RcI base h d cs (.slice A0 n k0) sv (.slice A2 m k2) (.slice A3 m k3) w 0 w) := ⟨b, r3.k, r3.s, r3.a, r3.w, Fr.refl _ _ _ _⟩
  have HKS := Lib.hid r3.ks
  have HKW := Lib.hid r3.kw
  have HC := Lib.hid hC
  have HL := Lib.hid hl
  have HP := Lib.hid hp
  have HM := Lib.hid hm
  have HN := Lib.hid hn
  have HBS : Hid (base ≤ w.heap.size) := by have := b.lt; have := HBH.out; show _ ≤ _; omega
  clear b r3 r hl hp hC hm hn
  go_enter Try.func23, Try.ntmps23
  go_wp2
  go_loopw [4] (fun s4 wr => ∃ k : Nat, k ≤ m ∧ s4 = .int .i64 (k : Int) ∧ RcI base h d cs (.slice A0 n k0) sv (.slice A2 m k2) (.slice A3 m k3) w k wr) (fun s _ => m - (intOf s).toNat)
  case atStart => exact ⟨0, Nat.zero_le _, rfl, HI0.out⟩
  case round =>
    obtain ⟨k, hk, rfl, hi⟩ := hrel
    have HI := Lib.hid hi
    clear hi HI0
    have c2 := HI.out.box.c2
    by_cases hlt : k < m
    · have hkl : k < d.ps.length := by rw [← HM.out]; exact hlt
      have hx := List.getElem?_eq_getElem hkl
      have hm64 : m ≤ 100000 := by rw [HM.out]; exact HP.out
      have hxp : d.ps[k].p < n := by rw [HN.out]; exact HPL.out _ (List.getElem_mem hkl)
      have hxk : d.ps[k].p < (crashN d.K d.ps cs k).length := by rw [crashN_length, ← HN.out]; exact hxp
      obtain ⟨A, c, hA, sl2, -⟩ := HI.out.aa.sl (by rw [List.length_map, ← HM.out]; unfold maxLen; omega)
      simp only [Value.slice.injEq] at hA
      obtain ⟨e1, -, -⟩ := hA
      subst e1
      obtain ⟨g2, o2, rfl, -, d2⟩ := at_in sl2 (k := k) (by rw [List.length_map]; exact hkl)
      simp only [List.getElem_map] at d2
      obtain ⟨A, c, hA, sl3, -⟩ := HI.out.ww.sl (by rw [List.length_map, ← HM.out]; unfold maxLen; omega)
      simp only [Value.slice.injEq] at hA
      obtain ⟨e1, -, -⟩ := hA
      subst e1
      obtain ⟨g3, o3, rfl, -, d3⟩ := at_ky sl3 (k := k) (by rw [List.length_map]; exact hkl)
      simp only [List.getElem_map] at d3
      obtain ⟨A, c, hA, sl0, -, -, hz0⟩ := HI.out.kk.sl (by rw [List.length_map, crashN_length]; have := HLEN.out; unfold maxLen; omega)
      simp only [Value.slice.injEq] at hA
      obtain ⟨e1, -, -⟩ := hA
      subst e1
      obtain ⟨g0, o0, rfl, d0⟩ := at_tx sl0 hxk
      obtain ⟨g, hg, -⟩ := hz0 _ rfl
      simp only [Addr.mk.injEq, and_true] at hg
      obtain ⟨rfl, rfl⟩ := hg
      rw [Nat.zero_add] at d0
      have hbsw : base ≤ wr.heap.size := Nat.le_trans HBS.out HI.out.fr.size
      obtain ⟨hid2, z0⟩ := (HI.out.below (Below.refl _ _).drew hbsw).step HKS.out HKW.out hbsw hx
      generalize hgx : d.ps[k] = x at *
      obtain ⟨old, hold⟩ : ∃ old, old = at_ (crashN d.K d.ps cs k) x.p := ⟨_, rfl⟩
      rw [← hold] at d0 hid2
      obtain ⟨N, hN⟩ : ∃ N, N = pick cs k := ⟨_, rfl⟩
      have hN64 : N ≤ 64 := by rw [hN]; exact pick_lt _ _
      rw [← hN] at hid2
      have HIN := Lib.hid hid2
      have c0 := (HI.out.box.below (Below.refl _ _).drew).c0
      have c3 := (HI.out.box.below (Below.refl _ _).drew).c3
      have e0 : wr.drew.cell? ⟨g0, x.p, none⟩ = _ := d0
      have e3 : wr.drew.cell? ⟨g3, o3 + k, none⟩ = _ := d3
      generalize hW : wr.drew = wd at *
      have HW := Lib.hid hW
      have HK : Hid (k + 1 ≤ m) := hlt
      have hki : (k : Int) < (m : Int) := by omega
      have hk0 : (0 : Int) ≤ (k : Int) := by omega
      have hpi : (x.p : Int) < (n : Int) := by omega
      have hp0 : (0 : Int) ≤ (x.p : Int) := by omega
      have hs1 := tx_size x.n
      have hs2 := tx_size old
      have hw : IntKind.i64.wrap ((k : Int) + 1) = ((k + 1 : Nat) : Int) := by rw [IntWalk.i64_in _ (by omega)]; omega
      have hSl := HC.out wr HI.out.fr
      clear hid2 hbsw sl0 sl2 sl3 hx hkl hxp hxk hz0 hold hgx d0 d3 hW
      by_cases hc : k < nc
      · have hkc : k < cs.length := by rw [HL.out]; exact hc
        obtain ⟨bC, oC, rfl, -, dC⟩ := at_by hSl hkc
        have hci : (k : Int) < (nc : Int) := by omega
        obtain ⟨y, hy⟩ : ∃ y, y = cs[k].toNat := ⟨_, rfl⟩
        have hyl : y < 256 := by rw [hy]; exact UInt8.toNat_lt _
        have hpk : N = y % 65 := by rw [hN, pick_some hkc, hy]
        rw [← hy] at dC
        have hrem : ((y : Int)).tmod 65 = (N : Int) := by rw [Int.tmod_eq_emod_of_nonneg (by omega), hpk]; omega
        have hy0 : (0 : Int) ≤ (y : Int) := by omega
        have hy1 : (y : Int) ≤ 255 := by omega
        have hNi : (N : Int) ≤ 64 := by omega
        have hNs : (N : Int) ≤ ((tx x.n).size : Int) := by omega
        have hNo : (N : Int) ≤ ((tx old).size : Int) := by omega
        have hN0 : (0 : Int) ≤ (N : Int) := by omega
        have hcat : ¬ 9223372036854775807 < min N 64 + (64 - N) := by omega
        clear hN hc hSl hlt hk hN64 hkc hy hyl hpk
        go_wp2
        refine wp_region_still_tail 25 (by kernel_rfl) (by kernel_rfl) ?_
        change wpStill _ _ wr.drew (fun a' => wpList _ _ _ _ a' wr.drew) _ _
        rw [HW.out]
        simp only [List.take_succ_cons, List.take_zero, List.drop_succ_cons, List.drop_zero]
        repeat still_step
        refine wpStill_nil ?_
        go_wp2
        go_roundw
        case rel =>
          refine ⟨k + 1, HK.out, by go_num, ?_⟩
          rw [tx_lay]
          exact HIN.out
        case measure => simp [intOf]; omega
      · have hci : ¬ (k : Int) < (nc : Int) := by omega
        have hN0 : N = 0 := by rw [hN]; exact pick_none (by rw [HL.out]; omega)
        subst hN0
        clear hN hc hSl hlt hk hN64
        go_wp2
        refine wp_region_still_tail 25 (by kernel_rfl) (by kernel_rfl) ?_
        change wpStill _ _ wr.drew (fun a' => wpList _ _ _ _ a' wr.drew) _ _
        rw [HW.out]
        simp only [List.take_succ_cons, List.take_zero, List.drop_succ_cons, List.drop_zero]
        repeat still_step
        refine wpStill_nil ?_
        go_wp2
        go_roundw
        case rel =>
          refine ⟨k + 1, HK.out, by go_num, ?_⟩
          have e : (tx old).extract 0 64 = tx (lay old x.n 0) := by rw [← tx_lay]; simp
          rw [e]
          exact HIN.out
        case measure => simp [intOf]; omega
    · have hkm : k = m := by omega
      have hlti : ¬ (k : Int) < (m : Int) := by omega
      have rk := HI.out.kk
      have hl0 : (crashN d.K d.ps cs k).length = n := by rw [crashN_length, HN.out]
      obtain ⟨A, c, w3, hr3, b3, x3, rk3, rs3, ap⟩ := rsync_mem HI.out.box rk HBH.out (by rw [hl0, HN.out]; exact HLEN.out)
      rw [hl0] at hr3 rs3 ap
      have HR3 := Lib.hid (hr3 _ _ rfl)
      have c0 := (HI.out.box.below (w' := wr.alloc (.cells #[] 9)) (Below.alloc (Below.refl _ _) (Nat.le_refl _) _)).c0
      have z3 := x3.frozen 1
      have y3 := x3.c1
      have hbl : base ≤ wr.heap.size := Nat.le_trans HBS.out HI.out.fr.size
      have x4 := x3.set1 (.slice A n c)
      have z4 := x4.frozen 2
      have y4 := x4.c2
      have x5 := x4.set2 (.slice none 0 0)
      have z5 := x5.frozen 3
      have y5 := x5.c3
      have x6 := x5.set3 (.slice none 0 0)
      have z6 := x6.frozen 5
      have y6 := x6.c5
      have x7 := x6.set5 false
      have z7 := x7.frozen 4
      have y7 := x7.c4
      have x8 := x7.set4 (-1)
      have f4 : Fr [47] [] base w3 (w3.setCell ⟨h, 1, none⟩ (.slice A n c)) := (Fr.refl _ _ _ _).set x3 (.inl (by simp [kd])) HBH.out _
      have f5 := f4.set (o := 2) x4 (.inl (by simp [kd])) HBH.out (.slice none 0 0)
      have f6 := f5.set (o := 3) x5 (.inl (by simp [kd])) HBH.out (.slice none 0 0)
      have f7 := f6.set (o := 5) x6 (.inl (by simp [kd])) HBH.out (.bool false)
      have f8 := f7.set (o := 4) x7 (.inl (by simp [kd])) HBH.out (.int .i64 (-1))
      have rk8 := rk3.fr f8 (by simp) (by simp)
      have rs8 := rs3.fr f8 (by simp) (by simp)
      have HF := Lib.hid (HI.out.fr.trans ((Fr.of_below b3 hbl).trans (f8.mono (by simp) (by simp))))
      rw [hkm, HM.out] at rk8 rs8
      have HE := Lib.hid (And.intro x8 (And.intro rk8 (And.intro rs8 ap)))
      clear rk hl0 hr3 b3 x3 rk3 rs3 ap hbl x4 x5 x6 x7 x8 f4 f5 f6 f7 f8 rk8 rs8 hkm hk hlt
      go_wp2_with (at_builtin; refine wpList_append_run rfl (.tmp 59) (.tmp 63) 44 44 rfl _ _ rfl rfl _ _ HR3.out ?_)
      go_end0
      exact ⟨rfl, ⟨⟨_, _, _, _, HE.out.1, ⟨HE.out.2.1, HE.out.2.2.1, RowT.nil _, RowT.nil _, HE.out.2.2.2.symm, (apart_nil _).symm, (apart_nil _).symm⟩⟩, HBH.out, HGC.out⟩, HF.out⟩
end Go.Proofs.Ytghfhjeaiiianaa
