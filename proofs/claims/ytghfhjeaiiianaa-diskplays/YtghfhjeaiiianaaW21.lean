/-
  The contracts of the document's Write and Sync. Their conditions: its disk lies in memory, its steps and its pending writes are below a bound.
-/
import Derived.Test.YtghfhjeaiiianaaW20
namespace Go.Proofs.Ytghfhjeaiiianaa
open Go.RowKit
open Go.Sort (grow)

set_option maxHeartbeats 4000000 in
theorem rwrite_ok (base h : Nat) (d : Dk) (k : Nat) (x : Sec) (w : World) (r : RefAt w base h d) (hs : d.steps ≤ 1000000) (hp : d.ps.length ≤ 100000) (hk : k < d.K.length) (hb : stepB d = true) :
    Calls Try.prog 17 #[.pointer (some ⟨h, 0, none⟩), .int .i64 (k : Int), .string (tx x)] w (RPost w base h (putD d k x) (.int .i64 0)) := by
  have CS := Lib.hid (rstep_any base h d w r hs)
  rw [hb] at CS
  have HGP := Lib.hid (r.good.put x hk)
  have HP := Lib.hid hp
  have HKL := Lib.hid r.good.len
  have HKN := Lib.hid hk
  have h64 : (tx x).size = 64 := by
    have := x.h
    simpa [tx, txt, ByteArray.size] using this
  obtain ⟨kv, sv, av, wv, b, r3⟩ := r.ex
  obtain ⟨A0, k0, rfl⟩ := r3.k.len
  have c0 := b.c0
  rw [List.length_map] at c0
  obtain ⟨n, hn⟩ : ∃ n, n = d.K.length := ⟨_, rfl⟩
  have HN := Lib.hid hn
  rw [← hn] at c0 hk
  have hk0 : ¬ (k : Int) < 0 := by omega
  have hd0 : decide ((k : Int) < 0) = false := decide_eq_false hk0
  have hk1 : ¬ (n : Int) ≤ (k : Int) := by omega
  have hki : (k : Int) < (n : Int) := by omega
  have hkn : (0 : Int) ≤ (k : Int) := by omega
  have hs64 : ((tx x).size : Int) = 64 := by omega
  clear b r3 r hn hk h64 hb hs hp
  go_enter Try.func17, Try.ntmps17
  go_wp2_with fail
  refine CS.out.mono ?_
  rintro e w1 ⟨rfl, hd, hf⟩
  clear c0 CS
  obtain ⟨kv, sv, av, wv, b, r3⟩ := hd.ex
  have hbh := hd.bh
  obtain ⟨A1, k1, rfl⟩ := r3.s.len
  rw [List.length_map, seen_length] at b r3
  rw [stepD_K] at b
  rw [stepD_K, stepD_ps] at r3
  obtain ⟨av', w3, wv', w6, g1, rfl, hr3, hr6, z3, y3, q4, q6, z6, q7, q8, z8, x8, r8, f8⟩ := rput_mem x b r3 hbh HKN.out HKL.out HP.out
  rw [← HN.out] at q7
  obtain ⟨A2, k2, hv2⟩ := r8.a.len
  obtain ⟨A3, k3, hv3⟩ := r8.w.len
  generalize (List.map (fun x : Pw => x.p) _).length = n2 at hv2
  generalize (List.map (fun x : Pw => tx x.n) _).length = n3 at hv3
  subst hv2 hv3
  have c2 := b.c2
  have HR3 := Lib.hid hr3
  have HR6 := Lib.hid hr6
  have HE : Hid (RPost w base h (putD d k x) (.int .i64 0) (.returned (.int .i64 0)) ((w6.setCell ⟨h, 3, none⟩ (.slice A3 n3 k3)).setCell ⟨g1, k, none⟩ (.string (tx x)))) :=
    ⟨rfl, ⟨⟨_, _, _, _, x8, by show Rows3 _ _ _ _ _ _ (stepD d).K (seen (stepD d).K _) _; rw [stepD_K]; exact r8⟩, hbh, HGP.out⟩, hf.trans f8⟩
  clear hd hf b r3 hbh hr3 hr6 x8 r8 f8 hd0 hs64 hk0 hk1 HGP HP HKL HKN HN
  go_wp2_with (first
    | (at_builtin; refine wpList_append_run rfl (.tmp 30) (.tmp 32) 45 45 rfl _ _ rfl rfl _ _ HR3.out ?_)
    | (at_builtin; refine wpList_append_run rfl (.tmp 40) (.tmp 42) 44 44 rfl _ _ rfl rfl _ _ HR6.out ?_))
  go_ret
  exact HE.out
theorem rwrite_any (base h : Nat) (d : Dk) (i : Int) (l : List UInt8) (w : World) (r : RefAt w base h d) (hs : d.steps ≤ 1000000) (hp : d.ps.length ≤ 100000) :
    Calls Try.prog 17 #[.pointer (some ⟨h, 0, none⟩), .int .i64 i, .string (txt l)] w (RPost w base h (writeD d i l) (.int .i64 (writeR d i l))) := by
  have hsz : (txt l).size = l.length := by simp [txt, ByteArray.size]
  unfold writeD writeR
  cases hf : fits d i l.length with
  | false =>
    refine (rwrite_arg base h d i (txt l) w r (by rw [hsz]; exact hf)).mono ?_
    rintro e w1 ⟨rfl, rfl⟩
    exact ⟨by simp, by simpa using r, Fr.refl _ _ _ _⟩
  | true =>
    have hf' : (0 ≤ i ∧ i < (d.K.length : Int)) ∧ l.length = 64 := by simpa [fits] using hf
    obtain ⟨⟨h0, h1⟩, h64⟩ := hf'
    obtain ⟨k, rfl⟩ : ∃ k : Nat, i = (k : Int) := ⟨i.toNat, by omega⟩
    have hk : k < d.K.length := by omega
    cases hb : stepB d with
    | false => simpa using rwrite_down base h d k (txt l) w r hs hk (by rw [hsz]; exact h64) hb
    | true =>
      have := rwrite_ok base h d k (secOf l) w r hs hp hk hb
      rw [show tx (secOf l) = txt l by unfold tx; rw [secOf_v h64]] at this
      simpa using this
/-- What the document's Sync does to memory. -/
theorem rsync_mem {w : World} {base h : Nat} {kv sv av wv u : Value} {fuse steps : Int} {down : Bool} {S : List Sec}
    (b : RBox w h kv sv av wv fuse down steps) (r : RowT eKy 9 w base u (S.map tx)) (hbh : base ≤ h) (hS : S.length ≤ 4096) :
    ∃ A c w3, (∀ A1 k1, u = .slice A1 S.length k1 → (Builtin.append_ #[44, 44] 44 #[.slice (some ⟨w.heap.size, 0, none⟩) 0 0, .slice A1 S.length k1]).run Try.prog (w.alloc (.cells #[] 9)) = .ok (.slice A S.length c) w3) ∧
      Below w.heap.size w w3 ∧ RBox w3 h kv sv av wv fuse down steps ∧ RowT eKy 9 w3 base u (S.map tx) ∧ RowT eKy 9 w3 base (.slice A S.length c) (S.map tx) ∧ Apart (.slice A S.length c) u := by
  have hl : (S.map tx).length = S.length := List.length_map _
  obtain ⟨A1, k1, hv, sl, _, hA, _⟩ := r.sl (by rw [hl]; unfold maxLen; omega)
  have b2 : Below w.heap.size w (w.alloc (.cells #[] 9)) := Below.alloc (Below.refl _ _) (Nat.le_refl _) _
  obtain ⟨v', w3, hr, r3, b3⟩ := (RowT.empty (E := eKy) (e := 9) w).grow el44 rfl b2 (sl.below (Nat.le_refl _) b2) rfl hA (by rw [hl]; simp; omega)
  have hbs : base ≤ w.heap.size := by have := b.lt; omega
  rw [List.nil_append] at r3
  obtain ⟨A, c, hv'⟩ := r3.len
  rw [hl] at hv' hv hr
  subst hv'
  refine ⟨A, c, w3, fun A2 k2 h2 => ?_, b3, b.below b3, r.below b3, r3.down hbs, fun k hk he => ?_⟩
  · rw [hv] at h2
    cases h2
    exact hr
  · have h1 := (r3.own hk).1
    have h2 := r.lt k he
    omega
set_option maxHeartbeats 4000000 in
theorem rsync_any (base h : Nat) (d : Dk) (w : World) (r : RefAt w base h d) (hs : d.steps ≤ 1000000) :
    Calls Try.prog 18 #[.pointer (some ⟨h, 0, none⟩)] w (RPost w base h (if stepB d then keepD d else stepD d) (.int .i64 (if stepB d then 0 else 7))) := by
  have CS := Lib.hid (rstep_any base h d w r hs)
  cases hb : stepB d with
  | false =>
    rw [hb] at CS
    simp only [Bool.false_eq_true, if_false]
    clear r hs
    go_enter Try.func18, Try.ntmps18
    go_wp2_with fail
    refine CS.out.mono ?_
    rintro e w1 ⟨rfl, hd, hf⟩
    have HE : Hid (RPost w base h (stepD d) (.int .i64 7) (.returned (.int .i64 7)) w1) := ⟨rfl, hd, hf⟩
    clear hd hf CS
    go_wp2
    go_ret
    exact HE.out
  | true =>
    rw [hb] at CS
    simp only [if_true]
    have HGK := Lib.hid r.good.keep
    have HKL := Lib.hid r.good.len
    clear r hs
    go_enter Try.func18, Try.ntmps18
    go_wp2_with fail
    refine CS.out.mono ?_
    rintro e w1 ⟨rfl, hd, hf⟩
    clear CS
    obtain ⟨kv, sv, av, wv, b, r3⟩ := hd.ex
    have hbh := hd.bh
    rw [stepD_K, stepD_ps] at r3
    obtain ⟨A1, k1, rfl⟩ := r3.s.len
    rw [List.length_map] at b r3
    obtain ⟨A, c, w3, hr3, b3, x3, rs3, rk3, ap⟩ := rsync_mem b r3.s hbh (by rw [seen_length]; exact HKL.out)
    obtain ⟨n, hn⟩ : ∃ n, n = (seen d.K d.ps).length := ⟨_, rfl⟩
    rw [← hn] at b x3 rs3 rk3 ap hr3
    have HR3 := Lib.hid (hr3 A1 k1 rfl)
    have c1 := (b.below (w' := w1.alloc (.cells #[] 9)) (Below.alloc (Below.refl _ _) (Nat.le_refl _) _)).c1
    have z3 := x3.frozen 0
    have y3 := x3.c0
    have hbl : base ≤ w1.heap.size := by have := b.lt; omega
    have x4 := x3.set0 (.slice A n c)
    have z4 := x4.frozen 2
    have y4 := x4.c2
    have x5 := x4.set2 (.slice none 0 0)
    have z5 := x5.frozen 3
    have y5 := x5.c3
    have x6 := x5.set3 (.slice none 0 0)
    have f4 : Fr [47] [] base w3 (w3.setCell ⟨h, 0, none⟩ (.slice A n c)) := (Fr.refl _ _ _ _).set x3 (.inl (by simp [kd])) hbh _
    have f5 := f4.set (o := 2) x4 (.inl (by simp [kd])) hbh (.slice none 0 0)
    have f6 := f5.set (o := 3) x5 (.inl (by simp [kd])) hbh (.slice none 0 0)
    have rk6 := rk3.fr f6 (by simp) (by simp)
    have rs6 := rs3.fr f6 (by simp) (by simp)
    have HE : Hid (RPost w base h (keepD d) (.int .i64 0) (.returned (.int .i64 0)) (((w3.setCell ⟨h, 0, none⟩ (.slice A n c)).setCell ⟨h, 2, none⟩ (.slice none 0 0)).setCell ⟨h, 3, none⟩ (.slice none 0 0))) :=
      ⟨rfl, ⟨⟨_, _, _, _, x6, ⟨rk6, rs6, RowT.nil _, RowT.nil _, ap, (apart_nil _).symm, (apart_nil _).symm⟩⟩, hbh, HGK.out⟩, hf.trans ((Fr.of_below b3 hbl).trans (f6.mono (by simp) (by simp)))⟩
    clear hd hf b r3 hbh hr3 x3 x4 x5 x6 f4 f5 f6 rk6 rs6 rk3 rs3 ap HGK HKL hn b3 hbl
    go_wp2_with (at_builtin; refine wpList_append_run rfl (.tmp 7) (.tmp 11) 44 44 rfl _ _ rfl rfl _ _ HR3.out ?_)
    go_ret
    exact HE.out
end Go.Proofs.Ytghfhjeaiiianaa
