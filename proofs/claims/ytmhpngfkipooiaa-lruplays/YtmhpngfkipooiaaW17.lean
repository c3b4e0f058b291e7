/-
  The contract of the document's Way. Its conditions: the cache lies in memory, and has no more things than a bound.
-/
import Derived.Test.YtmhpngfkipooiaaW16
import Derived.Deep.RegionLaw
namespace Go.Proofs.Ytmhpngfkipooiaa
open Go.RowKit Go.Maps

/-- append by the equation of its run, as a step of a region that draws its order. -/
theorem step_append_run {P : Program} {ops : Array Oper} {o : Oper} {a : Act} {w : World} {K : Act → World → Prop} {Q : Exit → Act → World → Prop} {E : Prop}
    (hg : o.guard = none) (s x : Operand) (t u : TypeId) (hop : o.op = Op.call { callee := Callee.builtin Builtin.append, args := #[s, x], argTypes := #[t, u] }) (v y : Value) (hs : a.eval s = v) (hx : a.eval x = y) (v' : Value) (w' : World)
    (hr : (Builtin.append_ #[t, u] o.type #[v, y]).run P w = .ok v' w') (hK : K (a.put o.dst v') w') : if Region.wanted o (yielded ops a.tmps) = true then Oper.wp P o a w K Q else E := by
  have hw : Region.wanted o (yielded ops a.tmps) = true := by simp [Region.wanted, hg]
  rw [if_pos hw]
  unfold Oper.wp
  simp [execOp, hop, resolve, invoke, builtin, hs, hx, hr, Result.andThen]
  exact hK
def RwPost (w : World) (base h : Nat) (L : List Th) (room kept : Int) (l : List ByteArray) (r : Ending) (w' : World) : Prop :=
  ∃ A c, r = .returned (.slice A l.length c) ∧ Row w' w.heap.size (.slice A l.length c) l ∧ RefAt w' base h L room kept ∧ Fr rK base w w'
def RwRel (w : World) (base h : Nat) (L : List Th) (room kept b : Int) (s5 : Value) (wr : World) : Prop :=
  ∃ (j : Nat) (A : Option Addr) (c : Nat), j ≤ L.length ∧ s5 = .slice A (L.length - j) c ∧ wayN b L j = way b L ∧ Row wr w.heap.size s5 (gone L j) ∧ RefAt wr base h (L.take j) room kept ∧ Fr rK base w wr
set_option maxHeartbeats 4000000 in
theorem refway_any (base h : Nat) (L : List Th) (room kept n : Int) (w : World) (hr : RefAt w base h L room kept) (hg : Good L room kept) (hbs : base ≤ w.heap.size) (h0 : 0 ≤ n) (h1 : n ≤ room - kept) :
    Calls Try.prog 32 #[.pointer (some ⟨h, 0, none⟩), .int .i64 n] w (RwPost w base h (L.take (way (room - kept - n) L)) room kept (gone L (way (room - kept - n) L))) := by
  have q0 := hg.kept0
  have q1 := hg.fits
  have q2 := hg.top
  have q3 := hg.tot0
  have hwn : wrap64 (room - n) = room - n := by unfold wrap64; omega
  obtain ⟨b, hbd⟩ : ∃ b, b = room - kept - n := ⟨_, rfl⟩
  rw [← hbd]
  have HB0 : Hid (0 ≤ b) := by show 0 ≤ b; omega
  have HBD := Lib.hid hbd
  have HR := Lib.hid hr
  have HG := Lib.hid hg
  have HS := Lib.hid hbs
  have HLL := Lib.hid hr.2.1
  clear hr hg hbs hbd q0 q1 q2 q3 h0 h1
  go_enter Try.func32, Try.ntmps32
  go_wp2
  go_loopw [5] (RwRel w base h L room kept b) (fun s _ => L.length - lenOf s)
  case atStart =>
    refine ⟨L.length, some ⟨w.heap.size, 0, none⟩, 0, Nat.le_refl _, by simp, rfl, ?_, by rw [List.take_length]; exact HR.out.below ((Below.refl _ _).alloc (Nat.le_refl _) _), Fr.alloc (Fr.refl _ _ _) HS.out _⟩
    rw [gone_none]
    exact Row.empty w
  case round =>
    obtain ⟨j, A, c, hj, rfl, hwj, ho, hc, hf⟩ := hrel
    have hlen : (L.take j).length = j := by rw [List.length_take]; omega
    have hgj : Good (L.take j) room kept := HG.out.sub (List.take_sublist _ _)
    obtain ⟨Ar, cr, hbox, hp, hnc, hAn, hl5⟩ := hc.parts
    rw [hlen] at hbox hnc
    have c0 := hbox.c0
    have c1 := hbox.c1
    have CU : Hid (∀ m, Calls Try.prog 25 #[.pointer (some ⟨h, 0, none⟩)] (wr.drewN m) fun r w' => r = .returned (.int .i64 (tot (L.take j) + kept)) ∧ w' = wr.drewN m) :=
      fun m => (refused_any base h (L.take j) room kept (wr.drewN m) (hc.below (below_drewN _ _)) hgj).mono fun r w' hh => ⟨hh.1, hh.2.symm⟩
    obtain ⟨m, hm⟩ : ∃ m, m = L.length - j := ⟨_, rfl⟩
    rw [← hm] at ho ⊢
    have HM := Lib.hid hm
    have HML : Hid ((gone L j).length = m) := by show _ = _; rw [gone_len, hm]
    have HO := Lib.hid ho
    have HC := Lib.hid hc
    have HF := Lib.hid hf
    have HW := Lib.hid hwj
    clear hm
    cases j with
    | zero =>
      have hwy : way b L = 0 := hwj.symm
      clear hwj ho hc hf hj hlen hgj hbox hp hnc hAn hl5
      go_wp2_with fail
      go_quiet (fail)
      go_wp2
      go_ret
      rw [hwy]
      refine ⟨A, c, ?_, ?_, HC.out.below (below_drewN _ _), HF.out.trans (Fr.of_below (below_drewN _ _) (Nat.le_trans HS.out HF.out.size))⟩
      · rw [HML.out]; rfl
      · rw [HML.out]
        exact HO.out.below (below_drewN _ _)
    | succ i =>
      have hj5 : (i : Int) ≤ 100000 := by have := HLL.out; omega
      have hgt0 : ((i + 1 : Nat) : Int) > 0 := by omega
      by_cases hfit : tot (L.take (i + 1)) ≤ b
      · have hwy := wayN_here hfit
        rw [hwj] at hwy
        have hcmp : ¬ tot (L.take (i + 1)) + kept > room - n := by have := HBD.out; omega
        generalize tot (L.take (i + 1)) + kept = us at CU hcmp
        clear hwj ho hc hf hj hlen hgj hbox hp hnc hAn hl5 hfit
        go_wp2_with fail
        go_quiet (first | (go_at_call 25; exact Calls.quiet_of_same (CU.out _)))
        go_wp2
        go_ret
        rw [hwy]
        refine ⟨A, c, ?_, ?_, HC.out.below (below_drewN _ _), HF.out.trans (Fr.of_below (below_drewN _ _) (Nat.le_trans HS.out HF.out.size))⟩
        · rw [HML.out]; rfl
        · rw [HML.out]
          exact HO.out.below (below_drewN _ _)
      · have hwi := wayN_on hfit
        have hcmp : tot (L.take (i + 1)) + kept > room - n := by have := HBD.out; omega
        have hi : i < L.length := by omega
        have hil : i < (L.take (i + 1)).length := by rw [hlen]; omega
        have hti : (L.take (i + 1))[i] = L[i] := by simp
        obtain ⟨br, fr, rfl, hbl, x0, x1, x2⟩ := hp.at_ hil
        rw [hti] at x0
        have HX : Hid (gone L i = gone L (i + 1) ++ [L[i].k]) := by show _ = _; rw [gone_step hi]
        have HP := Lib.hid hp
        have HBX := Lib.hid hbox
        have HWI : Hid (wayN b L i = way b L) := by show _ = _; rw [← hwi]; exact hwj
        have hK9 : Hid (∀ (hh : i < (L.take (i + 1)).length), (L.take (i + 1))[i].k = L[i].k) := fun _ => by rw [hti]
        have HTK : Hid ((L.take (i + 1)).take i = L.take i) := by show _ = _; rw [List.take_take, Nat.min_eq_left (by omega)]
        obtain ⟨kk, hkk⟩ : ∃ kk, kk = L[i].k := ⟨_, rfl⟩
        rw [← hkk] at x0 HX hK9
        have HI := Lib.hid hi
        have HNC := Lib.hid hnc
        have HBL := Lib.hid hbl
        generalize tot (L.take (i + 1)) + kept = us at CU hcmp
        clear hwj ho hc hf hj hlen hgj hbox hp hnc hAn hl5 hfit hwi hi hil hti hkk x1 x2 hbl
        go_wp2_with fail
        go_quiet (first | (go_at_call 25; exact Calls.quiet_of_same (CU.out _)))
        obtain ⟨W, hW⟩ : ∃ W, W = wr.drewN nq := ⟨_, rfl⟩
        have BW : Hid (Below wr.heap.size wr W) := by show Below _ _ _; rw [hW]; exact below_drewN _ _
        rw [← hW]
        clear hW CU
        obtain ⟨p, hpp⟩ : ∃ p, p = i + 1 := ⟨_, rfl⟩
        rw [← hpp] at c0 HBX
        have hs1 : IntKind.i64.wrap ((p : Int) - 1) = (i : Int) := by rw [show (p : Int) - 1 = (i : Int) by omega]; exact IntWalk.i64_in _ (by omega)
        have HS2 : Hid (wrap64 ((p : Int) - 1) = (i : Int)) := by show wrap64 _ = _; unfold wrap64; omega
        have hip : (i : Int) < (p : Int) := by omega
        have hi0 : (0 : Int) ≤ (i : Int) := by omega
        have hic : (i : Int) ≤ (cr : Int) := by have := HNC.out; omega
        have y0 := (BW.out.cell (p := ⟨h, 0, none⟩) HBX.out.lt).trans c0
        have y1 := (BW.out.cell (p := ⟨br, fr + i * 3, none⟩) HBL.out).trans x0
        have BWD : Hid (Below wr.heap.size wr W.drew) := BW.out.drew
        obtain ⟨A', c', w3, hr3, o3, f3⟩ := Row.append (W := W.drew) (HO.out.below BWD.out) kk (Nat.le_trans HF.out.size BWD.out.size) (by rw [HML.out]; have := HM.out; have := HLL.out; omega)
        rw [HML.out] at hr3 o3
        have BW3 : Hid (Below w.heap.size wr w3) := (BWD.out.mono HF.out.size).trans f3.below
        have F3 := Lib.hid f3
        have R3 := Lib.hid hr3
        have O3 := Lib.hid o3
        have C3 := Lib.hid ((HC.out.below BWD.out).keep f3 (by simp [rL]))
        have hbx3 : RBox w3 h (.slice (some ⟨br, fr, none⟩) p cr) room kept := f3.keep h _ ((BWD.out.block h HBX.out.lt).trans HBX.out) (by simp [kd])
        have z0 := hbx3.c0
        have HB3 := Lib.hid hbx3
        -- the row of things keeps its cells
        obtain ⟨A9, c9, hb9, hp9, _, hA9, hl9⟩ := C3.out.parts
        have e9 : Value.slice A9 (L.take (i + 1)).length c9 = .slice (some ⟨br, fr, none⟩) p cr := by
          have h1 := hb9.c0
          rw [z0] at h1
          injection h1 with h1
          exact h1.symm
        injection e9 with e9a e9b e9c
        subst e9a e9c
        have hil : i < (L.take (i + 1)).length := by rw [e9b]; have := hip; omega
        obtain ⟨b9, f9, e9d, _, z1, _, _⟩ := hp9.at_ hil
        injection e9d with e9d
        injection e9d with e9d e9e _
        subst e9d e9e
        have z1' : w3.cell? ⟨br, fr + i * 3, none⟩ = some (.string kk) := by rw [z1, hK9.out hil]
        have hd4 := (Below.refl w3.heap.size w3).drew
        have hr4 := C3.out.below hd4
        have hbs4 : base ≤ w3.drew.heap.size := Nat.le_trans HS.out (Nat.le_trans HF.out.size BW3.out.size)
        have b0 : Below w3.drew.heap.size w3.drew (w3.drew.alloc (.cells #[] 37)) := (Below.refl _ _).alloc (Nat.le_refl _) _
        obtain ⟨v5, w5, r5, o5, b5⟩ := RowT.grow rfl (RowT.empty w3.drew) b0 (n := i) (c := c9) (((hp9.below (Nat.le_refl _) hd4).take i).below (Nat.le_refl _) b0) (by rw [List.length_take]; omega) (by intro h; cases h) (by have := HLL.out; have := HI.out; simp; omega)
        simp only [List.nil_append] at o5
        rw [HTK.out] at o5
        obtain ⟨B5, c5, rfl, _⟩ := o5.form
        obtain ⟨l5, hl5⟩ : ∃ l5, l5 = (L.take i).length := ⟨_, rfl⟩
        have hlt5 : h < w3.drew.heap.size := HB3.out.lt
        have u0 : (w3.drew.alloc (.cells #[] 37)).cell? ⟨h, 0, none⟩ = some (.slice (some ⟨br, fr, none⟩) p c9) := (b0.cell (p := ⟨h, 0, none⟩) hlt5).trans z0
        have u5 : w5.cell? ⟨h, 0, none⟩ = some (.slice (some ⟨br, fr, none⟩) p c9) := (b5.cell (p := ⟨h, 0, none⟩) hlt5).trans z0
        have uf : w5.frozen? ⟨h, 0, none⟩ = false := RBox.frozen ((b5.block h hlt5).trans HB3.out) 0
        have hout := ref_store hr4 hbs4 b5 o5 (by rw [List.length_take]; have := HLL.out; omega)
        rw [← hl5] at r5 hout
        have HOUT := Lib.hid hout
        have R5 := Lib.hid r5
        have hnh : ¬ h = w3.heap.size := by have := HB3.out.lt; omega
        have hfinal : Hid (Fr rK base w (w5.setCell ⟨h, 0, none⟩ (.slice B5 l5 c5)) ∧ Row (w5.setCell ⟨h, 0, none⟩ (.slice B5 l5 c5)) w.heap.size (.slice A' (m + 1) c') (gone L i)) := by
          refine ⟨(HF.out.late BW3.out HS.out).trans ((Fr.refl _ _ _).drew.trans hout.2), ?_⟩
          rw [HX.out]
          exact O3.out.fr ((Fr.refl rK base w3).drew.trans hout.2) (by simp [rK])
        clear hr3 o3 f3 hbx3 hb9 hp9 hA9 hl9 e9b z1 hd4 hr4 hbs4 b0 o5 b5 hout hl5 hpp
        have hs2 := HS2.out
        go_wp2_with fail
        go_region_held3 (fun w' => w'.cell? ⟨h, 0, none⟩ = some (.slice (some ⟨br, fr, none⟩) p c9) ∧ w'.cell? ⟨br, fr + i * 3, none⟩ = some (.string kk)) (first | go_keep | exact ⟨z0, z1'⟩)
          (first | (refine step_append_run rfl _ _ 32 32 rfl _ _ rfl rfl _ _ R3.out ?_))
        have u0' : (w3.alloc (.cells #[] 37)).cell? ⟨h, 0, none⟩ = some (.slice (some ⟨br, fr, none⟩) p c9) := u0
        go_wp2_with fail
        go_region_law (refine step_append_run rfl _ _ 27 27 rfl _ _ rfl rfl _ _ R5.out ?_)
        all_goals
          go_wp2
          have hm1 : m + 1 = L.length - i := by have := HM.out; have := HI.out; omega
          go_roundw
          case rel => exact ⟨i, A', c', by have := HI.out; omega, by rw [hm1], HWI.out, hfinal.out.2, HOUT.out.1, hfinal.out.1⟩
          case measure => simp [lenOf]; have := HM.out; have := HI.out; omega
end Go.Proofs.Ytmhpngfkipooiaa
