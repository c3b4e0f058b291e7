/-
  The contracts of the document's Reserve, Put, Get. Their conditions: the cache lies in memory, and has no more things than a bound.
-/
import Derived.Test.YtmhpngfkipooiaaW17
namespace Go.Proofs.Ytmhpngfkipooiaa
open Go.RowKit Go.Maps

def RpPost (w : World) (base h : Nat) (L : List Th) (room kept : Int) (ok : Bool) (l : List ByteArray) (r : Ending) (w' : World) : Prop :=
  ∃ A c, r = .returned (.tuple #[.slice A l.length c, .bool ok]) ∧ Row w' w.heap.size (.slice A l.length c) l ∧ RefAt w' base h L room kept ∧ Fr rK base w w'
set_option maxHeartbeats 2000000 in
theorem refreserve_any (base h : Nat) (L : List Th) (room kept n : Int) (w : World) (hr : RefAt w base h L room kept) (hg : Good L room kept) (hbs : base ≤ w.heap.size) :
    Calls Try.prog 20 #[.pointer (some ⟨h, 0, none⟩), .int .i64 n] w (RpPost w base h (wL room kept n L) room (resK room kept n) (wayOk room kept n) (wG room kept n L)) := by
  have q0 := hg.kept0
  have q1 := hg.fits
  have q2 := hg.top
  have q3 := hg.tot0
  obtain ⟨Ar, cr, hbox, _⟩ := hr.parts
  have c1 := hbox.c1
  have c2 := hbox.c2
  have hwk : IntKind.i64.wrap (room - kept) = room - kept := IntWalk.i64_in _ (by omega)
  have HR := Lib.hid hr
  have HS := Lib.hid hbs
  have HG := Lib.hid hg
  by_cases hn : n < 0
  · have e1 : wayOk room kept n = false := by simp [wayOk]; omega
    have HW : Hid (∀ w', Below w.heap.size w w' → RpPost w base h (wL room kept n L) room (resK room kept n) false (wG room kept n L) (.returned (.tuple #[.slice none 0 0, .bool false])) w') := fun w' hb' => by
      simp only [wL, wG, resK, e1]
      exact ⟨_, _, rfl, Row.nil _ _, HR.out.below hb', Fr.of_below hb' HS.out⟩
    rw [e1]
    clear hr hg hbs q0 q1 q2 q3 hbox e1
    go_enter Try.func20, Try.ntmps20
    go_wp2_with fail
    go_quiet (fail)
    go_wp2
    go_ret2
    exact HW.out _ (below_drewN _ _)
  · by_cases hm : n > room - kept
    · have e1 : wayOk room kept n = false := by simp [wayOk]; omega
      have HW : Hid (∀ w', Below w.heap.size w w' → RpPost w base h (wL room kept n L) room (resK room kept n) false (wG room kept n L) (.returned (.tuple #[.slice none 0 0, .bool false])) w') := fun w' hb' => by
        simp only [wL, wG, resK, e1]
        exact ⟨_, _, rfl, Row.nil _ _, HR.out.below hb', Fr.of_below hb' HS.out⟩
      rw [e1]
      clear hr hg hbs q0 q1 q2 q3 hbox e1
      go_enter Try.func20, Try.ntmps20
      go_wp2_with fail
      go_quiet (fail)
      go_wp2
      go_ret2
      exact HW.out _ (below_drewN _ _)
    · have e1 : wayOk room kept n = true := by simp [wayOk]; omega
      have CW : Hid (∀ W, Below w.heap.size w W → Calls Try.prog 32 #[.pointer (some ⟨h, 0, none⟩), .int .i64 n] W (RwPost W base h (L.take (way (room - kept - n) L)) room kept (gone L (way (room - kept - n) L)))) := fun W hW =>
        refway_any base h L room kept n W (HR.out.below hW) HG.out (Nat.le_trans HS.out hW.size) (by omega) (by omega)
      have hw : wrap64 (kept + n) = kept + n := by unfold wrap64; omega
      simp only [wL, wG, resK, e1, if_true]
      clear hr hg hbs q0 q1 q2 q3 hbox e1
      go_enter Try.func20, Try.ntmps20
      go_wp2_with fail
      go_quiet (fail)
      obtain ⟨W, hW⟩ : ∃ W, W = w.drewN nq := ⟨_, rfl⟩
      have BW : Hid (Below w.heap.size w W) := by show Below _ _ _; rw [hW]; exact below_drewN _ _
      rw [← hW]
      clear hW
      go_wp2_with fail
      refine (CW.out _ BW.out).mono ?_
      rintro r W2 ⟨A2, cc2, rfl, o2, r2, f2⟩
      obtain ⟨Ab, cb, hb2, _⟩ := r2.parts
      have d2 := hb2.c2
      have g2 := hb2.frozen 2
      have HK := Lib.hid (r2.kept (kept + n))
      have O2 := Lib.hid (o2.down BW.out.size)
      have F2 : Hid (Fr rK base w W2) := (Fr.of_below BW.out HS.out).trans f2
      clear o2 r2 f2 hb2
      obtain ⟨ng, hng⟩ : ∃ ng, ng = (gone L (way (room - kept - n) L)).length := ⟨_, rfl⟩
      rw [← hng]
      have HNG := Lib.hid hng
      clear hng
      go_wp2
      go_ret2
      exact ⟨A2, cc2, by rw [← HNG.out]; rfl, O2.out.fr HK.out.2 (by simp [rK]), HK.out.1, F2.out.trans HK.out.2⟩

def oTh (t : Th) : Obj := .cells #[.string t.k, .int .i64 t.s, .int .i64 t.n] 37 (0, 0)
theorem th_cells {W : World} {q : Nat} {t : Th} (h : W.heap[q]? = some (oTh t)) : W.cell? ⟨q, 0, none⟩ = some (.string t.k) ∧ W.cell? ⟨q, 1, none⟩ = some (.int .i64 t.s) ∧ W.cell? ⟨q, 2, none⟩ = some (.int .i64 t.n) := by
  unfold oTh at h
  refine ⟨?_, ?_, ?_⟩ <;> simp [World.cell?, h]
/-- What stands at the front, of what is appended and stored. -/
structure FrontUp (W : World) (base h q : Nat) (t : Th) (M : List Th) (room kept : Int) (A : Option Addr) (n c : Nat) (w5 : World) (B5 : Option Addr) (l5 c5 : Nat) : Prop where
  r : (Builtin.append_ #[27, 27] 27 #[.slice (some ⟨W.heap.size, 0, none⟩) 1 1, .slice A n c]).run Try.prog (W.drew.alloc (.cells #[.string t.k, .int .i64 t.s, .int .i64 t.n] 37)) = .ok (.slice B5 l5 c5) w5
  c0 : W.cell? ⟨h, 0, none⟩ = some (.slice A n c)
  q0 : W.cell? ⟨q, 0, none⟩ = some (.string t.k)
  q1 : W.cell? ⟨q, 1, none⟩ = some (.int .i64 t.s)
  q2 : W.cell? ⟨q, 2, none⟩ = some (.int .i64 t.n)
  d0 : (W.alloc (.cells #[.string t.k, .int .i64 t.s, .int .i64 t.n] 37)).cell? ⟨h, 0, none⟩ = some (.slice A n c)
  d1 : w5.cell? ⟨h, 0, none⟩ = some (.slice A n c)
  f : w5.frozen? ⟨h, 0, none⟩ = false
  out : RefAt (w5.setCell ⟨h, 0, none⟩ (.slice B5 l5 c5)) base h (t :: M) room kept ∧ Fr rK base W (w5.setCell ⟨h, 0, none⟩ (.slice B5 l5 c5))
  box : (w5.setCell ⟨h, 0, none⟩ (.slice B5 l5 c5)).heap[q]? = some (oTh t)
theorem front_up {W : World} {base h q : Nat} {t : Th} {M : List Th} {room kept : Int} (hr : RefAt W base h M room kept) (hq : W.heap[q]? = some (oTh t)) (hbs : base ≤ W.heap.size) (hl : M.length < 100000) : ∃ A n c w5 B5 l5 c5, FrontUp W base h q t M room kept A n c w5 B5 l5 c5 := by
  obtain ⟨A, c, hbox, hp, hnc, hA, _⟩ := hr.parts
  have hd := (Below.refl W.heap.size W).drew
  have b0 : Below W.drew.heap.size W.drew (W.drew.alloc (.cells #[.string t.k, .int .i64 t.s, .int .i64 t.n] 37)) := (Below.refl _ _).alloc (Nat.le_refl _) _
  obtain ⟨v5, w5, r5, o5, b5⟩ := RowT.grow rfl (RowT.one W.drew t) b0 (n := M.length) (c := c) ((hp.below (Nat.le_refl _) hd).below (Nat.le_refl _) b0) rfl hA (by simp; omega)
  obtain ⟨B5, c5, rfl, _⟩ := o5.form
  have hlt : h < W.drew.heap.size := hbox.lt
  obtain ⟨q0, q1, q2⟩ := th_cells hq
  have hout := ref_store (hr.below hd) hbs b5 o5 (by simp; omega)
  refine ⟨A, M.length, c, w5, B5, _, c5, r5, hbox.c0, q0, q1, q2, (b0.cell (p := ⟨h, 0, none⟩) hlt).trans hbox.c0, (b5.cell (p := ⟨h, 0, none⟩) hlt).trans hbox.c0, RBox.frozen ((b5.block h hlt).trans hbox) 0, ⟨hout.1, (Fr.refl _ _ _).drew.trans hout.2⟩, ?_⟩
  exact ((Fr.refl rK base W).drew.trans hout.2).keep q _ hq (by simp [oTh, kd, rK])
set_option maxHeartbeats 4000000 in
theorem refput_any (base h : Nat) (L : List Th) (room kept : Int) (t : Th) (w : World) (hr : RefAt w base h L room kept) (hg : Good L room kept) (hbs : base ≤ w.heap.size) (hl : L.length ≤ 99998) :
    Calls Try.prog 12 #[.pointer (some ⟨h, 0, none⟩), .agg #[.string t.k, .int .i64 t.s, .int .i64 t.n]] w (RpPost w base h (putL room kept L t) room kept (wayOk room kept t.s) (wG room kept t.s (drp L t.k))) := by
  have q0 := hg.kept0
  have q1 := hg.fits
  have q2 := hg.top
  have q3 := hg.tot0
  have hgd := hg.sub (drp_sub L t.k)
  have hdl := drp_len L t.k
  have hwk : IntKind.i64.wrap (room - kept) = room - kept := IntWalk.i64_in _ (by omega)
  have b0 : Below w.heap.size w (w.alloc (oTh t)) := (Below.refl _ _).alloc (Nat.le_refl _) _
  have hx0 : (w.alloc (oTh t)).heap[w.heap.size]? = some (oTh t) := heap_new _ _
  have C1 := Lib.hid (refdrop_any base h L room kept t.k (w.alloc (oTh t)) (hr.below b0) (Nat.le_trans hbs b0.size) hg.nd)
  have HX0 := Lib.hid hx0
  have B0 := Lib.hid b0
  have HS := Lib.hid hbs
  have HGD := Lib.hid hgd
  have HDL : Hid ((drp L t.k).length ≤ 99998) := by show _ ≤ _; omega
  clear hr hg hbs hl q0 q1 q2 q3 hgd hdl b0 hx0
  by_cases hn : t.s < 0
  · have e1 : wayOk room kept t.s = false := by simp [wayOk]; omega
    have HW : Hid (∀ w', RefAt w' base h (drp L t.k) room kept → Fr rK base w w' → RpPost w base h (putL room kept L t) room kept false (wG room kept t.s (drp L t.k)) (.returned (.tuple #[.slice none 0 0, .bool false])) w') := fun w' hr' hf' => by
      simp only [putL, wG, e1]
      exact ⟨_, _, rfl, Row.nil _ _, hr', hf'⟩
    rw [e1]
    clear e1
    go_enter Try.func12, Try.ntmps12
    go_wp2_with fail
    refine C1.out.mono ?_
    rintro r W1 ⟨rfl, r1, f1⟩
    generalize hq : w.heap.size = q at HX0 ⊢
    obtain ⟨x0, x1, x2⟩ := th_cells (f1.keep q _ HX0.out (by simp [oTh, kd, rK]))
    obtain ⟨Ar, cr, hbox, _⟩ := r1.parts
    have c1 := hbox.c1
    have c2 := hbox.c2
    have HR1 := Lib.hid r1
    have F1 : Hid (Fr rK base w W1) := (Fr.of_below B0.out HS.out).trans f1
    clear r1 f1 hbox hq
    go_wp2_with fail
    go_quiet (fail)
    go_wp2
    go_ret2
    exact HW.out _ (HR1.out.below (below_drewN _ _)) (F1.out.trans (Fr.of_below (below_drewN _ _) (Nat.le_trans HS.out F1.out.size)))
  · by_cases hm : t.s > room - kept
    · have e1 : wayOk room kept t.s = false := by simp [wayOk]; omega
      have HW : Hid (∀ w', RefAt w' base h (drp L t.k) room kept → Fr rK base w w' → RpPost w base h (putL room kept L t) room kept false (wG room kept t.s (drp L t.k)) (.returned (.tuple #[.slice none 0 0, .bool false])) w') := fun w' hr' hf' => by
        simp only [putL, wG, e1]
        exact ⟨_, _, rfl, Row.nil _ _, hr', hf'⟩
      rw [e1]
      clear e1
      go_enter Try.func12, Try.ntmps12
      go_wp2_with fail
      refine C1.out.mono ?_
      rintro r W1 ⟨rfl, r1, f1⟩
      generalize hq : w.heap.size = q at HX0 ⊢
      obtain ⟨x0, x1, x2⟩ := th_cells (f1.keep q _ HX0.out (by simp [oTh, kd, rK]))
      obtain ⟨Ar, cr, hbox, _⟩ := r1.parts
      have c1 := hbox.c1
      have c2 := hbox.c2
      have HR1 := Lib.hid r1
      have F1 : Hid (Fr rK base w W1) := (Fr.of_below B0.out HS.out).trans f1
      clear r1 f1 hbox hq
      go_wp2_with fail
      go_quiet (fail)
      go_wp2
      go_ret2
      exact HW.out _ (HR1.out.below (below_drewN _ _)) (F1.out.trans (Fr.of_below (below_drewN _ _) (Nat.le_trans HS.out F1.out.size)))
    · have e1 : wayOk room kept t.s = true := by simp [wayOk]; omega
      have CW : Hid (∀ W, RefAt W base h (drp L t.k) room kept → base ≤ W.heap.size → Calls Try.prog 32 #[.pointer (some ⟨h, 0, none⟩), .int .i64 t.s] W (RwPost W base h (wL room kept t.s (drp L t.k)) room kept (wG room kept t.s (drp L t.k)))) := fun W hW hs => by
        simp only [wL, wG, e1, if_true]
        exact refway_any base h _ room kept t.s W hW HGD.out hs (by omega) (by omega)
      have e2 : putL room kept L t = t :: wL room kept t.s (drp L t.k) := by simp [putL, e1]
      rw [e1, e2]
      have HML : Hid ((wL room kept t.s (drp L t.k)).length < 100000) := by show _ < _; have := wl_len room kept t.s (drp L t.k); have := HDL.out; omega
      generalize wL room kept t.s (drp L t.k) = M at CW HML ⊢
      generalize wG room kept t.s (drp L t.k) = gl at CW ⊢
      clear e1 e2
      go_enter Try.func12, Try.ntmps12
      go_wp2_with fail
      refine C1.out.mono ?_
      rintro r W1 ⟨rfl, r1, f1⟩
      generalize hq : w.heap.size = q at HX0 ⊢
      have hq1 := f1.keep q _ HX0.out (by simp [oTh, kd, rK])
      have HQ1 := Lib.hid hq1
      obtain ⟨x0, x1, x2⟩ := th_cells hq1
      obtain ⟨Ar, cr, hbox, _⟩ := r1.parts
      have c1 := hbox.c1
      have c2 := hbox.c2
      have HR1 := Lib.hid r1
      have F1 : Hid (Fr rK base w W1) := (Fr.of_below B0.out HS.out).trans f1
      clear r1 f1 hbox hq hq1
      go_wp2_with fail
      go_quiet (fail)
      obtain ⟨W, hW⟩ : ∃ W, W = W1.drewN nq := ⟨_, rfl⟩
      have BW : Hid (Below W1.heap.size W1 W) := by show Below _ _ _; rw [hW]; exact below_drewN _ _
      rw [← hW]
      clear hW
      have FW : Hid (Fr rK base w W) := F1.out.trans (Fr.of_below BW.out (Nat.le_trans HS.out F1.out.size))
      have hqw : W.heap[q]? = some (oTh t) := (BW.out.block q (Array.getElem?_eq_some_iff.mp HQ1.out).1).trans HQ1.out
      have HQW := Lib.hid hqw
      obtain ⟨y0, y1, y2⟩ := th_cells hqw
      clear hqw x0 x1 x2 c1 c2
      go_wp2_with fail
      refine (CW.out _ (HR1.out.below BW.out) (Nat.le_trans HS.out FW.out.size)).mono ?_
      rintro r W3 ⟨A3, c3, rfl, o3, r3, f3⟩
      have hq3 := f3.keep q _ HQW.out (by simp [oTh, kd, rK])
      obtain ⟨Af, nf, cf, w5, B5, l5, c5, U⟩ := front_up r3 hq3 (Nat.le_trans HS.out (Nat.le_trans FW.out.size f3.size)) HML.out
      obtain ⟨ur, uc0, uq0, uq1, uq2, ud0, ud1, uf, uout, _⟩ := U
      have O3 := Lib.hid (o3.down FW.out.size)
      have F3 := Lib.hid (FW.out.trans f3)
      have UR := Lib.hid ur
      have UO := Lib.hid uout
      obtain ⟨ng, hng⟩ : ∃ ng, ng = gl.length := ⟨_, rfl⟩
      rw [← hng]
      have HNG := Lib.hid hng
      clear o3 r3 f3 hq3 ur uout y0 y1 y2 hng
      go_wp2_with fail
      go_region_law (refine step_append_run rfl _ _ 27 27 rfl _ _ rfl rfl _ _ UR.out ?_)
      all_goals
        go_wp2
        go_ret2
        refine ⟨A3, c3, by rw [← HNG.out]; rfl, ?_, UO.out.1, F3.out.trans UO.out.2⟩
        exact O3.out.fr UO.out.2 (by simp [rK])
theorem usd_hit' {L : List Th} {k : ByteArray} {t : Th} (h : fnd L k = some t) : usd L k = t :: drp L k := by simp [usd, h]
set_option maxHeartbeats 4000000 in
theorem refget_any (base h : Nat) (L : List Th) (room kept : Int) (k : ByteArray) (used : Bool) (w : World) (hr : RefAt w base h L room kept) (hg : Good L room kept) (hbs : base ≤ w.heap.size) (hl : L.length ≤ 99998) :
    Calls Try.prog 16 #[.pointer (some ⟨h, 0, none⟩), .string k, .bool used] w (RefPost w base h (if used then usd L k else L) room kept (getV (fnd L k))) := by
  cases hf : fnd L k with
  | none =>
    have C1 := Lib.hid (find_miss base h L room kept k w hr hf)
    have e1 : (if used then usd L k else L) = L := by simp [usd, hf]
    rw [e1]
    have H := Lib.hid hr
    clear e1 hf hr hg hbs hl
    go_enter Try.func16, Try.ntmps16
    go_wp2_with fail
    refine C1.out.mono ?_
    rintro r w1 ⟨rfl, rfl⟩
    go_wp2
    go_ret2
    exact ⟨rfl, H.out, Fr.refl _ _ _⟩
  | some t =>
    obtain ⟨j, hh⟩ := hit_of hf
    have C1 := Lib.hid (find_hit base h L room kept k j t w hr hh)
    obtain ⟨A, c, hbox, hp, hnc, hA, _⟩ := hr.parts
    have hjl := hh.lt
    have c0 := hbox.c0
    obtain ⟨b, off, rfl, hbl, e0, e1, e2⟩ := hp.at_ hjl
    have htj : L[j] = t := by have := hh.at_; rw [List.getElem?_eq_getElem hjl] at this; injection this
    rw [htj] at e0 e1 e2
    obtain rfl : t.k = k := hh.has
    obtain ⟨n, hn⟩ : ∃ n, n = L.length := ⟨_, rfl⟩
    rw [← hn] at c0 hjl
    have hji : (j : Int) < (n : Int) := by omega
    have hj0 : (0 : Int) ≤ (j : Int) := by omega
    have b0 : Below w.heap.size w (w.alloc (oTh t)) := (Below.refl _ _).alloc (Nat.le_refl _) _
    have hx0 : (w.alloc (oTh t)).heap[w.heap.size]? = some (oTh t) := heap_new _ _
    have HR0 := Lib.hid (hr.below b0)
    have HX0 := Lib.hid hx0
    have B0 := Lib.hid b0
    have HS := Lib.hid hbs
    have C2 := Lib.hid (refdrop_any base h L room kept t.k (w.alloc (oTh t)) (hr.below b0) (Nat.le_trans hbs b0.size) hg.nd)
    have HDL : Hid ((drp L t.k).length < 100000) := by show _ < _; have := drp_len L t.k; omega
    have HU := Lib.hid (usd_hit' hf)
    clear hf hh hbox hp hnc hA hr hg hbs hl htj hn b0 hx0 hbl
    cases used with
    | false =>
      simp only [Bool.false_eq_true, if_false]
      go_enter Try.func16, Try.ntmps16
      go_wp2_with fail
      refine C1.out.mono ?_
      rintro r w1 ⟨rfl, rfl⟩
      go_wp2
      go_ret2
      exact ⟨rfl, HR0.out, Fr.of_below B0.out HS.out⟩
    | true =>
      simp only [if_true]
      rw [HU.out]
      go_enter Try.func16, Try.ntmps16
      go_wp2_with fail
      refine C1.out.mono ?_
      rintro r w1 ⟨rfl, rfl⟩
      go_wp2_with fail
      refine C2.out.mono ?_
      rintro r W3 ⟨rfl, r3, f3⟩
      generalize hq : w.heap.size = q at HX0 ⊢
      have hq3 := f3.keep q _ HX0.out (by simp [oTh, kd, rK])
      have F3 : Hid (Fr rK base w W3) := (Fr.of_below B0.out HS.out).trans f3
      obtain ⟨Af, nf, cf, w5, B5, l5, c5, U⟩ := front_up r3 hq3 (Nat.le_trans HS.out F3.out.size) HDL.out
      obtain ⟨ur, uc0, uq0, uq1, uq2, ud0, ud1, uf, uout, ubox⟩ := U
      obtain ⟨v0, v1, v2⟩ := th_cells ubox
      have UR := Lib.hid ur
      have UO := Lib.hid uout
      clear r3 f3 hq3 ur uout ubox hq
      go_wp2_with fail
      go_region_law (refine step_append_run rfl _ _ 27 27 rfl _ _ rfl rfl _ _ UR.out ?_)
      all_goals
        go_wp2
        go_ret2
        exact ⟨rfl, UO.out.1, F3.out.trans UO.out.2⟩
end Go.Proofs.Ytmhpngfkipooiaa
