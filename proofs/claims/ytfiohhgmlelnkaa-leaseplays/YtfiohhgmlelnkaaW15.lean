/-
  The contracts of the document's Use, Kill, Grant, Tick. Their conditions: the table lies in memory, and has no more leases than a bound.
-/
import Derived.Test.YtfiohhgmlelnkaaW14
namespace Go.Proofs.Ytfiohhgmlelnkaa
open Go.RowKit Go.Maps

theorem drp_len (L : List Ls) (k : ByteArray) : (drp L k).length ≤ L.length := List.length_filter_le _ _
set_option maxHeartbeats 2000000 in
theorem refkill_any (base h : Nat) (L : List Ls) (limit ticks now last : Int) (key : ByteArray) (w : World) (hr : RefAt w base h L limit ticks now last) (hbs : base ≤ w.heap.size) (hn : (keys L).Nodup) :
    Calls Try.prog 16 #[.pointer (some ⟨h, 0, none⟩), .string key] w (RefPost w base h (drp L key) limit ticks now last (.bool (has L key))) := by
  cases hf : fnd L key with
  | none =>
    have C1 := Lib.hid (find_miss base h L limit ticks now last key w hr hf)
    have e1 : has L key = false := by simp [has, hf]
    rw [drp_none (fnd_none.mp hf), e1]
    have H := Lib.hid hr
    clear e1 hf hr hbs hn
    go_enter Try.func16, Try.ntmps16
    go_wp2_with fail
    refine C1.out.mono ?_
    rintro r w1 ⟨rfl, rfl⟩
    go_wp2
    go_ret
    exact ⟨rfl, H.out, Fr.refl _ _ _ _⟩
  | some t =>
    obtain ⟨j, hh⟩ := hit_of hf
    have C1 := Lib.hid (find_hit base h L limit ticks now last key j t w hr hh)
    have C2 := Lib.hid (refdrop_any base h L limit ticks now last j w hr hbs hh.lt)
    have e1 : has L key = true := by simp [has, hf]
    rw [hh.drp hn, e1]
    have hj0 : (j : Int) ≥ 0 := by omega
    clear e1 hf hr hbs hn hh
    go_enter Try.func16, Try.ntmps16
    go_wp2_with fail
    refine C1.out.mono ?_
    rintro r w1 ⟨rfl, rfl⟩
    go_wp2_with fail
    refine C2.out.mono ?_
    rintro r w2 ⟨rfl, r2, f2⟩
    have R2 := Lib.hid r2
    have F2 := Lib.hid f2
    clear r2 f2
    go_wp2
    go_ret
    exact ⟨rfl, R2.out, F2.out⟩
set_option maxHeartbeats 2000000 in
theorem refuse_any (base h : Nat) (L : List Ls) (limit ticks now last : Int) (key : ByteArray) (tk : Int) (w : World) (hr : RefAt w base h L limit ticks now last) (hbs : base ≤ w.heap.size) (hn : (keys L).Nodup) :
    Calls Try.prog 14 #[.pointer (some ⟨h, 0, none⟩), .string key, .int .i64 tk] w (RefPost w base h (useL L key tk) limit ticks now last (.bool (useB L key tk))) := by
  unfold useL useB
  cases hf : fnd L key with
  | none =>
    have C1 := Lib.hid (find_miss base h L limit ticks now last key w hr hf)
    simp only [Bool.false_eq_true, if_false]
    have H := Lib.hid hr
    clear hf hr hbs hn
    go_enter Try.func14, Try.ntmps14
    go_wp2_with fail
    refine C1.out.mono ?_
    rintro r w1 ⟨rfl, rfl⟩
    go_wp2
    go_ret
    exact ⟨rfl, H.out, Fr.refl _ _ _ _⟩
  | some t =>
    obtain ⟨j, hh⟩ := hit_of hf
    have C1 := Lib.hid (find_hit base h L limit ticks now last key j t w hr hh)
    have C2 := Lib.hid (refdrop_any base h L limit ticks now last j w hr hbs hh.lt)
    have H := Lib.hid hr
    have hj0 : ¬ (j : Int) < 0 := by omega
    have hj00 : (0 : Int) ≤ (j : Int) := by omega
    obtain ⟨A, c, hbox, hp, hnc, hA, hl⟩ := hr.parts
    have c0 := hbox.c0
    obtain ⟨b, off, rfl, hb, x0, x1, x2⟩ := hp.at_ hh.lt
    have hjt : L[j]'hh.lt = t := by have := hh.at_; rw [List.getElem?_eq_getElem hh.lt] at this; injection this
    rw [hjt] at x1
    have hji : (j : Int) < (L.length : Int) := by have := hh.lt; omega
    obtain ⟨n, hnn⟩ : ∃ n, n = L.length := ⟨_, rfl⟩
    rw [← hnn] at c0 hji
    by_cases ht : t.t = tk
    · simp only [ht, decide_true, if_true]
      rw [ht] at x1
      have e1 := hh.drp hn
      rw [e1]
      clear hf hr hbs hn hbox hp hnc hA hl x0 x2 hjt hnn e1 hh
      go_enter Try.func14, Try.ntmps14
      go_wp2_with fail
      refine C1.out.mono ?_
      rintro r w1 ⟨rfl, rfl⟩
      go_wp2_with fail
      refine C2.out.mono ?_
      rintro r w2 ⟨rfl, r2, f2⟩
      have R2 := Lib.hid r2
      have F2 := Lib.hid f2
      clear r2 f2
      go_wp2
      go_ret
      exact ⟨rfl, R2.out, F2.out⟩
    · simp only [ht, decide_false, Bool.false_eq_true, if_false]
      generalize t.t = tt at x1 ht
      have hne : (tt != tk) = true := by simpa using ht
      clear hf hr hbs hn hbox hp hnc hA hl x0 x2 hjt hnn hh C2
      go_enter Try.func14, Try.ntmps14
      go_wp2_with fail
      refine C1.out.mono ?_
      rintro r w1 ⟨rfl, rfl⟩
      go_wp2
      go_ret
      exact ⟨rfl, H.out, Fr.refl _ _ _ _⟩
/-- The leases that are left at a moment. -/
def aft (now : Int) (L : List Ls) : List Ls := L.filter fun l => decide (now < l.n)
theorem aft_len (now : Int) (L : List Ls) : (aft now L).length ≤ L.length := List.length_filter_le _ _
def RtRel (B : Nat) (w1 : World) (base h : Nat) (L : List Ls) (limit ticks now last : Int) (s2 s3 : Value) (wr : World) : Prop :=
  ∃ (j : Nat) (A : Option Addr) (n c : Nat), j ≤ L.length ∧ s3 = .int .i64 (j : Int) ∧ s2 = .slice A n c ∧ RowT wr B s2 (aft now (L.take j)) ∧ RefAt wr base h L limit ticks now last ∧ Below B w1 wr
theorem aft_step {now : Int} {L : List Ls} {j : Nat} (h : j < L.length) : aft now (L.take (j + 1)) = aft now (L.take j) ++ (if now < L[j].n then [L[j]] else []) := by
  rw [List.take_succ_eq_append_getElem h]
  unfold aft
  rw [List.filter_append]
  congr 1
  by_cases hn : now < L[j].n <;> simp [hn]
set_option maxRecDepth 100000 in
set_option maxHeartbeats 4000000 in
theorem reftick_any (base h : Nat) (L : List Ls) (limit ticks now last : Int) (w : World) (hr : RefAt w base h L limit ticks now last) (hbs : base ≤ w.heap.size) (h0 : 0 ≤ now) (h1 : now ≤ 1000) :
    Calls Try.prog 18 #[.pointer (some ⟨h, 0, none⟩)] w (RefPost w base h (aft (now + 1) L) limit ticks (now + 1) last (.tuple #[])) := by
  obtain ⟨A, c, hbox, _⟩ := hr.parts
  have c3 := hbox.c3
  have fz := hbox.frozen 3
  have hw1 : wrap64 (now + 1) = now + 1 := by unfold wrap64; omega
  obtain ⟨r1, f1⟩ := hr.set3 (now + 1)
  obtain ⟨w1, hw⟩ : ∃ w1, w1 = w.setCell ⟨h, 3, none⟩ (.int .i64 (now + 1)) := ⟨_, rfl⟩
  have hsz : w1.heap.size = w.heap.size := by rw [hw]; simp
  have b0 : Below w1.heap.size w1 (w1.alloc (.cells #[] 66)) := (Below.refl _ _).alloc (Nat.le_refl _) _
  rw [← hw] at r1 f1
  have rs := RowT.empty w1
  rw [hsz] at rs
  have R0 := Lib.hid (r1.below b0)
  rw [hsz] at b0
  have RS : Hid (RowT (w1.alloc (.cells #[] 66)) w.heap.size (.slice (some ⟨w.heap.size, 0, none⟩) 0 0) (aft (now + 1) (L.take 0))) := rs
  have R1 := Lib.hid r1
  have F1 := Lib.hid f1
  have B0 := Lib.hid b0
  have HS := Lib.hid hbs
  have HZ := Lib.hid hsz
  have HL := Lib.hid hr.len
  clear hr hbs h0 h1 hbox r1 f1 b0 hsz rs
  obtain ⟨nn, hnn⟩ : ∃ nn, now + 1 = nn := ⟨_, rfl⟩
  replace hw1 := hw1.trans hnn
  rw [hnn] at RS R0 R1 hw ⊢
  clear hnn
  go_enter Try.func18, Try.ntmps18
  go_wp2
  rw [← hw]
  clear hw c3 fz hw1
  go_loopw [2, 3] (RtRel w.heap.size w1 base h L limit ticks nn last) (fun _ i _ => L.length - (intOf i).toNat)
  case atStart => exact ⟨0, _, _, _, Nat.zero_le _, rfl, rfl, RS.out, R0.out, B0.out⟩
  case round =>
    obtain ⟨j, A2, n2, k2, hj, rfl, rfl, hrow, href, hbel⟩ := hrel
    have HROW := Lib.hid hrow
    have HREF := Lib.hid href
    have HBEL := Lib.hid hbel
    obtain ⟨Ab, cb, hbox, hp, hnc, hA, _⟩ := href.parts
    have c0 := hbox.c0
    have c3 := hbox.c3
    have fz := hbox.frozen 0
    have HBX := Lib.hid hbox
    obtain ⟨n, hn⟩ : ∃ n, n = L.length := ⟨_, rfl⟩
    rw [← hn] at c0
    have HN := Lib.hid hn
    have hn5 : (n : Int) ≤ 100000 := by have := HL.out; omega
    clear hrow href hbel R0 RS B0
    by_cases hjn : j < n
    · have hjl : j < L.length := by omega
      obtain ⟨b, off, rfl, hbl, x0, x1, x2⟩ := hp.at_ hjl
      have hji : (j : Int) < (n : Int) := by omega
      have hj0 : (0 : Int) ≤ (j : Int) := by omega
      have hstep := aft_step (now := nn) hjl
      by_cases hgt : L[j].n > nn
      · rw [if_pos hgt] at hstep
        have HST := Lib.hid hstep
        have HBXL := Lib.hid hbox.lt
        have HBL := Lib.hid hbl
        have HJL := Lib.hid hjl
        have HL2 : Hid ((aft nn (L.take j)).length ≤ 100000) := by show _ ≤ _; have := aft_len nn (L.take j); rw [List.length_take] at this; have := HL.out; omega
        generalize hLj : L[j] = lj at x0 x1 x2 hgt HST
        obtain ⟨lk, lt, ln⟩ := lj
        simp only at x0 x1 x2 hgt
        clear hstep hbox hp hnc hA hbl hjl hn hLj
        go_wp2_with fail
        go_quiet (fail)
        obtain ⟨W5, hW5⟩ : ∃ W5, W5 = wr.drewN nq := ⟨_, rfl⟩
        have BW : Hid (Below wr.heap.size wr W5) := by show Below _ _ _; rw [hW5]; exact below_drewN _ _
        rw [← hW5]
        clear hW5
        have y0 := (BW.out.cell (p := ⟨h, 0, none⟩) HBXL.out).trans c0
        have z0 := (BW.out.cell (p := ⟨b, off + j * 3, none⟩) HBL.out).trans x0
        have z1 := (BW.out.cell (p := ⟨b, off + j * 3 + 1, none⟩) HBL.out).trans x1
        have z2 := (BW.out.cell (p := ⟨b, off + j * 3 + 2, none⟩) HBL.out).trans x2
        have b6 : Below W5.heap.size W5 (W5.alloc (.cells #[.string lk, .int .i64 lt, .int .i64 ln] 66)) := (Below.refl _ _).alloc (Nat.le_refl _) _
        have hbw : w.heap.size ≤ wr.heap.size := by have := HBEL.out.size; have := HZ.out; omega
        have B5 : Below w.heap.size w1 W5 := HBEL.out.trans (BW.out.mono hbw)
        have hbw5 : w.heap.size ≤ W5.heap.size := Nat.le_trans hbw BW.out.size
        have row5 : RowT (W5.alloc (.cells #[.string lk, .int .i64 lt, .int .i64 ln] 66)) w.heap.size (.slice A2 n2 k2) (aft nn (L.take j)) := by
          have r5 := HROW.out.fr (k := []) (ms := []) (base' := wr.heap.size) (Fr.of_below BW.out (Nat.le_refl _)) (by simp) rfl
          exact r5.fr (k := []) (ms := []) (base' := W5.heap.size) (Fr.of_below b6 (Nat.le_refl _)) (by simp) rfl
        obtain ⟨A6, c6, e6, hp6, _, hA6⟩ := (RowT.one W5 ⟨lk, lt, ln⟩).tgs (by simp [maxLen])
        injection e6 with e6 e6b e6c
        clear e6b
        subst e6 e6c
        obtain ⟨v7, W7, r7, o7, b7⟩ := RowT.grow (w := w1) (m := [⟨lk, lt, ln⟩]) HZ.out.symm row5 (B5.trans (b6.mono hbw5)) hp6 rfl hA6 (by have := HL2.out; simp; omega)
        rw [← HST.out] at o7
        obtain ⟨A7, c7, hv7, _⟩ := o7.form
        subst hv7
        have R7 := Lib.hid r7
        have O7 := Lib.hid o7
        have B7 := Lib.hid b7
        have HR7 : Hid (RefAt W7 base h L limit ticks nn last) := (R1.out.below (by have := b7; rwa [← HZ.out] at this))
        clear r7 o7 b7 row5 hp6 hA6 b6 B5 hbw hbw5 HROW HREF HBEL HST c0 c3 fz x0 x1 x2 HBX
        generalize hla : (aft nn (L.take (j + 1))).length = la at R7 O7 ⊢
        clear hla
        go_wp2_with (at_builtin; refine wpList_append_run rfl _ _ 27 27 rfl _ _ rfl rfl _ W7 R7.out ?_)
        go_roundw
        case rel => exact ⟨j + 1, A7, la, c7, HJL.out, by go_num, rfl, O7.out, HR7.out, B7.out⟩
        case measure => simp [intOf]; have := HN.out; omega
      · rw [if_neg hgt, List.append_nil] at hstep
        have HST := Lib.hid hstep
        clear hstep hbox hp hnc hA hbl x0 x1
        generalize L[j].n = un at x2 hgt
        have HJL := Lib.hid hjl
        clear hjl hn
        go_wp2_with fail
        go_quiet (fail)
        have HR5 := Lib.hid (HREF.out.below (below_drewN wr nq))
        have HB5 : Hid (Below w.heap.size w1 (wr.drewN nq)) := HBEL.out.trans ((below_drewN wr nq).mono (by have := HBEL.out.size; have := HZ.out; omega))
        have HW5 : Hid (RowT (wr.drewN nq) w.heap.size (.slice A2 n2 k2) (aft nn (L.take (j + 1)))) := by
          show RowT _ _ _ _
          rw [HST.out]
          exact HROW.out.fr (k := []) (ms := []) (base' := wr.heap.size) (Fr.of_below (below_drewN wr nq) (Nat.le_refl _)) (by simp) rfl
        clear HROW HREF HBEL HST c0 c3 fz x2 HBX
        generalize wr.drewN nq = W5 at HR5 HB5 HW5 ⊢
        go_wp2
        go_roundw
        case rel => exact ⟨j + 1, A2, n2, k2, HJL.out, by go_num, rfl, HW5.out, HR5.out, HB5.out⟩
        case measure => simp [intOf]; have := HN.out; omega
    · have hji : ¬ (j : Int) < (n : Int) := by omega
      have hje : j = L.length := by omega
      have hout := ref_store (W := wr) R1.out (by have := HZ.out; have := HS.out; omega) (by have := HBEL.out; rwa [← HZ.out] at this) (by have := HROW.out; rw [hje, List.take_length, ← HZ.out] at this; exact this) (by have := aft_len nn L; have := HL.out; omega)
      have HOUT := Lib.hid hout
      clear hout hbox hp hnc hA hn hje
      go_wp2
      go_end0
      exact ⟨rfl, HOUT.out.1, F1.out.trans HOUT.out.2⟩
end Go.Proofs.Ytfiohhgmlelnkaa
