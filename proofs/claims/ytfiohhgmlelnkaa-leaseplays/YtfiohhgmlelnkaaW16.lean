/-
  The contract of the document's Grant. Its conditions: the table lies in memory, and has no more leases than a bound.
-/
import Derived.Test.YtfiohhgmlelnkaaW15
namespace Go.Proofs.Ytfiohhgmlelnkaa
open Go.RowKit Go.Maps

/-- append by the equation of its run, as a step of a region that draws. -/
theorem step_append_runT {P : Program} {ops : Array Oper} {o : Oper} {a : Act} {w : World} {K : Act → World → Prop} {Q : Exit → Act → World → Prop} {E : Prop}
    (hg : o.guard = none) (s x : Operand) (t u : TypeId) (hop : o.op = Op.call { callee := Callee.builtin Builtin.append, args := #[s, x], argTypes := #[t, u] }) (v y : Value) (hs : a.eval s = v) (hx : a.eval x = y) (v' : Value) (w' : World)
    (hr : (Builtin.append_ #[t, u] o.type #[v, y]).run P w = .ok v' w') (hK : K (a.put o.dst v') w') : if Region.wanted o (yielded ops a.tmps) = true then Oper.wp P o a w K Q else E := by
  have hw : Region.wanted o (yielded ops a.tmps) = true := by simp [Region.wanted, hg]
  rw [if_pos hw]
  unfold Oper.wp
  simp [execOp, hop, resolve, invoke, builtin, hs, hx, hr, Result.andThen]
  exact hK
/-- The kinds of the document's blocks. -/
def rL : List Nat := [29, 66]
/-- One more lease. -/
theorem RowT.more {W : World} {base : Nat} {v : Value} {l : List Ls} (h : RowT W base v l) (t : Ls) (hb : base ≤ W.heap.size) (hl : l.length ≤ 1000000) :
    ∃ A c w', (Builtin.append_ #[27, 27] 27 #[v, .slice (some ⟨W.heap.size, 0, none⟩) 1 1]).run Try.prog (W.alloc (.cells #[.string t.k, .int .i64 t.t, .int .i64 t.n] 66)) = .ok (.slice A (l.length + 1) c) w' ∧
      RowT w' base (.slice A (l.length + 1) c) (l ++ [t]) ∧ Fr [66] [] base W w' := by
  obtain ⟨i0, hi, hz0, hz1, hz2⟩ := info_parts info66
  obtain ⟨A6, c6, e6, hp6, _, _⟩ := (RowT.one W t).tgs (by simp [maxLen])
  injection e6 with e6 e6b e6c
  subst e6 e6c
  have h' : RowT (W.alloc (.cells #[.string t.k, .int .i64 t.t, .int .i64 t.n] 66)) base v l := World.ownsRow.alloc h _
  obtain ⟨v', w', hr, ho, hg, _⟩ := run_append_own (P := Try.prog) (W.alloc (.cells #[.string t.k, .int .i64 t.t, .int .i64 t.n] 66)) base 27 27 66 i0 (.agg #[.string ⟨#[]⟩, .int .i64 0, .int .i64 0]) 3 32 Try.underlying27 hi hz0 hz1 hz2 rfl (by decide) v l.length (thVals l) h' ⟨W.heap.size, 0, none⟩ 1 1 (thVals [t]) (thVals_length [t]) (news_ths hp6) (thVals_one [t]) (by unfold maxLen; omega) (by omega) (by simp; omega)
  have ho' : RowT w' base v' (l ++ [t]) := by
    unfold RowT
    rw [thVals_append, List.length_append]
    exact ho
  obtain ⟨A, c, rfl, _⟩ := ho'.form
  simp only [List.length_append, List.length_singleton] at hr ho'
  refine ⟨A, c, w', hr, ho', ?_, fun b o hbo hk _ => ?_⟩
  · exact ((Below.refl base W).alloc hb _).grown hg (by simp; omega) (fun j hj => (World.ownsRow.lt h j hj).1)
  · have hlt := lt_of_heap hbo
    rw [hg.block b (by simp; omega) ?_, heap_old _ _ hlt]
    · exact hbo
    · intro he
      rcases h.2 with ⟨rfl, _⟩ | ⟨g, cap, cur, rfl, _, hgb, _⟩
      · simp [Value.ownBlock] at he
      · obtain rfl : b = g := by simpa [Value.ownBlock] using he
        rw [hgb] at hbo
        cases hbo
        exact hk (by simp [kd])
def rgL (L : List Ls) (k : ByteArray) (limit ticks now last : Int) : List Ls := if grB L k limit then L ++ [⟨k, last + 1, now + ticks⟩] else L
def RgPost (w : World) (base h : Nat) (L : List Ls) (limit ticks now last : Int) (v : Value) (r : Ending) (w' : World) : Prop := r = .returned v ∧ RefAt w' base h L limit ticks now last ∧ Fr rL [] base w w'
/-- What Grant appends and stores. -/
structure GrUp (X : World) (base h : Nat) (L : List Ls) (key : ByteArray) (limit ticks now last : Int) (A : Option Addr) (n c : Nat) (w5 : World) (B5 : Option Addr) (l5 c5 : Nat) : Prop where
  r : (Builtin.append_ #[27, 27] 27 #[.slice A n c, .slice (some ⟨X.heap.size, 0, none⟩) 1 1]).run Try.prog (X.drew.alloc (.cells #[.string key, .int .i64 last, .int .i64 (now + ticks)] 66)) = .ok (.slice B5 l5 c5) w5
  c0 : X.cell? ⟨h, 0, none⟩ = some (.slice A n c)
  c2 : X.cell? ⟨h, 2, none⟩ = some (.int .i64 ticks)
  c3 : X.cell? ⟨h, 3, none⟩ = some (.int .i64 now)
  c4 : X.cell? ⟨h, 4, none⟩ = some (.int .i64 last)
  d0 : (X.alloc (.cells #[.string key, .int .i64 last, .int .i64 (now + ticks)] 66)).cell? ⟨h, 0, none⟩ = some (.slice A n c)
  d1 : w5.cell? ⟨h, 0, none⟩ = some (.slice A n c)
  f : w5.frozen? ⟨h, 0, none⟩ = false
  sA : (X.alloc (.cells #[.string key, .int .i64 last, .int .i64 (now + ticks)] 66)).cell? ⟨h, 2, none⟩ = some (.int .i64 ticks) ∧ (X.alloc (.cells #[.string key, .int .i64 last, .int .i64 (now + ticks)] 66)).cell? ⟨h, 3, none⟩ = some (.int .i64 now) ∧ (X.alloc (.cells #[.string key, .int .i64 last, .int .i64 (now + ticks)] 66)).cell? ⟨h, 4, none⟩ = some (.int .i64 last)
  s5 : w5.cell? ⟨h, 2, none⟩ = some (.int .i64 ticks) ∧ w5.cell? ⟨h, 3, none⟩ = some (.int .i64 now) ∧ w5.cell? ⟨h, 4, none⟩ = some (.int .i64 last)
  sE : (w5.setCell ⟨h, 0, none⟩ (.slice B5 l5 c5)).cell? ⟨h, 2, none⟩ = some (.int .i64 ticks) ∧ (w5.setCell ⟨h, 0, none⟩ (.slice B5 l5 c5)).cell? ⟨h, 3, none⟩ = some (.int .i64 now) ∧ (w5.setCell ⟨h, 0, none⟩ (.slice B5 l5 c5)).cell? ⟨h, 4, none⟩ = some (.int .i64 last)
  e4 : (w5.setCell ⟨h, 0, none⟩ (.slice B5 l5 c5)).cell? ⟨h, 4, none⟩ = some (.int .i64 last)
  out : RefAt (w5.setCell ⟨h, 0, none⟩ (.slice B5 l5 c5)) base h (L ++ [⟨key, last, now + ticks⟩]) limit ticks now last ∧ Fr rL [] base X (w5.setCell ⟨h, 0, none⟩ (.slice B5 l5 c5))
theorem gr_up {X : World} {base h : Nat} {L : List Ls} {key : ByteArray} {limit ticks now last : Int} (hr : RefAt X base h L limit ticks now last) (hbs : base ≤ X.heap.size) (hl : L.length < 100000) : ∃ A n c w5 B5 l5 c5, GrUp X base h L key limit ticks now last A n c w5 B5 l5 c5 := by
  obtain ⟨a1, a2, v, hbox, hrow⟩ := hr
  obtain ⟨A, c, rfl, _⟩ := hrow.form
  have hrd : RowT X.drew base (.slice A L.length c) L := hrow
  obtain ⟨B5, c5, w5, r5, o5, f5⟩ := hrd.more ⟨key, last, now + ticks⟩ hbs (by omega)
  have hlt : h < X.heap.size := hbox.lt
  have b0 : Below X.heap.size X (X.alloc (.cells #[.string key, .int .i64 last, .int .i64 (now + ticks)] 66)) := (Below.refl _ _).alloc (Nat.le_refl _) _
  have hbox5 : RBox w5 h (.slice A L.length c) limit ticks now last := f5.keep h _ hbox (by simp [kd]) (by simp)
  have hboxA : RBox (X.alloc (.cells #[.string key, .int .i64 last, .int .i64 (now + ticks)] 66)) h (.slice A L.length c) limit ticks now last := (b0.block h hlt).trans hbox
  have hF : Fr rL [] base w5 (w5.setCell ⟨h, 0, none⟩ (.slice B5 (L.length + 1) c5)) := (Fr.refl _ _ _ _).set hbox5 (.inl (by simp [kd, rL])) a1 _
  have hF' : Fr [29] [] base w5 (w5.setCell ⟨h, 0, none⟩ (.slice B5 (L.length + 1) c5)) := (Fr.refl _ _ _ _).set hbox5 (.inl (by simp [kd])) a1 _
  refine ⟨A, L.length, c, w5, B5, _, c5, r5, hbox.c0, hbox.c2, hbox.c3, hbox.c4, (b0.cell (p := ⟨h, 0, none⟩) hlt).trans hbox.c0, hbox5.c0, hbox5.frozen 0, ⟨hboxA.c2, hboxA.c3, hboxA.c4⟩, ⟨hbox5.c2, hbox5.c3, hbox5.c4⟩, ⟨(hbox5.set0 _).c2, (hbox5.set0 _).c3, (hbox5.set0 _).c4⟩, (hbox5.set0 _).c4, ⟨a1, by simp; omega, _, hbox5.set0 _, o5.fr hF' (by simp) rfl⟩, ?_⟩
  exact ((Fr.refl rL [] base X).drew.trans (f5.mono (by simp [rL]) (by simp))).trans hF
set_option maxRecDepth 100000 in
set_option maxHeartbeats 8000000 in
theorem refgrant_any (base h : Nat) (L : List Ls) (limit ticks now last : Int) (key : ByteArray) (w : World) (hr : RefAt w base h L limit ticks now last) (hbs : base ≤ w.heap.size) (hl : L.length ≤ 1000) (h0 : 0 ≤ now ∧ now ≤ 1000) (h1 : 1 ≤ ticks ∧ ticks ≤ 1000000) (h2 : 0 ≤ last ∧ last ≤ 1000) :
    Calls Try.prog 12 #[.pointer (some ⟨h, 0, none⟩), .string key] w (RgPost w base h (rgL L key limit ticks now last) limit ticks now (grT L key limit last) (.int .i64 (grV L key limit last))) := by
  obtain ⟨A, c, hbox, hp, hnc, hA, _⟩ := hr.parts
  have c0 := hbox.c0
  have c1 := hbox.c1
  obtain ⟨n, hn⟩ : ∃ n, n = L.length := ⟨_, rfl⟩
  rw [← hn] at c0
  have HN := Lib.hid hn
  have HR := Lib.hid hr
  have HS := Lib.hid hbs
  have HL := Lib.hid hl
  have HBL := Lib.hid hbox.lt
  by_cases hlim : (n : Int) ≥ limit
  · have e : grB L key limit = false := by unfold grB; rw [← hn]; simp; omega
    simp only [rgL, grT, grV, e, Bool.false_eq_true, if_false]
    clear hr hbs hl h0 h1 h2 hbox hp hnc hA hn e
    go_enter Try.func12, Try.ntmps12
    go_wp2_with fail
    go_quiet (fail)
    go_wp2
    go_ret
    exact ⟨rfl, HR.out.below (below_drewN _ _), Fr.of_below (below_drewN _ _) HS.out⟩
  · cases hf : fnd L key with
    | some t =>
      obtain ⟨j, hh⟩ := hit_of hf
      have CU : Hid (∀ m, Calls Try.prog 25 #[.pointer (some ⟨h, 0, none⟩), .string key] (w.drewN m) fun r w' => r = .returned (.int .i64 (j : Int)) ∧ w' = w.drewN m) := fun m =>
        (find_hit base h L limit ticks now last key j t (w.drewN m) (HR.out.below (below_drewN _ _)) hh).mono fun r w' hx => ⟨hx.1, hx.2.symm⟩
      have hj0 : (j : Int) ≥ 0 := by omega
      have e : grB L key limit = false := by simp [grB, has, hf]
      simp only [rgL, grT, grV, e, Bool.false_eq_true, if_false]
      clear hr hbs hl h0 h1 h2 hbox hp hnc hA hn e hf hh
      go_enter Try.func12, Try.ntmps12
      go_wp2_with fail
      go_quiet (first | (go_at_call 25; exact Calls.quiet_of_same (CU.out _)))
      go_wp2
      go_ret
      exact ⟨rfl, HR.out.below (below_drewN _ _), Fr.of_below (below_drewN _ _) HS.out⟩
    | none =>
      have CU : Hid (∀ m, Calls Try.prog 25 #[.pointer (some ⟨h, 0, none⟩), .string key] (w.drewN m) fun r w' => r = .returned (.int .i64 (-1)) ∧ w' = w.drewN m) := fun m =>
        (find_miss base h L limit ticks now last key (w.drewN m) (HR.out.below (below_drewN _ _)) hf).mono fun r w' hx => ⟨hx.1, hx.2.symm⟩
      have e : grB L key limit = true := by unfold grB; rw [← hn]; simp [has, hf]; omega
      simp only [rgL, grT, grV, e, if_true]
      have hw1 : wrap64 (last + 1) = last + 1 := by unfold wrap64; omega
      have hw2 : IntKind.i64.wrap (now + ticks) = now + ticks := IntWalk.i64_in _ (by omega)
      clear hr hbs hl h0 h1 h2 hbox hp hnc hA hn e hf
      go_enter Try.func12, Try.ntmps12
      go_wp2_with fail
      go_quiet (first | (go_at_call 25; exact Calls.quiet_of_same (CU.out _)))
      obtain ⟨W, hW⟩ : ∃ W, W = w.drewN nq := ⟨_, rfl⟩
      have BW : Hid (Below w.heap.size w W) := by show Below _ _ _; rw [hW]; exact below_drewN _ _
      rw [← hW]
      clear hW CU c0 c1
      have rW := HR.out.below BW.out
      obtain ⟨A1, k1, hbW, _⟩ := rW.parts
      have c4 := hbW.c4
      have fz := hbW.frozen 4
      obtain ⟨r1, f1⟩ := rW.set4 (last + 1)
      obtain ⟨X, hX⟩ : ∃ X, X = W.setCell ⟨h, 4, none⟩ (.int .i64 (last + 1)) := ⟨_, rfl⟩
      rw [← hX] at r1 f1
      have HX := Lib.hid hX
      have F1 : Hid (Fr rL [] base w X) := (Fr.of_below BW.out HS.out).trans (f1.mono (by simp [rK, rL]) (by simp))
      obtain ⟨Af, nf, cf, w5, B5, l5, c5, U⟩ := gr_up (key := key) r1 (Nat.le_trans HS.out F1.out.size) (by have := HL.out; omega)
      obtain ⟨ur, u0, u2, u3, u4, ud0, ud1, uf, uSA, uS5, uSE, ue4, uout⟩ := U
      have UR := Lib.hid ur
      have UO := Lib.hid uout
      clear ur uout r1 f1 rW hbW hX
      go_wp2_with fail
      rw [← HX.out]
      clear c4 fz
      have HSA : Hid ((X.alloc (.cells #[.string key, .int .i64 (last + 1), .int .i64 (now + ticks)] 66)).cell? ⟨h, 2, none⟩ = some (.int .i64 ticks) ∧ (X.alloc (.cells #[.string key, .int .i64 (last + 1), .int .i64 (now + ticks)] 66)).cell? ⟨h, 3, none⟩ = some (.int .i64 now) ∧ (X.alloc (.cells #[.string key, .int .i64 (last + 1), .int .i64 (now + ticks)] 66)).cell? ⟨h, 4, none⟩ = some (.int .i64 (last + 1))) := uSA
      have HS5 := Lib.hid uS5
      have HSE := Lib.hid uSE
      clear uSA uS5 uSE
      refine wp_region_held_drew (S := fun w' => w'.cell? ⟨h, 2, none⟩ = some (.int .i64 ticks) ∧ w'.cell? ⟨h, 3, none⟩ = some (.int .i64 now) ∧ w'.cell? ⟨h, 4, none⟩ = some (.int .i64 (last + 1))) (by kernel_rfl) ⟨u2, u3, u4⟩ (fun hHeld => ?_)
      refine wpAnyH_take (i := 0) (oi := { dst := some 28, op := Op.move (Operand.tmp 0), type := 26, pos := "ref.go:42", after := #[], guard := none }) (v := ?v0) rfl (by kernel_rfl) (by kernel_rfl) (by kernel_rfl) (fun _ _ _ h => h) (Or.inl ⟨by rfl, ?hy0⟩) (by assumption) ?rest0
      case hy0 => (intro w hSw; (try dsimp only at hSw); go_simp <;> (try with_reducible rfl))
      try simp only [Act.put, List.setIfInBounds_toArray, List.set_cons_zero, List.set_cons_succ]
      refine wpAnyH_take (i := 1) (oi := { dst := some 29, op := Op.move (Operand.tmp 0), type := 26, pos := "ref.go:42", after := #[], guard := none }) (v := ?v1) rfl (by kernel_rfl) (by kernel_rfl) (by kernel_rfl) (fun _ _ _ h => h) (Or.inl ⟨by rfl, ?hy1⟩) (by assumption) ?rest1
      case hy1 => (intro w hSw; (try dsimp only at hSw); go_simp <;> (try with_reducible rfl))
      try simp only [Act.put, List.setIfInBounds_toArray, List.set_cons_zero, List.set_cons_succ]
      refine wpAnyH_take (i := 2) (oi := { dst := some 30, op := Op.nilCheck (Operand.tmp 29), type := 0, pos := "ref.go:42", after := #[{ on := 1, ground := Ground.data }], guard := none }) (v := ?v2) rfl (by kernel_rfl) (by kernel_rfl) (by kernel_rfl) (fun _ _ _ h => h) (Or.inl ⟨by rfl, ?hy2⟩) (by assumption) ?rest2
      case hy2 => (intro w hSw; (try dsimp only at hSw); go_simp <;> (try with_reducible rfl))
      try simp only [Act.put, List.setIfInBounds_toArray, List.set_cons_zero, List.set_cons_succ]
      refine wpAnyH_take (i := 3) (oi := { dst := some 31, op := Op.fieldAddr 29 (Operand.tmp 30) 0, type := 0, pos := "ref.go:42", after := #[{ on := 2, ground := Ground.data }], guard := none }) (v := ?v3) rfl (by kernel_rfl) (by kernel_rfl) (by kernel_rfl) (fun _ _ _ h => h) (Or.inl ⟨by rfl, ?hy3⟩) (by assumption) ?rest3
      case hy3 => (intro w hSw; (try dsimp only at hSw); go_simp <;> (try with_reducible rfl))
      try simp only [Act.put, List.setIfInBounds_toArray, List.set_cons_zero, List.set_cons_succ]
      refine wpAnyH_take (i := 5) (oi := { dst := some 33, op := Op.move (Operand.tmp 1), type := 9, pos := "ref.go:42", after := #[], guard := none }) (v := ?v5) rfl (by kernel_rfl) (by kernel_rfl) (by kernel_rfl) (fun _ _ _ h => h) (Or.inl ⟨by rfl, ?hy5⟩) (by assumption) ?rest5
      case hy5 => (intro w hSw; (try dsimp only at hSw); go_simp <;> (try with_reducible rfl))
      try simp only [Act.put, List.setIfInBounds_toArray, List.set_cons_zero, List.set_cons_succ]
      refine wpAnyH_take (i := 6) (oi := { dst := some 34, op := Op.move (Operand.tmp 0), type := 26, pos := "ref.go:42", after := #[], guard := none }) (v := ?v6) rfl (by kernel_rfl) (by kernel_rfl) (by kernel_rfl) (fun _ _ _ h => h) (Or.inl ⟨by rfl, ?hy6⟩) (by assumption) ?rest6
      case hy6 => (intro w hSw; (try dsimp only at hSw); go_simp <;> (try with_reducible rfl))
      try simp only [Act.put, List.setIfInBounds_toArray, List.set_cons_zero, List.set_cons_succ]
      refine wpAnyH_take (i := 7) (oi := { dst := some 35, op := Op.nilCheck (Operand.tmp 34), type := 0, pos := "ref.go:42", after := #[{ on := 6, ground := Ground.data }], guard := none }) (v := ?v7) rfl (by kernel_rfl) (by kernel_rfl) (by kernel_rfl) (fun _ _ _ h => h) (Or.inl ⟨by rfl, ?hy7⟩) (by assumption) ?rest7
      case hy7 => (intro w hSw; (try dsimp only at hSw); go_simp <;> (try with_reducible rfl))
      try simp only [Act.put, List.setIfInBounds_toArray, List.set_cons_zero, List.set_cons_succ]
      refine wpAnyH_take (i := 8) (oi := { dst := some 36, op := Op.fieldAddr 29 (Operand.tmp 35) 4, type := 0, pos := "ref.go:42", after := #[{ on := 7, ground := Ground.data }], guard := none }) (v := ?v8) rfl (by kernel_rfl) (by kernel_rfl) (by kernel_rfl) (fun _ _ _ h => h) (Or.inl ⟨by rfl, ?hy8⟩) (by assumption) ?rest8
      case hy8 => (intro w hSw; (try dsimp only at hSw); go_simp <;> (try with_reducible rfl))
      try simp only [Act.put, List.setIfInBounds_toArray, List.set_cons_zero, List.set_cons_succ]
      refine wpAnyH_take (i := 9) (oi := { dst := some 37, op := Op.load 2 (Operand.tmp 36), type := 2, pos := "ref.go:42", after := #[{ on := 8, ground := Ground.data }], guard := none }) (v := ?v9) rfl (by kernel_rfl) (by kernel_rfl) (by kernel_rfl) (fun _ _ _ h => h) (Or.inl ⟨by rfl, ?hy9⟩) (by assumption) ?rest9
      case hy9 => (intro w hSw; (try dsimp only at hSw); go_simp <;> (try with_reducible rfl))
      try simp only [Act.put, List.setIfInBounds_toArray, List.set_cons_zero, List.set_cons_succ]
      refine wpAnyH_take (i := 10) (oi := { dst := some 38, op := Op.move (Operand.tmp 0), type := 26, pos := "ref.go:42", after := #[], guard := none }) (v := ?v10) rfl (by kernel_rfl) (by kernel_rfl) (by kernel_rfl) (fun _ _ _ h => h) (Or.inl ⟨by rfl, ?hy10⟩) (by assumption) ?rest10
      case hy10 => (intro w hSw; (try dsimp only at hSw); go_simp <;> (try with_reducible rfl))
      try simp only [Act.put, List.setIfInBounds_toArray, List.set_cons_zero, List.set_cons_succ]
      refine wpAnyH_take (i := 11) (oi := { dst := some 39, op := Op.nilCheck (Operand.tmp 38), type := 0, pos := "ref.go:42", after := #[{ on := 10, ground := Ground.data }], guard := none }) (v := ?v11) rfl (by kernel_rfl) (by kernel_rfl) (by kernel_rfl) (fun _ _ _ h => h) (Or.inl ⟨by rfl, ?hy11⟩) (by assumption) ?rest11
      case hy11 => (intro w hSw; (try dsimp only at hSw); go_simp <;> (try with_reducible rfl))
      try simp only [Act.put, List.setIfInBounds_toArray, List.set_cons_zero, List.set_cons_succ]
      refine wpAnyH_take (i := 12) (oi := { dst := some 40, op := Op.fieldAddr 29 (Operand.tmp 39) 3, type := 0, pos := "ref.go:42", after := #[{ on := 11, ground := Ground.data }], guard := none }) (v := ?v12) rfl (by kernel_rfl) (by kernel_rfl) (by kernel_rfl) (fun _ _ _ h => h) (Or.inl ⟨by rfl, ?hy12⟩) (by assumption) ?rest12
      case hy12 => (intro w hSw; (try dsimp only at hSw); go_simp <;> (try with_reducible rfl))
      try simp only [Act.put, List.setIfInBounds_toArray, List.set_cons_zero, List.set_cons_succ]
      refine wpAnyH_take (i := 13) (oi := { dst := some 41, op := Op.load 3 (Operand.tmp 40), type := 3, pos := "ref.go:42", after := #[{ on := 12, ground := Ground.data }], guard := none }) (v := ?v13) rfl (by kernel_rfl) (by kernel_rfl) (by kernel_rfl) (fun _ _ _ h => h) (Or.inl ⟨by rfl, ?hy13⟩) (by assumption) ?rest13
      case hy13 => (intro w hSw; (try dsimp only at hSw); go_simp <;> (try with_reducible rfl))
      try simp only [Act.put, List.setIfInBounds_toArray, List.set_cons_zero, List.set_cons_succ]
      refine wpAnyH_take (i := 14) (oi := { dst := some 42, op := Op.move (Operand.tmp 0), type := 26, pos := "ref.go:42", after := #[], guard := none }) (v := ?v14) rfl (by kernel_rfl) (by kernel_rfl) (by kernel_rfl) (fun _ _ _ h => h) (Or.inl ⟨by rfl, ?hy14⟩) (by assumption) ?rest14
      case hy14 => (intro w hSw; (try dsimp only at hSw); go_simp <;> (try with_reducible rfl))
      try simp only [Act.put, List.setIfInBounds_toArray, List.set_cons_zero, List.set_cons_succ]
      refine wpAnyH_take (i := 15) (oi := { dst := some 43, op := Op.nilCheck (Operand.tmp 42), type := 0, pos := "ref.go:42", after := #[{ on := 14, ground := Ground.data }], guard := none }) (v := ?v15) rfl (by kernel_rfl) (by kernel_rfl) (by kernel_rfl) (fun _ _ _ h => h) (Or.inl ⟨by rfl, ?hy15⟩) (by assumption) ?rest15
      case hy15 => (intro w hSw; (try dsimp only at hSw); go_simp <;> (try with_reducible rfl))
      try simp only [Act.put, List.setIfInBounds_toArray, List.set_cons_zero, List.set_cons_succ]
      refine wpAnyH_take (i := 16) (oi := { dst := some 44, op := Op.fieldAddr 29 (Operand.tmp 43) 2, type := 0, pos := "ref.go:42", after := #[{ on := 15, ground := Ground.data }], guard := none }) (v := ?v16) rfl (by kernel_rfl) (by kernel_rfl) (by kernel_rfl) (fun _ _ _ h => h) (Or.inl ⟨by rfl, ?hy16⟩) (by assumption) ?rest16
      case hy16 => (intro w hSw; (try dsimp only at hSw); go_simp <;> (try with_reducible rfl))
      try simp only [Act.put, List.setIfInBounds_toArray, List.set_cons_zero, List.set_cons_succ]
      refine wpAnyH_take (i := 17) (oi := { dst := some 45, op := Op.load 3 (Operand.tmp 44), type := 3, pos := "ref.go:42", after := #[{ on := 16, ground := Ground.data }], guard := none }) (v := ?v17) rfl (by kernel_rfl) (by kernel_rfl) (by kernel_rfl) (fun _ _ _ h => h) (Or.inl ⟨by rfl, ?hy17⟩) (by assumption) ?rest17
      case hy17 => (intro w hSw; (try dsimp only at hSw); go_simp <;> (try with_reducible rfl))
      try simp only [Act.put, List.setIfInBounds_toArray, List.set_cons_zero, List.set_cons_succ]
      refine wpAnyH_take (i := 18) (oi := { dst := some 46, op := Op.binOp BinOp.add 3 (Operand.tmp 41) (Operand.tmp 45) 3, type := 3, pos := "ref.go:42", after := #[{ on := 13, ground := Ground.data }, { on := 17, ground := Ground.data }], guard := none }) (v := ?v18) rfl (by kernel_rfl) (by kernel_rfl) (by kernel_rfl) (fun _ _ _ h => h) (Or.inl ⟨by rfl, ?hy18⟩) (by assumption) ?rest18
      case hy18 => (intro w hSw; (try dsimp only at hSw); go_simp <;> (try with_reducible rfl))
      try simp only [Act.put, List.setIfInBounds_toArray, List.set_cons_zero, List.set_cons_succ]
      refine wpAnyH_take (i := 19) (oi := { dst := some 47, op := Op.build 66 #[(0, Operand.tmp 33), (1, Operand.tmp 37), (2, Operand.tmp 46)], type := 66, pos := "ref.go:42", after := #[{ on := 5, ground := Ground.data }, { on := 9, ground := Ground.data }, { on := 18, ground := Ground.data }], guard := none }) (v := ?v19) rfl (by kernel_rfl) (by kernel_rfl) (by kernel_rfl) (fun _ _ _ h => h) (Or.inl ⟨by rfl, ?hy19⟩) (by assumption) ?rest19
      case hy19 => (intro w hSw; (try dsimp only at hSw); go_simp <;> (try with_reducible rfl))
      try simp only [Act.put, List.setIfInBounds_toArray, List.set_cons_zero, List.set_cons_succ]
      refine wpAnyH_ready (rs := [4, 20]) (by kernel_rfl) (by simp) ?_
      refine AllReadyH.cons (o := { dst := some 32, op := Op.load 27 (Operand.tmp 31), type := 27, pos := "ref.go:42", after := #[{ on := 3, ground := Ground.data }], guard := none }) rfl (fun K hK => ?_) (AllReadyH.cons (o := { dst := some 48, op := Op.buildSlice 27 1 #[(0, Operand.tmp 47)], type := 27, pos := "ref.go:42", after := #[{ on := 19, ground := Ground.data }], guard := none }) rfl (fun K hK => ?_) AllReadyH.nil)
      · go_simp
        refine hK.out _ _ hHeld (fun hHeld => ?_)
        clear hK K
        try simp only [Act.put, List.setIfInBounds_toArray, List.set_cons_zero, List.set_cons_succ]
        refine wpAnyH_ready (rs := [20]) (by kernel_rfl) (by simp) ?_
        refine AllReadyH.cons (o := { dst := some 48, op := Op.buildSlice 27 1 #[(0, Operand.tmp 47)], type := 27, pos := "ref.go:42", after := #[{ on := 19, ground := Ground.data }], guard := none }) rfl (fun K hK => ?_) AllReadyH.nil
        go_simp
        refine hK.out _ _ HSA.out (fun hHeld => ?_)
        clear hK K
        try simp only [Act.put, List.setIfInBounds_toArray, List.set_cons_zero, List.set_cons_succ]
        refine wpAnyH_ready (rs := [21]) (by kernel_rfl) (by simp) ?_
        refine AllReadyH.cons (o := { dst := some 49, op := Op.call { callee := Callee.builtin Builtin.append, args := #[Operand.tmp 32, Operand.tmp 48], argTypes := #[27, 27] }, type := 27, pos := "ref.go:42", after := #[{ on := 4, ground := Ground.data }, { on := 20, ground := Ground.data }], guard := none }) rfl (fun K hK => ?_) AllReadyH.nil
        refine step_append_runT rfl _ _ 27 27 rfl _ _ rfl rfl _ _ UR.out ?_
        refine hK.out _ _ HS5.out (fun hHeld => ?_)
        clear hK K
        try simp only [Act.put, List.setIfInBounds_toArray, List.set_cons_zero, List.set_cons_succ]
        refine wpAnyH_take (i := 22) (oi := { dst := some 50, op := Op.nilCheck (Operand.tmp 28), type := 0, pos := "ref.go:42", after := #[{ on := 0, ground := Ground.data }, { on := 0, ground := Ground.phase }, { on := 1, ground := Ground.phase }, { on := 2, ground := Ground.phase }, { on := 3, ground := Ground.phase }, { on := 4, ground := Ground.phase }, { on := 5, ground := Ground.phase }, { on := 6, ground := Ground.phase }, { on := 7, ground := Ground.phase }, { on := 8, ground := Ground.phase }, { on := 9, ground := Ground.phase }, { on := 10, ground := Ground.phase }, { on := 11, ground := Ground.phase }, { on := 12, ground := Ground.phase }, { on := 13, ground := Ground.phase }, { on := 14, ground := Ground.phase }, { on := 15, ground := Ground.phase }, { on := 16, ground := Ground.phase }, { on := 17, ground := Ground.phase }, { on := 18, ground := Ground.phase }, { on := 19, ground := Ground.phase }, { on := 20, ground := Ground.phase }, { on := 21, ground := Ground.phase }], guard := none }) (v := ?v22) rfl (by kernel_rfl) (by kernel_rfl) (by kernel_rfl) (fun _ _ _ h => h) (Or.inl ⟨by rfl, ?hy22⟩) (by assumption) ?rest22
        case hy22 => (intro w hSw; (try dsimp only at hSw); go_simp <;> (try with_reducible rfl))
        try simp only [Act.put, List.setIfInBounds_toArray, List.set_cons_zero, List.set_cons_succ]
        refine wpAnyH_take (i := 23) (oi := { dst := some 51, op := Op.fieldAddr 29 (Operand.tmp 50) 0, type := 0, pos := "ref.go:42", after := #[{ on := 22, ground := Ground.data }, { on := 0, ground := Ground.phase }, { on := 1, ground := Ground.phase }, { on := 2, ground := Ground.phase }, { on := 3, ground := Ground.phase }, { on := 4, ground := Ground.phase }, { on := 5, ground := Ground.phase }, { on := 6, ground := Ground.phase }, { on := 7, ground := Ground.phase }, { on := 8, ground := Ground.phase }, { on := 9, ground := Ground.phase }, { on := 10, ground := Ground.phase }, { on := 11, ground := Ground.phase }, { on := 12, ground := Ground.phase }, { on := 13, ground := Ground.phase }, { on := 14, ground := Ground.phase }, { on := 15, ground := Ground.phase }, { on := 16, ground := Ground.phase }, { on := 17, ground := Ground.phase }, { on := 18, ground := Ground.phase }, { on := 19, ground := Ground.phase }, { on := 20, ground := Ground.phase }, { on := 21, ground := Ground.phase }], guard := none }) (v := ?v23) rfl (by kernel_rfl) (by kernel_rfl) (by kernel_rfl) (fun _ _ _ h => h) (Or.inl ⟨by rfl, ?hy23⟩) (by assumption) ?rest23
        case hy23 => (intro w hSw; (try dsimp only at hSw); go_simp <;> (try with_reducible rfl))
        try simp only [Act.put, List.setIfInBounds_toArray, List.set_cons_zero, List.set_cons_succ]
        refine wpAnyH_ready (rs := [24]) (by kernel_rfl) (by simp) ?_
        refine AllReadyH.cons (o := { dst := none, op := Op.store 27 (Operand.tmp 51) (Operand.tmp 49), type := 0, pos := "ref.go:42", after := #[{ on := 23, ground := Ground.data }, { on := 21, ground := Ground.data }, { on := 21, ground := Ground.chain }, { on := 0, ground := Ground.phase }, { on := 1, ground := Ground.phase }, { on := 2, ground := Ground.phase }, { on := 3, ground := Ground.phase }, { on := 4, ground := Ground.phase }, { on := 5, ground := Ground.phase }, { on := 6, ground := Ground.phase }, { on := 7, ground := Ground.phase }, { on := 8, ground := Ground.phase }, { on := 9, ground := Ground.phase }, { on := 10, ground := Ground.phase }, { on := 11, ground := Ground.phase }, { on := 12, ground := Ground.phase }, { on := 13, ground := Ground.phase }, { on := 14, ground := Ground.phase }, { on := 15, ground := Ground.phase }, { on := 16, ground := Ground.phase }, { on := 17, ground := Ground.phase }, { on := 18, ground := Ground.phase }, { on := 19, ground := Ground.phase }, { on := 20, ground := Ground.phase }, { on := 21, ground := Ground.phase }], guard := none }) rfl (fun K hK => ?_) AllReadyH.nil
        go_simp
        refine hK.out _ _ HSE.out (fun hHeld => ?_)
        clear hK K
        try simp only [Act.put, List.setIfInBounds_toArray, List.set_cons_zero, List.set_cons_succ]
        refine wpAnyH_done (by kernel_rfl) ?_ _
        clear hHeld
        go_wp2
        go_ret
        exact ⟨rfl, UO.out.1, F1.out.trans UO.out.2⟩
      · go_simp
        refine hK.out _ _ HSA.out (fun hHeld => ?_)
        clear hK K
        try simp only [Act.put, List.setIfInBounds_toArray, List.set_cons_zero, List.set_cons_succ]
        refine wpAnyH_ready (rs := [4]) (by kernel_rfl) (by simp) ?_
        refine AllReadyH.cons (o := { dst := some 32, op := Op.load 27 (Operand.tmp 31), type := 27, pos := "ref.go:42", after := #[{ on := 3, ground := Ground.data }], guard := none }) rfl (fun K hK => ?_) AllReadyH.nil
        go_simp
        refine hK.out _ _ HSA.out (fun hHeld => ?_)
        clear hK K
        try simp only [Act.put, List.setIfInBounds_toArray, List.set_cons_zero, List.set_cons_succ]
        refine wpAnyH_ready (rs := [21]) (by kernel_rfl) (by simp) ?_
        refine AllReadyH.cons (o := { dst := some 49, op := Op.call { callee := Callee.builtin Builtin.append, args := #[Operand.tmp 32, Operand.tmp 48], argTypes := #[27, 27] }, type := 27, pos := "ref.go:42", after := #[{ on := 4, ground := Ground.data }, { on := 20, ground := Ground.data }], guard := none }) rfl (fun K hK => ?_) AllReadyH.nil
        refine step_append_runT rfl _ _ 27 27 rfl _ _ rfl rfl _ _ UR.out ?_
        refine hK.out _ _ HS5.out (fun hHeld => ?_)
        clear hK K
        try simp only [Act.put, List.setIfInBounds_toArray, List.set_cons_zero, List.set_cons_succ]
        refine wpAnyH_take (i := 22) (oi := { dst := some 50, op := Op.nilCheck (Operand.tmp 28), type := 0, pos := "ref.go:42", after := #[{ on := 0, ground := Ground.data }, { on := 0, ground := Ground.phase }, { on := 1, ground := Ground.phase }, { on := 2, ground := Ground.phase }, { on := 3, ground := Ground.phase }, { on := 4, ground := Ground.phase }, { on := 5, ground := Ground.phase }, { on := 6, ground := Ground.phase }, { on := 7, ground := Ground.phase }, { on := 8, ground := Ground.phase }, { on := 9, ground := Ground.phase }, { on := 10, ground := Ground.phase }, { on := 11, ground := Ground.phase }, { on := 12, ground := Ground.phase }, { on := 13, ground := Ground.phase }, { on := 14, ground := Ground.phase }, { on := 15, ground := Ground.phase }, { on := 16, ground := Ground.phase }, { on := 17, ground := Ground.phase }, { on := 18, ground := Ground.phase }, { on := 19, ground := Ground.phase }, { on := 20, ground := Ground.phase }, { on := 21, ground := Ground.phase }], guard := none }) (v := ?v22b) rfl (by kernel_rfl) (by kernel_rfl) (by kernel_rfl) (fun _ _ _ h => h) (Or.inl ⟨by rfl, ?hy22b⟩) (by assumption) ?rest22b
        case hy22b => (intro w hSw; (try dsimp only at hSw); go_simp <;> (try with_reducible rfl))
        try simp only [Act.put, List.setIfInBounds_toArray, List.set_cons_zero, List.set_cons_succ]
        refine wpAnyH_take (i := 23) (oi := { dst := some 51, op := Op.fieldAddr 29 (Operand.tmp 50) 0, type := 0, pos := "ref.go:42", after := #[{ on := 22, ground := Ground.data }, { on := 0, ground := Ground.phase }, { on := 1, ground := Ground.phase }, { on := 2, ground := Ground.phase }, { on := 3, ground := Ground.phase }, { on := 4, ground := Ground.phase }, { on := 5, ground := Ground.phase }, { on := 6, ground := Ground.phase }, { on := 7, ground := Ground.phase }, { on := 8, ground := Ground.phase }, { on := 9, ground := Ground.phase }, { on := 10, ground := Ground.phase }, { on := 11, ground := Ground.phase }, { on := 12, ground := Ground.phase }, { on := 13, ground := Ground.phase }, { on := 14, ground := Ground.phase }, { on := 15, ground := Ground.phase }, { on := 16, ground := Ground.phase }, { on := 17, ground := Ground.phase }, { on := 18, ground := Ground.phase }, { on := 19, ground := Ground.phase }, { on := 20, ground := Ground.phase }, { on := 21, ground := Ground.phase }], guard := none }) (v := ?v23b) rfl (by kernel_rfl) (by kernel_rfl) (by kernel_rfl) (fun _ _ _ h => h) (Or.inl ⟨by rfl, ?hy23b⟩) (by assumption) ?rest23b
        case hy23b => (intro w hSw; (try dsimp only at hSw); go_simp <;> (try with_reducible rfl))
        try simp only [Act.put, List.setIfInBounds_toArray, List.set_cons_zero, List.set_cons_succ]
        refine wpAnyH_ready (rs := [24]) (by kernel_rfl) (by simp) ?_
        refine AllReadyH.cons (o := { dst := none, op := Op.store 27 (Operand.tmp 51) (Operand.tmp 49), type := 0, pos := "ref.go:42", after := #[{ on := 23, ground := Ground.data }, { on := 21, ground := Ground.data }, { on := 21, ground := Ground.chain }, { on := 0, ground := Ground.phase }, { on := 1, ground := Ground.phase }, { on := 2, ground := Ground.phase }, { on := 3, ground := Ground.phase }, { on := 4, ground := Ground.phase }, { on := 5, ground := Ground.phase }, { on := 6, ground := Ground.phase }, { on := 7, ground := Ground.phase }, { on := 8, ground := Ground.phase }, { on := 9, ground := Ground.phase }, { on := 10, ground := Ground.phase }, { on := 11, ground := Ground.phase }, { on := 12, ground := Ground.phase }, { on := 13, ground := Ground.phase }, { on := 14, ground := Ground.phase }, { on := 15, ground := Ground.phase }, { on := 16, ground := Ground.phase }, { on := 17, ground := Ground.phase }, { on := 18, ground := Ground.phase }, { on := 19, ground := Ground.phase }, { on := 20, ground := Ground.phase }, { on := 21, ground := Ground.phase }], guard := none }) rfl (fun K hK => ?_) AllReadyH.nil
        go_simp
        refine hK.out _ _ HSE.out (fun hHeld => ?_)
        clear hK K
        try simp only [Act.put, List.setIfInBounds_toArray, List.set_cons_zero, List.set_cons_succ]
        refine wpAnyH_done (by kernel_rfl) ?_ _
        clear hHeld
        go_wp2
        go_ret
        exact ⟨rfl, UO.out.1, F1.out.trans UO.out.2⟩
end Go.Proofs.Ytfiohhgmlelnkaa
