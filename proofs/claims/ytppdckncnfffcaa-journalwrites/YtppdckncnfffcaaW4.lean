/-
  A disk in memory. The contracts of Len, Down, Pending, Steps, has, step, Fuse, Sync, New. Their conditions: the disk lies in memory, its steps are below a bound.
-/
import Derived.Test.YtppdckncnfffcaaW3
import Derived.Laws.LoneSync
namespace Go.Proofs.Ytppdckncnfffcaa
open Go.RowKit

theorem run_max2 {P : Program} (w : World) (ts : Array TypeId) (t : TypeId) (x y n : Int) (h : n = max x y) :
    (Builtin.max_ ts t #[.int .i64 x, .int .i64 y]).run P w = .ok (.int .i64 n) w := by
  subst h
  simp [Builtin.max_, Builtin.max2]
  try omega
/-- A disk's own block. -/
def Box (w : World) (g B n : Nat) (pv : Value) (fuse : Int) (down : Bool) (steps : Int) : Prop :=
  w.heap[g]? = some (.cells #[.slice (some ⟨B, 0, none⟩) n n, pv, .int .i64 fuse, .bool down, .int .i64 steps] 69 (0, 0))
section
variable {w w' : World} {g B n : Nat} {pv : Value} {fuse steps : Int} {down : Bool}
theorem Box.lt (h : Box w g B n pv fuse down steps) : g < w.heap.size := lt_of_heap h
theorem Box.c0 (h : Box w g B n pv fuse down steps) : w.cell? ⟨g, 0, none⟩ = some (.slice (some ⟨B, 0, none⟩) n n) := by simp [World.cell?, show w.heap[g]? = _ from h]
theorem Box.c1 (h : Box w g B n pv fuse down steps) : w.cell? ⟨g, 1, none⟩ = some pv := by simp [World.cell?, show w.heap[g]? = _ from h]
theorem Box.c2 (h : Box w g B n pv fuse down steps) : w.cell? ⟨g, 2, none⟩ = some (.int .i64 fuse) := by simp [World.cell?, show w.heap[g]? = _ from h]
theorem Box.c3 (h : Box w g B n pv fuse down steps) : w.cell? ⟨g, 3, none⟩ = some (.bool down) := by simp [World.cell?, show w.heap[g]? = _ from h]
theorem Box.c4 (h : Box w g B n pv fuse down steps) : w.cell? ⟨g, 4, none⟩ = some (.int .i64 steps) := by simp [World.cell?, show w.heap[g]? = _ from h]
theorem Box.frozen (h : Box w g B n pv fuse down steps) (o : Nat) : w.frozen? ⟨g, o, none⟩ = false := by simp [World.frozen?, show w.heap[g]? = _ from h]
theorem Box.set1 (h : Box w g B n pv fuse down steps) (x : Value) : Box (w.setCell ⟨g, 1, none⟩ x) g B n x fuse down steps := by
  unfold Box at h ⊢
  simp [World.setCell, Array.getElem?_modify, h]
theorem Box.set2 (h : Box w g B n pv fuse down steps) (x : Int) : Box (w.setCell ⟨g, 2, none⟩ (.int .i64 x)) g B n pv x down steps := by
  unfold Box at h ⊢
  simp [World.setCell, Array.getElem?_modify, h]
theorem Box.set3 (h : Box w g B n pv fuse down steps) (x : Bool) : Box (w.setCell ⟨g, 3, none⟩ (.bool x)) g B n pv fuse x steps := by
  unfold Box at h ⊢
  simp [World.setCell, Array.getElem?_modify, h]
theorem Box.set4 (h : Box w g B n pv fuse down steps) (x : Int) : Box (w.setCell ⟨g, 4, none⟩ (.int .i64 x)) g B n pv fuse down x := by
  unfold Box at h ⊢
  simp [World.setCell, Array.getElem?_modify, h]
theorem Box.below (h : Box w g B n pv fuse down steps) (hb : Below w.heap.size w w') : Box w' g B n pv fuse down steps := (hb.block g h.lt).trans h
end

/-- The kinds of a disk's blocks. -/
abbrev kD : List Nat := [69, 86, 88]
/-- A disk that lies in block g. -/
structure DiskAt (w : World) (base g : Nat) (d : Dk) : Prop where
  ex : ∃ B pv, Box w g B d.K.length pv d.fuse d.down d.steps ∧ Sects w B (seen d.K d.ps) ∧ RowT eWr 88 w base pv (wrs d.K d.ps) ∧ base ≤ B
  bg : base ≤ g
  good : Good d
section
variable {w w' : World} {base base' g : Nat} {d d' : Dk} {l ms : List Nat}
theorem DiskAt.below (h : DiskAt w base g d) (hf : Below w.heap.size w w') : DiskAt w' base g d := by
  obtain ⟨B, pv, h1, h2, h3, h4⟩ := h.ex
  exact ⟨⟨B, pv, h1.below hf, h2.below hf, h3.below hf, h4⟩, h.bg, h.good⟩
theorem DiskAt.down (h : DiskAt w base g d) (hb : base' ≤ base) : DiskAt w base' g d := by
  obtain ⟨B, pv, h1, h2, h3, h4⟩ := h.ex
  exact ⟨⟨B, pv, h1, h2, h3.down hb, by omega⟩, by have := h.bg; omega, h.good⟩
theorem DiskAt.lt (h : DiskAt w base g d) : g < w.heap.size := by
  obtain ⟨B, pv, h1, _⟩ := h.ex
  exact h1.lt
/-- What writes none of a disk's kinds, and blocks of other kinds alone, leaves it as it was. -/
theorem DiskAt.keep (h : DiskAt w base g d) (hf : Fr l ms base' w w') (h1 : 69 ∉ l) (h2 : 86 ∉ l) (h3 : 88 ∉ l) (hm : ∀ i ∈ ms, ∃ o, w.heap[i]? = some o ∧ kd o ∉ kD) : DiskAt w' base g d := by
  obtain ⟨B, pv, b1, b2, b3, b4⟩ := h.ex
  refine ⟨⟨B, pv, hf.keep g _ b1 h1 (fun hx => ?_), b2.fr hf h2 (fun hx => ?_), b3.fr hf h3 (fun i hi => ?_), b4⟩, h.bg, h.good⟩
  · obtain ⟨o, ho, hk⟩ := hm _ hx
    rw [show w.heap[g]? = _ from b1] at ho
    cases ho
    exact hk (by simp [kd])
  · obtain ⟨o, ho, hk⟩ := hm _ hx
    rw [show w.heap[B]? = _ from b2] at ho
    cases ho
    exact hk (by simp [kd])
  · obtain ⟨o, ho, hk⟩ := hm _ hi
    exact ⟨o, ho, fun e => hk (by simp [e])⟩
end
def DPost (w : World) (base g : Nat) (d : Dk) (v : Value) (r : Ending) (w' : World) : Prop :=
  r = .returned v ∧ DiskAt w' base g d ∧ Fr kD [] base w w'

theorem len_any (base g : Nat) (d : Dk) (w : World) (h : DiskAt w base g d) : Calls Try.prog 18 #[.pointer (some ⟨g, 0, none⟩)] w fun x w' => x = .returned (.int .i64 (d.K.length : Int)) ∧ w = w' := by
  obtain ⟨B, pv, b, _⟩ := h.ex
  have c0 := b.c0
  clear b h
  go_enter Try.func18, Try.ntmps18
  go_wp2
  go_ret
  exact ⟨rfl, rfl⟩
theorem len_nil (w : World) : Calls Try.prog 18 #[.pointer none] w fun x w' => x = .returned (.int .i64 0) ∧ w = w' := by
  go_enter Try.func18, Try.ntmps18
  go_wp2
  go_ret
  exact ⟨rfl, rfl⟩
theorem down_any (base g : Nat) (d : Dk) (w : World) (h : DiskAt w base g d) : Calls Try.prog 32 #[.pointer (some ⟨g, 0, none⟩)] w fun x w' => x = .returned (.bool d.down) ∧ w = w' := by
  obtain ⟨B, pv, b, _⟩ := h.ex
  have c3 := b.c3
  clear b h
  go_enter Try.func32, Try.ntmps32
  go_wp2
  go_ret
  exact ⟨rfl, rfl⟩
theorem down_nil (w : World) : Calls Try.prog 32 #[.pointer none] w fun x w' => x = .returned (.bool true) ∧ w = w' := by
  go_enter Try.func32, Try.ntmps32
  go_wp2
  go_ret
  exact ⟨rfl, rfl⟩
theorem pend_any (base g : Nat) (d : Dk) (w : World) (h : DiskAt w base g d) : Calls Try.prog 25 #[.pointer (some ⟨g, 0, none⟩)] w fun x w' => x = .returned (.int .i64 (d.ps.length : Int)) ∧ w = w' := by
  obtain ⟨B, pv, b, _, r, _⟩ := h.ex
  obtain ⟨A, c, rfl, _⟩ := r.form
  have c1 := b.c1
  rw [wrs_length] at c1
  clear b h r
  go_enter Try.func25, Try.ntmps25
  go_wp2
  go_ret
  exact ⟨rfl, rfl⟩
theorem pend_nil (w : World) : Calls Try.prog 25 #[.pointer none] w fun x w' => x = .returned (.int .i64 0) ∧ w = w' := by
  go_enter Try.func25, Try.ntmps25
  go_wp2
  go_ret
  exact ⟨rfl, rfl⟩
theorem has_any (base g : Nat) (d : Dk) (i : Int) (w : World) (h : DiskAt w base g d) : Calls Try.prog 40 #[.pointer (some ⟨g, 0, none⟩), .int .i64 i] w fun x w' => x = .returned (.bool (has d i)) ∧ w = w' := by
  have CL := Lib.hid (len_any base g d w h)
  unfold has
  clear h
  by_cases h0 : 0 ≤ i
  · have e0 : decide (0 ≤ i) = true := decide_eq_true h0
    rw [e0]
    simp only [Bool.true_and]
    go_enter Try.func40, Try.ntmps40
    go_wp2_with fail
    refine CL.out.mono ?_
    rintro r w1 ⟨rfl, rfl⟩
    go_wp2
    go_ret
    exact ⟨rfl, rfl⟩
  · have e0 : decide (0 ≤ i) = false := decide_eq_false h0
    rw [e0]
    simp only [Bool.false_and]
    go_enter Try.func40, Try.ntmps40
    go_wp2
    go_ret
    exact ⟨rfl, rfl⟩
theorem has_nil (i : Int) (w : World) : Calls Try.prog 40 #[.pointer none, .int .i64 i] w fun x w' => x = .returned (.bool false) ∧ w = w' := by
  by_cases h0 : 0 ≤ i
  · have e0 : decide (0 ≤ i) = true := decide_eq_true h0
    have e1 : decide (i < 0) = false := decide_eq_false (by omega)
    go_enter Try.func40, Try.ntmps40
    go_wp2_with fail
    refine (len_nil w).mono ?_
    rintro r w1 ⟨rfl, rfl⟩
    go_wp2
    go_ret
    exact ⟨rfl, rfl⟩
  · have e0 : decide (0 ≤ i) = false := decide_eq_false h0
    go_enter Try.func40, Try.ntmps40
    go_wp2
    go_ret
    exact ⟨rfl, rfl⟩
theorem add_n {x n : Int} (h1 : -9223372036854775808 ≤ x + n) (h2 : x + n ≤ 9223372036854775807) (w : World) : (Op.intArith .add .i64 x n).run Try.prog w = .ok (.int .i64 (x + n)) w := by
  have : IntKind.i64.wrap (x + n) = x + n := IntWalk.i64_in _ (by omega)
  simp [go_sem, this]
theorem add_any {g : Nat} {last n : Int} {w : World} (c4 : w.cell? ⟨g, 4, none⟩ = some (.int .i64 last)) (fz : w.frozen? ⟨g, 4, none⟩ = false) (h1 : -9223372036854775808 ≤ last + n) (h2 : last + n ≤ 9223372036854775807) :
    Calls Try.prog 50 #[.pointer (some ⟨g, 4, none⟩), .int .i64 n] w fun r w' => r = .returned (.int .i64 (last + n)) ∧ w' = w.setCell ⟨g, 4, none⟩ (.int .i64 (last + n)) := by
  have hs := add_n h1 h2 w
  have had := run_call_add (P := Try.prog) Try.func56 (by kernel_rfl) (by kernel_rfl) (by kernel_rfl) .i64 (by kernel_rfl) c4 fz hs
  clear hs
  go_enter Try.func50, Try.ntmps50
  go_wp2
  go_ret
  exact ⟨rfl, rfl⟩
set_option maxHeartbeats 1000000 in
theorem step_any (base g : Nat) (d : Dk) (w : World) (h : DiskAt w base g d) (hs : d.steps ≤ 1000000) : Calls Try.prog 41 #[.pointer (some ⟨g, 0, none⟩)] w (DPost w base g (stepD d) (.bool (stepB d))) := by
  have CD := Lib.hid (down_any base g d w h)
  have hg := h.good.step
  have hgd := h.good
  have s0 := h.good.s0
  obtain ⟨B, pv, b, hS, hR, hB⟩ := h.ex
  have hbg := h.bg
  cases hd : d.down with
  | true =>
    have e1 : stepD d = d := by simp [stepD, hd]
    have e2 : stepB d = false := by simp [stepB, hd]
    rw [e1, e2]
    rw [hd] at CD
    have HE : Hid (DPost w base g d (.bool false) (.returned (.bool false)) w) := ⟨rfl, h, Fr.refl _ _ _ _⟩
    clear hg hgd s0 b hS hR hB hbg hd e1 e2 h hs
    go_enter Try.func41, Try.ntmps41
    go_wp2_with fail
    refine CD.out.mono ?_
    rintro r w1 ⟨rfl, rfl⟩
    go_wp2
    go_ret
    exact HE.out
  | false =>
    rw [hd] at CD b
    by_cases hf : d.fuse = 0
    · have e1 : stepD d = { d with down := true } := by simp [stepD, hd, hf]
      have e2 : stepB d = false := by simp [stepB, hf]
      rw [e1] at hg ⊢
      rw [e2]
      have f1 : Fr kD [] base w (w.setCell ⟨g, 3, none⟩ (.bool true)) := (Fr.refl _ _ _ _).set b (.inl (by simp [kd])) hbg _
      have f2 : Fr [69] [] base w (w.setCell ⟨g, 3, none⟩ (.bool true)) := (Fr.refl _ _ _ _).set b (.inl (by simp [kd])) hbg _
      have HE : Hid (DPost w base g { d with down := true } (.bool false) (.returned (.bool false)) (w.setCell ⟨g, 3, none⟩ (.bool true))) :=
        ⟨rfl, ⟨⟨B, pv, b.set3 true, hS.fr f2 (by simp) (by simp), hR.fr f2 (by simp) (by simp), hB⟩, hbg, hg⟩, f1⟩
      have c2 := b.c2
      have c3 := b.c3
      have fz := b.frozen 3
      rw [hf] at c2
      clear hg hgd s0 b hS hR hB hbg hd e1 e2 h hs hf f1 f2
      go_enter Try.func41, Try.ntmps41
      go_wp2_with fail
      refine CD.out.mono ?_
      rintro r w1 ⟨rfl, rfl⟩
      go_wp2
      go_ret
      exact HE.out
    · have e2 : stepB d = true := by simp [stepB, hd, hf]
      obtain ⟨m, hm⟩ : ∃ m, m = (if 0 < d.fuse then d.fuse - 1 else d.fuse) := ⟨_, rfl⟩
      have e1 : stepD d = { d with fuse := m, steps := d.steps + 1 } := by simp [stepD, hd, hf, hm]
      rw [e1] at hg ⊢
      rw [e2]
      have hg0 := hgd.f0
      have hg1 := hgd.f1
      have c2 := b.c2
      have c3 := b.c3
      have fz := b.frozen 2
      have g2 := Lib.hid (b.set2 m)
      by_cases hp : 0 < d.fuse
      · have hme : m = d.fuse - 1 := by rw [hm, if_pos hp]
        have b2 := b.set2 m
        have f1 : Fr [69] [] base w ((w.setCell ⟨g, 2, none⟩ (.int .i64 m)).setCell ⟨g, 4, none⟩ (.int .i64 (d.steps + 1))) := ((Fr.refl _ _ _ _).set b (.inl (by simp [kd])) hbg _).set b2 (.inl (by simp [kd])) hbg _
        have HE : Hid (DPost w base g { d with fuse := m, steps := d.steps + 1 } (.bool true) (.returned (.bool true)) ((w.setCell ⟨g, 2, none⟩ (.int .i64 m)).setCell ⟨g, 4, none⟩ (.int .i64 (d.steps + 1)))) :=
          ⟨rfl, ⟨⟨B, pv, by have := b2.set4 (d.steps + 1); rw [← hd] at this; exact this, hS.fr f1 (by simp) (by simp), hR.fr f1 (by simp) (by simp), hB⟩, hbg, hg⟩, f1.mono (by simp) (by simp)⟩
        have CA := Lib.hid (add_any (n := 1) b2.c4 (b2.frozen 4) (by omega) (by omega))
        generalize d.fuse = fu at *
        generalize d.steps = st at *
        have hw : IntKind.i64.wrap (fu - 1) = m := by rw [hme]; exact IntWalk.i64_in _ (by omega)
        clear hg hgd s0 b b2 hS hR hB hbg hd e1 e2 h hs f1 g2 hm hme
        go_enter Try.func41, Try.ntmps41
        go_wp2_with fail
        refine CD.out.mono ?_
        rintro r w1 ⟨rfl, rfl⟩
        go_wp2_with fail
        refine CA.out.mono ?_
        rintro r w1 ⟨rfl, rfl⟩
        go_wp2
        go_ret
        exact HE.out
      · have hme : m = d.fuse := by rw [hm, if_neg hp]
        have f1 : Fr [69] [] base w (w.setCell ⟨g, 4, none⟩ (.int .i64 (d.steps + 1))) := (Fr.refl _ _ _ _).set b (.inl (by simp [kd])) hbg _
        have HE : Hid (DPost w base g { d with fuse := m, steps := d.steps + 1 } (.bool true) (.returned (.bool true)) (w.setCell ⟨g, 4, none⟩ (.int .i64 (d.steps + 1)))) :=
          ⟨rfl, ⟨⟨B, pv, by have := b.set4 (d.steps + 1); rw [← hd] at this; rw [hme]; exact this, hS.fr f1 (by simp) (by simp), hR.fr f1 (by simp) (by simp), hB⟩, hbg, hg⟩, f1.mono (by simp) (by simp)⟩
        have CA := Lib.hid (add_any (n := 1) b.c4 (b.frozen 4) (by omega) (by omega))
        generalize d.fuse = fu at *
        generalize d.steps = st at *
        clear hg hgd s0 b hS hR hB hbg hd e1 e2 h hs f1 g2 hm hme
        go_enter Try.func41, Try.ntmps41
        go_wp2_with fail
        refine CD.out.mono ?_
        rintro r w1 ⟨rfl, rfl⟩
        go_wp2_with fail
        refine CA.out.mono ?_
        rintro r w1 ⟨rfl, rfl⟩
        go_wp2
        go_ret
        exact HE.out
theorem step_nil (w : World) : Calls Try.prog 41 #[.pointer none] w fun x w' => x = .returned (.bool false) ∧ w = w' := by
  go_enter Try.func41, Try.ntmps41
  go_wp2_with fail
  refine (down_nil w).mono ?_
  rintro r w1 ⟨rfl, rfl⟩
  go_wp2
  go_ret
  exact ⟨rfl, rfl⟩
theorem fuse_any (base g : Nat) (d : Dk) (n : Int) (w : World) (h : DiskAt w base g d) (hn : n ≤ 9223372036854775807) : Calls Try.prog 29 #[.pointer (some ⟨g, 0, none⟩), .int .i64 n] w (DPost w base g (fuseD d n) (.tuple #[])) := by
  have hg := h.good.fuse hn
  obtain ⟨B, pv, b, hS, hR, hB⟩ := h.ex
  have hbg := h.bg
  obtain ⟨m, hm⟩ : ∃ m, m = max n (-1) := ⟨_, rfl⟩
  have hmax : ∀ w, (Builtin.max_ #[3, 3] 3 #[.int .i64 n, .int .i64 (-1)]).run Try.prog w = .ok (.int .i64 m) w := fun w => run_max2 w _ _ _ _ _ hm
  have e1 : fuseD d n = { d with fuse := m } := by rw [hm]; rfl
  rw [e1] at hg ⊢
  have f1 : Fr [69] [] base w (w.setCell ⟨g, 2, none⟩ (.int .i64 m)) := (Fr.refl _ _ _ _).set b (.inl (by simp [kd])) hbg _
  have HE : Hid (DPost w base g { d with fuse := m } (.tuple #[]) (.returned (.tuple #[])) (w.setCell ⟨g, 2, none⟩ (.int .i64 m))) :=
    ⟨rfl, ⟨⟨B, pv, b.set2 m, hS.fr f1 (by simp) (by simp), hR.fr f1 (by simp) (by simp), hB⟩, hbg, hg⟩, f1.mono (by simp) (by simp)⟩
  have c2 := b.c2
  have fz := b.frozen 2
  clear hg b hS hR hB hbg e1 h f1 hm hn
  go_enter Try.func29, Try.ntmps29
  go_wp2
  go_end0
  exact HE.out
set_option maxHeartbeats 1000000 in
theorem sync_any (base g : Nat) (d : Dk) (w : World) (h : DiskAt w base g d) (hs : d.steps ≤ 1000000) :
    Calls Try.prog 21 #[.pointer (some ⟨g, 0, none⟩)] w (DPost w base g (if stepB d then keepD d else stepD d) (.int .i64 (if stepB d then 0 else 7))) := by
  have CS := Lib.hid (step_any base g d w h hs)
  have hg := Lib.hid h.good.keep
  cases hb : stepB d with
  | false =>
    rw [hb] at CS
    simp only [Bool.false_eq_true, if_false]
    clear h hs hb hg
    go_enter Try.func21, Try.ntmps21
    go_wp2_with fail
    refine CS.out.mono ?_
    rintro r w1 ⟨rfl, hd, hf⟩
    have HE : Hid (DPost w base g (stepD d) (.int .i64 7) (.returned (.int .i64 7)) w1) := ⟨rfl, hd, hf⟩
    clear hd hf
    go_wp2
    go_ret
    exact HE.out
  | true =>
    rw [hb] at CS
    simp only [if_true]
    clear h hs hb
    go_enter Try.func21, Try.ntmps21
    go_wp2_with fail
    refine CS.out.mono ?_
    rintro r w1 ⟨rfl, hd, hf⟩
    obtain ⟨B, pv, b, hS, hR, hB⟩ := hd.ex
    have hbg := hd.bg
    have f1 : Fr [69] [] base w1 (w1.setCell ⟨g, 1, none⟩ (.slice none 0 0)) := (Fr.refl _ _ _ _).set b (.inl (by simp [kd])) hbg _
    have HE : Hid (DPost w base g (keepD d) (.int .i64 0) (.returned (.int .i64 0)) (w1.setCell ⟨g, 1, none⟩ (.slice none 0 0))) := by
      refine ⟨rfl, ⟨⟨B, .slice none 0 0, ?_, ?_, RowT.nil _, hB⟩, hbg, hg.out⟩, hf.trans (f1.mono (by simp) (by simp))⟩
      · have := b.set1 (.slice none 0 0)
        rw [stepD_K] at this
        show Box _ g B (seen d.K d.ps).length _ (stepD d).fuse (stepD d).down (stepD d).steps
        rw [seen_length]
        exact this
      · have := hS.fr f1 (by simp) (by simp)
        rw [stepD_K, stepD_ps] at this
        exact this
    have c1 := b.c1
    have fz := b.frozen 1
    obtain ⟨A, c, hv, _⟩ := hR.form
    rw [hv] at c1
    clear hd hf b hS hR hB hbg f1 hg hv
    go_wp2
    go_ret
    exact HE.out
theorem sync_nil (w : World) : Calls Try.prog 21 #[.pointer none] w fun x w' => x = .returned (.int .i64 7) ∧ w = w' := by
  go_enter Try.func21, Try.ntmps21
  go_wp2_with fail
  refine (step_nil w).mono ?_
  rintro r w1 ⟨rfl, rfl⟩
  go_wp2
  go_ret
  exact ⟨rfl, rfl⟩
end Go.Proofs.Ytppdckncnfffcaa
