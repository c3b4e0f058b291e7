/-
  The contract of takeBack. A region that draws its order, in a round of a range over a function. Their conditions: the disk's blocks lie in memory, it has no more pending writes than a bound.
-/
import Derived.Test.YtppdckncnfffcaaW8
namespace Go.Proofs.Ytppdckncnfffcaa
open Go.RowKit Go.Shelf
set_option maxRecDepth 100000

attribute [local go_sem] Oper.semAt_some

/-- Nothing is deferred. -/
def noDefer (ops : Array Oper) : Bool := ops.all fun o => match o.op with | .defer _ => false | _ => true
theorem noDefer_op {ops : Array Oper} (h : noDefer ops = true) {i : Nat} {o : Oper} (hi : ops[i]? = some o) : ∀ c, o.op ≠ .defer c := by
  intro c hc
  have := Array.all_eq_true_iff_forall_mem.mp h o (Array.mem_of_getElem? hi)
  simp [hc] at this
theorem upon_round {F : Fence} {l n : Nat} {P : Program} {o : Oper} {a : Act} {next : Act → World → Prop} {Q : Exit → Act → World → Prop} {r : Result Next} (h : o.uponIn F n P a next Q r) : o.uponIn (F.inRound l) n P a next Q r := by
  cases r with
  | ok x w => cases x <;> exact h
  | halt x w => cases x <;> exact h
theorem op_round {F : Fence} (_hro : F.round = none) {l n : Nat} {P : Program} {ops : Array Oper} {Q : Exit → Act → World → Prop} (hd : noDefer ops = true) {i : Nat} {K : Act → World → Prop} {a : Act} {w : World}
    (h : wpOpIn F n P ops Q i K a w) : wpOpIn (F.inRound l) n P ops Q i K a w := by
  unfold wpOpIn at h ⊢
  cases hi : ops[i]? with
  | none => simpa [hi] using h
  | some o =>
    simp only [hi] at h ⊢
    split
    · rename_i hw
      simp only [hw, if_true] at h
      unfold Oper.wpIn at h ⊢
      refine ⟨h.1, ?_⟩
      have h2 := h.2
      rw [Oper.semAt_eq _ _ _ (noDefer_op hd hi)] at h2 ⊢
      exact upon_round h2
    · rename_i hw
      simp only [hw] at h
      exact h
theorem any_round {F : Fence} (hro : F.round = none) {l n : Nat} {P : Program} {md : Region.Mode} {ops : Array Oper} {Q : Exit → Act → World → Prop} (hd : noDefer ops = true) :
    ∀ (fuel : Nat) (listed : Array Bool) (a : Act) (w : World), wpAnyIn F n P md ops Q fuel listed a w → wpAnyIn (F.inRound l) n P md ops Q fuel listed a w
  | 0, _, _, _, h => h
  | fuel + 1, _, _, _, h => ⟨h.1, fun i hi => wpOpIn_mono (any_round hro hd fuel _) (op_round hro hd (h.2 i hi))⟩
theorem region_round {F : Fence} (hro : F.round = none) {l n : Nat} {P : Program} {id : Nat} {ops : List Oper} {Q : Exit → Act → World → Prop} {a : Act} {w : World} (hm : P.follows .mixedOrders = true) (hd : noDefer ops.toArray = true)
    (h : wpAnyIn F n P .any ops.toArray Q ops.toArray.size (Array.replicate ops.toArray.size false) a w.drew) : (Code.region id ops.toArray true).wpIn (F.inRound l) n P Q a w :=
  wpIn_region_any hm (any_round hro hd _ _ _ _ h)
/-! ### From a region as anywhere to one within the wide fence -/
/-- What calls nothing. -/
def calm : Op → Bool
  | .move _ | .assign _ | .load _ _ | .store _ _ _ | .fieldAddr _ _ _ | .indexAddr _ _ _ | .nilCheck _ => true
  | _ => false
def calms (ops : Array Oper) : Bool := ops.all fun o => calm o.op
def Plain (r : Result Next) : Prop := (∃ v w, r = .ok (.value v) w) ∨ (∃ w, r = .ok .skip w) ∨ ∃ x w, r = .halt x w
theorem plain_v {s : Sem Value} {P : Program} {w : World} : Plain ((do pure (Next.value (← s)) : Sem Next).run P w) := by
  rw [Sem.run_bind]
  cases s.run P w with
  | ok v w' => exact .inl ⟨v, w', rfl⟩
  | halt x w' => exact .inr (.inr ⟨x, w', rfl⟩)
theorem plain_u {s : Sem Unit} {P : Program} {w : World} : Plain ((do s; pure Next.skip : Sem Next).run P w) := by
  rw [Sem.run_bind]
  cases s.run P w with
  | ok v w' => exact .inr (.inl ⟨w', rfl⟩)
  | halt x w' => exact .inr (.inr ⟨x, w', rfl⟩)
theorem plain_panic {P : Program} {w : World} : Plain ((runtimePanic .nilDeref : Sem Next).run P w) := .inr (.inr ⟨_, w, rfl⟩)
theorem plain_bind {α : Type} {s : Sem α} {f : α → Sem Next} {P : Program} {w : World} (h : ∀ a w, Plain ((f a).run P w)) : Plain ((s >>= f).run P w) := by
  rw [Sem.run_bind]
  cases s.run P w with
  | ok v w' => exact h v w'
  | halt x w' => exact .inr (.inr ⟨x, w', rfl⟩)
theorem calm_plain {o : Oper} (h : calm o.op = true) (ρ : Operand → Value) {P : Program} {w : World} : Plain ((execOp ρ o).run P w) := by
  unfold execOp
  cases ho : o.op <;> rw [ho] at h <;> simp only [calm, Bool.false_eq_true] at h
  case nilCheck x =>
    simp only []
    split
    · exact plain_panic
    · exact plain_panic
    · exact plain_panic
    · split
      · exact plain_panic
      · refine plain_bind fun _ _ => plain_bind fun _ _ => ?_
        split
        · exact plain_bind fun _ _ => .inl ⟨_, _, rfl⟩
        · exact .inl ⟨_, _, rfl⟩
      · exact .inl ⟨_, _, rfl⟩
    · exact .inl ⟨_, _, rfl⟩
  all_goals first
    | exact .inl ⟨_, _, rfl⟩
    | exact plain_v
    | exact plain_u
theorem calm_about {o : Oper} (h : calm o.op = true) {P : Program} {w : World} (ρ : Operand → Value) : o.about P w ρ = none := by
  unfold Oper.about
  cases ho : o.op <;> rw [ho] at h <;> simp only [calm, Bool.false_eq_true] at h <;> rfl
section
variable {P : Program} {o : Oper} {a : Act} {next : Act → World → Prop} {Q : Exit → Act → World → Prop} {n : Nat} {w : World} {ops : Array Oper}
theorem upon_in {r : Result Next} (hp : Plain r) (h : o.upon P a next Q r) : o.uponIn Fence.wide n P a next Q r := by
  rcases hp with ⟨v, w, rfl⟩ | ⟨w, rfl⟩ | ⟨x, w, rfl⟩
  · exact h
  · exact h
  · cases x <;> exact h
theorem op_in (hc : calms ops = true) (hq : ¬ LetsOut Q) {i : Nat} {K : Act → World → Prop} (h : wpOp P ops Q i K a w) : wpOpIn Fence.wide n P ops Q i K a w := by
  unfold wpOp at h
  unfold wpOpIn
  cases hi : ops[i]? with
  | none => simpa [hi] using h
  | some o =>
    have hcm : calm o.op = true := Array.all_eq_true_iff_forall_mem.mp hc o (Array.mem_of_getElem? hi)
    simp only [hi] at h ⊢
    split
    · rename_i hw
      simp only [hw, if_true] at h
      rcases h with h | ⟨_, h⟩
      · unfold Oper.wpIn
        refine ⟨fun f hf => (by rw [calm_about hcm] at hf; cases hf), ?_⟩
        exact upon_in (calm_plain hcm _) h
      · exact absurd h hq
    · rename_i hw
      simp only [hw] at h
      exact ⟨fun f hf => (by rw [calm_about hcm] at hf; cases hf), h⟩
theorem any_in (hc : calms ops = true) (hq : ¬ LetsOut Q) {md : Region.Mode} : ∀ (fuel : Nat) (listed : Array Bool) (a : Act) (w : World), wpAny P md ops Q fuel listed a w → wpAnyIn Fence.wide n P md ops Q fuel listed a w
  | 0, _, _, _, h => h
  | fuel + 1, _, _, _, h => ⟨h.1, fun i hi => wpOpIn_mono (any_in hc hq fuel _) (op_in hc hq (h.2 i hi))⟩
end
theorem one_cell {w : World} {b : Nat} {v : Value} {t : TypeId} (h : w.heap[b]? = some (.cells #[v] t (0, 0))) : w.cell? ⟨b, 0, none⟩ = some v := by rw [cell_of h]; rfl
theorem cells_keep {W W' : World} {row : Option Nat} {b k : Nat} {c : Array Value} {t : TypeId} (h : W.heap[k]? = some (.cells c t (0, 0))) (hg : W.grownBy W' row) (hr : ∀ r, row = some r → b ≤ r ∧ ∃ o : Obj, W.heap[r]? = some o ∧ o.isCells = false) : W'.heap[k]? = some (.cells c t (0, 0)) := by
  rw [hg.block k (lt_of_heap h) (fun he => ?_)]
  · exact h
  · obtain ⟨_, o, h3, h4⟩ := hr k he.symm
    rw [h] at h3
    cases h3
    cases h4
theorem sects_own {β : Type} (b B : Nat) (f : β → List Sec) : OwnFrom b (fun (s : β) W => Sects W B (f s)) := fun _ _ _ _ hs hg hr => cells_keep hs hg hr
set_option maxRecDepth 100000 in
set_option maxHeartbeats 4000000 in
theorem takeBack_any (base g B n : Nat) (pv : Value) (fuse steps : Int) (down : Bool) (S : List Sec) (ws : List Wr) (w : World) (hb : Box w g B n pv fuse down steps) (hS : Sects w B S) (hR : RowT eWr 88 w base pv ws)
    (hp : ∀ x ∈ ws, x.p < S.length) (hn : n = S.length) (hB : base ≤ B) (hbs : base ≤ w.heap.size) (hl : ws.length ≤ 1000000) :
    Calls Try.prog 42 #[.pointer (some ⟨g, 0, none⟩)] w fun r w' => (∃ v, r = .returned v) ∧ Sects w' B (undo S ws.reverse) ∧ Fr [86] [] base w w' := by
  refine (callsIn_wide (n := 9)).1 ?_
  have hdd : ∀ k : Nat, (Fence.wide.depth.isSome = true → 1 ≤ k) := fun k h => by cases h
  have hmx : Try.prog.follows .mixedOrders = true := by kernel_rfl
  have h32 : Fence.wide.fn 51 := trivial
  have h34 : Fence.wide.fn 34 := trivial
  obtain ⟨A, c, rfl, _⟩ := hR.form
  have c1 := hb.c1
  have hgs := hb.lt
  have HN := Lib.hid hn
  clear hn
  refine callsIn_of_wp_marks Try.func42 rfl trivial ?_ rfl
  simp only [Try.ntmps42, List.size_toArray, List.length_cons, List.length_nil, Nat.reduceAdd, Nat.reduceSub, Array.replicate_succ, Array.replicate_zero, List.push_toArray, List.append_toArray, List.nil_append, List.cons_append]
  gi_wp2_with ((try refine ⟨hdd _, ?_⟩); gi_at_call 51; refine (callsIn_wide.2 (back_any _ _ _ _)).mono ?_; rintro e w' ⟨rfl, rfl⟩)
  obtain ⟨w1, hw1⟩ : ∃ w1, w1 = (w.alloc (.cells #[.pointer (some ⟨g, 0, none⟩)] 24)).alloc (.cells #[.slice A ws.length c] 62) := ⟨_, rfl⟩
  rw [← hw1]
  have b1 : Below w.heap.size w w1 := by rw [hw1]; exact ((Below.refl _ w).alloc (Nat.le_refl _) _).alloc (by simp) _
  have x1 : w1.heap[w.heap.size]? = some (.cells #[.pointer (some ⟨g, 0, none⟩)] 24 (0, 0)) := by
    rw [hw1]
    exact (heap_old _ _ (by simp)).trans (heap_new _ _)
  have y1 : w1.heap[w.heap.size + 1]? = some (.cells #[.slice A ws.length c] 62 (0, 0)) := by
    have h := heap_new (w.alloc (.cells #[.pointer (some ⟨g, 0, none⟩)] 24)) (.cells #[.slice A ws.length c] 62)
    rw [World.size_alloc] at h
    rw [hw1]
    exact h
  have hb1 := hb.below b1
  have hS1 := hS.below b1
  have hR1 := hR.below b1
  have hbs1 : base ≤ w1.heap.size := Nat.le_trans hbs b1.size
  clear hw1 c1
  obtain ⟨bx, hbx⟩ : ∃ bx, bx = w.heap.size := ⟨_, rfl⟩
  rw [← hbx] at x1 y1 ⊢
  have HBX := Lib.hid hbx
  clear hbx
  refine range_tells (gf := 57) (lb := #[.pointer (some ⟨bx + 1, 0, none⟩)]) rfl (enters_of Try.func57 (by kernel_rfl) rfl)
    (back1_tells w1 base w1.heap.size base (bx + 1) _ ws y1 hR1 hl hbs1) Kp.t (Kp.b hbs1 (Nat.le_refl _)) (Below.refl _ _) (fun _ => rfl)
    (fun pre W => Sects W B (undo S (pre.map (·.1))) ∧ Kp base w1.heap.size w1 W) (fun _ _ _ => False)
    (OwnFrom.and (sects_own _ _ _) (Kp.own hbs1 hbs1 (Nat.le_refl _))) (fun _ _ _ _ _ hs _ _ => hs) ⟨hS1, Kp.refl _ _ _⟩
    (fun x a' W => ∃ q, WrAt W q x.1 ∧ a' = { tmps := #[.pointer (some ⟨g, 0, none⟩), .pointer (some ⟨bx, 0, none⟩), undef, .pointer (some ⟨q, 0, none⟩), .pointer (some ⟨g, 0, none⟩), .pointer (some ⟨g, 0, none⟩), .pointer (some ⟨g, 1, none⟩), .slice A ws.length c, .func (.func 57) #[] #[.pointer (some ⟨bx + 1, 0, none⟩)], .int .i64 (x.2 : Int), wrV x.1, undef, undef, undef, undef, undef, undef, undef, undef, undef], defers := [] })
    (fun x a' _ _ _ _ hs hg hr => by obtain ⟨q, h1, h2⟩ := hs; exact ⟨q, cells_keep h1 hg hr, h2⟩) ?assign ?body ?done ?stop
  case assign =>
    rintro l pre ⟨x, j⟩ W K ⟨hi1, hi2⟩ _ hK
    simp only [encB]
    have HK := Lib.hid (hK _ _ (keeps_below (Below.alloc (Below.refl _ W) (Nat.le_refl _) (.cells (eWr.f x).toArray 88))) (Kp.below (Below.alloc (Below.refl _ W) (Nat.le_refl _) _) (Nat.le_trans hbs1 hi2.1.size)) ⟨hi1.below (Below.alloc (Below.refl _ W) (Nat.le_refl _) _), hi2.t (Kp.below (Below.alloc (Below.refl _ W) (Nat.le_refl _) _) (Nat.le_trans hbs1 hi2.1.size))⟩ ⟨W.heap.size, heap_new _ _, rfl⟩)
    clear hK hi1 hi2
    go_simp
    refine wpIn_region_lit (wpListIn_value rfl rfl (fun _ h => by cases h) (exec_alloc rfl (run_alloc74 _)) (wpListIn_unit rfl rfl (fun _ h => by cases h) (exec_store rfl rfl rfl (store74new _ _ x)) (wpListIn_nil ?_)))
    exact HK.out
  case body =>
    rintro l pre ⟨x, j⟩ a' W ⟨hi1, hi2⟩ ⟨q, hq, rfl⟩ hpre
    have hx : x ∈ ws := by
      have h1 : (x, j) ∈ backL ws := hpre.subset (by simp)
      have h2 : x ∈ (backL ws).map (·.1) := List.mem_map.mpr ⟨_, h1, rfl⟩
      rw [backL_map] at h2
      simpa using h2
    have HPS : Hid (x.p < (undo S (pre.map (·.1))).length) := by
      show _ < _
      rw [undo_length]
      exact hp x hx
    have HP : Hid (x.p < n) := by
      show _ < _
      rw [HN.out]
      exact hp x hx
    have hB2 : Box W g B n (.slice A ws.length c) fuse down steps := hi2.cell hb1 (by decide)
    have hx2 := hi2.cell x1 (by decide)
    have e1 : undo S ((pre ++ [(x, j)]).map (·.1)) = (undo S (pre.map (·.1))).set x.p x.o := by
      rw [List.map_append]
      exact undo_snoc _ _ _
    have fr : Fr [86] [] base W (W.drew.setRow B (eSec.vals ((undo S (pre.map (·.1))).set x.p x.o)).toArray) :=
      Fr.row (Fr.of_below (Below.refl _ _).drew (Nat.le_trans hbs1 hi2.1.size)) (hi1.below (Below.refl _ _).drew) (.inl (by simp [kd])) hB _
    have kp : Kp base w1.heap.size W (W.drew.setRow B (eSec.vals ((undo S (pre.map (·.1))).set x.p x.o)).toArray) := ⟨fr.below, fun b o hb _ hk => fr.keep b o hb (by simpa using hk) (by simp)⟩
    have HS2 : Hid ((W.drew.setRow B (eSec.vals ((undo S (pre.map (·.1))).set x.p x.o)).toArray).heap[bx]? = some (.cells #[.pointer (some ⟨g, 0, none⟩)] 24 (0, 0)) ∧ Box (W.drew.setRow B (eSec.vals ((undo S (pre.map (·.1))).set x.p x.o)).toArray) g B n (.slice A ws.length c) fuse down steps ∧ WrAt (W.drew.setRow B (eSec.vals ((undo S (pre.map (·.1))).set x.p x.o)).toArray) q x) :=
      ⟨kp.cell hx2 (by decide), kp.cell hB2 (by decide), kp.cell hq (by decide)⟩
    have HE : Hid (KeepsFrom w1.heap.size W (W.drew.setRow B (eSec.vals ((undo S (pre.map (·.1))).set x.p x.o)).toArray) ∧ Kp base w1.heap.size W (W.drew.setRow B (eSec.vals ((undo S (pre.map (·.1))).set x.p x.o)).toArray) ∧ Sects (W.drew.setRow B (eSec.vals ((undo S (pre.map (·.1))).set x.p x.o)).toArray) B (undo S ((pre ++ [(x, j)]).map (·.1))) ∧ Kp base w1.heap.size w1 (W.drew.setRow B (eSec.vals ((undo S (pre.map (·.1))).set x.p x.o)).toArray)) := by
      refine ⟨⟨fr.size, fun k o _ hk ho => fr.keep k o hk ?_ (by simp)⟩, kp, ?_, hi2.t kp⟩
      · cases o <;> first | (cases ho; done) | (simp [kd])
      · rw [e1]
        exact (hi1.below (Below.refl _ _).drew).set _
    have hHeld : W.drew.heap[bx]? = some (.cells #[.pointer (some ⟨g, 0, none⟩)] 24 (0, 0)) ∧ Box W.drew g B n (.slice A ws.length c) fuse down steps ∧ WrAt W.drew q x := ⟨hx2, hB2.below (Below.refl _ _).drew, hq.below (Below.refl _ _).drew⟩
    have HS := Lib.hid hi1
    clear hi1 hi2 hq hpre hx hB2 hx2 e1 fr kp hb hS hR hp hb1 hS1 hR1 x1 y1
    generalize undo S (pre.map (·.1)) = T at *
    gi_wp2
    refine region_round rfl hmx (by kernel_rfl) (any_in (by kernel_rfl) ?_ _ _ _ _ (wpAny_of_held (S := fun w' => w'.heap[bx]? = some (.cells #[.pointer (some ⟨g, 0, none⟩)] 24 (0, 0)) ∧ Box w' g B n (.slice A ws.length c) fuse down steps ∧ WrAt w' q x) _ _ _ _ ?_))
    · rintro ⟨_, _, h⟩
      exact h
    refine wpAnyH_take (i := 0) (oi := { dst := some 11, op := Op.load 24 (Operand.tmp 1), type := 24, pos := "disk.go:147", after := #[], guard := none }) (v := ?v3n1) rfl (by kernel_rfl) (by kernel_rfl) (by kernel_rfl) (fun _ _ _ h => h) (Or.inl ⟨by rfl, ?hy3n1⟩) (by assumption) ?rest3n1
    case hy3n1 => (intro w hSw; (try dsimp only at hSw); have q0 := one_cell hSw.1; have q1 := hSw.2.1.c0; have q2 := hSw.2.2.place; go_simp <;> (try with_reducible rfl))
    try simp only [Act.put, List.setIfInBounds_toArray, List.set_cons_zero, List.set_cons_succ]
    refine wpAnyH_take (i := 1) (oi := { dst := some 12, op := Op.nilCheck (Operand.tmp 11), type := 0, pos := "disk.go:147", after := #[{ on := 0, ground := Ground.data }], guard := none }) (v := ?v3n2) rfl (by kernel_rfl) (by kernel_rfl) (by kernel_rfl) (fun _ _ _ h => h) (Or.inl ⟨by rfl, ?hy3n2⟩) (by assumption) ?rest3n2
    case hy3n2 => (intro w hSw; (try dsimp only at hSw); have q0 := one_cell hSw.1; have q1 := hSw.2.1.c0; have q2 := hSw.2.2.place; go_simp <;> (try with_reducible rfl))
    try simp only [Act.put, List.setIfInBounds_toArray, List.set_cons_zero, List.set_cons_succ]
    refine wpAnyH_take (i := 2) (oi := { dst := some 13, op := Op.fieldAddr 69 (Operand.tmp 12) 0, type := 0, pos := "disk.go:147", after := #[{ on := 1, ground := Ground.data }], guard := none }) (v := ?v3n3) rfl (by kernel_rfl) (by kernel_rfl) (by kernel_rfl) (fun _ _ _ h => h) (Or.inl ⟨by rfl, ?hy3n3⟩) (by assumption) ?rest3n3
    case hy3n3 => (intro w hSw; (try dsimp only at hSw); have q0 := one_cell hSw.1; have q1 := hSw.2.1.c0; have q2 := hSw.2.2.place; go_simp <;> (try with_reducible rfl))
    try simp only [Act.put, List.setIfInBounds_toArray, List.set_cons_zero, List.set_cons_succ]
    refine wpAnyH_take (i := 3) (oi := { dst := some 14, op := Op.load 61 (Operand.tmp 13), type := 61, pos := "disk.go:147", after := #[{ on := 2, ground := Ground.data }], guard := none }) (v := ?v3n4) rfl (by kernel_rfl) (by kernel_rfl) (by kernel_rfl) (fun _ _ _ h => h) (Or.inl ⟨by rfl, ?hy3n4⟩) (by assumption) ?rest3n4
    case hy3n4 => (intro w hSw; (try dsimp only at hSw); have q0 := one_cell hSw.1; have q1 := hSw.2.1.c0; have q2 := hSw.2.2.place; go_simp <;> (try with_reducible rfl))
    try simp only [Act.put, List.setIfInBounds_toArray, List.set_cons_zero, List.set_cons_succ]
    refine wpAnyH_take (i := 4) (oi := { dst := some 15, op := Op.fieldAddr 88 (Operand.tmp 3) 0, type := 0, pos := "disk.go:147", after := #[], guard := none }) (v := ?v3n5) rfl (by kernel_rfl) (by kernel_rfl) (by kernel_rfl) (fun _ _ _ h => h) (Or.inl ⟨by rfl, ?hy3n5⟩) (by assumption) ?rest3n5
    case hy3n5 => (intro w hSw; (try dsimp only at hSw); have q0 := one_cell hSw.1; have q1 := hSw.2.1.c0; have q2 := hSw.2.2.place; go_simp <;> (try with_reducible rfl))
    try simp only [Act.put, List.setIfInBounds_toArray, List.set_cons_zero, List.set_cons_succ]
    refine wpAnyH_take (i := 5) (oi := { dst := some 16, op := Op.load 3 (Operand.tmp 15), type := 3, pos := "disk.go:147", after := #[{ on := 4, ground := Ground.data }], guard := none }) (v := ?v3n6) rfl (by kernel_rfl) (by kernel_rfl) (by kernel_rfl) (fun _ _ _ h => h) (Or.inl ⟨by rfl, ?hy3n6⟩) (by assumption) ?rest3n6
    case hy3n6 => (intro w hSw; (try dsimp only at hSw); have q0 := one_cell hSw.1; have q1 := hSw.2.1.c0; have q2 := hSw.2.2.place; go_simp <;> (try with_reducible rfl))
    try simp only [Act.put, List.setIfInBounds_toArray, List.set_cons_zero, List.set_cons_succ]
    refine wpAnyH_take (i := 6) (oi := { dst := some 17, op := Op.fieldAddr 88 (Operand.tmp 3) 1, type := 0, pos := "disk.go:147", after := #[], guard := none }) (v := ?v3n7) rfl (by kernel_rfl) (by kernel_rfl) (by kernel_rfl) (fun _ _ _ h => h) (Or.inl ⟨by rfl, ?hy3n7⟩) (by assumption) ?rest3n7
    case hy3n7 => (intro w hSw; (try dsimp only at hSw); have q0 := one_cell hSw.1; have q1 := hSw.2.1.c0; have q2 := hSw.2.2.place; go_simp <;> (try with_reducible rfl))
    try simp only [Act.put, List.setIfInBounds_toArray, List.set_cons_zero, List.set_cons_succ]
    refine wpAnyH_take (i := 7) (oi := { dst := some 18, op := Op.load 86 (Operand.tmp 17), type := 86, pos := "disk.go:147", after := #[{ on := 6, ground := Ground.data }], guard := none }) (v := secV x.o) rfl (by kernel_rfl) (by kernel_rfl) (by kernel_rfl) (fun _ _ _ h => h) (Or.inl ⟨by rfl, fun w hSw => exec_load rfl rfl (load72 hSw.2.2.old)⟩) (by assumption) ?_
    try simp only [Act.put, List.setIfInBounds_toArray, List.set_cons_zero, List.set_cons_succ]
    refine wpAnyH_take (i := 8) (oi := { dst := some 19, op := Op.indexAddr 61 (Operand.tmp 14) (Operand.tmp 16), type := 0, pos := "disk.go:147", after := #[{ on := 3, ground := Ground.data }, { on := 5, ground := Ground.data }, { on := 0, ground := Ground.phase }, { on := 1, ground := Ground.phase }, { on := 2, ground := Ground.phase }, { on := 3, ground := Ground.phase }, { on := 4, ground := Ground.phase }, { on := 5, ground := Ground.phase }, { on := 6, ground := Ground.phase }, { on := 7, ground := Ground.phase }], guard := none }) (v := Value.pointer (some ⟨B, x.p * 64, none⟩)) rfl (by kernel_rfl) (by kernel_rfl) (by kernel_rfl) (fun _ _ _ h => h) (Or.inl ⟨by rfl, fun w hSw => exec_index rfl rfl rfl (idx64 B x.p n HP.out w)⟩) (by assumption) ?_
    try simp only [Act.put, List.setIfInBounds_toArray, List.set_cons_zero, List.set_cons_succ]
    refine wpAnyH_ready (rs := [9]) (by kernel_rfl) (by simp) ?_
    refine AllReadyH.cons (o := { dst := none, op := Op.store 86 (Operand.tmp 19) (Operand.tmp 18), type := 0, pos := "disk.go:147", after := #[{ on := 8, ground := Ground.data }, { on := 7, ground := Ground.data }, { on := 0, ground := Ground.phase }, { on := 1, ground := Ground.phase }, { on := 2, ground := Ground.phase }, { on := 3, ground := Ground.phase }, { on := 4, ground := Ground.phase }, { on := 5, ground := Ground.phase }, { on := 6, ground := Ground.phase }, { on := 7, ground := Ground.phase }], guard := none }) rfl (fun K hK => ?_) AllReadyH.nil
    refine wp_unit (exec_store rfl rfl rfl ((Sects.below HS.out (Below.refl _ _).drew).store HPS.out x.o)) ?_
    refine hK.out _ _ (HS2.out) (fun hHeld => ?_)
    clear hK K
    try simp only [Act.put]
    refine wpAnyH_done (by kernel_rfl) ?_ _
    exact HE.out
  case done =>
    rintro D W hD ⟨hi1, hi2⟩ hK
    have e : undo S ((backL ws).map (·.1)) = undo S ws.reverse := by rw [backL_map]
    rw [e] at hi1
    have HE : Hid (Sects (W.putObj D (.deferred none)) B (undo S ws.reverse) ∧ Fr [86] [] base w (W.putObj D (.deferred none))) := by
      have k1 := hi2.t (Kp.b hbs1 (Nat.le_refl _) W D _ (.deferred none) hD hK rfl)
      refine ⟨?_, ?_⟩
      · exact cells_keep hi1 (grownBy_putObj' W D _) (b := 0) (fun r er => by cases er; exact ⟨Nat.zero_le _, _, hK, rfl⟩)
      · exact ⟨(b1.mono hbs).trans k1.1, fun b o hb1 hk _ => k1.2 b o ((b1.block b (lt_of_heap hb1)).trans hb1) (.inl (Nat.lt_of_lt_of_le (lt_of_heap hb1) b1.size)) (by simpa using hk)⟩
    clear hi1 hi2
    gi_wp2
    refine ⟨by simp, .inl ⟨_, _, rfl, run_takeDeferred hK, ?_⟩⟩
    exact ⟨_, results_none rfl _ _ _, ⟨_, rfl⟩, HE.out⟩
  case stop =>
    rintro D c pre W _ _ h _
    exact h.elim
end Go.Proofs.Ytppdckncnfffcaa
