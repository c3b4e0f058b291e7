/-
  A table of tombstones in memory. The contracts of Len, Floor, takes, Allows, Note, Clear, New. Their conditions: the table lies in memory, and has no more tombstones than a bound.
-/
import Derived.Test.YtlleiehacmkedaaRw
namespace Go.Proofs.Ytlleiehacmkedaa
open Go.RowKit Go.Maps Go.ChangeMaps
open Go.Sort (grow)

theorem run_max2 {P : Program} (w : World) (ts : Array TypeId) (t : TypeId) (x y n : Int) (h : n = max x y) :
    (Builtin.max_ ts t #[.int .i64 x, .int .i64 y]).run P w = .ok (.int .i64 n) w := by
  subst h
  simp [Builtin.max_, Builtin.max2]
  try omega
theorem wf_i64 {x : Int} (h1 : -9223372036854775808 ≤ x) (h2 : x ≤ 9223372036854775807) : (Lit.int .i64 x).wf = true := WalkArith.wf_i64 (by omega)
/-- A table's own block. -/
def Box (w : World) (g B : Nat) (limit floor : Int) : Prop := w.heap[g]? = some (.cells #[.int .i64 limit, .int .i64 floor, .map (some B)] 48 (0, 0))
/-- The kinds of blocks that a table is made of. -/
def kT : List Nat := [48, 1000]
section
variable {w w' : World} {g B : Nat} {limit floor : Int}
theorem Box.lt (h : Box w g B limit floor) : g < w.heap.size := lt_of_heap h
theorem Box.c0 (h : Box w g B limit floor) : w.cell? ⟨g, 0, none⟩ = some (.int .i64 limit) := by simp [World.cell?, show w.heap[g]? = _ from h]
theorem Box.c1 (h : Box w g B limit floor) : w.cell? ⟨g, 1, none⟩ = some (.int .i64 floor) := by simp [World.cell?, show w.heap[g]? = _ from h]
theorem Box.c2 (h : Box w g B limit floor) : w.cell? ⟨g, 2, none⟩ = some (.map (some B)) := by simp [World.cell?, show w.heap[g]? = _ from h]
theorem Box.frozen (h : Box w g B limit floor) (o : Nat) : w.frozen? ⟨g, o, none⟩ = false := by simp [World.frozen?, show w.heap[g]? = _ from h]
theorem Box.set1 (h : Box w g B limit floor) (x : Int) : Box (w.setCell ⟨g, 1, none⟩ (.int .i64 x)) g B limit x := by
  unfold Box at h ⊢
  simp [World.setCell, Array.getElem?_modify, h]
theorem Box.below (h : Box w g B limit floor) (hb : Below w.heap.size w w') : Box w' g B limit floor := (hb.block g h.lt).trans h
end

/-- A table that lies in block g, its map in block B. -/
structure TableAt (w : World) (base g B : Nat) (L : List Tm) (floor limit : Int) : Prop where
  box : Box w g B limit floor
  mp : MapAt w B L
  bg : base ≤ g
  bB : base ≤ B
  ok : ∀ x ∈ L, Ok x
  good : Good L floor limit
section
variable {w w' : World} {base base' g B : Nat} {L L' : List Tm} {floor limit : Int} {l ms : List Nat}
theorem TableAt.gB (h : TableAt w base g B L floor limit) : g ≠ B := by
  rintro rfl
  obtain ⟨es, c, hb⟩ := h.mp.isMap
  have := h.box
  unfold Box at this
  rw [hb] at this
  cases this
theorem TableAt.below (h : TableAt w base g B L floor limit) (hf : Below w.heap.size w w') : TableAt w' base g B L floor limit := ⟨h.box.below hf, h.mp.below hf, h.bg, h.bB, h.ok, h.good⟩
/-- What writes no block of a table's kinds leaves it as it was. -/
theorem TableAt.keep (h : TableAt w base g B L floor limit) (hf : Fr l [] base' w w') (h1 : 48 ∉ l) (h2 : 1000 ∉ l) : TableAt w' base g B L floor limit :=
  ⟨hf.keep g _ h.box h1 (by simp), h.mp.fr hf h2 (by simp), h.bg, h.bB, h.ok, h.good⟩
/-- The map has turned. -/
theorem TableAt.turn (h : TableAt w base g B L floor limit) (hg : w.grownBy w' (some B)) (hm : MapAt w' B L') (ho : ∀ x ∈ L', Ok x) (hgd : Good L' floor limit) : TableAt w' base g B L' floor limit ∧ Fr kT [] base w w' := by
  obtain ⟨es, c, hb⟩ := h.mp.isMap
  have hF : Fr kT [] base w w' := (Fr.refl _ _ _ _).grown hg hb (.inl (by simp [kd, kT])) h.bB
  refine ⟨⟨?_, hm, h.bg, h.bB, ho, hgd⟩, hF⟩
  have h1 := hg.block g h.box.lt (by simpa using h.gB)
  exact h1.trans h.box
/-- The floor has turned. -/
theorem TableAt.setF (h : TableAt w base g B L floor limit) {f : Int} (hgd : Good L f limit) : TableAt (w.setCell ⟨g, 1, none⟩ (.int .i64 f)) base g B L f limit ∧ Fr kT [] base w (w.setCell ⟨g, 1, none⟩ (.int .i64 f)) := by
  have hF : Fr kT [] base w (w.setCell ⟨g, 1, none⟩ (.int .i64 f)) := (Fr.refl _ _ _ _).set h.box (.inl (by simp [kd, kT])) h.bg _
  have hF2 : Fr [] [g] base w (w.setCell ⟨g, 1, none⟩ (.int .i64 f)) := (Fr.refl _ _ _ _).set h.box (.inr (by simp)) h.bg _
  exact ⟨⟨h.box.set1 f, h.mp.fr hF2 (by simp) (by simpa using h.gB.symm), h.bg, h.bB, h.ok, hgd⟩, hF⟩
end
def TPost (w : World) (base g B : Nat) (L : List Tm) (floor limit : Int) (v : Value) (r : Ending) (w' : World) : Prop :=
  r = .returned v ∧ TableAt w' base g B L floor limit ∧ Fr kT [] base w w'

theorem len_any (base g B : Nat) (L : List Tm) (floor limit : Int) (w : World) (h : TableAt w base g B L floor limit) :
    Calls Try.prog 17 #[.pointer (some ⟨g, 0, none⟩)] w fun x w' => x = .returned (.int .i64 (L.length : Int)) ∧ w = w' := by
  have c2 := h.box.c2
  have hl := h.mp.len 3
  clear h
  go_enter Try.func17, Try.ntmps17
  go_wp2
  go_ret
  exact ⟨rfl, rfl⟩
theorem len_nil (w : World) : Calls Try.prog 17 #[.pointer none] w fun x w' => x = .returned (.int .i64 0) ∧ w = w' := by
  go_enter Try.func17, Try.ntmps17
  go_wp2
  go_ret
  exact ⟨rfl, rfl⟩
theorem floor_any (base g B : Nat) (L : List Tm) (floor limit : Int) (w : World) (h : TableAt w base g B L floor limit) :
    Calls Try.prog 18 #[.pointer (some ⟨g, 0, none⟩)] w fun x w' => x = .returned (.int .i64 floor) ∧ w = w' := by
  have c1 := h.box.c1
  clear h
  go_enter Try.func18, Try.ntmps18
  go_wp2
  go_ret
  exact ⟨rfl, rfl⟩
theorem floor_nil (w : World) : Calls Try.prog 18 #[.pointer none] w fun x w' => x = .returned (.int .i64 0) ∧ w = w' := by
  go_enter Try.func18, Try.ntmps18
  go_wp2
  go_ret
  exact ⟨rfl, rfl⟩
set_option maxHeartbeats 2000000 in
theorem takes_any (base g B : Nat) (L : List Tm) (floor limit : Int) (k : ByteArray) (w : World) (h : TableAt w base g B L floor limit) (hk : k.size ≤ maxLen) :
    Calls Try.prog 21 #[.pointer (some ⟨g, 0, none⟩), .string k] w fun x w' => x = .returned (.bool (takes L k limit)) ∧ Below w.heap.size w w' := by
  have c0 := h.box.c0
  have c2 := h.box.c2
  have hf := h.mp.find hk
  have hlen : ∀ m, (Builtin.len_ #[46] 3 #[.map (some B)]).run Try.prog (w.drewN m) = .ok (.int .i64 (L.length : Int)) (w.drewN m) := fun m => (h.mp.below (below_drewN w m)).len 3
  unfold takes
  generalize val L k = v at hf
  obtain ⟨n, hn⟩ : ∃ n, n = L.length := ⟨_, rfl⟩
  rw [← hn] at hlen ⊢
  clear h hn
  cases hh : has L k with
  | true =>
    rw [hh] at hf
    clear hh
    simp only [Bool.true_or]
    go_enter Try.func21, Try.ntmps21
    go_wp2_with fail
    go_quiet (fail)
    go_wp2
    go_ret
    exact ⟨rfl, below_drewN _ _⟩
  | false =>
    rw [hh] at hf
    clear hh
    simp only [Bool.false_or]
    go_enter Try.func21, Try.ntmps21
    go_wp2_with fail
    go_quiet (fail)
    go_wp2
    go_ret
    exact ⟨rfl, below_drewN _ _⟩
set_option maxHeartbeats 2000000 in
theorem allows_any (base g B : Nat) (L : List Tm) (floor limit : Int) (k : ByteArray) (n : Int) (w : World) (h : TableAt w base g B L floor limit) (hk : k.size ≤ maxLen) :
    Calls Try.prog 15 #[.pointer (some ⟨g, 0, none⟩), .string k, .int .i64 n] w fun x w' => x = .returned (.bool (decide (n ≥ bar L floor k))) ∧ Below w.heap.size w w' := by
  have c1 := h.box.c1
  have c2 := h.box.c2
  have g1 := fun d os => cell_regrown c1 d os
  have g2 := fun d os => cell_regrown c2 d os
  have hl : ∀ d os, (Instr.lookup 46 (.map (some B)) (.string k) false).run Try.prog (grow (redrawn w d) os) = .ok (.int .i64 (val L k)) (grow (redrawn w d) os) := fun d os => (h.mp.below (below_regrown w d os)).val hk
  unfold bar
  generalize val L k = v at hl ⊢
  obtain ⟨m, hm⟩ : ∃ m, m = max floor v := ⟨_, rfl⟩
  have hmax : ∀ w, (Builtin.max_ #[3, 3] 3 #[.int .i64 floor, .int .i64 v]).run Try.prog w = .ok (.int .i64 m) w := fun w => run_max2 w _ _ _ _ _ hm
  rw [← hm]
  clear h hm
  go_enter Try.func15, Try.ntmps15
  go_wp2_with fail
  refine wp_region_quiet_below (by kernel_rfl) (by kernel_rfl) ?_
  repeat (go_big_quiet_step (fail))
  refine wpQuiet_nil ?_
  intro w4 hw'
  obtain ⟨⟨dq, osq⟩, hw''⟩ := hw'
  have B4 : Hid (Below w.heap.size w w4) := by show Below _ _ _; rw [hw'']; exact below_regrown w dq osq
  clear hw'' g1 g2 hl hmax c1 c2
  go_wp2
  go_ret
  exact ⟨rfl, B4.out⟩
theorem allows_nil (k : ByteArray) (n : Int) (w : World) : Calls Try.prog 15 #[.pointer none, .string k, .int .i64 n] w fun x w' => x = .returned (.bool true) ∧ w = w' := by
  go_enter Try.func15, Try.ntmps15
  go_wp2
  go_ret
  exact ⟨rfl, rfl⟩
theorem note_nil (k : ByteArray) (n : Int) (w : World) : Calls Try.prog 10 #[.pointer none, .string k, .int .i64 n] w fun x w' => x = .returned (.tuple #[]) ∧ w = w' := by
  go_enter Try.func10, Try.ntmps10
  go_wp2
  refine bodyPost_ret (results_none rfl _ _ _) rfl ?_
  exact ⟨rfl, rfl⟩
theorem val_ok {L : List Tm} (h : ∀ x ∈ L, Ok x) (k : ByteArray) : (Lit.int .i64 (val L k)).wf = true := by
  unfold val
  cases hf : fnd L k with
  | none => exact wf0
  | some x => exact (h x (fnd_some hf).1).n
theorem max_ok {x y : Int} (hx : (Lit.int .i64 x).wf = true) (hy : (Lit.int .i64 y).wf = true) : (Lit.int .i64 (max x y)).wf = true := by
  rcases Int.le_total x y with h | h
  · rw [Int.max_eq_right h]
    exact hy
  · rw [Int.max_eq_left h]
    exact hx
set_option maxHeartbeats 4000000 in
theorem note_any (base g B : Nat) (L : List Tm) (floor limit : Int) (x : Tm) (w : World) (h : TableAt w base g B L floor limit) (hx : Ok x) (hl : L.length ≤ 1000) (hbs : base ≤ w.heap.size) :
    Calls Try.prog 10 #[.pointer (some ⟨g, 0, none⟩), .string x.k, .int .i64 x.n] w (TPost w base g B (noteL L x.k x.n limit) (noteF L floor x.k x.n limit) limit (.tuple #[])) := by
  obtain ⟨k, n⟩ := x
  have hk : k.size ≤ maxLen := hx.k
  have hnw : (Lit.int .i64 n).wf = true := hx.n
  simp only
  have hgd := h.good.note k n
  by_cases hn : n < 1
  · have HE : Hid (TPost w base g B (noteL L k n limit) (noteF L floor k n limit) limit (.tuple #[]) (.returned (.tuple #[])) w) := by
      show TPost _ _ _ _ _ _ _ _ _ _
      simp only [noteL, noteF, hn, if_true]
      exact ⟨rfl, h, Fr.refl _ _ _ _⟩
    clear h hgd hx
    go_enter Try.func10, Try.ntmps10
    go_wp2
    refine bodyPost_ret (results_none rfl _ _ _) rfl ?_
    exact HE.out
  · have C1 := Lib.hid (takes_any base g B L floor limit k w h hk)
    cases ht : takes L k limit with
    | true =>
      rw [ht] at C1
      have H := Lib.hid h
      have HG := Lib.hid hgd
      have HK := Lib.hid hk
      have HX := Lib.hid hx
      have HN := Lib.hid hn
      have HS := Lib.hid hbs
      have HT := Lib.hid ht
      clear h hgd hk hx ht hbs hnw
      go_enter Try.func10, Try.ntmps10
      go_wp2_with fail
      refine C1.out.mono ?_
      rintro r w1 ⟨rfl, b1⟩
      have T1 := H.out.below b1
      have c2 := T1.box.c2
      have T2 := H.out.below b1.drew
      have l1 := T1.mp.val HK.out
      have l2 := T2.mp.val HK.out
      obtain ⟨m, hm⟩ : ∃ m, m = max (val L k) n := ⟨_, rfl⟩
      have hmx : (Lit.int .i64 m).wf = true := by rw [hm]; exact max_ok (val_ok H.out.ok k) HX.out.n
      obtain ⟨w3, hr, hm3, hg3⟩ := T2.mp.put T2.good.rs (x := ⟨k, m⟩) ⟨HK.out, hmx⟩ (by unfold maxLen; omega)
      have HE : Hid (TPost w base g B (noteL L k n limit) (noteF L floor k n limit) limit (.tuple #[]) (.returned (.tuple #[])) w3) := by
        have hgd := HG.out
        have hn1 : ¬ n < 1 := by have := HN.out; omega
        show TPost _ _ _ _ _ _ _ _ _ _
        simp only [noteL, noteF, hn1, HT.out, if_true, if_false] at hgd ⊢
        rw [← hm] at hgd ⊢
        obtain ⟨t3, f3⟩ := T2.turn hg3 hm3 (fun y hy => by rcases mem_ins.mp hy with rfl | hy; exact ⟨HK.out, hmx⟩; exact T2.ok y hy.1) hgd
        exact ⟨rfl, t3, (Fr.of_below b1.drew HS.out).trans f3⟩
      simp only at hr
      generalize val L k = v at l1 l2 hm
      have hmax : ∀ w, (Builtin.max_ #[3, 3] 3 #[.int .i64 v, .int .i64 n]).run Try.prog w = .ok (.int .i64 m) w := fun w => run_max2 w _ _ _ _ _ hm
      clear T1 T2 hm hmx hm3 hg3 b1 hl
      go_wp2_with fail
      go_region
      all_goals
        go_wp2
        first
          | go_end0
          | refine bodyPost_ret (results_none rfl _ _ _) rfl ?_
        exact HE.out
    | false =>
      rw [ht] at C1
      have H := Lib.hid h
      have HG := Lib.hid hgd
      have HN := Lib.hid hn
      have HS := Lib.hid hbs
      have HT := Lib.hid ht
      clear h hgd hk hx ht hbs hnw
      go_enter Try.func10, Try.ntmps10
      go_wp2_with fail
      refine C1.out.mono ?_
      rintro r w1 ⟨rfl, b1⟩
      have T1 := H.out.below b1
      have c1 := T1.box.c1
      have fz := T1.box.frozen 1
      obtain ⟨m, hm⟩ : ∃ m, m = max floor n := ⟨_, rfl⟩
      have HE : Hid (TPost w base g B (noteL L k n limit) (noteF L floor k n limit) limit (.tuple #[]) (.returned (.tuple #[])) (w1.setCell ⟨g, 1, none⟩ (.int .i64 m))) := by
        have hgd := HG.out
        have hn1 : ¬ n < 1 := by have := HN.out; omega
        show TPost _ _ _ _ _ _ _ _ _ _
        simp only [noteL, noteF, hn1, HT.out, if_false, Bool.false_eq_true] at hgd ⊢
        rw [← hm] at hgd ⊢
        obtain ⟨t3, f3⟩ := T1.setF hgd
        exact ⟨rfl, t3, (Fr.of_below b1 HS.out).trans f3⟩
      have hmax : ∀ w, (Builtin.max_ #[3, 3] 3 #[.int .i64 floor, .int .i64 n]).run Try.prog w = .ok (.int .i64 m) w := fun w => run_max2 w _ _ _ _ _ hm
      clear T1 hm b1 hl
      go_wp2
      go_end0
      exact HE.out
theorem clear_any (base g B : Nat) (L : List Tm) (floor limit : Int) (w : World) (h : TableAt w base g B L floor limit) :
    Calls Try.prog 14 #[.pointer (some ⟨g, 0, none⟩)] w (TPost w base g B [] 0 limit (.tuple #[])) := by
  have c2 := h.box.c2
  obtain ⟨w2, hr, hm2, hg2⟩ := h.mp.clear 0
  obtain ⟨t2, f2⟩ := h.turn hg2 hm2 (by simp) ⟨rises_nil, by simp, h.good.f0, by have := h.good.len; simp; omega⟩
  have d2 := t2.box.c1
  have fz := t2.box.frozen 1
  obtain ⟨t3, f3⟩ := t2.setF (Good.nil limit)
  have HE : Hid (TPost w base g B [] 0 limit (.tuple #[]) (.returned (.tuple #[])) (w2.setCell ⟨g, 1, none⟩ (.int .i64 0))) := ⟨rfl, t3, f2.trans f3⟩
  clear h hm2 hg2 t2 f2 t3 f3
  go_enter Try.func14, Try.ntmps14
  go_wp2
  go_end0
  exact HE.out
theorem clear_nil (w : World) : Calls Try.prog 14 #[.pointer none] w fun x w' => x = .returned (.tuple #[]) ∧ w = w' := by
  go_enter Try.func14, Try.ntmps14
  go_wp2
  refine bodyPost_ret (results_none rfl _ _ _) rfl ?_
  exact ⟨rfl, rfl⟩
/-- What New lays. -/
def newWorld (w : World) (limit : Int) : World := (w.alloc (.map #[] 0)).alloc (.cells #[.int .i64 limit, .int .i64 0, .map (some w.heap.size)] 48)
theorem newWorld_below (w : World) (limit : Int) : Below w.heap.size w (newWorld w limit) := ((Below.refl _ w).alloc (Nat.le_refl _) _).alloc (by simp) _
theorem newWorld_table (w : World) (base : Nat) (limit : Int) (hb : base ≤ w.heap.size) : TableAt (newWorld w limit) base (w.heap.size + 1) w.heap.size [] 0 limit := by
  refine ⟨?_, ?_, by omega, hb, by simp, Good.nil limit⟩
  · have h := heap_new (w.alloc (.map #[] 0)) (.cells #[.int .i64 limit, .int .i64 0, .map (some w.heap.size)] 48)
    rw [World.size_alloc] at h
    exact h
  · exact (MapAt.made w).below ((Below.refl _ _).alloc (Nat.le_refl _) _)
def NewPost (w : World) (base : Nat) (limit : Int) (r : Ending) (w' : World) : Prop :=
  ∃ g B, r = .returned (.pointer (some ⟨g, 0, none⟩)) ∧ TableAt w' base g B [] 0 limit ∧ Below w.heap.size w w' ∧ w.heap.size ≤ g ∧ w.heap.size ≤ B
theorem new_any (base : Nat) (limit : Int) (w : World) (hb : base ≤ w.heap.size) : Calls Try.prog 9 #[.int .i64 limit] w (NewPost w base limit) := by
  have hmm := @run_makeMap Try.prog
  have HT := Lib.hid (newWorld_table w base limit hb)
  clear hb
  go_enter Try.func9, Try.ntmps9
  go_wp2
  go_ret
  exact ⟨w.heap.size + 1, w.heap.size, rfl, HT.out, newWorld_below w limit, by omega, Nat.le_refl _⟩
end Go.Proofs.Ytlleiehacmkedaa
