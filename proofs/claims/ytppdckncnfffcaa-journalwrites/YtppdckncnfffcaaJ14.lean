/-
  The contract of the journal's write. Its conditions: the journal, its disk and the record lie in memory, there is room for the record, the disk's steps and pending writes are below a bound.
-/
import Derived.Test.YtppdckncnfffcaaJ13
import Derived.Sort.CutIn
namespace Go.Proofs.Ytppdckncnfffcaa
open Go.RowKit Go.Shelf
set_option maxRecDepth 100000
attribute [local go_sem] Oper.semAt_some

/-- Just the normal way on. -/
def onlyN (Q : Exit → Act → World → Prop) : Exit → Act → World → Prop
  | .normal, a, w => Q .normal a w
  | _, _, _ => False
section
variable {P : Program} {o : Oper} {a : Act} {next : Act → World → Prop} {Q : Exit → Act → World → Prop} {n : Nat} {w : World} {ops : Array Oper}
theorem upon_q {r : Result Next} (h : o.upon P a next (onlyN Q) r) : o.upon P a next Q r := by
  cases r with
  | ok x w' =>
    cases x with
    | enter f args => exact Calls.mono h (fun e w2 he => by cases e with | returned v => exact he | panicked c => exact he.elim | outgrown => exact he.elim (fun _ hh => hh.elim (fun _ hf => hf.elim)))
    | value v => exact h
    | skip => exact h
    | defer d => exact h
    | row r args => exact h
    | _ => exact h.elim
  | halt x w' =>
    cases x with
    | panic v => exact h.elim
    | _ => exact h.elim
theorem any_q {md : Region.Mode} : ∀ (fuel : Nat) (listed : Array Bool) (a : Act) (w : World), wpAny P md ops (onlyN Q) fuel listed a w → wpAny P md ops Q fuel listed a w
  | 0, _, _, _, h => h
  | fuel + 1, _, _, _, h => ⟨h.1, fun i hi => by
      have h2 := h.2 i hi
      unfold wpOp at h2 ⊢
      cases ho : ops[i]? with
      | none => simp only [ho] at h2 ⊢; exact any_q fuel _ _ _ h2
      | some o =>
        simp only [ho] at h2 ⊢
        split
        · rename_i hw
          simp only [hw, if_true] at h2
          rcases h2 with h2 | ⟨_, _, _, h2⟩
          · exact .inl (Oper.wp_mono (fun a' w' h' => any_q fuel _ a' w' h') (upon_q h2))
          · exact h2.elim
        · rename_i hw
          simp only [hw] at h2
          exact any_q fuel _ _ _ h2⟩
end
theorem region_wideN {n : Nat} {P : Program} {id : Nat} {ops : List Oper} {Q : Exit → Act → World → Prop} {a : Act} {w : World} (hm : P.follows .mixedOrders = true) (hd : noDefer ops.toArray = true) (hq : ¬ LetsOut Q)
    (h : wpAny P .any ops.toArray (onlyN Q) ops.toArray.size (Array.replicate ops.toArray.size false) a w.drew) : (Code.region id ops.toArray true).wpIn Fence.wide n P Q a w :=
  region_wide hm hd hq (any_q _ _ _ _ h)
theorem size71 : (Try.prog.info? 71).map (·.size) = some 4 := by kernel_rfl
/-- A journal's block, written anew. -/
def jCells (dg : Nat) (j : Jn) : Array Value := #[.pointer (some ⟨dg, 0, none⟩), .int .i64 (j.size : Int), .int .i64 (j.lap : Int), .int .i64 (j.first : Int), .int .i64 (j.recs : Int), .int .i64 (j.used : Int), .int .i64 (j.free : Int), .int .i64 (j.last : Int), .int .u32 (ovI j.over)]
theorem store71 {w : World} {g dg : Nat} {j : Jn} (h : JBox w g dg j) (a b c d : Nat) :
    (Instr.storeAt 71 (.pointer (some ⟨g, 2, none⟩)) (.agg #[.int .i64 (a : Int), .int .i64 (b : Int), .int .i64 (c : Int), .int .i64 (d : Int)])).run Try.prog w = .ok () (w.setRow g (jCells dg { j with lap := a, first := b, recs := c, used := d })) := by
  have h1 := run_storeCells_at (P := Try.prog) g 2 76 [.int .i64 (a : Int), .int .i64 (b : Int), .int .i64 (c : Int), .int .i64 (d : Int)] 0 _ w h (by simp) (by simp [Value.oneCell'])
  obtain ⟨i, hi⟩ : ∃ i, Try.prog.info? 71 = some i := by
    cases e : Try.prog.info? 71 with
    | none => have := size71; simp [e] at this
    | some i => exact ⟨i, rfl⟩
  have hs : i.size = 4 := by have := size71; simpa [hi] using this
  simp only [Instr.storeAt, Instr.sureAddr, Sem.run_bind, Sem.run_pure, Result.andThen_ok, storeVar, sizeOf, typeInfo]
  simp [hi, hs, Value.cells, h1]
  rfl
theorem JBox.row {w : World} {g dg : Nat} {j : Jn} (h : JBox w g dg j) (j' : Jn) : JBox (w.setRow g (jCells dg j')) g dg j' := setRow_heap w g _ _ _ _ h
theorem secsOf_map (lap k : Nat) (r : List UInt8) : secsOf lap k r = (partsOf lap k r).map ptS := by
  simp [secsOf, partsOf]
theorem secOf_eq (s : Sec) : secOf s.v = s := Sec.ext' (secOf_v s.h)
theorem partsOf_at {lap k : Nat} {r : List UInt8} {pre : List Pt} {x : Pt} (h : pre ++ [x] <+: partsOf lap k r) : pre.length < partsN r.length ∧ x = ptOf lap k r pre.length := by
  obtain ⟨t, ht⟩ := h
  have hl : (partsOf lap k r).length = partsN r.length := by simp [partsOf]
  have h1 : pre.length < (partsOf lap k r).length := by rw [← ht]; simp
  have h2 : (partsOf lap k r)[pre.length]? = some x := by rw [← ht]; simp
  rw [hl] at h1
  refine ⟨h1, ?_⟩
  have h3 : (partsOf lap k r)[pre.length]? = some (ptOf lap k r pre.length) := by simp [partsOf, h1]
  rw [h3] at h2
  injection h2 with h2
  exact h2.symm
set_option maxHeartbeats 8000000 in
theorem jwrite_any (base g dg lap first recs used n c : Nat) (j : Jn) (d : Dk) (r : List UInt8) (A : Option Addr) (w : World) (hj : JBox w g dg j) (hdk : DiskAt w base dg d) (hbg : base ≤ g) (hbs : base ≤ w.heap.size)
    (hn : r.length = n) (hc : n ≤ c) (hA : A = none → c = 0) (hr : n ≤ 1000000) (hroom : first + used + partsN n ≤ d.K.length) (hst : d.steps + 10000 ≤ 1000000) (hps : d.ps.length + 10000 ≤ 100000) (hrc : recs ≤ 4096)
    (hSl : ∀ w', Fr (101 :: 76 :: kD) [] base w w' → Sl eBy w' A r) :
    Calls Try.prog 39 #[.pointer (some ⟨g, 0, none⟩), .agg #[.int .i64 (lap : Int), .int .i64 (first : Int), .int .i64 (recs : Int), .int .i64 (used : Int)], .slice A n c] w (WritePost w base g dg j d lap first recs used r) := by
  refine (callsIn_wide (n := 9)).1 ?_
  have hdd : ∀ k : Nat, (Fence.wide.depth.isSome = true → 1 ≤ k) := fun k h => by cases h
  have hmx : Try.prog.follows .mixedOrders = true := by kernel_rfl
  have h47 : Fence.wide.fn 47 := trivial
  have h53 : Fence.wide.fn 53 := trivial
  have h21 : Fence.wide.fn 21 := trivial
  have h49 : Fence.wide.fn 49 := trivial
  refine callsIn_of_wp_marks Try.func39 rfl trivial ?_ rfl
  simp only [Try.ntmps39, List.size_toArray, List.length_cons, List.length_nil, Nat.reduceAdd, Nat.reduceSub, Array.replicate_succ, Array.replicate_zero, List.push_toArray, List.append_toArray, List.nil_append, List.cons_append]
  gi_wp2_with ((try refine ⟨hdd _, ?_⟩); gi_at_call 47; refine (callsIn_wide.2 (parted_any2 _ _ _ _ _ _)).mono ?_; rintro e w' ⟨rfl, rfl⟩)
  obtain ⟨b, hbx⟩ : ∃ b, b = w.heap.size := ⟨_, rfl⟩
  obtain ⟨w2, hw2⟩ : ∃ w2, w2 = (((((w.alloc (.cells #[.pointer (some ⟨g, 0, none⟩)] 29)).alloc (.cells #[.int .i64 (lap : Int), .int .i64 (first : Int), .int .i64 (recs : Int), .int .i64 (used : Int)] 71)).alloc (.cells #[.int .i64 0] 25)).alloc (.cells #[.int .i64 (lap : Int)] 3)).alloc (.cells #[.int .i64 (recs : Int)] 3)).alloc (.cells #[.slice A n c] 38) := ⟨_, rfl⟩
  rw [← hw2]
  simp only [← hbx]
  simp only [show b + 1 + 1 + 1 + 1 + 1 = b + 5 from rfl, show b + 1 + 1 + 1 + 1 = b + 4 from rfl, show b + 1 + 1 + 1 = b + 3 from rfl, show b + 1 + 1 = b + 2 from rfl]
  have b2 : Below w.heap.size w w2 := by
    rw [hw2]
    exact ((((((Below.refl _ w).alloc (Nat.le_refl _) _).alloc (by simp) _).alloc (by simp <;> omega) _).alloc (by simp <;> omega) _).alloc (by simp <;> omega) _).alloc (by simp <;> omega) _
  have x0 : w2.heap[b]? = some (.cells #[.pointer (some ⟨g, 0, none⟩)] 29 (0, 0)) := by
    rw [hw2, hbx]
    exact (heap_old _ _ (by simp <;> omega)).trans ((heap_old _ _ (by simp <;> omega)).trans ((heap_old _ _ (by simp <;> omega)).trans ((heap_old _ _ (by simp <;> omega)).trans ((heap_old _ _ (by simp <;> omega)).trans (heap_new _ _)))))
  have x1 : w2.heap[b + 1]? = some (.cells #[.int .i64 (lap : Int), .int .i64 (first : Int), .int .i64 (recs : Int), .int .i64 (used : Int)] 71 (0, 0)) := by
    have h := heap_new (w.alloc (.cells #[.pointer (some ⟨g, 0, none⟩)] 29)) (.cells #[.int .i64 (lap : Int), .int .i64 (first : Int), .int .i64 (recs : Int), .int .i64 (used : Int)] 71)
    simp only [World.size_alloc] at h
    rw [hw2, hbx]
    exact (heap_old _ _ (by simp <;> omega)).trans ((heap_old _ _ (by simp <;> omega)).trans ((heap_old _ _ (by simp <;> omega)).trans ((heap_old _ _ (by simp <;> omega)).trans h)))
  have x2 : w2.heap[b + 2]? = some (.cells #[.int .i64 0] 25 (0, 0)) := by
    have h := heap_new ((w.alloc (.cells #[.pointer (some ⟨g, 0, none⟩)] 29)).alloc (.cells #[.int .i64 (lap : Int), .int .i64 (first : Int), .int .i64 (recs : Int), .int .i64 (used : Int)] 71)) (.cells #[.int .i64 0] 25)
    simp only [World.size_alloc] at h
    rw [hw2, hbx]
    exact (heap_old _ _ (by simp <;> omega)).trans ((heap_old _ _ (by simp <;> omega)).trans ((heap_old _ _ (by simp <;> omega)).trans h))
  have x3 : w2.heap[b + 3]? = some (.cells #[.int .i64 (lap : Int)] 3 (0, 0)) := by
    have h := heap_new (((w.alloc (.cells #[.pointer (some ⟨g, 0, none⟩)] 29)).alloc (.cells #[.int .i64 (lap : Int), .int .i64 (first : Int), .int .i64 (recs : Int), .int .i64 (used : Int)] 71)).alloc (.cells #[.int .i64 0] 25)) (.cells #[.int .i64 (lap : Int)] 3)
    simp only [World.size_alloc] at h
    rw [hw2, hbx]
    exact (heap_old _ _ (by simp <;> omega)).trans ((heap_old _ _ (by simp <;> omega)).trans h)
  have x4 : w2.heap[b + 4]? = some (.cells #[.int .i64 (recs : Int)] 3 (0, 0)) := by
    have h := heap_new ((((w.alloc (.cells #[.pointer (some ⟨g, 0, none⟩)] 29)).alloc (.cells #[.int .i64 (lap : Int), .int .i64 (first : Int), .int .i64 (recs : Int), .int .i64 (used : Int)] 71)).alloc (.cells #[.int .i64 0] 25)).alloc (.cells #[.int .i64 (lap : Int)] 3)) (.cells #[.int .i64 (recs : Int)] 3)
    simp only [World.size_alloc] at h
    rw [hw2, hbx]
    exact (heap_old _ _ (by simp <;> omega)).trans h
  have x5 : w2.heap[b + 5]? = some (.cells #[.slice A n c] 38 (0, 0)) := by
    have h := heap_new (((((w.alloc (.cells #[.pointer (some ⟨g, 0, none⟩)] 29)).alloc (.cells #[.int .i64 (lap : Int), .int .i64 (first : Int), .int .i64 (recs : Int), .int .i64 (used : Int)] 71)).alloc (.cells #[.int .i64 0] 25)).alloc (.cells #[.int .i64 (lap : Int)] 3)).alloc (.cells #[.int .i64 (recs : Int)] 3)) (.cells #[.slice A n c] 38)
    simp only [World.size_alloc] at h
    rw [hw2, hbx]
    exact h
  have hI0 : WrI w w2 base b g dg j lap first recs used 0 d := ⟨x0, x1, x2, hj.below b2, hdk.below b2, Fr.of_below b2 hbs, hbx, hbs⟩
  have hbs2 : base ≤ w2.heap.size := Nat.le_trans hbs b2.size
  have hw2s : w.heap.size ≤ w2.heap.size := b2.size
  have HTL := parted_tells w2 (b + 5) (b + 3) (b + 4) base w2.heap.size n c lap recs A r [69, 86, 88, 76] [b + 1, b + 2] ⟨x5, x3, x4⟩ hn hc hA hbs2 (by decide) (by simp) hr (by
    intro W' hW'
    refine hSl W' ⟨(b2.mono hbs).trans hW'.1, fun q o hq hk _ => ?_⟩
    have hql := lt_of_heap hq
    refine hW'.2 q o ((b2.block q hql).trans hq) (.inl (by omega)) (by simp at hk ⊢; exact ⟨hk.1, hk.2.2.1, hk.2.2.2.1, hk.2.2.2.2, hk.2.1⟩) (by simp; omega))
  have HBX := Lib.hid hbx
  have HSL := Lib.hid hSl
  clear x0 x1 x2 x3 x4 x5 hw2 hSl hbx
  refine range_tells2 (gf := 53) (lb := #[.pointer (some ⟨b + 5, 0, none⟩), .pointer (some ⟨b + 3, 0, none⟩), .pointer (some ⟨b + 4, 0, none⟩)]) rfl (enters_of Try.func53 (by kernel_rfl) rfl) HTL (by decide) Kq.t (Kq.b hbs2 (Nat.le_refl _)) (Below.refl _ _)
    (fun W x vs h => by obtain ⟨_, _, rfl, _⟩ := h; rfl)
    (fun pre W => WrI w W base b g dg j lap first recs (used + pre.length) 0 (wrP d (first + used) (pre.map ptS)).1 ∧ (wrP d (first + used) (pre.map ptS)).2 = true)
    (fun cd pre W => cd = .ret ∧ (∃ u, WrI w W base b g dg { j with over := true } lap first recs u 7 (wrP d (first + used) (pre.map ptS)).1) ∧ (wrP d (first + used) (pre.map ptS)).2 = false)
    (fun s X Y row hs hg hr => ⟨WrI.own hw2s (f := fun pre : List Pt => used + pre.length) (fd := fun pre : List Pt => (wrP d (first + used) (pre.map ptS)).1) s X Y row hs.1 hg hr, hs.2⟩)
    (fun cd s X Y row hs hg hr => by obtain ⟨h1, ⟨u, h2⟩, h3⟩ := hs; exact ⟨h1, ⟨u, WrI.own hw2s (f := fun _ : List Pt => u) (fd := fun pre : List Pt => (wrP d (first + used) (pre.map ptS)).1) s X Y row h2 hg hr⟩, h3⟩)
    (fun pre W1 W2 hs hf => ⟨hs.1.fr101 hf hw2s, hs.2⟩) ⟨by simpa [wrP] using hI0, rfl⟩
    (fun x a' W => ∃ q Ax cx, Bx5 W q x.lap x.rn x.num x.of (.slice Ax x.bs.length cx) ∧ Sl eBy W Ax x.bs ∧ (Ax = none → cx = 0) ∧ a' = { tmps := #[.pointer (some ⟨g, 0, none⟩), .agg #[.int .i64 (lap : Int), .int .i64 (first : Int), .int .i64 (recs : Int), .int .i64 (used : Int)], .slice A n c, .pointer (some ⟨b, 0, none⟩), .pointer (some ⟨b + 1, 0, none⟩), undef, .pointer (some ⟨b + 2, 0, none⟩), .pointer (some ⟨q, 0, none⟩), undef, .pointer (some ⟨b + 1, 0, none⟩), .int .i64 (lap : Int), .pointer (some ⟨b + 1, 2, none⟩), .int .i64 (recs : Int), .slice A n c, .func (.func 53) #[] #[.pointer (some ⟨b + 5, 0, none⟩), .pointer (some ⟨b + 3, 0, none⟩), .pointer (some ⟨b + 4, 0, none⟩)], ptV x Ax x.bs.length cx, undef, undef, undef, undef, undef, undef, undef, undef, undef, undef, undef, undef, undef, undef, undef, undef, undef, undef, undef, undef, undef, undef, undef, undef, undef, undef, undef, undef, undef, undef, undef, undef, undef, undef, undef, undef, undef, undef, undef, undef, undef, undef, undef, undef, undef, undef], defers := [] })
    (fun x a' _ _ _ _ hs hg hr => by obtain ⟨q, A, c, h1, h2, h3⟩ := hs; exact ⟨q, A, c, cells_keep h1 hg hr, h2.keeps (keeps_grown hg hr), h3⟩) ?assign ?body ?done ?stop
  case assign =>
    rintro l pre x vs W K ⟨hi, hok⟩ ⟨Ax, cx, rfl, hsl, hA⟩ _ hK
    have bA : Below W.heap.size W (W.alloc (.cells (ptC x Ax x.bs.length cx) 101)) := Below.alloc (Below.refl _ W) (Nat.le_refl _) _
    have HK := Lib.hid (hK _ _ (keeps_below bA) (Kq.below bA (Nat.le_trans hbs hi.fr.size)) ⟨hi.below bA, hok⟩ ⟨W.heap.size, Ax, cx, heap_new _ _, hsl.below (Nat.le_refl _) bA, hA, rfl⟩)
    clear hK hi
    dsimp only at HK
    go_simp
    refine wpIn_region_lit (wpListIn_value rfl rfl (fun _ h => by cases h) (exec_alloc rfl (run_alloc101 _)) (wpListIn_unit rfl rfl (fun _ h => by cases h) (exec_store rfl rfl rfl (store101new _ _ rfl x Ax _ cx)) (wpListIn_nil ?_)))
    exact HK.out
  case body =>
    rintro l pre x a' W ⟨hi, hok⟩ ⟨q, Ax, cx, hq, hsl, hAx, rfl⟩ hpre
    dsimp only
    obtain ⟨hpl, hx⟩ := partsOf_at hpre
    have h47x : x.bs.length ≤ 47 := by rw [hx]; exact ptOf_len _ _ _ _
    have hxr : x.rn = (recs : Int) := by rw [hx]; rfl
    obtain ⟨u, hu⟩ : ∃ u, u = used + pre.length := ⟨_, rfl⟩
    obtain ⟨dc, hdc⟩ : ∃ dc, dc = (wrP d (first + used) (pre.map ptS)).1 := ⟨_, rfl⟩
    have hle := wrP_le d (first + used) (pre.map ptS)
    have hK := wrP_K d (first + used) (pre.map ptS)
    rw [← hdc] at hle hK
    simp only [List.length_map] at hle
    have hpn : partsN n ≤ 4096 := by have := hdk.good.len; omega
    rw [hn] at hpl
    rw [← hu, ← hdc] at hi
    have CS := Lib.hid (sector_any x recs Ax x.bs.length cx W rfl hxr h47x hsl hAx)
    obtain ⟨s, hs⟩ : ∃ s, s = ptS x := ⟨_, rfl⟩
    rw [← hs] at CS
    have hfst : wrP d (first + used) ((pre ++ [x]).map ptS) = if stepB dc then (putD dc (first + u) s, true) else (stepD dc, false) := by
      rw [List.map_append, wrP_append, hok, if_pos rfl, ← hdc]
      simp only [List.map_cons, List.map_nil, wrP, List.length_map, ← hs, show first + used + pre.length = first + u by omega]
    have HFST := Lib.hid hfst
    have HI := Lib.hid hi
    have HMS : Hid (∀ m ∈ [b + 1, b + 2], ∃ cs t fr, W.heap[m]? = some (.cells cs t fr)) := by
      intro m hm
      simp at hm
      rcases hm with rfl | rfl
      · exact ⟨_, _, _, hi.br⟩
      · exact ⟨_, _, _, hi.be⟩
    have c0 := hq.c0
    have c1 := hq.c1
    have c2 := hq.c2
    have c3 := hq.c3
    have c4 := hq.c4
    have hpos : first + u < dc.K.length := by rw [hK]; omega
    have hste : dc.steps ≤ 1000000 := by omega
    have hpse : dc.ps.length ≤ 100000 := by omega
    have h48 : Fence.wide.fn 48 := trivial
    obtain ⟨nb, hnb⟩ : ∃ nb, nb = x.bs.length := ⟨_, rfl⟩
    rw [← hnb] at c4 CS ⊢
    have HU := Lib.hid hu
    have HPRE := Lib.hid (show used + (pre ++ [x]).length = u + 1 by simp; omega)
    clear hpre hpl hx h47x hxr hu hdc hle hK hpn hn hi hok hs hfst hq hsl hAx hnb HTL hI0
    dsimp only [ptV, ptC] at CS
    gi_wp2_with (first
      | ((try refine ⟨hdd _, ?_⟩); gi_at_call 48; refine (callsIn_wide.2 CS.out).mono ?_; rintro e wa ⟨rfl, ba⟩)
      | (refine wpListIn_value rfl rfl (fun _ h => by cases h) (exec_alloc rfl (run_alloc89 _)) ?_; refine wpListIn_unit rfl rfl (fun _ h => by cases h) (exec_store rfl rfl rfl (store89new _ _ s)) ?_))
    try simp only [Act.put, List.setIfInBounds_toArray, List.set_cons_zero, List.set_cons_succ]
    have b3 : Below W.heap.size W (wa.alloc (.cells (eSec.f s).toArray 89)) := ba.alloc ba.size _
    have HI3 := Lib.hid (HI.out.below b3)
    have hby : By (wa.alloc (.cells (eSec.f s).toArray 89)).drew wa.heap.size 89 s.v := (by_new wa s 89).below (Below.refl _ _).drew
    have HF3 : Hid (Fr (76 :: kD) [b + 1, b + 2] base W (wa.alloc (.cells (eSec.f s).toArray 89)).drew) := Fr.of_below b3.drew (Nat.le_trans hbs HI.out.fr.size)
    have hsl4 : ∀ w', Fr kD [] base (wa.alloc (.cells (eSec.f s).toArray 89)).drew w' → Sl eBy w' (some ⟨wa.heap.size, 0, none⟩) s.v := by
      intro w' hf
      have h1 := (hby.fr hf (by simp) (by simp)).sl (by rw [s.h]; unfold maxLen; omega) 0 64
      rw [List.drop_zero, List.take_of_length_le (by rw [s.h]; decide)] at h1
      exact h1
    have hdk3 := (HI3.out.below (Below.refl _ _).drew).dk
    have CW0 := write_any base dg dc ((first : Int) + (u : Int)) s.v (some ⟨wa.heap.size, 0, none⟩) 64 64 _ hdk3 hste hpse s.h (Nat.le_trans hbs ((HI3.out.below (Below.refl _ _).drew).fr.size)) hsl4
    have hfit : fits dc ((first : Int) + (u : Int)) s.v.length = true := by
      unfold fits
      rw [s.h]
      simp
      omega
    have HB0 : Hid ((wa.alloc (.cells (eSec.f s).toArray 89)).drew.heap[b]? = some (.cells #[.pointer (some ⟨g, 0, none⟩)] 29 (0, 0)) ∧ (wa.alloc (.cells (eSec.f s).toArray 89)).drew.heap[b + 1]? = some (.cells #[.int .i64 (lap : Int), .int .i64 (first : Int), .int .i64 (recs : Int), .int .i64 (u : Int)] 71 (0, 0)) ∧ JBox (wa.alloc (.cells (eSec.f s).toArray 89)).drew g dg j) :=
      ⟨HI3.out.bj, HI3.out.br, HI3.out.jb⟩
    have hHeld := HB0.out
    have hfu : IntKind.i64.wrap ((first : Int) + (u : Int)) = (first : Int) + (u : Int) := IntWalk.i64_in _ (by have := HI.out.dk.good.len; omega)
    have hfuu : (u : Int) ≤ 100000 := by have := HI.out.dk.good.len; omega
    clear b3 hby hsl4 hdk3 c0 c1 c2 c3 c4 ba
    cases hsb : stepB dc with
    | true =>
      have eW : writeD dc ((first : Int) + (u : Int)) s.v = putD dc (first + u) s := by
        unfold writeD
        rw [hfit, hsb, if_pos rfl, if_pos rfl, secOf_eq]
        congr 1
      have eR : writeR dc ((first : Int) + (u : Int)) s.v = 0 := by
        unfold writeR
        rw [hfit, hsb, if_pos rfl, if_pos rfl]
      rw [eW, eR] at CW0
      have CW := Lib.hid CW0
      have HST := Lib.hid hsb
      clear CW0 hsb eW eR hfit
      refine region_round rfl hmx (by kernel_rfl) (any_wide (by kernel_rfl) ?_ _ _ _ _ (wpAny_of_held (S := fun w' => w'.heap[b]? = some (.cells #[.pointer (some ⟨g, 0, none⟩)] 29 (0, 0)) ∧ w'.heap[b + 1]? = some (.cells #[.int .i64 (lap : Int), .int .i64 (first : Int), .int .i64 (recs : Int), .int .i64 (u : Int)] 71 (0, 0)) ∧ JBox w' g dg j) _ _ _ _ ?_))
      · rintro ⟨_, _, h⟩
        exact h
      refine wpAnyH_take (i := 0) (oi := { dst := some 18, op := Op.load 29 (Operand.tmp 3), type := 29, pos := "journal.go:95", after := #[], guard := none }) (v := ?v4tn1) rfl (by kernel_rfl) (by kernel_rfl) (by kernel_rfl) (fun _ _ _ h => h) (Or.inl ⟨by rfl, ?hy4tn1⟩) (by assumption) ?rest4tn1
      case hy4tn1 => (intro w hSw; (try dsimp only at hSw); have q0 := one_cell hSw.1; have q1 := cell_of (o := 1) hSw.2.1; have q3 := cell_of (o := 3) hSw.2.1; have q5 := hSw.2.2.c0; go_simp <;> (try with_reducible rfl))
      try simp only [Act.put, List.setIfInBounds_toArray, List.set_cons_zero, List.set_cons_succ]
      refine wpAnyH_take (i := 1) (oi := { dst := some 19, op := Op.nilCheck (Operand.tmp 18), type := 0, pos := "journal.go:95", after := #[{ on := 0, ground := Ground.data }], guard := none }) (v := ?v4tn2) rfl (by kernel_rfl) (by kernel_rfl) (by kernel_rfl) (fun _ _ _ h => h) (Or.inl ⟨by rfl, ?hy4tn2⟩) (by assumption) ?rest4tn2
      case hy4tn2 => (intro w hSw; (try dsimp only at hSw); have q0 := one_cell hSw.1; have q1 := cell_of (o := 1) hSw.2.1; have q3 := cell_of (o := 3) hSw.2.1; have q5 := hSw.2.2.c0; go_simp <;> (try with_reducible rfl))
      try simp only [Act.put, List.setIfInBounds_toArray, List.set_cons_zero, List.set_cons_succ]
      refine wpAnyH_take (i := 2) (oi := { dst := some 20, op := Op.fieldAddr 76 (Operand.tmp 19) 0, type := 0, pos := "journal.go:95", after := #[{ on := 1, ground := Ground.data }], guard := none }) (v := ?v4tn3) rfl (by kernel_rfl) (by kernel_rfl) (by kernel_rfl) (fun _ _ _ h => h) (Or.inl ⟨by rfl, ?hy4tn3⟩) (by assumption) ?rest4tn3
      case hy4tn3 => (intro w hSw; (try dsimp only at hSw); have q0 := one_cell hSw.1; have q1 := cell_of (o := 1) hSw.2.1; have q3 := cell_of (o := 3) hSw.2.1; have q5 := hSw.2.2.c0; go_simp <;> (try with_reducible rfl))
      try simp only [Act.put, List.setIfInBounds_toArray, List.set_cons_zero, List.set_cons_succ]
      refine wpAnyH_take (i := 3) (oi := { dst := some 21, op := Op.load 24 (Operand.tmp 20), type := 24, pos := "journal.go:95", after := #[{ on := 2, ground := Ground.data }], guard := none }) (v := ?v4tn4) rfl (by kernel_rfl) (by kernel_rfl) (by kernel_rfl) (fun _ _ _ h => h) (Or.inl ⟨by rfl, ?hy4tn4⟩) (by assumption) ?rest4tn4
      case hy4tn4 => (intro w hSw; (try dsimp only at hSw); have q0 := one_cell hSw.1; have q1 := cell_of (o := 1) hSw.2.1; have q3 := cell_of (o := 3) hSw.2.1; have q5 := hSw.2.2.c0; go_simp <;> (try with_reducible rfl))
      try simp only [Act.put, List.setIfInBounds_toArray, List.set_cons_zero, List.set_cons_succ]
      refine wpAnyH_take (i := 4) (oi := { dst := some 22, op := Op.fieldAddr 71 (Operand.tmp 4) 1, type := 0, pos := "journal.go:95", after := #[], guard := none }) (v := ?v4tn5) rfl (by kernel_rfl) (by kernel_rfl) (by kernel_rfl) (fun _ _ _ h => h) (Or.inl ⟨by rfl, ?hy4tn5⟩) (by assumption) ?rest4tn5
      case hy4tn5 => (intro w hSw; (try dsimp only at hSw); have q0 := one_cell hSw.1; have q1 := cell_of (o := 1) hSw.2.1; have q3 := cell_of (o := 3) hSw.2.1; have q5 := hSw.2.2.c0; go_simp <;> (try with_reducible rfl))
      try simp only [Act.put, List.setIfInBounds_toArray, List.set_cons_zero, List.set_cons_succ]
      refine wpAnyH_take (i := 5) (oi := { dst := some 23, op := Op.load 3 (Operand.tmp 22), type := 3, pos := "journal.go:95", after := #[{ on := 4, ground := Ground.data }], guard := none }) (v := ?v4tn6) rfl (by kernel_rfl) (by kernel_rfl) (by kernel_rfl) (fun _ _ _ h => h) (Or.inl ⟨by rfl, ?hy4tn6⟩) (by assumption) ?rest4tn6
      case hy4tn6 => (intro w hSw; (try dsimp only at hSw); have q0 := one_cell hSw.1; have q1 := cell_of (o := 1) hSw.2.1; have q3 := cell_of (o := 3) hSw.2.1; have q5 := hSw.2.2.c0; go_simp <;> (try with_reducible rfl))
      try simp only [Act.put, List.setIfInBounds_toArray, List.set_cons_zero, List.set_cons_succ]
      refine wpAnyH_take (i := 6) (oi := { dst := some 24, op := Op.fieldAddr 71 (Operand.tmp 4) 3, type := 0, pos := "journal.go:95", after := #[], guard := none }) (v := ?v4tn7) rfl (by kernel_rfl) (by kernel_rfl) (by kernel_rfl) (fun _ _ _ h => h) (Or.inl ⟨by rfl, ?hy4tn7⟩) (by assumption) ?rest4tn7
      case hy4tn7 => (intro w hSw; (try dsimp only at hSw); have q0 := one_cell hSw.1; have q1 := cell_of (o := 1) hSw.2.1; have q3 := cell_of (o := 3) hSw.2.1; have q5 := hSw.2.2.c0; go_simp <;> (try with_reducible rfl))
      try simp only [Act.put, List.setIfInBounds_toArray, List.set_cons_zero, List.set_cons_succ]
      refine wpAnyH_take (i := 7) (oi := { dst := some 25, op := Op.load 3 (Operand.tmp 24), type := 3, pos := "journal.go:95", after := #[{ on := 6, ground := Ground.data }], guard := none }) (v := ?v4tn8) rfl (by kernel_rfl) (by kernel_rfl) (by kernel_rfl) (fun _ _ _ h => h) (Or.inl ⟨by rfl, ?hy4tn8⟩) (by assumption) ?rest4tn8
      case hy4tn8 => (intro w hSw; (try dsimp only at hSw); have q0 := one_cell hSw.1; have q1 := cell_of (o := 1) hSw.2.1; have q3 := cell_of (o := 3) hSw.2.1; have q5 := hSw.2.2.c0; go_simp <;> (try with_reducible rfl))
      try simp only [Act.put, List.setIfInBounds_toArray, List.set_cons_zero, List.set_cons_succ]
      refine wpAnyH_take (i := 8) (oi := { dst := some 26, op := Op.binOp BinOp.add 3 (Operand.tmp 23) (Operand.tmp 25) 3, type := 3, pos := "journal.go:95", after := #[{ on := 5, ground := Ground.data }, { on := 7, ground := Ground.data }], guard := none }) (v := ?v4tn9) rfl (by kernel_rfl) (by kernel_rfl) (by kernel_rfl) (fun _ _ _ h => h) (Or.inl ⟨by rfl, ?hy4tn9⟩) (by assumption) ?rest4tn9
      case hy4tn9 => (intro w hSw; (try dsimp only at hSw); have q0 := one_cell hSw.1; have q1 := cell_of (o := 1) hSw.2.1; have q3 := cell_of (o := 3) hSw.2.1; have q5 := hSw.2.2.c0; go_simp <;> (try with_reducible rfl))
      try simp only [Act.put, List.setIfInBounds_toArray, List.set_cons_zero, List.set_cons_succ]
      refine wpAnyH_take (i := 9) (oi := { dst := some 27, op := Op.slice 89 (Operand.tmp 8) none none none, type := 38, pos := "journal.go:95", after := #[], guard := none }) (v := ?v4tn10) rfl (by kernel_rfl) (by kernel_rfl) (by kernel_rfl) (fun _ _ _ h => h) (Or.inl ⟨by rfl, ?hy4tn10⟩) (by assumption) ?rest4tn10
      case hy4tn10 => (intro w hSw; (try dsimp only at hSw); have q0 := one_cell hSw.1; have q1 := cell_of (o := 1) hSw.2.1; have q3 := cell_of (o := 3) hSw.2.1; have q5 := hSw.2.2.c0; go_simp <;> (try with_reducible rfl))
      try simp only [Act.put, List.setIfInBounds_toArray, List.set_cons_zero, List.set_cons_succ]
      refine wpAnyH_ready (rs := [10]) (by kernel_rfl) (by simp) ?_
      refine AllReadyH.cons (o := { dst := some 28, op := Op.call { callee := Callee.value (Operand.func 20), args := #[Operand.tmp 21, Operand.tmp 26, Operand.tmp 27], argTypes := #[24, 3, 38] }, type := 25, pos := "journal.go:95", after := #[{ on := 3, ground := Ground.data }, { on := 8, ground := Ground.data }, { on := 9, ground := Ground.data }], guard := none }) rfl (fun K hK => ?_) AllReadyH.nil
      go_simp
      refine CW.out.mono ?_
      rintro e wb ⟨rfl, hdb, hfb⟩
      have HI4 := Lib.hid ((HI3.out.below (Below.refl _ _).drew).disk hfb hdb)
      have HF4 := Lib.hid hfb
      clear hdb hfb
      dsimp only
      refine hK.out _ _ (⟨HI4.out.bj, HI4.out.br, HI4.out.jb⟩) (fun hHeld => ?_)
      clear hK K
      try simp only [Act.put, List.setIfInBounds_toArray, List.set_cons_zero, List.set_cons_succ]
      refine wpAnyH_take (i := 11) (oi := { dst := some 29, op := Op.binOp BinOp.neq 25 (Operand.tmp 28) (Operand.const (Value.int IntKind.i64 0)) 25, type := 4, pos := "journal.go:95", after := #[{ on := 10, ground := Ground.data }], guard := none }) (v := ?v4tn11) rfl (by kernel_rfl) (by kernel_rfl) (by kernel_rfl) (fun _ _ _ h => h) (Or.inl ⟨by rfl, ?hy4tn11⟩) (by assumption) ?rest4tn11
      case hy4tn11 => (intro w hSw; (try dsimp only at hSw); have q0 := one_cell hSw.1; have q1 := cell_of (o := 1) hSw.2.1; have q3 := cell_of (o := 3) hSw.2.1; have q5 := hSw.2.2.c0; go_simp <;> (try with_reducible rfl))
      try simp only [Act.put, List.setIfInBounds_toArray, List.set_cons_zero, List.set_cons_succ]
      refine wpAnyH_done (by kernel_rfl) ?_ _
      have q3 := cell_of (o := 3) HI4.out.br
      have f3 : wb.frozen? ⟨b + 1, 3, none⟩ = false := by simp [World.frozen?, HI4.out.br]
      have hfr : Fr (76 :: kD) [b + 1, b + 2] base W (wb.setCell ⟨b + 1, 3, none⟩ (.int .i64 ((u : Int) + 1))) := (HF3.out.trans (HF4.out.mono (by simp) (by simp))).set HI4.out.br (.inr (by simp)) (by have := HBX.out; omega) _
      have HE : Hid (KeepsFrom w2.heap.size W (wb.setCell ⟨b + 1, 3, none⟩ (.int .i64 ((u : Int) + 1))) ∧ Kq [69, 86, 88, 76] [b + 1, b + 2] base w2.heap.size W (wb.setCell ⟨b + 1, 3, none⟩ (.int .i64 ((u : Int) + 1))) ∧
          (WrI w (wb.setCell ⟨b + 1, 3, none⟩ (.int .i64 ((u : Int) + 1))) base b g dg j lap first recs (used + (pre ++ [x]).length) 0 (wrP d (first + used) ((pre ++ [x]).map ptS)).1 ∧ (wrP d (first + used) ((pre ++ [x]).map ptS)).2 = true)) := by
        refine ⟨keepsFrom_fr hfr (by decide) (by decide) HMS.out, Kq.of_fr (hfr.mono (by simp) (by simp)), ?_, ?_⟩
        · rw [HPRE.out, HFST.out, HST.out]
          exact HI4.out.setU (u + 1)
        · rw [HFST.out, HST.out]
          rfl
      clear hfr
      gi_wp2
      exact HE.out
    | false =>
      have eW : writeD dc ((first : Int) + (u : Int)) s.v = stepD dc := by
        unfold writeD
        rw [hfit, hsb, if_pos rfl]
        simp
      have eR : writeR dc ((first : Int) + (u : Int)) s.v = 7 := by
        unfold writeR
        rw [hfit, hsb, if_pos rfl]
        simp
      rw [eW, eR] at CW0
      have CW := Lib.hid CW0
      have HST := Lib.hid hsb
      clear CW0 hsb eW eR hfit
      refine region_round rfl hmx (by kernel_rfl) (any_wide (by kernel_rfl) ?_ _ _ _ _ (wpAny_of_held (S := fun w' => w'.heap[b]? = some (.cells #[.pointer (some ⟨g, 0, none⟩)] 29 (0, 0)) ∧ w'.heap[b + 1]? = some (.cells #[.int .i64 (lap : Int), .int .i64 (first : Int), .int .i64 (recs : Int), .int .i64 (u : Int)] 71 (0, 0)) ∧ JBox w' g dg j) _ _ _ _ ?_))
      · rintro ⟨_, _, h⟩
        exact h
      refine wpAnyH_take (i := 0) (oi := { dst := some 18, op := Op.load 29 (Operand.tmp 3), type := 29, pos := "journal.go:95", after := #[], guard := none }) (v := ?v4fn1) rfl (by kernel_rfl) (by kernel_rfl) (by kernel_rfl) (fun _ _ _ h => h) (Or.inl ⟨by rfl, ?hy4fn1⟩) (by assumption) ?rest4fn1
      case hy4fn1 => (intro w hSw; (try dsimp only at hSw); have q0 := one_cell hSw.1; have q1 := cell_of (o := 1) hSw.2.1; have q3 := cell_of (o := 3) hSw.2.1; have q5 := hSw.2.2.c0; go_simp <;> (try with_reducible rfl))
      try simp only [Act.put, List.setIfInBounds_toArray, List.set_cons_zero, List.set_cons_succ]
      refine wpAnyH_take (i := 1) (oi := { dst := some 19, op := Op.nilCheck (Operand.tmp 18), type := 0, pos := "journal.go:95", after := #[{ on := 0, ground := Ground.data }], guard := none }) (v := ?v4fn2) rfl (by kernel_rfl) (by kernel_rfl) (by kernel_rfl) (fun _ _ _ h => h) (Or.inl ⟨by rfl, ?hy4fn2⟩) (by assumption) ?rest4fn2
      case hy4fn2 => (intro w hSw; (try dsimp only at hSw); have q0 := one_cell hSw.1; have q1 := cell_of (o := 1) hSw.2.1; have q3 := cell_of (o := 3) hSw.2.1; have q5 := hSw.2.2.c0; go_simp <;> (try with_reducible rfl))
      try simp only [Act.put, List.setIfInBounds_toArray, List.set_cons_zero, List.set_cons_succ]
      refine wpAnyH_take (i := 2) (oi := { dst := some 20, op := Op.fieldAddr 76 (Operand.tmp 19) 0, type := 0, pos := "journal.go:95", after := #[{ on := 1, ground := Ground.data }], guard := none }) (v := ?v4fn3) rfl (by kernel_rfl) (by kernel_rfl) (by kernel_rfl) (fun _ _ _ h => h) (Or.inl ⟨by rfl, ?hy4fn3⟩) (by assumption) ?rest4fn3
      case hy4fn3 => (intro w hSw; (try dsimp only at hSw); have q0 := one_cell hSw.1; have q1 := cell_of (o := 1) hSw.2.1; have q3 := cell_of (o := 3) hSw.2.1; have q5 := hSw.2.2.c0; go_simp <;> (try with_reducible rfl))
      try simp only [Act.put, List.setIfInBounds_toArray, List.set_cons_zero, List.set_cons_succ]
      refine wpAnyH_take (i := 3) (oi := { dst := some 21, op := Op.load 24 (Operand.tmp 20), type := 24, pos := "journal.go:95", after := #[{ on := 2, ground := Ground.data }], guard := none }) (v := ?v4fn4) rfl (by kernel_rfl) (by kernel_rfl) (by kernel_rfl) (fun _ _ _ h => h) (Or.inl ⟨by rfl, ?hy4fn4⟩) (by assumption) ?rest4fn4
      case hy4fn4 => (intro w hSw; (try dsimp only at hSw); have q0 := one_cell hSw.1; have q1 := cell_of (o := 1) hSw.2.1; have q3 := cell_of (o := 3) hSw.2.1; have q5 := hSw.2.2.c0; go_simp <;> (try with_reducible rfl))
      try simp only [Act.put, List.setIfInBounds_toArray, List.set_cons_zero, List.set_cons_succ]
      refine wpAnyH_take (i := 4) (oi := { dst := some 22, op := Op.fieldAddr 71 (Operand.tmp 4) 1, type := 0, pos := "journal.go:95", after := #[], guard := none }) (v := ?v4fn5) rfl (by kernel_rfl) (by kernel_rfl) (by kernel_rfl) (fun _ _ _ h => h) (Or.inl ⟨by rfl, ?hy4fn5⟩) (by assumption) ?rest4fn5
      case hy4fn5 => (intro w hSw; (try dsimp only at hSw); have q0 := one_cell hSw.1; have q1 := cell_of (o := 1) hSw.2.1; have q3 := cell_of (o := 3) hSw.2.1; have q5 := hSw.2.2.c0; go_simp <;> (try with_reducible rfl))
      try simp only [Act.put, List.setIfInBounds_toArray, List.set_cons_zero, List.set_cons_succ]
      refine wpAnyH_take (i := 5) (oi := { dst := some 23, op := Op.load 3 (Operand.tmp 22), type := 3, pos := "journal.go:95", after := #[{ on := 4, ground := Ground.data }], guard := none }) (v := ?v4fn6) rfl (by kernel_rfl) (by kernel_rfl) (by kernel_rfl) (fun _ _ _ h => h) (Or.inl ⟨by rfl, ?hy4fn6⟩) (by assumption) ?rest4fn6
      case hy4fn6 => (intro w hSw; (try dsimp only at hSw); have q0 := one_cell hSw.1; have q1 := cell_of (o := 1) hSw.2.1; have q3 := cell_of (o := 3) hSw.2.1; have q5 := hSw.2.2.c0; go_simp <;> (try with_reducible rfl))
      try simp only [Act.put, List.setIfInBounds_toArray, List.set_cons_zero, List.set_cons_succ]
      refine wpAnyH_take (i := 6) (oi := { dst := some 24, op := Op.fieldAddr 71 (Operand.tmp 4) 3, type := 0, pos := "journal.go:95", after := #[], guard := none }) (v := ?v4fn7) rfl (by kernel_rfl) (by kernel_rfl) (by kernel_rfl) (fun _ _ _ h => h) (Or.inl ⟨by rfl, ?hy4fn7⟩) (by assumption) ?rest4fn7
      case hy4fn7 => (intro w hSw; (try dsimp only at hSw); have q0 := one_cell hSw.1; have q1 := cell_of (o := 1) hSw.2.1; have q3 := cell_of (o := 3) hSw.2.1; have q5 := hSw.2.2.c0; go_simp <;> (try with_reducible rfl))
      try simp only [Act.put, List.setIfInBounds_toArray, List.set_cons_zero, List.set_cons_succ]
      refine wpAnyH_take (i := 7) (oi := { dst := some 25, op := Op.load 3 (Operand.tmp 24), type := 3, pos := "journal.go:95", after := #[{ on := 6, ground := Ground.data }], guard := none }) (v := ?v4fn8) rfl (by kernel_rfl) (by kernel_rfl) (by kernel_rfl) (fun _ _ _ h => h) (Or.inl ⟨by rfl, ?hy4fn8⟩) (by assumption) ?rest4fn8
      case hy4fn8 => (intro w hSw; (try dsimp only at hSw); have q0 := one_cell hSw.1; have q1 := cell_of (o := 1) hSw.2.1; have q3 := cell_of (o := 3) hSw.2.1; have q5 := hSw.2.2.c0; go_simp <;> (try with_reducible rfl))
      try simp only [Act.put, List.setIfInBounds_toArray, List.set_cons_zero, List.set_cons_succ]
      refine wpAnyH_take (i := 8) (oi := { dst := some 26, op := Op.binOp BinOp.add 3 (Operand.tmp 23) (Operand.tmp 25) 3, type := 3, pos := "journal.go:95", after := #[{ on := 5, ground := Ground.data }, { on := 7, ground := Ground.data }], guard := none }) (v := ?v4fn9) rfl (by kernel_rfl) (by kernel_rfl) (by kernel_rfl) (fun _ _ _ h => h) (Or.inl ⟨by rfl, ?hy4fn9⟩) (by assumption) ?rest4fn9
      case hy4fn9 => (intro w hSw; (try dsimp only at hSw); have q0 := one_cell hSw.1; have q1 := cell_of (o := 1) hSw.2.1; have q3 := cell_of (o := 3) hSw.2.1; have q5 := hSw.2.2.c0; go_simp <;> (try with_reducible rfl))
      try simp only [Act.put, List.setIfInBounds_toArray, List.set_cons_zero, List.set_cons_succ]
      refine wpAnyH_take (i := 9) (oi := { dst := some 27, op := Op.slice 89 (Operand.tmp 8) none none none, type := 38, pos := "journal.go:95", after := #[], guard := none }) (v := ?v4fn10) rfl (by kernel_rfl) (by kernel_rfl) (by kernel_rfl) (fun _ _ _ h => h) (Or.inl ⟨by rfl, ?hy4fn10⟩) (by assumption) ?rest4fn10
      case hy4fn10 => (intro w hSw; (try dsimp only at hSw); have q0 := one_cell hSw.1; have q1 := cell_of (o := 1) hSw.2.1; have q3 := cell_of (o := 3) hSw.2.1; have q5 := hSw.2.2.c0; go_simp <;> (try with_reducible rfl))
      try simp only [Act.put, List.setIfInBounds_toArray, List.set_cons_zero, List.set_cons_succ]
      refine wpAnyH_ready (rs := [10]) (by kernel_rfl) (by simp) ?_
      refine AllReadyH.cons (o := { dst := some 28, op := Op.call { callee := Callee.value (Operand.func 20), args := #[Operand.tmp 21, Operand.tmp 26, Operand.tmp 27], argTypes := #[24, 3, 38] }, type := 25, pos := "journal.go:95", after := #[{ on := 3, ground := Ground.data }, { on := 8, ground := Ground.data }, { on := 9, ground := Ground.data }], guard := none }) rfl (fun K hK => ?_) AllReadyH.nil
      go_simp
      refine CW.out.mono ?_
      rintro e wb ⟨rfl, hdb, hfb⟩
      have HI4 := Lib.hid ((HI3.out.below (Below.refl _ _).drew).disk hfb hdb)
      have HF4 := Lib.hid hfb
      clear hdb hfb
      dsimp only
      refine hK.out _ _ (⟨HI4.out.bj, HI4.out.br, HI4.out.jb⟩) (fun hHeld => ?_)
      clear hK K
      try simp only [Act.put, List.setIfInBounds_toArray, List.set_cons_zero, List.set_cons_succ]
      refine wpAnyH_take (i := 11) (oi := { dst := some 29, op := Op.binOp BinOp.neq 25 (Operand.tmp 28) (Operand.const (Value.int IntKind.i64 0)) 25, type := 4, pos := "journal.go:95", after := #[{ on := 10, ground := Ground.data }], guard := none }) (v := ?v4fn11) rfl (by kernel_rfl) (by kernel_rfl) (by kernel_rfl) (fun _ _ _ h => h) (Or.inl ⟨by rfl, ?hy4fn11⟩) (by assumption) ?rest4fn11
      case hy4fn11 => (intro w hSw; (try dsimp only at hSw); have q0 := one_cell hSw.1; have q1 := cell_of (o := 1) hSw.2.1; have q3 := cell_of (o := 3) hSw.2.1; have q5 := hSw.2.2.c0; go_simp <;> (try with_reducible rfl))
      try simp only [Act.put, List.setIfInBounds_toArray, List.set_cons_zero, List.set_cons_succ]
      refine wpAnyH_done (by kernel_rfl) ?_ _
      have q0 := one_cell HI4.out.bj
      have CE := Lib.hid (end_any g dg base j wb HI4.out.jb hbg)
      gi_wp2_with ((try refine ⟨hdd _, ?_⟩); gi_at_call 49; refine (callsIn_wide.2 CE.out).mono ?_; rintro e wc ⟨rfl, hje, hfe⟩; have HI5 := Lib.hid (HI4.out.own76 hfe hje); have HF5 := Lib.hid (hfe.toKind HI4.out.jb); have p0 := one_cell HI5.out.be; have pf : wc.frozen? ⟨b + 2, 0, none⟩ = false := by simp [World.frozen?, HI5.out.be])
      have hfr : Fr (76 :: kD) [b + 1, b + 2] base W (wc.setCell ⟨b + 2, 0, none⟩ (.int .i64 7)) := ((HF3.out.trans (HF4.out.mono (by simp) (by simp))).trans (HF5.out.mono (by simp [kd]) (by simp))).set HI5.out.be (.inr (by simp)) (by have := HBX.out; omega) _
      refine ⟨keepsFrom_fr hfr (by decide) (by decide) HMS.out, rfl, ⟨u, ?_⟩, ?_⟩
      · rw [HFST.out, HST.out]
        exact HI5.out.err 7
      · rw [HFST.out, HST.out]
        rfl
  case done =>
    rintro D W hD ⟨hi, hok⟩ hK
    obtain ⟨d', hd'⟩ : ∃ d', d' = (wrP d (first + used) ((partsOf lap recs r).map ptS)).1 := ⟨_, rfl⟩
    have hpl : (partsOf lap recs r).length = partsN n := by simp [partsOf, hn]
    rw [← hd', hpl] at hi
    have hle := wrP_le d (first + used) ((partsOf lap recs r).map ptS)
    rw [← hd', List.length_map, hpl] at hle
    have hpn : partsN n ≤ 4096 := by have := hdk.good.len; omega
    have CSY := sync_any base dg d' W hi.dk (by omega)
    have hwr : wrP d (first + used) (secsOf lap recs r) = (d', true) := by rw [secsOf_map, hd', ← hok]
    have HWA : Hid (wrA d (first + used) (secsOf lap recs r) = if stepB d' then (keepD d', true) else (stepD d', false)) := by
      show _ = _
      unfold wrA
      rw [hwr]
      rfl
    have q0 := one_cell hi.bj
    have c0 := hi.jb.c0
    have HI := Lib.hid hi
    have HDN : Hid (D ≠ b ∧ D ≠ b + 1 ∧ D ≠ b + 2 ∧ w.heap.size ≤ D) := by
      refine ⟨fun h => ?_, fun h => ?_, fun h => ?_, Nat.le_trans hw2s hD⟩
      · subst h; rw [hi.bj] at hK; cases hK
      · subst h; rw [hi.br] at hK; cases hK
      · subst h; rw [hi.be] at hK; cases hK
    have HKD := Lib.hid hK
    have HNN := Lib.hid hn
    have HFI : Hid (∀ (W' : World) (j' : Jn) (rc us : Nat) (e : Int) (d2 : Dk), WrI w W' base b g dg j' lap first rc us e d2 → W'.heap[D]? = some (.deferred (some [])) → WrI w (W'.putObj D (.deferred none)) base b g dg j' lap first rc us e d2) := by
      intro W' j' rc us e d2 h1 h2
      exact WrI.own (hw2s) (f := fun _ : Unit => us) (fd := fun _ : Unit => d2) () W' _ (some D) h1 (grownBy_putObj' W' D _) (fun r er => by cases er; exact ⟨hD, _, h2, rfl⟩)
    clear hi hok hd' hpl hle hpn hwr hK HTL hI0 hn
    cases hsb : stepB d' with
    | false =>
      rw [hsb] at CSY
      simp only [Bool.false_eq_true, if_false] at CSY
      have HSB := Lib.hid hsb
      have CS := Lib.hid CSY
      clear CSY hsb
      gi_wp2_with (first
        | ((try refine ⟨hdd _, ?_⟩); gi_at_call 21; refine (callsIn_wide.2 CS.out).mono ?_; rintro e wb ⟨rfl, hdb, hfb⟩; have HI4 := Lib.hid (HI.out.disk hfb hdb); have HK4 := Lib.hid (hfb.keep D _ HKD.out (by simp [kd]) (by simp)); have p1 := one_cell HI4.out.bj; have CE := Lib.hid (end_any g dg base j wb HI4.out.jb hbg))
        | ((try refine ⟨hdd _, ?_⟩); gi_at_call 49; refine (callsIn_wide.2 CE.out).mono ?_; rintro e wc ⟨rfl, hje, hfe⟩; have HI5 := Lib.hid (HI4.out.own76 hfe hje); have HK5 := Lib.hid ((hfe.toKind HI4.out.jb).keep D _ HK4.out (by simp [kd]) (by simp)); have p0 := one_cell HI5.out.be; have pf : wc.frozen? ⟨b + 2, 0, none⟩ = false := by simp [World.frozen?, HI5.out.be]))
      have hk6 : (wc.setCell ⟨b + 2, 0, none⟩ (.int .i64 7)).heap[D]? = some (.deferred (some [])) := by
        rw [Below.heap_setCell _ _ _ _ (by have := HDN.out.2.2.1; simpa using this)]
        exact HK5.out
      have h6 := HFI.out _ _ _ _ _ _ (HI5.out.err 7) hk6
      have HE : Hid (WritePost w base g dg j d lap first recs used r (.returned (.int .i64 7)) ((wc.setCell ⟨b + 2, 0, none⟩ (.int .i64 7)).putObj D (.deferred none))) := by
        refine ⟨?_, ?_, ?_, h6.fr⟩
        · rw [HWA.out, HSB.out]; rfl
        · rw [HWA.out, HSB.out]; exact h6.dk
        · rw [HWA.out, HSB.out]; exact h6.jb
      have p9 := one_cell h6.be
      refine ⟨by simp, .inl ⟨_, _, rfl, run_takeDeferred hk6, ?_⟩⟩
      exact ⟨_, by simp [results, Try.results39, go_sem, p9], HE.out⟩
    | true =>
      rw [hsb] at CSY
      simp only [if_true] at CSY
      have HSB := Lib.hid hsb
      have CS := Lib.hid CSY
      clear CSY hsb
      gi_upto_if 41 with ((try refine ⟨hdd _, ?_⟩); gi_at_call 21; refine (callsIn_wide.2 CS.out).mono ?_; rintro e wb ⟨rfl, hdb, hfb⟩; have HI4 := Lib.hid (HI.out.disk hfb hdb); have HK4 := Lib.hid (hfb.keep D _ HKD.out (by simp [kd]) (by simp)))
      have q2 := cell_of (o := 2) HI4.out.br
      have f2 : wb.frozen? ⟨b + 1, 2, none⟩ = false := by simp [World.frozen?, HI4.out.br]
      have hrc2 : (recs : Int) ≤ 4096 := by omega
      clear q0 c0
      gi_upto_region 10 with fail
      obtain ⟨W5, hW5⟩ : ∃ W5, W5 = wb.setCell ⟨b + 1, 2, none⟩ (.int .i64 ((recs : Int) + 1)) := ⟨_, rfl⟩
      rw [← hW5]
      have hi5 : WrI w W5 base b g dg j lap first (recs + 1) (used + partsN n) 0 (keepD d') := by rw [hW5]; exact HI4.out.setR (recs + 1)
      have hk5 : W5.heap[D]? = some (.deferred (some [])) := by
        rw [hW5, Below.heap_setCell _ _ _ _ (by have := HDN.out.2.1; simpa using this)]
        exact HK4.out
      have HI5 := Lib.hid hi5
      have HK5 := Lib.hid hk5
      obtain ⟨mx, hmx2⟩ : ∃ mx, mx = max j.last lap := ⟨_, rfl⟩
      have hmax : ∀ w, (Builtin.max_ #[3, 3] 3 #[.int .i64 (j.last : Int), .int .i64 (lap : Int)]).run Try.prog w = .ok (.int .i64 (mx : Int)) w := fun w => run_max2 w _ _ _ _ _ (by omega)
      have HMX := Lib.hid hmx2
      clear hi5 hk5 q2 f2 hW5 hmx2
      have hst7 := store71 (HI5.out.jb.below (Below.refl _ _).drew) lap first (recs + 1) (used + partsN n)
      have hj7 := (HI5.out.jb.below (Below.refl _ _).drew).row { j with lap := lap, first := first, recs := recs + 1, used := used + partsN n }
      obtain ⟨W6, hW6⟩ : ∃ W6, W6 = W5.drew.setRow g (jCells dg { j with lap := lap, first := first, recs := recs + 1, used := used + partsN n }) := ⟨_, rfl⟩
      rw [← hW6] at hst7 hj7
      have hf6 : Fr [] [g] base W5 W6 := by rw [hW6]; exact (Fr.of_below (Below.refl _ W5).drew (Nat.le_trans hbs HI5.out.fr.size)).row (HI5.out.jb.below (Below.refl _ _).drew) (.inr (by simp)) hbg _
      have HI6 := Lib.hid (HI5.out.own76 hf6 hj7)
      have hj8 := hj7.set7 mx
      have hf7 : Fr [] [g] base W6 (W6.setCell ⟨g, 7, none⟩ (.int .i64 (mx : Int))) := (Fr.refl _ _ _ _).set hj7 (.inr (by simp)) hbg _
      have HI7 := Lib.hid (HI6.out.own76 hf7 hj8)
      have HK7 : Hid ((W6.setCell ⟨g, 7, none⟩ (.int .i64 (mx : Int))).heap[D]? = some (.deferred (some []))) := (hf7.toKind HI6.out.jb).keep D _ ((hf6.toKind HI5.out.jb).keep D _ HK5.out (by simp [kd]) (by simp)) (by simp [kd]) (by simp)
      have Y7 := Lib.hid hj7.c7
      have YZ := Lib.hid (hj7.frozen 7)
      have HST7 := Lib.hid hst7
      have HB5 : Hid (W5.drew.heap[b]? = some (.cells #[.pointer (some ⟨g, 0, none⟩)] 29 (0, 0)) ∧ W5.drew.heap[b + 1]? = some (.cells #[.int .i64 (lap : Int), .int .i64 (first : Int), .int .i64 ((recs + 1 : Nat) : Int), .int .i64 ((used + partsN n : Nat) : Int)] 71 (0, 0))) := ⟨HI5.out.bj, HI5.out.br⟩
      have HB6 : Hid (W6.heap[b]? = some (.cells #[.pointer (some ⟨g, 0, none⟩)] 29 (0, 0)) ∧ W6.heap[b + 1]? = some (.cells #[.int .i64 (lap : Int), .int .i64 (first : Int), .int .i64 ((recs + 1 : Nat) : Int), .int .i64 ((used + partsN n : Nat) : Int)] 71 (0, 0))) := ⟨HI6.out.bj, HI6.out.br⟩
      have HB7 := Lib.hid (And.intro HI7.out.bj HI7.out.br)
      have HLD : Hid ((Instr.loadAt 3 (.pointer (some ⟨g, 7, none⟩))).run Try.prog W5.drew = .ok (.int .i64 (j.last : Int)) W5.drew) := by
        have := (HI5.out.jb.below (Below.refl _ W5).drew).c7
        show _ = _
        simp [go_sem, this]
      have hHeld := HB5.out
      clear hst7 hj7 hW6 hf6 hj8 hf7
      refine region_wideN hmx (by kernel_rfl) ?_ (wpAny_of_held (S := fun w' => w'.heap[b]? = some (.cells #[.pointer (some ⟨g, 0, none⟩)] 29 (0, 0)) ∧ w'.heap[b + 1]? = some (.cells #[.int .i64 (lap : Int), .int .i64 (first : Int), .int .i64 ((recs + 1 : Nat) : Int), .int .i64 ((used + partsN n : Nat) : Int)] 71 (0, 0))) _ _ _ _ ?_)
      · rintro ⟨_, _, h⟩
        cases h.1
      refine wpAnyH_take (i := 0) (oi := { dst := some 48, op := Op.load 29 (Operand.tmp 3), type := 29, pos := "journal.go:104", after := #[], guard := none }) (v := ?v10n1) rfl (by kernel_rfl) (by kernel_rfl) (by kernel_rfl) (fun _ _ _ h => h) (Or.inl ⟨by rfl, ?hy10n1⟩) (by assumption) ?rest10n1
      case hy10n1 => (intro w hSw; (try dsimp only at hSw); have q0 := one_cell hSw.1; have r0 := cell_of (o := 0) hSw.2; have r1 := cell_of (o := 1) hSw.2; have r2 := cell_of (o := 2) hSw.2; have r3 := cell_of (o := 3) hSw.2; go_simp <;> (try with_reducible rfl))
      try simp only [Act.put, List.setIfInBounds_toArray, List.set_cons_zero, List.set_cons_succ]
      refine wpAnyH_take (i := 1) (oi := { dst := some 49, op := Op.load 29 (Operand.tmp 3), type := 29, pos := "journal.go:104", after := #[{ on := 12, ground := Ground.gcOnly Departure.lateStores }], guard := none }) (v := ?v10n2) rfl (by kernel_rfl) (by kernel_rfl) (by kernel_rfl) (fun _ _ _ h => h) (Or.inl ⟨by rfl, ?hy10n2⟩) (by assumption) ?rest10n2
      case hy10n2 => (intro w hSw; (try dsimp only at hSw); have q0 := one_cell hSw.1; have r0 := cell_of (o := 0) hSw.2; have r1 := cell_of (o := 1) hSw.2; have r2 := cell_of (o := 2) hSw.2; have r3 := cell_of (o := 3) hSw.2; go_simp <;> (try with_reducible rfl))
      try simp only [Act.put, List.setIfInBounds_toArray, List.set_cons_zero, List.set_cons_succ]
      refine wpAnyH_take (i := 2) (oi := { dst := some 50, op := Op.load 71 (Operand.tmp 4), type := 71, pos := "journal.go:104", after := #[], guard := none }) (v := ?v10n3) rfl (by kernel_rfl) (by kernel_rfl) (by kernel_rfl) (fun _ _ _ h => h) (Or.inl ⟨by rfl, ?hy10n3⟩) (by assumption) ?rest10n3
      case hy10n3 => (intro w hSw; (try dsimp only at hSw); have q0 := one_cell hSw.1; have r0 := cell_of (o := 0) hSw.2; have r1 := cell_of (o := 1) hSw.2; have r2 := cell_of (o := 2) hSw.2; have r3 := cell_of (o := 3) hSw.2; go_simp <;> (try with_reducible rfl))
      try simp only [Act.put, List.setIfInBounds_toArray, List.set_cons_zero, List.set_cons_succ]
      refine wpAnyH_take (i := 3) (oi := { dst := some 51, op := Op.load 29 (Operand.tmp 3), type := 29, pos := "journal.go:104", after := #[], guard := none }) (v := ?v10n4) rfl (by kernel_rfl) (by kernel_rfl) (by kernel_rfl) (fun _ _ _ h => h) (Or.inl ⟨by rfl, ?hy10n4⟩) (by assumption) ?rest10n4
      case hy10n4 => (intro w hSw; (try dsimp only at hSw); have q0 := one_cell hSw.1; have r0 := cell_of (o := 0) hSw.2; have r1 := cell_of (o := 1) hSw.2; have r2 := cell_of (o := 2) hSw.2; have r3 := cell_of (o := 3) hSw.2; go_simp <;> (try with_reducible rfl))
      try simp only [Act.put, List.setIfInBounds_toArray, List.set_cons_zero, List.set_cons_succ]
      refine wpAnyH_take (i := 4) (oi := { dst := some 52, op := Op.nilCheck (Operand.tmp 51), type := 0, pos := "journal.go:104", after := #[{ on := 3, ground := Ground.data }], guard := none }) (v := ?v10n5) rfl (by kernel_rfl) (by kernel_rfl) (by kernel_rfl) (fun _ _ _ h => h) (Or.inl ⟨by rfl, ?hy10n5⟩) (by assumption) ?rest10n5
      case hy10n5 => (intro w hSw; (try dsimp only at hSw); have q0 := one_cell hSw.1; have r0 := cell_of (o := 0) hSw.2; have r1 := cell_of (o := 1) hSw.2; have r2 := cell_of (o := 2) hSw.2; have r3 := cell_of (o := 3) hSw.2; go_simp <;> (try with_reducible rfl))
      try simp only [Act.put, List.setIfInBounds_toArray, List.set_cons_zero, List.set_cons_succ]
      refine wpAnyH_take (i := 5) (oi := { dst := some 53, op := Op.fieldAddr 76 (Operand.tmp 52) 4, type := 0, pos := "journal.go:104", after := #[{ on := 4, ground := Ground.data }], guard := none }) (v := ?v10n6) rfl (by kernel_rfl) (by kernel_rfl) (by kernel_rfl) (fun _ _ _ h => h) (Or.inl ⟨by rfl, ?hy10n6⟩) (by assumption) ?rest10n6
      case hy10n6 => (intro w hSw; (try dsimp only at hSw); have q0 := one_cell hSw.1; have r0 := cell_of (o := 0) hSw.2; have r1 := cell_of (o := 1) hSw.2; have r2 := cell_of (o := 2) hSw.2; have r3 := cell_of (o := 3) hSw.2; go_simp <;> (try with_reducible rfl))
      try simp only [Act.put, List.setIfInBounds_toArray, List.set_cons_zero, List.set_cons_succ]
      refine wpAnyH_take (i := 7) (oi := { dst := some 55, op := Op.fieldAddr 71 (Operand.tmp 4) 0, type := 0, pos := "journal.go:104", after := #[], guard := none }) (v := ?v10n7) rfl (by kernel_rfl) (by kernel_rfl) (by kernel_rfl) (fun _ _ _ h => h) (Or.inl ⟨by rfl, ?hy10n7⟩) (by assumption) ?rest10n7
      case hy10n7 => (intro w hSw; (try dsimp only at hSw); have q0 := one_cell hSw.1; have r0 := cell_of (o := 0) hSw.2; have r1 := cell_of (o := 1) hSw.2; have r2 := cell_of (o := 2) hSw.2; have r3 := cell_of (o := 3) hSw.2; go_simp <;> (try with_reducible rfl))
      try simp only [Act.put, List.setIfInBounds_toArray, List.set_cons_zero, List.set_cons_succ]
      refine wpAnyH_take (i := 8) (oi := { dst := some 56, op := Op.load 3 (Operand.tmp 55), type := 3, pos := "journal.go:104", after := #[{ on := 7, ground := Ground.data }], guard := none }) (v := ?v10n8) rfl (by kernel_rfl) (by kernel_rfl) (by kernel_rfl) (fun _ _ _ h => h) (Or.inl ⟨by rfl, ?hy10n8⟩) (by assumption) ?rest10n8
      case hy10n8 => (intro w hSw; (try dsimp only at hSw); have q0 := one_cell hSw.1; have r0 := cell_of (o := 0) hSw.2; have r1 := cell_of (o := 1) hSw.2; have r2 := cell_of (o := 2) hSw.2; have r3 := cell_of (o := 3) hSw.2; go_simp <;> (try with_reducible rfl))
      try simp only [Act.put, List.setIfInBounds_toArray, List.set_cons_zero, List.set_cons_succ]
      refine wpAnyH_ready (rs := [6]) (by kernel_rfl) (by simp) ?_
      refine AllReadyH.cons (o := { dst := some 54, op := Op.load 3 (Operand.tmp 53), type := 3, pos := "journal.go:104", after := #[{ on := 5, ground := Ground.data }], guard := none }) rfl (fun K hK => ?_) AllReadyH.nil
      refine wp_value (exec_load rfl rfl HLD.out) ?_
      refine hK.out _ _ (HB5.out) (fun hHeld => ?_)
      clear hK K
      try simp only [Act.put, List.setIfInBounds_toArray, List.set_cons_zero, List.set_cons_succ]
      refine wpAnyH_take (i := 9) (oi := { dst := some 57, op := Op.call { callee := Callee.builtin Builtin.max, args := #[Operand.tmp 54, Operand.tmp 56], argTypes := #[3, 3] }, type := 3, pos := "journal.go:104", after := #[{ on := 6, ground := Ground.data }, { on := 8, ground := Ground.data }], guard := none }) (v := ?v10n9) rfl (by kernel_rfl) (by kernel_rfl) (by kernel_rfl) (fun _ _ _ h => h) (Or.inl ⟨by rfl, ?hy10n9⟩) (by assumption) ?rest10n9
      case hy10n9 => (intro w hSw; (try dsimp only at hSw); have q0 := one_cell hSw.1; have r0 := cell_of (o := 0) hSw.2; have r1 := cell_of (o := 1) hSw.2; have r2 := cell_of (o := 2) hSw.2; have r3 := cell_of (o := 3) hSw.2; go_simp <;> (try with_reducible rfl))
      try simp only [Act.put, List.setIfInBounds_toArray, List.set_cons_zero, List.set_cons_succ]
      refine wpAnyH_take (i := 10) (oi := { dst := some 58, op := Op.nilCheck (Operand.tmp 48), type := 0, pos := "journal.go:104", after := #[{ on := 0, ground := Ground.data }, { on := 0, ground := Ground.phase }, { on := 1, ground := Ground.textOnly Departure.lateStores }, { on := 2, ground := Ground.phase }, { on := 3, ground := Ground.textOnly Departure.lateStores }, { on := 4, ground := Ground.textOnly Departure.lateStoresUnsure }, { on := 5, ground := Ground.textOnly Departure.lateStoresUnsure }, { on := 6, ground := Ground.phase }, { on := 7, ground := Ground.textOnly Departure.lateStores }, { on := 8, ground := Ground.textOnly Departure.inlinedCapture }, { on := 9, ground := Ground.textOnly Departure.lateStoresUnsure }], guard := none }) (v := ?v10n10) rfl (by kernel_rfl) (by kernel_rfl) (by kernel_rfl) (fun _ _ _ h => h) (Or.inl ⟨by rfl, ?hy10n10⟩) (by assumption) ?rest10n10
      case hy10n10 => (intro w hSw; (try dsimp only at hSw); have q0 := one_cell hSw.1; have r0 := cell_of (o := 0) hSw.2; have r1 := cell_of (o := 1) hSw.2; have r2 := cell_of (o := 2) hSw.2; have r3 := cell_of (o := 3) hSw.2; go_simp <;> (try with_reducible rfl))
      try simp only [Act.put, List.setIfInBounds_toArray, List.set_cons_zero, List.set_cons_succ]
      refine wpAnyH_take (i := 11) (oi := { dst := some 59, op := Op.fieldAddr 76 (Operand.tmp 58) 2, type := 0, pos := "journal.go:104", after := #[{ on := 10, ground := Ground.data }, { on := 0, ground := Ground.phase }, { on := 1, ground := Ground.textOnly Departure.lateStores }, { on := 2, ground := Ground.phase }, { on := 3, ground := Ground.textOnly Departure.lateStores }, { on := 4, ground := Ground.textOnly Departure.lateStoresUnsure }, { on := 5, ground := Ground.textOnly Departure.lateStoresUnsure }, { on := 6, ground := Ground.phase }, { on := 7, ground := Ground.textOnly Departure.lateStores }, { on := 8, ground := Ground.textOnly Departure.inlinedCapture }, { on := 9, ground := Ground.textOnly Departure.lateStoresUnsure }], guard := none }) (v := ?v10n11) rfl (by kernel_rfl) (by kernel_rfl) (by kernel_rfl) (fun _ _ _ h => h) (Or.inl ⟨by rfl, ?hy10n11⟩) (by assumption) ?rest10n11
      case hy10n11 => (intro w hSw; (try dsimp only at hSw); have q0 := one_cell hSw.1; have r0 := cell_of (o := 0) hSw.2; have r1 := cell_of (o := 1) hSw.2; have r2 := cell_of (o := 2) hSw.2; have r3 := cell_of (o := 3) hSw.2; go_simp <;> (try with_reducible rfl))
      try simp only [Act.put, List.setIfInBounds_toArray, List.set_cons_zero, List.set_cons_succ]
      refine wpAnyH_ready (rs := [12]) (by kernel_rfl) (by simp) ?_
      refine AllReadyH.cons (o := { dst := none, op := Op.store 71 (Operand.tmp 59) (Operand.tmp 50), type := 0, pos := "journal.go:104", after := #[{ on := 11, ground := Ground.data }, { on := 2, ground := Ground.data }, { on := 0, ground := Ground.phase }, { on := 1, ground := Ground.textOnly Departure.lateStores }, { on := 2, ground := Ground.phase }, { on := 3, ground := Ground.textOnly Departure.lateStores }, { on := 4, ground := Ground.textOnly Departure.lateStoresUnsure }, { on := 5, ground := Ground.textOnly Departure.lateStoresUnsure }, { on := 6, ground := Ground.phase }, { on := 7, ground := Ground.textOnly Departure.lateStores }, { on := 8, ground := Ground.textOnly Departure.inlinedCapture }, { on := 9, ground := Ground.textOnly Departure.lateStoresUnsure }], guard := none }) rfl (fun K hK => ?_) AllReadyH.nil
      refine wp_unit (exec_store rfl rfl rfl HST7.out) ?_
      refine hK.out _ _ (HB6.out) (fun hHeld => ?_)
      clear hK K
      try simp only [Act.put]
      refine wpAnyH_take (i := 13) (oi := { dst := some 60, op := Op.nilCheck (Operand.tmp 49), type := 0, pos := "journal.go:104", after := #[{ on := 1, ground := Ground.data }, { on := 0, ground := Ground.phase }, { on := 1, ground := Ground.phase }, { on := 2, ground := Ground.phase }, { on := 3, ground := Ground.phase }, { on := 4, ground := Ground.phase }, { on := 5, ground := Ground.phase }, { on := 6, ground := Ground.phase }, { on := 7, ground := Ground.phase }, { on := 8, ground := Ground.phase }, { on := 9, ground := Ground.phase }, { on := 10, ground := Ground.phase }, { on := 11, ground := Ground.phase }, { on := 12, ground := Ground.phase }], guard := none }) (v := ?v10n12) rfl (by kernel_rfl) (by kernel_rfl) (by kernel_rfl) (fun _ _ _ h => h) (Or.inl ⟨by rfl, ?hy10n12⟩) (by assumption) ?rest10n12
      case hy10n12 => (intro w hSw; (try dsimp only at hSw); have q0 := one_cell hSw.1; have r0 := cell_of (o := 0) hSw.2; have r1 := cell_of (o := 1) hSw.2; have r2 := cell_of (o := 2) hSw.2; have r3 := cell_of (o := 3) hSw.2; go_simp <;> (try with_reducible rfl))
      try simp only [Act.put, List.setIfInBounds_toArray, List.set_cons_zero, List.set_cons_succ]
      refine wpAnyH_take (i := 14) (oi := { dst := some 61, op := Op.fieldAddr 76 (Operand.tmp 60) 4, type := 0, pos := "journal.go:104", after := #[{ on := 13, ground := Ground.data }, { on := 0, ground := Ground.phase }, { on := 1, ground := Ground.phase }, { on := 2, ground := Ground.phase }, { on := 3, ground := Ground.phase }, { on := 4, ground := Ground.phase }, { on := 5, ground := Ground.phase }, { on := 6, ground := Ground.phase }, { on := 7, ground := Ground.phase }, { on := 8, ground := Ground.phase }, { on := 9, ground := Ground.phase }, { on := 10, ground := Ground.phase }, { on := 11, ground := Ground.phase }, { on := 12, ground := Ground.phase }], guard := none }) (v := ?v10n13) rfl (by kernel_rfl) (by kernel_rfl) (by kernel_rfl) (fun _ _ _ h => h) (Or.inl ⟨by rfl, ?hy10n13⟩) (by assumption) ?rest10n13
      case hy10n13 => (intro w hSw; (try dsimp only at hSw); have q0 := one_cell hSw.1; have r0 := cell_of (o := 0) hSw.2; have r1 := cell_of (o := 1) hSw.2; have r2 := cell_of (o := 2) hSw.2; have r3 := cell_of (o := 3) hSw.2; go_simp <;> (try with_reducible rfl))
      try simp only [Act.put, List.setIfInBounds_toArray, List.set_cons_zero, List.set_cons_succ]
      refine wpAnyH_ready (rs := [15]) (by kernel_rfl) (by simp) ?_
      refine AllReadyH.cons (o := { dst := none, op := Op.store 3 (Operand.tmp 61) (Operand.tmp 57), type := 0, pos := "journal.go:104", after := #[{ on := 14, ground := Ground.data }, { on := 9, ground := Ground.data }, { on := 12, ground := Ground.chain }, { on := 0, ground := Ground.phase }, { on := 1, ground := Ground.phase }, { on := 2, ground := Ground.phase }, { on := 3, ground := Ground.phase }, { on := 4, ground := Ground.phase }, { on := 5, ground := Ground.phase }, { on := 6, ground := Ground.phase }, { on := 7, ground := Ground.phase }, { on := 8, ground := Ground.phase }, { on := 9, ground := Ground.phase }, { on := 10, ground := Ground.phase }, { on := 11, ground := Ground.phase }, { on := 12, ground := Ground.phase }], guard := none }) rfl (fun K hK => ?_) AllReadyH.nil
      refine wp_unit (exec_store rfl rfl rfl (store3 Y7.out YZ.out)) ?_
      refine hK.out _ _ (HB7.out) (fun hHeld => ?_)
      clear hK K
      try simp only [Act.put]
      refine wpAnyH_done (by kernel_rfl) ?_ _
      dsimp only [onlyN]
      have z0 := one_cell HI7.out.be
      have zf : (W6.setCell ⟨g, 7, none⟩ (.int .i64 (mx : Int))).frozen? ⟨b + 2, 0, none⟩ = false := by simp [World.frozen?, HI7.out.be]
      gi_wp2
      have hk8 : ((W6.setCell ⟨g, 7, none⟩ (.int .i64 (mx : Int))).setCell ⟨b + 2, 0, none⟩ (.int .i64 0)).heap[D]? = some (.deferred (some [])) := by
        rw [Below.heap_setCell _ _ _ _ (by have := HDN.out.2.2.1; simpa using this)]
        exact HK7.out
      have h8 := HFI.out _ _ _ _ _ _ (HI7.out.err 0) hk8
      have HE : Hid (WritePost w base g dg j d lap first recs used r (.returned (.int .i64 0)) (((W6.setCell ⟨g, 7, none⟩ (.int .i64 (mx : Int))).setCell ⟨b + 2, 0, none⟩ (.int .i64 0)).putObj D (.deferred none))) := by
        refine ⟨?_, ?_, ?_, h8.fr⟩
        · rw [HWA.out, HSB.out]; rfl
        · rw [HWA.out, HSB.out]; exact h8.dk
        · rw [HWA.out, HSB.out, HNN.out]
          have e9 : wrJ j lap first recs used (partsN n) true = { j with lap := lap, first := first, recs := recs + 1, used := used + partsN n, last := mx } := by rw [HMX.out]; rfl
          show JBox _ g dg (wrJ j lap first recs used (partsN n) true)
          rw [e9]
          exact h8.jb
      have p9 := one_cell h8.be
      refine ⟨by simp, .inl ⟨_, _, rfl, run_takeDeferred hk8, ?_⟩⟩
      exact ⟨_, by simp [results, Try.results39, go_sem, p9], HE.out⟩
  case stop =>
    rintro D cd pre W hD hpre ⟨rfl, ⟨u, hi⟩, hok⟩ hK
    have h1 : WrI w (W.putObj D (.deferred none)) base b g dg { j with over := true } lap first recs u 7 (wrP d (first + used) (pre.map ptS)).1 :=
      WrI.own hw2s (f := fun _ : Unit => u) (fd := fun _ : Unit => (wrP d (first + used) (pre.map ptS)).1) () W _ (some D) hi (grownBy_putObj' W D _) (fun r er => by cases er; exact ⟨hD, _, hK, rfl⟩)
    have hwa : wrA d (first + used) (secsOf lap recs r) = ((wrP d (first + used) (pre.map ptS)).1, false) := by
      obtain ⟨t, ht⟩ := hpre
      have h2 : wrP d (first + used) (secsOf lap recs r) = ((wrP d (first + used) (pre.map ptS)).1, false) := by
        rw [secsOf_map, ← ht, List.map_append, wrP_append, hok]
        rfl
      unfold wrA
      rw [h2]
      rfl
    have HE : Hid (WritePost w base g dg j d lap first recs used r (.returned (.int .i64 7)) (W.putObj D (.deferred none))) := by
      refine ⟨?_, ?_, ?_, h1.fr⟩
      · rw [hwa]; rfl
      · rw [hwa]; exact h1.dk
      · rw [hwa]; exact h1.jb
    have p0 := one_cell h1.be
    have HKD := Lib.hid hK
    clear hi h1 hwa hok hpre hK HTL hI0
    gi_wp2
    refine ⟨by simp, .inl ⟨_, _, rfl, run_takeDeferred HKD.out, ?_⟩⟩
    exact ⟨_, by simp [results, Try.results39, go_sem, p0], HE.out⟩
end Go.Proofs.Ytppdckncnfffcaa
