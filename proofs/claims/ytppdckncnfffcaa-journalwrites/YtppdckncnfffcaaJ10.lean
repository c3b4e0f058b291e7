/-
  The contracts of parts and found. Their conditions: the journal and its disk lie in memory, the half lies on the disk, which isn't down.
-/
import Derived.Test.YtppdckncnfffcaaJ9
import Derived.Sort.CutIn
namespace Go.Proofs.Ytppdckncnfffcaa
open Go.RowKit Go.Shelf
set_option maxRecDepth 100000
attribute [local go_sem] Oper.semAt_some

theorem parts_any2 (g first : Nat) (w : World) : Calls Try.prog 52 #[.pointer (some ⟨g, 0, none⟩), .int .i64 (first : Int)] w fun e w' => e = .returned (.func (.func 58) #[] #[.pointer (some ⟨w.heap.size, 0, none⟩), .pointer (some ⟨w.heap.size + 1, 0, none⟩)]) ∧ w' = (w.alloc (.cells #[.pointer (some ⟨g, 0, none⟩)] 29)).alloc (.cells #[.int .i64 (first : Int)] 3) := by
  go_enter Try.func52, Try.ntmps52
  go_wp2
  go_ret
  exact ⟨rfl, rfl⟩
theorem run_alloc101 (w : World) : (Instr.alloc 101 true (.tuple #[])).run Try.prog w = .ok (.pointer (some ⟨w.heap.size, 0, none⟩)) (w.alloc (.cells #[.int .i64 0, .int .i64 0, .int .i64 0, .int .i64 0, .slice none 0 0] 101)) := by
  obtain ⟨z, by_, h, _⟩ : ∃ z by_, (Try.prog.info? 101).map (fun i => (i.zero, i.size, i.bytes)) = some (some z, 5, by_) ∧ z = .agg #[.int .i64 0, .int .i64 0, .int .i64 0, .int .i64 0, .slice none 0 0] := ⟨_, 56, by kernel_rfl, rfl⟩
  obtain ⟨i, hi, hz, _⟩ := info_parts h
  subst z
  simp [Instr.alloc, zeroValue, typeInfo, hi, hz, newVar, newRow, newObj, Value.cells, Result.andThen]
  rfl
theorem store101new (w : World) (c : Array Value) (hc : c.size = 5) (p : Pt) (A : Option Addr) (n k : Nat) : (Instr.storeAt 101 (.pointer (some ⟨w.heap.size, 0, none⟩)) (ptV p A n k)).run Try.prog (w.alloc (.cells c 101)) = .ok () (w.alloc (.cells (ptC p A n k) 101)) :=
  run_storeNew w _ _ size101 hc rfl (fun v hv => by simp [ptC] at hv; rcases hv with rfl | rfl | rfl | rfl | rfl <;> rfl)
/-! ### Bounds -/
theorem walk_length (p : Pt) (h : List Sec) : (walk p h).length ≤ h.length := by
  induction h generalizing p with
  | nil => simp [walk]
  | cons s r ih =>
    rw [walk]
    split
    · have := ih (nextP p s)
      simp
      omega
    · simp
theorem walk_bs (p : Pt) (h : List Sec) : ∀ x ∈ walk p h, x.bs.length ≤ 47 := by
  induction h generalizing p with
  | nil => simp [walk]
  | cons s r ih =>
    rw [walk]
    split
    · intro x hx
      rcases List.mem_cons.mp hx with rfl | hx
      · rw [nextP_bs, bsF_length]
        exact lenF_le s
      · exact ih _ x hx
    · simp
theorem partsL_length (h : List Sec) : (partsL h).length ≤ h.length := by
  unfold partsL
  split
  · simp
  · exact walk_length _ _
theorem partsL_bs (h : List Sec) : ∀ x ∈ partsL h, x.bs.length ≤ 47 := by
  unfold partsL
  split
  · simp
  · exact walk_bs _ _
theorem gathered_le (l : List Pt) (hb : ∀ x ∈ l, x.bs.length ≤ 47) : (gathered l).acc.length ≤ 47 * l.length ∧ (gathered l).rs.length ≤ l.length := by
  obtain ⟨m, hm⟩ : ∃ m, m = l.reverse := ⟨_, rfl⟩
  have hl : l = m.reverse := by rw [hm]; simp
  subst hl
  clear hm
  induction m with
  | nil => simp [gathered]
  | cons x r ih =>
    have hbr : ∀ y ∈ r.reverse, y.bs.length ≤ 47 := fun y hy => hb y (by simp at hy ⊢; exact .inl hy)
    have hbx : x.bs.length ≤ 47 := hb x (by simp)
    obtain ⟨h1, h2⟩ := ih hbr
    rw [List.reverse_cons, gathered_snoc]
    unfold gth
    simp only [List.length_append, List.length_reverse, List.length_singleton] at h1 h2 ⊢
    split
    · constructor
      · simp
      · simp
        exact h2
    · constructor
      · simp
        omega
      · simp
        omega
/-! ### What stays -/
theorem FdI.keeps {w0 W W' : World} {b : Nat} {G : Gt} {va vr : Value} (h : FdI w0 W b G va vr) (hk : Keeps W W') (hb : Below w0.heap.size W W') : FdI w0 W' b G va vr := by
  obtain ⟨xs, h1, h2⟩ := h.all
  exact ⟨hk _ _ _ _ h.lap, hk _ _ _ _ h.acc, hk _ _ _ _ h.rcs, h.row.keeps hk, ⟨xs, ⟨h1.row.keeps hk, h1.rcd.1, fun k x r e1 e2 => (h1.rcd.2 k x r e1 e2).keeps hk⟩, h2⟩, h.bel.trans hb, h.ge⟩
theorem FdI.fr {w0 W W' : World} {b base : Nat} {G : Gt} {va vr : Value} (h : FdI w0 W b G va vr) (hf : Fr [101] [] base W W') (hb : w0.heap.size ≤ base) : FdI w0 W' b G va vr := by
  obtain ⟨xs, h1, h2⟩ := h.all
  exact ⟨hf.keep _ _ h.lap (by simp [kd]) (by simp), hf.keep _ _ h.acc (by simp [kd]) (by simp), hf.keep _ _ h.rcs (by simp [kd]) (by simp), h.row.fr hf (by simp) (by simp), ⟨xs, ⟨h1.row.fr hf (by simp) (by simp), h1.rcd.1, fun k x r e1 e2 => (h1.rcd.2 k x r e1 e2).fr hf (by simp) (by simp)⟩, h2⟩, h.bel.trans (hf.below.mono hb), h.ge⟩
theorem keeps_grown {X Y : World} {row : Option Nat} {b : Nat} (hg : X.grownBy Y row) (hr : ∀ r, row = some r → b ≤ r ∧ ∃ o : Obj, X.heap[r]? = some o ∧ o.isCells = false) : Keeps X Y := fun q cs t fr hq => by
  rw [hg.block q (lt_of_heap hq) (fun he => ?_)]
  · exact hq
  · obtain ⟨_, o, h3, h4⟩ := hr q he.symm
    rw [hq] at h3
    cases h3
    cases h4
theorem below_grown {X Y : World} {row : Option Nat} {b n : Nat} (hg : X.grownBy Y row) (hr : ∀ r, row = some r → b ≤ r ∧ ∃ o : Obj, X.heap[r]? = some o ∧ o.isCells = false) (hn : n ≤ b) (hX : n ≤ X.heap.size) : Below n X Y :=
  ⟨hg.os, hg.tape, hg.output, hg.size, fun k hk => hg.block k (Nat.lt_of_lt_of_le hk hX) (fun he => by have := (hr k he.symm).1; omega)⟩
theorem FdI.own {w0 : World} {b b0 : Nat} (hb : w0.heap.size ≤ b0) : OwnFrom b0 (fun (pre : List Pt) W => ∃ va vr, FdI w0 W b (gathered pre) va vr) := by
  intro s X Y row ⟨va, vr, h⟩ hg hr
  exact ⟨va, vr, h.keeps (keeps_grown hg hr) (below_grown hg hr hb (Nat.le_trans h.bel.size (Nat.le_refl _)))⟩
theorem keepsFrom_fr {l ms : List Nat} {base B : Nat} {W W' : World} (hf : Fr l ms base W W') (h0 : 1000 ∉ l) (h1 : 1001 ∉ l) (hm : ∀ m ∈ ms, ∃ cs t fr, W.heap[m]? = some (.cells cs t fr)) : KeepsFrom B W W' := by
  refine ⟨hf.size, fun k o _ hk ho => hf.keep k o hk ?_ (fun hkm => ?_)⟩
  · cases o <;> first | (cases ho; done) | (simpa [kd] using h0) | (simpa [kd] using h1)
  · obtain ⟨cs, t, fr, hc⟩ := hm k hkm
    rw [hk] at hc
    cases hc
    cases ho
set_option maxHeartbeats 8000000 in
theorem found_any (g dg base first : Nat) (j : Jn) (d : Dk) (w : World) (hj : JBox w g dg j) (hdk : DiskAt w base dg d) (hd : d.down = false) (hlen : first + j.size ≤ d.K.length) (hfs : first ≤ 4096) (hsz : 0 < j.size) (hs2 : j.size ≤ 4096) :
    Calls Try.prog 45 #[.pointer (some ⟨g, 0, none⟩), .int .i64 (first : Int)] w fun r w' => ∃ vr xs, r = .returned (.tuple #[.int .i64 (foundN (halfL (seen d.K d.ps) first j.size) : Int), vr]) ∧ RecsV w' w.heap.size vr xs (foundL (halfL (seen d.K d.ps) first j.size)) ∧ Below w.heap.size w w' := by
  refine (callsIn_wide (n := 9)).1 ?_
  have hdd : ∀ k : Nat, (Fence.wide.depth.isSome = true → 1 ≤ k) := fun k h => by cases h
  have hmx : Try.prog.follows .mixedOrders = true := by kernel_rfl
  have h52 : Fence.wide.fn 52 := trivial
  have h58 : Fence.wide.fn 58 := trivial
  obtain ⟨bx, hbx⟩ : ∃ bx, bx = w.heap.size := ⟨_, rfl⟩
  obtain ⟨H, hH⟩ : ∃ H, H = halfL (seen d.K d.ps) first j.size := ⟨_, rfl⟩
  rw [← hH]
  obtain ⟨GL, hGL⟩ : ∃ GL, GL = gathered (partsL H) := ⟨_, rfl⟩
  have eN : foundN H = GL.lap := by rw [hGL]; rfl
  have eR : foundL H = GL.rs := by rw [hGL]; rfl
  rw [eN, eR]
  refine callsIn_of_wp_marks Try.func45 rfl trivial ?_ rfl
  simp only [Try.ntmps45, List.size_toArray, List.length_cons, List.length_nil, Nat.reduceAdd, Nat.reduceSub, Array.replicate_succ, Array.replicate_zero, List.push_toArray, List.append_toArray, List.nil_append, List.cons_append]
  gi_wp2_with ((try refine ⟨hdd _, ?_⟩); gi_at_call 52; refine (callsIn_wide.2 (parts_any2 _ _ _)).mono ?_; rintro e w' ⟨rfl, rfl⟩)
  obtain ⟨w2, hw2⟩ : ∃ w2, w2 = ((((w.alloc (.cells #[.int .i64 0] 3)).alloc (.cells #[.slice none 0 0] 38)).alloc (.cells #[.slice none 0 0] 30)).alloc (.cells #[.pointer (some ⟨g, 0, none⟩)] 29)).alloc (.cells #[.int .i64 (first : Int)] 3) := ⟨_, rfl⟩
  rw [← hw2]
  simp only [← hbx]
  simp only [show bx + 1 + 1 + 1 + 1 = bx + 4 from rfl, show bx + 1 + 1 + 1 = bx + 3 from rfl, show bx + 1 + 1 = bx + 2 from rfl]
  have b2 : Below w.heap.size w w2 := by
    rw [hw2]
    exact (((((Below.refl _ w).alloc (Nat.le_refl _) _).alloc (by simp) _).alloc (by simp; omega) _).alloc (by simp; omega) _).alloc (by simp; omega) _
  have x0 : w2.heap[bx]? = some (.cells #[.int .i64 0] 3 (0, 0)) := by
    rw [hw2, hbx]
    exact (heap_old _ _ (by simp <;> omega)).trans ((heap_old _ _ (by simp <;> omega)).trans ((heap_old _ _ (by simp <;> omega)).trans ((heap_old _ _ (by simp <;> omega)).trans (heap_new _ _))))
  have x1 : w2.heap[bx + 1]? = some (.cells #[.slice none 0 0] 38 (0, 0)) := by
    have h := heap_new (w.alloc (.cells #[.int .i64 0] 3)) (.cells #[.slice none 0 0] 38)
    simp only [World.size_alloc] at h
    rw [hw2, hbx]
    exact (heap_old _ _ (by simp <;> omega)).trans ((heap_old _ _ (by simp <;> omega)).trans ((heap_old _ _ (by simp <;> omega)).trans h))
  have x2 : w2.heap[bx + 2]? = some (.cells #[.slice none 0 0] 30 (0, 0)) := by
    have h := heap_new ((w.alloc (.cells #[.int .i64 0] 3)).alloc (.cells #[.slice none 0 0] 38)) (.cells #[.slice none 0 0] 30)
    simp only [World.size_alloc] at h
    rw [hw2, hbx]
    exact (heap_old _ _ (by simp <;> omega)).trans ((heap_old _ _ (by simp <;> omega)).trans h)
  have x3 : w2.heap[bx + 3]? = some (.cells #[.pointer (some ⟨g, 0, none⟩)] 29 (0, 0)) := by
    have h := heap_new (((w.alloc (.cells #[.int .i64 0] 3)).alloc (.cells #[.slice none 0 0] 38)).alloc (.cells #[.slice none 0 0] 30)) (.cells #[.pointer (some ⟨g, 0, none⟩)] 29)
    simp only [World.size_alloc] at h
    rw [hw2, hbx]
    exact (heap_old _ _ (by simp <;> omega)).trans h
  have x4 : w2.heap[bx + 4]? = some (.cells #[.int .i64 (first : Int)] 3 (0, 0)) := by
    have h := heap_new ((((w.alloc (.cells #[.int .i64 0] 3)).alloc (.cells #[.slice none 0 0] 38)).alloc (.cells #[.slice none 0 0] 30)).alloc (.cells #[.pointer (some ⟨g, 0, none⟩)] 29)) (.cells #[.int .i64 (first : Int)] 3)
    simp only [World.size_alloc] at h
    rw [hw2, hbx]
    exact h
  have hfd0 : FdI w w2 bx (gathered []) (.slice none 0 0) (.slice none 0 0) := ⟨x0, x1, x2, RowT.nil _, ⟨[], ⟨RowT.nil _, rfl, fun k x r h => by simp at h⟩, by simp⟩, b2, by omega⟩
  have hps : PsI w w2 (bx + 3) (bx + 4) g first := ⟨x3, x4, b2⟩
  have hbs2 : w.heap.size ≤ w2.heap.size := b2.size
  have hlt4 := lt_of_heap x4
  clear x0 x1 x2 x3 x4 hw2
  have HTL := parts_tells w w2 g dg base first (bx + 3) (bx + 4) w2.heap.size j d [5, 38] [bx, bx + 1, bx + 2] hj hdk hd hlen hfs hsz hs2 hps (by decide) (by simp; omega)
  rw [← hH] at HTL
  have hHl : H.length ≤ 4096 := by rw [hH]; simp [halfL]; omega
  have HBX := Lib.hid hbx
  have HGL := Lib.hid hGL
  clear hj hdk hd hlen hfs hsz hs2 hps hH hbx hGL eN eR
  refine range_tells2 (gf := 58) (lb := #[.pointer (some ⟨bx + 3, 0, none⟩), .pointer (some ⟨bx + 4, 0, none⟩)]) rfl (enters_of Try.func58 (by kernel_rfl) rfl) HTL (by decide) Kq.t (Kq.b hbs2 (Nat.le_refl _)) (Below.refl _ _)
    (fun W x vs h => by obtain ⟨_, _, rfl, _⟩ := h; rfl)
    (fun pre W => ∃ va vr, FdI w W bx (gathered pre) va vr) (fun _ _ _ => False) (FdI.own hbs2) (fun _ _ _ _ _ hs _ _ => hs) (fun pre W1 W2 ⟨va, vr, h⟩ hf => ⟨va, vr, h.fr hf hbs2⟩) ⟨_, _, hfd0⟩
    (fun x a' W => ∃ q A c, Bx5 W q x.lap x.rn x.num x.of (.slice A x.bs.length c) ∧ Sl eBy W A x.bs ∧ (A = none → c = 0) ∧ q ≠ bx ∧ q ≠ bx + 1 ∧ q ≠ bx + 2 ∧ a' = { tmps := #[.pointer (some ⟨g, 0, none⟩), .int .i64 (first : Int), undef, undef, .int .i64 0, .slice none 0 0, .pointer (some ⟨bx, 0, none⟩), .pointer (some ⟨bx + 1, 0, none⟩), .pointer (some ⟨bx + 2, 0, none⟩), .pointer (some ⟨q, 0, none⟩), .pointer (some ⟨g, 0, none⟩), .int .i64 (first : Int), .func (.func 58) #[] #[.pointer (some ⟨bx + 3, 0, none⟩), .pointer (some ⟨bx + 4, 0, none⟩)], ptV x A x.bs.length c, undef, undef, undef, undef, undef, undef, undef, undef, undef, undef, undef, undef, undef, undef, undef, undef, undef], defers := [] })
    (fun x a' _ _ _ _ hs hg hr => by obtain ⟨q, A, c, h1, h2, h3⟩ := hs; exact ⟨q, A, c, cells_keep h1 hg hr, h2.keeps (keeps_grown hg hr), h3⟩) ?assign ?body ?done ?stop
  case assign =>
    rintro l pre x vs W K ⟨va, vr, hi⟩ ⟨A, c, rfl, hsl, hA⟩ _ hK
    have bA : Below W.heap.size W (W.alloc (.cells (ptC x A x.bs.length c) 101)) := Below.alloc (Below.refl _ W) (Nat.le_refl _) _
    have hl2 := lt_of_heap hi.rcs
    have HK := Lib.hid (hK _ _ (keeps_below bA) (Kq.below bA hi.bel.size) ⟨va, vr, hi.below bA⟩ ⟨W.heap.size, A, c, heap_new _ _, hsl.below (Nat.le_refl _) bA, hA, by omega, by omega, by omega, rfl⟩)
    clear hK hi
    go_simp
    refine wpIn_region_lit (wpListIn_value rfl rfl (fun _ h => by cases h) (exec_alloc rfl (run_alloc101 _)) (wpListIn_unit rfl rfl (fun _ h => by cases h) (exec_store rfl rfl rfl (store101new _ _ rfl x A _ c)) (wpListIn_nil ?_)))
    exact HK.out
  case body =>
    rintro l pre x a' W ⟨va, vr, hi⟩ ⟨q, A, c, hq, hsl, hA, hq0, hq1, hq2, rfl⟩ hpre
    have hxm : x ∈ partsL H := hpre.subset (by simp)
    have hbl := partsL_bs H x hxm
    have hpl : pre.length ≤ 4096 := by
      have h1 := hpre.length_le
      have h2 := partsL_length H
      simp at h1
      omega
    have hgl := gathered_le pre (fun y hy => partsL_bs H y (hpre.subset (by simp [hy])))
    have HGS := Lib.hid (gathered_snoc pre x)
    generalize gathered pre = G at hi hgl HGS
    obtain ⟨Aa, ca, rfl, _⟩ := hi.row.form
    obtain ⟨xs, hxs, _⟩ := hi.all
    obtain ⟨Ar, cr, rfl, _⟩ := hxs.row.form
    obtain ⟨A', n', c', W1, hrun, hcl, hfz, hi2, hf2⟩ := hi.app hsl rfl hA (by omega)
    have hq2' := hq.fr hf2 (by simp) (by simp [hq1])
    have d1 := one_cell hi.acc
    have d4 := hq.c4
    have HRUN := Lib.hid hrun
    obtain ⟨na, hna⟩ : ∃ na, na = G.acc.length := ⟨_, rfl⟩
    obtain ⟨nx, hnx⟩ : ∃ nx, nx = xs.length := ⟨_, rfl⟩
    obtain ⟨nb, hnb⟩ : ∃ nb, nb = x.bs.length := ⟨_, rfl⟩
    rw [← hna] at d1 HRUN hcl
    rw [← hnx] at hi2
    rw [← hnb] at d4 HRUN hq2' ⊢
    have hbw : w.heap.size ≤ bx := hi.ge
    obtain ⟨W2, hW2⟩ : ∃ W2, W2 = W1.setCell ⟨bx + 1, 0, none⟩ (.slice A' n' c') := ⟨_, rfl⟩
    rw [← hW2] at hi2 hf2 hq2'
    have HW2 := Lib.hid hW2
    have e2 := hq2'.c2
    have e3 := hq2'.c3
    have hms : ∀ m ∈ [bx, bx + 1, bx + 2], ∃ cs t fr, W.heap[m]? = some (.cells cs t fr) := by
      intro m hm
      simp at hm
      rcases hm with rfl | rfl | rfl
      · exact ⟨_, _, _, hi.lap⟩
      · exact ⟨_, _, _, hi.acc⟩
      · exact ⟨_, _, _, hi.rcs⟩
    have HMS := Lib.hid hms
    by_cases he : x.num = x.of
    · have heb : ((x.num : Int) == (x.of : Int)) = true := by simp; omega
      have eG : gathered (pre ++ [x]) = ⟨[], G.rs ++ [G.acc ++ x.bs], x.lap⟩ := by rw [HGS.out]; simp [gth, he]
      obtain ⟨A5, n5, c5, W5, hrun5, k1, k2, k3, k4, hi7, hf7⟩ := hi2.whole x.lap (by have := hgl.2; simp only; omega)
      obtain ⟨W3, hW3⟩ : ∃ W3, W3 = W2.setCell ⟨bx, 0, none⟩ (.int .i64 (x.lap : Int)) := ⟨_, rfl⟩
      have fz0 : W2.frozen? ⟨bx, 0, none⟩ = false := by simp [World.frozen?, hi2.lap]
      have g0 := one_cell hi2.lap
      have f3 : Fr [] [bx] w.heap.size W2 W3 := by rw [hW3]; exact (Fr.refl _ _ _ _).set hi2.lap (.inr (by simp)) hbw _
      have m1 := one_cell (f3.keep _ _ hi2.acc (by simp) (by simp))
      have m2 := one_cell (f3.keep _ _ hi2.rcs (by simp) (by simp))
      have e0 := hq2'.c0
      rw [← hW3] at hrun5
      have HRUN5 := Lib.hid hrun5
      obtain ⟨W6, hW6⟩ : ∃ W6, W6 = W5.setCell ⟨bx + 2, 0, none⟩ (.slice A5 n5 c5) := ⟨_, rfl⟩
      rw [← hW6] at k3 k4 hi7 hf7
      have hfm : Fr [5, 38] [bx, bx + 1, bx + 2] w.heap.size W (W6.setCell ⟨bx + 1, 0, none⟩ (.slice none 0 0)) := (hf2.mono (by simp) (by simp)).trans (hf7.mono (by simp) (by simp))
      have HE : Hid (KeepsFrom w2.heap.size W (W6.setCell ⟨bx + 1, 0, none⟩ (.slice none 0 0)) ∧ Kq [5, 38] [bx, bx + 1, bx + 2] w.heap.size w2.heap.size W (W6.setCell ⟨bx + 1, 0, none⟩ (.slice none 0 0)) ∧ ∃ va vr, FdI w (W6.setCell ⟨bx + 1, 0, none⟩ (.slice none 0 0)) bx (gathered (pre ++ [x])) va vr) :=
        ⟨keepsFrom_fr hfm (by decide) (by decide) HMS.out, Kq.of_fr hfm, _, _, by rw [eG]; exact hi7⟩
      have HW3 := Lib.hid hW3
      have HW6 := Lib.hid hW6
      clear hi2 hf2 hq2' hi hxs hsl hq hgl hrun hna hnx hnb hms he eG hfm hpre hxm hbl hrun5 hi7 hf7 f3
      subst hW6 hW3
      have e2' := e2
      have e3' := e3
      rw [HW2.out] at e2' e3'
      gi_upto_if 22 with (gi_at_builtin; refine wpListIn_value rfl rfl (fun _ h => by cases h) (exec_append (s := .tmp 14) (x := .tmp 16) rfl rfl rfl HRUN.out) ?_)
      rw [← HW2.out]
      clear e2' e3' hW2
      gi_wp2_with (gi_at_builtin; refine wpListIn_value rfl rfl (fun _ h => by cases h) (exec_append (s := .tmp 25) (x := .tmp 27) rfl rfl rfl HRUN5.out) ?_)
      exact HE.out
    · have heb : ((x.num : Int) == (x.of : Int)) = false := by simp; omega
      have eG : gathered (pre ++ [x]) = ⟨G.acc ++ x.bs, G.rs, G.lap⟩ := by rw [HGS.out]; simp [gth, he]
      have hfm : Fr [5, 38] [bx, bx + 1, bx + 2] w.heap.size W W2 := hf2.mono (by simp) (by simp)
      have HE : Hid (KeepsFrom w2.heap.size W W2 ∧ Kq [5, 38] [bx, bx + 1, bx + 2] w.heap.size w2.heap.size W W2 ∧ ∃ va vr, FdI w W2 bx (gathered (pre ++ [x])) va vr) :=
        ⟨keepsFrom_fr hfm (by decide) (by decide) HMS.out, Kq.of_fr hfm, _, _, by rw [eG]; exact hi2⟩
      clear hi2 hf2 hq2' hi hxs hsl hq hgl hrun hna hnx hnb hW2 hms he eG hfm hpre hxm hbl
      rw [HW2.out] at e2 e3
      gi_wp2_with (gi_at_builtin; refine wpListIn_value rfl rfl (fun _ h => by cases h) (exec_append (s := .tmp 14) (x := .tmp 16) rfl rfl rfl HRUN.out) ?_)
      rw [← HW2.out]
      exact HE.out
  case done =>
    rintro D W hD ⟨va, vr, hi⟩ hK
    have hi1 := hi.below (Below.refl _ W).drew
    have hK1 : W.drew.heap[D]? = some (.deferred (some [])) := hK
    have HE : Hid (FdI w (W.drew.putObj D (.deferred none)) bx (gathered (partsL H)) va vr) :=
      hi1.keeps (keeps_grown (grownBy_putObj' W.drew D _) (b := 0) (fun r er => by cases er; exact ⟨Nat.zero_le _, _, hK1, rfl⟩)) (below_put _ hK1 (Nat.le_trans hbs2 hD))
    obtain ⟨xs, hxs, _⟩ := hi.all
    obtain ⟨Ar, cr, rfl, _⟩ := hxs.row.form
    obtain ⟨nx, hnx⟩ : ∃ nx, nx = xs.length := ⟨_, rfl⟩
    rw [← hnx] at HE hi
    have q0 : W.drew.cell? ⟨bx, 0, none⟩ = some (.int .i64 (GL.lap : Int)) := by rw [HGL.out]; exact one_cell hi.lap
    have q1 : W.drew.cell? ⟨bx + 2, 0, none⟩ = some (.slice Ar nx cr) := one_cell hi.rcs
    have HBW : Hid (w.heap.size ≤ bx + 3) := by show _ ≤ _; have := hi.ge; omega
    clear hi hi1 hxs hnx
    gi_wp2
    gi_region
    all_goals gi_wp2
    rw [← HGL.out] at HE
    obtain ⟨xs, hx, _⟩ := HE.out.all
    refine ⟨by simp, .inl ⟨_, _, rfl, run_takeDeferred hK1, ?_⟩⟩
    exact ⟨_, results_tmp2 rfl _ _ _, _, xs, rfl, hx.down HBW.out, HE.out.bel⟩
  case stop =>
    rintro D c pre W _ _ h _
    exact h.elim
end Go.Proofs.Ytppdckncnfffcaa
