/-
  Two disks side by side, a step of a script beside them: what each call leaves. Their conditions: steps and pending writes are below a bound.
-/
import Derived.Test.YtghfhjeaiiianaaW23
import Derived.Test.YtghfhjeaiiianaaOpen
namespace Go.Proofs.Ytghfhjeaiiianaa
open Go.RowKit
open Go.Sort (grow)

/-- A step of a script lies in block q. -/
def OB (W : World) (q : Nat) (x : OpR) : Prop := W.heap[q]? = some (.cells #[.int .i64 x.K, .int .i64 x.I, .slice x.A x.n x.c] 37 (0, 0))
structure Pl2 (w0 : World) (g h q : Nat) (x : OpR) (d1 d2 : Dk) (W : World) : Prop where
  st : St w0 W g d1
  rf : RefAt W w0.heap.size h d2
  ob : OB W q x
  xo : OpOk w0 x
structure Bd (d : Dk) (i : Nat) (n : Nat) : Prop where
  s : d.steps ≤ (i : Int)
  p : d.ps.length ≤ i
  k : d.K.length = n
section
variable {d : Dk} {i n : Nat}
theorem Bd.mono {j : Nat} (b : Bd d i n) (h : i ≤ j) : Bd d j n := ⟨by have := b.s; omega, by have := b.p; omega, b.k⟩
theorem Bd.step (b : Bd d i n) : Bd (stepD d) (i + 1) n := ⟨by have := stepD_steps d; have := b.s; omega, by rw [stepD_ps]; have := b.p; omega, by rw [stepD_K]; exact b.k⟩
theorem Bd.write (b : Bd d i n) (k : Int) (l : List UInt8) : Bd (writeD d k l) (i + 1) n := by
  unfold writeD
  split
  · split
    · have s := b.step
      exact ⟨s.s, by show (d.ps ++ [_]).length ≤ _; rw [List.length_append]; have := b.p; simp; omega, s.k⟩
    · exact b.step
  · exact b.mono (by omega)
theorem Bd.sync (b : Bd d i n) : Bd (if stepB d then keepD d else stepD d) (i + 1) n := by
  split
  · have s := b.step
    exact ⟨s.s, by show ([] : List Pw).length ≤ _; simp, by show (seen d.K d.ps).length = n; rw [seen_length]; exact b.k⟩
  · exact b.step
theorem Bd.fuse (b : Bd d i n) (k : Int) : Bd (fuseD d k) (i + 1) n := ⟨by have := b.s; show d.steps ≤ _; omega, by have := b.p; show d.ps.length ≤ _; omega, b.k⟩
theorem Bd.crash (b : Bd d i n) (cs : List UInt8) : Bd (crashD d cs) (i + 1) n := ⟨by have := b.s; show d.steps ≤ _; omega, by show ([] : List Pw).length ≤ _; simp, by show (crashN _ _ _ _).length = n; rw [crashN_length]; exact b.k⟩
end
section
variable {w0 W W' : World} {g h q : Nat} {x : OpR} {d d1 d2 : Dk} {A : Option Addr} {nb c : Nat} {l : List UInt8}
theorem Pl2.below (p : Pl2 w0 g h q x d1 d2 W) (hb : Below W.heap.size W W') : Pl2 w0 g h q x d1 d2 W' := ⟨p.st.below hb, p.rf.below hb, (hb.block q (lt_of_heap p.ob)).trans p.ob, p.xo⟩
theorem Pl2.fr {ks : List Nat} (p : Pl2 w0 g h q x d1 d2 W) (hf : Fr ks [] w0.heap.size W W') (h1 : 69 ∉ ks) (h2 : 72 ∉ ks) (h3 : 74 ∉ ks) (h4 : 47 ∉ ks) (h5 : 9 ∉ ks) (h6 : 3 ∉ ks) (h7 : 37 ∉ ks) : Pl2 w0 g h q x d1 d2 W' :=
  ⟨⟨p.st.dk.keep hf h1 h2 h3 (by simp), p.st.bel.trans hf.below⟩, p.rf.keep hf h4 h5 h6 (by simp), hf.keep q _ p.ob (by simpa [kd] using h7) (by simp), p.xo⟩
theorem Pl2.one (p : Pl2 w0 g h q x d1 d2 W) (hf : Fr kD [] w0.heap.size W W') (s : St w0 W' g d) : Pl2 w0 g h q x d d2 W' :=
  ⟨s, p.rf.keep hf (by simp) (by simp) (by simp) (by simp), hf.keep q _ p.ob (by simp [kd]) (by simp), p.xo⟩
theorem Pl2.two (p : Pl2 w0 g h q x d1 d2 W) (hf : Fr kR [] w0.heap.size W W') (r : RefAt W' w0.heap.size h d) : Pl2 w0 g h q x d1 d W' :=
  ⟨⟨p.st.dk.keep hf (by simp) (by simp) (by simp) (by simp), p.st.bel.trans hf.below⟩, r, hf.keep q _ p.ob (by simp [kd]) (by simp), p.xo⟩
theorem Pl2.c0 (p : Pl2 w0 g h q x d1 d2 W) : W.cell? ⟨q, 0, none⟩ = some (.int .i64 x.K) := by rw [cell_of p.ob]; rfl
theorem Pl2.c1 (p : Pl2 w0 g h q x d1 d2 W) : W.cell? ⟨q, 1, none⟩ = some (.int .i64 x.I) := by rw [cell_of p.ob]; rfl
theorem Pl2.c2 (p : Pl2 w0 g h q x d1 d2 W) : W.cell? ⟨q, 2, none⟩ = some (.slice x.A x.n x.c) := by rw [cell_of p.ob]; rfl
theorem Pl2.sl (p : Pl2 w0 g h q x d1 d2 W) : Sl eBy W x.A x.l := p.xo.b.below (Nat.le_refl _) p.st.bel
theorem p_write (p : Pl2 w0 g h q x d d2 W) (i : Int) (hs : d.steps ≤ 1000000) (hp : d.ps.length ≤ 100000) (hb : RowT eBy 5 W w0.heap.size (.slice A nb c) l) (hl : l.length = nb) (hm : nb ≤ maxLen) :
    Calls Try.prog 9 #[.pointer (some ⟨g, 0, none⟩), .int .i64 i, .slice A nb c] W fun r w' => r = .returned (.int .i64 (writeR d i l)) ∧ Pl2 w0 g h q x (writeD d i l) d2 w' ∧ RowT eBy 5 w' w0.heap.size (.slice A nb c) l := by
  refine (st_write p.st i l A nb c hs hp hl (fun w' hf => row_keep hb rfl (by omega) hf)).mono ?_
  rintro r w' ⟨rfl, s, f⟩
  exact ⟨rfl, p.one f s, hb.fr f (by simp) (by simp)⟩
theorem p_rwrite (p : Pl2 w0 g h q x d1 d W) (i : Int) (hs : d.steps ≤ 1000000) (hp : d.ps.length ≤ 100000) (hb : RowT eBy 5 W w0.heap.size (.slice A nb c) l) :
    Calls Try.prog 17 #[.pointer (some ⟨h, 0, none⟩), .int .i64 i, .string (txt l)] W fun r w' => r = .returned (.int .i64 (writeR d i l)) ∧ Pl2 w0 g h q x d1 (writeD d i l) w' ∧ RowT eBy 5 w' w0.heap.size (.slice A nb c) l := by
  refine (rwrite_any _ h d i l W p.rf hs hp).mono ?_
  rintro r w' ⟨rfl, s, f⟩
  exact ⟨rfl, p.two f s, hb.fr f (by simp) (by simp)⟩
theorem p_sync (p : Pl2 w0 g h q x d d2 W) (hs : d.steps ≤ 1000000) : Calls Try.prog 11 #[.pointer (some ⟨g, 0, none⟩)] W fun r w' => r = .returned (.int .i64 (if stepB d then 0 else 7)) ∧ Pl2 w0 g h q x (if stepB d then keepD d else stepD d) d2 w' := by
  refine (st_sync p.st hs).mono ?_
  rintro r w' ⟨rfl, s, f⟩
  exact ⟨rfl, p.one f s⟩
theorem p_rsync (p : Pl2 w0 g h q x d1 d W) (hs : d.steps ≤ 1000000) : Calls Try.prog 18 #[.pointer (some ⟨h, 0, none⟩)] W fun r w' => r = .returned (.int .i64 (if stepB d then 0 else 7)) ∧ Pl2 w0 g h q x d1 (if stepB d then keepD d else stepD d) w' := by
  refine (rsync_any _ h d W p.rf hs).mono ?_
  rintro r w' ⟨rfl, s, f⟩
  exact ⟨rfl, p.two f s⟩
theorem p_fuse (p : Pl2 w0 g h q x d d2 W) : Calls Try.prog 21 #[.pointer (some ⟨g, 0, none⟩), .int .i64 x.I] W fun r w' => r = .returned (.tuple #[]) ∧ Pl2 w0 g h q x (fuseD d x.I) d2 w' := by
  refine (st_fuse p.st x.I (by have := bounds_i64 p.xo.i; omega)).mono ?_
  rintro r w' ⟨rfl, s, f⟩
  exact ⟨rfl, p.one f s⟩
theorem p_rfuse (p : Pl2 w0 g h q x d1 d W) : Pl2 w0 g h q x d1 (fuseD d x.I) (W.setCell ⟨h, 4, none⟩ (.int .i64 (max x.I (-1)))) ∧ W.frozen? ⟨h, 4, none⟩ = false ∧ ∃ y, W.cell? ⟨h, 4, none⟩ = some (.int .i64 y) := by
  obtain ⟨kv, sv, av, wv, b, r3⟩ := p.rf.ex
  have f : Fr [47] [] w0.heap.size W (W.setCell ⟨h, 4, none⟩ (.int .i64 (max x.I (-1)))) := (Fr.refl _ _ _ _).set b (.inl (by simp [kd])) p.rf.bh _
  exact ⟨p.two (f.mono (by simp) (by simp)) ⟨⟨kv, sv, av, wv, b.set4 _, r3.fr f (by simp) (by simp) (by simp)⟩, p.rf.bh, p.rf.good.fuse (by have := bounds_i64 p.xo.i; omega)⟩, b.frozen 4, _, b.c4⟩
theorem p_crash (p : Pl2 w0 g h q x d d2 W) (hp : d.ps.length ≤ 100000) : Calls Try.prog 22 #[.pointer (some ⟨g, 0, none⟩), .slice x.A x.n x.c] W fun r w' => r = .returned (.tuple #[]) ∧ Pl2 w0 g h q x (crashD d x.l) d2 w' := by
  refine (st_crash p.st x.l x.A x.n x.c p.xo.n hp (fun w' hf => p.xo.b.below (Nat.le_refl _) (p.st.bel.trans hf.below))).mono ?_
  rintro r w' ⟨rfl, s, f⟩
  exact ⟨rfl, p.one f s⟩
theorem p_rcrash (p : Pl2 w0 g h q x d1 d W) (hp : d.ps.length ≤ 100000) : Calls Try.prog 23 #[.pointer (some ⟨h, 0, none⟩), .slice x.A x.n x.c] W fun r w' => r = .returned (.tuple #[]) ∧ Pl2 w0 g h q x d1 (crashD d x.l) w' := by
  refine (rcrash_any _ h d x.l x.A x.n x.c W p.rf p.xo.n hp (fun w' hf => p.xo.b.below (Nat.le_refl _) (p.st.bel.trans hf.below))).mono ?_
  rintro r w' ⟨rfl, s, f⟩
  exact ⟨rfl, p.two f s⟩
theorem p_read (p : Pl2 w0 g h q x d d2 W) (i : Int) : Calls Try.prog 19 #[.pointer (some ⟨g, 0, none⟩), .int .i64 i] W fun r w' => ∃ v, r = .returned (.tuple #[v, .int .i64 (readR d i)]) ∧ OwnB w' W.heap.size v (readL d i) ∧ Below W.heap.size W w' := by
  refine (st_read p.st i).mono ?_
  rintro r w' ⟨v, rfl, o, _, b⟩
  exact ⟨v, rfl, o, b⟩
theorem p_rread (p : Pl2 w0 g h q x d1 d W) (i : Int) : Calls Try.prog 20 #[.pointer (some ⟨h, 0, none⟩), .int .i64 i] W fun e w' => e = .returned (.tuple #[.string (txt (readL d i)), .int .i64 (readR d i)]) ∧ W = w' := rread_any _ h d i W p.rf
/-- A byte of a row of bytes is written over. -/
theorem rowB_at {base : Nat} (h : RowT eBy 5 W base (.slice A nb c) l) (hl : l.length = nb) {k : Nat} (hk : k < nb) : ∃ q, A = some ⟨q, 0, none⟩ ∧ W.cell? ⟨q, k, none⟩ = some (.int .u8 ((l.getD k 0).toNat : Int)) ∧ W.frozen? ⟨q, k, none⟩ = false ∧
    ∀ x : UInt8, RowT eBy 5 (W.setCell ⟨q, k, none⟩ (.int .u8 (x.toNat : Int))) base (.slice A nb c) (l.set k x) ∧ Fr [5] [] base W (W.setCell ⟨q, k, none⟩ (.int .u8 (x.toNat : Int))) := by
  subst hl
  rcases h.2 with ⟨hv, hn⟩ | ⟨g', cap, cur, hv, hb, hg, hle, hm, hsz, htk⟩
  · omega
  · simp only [Value.slice.injEq] at hv
    obtain ⟨rfl, -, rfl⟩ := hv
    have htk' := htk
    rw [eBy_vals, show eBy.wd = 1 from rfl, Nat.mul_one] at htk'
    refine ⟨g', rfl, ?_, by simp [World.frozen?, hg], fun x => ⟨⟨by rw [eBy.vals_length], .inr ⟨g', c, cur.setIfInBounds k (.int .u8 (x.toNat : Int)), by rw [List.length_set], hb, ?_, by rw [List.length_set]; exact hle, hm, by simpa using hsz, ?_⟩⟩, ?_⟩⟩
    · have h2 : (bv l)[k]? = some (.int .u8 ((l.getD k 0).toNat : Int)) := by
        unfold bv
        rw [List.getElem?_map, List.getD_eq_getElem?_getD, List.getElem?_eq_getElem hk]
        rfl
      rw [← htk', List.getElem?_take, if_pos hk] at h2
      rw [cell_of hg]
      simpa using h2
    · simp [World.setCell, Array.getElem?_modify, hg]
    · rw [List.length_set, Array.toList_setIfInBounds, eBy_vals, show eBy.wd = 1 from rfl, Nat.mul_one, List.take_set, htk']
      simp [bv, List.map_set]
    · exact (Fr.refl _ _ _ _).set hg (.inl (by simp [kd])) hb _
theorem ownB_at {base : Nat} (h : OwnB W base (.slice A nb c) l) (hl : l.length = nb) {k : Nat} (hk : k < nb) : ∃ q, A = some ⟨q, 0, none⟩ ∧ W.cell? ⟨q, k, none⟩ = some (.int .u8 ((l.getD k 0).toNat : Int)) ∧ W.frozen? ⟨q, k, none⟩ = false ∧
    ∀ x : UInt8, OwnB (W.setCell ⟨q, k, none⟩ (.int .u8 (x.toNat : Int))) base (.slice A nb c) (l.set k x) ∧ Below base W (W.setCell ⟨q, k, none⟩ (.int .u8 (x.toNat : Int))) := by
  subst hl
  obtain ⟨A', c', hv, sl, -⟩ := h.form
  simp only [Value.slice.injEq] at hv
  obtain ⟨rfl, -, rfl⟩ := hv
  have h' := h
  rcases h' with ⟨hv, rfl⟩ | ⟨q, t, C, c', hv, hq, -⟩
  · simp at hk
  · simp only [Value.slice.injEq] at hv
    obtain ⟨rfl, -, rfl⟩ := hv
    obtain ⟨b, off, hA, -, hc⟩ := at_by sl hk
    simp only [Option.some.injEq, Addr.mk.injEq, and_true] at hA
    obtain ⟨rfl, rfl⟩ := hA
    rw [Nat.zero_add] at hc
    refine ⟨q, rfl, by rw [hc, List.getD_eq_getElem?_getD, List.getElem?_eq_getElem hk]; rfl, by simp [World.frozen?, hq], fun x => ?_⟩
    obtain ⟨h1, _, h3, _⟩ := h.set k x
    exact ⟨h1, (Below.refl _ _).setCell h3 _⟩
end
theorem u8_next (y : UInt8) : IntKind.u8.wrap ((y.toNat : Int) + 1) = ((y + 1).toNat : Int) := by
  rw [UInt8.toNat_add]
  show (((y.toNat : Int) + 1) % 256) = _
  have : (1 : UInt8).toNat = 1 := rfl
  omega
/-- A copy of any length. -/
theorem copy_wide {w : World} {A : Option Addr} {n c : Nat} {l : List UInt8} (hs : Sl eBy w A l) (hl : l.length = n) (hA : A = none → c = 0) (hb : n ≤ 140737488351232) :
    ∃ A' c' w3, (Builtin.append_ #[29, 29] 29 #[.slice (some ⟨w.heap.size, 0, none⟩) 0 0, .slice A n c]).run Try.prog (w.alloc (.cells #[] 5)) = .ok (.slice A' n c') w3 ∧ RowT eBy 5 w3 w.heap.size (.slice A' n c') l ∧ Below w.heap.size w w3 := by
  subst hl
  have b2 : Below w.heap.size w (w.alloc (.cells #[] 5)) := Below.alloc (Below.refl _ _) (Nat.le_refl _) _
  have r0 := RowT.empty (E := eBy) (e := 5) w
  cases A with
  | none =>
    have hl : l = [] := by
      cases l with
      | nil => rfl
      | cons c l => obtain ⟨b, off, hA, _⟩ := hs.2 (by simp); simp at hA
    subst hl
    rw [hA rfl]
    obtain ⟨v', w3, hr, r3, b3⟩ := r0.grow el29 rfl b2 (sl_nil none) (n := 0) (c := 0) rfl (fun _ => rfl) (by simp)
    obtain ⟨A', c', hv⟩ := r3.len
    rw [List.append_nil] at r3 hv
    subst hv
    exact ⟨A', c', w3, hr, r3, b3⟩
  | some ad =>
    obtain ⟨z, by_, hinf, hzs, hby⟩ := el29.info
    obtain ⟨i, hi, hz0, hz1, hz2⟩ := info_parts hinf
    have hby1 : by_ = 1 := by
      have e : (Try.prog.info? 5).map (fun i => i.bytes) = some 1 := by kernel_rfl
      rw [hi] at e
      simp at e
      omega
    have hs2 := hs.below (Nat.le_refl _) b2
    obtain ⟨v', w3, hr, ho, hg, _⟩ := run_append_own_wide (P := Try.prog) (w.alloc (.cells #[] 5)) w.heap.size 29 29 5 i z eBy.wd by_ el29.und hi hz0 hz1 hz2 hzs eBy.pos _ 0 (eBy.vals []) r0 ad l.length c (eBy.vals l) (eBy.vals_length l) hs2.news (eBy.vals_one l) (by have := hs.1; omega) (by rw [hby1]; omega) b2.size
    rw [Nat.zero_add] at ho
    have r3 : RowT eBy 5 w3 w.heap.size v' l := by simpa [RowT, Enc.vals] using ho
    obtain ⟨A', c', hv⟩ := r3.len
    subst hv
    exact ⟨A', c', w3, hr, r3, b2.grown hg b2.size (fun k hk => by simp [Value.ownBlock] at hk; omega)⟩
end Go.Proofs.Ytghfhjeaiiianaa
