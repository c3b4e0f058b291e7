/-
  JournalWhole's walk. Its conditions: the argument reads as lives.
-/
import Derived.Test.YtppdckncnfffcaaG5
import Derived.Test.YtppdckncnfffcaaM5
import Derived.Deep.CutBlock
namespace Go.Proofs.Ytppdckncnfffcaa
open Go.RowKit
open Go.Sort (grow)
set_option maxRecDepth 100000

/-- What is the case ahead of a round. -/
structure WhS (w W : World) (g dg : Nat) (j : Jn) (d : Dk) (N n i : Nat) (st : Bool) (v : Value) (rs : List (List UInt8)) : Prop where
  run : Run w W g dg j d
  wh : Wh d j n i st rs
  len : d.K.length = N
  row : RowT eKy 9 W w.heap.size v (rs.map txt)
  st : d.steps ≤ 200 * i
/-- A life in memory beside the journal, and two rows of texts. -/
structure Liv (w W : World) (g dg q : Nat) (x : LfX) (j : Jn) (d : Dk) (hv mv : Value) (rs may : List (List UInt8)) : Prop where
  run : Run w W g dg j d
  lb : W.heap[q]? = some (.cells #[.bool x.S, x.B.x.v, .int .i64 x.F, x.C.x.v] 54)
  row : RowT eKy 9 W w.heap.size hv (rs.map txt)
  mrow : RowT eKy 9 W w.heap.size mv (may.map txt)
  ap : Apart mv hv
section
variable {w W W' : World} {g dg q : Nat} {x : LfX} {j j' : Jn} {d d' : Dk} {hv mv : Value} {rs may : List (List UInt8)}
theorem Liv.below (h : Liv w W g dg q x j d hv mv rs may) (hb : Below W.heap.size W W') : Liv w W' g dg q x j d hv mv rs may :=
  ⟨h.run.below hb, (hb.block q (lt_of_heap h.lb)).trans h.lb, h.row.below hb, h.mrow.below hb, h.ap⟩
theorem Liv.drew (h : Liv w W g dg q x j d hv mv rs may) : Liv w W.drew g dg q x j d hv mv rs may := h.below (Below.refl _ _).drew
theorem Liv.ne (h : Liv w W g dg q x j d hv mv rs may) : q ≠ g := by
  intro e
  have h1 := h.lb
  have h2 := h.run.jb
  unfold JBox at h2
  rw [e, h2] at h1
  cases h1
theorem Liv.fr (h : Liv w W g dg q x j d hv mv rs may) (hf : Fr kD [g] w.heap.size W W') (hr : Run w W' g dg j' d') : Liv w W' g dg q x j' d' hv mv rs may := by
  have hm : ∀ i ∈ [g], ∃ o, W.heap[i]? = some o ∧ kd o ≠ 9 := fun i hi => by
    simp at hi
    subst hi
    exact ⟨_, h.run.jb, by simp [kd]⟩
  exact ⟨hr, hf.keep q _ h.lb (by simp [kd, kD]) (by simpa using h.ne), h.row.fr hf (by simp [kD]) hm, h.mrow.fr hf (by simp [kD]) hm, h.ap⟩
theorem Liv.c0 (h : Liv w W g dg q x j d hv mv rs may) : W.cell? ⟨q, 0, none⟩ = some (.bool x.S) := by rw [cell_of h.lb]; rfl
theorem Liv.c1 (h : Liv w W g dg q x j d hv mv rs may) : W.cell? ⟨q, 1, none⟩ = some (.slice x.B.x.A x.B.x.n x.B.x.c) := by rw [cell_of h.lb]; rfl
theorem Liv.c2 (h : Liv w W g dg q x j d hv mv rs may) : W.cell? ⟨q, 2, none⟩ = some (.int .i64 x.F) := by rw [cell_of h.lb]; rfl
theorem Liv.c3 (h : Liv w W g dg q x j d hv mv rs may) : W.cell? ⟨q, 3, none⟩ = some (.slice x.C.x.A x.C.x.n x.C.x.c) := by rw [cell_of h.lb]; rfl
/-- A fuse is set. -/
theorem Liv.fuse (h : Liv w W g dg q x j d hv mv rs may) (n : Int) (hn : n ≤ 9223372036854775807) : Calls Try.prog 29 #[.pointer (some ⟨dg, 0, none⟩), .int .i64 n] W fun r w' => r = .returned (.tuple #[]) ∧ Liv w w' g dg q x j (fuseD d n) hv mv rs may := by
  refine (st_fuse h.run.st n hn).mono ?_
  rintro r w' ⟨rfl, s, f⟩
  have f' : Fr kD [g] w.heap.size W w' := f.mono (fun _ h => h) (by simp)
  exact ⟨rfl, h.fr f' (s.run (h.run.jb.fr f (by simp) (by simp)) h.run.ge)⟩
theorem Liv.start (h : Liv w W g dg q x j d hv mv rs may) {b : ByX} (hb : ByOk w b) (hlen : 2 * j.size ≤ d.K.length) (hsz : 0 < j.size) (hfree : j.free ≤ j.size) (hr : b.x.n ≤ 1000000) (hst : d.steps ≤ 900000) (hps : d.ps.length ≤ 90000) :
    Calls Try.prog 17 #[.pointer (some ⟨g, 0, none⟩), .slice b.x.A b.x.n b.x.c] W fun r w' => r = .returned (.int .i64 (startF d j b.l).2.2) ∧ Liv w w' g dg q x (startF d j b.l).2.1 (startF d j b.l).1 hv mv rs may := by
  refine (run_start h.run hb hlen hsz hfree hr hst hps).mono ?_
  rintro r w' ⟨rfl, a, f⟩
  exact ⟨rfl, h.fr f a⟩
theorem Liv.append (h : Liv w W g dg q x j d hv mv rs may) {b : ByX} (hb : ByOk w b) (hs2 : j.size ≤ 4096) (hus : j.used ≤ j.size) (hfs : j.first + j.size ≤ d.K.length) (hrc : j.recs ≤ 4096) (hr : b.x.n ≤ 1000000) (hst : d.steps ≤ 900000) (hps : d.ps.length ≤ 90000) :
    Calls Try.prog 15 #[.pointer (some ⟨g, 0, none⟩), .slice b.x.A b.x.n b.x.c] W fun r w' => r = .returned (.int .i64 (appendF d j b.l).2.2) ∧ Liv w w' g dg q x (appendF d j b.l).2.1 (appendF d j b.l).1 hv mv rs may := by
  refine (run_append h.run hb hs2 hus hfs hrc hr hst hps).mono ?_
  rintro r w' ⟨rfl, a, f⟩
  exact ⟨rfl, h.fr f a⟩
theorem Liv.crash (h : Liv w W g dg q x j d hv mv rs may) {b : ByX} (hb : ByOk w b) (hp : d.ps.length ≤ 100000) : Calls Try.prog 30 #[.pointer (some ⟨dg, 0, none⟩), .slice b.x.A b.x.n b.x.c] W fun r w' => r = .returned (.tuple #[]) ∧ Liv w w' g dg q x j (crashD d b.l) hv mv rs may := by
  refine (st_crash h.run.st b.l b.x.A b.x.n b.x.c hb.n hp (fun w' hf => hb.s.below (Nat.le_refl _) (h.run.bel.trans hf.below))).mono ?_
  rintro r w' ⟨rfl, s, f⟩
  have f' : Fr kD [g] w.heap.size W w' := f.mono (fun _ h => h) (by simp)
  exact ⟨rfl, h.fr f' (s.run (h.run.jb.fr f (by simp) (by simp)) h.run.ge)⟩
theorem Liv.same (h : Liv w W g dg q x j d hv mv rs may) {gv : Value} {gs : List (List UInt8)} {B : Nat} (hg : RowT eKy 9 W B gv (gs.map txt)) {A A2 A3 : Option Addr} {n c n2 c2 n3 c3 : Nat} (h1 : gv = .slice A n c) (h2 : hv = .slice A2 n2 c2) (h3 : mv = .slice A3 n3 c3) (hn : n ≤ 100000) :
    (Calls Try.prog 22 #[.slice A n c, .slice A2 n2 c2] W fun r w' => r = .returned (.bool (decide (gs = rs))) ∧ Below W.heap.size W w') ∧ (Calls Try.prog 22 #[.slice A n c, .slice A3 n3 c3] W fun r w' => r = .returned (.bool (decide (gs = may))) ∧ Below W.heap.size W w') := by
  obtain ⟨A', c', e1, s1, _⟩ := hg.sl hg.small
  obtain ⟨B', k', e2, s2, _⟩ := h.row.sl h.row.small
  obtain ⟨C', m', e3, s3, _⟩ := h.mrow.sl h.mrow.small
  rw [h1] at e1
  rw [h2] at e2
  rw [h3] at e3
  injection e1 with e1 e4 e5
  injection e2 with e2 e6 e7
  injection e3 with e3 e8 e9
  subst e1 e2 e3
  have d1 : decide (gs.map txt = rs.map txt) = decide (gs = rs) := by
    by_cases e : gs = rs
    · simp [e]
    · rw [decide_eq_false e, decide_eq_false (fun h => e (map_inj h))]
  have d2 : decide (gs.map txt = may.map txt) = decide (gs = may) := by
    by_cases e : gs = may
    · simp [e]
    · rw [decide_eq_false e, decide_eq_false (fun h => e (map_inj h))]
  have a := same_any (gs.map txt) (rs.map txt) A A2 n c n2 c2 W s1 s2 e4.symm e6.symm hn
  have b := same_any (gs.map txt) (may.map txt) A A3 n c n3 c3 W s1 s3 e4.symm e8.symm hn
  rw [d1] at a
  rw [d2] at b
  exact ⟨a, b⟩
theorem Liv.copy {Ah : Option Addr} {nh ch : Nat} (h : Liv w W g dg q x j d (.slice Ah nh ch) mv rs may) (hl : rs.length ≤ 1000) :
    ∃ va W', (Builtin.append_ #[33, 33] 33 #[.slice (some ⟨W.heap.size, 0, none⟩) 0 0, .slice Ah nh ch]).run Try.prog (W.alloc (.cells #[] 9)) = .ok va W' ∧ Liv w W' g dg q x j d (.slice Ah nh ch) va rs rs := by
  have bA : Below W.heap.size W (W.alloc (.cells #[] 9)) := (Below.refl _ _).alloc (Nat.le_refl _) _
  obtain ⟨A', c', e1, s1, _, hz, _⟩ := h.row.sl h.row.small
  injection e1 with e1 e2 e3
  subst e1 e3
  obtain ⟨va, W', hr, ho, hb⟩ := (RowT.empty (E := eKy) (e := 9) W).grow el33 rfl bA (s1.below (Nat.le_refl _) bA) e2.symm hz (by rw [e2]; simp; omega)
  have hL := h.below hb
  refine ⟨va, W', hr, hL.run, hL.lb, hL.row, ?_, fun k hk he => ?_⟩
  · have := ho.down h.run.bel.size
    simpa using this
  · have h1 := (ho.own hk).1
    have h2 := h.row.lt k he
    omega
theorem Liv.lit (h : Liv w W g dg q x j d hv mv rs may) (r : List UInt8) : Liv w (W.alloc (.cells #[.string (txt r)] 9)) g dg q x j d hv (.slice (some ⟨W.heap.size, 0, none⟩) 1 1) rs [r] := by
  have bA : Below W.heap.size W (W.alloc (.cells #[.string (txt r)] 9)) := (Below.refl _ _).alloc (Nat.le_refl _) _
  have hL := h.below bA
  refine ⟨hL.run, hL.lb, hL.row, (RowT.one (E := eKy) (e := 9) W (txt r)).down h.run.bel.size, fun k hk he => ?_⟩
  have h1 : W.heap.size = k := by simpa [Value.ownBlock] using hk
  have h2 := h.row.lt k he
  omega
theorem Liv.more (h : Liv w W g dg q x j d hv mv rs may) (r : List UInt8) (hl : may.length ≤ 1000) :
    ∃ va W', (Builtin.append_ #[33, 33] 33 #[mv, .slice (some ⟨W.heap.size, 0, none⟩) 1 1]).run Try.prog (W.alloc (.cells #[.string (txt r)] 9)) = .ok va W' ∧ Liv w W' g dg q x j d hv va rs (may ++ [r]) := by
  have bA : Below W.heap.size W (W.alloc (.cells #[.string (txt r)] 9)) := (Below.refl _ _).alloc (Nat.le_refl _) _
  have hL := h.below bA
  obtain ⟨va, W', hr, ho, hg, how⟩ := hL.mrow.app_own el33 hL.run.bel.size (sl_one (E := eKy) W (txt r) 9) rfl (by simp) (by simp; omega)
  have hf := hL.mrow.fr_app hg hL.run.bel.size
  refine ⟨va, W', hr, ⟨hL.run.jb.fr hf (by simp) (by simp), hL.run.dk.keep hf (by simp) (by simp) (by simp) (by simp), hL.run.bel.trans hf.below, hL.run.ge⟩, hf.keep q _ hL.lb (by simp [kd]) (by simp), hL.row.past hg hL.ap.symm, ?_, Apart.of hL.ap hL.row.lt how⟩
  simpa using ho
end
set_option maxHeartbeats 1000000 in
/-- Append of a journal that is over. -/
theorem jappend_over {W : World} {g dg : Nat} {j : Jn} (hj : JBox W g dg j) (ho : j.over = true) (A : Option Addr) (n c : Nat) : Calls Try.prog 15 #[.pointer (some ⟨g, 0, none⟩), .slice A n c] W fun r w' => r = .returned (.int .i64 7) ∧ W = w' := by
  have CB := Lib.hid (bload_any hj.c8)
  rw [ho] at CB
  clear hj ho
  go_enter Try.func15, Try.ntmps15
  go_wp2_with (go_at_call 38; refine CB.out.mono ?_; rintro r w1 ⟨rfl, rfl⟩)
  go_ret
  exact ⟨rfl, rfl⟩
theorem room_over {j : Jn} (h : j.over = true) : roomN j = 0 := by
  unfold roomN
  rw [h]
  split <;> rfl
theorem crash_none {d : Dk} (h : Qt d) (cs : List UInt8) : crashD d cs = d := by
  have h1 := h.ps
  have h2 := h.fu
  have h3 := h.dn
  cases d
  simp at h1 h2 h3
  subst h1 h2 h3
  rfl
theorem Led.fits {d : Dk} {j : Jn} {rs : List (List UInt8)} (h : Led d j rs) : j.first + j.size ≤ d.K.length := by
  have h1 := h.f
  have h2 := h.len
  omega
theorem by_none (w : World) : ByOk w ⟨⟨none, 0, 0⟩, []⟩ := ⟨sl_nil _, rfl, Nat.le_refl _, fun _ => rfl⟩
end Go.Proofs.Ytppdckncnfffcaa
