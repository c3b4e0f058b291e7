/-
  A journal and its disk that run: the contracts of all calls in one form. Their conditions: the journal, its disk and what is handed in lie in memory.
-/
import Derived.Test.YtppdckncnfffcaaOpen
import Derived.Test.YtppdckncnfffcaaM2
namespace Go.Proofs.Ytppdckncnfffcaa
open Go.RowKit
set_option maxRecDepth 100000

/-- A journal on its disk, in memory that is new since w0. -/
structure Run (w0 W : World) (g dg : Nat) (j : Jn) (d : Dk) : Prop where
  jb : JBox W g dg j
  dk : DiskAt W w0.heap.size dg d
  bel : Below w0.heap.size w0 W
  ge : w0.heap.size ≤ g
section
variable {w0 W W' : World} {g g2 dg : Nat} {j j2 : Jn} {d d2 : Dk}
theorem Run.below (h : Run w0 W g dg j d) (hb : Below W.heap.size W W') : Run w0 W' g dg j d := ⟨h.jb.below hb, h.dk.below hb, h.bel.trans (hb.mono h.bel.size), h.ge⟩
theorem Run.drew (h : Run w0 W g dg j d) : Run w0 W.drew g dg j d := h.below (Below.refl _ _).drew
theorem Run.st (h : Run w0 W g dg j d) : St w0 W dg d := ⟨h.dk, h.bel⟩
theorem St.run (h : St w0 W dg d) (hj : JBox W g dg j) (hg : w0.heap.size ≤ g) : Run w0 W g dg j d := ⟨hj, h.dk, h.bel, hg⟩
/-- Another journal of the disk, past a call. -/
theorem Run.other (h : Run w0 W g dg j d) (h2 : Run w0 W' g2 dg j2 d2) (hf : Fr kD [g2] w0.heap.size W W') (hne : g ≠ g2) : Run w0 W' g dg j d2 := ⟨h.jb.fr hf (by simp) (by simpa using hne), h2.dk, h2.bel, h.ge⟩
theorem run_lap (h : Run w0 W g dg j d) : Calls Try.prog 28 #[.pointer (some ⟨g, 0, none⟩)] W fun r w' => r = .returned (.int .i64 (j.lap : Int)) ∧ W = w' := lap_any g dg j W h.jb
theorem run_room (h : Run w0 W g dg j d) (hs : j.size ≤ 4096) (hu : j.used ≤ j.size) : Calls Try.prog 24 #[.pointer (some ⟨g, 0, none⟩)] W fun r w' => r = .returned (.int .i64 (roomN j : Int)) ∧ Below W.heap.size W w' := jroom_any g dg j W h.jb hs hu
def RPost (w0 W : World) (g dg : Nat) (X : Dk × Jn × Int) (r : Ending) (w' : World) : Prop := r = .returned (.int .i64 X.2.2) ∧ Run w0 w' g dg X.2.1 X.1 ∧ Fr kD [g] w0.heap.size W w'
theorem run_start {b : ByX} (h : Run w0 W g dg j d) (hb : ByOk w0 b) (hlen : 2 * j.size ≤ d.K.length) (hsz : 0 < j.size) (hfree : j.free ≤ j.size) (hr : b.x.n ≤ 1000000) (hst : d.steps ≤ 900000) (hps : d.ps.length ≤ 90000) :
    Calls Try.prog 17 #[.pointer (some ⟨g, 0, none⟩), .slice b.x.A b.x.n b.x.c] W (RPost w0 W g dg (startF d j b.l)) := by
  refine (jstart_any g dg w0.heap.size b.x.n b.x.c j d b.l b.x.A W h.jb h.dk hlen hsz hfree h.ge h.bel.size hb.n hb.c hb.z hr (by omega) (by omega) (fun w' hf => hb.s.below (Nat.le_refl _) (h.bel.trans hf.below))).mono ?_
  rintro r w' ⟨h1, h2, h3, h4⟩
  exact ⟨h1, ⟨h3, h2, h.bel.trans h4.below, h.ge⟩, h4⟩
theorem run_append {b : ByX} (h : Run w0 W g dg j d) (hb : ByOk w0 b) (hs2 : j.size ≤ 4096) (hus : j.used ≤ j.size) (hfs : j.first + j.size ≤ d.K.length) (hrc : j.recs ≤ 4096) (hr : b.x.n ≤ 1000000) (hst : d.steps ≤ 900000) (hps : d.ps.length ≤ 90000) :
    Calls Try.prog 15 #[.pointer (some ⟨g, 0, none⟩), .slice b.x.A b.x.n b.x.c] W (RPost w0 W g dg (appendF d j b.l)) := by
  refine (jappend_any g dg w0.heap.size b.x.n b.x.c j d b.l b.x.A W h.jb h.dk hs2 hus hfs hrc h.ge h.bel.size hb.n hb.c hb.z hr (by omega) (by omega) (fun w' hf => hb.s.below (Nat.le_refl _) (h.bel.trans hf.below))).mono ?_
  rintro r w' ⟨h1, h2, h3, h4⟩
  exact ⟨h1, ⟨h3, h2, h.bel.trans h4.below, h.ge⟩, h4⟩
def OPost (w0 W : World) (dg n : Nat) (d : Dk) (r : Ending) (w' : World) : Prop :=
  ∃ g A m c, r = .returned (.tuple #[.pointer (some ⟨g, 0, none⟩), .slice A m c, .int .i64 0]) ∧ Rcs w' A m (lookL (seen d.K d.ps) n) ∧ Run w0 w' g dg (lookJ (seen d.K d.ps) (j0 n)) d ∧ W.heap.size ≤ g ∧ Below W.heap.size W w'
theorem run_open (h : St w0 W dg d) (hd : d.down = false) (h4 : 4 ≤ d.K.length) : Calls Try.prog 11 #[.pointer (some ⟨dg, 0, none⟩)] W (OPost w0 W dg (d.K.length / 2) d) := by
  refine (jopen_any w0.heap.size dg d W h.dk hd h4).mono ?_
  rintro r w' ⟨g, vr, xs, h1, h2, h3, h5, h6⟩
  obtain ⟨A, c, rfl, _⟩ := h2.row.form
  exact ⟨g, A, _, c, h1, h2.rcs, (h.below h6).run h3 (Nat.le_trans h.bel.size h5), h5, h6⟩
end
theorem slice30 (b o n c lo hi : Nat) (h0 : lo < c) (h1 : lo ≤ hi) (h2 : hi ≤ c) (w : World) : (Instr.sliceAt 30 (.slice (some ⟨b, o, none⟩) n c) (some (.int .i64 (lo : Int))) (some (.int .i64 (hi : Int))) none).run Try.prog w = .ok (.slice (some ⟨b, o + lo, none⟩) (hi - lo) (c - lo)) w := by
  have h3 : (hi : Int) ≤ (c : Int) := by omega
  have h4 : (0 : Int) ≤ (hi : Int) := by omega
  have h5 : (lo : Int) ≤ (hi : Int) := by omega
  have h6 : (0 : Int) ≤ (lo : Int) := by omega
  have h7 : ¬ c = lo := by omega
  simp [go_sem, h3, h5, h7, addr_at]
/-- One record of a slice of them. -/
theorem Rcs.one {w : World} {b o n k : Nat} {rs : List (List UInt8)} {r : List UInt8} (h : Rcs w (some ⟨b, o, none⟩) n rs) (hk : k < n) (hr : rs[k]? = some r) : Rcs w (some ⟨b, o + k, none⟩) 1 [r] := by
  obtain ⟨xs, h1, h2, h3⟩ := h.ex
  have hx : xs[k]? = some (xs[k]'(by omega)) := List.getElem?_eq_getElem _
  have e : (xs.drop k).take 1 = [xs[k]'(by omega)] := by
    rw [List.drop_eq_getElem_cons (by omega)]
    rfl
  have h4 := (h1.drop k).take 1
  rw [e, show o + k * eVl.wd = o + k by show o + k * 1 = o + k; omega] at h4
  refine ⟨_, h4, rfl, rfl, fun i x r' e1 e2 => ?_⟩
  cases i with
  | succ i => cases e1
  | zero =>
    injection e1 with e1
    injection e2 with e2
    subst e1 e2
    exact h3.2 k _ _ hx hr
/-- Its element, with its bytes told apart. -/
theorem Rcs.el {w : World} {A : Option Addr} {n : Nat} {rs : List (List UInt8)} (h : Rcs w A n rs) {k : Nat} (hk : k < n) :
    ∃ (b o : Nat) (x : ByX), A = some ⟨b, o, none⟩ ∧ b < w.heap.size ∧ rs[k]? = some x.l ∧ w.cell? ⟨b, o + k, none⟩ = some (.slice x.x.A x.x.n x.x.c) ∧ ByOk w x := by
  obtain ⟨b, o, x, r, e1, e2, e3, e4, e5, e6, e7, e8⟩ := h.at_ hk
  exact ⟨b, o, ⟨x, r⟩, e1, e2, e3, e4, e5, e6, e7, e8⟩
end Go.Proofs.Ytppdckncnfffcaa
