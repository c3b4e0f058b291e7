/-
  The contract of same. A table and the document's table side by side. Their conditions: both lie in memory.
-/
import Derived.Test.YtkonkldcallimaaW11
import Derived.Test.YtkonkldcallimaaW15
namespace Go.Proofs.Ytkonkldcallimaa
open Go.RowKit Go.Maps
open Go.Sort (grow)

def SaRel (n : Nat) (w : World) (s13 : Value) (wr : World) : Prop := ∃ j : Nat, j ≤ n ∧ s13 = .int .i64 (j : Int) ∧ Below w.heap.size w wr
set_option maxRecDepth 100000 in
set_option maxHeartbeats 4000000 in
theorem same_any (L : List Mk) (A A' : Option Addr) (n c c' : Nat) (w : World) (h1 : Tgs 48 w A L) (h2 : Tgs 33 w A' L) (hn : L.length = n) (hl : n ≤ 100000) :
    Calls Try.prog 20 #[.slice A n c, .slice A' n c'] w fun r w' => r = .returned (.bool true) ∧ Below w.heap.size w w' := by
  have H1 := Lib.hid h1
  have H2 := Lib.hid h2
  have HN := Lib.hid hn
  have hli : (n : Int) ≤ 100000 := by omega
  clear h1 h2 hn hl
  go_enter Try.func20, Try.ntmps20
  go_wp2
  go_loopw [13] (SaRel n w) (fun i _ => n - (intOf i).toNat)
  case atStart => exact ⟨0, Nat.zero_le _, rfl, Below.refl _ _⟩
  case round =>
    obtain ⟨j, hj, rfl, hb⟩ := hrel
    have HB := Lib.hid hb
    clear hb
    by_cases hjn : j < n
    · have hjl : j < L.length := by rw [HN.out]; exact hjn
      obtain ⟨x, xo, rfl, _, x0, x1, x2⟩ := (H1.out.below (Nat.le_refl _) HB.out).at_ hjl
      obtain ⟨y, yo, rfl, _, y0, y1, y2⟩ := (H2.out.below (Nat.le_refl _) HB.out).at_ hjl
      generalize L[j] = m at x0 x1 x2 y0 y1 y2
      have hji : (j : Int) < (n : Int) := by omega
      have hj0 : (0 : Int) ≤ (j : Int) := by omega
      have HJ : Hid (j + 1 ≤ n) := hjn
      clear hjl hj
      go_wp2_with fail
      go_quiet (fail)
      have HB7 := Lib.hid (HB.out.trans ((below_drewN wr nq).mono HB.out.size))
      generalize wr.drewN nq = W9 at HB7 ⊢
      go_wp2
      go_roundw
      case rel => exact ⟨j + 1, HJ.out, by go_num, HB7.out⟩
      case measure => simp [intOf]; omega
    · have hji : ¬ (j : Int) < (n : Int) := by omega
      go_wp2
      go_ret
      exact ⟨rfl, HB.out⟩

/-- The document's marker of a step. -/
def oMk (m : Mk) : Obj := .cells #[.string m.k, .int .i64 m.s, .int .i64 m.r] 33 (0, 0)
/-- A table, the document's table, the step that is played and its marker. -/
structure Pl (w0 W : World) (g B h : Nat) (L M : List Mk) (limit : Int) (q p : Nat) (x : Step) : Prop where
  tab : TableAt W w0.heap.size g B L limit
  ref : RefAt W w0.heap.size h M limit
  ob : W.heap[q]? = some (oStep x)
  mb : W.heap[p]? = some (oMk x.m)
  bel : Below w0.heap.size w0 W
section
variable {w0 W W' : World} {g B h : Nat} {L L' M M' : List Mk} {limit : Int} {q p : Nat} {x : Step}
theorem Pl.below (s : Pl w0 W g B h L M limit q p x) (hb : Below W.heap.size W W') : Pl w0 W' g B h L M limit q p x :=
  ⟨s.tab.below hb, s.ref.below hb, (hb.block q (lt_of_heap s.ob)).trans s.ob, (hb.block p (lt_of_heap s.mb)).trans s.mb, s.bel.trans (hb.mono s.bel.size)⟩
theorem Pl.drew (s : Pl w0 W g B h L M limit q p x) : Pl w0 W.drew g B h L M limit q p x := s.below (Below.refl _ _).drew
/-- The step's cells and the marker's. -/
def Cl (W : World) (q p : Nat) (x : Step) : Prop := (W.cell? ⟨q, 0, none⟩ = some (.int .i64 x.K) ∧ W.cell? ⟨q, 1, none⟩ = some (.string x.m.k) ∧ W.cell? ⟨q, 2, none⟩ = some (.int .i64 x.m.s) ∧ W.cell? ⟨q, 3, none⟩ = some (.int .i64 x.m.r)) ∧ (W.cell? ⟨p, 0, none⟩ = some (.string x.m.k) ∧ W.cell? ⟨p, 1, none⟩ = some (.int .i64 x.m.s) ∧ W.cell? ⟨p, 2, none⟩ = some (.int .i64 x.m.r))
theorem Pl.cells (s : Pl w0 W g B h L M limit q p x) : Cl W q p x := ⟨step_cells s.ob, mk_cells s.mb⟩
theorem Pl.isB (s : Pl w0 W g B h L M limit q p x) : ∀ i ∈ [B], ∃ o, W.heap[i]? = some o ∧ kd o = 1000 := by
  intro i hi
  rw [List.mem_singleton] at hi
  subst hi
  obtain ⟨es, c, hb⟩ := s.tab.mp.isMap
  exact ⟨_, hb, rfl⟩
theorem Pl.turn (s : Pl w0 W g B h L M limit q p x) (hf : Fr [] [B] w0.heap.size W W') (ht : TableAt W' w0.heap.size g B L' limit) : Pl w0 W' g B h L' M limit q p x := by
  have hk := (St.mk s.tab s.bel).keeps hf
  exact ⟨ht, s.ref.keep hf (by simp) (by simp) s.isB, hk q _ s.ob (oStep_kind _), hk p _ s.mb (by simp [oMk, kd]), s.bel.trans hf.below⟩
theorem Pl.turnR (s : Pl w0 W g B h L M limit q p x) (hf : Fr rK [] w0.heap.size W W') (hr : RefAt W' w0.heap.size h M' limit) : Pl w0 W' g B h L M' limit q p x :=
  ⟨s.tab.keep hf (by simp [rK]) (by simp [rK]) (by simp) (by simp), hr, hf.keep q _ s.ob (by simp [oStep, kd, rK]) (by simp), hf.keep p _ s.mb (by simp [oMk, kd, rK]) (by simp), s.bel.trans hf.below⟩
theorem pl_set (s : Pl w0 W g B h L M limit q p x) (hm : Ok x.m) : Calls Try.prog 10 #[.pointer (some ⟨g, 0, none⟩), .string x.m.k, .int .i64 x.m.s, .int .i64 x.m.r] W fun r w' => r = .returned (.int .i64 (setE L x.m limit)) ∧ Pl w0 w' g B h (setL L x.m limit) M limit q p x := by
  refine (set_any _ g B L limit x.m W s.tab hm s.bel.size).mono ?_
  rintro r w' ⟨rfl, ht, hf⟩
  exact ⟨rfl, s.turn hf ht⟩
theorem pl_clear (s : Pl w0 W g B h L M limit q p x) (hm : Ok x.m) : Calls Try.prog 12 #[.pointer (some ⟨g, 0, none⟩), .string x.m.k, .int .i64 x.m.s, .int .i64 x.m.r] W fun r w' => r = .returned (.bool (decide (x.m ∈ L))) ∧ Pl w0 w' g B h (out L (isG x.m)) M limit q p x := by
  refine (clear_any _ g B L limit x.m W s.tab hm s.bel.size).mono ?_
  rintro r w' ⟨rfl, ht, hf⟩
  exact ⟨rfl, s.turn hf ht⟩
theorem pl_upto (s : Pl w0 W g B h L M limit q p x) : Calls Try.prog 14 #[.pointer (some ⟨g, 0, none⟩), .string x.m.k, .int .i64 x.m.s, .int .i64 x.m.r] W fun r w' => r = .returned (.int .i64 (gone L (upG x.m.k x.m.s x.m.r))) ∧ Pl w0 w' g B h (out L (upG x.m.k x.m.s x.m.r)) M limit q p x := by
  refine (upto_any _ g B L limit x.m.k x.m.s x.m.r W s.tab s.bel.size).mono ?_
  rintro r w' ⟨rfl, ht, hf⟩
  exact ⟨rfl, s.turn hf ht⟩
theorem pl_past (s : Pl w0 W g B h L M limit q p x) : Calls Try.prog 15 #[.pointer (some ⟨g, 0, none⟩), .int .i64 x.m.s, .int .i64 x.m.r] W fun r w' => r = .returned (.int .i64 (gone L (paG x.m.s x.m.r))) ∧ Pl w0 w' g B h (out L (paG x.m.s x.m.r)) M limit q p x := by
  refine (past_any _ g B L limit x.m.s x.m.r W s.tab s.bel.size).mono ?_
  rintro r w' ⟨rfl, ht, hf⟩
  exact ⟨rfl, s.turn hf ht⟩
theorem pl_drop (s : Pl w0 W g B h L M limit q p x) : Calls Try.prog 16 #[.pointer (some ⟨g, 0, none⟩)] W fun r w' => r = .returned (.tuple #[]) ∧ Pl w0 w' g B h [] M limit q p x := by
  refine (drop_any _ g B L limit W s.tab).mono ?_
  rintro r w' ⟨rfl, ht, hf⟩
  exact ⟨rfl, s.turn hf ht⟩
theorem pl_refset (s : Pl w0 W g B h L M limit q p x) (hr : Rises M) (hl : M.length < 100000) : Calls Try.prog 11 #[.pointer (some ⟨h, 0, none⟩), .agg #[.string x.m.k, .int .i64 x.m.s, .int .i64 x.m.r]] W fun r w' => r = .returned (.bool (decide (setE M x.m limit = 0))) ∧ Pl w0 w' g B h L (setL M x.m limit) limit q p x := by
  refine (refset_any _ h M limit x.m W s.ref s.bel.size hr hl).mono ?_
  rintro r w' ⟨rfl, hr, hf⟩
  exact ⟨rfl, s.turnR hf hr⟩
theorem pl_without (s : Pl w0 W g B h L M limit q p x) (how : Int) : Calls Try.prog 13 #[.pointer (some ⟨h, 0, none⟩), .agg #[.string x.m.k, .int .i64 x.m.s, .int .i64 x.m.r], .int .i64 how] W fun r w' => r = .returned (.int .i64 (goN M (goP x.m how))) ∧ Pl w0 w' g B h L (out M (goP x.m how)) limit q p x := by
  refine (without_any _ h M limit x.m how W s.ref s.bel.size).mono ?_
  rintro r w' ⟨rfl, hr, hf⟩
  exact ⟨rfl, s.turnR hf hr⟩
theorem pl_has (s : Pl w0 W g B h L M limit q p x) (k : ByteArray) : Calls Try.prog 17 #[.pointer (some ⟨g, 0, none⟩), .string k] W fun r w' => r = .returned (.bool (hasK L k)) ∧ Pl w0 w' g B h L M limit q p x := by
  refine (has_any _ g B L limit k W s.tab).mono ?_
  rintro r w' ⟨rfl, hb⟩
  exact ⟨rfl, s.below hb⟩
theorem pl_refhas (s : Pl w0 W g B h L M limit q p x) (k : ByteArray) : Calls Try.prog 18 #[.pointer (some ⟨h, 0, none⟩), .string k] W fun r w' => r = .returned (.bool (hasK M k)) ∧ W = w' := refhas_any _ h M limit k W s.ref
theorem pl_len (s : Pl w0 W g B h L M limit q p x) : Calls Try.prog 19 #[.pointer (some ⟨g, 0, none⟩)] W fun r w' => r = .returned (.int .i64 (L.length : Int)) ∧ W = w' := len_any _ g B L limit W s.tab
theorem pl_all (s : Pl w0 W g B h L M limit q p x) (hl : L.length ≤ 100000) : Calls Try.prog 21 #[.pointer (some ⟨g, 0, none⟩)] W fun r w' => ∃ A c, r = .returned (.slice A L.length c) ∧ Tgs 48 w' A L ∧ Pl w0 w' g B h L M limit q p x := by
  refine (all_any _ g B L limit W s.tab hl).mono ?_
  rintro r w' ⟨A, c, rfl, ht, hb, _⟩
  exact ⟨A, c, rfl, ht, s.below hb⟩
theorem pl_nil (s : Pl w0 W g B h L M limit q p x) : Pl w0 (W.setCell ⟨h, 0, none⟩ (.slice none 0 0)) g B h L [] limit q p x ∧ (∃ A n c, W.cell? ⟨h, 0, none⟩ = some (.slice A n c)) ∧ W.frozen? ⟨h, 0, none⟩ = false := by
  obtain ⟨h1, h2, v, h3, h4⟩ := s.ref
  obtain ⟨A, c, rfl, _⟩ := h4.form
  have hF : Fr rK [] w0.heap.size W (W.setCell ⟨h, 0, none⟩ (.slice none 0 0)) := (Fr.refl _ _ _ _).set h3 (.inl (by simp [kd, rK])) h1 _
  exact ⟨s.turnR hF ⟨h1, by simp, _, h3.set0 _, World.ownsRow_nil _ _ _ _⟩, ⟨A, _, c, h3.c0⟩, h3.frozen 0⟩
end
theorem goN_is (L : List Mk) (m : Mk) : goN L (goP m 0) = goN L (isG m) ∧ goP m 0 = isG m ∧ goP m 1 = upG m.k m.s m.r ∧ goP m 2 = paG m.s m.r := ⟨rfl, rfl, rfl, rfl⟩
theorem goN_pos {L : List Mk} {m : Mk} (hn : L.Nodup) : decide (goN L (isG m) > 0) = decide (m ∈ L) := by
  unfold goN
  by_cases h : m ∈ L
  · have := length_out hn h
    simp [h]
    omega
  · rw [out_is_none h]
    simp [h]
theorem setE_cases (L : List Mk) (m : Mk) (limit : Int) : setE L m limit = 0 ∨ setE L m limit = 4 := by
  unfold setE
  split
  · exact .inl rfl
  · split
    · exact .inr rfl
    · exact .inl rfl
end Go.Proofs.Ytkonkldcallimaa
