/-
  A table and the document's table side by side. The walk of LeasePlays. Its conditions: the script reads as steps.
-/
import Derived.Test.YtfiohhgmlelnkaaW16
import Derived.Deep.CutBlock
namespace Go.Proofs.Ytfiohhgmlelnkaa
open Go.RowKit Go.Maps

/-! ### the document's moments -/
/-- Leases by the moment at which they end. -/
def sh (c : Int) (L : List Ls) : List Ls := L.map fun l => ⟨l.k, l.t, l.n + c⟩
theorem sh_keys (c : Int) (L : List Ls) : keys (sh c L) = keys L := by
  unfold keys sh
  rw [List.map_map]
  rfl
theorem sh_length (c : Int) (L : List Ls) : (sh c L).length = L.length := by simp [sh]
theorem sh_fnd (c : Int) (L : List Ls) (k : ByteArray) : fnd (sh c L) k = (fnd L k).map fun l => ⟨l.k, l.t, l.n + c⟩ := by
  unfold fnd sh
  rw [List.find?_map]
  rfl
theorem sh_has (c : Int) (L : List Ls) (k : ByteArray) : has (sh c L) k = has L k := by
  unfold has
  rw [sh_fnd]
  simp
theorem sh_drp (c : Int) (L : List Ls) (k : ByteArray) : drp (sh c L) k = sh c (drp L k) := by
  unfold drp sh
  rw [List.filter_map]
  rfl
theorem sh_useB (c : Int) (L : List Ls) (k : ByteArray) (t : Int) : useB (sh c L) k t = useB L k t := by
  unfold useB
  rw [sh_fnd]
  cases fnd L k <;> rfl
theorem sh_useL (c : Int) (L : List Ls) (k : ByteArray) (t : Int) : useL (sh c L) k t = sh c (useL L k t) := by
  unfold useL
  rw [sh_useB]
  split
  · exact sh_drp c L k
  · rfl
theorem sh_grB (c : Int) (L : List Ls) (k : ByteArray) (limit : Int) : grB (sh c L) k limit = grB L k limit := by
  unfold grB
  rw [sh_length, sh_has]
theorem sh_grT (c : Int) (L : List Ls) (k : ByteArray) (limit last : Int) : grT (sh c L) k limit last = grT L k limit last := by
  unfold grT
  rw [sh_grB]
theorem sh_grV (c : Int) (L : List Ls) (k : ByteArray) (limit last : Int) : grV (sh c L) k limit last = grV L k limit last := by
  unfold grV
  rw [sh_grB]
theorem sh_rgL (d tP tR now : Int) (L : List Ls) (k : ByteArray) (limit last : Int) (h : tP - d = tR) : rgL (sh (now - d) L) k limit tR now last = sh (now - d) (grL L k limit tP last) := by
  unfold rgL grL
  rw [sh_grB]
  split
  · unfold sh
    rw [List.map_append]
    simp only [List.map_cons, List.map_nil]
    rw [show now + tR = tP + (now - d) by omega]
  · rfl
/-- Leases whose ticks are past counting. -/
def Late (d : Int) (k : Nat) (L : List Ls) : Prop := d = 0 ∨ (0 < d ∧ ∀ l ∈ L, 1000000 - (k : Int) ≤ l.n - d)
theorem Late.sub {d : Int} {k : Nat} {L M : List Ls} (h : Late d k L) (hs : ∀ l ∈ M, l ∈ L) : Late d k M := h.imp id fun h => ⟨h.1, fun l hl => h.2 l (hs l hl)⟩
theorem Late.up {d : Int} {k : Nat} {L : List Ls} (h : Late d k L) : Late d (k + 1) L := h.imp id fun h => ⟨h.1, fun l hl => by have := h.2 l hl; omega⟩
theorem Late.tck {d : Int} {k : Nat} {L : List Ls} (h : Late d k L) : Late d (k + 1) (tck L) := h.imp id fun h => ⟨h.1, fun l hl => by
  obtain ⟨m, hm, _, rfl⟩ := mem_tck hl
  have := h.2 m hm
  show 1000000 - ((k + 1 : Nat) : Int) ≤ m.n - 1 - d
  omega⟩
theorem Late.gr {d tP tR : Int} {k : Nat} {L : List Ls} (h : Late d k L) (hd : tP - d = tR) (hR : 0 < d → tR = 1000000) (key : ByteArray) (limit last : Int) : Late d (k + 1) (grL L key limit tP last) := by
  unfold grL
  split
  · refine h.imp id fun h => ⟨h.1, fun l hl => ?_⟩
    rcases List.mem_append.mp hl with hl | hl
    · have := h.2 l hl
      omega
    · simp at hl
      subst hl
      have := hR h.1
      show 1000000 - ((k + 1 : Nat) : Int) ≤ tP - d
      omega
  · exact h.up
theorem sh_aft {d now limit ticks : Int} {k : Nat} {L : List Ls} (h : Late d k L) (hg : Good L limit ticks) (hk : k ≤ 300) : aft (now + 1) (sh (now - d) L) = sh (now + 1 - d) (tck L) := by
  unfold aft sh tck
  rw [List.filter_map, List.map_map]
  have e : (L.filter ((fun l : Ls => decide (now + 1 < l.n)) ∘ fun l : Ls => (⟨l.k, l.t, l.n + (now - d)⟩ : Ls))) = L.filter fun l => decide (l.n ≠ 1) := by
    refine List.filter_congr fun l hl => ?_
    have h1 := (hg.pos l hl).1
    simp only [Function.comp]
    rcases h with rfl | ⟨hd, h2⟩
    · by_cases e : l.n = 1
      · simp [e]
        omega
      · have h3 : now + 1 < l.n + (now - 0) := by omega
        simp [e]
        omega
    · have h3 := h2 l hl
      have h4 : now + 1 < l.n + (now - d) := by omega
      have h5 : ¬ l.n = 1 := by omega
      simp [h4, h5]
  rw [e]
  refine List.map_congr_left fun l _ => ?_
  simp only [Function.comp, dec]
  rw [show l.n - 1 + (now + 1 - d) = l.n + (now - d) by omega]

/-- A table, the document's table, and the step that is played. -/
structure Pl (w0 W : World) (g B h : Nat) (L M : List Ls) (limit tP tR last now last' : Int) (q : Nat) (x : Step) : Prop where
  tab : TableAt W w0.heap.size g B L limit tP last
  ref : RefAt W w0.heap.size h M limit tR now last'
  box : W.heap[q]? = some (oStep x)
  bel : Below w0.heap.size w0 W
section
variable {w0 W W' : World} {g B h : Nat} {L L' M M' : List Ls} {limit tP tR last last' lx now now' : Int} {q : Nat} {x : Step}
theorem Pl.below (s : Pl w0 W g B h L M limit tP tR last now last' q x) (hb : Below W.heap.size W W') : Pl w0 W' g B h L M limit tP tR last now last' q x :=
  ⟨s.tab.below hb, s.ref.below hb, (hb.block q (lt_of_heap s.box)).trans s.box, s.bel.trans (hb.mono s.bel.size)⟩
theorem Pl.drew (s : Pl w0 W g B h L M limit tP tR last now last' q x) : Pl w0 W.drew g B h L M limit tP tR last now last' q x := s.below (Below.refl _ _).drew
theorem Pl.cells (s : Pl w0 W g B h L M limit tP tR last now last' q x) : W.cell? ⟨q, 0, none⟩ = some (.int .i64 x.K) ∧ W.cell? ⟨q, 1, none⟩ = some (.string x.key) ∧ W.cell? ⟨q, 2, none⟩ = some (.int .i64 x.T) := step_cells s.box
theorem Pl.turn {l ms : List Nat} (s : Pl w0 W g B h L M limit tP tR last now last' q x) (hf : Fr l ms w0.heap.size W W') (hl : ∀ x ∈ l, x ∈ tK) (hm : ∀ x ∈ ms, x = g ∨ x = B) (ht : TableAt W' w0.heap.size g B L' limit tP lx) : Pl w0 W' g B h L' M limit tP tR lx now last' q x := by
  have hk := s.tab.kinds hf hl hm
  exact ⟨ht, s.ref.keep hk (by simp [tK]) (by simp [tK]), hk.keep q _ s.box (by simp [oStep, kd, tK]) (by simp), s.bel.trans hf.below⟩
theorem Pl.turnR {l : List Nat} (s : Pl w0 W g B h L M limit tP tR last now last' q x) (hf : Fr l [] w0.heap.size W W') (hl : ∀ x ∈ l, x ∈ rL) (hr : RefAt W' w0.heap.size h M' limit tR now' lx) : Pl w0 W' g B h L M' limit tP tR last now' lx q x := by
  have hf' : Fr rL [] w0.heap.size W W' := hf.mono hl (by simp)
  exact ⟨s.tab.keep hf' (by simp [rL]) (by simp [rL]) (by simp [rL]) (by simp), hr, hf'.keep q _ s.box (by simp [oStep, kd, rL]) (by simp), s.bel.trans hf.below⟩
theorem pl_grant (s : Pl w0 W g B h L M limit tP tR last now last' q x) (k : ByteArray) (hk : k.size ≤ maxLen) (h1 : 0 ≤ last) (h2 : last < 9223372036854775807) : Calls Try.prog 11 #[.pointer (some ⟨g, 0, none⟩), .string k] W fun r w' =>
    r = .returned (.tuple #[.int .i64 (grV L k limit last), .bool (grB L k limit)]) ∧ Pl w0 w' g B h (grL L k limit tP last) M limit tP tR (grT L k limit last) now last' q x := by
  refine (grant_any _ g B L limit tP last k W s.tab hk s.bel.size (by omega) h2).mono ?_
  rintro r w' ⟨rfl, ht, hf⟩
  exact ⟨rfl, s.turn hf (by simp) (by simp) ht⟩
theorem pl_use (s : Pl w0 W g B h L M limit tP tR last now last' q x) (k : ByteArray) (t : Int) (hk : k.size ≤ maxLen) : Calls Try.prog 13 #[.pointer (some ⟨g, 0, none⟩), .string k, .int .i64 t] W fun r w' => r = .returned (.bool (useB L k t)) ∧ Pl w0 w' g B h (useL L k t) M limit tP tR last now last' q x := by
  refine (use_any _ g B L limit tP last k t W s.tab hk).mono ?_
  rintro r w' ⟨rfl, ht, hf⟩
  exact ⟨rfl, s.turn hf (by simp) (by simp) ht⟩
theorem pl_kill (s : Pl w0 W g B h L M limit tP tR last now last' q x) (k : ByteArray) (hk : k.size ≤ maxLen) : Calls Try.prog 15 #[.pointer (some ⟨g, 0, none⟩), .string k] W fun r w' => r = .returned (.bool (has L k)) ∧ Pl w0 w' g B h (drp L k) M limit tP tR last now last' q x := by
  refine (kill_any _ g B L limit tP last k W s.tab hk).mono ?_
  rintro r w' ⟨rfl, ht, hf⟩
  exact ⟨rfl, s.turn hf (by simp) (by simp) ht⟩
theorem pl_tick (s : Pl w0 W g B h L M limit tP tR last now last' q x) : Calls Try.prog 17 #[.pointer (some ⟨g, 0, none⟩)] W fun r w' => r = .returned (.tuple #[]) ∧ Pl w0 w' g B h (tck L) M limit tP tR last now last' q x := by
  refine (tick_any _ g B L limit tP last W s.tab s.bel.size).mono ?_
  rintro r w' ⟨rfl, ht, hf⟩
  exact ⟨rfl, s.turn hf (by simp [tK]) (by simp) ht⟩
theorem pl_clear (s : Pl w0 W g B h L M limit tP tR last now last' q x) : Calls Try.prog 19 #[.pointer (some ⟨g, 0, none⟩)] W fun r w' => r = .returned (.tuple #[]) ∧ Pl w0 w' g B h [] M limit tP tR last now last' q x := by
  refine (clear_any _ g B L limit tP last W s.tab).mono ?_
  rintro r w' ⟨rfl, ht, hf⟩
  exact ⟨rfl, s.turn hf (by simp) (by simp) ht⟩
theorem pl_refgrant (s : Pl w0 W g B h L M limit tP tR last now last' q x) (k : ByteArray) (hl : M.length ≤ 1000) (h0 : 0 ≤ now ∧ now ≤ 1000) (h1 : 1 ≤ tR ∧ tR ≤ 1000000) (h2 : 0 ≤ last' ∧ last' ≤ 1000) : Calls Try.prog 12 #[.pointer (some ⟨h, 0, none⟩), .string k] W fun r w' =>
    r = .returned (.int .i64 (grV M k limit last')) ∧ Pl w0 w' g B h L (rgL M k limit tR now last') limit tP tR last now (grT M k limit last') q x := by
  refine (refgrant_any _ h M limit tR now last' k W s.ref s.bel.size hl h0 h1 h2).mono ?_
  rintro r w' ⟨rfl, hr, hf⟩
  exact ⟨rfl, s.turnR hf (by simp) hr⟩
theorem pl_refuse (s : Pl w0 W g B h L M limit tP tR last now last' q x) (k : ByteArray) (t : Int) (hn : (keys M).Nodup) : Calls Try.prog 14 #[.pointer (some ⟨h, 0, none⟩), .string k, .int .i64 t] W fun r w' => r = .returned (.bool (useB M k t)) ∧ Pl w0 w' g B h L (useL M k t) limit tP tR last now last' q x := by
  refine (refuse_any _ h M limit tR now last' k t W s.ref s.bel.size hn).mono ?_
  rintro r w' ⟨rfl, hr, hf⟩
  exact ⟨rfl, s.turnR hf (by simp [rK, rL]) hr⟩
theorem pl_refkill (s : Pl w0 W g B h L M limit tP tR last now last' q x) (k : ByteArray) (hn : (keys M).Nodup) : Calls Try.prog 16 #[.pointer (some ⟨h, 0, none⟩), .string k] W fun r w' => r = .returned (.bool (has M k)) ∧ Pl w0 w' g B h L (drp M k) limit tP tR last now last' q x := by
  refine (refkill_any _ h M limit tR now last' k W s.ref s.bel.size hn).mono ?_
  rintro r w' ⟨rfl, hr, hf⟩
  exact ⟨rfl, s.turnR hf (by simp [rK, rL]) hr⟩
theorem pl_reftick (s : Pl w0 W g B h L M limit tP tR last now last' q x) (h0 : 0 ≤ now) (h1 : now ≤ 1000) : Calls Try.prog 18 #[.pointer (some ⟨h, 0, none⟩)] W fun r w' => r = .returned (.tuple #[]) ∧ Pl w0 w' g B h L (aft (now + 1) M) limit tP tR last (now + 1) last' q x := by
  refine (reftick_any _ h M limit tR now last' W s.ref s.bel.size h0 h1).mono ?_
  rintro r w' ⟨rfl, hr, hf⟩
  exact ⟨rfl, s.turnR hf (by simp [rK, rL]) hr⟩
theorem pl_nil (s : Pl w0 W g B h L M limit tP tR last now last' q x) : Pl w0 (W.setCell ⟨h, 0, none⟩ (.slice none 0 0)) g B h L [] limit tP tR last now last' q x ∧ (∃ A n c, W.cell? ⟨h, 0, none⟩ = some (.slice A n c)) ∧ W.frozen? ⟨h, 0, none⟩ = false := by
  obtain ⟨h1, h2, v, h3, h4⟩ := s.ref
  obtain ⟨A, c, rfl, _⟩ := h4.form
  have hF : Fr rL [] w0.heap.size W (W.setCell ⟨h, 0, none⟩ (.slice none 0 0)) := (Fr.refl _ _ _ _).set h3 (.inl (by simp [kd, rL])) h1 _
  exact ⟨s.turnR hF (by simp) ⟨h1, by simp, _, h3.set0 _, World.ownsRow_nil _ _ _ _⟩, ⟨A, _, c, h3.c0⟩, h3.frozen 0⟩
end
/-- What is the same in both. -/
structure Bd (L : List Ls) (d last now : Int) (k : Nat) : Prop where
  l0 : 0 ≤ last
  l1 : last ≤ k
  n0 : 0 ≤ now
  n1 : now ≤ k
  len : L.length ≤ k
  late : Late d k L
def PlRel (l : List Step) (g B h : Nat) (limit tP tR d : Int) (w : World) (s10 : Value) (wr : World) : Prop :=
  ∃ (k : Nat) (L : List Ls) (last now : Int), k ≤ 300 ∧ k ≤ l.length ∧ s10 = .int .i64 (k : Int) ∧ TableAt wr w.heap.size g B L limit tP last ∧ RefAt wr w.heap.size h (sh (now - d) L) limit tR now last ∧ Below w.heap.size w wr ∧ Bd L d last now k
/-- What the switch leaves. -/
def PsRel (w : World) (g B h q k : Nat) (x : Step) (limit tP tR d : Int) (s12 _ _ _ _ _ : Value) (W : World) : Prop :=
  ∃ (L : List Ls) (last now : Int), s12 = .bool true ∧ Pl w W g B h L (sh (now - d) L) limit tP tR last now last q x ∧ Bd L d last now (k + 1)
theorem pl_new {w wr : World} {g B h : Nat} {L M : List Ls} {limit tP tR last now last' : Int} (x : Step) (hm : TableAt wr w.heap.size g B L limit tP last) (hr : RefAt wr w.heap.size h M limit tR now last') (hb : Below w.heap.size w wr) : Pl w (wr.alloc (oStep x)) g B h L M limit tP tR last now last' wr.heap.size x := by
  have hb1 : Below wr.heap.size wr (wr.alloc (oStep x)) := (Below.refl _ _).alloc (Nat.le_refl _) _
  exact ⟨hm.below hb1, hr.below hb1, heap_new _ _, hb.trans (hb1.mono hb.size)⟩
theorem useL_sub (L : List Ls) (k : ByteArray) (t : Int) : (useL L k t).Sublist L := by
  unfold useL
  split
  · exact drp_sub L k
  · exact List.Sublist.refl _
theorem Bd.up {L : List Ls} {d last now : Int} {k : Nat} (h : Bd L d last now k) : Bd L d last now (k + 1) := ⟨h.l0, by have := h.l1; omega, h.n0, by have := h.n1; omega, by have := h.len; omega, h.late.up⟩
theorem Bd.sub {L M : List Ls} {d last now : Int} {k : Nat} (h : Bd L d last now k) (hs : M.Sublist L) : Bd M d last now k := ⟨h.l0, h.l1, h.n0, h.n1, Nat.le_trans hs.length_le h.len, h.late.sub fun _ hl => hs.subset hl⟩
theorem Bd.tck {L : List Ls} {d last now : Int} {k : Nat} (h : Bd L d last now k) : Bd (tck L) d last (now + 1) (k + 1) := ⟨h.l0, by have := h.l1; omega, by have := h.n0; omega, by have := h.n1; omega, by have := h.len; have := (keys_tck L).length_le; rw [keys_length, keys_length] at this; omega, h.late.tck⟩
theorem Bd.gr {L : List Ls} {d last now tP tR : Int} {k : Nat} (h : Bd L d last now k) (hd : tP - d = tR) (hR : 0 < d → tR = 1000000) (key : ByteArray) (limit : Int) : Bd (grL L key limit tP last) d (grT L key limit last) now (k + 1) := by
  refine ⟨?_, ?_, h.n0, by have := h.n1; omega, ?_, h.late.gr hd hR key limit last⟩
  · have := h.l0; unfold grT; split <;> omega
  · have := h.l1; unfold grT; split <;> omega
  · have := h.len; unfold grL; split <;> simp <;> omega
theorem grV_cases {L : List Ls} {k : ByteArray} {limit last : Int} (h : 0 ≤ last) : (grB L k limit = true ∧ grV L k limit last > 0) ∨ (grB L k limit = false ∧ grV L k limit last = 0) := by
  unfold grV
  cases grB L k limit
  · exact .inr ⟨rfl, rfl⟩
  · exact .inl ⟨rfl, by simp; omega⟩
end Go.Proofs.Ytfiohhgmlelnkaa
