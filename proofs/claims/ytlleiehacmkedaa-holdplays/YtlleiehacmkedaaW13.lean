/-
  The walk of HoldPlays. Its conditions: the script reads as steps.
-/
import Derived.Test.YtlleiehacmkedaaW12
import Derived.Deep.CutBlock
namespace Go.Proofs.Ytlleiehacmkedaa
open Go.RowKit Go.Maps Go.ChangeMaps
open Go.Sort (grow)

/-- A table, the document's table, and the step that is played. -/
structure Pl (w0 W : World) (g B h : Nat) (L : List Tm) (f : Int) (M : List Tm) (fm limit : Int) (q : Nat) (x : Step) : Prop where
  tab : TableAt W w0.heap.size g B L f limit
  ref : RefAt W w0.heap.size h M fm limit
  ob : W.heap[q]? = some (oStep x)
  bel : Below w0.heap.size w0 W
section
variable {w0 W W' : World} {g B h : Nat} {L L' M M' : List Tm} {f f' fm fm' limit : Int} {q : Nat} {x : Step}
theorem Pl.below (s : Pl w0 W g B h L f M fm limit q x) (hb : Below W.heap.size W W') : Pl w0 W' g B h L f M fm limit q x :=
  ⟨s.tab.below hb, s.ref.below hb, (hb.block q (lt_of_heap s.ob)).trans s.ob, s.bel.trans (hb.mono s.bel.size)⟩
theorem Pl.drew (s : Pl w0 W g B h L f M fm limit q x) : Pl w0 W.drew g B h L f M fm limit q x := s.below (Below.refl _ _).drew
theorem Pl.cells (s : Pl w0 W g B h L f M fm limit q x) : W.cell? ⟨q, 0, none⟩ = some (.int .i64 x.K) ∧ W.cell? ⟨q, 1, none⟩ = some (.string x.t.k) ∧ W.cell? ⟨q, 2, none⟩ = some (.int .i64 x.t.n) := step_cells s.ob
theorem Pl.turn (s : Pl w0 W g B h L f M fm limit q x) (hf : Fr kT [] w0.heap.size W W') (ht : TableAt W' w0.heap.size g B L' f' limit) : Pl w0 W' g B h L' f' M fm limit q x :=
  ⟨ht, s.ref.keep hf (by simp [kT]) (by simp [kT]), hf.keep q _ s.ob (by simp [oStep, kd, kT]) (by simp), s.bel.trans hf.below⟩
theorem Pl.turnR (s : Pl w0 W g B h L f M fm limit q x) (hf : Fr rK [] w0.heap.size W W') (hr : RefAt W' w0.heap.size h M' fm' limit) : Pl w0 W' g B h L f M' fm' limit q x :=
  ⟨s.tab.keep hf (by simp [rK]) (by simp [rK]), hr, hf.keep q _ s.ob (by simp [oStep, kd, rK]) (by simp), s.bel.trans hf.below⟩
theorem pl_note (s : Pl w0 W g B h L f M fm limit q x) (hx : Ok x.t) (hl : L.length ≤ 1000) : Calls Try.prog 10 #[.pointer (some ⟨g, 0, none⟩), .string x.t.k, .int .i64 x.t.n] W fun r w' => r = .returned (.tuple #[]) ∧ Pl w0 w' g B h (noteL L x.t.k x.t.n limit) (noteF L f x.t.k x.t.n limit) M fm limit q x := by
  refine (note_any _ g B L f limit x.t W s.tab hx hl s.bel.size).mono ?_
  rintro r w' ⟨rfl, ht, hf⟩
  exact ⟨rfl, s.turn hf ht⟩
theorem pl_refnote (s : Pl w0 W g B h L f M fm limit q x) (hr : Rises M) (hl : M.length < 100000) : Calls Try.prog 11 #[.pointer (some ⟨h, 0, none⟩), .string x.t.k, .int .i64 x.t.n] W fun r w' => r = .returned (.tuple #[]) ∧ Pl w0 w' g B h L f (noteL M x.t.k x.t.n limit) (noteF M fm x.t.k x.t.n limit) limit q x := by
  refine (refnote_any _ h M fm limit x.t.k x.t.n W s.ref s.bel.size hr hl).mono ?_
  rintro r w' ⟨rfl, hr, hf⟩
  exact ⟨rfl, s.turnR hf hr⟩
theorem pl_pass (s : Pl w0 W g B h L f M fm limit q x) (n : Int) (hl : L.length ≤ 1000) : Calls Try.prog 12 #[.pointer (some ⟨g, 0, none⟩), .int .i64 n] W fun r w' => r = .returned (.int .i64 (gone L n)) ∧ Pl w0 w' g B h (passL L n) (passF f n) M fm limit q x := by
  refine (pass_any _ g B L f limit n W s.tab s.bel.size hl).mono ?_
  rintro r w' ⟨rfl, ht, hf⟩
  exact ⟨rfl, s.turn hf ht⟩
theorem pl_refpass (s : Pl w0 W g B h L f M fm limit q x) (n : Int) : Calls Try.prog 13 #[.pointer (some ⟨h, 0, none⟩), .int .i64 n] W fun r w' => r = .returned (.int .i64 (gone M n)) ∧ Pl w0 w' g B h L f (passL M n) (passF fm n) limit q x := by
  refine (refpass_any _ h M fm limit n W s.ref s.bel.size).mono ?_
  rintro r w' ⟨rfl, hr, hf⟩
  exact ⟨rfl, s.turnR hf hr⟩
theorem pl_clear (s : Pl w0 W g B h L f M fm limit q x) : Calls Try.prog 14 #[.pointer (some ⟨g, 0, none⟩)] W fun r w' => r = .returned (.tuple #[]) ∧ Pl w0 w' g B h [] 0 M fm limit q x := by
  refine (clear_any _ g B L f limit W s.tab).mono ?_
  rintro r w' ⟨rfl, ht, hf⟩
  exact ⟨rfl, s.turn hf ht⟩
theorem pl_nil (s : Pl w0 W g B h L f M fm limit q x) : Pl w0 ((W.setCell ⟨h, 0, none⟩ (.slice none 0 0)).setCell ⟨h, 2, none⟩ (.int .i64 0)) g B h L f [] 0 limit q x ∧ (∃ A n c, W.cell? ⟨h, 0, none⟩ = some (.slice A n c)) ∧ W.frozen? ⟨h, 0, none⟩ = false ∧
    (W.setCell ⟨h, 0, none⟩ (.slice none 0 0)).cell? ⟨h, 2, none⟩ = some (.int .i64 fm) ∧ (W.setCell ⟨h, 0, none⟩ (.slice none 0 0)).frozen? ⟨h, 2, none⟩ = false := by
  obtain ⟨h1, h2, v, h3, h4⟩ := s.ref
  obtain ⟨A, c, rfl, _⟩ := h4.form
  have hF : Fr rK [] w0.heap.size W (W.setCell ⟨h, 0, none⟩ (.slice none 0 0)) := (Fr.refl _ _ _ _).set h3 (.inl (by simp [kd, rK])) h1 _
  have h5 := h3.set0 (.slice none 0 0)
  have s1 : Pl w0 (W.setCell ⟨h, 0, none⟩ (.slice none 0 0)) g B h L f [] fm limit q x := s.turnR hF ⟨h1, by simp, _, h5, RowT.nil _⟩
  obtain ⟨r2, hF2⟩ := ref_floor s1.ref 0
  exact ⟨s1.turnR hF2 r2, ⟨A, _, c, h3.c0⟩, h3.frozen 0, h5.c2, h5.frozen 2⟩
end
theorem pl_new {w wr : World} {g B h : Nat} {L : List Tm} {f limit : Int} (x : Step) (hm : TableAt wr w.heap.size g B L f limit) (hr : RefAt wr w.heap.size h L f limit) (hb : Below w.heap.size w wr) : Pl w (wr.alloc (oStep x)) g B h L f L f limit wr.heap.size x := by
  have b1 : Below wr.heap.size wr (wr.alloc (oStep x)) := (Below.refl _ _).alloc (Nat.le_refl _) _
  exact ⟨hm.below b1, hr.below b1, heap_new _ _, hb.trans (b1.mono hb.size)⟩
def PlRel (l : List Step) (g B h : Nat) (limit : Int) (w : World) (s8 : Value) (wr : World) : Prop :=
  ∃ (k : Nat) (L : List Tm) (f : Int), k ≤ 200 ∧ k ≤ l.length ∧ s8 = .int .i64 (k : Int) ∧ TableAt wr w.heap.size g B L f limit ∧ RefAt wr w.heap.size h L f limit ∧ Below w.heap.size w wr ∧ L.length ≤ k
/-- What the switch leaves. -/
def PsRel (w : World) (g B h q k : Nat) (x : Step) (limit : Int) (_s33 : Value) (W : World) : Prop := ∃ (L : List Tm) (f : Int), Pl w W g B h L f L f limit q x ∧ L.length ≤ k + 1
set_option maxRecDepth 100000 in
set_option maxHeartbeats 16000000 in
theorem plays_walk (limit : Int) (l : List Step) (A : Option Addr) (n c : Nat) (w : World) (hs : Scr w A l) (hn : l.length = n) :
    Calls Try.prog 3 #[.int .i64 limit, .slice A n c] w fun e w' => e = .returned (.bool true) ∧ Below w.heap.size w w' := by
  have H := Lib.hid hs
  have HE := Lib.hid hn
  clear hs hn
  go_enter Try.func3, Try.ntmps3
  go_wp2_with fail
  refine (awake_any w).mono ?_
  rintro e w1 ⟨rfl, b1⟩
  have B1 := Lib.hid b1
  clear b1
  go_wp2_with fail
  refine (new_any w.heap.size limit w1 B1.out.size).mono ?_
  rintro e w2 ⟨g, B, rfl, t2, b2, _, _⟩
  have hB2 := B1.out.trans (b2.mono B1.out.size)
  have hb3 : Below w2.heap.size w2 (w2.alloc (.cells #[.slice none 0 0, .int .i64 limit, .int .i64 0] 29)) := (Below.refl _ _).alloc (Nat.le_refl _) _
  have T3 := Lib.hid (t2.below hb3)
  have B3 := Lib.hid (hB2.trans (hb3.mono hB2.size))
  have R3 : Hid (RefAt (w2.alloc (.cells #[.slice none 0 0, .int .i64 limit, .int .i64 0] 29)) w.heap.size w2.heap.size [] 0 limit) := ⟨hB2.size, by simp, _, heap_new _ _, RowT.nil _⟩
  clear t2 b2 B1 hB2 hb3
  go_wp2
  generalize hh0 : w2.heap.size = h at R3 ⊢
  clear hh0
  go_loopw [8] (PlRel l g B h limit w) (fun i _ => 201 - (intOf i).toNat)
  case atStart => exact ⟨0, [], 0, Nat.zero_le _, Nat.zero_le _, rfl, T3.out, R3.out, B3.out, Nat.le_refl _⟩
  case round =>
    obtain ⟨k, L, f, hk2, hkl, rfl, hm, hr, hb, hL⟩ := hrel
    have HM := Lib.hid hm
    have HRF := Lib.hid hr
    have HB := Lib.hid hb
    have HLL := Lib.hid hL
    clear hm hr hb hL T3 B3 R3
    rw [HE.out] at hkl
    by_cases hlt : k < n ∧ k < 200
    · obtain ⟨hlt1, hlt2⟩ := hlt
      have hkl2 : k < l.length := by rw [HE.out]; exact hlt1
      obtain ⟨b, off, rfl, hbs, c0, c1, c2⟩ := at_st (H.out.below (Nat.le_refl _) HB.out).1 hkl2
      have S0 := Lib.hid (pl_new l[k] HM.out HRF.out HB.out)
      have HKS := Lib.hid (H.out.2 l[k] (List.getElem_mem hkl2))
      generalize l[k] = x at c0 c1 c2 S0 HKS
      have hlti : (k : Int) < (n : Int) := by omega
      have hlti2 : (k : Int) < 200 := by omega
      have hk0 : (0 : Int) ≤ (k : Int) := by omega
      have HK2 : Hid (k ≤ 199 ∧ k + 1 ≤ l.length) := by show _ ∧ _; omega
      have HG := Lib.hid HM.out.good
      clear hkl2 hbs hk2 hkl
      go_upto_block 2 with fail
      obtain ⟨W0, hW0⟩ : ∃ W0, wr.alloc (oStep x) = W0 := ⟨_, rfl⟩
      have hW0' := hW0
      simp only [oStep] at hW0'
      rw [hW0] at S0
      rw [hW0']
      clear hW0 hW0' c0 c1 c2 HM HRF HB
      obtain ⟨K, o⟩ := x
      simp only at S0 HKS
      generalize wr.heap.size = q at S0 ⊢
      obtain ⟨z0, z1, z2⟩ := S0.out.cells
      simp only at z0 z1 z2
      go_cut [33] from 34 to 130 (PsRel w g B h q k ⟨K, o⟩ limit)
      case first =>
        by_cases hK0 : K = 0
        · subst hK0
          have C1 := Lib.hid (pl_note S0.out HKS.out (by have := HLL.out; have := HK2.out; omega))
          have CR : Hid (∀ W, Pl w W g B h (noteL L o.k o.n limit) (noteF L f o.k o.n limit) L f limit q ⟨0, o⟩ → Calls Try.prog 11 #[.pointer (some ⟨h, 0, none⟩), .string o.k, .int .i64 o.n] W fun r w' => r = .returned (.tuple #[]) ∧ Pl w w' g B h (noteL L o.k o.n limit) (noteF L f o.k o.n limit) (noteL L o.k o.n limit) (noteF L f o.k o.n limit) limit q ⟨0, o⟩) := fun W hW => pl_refnote hW HG.out.rs (by have := HLL.out; have := HK2.out; omega)
          have HB2 : Hid ((noteL L o.k o.n limit).length ≤ k + 1) := by show _ ≤ _; have := noteL_le L o.k o.n limit HG.out.rs; have := HLL.out; omega
          simp only at C1
          generalize noteL L o.k o.n limit = L2 at C1 CR HB2
          generalize noteF L f o.k o.n limit = f2 at C1 CR
          go_wp2_with fail
          refine C1.out.mono ?_
          rintro r W1 ⟨rfl, s1⟩
          have C2 := Lib.hid (CR.out _ s1)
          obtain ⟨y0, y1, y2⟩ := s1.cells
          simp only at y0 y1 y2
          clear s1 C1 CR z0 z1 z2 S0
          go_wp2_with fail
          refine C2.out.mono ?_
          rintro r W2 ⟨rfl, s2⟩
          have S2 := Lib.hid s2
          obtain ⟨x0, x1, x2⟩ := s2.cells
          simp only at x0 x1 x2
          clear s2 C2 y0 y1 y2
          go_wp2_with fail
          refine (note_nil o.k o.n W2).mono ?_
          rintro r W3 ⟨rfl, rfl⟩
          go_wp2
          go_meet
          case rel => exact ⟨_, _, S2.out, HB2.out⟩
        · by_cases hK1 : K = 1
          · subst hK1
            have SD := Lib.hid S0.out.drew
            have CA : Hid (∀ W, Pl w W g B h L f L f limit q ⟨1, o⟩ → Calls Try.prog 12 #[.pointer (some ⟨g, 0, none⟩), .int .i64 o.n] W fun r w' => r = .returned (.int .i64 (gone L o.n)) ∧ Pl w w' g B h (passL L o.n) (passF f o.n) L f limit q ⟨1, o⟩) := fun W hW => pl_pass hW o.n (by have := HLL.out; have := HK2.out; omega)
            have CB : Hid (∀ W, Pl w W g B h (passL L o.n) (passF f o.n) L f limit q ⟨1, o⟩ → Calls Try.prog 13 #[.pointer (some ⟨h, 0, none⟩), .int .i64 o.n] W fun r w' => r = .returned (.int .i64 (gone L o.n)) ∧ Pl w w' g B h (passL L o.n) (passF f o.n) (passL L o.n) (passF f o.n) limit q ⟨1, o⟩) := fun W hW => pl_refpass hW o.n
            have HB2 : Hid ((passL L o.n).length ≤ k + 1) := by show _ ≤ _; have := passL_le L o.n; have := HLL.out; omega
            generalize gone L o.n = gv at CA CB
            generalize passL L o.n = L2 at CA CB HB2
            generalize passF f o.n = f2 at CA CB
            go_wp2_with fail
            go_region_held3 (fun w' => w'.cell? ⟨q, 2, none⟩ = some (.int .i64 o.n)) (first | go_keep | exact ca2 | exact cb2 | exact z2 | assumption)
              (first
                | (go_at_call 12; (with_reducible refine (CA.out _ SD.out).mono ?_); rintro e wa ⟨rfl, sa⟩; have SA := Lib.hid sa; obtain ⟨ca0, ca1, ca2⟩ := sa.cells; simp only at ca0 ca1 ca2; clear sa)
                | (go_at_call 13; (with_reducible refine (CB.out _ SA.out).mono ?_); rintro e wb ⟨rfl, sb⟩; have SB := Lib.hid sb; obtain ⟨cb0, cb1, cb2⟩ := sb.cells; simp only at cb0 cb1 cb2; clear sb)
                | (go_at_call 12; (with_reducible refine (pass_nil o.n _).mono ?_); rintro e wv ⟨rfl, rfl⟩))
            clear ca0 ca1 ca2 cb0 cb1 cb2
            go_wp2
            go_meet
            case rel => exact ⟨_, _, SB.out, HB2.out⟩
          · by_cases hK2 : K = 2
            · subst hK2
              go_wp2_with fail
              refine (pl_clear S0.out).mono ?_
              rintro r W1 ⟨rfl, s1⟩
              obtain ⟨s2, ⟨A9, n9, c9, y0⟩, fz, y2, fz2⟩ := pl_nil s1
              have S2 := Lib.hid s2
              clear s1 s2 z0 z1 z2 S0
              go_wp2_with fail
              refine (clear_nil _).mono ?_
              rintro r W3 ⟨rfl, rfl⟩
              go_wp2
              go_meet
              case rel => exact ⟨[], 0, S2.out, by simp⟩
            · go_wp2
              go_meet
              case rel => exact ⟨_, _, S0.out, by have := HLL.out; omega⟩
      case rest =>
        obtain ⟨L2, f2, sf, hb2⟩ := hcut
        have SF := Lib.hid sf
        have HB2 := Lib.hid hb2
        obtain ⟨A9, c9, hbox, _⟩ := sf.ref.parts
        obtain ⟨n9, hn9⟩ : ∃ n9, n9 = L2.length := ⟨_, rfl⟩
        rw [← hn9] at hbox
        have HN9 := Lib.hid hn9
        have HBX := Lib.hid hbox
        clear sf hb2 hbox hn9 S0 z0 z1 z2
        have CC : Hid (∀ W, Below wc.heap.size wc W → W.cell? ⟨q, 1, none⟩ = some (.string o.k) ∧ W.cell? ⟨q, 2, none⟩ = some (.int .i64 o.n) ∧ W.cell? ⟨h, 0, none⟩ = some (.slice A9 n9 c9) ∧ W.cell? ⟨h, 2, none⟩ = some (.int .i64 f2)) := fun W hb => ⟨(SF.out.below hb).cells.2.1, (SF.out.below hb).cells.2.2, (HBX.out.below hb).c0, (HBX.out.below hb).c2⟩
        obtain ⟨v1, v2, v3, v4⟩ := CC.out wc (Below.refl _ _)
        obtain ⟨ha, hha⟩ : ∃ ha, ha = decide (o.n ≥ bar L2 f2 o.k) := ⟨_, rfl⟩
        have CH : Hid (∀ W, Below wc.heap.size wc W → Calls Try.prog 15 #[.pointer (some ⟨g, 0, none⟩), .string o.k, .int .i64 o.n] W fun r w' => r = .returned (.bool ha) ∧ Below wc.heap.size wc w') := fun W hb => by
          rw [hha]
          exact (allows_any _ g B L2 f2 limit o.k o.n W (SF.out.below hb).tab HKS.out.k).mono fun r w' hx => ⟨hx.1, hb.trans (hx.2.mono hb.size)⟩
        have CR : Hid (∀ W, Below wc.heap.size wc W → Calls Try.prog 16 #[.pointer (some ⟨h, 0, none⟩), .string o.k, .int .i64 o.n] W fun r w' => r = .returned (.bool ha) ∧ W = w') := fun W hb => by
          rw [hha]
          exact refallows_any _ h L2 f2 limit o.k o.n W (SF.out.below hb).ref SF.out.tab.good
        have CL : Hid (∀ W, Below wc.heap.size wc W → Calls Try.prog 17 #[.pointer (some ⟨g, 0, none⟩)] W fun r w' => r = .returned (.int .i64 (n9 : Int)) ∧ W = w') := fun W hb => by
          rw [HN9.out]
          exact len_any _ g B L2 f2 limit W (SF.out.below hb).tab
        have CF : Hid (∀ W, Below wc.heap.size wc W → Calls Try.prog 18 #[.pointer (some ⟨g, 0, none⟩)] W fun r w' => r = .returned (.int .i64 f2) ∧ W = w') := fun W hb => floor_any _ g B L2 f2 limit W (SF.out.below hb).tab
        have CA : Hid (∀ W, Below wc.heap.size wc W → Calls Try.prog 20 #[.pointer (some ⟨g, 0, none⟩)] W fun r w' => ∃ A c, r = .returned (.slice A n9 c) ∧ Sl eKy w' A (keys L2) ∧ Below wc.heap.size wc w') := fun W hb => by
          rw [HN9.out]
          refine (keys_any _ g B L2 f2 limit W (SF.out.below hb).tab (by have := HB2.out; have := HK2.out; omega)).mono ?_
          rintro r w' ⟨A, c, h1, h2, h3, _⟩
          exact ⟨A, c, h1, h2, hb.trans (h3.mono hb.size)⟩
        have CS : Hid (∀ W A c, Below wc.heap.size wc W → Sl eKy W A (keys L2) → Calls Try.prog 19 #[.pointer (some ⟨h, 0, none⟩), .slice A n9 c] W fun r w' => r = .returned (.bool true) ∧ Below wc.heap.size wc w') := fun W A c hb ht =>
          (refsame_any _ h L2 f2 limit A n9 c W (SF.out.below hb).ref ht HN9.out.symm).mono fun r w' hx => ⟨hx.1, hb.trans (hx.2.mono hb.size)⟩
        have BD : Hid (Below wc.heap.size wc wc.drew) := (Below.refl _ _).drew
        clear hha
        cases ha
        all_goals
          go_wp2_with fail
          go_region_held3 (fun w' => w'.cell? ⟨q, 1, none⟩ = some (.string o.k) ∧ w'.cell? ⟨q, 2, none⟩ = some (.int .i64 o.n) ∧ w'.cell? ⟨h, 0, none⟩ = some (.slice A9 n9 c9) ∧ w'.cell? ⟨h, 2, none⟩ = some (.int .i64 f2)) (first | go_keep | exact CC.out _ BA.out | exact CC.out _ BB.out | exact CC.out _ BC.out | exact ⟨v1, v2, v3, v4⟩)
            (first
              | (go_at_call 15; (with_reducible refine (CH.out _ BD.out).mono ?_); rintro e wa ⟨rfl, ba⟩; have BA := Lib.hid ba; clear ba)
              | (go_at_call 16; (with_reducible refine (CR.out _ BA.out).mono ?_); rintro e wv ⟨rfl, rfl⟩)
              | (go_at_call 15; (with_reducible refine (allows_nil o.k o.n _).mono ?_); rintro e wv ⟨rfl, rfl⟩)
              | (go_at_call 17; (with_reducible refine (CL.out _ BA.out).mono ?_); rintro e wv ⟨rfl, rfl⟩)
              | (go_at_call 18; (with_reducible refine (CF.out _ BA.out).mono ?_); rintro e wv ⟨rfl, rfl⟩)
              | (go_at_call 20; (with_reducible refine (CA.out _ BA.out).mono ?_); rintro e wb ⟨A5, c5, rfl, sl5, bb⟩; have BB := Lib.hid bb; have SL5 := Lib.hid sl5; clear bb sl5)
              | (go_at_call 19; (with_reducible refine (CS.out _ _ _ BB.out SL5.out).mono ?_); rintro e wd ⟨rfl, bc⟩; have BC := Lib.hid bc; clear bc))
          have SE := Lib.hid (SF.out.below BC.out)
          clear SF CH CR CL CF CA CS v1 v2 v3 v4 BD BA BB SL5 CC
          go_wp2
          go_roundw
          case rel => exact ⟨k + 1, L2, f2, by have := HK2.out; omega, HK2.out.2, by go_num, SE.out.tab, SE.out.ref, SE.out.bel, HB2.out⟩
          case measure => simp [intOf]; omega
    · have hcase : ¬ (k : Int) < (n : Int) ∨ ((k : Int) < (n : Int) ∧ ¬ (k : Int) < 200) := by omega
      clear hlt hk2 hkl HM HRF
      rcases hcase with hc1 | ⟨hc1, hc2⟩
      all_goals
        go_wp2_with fail
        refine (len_nil wr).mono ?_
        rintro r w9 ⟨rfl, rfl⟩
        go_wp2_with fail
        refine (floor_nil wr).mono ?_
        rintro r w9 ⟨rfl, rfl⟩
        go_wp2_with fail
        refine (keys_nil wr).mono ?_
        rintro r w9 ⟨rfl, rfl⟩
        go_wp2
        go_ret
        exact ⟨rfl, HB.out⟩
end Go.Proofs.Ytlleiehacmkedaa
