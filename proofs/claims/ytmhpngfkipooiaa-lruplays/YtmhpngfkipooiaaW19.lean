/-
  A cache and the document's cache side by side. The walk of LruPlays. Its conditions: the script reads as steps.
-/
import Derived.Test.YtmhpngfkipooiaaW18
namespace Go.Proofs.Ytmhpngfkipooiaa
open Go.RowKit Go.Maps

/-- A cache, the document's cache, and the step that is played. -/
structure Pl (w0 W : World) (g h : Nat) (L M : List Th) (room kept kept' : Int) (q : Nat) (x : Step) : Prop where
  cache : CacheAt W w0.heap.size g L room kept
  ref : RefAt W w0.heap.size h M room kept'
  box : W.heap[q]? = some (oStep x)
  bel : Below w0.heap.size w0 W
section
variable {w0 W : World} {g h : Nat} {L M : List Th} {room kept kept' : Int} {q : Nat} {x : Step}
theorem Pl.below {W' : World} (s : Pl w0 W g h L M room kept kept' q x) (hb : Below W.heap.size W W') : Pl w0 W' g h L M room kept kept' q x :=
  ⟨s.cache.below hb, s.ref.below hb, (hb.block q (Array.getElem?_eq_some_iff.mp s.box).1).trans s.box, s.bel.trans (hb.mono s.bel.size)⟩
theorem Pl.drew (s : Pl w0 W g h L M room kept kept' q x) : Pl w0 W.drew g h L M room kept kept' q x := s.below (Below.refl _ _).drew
theorem Pl.cells (s : Pl w0 W g h L M room kept kept' q x) : W.cell? ⟨q, 0, none⟩ = some (.int .i64 x.K) ∧ W.cell? ⟨q, 1, none⟩ = some (.string x.key) ∧ W.cell? ⟨q, 2, none⟩ = some (.int .i64 x.S) ∧ W.cell? ⟨q, 3, none⟩ = some (.int .i64 x.N) := by
  have := s.box
  unfold oStep at this
  refine ⟨?_, ?_, ?_, ?_⟩ <;> simp [World.cell?, this]
theorem Pl.turn {W' : World} {L' : List Th} {k' : Int} (s : Pl w0 W g h L M room kept kept' q x) (hf : Fr cK w0.heap.size W W') (hc : CacheAt W' w0.heap.size g L' room k') : Pl w0 W' g h L' M room k' kept' q x :=
  ⟨hc, s.ref.keep hf (by simp [rL, cK]), hf.keep q _ s.box (by simp [oStep, kd, cK]), s.bel.trans hf.below⟩
theorem Pl.turnR {W' : World} {M' : List Th} {k' : Int} (s : Pl w0 W g h L M room kept kept' q x) (hf : Fr rK w0.heap.size W W') (hc : RefAt W' w0.heap.size h M' room k') : Pl w0 W' g h L M' room kept k' q x :=
  ⟨s.cache.keep hf (by simp [rK, cK]), hc, hf.keep q _ s.box (by simp [oStep, kd, rK]), s.bel.trans hf.below⟩
theorem pl_peek (s : Pl w0 W g h L M room kept kept' q x) (k : ByteArray) (hk : k.size ≤ maxLen) : Calls Try.prog 14 #[.pointer (some ⟨g, 0, none⟩), .string k] W fun r w' => r = .returned (getV (fnd L k)) ∧ Pl w0 w' g h L M room kept kept' q x := by
  refine (peek_any _ g L room kept k W s.cache hk).mono ?_
  rintro r w' ⟨rfl, rfl⟩
  exact ⟨rfl, s⟩
theorem pl_get (s : Pl w0 W g h L M room kept kept' q x) (k : ByteArray) (hk : k.size ≤ maxLen) : Calls Try.prog 15 #[.pointer (some ⟨g, 0, none⟩), .string k] W fun r w' => r = .returned (getV (fnd L k)) ∧ Pl w0 w' g h (usd L k) M room kept kept' q x := by
  refine (get_any _ g L room kept k W s.cache hk).mono ?_
  rintro r w' ⟨rfl, hc, hf⟩
  exact ⟨rfl, s.turn hf hc⟩
theorem pl_drop (s : Pl w0 W g h L M room kept kept' q x) (k : ByteArray) (hk : k.size ≤ maxLen) : Calls Try.prog 17 #[.pointer (some ⟨g, 0, none⟩), .string k] W fun r w' => r = .returned (.bool (has L k)) ∧ Pl w0 w' g h (drp L k) M room kept kept' q x := by
  refine (drop_any _ g L room kept k W s.cache hk).mono ?_
  rintro r w' ⟨rfl, hc, hf⟩
  exact ⟨rfl, s.turn hf hc⟩
theorem pl_release (s : Pl w0 W g h L M room kept kept' q x) (n : Int) : Calls Try.prog 21 #[.pointer (some ⟨g, 0, none⟩), .int .i64 n] W fun r w' => r = .returned (.tuple #[]) ∧ Pl w0 w' g h L M room (rel n kept) kept' q x := by
  refine (release_any _ g L room kept n W s.cache).mono ?_
  rintro r w' ⟨rfl, hc, hf⟩
  exact ⟨rfl, s.turn hf hc⟩
theorem pl_clear (s : Pl w0 W g h L M room kept kept' q x) : Calls Try.prog 23 #[.pointer (some ⟨g, 0, none⟩)] W fun r w' => r = .returned (.tuple #[]) ∧ Pl w0 w' g h [] M room kept kept' q x := by
  refine (clear_any _ g L room kept W s.cache s.bel.size).mono ?_
  rintro r w' ⟨rfl, hc, hf⟩
  exact ⟨rfl, s.turn hf hc⟩
theorem pl_put (s : Pl w0 W g h L M room kept kept' q x) (t : Th) (hk : t.k.size ≤ maxLen) (hl : L.length ≤ 99999) : Calls Try.prog 11 #[.pointer (some ⟨g, 0, none⟩), .string t.k, .int .i64 t.s, .int .i64 t.n] W fun r w' =>
    ∃ A c, r = .returned (.tuple #[.slice A (wG room kept t.s (drp L t.k)).length c, .bool (wayOk room kept t.s)]) ∧ Row w' w0.heap.size (.slice A (wG room kept t.s (drp L t.k)).length c) (wG room kept t.s (drp L t.k)) ∧ Pl w0 w' g h (putL room kept L t) M room kept kept' q x := by
  refine (put_any _ g L room kept t W s.cache s.bel.size hl hk).mono ?_
  rintro r w' ⟨v, rfl, ho, hc, hf⟩
  obtain ⟨A, c, rfl⟩ := ho.form
  exact ⟨A, c, rfl, ho.down s.bel.size, s.turn hf hc⟩
theorem pl_reserve (s : Pl w0 W g h L M room kept kept' q x) (n : Int) (hl : L.length ≤ 100000) : Calls Try.prog 19 #[.pointer (some ⟨g, 0, none⟩), .int .i64 n] W fun r w' =>
    ∃ A c, r = .returned (.tuple #[.slice A (wG room kept n L).length c, .bool (wayOk room kept n)]) ∧ Row w' w0.heap.size (.slice A (wG room kept n L).length c) (wG room kept n L) ∧ Pl w0 w' g h (wL room kept n L) M room (resK room kept n) kept' q x := by
  refine (reserve_any _ g L room kept n W s.cache s.bel.size hl).mono ?_
  rintro r w' ⟨v, rfl, ho, hc, hf⟩
  obtain ⟨A, c, rfl⟩ := ho.form
  exact ⟨A, c, rfl, ho.down s.bel.size, s.turn hf hc⟩
theorem pl_refput (s : Pl w0 W g h L M room kept kept' q x) (t : Th) (hg : Good M room kept') (hl : M.length ≤ 99998) {A1 : Option Addr} {n1 c1 : Nat} {l1 : List ByteArray} (ho1 : Row W w0.heap.size (.slice A1 n1 c1) l1) : Calls Try.prog 12 #[.pointer (some ⟨h, 0, none⟩), .agg #[.string t.k, .int .i64 t.s, .int .i64 t.n]] W fun r w' =>
    ∃ A c, r = .returned (.tuple #[.slice A (wG room kept' t.s (drp M t.k)).length c, .bool (wayOk room kept' t.s)]) ∧ Row w' w0.heap.size (.slice A (wG room kept' t.s (drp M t.k)).length c) (wG room kept' t.s (drp M t.k)) ∧ Pl w0 w' g h L (putL room kept' M t) room kept kept' q x ∧ Row w' w0.heap.size (.slice A1 n1 c1) l1 := by
  refine (refput_any _ h M room kept' t W s.ref hg s.bel.size hl).mono ?_
  rintro r w' ⟨A, c, rfl, ho, hc, hf⟩
  exact ⟨A, c, rfl, ho.down s.bel.size, s.turnR hf hc, ho1.fr hf (by simp [rK])⟩
theorem pl_refreserve (s : Pl w0 W g h L M room kept kept' q x) (n : Int) (hg : Good M room kept') {A1 : Option Addr} {n1 c1 : Nat} {l1 : List ByteArray} (ho1 : Row W w0.heap.size (.slice A1 n1 c1) l1) : Calls Try.prog 20 #[.pointer (some ⟨h, 0, none⟩), .int .i64 n] W fun r w' =>
    ∃ A c, r = .returned (.tuple #[.slice A (wG room kept' n M).length c, .bool (wayOk room kept' n)]) ∧ Row w' w0.heap.size (.slice A (wG room kept' n M).length c) (wG room kept' n M) ∧ Pl w0 w' g h L (wL room kept' n M) room kept (resK room kept' n) q x ∧ Row w' w0.heap.size (.slice A1 n1 c1) l1 := by
  refine (refreserve_any _ h M room kept' n W s.ref hg s.bel.size).mono ?_
  rintro r w' ⟨A, c, rfl, ho, hc, hf⟩
  exact ⟨A, c, rfl, ho.down s.bel.size, s.turnR hf hc, ho1.fr hf (by simp [rK])⟩
theorem pl_refget (s : Pl w0 W g h L M room kept kept' q x) (k : ByteArray) (used : Bool) (hg : Good M room kept') (hl : M.length ≤ 99998) : Calls Try.prog 16 #[.pointer (some ⟨h, 0, none⟩), .string k, .bool used] W fun r w' => r = .returned (getV (fnd M k)) ∧ Pl w0 w' g h L (if used then usd M k else M) room kept kept' q x := by
  refine (refget_any _ h M room kept' k used W s.ref hg s.bel.size hl).mono ?_
  rintro r w' ⟨rfl, hc, hf⟩
  exact ⟨rfl, s.turnR hf hc⟩
theorem pl_refdrop (s : Pl w0 W g h L M room kept kept' q x) (k : ByteArray) (hg : Good M room kept') : Calls Try.prog 18 #[.pointer (some ⟨h, 0, none⟩), .string k] W fun r w' => r = .returned (.bool (has M k)) ∧ Pl w0 w' g h L (drp M k) room kept kept' q x := by
  refine (refdrop_any _ h M room kept' k W s.ref s.bel.size hg.nd).mono ?_
  rintro r w' ⟨rfl, hc, hf⟩
  exact ⟨rfl, s.turnR hf hc⟩
theorem pl_refrelease (s : Pl w0 W g h L M room kept kept' q x) (n : Int) (hg : Good M room kept') : Calls Try.prog 22 #[.pointer (some ⟨h, 0, none⟩), .int .i64 n] W fun r w' => r = .returned (.tuple #[]) ∧ Pl w0 w' g h L M room kept (rel n kept') q x := by
  refine (refrelease_any _ h M room kept' n W s.ref hg).mono ?_
  rintro r w' ⟨rfl, hc, hf⟩
  exact ⟨rfl, s.turnR hf hc⟩
theorem pl_same (s : Pl w0 W g h L M room kept kept' q x) {A1 A2 : Option Addr} {n c1 c2 : Nat} {l : List ByteArray} (h1 : Row W w0.heap.size (.slice A1 n c1) l) (h2 : Row W w0.heap.size (.slice A2 n c2) l) (hl : l.length = n) (hn : n ≤ 100000) :
    Calls Try.prog 13 #[.slice A1 n c1, .slice A2 n c2] W fun r w' => r = .returned (.bool true) ∧ Pl w0 w' g h L M room kept kept' q x := by
  have s1 : Strs W A1 l := by
    obtain ⟨A', c', e, hs⟩ := h1.strs (by unfold maxLen; omega)
    injection e with e1 _ _
    subst e1
    exact hs
  have s2 : Strs W A2 l := by
    obtain ⟨A', c', e, hs⟩ := h2.strs (by unfold maxLen; omega)
    injection e with e1 _ _
    subst e1
    exact hs
  have := same_any l l A1 A2 n n c1 c2 W s1 s2 hl hl
  rw [show decide (l = l) = true by simp] at this
  refine this.mono ?_
  rintro r w' ⟨rfl, hb⟩
  exact ⟨rfl, s.below hb⟩
theorem pl_nil (s : Pl w0 W g h L M room kept kept' q x) : Pl w0 (W.setCell ⟨h, 0, none⟩ (.slice none 0 0)) g h L [] room kept kept' q x ∧ (∃ A n c, W.cell? ⟨h, 0, none⟩ = some (.slice A n c)) ∧ W.frozen? ⟨h, 0, none⟩ = false := by
  obtain ⟨h1, h2, v, h3, h4⟩ := s.ref
  obtain ⟨A, c, rfl, _⟩ := h4.form
  have hF : Fr rK w0.heap.size W (W.setCell ⟨h, 0, none⟩ (.slice none 0 0)) := (Fr.refl _ _ _).set h3 (by simp [kd, rK]) h1 _
  exact ⟨s.turnR hF ⟨h1, by simp, _, h3.set0 _, World.ownsRow_nil _ _ _ _⟩, ⟨A, _, c, h3.c0⟩, h3.frozen 0⟩
end
def PlRel (l : List Step) (g h : Nat) (room : Int) (w : World) (s7 : Value) (wr : World) : Prop :=
  ∃ (k : Nat) (L : List Th) (kept : Int), k ≤ 200 ∧ k ≤ l.length ∧ s7 = .int .i64 (k : Int) ∧ CacheAt wr w.heap.size g L room kept ∧ RefAt wr w.heap.size h L room kept ∧ Below w.heap.size w wr ∧ L.length ≤ k
/-- What the switch leaves. -/
def PsRel (w : World) (g h q k : Nat) (x : Step) (room : Int) (s9 _ _ _ _ _ _ _ _ _ _ _ _ : Value) (W : World) : Prop :=
  ∃ (L : List Th) (kept : Int), s9 = .bool true ∧ Pl w W g h L L room kept kept q x ∧ L.length ≤ k + 1
theorem pl_new {w wr : World} {g h : Nat} {L : List Th} {room kept : Int} (x : Step) (hm : CacheAt wr w.heap.size g L room kept) (hr : RefAt wr w.heap.size h L room kept) (hb : Below w.heap.size w wr) : Pl w (wr.alloc (oStep x)) g h L L room kept kept wr.heap.size x := by
  have hb1 : Below wr.heap.size wr (wr.alloc (oStep x)) := (Below.refl _ _).alloc (Nat.le_refl _) _
  exact ⟨hm.below hb1, hr.below hb1, heap_new _ _, hb.trans (hb1.mono hb.size)⟩
set_option maxRecDepth 100000 in
set_option maxHeartbeats 8000000 in
theorem plays_walk (a : Int) (l : List Step) (A : Option Addr) (n c : Nat) (w : World) (ha : a ≤ 9223372036854775807) (hs : Scr w A l) (hn : l.length = n) :
    Calls Try.prog 3 #[.int .i64 a, .slice A n c] w fun e w' => e = .returned (.bool true) ∧ Below w.heap.size w w' := by
  obtain ⟨room, hroom⟩ : ∃ room, room = max a 0 := ⟨_, rfl⟩
  have hmax : ∀ w, (Builtin.max_ #[3, 3] 3 #[.int .i64 a, .int .i64 0]).run Try.prog w = .ok (.int .i64 room) w := fun w => run_max2 w _ _ _ _ _ hroom
  have H := Lib.hid hs
  have HE := Lib.hid hn
  have HR := Lib.hid hroom
  have HA := Lib.hid ha
  clear hs hn hroom ha
  go_enter Try.func3, Try.ntmps3
  go_wp2_with fail
  refine (awake_any w).mono ?_
  rintro e w1 ⟨rfl, b1⟩
  have B1 := Lib.hid b1
  clear b1
  go_wp2_with fail
  refine (new_any w.heap.size a room w1 B1.out.size HR.out HA.out).mono ?_
  rintro e w2 ⟨g, rfl, _, c2, b2⟩
  have hB2 := B1.out.trans (b2.mono B1.out.size)
  have hb3 : Below w2.heap.size w2 (w2.alloc (.cells #[.slice none 0 0, .int .i64 room, .int .i64 0] 29)) := (Below.refl _ _).alloc (Nat.le_refl _) _
  have C3 := Lib.hid (c2.below hb3)
  have B3 := Lib.hid (hB2.trans (hb3.mono hB2.size))
  have R3 : Hid (RefAt (w2.alloc (.cells #[.slice none 0 0, .int .i64 room, .int .i64 0] 29)) w.heap.size w2.heap.size [] room 0) := ⟨hB2.size, by simp, _, heap_new _ _, World.ownsRow_nil _ _ _ _⟩
  clear c2 b2 B1 hB2 hb3
  go_wp2
  go_loopw [7] (PlRel l g w2.heap.size room w) (fun i _ => 201 - (intOf i).toNat)
  case atStart => exact ⟨0, [], 0, Nat.zero_le _, Nat.zero_le _, rfl, C3.out, R3.out, B3.out, Nat.le_refl _⟩
  case round =>
    generalize w2.heap.size = h at hrel R3 ⊢
    obtain ⟨k, L, kept, hk2, hkl, rfl, hm, hr, hb, hlen⟩ := hrel
    have HM := Lib.hid hm
    have HRF := Lib.hid hr
    have HB := Lib.hid hb
    clear hm hr hb C3 B3 R3
    rw [HE.out] at hkl
    by_cases hlt : k < n ∧ k < 200
    · obtain ⟨hlt1, hlt2⟩ := hlt
      have hkl2 : k < l.length := by rw [HE.out]; exact hlt1
      obtain ⟨b, off, rfl, hbs, c0, c1, c2, c3⟩ := (H.out.below (Nat.le_refl _) HB.out).at_ hkl2
      have S0 := Lib.hid (pl_new l[k] HM.out HRF.out HB.out)
      have HKS := Lib.hid (H.out.2.1 l[k] (List.getElem_mem hkl2))
      generalize l[k] = x at c0 c1 c2 c3 S0 HKS
      obtain ⟨K, key, S, N⟩ := x
      simp only at c0 c1 c2 c3 S0 HKS
      have hlti : (k : Int) < (n : Int) := by omega
      have hlti2 : (k : Int) < 200 := by omega
      have hk0 : (0 : Int) ≤ (k : Int) := by omega
      have HL : Hid (L.length ≤ k ∧ k ≤ 200) := ⟨hlen, hk2⟩
      have HG := Lib.hid HM.out.good
      clear hkl2 hlen hbs
      go_upto_block 2 with fail
      obtain ⟨W0, hW0⟩ : ∃ W0, wr.alloc (oStep ⟨K, key, S, N⟩) = W0 := ⟨_, rfl⟩
      have hW0' := hW0
      simp only [oStep] at hW0'
      rw [hW0] at S0
      rw [hW0']
      clear hW0 hW0' c0 c1 c2 c3 HM HRF HB
      generalize wr.heap.size = q at S0 ⊢
      obtain ⟨z0, z1, z2, z3⟩ := S0.out.cells
      go_cut [9, 10, 11, 12, 13, 14, 15, 16, 17, 18, 19, 20, 21] from 30 to 194 (PsRel w g h q k ⟨K, key, S, N⟩ room)
      case first =>
        by_cases hK0 : K = 0
        · subst hK0
          have C1 := Lib.hid (pl_put S0.out ⟨key, S, N⟩ HKS.out (by have := HL.out; omega))
          obtain ⟨okb, hok⟩ : ∃ okb, okb = wayOk room kept S := ⟨_, rfl⟩
          obtain ⟨ng, hng⟩ : ∃ ng, ng = (wG room kept S (drp L key)).length := ⟨_, rfl⟩
          have HNG := Lib.hid hng
          have HN5 : Hid (ng ≤ 100000) := by show _ ≤ _; have := wG_len room kept S (drp L key); have := drp_len L key; have := HL.out; omega
          have HPL := Lib.hid (putL_len room kept L ⟨key, S, N⟩)
          simp only [← hok, ← hng] at C1
          have CR : Hid (∀ W A1 c1, Pl w W g h (putL room kept L ⟨key, S, N⟩) L room kept kept q ⟨0, key, S, N⟩ → Row W w.heap.size (.slice A1 ng c1) (wG room kept S (drp L key)) → Calls Try.prog 12 #[.pointer (some ⟨h, 0, none⟩), .agg #[.string key, .int .i64 S, .int .i64 N]] W fun r w' =>
              ∃ A c, r = .returned (.tuple #[.slice A ng c, .bool okb]) ∧ Row w' w.heap.size (.slice A ng c) (wG room kept S (drp L key)) ∧ Pl w w' g h (putL room kept L ⟨key, S, N⟩) (putL room kept L ⟨key, S, N⟩) room kept kept q ⟨0, key, S, N⟩ ∧ Row w' w.heap.size (.slice A1 ng c1) (wG room kept S (drp L key))) := fun W A1 c1 hW ho => by
            have := pl_refput hW ⟨key, S, N⟩ HG.out (by have := HL.out; omega) ho
            simp only [← hok, ← hng] at this
            exact this
          clear hok hng
          generalize wG room kept S (drp L key) = gl at C1 CR HNG
          generalize putL room kept L ⟨key, S, N⟩ = L2 at C1 CR HPL
          go_wp2_with fail
          refine C1.out.mono ?_
          rintro r W1 ⟨A1, c1, rfl, o1, s1⟩
          have C2 := Lib.hid (CR.out _ _ _ s1 o1)
          obtain ⟨y0, y1, y2, y3⟩ := s1.cells
          clear o1 s1 C1 CR z0 z1 z2 z3
          go_wp2_with fail
          refine C2.out.mono ?_
          rintro r W2 ⟨A2, c2, rfl, o2, s2, o1⟩
          have C3 := Lib.hid (pl_same s2 o1 o2 HNG.out.symm HN5.out)
          clear o1 o2 s2 C2 y0 y1 y2 y3
          go_wp2_with fail
          refine C3.out.mono ?_
          rintro r W3 ⟨rfl, s3⟩
          have S3 := Lib.hid s3
          clear s3 C3
          go_wp2
          go_meet
          case rel => exact ⟨_, _, rfl, S3.out, by have := HPL.out; have := HL.out; omega⟩
        · by_cases hK1 : K = 1
          · subst hK1
            have C1 := Lib.hid (pl_peek S0.out key HKS.out)
            rw [getV_eq] at C1
            have HUL := Lib.hid (usd_len L key)
            have CG : Hid (∀ W, Pl w W g h L L room kept kept q ⟨1, key, S, N⟩ → Calls Try.prog 15 #[.pointer (some ⟨g, 0, none⟩), .string key] W fun r w' => r = .returned (.tuple #[.int .i64 (gv (fnd L key)), .bool (gb (fnd L key))]) ∧ Pl w w' g h (usd L key) L room kept kept q ⟨1, key, S, N⟩) := fun W hW => by
              have := pl_get hW key HKS.out
              rw [getV_eq] at this
              exact this
            have CR : Hid (∀ W, Pl w W g h (usd L key) L room kept kept q ⟨1, key, S, N⟩ → Calls Try.prog 16 #[.pointer (some ⟨h, 0, none⟩), .string key, .bool true] W fun r w' => r = .returned (.tuple #[.int .i64 (gv (fnd L key)), .bool (gb (fnd L key))]) ∧ Pl w w' g h (usd L key) (usd L key) room kept kept q ⟨1, key, S, N⟩) := fun W hW => by
              have := pl_refget hW key true HG.out (by have := HL.out; omega)
              rw [getV_eq] at this
              exact this
            generalize gv (fnd L key) = vv at C1 CG CR
            generalize gb (fnd L key) = vb at C1 CG CR
            generalize usd L key = L2 at CG CR HUL
            go_wp2_with fail
            refine C1.out.mono ?_
            rintro r W1 ⟨rfl, s1⟩
            have C2 := Lib.hid (CG.out _ s1)
            obtain ⟨y0, y1, y2, y3⟩ := s1.cells
            clear s1 C1 CG z0 z1 z2 z3
            go_wp2_with fail
            refine C2.out.mono ?_
            rintro r W2 ⟨rfl, s2⟩
            have C3 := Lib.hid (CR.out _ s2)
            obtain ⟨x0, x1, x2, x3⟩ := s2.cells
            clear s2 C2 CR y0 y1 y2 y3
            go_wp2_with fail
            refine C3.out.mono ?_
            rintro r W3 ⟨rfl, s3⟩
            have S3 := Lib.hid s3
            clear s3 C3 x0 x1 x2 x3
            go_wp2
            go_meet
            case rel => exact ⟨_, _, rfl, S3.out, by have := HUL.out; have := HL.out; omega⟩
          · by_cases hK2 : K = 2
            · subst hK2
              have C1 := Lib.hid (pl_peek S0.out key HKS.out)
              rw [getV_eq] at C1
              have CR : Hid (∀ W, Pl w W g h L L room kept kept q ⟨2, key, S, N⟩ → Calls Try.prog 16 #[.pointer (some ⟨h, 0, none⟩), .string key, .bool false] W fun r w' => r = .returned (.tuple #[.int .i64 (gv (fnd L key)), .bool (gb (fnd L key))]) ∧ Pl w w' g h L L room kept kept q ⟨2, key, S, N⟩) := fun W hW => by
                have := pl_refget hW key false HG.out (by have := HL.out; omega)
                rw [getV_eq] at this
                exact this
              generalize gv (fnd L key) = vv at C1 CR
              generalize gb (fnd L key) = vb at C1 CR
              go_wp2_with fail
              refine C1.out.mono ?_
              rintro r W1 ⟨rfl, s1⟩
              have C3 := Lib.hid (CR.out _ s1)
              obtain ⟨x0, x1, x2, x3⟩ := s1.cells
              clear s1 C1 CR z0 z1 z2 z3
              go_wp2_with fail
              refine C3.out.mono ?_
              rintro r W3 ⟨rfl, s3⟩
              have S3 := Lib.hid s3
              clear s3 C3 x0 x1 x2 x3
              go_wp2
              go_meet
              case rel => exact ⟨_, _, rfl, S3.out, by have := HL.out; omega⟩
            · by_cases hK3 : K = 3
              · subst hK3
                have SD := Lib.hid S0.out.drew
                go_wp2_with fail
                go_region_held3 (fun w' => w'.cell? ⟨q, 1, none⟩ = some (.string key)) (first | go_keep | exact ca1 | exact cb1 | exact z1)
                  (first
                    | (go_at_call 17; (with_reducible refine (pl_drop SD.out key HKS.out).mono ?_); rintro e wa ⟨rfl, sa⟩; have SA := Lib.hid sa; obtain ⟨ca0, ca1, ca2, ca3⟩ := sa.cells; clear sa)
                    | (go_at_call 18; (with_reducible refine (pl_refdrop SA.out key HG.out).mono ?_); rintro e wb ⟨rfl, sb⟩; have SB := Lib.hid sb; obtain ⟨cb0, cb1, cb2, cb3⟩ := sb.cells; clear sb))
                clear ca0 ca1 ca2 ca3
                go_wp2
                go_meet
                case rel => exact ⟨_, _, rfl, SB.out, by have := drp_len L key; have := HL.out; omega⟩
              · by_cases hK4 : K = 4
                · subst hK4
                  have C1 := Lib.hid (pl_reserve S0.out S (by have := HL.out; omega))
                  obtain ⟨okb, hok⟩ : ∃ okb, okb = wayOk room kept S := ⟨_, rfl⟩
                  obtain ⟨ng, hng⟩ : ∃ ng, ng = (wG room kept S L).length := ⟨_, rfl⟩
                  have HNG := Lib.hid hng
                  have HN5 : Hid (ng ≤ 100000) := by show _ ≤ _; have := wG_len room kept S L; have := HL.out; omega
                  have HPL := Lib.hid (wl_len room kept S L)
                  simp only [← hok, ← hng] at C1
                  have CR : Hid (∀ W A1 c1, Pl w W g h (wL room kept S L) L room (resK room kept S) kept q ⟨4, key, S, N⟩ → Row W w.heap.size (.slice A1 ng c1) (wG room kept S L) → Calls Try.prog 20 #[.pointer (some ⟨h, 0, none⟩), .int .i64 S] W fun r w' =>
                      ∃ A c, r = .returned (.tuple #[.slice A ng c, .bool okb]) ∧ Row w' w.heap.size (.slice A ng c) (wG room kept S L) ∧ Pl w w' g h (wL room kept S L) (wL room kept S L) room (resK room kept S) (resK room kept S) q ⟨4, key, S, N⟩ ∧ Row w' w.heap.size (.slice A1 ng c1) (wG room kept S L)) := fun W A1 c1 hW ho => by
                    have := pl_refreserve hW S HG.out ho
                    simp only [← hok, ← hng] at this
                    exact this
                  clear hok hng
                  generalize wG room kept S L = gl at C1 CR HNG
                  generalize wL room kept S L = L2 at C1 CR HPL
                  generalize resK room kept S = kp at C1 CR
                  go_wp2_with fail
                  refine C1.out.mono ?_
                  rintro r W1 ⟨A1, c1, rfl, o1, s1⟩
                  have C2 := Lib.hid (CR.out _ _ _ s1 o1)
                  obtain ⟨y0, y1, y2, y3⟩ := s1.cells
                  clear o1 s1 C1 CR z0 z1 z2 z3
                  go_wp2_with fail
                  refine C2.out.mono ?_
                  rintro r W2 ⟨A2, c2, rfl, o2, s2, o1⟩
                  have C3 := Lib.hid (pl_same s2 o1 o2 HNG.out.symm HN5.out)
                  clear o1 o2 s2 C2 y0 y1 y2 y3
                  go_wp2_with fail
                  refine C3.out.mono ?_
                  rintro r W3 ⟨rfl, s3⟩
                  have S3 := Lib.hid s3
                  clear s3 C3
                  go_wp2
                  go_meet
                  case rel => exact ⟨_, _, rfl, S3.out, by have := HPL.out; have := HL.out; omega⟩
                · by_cases hK5 : K = 5
                  · subst hK5
                    go_wp2_with fail
                    refine (pl_release S0.out S).mono ?_
                    rintro r W1 ⟨rfl, s1⟩
                    have C2 := Lib.hid (pl_refrelease s1 S HG.out)
                    obtain ⟨y0, y1, y2, y3⟩ := s1.cells
                    clear s1 z0 z1 z2 z3
                    go_wp2_with fail
                    refine C2.out.mono ?_
                    rintro r W2 ⟨rfl, s2⟩
                    have S3 := Lib.hid s2
                    clear s2 C2 y0 y1 y2 y3
                    go_wp2
                    go_meet
                    case rel => exact ⟨_, _, rfl, S3.out, by have := HL.out; omega⟩
                  · by_cases hK6 : K = 6
                    · subst hK6
                      go_wp2_with fail
                      refine (pl_clear S0.out).mono ?_
                      rintro r W1 ⟨rfl, s1⟩
                      obtain ⟨s2, ⟨Ah, nh, ch, cc0⟩, ff0⟩ := pl_nil s1
                      have S3 := Lib.hid s2
                      clear s1 s2 z0 z1 z2 z3
                      go_wp2
                      go_meet
                      case rel => exact ⟨[], _, rfl, S3.out, Nat.zero_le _⟩
                    · go_wp2
                      go_meet
                      case rel => exact ⟨_, _, rfl, S0.out, by have := HL.out; omega⟩
      case rest =>
        obtain ⟨L2, kept2, rfl, sf, hl2⟩ := hcut
        have HG2 := Lib.hid sf.cache.good
        have H2 := Lib.hid hl2
        obtain ⟨n2, hn2⟩ : ∃ n2, n2 = L2.length := ⟨_, rfl⟩
        have HN2 := Lib.hid hn2
        obtain ⟨uu, huu⟩ : ∃ uu, uu = tot L2 + kept2 := ⟨_, rfl⟩
        have CU : Hid (∀ W, Pl w W g h L2 L2 room kept2 kept2 q ⟨K, key, S, N⟩ → Calls Try.prog 24 #[.pointer (some ⟨g, 0, none⟩)] W fun r w' => r = .returned (.int .i64 uu) ∧ Pl w w' g h L2 L2 room kept2 kept2 q ⟨K, key, S, N⟩) := fun W hW => by
          rw [huu]
          refine (used_any _ g L2 room kept2 W hW.cache).mono ?_
          rintro r w' ⟨rfl, rfl⟩
          exact ⟨rfl, hW.drew⟩
        have CV : Hid (∀ W, Pl w W g h L2 L2 room kept2 kept2 q ⟨K, key, S, N⟩ → Calls Try.prog 25 #[.pointer (some ⟨h, 0, none⟩)] W fun r w' => r = .returned (.int .i64 uu) ∧ W = w') := fun W hW => by
          rw [huu]
          exact refused_any _ h L2 room kept2 W hW.ref HG2.out
        have CS : Hid (∀ W, Pl w W g h L2 L2 room kept2 kept2 q ⟨K, key, S, N⟩ → Calls Try.prog 26 #[.pointer (some ⟨g, 0, none⟩)] W fun r w' => r = .returned (.int .i64 kept2) ∧ W = w') := fun W hW => reserved_any _ g L2 room kept2 W hW.cache
        have CK : Hid (∀ W, Pl w W g h L2 L2 room kept2 kept2 q ⟨K, key, S, N⟩ → Calls Try.prog 27 #[.pointer (some ⟨g, 0, none⟩)] W fun r w' => ∃ A c, r = .returned (.slice A n2 c) ∧ Row w' w.heap.size (.slice A n2 c) (keys L2) ∧ Pl w w' g h L2 L2 room kept2 kept2 q ⟨K, key, S, N⟩) := fun W hW => by
          refine (keys_any _ g L2 room kept2 W hW.cache (by have := HL.out; omega)).mono ?_
          rintro r w' ⟨v, rfl, ho, hb⟩
          obtain ⟨A, c, rfl⟩ := ho.form
          rw [keys_length, ← hn2] at ho ⊢
          exact ⟨A, c, rfl, ho.down hW.bel.size, hW.below hb⟩
        have CL : Hid (∀ W A1 c1, Pl w W g h L2 L2 room kept2 kept2 q ⟨K, key, S, N⟩ → Row W w.heap.size (.slice A1 n2 c1) (keys L2) → Calls Try.prog 28 #[.pointer (some ⟨h, 0, none⟩)] W fun r w' => ∃ A c, r = .returned (.slice A n2 c) ∧ Row w' w.heap.size (.slice A n2 c) (keys L2) ∧ Pl w w' g h L2 L2 room kept2 kept2 q ⟨K, key, S, N⟩ ∧ Row w' w.heap.size (.slice A1 n2 c1) (keys L2)) := fun W A1 c1 hW ho1 => by
          refine (refkeys_any _ h L2 room kept2 W hW.ref).mono ?_
          rintro r w' ⟨v, rfl, ho, hb⟩
          obtain ⟨A, c, rfl⟩ := ho.form
          rw [keys_length, ← hn2] at ho ⊢
          exact ⟨A, c, rfl, ho.down hW.bel.size, hW.below hb, ho1.below hb⟩
        have CM : Hid (∀ W A1 A2 c1 c2, Pl w W g h L2 L2 room kept2 kept2 q ⟨K, key, S, N⟩ → Row W w.heap.size (.slice A1 n2 c1) (keys L2) → Row W w.heap.size (.slice A2 n2 c2) (keys L2) → Calls Try.prog 13 #[.slice A1 n2 c1, .slice A2 n2 c2] W fun r w' => r = .returned (.bool true) ∧ Pl w w' g h L2 L2 room kept2 kept2 q ⟨K, key, S, N⟩) := fun W A1 A2 c1 c2 hW h1 h2 =>
          pl_same hW h1 h2 (by rw [keys_length, hn2]) (by have := HL.out; omega)
        have XC : Hid (∀ W, Pl w W g h L2 L2 room kept2 kept2 q ⟨K, key, S, N⟩ → W.cell? ⟨h, 2, none⟩ = some (.int .i64 kept2)) := fun W hW => by
          obtain ⟨_, _, hb, _⟩ := hW.ref.parts
          exact hb.c2
        have SF := Lib.hid sf.drew
        have x0 := XC.out _ sf
        clear sf hl2 hn2 huu S0 z0 z1 z2 z3
        go_wp2_with fail
        go_region_held3 (fun w' => w'.cell? ⟨h, 2, none⟩ = some (.int .i64 kept2)) (first | go_keep | exact xa | exact xb | exact xc | exact xd)
          (first
            | (go_at_call 24; (with_reducible refine (CU.out _ SF.out).mono ?_); rintro e wa ⟨rfl, sa⟩; have SA := Lib.hid sa; have xa := XC.out _ sa; clear sa)
            | (go_at_call 25; (with_reducible refine (CV.out _ SA.out).mono ?_); rintro e wv ⟨rfl, rfl⟩)
            | (go_at_call 26; (with_reducible refine (CS.out _ SA.out).mono ?_); rintro e wv ⟨rfl, rfl⟩)
            | (go_at_call 27; (with_reducible refine (CK.out _ SA.out).mono ?_); rintro e wb ⟨Ab, cb, rfl, ob, sb⟩; have SB := Lib.hid sb; have OB := Lib.hid ob; have xb := XC.out _ sb; clear sb ob)
            | (go_at_call 28; (with_reducible refine (CL.out _ _ _ SB.out OB.out).mono ?_); rintro e wc ⟨Ac, cc, rfl, oc, sc, obc⟩; have SC := Lib.hid sc; have OC := Lib.hid oc; have OBC := Lib.hid obc; have xc := XC.out _ sc; clear sc oc obc)
            | (go_at_call 13; (with_reducible refine (CM.out _ _ _ _ _ SC.out OBC.out OC.out).mono ?_); rintro e wd ⟨rfl, sd⟩; have SDD := Lib.hid sd; have xd := XC.out _ sd; clear sd))
        go_wp2
        go_roundw
        case rel => exact ⟨k + 1, L2, kept2, by omega, by have := HE.out; omega, by go_num, SDD.out.cache, SDD.out.ref, SDD.out.bel, H2.out⟩
        case measure => simp [intOf]; omega
    · skip
      have hcase : ¬ (k : Int) < (n : Int) ∨ ((k : Int) < (n : Int) ∧ ¬ (k : Int) < 200) := by omega
      clear hlt hk2 hkl hlen HM HRF
      rcases hcase with hc1 | ⟨hc1, hc2⟩
      all_goals
        go_wp2
        go_ret
        exact ⟨rfl, HB.out⟩
end Go.Proofs.Ytmhpngfkipooiaa
