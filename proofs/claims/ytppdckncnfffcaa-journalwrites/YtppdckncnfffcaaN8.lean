/-
  Words for memory: a row of texts written over, bytes that are handed to the disk, a round of JournalWrites. Their conditions: as said.
-/
import Derived.Test.YtppdckncnfffcaaN7
namespace Go.Proofs.Ytppdckncnfffcaa
open Go.RowKit
set_option maxRecDepth 100000

theorem ovw_snoc (ss : List Sec) : ∀ (K : List Sec) (p : Nat) (s : Sec), ovw K p (ss ++ [s]) = (ovw K p ss).set (p + ss.length) s := by
  induction ss with
  | nil => intro K p s; rfl
  | cons t r ih =>
    intro K p s
    simp only [List.cons_append, ovw, ih, List.length_cons]
    rw [show p + 1 + r.length = p + (r.length + 1) by omega]
theorem ovw_take {K S : List Sec} {p k : Nat} (h : k < S.length) : ovw K p (S.take (k + 1)) = (ovw K p (S.take k)).set (p + k) (at_ S k) := by
  have e := at_get h
  rw [List.take_add_one, e]
  show ovw K p (S.take k ++ [at_ S k]) = _
  rw [ovw_snoc, List.length_take, Nat.min_eq_left (by omega)]
/-- A cell of a row of texts is written over. -/
theorem RowT.set {w : World} {base : Nat} {l : List ByteArray} {g n c : Nat} (h : RowT eKy 9 w base (.slice (some ⟨g, 0, none⟩) n c) l) (k : Nat) (x : ByteArray) :
    RowT eKy 9 (w.setCell ⟨g, k, none⟩ (.string x)) base (.slice (some ⟨g, 0, none⟩) n c) (l.set k x) ∧ w.grownBy (w.setCell ⟨g, k, none⟩ (.string x)) (some g) ∧ w.frozen? ⟨g, k, none⟩ = false := by
  rcases h.2 with ⟨hv, _⟩ | ⟨g', cap, cur, hv, hb, hg, hle, hm, hsz, htk⟩
  · cases hv
  · have e : g' = g ∧ l.length = n ∧ cap = c := by
      simp only [Value.slice.injEq, Option.some.injEq, Addr.mk.injEq, and_true] at hv
      obtain ⟨e1, e2, e3⟩ := hv
      exact ⟨e1.symm, e2.symm, e3.symm⟩
    obtain ⟨rfl, rfl, rfl⟩ := e
    have hv2 : ∀ m : List ByteArray, eKy.vals m = m.map Value.string := fun m => by
      induction m with
      | nil => rfl
      | cons y r ih =>
        have : eKy.vals (y :: r) = eKy.f y ++ eKy.vals r := by simp [Enc.vals]
        rw [this, ih]
        rfl
    refine ⟨?_, ⟨rfl, rfl, rfl, by simp, fun i _ hi => Below.heap_setCell _ _ _ _ (fun e => hi (by simp [e]))⟩, by simp [World.frozen?, hg]⟩
    refine ⟨by rw [eKy.vals_length], .inr ⟨g', cap, cur.setIfInBounds k (.string x), by rw [List.length_set], hb, ?_, by rw [List.length_set]; exact hle, hm, by simpa using hsz, ?_⟩⟩
    · simp [World.setCell, Array.getElem?_modify, hg]
    · rw [List.length_set, Array.toList_setIfInBounds, List.take_set, htk, hv2, hv2, List.map_set]
theorem RowT.app_fr' {w w' : World} {base : Nat} {v : Value} {l : List ByteArray} (h : RowT eKy 9 w base v l) {gw : Nat} (hv : v.ownBlock = some gw) (hg : w.grownBy w' (some gw)) (hb : base ≤ w.heap.size) : Fr [9] [] base w w' := h.fr_app (by rw [hv]; exact hg) hb
/-- Bytes in a block of the kind 5, that may be written. -/
def BufB (w : World) (base : Nat) (A : Option Addr) (l : List UInt8) : Prop :=
  ∃ q C fr, A = some ⟨q, 0, none⟩ ∧ w.heap[q]? = some (.cells C 5 fr) ∧ C.toList.take l.length = bv l ∧ base ≤ q ∧ l.length ≤ maxLen ∧ ∀ i, i < l.length → w.frozen? ⟨q, i, none⟩ = false
section
variable {w w' : World} {base base' : Nat} {A : Option Addr} {l : List UInt8}
theorem BufB.cell {q : Nat} {C : Array Value} {fr : Nat × Nat} (hq : w.heap[q]? = some (.cells C 5 fr)) (hC : C.toList.take l.length = bv l) {k : Nat} (hk : k < l.length) : w.cell? ⟨q, k, none⟩ = some (.int .u8 (l[k].toNat : Int)) := by
  have h2 : (bv l)[k]? = some (.int .u8 (l[k].toNat : Int)) := by
    unfold bv
    rw [List.getElem?_map, List.getElem?_eq_getElem hk]
    rfl
  rw [← hC, List.getElem?_take, if_pos hk] at h2
  rw [cell_of hq]
  simpa using h2
theorem BufB.sl (h : BufB w base A l) : Sl eBy w A l := by
  obtain ⟨q, C, fr, rfl, hq, hC, hb, hm, _⟩ := h
  refine ⟨hm, fun _ => ⟨q, 0, rfl, lt_of_heap hq, fun k x hk i u hu => ?_⟩⟩
  have hi : i = 0 := by
    have := (List.getElem?_eq_some_iff.mp hu).1
    have e : (eBy.f x).length = 1 := rfl
    omega
  subst hi
  have hu : Value.int .u8 (x.toNat : Int) = u := by simpa [eBy] using hu
  obtain ⟨hkl, hkx⟩ := List.getElem?_eq_some_iff.mp hk
  have := BufB.cell hq hC hkl
  rw [show eBy.wd = 1 from rfl, ← hu, ← hkx]
  simpa using this
theorem BufB.of_block (h : BufB w base A l) (hk : ∀ q o, A = some ⟨q, 0, none⟩ → w.heap[q]? = some o → w'.heap[q]? = some o) : BufB w' base A l := by
  obtain ⟨q, C, fr, rfl, hq, hC, hb, hm, hf⟩ := h
  have hq' := hk q _ rfl hq
  refine ⟨q, C, fr, rfl, hq', hC, hb, hm, fun i hi => ?_⟩
  have := hf i hi
  unfold World.frozen? at this ⊢
  simp only [hq, hq'] at this ⊢
  exact this
theorem BufB.below (h : BufB w base A l) (hb : Below w.heap.size w w') : BufB w' base A l :=
  h.of_block fun q _ _ ho => (hb.block q (lt_of_heap ho)).trans ho
theorem BufB.fr {ks ms : List Nat} (h : BufB w base A l) (hf : Fr ks ms base' w w') (h5 : 5 ∉ ks) (hm : ∀ i ∈ ms, ∃ o, w.heap[i]? = some o ∧ kd o ≠ 5) : BufB w' base A l := by
  obtain ⟨q, C, fr, rfl, hq, hC, hb, hml, hfz⟩ := h
  refine BufB.of_block ⟨q, C, fr, rfl, hq, hC, hb, hml, hfz⟩ fun q' _ e ho => ?_
  cases e
  rw [hq] at ho
  cases ho
  exact hf.keep q _ hq h5 (fun hx => by
    obtain ⟨o, ho, hk⟩ := hm _ hx
    rw [hq] at ho
    cases ho
    exact hk rfl)
theorem BufB.down (h : BufB w base A l) (hb : base' ≤ base) : BufB w base' A l := by
  obtain ⟨q, C, fr, h1, h2, h3, h4, h5⟩ := h
  exact ⟨q, C, fr, h1, h2, h3, by omega, h5⟩
theorem BufB.set (h : BufB w base A l) {k : Nat} (hk : k < l.length) (x : UInt8) : ∃ q, A = some ⟨q, 0, none⟩ ∧ w.cell? ⟨q, k, none⟩ = some (.int .u8 (l[k].toNat : Int)) ∧ w.frozen? ⟨q, k, none⟩ = false ∧ BufB (w.setCell ⟨q, k, none⟩ (.int .u8 (x.toNat : Int))) base A (l.set k x) ∧ Fr [5] [] base w (w.setCell ⟨q, k, none⟩ (.int .u8 (x.toNat : Int))) := by
  obtain ⟨q, C, fr, rfl, hq, hC, hb, hm, hf⟩ := h
  have hq' : (w.setCell ⟨q, k, none⟩ (.int .u8 (x.toNat : Int))).heap[q]? = some (.cells (C.setIfInBounds k (.int .u8 (x.toNat : Int))) 5 fr) := by simp [World.setCell, Array.getElem?_modify, hq]
  refine ⟨q, rfl, BufB.cell hq hC hk, hf k hk, ⟨q, C.setIfInBounds k (.int .u8 (x.toNat : Int)), fr, rfl, hq', ?_, hb, by rw [List.length_set]; exact hm, fun i hi => ?_⟩, (Fr.refl _ _ _ _).set hq (.inl (by simp [kd])) hb _⟩
  · rw [List.length_set, Array.toList_setIfInBounds, List.take_set, hC]
    simp [bv, List.map_set]
  · rw [List.length_set] at hi
    rw [World.frozen?_setCell]
    exact hf i hi
theorem buf_row {A : Option Addr} {n c : Nat} (h : RowT eBy 5 w base (.slice A n c) l) (h0 : 0 < l.length) (hm : l.length ≤ maxLen) : BufB w base A l := by
  rcases h.2 with ⟨hv, hn⟩ | ⟨g, cap, cur, hv, hb, hg, hle, _, _, htk⟩
  · have : l.length = 0 := hn
    omega
  · rw [eBy_vals, show eBy.wd = 1 from rfl, Nat.mul_one] at htk
    injection hv with e1 _ _
    exact ⟨g, cur, (0, 0), e1, hg, htk, hb, hm, fun i _ => by simp [World.frozen?, hg]⟩
theorem buf_conv (w : World) (l : List UInt8) (hm : l.length ≤ maxLen) : ∃ c w1, (convert 9 38 (.string (txt l))).run Try.prog w = .ok (.slice (some ⟨w.heap.size, 0, none⟩) l.length c) w1 ∧ Below w.heap.size w w1 ∧ BufB w1 w.heap.size (some ⟨w.heap.size, 0, none⟩) l := by
  have hr := run_bytes_of_string (P := Try.prog) w 9 38 5 (txt l) Try.underlying9 Try.underlying38 Try.underlying5
  rw [txt_size] at hr
  have hbs : ∀ cap k, k < l.length → (bytesRow (txt l) cap)[k]? = (bv l)[k]? := fun cap k hk => by
    rw [bytesRow_at (txt l) cap k (by simpa [txt] using hk)]
    simp [bv, txt, List.getElem?_map, List.getElem?_eq_getElem hk]
  refine ⟨_, _, hr, ((Below.refl _ w).drew).alloc (Nat.le_refl _) _, w.heap.size, _, _, rfl, heap_new w.drew _, ?_, Nat.le_refl _, hm, fun i hi => ?_⟩
  · apply List.ext_getElem?
    intro k
    by_cases hk : k < l.length
    · rw [List.getElem?_take, if_pos hk, Array.getElem?_toList]
      exact hbs _ k hk
    · rw [List.getElem?_take, if_neg hk, List.getElem?_eq_none (by rw [bv_length]; omega)]
  · rw [show w.heap.size = w.drew.heap.size from rfl, World.frozen?_alloc_mark]
    have h1 := hbs (grownCap w l.length 0 5) i hi
    have h2 : (bv l)[i]? = some ((bv l)[i]'(by rw [bv_length]; exact hi)) := List.getElem?_eq_getElem _
    rw [h2] at h1
    have h3 := (Array.getElem?_eq_some_iff.mp h1).1
    have h4 : ¬ (bytesRow (txt l) (grownCap w l.length 0 5)).size ≤ i := by omega
    rw [decide_eq_false h4]
    rfl
end
/-- A round of JournalWrites: the journal, where the document says that it stands, a step, the sectors that are wanted. -/
structure Wst (w W : World) (g dg qw q : Nat) (x : OpX) (j : Jn) (d : Dk) (u : Value) (H : Int) (lap : Nat) (v : Value) (L : List Sec) : Prop where
  run : Run w W g dg j d
  box : RefB W qw u H lap
  ob : W.heap[q]? = some (.cells #[.int .i64 x.K, .int .i64 x.N, x.B.x.v] 40 (0, 0))
  row : RowT eKy 9 W w.heap.size v (L.map tx)
  lo : w.heap.size ≤ qw
section
variable {w W W' : World} {g dg qw q : Nat} {x : OpX} {j j' : Jn} {d d' : Dk} {u : Value} {H : Int} {lap : Nat} {v : Value} {L : List Sec}
theorem Wst.below (h : Wst w W g dg qw q x j d u H lap v L) (hb : Below W.heap.size W W') : Wst w W' g dg qw q x j d u H lap v L :=
  ⟨h.run.below hb, h.box.below hb, (hb.block q (lt_of_heap h.ob)).trans h.ob, h.row.below hb, h.lo⟩
theorem Wst.drew (h : Wst w W g dg qw q x j d u H lap v L) : Wst w W.drew g dg qw q x j d u H lap v L := h.below (Below.refl _ _).drew
theorem Wst.ne (h : Wst w W g dg qw q x j d u H lap v L) : qw ≠ g ∧ q ≠ g := by
  have h2 := h.run.jb
  unfold JBox at h2
  constructor
  · intro e
    have h1 := h.box
    unfold RefB at h1
    rw [e, h2] at h1
    cases h1
  · intro e
    have h1 := h.ob
    rw [e, h2] at h1
    cases h1
theorem Wst.fr (h : Wst w W g dg qw q x j d u H lap v L) (hf : Fr kD [g] w.heap.size W W') (hr : Run w W' g dg j' d') : Wst w W' g dg qw q x j' d' u H lap v L := by
  have hm : ∀ i ∈ [g], ∃ o, W.heap[i]? = some o ∧ kd o ≠ 9 := fun i hi => by
    simp at hi
    subst hi
    exact ⟨_, h.run.jb, by simp [kd]⟩
  exact ⟨hr, hf.keep qw _ h.box (by simp [kd, kD]) (by simpa using h.ne.1), hf.keep q _ h.ob (by simp [kd, kD]) (by simpa using h.ne.2), h.row.fr hf (by simp [kD]) hm, h.lo⟩
theorem Wst.c0 (h : Wst w W g dg qw q x j d u H lap v L) : W.cell? ⟨q, 0, none⟩ = some (.int .i64 x.K) := by rw [cell_of h.ob]; rfl
theorem Wst.c1 (h : Wst w W g dg qw q x j d u H lap v L) : W.cell? ⟨q, 1, none⟩ = some (.int .i64 x.N) := by rw [cell_of h.ob]; rfl
theorem Wst.c2 (h : Wst w W g dg qw q x j d u H lap v L) : W.cell? ⟨q, 2, none⟩ = some (.slice x.B.x.A x.B.x.n x.B.x.c) := by rw [cell_of h.ob]; rfl
/-- Another row, past a step that writes nothing of its kind. -/
theorem Wst.rowfr (h : Wst w W g dg qw q x j d u H lap v L) (hf : Fr kD [g] w.heap.size W W') {B : Nat} {vs : Value} {l : List ByteArray} (hr : RowT eKy 9 W B vs l) : RowT eKy 9 W' B vs l :=
  hr.fr hf (by simp [kD]) fun i hi => by
    simp at hi
    subst hi
    exact ⟨_, h.run.jb, by simp [kd]⟩
/-- A sector that is wanted is written over. -/
theorem Wst.set {A : Option Addr} {n c : Nat} (h : Wst w W g dg qw q x j d u H lap (.slice A n c) L) {k : Nat} (hk : k < L.length) (s : Sec) :
    ∃ gw, A = some ⟨gw, 0, none⟩ ∧ W.cell? ⟨gw, k, none⟩ = some (.string (tx (at_ L k))) ∧ W.frozen? ⟨gw, k, none⟩ = false ∧ Wst w (W.setCell ⟨gw, k, none⟩ (.string (tx s))) g dg qw q x j d u H lap (.slice A n c) (L.set k s) ∧
      (∀ {B : Nat} {vs : Value} {l : List ByteArray}, RowT eKy 9 W B vs l → Apart vs (.slice A n c) → RowT eKy 9 (W.setCell ⟨gw, k, none⟩ (.string (tx s))) B vs l) ∧ Fr [9] [] w.heap.size W (W.setCell ⟨gw, k, none⟩ (.string (tx s))) := by
  obtain ⟨A', c', e1, s1, _, _, hz⟩ := h.row.sl h.row.small
  injection e1 with e1 _ _
  subst e1
  obtain ⟨b, off, rfl, hc⟩ := at_tx s1 hk
  obtain ⟨g0, e3, _⟩ := hz _ rfl
  injection e3 with e3 e4 _
  subst e3 e4
  rw [Nat.zero_add] at hc
  obtain ⟨r1, r2, r3⟩ := h.row.set k (tx s)
  have hf := h.row.app_fr' (gw := b) (by simp [Value.ownBlock]) r2 h.run.bel.size
  rw [← List.map_set] at r1
  refine ⟨b, rfl, hc, r3, ⟨⟨h.run.jb.fr hf (by simp) (by simp), h.run.dk.keep hf (by simp) (by simp) (by simp) (by simp), h.run.bel.trans hf.below, h.run.ge⟩, hf.keep qw _ h.box (by simp [kd]) (by simp), hf.keep q _ h.ob (by simp [kd]) (by simp), r1, h.lo⟩, fun hr ha => ?_, hf⟩
  exact hr.past (u := .slice (some ⟨b, 0, none⟩) n c) (by simpa [Value.ownBlock] using r2) ha
theorem Wst.start (h : Wst w W g dg qw q x j d u H lap v L) {b : ByX} (hb : ByOk w b) (hlen : 2 * j.size ≤ d.K.length) (hsz : 0 < j.size) (hfree : j.free ≤ j.size) (hr : b.x.n ≤ 1000000) (hst : d.steps ≤ 900000) (hps : d.ps.length ≤ 90000) :
    Calls Try.prog 17 #[.pointer (some ⟨g, 0, none⟩), .slice b.x.A b.x.n b.x.c] W fun r w' => r = .returned (.int .i64 (startF d j b.l).2.2) ∧ Wst w w' g dg qw q x (startF d j b.l).2.1 (startF d j b.l).1 u H lap v L ∧ Fr kD [g] w.heap.size W w' := by
  refine (run_start h.run hb hlen hsz hfree hr hst hps).mono ?_
  rintro r w' ⟨rfl, a, f⟩
  exact ⟨rfl, h.fr f a, f⟩
theorem Wst.append (h : Wst w W g dg qw q x j d u H lap v L) {b : ByX} (hb : ByOk w b) (hs2 : j.size ≤ 4096) (hus : j.used ≤ j.size) (hfs : j.first + j.size ≤ d.K.length) (hrc : j.recs ≤ 4096) (hr : b.x.n ≤ 1000000) (hst : d.steps ≤ 900000) (hps : d.ps.length ≤ 90000) :
    Calls Try.prog 15 #[.pointer (some ⟨g, 0, none⟩), .slice b.x.A b.x.n b.x.c] W fun r w' => r = .returned (.int .i64 (appendF d j b.l).2.2) ∧ Wst w w' g dg qw q x (appendF d j b.l).2.1 (appendF d j b.l).1 u H lap v L ∧ Fr kD [g] w.heap.size W w' := by
  refine (run_append h.run hb hs2 hus hfs hrc hr hst hps).mono ?_
  rintro r w' ⟨rfl, a, f⟩
  exact ⟨rfl, h.fr f a, f⟩
theorem Wst.write (h : Wst w W g dg qw q x j d u H lap v L) (i : Int) (hs : d.steps ≤ 1000000) (hp : d.ps.length ≤ 100000) {A : Option Addr} {nb c B : Nat} {l : List UInt8} (hl : l.length = nb) (hA : BufB W B A l) :
    Calls Try.prog 20 #[.pointer (some ⟨dg, 0, none⟩), .int .i64 i, .slice A nb c] W fun r w' => r = .returned (.int .i64 (writeR d i l)) ∧ Wst w w' g dg qw q x j (writeD d i l) u H lap v L ∧ BufB w' B A l := by
  refine (st_write h.run.st i l A nb c hs hp hl (fun w' hf => (hA.fr hf (by simp [kD]) (by simp)).sl)).mono ?_
  rintro r w' ⟨rfl, s, f⟩
  have f' : Fr kD [g] w.heap.size W w' := f.mono (fun _ h => h) (by simp)
  exact ⟨rfl, h.fr f' (s.run (h.run.jb.fr f (by simp) (by simp)) h.run.ge), hA.fr f (by simp [kD]) (by simp)⟩
theorem Wst.sync (h : Wst w W g dg qw q x j d u H lap v L) (hs : d.steps ≤ 1000000) {A : Option Addr} {B : Nat} {l : List UInt8} (hA : BufB W B A l) :
    Calls Try.prog 21 #[.pointer (some ⟨dg, 0, none⟩)] W fun r w' => r = .returned (.int .i64 (if stepB d then 0 else 7)) ∧ Wst w w' g dg qw q x j (if stepB d then keepD d else stepD d) u H lap v L ∧ BufB w' B A l := by
  refine (st_sync h.run.st hs).mono ?_
  rintro r w' ⟨rfl, s, f⟩
  have f' : Fr kD [g] w.heap.size W w' := f.mono (fun _ h => h) (by simp)
  exact ⟨rfl, h.fr f' (s.run (h.run.jb.fr f (by simp) (by simp)) h.run.ge), hA.fr f (by simp [kD]) (by simp)⟩
/-- A journal is opened anew. -/
theorem Wst.opens (h : Wst w W g dg qw q x j d u H lap v L) (hd : d.down = false) (h4 : 4 ≤ d.K.length) : Calls Try.prog 11 #[.pointer (some ⟨dg, 0, none⟩)] W fun r w' =>
    ∃ (g' : Nat) (A : Option Addr) (m c : Nat) (xs : List SlX), r = .returned (.tuple #[.pointer (some ⟨g', 0, none⟩), .slice A m c, .int .i64 0]) ∧ RecsV w' W.heap.size (.slice A m c) xs (lookL (seen d.K d.ps) (d.K.length / 2)) ∧ Wst w w' g' dg qw q x (lookJ (seen d.K d.ps) (j0 (d.K.length / 2))) d u H lap v L ∧ Below W.heap.size W w' := by
  refine (jopen_any w.heap.size dg d W h.run.dk hd h4).mono ?_
  rintro r w' ⟨g', vr, xs, h1, h2, h3, h5, h6⟩
  obtain ⟨A, c, rfl, _⟩ := h2.row.form
  have hb := h.below h6
  exact ⟨g', A, _, c, xs, h1, h2, ⟨h.run.st.below h6 |>.run h3 (Nat.le_trans h.run.bel.size h5), hb.box, hb.ob, hb.row, hb.lo⟩, h6⟩
/-- Where the document says that the journal stands is written anew. -/
theorem Wst.box3 (h : Wst w W g dg qw q x j d u H lap v L) (u' : Value) (H' : Int) (lap' : Nat) :
    Wst w (((W.setCell ⟨qw, 0, none⟩ u').setCell ⟨qw, 1, none⟩ (.int .i64 H')).setCell ⟨qw, 2, none⟩ (.int .i64 (lap' : Int))) g dg qw q x j d u' H' lap' v L ∧ Fr [35] [] w.heap.size W (((W.setCell ⟨qw, 0, none⟩ u').setCell ⟨qw, 1, none⟩ (.int .i64 H')).setCell ⟨qw, 2, none⟩ (.int .i64 (lap' : Int))) := by
  have hf := h.box.fr3 h.lo u' (.int .i64 H') (.int .i64 (lap' : Int))
  exact ⟨⟨⟨h.run.jb.fr hf (by simp) (by simp), h.run.dk.keep hf (by simp) (by simp) (by simp) (by simp), h.run.bel.trans hf.below, h.run.ge⟩, h.box.set u' H' lap', hf.keep q _ h.ob (by simp [kd]) (by simp), h.row.fr hf (by simp) (by simp), h.lo⟩, hf⟩
end
end Go.Proofs.Ytppdckncnfffcaa
