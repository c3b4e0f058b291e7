/-
  A map whose keys are markers, and a table of markers, in memory. The contracts of Len, Drop, New. Their conditions: the table lies in memory.
-/
import Derived.Test.YtkonkldcallimaaW1
namespace Go.Proofs.Ytkonkldcallimaa
open Go.RowKit Go.Maps Go.ChangeMaps

theorem mLit_inj {a b : Mk} (ha : Ok a) (hb : Ok b) (h : mLit a = mLit b) : a = b := mv_inj (law48.inj (keyOf_mv ha) (by rw [h]; exact keyOf_mv hb))
theorem mLit_key (m : Mk) : WideAt.IsKeyLit (mLit m) := trivial
theorem same_lit {a b : Mk} (ha : Ok a) (hb : Ok b) : (mLit a).sameKey (mLit b) = decide (a = b) := by
  by_cases h : a = b
  · subst h
    rw [WideAt.sameKey_self (mLit_key _)]
    simp
  · rw [sameKey_ne (fun e => h (mLit_inj ha hb e))]
    simp [h]
/-- How the element of a set reads. -/
abbrev uE : Value → Option (DataW Unit × List MemPlace) := unitElem (H := Unit)
theorem zero55 (w : World) : (zeroValue 55).run Try.prog w = .ok (.agg #[]) w := by kernel_rfl
/-- The datum D has just the markers of L. -/
structure Reads (D : DataW Unit) (L : List Mk) : Prop where
  at_ : ∀ m, Ok m → Maps.has D (mLit m) = decide (m ∈ L)
  sz : Maps.size D = L.length
/-- Block B is a map whose keys are the markers of L. -/
def MapAt (w : World) (B : Nat) (L : List Mk) : Prop := ∃ D : DataW Unit, w.ownsMap Try.prog 48 uE B L.length D ∧ Reads D L
theorem tight {w : World} {B n : Nat} {D : DataW Unit} (h : w.ownsMap Try.prog 48 uE B n D) : w.ownsMap Try.prog 48 uE B (Maps.size D) D := by
  obtain ⟨es, clock, hb, F, hs, rfl⟩ := h
  exact ⟨es, clock, hb, F, by simp [Maps.size, length_sorted], rfl⟩
theorem MapAt.of {w : World} {B n : Nat} {D : DataW Unit} {L : List Mk} (h : w.ownsMap Try.prog 48 uE B n D) (hr : Reads D L) : MapAt w B L := ⟨D, by rw [← hr.sz]; exact tight h, hr⟩
theorem MapAt.isMap {w : World} {B : Nat} {L : List Mk} (h : MapAt w B L) : ∃ es c, w.heap[B]? = some (.map es c) := by
  obtain ⟨D, ⟨es, c, hb, _⟩, _⟩ := h
  exact ⟨es, c, hb⟩
theorem MapAt.keep {w w' : World} {B : Nat} {L : List Mk} (h : MapAt w B L) (hb : w'.heap[B]? = w.heap[B]?) : MapAt w' B L := by
  obtain ⟨D, ⟨es, c, h1, h2⟩, h3⟩ := h
  exact ⟨D, ⟨es, c, hb.trans h1, h2⟩, h3⟩
theorem MapAt.fr {w w' : World} {B : Nat} {L : List Mk} {l ms : List Nat} {base : Nat} (h : MapAt w B L) (hf : Fr l ms base w w') (hl : 1000 ∉ l) (hm : B ∉ ms) : MapAt w' B L := by
  obtain ⟨es, c, hb⟩ := h.isMap
  exact h.keep (by rw [hf.keep B _ hb hl hm, hb])
theorem MapAt.below {w w' : World} {B : Nat} {L : List Mk} (h : MapAt w B L) (hf : Below w.heap.size w w') : MapAt w' B L := by
  obtain ⟨es, c, hb⟩ := h.isMap
  exact h.keep (by rw [hf.block B (lt_of_heap hb)])
theorem MapAt.find {w : World} {B : Nat} {L : List Mk} (h : MapAt w B L) {m : Mk} (hm : Ok m) : (Instr.lookup 51 (.map (some B)) (mv m) true).run Try.prog w = .ok (.tuple #[.agg #[], .bool (decide (m ∈ L))]) w := by
  obtain ⟨D, hown, hr⟩ := h
  obtain ⟨v, ps, h1, hv⟩ := hown.look_ok law48 Try.underlying51 (zero55 w) (unitElem_mk (H := Unit)) (keyOf_mv hm)
  obtain ⟨rfl, _⟩ := unitElem_inv hv
  rw [h1, hr.at_ m hm]
theorem MapAt.len {w : World} {B : Nat} {L : List Mk} (h : MapAt w B L) (ty : TypeId) : (Builtin.len_ #[51] ty #[.map (some B)]).run Try.prog w = .ok (.int .i64 (L.length : Int)) w := by
  obtain ⟨D, hown, hat⟩ := h
  rw [hown.len Try.underlying51, hat.sz]
theorem length_out {L : List Mk} {m : Mk} (hn : L.Nodup) (h : m ∈ L) : (out L (isG m)).length + 1 = L.length := by
  induction L with
  | nil => cases h
  | cons x r ih =>
    obtain ⟨h1, h2⟩ := List.nodup_cons.mp hn
    by_cases e : x = m
    · subst e
      have := out_is_none h1
      unfold out at this ⊢
      simp [isG] at this ⊢
      exact this
    · have hr : m ∈ r := (List.mem_cons.mp h).resolve_left (fun e' => e e'.symm)
      have := ih h2 hr
      unfold out at this ⊢
      simp [isG, e] at this ⊢
      omega
theorem Reads.del {w : World} {B n : Nat} {D : DataW Unit} {L : List Mk} (h : Reads D L) (hown : w.ownsMap Try.prog 48 uE B n D) (hn : L.Nodup) {m : Mk} (hm : Ok m) : Reads (D.del (mLit m)) (out L (isG m)) := by
  refine ⟨fun j hj => ?_, ?_⟩
  · by_cases e : j = m
    · subst e
      rw [has_del_same]
      simp [mem_out, isG]
    · rw [has_del_other (fun h => e (mLit_inj hj hm h)), h.at_ j hj]
      simp [mem_out, isG, e]
  · have := size_del (k := mLit m) (hown.tidy law48)
    rw [h.at_ m hm, h.sz] at this
    by_cases hl : m ∈ L
    · have h2 := length_out hn hl
      simp [hl] at this
      omega
    · rw [out_is_none hl]
      simp [hl] at this
      omega
theorem MapAt.put {w : World} {B : Nat} {L : List Mk} (h : MapAt w B L) {m : Mk} (hm : Ok m) (hn : m ∉ L) (hl : L.length < maxLen) :
    ∃ w', (Instr.mapUpdate 51 (.map (some B)) (mv m) (.agg #[])).run Try.prog w = .ok () w' ∧ MapAt w' B (ins L m) ∧ w.grownBy w' (some B) := by
  obtain ⟨D, hown, hat⟩ := h
  obtain ⟨w', hr, ho, hg⟩ := hown.update law48 Try.underlying51 hl (keyOf_mv hm) (unitElem_mk (H := Unit))
  refine ⟨w', hr, MapAt.of ho ⟨fun j hj => ?_, ?_⟩, hg⟩
  · by_cases e : j = m
    · subst e
      rw [has_put_same hown.isMap (mLit_key _)]
      simp [mem_ins]
    · rw [has_put_other (fun h => e (mLit_inj hj hm h)), hat.at_ j hj]
      simp [mem_ins, e]
  · rw [size_put (hown.tidy law48), hat.at_ m hm, length_ins hn, hat.sz]
    simp [hn]
theorem MapAt.del {w : World} {B : Nat} {L : List Mk} (h : MapAt w B L) {m : Mk} (hm : Ok m) (hn : L.Nodup) (ty : TypeId) :
    ∃ w', (Builtin.delete_ #[51, 48] ty #[.map (some B), mv m]).run Try.prog w = .ok (.tuple #[]) w' ∧ MapAt w' B (out L (isG m)) ∧ w.grownBy w' (some B) := by
  obtain ⟨D, hown, hat⟩ := h
  obtain ⟨w', hr, ho, ht⟩ := hown.drop law48 Try.underlying51 (keyOf_mv hm) ty
  exact ⟨w', hr, MapAt.of ho (hat.del hown hn hm), ht.grown⟩
theorem MapAt.clear {w : World} {B : Nat} {L : List Mk} (h : MapAt w B L) (ty : TypeId) :
    ∃ w', (Builtin.clear_ #[51] ty #[.map (some B)]).run Try.prog w = .ok (.tuple #[]) w' ∧ MapAt w' B [] ∧ w.grownBy w' (some B) := by
  obtain ⟨es, c, hb⟩ := h.isMap
  refine ⟨setBlock w B (.map #[] c), ?_, ⟨.map [], ⟨#[], c, heap_setBlock_same hb _, ⟨by simp, ?_, by simp⟩, Nat.le_refl _, rfl⟩, fun m _ => by simp [Maps.has], rfl⟩, ?_⟩
  · simp [Builtin.clear_, run_underlying Try.underlying51, MapKept.run_getObj_map hb, MapKept.run_setObj_map _ hb, Result.andThen, setBlock]
  · exact MapKept.stamped_empty c
  · exact World.mapTurned.grown ⟨es, c, #[], c, hb, rfl⟩

/-- A table's own block. -/
def Box (w : World) (g B : Nat) (limit : Int) : Prop := w.heap[g]? = some (.cells #[.int .i64 limit, .map (some B)] 53 (0, 0))
section
variable {w w' : World} {g B : Nat} {limit : Int}
theorem Box.lt (h : Box w g B limit) : g < w.heap.size := lt_of_heap h
theorem Box.c0 (h : Box w g B limit) : w.cell? ⟨g, 0, none⟩ = some (.int .i64 limit) := by simp [World.cell?, show w.heap[g]? = _ from h]
theorem Box.c1 (h : Box w g B limit) : w.cell? ⟨g, 1, none⟩ = some (.map (some B)) := by simp [World.cell?, show w.heap[g]? = _ from h]
theorem Box.fr {l ms : List Nat} {base : Nat} (h : Box w g B limit) (hf : Fr l ms base w w') (hl : 53 ∉ l) (hm : g ∉ ms) : Box w' g B limit := hf.keep g _ h hl hm
theorem Box.below (h : Box w g B limit) (hf : Below w.heap.size w w') : Box w' g B limit := (hf.block g h.lt).trans h
end
/-- A table that lies in block g, its map in block B. -/
structure TableAt (w : World) (base g B : Nat) (L : List Mk) (limit : Int) : Prop where
  box : Box w g B limit
  mp : MapAt w B L
  bg : base ≤ g
  bB : base ≤ B
  ok : ∀ m ∈ L, Ok m
  good : Good L limit
  l2 : limit ≤ 9223372036854775807
section
variable {w w' : World} {base base' g B : Nat} {L : List Mk} {limit : Int} {l ms : List Nat}
theorem TableAt.gB (h : TableAt w base g B L limit) : g ≠ B := by
  rintro rfl
  obtain ⟨es, c, hb⟩ := h.mp.isMap
  have := h.box
  unfold Box at this
  rw [hb] at this
  cases this
theorem TableAt.keep (h : TableAt w base g B L limit) (hf : Fr l ms base' w w') (h1 : 53 ∉ l) (h2 : 1000 ∉ l) (hg : g ∉ ms) (hB : B ∉ ms) : TableAt w' base g B L limit :=
  ⟨h.box.fr hf h1 hg, h.mp.fr hf h2 hB, h.bg, h.bB, h.ok, h.good, h.l2⟩
theorem TableAt.below (h : TableAt w base g B L limit) (hf : Below w.heap.size w w') : TableAt w' base g B L limit :=
  ⟨h.box.below hf, h.mp.below hf, h.bg, h.bB, h.ok, h.good, h.l2⟩
/-- Another map in the table's block. -/
theorem TableAt.turn {L' : List Mk} (h : TableAt w base g B L limit) (hg : w.grownBy w' (some B)) (hm : MapAt w' B L') (ho : ∀ m ∈ L', Ok m) (hgd : Good L' limit) : TableAt w' base g B L' limit ∧ Fr [] [B] base w w' := by
  obtain ⟨es, c, hb⟩ := h.mp.isMap
  have hF : Fr [] [B] base w w' := (Fr.refl _ _ _ _).grown hg hb (.inr (by simp)) h.bB
  exact ⟨⟨h.box.fr hF (by simp) (by simpa using h.gB), hm, h.bg, h.bB, ho, hgd, h.l2⟩, hF⟩
theorem TableAt.len_lt (h : TableAt w base g B L limit) (hl : (L.length : Int) < limit) : L.length < maxLen := by have := h.l2; unfold maxLen; omega
end

theorem len_any (base g B : Nat) (L : List Mk) (limit : Int) (w : World) (h : TableAt w base g B L limit) :
    Calls Try.prog 19 #[.pointer (some ⟨g, 0, none⟩)] w fun x w' => x = .returned (.int .i64 (L.length : Int)) ∧ w = w' := by
  have c1 := h.box.c1
  have hl := h.mp.len 3
  clear h
  go_enter Try.func19, Try.ntmps19
  go_wp2
  go_ret
  exact ⟨rfl, rfl⟩
theorem len_nil (w : World) : Calls Try.prog 19 #[.pointer none] w fun x w' => x = .returned (.int .i64 0) ∧ w = w' := by
  go_enter Try.func19, Try.ntmps19
  go_wp2
  go_ret
  exact ⟨rfl, rfl⟩
set_option maxHeartbeats 1000000 in
theorem drop_any (base g B : Nat) (L : List Mk) (limit : Int) (w : World) (h : TableAt w base g B L limit) :
    Calls Try.prog 16 #[.pointer (some ⟨g, 0, none⟩)] w fun r w' => r = .returned (.tuple #[]) ∧ TableAt w' base g B [] limit ∧ Fr [] [B] base w w' := by
  have c1 := h.box.c1
  obtain ⟨w2, hr, hm2, hg2⟩ := h.mp.clear 0
  have HE := Lib.hid (h.turn hg2 hm2 (by simp) (Good.nil limit))
  clear h hm2 hg2
  go_enter Try.func16, Try.ntmps16
  go_wp2
  go_end0
  exact ⟨rfl, HE.out.1, HE.out.2⟩
theorem drop_nil (w : World) : Calls Try.prog 16 #[.pointer none] w fun x w' => x = .returned (.tuple #[]) ∧ w = w' := by
  go_enter Try.func16, Try.ntmps16
  go_wp2
  go_end0
  exact ⟨rfl, rfl⟩
/-- What New lays. -/
def newWorld (w : World) (limit : Int) : World := (w.alloc (.map #[] 0)).alloc (.cells #[.int .i64 limit, .map (some w.heap.size)] 53)
theorem newWorld_below (w : World) (limit : Int) : Below w.heap.size w (newWorld w limit) := ((Below.refl _ w).alloc (Nat.le_refl _) _).alloc (by simp) _
theorem newWorld_table (w : World) (base : Nat) (limit : Int) (hb : base ≤ w.heap.size) (h3 : limit ≤ 9223372036854775807) : TableAt (newWorld w limit) base (w.heap.size + 1) w.heap.size [] limit := by
  refine ⟨?_, ?_, by omega, hb, by simp, Good.nil limit, h3⟩
  · have h := heap_new (w.alloc (.map #[] 0)) (.cells #[.int .i64 limit, .map (some w.heap.size)] 53)
    rw [World.size_alloc] at h
    exact h
  · have h := World.ownsMap_made w Try.prog 48 uE
    exact ⟨.map [], h.alloc _, fun m _ => by simp [Maps.has], rfl⟩
def NewPost (w : World) (base : Nat) (limit : Int) (r : Ending) (w' : World) : Prop :=
  ∃ g B, r = .returned (.pointer (some ⟨g, 0, none⟩)) ∧ TableAt w' base g B [] limit ∧ Below w.heap.size w w' ∧ w.heap.size ≤ g ∧ w.heap.size ≤ B
set_option maxHeartbeats 1000000 in
theorem new_any (base : Nat) (limit : Int) (w : World) (hb : base ≤ w.heap.size) (h3 : limit ≤ 9223372036854775807) : Calls Try.prog 9 #[.int .i64 limit] w (NewPost w base limit) := by
  have hmm := @run_makeMap Try.prog
  have HT := Lib.hid (newWorld_table w base limit hb h3)
  clear hb h3
  go_enter Try.func9, Try.ntmps9
  go_wp2
  go_ret
  exact ⟨w.heap.size + 1, w.heap.size, rfl, HT.out, newWorld_below w limit, by omega, Nat.le_refl _⟩
end Go.Proofs.Ytkonkldcallimaa
