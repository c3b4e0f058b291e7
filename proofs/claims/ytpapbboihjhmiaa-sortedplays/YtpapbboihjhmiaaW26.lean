/-
  Words for memory: a script that came in; a map and the document's map side by side. The contracts of all calls over both. Their conditions: both lie in memory, and have no more keys than a bound.
-/
import Derived.Test.YtpapbboihjhmiaaW25
namespace Go.Proofs.Ytpapbboihjhmiaa
open Go.RowKit

/-- One step of a script. -/
structure Step where
  K : Int
  key : ByteArray
  N : Int
/-- A slice (its address A) that reads as the steps l. -/
def Scr (w : World) (A : Option Addr) (l : List Step) : Prop :=
  l.length ≤ maxLen ∧ (0 < l.length → ∃ b off, A = some ⟨b, off, none⟩ ∧ b < w.heap.size ∧ ∀ (k : Nat) (x : Step), l[k]? = some x →
    w.cell? ⟨b, off + k * 3, none⟩ = some (.int .i64 x.K) ∧ w.cell? ⟨b, off + k * 3 + 1, none⟩ = some (.string x.key) ∧ w.cell? ⟨b, off + k * 3 + 2, none⟩ = some (.int .i64 x.N))
theorem Scr.below {w w' : World} {A : Option Addr} {l : List Step} {B : Nat} (h : Scr w A l) (hB : w.heap.size ≤ B) (hb : Below B w w') : Scr w' A l := by
  obtain ⟨h1, h3⟩ := h
  refine ⟨h1, fun hl => ?_⟩
  obtain ⟨b, off, hA, hlt, hc⟩ := h3 hl
  have e : ∀ o, w'.cell? ⟨b, o, none⟩ = w.cell? ⟨b, o, none⟩ := fun o => hb.cell (p := ⟨b, o, none⟩) (Nat.lt_of_lt_of_le hlt hB)
  exact ⟨b, off, hA, Nat.lt_of_lt_of_le hlt hb.size, fun k x hk => by rw [e, e, e]; exact hc k x hk⟩
theorem Scr.at_ {w : World} {A : Option Addr} {l : List Step} (h : Scr w A l) {k : Nat} (hk : k < l.length) : ∃ b off, A = some ⟨b, off, none⟩ ∧ b < w.heap.size ∧
    w.cell? ⟨b, off + k * 3, none⟩ = some (.int .i64 l[k].K) ∧ w.cell? ⟨b, off + k * 3 + 1, none⟩ = some (.string l[k].key) ∧ w.cell? ⟨b, off + k * 3 + 2, none⟩ = some (.int .i64 l[k].N) := by
  obtain ⟨b, off, hA, hlt, hc⟩ := h.2 (by omega)
  exact ⟨b, off, hA, hlt, hc k _ (List.getElem?_eq_getElem hk)⟩

/-- A map, the document's map, and the step that is played. -/
structure St (w0 W : World) (g h : Nat) (L M : List KV) (b : Nat) (x : Step) : Prop where
  map : MapAt W g L
  ref : RefAt W w0.heap.size h M
  box : W.heap[b]? = some (.cells #[.int .i64 x.K, .string x.key, .int .i64 x.N] 31 (0, 0))
  low : w0.heap.size ≤ g
  bel : Below w0.heap.size w0 W
theorem St.below {w0 W W' : World} {g h : Nat} {L M : List KV} {b : Nat} {x : Step} (s : St w0 W g h L M b x) (hb : Below W.heap.size W W') : St w0 W' g h L M b x :=
  ⟨s.map.below hb, s.ref.below hb, (Keep.below hb _ _ s.box).trans s.box, s.low, s.bel.trans (hb.mono s.bel.size)⟩
theorem St.cells {w0 W : World} {g h : Nat} {L M : List KV} {b : Nat} {x : Step} (s : St w0 W g h L M b x) : W.cell? ⟨b, 0, none⟩ = some (.int .i64 x.K) ∧ W.cell? ⟨b, 1, none⟩ = some (.string x.key) ∧ W.cell? ⟨b, 2, none⟩ = some (.int .i64 x.N) := by
  have := s.box
  refine ⟨?_, ?_, ?_⟩ <;> simp [World.cell?, this]
/-- Where only a map's own block turned. -/
theorem St.only {w0 W W' : World} {g h : Nat} {L L' M : List KV} {b : Nat} {x : Step} (s : St w0 W g h L M b x) (ho : Only g W W') (hm : MapAt W' g L') : St w0 W' g h L' M b x :=
  ⟨hm, s.ref.keep (ho.keep9 s.map (by decide)) (ho.keep9 s.map (by decide)), (ho.keep9 s.map (by decide) _ _ s.box).trans s.box, s.low, s.bel.trans (ho.below s.bel.size s.low)⟩
/-- Where only another map's block turned. -/
theorem St.other {w0 W W' : World} {g g' h : Nat} {L C M : List KV} {b : Nat} {x : Step} (s : St w0 W g h L M b x) (hc : MapAt W g' C) (ho : Only g' W W') (hne : g ≠ g') (hlow : w0.heap.size ≤ g') : St w0 W' g h L M b x :=
  ⟨s.map.other hc ho hne, s.ref.keep (ho.keep9 hc (by decide)) (ho.keep9 hc (by decide)), (ho.keep9 hc (by decide) _ _ s.box).trans s.box, s.low, s.bel.trans (ho.below s.bel.size hlow)⟩
theorem MapAt.keeps {w w' : World} {g : Nat} {L : List KV} (h : MapAt w g L) (h1 : Keep 66 w w') (h2 : Keep 59 w w') : MapAt w' g L := by
  obtain ⟨root, t, hbox, _⟩ := id h
  exact h.keep h1 (h2 _ _ hbox)
/-- Where only the document's map turned. -/
theorem St.refonly {w0 W W' : World} {g h : Nat} {L M M' : List KV} {b : Nat} {x : Step} (s : St w0 W g h L M b x) (ho : RefOnly w0.heap.size W W') (hr : RefAt W' w0.heap.size h M') : St w0 W' g h L M' b x :=
  ⟨s.map.keeps (ho.2 66 (by decide) (by decide)) (ho.2 59 (by decide) (by decide)), hr, (ho.2 31 (by decide) (by decide) _ _ s.box).trans s.box, s.low, s.bel.trans ho.1⟩

section
variable {w0 W : World} {g h : Nat} {L M : List KV} {b : Nat} {x : Step}
theorem st_set (s : St w0 W g h L M b x) (k : ByteArray) (v : Int) (hl : L.length ≤ 100000) : Calls Try.prog 11 #[.pointer (some ⟨g, 0, none⟩), .string k, .int .i64 v] W fun e w' => e = .returned (.bool (!lhas L k)) ∧ St w0 w' g h (lset L k v) M b x := by
  refine (set_any g L k v W s.map hl).mono ?_
  rintro e w' ⟨rfl, hm, ho⟩
  exact ⟨rfl, s.only ho hm⟩
theorem st_del (s : St w0 W g h L M b x) (k : ByteArray) (hl : L.length ≤ 100000) : Calls Try.prog 13 #[.pointer (some ⟨g, 0, none⟩), .string k] W fun e w' => e = .returned (.bool (lhas L k)) ∧ St w0 w' g h (ldel L k) M b x := by
  refine (del_any g L k W s.map hl).mono ?_
  rintro e w' ⟨rfl, hm, ho⟩
  exact ⟨rfl, s.only ho hm⟩
theorem st_refset (s : St w0 W g h L M b x) (k : ByteArray) (v : Int) (hl : M.length < 100000) : Calls Try.prog 12 #[.pointer (some ⟨h, 0, none⟩), .string k, .int .i64 v] W fun e w' => e = .returned (.bool (!lhas M k)) ∧ St w0 w' g h L (lset M k v) b x := by
  refine (refset_any w0.heap.size h M k v W s.ref s.bel.size hl).mono ?_
  rintro e w' ⟨rfl, hm, ho⟩
  exact ⟨rfl, s.refonly ho hm⟩
theorem st_refdel (s : St w0 W g h L M b x) (k : ByteArray) : Calls Try.prog 14 #[.pointer (some ⟨h, 0, none⟩), .string k] W fun e w' => e = .returned (.bool (lhas M k)) ∧ St w0 w' g h L (ldel M k) b x := by
  refine (refdel_any w0.heap.size h M k W s.ref s.bel.size).mono ?_
  rintro e w' ⟨rfl, hm, ho⟩
  exact ⟨rfl, s.refonly ho hm⟩
/-- A copy lies in block g' beside. -/
theorem st_copy (s : St w0 W g h L M b x) : Calls Try.prog 15 #[.pointer (some ⟨g, 0, none⟩)] W fun e w' => ∃ g', e = .returned (.pointer (some ⟨g', 0, none⟩)) ∧ St w0 w' g h L M b x ∧ MapAt w' g' L ∧ g ≠ g' ∧ w0.heap.size ≤ g' := by
  refine (copy_any g L W s.map).mono ?_
  rintro e w' ⟨rfl, hm, hb, _⟩
  exact ⟨_, rfl, s.below hb, hm, Nat.ne_of_lt s.map.lt, s.bel.size⟩
theorem St.move (s : St w0 W g h L M b x) {g' : Nat} {L' : List KV} (hm : MapAt W g' L') (hlow : w0.heap.size ≤ g') : St w0 W g' h L' M b x := ⟨hm, s.ref, s.box, hlow, s.bel⟩
theorem st_cset (s : St w0 W g h L M b x) {g' : Nat} {C : List KV} (hc : MapAt W g' C) (hne : g ≠ g') (hlow : w0.heap.size ≤ g') (k : ByteArray) (v : Int) (hl : C.length ≤ 100000) :
    Calls Try.prog 11 #[.pointer (some ⟨g', 0, none⟩), .string k, .int .i64 v] W fun e w' => e = .returned (.bool (!lhas C k)) ∧ St w0 w' g h L M b x ∧ MapAt w' g' (lset C k v) := by
  refine (set_any g' C k v W hc hl).mono ?_
  rintro e w' ⟨rfl, hm, ho⟩
  exact ⟨rfl, s.other hc ho hne hlow, hm⟩
theorem st_cdel (s : St w0 W g h L M b x) {g' : Nat} {C : List KV} (hc : MapAt W g' C) (hne : g ≠ g') (hlow : w0.heap.size ≤ g') (k : ByteArray) (hl : C.length ≤ 100000) :
    Calls Try.prog 13 #[.pointer (some ⟨g', 0, none⟩), .string k] W fun e w' => e = .returned (.bool (lhas C k)) ∧ St w0 w' g h L M b x := by
  refine (del_any g' C k W hc hl).mono ?_
  rintro e w' ⟨rfl, hm, ho⟩
  exact ⟨rfl, s.other hc ho hne hlow⟩
theorem st_get (s : St w0 W g h L M b x) (k : ByteArray) : Calls Try.prog 16 #[.pointer (some ⟨g, 0, none⟩), .string k] W fun e w' => e = .returned (getV (lget L k)) ∧ St w0 w' g h L M b x := by
  refine (get_any g L k W s.map).mono ?_
  rintro e w' ⟨rfl, hb⟩
  exact ⟨rfl, s.below hb⟩
theorem st_refget (s : St w0 W g h L M b x) (k : ByteArray) : Calls Try.prog 17 #[.pointer (some ⟨h, 0, none⟩), .string k] W fun e w' => e = .returned (getV (lget M k)) ∧ W = w' := refget_any w0.heap.size h M k W s.ref
theorem st_from (s : St w0 W g h L M b x) (k : ByteArray) : Calls Try.prog 18 #[.pointer (some ⟨g, 0, none⟩), .string k] W fun e w' => e = .returned (fromV (lfrom L k)) ∧ St w0 w' g h L M b x := by
  refine (from_any g L k W s.map).mono ?_
  rintro e w' ⟨rfl, hb⟩
  exact ⟨rfl, s.below hb⟩
theorem st_reffrom (s : St w0 W g h L M b x) (k : ByteArray) : Calls Try.prog 19 #[.pointer (some ⟨h, 0, none⟩), .string k] W fun e w' => e = .returned (fromP (lfrom M k)) ∧ St w0 w' g h L M b x := by
  refine (reffrom_any w0.heap.size h M k W s.ref).mono ?_
  rintro e w' ⟨rfl, hb⟩
  exact ⟨rfl, s.below hb⟩
/-- The document's map's cell. -/
theorem st_refcell (s : St w0 W g h L M b x) : ∃ A c, W.cell? ⟨h, 0, none⟩ = some (.slice A M.length c) ∧ Prs W A M ∧ M.length ≤ c := by
  obtain ⟨A, c, hbox, hp, _, _, _, hnc, _⟩ := s.ref.parts
  exact ⟨A, c, hbox.c0, hp, hnc⟩
theorem st_all (s : St w0 W g h L M b x) (m : Nat) (hl : L.length ≤ 100000) (hm : m ≤ 1000) : Calls Try.prog 22 #[.pointer (some ⟨g, 0, none⟩), .int .i64 (m : Int)] W fun e w' => ∃ A c, e = .returned (.slice A (L.take m).length c) ∧ Prs w' A (L.take m) ∧ Below W.heap.size W w' := by
  refine (all_map g L m W s.map hl hm).mono ?_
  rintro e w' ⟨v, rfl, hrow, hb⟩
  obtain ⟨A, c, rfl, hp, _⟩ := owns_prs hrow (by rw [List.length_take]; unfold maxLen; omega)
  exact ⟨A, c, rfl, hp, hb⟩
end
end Go.Proofs.Ytpapbboihjhmiaa
