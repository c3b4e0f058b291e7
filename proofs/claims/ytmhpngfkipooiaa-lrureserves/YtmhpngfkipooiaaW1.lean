/-
  Words for memory: links, what a call leaves as it was. The contracts of leave, lead, last, newRing. Their conditions: the links lie in memory.
-/
import Derived.Test.YtmhpngfkipooiaaRows
import Derived.Test.YtmhpngfkipooiaaMath
import Derived.WalkKit
import Derived.ProofKit
import Derived.Below
import Derived.Outline
import Derived.Laws.BitsAllLaws
import Derived.WalkLawsBesides
import Derived.Laws.IdiomStrings
import Derived.OpenShut
import Derived.Lib.Hide
import Derived.BigQuiet
import Derived.Lib.QuietBelow
import Derived.Deep.RegionHeld3
import Derived.Deep.QuietTactic
import Derived.IntWalk
import Derived.Maps.OwnSet
namespace Go.Proofs.Ytmhpngfkipooiaa
open Go.RowKit

theorem heap_new (w : World) (o : Obj) : (w.alloc o).heap[w.heap.size]? = some o := by
  show (w.heap.push o)[w.heap.size]? = _
  simp
theorem ret_bool {a b : Bool} (h : a = b) : Ending.returned (.bool a) = .returned (.bool b) := by rw [h]
theorem ret_int {a b : Int} (h : a = b) : Ending.returned (.int .i64 a) = .returned (.int .i64 b) := by rw [h]

/-- The kind of a block: the type of its cells, or a map. -/
def kd : Obj → Nat
  | .cells _ t _ => t
  | .map _ _ => 1000
  | _ => 1001
/-- Every block lies as it lay, but those of the kinds l; and every block below base. -/
structure Fr (l : List Nat) (base : Nat) (w w' : World) : Prop where
  below : Below base w w'
  keep : ∀ (b : Nat) (o : Obj), w.heap[b]? = some o → kd o ∉ l → w'.heap[b]? = some o
theorem Fr.refl (l : List Nat) (base : Nat) (w : World) : Fr l base w w := ⟨Below.refl _ _, fun _ _ h _ => h⟩
theorem Fr.trans {l : List Nat} {base : Nat} {a b c : World} (h : Fr l base a b) (k : Fr l base b c) : Fr l base a c := ⟨h.below.trans k.below, fun i o hi ho => k.keep i o (h.keep i o hi ho) ho⟩
theorem Fr.mono {l m : List Nat} {base : Nat} {a b : World} (h : Fr l base a b) (hs : ∀ x ∈ l, x ∈ m) : Fr m base a b := ⟨h.below, fun i o hi ho => h.keep i o hi (fun hx => ho (hs _ hx))⟩
theorem Fr.down {l : List Nat} {base base' : Nat} {a b : World} (h : Fr l base a b) (hs : base' ≤ base) : Fr l base' a b := ⟨h.below.mono hs, h.keep⟩
theorem Fr.of_below {l : List Nat} {base : Nat} {w w' : World} (h : Below w.heap.size w w') (hb : base ≤ w.heap.size) : Fr l base w w' := ⟨h.mono hb, fun b o ho _ => by rw [h.block b (Array.getElem?_eq_some_iff.mp ho).1]; exact ho⟩
theorem Fr.drew {l : List Nat} {base : Nat} {a w : World} (h : Fr l base a w) : Fr l base a w.drew := ⟨h.below.drew, h.keep⟩
theorem Fr.alloc {l : List Nat} {base : Nat} {a w : World} (h : Fr l base a w) (hb : base ≤ w.heap.size) (o : Obj) : Fr l base a (w.alloc o) := h.trans (Fr.of_below ((Below.refl _ _).alloc (Nat.le_refl _) _) hb)
theorem Fr.set {l : List Nat} {base : Nat} {a w : World} (h : Fr l base a w) {b o : Nat} {x : Obj} (hx : w.heap[b]? = some x) (hk : kd x ∈ l) (hb : base ≤ b) (u : Value) : Fr l base a (w.setCell ⟨b, o, none⟩ u) :=
  h.trans ⟨(Below.refl _ _).setCell hb _, fun i y hi hy => by
    rw [Below.heap_setCell _ _ _ _ ?_]
    · exact hi
    · rintro rfl
      rw [hx] at hi
      cases hi
      exact hy hk⟩
theorem Fr.size {l : List Nat} {base : Nat} {w w' : World} (h : Fr l base w w') : w.heap.size ≤ w'.heap.size := h.below.size

/-- A link lies in block b. -/
def Link (w : World) (b : Nat) (t : Th) (p q : Nat) : Prop :=
  w.heap[b]? = some (.cells #[.string t.k, .int .i64 t.s, .int .i64 t.n, .pointer (some ⟨p, 0, none⟩), .pointer (some ⟨q, 0, none⟩)] 66 (0, 0))
section
variable {w : World} {b p q : Nat} {t : Th}
theorem Link.lt (h : Link w b t p q) : b < w.heap.size := (Array.getElem?_eq_some_iff.mp h).1
theorem Link.c0 (h : Link w b t p q) : w.cell? ⟨b, 0, none⟩ = some (.string t.k) := by simp [World.cell?, show w.heap[b]? = _ from h]
theorem Link.c1 (h : Link w b t p q) : w.cell? ⟨b, 1, none⟩ = some (.int .i64 t.s) := by simp [World.cell?, show w.heap[b]? = _ from h]
theorem Link.c2 (h : Link w b t p q) : w.cell? ⟨b, 2, none⟩ = some (.int .i64 t.n) := by simp [World.cell?, show w.heap[b]? = _ from h]
theorem Link.c3 (h : Link w b t p q) : w.cell? ⟨b, 3, none⟩ = some (.pointer (some ⟨p, 0, none⟩)) := by simp [World.cell?, show w.heap[b]? = _ from h]
theorem Link.c4 (h : Link w b t p q) : w.cell? ⟨b, 4, none⟩ = some (.pointer (some ⟨q, 0, none⟩)) := by simp [World.cell?, show w.heap[b]? = _ from h]
theorem Link.frozen (h : Link w b t p q) (o : Nat) : w.frozen? ⟨b, o, none⟩ = false := by simp [World.frozen?, show w.heap[b]? = _ from h]
theorem Link.set3 (h : Link w b t p q) (x : Nat) : Link (w.setCell ⟨b, 3, none⟩ (.pointer (some ⟨x, 0, none⟩))) b t x q := by
  unfold Link at h ⊢
  simp [World.setCell, Array.getElem?_modify, h]
theorem Link.set4 (h : Link w b t p q) (x : Nat) : Link (w.setCell ⟨b, 4, none⟩ (.pointer (some ⟨x, 0, none⟩))) b t p x := by
  unfold Link at h ⊢
  simp [World.setCell, Array.getElem?_modify, h]
theorem Link.keep {w' : World} (h : Link w b t p q) (hb : w'.heap[b]? = w.heap[b]?) : Link w' b t p q := hb.trans h
theorem Link.fr {l : List Nat} {base : Nat} {w' : World} (h : Link w b t p q) (hf : Fr l base w w') (hl : 66 ∉ l) : Link w' b t p q := hf.keep b _ h hl
end

/-- A block and the thing that lies in it. -/
abbrev Nd := Nat × Th
def Links (w : World) (S : List Nd) (nw ol : Nat → Nat) : Prop := ∀ x ∈ S, Link w x.1 x.2 (nw x.1) (ol x.1)
section
variable {w : World} {S : List Nd} {nw ol : Nat → Nat}
theorem Links.set3 (h : Links w S nw ol) (p x : Nat) : Links (w.setCell ⟨p, 3, none⟩ (.pointer (some ⟨x, 0, none⟩))) S (upd nw p x) ol := fun y hy => by
  by_cases e : y.1 = p
  · rw [e, upd_same]
    have := h y hy
    rw [e] at this
    exact this.set3 x
  · rw [upd_other _ _ e]
    exact (h y hy).keep (Below.heap_setCell _ _ _ _ e)
theorem Links.set4 (h : Links w S nw ol) (p x : Nat) : Links (w.setCell ⟨p, 4, none⟩ (.pointer (some ⟨x, 0, none⟩))) S nw (upd ol p x) := fun y hy => by
  by_cases e : y.1 = p
  · rw [e, upd_same]
    have := h y hy
    rw [e] at this
    exact this.set4 x
  · rw [upd_other _ _ e]
    exact (h y hy).keep (Below.heap_setCell _ _ _ _ e)
theorem Links.drew (h : Links w S nw ol) : Links w.drew S nw ol := h
theorem Links.fr {l : List Nat} {base : Nat} {w' : World} (h : Links w S nw ol) (hf : Fr l base w w') (hl : 66 ∉ l) : Links w' S nw ol := fun x hx => (h x hx).fr hf hl
theorem Links.sub {T : List Nd} (h : Links w S nw ol) (hs : ∀ x ∈ T, x ∈ S) : Links w T nw ol := fun x hx => h x (hs x hx)
theorem Links.at_ (h : Links w S nw ol) {b : Nat} (hb : b ∈ S.map (·.1)) : ∃ t, Link w b t (nw b) (ol b) := by
  obtain ⟨x, hx, rfl⟩ := List.mem_map.mp hb
  exact ⟨x.2, h x hx⟩
end
def From (base : Nat) (S : List Nd) : Prop := ∀ x ∈ S, base ≤ x.1

set_option maxHeartbeats 1000000 in
theorem leave_any (base : Nat) (S : List Nd) (nw ol : Nat → Nat) (l p q : Nat) (w : World) (hS : Links w S nw ol) (hF : From base S) (hl : l ∈ S.map (·.1)) (hp : nw l = p) (hq : ol l = q) (hpS : p ∈ S.map (·.1)) (hqS : q ∈ S.map (·.1)) (hpl : ¬ l = p) :
    Calls Try.prog 40 #[.pointer (some ⟨l, 0, none⟩)] w fun e w' => e = .returned (.tuple #[]) ∧ Links w' S (upd nw q p) (upd ol p q) ∧ Fr [66] base w w' := by
  obtain ⟨tl, L1⟩ := hS.at_ hl
  obtain ⟨tp, L2⟩ := hS.at_ hpS
  obtain ⟨tq, L3⟩ := hS.at_ hqS
  rw [hp, hq] at L1
  obtain ⟨x, hx, hxp⟩ := List.mem_map.mp hpS
  have hbp : base ≤ p := by rw [← hxp]; exact hF x hx
  obtain ⟨y, hy, hyq⟩ := List.mem_map.mp hqS
  have hbq : base ≤ q := by rw [← hyq]; exact hF y hy
  have c3 := L1.c3
  have c4 := L1.c4
  have f4 := L2.frozen 4
  have d4 := L2.c4
  have HE : Hid (Links ((w.drew.setCell ⟨p, 4, none⟩ (.pointer (some ⟨q, 0, none⟩))).drew.setCell ⟨q, 3, none⟩ (.pointer (some ⟨p, 0, none⟩))) S (upd nw q p) (upd ol p q)) := by
    exact ((hS.drew.set4 p q).drew.set3 q p)
  have L1' : Link (w.setCell ⟨p, 4, none⟩ (.pointer (some ⟨q, 0, none⟩))) l tl p q := L1.keep (Below.heap_setCell _ _ _ _ hpl)
  obtain ⟨tq', L3'⟩ := (hS.set4 p q).at_ hqS
  have HF : Hid (Fr [66] base w ((w.drew.setCell ⟨p, 4, none⟩ (.pointer (some ⟨q, 0, none⟩))).drew.setCell ⟨q, 3, none⟩ (.pointer (some ⟨p, 0, none⟩)))) :=
    Fr.set (Fr.drew (Fr.set (Fr.drew (Fr.refl _ _ _)) L2 (by simp [kd]) hbp _)) L3' (by simp [kd]) hbq _
  have e3 := L1'.c3
  have e4 := L1'.c4
  have g3 := L3'.frozen 3
  have k3 := L3'.c3
  clear L1 L2 L3 L1' L3' hS hF hl hp hq hpS hqS hx hxp hbp hy hyq hbq
  go_enter Try.func40, Try.ntmps40
  go_wp2_with fail
  go_region
  go_wp2_with fail
  go_region
  go_wp2
  go_end0
  exact ⟨rfl, HE.out, HF.out⟩

/-- A link whose neighbours aren't known. -/
def Loose (w : World) (b : Nat) (t : Th) : Prop := ∃ p q, w.heap[b]? = some (.cells #[.string t.k, .int .i64 t.s, .int .i64 t.n, .pointer p, .pointer q] 66 (0, 0))
theorem Link.loose {w : World} {b p q : Nat} {t : Th} (h : Link w b t p q) : Loose w b t := ⟨_, _, h⟩
theorem Loose.fr {w w' : World} {b : Nat} {t : Th} {l : List Nat} {base : Nat} (h : Loose w b t) (hf : Fr l base w w') (hl : 66 ∉ l) : Loose w' b t := by
  obtain ⟨p, q, h⟩ := h
  exact ⟨p, q, hf.keep b _ h hl⟩
theorem link_of4 {w : World} {l e : Nat} {t : Th} {pb : Option Addr} (h : w.heap[l]? = some (.cells #[.string t.k, .int .i64 t.s, .int .i64 t.n, .pointer (some ⟨e, 0, none⟩), .pointer pb] 66 (0, 0))) (f : Nat) : Link (w.setCell ⟨l, 4, none⟩ (.pointer (some ⟨f, 0, none⟩))) l t e f := by
  unfold Link
  simp [World.setCell, Array.getElem?_modify, h]
set_option maxHeartbeats 1000000 in
theorem lead_any (base : Nat) (S : List Nd) (nw ol : Nat → Nat) (g l e f : Nat) (t : Th) (w : World) (hg : w.cell? ⟨g, 0, none⟩ = some (.pointer (some ⟨e, 0, none⟩))) (hL : Loose w l t) (hS : Links w S nw ol) (hF : From base S) (hbl : base ≤ l) (hl : l ∉ S.map (·.1)) (hf : ol e = f) (heS : e ∈ S.map (·.1)) (hfS : f ∈ S.map (·.1)) :
    Calls Try.prog 39 #[.pointer (some ⟨g, 0, none⟩), .pointer (some ⟨l, 0, none⟩)] w fun x w' => x = .returned (.tuple #[]) ∧ Links w' ((l, t) :: S) (upd (upd nw l e) f l) (upd (upd ol l f) e l) ∧ Fr [66] base w w' := by
  obtain ⟨pa, pb, L1⟩ := hL
  obtain ⟨te, L2⟩ := hS.at_ heS
  rw [hf] at L2
  have hle : ¬ l = e := fun h => hl (by rw [h]; exact heS)
  obtain ⟨y, hy, hyq⟩ := List.mem_map.mp heS
  have hbe : base ≤ e := by rw [← hyq]; exact hF y hy
  obtain ⟨z, hz, hzq⟩ := List.mem_map.mp hfS
  have hbf : base ≤ f := by rw [← hzq]; exact hF z hz
  have c4 := L2.c4
  have f3 : w.frozen? ⟨l, 3, none⟩ = false := by simp [World.frozen?, L1]
  have a3 : w.cell? ⟨l, 3, none⟩ = some (.pointer pa) := by simp [World.cell?, L1]
  have K1 : (w.setCell ⟨l, 3, none⟩ (.pointer (some ⟨e, 0, none⟩))).heap[l]? = some (.cells #[.string t.k, .int .i64 t.s, .int .i64 t.n, .pointer (some ⟨e, 0, none⟩), .pointer pb] 66 (0, 0)) := by simp [World.setCell, Array.getElem?_modify, L1]
  have f4 : (w.setCell ⟨l, 3, none⟩ (.pointer (some ⟨e, 0, none⟩))).frozen? ⟨l, 4, none⟩ = false := by simp [World.frozen?, K1]
  have b4 : (w.setCell ⟨l, 3, none⟩ (.pointer (some ⟨e, 0, none⟩))).cell? ⟨l, 4, none⟩ = some (.pointer pb) := by simp [World.cell?, K1]
  have M2 : Link ((w.setCell ⟨l, 3, none⟩ (.pointer (some ⟨e, 0, none⟩))).setCell ⟨l, 4, none⟩ (.pointer (some ⟨f, 0, none⟩))) l t e f := link_of4 K1 f
  have S2 : Links ((w.setCell ⟨l, 3, none⟩ (.pointer (some ⟨e, 0, none⟩))).setCell ⟨l, 4, none⟩ (.pointer (some ⟨f, 0, none⟩))) ((l, t) :: S) (upd nw l e) (upd ol l f) := by
    intro x hx
    rcases List.mem_cons.mp hx with rfl | hx
    · rw [upd_same, upd_same]
      exact M2
    · have hne : x.1 ≠ l := fun h => hl (by rw [← h]; exact List.mem_map_of_mem hx)
      rw [upd_other _ _ hne, upd_other _ _ hne]
      exact (hS x hx).keep ((Below.heap_setCell _ _ _ _ hne).trans (Below.heap_setCell _ _ _ _ hne))
  have heS' : e ∈ ((l, t) :: S).map (·.1) := List.mem_cons_of_mem _ heS
  have hfS' : f ∈ ((l, t) :: S).map (·.1) := List.mem_cons_of_mem _ hfS
  obtain ⟨t3, M3⟩ := S2.at_ heS'
  have m3 := M2.c3
  have g4 := M3.frozen 4
  have i4 := M3.c4
  have S3 := S2.set4 e l
  have M4 := S3 (l, t) (by simp)
  obtain ⟨t5, M5⟩ := S3.at_ hfS'
  rw [upd_other _ _ hle, upd_same, upd_same] at M4
  have m4 := M4.c4
  have g3 := M5.frozen 3
  have i3 := M5.c3
  have HE := Lib.hid (S3.set3 f l)
  have HF := Lib.hid (((((Fr.refl [66] base w).set L1 (by simp [kd]) hbl (o := 3) (.pointer (some ⟨e, 0, none⟩))).set K1 (by simp [kd]) hbl (o := 4) (.pointer (some ⟨f, 0, none⟩))).set M3 (by simp [kd]) hbe (o := 4) (.pointer (some ⟨l, 0, none⟩))).set M5 (by simp [kd]) hbf (o := 3) (.pointer (some ⟨l, 0, none⟩)))
  clear L1 L2 M2 M3 M4 M5 K1 S2 S3 hS hF hl hf heS hfS heS' hfS' hbl hy hyq hbe hz hzq hbf
  go_enter Try.func39, Try.ntmps39
  go_wp2_with fail
  go_region
  go_wp2
  go_end0
  exact ⟨rfl, HE.out, HF.out.drew⟩

theorem last_any (g e b : Nat) (t : Th) (w : World) (hg : w.cell? ⟨g, 0, none⟩ = some (.pointer (some ⟨e, 0, none⟩))) {q : Nat} (he : Link w e t b q) :
    Calls Try.prog 38 #[.pointer (some ⟨g, 0, none⟩)] w fun x w' => x = .returned (.pointer (some ⟨b, 0, none⟩)) ∧ w = w' := by
  have c3 := he.c3
  clear he
  go_enter Try.func38, Try.ntmps38
  go_wp2
  go_ret
  exact ⟨rfl, rfl⟩

/-- What newRing lays. -/
def ringWorld (w : World) : World :=
  ((w.alloc (.cells #[.pointer (some ⟨w.heap.size + 1, 0, none⟩), .map (some (w.heap.size + 1 + 1)), .int .i64 0] 58)).alloc
    (.cells #[.string ⟨#[]⟩, .int .i64 0, .int .i64 0, .pointer (some ⟨w.heap.size + 1, 0, none⟩), .pointer (some ⟨w.heap.size + 1, 0, none⟩)] 66)).alloc (.map #[] 0)
theorem newring_any (w : World) : Calls Try.prog 29 #[] w fun x w' => x = .returned (.agg #[.pointer (some ⟨w.heap.size + 1, 0, none⟩), .map (some (w.heap.size + 2)), .int .i64 0]) ∧ w' = ringWorld w := by
  have hmm := @run_makeMap Try.prog
  go_enter Try.func29, Try.ntmps29
  go_wp2
  refine bodyPost_ret (v := .agg #[.pointer (some ⟨w.heap.size + 1, 0, none⟩), .map (some (w.heap.size + 1 + 1)), .int .i64 0]) ?_ rfl ⟨rfl, rfl⟩
  simp [results, Try.results29, go_sem]
theorem ringWorld_below (w : World) : Below w.heap.size w (ringWorld w) := (((Below.refl _ w).alloc (Nat.le_refl _) _).alloc (by simp) _).alloc (by simp; omega) _
theorem ringWorld_size (w : World) : (ringWorld w).heap.size = w.heap.size + 3 := by simp [ringWorld]
theorem heap_old (w : World) (o : Obj) {b : Nat} (h : b < w.heap.size) : (w.alloc o).heap[b]? = w.heap[b]? := Below.heap_alloc _ _ _ h
theorem ringWorld_link (w : World) : Link (ringWorld w) (w.heap.size + 1) th0 (w.heap.size + 1) (w.heap.size + 1) := by
  have h := heap_new (w.alloc (.cells #[.pointer (some ⟨w.heap.size + 1, 0, none⟩), .map (some (w.heap.size + 1 + 1)), .int .i64 0] 58)) (.cells #[.string ⟨#[]⟩, .int .i64 0, .int .i64 0, .pointer (some ⟨w.heap.size + 1, 0, none⟩), .pointer (some ⟨w.heap.size + 1, 0, none⟩)] 66)
  rw [World.size_alloc] at h
  unfold Link ringWorld
  rw [heap_old _ _ (by simp)]
  exact h
theorem ringWorld_map (w : World) (P : Program) (k : TypeId) {H : Type} (R : Value → Option (DataW H × List MemPlace)) : (ringWorld w).ownsMap P k R (w.heap.size + 2) 0 (.map []) := by
  have h := World.ownsMap_made ((w.alloc (.cells #[.pointer (some ⟨w.heap.size + 1, 0, none⟩), .map (some (w.heap.size + 1 + 1)), .int .i64 0] 58)).alloc
    (.cells #[.string ⟨#[]⟩, .int .i64 0, .int .i64 0, .pointer (some ⟨w.heap.size + 1, 0, none⟩), .pointer (some ⟨w.heap.size + 1, 0, none⟩)] 66)) P k R
  rw [World.size_alloc, World.size_alloc] at h
  exact h
end Go.Proofs.Ytmhpngfkipooiaa
