/-
  A journal in memory. The contracts of Lap, Room, Parts, end, of the atomic flag. Their conditions: the journal lies in memory.
-/
import Derived.Test.YtppdckncnfffcaaJ1
namespace Go.Proofs.Ytppdckncnfffcaa
open Go.RowKit
set_option maxRecDepth 100000

/-- A journal's own. -/
structure Jn where
  size : Nat
  lap : Nat
  first : Nat
  recs : Nat
  used : Nat
  free : Nat
  last : Nat
  over : Bool
def ovI (b : Bool) : Int := if b then 1 else 0
/-- A journal's block. -/
def JBox (w : World) (g dg : Nat) (j : Jn) : Prop :=
  w.heap[g]? = some (.cells #[.pointer (some ⟨dg, 0, none⟩), .int .i64 (j.size : Int), .int .i64 (j.lap : Int), .int .i64 (j.first : Int), .int .i64 (j.recs : Int), .int .i64 (j.used : Int), .int .i64 (j.free : Int), .int .i64 (j.last : Int), .int .u32 (ovI j.over)] 76 (0, 0))
section
variable {w w' : World} {g dg : Nat} {j : Jn}
theorem JBox.lt (h : JBox w g dg j) : g < w.heap.size := lt_of_heap h
theorem JBox.c0 (h : JBox w g dg j) : w.cell? ⟨g, 0, none⟩ = some (.pointer (some ⟨dg, 0, none⟩)) := by rw [cell_of h]; rfl
theorem JBox.c1 (h : JBox w g dg j) : w.cell? ⟨g, 1, none⟩ = some (.int .i64 (j.size : Int)) := by rw [cell_of h]; rfl
theorem JBox.c2 (h : JBox w g dg j) : w.cell? ⟨g, 2, none⟩ = some (.int .i64 (j.lap : Int)) := by rw [cell_of h]; rfl
theorem JBox.c3 (h : JBox w g dg j) : w.cell? ⟨g, 3, none⟩ = some (.int .i64 (j.first : Int)) := by rw [cell_of h]; rfl
theorem JBox.c4 (h : JBox w g dg j) : w.cell? ⟨g, 4, none⟩ = some (.int .i64 (j.recs : Int)) := by rw [cell_of h]; rfl
theorem JBox.c5 (h : JBox w g dg j) : w.cell? ⟨g, 5, none⟩ = some (.int .i64 (j.used : Int)) := by rw [cell_of h]; rfl
theorem JBox.c6 (h : JBox w g dg j) : w.cell? ⟨g, 6, none⟩ = some (.int .i64 (j.free : Int)) := by rw [cell_of h]; rfl
theorem JBox.c7 (h : JBox w g dg j) : w.cell? ⟨g, 7, none⟩ = some (.int .i64 (j.last : Int)) := by rw [cell_of h]; rfl
theorem JBox.c8 (h : JBox w g dg j) : w.cell? ⟨g, 8, none⟩ = some (.int .u32 (ovI j.over)) := by rw [cell_of h]; rfl
theorem JBox.frozen (h : JBox w g dg j) (o : Nat) : w.frozen? ⟨g, o, none⟩ = false := by simp [World.frozen?, show w.heap[g]? = _ from h]
theorem JBox.set6 (h : JBox w g dg j) (x : Nat) : JBox (w.setCell ⟨g, 6, none⟩ (.int .i64 (x : Int))) g dg { j with free := x } := by
  unfold JBox at h ⊢
  simp [World.setCell, Array.getElem?_modify, h]
theorem JBox.set7 (h : JBox w g dg j) (x : Nat) : JBox (w.setCell ⟨g, 7, none⟩ (.int .i64 (x : Int))) g dg { j with last := x } := by
  unfold JBox at h ⊢
  simp [World.setCell, Array.getElem?_modify, h]
theorem JBox.set8 (h : JBox w g dg j) : JBox (w.setCell ⟨g, 8, none⟩ (.int .u32 1)) g dg { j with over := true } := by
  unfold JBox at h ⊢
  simp [World.setCell, Array.getElem?_modify, h, ovI]
theorem JBox.below (h : JBox w g dg j) (hb : Below w.heap.size w w') : JBox w' g dg j := (hb.block g h.lt).trans h
theorem JBox.fr {l ms : List Nat} {base : Nat} (h : JBox w g dg j) (hf : Fr l ms base w w') (hl : 76 ∉ l) (hm : g ∉ ms) : JBox w' g dg j := hf.keep g _ h hl hm
end
theorem bload_any {g : Nat} {b : Bool} {w : World} (c : w.cell? ⟨g, 8, none⟩ = some (.int .u32 (ovI b))) : Calls Try.prog 38 #[.pointer (some ⟨g, 8, none⟩)] w fun r w' => r = .returned (.bool b) ∧ w = w' := by
  have hl := run_call_load (P := Try.prog) Try.func46 (by kernel_rfl) (by kernel_rfl) (by kernel_rfl) .u32 (by kernel_rfl) c
  cases b with
  | true =>
    have e : ovI true = 1 := rfl
    rw [e] at hl
    clear c
    go_enter Try.func38, Try.ntmps38
    go_wp2
    go_ret
    exact ⟨rfl, rfl⟩
  | false =>
    have e : ovI false = 0 := rfl
    rw [e] at hl
    clear c
    go_enter Try.func38, Try.ntmps38
    go_wp2
    go_ret
    exact ⟨rfl, rfl⟩
theorem b32_true (w : World) : Calls Try.prog 61 #[.bool true] w fun r w' => r = .returned (.int .u32 1) ∧ w = w' := by
  go_enter Try.func61, Try.ntmps61
  go_wp2
  go_ret
  exact ⟨rfl, rfl⟩
theorem bstore_any {g : Nat} {x : Int} {w : World} (c : w.cell? ⟨g, 8, none⟩ = some (.int .u32 x)) (fz : w.frozen? ⟨g, 8, none⟩ = false) :
    Calls Try.prog 55 #[.pointer (some ⟨g, 8, none⟩), .bool true] w fun r w' => (∃ v, r = .returned v) ∧ w' = (w.setCell ⟨g, 8, none⟩ (.int .u32 1)).drew := by
  have c' : w.drew.cell? ⟨g, 8, none⟩ = some (.int .u32 x) := c
  have fz' : w.drew.frozen? ⟨g, 8, none⟩ = false := fz
  have hst := run_call_store (P := Try.prog) Try.func60 (by kernel_rfl) (by kernel_rfl) (by kernel_rfl) (by kernel_rfl) (k := .u32) (y := 1) c' fz'
  go_enter Try.func55, Try.ntmps55
  go_wp2
  go_region_calls
  all_goals (go_end0; exact ⟨⟨_, rfl⟩, rfl⟩)
/-- What writes one block writes a kind. -/
theorem Fr.toKind {l : List Nat} {base g : Nat} {w w' : World} {o : Obj} (h : Fr l [g] base w w') (hg : w.heap[g]? = some o) : Fr (kd o :: l) [] base w w' :=
  ⟨h.below, fun q y hq hk _ => h.keep q y hq (fun hx => hk (List.mem_cons_of_mem _ hx)) (fun hx => by
    have e : q = g := by simpa using hx
    subst e
    rw [hg] at hq
    cases hq
    exact hk (by simp))⟩
/-- What a call of a journal leaves, where it writes the journal's own block alone. -/
def EPost (w : World) (base g dg : Nat) (j : Jn) (v : Value) (r : Ending) (w' : World) : Prop := r = .returned v ∧ JBox w' g dg j ∧ Fr [] [g] base w w'
theorem end_any (g dg base : Nat) (j : Jn) (w : World) (h : JBox w g dg j) (hb : base ≤ g) : Calls Try.prog 49 #[.pointer (some ⟨g, 0, none⟩)] w (EPost w base g dg { j with over := true } (.int .i64 7)) := by
  have CB := Lib.hid (bstore_any h.c8 (h.frozen 8))
  have HE : Hid (EPost w base g dg { j with over := true } (.int .i64 7) (.returned (.int .i64 7)) (w.setCell ⟨g, 8, none⟩ (.int .u32 1)).drew) :=
    ⟨rfl, h.set8.below (Below.refl _ _).drew, ((Fr.refl _ _ _ _).set h (.inr (by simp)) hb _).drew⟩
  clear h
  go_enter Try.func49, Try.ntmps49
  go_wp2_with fail
  refine CB.out.mono ?_
  rintro r w1 ⟨⟨v, rfl⟩, rfl⟩
  go_wp2
  go_ret
  exact HE.out
theorem lap_any (g dg : Nat) (j : Jn) (w : World) (h : JBox w g dg j) : Calls Try.prog 28 #[.pointer (some ⟨g, 0, none⟩)] w fun r w' => r = .returned (.int .i64 (j.lap : Int)) ∧ w = w' := by
  have c2 := h.c2
  clear h
  go_enter Try.func28, Try.ntmps28
  go_wp2
  go_ret
  exact ⟨rfl, rfl⟩
theorem lap_nil (w : World) : Calls Try.prog 28 #[.pointer none] w fun r w' => r = .returned (.int .i64 0) ∧ w = w' := by
  go_enter Try.func28, Try.ntmps28
  go_wp2
  go_ret
  exact ⟨rfl, rfl⟩
/-- Parts. -/
def partsI (n : Int) : Int := if n < 0 then 0 else (partsN n.toNat : Int)
theorem parts_any (n : Int) (w : World) (h : n ≤ 9223372036854775807) : Calls Try.prog 26 #[.int .i64 n] w fun r w' => r = .returned (.int .i64 (partsI n)) ∧ w = w' := by
  by_cases h0 : n < 0
  · have e : partsI n = 0 := by simp [partsI, h0]
    rw [e]
    go_enter Try.func26, Try.ntmps26
    go_wp2
    go_ret
    exact ⟨rfl, rfl⟩
  · obtain ⟨k, rfl⟩ : ∃ k : Nat, n = (k : Int) := ⟨n.toNat, by omega⟩
    have e : partsI (k : Int) = (partsN k : Int) := by simp [partsI]; omega
    rw [e]
    obtain ⟨m, hm⟩ : ∃ m : Nat, m = k - 1 := ⟨_, rfl⟩
    have hw : IntKind.i64.wrap ((k : Int) - 1) = (k : Int) - 1 := IntWalk.i64_in _ (by omega)
    have hmax : ∀ w, (Builtin.max_ #[3, 3] 3 #[.int .i64 ((k : Int) - 1), .int .i64 0]).run Try.prog w = .ok (.int .i64 (m : Int)) w := fun w => run_max2 w _ _ _ _ _ (by omega)
    have HE : Hid ((m : Int) / 47 + 1 = (partsN k : Int)) := by
      show (m : Int) / 47 + 1 = _
      unfold partsN
      omega
    have hmi : (m : Int) ≤ 9223372036854775807 := by omega
    clear hm e
    go_enter Try.func26, Try.ntmps26
    go_wp2
    go_ret
    exact ⟨by rw [HE.out]; rfl, rfl⟩
def roomN (j : Jn) : Nat := if j.lap = 0 then 0 else if j.over then 0 else j.size - j.used
set_option maxHeartbeats 1000000 in
theorem jroom_any (g dg : Nat) (j : Jn) (w : World) (h : JBox w g dg j) (hs : j.size ≤ 4096) (hu : j.used ≤ j.size) : Calls Try.prog 24 #[.pointer (some ⟨g, 0, none⟩)] w fun r w' => r = .returned (.int .i64 (roomN j : Int)) ∧ Below w.heap.size w w' := by
  have CL := Lib.hid (lap_any g dg j w h)
  have CB := Lib.hid (bload_any h.c8)
  by_cases h0 : j.lap = 0
  · have e : roomN j = 0 := by simp [roomN, h0]
    rw [e]
    rw [h0] at CL
    clear h h0 CB hs hu e
    go_enter Try.func24, Try.ntmps24
    go_wp2_with fail
    refine CL.out.mono ?_
    rintro r w1 ⟨rfl, rfl⟩
    go_wp2
    go_ret
    exact ⟨rfl, Below.refl _ _⟩
  · have h0i : ¬ (j.lap : Int) = 0 := by omega
    cases ho : j.over with
    | true =>
      have e : roomN j = 0 := by simp [roomN, ho]
      rw [e]
      rw [ho] at CB
      clear h h0 hs hu e ho
      go_enter Try.func24, Try.ntmps24
      go_wp2_with fail
      refine CL.out.mono ?_
      rintro r w1 ⟨rfl, rfl⟩
      go_wp2_with fail
      refine CB.out.mono ?_
      rintro r w1 ⟨rfl, rfl⟩
      go_wp2
      go_ret
      exact ⟨rfl, Below.refl _ _⟩
    | false =>
      have e : ((roomN j : Nat) : Int) = (j.size : Int) - (j.used : Int) := by simp [roomN, ho, h0]; omega
      rw [e]
      rw [ho] at CB
      have c1 := h.c1
      have c5 := h.c5
      have hw : IntKind.i64.wrap ((j.size : Int) - (j.used : Int)) = (j.size : Int) - (j.used : Int) := IntWalk.i64_in _ (by omega)
      clear h h0 hs hu e ho
      go_enter Try.func24, Try.ntmps24
      go_wp2_with fail
      refine CL.out.mono ?_
      rintro r w1 ⟨rfl, rfl⟩
      go_wp2_with fail
      refine CB.out.mono ?_
      rintro r w1 ⟨rfl, rfl⟩
      go_wp2
      go_quiet (fail)
      go_wp2
      go_ret
      exact ⟨rfl, below_drewN _ _⟩
theorem jroom_nil (w : World) : Calls Try.prog 24 #[.pointer none] w fun r w' => r = .returned (.int .i64 0) ∧ w = w' := by
  go_enter Try.func24, Try.ntmps24
  go_wp2_with fail
  refine (lap_nil w).mono ?_
  rintro r w1 ⟨rfl, rfl⟩
  go_wp2
  go_ret
  exact ⟨rfl, rfl⟩
end Go.Proofs.Ytppdckncnfffcaa
