/-
  The contracts of Clear, New, Again, Grant. Their conditions: the table lies in memory; the next token is a number.
-/
import Derived.Test.YtfiohhgmlelnkaaW2
namespace Go.Proofs.Ytfiohhgmlelnkaa
open Go.RowKit Go.Maps Go.ChangeMaps

theorem MapAt.clear {w : World} {B : Nat} {N : List Nd} (h : MapAt w B N) (ty : TypeId) :
    ∃ w', (Builtin.clear_ #[51] ty #[.map (some B)]).run Try.prog w = .ok (.tuple #[]) w' ∧ MapAt w' B [] ∧ w.grownBy w' (some B) := by
  obtain ⟨es, c, hb⟩ := h.isMap
  refine ⟨setBlock w B (.map #[] c), ?_, ⟨.map [], ⟨#[], c, heap_setBlock_same hb _, ⟨by simp, ?_, by simp⟩, Nat.le_refl _, rfl⟩, fun k z => rfl, rfl⟩, ?_⟩
  · simp [Builtin.clear_, run_underlying Try.underlying51, MapKept.run_getObj_map hb, MapKept.run_setObj_map _ hb, Result.andThen, setBlock]
  · exact MapKept.stamped_empty c
  · exact World.mapTurned.grown ⟨es, c, #[], c, hb, rfl⟩
set_option maxHeartbeats 1000000 in
theorem clear_any (base g B : Nat) (L : List Ls) (limit ticks last : Int) (w : World) (h : TableAt w base g B L limit ticks last) :
    Calls Try.prog 19 #[.pointer (some ⟨g, 0, none⟩)] w fun r w' => r = .returned (.tuple #[]) ∧ TableAt w' base g B [] limit ticks last ∧ Fr [] [B] base w w' := by
  obtain ⟨N, hc, rfl, hgd⟩ := h
  have c2 := hc.box.c2
  obtain ⟨w2, hr, hm2, hg2⟩ := hc.mp.clear 0
  obtain ⟨es, c, hb⟩ := hc.mp.isMap
  have hF : Fr [] [B] base w w2 := (Fr.refl _ _ _ _).grown hg2 hb (.inr (by simp)) hc.bB
  have HE : Hid (TableAt w2 base g B [] limit ticks last ∧ Fr [] [B] base w w2) :=
    ⟨⟨[], ⟨hc.box.fr hF (by simp) (by simpa using hc.gB), by simp, by simp, by simp, hm2, hc.bg, hc.bB, by simp⟩, rfl, Good.nil hgd.t1 hgd.t2 hgd.l2⟩, hF⟩
  clear hc hgd hm2 hg2 hb hF
  go_enter Try.func19, Try.ntmps19
  go_wp2
  go_end0
  exact ⟨rfl, HE.out.1, HE.out.2⟩
theorem clear_nil (w : World) : Calls Try.prog 19 #[.pointer none] w fun x w' => x = .returned (.tuple #[]) ∧ w = w' := by
  go_enter Try.func19, Try.ntmps19
  go_wp2
  go_end0
  exact ⟨rfl, rfl⟩

theorem run_max2 {P : Program} (w : World) (ts : Array TypeId) (t : TypeId) (x y n : Int) (h : n = max x y) :
    (Builtin.max_ ts t #[.int .i64 x, .int .i64 y]).run P w = .ok (.int .i64 n) w := by
  subst h
  simp [Builtin.max_, Builtin.max2]
  try omega
theorem run_min2 {P : Program} (w : World) (ts : Array TypeId) (t : TypeId) (x y n : Int) (h : n = min x y) :
    (Builtin.min_ ts t #[.int .i64 x, .int .i64 y]).run P w = .ok (.int .i64 n) w := by
  subst h
  simp [Builtin.min_, Builtin.min2]
  try omega
/-- What New lays. -/
def newWorld (w : World) (limit ticks : Int) : World := (w.alloc (.map #[] 0)).alloc (.cells #[.int .i64 limit, .int .i64 ticks, .map (some w.heap.size), .int .i64 0] 58)
theorem newWorld_below (w : World) (limit ticks : Int) : Below w.heap.size w (newWorld w limit ticks) := ((Below.refl _ w).alloc (Nat.le_refl _) _).alloc (by simp) _
theorem newWorld_table (w : World) (base : Nat) (limit ticks : Int) (hb : base ≤ w.heap.size) (h1 : 1 ≤ ticks) (h2 : ticks ≤ 9223372036854775807) (h3 : limit ≤ 9223372036854775807) :
    TableAt (newWorld w limit ticks) base (w.heap.size + 1) w.heap.size [] limit ticks 0 := by
  refine ⟨[], ⟨?_, by simp, by simp, by simp, ?_, by omega, hb, by simp⟩, rfl, Good.nil h1 h2 h3⟩
  · have h := heap_new (w.alloc (.map #[] 0)) (.cells #[.int .i64 limit, .int .i64 ticks, .map (some w.heap.size), .int .i64 0] 58)
    rw [World.size_alloc] at h
    exact h
  · have h := World.ownsMap_made w Try.prog 9 ptrE
    exact ⟨.map [], h.alloc _, fun k z => rfl, rfl⟩
def NewPost (w : World) (base : Nat) (limit ticks last : Int) (r : Ending) (w' : World) : Prop :=
  ∃ g B, r = .returned (.pointer (some ⟨g, 0, none⟩)) ∧ TableAt w' base g B [] limit ticks last ∧ Below w.heap.size w w' ∧ w.heap.size ≤ g ∧ w.heap.size ≤ B
set_option maxHeartbeats 1000000 in
theorem new_any (base : Nat) (limit t ticks : Int) (w : World) (hb : base ≤ w.heap.size) (ht : ticks = max t 1) (h2 : t ≤ 9223372036854775807) (h3 : limit ≤ 9223372036854775807) :
    Calls Try.prog 10 #[.int .i64 limit, .int .i64 t] w (NewPost w base limit ticks 0) := by
  have hmax : ∀ w, (Builtin.max_ #[3, 3] 3 #[.int .i64 t, .int .i64 1]).run Try.prog w = .ok (.int .i64 ticks) w := fun w => run_max2 w _ _ _ _ _ ht
  have hmm := @run_makeMap Try.prog
  have HT := Lib.hid (newWorld_table w base limit ticks hb (by omega) (by omega) h3)
  clear hb ht h2 h3
  go_enter Try.func10, Try.ntmps10
  go_wp2
  go_ret
  exact ⟨w.heap.size + 1, w.heap.size, rfl, HT.out, newWorld_below w limit ticks, by omega, Nat.le_refl _⟩
theorem TableAt.set3 {w : World} {base g B : Nat} {L : List Ls} {limit ticks last : Int} (h : TableAt w base g B L limit ticks last) (x : Int) : TableAt (w.setCell ⟨g, 3, none⟩ (.int .i64 x)) base g B L limit ticks x ∧ Fr [] [g] base w (w.setCell ⟨g, 3, none⟩ (.int .i64 x)) := by
  obtain ⟨N, hc, h2⟩ := h
  have hF : Fr [] [g] base w (w.setCell ⟨g, 3, none⟩ (.int .i64 x)) := (Fr.refl _ _ _ _).set hc.box (.inr (by simp)) hc.bg _
  refine ⟨⟨N, ⟨hc.box.set3 x, fun y hy => (hc.ls y hy).fr hF (by simp) (by simpa using hc.not_box hy), hc.fr, hc.nd, hc.mp.fr hF (by simp) (by simpa using hc.gB.symm), hc.bg, hc.bB, hc.ks⟩, h2⟩, hF⟩
/-- Where tokens go on from. -/
def agT (last : Int) : Int := if 0 ≤ last ∧ last ≤ 9007199254740992 then last else 0
set_option maxHeartbeats 1000000 in
theorem again_any (base : Nat) (limit t ticks last : Int) (w : World) (hb : base ≤ w.heap.size) (ht : ticks = max t 1) (h2 : t ≤ 9223372036854775807) (h3 : limit ≤ 9223372036854775807) :
    Calls Try.prog 22 #[.int .i64 limit, .int .i64 t, .int .i64 last] w (NewPost w base limit ticks (agT last)) := by
  have C1 := Lib.hid (new_any base limit t ticks w hb ht h2 h3)
  have HB := Lib.hid hb
  clear hb ht h2 h3
  go_enter Try.func22, Try.ntmps22
  go_wp2_with fail
  refine C1.out.mono ?_
  rintro r w1 ⟨g, B, rfl, t1, b1, hg, hB⟩
  have HG : Hid (w.heap.size ≤ g ∧ w.heap.size ≤ B) := ⟨hg, hB⟩
  clear hg hB C1
  by_cases h0 : 0 ≤ last ∧ last ≤ 9007199254740992
  · obtain ⟨h1, h2⟩ := h0
    have c3 := t1.box.c3
    have fz := t1.box.frozen 3
    have hst := run_call_store (P := Try.prog) (k := .i64) (y := last) Try.func31 (by kernel_rfl) (by kernel_rfl) (by kernel_rfl) (by kernel_rfl) c3 fz
    obtain ⟨t2, _⟩ := t1.set3 last
    have HE : Hid (TableAt (w1.setCell ⟨g, 3, none⟩ (.int .i64 last)) base g B [] limit ticks (agT last) ∧ Below w.heap.size w (w1.setCell ⟨g, 3, none⟩ (.int .i64 last))) := by
      unfold agT
      rw [if_pos ⟨h1, h2⟩]
      exact ⟨t2, b1.setCell HG.out.1 _⟩
    clear t1 t2 b1
    go_wp2
    go_end0
    go_wp2
    go_ret
    exact ⟨g, B, rfl, HE.out.1, HE.out.2, HG.out.1, HG.out.2⟩
  · have HE : Hid (TableAt w1 base g B [] limit ticks (agT last) ∧ Below w.heap.size w w1) := by
      unfold agT
      rw [if_neg h0]
      exact ⟨t1, b1⟩
    clear t1 b1
    have hcase : ¬ last ≥ 0 ∨ (last ≥ 0 ∧ ¬ last ≤ 9007199254740992) := by omega
    clear h0
    rcases hcase with h1 | ⟨h1, h2⟩
    all_goals
      go_wp2
      go_ret
      exact ⟨g, B, rfl, HE.out.1, HE.out.2, HG.out.1, HG.out.2⟩
end Go.Proofs.Ytfiohhgmlelnkaa
