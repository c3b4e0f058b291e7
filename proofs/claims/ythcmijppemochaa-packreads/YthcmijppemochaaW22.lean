/-
  The contracts of the document's Reader: Num, Flag, Text, Whole. Their conditions: the reader is the call's own, its bytes lie elsewhere and fit memory.
-/
import Derived.Test.YthcmijppemochaaW21
namespace Go.Proofs.Ythcmijppemochaa
open Go.RowKit Go.Sort

/-- An object of three cells in block h. -/
def Box3 (w : World) (h : Nat) (x y z : Value) : Prop := ∃ t, w.heap[h]? = some (.cells #[x, y, z] t (0, 0))
theorem Box3.lt {w : World} {h : Nat} {x y z : Value} (b : Box3 w h x y z) : h < w.heap.size := by
  obtain ⟨t, b⟩ := b
  exact (Array.getElem?_eq_some_iff.mp b).1
theorem Box3.cells {w : World} {h : Nat} {x y z : Value} (b : Box3 w h x y z) : w.cell? ⟨h, 0, none⟩ = some x ∧ w.cell? ⟨h, 1, none⟩ = some y ∧ w.cell? ⟨h, 2, none⟩ = some z ∧ w.frozen? ⟨h, 1, none⟩ = false ∧ w.frozen? ⟨h, 2, none⟩ = false := by
  obtain ⟨t, b⟩ := b
  refine ⟨?_, ?_, ?_, ?_, ?_⟩ <;> simp [World.cell?, World.frozen?, b]
theorem Box3.set1 {w : World} {h : Nat} {x y z : Value} (b : Box3 w h x y z) (n : Int) : Box3 (w.setCell ⟨h, 1, none⟩ (.int .i64 n)) h x (.int .i64 n) z := by
  obtain ⟨t, b⟩ := b
  exact ⟨t, by simp [World.setCell, Array.getElem?_modify, b]⟩
theorem Box3.set2 {w : World} {h : Nat} {x y z : Value} (b : Box3 w h x y z) (n : Bool) : Box3 (w.setCell ⟨h, 2, none⟩ (.bool n)) h x y (.bool n) := by
  obtain ⟨t, b⟩ := b
  exact ⟨t, by simp [World.setCell, Array.getElem?_modify, b]⟩
theorem Box3.only {S : Nat → Prop} {w w' : World} {h : Nat} {x y z : Value} (b : Box3 w h x y z) (ho : Only S w w') (hS : ¬ S h) : Box3 w' h x y z := by
  have hl := b.lt
  obtain ⟨t, b⟩ := b
  exact ⟨t, by rw [ho.block h hl hS]; exact b⟩
theorem Box3.below {w w' : World} {h : Nat} {x y z : Value} (b : Box3 w h x y z) (hb : Below w.heap.size w w') : Box3 w' h x y z := b.only (S := fun _ => False) (Only.of_below hb) (fun h => h)

/-- The document's reader in block h. -/
def RR (w : World) (h : Nat) (A : Option Addr) (c : Nat) (b : List Nat) (s : Option (List Nat)) : Prop :=
  ∃ (a : Nat) (bad : Bool), a ≤ b.length ∧ Box3 w h (.slice A b.length c) (.int .i64 (a : Int)) (.bool bad) ∧ ((bad = true ∧ s = none) ∨ (bad = false ∧ s = some (b.drop a)))
theorem RR.only {S : Nat → Prop} {w w' : World} {h : Nat} {A : Option Addr} {c : Nat} {b : List Nat} {s : Option (List Nat)} (r : RR w h A c b s) (ho : Only S w w') (hS : ¬ S h) : RR w' h A c b s := by
  obtain ⟨a, bad, h1, h2, h3⟩ := r
  exact ⟨a, bad, h1, h2.only ho hS, h3⟩
theorem RR.below {w w' : World} {h : Nat} {A : Option Addr} {c : Nat} {b : List Nat} {s : Option (List Nat)} (r : RR w h A c b s) (hb : Below w.heap.size w w') : RR w' h A c b s := r.only (S := fun _ => False) (Only.of_below hb) (fun h => h)
theorem RR.lt {w : World} {h : Nat} {A : Option Addr} {c : Nat} {b : List Nat} {s : Option (List Nat)} (r : RR w h A c b s) : h < w.heap.size := by
  obtain ⟨a, bad, h1, h2, h3⟩ := r
  exact h2.lt
def RfPost (w : World) (h : Nat) (A : Option Addr) (c : Nat) (b : List Nat) (v : Value) (s : Option (List Nat)) (e : Ending) (w' : World) : Prop := e = .returned v ∧ RR w' h A c b s ∧ Only (fun k => k = h) w w'
theorem numOf_drop {b : List Nat} {a n : Nat} {R : List Nat} (hb : ∀ x ∈ b, x < 256) (h : Pk.numOf (b.drop a) = some (n, R)) : R = b.drop (a + (Pk.digits n).length) ∧ a + (Pk.digits n).length ≤ b.length ∧ n ≤ Pk.most := by
  obtain ⟨h1, h2⟩ := Pk.numOf_some (fun x hx => hb x (List.mem_of_mem_drop hx)) h
  have h3 := congrArg List.length h2
  rw [List.length_drop, List.length_append] at h3
  have h4 : 0 < (Pk.digits n).length := List.length_pos_iff.mpr (Pk.digits_ne n)
  refine ⟨?_, by omega, h1⟩
  rw [← List.drop_drop, h2, List.drop_left]
set_option maxHeartbeats 1000000 in
set_option maxRecDepth 100000 in
theorem refnum_good (h : Nat) (A : Option Addr) (c a : Nat) (b : List Nat) (m : Int) (w : World) (ha : a ≤ b.length) (hbx : Box3 w h (.slice A b.length c) (.int .i64 (a : Int)) (.bool false)) (hb : Bytes w A b) (hc : b.length ≤ c) (hm : b.length ≤ 140737488355328) :
    Calls Try.prog 19 #[.pointer (some ⟨h, 0, none⟩), .int .i64 m] w (RfPost w h A c b (.int .i64 ((Pk.rcount (some (b.drop a)) m).1 : Nat)) (Pk.rcount (some (b.drop a)) m).2) := by
  have HBX := Lib.hid hbx
  have HA := Lib.hid ha
  have HBL := Lib.hid hb.1
  have C1 : ∀ d os, Calls Try.prog 34 #[.slice A b.length c, .int .i64 (a : Int)] (grow (redrawn w d) os) fun e w'' => e = .returned (NumTuple a (Pk.numOf (b.drop a))) ∧ ∃ p : Regrown, w'' = grow (redrawn w p.d) p.os :=
    fun d os => Calls.regrown_of (number_any b A c a _ (hb.below (below_regrown w d os)) ha hc hm)
  obtain ⟨c0, c1, c2, f1, f2⟩ := hbx.cells
  have g0 : ∀ d os, (grow (redrawn w d) os).cell? ⟨h, 0, none⟩ = some (.slice A b.length c) := fun d os => (hbx.below (below_regrown w d os)).cells.1
  have g1 : ∀ d os, (grow (redrawn w d) os).cell? ⟨h, 1, none⟩ = some (.int .i64 (a : Int)) := fun d os => (hbx.below (below_regrown w d os)).cells.2.1
  cases hn : Pk.numOf (b.drop a) with
  | none =>
    rw [hn] at C1
    have C1H : Hid (∀ d os, Calls Try.prog 34 #[.slice A b.length c, .int .i64 (a : Int)] (grow (redrawn w d) os) fun e w'' => e = .returned (.tuple #[.int .i64 0, .int .i64 0, .bool false]) ∧ ∃ p : Regrown, w'' = grow (redrawn w p.d) p.os) := C1
    have HR : Hid (Pk.rcount (some (b.drop a)) m = (0, none)) := by unfold Pk.rcount; simp only [hn]; simp [Hid]
    clear hb ha hc hm C1 hbx hn
    go_enter Try.func19, Try.ntmps19
    go_wp2
    refine wp_region_quiet_below (by kernel_rfl) (by kernel_rfl) ?_
    repeat (go_big_quiet_step (exact C1H.out _ _))
    refine wpQuiet_nil ?_
    intro w3 hw'
    obtain ⟨⟨dq, osq⟩, hw''⟩ := hw'
    have hb3 : Below w.heap.size w w3 := by rw [hw'']; exact below_regrown w dq osq
    clear hw'' g0 g1 c0 c1 c2 f1 f2
    have HB3 := Lib.hid hb3
    have HX3 := Lib.hid (HBX.out.below hb3)
    obtain ⟨c0, c1, c2, f1, f2⟩ := HX3.out.cells
    clear hb3
    go_wp2
    go_ret
    rw [HR.out]
    exact ⟨rfl, ⟨a, true, HA.out, HX3.out.set2 true, .inl ⟨rfl, rfl⟩⟩, (Only.of_below (S := fun k => k = h) HB3.out).setCell (p := ⟨h, 2, none⟩) (.inr rfl) _⟩
  | some p =>
    obtain ⟨n, R⟩ := p
    obtain ⟨hR, hlen, hmost⟩ := numOf_drop hb.1 hn
    rw [hn] at C1
    obtain ⟨y, hy⟩ : ∃ y : Int, (n : Int) = y := ⟨_, rfl⟩
    obtain ⟨q, hq⟩ : ∃ q, a + (Pk.digits n).length = q := ⟨_, rfl⟩
    have C1H : Hid (∀ d os, Calls Try.prog 34 #[.slice A b.length c, .int .i64 (a : Int)] (grow (redrawn w d) os) fun e w'' => e = .returned (.tuple #[.int .i64 y, .int .i64 (q : Int), .bool true]) ∧ ∃ p : Regrown, w'' = grow (redrawn w p.d) p.os) := by
      rw [← hy, ← hq]
      exact C1
    have HY := Lib.hid hy
    rw [hq] at hR hlen
    have HRq := Lib.hid hR
    have HLq := Lib.hid hlen
    have HE : Hid (Pk.rcount (some (b.drop a)) m = if y > m then (0, none) else (n, some R)) := by unfold Pk.rcount; simp only [hn]; rw [← hy]; exact rfl
    by_cases hgt : m < y
    · clear hb ha hc hm C1 hbx hn hy hq hR hlen hmost
      go_enter Try.func19, Try.ntmps19
      go_wp2
      refine wp_region_quiet_below (by kernel_rfl) (by kernel_rfl) ?_
      repeat (go_big_quiet_step (exact C1H.out _ _))
      refine wpQuiet_nil ?_
      intro w3 hw'
      obtain ⟨⟨dq, osq⟩, hw''⟩ := hw'
      have hb3 : Below w.heap.size w w3 := by rw [hw'']; exact below_regrown w dq osq
      clear hw'' g0 g1 c0 c1 c2 f1 f2
      have HB3 := Lib.hid hb3
      have HX3 := Lib.hid (HBX.out.below hb3)
      obtain ⟨c0, c1, c2, f1, f2⟩ := HX3.out.cells
      clear hb3
      go_wp2
      go_ret
      rw [HE.out, if_pos (by omega)]
      exact ⟨rfl, ⟨a, true, HA.out, HX3.out.set2 true, .inl ⟨rfl, rfl⟩⟩, (Only.of_below (S := fun k => k = h) HB3.out).setCell (p := ⟨h, 2, none⟩) (.inr rfl) _⟩
    · clear hb ha hc hm C1 hbx hn hy hq hR hlen hmost
      go_enter Try.func19, Try.ntmps19
      go_wp2
      refine wp_region_quiet_below (by kernel_rfl) (by kernel_rfl) ?_
      repeat (go_big_quiet_step (exact C1H.out _ _))
      refine wpQuiet_nil ?_
      intro w3 hw'
      obtain ⟨⟨dq, osq⟩, hw''⟩ := hw'
      have hb3 : Below w.heap.size w w3 := by rw [hw'']; exact below_regrown w dq osq
      clear hw'' g0 g1 c0 c1 c2 f1 f2
      have HB3 := Lib.hid hb3
      have HX3 := Lib.hid (HBX.out.below hb3)
      obtain ⟨c0, c1, c2, f1, f2⟩ := HX3.out.cells
      clear hb3
      go_wp2
      go_ret
      rw [HE.out, if_neg (by omega)]
      exact ⟨by rw [← HY.out]; rfl, ⟨q, false, HLq.out, HX3.out.set1 _, .inr ⟨rfl, by rw [← HRq.out]⟩⟩, (Only.of_below (S := fun k => k = h) HB3.out).setCell (p := ⟨h, 1, none⟩) (.inr rfl) _⟩
theorem refnum_bad (h : Nat) (A : Option Addr) (c a : Nat) (b : List Nat) (m : Int) (w : World) (ha : a ≤ b.length) (hbx : Box3 w h (.slice A b.length c) (.int .i64 (a : Int)) (.bool true)) :
    Calls Try.prog 19 #[.pointer (some ⟨h, 0, none⟩), .int .i64 m] w (RfPost w h A c b (.int .i64 0) none) := by
  obtain ⟨c0, c1, c2, f1, f2⟩ := hbx.cells
  have HBX := Lib.hid hbx
  have HA := Lib.hid ha
  clear hbx ha
  go_enter Try.func19, Try.ntmps19
  go_wp2
  go_ret
  exact ⟨rfl, ⟨a, true, HA.out, HBX.out, .inl ⟨rfl, rfl⟩⟩, Only.refl _ _⟩
theorem refnum_any (h : Nat) (A : Option Addr) (c : Nat) (b : List Nat) (s : Option (List Nat)) (m : Int) (w : World) (hr : RR w h A c b s) (hb : Bytes w A b) (hc : b.length ≤ c) (hm : b.length ≤ 140737488355328) :
    Calls Try.prog 19 #[.pointer (some ⟨h, 0, none⟩), .int .i64 m] w (RfPost w h A c b (.int .i64 ((Pk.rcount s m).1 : Nat)) (Pk.rcount s m).2) := by
  obtain ⟨a, bad, ha, hbx, ⟨rfl, rfl⟩ | ⟨rfl, rfl⟩⟩ := hr
  · exact refnum_bad h A c a b m w ha hbx
  · exact refnum_good h A c a b m w ha hbx hb hc hm
end Go.Proofs.Ythcmijppemochaa
