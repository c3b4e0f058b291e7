/-
  The order of markers: the contracts of cmp.Compare, cmp.Or and order. Their conditions: none.
-/
import Derived.Test.YtkonkldcallimaaW6
import Derived.Test.YtkonkldcallimaaLay
namespace Go.Proofs.Ytkonkldcallimaa
open Go.RowKit Go.Maps Go.ChangeMaps
open Go.Sort (grow)

/-- How two texts compare. -/
def cmpS (x y : ByteArray) : Int := if lt x y then -1 else if lt y x then 1 else 0
/-- How two numbers compare. -/
def cmpI (x y : Int) : Int := if x < y then -1 else if y < x then 1 else 0
/-- How two markers compare. -/
def cmpM (a b : Mk) : Int := if cmpS a.k b.k ≠ 0 then cmpS a.k b.k else if cmpI a.s b.s ≠ 0 then cmpI a.s b.s else cmpI a.r b.r
theorem nanS_any (x : ByteArray) (w : World) : Calls Try.prog 46 #[.string x] w fun r w' => r = .returned (.bool false) ∧ w' = w := by
  go_enter Try.func46, Try.ntmps46
  go_wp2
  go_ret
  exact ⟨rfl, rfl⟩
theorem nanI_any (x : Int) (w : World) : Calls Try.prog 47 #[.int .i64 x] w fun r w' => r = .returned (.bool false) ∧ w' = w := by
  go_enter Try.func47, Try.ntmps47
  go_wp2
  go_ret
  exact ⟨rfl, rfl⟩
set_option maxHeartbeats 1000000 in
theorem compI_any (x y : Int) (w : World) : Calls Try.prog 35 #[.int .i64 x, .int .i64 y] w fun r w' => r = .returned (.int .i64 (cmpI x y)) ∧ w' = w := by
  have C1 := Lib.hid (nanI_any x)
  have C2 := Lib.hid (nanI_any y)
  unfold cmpI
  by_cases h1 : x < y
  all_goals
    try (by_cases h2 : y < x)
    all_goals
      simp only [h1, if_true, if_false]
      try simp only [h2, if_true, if_false]
      go_enter Try.func35, Try.ntmps35
      go_wp2_with fail
      refine (C1.out _).mono ?_
      rintro r w1 ⟨rfl, rfl⟩
      go_wp2_with fail
      refine (C2.out _).mono ?_
      rintro r w2 ⟨rfl, rfl⟩
      go_wp2
      go_ret
      exact ⟨rfl, rfl⟩
set_option maxHeartbeats 1000000 in
theorem compS_any (x y : ByteArray) (w : World) : Calls Try.prog 34 #[.string x, .string y] w fun r w' => r = .returned (.int .i64 (cmpS x y)) ∧ w' = w := by
  have C1 := Lib.hid (nanS_any x)
  have C2 := Lib.hid (nanS_any y)
  cases h1 : lt x y with
  | true =>
    have e : cmpS x y = -1 := by simp [cmpS, h1]
    rw [e]
    have h1' : Op.bytesLess x.toList y.toList = true := h1
    clear h1 e
    · go_enter Try.func34, Try.ntmps34
      go_wp2_with fail
      refine (C1.out _).mono ?_
      rintro r w1 ⟨rfl, rfl⟩
      go_wp2_with fail
      refine (C2.out _).mono ?_
      rintro r w2 ⟨rfl, rfl⟩
      go_wp2
      go_ret
      exact ⟨rfl, rfl⟩
  | false =>
    by_cases hxy : x = y
    · subst hxy
      have e : cmpS x x = 0 := by simp [cmpS, h1]
      rw [e]
      have h1' : Op.bytesLess x.toList x.toList = false := h1
      clear h1 e
      go_enter Try.func34, Try.ntmps34
      go_wp2_with fail
      refine (C1.out _).mono ?_
      rintro r w1 ⟨rfl, rfl⟩
      go_wp2_with fail
      refine (C2.out _).mono ?_
      rintro r w2 ⟨rfl, rfl⟩
      go_wp2
      go_ret
      exact ⟨rfl, rfl⟩
    · have h2 : lt y x = true := by
        cases h : lt y x with
        | true => rfl
        | false => exact absurd (lt_tri h1 h) hxy
      have e : cmpS x y = 1 := by simp [cmpS, h1, h2]
      rw [e]
      have h1' : Op.bytesLess x.toList y.toList = false := h1
      have h3 : (x.toList == y.toList) = false := toList_ne hxy
      clear h1 h2 e hxy
      go_enter Try.func34, Try.ntmps34
      go_wp2_with fail
      refine (C1.out _).mono ?_
      rintro r w1 ⟨rfl, rfl⟩
      go_wp2_with fail
      refine (C2.out _).mono ?_
      rintro r w2 ⟨rfl, rfl⟩
      go_wp2
      go_ret
      exact ⟨rfl, rfl⟩
/-- The first that isn't 0. -/
def orV (a b c : Int) : Int := if a ≠ 0 then a else if b ≠ 0 then b else c
set_option maxHeartbeats 2000000 in
theorem or_any (a b c : Int) (B : Nat) (w : World) (h0 : w.cell? ⟨B, 0, none⟩ = some (.int .i64 a)) (h1 : w.cell? ⟨B, 1, none⟩ = some (.int .i64 b)) (h2 : w.cell? ⟨B, 2, none⟩ = some (.int .i64 c)) :
    Calls Try.prog 33 #[.slice (some ⟨B, 0, none⟩) 3 3] w fun r w' => r = .returned (.int .i64 (orV a b c)) ∧ w' = w := by
  by_cases ha : a = 0
  · subst ha
    by_cases hb : b = 0
    · subst hb
      by_cases hc : c = 0
      · subst hc
        go_enter Try.func33, Try.ntmps33
        go_wp2
        refine wp_loop_rounds 4 ?_
        rw [rounds_succ]
        go_wp2
        rw [rounds_succ]
        go_wp2
        rw [rounds_succ]
        go_wp2
        rw [rounds_succ]
        go_wp2
        go_ret
        exact ⟨rfl, rfl⟩
      · go_enter Try.func33, Try.ntmps33
        go_wp2
        refine wp_loop_rounds 3 ?_
        rw [rounds_succ]
        go_wp2
        rw [rounds_succ]
        go_wp2
        rw [rounds_succ]
        go_wp2
        go_ret
        exact ⟨rfl, rfl⟩
    · have e : orV 0 b c = b := by simp [orV, hb]
      rw [e]
      go_enter Try.func33, Try.ntmps33
      go_wp2
      refine wp_loop_rounds 2 ?_
      rw [rounds_succ]
      go_wp2
      rw [rounds_succ]
      go_wp2
      go_ret
      exact ⟨rfl, rfl⟩
  · have e : orV a b c = a := by simp [orV, ha]
    rw [e]
    go_enter Try.func33, Try.ntmps33
    go_wp2
    refine wp_loop_rounds 1 ?_
    rw [rounds_succ]
    go_wp2
    go_ret
    exact ⟨rfl, rfl⟩
theorem ints3 (W : World) (a b c : Int) (T : TypeId) : (W.alloc (.cells #[.int .i64 a, .int .i64 b, .int .i64 c] T)).drew.cell? ⟨W.heap.size, 0, none⟩ = some (.int .i64 a) ∧ (W.alloc (.cells #[.int .i64 a, .int .i64 b, .int .i64 c] T)).drew.cell? ⟨W.heap.size, 1, none⟩ = some (.int .i64 b) ∧ (W.alloc (.cells #[.int .i64 a, .int .i64 b, .int .i64 c] T)).drew.cell? ⟨W.heap.size, 2, none⟩ = some (.int .i64 c) := by
  have h : (W.alloc (.cells #[.int .i64 a, .int .i64 b, .int .i64 c] T)).drew.heap[W.heap.size]? = some (.cells #[.int .i64 a, .int .i64 b, .int .i64 c] T (0, 0)) := heap_new _ _
  generalize (W.alloc (.cells #[.int .i64 a, .int .i64 b, .int .i64 c] T)).drew = V at h ⊢
  refine ⟨?_, ?_, ?_⟩ <;> simp [World.cell?, h]
set_option maxHeartbeats 4000000 in
theorem order_any (a b : Mk) (W : World) : Calls Try.prog 30 #[.agg #[.string a.k, .int .i64 a.s, .int .i64 a.r], .agg #[.string b.k, .int .i64 b.s, .int .i64 b.r]] W fun r w' => r = .returned (.int .i64 (cmpM a b)) ∧ ∃ q os, w' = grow (W.drewN q) os := by
  have C1 := Lib.hid (compS_any a.k b.k)
  have C2 := Lib.hid (compI_any a.s b.s)
  have C3 := Lib.hid (compI_any a.r b.r)
  have HE : Hid (cmpM a b = orV (cmpS a.k b.k) (cmpI a.s b.s) (cmpI a.r b.r)) := rfl
  rw [HE.out]
  clear HE
  generalize cmpS a.k b.k = x1 at C1 ⊢
  generalize cmpI a.s b.s = x2 at C2 ⊢
  generalize cmpI a.r b.r = x3 at C3 ⊢
  go_enter Try.func30, Try.ntmps30
  go_wp2_with fail
  obtain ⟨W1, hW1⟩ : ∃ W1, (W.alloc (.cells #[.string a.k, .int .i64 a.s, .int .i64 a.r] 48)).alloc (.cells #[.string b.k, .int .i64 b.s, .int .i64 b.r] 48) = W1 := ⟨_, rfl⟩
  obtain ⟨q, hq⟩ : ∃ q, q = W.heap.size := ⟨_, rfl⟩
  have x0 : W1.heap[q]? = some (.cells #[.string a.k, .int .i64 a.s, .int .i64 a.r] 48 (0, 0)) := by
    rw [← hW1, heap_old _ _ (by simp; omega), hq]
    exact heap_new _ _
  have y0 : W1.heap[q + 1]? = some (.cells #[.string b.k, .int .i64 b.s, .int .i64 b.r] 48 (0, 0)) := by
    rw [← hW1]
    have := heap_new (W.alloc (.cells #[.string a.k, .int .i64 a.s, .int .i64 a.r] 48)) (.cells #[.string b.k, .int .i64 b.s, .int .i64 b.r] 48)
    rw [World.size_alloc, ← hq] at this
    exact this
  rw [hW1, ← hq]
  have HW : Hid (∀ o, (W1.alloc o).drew = grow (W.drewN 1) #[(.cells #[.string a.k, .int .i64 a.s, .int .i64 a.r] 48), (.cells #[.string b.k, .int .i64 b.s, .int .i64 b.r] 48), o]) := fun o => by
    rw [← hW1, Go.Sort.alloc_eq_grow, Go.Sort.alloc_eq_grow, Go.Sort.alloc_eq_grow, Go.Sort.grow_grow, Go.Sort.grow_grow]
    rfl
  obtain ⟨d0, d1, d2⟩ := mk_cells x0
  obtain ⟨e0, e1, e2⟩ := mk_cells y0
  clear x0 y0 hW1 hq
  go_region_held3 (fun w' => w'.cell? ⟨q, 0, none⟩ = some (.string a.k) ∧ w'.cell? ⟨q, 1, none⟩ = some (.int .i64 a.s) ∧ w'.cell? ⟨q, 2, none⟩ = some (.int .i64 a.r) ∧ w'.cell? ⟨q + 1, 0, none⟩ = some (.string b.k) ∧ w'.cell? ⟨q + 1, 1, none⟩ = some (.int .i64 b.s) ∧ w'.cell? ⟨q + 1, 2, none⟩ = some (.int .i64 b.r)) (first | go_keep | exact ⟨d0, d1, d2, e0, e1, e2⟩)
    (first
      | (go_at_call 34; (with_reducible refine (C1.out _).mono ?_); rintro r wa ⟨rfl, rfl⟩)
      | (go_at_call 35; (with_reducible refine (C2.out _).mono ?_); rintro r wa ⟨rfl, rfl⟩)
      | (go_at_call 35; (with_reducible refine (C3.out _).mono ?_); rintro r wa ⟨rfl, rfl⟩)
      | (go_at_call 33; (refine (or_any x1 x2 x3 _ _ (ints3 _ _ _ _ _).1 (ints3 _ _ _ _ _).2.1 (ints3 _ _ _ _ _).2.2).mono ?_); rintro r wa ⟨rfl, rfl⟩))
  go_wp2
  go_ret
  exact ⟨rfl, 1, _, HW.out _⟩
end Go.Proofs.Ytkonkldcallimaa
