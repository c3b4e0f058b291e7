/-
  The contracts of sum.Hash, of the digits of a number below sixteen, of cmp.Compare, cmp.Or and the order of points, of slices.Index, Contains and Clone at texts. Their conditions: what is handed in lies in memory.
-/
import Derived.Test.YtnbgmobcfbgenaaGreatDoorRw
import Derived.Lib.SlBytesConst
import Derived.Laws.LoneSync
namespace Go.Proofs.YtnbgmobcfbgenaaGreatDoor
open Go.RowKit Go.Maps
open Go.Sort (grow)

theorem wrap_u64_nat (n : Nat) : IntKind.u64.wrap (n : Int) = ((n % 18446744073709551616 : Nat) : Int) := by
  simp [IntKind.wrap, IntKind.bits, IntKind.signed]
theorem hstep_go (H c : Nat) (hH : H < 18446744073709551616) (hc : c < 256) :
    IntKind.u64.wrap (bits .xor .u64 (H : Int) (c : Int) * 1099511628211) = ((hstep H c : Nat) : Int) := by
  rw [u64_xor_nat H c hH (by omega)]
  exact wrap_u64_nat ((H ^^^ c) * 1099511628211)
theorem div_go (H : Nat) : (H : Int) / 4294967296 = ((H / 4294967296 : Nat) : Int) := by omega
theorem tdiv_go (H : Nat) (hH : H < 18446744073709551616) : IntKind.u64.wrap ((H : Int).tdiv 4294967296) = (H : Int) / 4294967296 := by
  rw [Int.tdiv_eq_ediv_of_nonneg (by omega), div_go, wrap_u64_nat, Nat.mod_eq_of_lt (by omega)]
theorem hspread_go (H : Nat) (hH : H < 18446744073709551616) :
    IntKind.u64.wrap (bits .xor .u64 (H : Int) ((H : Int) / 4294967296) * 15459136393263645077) = ((hspread H : Nat) : Int) := by
  rw [div_go, u64_xor_nat H (H / 4294967296) hH (by omega)]
  exact wrap_u64_nat ((H ^^^ H / 4294967296) * 15459136393263645077)
theorem hend_go (H : Nat) (hH : H < 18446744073709551616) :
    bits .xor .u64 (H : Int) ((H : Int) / 4294967296) = ((hend H : Nat) : Int) := by
  rw [div_go, u64_xor_nat H (H / 4294967296) hH (by omega)]
  rfl
theorem conv_u64 (c : Nat) (h : c < 256) : IntKind.u64.wrap (c : Int) = (c : Int) := by
  rw [wrap_u64_nat, Nat.mod_eq_of_lt (by omega)]
theorem snoc_hash (s : ByteArray) (k : Nat) (h : k < s.size) (f : Nat → Nat → Nat) (h0 : Nat) :
    ((s.data.toList.map UInt8.toNat).take (k + 1)).foldl f h0 = f (((s.data.toList.map UInt8.toNat).take k).foldl f h0) s[k].toNat := by
  rw [List.take_succ_eq_append_getElem (by simpa using h), List.foldl_append, List.foldl_cons, List.foldl_nil, List.getElem_map]
  rfl
set_option maxHeartbeats 400000 in
theorem hash_any (s : ByteArray) (w : World) (hs : s.size ≤ maxLen) :
    Calls Tryz.prog 22 #[.string s] w fun e w' => e = .returned (.int .u64 (hsh s : Int)) ∧ w = w' := by
  have hsM : (s.size : Int) ≤ 9223372036854775807 := by unfold maxLen at hs; omega
  clear hs
  unfold hsh YtnbgmobcfbgenaaGreatDoor.hash
  go_enter Tryz.func22, Tryz.ntmps22
  go_wp2
  go_loop [3, 4] (fun h i => ∃ k : Nat, k ≤ s.size ∧ i = .int .i64 k ∧ h = .int .u64 ((((s.data.toList.map UInt8.toNat).take k).foldl hstep hstart : Nat) : Int)) (fun _ i => s.size - (intOf i).toNat)
  case atStart => exact ⟨0, Nat.zero_le _, rfl, rfl⟩
  case round =>
    obtain ⟨k, hk, rfl, rfl⟩ := hrel
    have hH := hfold_lt ((s.data.toList.map UInt8.toNat).take k) _ hstart_lt
    by_cases hlt : k < s.size
    · have hc : s[k].toNat < 256 := UInt8.toNat_lt _
      have HS := Lib.hid (snoc_hash s k hlt hstep hstart)
      have HC := Lib.hid (conv_u64 _ hc)
      have HG := Lib.hid (hstep_go _ _ hH hc)
      have hlti : (k : Int) < (s.size : Int) := by omega
      clear hc hH
      go_wp2
      go_round
      case rel => exact ⟨k + 1, by omega, by go_num, by rw [HS.out, ← HG.out, HC.out]⟩
      case measure => simp [intOf]; omega
    · go_wp2
      go_ret
      rw [hspread_go _ hH, hend_go _ (hspread_lt _), List.take_of_length_le (by simp; omega)]
      exact ⟨rfl, rfl⟩

/-! ### Digits -/
set_option maxRecDepth 100000 in
set_option maxHeartbeats 4000000 in
theorem small_one (i : Int) (x : ByteArray) (h : (i = 0 ∧ x = dig 0) ∨ (i = 1 ∧ x = dig 1) ∨ (i = 2 ∧ x = dig 2) ∨ (i = 3 ∧ x = dig 3) ∨ (i = 4 ∧ x = dig 4) ∨ (i = 5 ∧ x = dig 5) ∨ (i = 6 ∧ x = dig 6) ∨ (i = 7 ∧ x = dig 7) ∨ (i = 8 ∧ x = dig 8) ∨ (i = 9 ∧ x = dig 9) ∨ (i = 10 ∧ x = dig 10) ∨ (i = 11 ∧ x = dig 11) ∨ (i = 12 ∧ x = dig 12) ∨ (i = 13 ∧ x = dig 13) ∨ (i = 14 ∧ x = dig 14) ∨ (i = 15 ∧ x = dig 15)) (w : World) : Calls Tryz.prog 88 #[.int .i64 i] w fun e w' => e = .returned (.string x) ∧ w = w' := by
  rcases h with ⟨rfl, rfl⟩ | ⟨rfl, rfl⟩ | ⟨rfl, rfl⟩ | ⟨rfl, rfl⟩ | ⟨rfl, rfl⟩ | ⟨rfl, rfl⟩ | ⟨rfl, rfl⟩ | ⟨rfl, rfl⟩ | ⟨rfl, rfl⟩ | ⟨rfl, rfl⟩ | ⟨rfl, rfl⟩ | ⟨rfl, rfl⟩ | ⟨rfl, rfl⟩ | ⟨rfl, rfl⟩ | ⟨rfl, rfl⟩ | ⟨rfl, rfl⟩
  all_goals
    go_enter Tryz.func88, Tryz.ntmps88
    go_wp2
    go_ret
    exact ⟨rfl, rfl⟩
theorem small_any (j : Nat) (hj : j < 16) (w : World) : Calls Tryz.prog 88 #[.int .i64 (j : Int)] w fun e w' => e = .returned (.string (dig j)) ∧ w = w' := by
  refine small_one (j : Int) (dig j) ?_ w
  have h : j = 0 ∨ j = 1 ∨ j = 2 ∨ j = 3 ∨ j = 4 ∨ j = 5 ∨ j = 6 ∨ j = 7 ∨ j = 8 ∨ j = 9 ∨ j = 10 ∨ j = 11 ∨ j = 12 ∨ j = 13 ∨ j = 14 ∨ j = 15 := by omega
  rcases h with rfl | rfl | rfl | rfl | rfl | rfl | rfl | rfl | rfl | rfl | rfl | rfl | rfl | rfl | rfl | rfl <;> simp
theorem format_any (j : Nat) (hj : j < 16) (w : World) : Calls Tryz.prog 71 #[.int .i64 (j : Int), .int .i64 10] w fun e w' => e = .returned (.string (dig j)) ∧ w = w' := by
  have C := Lib.hid (small_any j hj w)
  have h0 : (0 : Int) ≤ (j : Int) := by omega
  have h1 : (j : Int) < 100 := by omega
  clear hj
  go_enter Tryz.func71, Tryz.ntmps71
  go_wp2_with fail
  refine C.out.mono ?_
  rintro r w1 ⟨rfl, rfl⟩
  go_wp2
  go_ret
  exact ⟨rfl, rfl⟩
theorem iitoa_any (j : Nat) (hj : j < 16) (w : World) : Calls Tryz.prog 62 #[.int .i64 (j : Int)] w fun e w' => e = .returned (.string (dig j)) ∧ w = w' := by
  have C := Lib.hid (format_any j hj w)
  clear hj
  go_enter Tryz.func62, Tryz.ntmps62
  go_wp2_with fail
  refine C.out.mono ?_
  rintro r w1 ⟨rfl, rfl⟩
  go_wp2
  go_ret
  exact ⟨rfl, rfl⟩
theorem itoa_any (j : Nat) (hj : j < 16) (w : World) : Calls Tryz.prog 48 #[.int .i64 (j : Int)] w fun e w' => e = .returned (.string (dig j)) ∧ w = w' := by
  have C := Lib.hid (iitoa_any j hj w)
  clear hj
  go_enter Tryz.func48, Tryz.ntmps48
  go_wp2_with fail
  refine C.out.mono ?_
  rintro r w1 ⟨rfl, rfl⟩
  go_wp2
  go_ret
  exact ⟨rfl, rfl⟩

/-! ### Comparing -/
/-- How two texts compare. -/
def cmpS (x y : ByteArray) : Int := if lt x y then -1 else if lt y x then 1 else 0
/-- How two numbers compare. -/
def cmpU (x y : Nat) : Int := if x < y then -1 else if y < x then 1 else 0
/-- How two points compare. -/
def cmpP (a b : Pt) : Int := if cmpU a.h b.h ≠ 0 then cmpU a.h b.h else cmpS a.n b.n
theorem nanS_any (x : ByteArray) (w : World) : Calls Tryz.prog 57 #[.string x] w fun r w' => r = .returned (.bool false) ∧ w' = w := by
  go_enter Tryz.func57, Tryz.ntmps57
  go_wp2
  go_ret
  exact ⟨rfl, rfl⟩
theorem nanU_any (x : Int) (w : World) : Calls Tryz.prog 51 #[.int .u64 x] w fun r w' => r = .returned (.bool false) ∧ w' = w := by
  go_enter Tryz.func51, Tryz.ntmps51
  go_wp2
  go_ret
  exact ⟨rfl, rfl⟩
set_option maxHeartbeats 1000000 in
theorem compU_any (x y : Nat) (w : World) : Calls Tryz.prog 33 #[.int .u64 (x : Int), .int .u64 (y : Int)] w fun r w' => r = .returned (.int .i64 (cmpU x y)) ∧ w' = w := by
  have C1 := Lib.hid (nanU_any (x : Int))
  have C2 := Lib.hid (nanU_any (y : Int))
  unfold cmpU
  by_cases h1 : x < y
  all_goals
    try (by_cases h2 : y < x)
    all_goals
      simp only [h1, if_true, if_false]
      try simp only [h2, if_true, if_false]
      go_enter Tryz.func33, Tryz.ntmps33
      go_wp2_with fail
      refine (C1.out _).mono ?_
      rintro r w1 ⟨rfl, rfl⟩
      go_wp2_with fail
      refine (C2.out _).mono ?_
      rintro r w2 ⟨rfl, rfl⟩
      go_wp2
      go_ret
      exact ⟨rfl, rfl⟩
set_option maxHeartbeats 1000000 in
theorem compS_any (x y : ByteArray) (w : World) : Calls Tryz.prog 65 #[.string x, .string y] w fun r w' => r = .returned (.int .i64 (cmpS x y)) ∧ w' = w := by
  have C1 := Lib.hid (nanS_any x)
  have C2 := Lib.hid (nanS_any y)
  cases h1 : lt x y with
  | true =>
    have e : cmpS x y = -1 := by simp [cmpS, h1]
    rw [e]
    have h1' : Op.bytesLess x.toList y.toList = true := h1
    clear h1 e
    · go_enter Tryz.func65, Tryz.ntmps65
      go_wp2_with fail
      refine (C1.out _).mono ?_
      rintro r w1 ⟨rfl, rfl⟩
      go_wp2_with fail
      refine (C2.out _).mono ?_
      rintro r w2 ⟨rfl, rfl⟩
      go_wp2
      go_ret
      exact ⟨rfl, rfl⟩
  | false =>
    by_cases hxy : x = y
    · subst hxy
      have e : cmpS x x = 0 := by simp [cmpS, h1]
      rw [e]
      have h1' : Op.bytesLess x.toList x.toList = false := h1
      clear h1 e
      go_enter Tryz.func65, Tryz.ntmps65
      go_wp2_with fail
      refine (C1.out _).mono ?_
      rintro r w1 ⟨rfl, rfl⟩
      go_wp2_with fail
      refine (C2.out _).mono ?_
      rintro r w2 ⟨rfl, rfl⟩
      go_wp2
      go_ret
      exact ⟨rfl, rfl⟩
    · have h2 : lt y x = true := by
        cases h : lt y x with
        | true => rfl
        | false => exact absurd (lt_tri h1 h) hxy
      have e : cmpS x y = 1 := by simp [cmpS, h1, h2]
      rw [e]
      have h1' : Op.bytesLess x.toList y.toList = false := h1
      have h3 : (x.toList == y.toList) = false := toList_ne hxy
      clear h1 h2 e hxy
      go_enter Tryz.func65, Tryz.ntmps65
      go_wp2_with fail
      refine (C1.out _).mono ?_
      rintro r w1 ⟨rfl, rfl⟩
      go_wp2_with fail
      refine (C2.out _).mono ?_
      rintro r w2 ⟨rfl, rfl⟩
      go_wp2
      go_ret
      exact ⟨rfl, rfl⟩
/-- The first that isn't 0. -/
def orV (a b : Int) : Int := if a ≠ 0 then a else b
set_option maxHeartbeats 2000000 in
theorem or_any (a b : Int) (B : Nat) (w : World) (h0 : w.cell? ⟨B, 0, none⟩ = some (.int .i64 a)) (h1 : w.cell? ⟨B, 1, none⟩ = some (.int .i64 b)) :
    Calls Tryz.prog 64 #[.slice (some ⟨B, 0, none⟩) 2 2] w fun r w' => r = .returned (.int .i64 (orV a b)) ∧ w' = w := by
  by_cases ha : a = 0
  · subst ha
    by_cases hb : b = 0
    · subst hb
      go_enter Tryz.func64, Tryz.ntmps64
      go_wp2
      refine wp_loop_rounds 3 ?_
      rw [rounds_succ]
      go_wp2
      rw [rounds_succ]
      go_wp2
      rw [rounds_succ]
      go_wp2
      go_ret
      exact ⟨rfl, rfl⟩
    · have e : orV 0 b = b := by simp [orV]
      rw [e]
      go_enter Tryz.func64, Tryz.ntmps64
      go_wp2
      refine wp_loop_rounds 2 ?_
      rw [rounds_succ]
      go_wp2
      rw [rounds_succ]
      go_wp2
      go_ret
      exact ⟨rfl, rfl⟩
  · have e : orV a b = a := by simp [orV, ha]
    rw [e]
    go_enter Tryz.func64, Tryz.ntmps64
    go_wp2
    refine wp_loop_rounds 1 ?_
    rw [rounds_succ]
    go_wp2
    go_ret
    exact ⟨rfl, rfl⟩
theorem ints2 (W : World) (a b : Int) (T : TypeId) : (W.alloc (.cells #[.int .i64 a, .int .i64 b] T)).drew.cell? ⟨W.heap.size, 0, none⟩ = some (.int .i64 a) ∧ (W.alloc (.cells #[.int .i64 a, .int .i64 b] T)).drew.cell? ⟨W.heap.size, 1, none⟩ = some (.int .i64 b) := by
  have h : (W.alloc (.cells #[.int .i64 a, .int .i64 b] T)).drew.heap[W.heap.size]? = some (.cells #[.int .i64 a, .int .i64 b] T (0, 0)) := heap_new _ _
  generalize (W.alloc (.cells #[.int .i64 a, .int .i64 b] T)).drew = V at h ⊢
  refine ⟨?_, ?_⟩ <;> simp [World.cell?, h]
theorem pt_cells {w : World} {b : Nat} {x y : Value} {t : TypeId} (h : w.heap[b]? = some (.cells #[x, y] t (0, 0))) : w.cell? ⟨b, 0, none⟩ = some x ∧ w.cell? ⟨b, 1, none⟩ = some y := by
  refine ⟨?_, ?_⟩ <;> simp [World.cell?, h]
set_option maxHeartbeats 4000000 in
theorem order_any (a b : Pt) (W : World) : Calls Tryz.prog 50 #[.agg #[.int .u64 (a.h : Int), .string a.n], .agg #[.int .u64 (b.h : Int), .string b.n]] W fun r w' => r = .returned (.int .i64 (cmpP a b)) ∧ ∃ q os, w' = grow (W.drewN q) os := by
  have C1 := Lib.hid (compU_any a.h b.h)
  have C2 := Lib.hid (compS_any a.n b.n)
  have HE : Hid (cmpP a b = orV (cmpU a.h b.h) (cmpS a.n b.n)) := rfl
  rw [HE.out]
  clear HE
  generalize cmpU a.h b.h = x1 at C1 ⊢
  generalize cmpS a.n b.n = x2 at C2 ⊢
  go_enter Tryz.func50, Tryz.ntmps50
  go_wp2_with fail
  obtain ⟨W1, hW1⟩ : ∃ W1, (W.alloc (.cells #[.int .u64 (a.h : Int), .string a.n] 59)).alloc (.cells #[.int .u64 (b.h : Int), .string b.n] 59) = W1 := ⟨_, rfl⟩
  obtain ⟨q, hq⟩ : ∃ q, q = W.heap.size := ⟨_, rfl⟩
  have x0 : W1.heap[q]? = some (.cells #[.int .u64 (a.h : Int), .string a.n] 59 (0, 0)) := by
    rw [← hW1, heap_old _ _ (by simp; omega), hq]
    exact heap_new _ _
  have y0 : W1.heap[q + 1]? = some (.cells #[.int .u64 (b.h : Int), .string b.n] 59 (0, 0)) := by
    rw [← hW1]
    have := heap_new (W.alloc (.cells #[.int .u64 (a.h : Int), .string a.n] 59)) (.cells #[.int .u64 (b.h : Int), .string b.n] 59)
    rw [World.size_alloc, ← hq] at this
    exact this
  rw [hW1, ← hq]
  have HW : Hid (∀ o, (W1.alloc o).drew = grow (W.drewN 1) #[(.cells #[.int .u64 (a.h : Int), .string a.n] 59), (.cells #[.int .u64 (b.h : Int), .string b.n] 59), o]) := fun o => by
    rw [← hW1, Go.Sort.alloc_eq_grow, Go.Sort.alloc_eq_grow, Go.Sort.alloc_eq_grow, Go.Sort.grow_grow, Go.Sort.grow_grow]
    rfl
  obtain ⟨d0, d1⟩ := pt_cells x0
  obtain ⟨e0, e1⟩ := pt_cells y0
  clear x0 y0 hW1 hq
  go_region_held3 (fun w' => w'.cell? ⟨q, 0, none⟩ = some (.int .u64 (a.h : Int)) ∧ w'.cell? ⟨q, 1, none⟩ = some (.string a.n) ∧ w'.cell? ⟨q + 1, 0, none⟩ = some (.int .u64 (b.h : Int)) ∧ w'.cell? ⟨q + 1, 1, none⟩ = some (.string b.n)) (first | go_keep | exact ⟨d0, d1, e0, e1⟩)
    (first
      | (go_at_call 33; (with_reducible refine (C1.out _).mono ?_); rintro r wa ⟨rfl, rfl⟩)
      | (go_at_call 65; (with_reducible refine (C2.out _).mono ?_); rintro r wa ⟨rfl, rfl⟩)
      | (go_at_call 64; (refine (or_any x1 x2 _ _ (ints2 _ _ _ _).1 (ints2 _ _ _ _).2).mono ?_); rintro r wa ⟨rfl, rfl⟩))
  go_wp2
  go_ret
  exact ⟨rfl, 1, _, HW.out _⟩

/-! ### Slices of texts -/
theorem toList_eq {a b : ByteArray} (h : a = b) : (a.toList == b.toList) = true := by subst h; exact beq_self_eq_true _
set_option maxHeartbeats 1000000 in
theorem index_any (l : List ByteArray) (A : Option Addr) (n c : Nat) (x : ByteArray) (w : World) (hs : Sl eKy w A l) (hn : l.length = n) :
    Calls Tryz.prog 26 #[.slice A n c, .string x] w fun r w' => (∃ i : Int, r = .returned (.int .i64 i) ∧ (0 ≤ i ↔ x ∈ l)) ∧ w = w' := by
  have hnM : (n : Int) ≤ 9223372036854775807 := by have := hs.1; unfold maxLen at this; omega
  have H := Lib.hid hs
  have HN := Lib.hid hn
  clear hs hn
  go_enter Tryz.func26, Tryz.ntmps26
  go_wp2
  go_loop [8] (fun s8 => ∃ k : Nat, k ≤ n ∧ s8 = .int .i64 (k : Int) ∧ x ∉ l.take k) (fun i => n - (intOf i).toNat)
  case atStart => exact ⟨0, Nat.zero_le _, rfl, by simp⟩
  case round =>
    obtain ⟨k, hk, rfl, hx⟩ := hrel
    have HX := Lib.hid hx
    clear hx
    by_cases hlt : k < n
    · have hkl : k < l.length := by rw [HN.out]; exact hlt
      obtain ⟨b, off, rfl, _, c0⟩ := at_ky H.out hkl
      have hlti : (k : Int) < (n : Int) := by omega
      have hk0 : (0 : Int) ≤ (k : Int) := by omega
      have HT : Hid (l.take (k + 1) = l.take k ++ [l[k]]) := List.take_succ_eq_append_getElem hkl
      have HM : Hid (l[k] ∈ l) := List.getElem_mem hkl
      generalize l[k] = y at c0 HT HM
      clear hkl
      by_cases e : x = y
      · have he := toList_eq e
        have HE := Lib.hid e
        clear e
        go_wp2
        go_ret
        refine ⟨⟨_, rfl, ?_⟩, rfl⟩
        exact ⟨fun _ => by rw [HE.out]; exact HM.out, fun _ => by omega⟩
      · have he := toList_ne e
        have HE := Lib.hid e
        clear e
        go_wp2
        go_round
        case rel =>
          refine ⟨k + 1, by omega, by go_num, ?_⟩
          rw [HT.out, List.mem_append, List.mem_singleton]
          rintro (h | h)
          · exact HX.out h
          · exact HE.out h
        case measure => simp [intOf]; omega
    · have hlti : ¬ (k : Int) < (n : Int) := by omega
      have HK : Hid (k = n) := by show _ = _; omega
      clear hk hlt
      go_wp2
      go_ret
      refine ⟨⟨_, rfl, ?_⟩, rfl⟩
      have := HX.out
      rw [HK.out, List.take_of_length_le (by rw [HN.out]; exact Nat.le_refl _)] at this
      exact ⟨fun h => by omega, fun h => absurd h this⟩
theorem contains_any (l : List ByteArray) (A : Option Addr) (n c : Nat) (x : ByteArray) (w : World) (hs : Sl eKy w A l) (hn : l.length = n) :
    Calls Tryz.prog 16 #[.slice A n c, .string x] w fun r w' => r = .returned (.bool (decide (x ∈ l))) ∧ w = w' := by
  have C := Lib.hid (index_any l A n c x w hs hn)
  clear hs hn
  by_cases hx : x ∈ l
  · rw [decide_eq_true hx]
    have HX := Lib.hid hx
    clear hx
    go_enter Tryz.func16, Tryz.ntmps16
    go_wp2_with fail
    refine C.out.mono ?_
    rintro r w1 ⟨⟨i, rfl, hi⟩, rfl⟩
    have h1 : i ≥ 0 := hi.mpr HX.out
    clear hi C
    go_wp2
    go_ret
    exact ⟨rfl, rfl⟩
  · rw [decide_eq_false hx]
    have HX := Lib.hid hx
    clear hx
    go_enter Tryz.func16, Tryz.ntmps16
    go_wp2_with fail
    refine C.out.mono ?_
    rintro r w1 ⟨⟨i, rfl, hi⟩, rfl⟩
    have h1 : decide (i ≥ 0) = false := decide_eq_false fun h => HX.out (hi.mp h)
    have h2 : decide (0 ≤ i) = false := h1
    have h3 : ¬ i ≥ 0 := fun h => HX.out (hi.mp h)
    clear hi C
    go_wp2
    go_ret
    exact ⟨rfl, rfl⟩
end Go.Proofs.YtnbgmobcfbgenaaGreatDoor
