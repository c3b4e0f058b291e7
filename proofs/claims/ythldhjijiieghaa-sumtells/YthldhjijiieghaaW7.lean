/-
  The walk of SumTells. Its conditions: none.
-/
import Derived.Test.YthldhjijiieghaaW6
namespace Go.Proofs.Ythldhjijiieghaa
open Go.RowKit Go.Sort

theorem info5p : ∃ i, Try.prog.info? 5 = some i ∧ i.zero = some (.int .u8 0) ∧ i.size = 1 ∧ i.bytes = 1 := info_parts info5

theorem heap_new (w : World) (o : Obj) : (w.alloc o).heap[w.heap.size]? = some o := by
  show (w.heap.push o)[w.heap.size]? = _
  simp
def vals (l : List Nat) : List Value := l.map fun (c : Nat) => Value.int .u8 (c : Int)
theorem owns_empty (w : World) : (w.alloc (.cells #[] 5)).ownsRow w.heap.size 5 1 (.slice (some ⟨w.heap.size, 0, none⟩) 0 0) 0 [] :=
  ⟨rfl, .inr ⟨w.heap.size, 0, #[], rfl, Nat.le_refl _, heap_new _ _, Nat.le_refl _, Nat.zero_le _, rfl, rfl⟩⟩
theorem news_of_bytes {w w' : World} {b off : Nat} {l : List Nat} (h : Bytes w (some ⟨b, off, none⟩) l) (hw : ∀ o, b < w.heap.size → w'.cell? ⟨b, o, none⟩ = w.cell? ⟨b, o, none⟩) :
    ∀ (j : Nat) (u : Value), (vals l)[j]? = some u → w'.cell? ((⟨b, off, none⟩ : Addr).add j) = some u := by
  intro j u hj
  unfold vals at hj
  rw [List.getElem?_map] at hj
  obtain ⟨c, hc, rfl⟩ := Option.map_eq_some_iff.mp hj
  have hl : j < l.length := (List.getElem?_eq_some_iff.mp hc).1
  obtain ⟨b', off', hA, hlt, hcell⟩ := h.2.2 (by omega)
  injection hA with hA
  injection hA with hb ho
  subst hb ho
  rw [show (⟨b, off, none⟩ : Addr).add j = ⟨b, off + j, none⟩ by unfold Addr.add; split <;> simp_all, hw _ hlt]
  exact hcell j c hc
theorem row_start {w : World} {l ys : List Nat} {k v n g cap : Nat} {cur : Array Value} (hb : w.heap[g]? = some (.cells cur 5 (0, 0))) (hn : n = l.length) (hc : cur.size = cap * 1)
    (ht : cur.toList.take (n * 1) = vals l) (_hv : v = 0) : w.rowIs g 5 cap (rowFn l.length (mixAt l ys k 0) cur) := by
  refine ⟨cur, hb, by omega, fun i hi => ?_⟩
  unfold rowFn
  by_cases h : i < l.length
  · rw [if_pos h]
    have h2 : (cur.toList.take (n * 1))[i]? = some (.int .u8 (l[i] : Int)) := by rw [ht, vals, List.getElem?_map, List.getElem?_eq_getElem h]; rfl
    rw [List.getElem?_take, if_pos (by omega), Array.getElem?_toList] at h2
    rw [h2]
    unfold mixAt
    rw [if_neg (by omega), Nat.xor_zero, List.getD_eq_getElem?_getD, List.getElem?_eq_getElem h]
    rfl
  · rw [if_neg h]
    have : i < cur.size := by omega
    simp [this]
theorem rowFn_step {l ys : List Nat} {k j n : Nat} {cur : Array Value} (x : Nat) (hx : mixAt l ys k j (k + j) ^^^ ys.getD j 0 = x) (hn : k + j < n) (i : Nat) :
    (if i = k + j then Value.int .u8 (x : Int) else rowFn n (mixAt l ys k j) cur i) = rowFn n (mixAt l ys k (j + 1)) cur i := by
  unfold rowFn
  rw [mixAt_step]
  by_cases h : i = k + j
  · subst h
    rw [if_pos rfl, if_pos hn, if_pos rfl, hx]
  · rw [if_neg h, if_neg h]
theorem bytes_of_rowFn {w : World} {g n : Nat} {l ys : List Nat} {k j : Nat} {cur : Array Value} (hn : l.length ≤ n) (hm : l.length ≤ maxLen) (h1 : ∀ c ∈ l, c < 256) (h2 : ∀ c ∈ ys, c < 256)
    (h : w.rowIs g 5 n (rowFn l.length (mixAt l ys k j) cur)) : Bytes w (some ⟨g, 0, none⟩) (mix l ys k j) := by
  refine ⟨mix_lt l ys k j h1 h2, by rw [mix_length]; exact hm, fun _ => ⟨g, 0, rfl, h.lt, fun i c hi => ?_⟩⟩
  obtain ⟨hlt, hi'⟩ := List.getElem?_eq_some_iff.mp hi
  rw [mix_length] at hlt
  rw [Nat.zero_add, h.cell (by omega)]
  unfold rowFn
  rw [if_pos hlt]
  have : c = mixAt l ys k j i := by
    rw [← hi']
    simp [mix]
  rw [this]

theorem box_cell (w : World) (y0 y1 y2 y3 j : Nat) (hj : j < 4) :
    (w.alloc (.cells #[Value.int .u8 (y0 : Int), Value.int .u8 (y1 : Int), Value.int .u8 (y2 : Int), Value.int .u8 (y3 : Int)] 31)).cell? ⟨w.heap.size, j, none⟩ = some (.int .u8 (([y0, y1, y2, y3].getD j 0 : Nat) : Int)) := by
  rw [World.cell?_alloc_at _ _ _ _ rfl]
  match j, hj with
  | 0, _ | 1, _ | 2, _ | 3, _ => rfl
  | j + 4, h => omega
theorem bne_cast (y : Nat) : ((y : Int) != 0) = (y != 0) := by
  rw [Bool.eq_iff_iff]
  simp
theorem wrap_small (k j q : Nat) (hq : k + j = q) (h : q ≤ 100000) : IntKind.i64.wrap ((k : Int) + (j : Int)) = (q : Int) := by
  have e : ((k : Int) + (j : Int)) = (q : Int) := by omega
  rw [e, IntKind.wrap_i64]
  omega

set_option maxHeartbeats 1000000 in
theorem tells_in (l : List Nat) (b off cap k : Nat) (y0 y1 y2 y3 : Nat) (w : World) (h : Bytes w (some ⟨b, off, none⟩) l) (hk : k < l.length) (hs : l.length ≤ 100000)
    (hy : ∀ c ∈ [y0, y1, y2, y3], c < 256) :
    Calls Try.prog 5 #[.slice (some ⟨b, off, none⟩) l.length cap, .int .i64 k, .agg #[.int .u8 y0, .int .u8 y1, .int .u8 y2, .int .u8 y3]] w fun e w' => e = .returned (.bool true) ∧ Below w.heap.size w w' := by
  obtain ⟨i, hi, hz0, hz1, hz2⟩ := info5p
  have HI := Lib.hid hi
  have HZ0 := Lib.hid hz0
  have HZ1 := Lib.hid hz1
  have HZ2 := Lib.hid hz2
  have H := Lib.hid h
  have HY := Lib.hid hy
  clear h hy hi hz0 hz1 hz2
  go_enter Try.func5, Try.ntmps5
  go_wp2_with (first
    | (go_at_call 8; refine (awake_any _).mono ?_; rintro e w1 ⟨rfl, hb⟩; have HB := Lib.hid hb; clear hb)
    | (at_builtin; refine wpList_append_own _ rfl _ _ 22 rfl w1.heap.size 5 i (.int .u8 0) 1 1 Try.underlying22 HI.out HZ0.out HZ1.out HZ2.out rfl (by omega) _ 0 [] rfl ?own ⟨b, off, none⟩ l.length cap (vals l) ?hx ?hl ?hnews ?h1 ?h63 ?hby ?hbase ?_))
  case own => exact owns_empty w1
  case hx => rfl
  case hl => simp [vals]
  case hnews =>
    refine news_of_bytes H.out (fun o hlt => ?_)
    have z1 : b < w1.heap.size := by have := HB.out.size; simp at this; omega
    rw [World.cell?_alloc_past _ _ _ z1, HB.out.cell (p := ⟨b, o, none⟩) (by simp; omega), World.cell?_alloc_past _ _ _ hlt]
  case h1 =>
    intro u hu
    obtain ⟨c, _, rfl⟩ := List.mem_map.mp hu
    rfl
  case h63 => unfold maxLen; omega
  case hby => omega
  case hbase => simp
  intro v' w2 hown hgrow _
  have hex : ∃ g cap' cur, v' = .slice (some ⟨g, 0, none⟩) l.length cap' ∧ w1.heap.size ≤ g ∧ w2.heap[g]? = some (.cells cur 5 (0, 0)) ∧ l.length ≤ cap' ∧ cur.size = cap' * 1 ∧ cur.toList.take (l.length * 1) = vals l := by
    rcases hown.2 with ⟨_, hz⟩ | ⟨g, cap', cur, e1, e2, e3, e4, _, e6, e7⟩
    · omega
    · exact ⟨g, cap', cur, e1, e2, e3, by omega, e6, by simpa using e7⟩
  obtain ⟨g, cap', cur, hv, hg, hblk, hcap, hsz, htk⟩ := hex
  have HR0 := Lib.hid (row_start (ys := [y0, y1, y2, y3]) (k := k) hblk rfl hsz htk rfl)
  have HW0 : Hid (Below w1.heap.size w1 w2) := ((Below.refl _ w1).alloc (Nat.le_refl _) _).grown hgrow (by simp) (fun q hq => by simp [Value.ownBlock] at hq; omega)
  clear hown hgrow hblk hsz htk
  rw [hv]
  clear hv
  go_wp2
  go_loopw [8, 9] (fun t i wr => ∃ j : Nat, j ≤ 4 ∧ k + j ≤ l.length ∧ i = .int .i64 j ∧ t = .bool (anyNe (List.take j [y0, y1, y2, y3])) ∧ Below w1.heap.size w1 wr ∧ wr.rowIs g 5 cap' (rowFn l.length (mixAt l [y0, y1, y2, y3] k j) cur)) (fun _ i _ => 4 - (intOf i).toNat)
  case atStart => exact ⟨0, by omega, by omega, rfl, rfl, HW0.out, HR0.out⟩
  case round =>
    obtain ⟨j, hj, hkj, rfl, rfl, hbel, hrow⟩ := hrel
    have HBW := Lib.hid hbel
    have HR := Lib.hid hrow
    clear hbel hrow
    by_cases hlt : j < 4 ∧ j < l.length - k
    · obtain ⟨hlt4, hltL⟩ := hlt
      obtain ⟨q, hq⟩ : ∃ q, k + j = q := ⟨_, rfl⟩
      have qL : q < l.length := by omega
      have qC : q < cap' := by omega
      obtain ⟨y, hyv⟩ : ∃ y, [y0, y1, y2, y3].getD j 0 = y := ⟨_, rfl⟩
      obtain ⟨x, hxv⟩ : ∃ x, mixAt l [y0, y1, y2, y3] k j q = x := ⟨_, rfl⟩
      have ly : y < 256 := by rw [← hyv]; exact getD_lt _ HY.out _
      have lx : x < 256 := by rw [← hxv]; exact mixAt_lt _ _ _ _ _ H.out.1 HY.out
      obtain ⟨w3, hw3⟩ : ∃ w3, wr.drew = w3 := ⟨_, rfl⟩
      have R3 : Hid (w3.rowIs g 5 cap' (rowFn l.length (mixAt l [y0, y1, y2, y3] k j) cur)) := by rw [← hw3]; exact HR.out.drew
      have B3 : Hid (Below w1.heap.size w1 w3) := by rw [← hw3]; exact HBW.out.drew
      have sz1 : w.heap.size + 1 ≤ w1.heap.size := by have := HB.out.size; simpa using this
      have cbox : w3.cell? ⟨w.heap.size, j, none⟩ = some (.int .u8 (y : Int)) := by
        rw [B3.out.cell (p := ⟨w.heap.size, j, none⟩) (by show w.heap.size < _; omega), HB.out.cell (p := ⟨w.heap.size, j, none⟩) (by simp), box_cell w y0 y1 y2 y3 j hlt4, hyv]
      have cx : w3.cell? ⟨g, q, none⟩ = some (.int .u8 (x : Int)) := by rw [R3.out.cell qC, ← hxv]; unfold rowFn; rw [if_pos qL]
      have fx := R3.out.frozen q
      have coth : ∀ v, (w3.setCell ⟨g, q, none⟩ v).cell? ⟨w.heap.size, j, none⟩ = some (.int .u8 (y : Int)) := fun v => by
        rw [World.cell?_setCell_other _ _ _ _ (fun e => by injection e with e _ _; omega)]
        exact cbox
      have ew : IntKind.i64.wrap ((k : Int) + (j : Int)) = (q : Int) := wrap_small k j q hq (by omega)
      have ex : bits .xor .u8 (x : Int) (y : Int) = ((x ^^^ y : Nat) : Int) := u8_xor_nat x y lx ly
      have HS : Hid (∀ i, (if i = q then Value.int .u8 ((x ^^^ y : Nat) : Int) else rowFn l.length (mixAt l [y0, y1, y2, y3] k j) cur i) = rowFn l.length (mixAt l [y0, y1, y2, y3] k (j + 1)) cur i) := fun i => by
        have := rowFn_step (l := l) (ys := [y0, y1, y2, y3]) (k := k) (j := j) (n := l.length) (cur := cur) (x ^^^ y) (by rw [hq, hxv, hyv]) (by omega) i
        rw [hq] at this
        exact this
      have HT : Hid (anyNe (List.take (j + 1) [y0, y1, y2, y3]) = (anyNe (List.take j [y0, y1, y2, y3]) || (y : Int) != 0)) := by
        rw [anyNe_step _ j (by simpa using hlt4), hyv, bne_cast]
        exact rfl
      have HW3 := Lib.hid hw3
      have HQ := Lib.hid hq
      have z1 : (0 : Int) ≤ (j : Int) := by omega
      have z2 : (0 : Int) ≤ (q : Int) := by omega
      have z3 : (j : Int) < 4 := by omega
      have z4 : (j : Int) < (l.length : Int) - (k : Int) := by omega
      clear hyv hxv hw3 hq
      generalize anyNe (List.take j [y0, y1, y2, y3]) = T at HT ⊢
      cases T
      all_goals
        go_wp2
        refine wp_region_still_tail 11 (by kernel_rfl) (by kernel_rfl) ?_
        change wpStill _ _ wr.drew (fun a' => wpList _ _ _ _ a' wr.drew) _ _
        rw [HW3.out]
        simp only [List.take_succ_cons, List.take_zero, List.drop_succ_cons, List.drop_zero]
        repeat still_step
        refine wpStill_nil ?_
        go_wp2
        go_roundw
        case rel => exact ⟨j + 1, by omega, by omega, by go_num, by rw [HT.out]; rfl, B3.out.setCell hg _, (R3.out.set q _).congr (fun i _ => HS.out i)⟩
        case measure => simp [intOf]; omega
    · have hjL : j ≤ 4 ∧ (4 ≤ j ∨ l.length - k ≤ j) := by omega
      have F1 := H.out.below (((Below.refl _ w).alloc (Nat.le_refl _) _).trans ((HB.out.trans (HBW.out.mono HB.out.size)).mono (by simp)))
      have F2 := bytes_of_rowFn hcap (by unfold maxLen; omega) H.out.1 HY.out HR.out
      obtain ⟨X, hX⟩ : ∃ X, Crc.more 0 (mix l [y0, y1, y2, y3] k j) = X := ⟨_, rfl⟩
      obtain ⟨Y, hY⟩ : ∃ Y, Crc.more 0 l = Y := ⟨_, rfl⟩
      have hT := mix_tells l [y0, y1, y2, y3] k j hj rfl hkj HY.out
      rw [hX, hY] at hT
      generalize anyNe (List.take j [y0, y1, y2, y3]) = T at hT ⊢
      have C1 := Lib.hid (of_at (mix l [y0, y1, y2, y3] k j) l.length (some ⟨g, 0, none⟩) cap' wr (mix_length _ _ _ _) F2 X hX)
      have C2 : Hid (∀ W, Below wr.heap.size wr W → Calls Try.prog 9 #[.slice (some ⟨b, off, none⟩) l.length cap] W fun e w' => e = .returned (.int .u32 Y) ∧ Below W.heap.size W w') :=
        fun W hW => of_at l l.length (some ⟨b, off, none⟩) cap W rfl (F1.below hW) Y hY
      clear hX hY F1 F2
      by_cases h4 : j < 4
      all_goals
        go_wp2_with fail
        refine C1.out.mono ?_
        rintro e w4 ⟨rfl, hb4⟩
        have B4 := Lib.hid hb4
        clear hb4
        go_wp2_with fail
        refine (C2.out w4 B4.out).mono ?_
        rintro e w5 ⟨rfl, hb5⟩
        have B5 := Lib.hid hb5
        clear hb5
        go_wp2
        go_ret
        have sz : w.heap.size + 1 ≤ w1.heap.size := by have := HB.out.size; simpa using this
        have bA : Below w.heap.size w w1 := ((Below.refl _ w).alloc (Nat.le_refl _) _).trans (HB.out.mono (by simp))
        have sr := HBW.out.size
        have s4 := B4.out.size
        exact ⟨rfl, ((bA.trans (HBW.out.mono (by omega))).trans (B4.out.mono (by omega))).trans (B5.out.mono (by omega))⟩

set_option maxHeartbeats 400000 in
theorem tells_out (l : List Nat) (A : Option Addr) (cap : Nat) (x : Int) (y0 y1 y2 y3 : Nat) (w : World) (h : x < 0 ∨ (l.length : Int) ≤ x ∨ 100000 < (l.length : Int)) :
    Calls Try.prog 5 #[.slice A l.length cap, .int .i64 x, .agg #[.int .u8 y0, .int .u8 y1, .int .u8 y2, .int .u8 y3]] w fun e w' => e = .returned (.bool true) ∧ Below w.heap.size w w' := by
  rcases (show x < 0 ∨ (0 ≤ x ∧ (l.length : Int) ≤ x) ∨ (0 ≤ x ∧ x < (l.length : Int) ∧ 100000 < (l.length : Int)) by omega) with h | ⟨h, h2⟩ | ⟨h, h2, h3⟩
  all_goals
    go_enter Try.func5, Try.ntmps5
    go_wp2_with (go_at_call 8; refine (awake_any _).mono ?_; rintro e w1 ⟨rfl, hb⟩; have HB := Lib.hid hb; clear hb)
    go_ret
    exact ⟨rfl, ((Below.refl _ w).alloc (Nat.le_refl _) _).trans (HB.out.mono (by simp))⟩

theorem tells_walk (l : List Nat) (A : Option Addr) (cap : Nat) (x : Int) (y0 y1 y2 y3 : Nat) (w : World) (h : Bytes w A l) (hy : ∀ c ∈ [y0, y1, y2, y3], c < 256) :
    Calls Try.prog 5 #[.slice A l.length cap, .int .i64 x, .agg #[.int .u8 y0, .int .u8 y1, .int .u8 y2, .int .u8 y3]] w fun e w' => e = .returned (.bool true) ∧ Below w.heap.size w w' := by
  by_cases hx : x < 0 ∨ (l.length : Int) ≤ x ∨ 100000 < (l.length : Int)
  · exact tells_out l A cap x y0 y1 y2 y3 w hx
  · obtain ⟨k, rfl⟩ : ∃ k : Nat, x = (k : Int) := ⟨x.toNat, by omega⟩
    obtain ⟨b, off, rfl, _, _⟩ := h.2.2 (by omega)
    exact tells_in l b off cap k y0 y1 y2 y3 w h (by omega) (by omega) hy
end Go.Proofs.Ythldhjijiieghaa
