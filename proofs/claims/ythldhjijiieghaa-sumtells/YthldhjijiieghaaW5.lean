/-
  A row of bytes of the call's own; the walk of SumLinear. Its conditions: none.
-/
import Derived.Test.YthldhjijiieghaaW3
import Derived.StillTailTactics
import Derived.Deep.OwnRows
namespace Go.Proofs.Ythldhjijiieghaa
open Go.RowKit Go.Sort

theorem run_min4 {P : Program} (w : World) (ts : Array TypeId) (t : TypeId) (x y z u n : Int) (h : n = min (min (min x y) z) u) :
    (Builtin.min_ ts t #[.int .i64 x, .int .i64 y, .int .i64 z, .int .i64 u]).run P w = .ok (.int .i64 n) w := by
  subst h
  simp [Builtin.min_, Builtin.min2]
  omega
theorem info5 : (Try.prog.info? 5).map (fun i => (i.zero, i.size, i.bytes)) = some (some (.int .u8 0), 1, 1) := by kernel_rfl

/-- A row of bytes of the call's own, by the index. -/
def byteAt (l : List Nat) (k i : Nat) : Value := .int .u8 ((if i < k then l.getD i 0 else 0 : Nat) : Int)
theorem bytes_of_rowIs {w : World} {g n : Nat} {l : List Nat} (hn : l.length = n) (hm : n ≤ maxLen) (hl : ∀ c ∈ l, c < 256) (h : w.rowIs g 5 n (byteAt l n)) : Bytes w (some ⟨g, 0, none⟩) l := by
  subst hn
  refine ⟨hl, hm, fun _ => ⟨g, 0, rfl, h.lt, fun k c hk => ?_⟩⟩
  obtain ⟨hlt, hk'⟩ := List.getElem?_eq_some_iff.mp hk
  rw [Nat.zero_add, h.cell hlt]
  unfold byteAt
  rw [if_pos hlt, List.getD_eq_getElem?_getD, hk]
  rfl
theorem byteAt_step (l : List Nat) (k : Nat) (x : Nat) (hx : l.getD k 0 = x) (i : Nat) : (if i = k then Value.int .u8 (x : Int) else byteAt l k i) = byteAt l (k + 1) i := by
  unfold byteAt
  by_cases h : i = k
  · subst h
    rw [if_pos rfl, if_pos (by omega), hx]
  · rw [if_neg h]
    by_cases h2 : i < k
    · rw [if_pos h2, if_pos (by omega)]
    · rw [if_neg h2, if_neg (by omega)]

/-- The xor of the first n bytes of three texts. -/
def xors (n : Nat) (a b c : List Nat) : List Nat := List.zipWith (· ^^^ ·) (List.zipWith (· ^^^ ·) (a.take n) (b.take n)) (c.take n)
theorem xors_length (n : Nat) (a b c : List Nat) (h1 : n ≤ a.length) (h2 : n ≤ b.length) (h3 : n ≤ c.length) : (xors n a b c).length = n := by
  unfold xors
  simp only [List.length_zipWith, List.length_take]
  omega
theorem xors_at (n k : Nat) (a b c : List Nat) (h1 : n ≤ a.length) (h2 : n ≤ b.length) (h3 : n ≤ c.length) (hk : k < n) :
    (xors n a b c).getD k 0 = a[k] ^^^ b[k] ^^^ c[k] := by
  have hl : k < (xors n a b c).length := by rw [xors_length n a b c h1 h2 h3]; exact hk
  rw [List.getD_eq_getElem?_getD, List.getElem?_eq_getElem hl, Option.getD_some]
  simp only [xors, List.getElem_zipWith, List.getElem_take]
theorem xor_lt8 (a b : Nat) (ha : a < 256) (hb : b < 256) : a ^^^ b < 256 := Nat.xor_lt_two_pow (n := 8) (by omega) (by omega)
theorem xors_lt (n : Nat) (a b c : List Nat) (ha : ∀ x ∈ a, x < 256) (hb : ∀ x ∈ b, x < 256) (hc : ∀ x ∈ c, x < 256) (h1 : n ≤ a.length) (h2 : n ≤ b.length) (h3 : n ≤ c.length) : ∀ x ∈ xors n a b c, x < 256 := by
  intro x hx
  obtain ⟨k, hk, rfl⟩ := List.mem_iff_getElem.mp hx
  have hk' : k < n := by rw [xors_length n a b c h1 h2 h3] at hk; exact hk
  have h := xors_at n k a b c h1 h2 h3 hk'
  rw [List.getD_eq_getElem?_getD, List.getElem?_eq_getElem hk, Option.getD_some] at h
  rw [h]
  exact xor_lt8 _ _ (xor_lt8 _ _ (ha _ (List.getElem_mem _)) (hb _ (List.getElem_mem _))) (hc _ (List.getElem_mem _))
theorem xors_sum (n : Nat) (a b c : List Nat) (h1 : n ≤ a.length) (h2 : n ≤ b.length) (h3 : n ≤ c.length) :
    Crc.more 0 (a.take n) ^^^ Crc.more 0 (b.take n) ^^^ Crc.more 0 (c.take n) = Crc.more 0 (xors n a b c) :=
  Crc.more_three _ _ _ (by simp only [List.length_take]; omega) (by simp only [List.length_take]; omega)
theorem Bytes.at_ {w : World} {A : Option Addr} {l : List Nat} (h : Bytes w A l) {k : Nat} (hk : k < l.length) : ∃ b off, A = some ⟨b, off, none⟩ ∧ w.cell? ⟨b, off + k, none⟩ = some (.int .u8 (l[k] : Int)) ∧ l[k] < 256 := by
  obtain ⟨b, off, hA, _, hc⟩ := h.2.2 (by omega)
  exact ⟨b, off, hA, hc k _ (List.getElem?_eq_getElem hk), h.1 _ (List.getElem_mem hk)⟩

set_option maxHeartbeats 1000000 in
theorem linear_walk (la lb lc : List Nat) (A B C : Option Addr) (ca cb cc : Nat) (w : World) (h1 : Bytes w A la) (h2 : Bytes w B lb) (h3 : Bytes w C lc)
    (hca : la.length ≤ ca) (hcb : lb.length ≤ cb) (hcc : lc.length ≤ cc) :
    Calls Try.prog 7 #[.slice A la.length ca, .slice B lb.length cb, .slice C lc.length cc] w fun e w' => e = .returned (.bool true) ∧ Below w.heap.size w w' := by
  obtain ⟨N, hN⟩ : ∃ N : Nat, N = min (min (min la.length lb.length) lc.length) 10000 := ⟨_, rfl⟩
  have n1 : N ≤ la.length := by omega
  have n2 : N ≤ lb.length := by omega
  have n3 : N ≤ lc.length := by omega
  have n4 : N ≤ 10000 := by omega
  have hmin : ∀ w, (Builtin.min_ #[3, 3, 3, 3] 3 #[.int .i64 la.length, .int .i64 lb.length, .int .i64 lc.length, .int .i64 10000]).run Try.prog w = .ok (.int .i64 N) w := fun w => run_min4 w _ _ _ _ _ _ _ (by omega)
  have hmk : ∀ w, (Instr.makeSlice 22 (.int .i64 (N : Int)) (.int .i64 (N : Int))).run Try.prog w = .ok (.slice (some ⟨w.heap.size, 0, none⟩) N N) (w.alloc (.cells (madeCells #[.int .u8 0] N) 5)) :=
    fun w => run_make_row' 22 5 (.int .u8 0) 1 Try.underlying22 info5 rfl .i64 .i64 N (by omega) (by omega) w
  clear hN
  have H1 := Lib.hid h1
  have H2 := Lib.hid h2
  have H3 := Lib.hid h3
  clear h1 h2 h3
  go_enter Try.func7, Try.ntmps7
  go_wp2_with (go_at_call 8; refine (awake_any _).mono ?_; rintro e w1 ⟨rfl, hb⟩; have HB := Lib.hid hb; clear hb)
  have D1 := Lib.hid (H1.out.below HB.out)
  have D2 := Lib.hid (H2.out.below HB.out)
  have D3 := Lib.hid (H3.out.below HB.out)
  clear hmin hmk
  go_loopw [23] (fun i wr => ∃ k : Nat, k ≤ N ∧ i = .int .i64 k ∧ Below w1.heap.size w1 wr ∧ wr.rowIs w1.heap.size 5 N (byteAt (xors N la lb lc) k)) (fun i _ => N - (intOf i).toNat)
  case atStart =>
    refine ⟨0, Nat.zero_le _, rfl, (Below.refl _ _).alloc (Nat.le_refl _) _, ?_⟩
    exact (World.rowIs_made w1 (.int .u8 0) N 5).congr (fun i _ => by unfold byteAt; simp)
  case round =>
    obtain ⟨k, hk, rfl, hbel, hrow⟩ := hrel
    have HBW := Lib.hid hbel
    have HR := Lib.hid hrow
    clear hbel hrow
    by_cases hlt : k < N
    · obtain ⟨b1, o1, rfl, c1, l1⟩ := (D1.out.below HBW.out).at_ (k := k) (by omega)
      obtain ⟨b2, o2, rfl, c2, l2⟩ := (D2.out.below HBW.out).at_ (k := k) (by omega)
      obtain ⟨b3, o3, rfl, c3, l3⟩ := (D3.out.below HBW.out).at_ (k := k) (by omega)
      have HX := Lib.hid (xors_at N k la lb lc n1 n2 n3 hlt)
      generalize la[k] = x1 at c1 l1 HX
      generalize lb[k] = x2 at c2 l2 HX
      generalize lc[k] = x3 at c3 l3 HX
      have e1 : bits .xor .u8 (x1 : Int) (x2 : Int) = ((x1 ^^^ x2 : Nat) : Int) := u8_xor_nat x1 x2 l1 l2
      have e2 : bits .xor .u8 ((x1 ^^^ x2 : Nat) : Int) (x3 : Int) = ((x1 ^^^ x2 ^^^ x3 : Nat) : Int) := u8_xor_nat _ x3 (xor_lt8 _ _ l1 l2) l3
      obtain ⟨w2, hw2⟩ : ∃ w2, wr.drew = w2 := ⟨_, rfl⟩
      have d1 : w2.cell? ⟨b1, o1 + k, none⟩ = some (.int .u8 (x1 : Int)) := by rw [← hw2]; exact c1
      have d2 : w2.cell? ⟨b2, o2 + k, none⟩ = some (.int .u8 (x2 : Int)) := by rw [← hw2]; exact c2
      have d3 : w2.cell? ⟨b3, o3 + k, none⟩ = some (.int .u8 (x3 : Int)) := by rw [← hw2]; exact c3
      have R2 : Hid (w2.rowIs w1.heap.size 5 N (byteAt (xors N la lb lc) k)) := by rw [← hw2]; exact HR.out.drew
      have B2 : Hid (Below w1.heap.size w1 w2) := by rw [← hw2]; exact HBW.out.drew
      have r1 := R2.out.cell hlt
      have r2 := R2.out.frozen k
      have HW2 := Lib.hid hw2
      have i1 : k < la.length := by omega
      have i2 : k < lb.length := by omega
      have i3 : k < lc.length := by omega
      have z0 : (0 : Int) ≤ (k : Int) := by omega
      clear c1 c2 c3 hw2
      go_wp2
      refine wp_region_still_tail 17 (by kernel_rfl) (by kernel_rfl) ?_
      change wpStill _ _ wr.drew (fun a' => wpList _ _ _ _ a' wr.drew) _ _
      rw [HW2.out]
      simp only [List.take_succ_cons, List.take_zero, List.drop_succ_cons, List.drop_zero]
      repeat still_step
      refine wpStill_nil ?_
      go_wp2
      go_roundw
      case rel =>
        refine ⟨k + 1, by omega, by go_num, B2.out.setCell (Nat.le_refl _) _, ?_⟩
        exact (R2.out.set k _).congr (fun i _ => byteAt_step _ k _ HX.out i)
      case measure => simp [intOf]; omega
    · obtain rfl : k = N := by omega
      have F1 := D1.out.below HBW.out
      have F2 := D2.out.below HBW.out
      have F3 := D3.out.below HBW.out
      have F4 : Bytes wr (some ⟨w1.heap.size, 0, none⟩) (xors k la lb lc) :=
        bytes_of_rowIs (xors_length k la lb lc n1 n2 n3) (by unfold maxLen; omega) (xors_lt k la lb lc F1.1 F2.1 F3.1 n1 n2 n3) HR.out
      obtain ⟨S1, hS1⟩ : ∃ S, Crc.more 0 (la.take k) = S := ⟨_, rfl⟩
      obtain ⟨S2, hS2⟩ : ∃ S, Crc.more 0 (lb.take k) = S := ⟨_, rfl⟩
      obtain ⟨S3, hS3⟩ : ∃ S, Crc.more 0 (lc.take k) = S := ⟨_, rfl⟩
      obtain ⟨S4, hS4⟩ : ∃ S, Crc.more 0 (xors k la lb lc) = S := ⟨_, rfl⟩
      have lS1 : S1 < 4294967296 := by rw [← hS1]; exact Crc.more_lt _ _ (by omega) (F1.take k).1
      have lS2 : S2 < 4294967296 := by rw [← hS2]; exact Crc.more_lt _ _ (by omega) (F2.take k).1
      have lS3 : S3 < 4294967296 := by rw [← hS3]; exact Crc.more_lt _ _ (by omega) (F3.take k).1
      have hsum := xors_sum k la lb lc n1 n2 n3
      rw [hS1, hS2, hS3, hS4] at hsum
      have e1 : bits .xor .u32 (S1 : Int) (S2 : Int) = ((S1 ^^^ S2 : Nat) : Int) := u32_xor_nat S1 S2 lS1 lS2
      have e2 : bits .xor .u32 ((S1 ^^^ S2 : Nat) : Int) (S3 : Int) = (S4 : Int) := by rw [← hsum]; exact u32_xor_nat _ S3 (Crc.xor_lt32 _ _ lS1 lS2) lS3
      have C1 : Hid (∀ d os, Calls Try.prog 9 #[.slice A k ca] (grow (redrawn wr d) os) fun e w'' => e = .returned (.int .u32 S1) ∧ ∃ p : Regrown, w'' = grow (redrawn wr p.d) p.os) :=
        fun d os => Calls.regrown_of (of_at (la.take k) k A ca _ (by rw [List.length_take]; omega) ((F1.take k).grow d os) S1 hS1)
      have C2 : Hid (∀ d os, Calls Try.prog 9 #[.slice B k cb] (grow (redrawn wr d) os) fun e w'' => e = .returned (.int .u32 S2) ∧ ∃ p : Regrown, w'' = grow (redrawn wr p.d) p.os) :=
        fun d os => Calls.regrown_of (of_at (lb.take k) k B cb _ (by rw [List.length_take]; omega) ((F2.take k).grow d os) S2 hS2)
      have C3 : Hid (∀ d os, Calls Try.prog 9 #[.slice C k cc] (grow (redrawn wr d) os) fun e w'' => e = .returned (.int .u32 S3) ∧ ∃ p : Regrown, w'' = grow (redrawn wr p.d) p.os) :=
        fun d os => Calls.regrown_of (of_at (lc.take k) k C cc _ (by rw [List.length_take]; omega) ((F3.take k).grow d os) S3 hS3)
      have C4 : Hid (∀ d os, Calls Try.prog 9 #[.slice (some ⟨w1.heap.size, 0, none⟩) k k] (grow (redrawn wr d) os) fun e w'' => e = .returned (.int .u32 S4) ∧ ∃ p : Regrown, w'' = grow (redrawn wr p.d) p.os) :=
        fun d os => Calls.regrown_of (of_at (xors k la lb lc) k _ k _ (xors_length k la lb lc n1 n2 n3) (F4.grow d os) S4 hS4)
      clear hS1 hS2 hS3 hS4 lS1 lS2 lS3 hsum F1 F2 F3 F4
      go_wp2
      refine wp_region_quiet_below (by kernel_rfl) (by kernel_rfl) ?_
      go_big_quiet_step (fail)
      go_big_quiet_step (fail)
      go_big_quiet_step (fail)
      go_big_quiet_step (exact C1.out _ _)
      go_big_quiet_step (fail)
      go_big_quiet_step (fail)
      go_big_quiet_step (fail)
      go_big_quiet_step (exact C2.out _ _)
      go_big_quiet_step (fail)
      go_big_quiet_step (fail)
      go_big_quiet_step (fail)
      go_big_quiet_step (fail)
      go_big_quiet_step (exact C3.out _ _)
      go_big_quiet_step (fail)
      go_big_quiet_step (fail)
      go_big_quiet_step (exact C4.out _ _)
      go_big_quiet_step (fail)
      go_big_quiet_step (fail)
      refine wpQuiet_nil ?_
      intro _ hw'
      obtain ⟨⟨dq, osq⟩, hw''⟩ := hw'
      subst hw''
      go_wp2
      go_ret
      exact ⟨rfl, (HB.out.trans (HBW.out.mono HB.out.size)).trans ((below_regrown wr dq osq).mono (Nat.le_trans HB.out.size HBW.out.size))⟩
end Go.Proofs.Ythldhjijiieghaa
