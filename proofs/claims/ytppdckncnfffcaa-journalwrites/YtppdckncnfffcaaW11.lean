/-
  The contracts of Read, Full, block. Bytes of the call's own. Their conditions: the disk and the bytes lie in memory.
-/
import Derived.Test.YtppdckncnfffcaaW10
namespace Go.Proofs.Ytppdckncnfffcaa
open Go.RowKit
set_option maxRecDepth 100000
open Go.Sort (grow)

/-- Bytes of the call's own, in a block of their own. -/
def OwnB (w : World) (base : Nat) (v : Value) (l : List UInt8) : Prop :=
  (v = .slice none 0 0 ∧ l = []) ∨ ∃ q t C c, v = .slice (some ⟨q, 0, none⟩) l.length c ∧ w.heap[q]? = some (.cells C t (0, 0)) ∧ C.toList.take l.length = bv l ∧ base ≤ q ∧ l.length ≤ maxLen ∧ l.length ≤ c
section
variable {w w' : World} {base base' : Nat} {v : Value} {l : List UInt8}
theorem OwnB.form (h : OwnB w base v l) : ∃ A c, v = .slice A l.length c ∧ Sl eBy w A l ∧ (A = none → c = 0) := by
  rcases h with ⟨rfl, rfl⟩ | ⟨q, t, C, c, rfl, hq, hC, hb, hm⟩
  · exact ⟨none, 0, rfl, sl_nil _, fun _ => rfl⟩
  · refine ⟨_, c, rfl, ⟨hm.1, fun _ => ⟨q, 0, rfl, lt_of_heap hq, fun k x hk i u hu => ?_⟩⟩, fun h => by cases h⟩
    have hi : i = 0 := by
      have := (List.getElem?_eq_some_iff.mp hu).1
      have e : (eBy.f x).length = 1 := rfl
      omega
    subst hi
    have hu : Value.int .u8 (x.toNat : Int) = u := by simpa [eBy] using hu
    have hkl := (List.getElem?_eq_some_iff.mp hk).1
    have h2 : (bv l)[k]? = some u := by
      unfold bv
      rw [List.getElem?_map, hk, ← hu]
      rfl
    rw [← hC, List.getElem?_take, if_pos hkl] at h2
    rw [cell_of hq, show eBy.wd = 1 from rfl]
    simpa using h2
theorem OwnB.below (h : OwnB w base v l) (hb : Below w.heap.size w w') : OwnB w' base v l := by
  rcases h with h | ⟨q, t, C, c, rfl, hq, rest⟩
  · exact .inl h
  · exact .inr ⟨q, t, C, c, rfl, (hb.block q (lt_of_heap hq)).trans hq, rest⟩
theorem OwnB.down (h : OwnB w base v l) (hb : base' ≤ base) : OwnB w base' v l := by
  rcases h with h | ⟨q, t, C, c, rfl, hq, h1, h2, h3⟩
  · exact .inl h
  · exact .inr ⟨q, t, C, c, rfl, hq, h1, by omega, h3⟩
theorem OwnB.cap {A : Option Addr} {n c : Nat} (h : OwnB w base (.slice A n c) l) : n ≤ c := by
  rcases h with ⟨h, _⟩ | ⟨q, t, C, c', hv, _, _, _, _, hc⟩
  · cases h
    omega
  · cases hv
    exact hc
/-- A byte is written over. -/
theorem OwnB.set {q c : Nat} (h : OwnB w base (.slice (some ⟨q, 0, none⟩) l.length c) l) (k : Nat) (x : UInt8) :
    OwnB (w.setCell ⟨q, k, none⟩ (.int .u8 (x.toNat : Int))) base (.slice (some ⟨q, 0, none⟩) l.length c) (l.set k x) ∧ w.frozen? ⟨q, k, none⟩ = false ∧ base ≤ q ∧ ∃ o, w.heap[q]? = some o := by
  rcases h with ⟨h, _⟩ | ⟨q', t, C, c', hv, hq, hC, hb, hm⟩
  · cases h
  · cases hv
    refine ⟨.inr ⟨q, t, C.setIfInBounds k (.int .u8 (x.toNat : Int)), c, by rw [List.length_set], ?_, ?_, hb, by simpa using hm⟩, by simp [World.frozen?, hq], hb, _, hq⟩
    · simp [World.setCell, Array.getElem?_modify, hq]
    · rw [List.length_set, Array.toList_setIfInBounds, List.take_set, hC]
      simp [bv, List.map_set]
theorem ownB_row (h : RowT eBy 5 w base v l) (hm : l.length ≤ maxLen) : OwnB w base v l := by
  rcases h.2 with ⟨rfl, hn⟩ | ⟨g, cap, cur, rfl, hb, hg, hle, _, _, htk⟩
  · exact .inl ⟨rfl, List.eq_nil_of_length_eq_zero hn⟩
  · rw [eBy_vals, show eBy.wd = 1 from rfl, Nat.mul_one] at htk
    exact .inr ⟨g, 5, cur, cap, rfl, hg, htk, hb, hm, hle⟩
theorem ownB_sec (w : World) (s : Sec) : OwnB (w.alloc (.cells (eSec.f s).toArray 86)) w.heap.size (.slice (some ⟨w.heap.size, 0, none⟩) 64 64) s.v := by
  refine .inr ⟨w.heap.size, 86, _, 64, by rw [s.h], heap_new _ _, ?_, Nat.le_refl _, by rw [s.h]; unfold maxLen; omega, by rw [s.h]; omega⟩
  show List.take s.v.length (bv s.v) = bv s.v
  exact List.take_of_length_le (by rw [bv_length]; omega)
end

/-! ### Read -/
def readR (d : Dk) (i : Int) : Int := if has d i then (if d.down then 7 else 0) else 1
def readL (d : Dk) (i : Int) : List UInt8 := if has d i && !d.down then (at_ (seen d.K d.ps) i.toNat).v else []
def ReadPost (w : World) (d : Dk) (i : Int) (r : Ending) (w' : World) : Prop := ∃ v, r = .returned (.tuple #[v, .int .i64 (readR d i)]) ∧ OwnB w' w.heap.size v (readL d i) ∧ Below w.heap.size w w'
set_option maxHeartbeats 2000000 in
theorem read_any (base g : Nat) (d : Dk) (i : Int) (w : World) (h : DiskAt w base g d) : Calls Try.prog 36 #[.pointer (some ⟨g, 0, none⟩), .int .i64 i] w (ReadPost w d i) := by
  have CH := Lib.hid (has_any base g d i w h)
  cases hh : has d i with
  | false =>
    have HE : Hid (ReadPost w d i (.returned (.tuple #[.slice none 0 0, .int .i64 1])) w) := ⟨.slice none 0 0, by simp [readR, hh], by simp [readL, hh]; exact .inl ⟨rfl, rfl⟩, Below.refl _ _⟩
    rw [hh] at CH
    clear h hh
    go_enter Try.func36, Try.ntmps36
    go_wp2_with fail
    refine CH.out.mono ?_
    rintro r w1 ⟨rfl, rfl⟩
    go_wp2
    go_ret2
    exact HE.out
  | true =>
    rw [hh] at CH
    obtain ⟨B, pv, b, hS, hR, hB⟩ := h.ex
    have c3 := b.c3
    have c0 := b.c0
    cases hd : d.down with
    | true =>
      rw [hd] at c3
      have HE : Hid (ReadPost w d i (.returned (.tuple #[.slice none 0 0, .int .i64 7])) w) := ⟨.slice none 0 0, by simp [readR, hh, hd], by simp [readL, hd]; exact .inl ⟨rfl, rfl⟩, Below.refl _ _⟩
      clear h hh b hS hR hB hd c0
      go_enter Try.func36, Try.ntmps36
      go_wp2_with fail
      refine CH.out.mono ?_
      rintro r w1 ⟨rfl, rfl⟩
      go_wp2
      go_ret2
      exact HE.out
    | false =>
      rw [hd] at c3
      have hh2 := hh
      unfold has at hh2
      simp only [Bool.and_eq_true, decide_eq_true_eq] at hh2
      obtain ⟨k, rfl⟩ : ∃ k : Nat, i = (k : Int) := ⟨i.toNat, by omega⟩
      obtain ⟨n, hn⟩ : ∃ n, n = d.K.length := ⟨_, rfl⟩
      rw [← hn] at c0
      have hk : k < n := by omega
      have HK : Hid (k < (seen d.K d.ps).length) := by
        show _ < _
        rw [seen_length]
        omega
      have HS := Lib.hid hS
      obtain ⟨s, hs⟩ : ∃ s, s = at_ (seen d.K d.ps) k := ⟨_, rfl⟩
      have HE : Hid (ReadPost w d (k : Int) (.returned (.tuple #[.slice (some ⟨w.heap.size, 0, none⟩) 64 64, .int .i64 0])) (w.alloc (.cells (eSec.f s).toArray 86))) := by
        refine ⟨.slice (some ⟨w.heap.size, 0, none⟩) 64 64, by simp [readR, hh, hd], ?_, Below.alloc (Below.refl _ _) (Nat.le_refl _) _⟩
        have e : readL d (k : Int) = s.v := by simp [readL, hh, hd, hs]
        rw [e]
        exact ownB_sec w s
      have HLD : Hid ((Instr.loadAt 86 (.pointer (some ⟨B, k * 64, none⟩))).run Try.prog w = .ok (secV s) w) := by rw [hs]; exact hS.load HK.out
      have hlti : (k : Int) < (n : Int) := by omega
      have hk0 : (0 : Int) ≤ (k : Int) := by omega
      clear h hh hh2 b hS hR hB hd hn hk hs
      go_enter Try.func36, Try.ntmps36
      go_wp2_with fail
      refine CH.out.mono ?_
      rintro r w1 ⟨rfl, rfl⟩
      go_wp2_with (first
        | (refine wpList_value rfl (exec_load rfl rfl HLD.out) ?_)
        | (refine wpList_value rfl (exec_alloc rfl (run_alloc72 _)) ?_; refine wpList_unit rfl (exec_store rfl rfl rfl (store72new _ _ s)) ?_))
      go_ret2
      exact HE.out
theorem read_nil (i : Int) (w : World) : Calls Try.prog 36 #[.pointer none, .int .i64 i] w fun r w' => r = .returned (.tuple #[.slice none 0 0, .int .i64 1]) ∧ w = w' := by
  go_enter Try.func36, Try.ntmps36
  go_wp2_with fail
  refine (has_nil i w).mono ?_
  rintro r w1 ⟨rfl, rfl⟩
  go_wp2
  go_ret2
  exact ⟨rfl, rfl⟩

/-! ### Full, block -/
def fullL (l : List UInt8) : List UInt8 := (List.range 64).map fun i => if l.length = 0 then 7 else l.getD (min i (l.length - 1)) 0
theorem fullL_length (l : List UInt8) : (fullL l).length = 64 := by simp [fullL]
theorem fullL_at (l : List UInt8) {k : Nat} (hk : k < 64) : (fullL l)[k]'(by rw [fullL_length]; exact hk) = if l.length = 0 then 7 else l.getD (min k (l.length - 1)) 0 := by simp [fullL]
theorem run_min2 {P : Program} (w : World) (ts : Array TypeId) (t : TypeId) (x y n : Int) (h : n = min x y) :
    (Builtin.min_ ts t #[.int .i64 x, .int .i64 y]).run P w = .ok (.int .i64 n) w := by
  subst h
  simp [Builtin.min_, Builtin.min2]
  try omega
set_option maxHeartbeats 4000000 in
theorem full_any (l : List UInt8) (A : Option Addr) (n c : Nat) (w : World) (hs : Sl eBy w A l) (hn : l.length = n) :
    Calls Try.prog 19 #[.slice A n c] w fun r w' => ∃ v, r = .returned v ∧ RowT eBy 5 w' w.heap.size v (fullL l) ∧ Below w.heap.size w w' := by
  have HS := Lib.hid hs
  have HN := Lib.hid hn
  have hnm : n ≤ maxLen := by rw [← hn]; exact hs.1
  have hn1 : (n : Int) ≤ 9223372036854775807 := by unfold maxLen at hnm; omega
  clear hs hn hnm
  go_enter Try.func19, Try.ntmps19
  go_wp2
  go_loopw [3, 4] (fun s3 s4 wr => ∃ k : Nat, k ≤ 64 ∧ s4 = .int .i64 (k : Int) ∧ RowT eBy 5 wr w.heap.size s3 ((fullL l).take k) ∧ Below w.heap.size w wr) (fun _ s _ => 64 - (intOf s).toNat)
  case atStart => exact ⟨0, Nat.zero_le _, rfl, RowT.empty _, Below.alloc (Below.refl _ _) (Nat.le_refl _) _⟩
  case round =>
    obtain ⟨k, hk, rfl, hr, hb⟩ := hrel
    by_cases hlt : k < 64
    · have hlti : (k : Int) < 64 := by omega
      have hk0 : (0 : Int) ≤ (k : Int) := by omega
      have e1 : (fullL l).take (k + 1) = (fullL l).take k ++ [(fullL l)[k]'(by rw [fullL_length]; exact hlt)] := List.take_succ_eq_append_getElem (by rw [fullL_length]; exact hlt)
      rw [fullL_at l hlt] at e1
      have hln : ((fullL l).take k).length = k := by rw [List.length_take, fullL_length]; omega
      have HB := Lib.hid hb
      have HR := Lib.hid hr
      obtain ⟨A3, c3, hv3, _⟩ := hr.form
      rw [hln] at hv3
      subst hv3
      by_cases h0 : n = 0
      · have hl0 : l.length = 0 := by rw [HN.out, h0]
        rw [if_pos hl0] at e1
        have hb2 : Below w.heap.size w (wr.alloc (.cells (eBy.f 7).toArray 5)) := hb.alloc hb.size _
        obtain ⟨v', W', hrun, hr', hb'⟩ := (hr.below (Below.alloc (Below.refl _ _) (Nat.le_refl _) (.cells (eBy.f 7).toArray 5))).grow el29 rfl hb2 (sl_one wr 7 5) (n := 1) (c := 1) rfl (fun h => by cases h) (by rw [hln]; omega)
        rw [← e1] at hr'
        have HR' := Lib.hid hr'
        have HB' := Lib.hid hb'
        have HRUN := Lib.hid hrun
        have hn0 : ¬ (0 : Int) < (n : Int) := by omega
        have HK : Hid (k + 1 ≤ 64) := hlt
        clear hr hb e1 hln hl0 hb2 hr' hb' hrun h0 hlt hk
        go_wp2_with (at_builtin; refine wpList_append_run rfl (.tmp 22) (.tmp 24) 38 38 rfl _ _ rfl rfl _ _ HRUN.out ?_)
        go_roundw
        case rel => exact ⟨k + 1, HK.out, by go_num, HR'.out, HB'.out⟩
        case measure => simp [intOf]; omega
      · have hl0 : ¬ l.length = 0 := by rw [HN.out]; exact h0
        rw [if_neg hl0] at e1
        obtain ⟨j, hj⟩ : ∃ j, j = min k (l.length - 1) := ⟨_, rfl⟩
        have hjl : j < l.length := by omega
        obtain ⟨b, off, rfl, _, dC⟩ := at_by (HS.out.below (Nat.le_refl _) hb) hjl
        rw [← hj, List.getD_eq_getElem?_getD, List.getElem?_eq_getElem hjl, Option.getD_some] at e1
        generalize l[j] = y at e1 dC
        obtain ⟨n1, hn1'⟩ : ∃ n1 : Nat, n1 = n - 1 := ⟨_, rfl⟩
        have hw : IntKind.i64.wrap ((n : Int) - 1) = (n1 : Int) := by rw [IntWalk.i64_in _ (by omega)]; omega
        have hmin : ∀ w, (Builtin.min_ #[3, 3] 3 #[.int .i64 (k : Int), .int .i64 (n1 : Int)]).run Try.prog w = .ok (.int .i64 (j : Int)) w := fun w => run_min2 w _ _ _ _ _ (by rw [hj, HN.out]; omega)
        have hb2 : Below w.heap.size w (wr.alloc (.cells (eBy.f y).toArray 5)) := hb.alloc hb.size _
        obtain ⟨v', W', hrun, hr', hb'⟩ := (hr.below (Below.alloc (Below.refl _ _) (Nat.le_refl _) (.cells (eBy.f y).toArray 5))).grow el29 rfl hb2 (sl_one wr y 5) (n := 1) (c := 1) rfl (fun h => by cases h) (by rw [hln]; omega)
        rw [← e1] at hr'
        have HR' := Lib.hid hr'
        have HB' := Lib.hid hb'
        have HRUN := Lib.hid hrun
        have hn0 : (0 : Int) < (n : Int) := by omega
        have hjn : (j : Int) < (n : Int) := by rw [← HN.out]; omega
        have hj0 : (0 : Int) ≤ (j : Int) := by omega
        have HK : Hid (k + 1 ≤ 64) := hlt
        clear hr hb e1 hln hl0 hb2 hr' hb' hrun h0 hlt hk hj hjl hn1'
        go_wp2_with (at_builtin; refine wpList_append_run rfl (.tmp 22) (.tmp 24) 38 38 rfl _ _ rfl rfl _ _ HRUN.out ?_)
        go_roundw
        case rel => exact ⟨k + 1, HK.out, by go_num, HR'.out, HB'.out⟩
        case measure => simp [intOf]; omega
    · have hlti : ¬ (k : Int) < 64 := by omega
      rw [List.take_of_length_le (by rw [fullL_length]; omega)] at hr
      have HR := Lib.hid hr
      have HB := Lib.hid hb
      clear hr hb hk hlt
      go_wp2
      go_ret
      exact ⟨_, rfl, HR.out, HB.out⟩
end Go.Proofs.Ytppdckncnfffcaa
