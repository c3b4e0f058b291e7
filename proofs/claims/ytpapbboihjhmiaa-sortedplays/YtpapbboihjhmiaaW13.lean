/-
  The contract of all, over a map and over none. Its conditions: the map lies in memory, and has no more keys than a bound.
-/
import Derived.Test.YtpapbboihjhmiaaW12
namespace Go.Proofs.Ytpapbboihjhmiaa
open Go.RowKit Go.Shelf

attribute [local go_sem] Oper.semAt_some

/-- The cells of pairs. -/
def pairVals : List KV → List Value
  | [] => []
  | p :: L => .string p.1 :: .int .i64 p.2 :: pairVals L
theorem pairVals_append (A B : List KV) : pairVals (A ++ B) = pairVals A ++ pairVals B := by
  induction A with
  | nil => rfl
  | cons p A ih => simp [pairVals, ih]
theorem pairVals_length (A : List KV) : (pairVals A).length = A.length * 2 := by
  induction A with
  | nil => rfl
  | cons p A ih => simp only [pairVals, List.length_cons, ih]; omega
theorem news2 (w : World) (a b : Value) (t : TypeId) : ∀ j u, [a, b][j]? = some u → (w.alloc (.cells #[a, b] t)).cell? ((⟨w.heap.size, 0, none⟩ : Addr).add j) = some u :=
  World.news_of_block (cs := #[a, b]) (t := t) (fr := (0, 0)) (heap_new w _)

/-- What all leaves: a row of its own with these pairs. -/
def AllPost (w : World) (L : List KV) (e : Ending) (w' : World) : Prop := ∃ v, e = .returned v ∧ w'.ownsRow w.heap.size 39 2 v L.length (pairVals L) ∧ Below w.heap.size w w'
theorem take_full {L : List KV} {m : Nat} (h : L.length ≤ m) : L.take m = L := List.take_of_length_le h
theorem take_pre {L q : List KV} {m : Nat} (h : q <+: L) (hm : m ≤ q.length) : q.take m = L.take m := by
  obtain ⟨r, rfl⟩ := h
  rw [List.take_append_of_le_length hm]

set_option maxRecDepth 100000 in
set_option maxHeartbeats 2000000 in
theorem all_map (g : Nat) (L : List KV) (m : Nat) (w : World) (hM : MapAt w g L) (hlen : L.length ≤ 100000) (hmm : m ≤ 1000) :
    Calls Try.prog 22 #[.pointer (some ⟨g, 0, none⟩), .int .i64 (m : Int)] w (AllPost w (L.take m)) := by
  refine (callsIn_wide (n := 9)).1 ?_
  obtain ⟨i0, hi, hz0, hz1, hz2⟩ := info_parts info39
  have hdd : ∀ k : Nat, (Fence.wide.depth.isSome = true → 1 ≤ k) := fun k h => by cases h
  have h23 : Fence.wide.fn 23 := trivial
  have h33 : Fence.wide.fn 33 := trivial
  refine callsIn_of_wp_marks Try.func22 rfl trivial ?_ rfl
  simp only [Try.ntmps22, List.size_toArray, List.length_cons, List.length_nil, Nat.reduceAdd, Nat.reduceSub, Array.replicate_succ, Array.replicate_zero, List.push_toArray, List.append_toArray, List.nil_append, List.cons_append]
  gi_wp2_with ((try refine ⟨hdd _, ?_⟩); gi_at_call 23; refine (callsIn_wide.2 (all_any _ _)).mono ?_; rintro e w' ⟨rfl, rfl⟩)
  have bM := Boxed.new w 3 (.int .i64 (m : Int))
  have bO := Boxed.new (w.alloc (.cells #[.int .i64 (m : Int)] 3)) 27 (.slice none 0 0)
  have bN := Boxed.new ((w.alloc (.cells #[.int .i64 (m : Int)] 3)).alloc (.cells #[.slice none 0 0] 27)) 24 (.pointer (some ⟨g, 0, none⟩))
  rw [World.size_alloc] at bO bN
  rw [World.size_alloc] at bN
  have hB0 : Below w.heap.size w (((w.alloc (.cells #[.int .i64 (m : Int)] 3)).alloc (.cells #[.slice none 0 0] 27)).alloc (.cells #[.pointer (some ⟨g, 0, none⟩)] 24)) := (((Below.refl _ w).alloc (Nat.le_refl _) _).alloc (by simp) _).alloc (by simp; omega) _
  have hs2 : w.heap.size ≤ (((w.alloc (.cells #[.int .i64 (m : Int)] 3)).alloc (.cells #[.slice none 0 0] 27)).alloc (.cells #[.pointer (some ⟨g, 0, none⟩)] 24)).heap.size := hB0.size
  refine range_tells (gf := 33) (lb := #[.pointer (some ⟨w.heap.size + 1 + 1, 0, none⟩)]) rfl (enters_of Try.func33 (by kernel_rfl) rfl)
    (all1_tells w _ (w.heap.size + 1 + 1) g L hM hB0 bN.cell (by simp)) Kp.t (Kp.b hs2) (Below.refl _ _) (fun _ => rfl)
    (fun pre W => (∃ v, Boxed W (w.heap.size + 1) 27 v ∧ W.ownsRow w.heap.size 39 2 v pre.length (pairVals pre) ∧ pre.length ≤ m) ∧ Boxed W w.heap.size 3 (.int .i64 (m : Int)) ∧ Below w.heap.size w W)
    (fun c q W => (∃ v, Boxed W (w.heap.size + 1) 27 v ∧ W.ownsRow w.heap.size 39 2 v (q.take m).length (pairVals (q.take m)) ∧ (c = .exit 0 ∧ m ≤ q.length)) ∧ Below w.heap.size w W)
    (OwnFrom.and (Own.from (holdsRow_own w.heap.size (w.heap.size + 1) 27 39 2 (fun pre : List KV => pre.length) (fun pre => pairVals pre) (fun pre _ => pre.length ≤ m)) _) (OwnFrom.and (Own.from (boxed_own w.heap.size 3 (fun _ => .int .i64 (m : Int))) _) (ownFrom_below (Nat.le_refl _) hs2)))
    (fun c => OwnFrom.and (Own.from (holdsRow_own w.heap.size (w.heap.size + 1) 27 39 2 (fun q : List KV => (q.take m).length) (fun q => pairVals (q.take m)) (fun q _ => c = .exit 0 ∧ m ≤ q.length)) _) (ownFrom_below (Nat.le_refl _) hs2))
    ⟨⟨_, bO.alloc _, World.ownsRow_nil _ _ _ _, Nat.zero_le _⟩, (bM.alloc _).alloc _, hB0⟩
    (fun x => { tmps := #[.pointer (some ⟨g, 0, none⟩), .int .i64 (m : Int), undef, .pointer (some ⟨w.heap.size, 0, none⟩), .slice none 0 0, .pointer (some ⟨w.heap.size + 1, 0, none⟩), .string x.1, .int .i64 x.2, .pointer (some ⟨g, 0, none⟩), .func (.func 33) #[] #[.pointer (some ⟨w.heap.size + 1 + 1, 0, none⟩)], .string x.1, .int .i64 x.2, undef, undef, undef, undef, undef, undef, undef, undef, undef, undef, undef], defers := [] }) ?assign ?body ?done ?stop
  case assign =>
    intro l x W K hK
    simp only [encP]
    gi_wp2
    exact hK
  case body =>
    rintro l pre ⟨k, x⟩ W ⟨⟨v, hv, hrow, hle⟩, hmb, hB⟩ hpre
    obtain ⟨A1, c1, rfl⟩ : ∃ A c, v = .slice A pre.length c := by
      rcases hrow.2 with ⟨rfl, hn⟩ | ⟨g', cap, cur, rfl, _⟩
      · exact ⟨none, 0, by simp at hn; simp [hn]⟩
      · exact ⟨_, _, rfl⟩
    have hc := hv.cell
    have hcm := hmb.cell
    have hp2 : pre.length + 1 ≤ L.length := by have := hpre.length_le; simpa using this
    have hm1 : pre.length + 1 ≤ maxLen := by unfold maxLen; omega
    have hm2 : (pre.length + 1) * 24 ≤ 140737488355328 := by omega
    have hsz := hB.size
    have hmi : (pre.length : Int) ≤ 1000 := by omega
    clear hp2 hs2 hpre
    by_cases hx : m ≤ pre.length
    · have hx' : (m : Int) ≤ (pre.length : Int) := by omega
      gi_wp2
      refine ⟨KeepsFrom.refl _ _, ⟨_, hv, ?_, rfl, by simp; omega⟩, hB⟩
      rw [List.take_append_of_le_length hx, List.take_of_length_le (show pre.length ≤ m by omega)]
      exact hrow
    · have hx' : ¬ (m : Int) ≤ (pre.length : Int) := by omega
      gi_wp2_with (gi_at_builtin; refine wpListIn_append_own _ rfl _ _ 27 rfl w.heap.size 39 i0 (.agg #[.string ⟨#[]⟩, .int .i64 0]) 2 24 Try.underlying27 hi hz0 hz1 hz2 rfl (by decide) _ _ _ rfl (hrow.alloc _) ⟨W.heap.size, 0, none⟩ 1 1 [.string k, .int .i64 x] rfl rfl (news2 _ _ _ _) (by simp [Value.oneCell']) hm1 hm2 (by simp; omega) ?_; intro v' w1 hown' hgrow _; obtain ⟨g', cap', rfl⟩ := ownsRow_succ hown'; obtain ⟨hv1, hv2, hr2, hk2, hb2⟩ := hv.appended (by decide) hrow hsz (Nat.le_succ _) hown' hgrow; have hkk := keep_appended (v' := Value.slice (some ⟨g', 0, none⟩) (pre.length + 1) cap') (u := 32) hv hrow hgrow (by decide) (by decide); have hk3 := keep_appended (v' := Value.slice (some ⟨g', 0, none⟩) (pre.length + 1) cap') (u := 3) hv hrow hgrow (by decide) (by decide); have hc1 := hv1.cell; have hf1 := hv1.frozen)
      exact ⟨hk2.from _, ⟨hb2, hkk⟩, ⟨_, hv2, by rw [pairVals_append]; simpa [pairVals] using hr2, by simp; omega⟩, (hk3 _ _ hmb).trans hmb, hB.trans hb2⟩
  case done =>
    rintro D W hD ⟨⟨v, hv, hrow, hle⟩, hmb, hB⟩ hK
    have hc := hv.cell
    replace hrow : W.ownsRow w.heap.size 39 2 v (L.take m).length (pairVals (L.take m)) := by rw [take_full hle]; exact hrow
    gi_wp2
    refine ⟨by simp, .inl ⟨_, _, rfl, run_takeDeferred hK, ?_⟩⟩
    exact ⟨_, results_tmp rfl _ _ _, v, rfl, ownsRow_putObj hrow _ hK rfl, hB.trans (below_put _ hK (by omega))⟩
  case stop =>
    rintro D c pre W hD hpre ⟨⟨v, hv, hrow, rfl, hle⟩, hB⟩ hK
    have hc := hv.cell
    rw [take_pre hpre hle] at hrow
    gi_wp2
    refine ⟨by simp, .inl ⟨_, _, rfl, run_takeDeferred hK, ?_⟩⟩
    exact ⟨_, results_tmp rfl _ _ _, v, rfl, ownsRow_putObj hrow _ hK rfl, hB.trans (below_put _ hK (by omega))⟩

/-- All's function over no map tells nothing. -/
theorem all1_nil (w : World) (Bm : Nat) (hc : w.cell? ⟨Bm, 0, none⟩ = some (.pointer none)) (hBm : Bm < w.heap.size) (n₀ : Nat) :
    Tells Try.prog 33 #[.pointer (some ⟨Bm, 0, none⟩)] encP (Kp n₀) [] w := by
  intro l J Jx W hW hJ hJx _ h0
  have hcW : W.cell? ⟨Bm, 0, none⟩ = some (.pointer none) := (hW.cell (p := ⟨Bm, 0, none⟩) hBm).trans hc
  have hBmW : Bm < W.heap.size := Nat.lt_of_lt_of_le hBm hW.size
  have h33 : Fence.wide.fn 33 := trivial
  refine callsIn_of_wp_marks Try.func33 rfl trivial ?_ rfl
  simp only [Try.ntmps33, List.size_toArray, List.length_cons, List.length_nil, Nat.reduceAdd, Nat.reduceSub, Array.replicate_succ, Array.replicate_zero, List.push_toArray, List.append_toArray, List.nil_append, List.cons_append]
  gi_wp2
  exact ⟨_, results_none rfl _ _ _, ⟨_, rfl⟩, .inl (hJ.alloc _ h0)⟩
set_option maxRecDepth 100000 in
set_option maxHeartbeats 2000000 in
theorem all_nil (m : Int) (w : World) : Calls Try.prog 22 #[.pointer none, .int .i64 m] w fun e w' => e = .returned (.slice none 0 0) ∧ Below w.heap.size w w' := by
  refine (callsIn_wide (n := 9)).1 ?_
  have hdd : ∀ k : Nat, (Fence.wide.depth.isSome = true → 1 ≤ k) := fun k h => by cases h
  have h23 : Fence.wide.fn 23 := trivial
  have h33 : Fence.wide.fn 33 := trivial
  refine callsIn_of_wp_marks Try.func22 rfl trivial ?_ rfl
  simp only [Try.ntmps22, List.size_toArray, List.length_cons, List.length_nil, Nat.reduceAdd, Nat.reduceSub, Array.replicate_succ, Array.replicate_zero, List.push_toArray, List.append_toArray, List.nil_append, List.cons_append]
  gi_wp2_with ((try refine ⟨hdd _, ?_⟩); gi_at_call 23; refine (callsIn_wide.2 (all_any _ _)).mono ?_; rintro e w' ⟨rfl, rfl⟩)
  have bO := Boxed.new (w.alloc (.cells #[.int .i64 m] 3)) 27 (.slice none 0 0)
  have bN := Boxed.new ((w.alloc (.cells #[.int .i64 m] 3)).alloc (.cells #[.slice none 0 0] 27)) 24 (.pointer none)
  rw [World.size_alloc] at bO bN
  rw [World.size_alloc] at bN
  have hB0 : Below w.heap.size w (((w.alloc (.cells #[.int .i64 m] 3)).alloc (.cells #[.slice none 0 0] 27)).alloc (.cells #[.pointer none] 24)) := (((Below.refl _ w).alloc (Nat.le_refl _) _).alloc (by simp) _).alloc (by simp; omega) _
  have hs2 : w.heap.size ≤ (((w.alloc (.cells #[.int .i64 m] 3)).alloc (.cells #[.slice none 0 0] 27)).alloc (.cells #[.pointer none] 24)).heap.size := hB0.size
  refine range_tells (gf := 33) (lb := #[.pointer (some ⟨w.heap.size + 1 + 1, 0, none⟩)]) rfl (enters_of Try.func33 (by kernel_rfl) rfl)
    (all1_nil _ (w.heap.size + 1 + 1) bN.cell (by simp) w.heap.size) Kp.t (Kp.b hs2) (Below.refl _ _) (fun _ => rfl)
    (fun _ W => Boxed W (w.heap.size + 1) 27 (.slice none 0 0) ∧ Below w.heap.size w W)
    (fun _ _ _ => False)
    (OwnFrom.and (Own.from (boxed_own (w.heap.size + 1) 27 (fun _ => .slice none 0 0)) _) (ownFrom_below (Nat.le_refl _) hs2))
    (fun _ _ _ _ _ hs _ _ => hs)
    ⟨bO.alloc _, hB0⟩
    (fun x => { tmps := #[.pointer none, .int .i64 m, undef, .pointer (some ⟨w.heap.size, 0, none⟩), .slice none 0 0, .pointer (some ⟨w.heap.size + 1, 0, none⟩), .string x.1, .int .i64 x.2, .pointer none, .func (.func 33) #[] #[.pointer (some ⟨w.heap.size + 1 + 1, 0, none⟩)], .string x.1, .int .i64 x.2, undef, undef, undef, undef, undef, undef, undef, undef, undef, undef, undef], defers := [] }) ?assign ?body ?done ?stop
  case assign =>
    intro l x W K hK
    simp only [encP]
    gi_wp2
    exact hK
  case body =>
    rintro l pre x W _ hpre
    have := hpre.length_le
    simp at this
  case done =>
    rintro D W hD ⟨hv, hB⟩ hK
    have hc := hv.cell
    gi_wp2
    refine ⟨by simp, .inl ⟨_, _, rfl, run_takeDeferred hK, ?_⟩⟩
    exact ⟨_, results_tmp rfl _ _ _, rfl, hB.trans (below_put _ hK (by omega))⟩
  case stop =>
    rintro D c pre W _ _ h _
    exact h.elim
end Go.Proofs.Ytpapbboihjhmiaa
