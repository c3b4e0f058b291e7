/-
  The contracts of told, and of all over a map and over none. Their conditions: the map lies in memory, and has no more keys than a bound.
-/
import Derived.Test.YtpapbboihjhmiaaW10
import Derived.Maps.AppendAt
import Derived.Deep.AppendLies
namespace Go.Proofs.Ytpapbboihjhmiaa
open Go.RowKit Go.Shelf

attribute [local go_sem] Oper.semAt_some

theorem info9 : (Try.prog.info? 9).map (fun i => (i.zero, i.size, i.bytes)) = some (some (.string ⟨#[]⟩), 1, 16) := by kernel_rfl
theorem info39 : (Try.prog.info? 39).map (fun i => (i.zero, i.size, i.bytes)) = some (some (.agg #[.string ⟨#[]⟩, .int .i64 0]), 2, 24) := by kernel_rfl

/-- An append into a row in a box turns no block of a third type. -/
theorem keep_appended {W w1 : World} {n₀ B : Nat} {t e u : TypeId} {size : Nat} {v v' : Value} {k : Nat} {xs : List Value} {tmp : Obj}
    (hv : Boxed W B t v) (hrow : W.ownsRow n₀ e size v k xs) (hgrow : (W.alloc tmp).grownBy w1 v.ownBlock) (htu : t ≠ u) (heu : e ≠ u) : Keep u W (w1.setCell ⟨B, 0, none⟩ v') := by
  intro b cs hb
  have hlt := (Array.getElem?_eq_some_iff.mp hb).1
  have hne : b ≠ B := by
    rintro rfl
    rw [show W.heap[b]? = _ from hv] at hb
    injection hb with hb
    injection hb with _ h2
    exact htu h2
  have hnr : some b ≠ v.ownBlock := by
    intro h
    rcases hrow.2 with ⟨rfl, _⟩ | ⟨g, cap, cur, rfl, _, hgb, _⟩
    · simp [Value.ownBlock] at h
    · obtain rfl : b = g := by simpa [Value.ownBlock] using h
      rw [hgb] at hb
      injection hb with hb
      injection hb with _ h2
      exact heu h2
  rw [Below.heap_setCell _ _ _ _ hne, hgrow.block b (by simp; omega) hnr, Below.heap_alloc _ _ _ hlt]

/-- The keys whose value is their length. -/
def keysOf (L : List KV) : List ByteArray := (L.filter fun p => decide (p.2 = (p.1.size : Int))).map (·.1)
theorem keysOf_hit (L : List KV) (k : ByteArray) : keysOf (L ++ [(k, (k.size : Int))]) = keysOf L ++ [k] := by simp [keysOf]
theorem keysOf_miss (L : List KV) {k : ByteArray} {v : Int} (h : ¬ v = (k.size : Int)) : keysOf (L ++ [(k, v)]) = keysOf L := by simp [keysOf, h]
theorem keysOf_len (L : List KV) : (keysOf L).length ≤ L.length := by simp only [keysOf, List.length_map]; exact List.length_filter_le _ _

set_option maxRecDepth 100000 in
set_option maxHeartbeats 2000000 in
theorem told_any (g : Nat) (L : List KV) (w : World) (hM : MapAt w g L) (hlen : L.length ≤ 100000) :
    Calls Try.prog 28 #[.pointer (some ⟨g, 0, none⟩)] w fun e w' => ∃ v, e = .returned v ∧ w'.ownsRow w.heap.size 9 1 v (keysOf L).length ((keysOf L).map Value.string) ∧ Below w.heap.size w w' := by
  refine (callsIn_wide (n := 9)).1 ?_
  obtain ⟨i0, hi, hz0, hz1, hz2⟩ := info_parts info9
  have hdd : ∀ k : Nat, (Fence.wide.depth.isSome = true → 1 ≤ k) := fun k h => by cases h
  have h23 : Fence.wide.fn 23 := trivial
  have h33 : Fence.wide.fn 33 := trivial
  refine callsIn_of_wp_marks Try.func28 rfl trivial ?_ rfl
  simp only [Try.ntmps28, List.size_toArray, List.length_cons, List.length_nil, Nat.reduceAdd, Nat.reduceSub, Array.replicate_succ, Array.replicate_zero, List.push_toArray, List.append_toArray, List.nil_append, List.cons_append]
  gi_wp2_with ((try refine ⟨hdd _, ?_⟩); gi_at_call 23; refine (callsIn_wide.2 (all_any _ _)).mono ?_; rintro e w' ⟨rfl, rfl⟩)
  have bO := Boxed.new w 46 (.slice none 0 0)
  have bN := Boxed.new (w.alloc (.cells #[.slice none 0 0] 46)) 24 (.pointer (some ⟨g, 0, none⟩))
  rw [World.size_alloc] at bN
  have hB0 : Below w.heap.size w ((w.alloc (.cells #[.slice none 0 0] 46)).alloc (.cells #[.pointer (some ⟨g, 0, none⟩)] 24)) := ((Below.refl _ w).alloc (Nat.le_refl _) _).alloc (by simp) _
  have hs2 : w.heap.size ≤ ((w.alloc (.cells #[.slice none 0 0] 46)).alloc (.cells #[.pointer (some ⟨g, 0, none⟩)] 24)).heap.size := hB0.size
  refine range_tells (gf := 33) (lb := #[.pointer (some ⟨w.heap.size + 1, 0, none⟩)]) rfl (enters_of Try.func33 (by kernel_rfl) rfl)
    (all1_tells w _ (w.heap.size + 1) g L hM hB0 bN.cell (by simp)) Kp.t (Kp.b hs2) (Below.refl _ _) (fun _ => rfl)
    (fun pre W => (∃ v, Boxed W w.heap.size 46 v ∧ W.ownsRow w.heap.size 9 1 v (keysOf pre).length ((keysOf pre).map Value.string) ∧ True) ∧ Below w.heap.size w W)
    (fun _ _ _ => False)
    (OwnFrom.and (Own.from (holdsRow_own w.heap.size w.heap.size 46 9 1 (fun pre => (keysOf pre).length) (fun pre => (keysOf pre).map Value.string) (fun _ _ => True)) _) (ownFrom_below (Nat.le_refl _) hs2))
    (fun _ _ _ _ _ hs _ _ => hs)
    ⟨⟨_, bO.alloc _, World.ownsRow_nil _ _ _ _, trivial⟩, hB0⟩
    (fun x => { tmps := #[.pointer (some ⟨g, 0, none⟩), undef, .slice none 0 0, .pointer (some ⟨w.heap.size, 0, none⟩), .string x.1, .int .i64 x.2, .pointer (some ⟨g, 0, none⟩), .func (.func 33) #[] #[.pointer (some ⟨w.heap.size + 1, 0, none⟩)], .string x.1, .int .i64 x.2, undef, undef, undef, undef, undef, undef, undef, undef, undef], defers := [] }) ?assign ?body ?done ?stop
  case assign =>
    intro l x W K hK
    simp only [encP]
    gi_wp2
    exact hK
  case body =>
    rintro l pre ⟨k, x⟩ W ⟨⟨v, hv, hrow, _⟩, hB⟩ hpre
    have hc := hv.cell
    have hpl := keysOf_len pre
    have hp2 : pre.length + 1 ≤ L.length := by have := hpre.length_le; simpa using this
    have hm1 : (keysOf pre).length + 1 ≤ maxLen := by unfold maxLen; omega
    have hm2 : ((keysOf pre).length + 1) * 16 ≤ 140737488355328 := by omega
    have hsz := hB.size
    clear hpl hp2 hs2 hpre
    by_cases hx : x = (k.size : Int)
    · subst hx
      gi_wp2_with (gi_at_builtin; refine wpListIn_append_own _ rfl _ _ 46 rfl w.heap.size 9 i0 (.string ⟨#[]⟩) 1 16 Try.underlying46 hi hz0 hz1 hz2 rfl (by decide) _ _ _ rfl (hrow.alloc _) ⟨W.heap.size, 0, none⟩ 1 1 [.string k] rfl rfl (cell_one_new _ _ _) (by simp [Value.oneCell']) hm1 hm2 (by simp; omega) ?_; intro v' w1 hown' hgrow _; obtain ⟨g', cap', rfl⟩ := ownsRow_succ hown'; obtain ⟨hv1, hv2, hr2, hk2, hb2⟩ := hv.appended (by decide) hrow hsz (Nat.le_refl _) hown' hgrow; have hkk := keep_appended (v' := Value.slice (some ⟨g', 0, none⟩) ((keysOf pre).length + 1) cap') (u := 32) hv hrow hgrow (by decide) (by decide); have hc1 := hv1.cell; have hf1 := hv1.frozen)
      exact ⟨hk2.from _, ⟨hb2, hkk⟩, ⟨_, hv2, by rw [keysOf_hit]; simpa using hr2, trivial⟩, hB.trans hb2⟩
    · gi_wp2
      exact ⟨KeepsFrom.refl _ _, ⟨Below.refl _ _, Keep.refl _ _⟩, ⟨v, hv, by rw [keysOf_miss pre hx]; exact hrow, trivial⟩, hB⟩
  case done =>
    rintro D W hD ⟨⟨v, hv, hrow, _⟩, hB⟩ hK
    have hc := hv.cell
    gi_wp2
    refine ⟨by simp, .inl ⟨_, _, rfl, run_takeDeferred hK, ?_⟩⟩
    exact ⟨_, results_tmp rfl _ _ _, v, rfl, ownsRow_putObj hrow _ hK rfl, hB.trans (below_put _ hK (by omega))⟩
  case stop =>
    rintro D c pre W _ _ h _
    exact h.elim
end Go.Proofs.Ytpapbboihjhmiaa
