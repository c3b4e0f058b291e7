/-
  The contracts of Backward's function and of Backward. A region that draws its order, in a round of a range over a function. Their conditions: the pending writes lie in memory.
-/
import Derived.Test.YtppdckncnfffcaaW7
import Derived.Shelf.Abstract
import Derived.Shelf.RegionOpen
import Derived.OwnWalkIn
import Derived.TacticsInMore
import Derived.LoopNIn
import Derived.LoopIn
namespace Go.Proofs.Ytppdckncnfffcaa
open Go.RowKit Go.Shelf
set_option maxRecDepth 100000

attribute [local go_sem] Oper.semAt_some

/-- What a round must keep: what lies below n₀; of what lies below n₁, and of all cells, all but sectors. -/
def Kp (n₀ n₁ : Nat) (W W' : World) : Prop := Below n₀ W W' ∧ ∀ (b : Nat) (o : Obj), W.heap[b]? = some o → (b < n₁ ∨ o.isCells = true) → kd o ≠ 86 → W'.heap[b]? = some o
section
variable {n₀ n₁ : Nat} {A B C : World}
theorem Kp.refl (n₀ n₁ : Nat) (A : World) : Kp n₀ n₁ A A := ⟨Below.refl _ _, fun _ _ h _ _ => h⟩
theorem Kp.t (h : Kp n₀ n₁ A B) (k : Kp n₀ n₁ B C) : Kp n₀ n₁ A C := ⟨h.1.trans k.1, fun b o hb h1 h2 => k.2 b o (h.2 b o hb h1 h2) h1 h2⟩
theorem Kp.below (h : Below A.heap.size A B) (hn : n₀ ≤ A.heap.size) : Kp n₀ n₁ A B := ⟨h.mono hn, fun b _ hb _ _ => (h.block b (lt_of_heap hb)).trans hb⟩
theorem Kp.b {w : World} (h0 : n₀ ≤ w.heap.size) (h1 : n₁ ≤ w.heap.size) (W : World) (l : Nat) (o o' : Obj) (hl : w.heap.size ≤ l) (h : W.heap[l]? = some o) (ho : o.isCells = false) : Kp n₀ n₁ W (W.putObj l o') :=
  ⟨below_put o' h (by omega), fun b x hb hx _ => by
    rw [World.putObj_heap_other (fun e => ?_)]
    · exact hb
    · subst e
      rw [h] at hb
      cases hb
      rcases hx with hx | hx
      · omega
      · rw [ho] at hx
        cases hx⟩
theorem Kp.own {β : Type} {b : Nat} {w : World} (hw : n₀ ≤ w.heap.size) (h0 : n₀ ≤ b) (h1 : n₁ ≤ b) : OwnFrom b (fun (_ : β) W => Kp n₀ n₁ w W) := by
  intro _ X Y row hs hg hr
  have hsz := hs.1.size
  refine hs.t ⟨⟨hg.os, hg.tape, hg.output, hg.size, fun k hk => ?_⟩, fun k o hk hx _ => ?_⟩
  · exact hg.block k (by omega) (fun he => by have := (hr k he.symm).1; omega)
  · rw [hg.block k (lt_of_heap hk) (fun he => ?_)]
    · exact hk
    · obtain ⟨h2, o2, h3, h4⟩ := hr k he.symm
      rw [hk] at h3
      cases h3
      rcases hx with hx | hx
      · omega
      · rw [h4] at hx
        cases hx
theorem Kp.row {e : TypeId} {α : Type} {E : Enc α} {base : Nat} {v : Value} {l : List α} (h : Kp n₀ n₁ A B) (hr : RowT E e A base v l) (he : e ≠ 86) : RowT E e B base v l := by
  refine ⟨hr.1, ?_⟩
  rcases hr.2 with h2 | ⟨g, cap, cur, hv, h1, hg, rest⟩
  · exact .inl h2
  · exact .inr ⟨g, cap, cur, hv, h1, h.2 g _ hg (.inr rfl) he, rest⟩
theorem Kp.cell {b : Nat} {cs : Array Value} {t : TypeId} (h : Kp n₀ n₁ A B) (hb : A.heap[b]? = some (.cells cs t (0, 0))) (ht : t ≠ 86) : B.heap[b]? = some (.cells cs t (0, 0)) := h.2 b _ hb (.inr rfl) ht
end

/-- The pending writes from the last one on, with their numbers. -/
def backL (l : List Wr) : List (Wr × Nat) := l.zipIdx.reverse
theorem backL_map (l : List Wr) : (backL l).map (·.1) = l.reverse := by simp [backL]
theorem backL_length (l : List Wr) : (backL l).length = l.length := by simp [backL]
theorem backL_take {l : List Wr} {j : Nat} (h : j < l.length) : (backL l).take (l.length - j) = (backL l).take (l.length - (j + 1)) ++ [(l[j], j)] := by
  have e : l.length - j = (l.length - (j + 1)) + 1 := by omega
  have hl : l.length - (j + 1) < (backL l).length := by rw [backL_length]; omega
  rw [e, List.take_succ_eq_append_getElem hl]
  congr 2
  simp only [backL, List.getElem_reverse, List.getElem_zipIdx, List.length_zipIdx]
  have e2 : l.length - 1 - (l.length - (j + 1)) = j := by omega
  simp [e2]
def encB (x : Wr × Nat) : Array Value := #[.int .i64 (x.2 : Int), wrV x.1]

section
variable {F : Fence} {n : Nat} {P : Program} {w w' : World} {ops : Array Oper} {rest : List Oper} {o : Oper} {a : Act} {Q : Exit → Act → World → Prop} {v : Value}
theorem wpListIn_value (hgd : o.guard = none) (hab : o.about P w a.eval = none) (hnd : ∀ c, o.op ≠ .defer c) (hr : (execOp a.eval o).run P w = .ok (.value v) w') (h : wpListIn F n P ops Q rest (a.put o.dst v) w') : wpListIn F n P ops Q (o :: rest) a w := by
  refine wpListIn_plain hgd fun K hK => ?_
  unfold Oper.wpIn
  refine ⟨fun f hf => (by rw [hab] at hf; cases hf), ?_⟩
  rw [Oper.semAt_plain F _ _ hnd, hr]
  exact hK _ _ h
theorem wpListIn_unit (hgd : o.guard = none) (hab : o.about P w a.eval = none) (hnd : ∀ c, o.op ≠ .defer c) (hr : (execOp a.eval o).run P w = .ok .skip w') (h : wpListIn F n P ops Q rest (a.put o.dst undef) w') : wpListIn F n P ops Q (o :: rest) a w := by
  refine wpListIn_plain hgd fun K hK => ?_
  unfold Oper.wpIn
  refine ⟨fun f hf => (by rw [hab] at hf; cases hf), ?_⟩
  rw [Oper.semAt_plain F _ _ hnd, hr]
  exact hK _ _ h
end
theorem idx129 {b k n c : Nat} (hk : k < n) (w : World) : (Instr.indexAt 62 (.slice (some ⟨b, 0, none⟩) n c) (.int .i64 (k : Int))).run Try.prog w = .ok (.pointer (some ⟨b, k * 129, none⟩)) w := by
  have h : (0 : Int) ≤ (k : Int) ∧ (k : Int) < (n : Int) := by omega
  have h2 : ¬ n ≤ k := by omega
  simp [Instr.indexAt, asIntOf, Result.andThen, h, h2, addr_at]
/-- A pending write of a row. -/
theorem RowT.wr {w : World} {base : Nat} {v : Value} {l : List Wr} (h : RowT eWr 88 w base v l) {k : Nat} (hk : k < l.length) (hm : l.length ≤ maxLen) : ∃ b c, v = .slice (some ⟨b, 0, none⟩) l.length c ∧ w.rangeAt b (k * 129) (eWr.f l[k]) := by
  obtain ⟨A, c, rfl, hs, _, _, hz⟩ := h.sl hm
  obtain ⟨b, off, rfl, _, hc⟩ := hs.at_ hk
  obtain ⟨b', e, _⟩ := hz _ rfl
  cases e
  refine ⟨b, c, rfl, fun j u hu => ?_⟩
  have := hc j u hu
  rw [show eWr.wd = 129 from rfl, Nat.zero_add] at this
  exact this

set_option maxRecDepth 100000 in
set_option maxHeartbeats 2000000 in
theorem back1_tells (w : World) (n₀ n₁ base Bb : Nat) (v : Value) (l : List Wr) (hb : w.heap[Bb]? = some (.cells #[v] 62 (0, 0))) (hr : RowT eWr 88 w base v l) (hl : l.length ≤ 1000000) (h0 : n₀ ≤ w.heap.size) :
    Tells Try.prog 57 #[.pointer (some ⟨Bb, 0, none⟩)] encB (Kp n₀ n₁) (backL l) w := by
  intro ly J Jx W hW hJ hJx hY hJ0
  have hdd : ∀ k : Nat, (Fence.wide.depth.isSome = true → 1 ≤ k) := fun k h => by cases h
  have h34 : Fence.wide.fn 34 := trivial
  have hbW : W.heap[Bb]? = some (.cells #[v] 62 (0, 0)) := (hW.block Bb (lt_of_heap hb)).trans hb
  have hrW := hr.below hW
  have hn0 : n₀ ≤ W.heap.size := Nat.le_trans h0 hW.size
  obtain ⟨A, c, rfl, _⟩ := hrW.form
  have cb : W.cell? ⟨Bb, 0, none⟩ = some (.slice A l.length c) := by rw [cell_of hbW]; rfl
  have HB := Lib.hid hbW
  have HR := Lib.hid hrW
  have HY := Lib.hid hY
  obtain ⟨m, hm⟩ : ∃ m, m = l.length := ⟨_, rfl⟩
  rw [← hm] at cb
  have hm2 : (m : Int) ≤ 1000000 := by omega
  have hw : IntKind.i64.wrap ((m : Int) - 1) = (m : Int) - 1 := IntWalk.i64_in _ (by omega)
  have hm1 := Lib.hid hm
  clear hb hr hbW hrW hY hm h0 hW hJ hJx
  refine callsIn_of_wp Try.func57 rfl trivial ?_ rfl
  simp only [Try.ntmps57, List.size_toArray, List.length_cons, List.length_nil, Nat.reduceAdd, Nat.reduceSub, Array.replicate_succ, Array.replicate_zero, List.push_toArray, List.append_toArray, List.nil_append, List.cons_append]
  gi_wp2
  gi_loopw [3] (fun s3 wr => ∃ k : Nat, k ≤ m ∧ s3 = .int .i64 ((k : Int) - 1) ∧ J ((backL l).take (m - k)) wr ∧ Kp n₀ n₁ W wr) (fun s _ => (intOf s + 1).toNat)
  case atStart => exact ⟨m, Nat.le_refl _, rfl, by simpa using hJ0, Kp.refl _ _ _⟩
  case round =>
    obtain ⟨k, hk, rfl, hj, hkp⟩ := hrel
    cases k with
    | zero =>
      have e : ((0 : Nat) : Int) - 1 = -1 := by omega
      rw [e]
      have HE : Hid (J (backL l) wr) := by
        have h2 : (backL l).take (m - 0) = backL l := List.take_of_length_le (by rw [backL_length, hm1.out]; omega)
        rw [h2] at hj
        exact hj
      clear hj
      gi_wp2
      go_end0
      exact ⟨⟨_, rfl⟩, .inl HE.out⟩
    | succ j =>
      have e : ((j + 1 : Nat) : Int) - 1 = (j : Int) := by omega
      rw [e]
      have hjl : j < l.length := by rw [← hm1.out]; omega
      have hrr := hkp.row HR.out (by decide)
      obtain ⟨b, c2, hv, hrg⟩ := hrr.wr hjl (by unfold maxLen; omega)
      cases hv
      have cb2 : wr.cell? ⟨Bb, 0, none⟩ = some (.slice (some ⟨b, 0, none⟩) m c) := by rw [cell_of (hkp.cell HB.out (by decide)), hm1.out]; rfl
      have HW := Lib.hid hrg
      have HT : Hid ((backL l).take (m - j) = (backL l).take (m - (j + 1)) ++ [(l[j], j)]) := by rw [hm1.out]; exact backL_take hjl
      obtain ⟨fn, tmps, assign, body, hy, hR⟩ := HY.out _ (l[j], j) wr hj (by rw [← HT.out]; exact List.take_prefix _ _)
      rw [← HT.out] at hR
      dsimp only [encB] at hy
      generalize l[j] = x at hy HW HT
      have hR2 : RoundIn Fence.wide 9 Try.prog ly fn tmps assign body wr (fun e W' => (e = .returned (.bool true) ∧ J ((backL l).take (m - j)) W' ∧ Kp n₀ n₁ W W') ∨ (e = .returned (.bool false) ∧ Jx ((backL l).take (m - j)) W')) :=
        hR.mono fun e W' h => h.elim (fun ⟨h1, h2, h3, _⟩ => .inl ⟨h1, h2, hkp.t h3⟩) (fun ⟨h1, h2, _⟩ => .inr ⟨h1, h2⟩)
      have HJ : Hid (j + 1 ≤ m) := hk
      have hjm : (j : Int) < (m : Int) := by omega
      have hj0 : (0 : Int) ≤ (j : Int) := by omega
      have hw2 : IntKind.i64.wrap ((j : Int) - 1) = (j : Int) - 1 := IntWalk.i64_in _ (by omega)
      have HR2 := Lib.hid hR2
      clear hR hR2 hrr hrg hj hkp hjl e hk
      gi_wp2_with (first
        | (refine wpListIn_value rfl rfl (fun _ h => by cases h) (exec_load rfl rfl (load74 HW.out)) ?_)
        | ((try refine ⟨hdd _, ?_⟩); refine (round_any HR2.out).mono ?_; rintro e W3 (⟨rfl, hj3, hk3⟩ | ⟨rfl, hx3⟩)))
      · go_roundw
        case rel => exact ⟨j, by have := HJ.out; omega, rfl, hj3, hk3⟩
        case measure => simp [intOf]
      · refine bodyPost_ret (results_none rfl _ _ _) rfl ?_
        exact ⟨⟨_, rfl⟩, .inr ⟨_, List.take_prefix _ _, hx3⟩⟩
theorem back_any (A : Option Addr) (n c : Nat) (w : World) : Calls Try.prog 51 #[.slice A n c] w fun e w' => e = .returned (.func (.func 57) #[] #[.pointer (some ⟨w.heap.size, 0, none⟩)]) ∧ w' = w.alloc (.cells #[.slice A n c] 62) := by
  go_enter Try.func51, Try.ntmps51
  go_wp2
  go_ret
  exact ⟨rfl, rfl⟩
end Go.Proofs.Ytppdckncnfffcaa
