/-
  The contracts of nodes, of its function, of All and of its function. Their conditions: the map lies in memory.
-/
import Derived.Test.YtpapbboihjhmiaaW8
namespace Go.Proofs.Ytpapbboihjhmiaa
open Go.RowKit Go.Shelf

attribute [local go_sem] Oper.semAt_some

/-- Every block of the type t lies as it lay. -/
def Keep (t : TypeId) (w w' : World) : Prop := ∀ (b : Nat) (cs : Array Value), w.heap[b]? = some (.cells cs t (0, 0)) → w'.heap[b]? = w.heap[b]?
theorem Keep.refl (t : TypeId) (w : World) : Keep t w w := fun _ _ _ => rfl
theorem Keep.trans {t : TypeId} {a b c : World} (h : Keep t a b) (k : Keep t b c) : Keep t a c := fun i cs hi => by
  have h1 := h i cs hi
  rw [← h1]
  exact k i cs (by rw [h1]; exact hi)
theorem Keep.below {t : TypeId} {w w' : World} (h : Below w.heap.size w w') : Keep t w w' := fun b _ hb => h.block b (Array.getElem?_eq_some_iff.mp hb).1
theorem Keep.put {t : TypeId} {w : World} {l : Nat} {o : Obj} (o' : Obj) (h : w.heap[l]? = some o) (ho : o.isCells = false) : Keep t w (w.putObj l o') := fun b cs hb => by
  refine World.putObj_heap_other ?_
  rintro rfl
  rw [h] at hb
  cases hb
  cases ho
/-- What a round over a map must keep. -/
def Kp (n₀ : Nat) (w w' : World) : Prop := Below n₀ w w' ∧ Keep 32 w w'
theorem Kp.t {n₀ : Nat} {A B C : World} (h : Kp n₀ A B) (k : Kp n₀ B C) : Kp n₀ A C := ⟨h.1.trans k.1, h.2.trans k.2⟩
theorem Kp.b {n₀ : Nat} {w : World} (hn : n₀ ≤ w.heap.size) (W : World) (l : Nat) (o o' : Obj) (hl : w.heap.size ≤ l) (h : W.heap[l]? = some o) (ho : o.isCells = false) : Kp n₀ W (W.putObj l o') :=
  ⟨below_put _ h (by omega), Keep.put _ h ho⟩
theorem Kp.below {n₀ : Nat} {w w' : World} (hn : n₀ ≤ w.heap.size) (h : Below w.heap.size w w') : Kp n₀ w w' := ⟨h.mono hn, Keep.below h⟩

/-- How a node is handed on, and a pair. -/
def encN (x : Nd) : Array Value := #[.pointer (some ⟨x.1, 0, none⟩)]
def encP (x : KV) : Array Value := #[.string x.1, .int .i64 x.2]

set_option maxHeartbeats 1000000 in
theorem nodes1_tells (w0 w : World) (Bt : Nat) (p : Option Addr) (T : Tr) (xs : List Nd) (hN : NdL w0 p T xs) (hb : Below w0.heap.size w0 w) (hc : w.cell? ⟨Bt, 0, none⟩ = some (.pointer p)) (hBt : Bt < w.heap.size) :
    Tells Try.prog 38 #[.pointer (some ⟨Bt, 0, none⟩)] encN (Below w0.heap.size) xs w := by
  intro l J Jx W hW _ _ hY h0
  have hdd : ∀ k : Nat, (Fence.wide.depth.isSome = true → 1 ≤ k) := fun k h => by cases h
  have h38 : Fence.wide.fn 38 := trivial
  have h39 : Fence.wide.fn 39 := trivial
  have hcW : W.cell? ⟨Bt, 0, none⟩ = some (.pointer p) := (hW.cell (p := ⟨Bt, 0, none⟩) hBt).trans hc
  have hp := walk_in l W.heap.size w0 J Jx xs hY T (9 - 1) p xs [] W hN (hb.trans (hW.mono hb.size)) h0 (by simp)
  clear hY h0 hN hb hc hBt
  refine callsIn_of_wp Try.func38 rfl trivial ?_ rfl
  simp only [Try.ntmps38, List.size_toArray, List.length_cons, List.length_nil, Nat.reduceAdd, Nat.reduceSub, Array.replicate_succ, Array.replicate_zero, List.push_toArray, List.append_toArray, List.nil_append, List.cons_append]
  gi_wp2_with ((try refine ⟨hdd _, ?_⟩); gi_at_call 39; refine hp.mono ?_; clear hp; rintro e W1 (⟨rfl, hJ1, _⟩ | ⟨rfl, q, hq, hx⟩))
  · go_end0
    exact ⟨⟨_, rfl⟩, .inl (by simpa using hJ1)⟩
  · go_end0
    exact ⟨⟨_, rfl⟩, .inr ⟨q, hq, by simpa using hx⟩⟩
theorem nodes_any (p : Option Addr) (w : World) : Calls Try.prog 34 #[.pointer p] w fun e w' => e = .returned (.func (.func 38) #[] #[.pointer (some ⟨w.heap.size, 0, none⟩)]) ∧ w' = w.alloc (.cells #[.pointer p] 57) := by
  go_enter Try.func34, Try.ntmps34
  go_wp2
  go_ret
  exact ⟨rfl, rfl⟩
theorem all_any (p : Option Addr) (w : World) : Calls Try.prog 23 #[.pointer p] w fun e w' => e = .returned (.func (.func 33) #[] #[.pointer (some ⟨w.heap.size, 0, none⟩)]) ∧ w' = w.alloc (.cells #[.pointer p] 24) := by
  go_enter Try.func23, Try.ntmps23
  go_wp2
  go_ret
  exact ⟨rfl, rfl⟩
end Go.Proofs.Ytpapbboihjhmiaa
