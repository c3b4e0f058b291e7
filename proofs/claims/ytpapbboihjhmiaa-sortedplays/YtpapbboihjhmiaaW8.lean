/-
  The contracts of walk, of nodes and its function, of All. Their conditions: the tree lies in memory.
-/
import Derived.Test.YtpapbboihjhmiaaW6
import Derived.Test.YtpapbboihjhmiaaW7
import Derived.Shelf.Abstract
import Derived.Shelf.RegionOpen
import Derived.OwnWalkIn
import Derived.TacticsInMore
import Derived.LoopNIn
import Derived.LoopIn
namespace Go.Proofs.Ytpapbboihjhmiaa
open Go.RowKit Go.Shelf

attribute [local go_sem] Oper.semAt_some

/-- A node as a walk tells it: its block, its key, its value. -/
abbrev Nd := Nat × ByteArray × Int
/-- The nodes of a tree, rising. -/
def NdL (w : World) : Option Addr → Tr → List Nd → Prop
  | p, .nil, xs => p = none ∧ xs = []
  | p, .nd l k v r, xs => ∃ b pl pr xl xr, p = some ⟨b, 0, none⟩ ∧ Node w b k v pl pr ((1 + max l.ht r.ht : Nat) : Int) ∧ NdL w pl l xl ∧ NdL w pr r xr ∧ xs = xl ++ (b, k, v) :: xr
theorem NdL.some {w : World} : ∀ {t : Tr} {p : Option Addr}, TrAt w p t → ∃ xs, NdL w p t xs
  | .nil, _, h => ⟨[], h, rfl⟩
  | .nd _ k v _, _, ⟨b, pl, pr, hp, hb, hl, hr⟩ => by
    obtain ⟨xl, h1⟩ := NdL.some hl
    obtain ⟨xr, h2⟩ := NdL.some hr
    exact ⟨xl ++ (b, k, v) :: xr, b, pl, pr, xl, xr, hp, hb, h1, h2, rfl⟩
theorem NdL.kvs {w : World} : ∀ {t : Tr} {p : Option Addr} {xs : List Nd}, NdL w p t xs → xs.map (fun x => x.2) = t.toL ∧ ∀ x ∈ xs, Mid w x.1 x.2.1 x.2.2
  | .nil, _, _, ⟨_, h⟩ => by subst h; exact ⟨rfl, by simp⟩
  | .nd _ k v _, _, _, ⟨b, pl, pr, xl, xr, _, hb, h1, h2, h⟩ => by
    subst h
    obtain ⟨a1, a2⟩ := NdL.kvs h1
    obtain ⟨b1, b2⟩ := NdL.kvs h2
    refine ⟨by simp [Tr.toL, a1, b1], fun x hx => ?_⟩
    rcases List.mem_append.mp hx with hx | hx
    · exact a2 x hx
    · rcases List.mem_cons.mp hx with rfl | hx
      · exact ⟨pl, pr, _, hb⟩
      · exact b2 x hx

/-- How a walk ends. -/
def WalkPost (n₀ : Nat) (J Jx : List Nd → World → Prop) (pre xs : List Nd) (W : World) (e : Ending) (W' : World) : Prop :=
  (e = .returned (.bool true) ∧ J (pre ++ xs) W' ∧ Below n₀ W W') ∨ (e = .returned (.bool false) ∧ ∃ q, q <+: xs ∧ Jx (pre ++ q) W')
set_option maxHeartbeats 1000000 in
theorem walk_nil (l : Nat) (W : World) : Calls Try.prog 39 #[.pointer none, .func (.yield l) #[] #[]] W fun e W' => e = .returned (.bool true) ∧ W = W' := by
  go_enter Try.func39, Try.ntmps39
  go_wp2
  go_ret
  exact ⟨rfl, rfl⟩
set_option maxRecDepth 100000 in
set_option maxHeartbeats 2000000 in
theorem walk_in (l B : Nat) (w0 : World) (J Jx : List Nd → World → Prop) (L : List Nd)
    (hY : ∀ pre x W1, J pre W1 → pre ++ [x] <+: L → YieldAt Fence.wide 9 Try.prog l #[.pointer (some ⟨x.1, 0, none⟩)] W1 fun e W' =>
      (e = .returned (.bool true) ∧ J (pre ++ [x]) W' ∧ Below w0.heap.size W1 W' ∧ KeepsFrom B W1 W') ∨ (e = .returned (.bool false) ∧ Jx (pre ++ [x]) W' ∧ KeepsFrom B W1 W')) (T : Tr) :
    ∀ (n : Nat) (p : Option Addr) (xs pre : List Nd) (W : World), NdL w0 p T xs → Below w0.heap.size w0 W → J pre W → pre ++ xs <+: L →
      CallsIn Fence.wide n Try.prog 39 #[.pointer p, .func (.yield l) #[] #[]] W (WalkPost w0.heap.size J Jx pre xs W) := by
  induction T with
  | nil =>
    intro n p xs pre W ht _ hJ _
    obtain ⟨rfl, rfl⟩ := ht
    refine callsIn_wide.2 ((walk_nil l W).mono ?_)
    rintro e W' ⟨rfl, rfl⟩
    exact .inl ⟨rfl, by simpa using hJ, Below.refl _ _⟩
  | nd tl k v tr ihl ihr =>
    intro n p xs pre W ht hW hJ hL
    obtain ⟨b, pl, pr, xl, xr, rfl, hb, hl, hr, rfl⟩ := ht
    have h39 : Fence.wide.fn 39 := trivial
    have hdd : ∀ k : Nat, (Fence.wide.depth.isSome = true → 1 ≤ k) := fun k h => by cases h
    have hbl : b < w0.heap.size := hb.lt
    have cc : ∀ W', Below w0.heap.size w0 W' → W'.cell? ⟨b, 2, none⟩ = some (.pointer pl) ∧ W'.cell? ⟨b, 3, none⟩ = some (.pointer pr) := fun W' h => ⟨(hb.keep (Nodes.below h)).c2, (hb.keep (Nodes.below h)).c3⟩
    obtain ⟨c2, c3⟩ := cc W hW
    have hp1 : pre ++ xl <+: L := List.IsPrefix.trans ⟨(b, k, v) :: xr, by simp⟩ hL
    have hp2 : pre ++ xl ++ [(b, k, v)] <+: L := List.IsPrefix.trans ⟨xr, by simp⟩ hL
    have hp3 : pre ++ xl ++ [(b, k, v)] ++ xr <+: L := by simpa using hL
    have hy2 : ∀ W1, J (pre ++ xl) W1 → Below w0.heap.size W W1 → YieldAt Fence.wide (n - 1) Try.prog l #[.pointer (some ⟨b, 0, none⟩)] W1 fun e W2 =>
        (e = .returned (.bool true) ∧ W2.cell? ⟨b, 3, none⟩ = some (.pointer pr) ∧ Below w0.heap.size W W2 ∧ Hid (CallsIn Fence.wide (n - 1) Try.prog 39 #[.pointer pr, .func (.yield l) #[] #[]] W2 (WalkPost w0.heap.size J Jx (pre ++ xl ++ [(b, k, v)]) xr W2))) ∨ (e = .returned (.bool false) ∧ Jx (pre ++ xl ++ [(b, k, v)]) W2) := fun W1 hJ1 hb1 =>
      YieldAt.mono (yield_any (hY _ (b, k, v) W1 hJ1 hp2)) fun e W2 h => h.elim
        (fun ⟨he, hj, hb2, _⟩ => .inl ⟨he, (cc _ (hW.trans (hb1.trans hb2))).2, hb1.trans hb2, ihr (n - 1) pr xr _ W2 hr (hW.trans (hb1.trans hb2)) hj hp3⟩) (fun ⟨he, hj, _⟩ => .inr ⟨he, hj⟩)
    have ih1 := (ihl (n - 1) pl xl pre W hl hW hJ hp1).mono (R' := fun e W1 =>
        (e = .returned (.bool true) ∧ YieldAt Fence.wide (n - 1) Try.prog l #[.pointer (some ⟨b, 0, none⟩)] W1 fun e W2 =>
          (e = .returned (.bool true) ∧ W2.cell? ⟨b, 3, none⟩ = some (.pointer pr) ∧ Below w0.heap.size W W2 ∧ Hid (CallsIn Fence.wide (n - 1) Try.prog 39 #[.pointer pr, .func (.yield l) #[] #[]] W2 (WalkPost w0.heap.size J Jx (pre ++ xl ++ [(b, k, v)]) xr W2))) ∨ (e = .returned (.bool false) ∧ Jx (pre ++ xl ++ [(b, k, v)]) W2)) ∨
        (e = .returned (.bool false) ∧ ∃ q, q <+: xl ∧ Jx (pre ++ q) W1))
      (fun e W1 h => h.elim (fun ⟨he, hj, hb1⟩ => .inl ⟨he, hy2 W1 hj hb1⟩) .inr)
    clear hy2 ihl ihr hY cc hp1 hp2 hp3 hL hW hJ hl hr hb hbl
    refine callsIn_of_wp Try.func39 rfl trivial ?_ rfl
    simp only [Try.ntmps39, List.size_toArray, List.length_cons, List.length_nil, Nat.reduceAdd, Nat.reduceSub, Array.replicate_succ, Array.replicate_zero, List.push_toArray, List.append_toArray, List.nil_append, List.cons_append]
    gi_wp2_with (first
      | ((try refine ⟨hdd _, ?_⟩); gi_at_call 39; refine ih1.mono ?_; clear ih1; rintro e W1 (⟨rfl, fn, tmps, assign, body, hy, hR⟩ | ⟨rfl, q, hq, hx1⟩))
      | ((try refine ⟨hdd _, ?_⟩); refine hR.mono ?_; clear hR; rintro e W2 (⟨rfl, c3', hb2, hr2⟩ | ⟨rfl, hx2⟩))
      | ((try refine ⟨hdd _, ?_⟩); gi_at_call 39; refine hr2.out.mono ?_; clear hr2; rintro e W3 (⟨rfl, hJ3, hb3⟩ | ⟨rfl, q, hq, hx3⟩)))
    · go_ret
      exact .inl ⟨rfl, by simpa using hJ3, hb2.trans hb3⟩
    · go_ret
      obtain ⟨r, hr'⟩ := hq
      exact .inr ⟨rfl, xl ++ (b, k, v) :: q, ⟨r, by simp [← hr']⟩, by simpa using hx3⟩
    · go_ret
      exact .inr ⟨rfl, xl ++ [(b, k, v)], ⟨xr, by simp⟩, by simpa using hx2⟩
    · refine ⟨fun _ h => (by cases h), ?_⟩
      gi_wp2
      go_ret
      exact .inr ⟨rfl, q, hq.trans (by simp), hx1⟩
end Go.Proofs.Ytpapbboihjhmiaa
