/-
  A map from numbers to Puts. A disk that is written, and read: what each sector has. Their conditions: none.
-/
import Derived.Test.YtghfhjeaiiianaaW15
import Derived.Maps.OwnSet
namespace Go.Proofs.Ytghfhjeaiiianaa
open Go.RowKit Go.Maps Go.ChangeMaps

/-! ### The map -/
/-- How a Put reads. -/
def dPt (x : Pt) : DataW Unit := .agg [.lit (.int .i64 x.a), .lit (.int .u8 (x.f.toNat : Int)), .lit (.bool x.s)]
theorem ptV_inj {x y : Pt} (h : ptV x = ptV y) : x = y := by
  obtain ⟨a, f, s⟩ := x
  obtain ⟨b, g, t⟩ := y
  simp only [ptV, Value.agg.injEq, Array.mk.injEq, List.cons.injEq, Value.int.injEq, Value.bool.injEq, and_true, true_and] at h
  obtain ⟨rfl, h2, rfl⟩ := h
  have : f = g := UInt8.toNat_inj.mp (by omega)
  subst this
  rfl
theorem dPt_inj {x y : Pt} (h : dPt x = dPt y) : x = y := by
  obtain ⟨a, f, s⟩ := x
  obtain ⟨b, g, t⟩ := y
  simp only [dPt, DataW.agg.injEq, List.cons.injEq, DataW.lit.injEq, Lit.int.injEq, Lit.bool.injEq, and_true, true_and] at h
  obtain ⟨rfl, h2, rfl⟩ := h
  have : f = g := UInt8.toNat_inj.mp (by omega)
  subst this
  rfl
open Classical in
noncomputable def pE (v : Value) : Option (DataW Unit × List MemPlace) := if h : ∃ x, ptV x = v then some (dPt (Classical.choose h), []) else none
theorem pE_mk (x : Pt) : pE (ptV x) = some (dPt x, []) := by
  unfold pE
  have h : ∃ y, ptV y = ptV x := ⟨x, rfl⟩
  rw [dif_pos h, ptV_inj (Classical.choose_spec h)]
theorem pE_inv {v : Value} {d : DataW Unit} {ps : List MemPlace} (h : pE v = some (d, ps)) : ∃ x, v = ptV x ∧ d = dPt x := by
  unfold pE at h
  split at h
  · rename_i hx
    simp only [Option.some.injEq, Prod.mk.injEq] at h
    exact ⟨_, (Classical.choose_spec hx).symm, h.1.symm⟩
  · cases h
theorem law3 : Keyed Try.prog 3 := int_keyed Try.underlying3
def kInt (k : Nat) : Lit := .int .i64 (k : Int)
theorem kInt_inj {a b : Nat} (h : kInt a = kInt b) : a = b := by
  simp only [kInt, Lit.int.injEq, true_and] at h
  omega
theorem kInt_key (k : Nat) : WideAt.IsKeyLit (kInt k) := trivial
theorem keyOf3 {k : Nat} (h : k ≤ 1000000) : keyOf Try.prog 3 (.int .i64 (k : Int)) = some (kInt k) := keyOf_int_mk Try.underlying3 (WalkArith.wf_i64 (by omega))
def z56 : Pt := ⟨0, 0, false⟩
theorem zero56 (w : World) : (zeroValue 56).run Try.prog w = .ok (ptV z56) w := by kernel_rfl
/-- The map in block M tells F; it has no more than n entries. -/
def MapM (w : World) (M : Nat) (F : Nat → Option Pt) (n : Nat) : Prop := ∃ D : DataW Unit, w.ownsMap Try.prog 3 pE M n D ∧ ∀ k z, D.atKey (kInt k) z = (match F k with | some x => dPt x | none => z)
theorem MapM.isMap {w : World} {M n : Nat} {F : Nat → Option Pt} (h : MapM w M F n) : ∃ es c, w.heap[M]? = some (.map es c) := by
  obtain ⟨D, ⟨es, c, hb, _⟩, _⟩ := h
  exact ⟨es, c, hb⟩
theorem MapM.keep {w w' : World} {M n : Nat} {F : Nat → Option Pt} (h : MapM w M F n) (hb : w'.heap[M]? = w.heap[M]?) : MapM w' M F n := by
  obtain ⟨D, ⟨es, c, h1, h2⟩, h3⟩ := h
  exact ⟨D, ⟨es, c, hb.trans h1, h2⟩, h3⟩
theorem MapM.fr {w w' : World} {M n : Nat} {F : Nat → Option Pt} {l ms : List Nat} {base : Nat} (h : MapM w M F n) (hf : Fr l ms base w w') (hl : 1000 ∉ l) (hm : M ∉ ms) : MapM w' M F n := by
  obtain ⟨es, c, hb⟩ := h.isMap
  exact h.keep (by rw [hf.keep M _ hb hl hm, hb])
theorem MapM.below {w w' : World} {M n : Nat} {F : Nat → Option Pt} (h : MapM w M F n) (hf : Below w.heap.size w w') : MapM w' M F n := by
  obtain ⟨es, c, hb⟩ := h.isMap
  exact h.keep (by rw [hf.block M (lt_of_heap hb)])
theorem MapM.made (w : World) : MapM (w.alloc (.map #[] 0)) w.heap.size (fun _ => none) 0 := ⟨.map [], World.ownsMap_made w Try.prog 3 pE, fun _ _ => rfl⟩
def updF (F : Nat → Option Pt) (k : Nat) (x : Pt) : Nat → Option Pt := fun j => if j = k then some x else F j
theorem MapM.put {w : World} {M n k : Nat} {F : Nat → Option Pt} (h : MapM w M F n) (hn : n ≤ 1000000) (hk : k ≤ 1000000) (x : Pt) :
    ∃ w', (Instr.mapUpdate 54 (.map (some M)) (.int .i64 (k : Int)) (ptV x)).run Try.prog w = .ok () w' ∧ MapM w' M (updF F k x) (n + 1) ∧ w.grownBy w' (some M) := by
  obtain ⟨D, hown, hat⟩ := h
  obtain ⟨w', hr, ho, hg⟩ := hown.update law3 Try.underlying54 (by unfold maxLen; omega) (keyOf3 hk) (pE_mk x)
  refine ⟨w', hr, ⟨_, ho, fun j z => ?_⟩, hg⟩
  unfold updF
  by_cases e : j = k
  · subst e
    rw [atKey_put_same hown.isMap (kInt_key _)]
    simp
  · rw [atKey_put_other (fun h => e (kInt_inj h)), hat]
    simp [e]
theorem MapM.find {w : World} {M n k : Nat} {F : Nat → Option Pt} (h : MapM w M F n) (hk : k ≤ 1000000) :
    (Instr.lookup 54 (.map (some M)) (.int .i64 (k : Int)) true).run Try.prog w = .ok (.tuple #[ptV ((F k).getD z56), .bool (F k).isSome]) w := by
  obtain ⟨D, hown, hat⟩ := h
  obtain ⟨v, ps, hr, hv⟩ := hown.look_ok law3 Try.underlying54 (zero56 w) (pE_mk z56) (keyOf3 hk)
  obtain ⟨x, rfl, hx⟩ := pE_inv hv
  rw [hat] at hx
  rw [hr]
  cases hF : F k with
  | none =>
    rw [hF] at hx
    have e : Maps.has D (kInt k) = false := has_false_of_atKey fun z => by rw [hat, hF]
    have := dPt_inj hx
    subst this
    rw [e]
    rfl
  | some y =>
    rw [hF] at hx
    have e : Maps.has D (kInt k) = true := has_true_of_atKey (y := dPt y) fun z => by rw [hat, hF]
    have := dPt_inj hx
    subst this
    rw [e]
    rfl

/-! ### The disk -/
def secF : Option Pt → Sec
  | none => zs
  | some x => secOf (blockL x.f)
structure RI (n i : Nat) (d : Dk) (F : Nat → Option Pt) : Prop where
  len : d.K.length = n
  ps : d.ps.length ≤ i
  f : d.fuse = -1
  dn : d.down = false
  st : d.steps ≤ 2 * (i : Int)
  rd : ∀ s, s < n → at_ (seen d.K d.ps) s = secF (F s)
theorem RI.start (n : Nat) : RI n 0 (newD n) (fun _ => none) := ⟨by simp [newD], by simp [newD], rfl, rfl, by simp [newD], fun s hs => by simp [newD, seen, at_, secF, hs]⟩
/-- A write of a sector. -/
def wD (d : Dk) (j : Nat) (s : Sec) : Dk := ⟨d.K, d.ps ++ [⟨j, s⟩], -1, false, d.steps + 1⟩
theorem RI.wr {n i j : Nat} {d : Dk} {F : Nat → Option Pt} (h : RI n i d F) (hj : j < n) (x : Pt) :
    writeR d (j : Int) (blockL x.f) = 0 ∧ writeD d (j : Int) (blockL x.f) = wD d j (secOf (blockL x.f)) := write_run (by rw [h.len]; exact hj) (blockL_length _) h.dn h.f
theorem RI.at_w {n i j : Nat} {d : Dk} {F : Nat → Option Pt} (h : RI n i d F) (hj : j < n) (x : Pt) : ∀ s, s < n → at_ (seen (wD d j (secOf (blockL x.f))).K (wD d j (secOf (blockL x.f))).ps) s = secF (updF F j x s) := by
  intro s hs
  show at_ (seen d.K (d.ps ++ [⟨j, secOf (blockL x.f)⟩])) s = _
  rw [seen_snoc]
  unfold updF
  by_cases e : s = j
  · subst e
    rw [at_set _ _ (by rw [seen_length, h.len]; exact hs)]
    simp [secF]
  · rw [at_set_ne _ _ (Ne.symm e), h.rd s hs]
    simp [e]
theorem RI.one {n i j : Nat} {d : Dk} {F : Nat → Option Pt} (h : RI n i d F) (hj : j < n) (x : Pt) : RI n (i + 1) (wD d j (secOf (blockL x.f))) (updF F j x) :=
  ⟨h.len, by have := h.ps; simp [wD]; omega, rfl, rfl, by have := h.st; simp only [wD]; omega, h.at_w hj x⟩
theorem RI.two {n i j : Nat} {d : Dk} {F : Nat → Option Pt} (h : RI n i d F) (hj : j < n) (x : Pt) :
    stepB (wD d j (secOf (blockL x.f))) = true ∧ (keepD (wD d j (secOf (blockL x.f)))).ps.length = 0 ∧ RI n (i + 1) (keepD (wD d j (secOf (blockL x.f)))) (updF F j x) := by
  refine ⟨rfl, rfl, ?_, ?_, rfl, rfl, ?_, ?_⟩
  · show (seen _ _).length = n
    rw [seen_length]
    exact h.len
  · exact Nat.zero_le _
  · have := h.st
    show (wD d j (secOf (blockL x.f))).steps + 1 ≤ _
    simp only [wD]
    omega
  · exact h.at_w hj x
theorem RI.st1 {n i j : Nat} {d : Dk} {F : Nat → Option Pt} (h : RI n i d F) (s : Sec) : (wD d j s).steps ≤ 2 * (i : Int) + 1 := by
  have := h.st
  simp only [wD]
  omega
theorem RI.read {n i s : Nat} {d : Dk} {F : Nat → Option Pt} (h : RI n i d F) (hs : s < n) : readR d (s : Int) = 0 ∧ readL d (s : Int) = (secF (F s)).v := by
  have h1 : has d (s : Int) = true := by simp [has, h.len]; omega
  constructor
  · simp [readR, h1, h.dn]
  · simp [readL, h1, h.dn, h.rd s hs]
/-- A crash that keeps all. -/
theorem crash_all {K : List Sec} {ps : List Pw} {cs : List UInt8} (h : ∀ k, k < ps.length → pick cs k = 64) : ∀ k, k ≤ ps.length → crashN K ps cs k = seen K (ps.take k)
  | 0, _ => rfl
  | k + 1, hk => by
    have e : ps[k]? = some (ps[k]'(by omega)) := List.getElem?_eq_getElem (by omega)
    rw [crashN_step cs e, crash_all h k (by omega), h k (by omega), lay_all _ _ (Nat.le_refl _), List.take_succ_eq_append_getElem (by omega), seen_snoc]
theorem RI.crash {n i : Nat} {d : Dk} {F : Nat → Option Pt} (h : RI n i d F) : RI n i (crashD d (List.replicate i 64)) F ∧ (crashD d (List.replicate i 64)).ps.length = 0 := by
  have e : crashN d.K d.ps (List.replicate i 64) d.ps.length = seen d.K d.ps := by
    rw [crash_all (fun k hk => ?_) _ (Nat.le_refl _), List.take_of_length_le (Nat.le_refl _)]
    have : k < i := Nat.lt_of_lt_of_le hk h.ps
    rw [pick_some (by simpa using this)]
    simp
  refine ⟨⟨?_, Nat.zero_le _, rfl, rfl, h.st, ?_⟩, rfl⟩
  · show (crashN _ _ _ _).length = n
    rw [crashN_length]
    exact h.len
  · intro s hs
    show at_ (seen (crashN _ _ _ _) []) s = _
    rw [e]
    exact h.rd s hs
theorem secF_v (o : Option Pt) : (secF o).v = match o with | none => List.replicate 64 0 | some x => blockL x.f := by
  cases o with
  | none => rfl
  | some x => exact secOf_v (blockL_length _)
end Go.Proofs.Ytghfhjeaiiianaa
