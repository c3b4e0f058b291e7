/-
  The contracts of fits and sector. Their conditions: a part's bytes lie in memory.
-/
import Derived.Test.YtppdckncnfffcaaJ2
import Derived.Laws.Rows
namespace Go.Proofs.Ytppdckncnfffcaa
open Go.RowKit
set_option maxRecDepth 100000

/-- A part by value, its bytes at A. -/
def ptC (p : Pt) (A : Option Addr) (n c : Nat) : Array Value := #[.int .i64 (p.lap : Int), .int .i64 p.rn, .int .i64 (p.num : Int), .int .i64 (p.of : Int), .slice A n c]
def ptV (p : Pt) (A : Option Addr) (n c : Nat) : Value := .agg (ptC p A n c)
set_option maxHeartbeats 2000000 in
theorem fits_any (p : Pt) (A : Option Addr) (n c : Nat) (hn : p.bs.length = n) (w : World) : Calls Try.prog 62 #[ptV p A n c] w fun r w' => r = .returned (.bool (fitsP p)) ∧ Below w.heap.size w w' := by
  unfold ptV ptC
  by_cases h1 : p.num < p.of
  · have h1i : (p.num : Int) < (p.of : Int) := by omega
    have e : fitsP p = decide (n = 47) := by simp [fitsP, h1, hn]
    have e2 : (decide (n = 47)) = (((n : Int) == 47)) := by by_cases h : n = 47 <;> simp [h] <;> omega
    rw [e, e2]
    clear h1 e e2 hn
    generalize p.num = N at *
    generalize p.of = O at *
    go_enter Try.func62, Try.ntmps62
    go_wp2
    go_ret
    exact ⟨rfl, Below.alloc (Below.refl _ _) (Nat.le_refl _) _⟩
  · have h1i : ¬ (p.num : Int) < (p.of : Int) := by omega
    by_cases h2 : p.num = p.of
    · by_cases h3 : p.of = 1
      · have e : fitsP p = true := by simp [fitsP, h2, h3]
        rw [e, h2, h3]
        rw [h2] at h1i
        clear h1 e hn h2 h3 h1i
        go_enter Try.func62, Try.ntmps62
        go_wp2
        go_ret
        exact ⟨rfl, Below.alloc (Below.refl _ _) (Nat.le_refl _) _⟩
      · have e : fitsP p = decide (0 < n) := by simp [fitsP, h2, h3, hn]
        have h3i : ¬ (p.of : Int) = 1 := by omega
        rw [e, h2]
        rw [h2] at h1i
        clear h1 e hn h2 h3
        generalize p.of = O at *
        go_enter Try.func62, Try.ntmps62
        go_wp2
        go_ret
        exact ⟨by simp; omega, Below.alloc (Below.refl _ _) (Nat.le_refl _) _⟩
    · have h2i : ¬ (p.num : Int) = (p.of : Int) := by omega
      have e : fitsP p = false := by simp [fitsP, h1, h2]
      rw [e]
      clear h1 e hn h2
      generalize p.num = N at *
      generalize p.of = O at *
      go_enter Try.func62, Try.ntmps62
      go_wp2
      go_ret
      exact ⟨rfl, Below.alloc (Below.refl _ _) (Nat.le_refl _) _⟩

/-! ### A sector by value -/
theorem size89 : (Try.prog.info? 89).map (·.size) = some 64 := by kernel_rfl
theorem run_alloc89 (w : World) : (Instr.alloc 89 true (.tuple #[])).run Try.prog w = .ok (.pointer (some ⟨w.heap.size, 0, none⟩)) (w.alloc (.cells (eSec.f zs).toArray 89)) := by
  obtain ⟨z, by_, h, _⟩ : ∃ z by_, (Try.prog.info? 89).map (fun i => (i.zero, i.size, i.bytes)) = some (some z, 64, by_) ∧ z = secV zs := ⟨_, 64, by kernel_rfl, rfl⟩
  obtain ⟨i, hi, hz, _⟩ := info_parts h
  subst z
  simp [Instr.alloc, zeroValue, typeInfo, hi, hz, newVar, newRow, newObj, secV, Value.cells, Result.andThen]
  rfl
theorem load89 {w : World} {b : Nat} {s : Sec} (h : w.rangeAt b 0 (eSec.f s)) : (Instr.loadAt 89 (.pointer (some ⟨b, 0, none⟩))).run Try.prog w = .ok (secV s) w :=
  run_loadAt_mid w b 0 89 _ _ h Try.underlying89 rfl (by rw [size89, eSec.len]; rfl)
theorem By.range {w : World} {q : Nat} {t : TypeId} {s : Sec} (h : By w q t s.v) : w.rangeAt q 0 (eSec.f s) := by
  intro j v hv
  rw [cell_of h]
  have : eSec.f s = bv s.v := rfl
  rw [this] at hv
  simpa using hv
theorem By.below {w w' : World} {q : Nat} {t : TypeId} {X : List UInt8} (h : By w q t X) (hb : Below w.heap.size w w') : By w' q t X := (hb.block q h.lt).trans h
theorem By.fr {w w' : World} {q : Nat} {t : TypeId} {X : List UInt8} {l ms : List Nat} {base : Nat} (h : By w q t X) (hf : Fr l ms base w w') (hl : t ∉ l) (hm : q ∉ ms) : By w' q t X := hf.keep q _ h hl hm
theorem by_new (w : World) (s : Sec) (t : TypeId) : By (w.alloc (.cells (eSec.f s).toArray t)) w.heap.size t s.v := heap_new _ _
/-- A sector is stored into a block. -/
theorem store89 {w : World} {q : Nat} {X : List UInt8} (h : By w q 89 X) (hX : X.length = 64) (s : Sec) : (Instr.storeAt 89 (.pointer (some ⟨q, 0, none⟩)) (secV s)).run Try.prog w = .ok () (w.setRow q (eSec.f s).toArray) := by
  have h1 := run_storeVar_row (P := Try.prog) w q 89 89 (bv X).toArray (eSec.f s).toArray h (by rw [size89]; simp [eSec.len]; rfl) (by simp [eSec.len, bv_length, hX]; rfl) (Array.all_eq_true_iff_forall_mem.2 (fun v hv => eSec.one s v (by simpa using hv)))
  simp only [Instr.storeAt, Instr.sureAddr, Sem.run_bind, Sem.run_pure, Result.andThen_ok, secV, h1]
theorem By.row {w : World} {q : Nat} {t : TypeId} {X : List UInt8} (h : By w q t X) (s : Sec) : By (w.setRow q (eSec.f s).toArray) q t s.v := setRow_heap w q _ _ _ _ h
theorem by_row {w : World} {q : Nat} {X : List UInt8} {l ms : List Nat} {base : Nat} {a : World} {t : TypeId} (hf : Fr l ms base a w) (h : By w q t X) (hk : t ∈ l ∨ q ∈ ms) (hb : base ≤ q) (s : Sec) : Fr l ms base a (w.setRow q (eSec.f s).toArray) := hf.row h hk hb _

/-- Bytes are copied into a block. -/
theorem run_copy_by {w : World} {q o dn dc n c t base : Nat} {A : Option Addr} {X l : List UInt8} (h : By w q t X) (hs : Sl eBy w A l) (hl : l.length = n) (hA : A = none → c = 0) (hd : n ≤ dn) (ho : o + n ≤ X.length) (hb : base ≤ q) (ty : TypeId) :
    ∃ v w', (Builtin.copy_ #[38, 38] ty #[.slice (some ⟨q, o, none⟩) dn dc, .slice A n c]).run Try.prog w = .ok v w' ∧ By w' q t (ovr X o l) ∧ Fr [] [q] base w w' := by
  cases A with
  | none =>
    have hl0 : l = [] := by
      cases l with
      | nil => rfl
      | cons x r => obtain ⟨b, off, hA, _⟩ := hs.2 (by simp); simp at hA
    subst hl0
    have hn : n = 0 := by simpa using hl.symm
    subst hn
    rw [hA rfl]
    refine ⟨_, w, run_copy_nil (P := Try.prog) (w := w) (dT := 38) (sT := 38) (ty := ty) (elem := 5) (a := _) (dLen := dn) (dCap := dc) Try.underlying38 (by rw [size5]; rfl), ?_, Fr.refl _ _ _ _⟩
    rw [ovr_nil]
    exact h
  | some ad =>
    have h1 := run_copy_row (P := Try.prog) w 38 38 ty 5 q o dn dc ad n c _ t (bv l) Try.underlying38 size5 h (by rw [bv_length, hl]; exact (Nat.min_eq_left hd).symm) (fun j v hv => hs.news j v (by rw [eBy_vals]; exact hv)) (by simp [bv_length]; omega) (fun v hv => bv_one _ v hv)
    have e : (List.take o (bv X).toArray.toList ++ bv l ++ List.drop (o + (bv l).length) (bv X).toArray.toList).toArray = (bv (ovr X o l)).toArray := by
      simp [ovr, bv_append, bv_take, bv_drop, bv_length]
    rw [e] at h1
    exact ⟨_, _, h1, setRow_heap w q _ _ _ _ h, Fr.row (Fr.refl _ _ _ _) h (.inr (by simp)) hb _⟩

theorem ret89 {fn : Func} {t : Tmp} {tmps : Array Value} {w : World} {b : Nat} {s : Sec} (h : fn.results = #[.cell t 89]) (ht : tmps.getD t undef = .pointer (some ⟨b, 0, none⟩)) (hb : By w b 89 s.v) : (results fn tmps).run Try.prog w = .ok (secV s) w :=
  results_cell_row h tmps w b 89 (bv s.v).toArray (0, 0) _ ht hb Try.underlying89 rfl (by rw [size89]; simp [bv_length, s.h])

/-! ### sector -/
/-- On the way: the part's block, and a sector's in the making. -/
structure SecI (w W : World) (b : Nat) (p : Pt) (A : Option Addr) (n c : Nat) (X : List UInt8) : Prop where
  box : W.heap[b]? = some (.cells (ptC p A n c) 101 (0, 0))
  res : By W (b + 1) 89 zs.v
  by_ : By W (b + 2) 89 X
  bel : Below w.heap.size w W
  ge : b = w.heap.size
section
variable {w W W' : World} {b : Nat} {p : Pt} {A : Option Addr} {n c : Nat} {X X' : List UInt8}
theorem SecI.below (h : SecI w W b p A n c X) (hb : Below W.heap.size W W') : SecI w W' b p A n c X :=
  ⟨(hb.block b (lt_of_heap h.box)).trans h.box, h.res.below hb, h.by_.below hb, h.bel.trans (hb.mono h.bel.size), h.ge⟩
theorem SecI.step (h : SecI w W b p A n c X) (hf : Fr [] [b + 2] w.heap.size W W') (hX : By W' (b + 2) 89 X') : SecI w W' b p A n c X' :=
  ⟨hf.keep b _ h.box (by simp) (by simp), h.res.fr hf (by simp) (by simp), hX, h.bel.trans hf.below, h.ge⟩
theorem SecI.b2 (h : SecI w W b p A n c X) : w.heap.size ≤ b + 2 := by have := h.ge; omega
theorem SecI.c0 (h : SecI w W b p A n c X) : W.cell? ⟨b, 0, none⟩ = some (.int .i64 (p.lap : Int)) := by rw [cell_of h.box]; rfl
theorem SecI.c1 (h : SecI w W b p A n c X) : W.cell? ⟨b, 1, none⟩ = some (.int .i64 p.rn) := by rw [cell_of h.box]; rfl
theorem SecI.c2 (h : SecI w W b p A n c X) : W.cell? ⟨b, 2, none⟩ = some (.int .i64 (p.num : Int)) := by rw [cell_of h.box]; rfl
theorem SecI.c3 (h : SecI w W b p A n c X) : W.cell? ⟨b, 3, none⟩ = some (.int .i64 (p.of : Int)) := by rw [cell_of h.box]; rfl
theorem SecI.c4 (h : SecI w W b p A n c X) : W.cell? ⟨b, 4, none⟩ = some (.slice A n c) := by rw [cell_of h.box]; rfl
end
theorem ovr_mid (P Z Y S : List UInt8) (o : Nat) (ho : P.length = o) (hl : Y.length = Z.length) : ovr (P ++ (Z ++ S)) o Y = P ++ (Y ++ S) := by
  subst ho
  simp [ovr, hl, List.drop_append]
theorem set_mid (P Z : List UInt8) (a b : UInt8) (o : Nat) (ho : P.length = o) : (P ++ ([a] ++ Z)).set o b = P ++ ([b] ++ Z) := by
  subst ho
  simp
/-- What is written, one behind the other. -/
theorem sec_all (p : Pt) (X : List UInt8) (h : p.bs.length ≤ 47) (h0 : X = List.replicate 64 0) :
    ovr (ovr ((ovr (ovr (ovr (ovr X 0 (dig 4 p.lap)) 4 (dig 4 p.rn.toNat)) 8 (dig 2 p.num)) 10 (dig 2 p.of)).set 12 (UInt8.ofNat p.bs.length)) 13 p.bs) 60 (dig 4 p.lap) = ptB p := by
  obtain ⟨k, hk⟩ : ∃ k, p.bs.length + k = 47 := ⟨47 - p.bs.length, by omega⟩
  have e0 : X = [] ++ (List.replicate 4 0 ++ (List.replicate 4 0 ++ (List.replicate 2 0 ++ (List.replicate 2 0 ++ ([0] ++ (List.replicate p.bs.length 0 ++ (List.replicate k 0 ++ List.replicate 4 0))))))) := by
    rw [h0, show ([0] : List UInt8) = List.replicate 1 0 from rfl]
    simp only [List.replicate_append_replicate, List.nil_append]
    congr 1
    omega
  have hd := dig_length
  rw [e0, ovr_mid [] _ _ _ 0 rfl (by simp [hd])]
  rw [show ∀ Z : List UInt8, [] ++ (dig 4 p.lap ++ Z) = dig 4 p.lap ++ Z from fun _ => rfl]
  rw [ovr_mid _ _ _ _ 4 (by simp [hd]) (by simp [hd]), ← List.append_assoc (dig 4 p.lap)]
  rw [ovr_mid _ _ _ _ 8 (by simp [hd]) (by simp [hd]), ← List.append_assoc (dig 4 p.lap ++ _)]
  rw [ovr_mid _ _ _ _ 10 (by simp [hd]) (by simp [hd]), ← List.append_assoc (dig 4 p.lap ++ _ ++ _)]
  rw [set_mid _ _ _ _ 12 (by simp [hd]), ← List.append_assoc (dig 4 p.lap ++ _ ++ _ ++ _)]
  rw [ovr_mid _ _ _ _ 13 (by simp [hd]) (by simp), ← List.append_assoc, ← List.append_assoc]
  have e1 : ∀ P : List UInt8, P.length = 60 → ovr (P ++ List.replicate 4 0) 60 (dig 4 p.lap) = P ++ dig 4 p.lap := by
    intro P hP
    have := ovr_mid P (List.replicate 4 0) (dig 4 p.lap) [] 60 hP (by simp [hd])
    simpa using this
  rw [e1 _ (by simp [hd]; omega)]
  simp only [ptB, show 47 - p.bs.length = k by omega, List.append_assoc]
end Go.Proofs.Ytppdckncnfffcaa
