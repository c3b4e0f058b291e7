/-
  FrameBack: for every payload, place, byte and further bytes the Go function meridianlaw03.FrameBack returns true: what was sealed is opened; with one byte turned, with some missing or more, it is refused. Its conditions: none.
-/
import Derived.Test.YtlnblcgfgkkbhaaRows
import Derived.Test.YtlnblcgfgkkbhaaW18
import Derived.WalkKit
import Derived.ProofKit
import Derived.OpenShut
import Derived.ShutString
import Derived.ChangeOld
import Derived.Below
import Derived.SizedLaws
import Derived.Lib.SmallJoins
namespace Go.Proofs.Ytlnblcgfgkkbhaa.frameBack
open Go.ChangeShapes Go.WideShapes Go.ChangeAt Go.RowKit
open Go.ChangeMaps (open_string shut_string)
set_option linter.unusedVariables false

theorem own : ownKnob Try.prog.godebug = none := by kernel_rfl
theorem laidOut : laidOutB Try.prog = true := by kernel_rfl
theorem cells3 : Try.prog.cellsOf 3 = 1 := by kernel_rfl
theorem cells5 : Try.prog.cellsOf 5 = 1 := by kernel_rfl
theorem cells22 : Try.prog.cellsOf 22 = 1 := by kernel_rfl
theorem cells37 : Try.prog.cellsOf 37 = 4 := by kernel_rfl
theorem list4 {α : Type} (l : List α) (h : (⟨l⟩ : Array α).size = 4) : ∃ a b c d, l = [a, b, c, d] := by
  match l, h with
  | [a, b, c, d], _ => exact ⟨a, b, c, d, rfl⟩
/-- A field that is a slice of bytes. -/
theorem open_field {H : Type} {enc : TypeId × Value → H} {W : World} {fuel : Nat} {c : Value} {y : DataW H × List MemPlace} (h : DataW.trod enc Try.prog W 0 (fun _ => true) true fuel 22 [c] = some y) :
    ∃ a len cap zs, c = .slice a len cap ∧ IsRow .u8 W a len cap zs ∧ (cap = 0 ∨ (zs.length = cap ∧ y.1 = .slice (lits .u8 (zs.take len)) (lits .u8 (zs.drop len)))) := by
  rcases open_ints Try.underlying22 Try.underlying5 cells5 h with ⟨hcs, _⟩ | ⟨x, l, c', zs, hcs, _, hl, hm, hz, hx, hcell, hwz⟩
  · have hc : c = .slice none 0 0 := by simpa using hcs
    exact ⟨none, 0, 0, [], hc, .inl ⟨rfl, rfl, rfl, rfl⟩, .inl rfl⟩
  · have hc : c = .slice (some x) l c' := by simpa using hcs
    have hz' : zs.length = c' := by simpa using hz
    exact ⟨some x, l, c', zs, hc, .inr ⟨x, rfl, hl, hm, hz', hcell, hwz⟩, .inr ⟨hz', by rw [hx]⟩⟩

theorem walk (a0 : Option Addr) (len0 cap0 : Nat) (z0 : List Int) (x1 x2 : Int) (a3 : Option Addr) (len3 cap3 : Nat) (z3 : List Int) (w : World) (w0 : IsRow .u8 w a0 len0 cap0 z0) (u2 : (Lit.int .u8 x2).wf = true) (w3 : IsRow .u8 w a3 len3 cap3 z3) (q3 : cap3 ≤ 140737488351232) :
    Calls Try.prog 4 #[.agg #[.slice a0 len0 cap0, .int .i64 x1, .int .u8 x2, .slice a3 len3 cap3]] w fun e w' => e = .returned (.bool true) ∧ Below w.heap.size w w' := by
  obtain ⟨l0, h0, y0, c0, _, n0⟩ := bytes_of_row w0
  obtain ⟨l3, h3, y3, c3, _, n3⟩ := bytes_of_row w3
  have b2 := bounds_u8 u2
  obtain ⟨y, rfl⟩ : ∃ y : Nat, x2 = (y : Int) := ⟨x2.toNat, by omega⟩
  exact back_walk l0 l3 a0 a3 len0 len3 cap0 cap3 x1 y w y0 y3 h0 h3 n0 n3 (by omega) (by omega)

set_option maxHeartbeats 400000 in
set_option maxRecDepth 100000 in
theorem lifted (os : Os) (started : os.Started) (H : Type) (enc : TypeId × Value → H) :
    ReturnsInHanded {} Try.checked os 4 .any (Rows.frameBackSpec.pre6 enc Try.prog Try.f4 Rows.frameBackRow.domain false) (Rows.frameBackSpec.post enc Try.prog Try.f4 false true false false) := by
  refine returnsInHanded_of_change_sized (C := Try.checked) own started (by kernel_rfl) Try.func4
    (ChangeSpec.witness6 (enc := enc) (C := Try.checked) false ⟨#[], #[.agg #[.slice none 0 0, .int .i64 0, .int .u8 0, .slice none 0 0]], []⟩ 8 (by kernel_rfl) (by kernel_rfl) (by kernel_rfl) (by kernel_rfl)) ?_
  intro W base args ds gs before hval0 hW hcnd hsz0 _
  have hsz : (DataW.weightsEach Try.prog (Try.f4.params.toList ++ Rows.frameBackSpec.plain.varTypes Try.prog) (ds ++ gs)).all (· ≤ reachBytes) = true := hsz0
  clear hsz0
  have hval : ∀ (j : Nat) t v, Try.f4.params[j]? = some t → args[j]? = some v → Value.okWide Try.prog W .any base t v := hval0
  have hW' := hW
  obtain ⟨p, q, hA0, hV, rfl, hfz, hnd⟩ := hW
  have hA : DataW.TrodAll enc Try.prog W 0 (fun _ => true) true Try.f4.params.toList args.toList ds p := hA0
  rw [Try.params4] at hA hval hsz
  obtain ⟨v0, vs0, d0, ds0, p0, q0, hargs, rfl, rfl, h0, r0⟩ := trodAll_cons hA
  obtain ⟨rfl, rfl, rfl⟩ := trodAll_nil r0
  obtain rfl : args = #[v0] := by cases args; simp_all
  obtain ⟨rfl, rfl⟩ := trodVars_none hV
  have k0 := h0
  have lt0 : ∀ x ∈ p0, x.block < W.heap.size := by obtain ⟨m, hm⟩ := k0; exact DataW.trod_lt m _ _ _ hm
  obtain ⟨cs, rfl, hsz2, _⟩ : ∃ cs, v0 = .agg cs ∧ cs.size = Try.prog.cellsOf 37 ∧ Row.okWide Try.prog W .any base 37 cs := by
    have := hval 0 37 v0 rfl rfl
    simpa [Value.okWide, Try.underlying37] using this
  rw [cells37] at hsz2
  obtain ⟨l⟩ := cs
  obtain ⟨c0, c1, c2, c3, rfl⟩ := list4 l hsz2
  obtain ⟨fuel, hf⟩ := h0
  obtain ⟨y0, y1, y2, y3, m, hx, _, t0, t1, t2, t3⟩ := Go.Joins.trod_struct4 Try.underlying37 hf
  have s0 : DataW.trod enc Try.prog W 0 (fun _ => true) true m 22 (([c0, c1, c2, c3].drop 0).take (Try.prog.cellsOf 22)) = some y0 := t0
  have s1 : DataW.trod enc Try.prog W 0 (fun _ => true) true m 3 (([c0, c1, c2, c3].drop 1).take (Try.prog.cellsOf 3)) = some y1 := t1
  have s2 : DataW.trod enc Try.prog W 0 (fun _ => true) true m 5 (([c0, c1, c2, c3].drop 2).take (Try.prog.cellsOf 5)) = some y2 := t2
  have s3 : DataW.trod enc Try.prog W 0 (fun _ => true) true m 22 (([c0, c1, c2, c3].drop 3).take (Try.prog.cellsOf 22)) = some y3 := t3
  rw [cells22] at s0 s3
  rw [cells3] at s1
  rw [cells5] at s2
  obtain ⟨a0, len0, cap0, z0, rfl, w0, _⟩ := open_field (show DataW.trod enc Try.prog W 0 (fun _ => true) true m 22 [c0] = some y0 from s0)
  obtain ⟨x1, e1, _, u1⟩ := DataW.trod_int Try.underlying3 (show DataW.trod enc Try.prog W 0 (fun _ => true) true m 3 [c1] = some y1 from s1)
  obtain ⟨x2, e2, _, u2⟩ := DataW.trod_int Try.underlying5 (show DataW.trod enc Try.prog W 0 (fun _ => true) true m 5 [c2] = some y2 from s2)
  obtain ⟨a3, len3, cap3, z3, rfl, w3, hd3⟩ := open_field (show DataW.trod enc Try.prog W 0 (fun _ => true) true m 22 [c3] = some y3 from s3)
  injection e1 with e1 _
  injection e2 with e2 _
  subst e1 e2
  have hd0 : d0 = .agg [y0.1, y1.1, y2.1, y3.1] := (Prod.mk.inj hx).1
  have q3 : cap3 ≤ 140737488351232 := by
    rcases hd3 with h | ⟨hz, hy⟩
    · omega
    · have hw : (DataW.weightsEach Try.prog [22, 3, 5, 22] [y0.1, y1.1, y2.1, y3.1]).all (· ≤ reachBytes) = true := by
        refine List.all_eq_true.mpr fun n hn => ?_
        refine List.all_eq_true.mp hsz n ?_
        refine DataW.weights_mem_each (j := 0) (t := 37) (d := d0) rfl rfl n ?_
        rw [hd0]
        simpa [DataW.weights, Try.underlying37] using hn
      have hs := sized_slice hw (j := 3) (t := 22) (e := 5) rfl (by rw [hy]; rfl) Try.underlying22
      rw [show Try.prog.bytesOf 5 = 1 by kernel_rfl] at hs
      simp only [lits, List.length_map, List.length_take, List.length_drop, reachBytes] at hs
      omega
  clear hA0 hval0
  refine (walk a0 len0 cap0 z0 x1 x2 a3 len3 cap3 z3 W w0 u2 w3 q3).mono fun e W' ⟨he, bel⟩ => ?_
  subst he
  exact ⟨_, rfl, _, _, _, [], _, [], hW', trodAll_mk1 (shut_bool Try.underlying4 _), (trodAll_cons_mk (Below.trod laidOut (by kernel_rfl) (of_decide_eq_true (by kernel_rfl)) k0 bel lt0) trodAll_mk0), rfl, bel.frame _, fun h => by cases h⟩

theorem over : Rows.frameBackRow.holds Try.pinned (OpenSpec.ofChange Rows.frameBackSpec) :=
  OpenClaim.holds_of_wide 4 Try.f4 rfl rfl rfl rfl rfl rfl rfl ⟨rfl, rfl, rfl, rfl, rfl⟩ rfl rfl rfl rfl rfl (by kernel_rfl) Try.func4 (by kernel_rfl)
    (of_decide_eq_true (by kernel_rfl)) (by unfold Func.isWrapper; first | (rw [if_pos (by decide +kernel)]; kernel_rfl) | (rw [if_neg (by decide +kernel)]; exact ⟨rfl, rfl⟩))
    (fun os started H enc _ => lifted os started H enc)

end Go.Proofs.Ytlnblcgfgkkbhaa.frameBack
namespace Go.Proofs.Ytlnblcgfgkkbhaa
/-- THE STATEMENT -/
theorem frameBack_holds : Rows.FrameBackSaid := frameBack.over
#print axioms frameBack_holds
end Go.Proofs.Ytlnblcgfgkkbhaa
