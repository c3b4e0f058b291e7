/-
  FrameCuts: for every [][]byte and every int the Go function meridianlaw03.FrameCuts returns true: of frames one behind the other, cut off anywhere, just those that are whole are told. Its conditions: none.
-/
import Derived.Test.YtlnblcgfgkkbhaaRows
import Derived.Test.YtlnblcgfgkkbhaaW20
import Derived.WalkKit
import Derived.ProofKit
import Derived.OpenShut
import Derived.ShutString
import Derived.ChangeOld
import Derived.Below
import Derived.Deep.Slices
namespace Go.Proofs.Ytlnblcgfgkkbhaa.frameCuts
open Go.ChangeShapes Go.WideShapes Go.ChangeAt Go.RowKit Go.Deep
open Go.ChangeMaps (open_string shut_string)
set_option linter.unusedVariables false

theorem own : ownKnob Try.prog.godebug = none := by kernel_rfl
theorem laidOut : laidOutB Try.prog = true := by kernel_rfl
theorem cells5 : Try.prog.cellsOf 5 = 1 := by kernel_rfl
theorem cells22 : Try.prog.cellsOf 22 = 1 := by kernel_rfl
/-- A slice of slices of bytes that came in. -/
theorem open_parts {H : Type} {enc : TypeId × Value → H} {W : World} {fuel : Nat} {a0 : Option Addr} {len0 cap0 : Nat} {x : DataW H × List MemPlace} (hf : DataW.trod enc Try.prog W 0 (fun _ => true) true fuel 30 [.slice a0 len0 cap0] = some x) :
    ∃ ls : List (List Nat), ls.length = len0 ∧ Parts W a0 ls := by
  rcases open_slice1 Try.underlying30 cells22 hf with ⟨hcs, _⟩ | ⟨x, ln, c, m, n, V, D, Pl, hcs, _, hl, hm, hmm, _, hcell⟩
  · simp at hcs
    obtain ⟨rfl, rfl, rfl⟩ := hcs
    exact ⟨[], rfl, fun h => absurd h (by simp)⟩
  · simp at hcs
    obtain ⟨rfl, rfl, rfl⟩ := hcs
    have hmc : m = cap0 := by simpa using hmm
    subst hmc
    obtain ⟨b, off, spot⟩ := x
    have hex : ∀ i, ∃ l : List Nat, i < m → ∃ a c, W.cell? ((⟨b, off, spot⟩ : Addr).add i) = some (.slice a l.length c) ∧ Bytes W a l ∧ (a = none → c = 0) := by
      intro i
      by_cases hi : i < m
      · obtain ⟨hc, ht⟩ := hcell i hi
        rcases open_ints Try.underlying22 Try.underlying5 cells5 ht with ⟨hcs, _⟩ | ⟨x, l, c, zs, hcs, _, hl, hm, hz, _, hcell, hwz⟩
        · have hv : V i = .slice none 0 0 := by simpa using hcs
          exact ⟨[], fun _ => ⟨none, 0, by rw [hc, hv]; rfl, Bytes.nil _ _, fun _ => rfl⟩⟩
        · have hv : V i = .slice (some x) l c := by simpa using hcs
          obtain ⟨bs, hbs, hby, _, _, _⟩ := bytes_of_row (w := W) (a := some x) (len := l) (cap := c) (zs := zs) (.inr ⟨x, rfl, hl, hm, by simpa using hz, hcell, hwz⟩)
          exact ⟨bs, fun _ => ⟨some x, c, by rw [hc, hv, hbs], hby, fun h => by cases h⟩⟩
      · exact ⟨[], fun h => absurd h hi⟩
    obtain ⟨f, hfx⟩ := Classical.skolem.mp hex
    refine ⟨(List.range len0).map f, by simp, fun hp => ?_⟩
    have hp : 0 < len0 := by simpa using hp
    obtain ⟨a, c, h0, _⟩ := hfx 0 (by omega)
    have hspot : spot = none := by simpa [Addr.add] using World.cell?_spot h0
    subst hspot
    refine ⟨b, off, rfl, ?_, fun k p hk => ?_⟩
    · have := block_lt_of_cell h0
      simpa [Addr.add] using this
    · obtain ⟨hkl, hky⟩ := List.getElem?_eq_some_iff.mp hk
      have hkl : k < len0 := by simpa using hkl
      have e : p = f k := by rw [← hky]; simp
      subst e
      obtain ⟨a, c, h1, h2, h3⟩ := hfx k (by omega)
      rw [addr_add] at h1
      exact ⟨a, c, h1, h2, h3⟩

set_option maxHeartbeats 400000 in
set_option maxRecDepth 100000 in
theorem lifted (os : Os) (started : os.Started) (H : Type) (enc : TypeId × Value → H) :
    ReturnsInHanded {} Try.checked os 5 .any (Rows.frameCutsSpec.pre6 enc Try.prog Try.f5 Rows.frameCutsRow.domain false) (Rows.frameCutsSpec.post enc Try.prog Try.f5 false true false false) := by
  refine returnsInHanded_of_change (C := Try.checked) own started (by kernel_rfl) Try.func5
    (ChangeSpec.witness6 (enc := enc) (C := Try.checked) false ⟨#[], #[.slice none 0 0, .int .i64 0], []⟩ 8 (by kernel_rfl) (by kernel_rfl) (by kernel_rfl) (by kernel_rfl)) ?_
  intro W base args ds gs before hval0 hW hcnd _
  have hval : ∀ (j : Nat) t v, Try.f5.params[j]? = some t → args[j]? = some v → Value.okWide Try.prog W .any base t v := hval0
  have hW' := hW
  obtain ⟨p, q, hA0, hV, rfl, hfz, hnd⟩ := hW
  have hA : DataW.TrodAll enc Try.prog W 0 (fun _ => true) true Try.f5.params.toList args.toList ds p := hA0
  rw [Try.params5] at hA hval
  obtain ⟨v0, vs0, d0, ds0, p0, q0, hargs, rfl, rfl, h0, r0⟩ := trodAll_cons hA
  obtain ⟨v1, vs1, d1, ds1, p1, q1, rfl, rfl, rfl, h1, r1⟩ := trodAll_cons r0
  obtain ⟨rfl, rfl, rfl⟩ := trodAll_nil r1
  obtain rfl : args = #[v0, v1] := by cases args; simp_all
  obtain ⟨rfl, rfl⟩ := trodVars_none hV
  obtain ⟨a0, len0, cap0, rfl⟩ := okWide_slice Try.underlying30 (hval 0 30 v0 rfl rfl)
  have k0 := h0
  have lt0 : ∀ x ∈ p0, x.block < W.heap.size := by obtain ⟨m, hm⟩ := k0; exact DataW.trod_lt m _ _ _ hm
  obtain ⟨a1, rfl, rfl, rfl, w1⟩ := open_int Try.underlying3 (hval 1 3 v1 rfl rfl) h1
  obtain ⟨ls, hls, hpa⟩ : ∃ ls : List (List Nat), ls.length = len0 ∧ Parts W a0 ls := by
    obtain ⟨fuel, hf⟩ := h0
    exact open_parts (show DataW.trod enc Try.prog W 0 (fun _ => true) true fuel 30 [.slice a0 len0 cap0] = some (d0, p0) from hf)
  clear hA0 hval0
  refine (cuts_walk ls a0 len0 cap0 a1 W hpa hls).mono fun e W' ⟨he, bel⟩ => ?_
  subst he
  exact ⟨_, rfl, _, _, _, [], _, [], hW', trodAll_mk1 (shut_bool Try.underlying4 _), (trodAll_cons_mk (Below.trod laidOut (by kernel_rfl) (of_decide_eq_true (by kernel_rfl)) k0 bel lt0) (trodAll_cons_mk (shut_int Try.underlying3 w1) trodAll_mk0)), rfl, bel.frame _, fun h => by cases h⟩

theorem over : Rows.frameCutsRow.holds Try.pinned (OpenSpec.ofChange Rows.frameCutsSpec) :=
  OpenClaim.holds_of_wide 5 Try.f5 rfl rfl rfl rfl rfl rfl rfl ⟨rfl, rfl, rfl, rfl, rfl⟩ rfl rfl rfl rfl rfl (by kernel_rfl) Try.func5 (by kernel_rfl)
    (of_decide_eq_true (by kernel_rfl)) (by unfold Func.isWrapper; first | (rw [if_pos (by decide +kernel)]; kernel_rfl) | (rw [if_neg (by decide +kernel)]; exact ⟨rfl, rfl⟩))
    (fun os started H enc _ => lifted os started H enc)

end Go.Proofs.Ytlnblcgfgkkbhaa.frameCuts
namespace Go.Proofs.Ytlnblcgfgkkbhaa
/-- THE STATEMENT -/
theorem frameCuts_holds : Rows.FrameCutsSaid := frameCuts.over
#print axioms frameCuts_holds
end Go.Proofs.Ytlnblcgfgkkbhaa
