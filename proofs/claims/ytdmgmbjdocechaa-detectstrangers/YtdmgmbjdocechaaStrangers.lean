/-
  DetectStrangers: for every []string, every string and every [2]uint8 the Go function meridianlaw11.DetectStrangers returns true: who isn't one of a detector's nodes is never alive, and a Beat of it changes nothing. Its conditions: none.
-/
import Derived.Test.YtdmgmbjdocechaaRows
import Derived.Test.YtdmgmbjdocechaaW8
import Derived.Test.YtdmgmbjdocechaaOpen
import Derived.WalkKit
import Derived.ProofKit
import Derived.OpenShut
import Derived.ShutString
import Derived.ChangeOld
import Derived.Below
namespace Go.Proofs.Ytdmgmbjdocechaa.detectStrangers
open Go.ChangeShapes Go.WideShapes Go.ChangeAt Go.RowKit
open Go.ChangeMaps (open_string shut_string)
set_option linter.unusedVariables false

theorem own : ownKnob Try.prog.godebug = none := by kernel_rfl
theorem laidOut : laidOutB Try.prog = true := by kernel_rfl

theorem walk (a0 : Option Addr) (len0 cap0 : Nat) (l0 : List ByteArray) (a1 : ByteArray) (x2 y2 : Int) (w : World) (w0 : Strs w a0 l0) (n0 : l0.length = len0) (w1 : a1.size ≤ maxLen) (w2 : (0 ≤ x2 ∧ x2 ≤ 255) ∧ (0 ≤ y2 ∧ y2 ≤ 255)) :
    Calls Try.prog 6 #[.slice a0 len0 cap0, .string a1, .agg #[.int .u8 x2, .int .u8 y2]] w fun e w' => e = .returned (.bool true) ∧ Below w.heap.size w w' := by
  obtain ⟨⟨e1, e2⟩, e3, e4⟩ := w2
  obtain ⟨x, rfl⟩ : ∃ x : Nat, x2 = (x : Int) := ⟨x2.toNat, by omega⟩
  obtain ⟨y, rfl⟩ : ∃ y : Nat, y2 = (y : Int) := ⟨y2.toNat, by omega⟩
  exact strangers_walk l0 a0 len0 cap0 a1 x y w w0.1 w0.2 n0 w1 (by omega) (by omega)

set_option maxHeartbeats 400000 in
set_option maxRecDepth 100000 in
theorem lifted (os : Os) (started : os.Started) (H : Type) (enc : TypeId × Value → H) :
    ReturnsInHanded {} Try.checked os 6 .any (Rows.detectStrangersSpec.pre6 enc Try.prog Try.f6 Rows.detectStrangersRow.domain false) (Rows.detectStrangersSpec.post enc Try.prog Try.f6 false true false false) := by
  refine returnsInHanded_of_change (C := Try.checked) own started (by kernel_rfl) Try.func6
    (ChangeSpec.witness6 (enc := enc) (C := Try.checked) false ⟨#[], #[.slice none 0 0, .string ⟨#[]⟩, .agg #[.int .u8 0, .int .u8 0]], []⟩ 8 (by kernel_rfl) (by kernel_rfl) (by kernel_rfl) (by kernel_rfl)) ?_
  intro W base args ds gs before hval0 hW hcnd _
  have hval : ∀ (j : Nat) t v, Try.f6.params[j]? = some t → args[j]? = some v → Value.okWide Try.prog W .any base t v := hval0
  have hW' := hW
  obtain ⟨p, q, hA0, hV, rfl, hfz, hnd⟩ := hW
  have hA : DataW.TrodAll enc Try.prog W 0 (fun _ => true) true Try.f6.params.toList args.toList ds p := hA0
  rw [Try.params6] at hA hval
  obtain ⟨v0, vs0, d0, ds0, p0, q0, hargs, rfl, rfl, h0, r0⟩ := trodAll_cons hA
  obtain ⟨v1, vs1, d1, ds1, p1, q1, rfl, rfl, rfl, h1, r1⟩ := trodAll_cons r0
  obtain ⟨v2, vs2, d2, ds2, p2, q2, rfl, rfl, rfl, h2, r2⟩ := trodAll_cons r1
  obtain ⟨rfl, rfl, rfl⟩ := trodAll_nil r2
  obtain rfl : args = #[v0, v1, v2] := by cases args; simp_all
  obtain ⟨rfl, rfl⟩ := trodVars_none hV
  obtain ⟨a0, len0, cap0, rfl⟩ := okWide_slice Try.underlying22 (hval 0 22 v0 rfl rfl)
  have k0 := h0
  have lt0 : ∀ x ∈ p0, x.block < W.heap.size := by obtain ⟨m, hm⟩ := k0; exact DataW.trod_lt m _ _ _ hm
  obtain ⟨l0, n0, w0⟩ : ∃ l : List ByteArray, l.length = len0 ∧ Strs W a0 l := by
    obtain ⟨fuel, hf⟩ := h0
    exact open_strs (show DataW.trod enc Try.prog W 0 (fun _ => true) true fuel 22 [.slice a0 len0 cap0] = some (d0, p0) from hf)
  obtain ⟨a1, rfl, rfl, rfl, w1⟩ := open_string Try.underlying9 (hval 1 9 v1 rfl rfl) h1
  have k2 := h2
  have lt2 : ∀ x ∈ p2, x.block < W.heap.size := by obtain ⟨m, hm⟩ := k2; exact DataW.trod_lt m _ _ _ hm
  obtain ⟨x2, y2, rfl, z2, z2'⟩ := open_two8 (hval 2 44 v2 rfl rfl) h2
  have w2 := And.intro z2 z2'
  clear hA0 hval0
  refine (walk a0 len0 cap0 l0 a1 x2 y2 W w0 n0 w1 w2).mono fun e W' ⟨he, bel⟩ => ?_
  subst he
  exact ⟨_, rfl, _, _, _, [], _, [], hW', trodAll_mk1 (shut_bool Try.underlying4 _), (trodAll_cons_mk (Below.trod laidOut (by kernel_rfl) (of_decide_eq_true (by kernel_rfl)) k0 bel lt0) (trodAll_cons_mk (shut_string Try.underlying9 w1) (trodAll_cons_mk (Below.trod laidOut (by kernel_rfl) (of_decide_eq_true (by kernel_rfl)) k2 bel lt2) trodAll_mk0))), rfl, bel.frame _, fun h => by cases h⟩

theorem over : Rows.detectStrangersRow.holds Try.pinned (OpenSpec.ofChange Rows.detectStrangersSpec) :=
  OpenClaim.holds_of_wide 6 Try.f6 rfl rfl rfl rfl rfl rfl rfl ⟨rfl, rfl, rfl, rfl, rfl⟩ rfl rfl rfl rfl rfl (by kernel_rfl) Try.func6 (by kernel_rfl)
    (of_decide_eq_true (by kernel_rfl)) (by unfold Func.isWrapper; first | (rw [if_pos (by decide +kernel)]; kernel_rfl) | (rw [if_neg (by decide +kernel)]; exact ⟨rfl, rfl⟩))
    (fun os started H enc _ => lifted os started H enc)

end Go.Proofs.Ytdmgmbjdocechaa.detectStrangers
namespace Go.Proofs.Ytdmgmbjdocechaa
/-- THE STATEMENT -/
theorem detectStrangers_holds : Rows.DetectStrangersSaid := detectStrangers.over
#print axioms detectStrangers_holds
end Go.Proofs.Ytdmgmbjdocechaa
