/-
  A slice of texts that came in reads as texts. Its conditions: none.
-/
import Derived.Test.YtpapbboihjhmiaaW16
import Derived.ProofKit
import Derived.SliceStrings
import Derived.OpenShut
namespace Go.Proofs.Ytpapbboihjhmiaa
open Go.ChangeShapes Go.WideShapes Go.ChangeAt Go.RowKit

theorem cells9 : Try.prog.cellsOf 9 = 1 := by kernel_rfl
section
variable {H : Type} {enc : TypeId × Value → H} {W : World} {base : Nat} {held : Bool}
theorem open_strs {a : Option Addr} {len cap fuel : Nat} {x : DataW H × List MemPlace} (h : DataW.trod enc Try.prog W base (fun _ => true) held fuel 46 [.slice a len cap] = some x) :
    ∃ l : List ByteArray, l.length = len ∧ Strs W a l := by
  rcases open_strings Try.underlying46 Try.underlying9 cells9 h with ⟨hcs, _⟩ | ⟨ad, ln, c, ss, hcs, _, hl, hm, hss, _, hcell, _⟩
  · simp at hcs
    obtain ⟨rfl, rfl, rfl⟩ := hcs
    exact ⟨[], rfl, by simp, by simp⟩
  · simp at hcs
    obtain ⟨rfl, rfl, rfl⟩ := hcs
    have hss : ss.length = cap := by simpa using hss
    refine ⟨ss.take len, by simp; omega, by simp; omega, fun hp => ?_⟩
    have hp : 0 < len := by simp at hp; omega
    obtain ⟨b, off, spot⟩ := ad
    have h0 := hcell 0 (by omega)
    have hspot : spot = none := by simpa [Addr.add] using World.cell?_spot h0
    subst hspot
    refine ⟨b, off, rfl, ?_, fun k s hk => ?_⟩
    · have := block_lt_of_cell h0
      simpa [Addr.add] using this
    · rw [List.getElem?_take] at hk
      split at hk
      · obtain ⟨hkl, hks⟩ := List.getElem?_eq_some_iff.mp hk
        have hc := hcell k hkl
        have e : (⟨b, off, none⟩ : Addr).add k = ⟨b, off + k, none⟩ := by unfold Addr.add; split <;> simp_all
        rw [e, List.getD_eq_getElem?_getD, hk] at hc
        simpa using hc
      · simp at hk
end
theorem nat_u16 {n : Int} (h : (Lit.int .u16 n).wf = true) : ∃ q : Nat, n = (q : Int) ∧ q < 65536 := by
  have h1 := bounds_u16 h
  exact ⟨n.toNat, by omega, by omega⟩
end Go.Proofs.Ytpapbboihjhmiaa
