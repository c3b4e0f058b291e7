/-
  A slice of texts that came in reads as texts that lie in memory which is there. Its conditions: none.
-/
import Derived.Test.YtnbgmobcfbgenaaGreatDoorW5
import Derived.ProofKit
import Derived.SliceStrings
import Derived.OpenShut
import Derived.SizedLaws
namespace Go.Proofs.YtnbgmobcfbgenaaGreatDoor
open Go.ChangeShapes Go.WideShapes Go.ChangeAt Go.RowKit

theorem cellsS : Tryz.prog.cellsOf 9 = 1 := by kernel_rfl
theorem weights_strs {H : Type} {P : Program} {e : TypeId} : ∀ {ss : List ByteArray} {s : ByteArray}, s ∈ ss → s.data.toList.length ∈ DataW.weightsAll P e (strs (H := H) ss)
  | a :: r, s, h => by
    show _ ∈ DataW.weightsAll P e (.lit (.string a.data.toList) :: strs r)
    simp only [DataW.weightsAll, List.mem_append]
    rcases List.mem_cons.mp h with rfl | h
    · left
      simp [DataW.weights]
    · exact .inr (weights_strs h)
section
variable {H : Type} {enc : TypeId × Value → H} {W : World} {base : Nat} {held : Bool}
theorem open_strs {a : Option Addr} {len cap fuel : Nat} {d : DataW H} {p : List MemPlace} (h : DataW.trod enc Tryz.prog W base (fun _ => true) held fuel 22 [.slice a len cap] = some (d, p)) (hw : ∀ n ∈ DataW.weights Tryz.prog 22 d, n ≤ reachBytes) :
    ∃ l : List ByteArray, l.length = len ∧ Sl eKy W a l ∧ Sized l := by
  rcases open_strings Tryz.underlying22 Tryz.underlying9 cellsS h with ⟨hcs, _⟩ | ⟨ad, ln, c, ss, hcs, _, hl, hm, hss, hx, hcell, _⟩
  · simp at hcs
    obtain ⟨rfl, rfl, rfl⟩ := hcs
    exact ⟨[], rfl, sl_nil _, by intro a ha; cases ha⟩
  · simp at hcs
    obtain ⟨rfl, rfl, rfl⟩ := hcs
    have hss : ss.length = cap := by simpa using hss
    have hd : d = .slice (strs (ss.take len)) (strs (ss.drop len)) := (Prod.mk.inj hx).1
    refine ⟨ss.take len, by simp; omega, ⟨by simp; omega, fun hp => ?_⟩, ?_⟩
    · have hp : 0 < len := by simp at hp; omega
      obtain ⟨b, off, spot⟩ := ad
      have h0 := hcell 0 (by omega)
      have hspot : spot = none := by simpa [Addr.add] using World.cell?_spot h0
      subst hspot
      refine ⟨b, off, rfl, ?_, fun k s hk i u hu => ?_⟩
      · have := block_lt_of_cell h0
        simpa [Addr.add] using this
      · have hi : i = 0 := by
          have := (List.getElem?_eq_some_iff.mp hu).1
          rw [eKy.len] at this
          exact Nat.lt_one_iff.mp this
        subst hi
        cases hu
        rw [List.getElem?_take] at hk
        split at hk
        · obtain ⟨hkl, hks⟩ := List.getElem?_eq_some_iff.mp hk
          have hc := hcell k hkl
          rw [addr_at, List.getD_eq_getElem?_getD, hk] at hc
          show W.cell? ⟨b, off + k * 1 + 0, none⟩ = _
          rw [Nat.mul_one, Nat.add_zero]
          simpa using hc
        · simp at hk
    · intro s hs
      have h1 : s.data.toList.length ∈ DataW.weights Tryz.prog 22 d := by
        rw [hd]
        simp only [DataW.weights, Tryz.underlying22, List.mem_cons, List.mem_append]
        exact .inr (.inl (weights_strs hs))
      have := hw _ h1
      rw [Array.length_toList] at this
      exact this
end
end Go.Proofs.YtnbgmobcfbgenaaGreatDoor
