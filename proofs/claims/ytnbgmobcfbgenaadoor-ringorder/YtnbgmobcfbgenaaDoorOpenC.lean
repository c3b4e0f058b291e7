/-
  A slice of texts that came in has no more texts than places. Its conditions: none.
-/
import Derived.Test.YtnbgmobcfbgenaaDoorOpen
namespace Go.Proofs.YtnbgmobcfbgenaaDoor
open Go.ChangeShapes Go.WideShapes Go.ChangeAt Go.RowKit

theorem open_cap {H : Type} {enc : TypeId × Value → H} {W : World} {base : Nat} {held : Bool} {a : Option Addr} {len cap fuel : Nat} {x : DataW H × List MemPlace} (h : DataW.trod enc Tryd.prog W base (fun _ => true) held fuel 22 [.slice a len cap] = some x) : len ≤ cap := by
  rcases open_strings Tryd.underlying22 Tryd.underlying9 cellsS h with ⟨hcs, _⟩ | ⟨ad, ln, c, ss, hcs, _, hl, _⟩
  · simp at hcs
    omega
  · simp at hcs
    omega
end Go.Proofs.YtnbgmobcfbgenaaDoor
