/-
  The document's example, by reckoning. Its conditions: none.
-/
import Derived.Test.YtppdckncnfffcaaJ16
namespace Go.Proofs.Ytppdckncnfffcaa
set_option maxRecDepth 1000000

def xA : Dk := newD 8
def xJ : Jn := lookJ (seen xA.K xA.ps) (j0 4)
def xC : Dk × Jn × Int := startF xA xJ [97]
def xD : Dk × Jn × Int := appendF xC.1 xC.2.1 []
theorem ex_l0 : lookL (seen xA.K xA.ps) 4 = [] := by decide +kernel
theorem ex_b : appendF xA xJ [] = (xA, xJ, 1) := rfl
theorem ex_c : xC.2.2 = 0 := by decide +kernel
theorem ex_d : xD.2.2 = 0 := by decide +kernel
theorem ex_r : roomN xD.2.1 = 2 := by decide +kernel
theorem ex_p : xD.2.1.lap = 1 := by decide +kernel
theorem ex_l : lookL (seen xD.1.K xD.1.ps) 4 = [[97], []] := by decide +kernel
theorem ex_s : xC.1.steps + 10000 ≤ 1000000 ∧ xC.1.ps.length + 10000 ≤ 100000 ∧ xC.1.K.length = 8 ∧ xC.1.down = false ∧ xD.1.down = false ∧ xD.1.K.length = 8 ∧ xC.2.1.size = 4 ∧ xC.2.1.used ≤ 4 ∧ xC.2.1.first + 4 ≤ 8 ∧ xC.2.1.recs ≤ 4096 := by decide +kernel
theorem ex_j : xJ.size = 4 ∧ xJ.free ≤ 4 ∧ xJ.used ≤ 4 ∧ xJ.first + 4 ≤ 8 ∧ xJ.recs ≤ 4096 := by decide +kernel
theorem ex_z : xD.2.1.size = 4 ∧ xD.2.1.used ≤ 4 := by decide +kernel
end Go.Proofs.Ytppdckncnfffcaa
