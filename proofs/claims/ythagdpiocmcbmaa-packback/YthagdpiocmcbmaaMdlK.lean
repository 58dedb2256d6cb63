/- plain and fixed of law08. -/
import Derived.Test.YthagdpiocmcbmaaMdlH
namespace Go.Proofs.Ythagdpiocmcbmaa
open Go.ChangeShapes Go.WideShapes Go.ChangeAt Go.RowKit
set_option linter.unusedVariables false
/-- The op of the plain model, its A being 'aa'. -/
def plO (aa : Int) (_ : Nat) (j : Nat) : Int := [1, aa, 0, 1, 0, 0, 0, 0, 0, 0, 0, 0, 2, 1, 1, 0, 0, 0, 0, 0, -128, 127].getD j 0
theorem pl_0 : gtR (plO 0) 1 1 2 (-128) 127 1 1 = (0, 0, [(1, 1, 2), (1, 1, 1)], 2) := by decide
theorem pl_1 : gtR (plO 1) 1 1 2 (-128) 127 1 1 = (82, 1, [], 0) := by decide
end Go.Proofs.Ythagdpiocmcbmaa
