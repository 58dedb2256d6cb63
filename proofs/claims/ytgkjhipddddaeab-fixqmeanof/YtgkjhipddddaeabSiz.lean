/- The document's size of a number, and a size with a sign: for every argument that fits its type. -/
import Derived.Test.YtgkjhipddddaeabNum
namespace Go.Proofs.Ytgkjhipddddaeab
open Go.ChangeShapes Go.WideShapes Go.ChangeAt Go.RowKit
def sizeV (x : Int) : Int := if x < 0 then -x else x
theorem sizeV_bd (x : Int) (h : I64 x) : 0 ≤ sizeV x ∧ sizeV x ≤ 9223372036854775808 := by unfold sizeV; unfold I64 at h; split <;> omega
theorem u64w (x : Int) : IntKind.u64.wrap x = x % 18446744073709551616 := by simp [IntKind.wrap, IntKind.bits, IntKind.signed]
end Go.Proofs.Ytgkjhipddddaeab
