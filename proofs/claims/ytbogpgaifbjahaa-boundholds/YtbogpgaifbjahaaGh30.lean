/- What the small functions of package norm return, and those of the document. What sum of package plain returns. What alone of package plain returns: a model of one op. The reach of an op, by package norm and by the document; the document's sums of weights. What L1, Signed and Quick of package norm return. What Quick of package norm returns. -/
import Derived.Test.YtbogpgaifbjahaaGr09
import Derived.Test.YtbogpgaifbjahaaGr14
import Derived.Test.YtbogpgaifbjahaaGr20
import Derived.Test.YtbogpgaifbjahaaGr23
import Derived.Test.YtbogpgaifbjahaaGr29
/- What the small functions of package norm return, and those of the document. -/
namespace Go.Proofs.Ytbogpgaifbjahaa
open Go.ChangeShapes Go.WideShapes Go.ChangeAt Go.RowKit
set_option linter.unusedVariables false
/-! ### Sums of weights -/
/-! ### Spans of values -/
def vaB (lo hi : Int) : Bool := decide (-128 ≤ lo ∧ lo ≤ hi ∧ hi ≤ 127)
/-! ### The reach -/
end Go.Proofs.Ytbogpgaifbjahaa

/- What sum of package plain returns. -/
namespace Go.Proofs.Ytbogpgaifbjahaa
open Go.ChangeShapes Go.WideShapes Go.ChangeAt Go.RowKit
set_option linter.unusedVariables false
/-! ### A sum -/
end Go.Proofs.Ytbogpgaifbjahaa

/- What alone of package plain returns: a model of one op. -/
namespace Go.Proofs.Ytbogpgaifbjahaa
open Go.ChangeShapes Go.WideShapes Go.ChangeAt Go.RowKit
set_option linter.unusedVariables false
/-! ### The op alone -/
end Go.Proofs.Ytbogpgaifbjahaa

/- The reach of an op, by package norm and by the document; the document's sums of weights. -/
namespace Go.Proofs.Ytbogpgaifbjahaa
open Go.ChangeShapes Go.WideShapes Go.ChangeAt Go.RowKit
set_option linter.unusedVariables false
end Go.Proofs.Ytbogpgaifbjahaa

/- What L1, Signed and Quick of package norm return. -/
namespace Go.Proofs.Ytbogpgaifbjahaa
open Go.ChangeShapes Go.WideShapes Go.ChangeAt Go.RowKit
set_option linter.unusedVariables false
end Go.Proofs.Ytbogpgaifbjahaa

/- What Quick of package norm returns. -/
namespace Go.Proofs.Ytbogpgaifbjahaa
open Go.ChangeShapes Go.WideShapes Go.ChangeAt Go.RowKit
set_option linter.unusedVariables false
/-- What Quick answers: the ends and the error. -/
def quR (slo shi bi A R : Int) : Int × Int × Int := if vaB slo shi = true then (bi - A * R, bi + A * R, 0) else (0, 0, 30)
end Go.Proofs.Ytbogpgaifbjahaa
