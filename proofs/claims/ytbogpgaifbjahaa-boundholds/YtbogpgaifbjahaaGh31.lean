/- The walk of BoundNests. -/
import Derived.Test.YtbogpgaifbjahaaGr29
import Derived.Test.YtbogpgaifbjahaaGh30
/- The walk of BoundNests. -/
namespace Go.Proofs.Ytbogpgaifbjahaa
open Go.ChangeShapes Go.WideShapes Go.ChangeAt Go.RowKit
set_option linter.unusedVariables false
end Go.Proofs.Ytbogpgaifbjahaa
