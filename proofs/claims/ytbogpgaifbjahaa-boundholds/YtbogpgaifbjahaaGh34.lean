/- What the document's Find of layer 10 returns: the op that is asked, with its shapes; the error. -/
import Derived.Test.YtbogpgaifbjahaaGr22
/- What the document's Find of layer 10 returns: the op that is asked, with its shapes; the error. -/
namespace Go.Proofs.Ytbogpgaifbjahaa
open Go.ChangeShapes Go.WideShapes Go.ChangeAt Go.RowKit
set_option linter.unusedVariables false
end Go.Proofs.Ytbogpgaifbjahaa
