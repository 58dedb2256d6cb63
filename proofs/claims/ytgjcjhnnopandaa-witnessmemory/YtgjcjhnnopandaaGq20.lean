/- The document's one of layer 8, its form being right: what it returns. -/
import Derived.Test.YtgjcjhnnopandaaGq08
import Derived.Test.YtgjcjhnnopandaaGq19
namespace Go.Proofs.Ytgjcjhnnopandaa
open Go.Value renaming int → U, slice → Sl
open Go.IntKind renaming i64 → i6
set_option maxRecDepth 100000
set_option maxHeartbeats 16000000
open Go.ChangeShapes Go.WideShapes Go.ChangeAt Go.RowKit
set_option linter.unusedVariables false
end Go.Proofs.Ytgjcjhnnopandaa
