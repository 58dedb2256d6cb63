/- The document's one of layer 8: the error of an op, the shape that it makes. -/
import Derived.Test.YtgjcjhnnopandaaGq11
import Derived.Test.YtgjcjhnnopandaaGq17
import Derived.Test.YtgjcjhnnopandaaGq18
namespace Go.Proofs.Ytgjcjhnnopandaa
open Go.Value renaming int → U, slice → Sl
open Go.IntKind renaming i64 → i6
set_option maxRecDepth 100000
set_option maxHeartbeats 16000000
open Go.ChangeShapes Go.WideShapes Go.ChangeAt Go.RowKit
set_option linter.unusedVariables false
def onS (k m kh kw sh sw tp lf bt rt e:Int) (s:Int×Int×Int):Int×Int×Int:=if e=0 then mk3 k m kh kw sh sw tp lf bt rt s else (0,0,0)
theorem St.lt {w0 w:World} {l:List (Nat×Array Value×TypeId)} (h:St w0 w l):∀ x∈l,x.1<w.heap.size:=fun x hx=>lt_of_heap (h.2 x hx).1
end Go.Proofs.Ytgjcjhnnopandaa
