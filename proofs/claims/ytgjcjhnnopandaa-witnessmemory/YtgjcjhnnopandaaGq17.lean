/- The document's Makes, Length, Lists and Labour of layer 8: what each returns. -/
import Derived.Test.YtgjcjhnnopandaaGq10
import Derived.Test.YtgjcjhnnopandaaGq11
namespace Go.Proofs.Ytgjcjhnnopandaa
open Go.Value renaming int → U, slice → Sl
open Go.IntKind renaming i64 → i6
set_option maxRecDepth 100000
set_option maxHeartbeats 16000000
open Go.ChangeShapes Go.WideShapes Go.ChangeAt Go.RowKit
set_option linter.unusedVariables false
def rmO (k m kh kw sh sw tp lf bt rt h w c:Int):Int×Int×Int:=if mkW k kh kw sh sw tp lf bt rt h w c=0 then mkS k m kh kw sh sw tp lf bt rt h w c else (0,0,0)
def liW (k m c st:Int):Int:=if k≤2 then m*st else if k=3 then c*st else 0
def liB (k m c:Int):Int:=if k≤2 then m else if k=3 then c else 0
end Go.Proofs.Ytgjcjhnnopandaa
