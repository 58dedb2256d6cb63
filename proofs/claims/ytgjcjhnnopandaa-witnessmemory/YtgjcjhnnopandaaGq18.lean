/- The document's spare of layer 8: are the fields that a kind doesn't use 0? -/
import Derived.Test.YtgjcjhnnopandaaGq03
namespace Go.Proofs.Ytgjcjhnnopandaa
open Go.Value renaming int → U, slice → Sl
open Go.IntKind renaming i64 → i6
set_option maxRecDepth 100000
set_option maxHeartbeats 16000000
open Go.ChangeShapes Go.WideShapes Go.ChangeAt Go.RowKit
set_option linter.unusedVariables false
def sq1 (k b um us:Int):Bool:=decide (k≠6∧(b≠0∨¬ (um=0∧us=0)))
def sq2 (k m:Int) (lw lb:Nat) (sm ss z:Int):Bool:=decide ((2<k∧m≠0)∨(weB k=false∧0<lw+lb)∨(scK k=false∧(¬ (sm=0∧ss=0)∨z≠0)))
def sq3 (k kh kw sh sw tp lf bt rt p:Int):Bool:=decide ((slB k=false∧¬ (kh=0∧kw=0∧sh=0∧sw=0∧tp=0∧lf=0∧bt=0∧rt=0))∨(k≠2∧k≠3∧p≠0))
def sq4 (k tp lf bt rt:Int):Bool:=decide ((k≠4∧k≠5)∨(tp=0∧lf=0∧bt=0∧rt=0))
end Go.Proofs.Ytgjcjhnnopandaa
