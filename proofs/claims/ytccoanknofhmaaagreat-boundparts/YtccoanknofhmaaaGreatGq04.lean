/- Are the fields that a kind doesn't use 0? The program's answer and the document's. -/
import Derived.Test.YtccoanknofhmaaaGreatGq03
import Derived.Deep.DeepCutAuto
namespace Go.Proofs.YtccoanknofhmaaaGreat
open Go.Value renaming int → U, slice → Sl
open Go.IntKind renaming i64 → i6
set_option maxRecDepth 100000
set_option maxHeartbeats 16000000
open Go.ChangeShapes Go.WideShapes Go.ChangeAt Go.RowKit
theorem rulesQ_st {w0 w:World} {b:List (Nat×Array Value×TypeId)} (_:St w0 w b):RulesQ w0 b b:=rulesQ w0 b
def rgn (i:Nat):Code→Option (Array Oper)
 | .region id ops _=>if id=i then some ops else none
 | .seq a b=>match rgn i a with
  | some o=>some o
  | none=>rgn i b
 | .cond _ a b=>match rgn i a with
  | some o=>some o
  | none=>rgn i b
 | .block _ b=>rgn i b
 | .loop b=>rgn i b
 | .scope b=>rgn i b
 | .rangeFunc _ _ _ b=>rgn i b
 | _=>none
theorem ozLex:Region.lexB .any ((Tryz.f100.body.bind (rgn 2)).getD #[])=true:=by kernel_rfl
theorem lex_of {a b:Array Oper} (h:Region.lexB .any b=true) (e:a=b):Region.lexB .any a=true:=by rw [e];exact h
theorem eq2 (T:TypeId) (hT:T=40) (a b c d:Int) (v:Bool) (h:decide (a=c∧b=d)=v):∀ W,(binOp .eql T (.agg #[U i6 a,U i6 b]) (.agg #[U i6 c,U i6 d])).run Tryz.prog W=.ok (.bool v) W:=by
 intro W; subst h hT; simp [go_sem]; split<;>simp_all<;>split<;>simp_all
theorem ne2 (T:TypeId) (hT:T=40) (a b c d:Int) (v:Bool) (h:decide (a=c∧b=d)=v):∀ W,(binOp .neq T (.agg #[U i6 a,U i6 b]) (.agg #[U i6 c,U i6 d])).run Tryz.prog W=.ok (.bool (!v)) W:=by
 intro W; subst h hT; simp [go_sem]; split<;>simp_all<;>split<;>simp_all
theorem eq8 (T:TypeId) (hT:T=36) (a1 a2 a3 a4 a5 a6 a7 a8 b1 b2 b3 b4 b5 b6 b7 b8:Int) (v:Bool) (h:decide (a1=b1∧a2=b2∧a3=b3∧a4=b4∧a5=b5∧a6=b6∧a7=b7∧a8=b8)=v):∀ W,(binOp .eql T (.agg #[U i6 a1,U i6 a2,U i6 a3,U i6 a4,U i6 a5,U i6 a6,U i6 a7,U i6 a8]) (.agg #[U i6 b1,U i6 b2,U i6 b3,U i6 b4,U i6 b5,U i6 b6,U i6 b7,U i6 b8])).run Tryz.prog W=.ok (.bool v) W:=by
 intro W;subst h hT;simp [go_sem];repeat' split
 all_goals simp_all
theorem ne8 (T:TypeId) (hT:T=36) (a1 a2 a3 a4 a5 a6 a7 a8 b1 b2 b3 b4 b5 b6 b7 b8:Int) (v:Bool) (h:decide (a1=b1∧a2=b2∧a3=b3∧a4=b4∧a5=b5∧a6=b6∧a7=b7∧a8=b8)=v):∀ W,(binOp .neq T (.agg #[U i6 a1,U i6 a2,U i6 a3,U i6 a4,U i6 a5,U i6 a6,U i6 a7,U i6 a8]) (.agg #[U i6 b1,U i6 b2,U i6 b3,U i6 b4,U i6 b5,U i6 b6,U i6 b7,U i6 b8])).run Tryz.prog W=.ok (.bool (!v)) W:=by
 intro W;subst h hT;simp [go_sem];repeat' split
 all_goals simp_all
def ozB (k b m kh kw sh sw tp lf bt rt:Int) (lw lb:Nat) (sm ss um us z p:Int):Bool:=decide (
 (k≠6→b=0∧um=0∧us=0)∧(2<k→m=0)∧(3<k→lw=0∧lb=0)∧(k=4∨k=5∨k=8→sm=0∧ss=0∧z=0) ∧
 (k=1∨5<k→kh=0∧kw=0∧sh=0∧sw=0∧tp=0∧lf=0∧bt=0∧rt=0)∧(k≠2→k≠3→p=0)∧(k=4∨k=5→tp=0∧lf=0∧bt=0∧rt=0))
end Go.Proofs.YtccoanknofhmaaaGreat
