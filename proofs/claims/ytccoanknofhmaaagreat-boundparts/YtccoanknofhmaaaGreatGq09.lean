/- othersZero at every kind. A region that draws its order, some of whose operations write: an operation that reads, and reads the same in every world that the region passes through, may be taken first; whole structs that are loaded and stored there. Laws of memory, of drawn regions and of whole structs: no function of the seat. Ops in plain numbers: what they make, their errors, their work; small laws of memory. form of package model: what it returns. -/
import Derived.Test.YtccoanknofhmaaaGreatGq01
import Derived.Test.YtccoanknofhmaaaGreatGq03
import Derived.Test.YtccoanknofhmaaaGreatGq05
import Derived.Test.YtccoanknofhmaaaGreatGq06
import Derived.Test.YtccoanknofhmaaaGreatGq07
import Derived.Test.YtccoanknofhmaaaGreatGq08
import Derived.Deep.DeepCutAuto
import Derived.OrdersIn
import Derived.TacticsIn
import Derived.RegionIn
import Derived.Laws.Tables
import Derived.Deep.WholeRow
import Derived.BigQuiet
namespace Go.Proofs.YtccoanknofhmaaaGreat
open Go.Value renaming int → U, slice → Sl
open Go.IntKind renaming i64 → i6
set_option maxRecDepth 100000
set_option maxHeartbeats 16000000
open Go.ChangeShapes Go.WideShapes Go.ChangeAt Go.RowKit
theorem others_any (k a b m kh kw sh sw tp lf bt rt:Int) (wa:Option Addr) (lw wc:Nat) (ba:Option Addr) (lb bc:Nat) (sm ss um us z p lo hi:Int) (W:World) (hk:1≤k∧k≤8) :
  Calls Tryz.prog 100 #[.agg #[U i6 k,U i6 a,U i6 b,U i6 m,U i6 kh,U i6 kw,U i6 sh,U i6 sw,U i6 tp,U i6 lf,U i6 bt,U i6 rt,Sl wa lw wc,Sl ba lb bc,U i6 sm,U i6 ss,U i6 um,U i6 us,U i6 z,U i6 p,U i6 lo,U i6 hi]] W fun e w'=>e=.returned (.bool (ozB k b m kh kw sh sw tp lf bt rt lw lb sm ss um us z p))∧Below W.heap.size W w':=by
 rcases eight hk with rfl | rfl | rfl | rfl | rfl | rfl | rfl | rfl
 ·by_cases hn:b=0
  rotate_left
  ·rw [show ozB 1 b m kh kw sh sw tp lf bt rt lw lb sm ss um us z p=false from decide_eq_false (by omega)];exact oz_1_0 a b m kh kw sh sw tp lf bt rt sm ss um us z p lo hi wa lw lb wc ba bc W hn
  subst hn
  by_cases hn:kh=0∧kw=0∧sh=0∧sw=0∧tp=0∧lf=0∧bt=0∧rt=0
  rotate_left
  ·rw [show ozB 1 0 m kh kw sh sw tp lf bt rt lw lb sm ss um us z p=false from decide_eq_false (by omega)];exact oz_1_1 a m kh kw sh sw tp lf bt rt sm ss um us z p lo hi wa lw lb wc ba bc W hn
  obtain⟨rfl,rfl,rfl,rfl,rfl,rfl,rfl,rfl⟩:=hn
  by_cases hn:um=0∧us=0
  rotate_left
  ·rw [show ozB 1 0 m 0 0 0 0 0 0 0 0 lw lb sm ss um us z p=false from decide_eq_false (by omega)];exact oz_1_2 a m sm ss um us z p lo hi wa lw lb wc ba bc W hn
  obtain⟨rfl,rfl⟩:=hn
  by_cases hn:p=0
  rotate_left
  ·rw [show ozB 1 0 m 0 0 0 0 0 0 0 0 lw lb sm ss 0 0 z p=false from decide_eq_false (by omega)];exact oz_1_3 a m sm ss z p lo hi wa lw lb wc ba bc W hn
  subst hn
  rw [show ozB 1 0 m 0 0 0 0 0 0 0 0 lw lb sm ss 0 0 z 0=true from decide_eq_true (by omega)];exact oz_1_4 a m sm ss z lo hi wa lw lb wc ba bc W
 ·by_cases hn:b=0
  rotate_left
  ·rw [show ozB 2 b m kh kw sh sw tp lf bt rt lw lb sm ss um us z p=false from decide_eq_false (by omega)];exact oz_2_0 a b m kh kw sh sw tp lf bt rt sm ss um us z p lo hi wa lw lb wc ba bc W hn
  subst hn
  by_cases hn:um=0∧us=0
  rotate_left
  ·rw [show ozB 2 0 m kh kw sh sw tp lf bt rt lw lb sm ss um us z p=false from decide_eq_false (by omega)];exact oz_2_1 a m kh kw sh sw tp lf bt rt sm ss um us z p lo hi wa lw lb wc ba bc W hn
  obtain⟨rfl,rfl⟩:=hn
  rw [show ozB 2 0 m kh kw sh sw tp lf bt rt lw lb sm ss 0 0 z p=true from decide_eq_true (by omega)];exact oz_2_2 a m kh kw sh sw tp lf bt rt sm ss z p lo hi wa lw lb wc ba bc W
 ·by_cases hn:b=0
  rotate_left
  ·rw [show ozB 3 b m kh kw sh sw tp lf bt rt lw lb sm ss um us z p=false from decide_eq_false (by omega)];exact oz_3_0 a b m kh kw sh sw tp lf bt rt sm ss um us z p lo hi wa lw lb wc ba bc W hn
  subst hn
  by_cases hn:m=0
  rotate_left
  ·rw [show ozB 3 0 m kh kw sh sw tp lf bt rt lw lb sm ss um us z p=false from decide_eq_false (by omega)];exact oz_3_1 a m kh kw sh sw tp lf bt rt sm ss um us z p lo hi wa lw lb wc ba bc W hn
  subst hn
  by_cases hn:um=0∧us=0
  rotate_left
  ·rw [show ozB 3 0 0 kh kw sh sw tp lf bt rt lw lb sm ss um us z p=false from decide_eq_false (by omega)];exact oz_3_2 a kh kw sh sw tp lf bt rt sm ss um us z p lo hi wa lw lb wc ba bc W hn
  obtain⟨rfl,rfl⟩:=hn
  rw [show ozB 3 0 0 kh kw sh sw tp lf bt rt lw lb sm ss 0 0 z p=true from decide_eq_true (by omega)];exact oz_3_3 a kh kw sh sw tp lf bt rt sm ss z p lo hi wa lw lb wc ba bc W
 ·by_cases hn:b=0
  rotate_left
  ·rw [show ozB 4 b m kh kw sh sw tp lf bt rt lw lb sm ss um us z p=false from decide_eq_false (by omega)];exact oz_4_0 a b m kh kw sh sw tp lf bt rt sm ss um us z p lo hi wa lw lb wc ba bc W hn
  subst hn
  by_cases hn:m=0
  rotate_left
  ·rw [show ozB 4 0 m kh kw sh sw tp lf bt rt lw lb sm ss um us z p=false from decide_eq_false (by omega)];exact oz_4_1 a m kh kw sh sw tp lf bt rt sm ss um us z p lo hi wa lw lb wc ba bc W hn
  subst hn
  by_cases hn:tp=0∧lf=0∧bt=0∧rt=0
  rotate_left
  ·rw [show ozB 4 0 0 kh kw sh sw tp lf bt rt lw lb sm ss um us z p=false from decide_eq_false (by omega)];exact oz_4_2 a kh kw sh sw tp lf bt rt sm ss um us z p lo hi wa lw lb wc ba bc W hn
  obtain⟨rfl,rfl,rfl,rfl⟩:=hn
  by_cases hn:lw=0
  rotate_left
  ·rw [show ozB 4 0 0 kh kw sh sw 0 0 0 0 lw lb sm ss um us z p=false from decide_eq_false (by omega)];exact oz_4_3 a kh kw sh sw sm ss um us z p lo hi wa lw lb wc ba bc W hn
  subst hn
  by_cases hn:lb=0
  rotate_left
  ·rw [show ozB 4 0 0 kh kw sh sw 0 0 0 0 0 lb sm ss um us z p=false from decide_eq_false (by omega)];exact oz_4_4 a kh kw sh sw sm ss um us z p lo hi wa lb wc ba bc W hn
  subst hn
  by_cases hn:sm=0∧ss=0
  rotate_left
  ·rw [show ozB 4 0 0 kh kw sh sw 0 0 0 0 0 0 sm ss um us z p=false from decide_eq_false (by omega)];exact oz_4_5 a kh kw sh sw sm ss um us z p lo hi wa wc ba bc W hn
  obtain⟨rfl,rfl⟩:=hn
  by_cases hn:um=0∧us=0
  rotate_left
  ·rw [show ozB 4 0 0 kh kw sh sw 0 0 0 0 0 0 0 0 um us z p=false from decide_eq_false (by omega)];exact oz_4_6 a kh kw sh sw um us z p lo hi wa wc ba bc W hn
  obtain⟨rfl,rfl⟩:=hn
  by_cases hn:z=0
  rotate_left
  ·rw [show ozB 4 0 0 kh kw sh sw 0 0 0 0 0 0 0 0 0 0 z p=false from decide_eq_false (by omega)];exact oz_4_7 a kh kw sh sw z p lo hi wa wc ba bc W hn
  subst hn
  by_cases hn:p=0
  rotate_left
  ·rw [show ozB 4 0 0 kh kw sh sw 0 0 0 0 0 0 0 0 0 0 0 p=false from decide_eq_false (by omega)];exact oz_4_8 a kh kw sh sw p lo hi wa wc ba bc W hn
  subst hn
  rw [show ozB 4 0 0 kh kw sh sw 0 0 0 0 0 0 0 0 0 0 0 0=true from decide_eq_true (by omega)];exact oz_4_9 a kh kw sh sw lo hi wa wc ba bc W
 ·by_cases hn:b=0
  rotate_left
  ·rw [show ozB 5 b m kh kw sh sw tp lf bt rt lw lb sm ss um us z p=false from decide_eq_false (by omega)];exact oz_5_0 a b m kh kw sh sw tp lf bt rt sm ss um us z p lo hi wa lw lb wc ba bc W hn
  subst hn
  by_cases hn:m=0
  rotate_left
  ·rw [show ozB 5 0 m kh kw sh sw tp lf bt rt lw lb sm ss um us z p=false from decide_eq_false (by omega)];exact oz_5_1 a m kh kw sh sw tp lf bt rt sm ss um us z p lo hi wa lw lb wc ba bc W hn
  subst hn
  by_cases hn:tp=0∧lf=0∧bt=0∧rt=0
  rotate_left
  ·rw [show ozB 5 0 0 kh kw sh sw tp lf bt rt lw lb sm ss um us z p=false from decide_eq_false (by omega)];exact oz_5_2 a kh kw sh sw tp lf bt rt sm ss um us z p lo hi wa lw lb wc ba bc W hn
  obtain⟨rfl,rfl,rfl,rfl⟩:=hn
  by_cases hn:lw=0
  rotate_left
  ·rw [show ozB 5 0 0 kh kw sh sw 0 0 0 0 lw lb sm ss um us z p=false from decide_eq_false (by omega)];exact oz_5_3 a kh kw sh sw sm ss um us z p lo hi wa lw lb wc ba bc W hn
  subst hn
  by_cases hn:lb=0
  rotate_left
  ·rw [show ozB 5 0 0 kh kw sh sw 0 0 0 0 0 lb sm ss um us z p=false from decide_eq_false (by omega)];exact oz_5_4 a kh kw sh sw sm ss um us z p lo hi wa lb wc ba bc W hn
  subst hn
  by_cases hn:sm=0∧ss=0
  rotate_left
  ·rw [show ozB 5 0 0 kh kw sh sw 0 0 0 0 0 0 sm ss um us z p=false from decide_eq_false (by omega)];exact oz_5_5 a kh kw sh sw sm ss um us z p lo hi wa wc ba bc W hn
  obtain⟨rfl,rfl⟩:=hn
  by_cases hn:um=0∧us=0
  rotate_left
  ·rw [show ozB 5 0 0 kh kw sh sw 0 0 0 0 0 0 0 0 um us z p=false from decide_eq_false (by omega)];exact oz_5_6 a kh kw sh sw um us z p lo hi wa wc ba bc W hn
  obtain⟨rfl,rfl⟩:=hn
  by_cases hn:z=0
  rotate_left
  ·rw [show ozB 5 0 0 kh kw sh sw 0 0 0 0 0 0 0 0 0 0 z p=false from decide_eq_false (by omega)];exact oz_5_7 a kh kw sh sw z p lo hi wa wc ba bc W hn
  subst hn
  by_cases hn:p=0
  rotate_left
  ·rw [show ozB 5 0 0 kh kw sh sw 0 0 0 0 0 0 0 0 0 0 0 p=false from decide_eq_false (by omega)];exact oz_5_8 a kh kw sh sw p lo hi wa wc ba bc W hn
  subst hn
  rw [show ozB 5 0 0 kh kw sh sw 0 0 0 0 0 0 0 0 0 0 0 0=true from decide_eq_true (by omega)];exact oz_5_9 a kh kw sh sw lo hi wa wc ba bc W
 ·by_cases hn:m=0
  rotate_left
  ·rw [show ozB 6 b m kh kw sh sw tp lf bt rt lw lb sm ss um us z p=false from decide_eq_false (by omega)];exact oz_6_0 a b m kh kw sh sw tp lf bt rt sm ss um us z p lo hi wa lw lb wc ba bc W hn
  subst hn
  by_cases hn:kh=0∧kw=0∧sh=0∧sw=0∧tp=0∧lf=0∧bt=0∧rt=0
  rotate_left
  ·rw [show ozB 6 b 0 kh kw sh sw tp lf bt rt lw lb sm ss um us z p=false from decide_eq_false (by omega)];exact oz_6_1 a b kh kw sh sw tp lf bt rt sm ss um us z p lo hi wa lw lb wc ba bc W hn
  obtain⟨rfl,rfl,rfl,rfl,rfl,rfl,rfl,rfl⟩:=hn
  by_cases hn:lw=0
  rotate_left
  ·rw [show ozB 6 b 0 0 0 0 0 0 0 0 0 lw lb sm ss um us z p=false from decide_eq_false (by omega)];exact oz_6_2 a b sm ss um us z p lo hi wa lw lb wc ba bc W hn
  subst hn
  by_cases hn:lb=0
  rotate_left
  ·rw [show ozB 6 b 0 0 0 0 0 0 0 0 0 0 lb sm ss um us z p=false from decide_eq_false (by omega)];exact oz_6_3 a b sm ss um us z p lo hi wa lb wc ba bc W hn
  subst hn
  by_cases hn:p=0
  rotate_left
  ·rw [show ozB 6 b 0 0 0 0 0 0 0 0 0 0 0 sm ss um us z p=false from decide_eq_false (by omega)];exact oz_6_4 a b sm ss um us z p lo hi wa wc ba bc W hn
  subst hn
  rw [show ozB 6 b 0 0 0 0 0 0 0 0 0 0 0 sm ss um us z 0=true from decide_eq_true (by omega)];exact oz_6_5 a b sm ss um us z lo hi wa wc ba bc W
 ·by_cases hn:b=0
  rotate_left
  ·rw [show ozB 7 b m kh kw sh sw tp lf bt rt lw lb sm ss um us z p=false from decide_eq_false (by omega)];exact oz_7_0 a b m kh kw sh sw tp lf bt rt sm ss um us z p lo hi wa lw lb wc ba bc W hn
  subst hn
  by_cases hn:m=0
  rotate_left
  ·rw [show ozB 7 0 m kh kw sh sw tp lf bt rt lw lb sm ss um us z p=false from decide_eq_false (by omega)];exact oz_7_1 a m kh kw sh sw tp lf bt rt sm ss um us z p lo hi wa lw lb wc ba bc W hn
  subst hn
  by_cases hn:kh=0∧kw=0∧sh=0∧sw=0∧tp=0∧lf=0∧bt=0∧rt=0
  rotate_left
  ·rw [show ozB 7 0 0 kh kw sh sw tp lf bt rt lw lb sm ss um us z p=false from decide_eq_false (by omega)];exact oz_7_2 a kh kw sh sw tp lf bt rt sm ss um us z p lo hi wa lw lb wc ba bc W hn
  obtain⟨rfl,rfl,rfl,rfl,rfl,rfl,rfl,rfl⟩:=hn
  by_cases hn:lw=0
  rotate_left
  ·rw [show ozB 7 0 0 0 0 0 0 0 0 0 0 lw lb sm ss um us z p=false from decide_eq_false (by omega)];exact oz_7_3 a sm ss um us z p lo hi wa lw lb wc ba bc W hn
  subst hn
  by_cases hn:lb=0
  rotate_left
  ·rw [show ozB 7 0 0 0 0 0 0 0 0 0 0 0 lb sm ss um us z p=false from decide_eq_false (by omega)];exact oz_7_4 a sm ss um us z p lo hi wa lb wc ba bc W hn
  subst hn
  by_cases hn:um=0∧us=0
  rotate_left
  ·rw [show ozB 7 0 0 0 0 0 0 0 0 0 0 0 0 sm ss um us z p=false from decide_eq_false (by omega)];exact oz_7_5 a sm ss um us z p lo hi wa wc ba bc W hn
  obtain⟨rfl,rfl⟩:=hn
  by_cases hn:p=0
  rotate_left
  ·rw [show ozB 7 0 0 0 0 0 0 0 0 0 0 0 0 sm ss 0 0 z p=false from decide_eq_false (by omega)];exact oz_7_6 a sm ss z p lo hi wa wc ba bc W hn
  subst hn
  rw [show ozB 7 0 0 0 0 0 0 0 0 0 0 0 0 sm ss 0 0 z 0=true from decide_eq_true (by omega)];exact oz_7_7 a sm ss z lo hi wa wc ba bc W
 ·by_cases hn:b=0
  rotate_left
  ·rw [show ozB 8 b m kh kw sh sw tp lf bt rt lw lb sm ss um us z p=false from decide_eq_false (by omega)];exact oz_8_0 a b m kh kw sh sw tp lf bt rt sm ss um us z p lo hi wa lw lb wc ba bc W hn
  subst hn
  by_cases hn:m=0
  rotate_left
  ·rw [show ozB 8 0 m kh kw sh sw tp lf bt rt lw lb sm ss um us z p=false from decide_eq_false (by omega)];exact oz_8_1 a m kh kw sh sw tp lf bt rt sm ss um us z p lo hi wa lw lb wc ba bc W hn
  subst hn
  by_cases hn:kh=0∧kw=0∧sh=0∧sw=0∧tp=0∧lf=0∧bt=0∧rt=0
  rotate_left
  ·rw [show ozB 8 0 0 kh kw sh sw tp lf bt rt lw lb sm ss um us z p=false from decide_eq_false (by omega)];exact oz_8_2 a kh kw sh sw tp lf bt rt sm ss um us z p lo hi wa lw lb wc ba bc W hn
  obtain⟨rfl,rfl,rfl,rfl,rfl,rfl,rfl,rfl⟩:=hn
  by_cases hn:lw=0
  rotate_left
  ·rw [show ozB 8 0 0 0 0 0 0 0 0 0 0 lw lb sm ss um us z p=false from decide_eq_false (by omega)];exact oz_8_3 a sm ss um us z p lo hi wa lw lb wc ba bc W hn
  subst hn
  by_cases hn:lb=0
  rotate_left
  ·rw [show ozB 8 0 0 0 0 0 0 0 0 0 0 0 lb sm ss um us z p=false from decide_eq_false (by omega)];exact oz_8_4 a sm ss um us z p lo hi wa lb wc ba bc W hn
  subst hn
  by_cases hn:sm=0∧ss=0
  rotate_left
  ·rw [show ozB 8 0 0 0 0 0 0 0 0 0 0 0 0 sm ss um us z p=false from decide_eq_false (by omega)];exact oz_8_5 a sm ss um us z p lo hi wa wc ba bc W hn
  obtain⟨rfl,rfl⟩:=hn
  by_cases hn:um=0∧us=0
  rotate_left
  ·rw [show ozB 8 0 0 0 0 0 0 0 0 0 0 0 0 0 0 um us z p=false from decide_eq_false (by omega)];exact oz_8_6 a um us z p lo hi wa wc ba bc W hn
  obtain⟨rfl,rfl⟩:=hn
  by_cases hn:z=0
  rotate_left
  ·rw [show ozB 8 0 0 0 0 0 0 0 0 0 0 0 0 0 0 0 0 z p=false from decide_eq_false (by omega)];exact oz_8_7 a z p lo hi wa wc ba bc W hn
  subst hn
  by_cases hn:p=0
  rotate_left
  ·rw [show ozB 8 0 0 0 0 0 0 0 0 0 0 0 0 0 0 0 0 0 p=false from decide_eq_false (by omega)];exact oz_8_8 a p lo hi wa wc ba bc W hn
  subst hn
  rw [show ozB 8 0 0 0 0 0 0 0 0 0 0 0 0 0 0 0 0 0 0=true from decide_eq_true (by omega)];exact oz_8_9 a lo hi wa wc ba bc W
set_option linter.unusedVariables false
section
variable {F:Fence} {n:Nat} {P:Program} {ops:Array Oper} {md:Region.Mode} {C:World→Prop} {Q:Exit→Act→World→Prop}
def YieldsC (P:Program) (ops:Array Oper) (C:World→Prop) (o:Oper) (v:Value) (a:Act):Prop :=
 ((Region.wanted o (yielded ops a.tmps)=true∧∀ w,C w→(execOp a.eval o).run P w=.ok (.value v) w)∨(Region.wanted o (yielded ops a.tmps)=false∧v=undef))∧∀ w,o.about P w a.eval=none
theorem YieldsC.of_same {o:Oper} {v:Value} {a a':Act} (hy:YieldsC P ops C o v a) (he:execOp a'.eval o=execOp a.eval o)
  (hw:Region.wanted o (yielded ops a'.tmps)=Region.wanted o (yielded ops a.tmps)) (hb:∀ w,o.about P w a'.eval=o.about P w a.eval):YieldsC P ops C o v a':=by
 unfold YieldsC at *
 rw [he,hw]
 exact⟨hy.1,fun w=>by rw [hb w];exact hy.2 w⟩
theorem YieldsC.wpOpIn {i:Nat} {o:Oper} {v:Value} {a:Act} (hro:F.round=none) (hi:ops[i]? = some o) (hy:YieldsC P ops C o v a) {K:Act→World→Prop} {w:World} (hC:C w) (h:K (a.put o.dst v) w):wpOpIn F n P ops Q i K a w:=by
 unfold Go.wpOpIn
 simp only [hi]
 have hab:∀ f,o.about P w a.eval=some f→F.fn f:=fun f hf=>by rw [hy.2 w] at hf;cases hf
 rcases hy.1 with ⟨hw,hv⟩ | ⟨hw,rfl⟩
 ·simp only [hw,if_true,Oper.wpIn,hro,Oper.semAt_none,hv w hC,Oper.uponIn];exact⟨hab,h⟩
 ·simp only [hw,Bool.false_eq_true,if_false];exact⟨hab,h⟩
theorem wpOpIn_putC {j:Nat} {oi oj:Oper} {v:Value} (hro:F.round=none) (hj:ops[j]? = some oj) (hap:oi.apart ops oj=true)
  (hsi:∀ cs b,oi.op≠.select cs b) (hsj:∀ cs b,oj.op≠.select cs b)
  (hQ:∀ c a w,Q (.panic c) (a.put oi.dst v) w→Q (.panic c) a w) {K:Act→World→Prop} {a:Act} {w:World}
  (hy:YieldsC P ops C oi v a) (h:wpOpIn F n P ops Q j K (a.put oi.dst v) w) :
  wpOpIn F n P ops Q j (fun a' w'=>YieldsC P ops C oi v a'∧K (a'.put oi.dst v) w') a w:=by
 obtain⟨h1,h2,h3⟩:=Oper.apart_spec hap
 have keep:∀ (a:Act),YieldsC P ops C oi v a→∀ u,YieldsC P ops C oi v (a.put oj.dst u):=fun a hy u =>
  hy.of_same (execOp_put oi hsi a oj.dst u h3) (wanted_put oi a oj.dst u h3) (fun w=>about_put oi w a oj.dst u h3)
 have keepD:∀ d,YieldsC P ops C oi v { a with defers:=d :: a.defers }:=fun d=>hy.of_same rfl rfl (fun _=>rfl)
 unfold wpOpIn at *
 simp only [hj] at *
 rw [wanted_put oj a oi.dst v h1,about_put oj w a oi.dst v h1] at h
 split
 ·rename_i hw
  simp only [hw,if_true] at h
  unfold Oper.wpIn at *
  rw [about_put oj w a oi.dst v h1] at h
  refine⟨h.1,?_⟩
  have h:=h.2
  rw [hro,Oper.semAt_none,execOp_put oj hsj a oi.dst v h1] at h
  rw [hro,Oper.semAt_none]
  generalize (execOp a.eval oj).run P w=r at *
  cases r with
  | ok x w' =>
   cases x<;>simp only [Oper.uponIn] at h ⊢
   case value u=>exact⟨keep a hy u,by rw [← Act.put_comm a v u h2];exact h⟩
   case skip=>exact⟨keep a hy _,by rw [← Act.put_comm a v undef h2];exact h⟩
   case defer d =>
    refine⟨keep _ (keepD d) _,?_⟩
    rw [← Act.put_comm _ v undef h2,← Act.put_defers]
    exact h
   case enter f args =>
    refine⟨h.1,CallsIn.mono h.2 fun e w'' he=>?_⟩
    cases e with
    | returned u=>exact⟨keep a hy u,by rw [← Act.put_comm a v u h2];exact he⟩
    | panicked c=>exact hQ _ _ _ he
    | outgrown=>exact he
   case row row args=>exact⟨h.1,RowsIn.mono h.2 fun u w'' he=>⟨keep a hy u,by rw [← Act.put_comm a v u h2];exact he⟩⟩
   case round l f tmps assign body =>
    refine⟨h.1,RoundIn.mono h.2 fun e w'' he=>?_⟩
    cases e with
    | returned u=>exact⟨keep a hy u,by rw [← Act.put_comm a v u h2];exact he⟩
    | panicked c=>exact hQ _ _ _ he
    | outgrown=>exact he
  | halt x w' =>
   cases x<;>simp only [Oper.uponIn] at h ⊢
   case panic u=>exact hQ _ _ _ h
 ·rename_i hw
  simp only [hw] at h
  exact⟨h.1,keep a hy _,by rw [← Act.put_comm a v undef h2];exact h.2⟩
def wpAnyC (F:Fence) (n:Nat) (P:Program) (md:Region.Mode) (ops:Array Oper) (C:World→Prop) (Q:Exit→Act→World→Prop):Nat→Array Bool→Act→World→Prop
 | 0,listed,a,w=>C w∧Region.ready md ops listed=[]∧Q .normal a w
 | fuel+1,listed,a,w=>C w∧(Region.ready md ops listed=[]→Q .normal a w)∧∀ i∈Region.ready md ops listed,wpOpIn F n P ops Q i (wpAnyC F n P md ops C Q fuel (listed.setIfInBounds i true)) a w
theorem any_of_C:∀ (fuel:Nat) (listed:Array Bool) (a:Act) (w:World),wpAnyC F n P md ops C Q fuel listed a w→wpAnyIn F n P md ops Q fuel listed a w
 | 0,_,_,_,h=>h.2
 | fuel+1,_,_,_,h=>⟨h.2.1,fun i hi=>wpOpIn_mono (fun a w=>any_of_C fuel _ a w) (h.2.2 i hi)⟩
theorem wpAnyC_first {i:Nat} {oi:Oper} {v:Value} (hro:F.round=none) (hi:ops[i]? = some oi) (hsel:∀ (j:Nat) (o:Oper) cs b,ops[j]? = some o→o.op≠.select cs b)
  (hQ:∀ c a w,Q (.panic c) (a.put oi.dst v) w→Q (.panic c) a w) :
  ∀ (fuel:Nat) (listed:Array Bool) (a:Act) (w:World),
   (∀ j oj,ops[j]? = some oj→j≠i→listed.getD j true=false→(∀ e∈oj.after,Region.binds md e=true→e.on≠i)→oi.apart ops oj=true) →
   i∈Region.ready md ops listed→YieldsC P ops C oi v a →
   wpAnyC F n P md ops C Q fuel (listed.setIfInBounds i true) (a.put oi.dst v) w→wpAnyC F n P md ops C Q (fuel+1) listed a w:=by
 intro fuel
 induction fuel with
 | zero =>
  intro listed a w _ hr hy H
  refine⟨H.1,fun h=>(by rw [h] at hr;cases hr),fun j hj=>?_⟩
  by_cases hji:j=i
  ·subst hji;exact hy.wpOpIn hro hi H.1 H
  ·have:=ready_mono hj hji
   rw [H.2.1] at this
   cases this
 | succ fuel ih =>
  intro listed a w hfree hr hy H
  refine⟨H.1,fun h=>(by rw [h] at hr;cases hr),fun j hj=>?_⟩
  by_cases hji:j=i
  ·subst hji;exact hy.wpOpIn hro hi H.1 H
  ·have h1:=H.2.2 j (ready_mono hj hji)
   obtain⟨hjun,oj,hoj,hall⟩:=mem_ready.1 hj
   have hnot:∀ e∈oj.after,Region.binds md e=true→e.on≠i:=fun e he hb heq=>by
    have h1:=hall e he hb
    have h0:=(mem_ready.1 hr).1
    rw [heq] at h1
    rcases Nat.lt_or_ge i listed.size with h' | h'
    ·simp [h'] at h0 h1;rw [h0] at h1;cases h1
    ·simp [Array.getElem?_eq_none h'] at h1
   have h2:=wpOpIn_putC hro hoj (hfree j oj hoj hji hjun hnot) (fun cs b=>hsel i oi cs b hi) (fun cs b=>hsel j oj cs b hoj) hQ hy h1
   have hfree':∀ k ok,ops[k]? = some ok→k≠i→(listed.setIfInBounds j true).getD k true=false →
     (∀ e∈ok.after,Region.binds md e=true→e.on≠i)→oi.apart ops ok=true:=fun k ok hk hki hun hno=>by
    refine hfree k ok hk hki ?_ hno
    by_cases hjk:j=k
    ·subst hjk;exact hjun
    ·rw [getD_set_ne true hjk] at hun;exact hun
   refine wpOpIn_mono (fun a' w' h3=>ih (listed.setIfInBounds j true) a' w' hfree' (ready_mono hr (Ne.symm hji)) h3.1 ?_) h2
   rw [Array.setIfInBounds_comm _ _ hji]
   exact h3.2
theorem takeC (i:Nat) {oi:Oper} {v:Value} {fuel:Nat} {listed:Array Bool} {a:Act} {w:World} (hro:F.round=none) (hi:ops[i]? = some oi)
  (hs:Region.noSelect ops=true) (hf:Region.free md ops listed i=true) (hr:(Region.ready md ops listed).contains i=true)
  (hQ:∀ c a w,Q (.panic c) (a.put oi.dst v) w→Q (.panic c) a w) (hb:∀ w,oi.about P w a.eval=none) (hw:Region.wanted oi (yielded ops a.tmps)=true) (hy:∀ w,C w→(execOp a.eval oi).run P w=.ok (.value v) w)
  (h:wpAnyC F n P md ops C Q fuel (listed.setIfInBounds i true) (a.put oi.dst v) w):wpAnyC F n P md ops C Q (fuel+1) listed a w :=
 wpAnyC_first hro hi (Region.noSelect_spec hs) hQ fuel listed a w (Region.free_spec hi hf) (by simpa using hr) ⟨.inl ⟨hw,hy⟩,hb⟩ h
theorem stepC (i:Nat) {o:Oper} {fuel:Nat} {listed:Array Bool} {a:Act} {w:World} (hC:C w) (hr:Region.ready md ops listed=[i]) (ho:ops[i]? = some o)
  (h:∀ K:Act→World→Prop,(∀ a w,wpAnyC F n P md ops C Q fuel (listed.setIfInBounds i true) a w→K a w)→if Region.wanted o (yielded ops a.tmps)=true then Oper.wpIn F n P o a w K Q else (∀ f,o.about P w a.eval=some f→F.fn f)∧K (a.put o.dst undef) w) :
  wpAnyC F n P md ops C Q (fuel+1) listed a w :=
 ⟨hC,fun h0=>(by rw [hr] at h0;cases h0),fun j hj=>by
  rw [hr] at hj
  obtain rfl:j=i:=by simpa using hj
  exact wpOpIn_step ho fun K' hK'=>h K' hK'⟩
theorem doneC {listed:Array Bool} {a:Act} {w:World} (hC:C w) (hr:Region.ready md ops listed=[]) (h:Q .normal a w):∀ fuel,wpAnyC F n P md ops C Q fuel listed a w
 | 0=>⟨hC,hr,h⟩
 | _+1=>⟨hC,fun _=>h,by rw [hr];simp⟩
theorem regionC {id:Nat} {a:Act} {w:World} (C:World→Prop) (hm:P.follows .mixedOrders=true) (g:wpAnyC Fence.wide 3 P .any ops C Q ops.size (Array.replicate ops.size false) a w.drew):(Code.region id ops true).wp P Q a w :=
 (wpIn_wide (n:=3)).1 (wpIn_region_any hm (any_of_C _ _ _ _ g))
theorem run_la {a:Act} {o:Oper} {w:World} (ty:TypeId) (x:Operand) (h:o.op=.load ty x) (y:Addr) (hx:a.eval x=.pointer (some y)) (cs:List Value) (d:TypeDesc)
  (hC:∀ j v,cs[j]? = some v→w.cell? (y.add j)=some v) (hu:P.underlying ty=some d) (hd:(match d with | .struct _ | .array _ _=>true | _=>false)=true) (hi:(P.info? ty).map (·.size)=some cs.length):(execOp a.eval o).run P w=.ok (.value (.agg cs.toArray)) w:=by
 have hl:(loadCells y cs.length).run P w=.ok cs.toArray w:=run_loadCells_list (P:=P) w y cs hC
 have hv:(loadVar ty y).run P w=.ok (.agg cs.toArray) w:=by
  cases hq:P.info? ty with
  | none=>simp [hq] at hi
  | some i =>
   have hs:i.size=cs.length:=by simpa [hq] using hi
   have hagg:(isAgg ty).run P w=.ok true w:=by
    unfold isAgg
    rw [Sem.run_bind,run_underlying hu w]
    cases d<;>simp_all
   simp [loadVar,Sem.run_bind,hagg,sizeOf,typeInfo,hq,hs,hl]
 unfold execOp
 simp only [h,hx,Instr.loadAt,Instr.sureAddr,Sem.run_bind,Sem.run_pure,Result.andThen_ok,hv]
theorem wpIn_of_wp {o:Oper} {a:Act} {w:World} {K:Act→World→Prop} (h:o.wp P a w K Q):o.wpIn Fence.wide n P a w K Q:=by
 unfold Oper.wp at h
 unfold Oper.wpIn
 refine⟨fun _ _=>trivial,?_⟩
 show o.uponIn Fence.wide n P a K Q ((execOp a.eval o).run P w)
 generalize (execOp a.eval o).run P w=r at h ⊢
 cases r with
 | ok x w' =>
  cases x<;>simp only [Oper.upon,Oper.uponIn] at h ⊢
  case value u=>exact h
  case skip=>exact h
  case defer d=>exact h
  case enter f args=>exact⟨fun q=>by simp [Fence.wide] at q,callsIn_wide.2 h⟩
  case row row args =>
   refine⟨fun q=>by simp [Fence.wide] at q,fun c cs _=>?_⟩
   obtain⟨v,w',h1,h2⟩:=h c cs
   exact⟨v,w',h1,stepsIn_wide.2 h2⟩
 | halt x w' =>
  cases x<;>simp only [Oper.upon,Oper.uponIn] at h ⊢
  case panic u=>exact h
theorem step_wp {o:Oper} {a:Act} {w:World} {K:Act→World→Prop} {E:Prop} (hg:o.guard=none) (h:o.wp P a w K Q):if Region.wanted o (yielded ops a.tmps)=true then Oper.wpIn Fence.wide n P o a w K Q else E:=by
 have hw:Region.wanted o (yielded ops a.tmps)=true:=by simp [Region.wanted,hg]
 rw [if_pos hw]
 exact wpIn_of_wp h
end
theorem St.h1 {w0 w:World} {B:Nat} {c:Array Value} {T:TypeId} {l:List (Nat×Array Value×TypeId)} (h:St w0 w ((B,c,T) :: l)):w.heap[B]? = some (.cells c T (0,0)):=(h.2 _ List.mem_cons_self).1
theorem St.h2 {w0 w:World} {B:Nat} {c:Array Value} {T:TypeId} {x:Nat×Array Value×TypeId} {l:List (Nat×Array Value×TypeId)} (h:St w0 w (x :: (B,c,T) :: l)):w.heap[B]? = some (.cells c T (0,0)):=h.tail.h1
theorem St.h3 {w0 w:World} {B:Nat} {c:Array Value} {T:TypeId} {x y:Nat×Array Value×TypeId} {l:List (Nat×Array Value×TypeId)} (h:St w0 w (x :: y :: (B,c,T) :: l)):w.heap[B]? = some (.cells c T (0,0)):=h.tail.tail.h1
theorem St.h4 {w0 w:World} {B:Nat} {c:Array Value} {T:TypeId} {x y z:Nat×Array Value×TypeId} {l:List (Nat×Array Value×TypeId)} (h:St w0 w (x :: y :: z :: (B,c,T) :: l)):w.heap[B]? = some (.cells c T (0,0)):=h.tail.tail.tail.h1
theorem set3b {w0 w:World} {B N:Nat} {a b c:Value} (h:Below B w0 w) (hN:B≤N):Below B w0 (((w.setCell ⟨N,0,none⟩ a).setCell ⟨N,1,none⟩ b).setCell ⟨N,2,none⟩ c) :=
 ((h.setCell (p:=⟨N,0,none⟩) hN a).setCell (p:=⟨N,1,none⟩) hN b).setCell (p:=⟨N,2,none⟩) hN c
theorem St.grown {w0 w w':World} {l:List (Nat×Array Value×TypeId)} {row:Option Nat} (h:St w0 w l) (g:w.grownBy w' row) (hr:∀ k,row=some k→w0.heap.size≤k) (hl:∀ x∈l,some x.1≠row):St w0 w' l :=
 ⟨h.1.grown g h.1.size hr,fun x hx=>⟨by rw [g.block _ (lt_of_heap (h.2 x hx).1) (hl x hx)];exact (h.2 x hx).1,(h.2 x hx).2⟩⟩
theorem ne_of_ty {w:World} {a b:Nat} {c d:Array Value} {t u:TypeId} (h:w.heap[a]? = some (.cells c t (0,0))) (k:w.heap[b]? = some (.cells d u (0,0))) (q:t≠u):a≠b:=fun e=>by
 subst e
 rw [h] at k
 simp only [Option.some.injEq,Obj.cells.injEq] at k
 exact q k.2.1
theorem owns_other {w w':World} {base:Nat} {e:TypeId} {size:Nat} {v:Value} {n:Nat} {xs:List Value} (h:w.ownsRow base e size v n xs) (q:∀ (g:Nat) (c:Array Value),w.heap[g]? = some (.cells c e (0,0))→w'.heap[g]? = some (.cells c e (0,0))):w'.ownsRow base e size v n xs:=by
 refine⟨h.1,?_⟩
 rcases h.2 with h0 | ⟨g,cap,cur,h1,h2,h3,h4⟩
 ·exact .inl h0
 ·exact .inr ⟨g,cap,cur,h1,h2,q g cur h3,h4⟩
theorem own_ne {w:World} {base:Nat} {e u:TypeId} {size:Nat} {v:Value} {n b:Nat} {xs:List Value} {c:Array Value} (h:w.ownsRow base e size v n xs) (hb:w.heap[b]? = some (.cells c u (0,0))) (q:u≠e):some b≠v.ownBlock:=by
 rcases h.2 with ⟨rfl,-⟩ | ⟨f,cap,cur,rfl,-,h3,-⟩
 ·simp [Value.ownBlock]
 ·intro k
  obtain rfl:b=f:=by simpa [Value.ownBlock] using k
  rw [h3] at hb
  simp only [Option.some.injEq,Obj.cells.injEq] at hb
  exact q hb.2.1.symm
theorem quiet_ld {P:Program} {C:World→Prop} {a a':Act} {o:Oper} {K:Act→Prop} (ty:TypeId) (x:Operand) (h:o.op=.load ty x) (B:Nat) (hx:a.eval x=.pointer (some ⟨B,0,none⟩)) (t:TypeId) (cs:Array Value) (d:TypeDesc)
  (hC:∀ w,C w→w.heap[B]? = some (.cells cs t (0,0))) (hu:P.underlying ty=some d) (hd:(match d with | .struct _ | .array _ _=>true | _=>false)=true) (hi:(P.info? ty).map (·.size)=some cs.size) (ha:a.put o.dst (.agg cs)=a') (hk:K a'):o.quiet P a C K:=by
 refine⟨.agg cs,fun w hw=>?_,by rw [ha];exact hk⟩
 unfold Oper.quietAt execOp
 simp only [h,hx,Instr.loadAt,Instr.sureAddr,Sem.run_bind,Sem.run_pure,Result.andThen_ok,run_loadVar_row w B t ty cs (0,0) d (hC w hw) hu hd hi]
 exact⟨rfl,rfl⟩
theorem wpList_load_any {P:Program} {ops:Array Oper} {rest:List Oper} {op:Oper} {a:Act} {w:World} {Q:Exit→Act→World→Prop} (hgd:op.guard=none) (ty:TypeId) (x:Operand) (ho:op.op=.load ty x)
  (y:Addr) (hx:a.eval x=.pointer (some y)) (cs:List Value) (d:TypeDesc) (hc:∀ j v,cs[j]? = some v→w.cell? (y.add j)=some v)
  (hu:P.underlying ty=some d) (hd:(match d with | .struct _ | .array _ _=>true | _=>false)=true) (hi:(P.info? ty).map (·.size)=some cs.length)
  (h:wpList P ops Q rest (a.put op.dst (.agg cs.toArray)) w):wpList P ops Q (op :: rest) a w:=by
 have hl:(loadCells y cs.length).run P w=.ok cs.toArray w:=run_loadCells_list (P:=P) w y cs hc
 have hv:(loadVar ty y).run P w=.ok (.agg cs.toArray) w:=by
  cases hq:P.info? ty with
  | none=>simp [hq] at hi
  | some i =>
   have hs:i.size=cs.length:=by simpa [hq] using hi
   have hagg:(isAgg ty).run P w=.ok true w:=by
    unfold isAgg
    rw [Sem.run_bind,run_underlying hu w]
    cases d<;>simp_all
   simp [loadVar,Sem.run_bind,hagg,sizeOf,typeInfo,hq,hs,hl]
 refine wpList_plain hgd fun _ hK=>?_
 unfold Oper.wp execOp
 simp only [ho,hx,Instr.loadAt,Instr.sureAddr,Sem.run_bind,Sem.run_pure,Result.andThen_ok,hv]
 exact hK _ _ h
theorem St.drop2 {w0 w:World} {a b:Nat×Array Value×TypeId} {l:List (Nat×Array Value×TypeId)} (h:St w0 w (a :: b :: l)):St w0 w (a :: l) :=
 h.sub fun z hz=>by simp only [List.mem_cons] at *; rcases hz with h | h<;>simp [h]
theorem St.toFront {w0 w:World} {a b c:Nat×Array Value×TypeId} {l:List (Nat×Array Value×TypeId)} (h:St w0 w (a :: b :: c :: l)):St w0 w (b :: c :: a :: l) :=
 h.sub fun z hz=>by simp only [List.mem_cons] at *; rcases hz with h | h | h | h<;>simp [h]
theorem wpList_st_new {P:Program} {ops:Array Oper} {rest:List Oper} {o:Oper} {a:Act} {Q:Exit→Act→World→Prop} (hgd:o.guard=none) (ty:TypeId) (x y:Operand) (ho:o.op=.store ty x y) (w:World) (c cells:Array Value)
  (hx:a.eval x=.pointer (some ⟨w.heap.size,0,none⟩)) (hy:a.eval y=.agg cells) (hi:(P.info? ty).map (·.size)=some cells.size) (hold:c.size=cells.size) (h1:cells.all (·.oneCell')=true)
  (h:wpList P ops Q rest (a.put o.dst undef) (w.alloc (.cells cells ty))):wpList P ops Q (o :: rest) a (w.alloc (.cells c ty)) :=
 wpList_store_row hgd ty x y ho w.heap.size cells hx hy ty c (heap_alloc_new w _) hi hold h1 (by rw [World.setRow_alloc_new];exact h)
theorem wpList_load_row_g {P:Program} {ops:Array Oper} {rest:List Oper} {o:Oper} {a:Act} {w:World} {Q:Exit→Act→World→Prop} (hw:Region.wanted o (yielded ops a.tmps)=true) (ty:TypeId) (x:Operand) (ho:o.op=.load ty x)
  (g:Nat) (hx:a.eval x=.pointer (some ⟨g,0,none⟩)) (t:TypeId) (cs:Array Value) (fr:Nat×Nat) (d:TypeDesc) (hg:w.heap[g]? = some (.cells cs t fr))
  (hu:P.underlying ty=some d) (hd:(match d with | .struct _ | .array _ _=>true | _=>false)=true) (hi:(P.info? ty).map (·.size)=some cs.size)
  (h:wpList P ops Q rest (a.put o.dst (.agg cs)) w):wpList P ops Q (o :: rest) a w :=
 wpList_step fun K hK=>by rw [if_pos hw];exact wp_load_row ty x ho g hx t cs fr d hg hu hd hi (hK _ _ h)
def RulesE (w:World):List (Nat×Array Value×TypeId)→Prop
 | []=>True
 | (B,c,_) :: l=>(∀ (n:Wd w []) i,n.w.cell? ⟨B,i,none⟩=c[i]?)∧(∀ (n:Wd w []),B<n.w.heap.size)∧RulesE w l
theorem St.row {w0 w:World} {B:Nat} {c:Array Value} {t:TypeId} {l:List (Nat×Array Value×TypeId)} (h:St w0 w ((B,c,t) :: l)) (d:Array Value) (hl:∀ x∈l,x.1≠B):St w0 (w.setRow B d) ((B,d,t) :: l):=by
 refine⟨below_setRow h.1 (h.2 _ List.mem_cons_self).2 d,fun x hx=>?_⟩
 rcases List.mem_cons.1 hx with rfl | hx
 ·exact⟨setRow_heap w B c d t (0,0) (h.2 _ List.mem_cons_self).1,(h.2 _ List.mem_cons_self).2⟩
 ·have:=h.2 x (List.mem_cons_of_mem _ hx)
  exact⟨by rw [setRow_other w B x.1 d (hl x hx)];exact this.1,this.2⟩
def Qz (M:Act→World→Prop):Exit→Act→World→Prop
 | .normal,a,w=>M a w
 | _,_,_=>False
section
variable {P:Program} {ops:Array Oper} {md:Region.Mode} {C:World→Prop} {Q:Exit→Act→World→Prop} {fuel:Nat} {listed:Array Bool} {a:Act} {w:World} {o:Oper}
theorem z2 (i j:Nat) (hC:C w) (hr:Region.ready md ops listed=[i,j])
  (h1:wpOpIn Fence.wide 3 P ops Q i (wpAnyC Fence.wide 3 P md ops C Q fuel (listed.setIfInBounds i true)) a w)
  (h2:wpOpIn Fence.wide 3 P ops Q j (wpAnyC Fence.wide 3 P md ops C Q fuel (listed.setIfInBounds j true)) a w):wpAnyC Fence.wide 3 P md ops C Q (fuel+1) listed a w :=
 ⟨hC,fun h0=>(by rw [hr] at h0;cases h0),fun k hk=>by
  rw [hr] at hk
  simp only [List.mem_cons,List.not_mem_nil,or_false] at hk
  rcases hk with rfl | rfl
  ·exact h1
  ·exact h2⟩
theorem z3 (i j k:Nat) (hC:C w) (hr:Region.ready md ops listed=[i,j,k])
  (h1:wpOpIn Fence.wide 3 P ops Q i (wpAnyC Fence.wide 3 P md ops C Q fuel (listed.setIfInBounds i true)) a w)
  (h2:wpOpIn Fence.wide 3 P ops Q j (wpAnyC Fence.wide 3 P md ops C Q fuel (listed.setIfInBounds j true)) a w)
  (h3:wpOpIn Fence.wide 3 P ops Q k (wpAnyC Fence.wide 3 P md ops C Q fuel (listed.setIfInBounds k true)) a w):wpAnyC Fence.wide 3 P md ops C Q (fuel+1) listed a w :=
 ⟨hC,fun h0=>(by rw [hr] at h0;cases h0),fun q hq=>by
  rw [hr] at hq
  simp only [List.mem_cons,List.not_mem_nil,or_false] at hq
  rcases hq with rfl | rfl | rfl
  ·exact h1
  ·exact h2
  ·exact h3⟩
theorem z1 (i:Nat) (hC:C w) (hr:Region.ready md ops listed=[i])
  (h1:wpOpIn Fence.wide 3 P ops Q i (wpAnyC Fence.wide 3 P md ops C Q fuel (listed.setIfInBounds i true)) a w):wpAnyC Fence.wide 3 P md ops C Q (fuel+1) listed a w :=
 ⟨hC,fun h0=>(by rw [hr] at h0;cases h0),fun q hq=>by
  rw [hr] at hq
  obtain rfl:q=i:=by simpa using hq
  exact h1⟩
end
def fmE (k a b n:Int) (oz:Bool):Int:=if ¬ (1≤k∧k≤8) then 81 else if ¬ (0≤a∧a<n) then 82 else if k=6∧¬ (0≤b∧b<n) then 82 else if oz=false then 83 else 0
theorem fmE_0 {k a b n:Int} {oz:Bool} (h:fmE k a b n oz=0):(1≤k∧k≤8)∧(0≤a∧a<n)∧(k=6→0≤b∧b<n)∧oz=true:=by
 unfold fmE at h
 by_cases h1:1≤k∧k≤8
 ·by_cases h2:0≤a∧a<n
  ·by_cases h3:k=6∧¬ (0≤b∧b<n)
   ·rw [if_neg (by simp [h1]),if_neg (by simp [h2]),if_pos h3] at h;cases h
   ·cases oz with
    | false=>rw [if_neg (by simp [h1]),if_neg (by simp [h2]),if_neg h3,if_pos rfl] at h;cases h
    | true=>exact⟨h1,h2,fun e=>by omega,rfl⟩
  ·rw [if_neg (by simp [h1]),if_pos h2] at h;cases h
 ·rw [if_pos h1] at h;cases h
theorem fm_81 {k a b n:Int} {oz:Bool} (h:¬ (1≤k∧k≤8)):81=fmE k a b n oz:=by unfold fmE;rw [if_pos h]
theorem fm_82 {k a b n:Int} {oz:Bool} (h1:1≤k∧k≤8) (h:¬ (0≤a∧a<n)):82=fmE k a b n oz:=by unfold fmE;rw [if_neg (by simp [h1]),if_pos h]
theorem fm_83 {k a b n:Int} {oz:Bool} (h1:1≤k∧k≤8) (h2:0≤a∧a<n) (h:k=6∧¬ (0≤b∧b<n)):82=fmE k a b n oz:=by unfold fmE;rw [if_neg (by simp [h1]),if_neg (by simp [h2]),if_pos h]
def mkS (k m kh kw sh sw tp lf bt rt h w c:Int):Int×Int×Int :=
 if k=1 then (1,1,m) else if k=2 then ((ouR h w c kh kw sh sw tp lf bt rt).1,(ouR h w c kh kw sh sw tp lf bt rt).2.1,m) else if k≤5 then ((ouR h w c kh kw sh sw tp lf bt rt).1,(ouR h w c kh kw sh sw tp lf bt rt).2.1,c) else (h,w,c)
def mkW (k kh kw sh sw tp lf bt rt h w c:Int):Int:=if 2≤k∧k≤5 then (ouR h w c kh kw sh sw tp lf bt rt).2.2 else 0
def mkM (k m:Int):Bool:=decide (k≤2→1≤m∧m≤1024)
def vS3 (s:Int×Int×Int):Bool:=vS s.1 s.2.1 s.2.2
def mkE (k m kh kw sh sw tp lf bt rt h w c:Int):Int :=
 if mkM k m=false then 2 else if mkW k kh kw sh sw tp lf bt rt h w c≠0 then mkW k kh kw sh sw tp lf bt rt h w c else if vS3 (mkS k m kh kw sh sw tp lf bt rt h w c)=false then 50 else 0
def mkO (k m kh kw sh sw tp lf bt rt h w c:Int):Int×Int×Int:=if mkE k m kh kw sh sw tp lf bt rt h w c=0 then mkS k m kh kw sh sw tp lf bt rt h w c else (0,0,0)
def stR (k kh kw h w c:Int):Int:=if k=1 then h*w*c else if k=2 then kh*kw*c else if k≤5 then kh*kw else 1
def leB (k ch n:Int) (lw lb:Nat):Bool:=decide (k≤3→(lw:Int)=ch*n∧(lb:Int)=ch)
def ssB (k sm ss um us:Int):Bool:=(!scK k || scB sm ss) && (!(k == 6) || scB um us)
def rzB (z p lo hi:Int):Bool:=rgB lo hi && vlB z && vlB p
def nuE (k ch n:Int) (lw lb:Nat) (sm ss um us z p lo hi:Int):Int:=if leB k ch n lw lb=false then 70 else if ssB k sm ss um us=false then 20 else if rzB z p lo hi=false then 85 else 0
theorem St.set01 {w0 w:World} {B:Nat} {a b c u v:Value} {t:TypeId} {l:List (Nat×Array Value×TypeId)} (h:St w0 w ((B,#[a,b,c],t) :: l)) (hl:∀ x∈l,x.1≠B) :
  St w0 ((w.setCell ⟨B,0,none⟩ u).setCell ⟨B,1,none⟩ v) ((B,#[u,v,c],t) :: l):=(h.set hl (i:=0) (v:=u)).set hl (i:=1) (v:=v)
theorem mkE_M {k m kh kw sh sw tp lf bt rt h w c:Int} (g:mkM k m=false):mkE k m kh kw sh sw tp lf bt rt h w c=2:=by unfold mkE;rw [if_pos g]
theorem mkE_W {k m kh kw sh sw tp lf bt rt h w c e:Int} (g:mkM k m=true) (hw:mkW k kh kw sh sw tp lf bt rt h w c=e) (he:e≠0):mkE k m kh kw sh sw tp lf bt rt h w c=e:=by unfold mkE;rw [if_neg (by rw [g];decide),hw,if_pos he]
theorem mkE_V {k m kh kw sh sw tp lf bt rt h w c:Int} (g:mkM k m=true) (hw:mkW k kh kw sh sw tp lf bt rt h w c=0) (hv:vS3 (mkS k m kh kw sh sw tp lf bt rt h w c)=false):mkE k m kh kw sh sw tp lf bt rt h w c=50:=by unfold mkE;rw [if_neg (by rw [g];decide),hw,if_neg (by decide),if_pos hv]
theorem mkE_0 {k m kh kw sh sw tp lf bt rt h w c:Int} (g:mkM k m=true) (hw:mkW k kh kw sh sw tp lf bt rt h w c=0) (hv:vS3 (mkS k m kh kw sh sw tp lf bt rt h w c)=true):mkE k m kh kw sh sw tp lf bt rt h w c=0:=by unfold mkE;rw [if_neg (by rw [g];decide),hw,if_neg (by decide),if_neg (by rw [hv];decide)]
theorem mkO_no {k m kh kw sh sw tp lf bt rt h w c e:Int} (g:mkE k m kh kw sh sw tp lf bt rt h w c=e) (he:e≠0):mkO k m kh kw sh sw tp lf bt rt h w c=(0,0,0):=by unfold mkO;rw [if_neg (by rw [g];exact he)]
theorem mkO_ok {k m kh kw sh sw tp lf bt rt h w c:Int} (g:mkE k m kh kw sh sw tp lf bt rt h w c=0):mkO k m kh kw sh sw tp lf bt rt h w c=mkS k m kh kw sh sw tp lf bt rt h w c:=by unfold mkO;rw [if_pos g]
theorem form_1 (k a b m kh kw sh sw tp lf bt rt:Int) (wa:Option Addr) (lw wc:Nat) (ba:Option Addr) (lb bc:Nat) (sm ss um us z p lo hi:Int) (n:Int) (W:World) (h:k<1) :
  Calls Tryz.prog 82 #[.agg #[U i6 k,U i6 a,U i6 b,U i6 m,U i6 kh,U i6 kw,U i6 sh,U i6 sw,U i6 tp,U i6 lf,U i6 bt,U i6 rt,Sl wa lw wc,Sl ba lb bc,U i6 sm,U i6 ss,U i6 um,U i6 us,U i6 z,U i6 p,U i6 lo,U i6 hi],U i6 n] W fun e w'=>e=.returned (U i6 81)∧Below W.heap.size W w':=by
 go_enter Tryz.func82,Tryz.ntmps82
 go_wp2
 go_ret
 exact⟨rfl,(St.start W).new.below⟩
theorem form_2 (k a b m kh kw sh sw tp lf bt rt:Int) (wa:Option Addr) (lw wc:Nat) (ba:Option Addr) (lb bc:Nat) (sm ss um us z p lo hi:Int) (n:Int) (W:World) (h:1≤k∧8<k) :
  Calls Tryz.prog 82 #[.agg #[U i6 k,U i6 a,U i6 b,U i6 m,U i6 kh,U i6 kw,U i6 sh,U i6 sw,U i6 tp,U i6 lf,U i6 bt,U i6 rt,Sl wa lw wc,Sl ba lb bc,U i6 sm,U i6 ss,U i6 um,U i6 us,U i6 z,U i6 p,U i6 lo,U i6 hi],U i6 n] W fun e w'=>e=.returned (U i6 81)∧Below W.heap.size W w':=by
 go_enter Tryz.func82,Tryz.ntmps82
 go_wp2
 go_ret
 exact⟨rfl,(St.start W).new.below⟩
theorem form_3 (k a b m kh kw sh sw tp lf bt rt:Int) (wa:Option Addr) (lw wc:Nat) (ba:Option Addr) (lb bc:Nat) (sm ss um us z p lo hi:Int) (n:Int) (W:World) (h:1≤k∧¬ 8<k∧a<0) :
  Calls Tryz.prog 82 #[.agg #[U i6 k,U i6 a,U i6 b,U i6 m,U i6 kh,U i6 kw,U i6 sh,U i6 sw,U i6 tp,U i6 lf,U i6 bt,U i6 rt,Sl wa lw wc,Sl ba lb bc,U i6 sm,U i6 ss,U i6 um,U i6 us,U i6 z,U i6 p,U i6 lo,U i6 hi],U i6 n] W fun e w'=>e=.returned (U i6 82)∧Below W.heap.size W w':=by
 go_enter Tryz.func82,Tryz.ntmps82
 go_wp2
 go_ret
 exact⟨rfl,(St.start W).new.below⟩
theorem form_4 (k a b m kh kw sh sw tp lf bt rt:Int) (wa:Option Addr) (lw wc:Nat) (ba:Option Addr) (lb bc:Nat) (sm ss um us z p lo hi:Int) (n:Int) (W:World) (h:1≤k∧¬ 8<k∧¬ a<0∧n≤a) :
  Calls Tryz.prog 82 #[.agg #[U i6 k,U i6 a,U i6 b,U i6 m,U i6 kh,U i6 kw,U i6 sh,U i6 sw,U i6 tp,U i6 lf,U i6 bt,U i6 rt,Sl wa lw wc,Sl ba lb bc,U i6 sm,U i6 ss,U i6 um,U i6 us,U i6 z,U i6 p,U i6 lo,U i6 hi],U i6 n] W fun e w'=>e=.returned (U i6 82)∧Below W.heap.size W w':=by
 go_enter Tryz.func82,Tryz.ntmps82
 go_wp2
 go_ret
 exact⟨rfl,(St.start W).new.below⟩
theorem form_5 (k a b m kh kw sh sw tp lf bt rt:Int) (wa:Option Addr) (lw wc:Nat) (ba:Option Addr) (lb bc:Nat) (sm ss um us z p lo hi:Int) (n:Int) (W:World) (hk:k=6) (h:¬ a<0∧¬ n≤a∧b<0) :
  Calls Tryz.prog 82 #[.agg #[U i6 k,U i6 a,U i6 b,U i6 m,U i6 kh,U i6 kw,U i6 sh,U i6 sw,U i6 tp,U i6 lf,U i6 bt,U i6 rt,Sl wa lw wc,Sl ba lb bc,U i6 sm,U i6 ss,U i6 um,U i6 us,U i6 z,U i6 p,U i6 lo,U i6 hi],U i6 n] W fun e w'=>e=.returned (U i6 82)∧Below W.heap.size W w':=by
 subst hk
 go_enter Tryz.func82,Tryz.ntmps82
 go_wp2
 go_ret
 exact⟨rfl,(St.start W).new.below⟩
theorem form_6 (k a b m kh kw sh sw tp lf bt rt:Int) (wa:Option Addr) (lw wc:Nat) (ba:Option Addr) (lb bc:Nat) (sm ss um us z p lo hi:Int) (n:Int) (W:World) (hk:k=6) (h:¬ a<0∧¬ n≤a∧¬ b<0∧n≤b) :
  Calls Tryz.prog 82 #[.agg #[U i6 k,U i6 a,U i6 b,U i6 m,U i6 kh,U i6 kw,U i6 sh,U i6 sw,U i6 tp,U i6 lf,U i6 bt,U i6 rt,Sl wa lw wc,Sl ba lb bc,U i6 sm,U i6 ss,U i6 um,U i6 us,U i6 z,U i6 p,U i6 lo,U i6 hi],U i6 n] W fun e w'=>e=.returned (U i6 82)∧Below W.heap.size W w':=by
 subst hk
 go_enter Tryz.func82,Tryz.ntmps82
 go_wp2
 go_ret
 exact⟨rfl,(St.start W).new.below⟩
theorem form_6false (a b m kh kw sh sw tp lf bt rt:Int) (wa:Option Addr) (lw wc:Nat) (ba:Option Addr) (lb bc:Nat) (sm ss um us z p lo hi n:Int) (W:World) (h:¬ a<0∧¬ n≤a∧¬ b<0∧¬ n≤b) (ho:ozB 6 b m kh kw sh sw tp lf bt rt lw lb sm ss um us z p=false) :
  Calls Tryz.prog 82 #[.agg #[U i6 6,U i6 a,U i6 b,U i6 m,U i6 kh,U i6 kw,U i6 sh,U i6 sw,U i6 tp,U i6 lf,U i6 bt,U i6 rt,Sl wa lw wc,Sl ba lb bc,U i6 sm,U i6 ss,U i6 um,U i6 us,U i6 z,U i6 p,U i6 lo,U i6 hi],U i6 n] W fun e w'=>e=.returned (U i6 83)∧Below W.heap.size W w':=by
 have hO:Hid (∀ W,Calls Tryz.prog 100 #[.agg #[U i6 6,U i6 a,U i6 b,U i6 m,U i6 kh,U i6 kw,U i6 sh,U i6 sw,U i6 tp,U i6 lf,U i6 bt,U i6 rt,Sl wa lw wc,Sl ba lb bc,U i6 sm,U i6 ss,U i6 um,U i6 us,U i6 z,U i6 p,U i6 lo,U i6 hi]] W fun e w'=>e=.returned (.bool false)∧Below W.heap.size W w'):=fun W=>by rw [← ho];exact others_any 6 a b m kh kw sh sw tp lf bt rt wa lw wc ba lb bc sm ss um us z p lo hi W (by decide)
 clear ho
 go_enter Tryz.func82,Tryz.ntmps82
 go_upto_region 7 with fail
 go_wp2_with (refine wpList_load_row rfl 42 (.tmp 2) rfl W.heap.size rfl 42 _ (0,0) _ (heap_alloc_new W _) Tryz.underlying42 rfl (by kernel_rfl) ?_)
 refine (hO.out _).mono ?_
 rintro e w1 ⟨rfl,hb'⟩
 have s1:=(St.start W).new.call hb'
 clear hb'
 go_wp2
 go_ret
 exact⟨rfl,s1.below⟩
theorem form_nfalse (k a b m kh kw sh sw tp lf bt rt:Int) (wa:Option Addr) (lw wc:Nat) (ba:Option Addr) (lb bc:Nat) (sm ss um us z p lo hi:Int) (n:Int) (W:World) (h:1≤k∧¬ 8<k∧¬ a<0∧¬ n≤a) (h6:¬ k=6) (ho:ozB k b m kh kw sh sw tp lf bt rt lw lb sm ss um us z p=false) :
  Calls Tryz.prog 82 #[.agg #[U i6 k,U i6 a,U i6 b,U i6 m,U i6 kh,U i6 kw,U i6 sh,U i6 sw,U i6 tp,U i6 lf,U i6 bt,U i6 rt,Sl wa lw wc,Sl ba lb bc,U i6 sm,U i6 ss,U i6 um,U i6 us,U i6 z,U i6 p,U i6 lo,U i6 hi],U i6 n] W fun e w'=>e=.returned (U i6 83)∧Below W.heap.size W w':=by
 have hO:Hid (∀ W,Calls Tryz.prog 100 #[.agg #[U i6 k,U i6 a,U i6 b,U i6 m,U i6 kh,U i6 kw,U i6 sh,U i6 sw,U i6 tp,U i6 lf,U i6 bt,U i6 rt,Sl wa lw wc,Sl ba lb bc,U i6 sm,U i6 ss,U i6 um,U i6 us,U i6 z,U i6 p,U i6 lo,U i6 hi]] W fun e w'=>e=.returned (.bool false)∧Below W.heap.size W w'):=fun W=>by rw [← ho];exact others_any k a b m kh kw sh sw tp lf bt rt wa lw wc ba lb bc sm ss um us z p lo hi W (by omega)
 have h6':(k == 6)=false:=by simpa using h6
 clear ho
 go_enter Tryz.func82,Tryz.ntmps82
 go_upto_region 7 with fail
 go_wp2_with (refine wpList_load_row rfl 42 (.tmp 2) rfl W.heap.size rfl 42 _ (0,0) _ (heap_alloc_new W _) Tryz.underlying42 rfl (by kernel_rfl) ?_)
 refine (hO.out _).mono ?_
 rintro e w1 ⟨rfl,hb'⟩
 have s1:=(St.start W).new.call hb'
 clear hb'
 go_wp2
 go_ret
 exact⟨rfl,s1.below⟩
theorem form_6true (a b m kh kw sh sw tp lf bt rt:Int) (wa:Option Addr) (lw wc:Nat) (ba:Option Addr) (lb bc:Nat) (sm ss um us z p lo hi n:Int) (W:World) (h:¬ a<0∧¬ n≤a∧¬ b<0∧¬ n≤b) (ho:ozB 6 b m kh kw sh sw tp lf bt rt lw lb sm ss um us z p=true) :
  Calls Tryz.prog 82 #[.agg #[U i6 6,U i6 a,U i6 b,U i6 m,U i6 kh,U i6 kw,U i6 sh,U i6 sw,U i6 tp,U i6 lf,U i6 bt,U i6 rt,Sl wa lw wc,Sl ba lb bc,U i6 sm,U i6 ss,U i6 um,U i6 us,U i6 z,U i6 p,U i6 lo,U i6 hi],U i6 n] W fun e w'=>e=.returned (U i6 0)∧Below W.heap.size W w':=by
 have hO:Hid (∀ W,Calls Tryz.prog 100 #[.agg #[U i6 6,U i6 a,U i6 b,U i6 m,U i6 kh,U i6 kw,U i6 sh,U i6 sw,U i6 tp,U i6 lf,U i6 bt,U i6 rt,Sl wa lw wc,Sl ba lb bc,U i6 sm,U i6 ss,U i6 um,U i6 us,U i6 z,U i6 p,U i6 lo,U i6 hi]] W fun e w'=>e=.returned (.bool true)∧Below W.heap.size W w'):=fun W=>by rw [← ho];exact others_any 6 a b m kh kw sh sw tp lf bt rt wa lw wc ba lb bc sm ss um us z p lo hi W (by decide)
 clear ho
 go_enter Tryz.func82,Tryz.ntmps82
 go_upto_region 7 with fail
 go_wp2_with (refine wpList_load_row rfl 42 (.tmp 2) rfl W.heap.size rfl 42 _ (0,0) _ (heap_alloc_new W _) Tryz.underlying42 rfl (by kernel_rfl) ?_)
 refine (hO.out _).mono ?_
 rintro e w1 ⟨rfl,hb'⟩
 have s1:=(St.start W).new.call hb'
 clear hb'
 go_wp2
 go_ret
 exact⟨rfl,s1.below⟩
theorem form_ntrue (k a b m kh kw sh sw tp lf bt rt:Int) (wa:Option Addr) (lw wc:Nat) (ba:Option Addr) (lb bc:Nat) (sm ss um us z p lo hi:Int) (n:Int) (W:World) (h:1≤k∧¬ 8<k∧¬ a<0∧¬ n≤a) (h6:¬ k=6) (ho:ozB k b m kh kw sh sw tp lf bt rt lw lb sm ss um us z p=true) :
  Calls Tryz.prog 82 #[.agg #[U i6 k,U i6 a,U i6 b,U i6 m,U i6 kh,U i6 kw,U i6 sh,U i6 sw,U i6 tp,U i6 lf,U i6 bt,U i6 rt,Sl wa lw wc,Sl ba lb bc,U i6 sm,U i6 ss,U i6 um,U i6 us,U i6 z,U i6 p,U i6 lo,U i6 hi],U i6 n] W fun e w'=>e=.returned (U i6 0)∧Below W.heap.size W w':=by
 have hO:Hid (∀ W,Calls Tryz.prog 100 #[.agg #[U i6 k,U i6 a,U i6 b,U i6 m,U i6 kh,U i6 kw,U i6 sh,U i6 sw,U i6 tp,U i6 lf,U i6 bt,U i6 rt,Sl wa lw wc,Sl ba lb bc,U i6 sm,U i6 ss,U i6 um,U i6 us,U i6 z,U i6 p,U i6 lo,U i6 hi]] W fun e w'=>e=.returned (.bool true)∧Below W.heap.size W w'):=fun W=>by rw [← ho];exact others_any k a b m kh kw sh sw tp lf bt rt wa lw wc ba lb bc sm ss um us z p lo hi W (by omega)
 have h6':(k == 6)=false:=by simpa using h6
 clear ho
 go_enter Tryz.func82,Tryz.ntmps82
 go_upto_region 7 with fail
 go_wp2_with (refine wpList_load_row rfl 42 (.tmp 2) rfl W.heap.size rfl 42 _ (0,0) _ (heap_alloc_new W _) Tryz.underlying42 rfl (by kernel_rfl) ?_)
 refine (hO.out _).mono ?_
 rintro e w1 ⟨rfl,hb'⟩
 have s1:=(St.start W).new.call hb'
 clear hb'
 go_wp2
 go_ret
 exact⟨rfl,s1.below⟩
theorem form_any (k a b m kh kw sh sw tp lf bt rt:Int) (wa:Option Addr) (lw wc:Nat) (ba:Option Addr) (lb bc:Nat) (sm ss um us z p lo hi:Int) (n:Int) (W:World) :
  Calls Tryz.prog 82 #[.agg #[U i6 k,U i6 a,U i6 b,U i6 m,U i6 kh,U i6 kw,U i6 sh,U i6 sw,U i6 tp,U i6 lf,U i6 bt,U i6 rt,Sl wa lw wc,Sl ba lb bc,U i6 sm,U i6 ss,U i6 um,U i6 us,U i6 z,U i6 p,U i6 lo,U i6 hi],U i6 n] W fun e w'=>e=.returned (U i6 (fmE k a b n (ozB k b m kh kw sh sw tp lf bt rt lw lb sm ss um us z p)))∧Below W.heap.size W w':=by
 by_cases l1:k<1
 ·rw [← fm_81 (by omega)];exact form_1 k a b m kh kw sh sw tp lf bt rt wa lw wc ba lb bc sm ss um us z p lo hi n W l1
 by_cases l2:8<k
 ·rw [← fm_81 (by omega)];exact form_2 k a b m kh kw sh sw tp lf bt rt wa lw wc ba lb bc sm ss um us z p lo hi n W (by omega)
 by_cases l3:a<0
 ·rw [← fm_82 (by omega) (by omega)];exact form_3 k a b m kh kw sh sw tp lf bt rt wa lw wc ba lb bc sm ss um us z p lo hi n W (by omega)
 by_cases l4:n≤a
 ·rw [← fm_82 (by omega) (by omega)];exact form_4 k a b m kh kw sh sw tp lf bt rt wa lw wc ba lb bc sm ss um us z p lo hi n W (by omega)
 by_cases k6:k=6
 ·by_cases l5:b<0
  ·rw [← fm_83 (by omega) (by omega) (by omega)];exact form_5 k a b m kh kw sh sw tp lf bt rt wa lw wc ba lb bc sm ss um us z p lo hi n W k6 (by omega)
  by_cases l6:n≤b
  ·rw [← fm_83 (by omega) (by omega) (by omega)];exact form_6 k a b m kh kw sh sw tp lf bt rt wa lw wc ba lb bc sm ss um us z p lo hi n W k6 (by omega)
  subst k6
  unfold fmE
  rw [if_neg (by omega),if_neg (by omega),if_neg (by omega)]
  cases ho:ozB 6 b m kh kw sh sw tp lf bt rt lw lb sm ss um us z p with
  | false=>exact form_6false a b m kh kw sh sw tp lf bt rt wa lw wc ba lb bc sm ss um us z p lo hi n W (by omega) ho
  | true=>exact form_6true a b m kh kw sh sw tp lf bt rt wa lw wc ba lb bc sm ss um us z p lo hi n W (by omega) ho
 ·unfold fmE
  rw [if_neg (by omega),if_neg (by omega),if_neg (by omega)]
  cases ho:ozB k b m kh kw sh sw tp lf bt rt lw lb sm ss um us z p with
  | false=>exact form_nfalse k a b m kh kw sh sw tp lf bt rt wa lw wc ba lb bc sm ss um us z p lo hi n W (by omega) k6 ho
  | true=>exact form_ntrue k a b m kh kw sh sw tp lf bt rt wa lw wc ba lb bc sm ss um us z p lo hi n W (by omega) k6 ho
end Go.Proofs.YtccoanknofhmaaaGreat
