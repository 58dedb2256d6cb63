/- What each function of package num, and the document's answer to it, returns: each for every argument that fits its type. What lies in the memory that a walk has made, carried through calls that make memory of their own. A region that draws its order, whose operations only read, and whose callees make memory of their own alone: walked once, in the order of the text, in every world in which the listed blocks hold what they hold. Slices that came in, opened: of integers, of pairs of integers; how long they may be. Rows of integers of whatever kind: what is read of them, what a call owns, what stays behind a call; make, copy, append over them. What sides and Elems of package shape, and the document's, return: each for every argument. Windows over a plane, in plain numbers: which are valid, how many positions they have, what each of their taps covers. What the document's test of a shape returns. What Valid, Out, corner and place of package window, and the document's answers to them, return: each for every argument. -/
import Derived.Test.YtgjcjhnnopandaaGreatRows
import Derived.WalkKit
import Derived.ProofKit
import Derived.OpenShut
import Derived.Below
import Derived.BigQuiet
import Derived.Deep.SlicePairs
import Derived.Laws.AppendOwnNone
import Derived.Laws.CopyOwn
import Derived.Deep.RegionHeld3
import Derived.LoopN
import Derived.WalkSmall
namespace Go.Proofs.YtgjcjhnnopandaaGreat
open Go.Value renaming int → U, slice → Sl
open Go.IntKind renaming i64 → i6
set_option maxRecDepth 100000
set_option maxHeartbeats 16000000
open Go.ChangeShapes Go.WideShapes Go.ChangeAt Go.RowKit
def I64 (a:Int):Prop:=-9223372036854775808≤a∧a≤9223372036854775807
def okV (x:Int):Int:=if -9223372036854775808≤x∧x≤9223372036854775807 then x else 0
def okE (x:Int):Int:=if -9223372036854775808≤x∧x≤9223372036854775807 then 0 else 10
def clampV (x lo hi:Int):Int:=if hi<x then hi else if x<lo then lo else x
def fitsN (t x:Int):Bool:=decide (-t≤x∧x≤t-1)
def wrapN (t x:Int):Int:=(x+t) % (2*t)-t
theorem okV_in (x:Int) (h:-9223372036854775808≤x∧x≤9223372036854775807):okV x=x:=if_pos h
theorem okE_in (x:Int) (h:-9223372036854775808≤x∧x≤9223372036854775807):okE x=0:=if_pos h
theorem okV_out (x:Int) (h:¬ (-9223372036854775808≤x∧x≤9223372036854775807)):okV x=0:=if_neg h
theorem okE_out (x:Int) (h:¬ (-9223372036854775808≤x∧x≤9223372036854775807)):okE x=10:=if_neg h
theorem ret2 {a b c d:Int} (h:a=c) (g:b=d):Ending.returned (.tuple #[U i6 a,U i6 b])=.returned (.tuple #[U i6 c,U i6 d]):=by rw [h,g]
theorem ret1 {k:IntKind} {a b:Int} (h:a=b):Ending.returned (.int k a)=.returned (.int k b):=by rw [h]
theorem retB {a b:Bool} (h:a=b):Ending.returned (.bool a)=.returned (.bool b):=by rw [h]
theorem add_any (a b:Int) (w:World) (ha:I64 a) (hb:I64 b) :
  Calls Tryz.prog 81 #[U i6 a,U i6 b] w fun e w'=>e=.returned (.tuple #[U i6 (okV (a+b)),U i6 (okE (a+b))])∧w'=w:=by
 obtain⟨a1,a2⟩:=ha
 obtain⟨b1,b2⟩:=hb
 by_cases h:-9223372036854775808≤a+b∧a+b≤9223372036854775807
 ·rw [okV_in _ h,okE_in _ h]
  obtain⟨h1,h2⟩:=h
  by_cases c1:a<0<;>by_cases c2:b<0
  ·have c3:a+b<0:=by omega
   go_enter Tryz.func81,Tryz.ntmps81
   go_wp2
   go_ret2
   exact⟨rfl,rfl⟩
  ·go_enter Tryz.func81,Tryz.ntmps81
   go_wp2
   go_ret2
   exact⟨rfl,rfl⟩
  ·go_enter Tryz.func81,Tryz.ntmps81
   go_wp2
   go_ret2
   exact⟨rfl,rfl⟩
  ·have c3:¬ a+b<0:=by omega
   go_enter Tryz.func81,Tryz.ntmps81
   go_wp2
   go_ret2
   exact⟨rfl,rfl⟩
 ·rw [okV_out _ h,okE_out _ h]
  by_cases c1:a<0
  ·have c2:b<0:=by omega
   have c3:¬ wrap64 (a+b)<0:=by unfold wrap64;omega
   clear h
   go_enter Tryz.func81,Tryz.ntmps81
   go_wp2
   go_ret2
   exact⟨rfl,rfl⟩
  ·have c2:¬ b<0:=by omega
   have c3:wrap64 (a+b)<0:=by unfold wrap64;omega
   clear h
   go_enter Tryz.func81,Tryz.ntmps81
   go_wp2
   go_ret2
   exact⟨rfl,rfl⟩
theorem sub_any (a b:Int) (w:World) (ha:I64 a) (hb:I64 b) :
  Calls Tryz.prog 127 #[U i6 a,U i6 b] w fun e w'=>e=.returned (.tuple #[U i6 (okV (a-b)),U i6 (okE (a-b))])∧w'=w:=by
 obtain⟨a1,a2⟩:=ha
 obtain⟨b1,b2⟩:=hb
 by_cases h:-9223372036854775808≤a-b∧a-b≤9223372036854775807
 ·rw [okV_in _ h,okE_in _ h]
  obtain⟨h1,h2⟩:=h
  by_cases c1:a<0<;>by_cases c2:b<0
  ·go_enter Tryz.func127,Tryz.ntmps127
   go_wp2
   go_ret2
   exact⟨rfl,rfl⟩
  ·have c3:a-b<0:=by omega
   go_enter Tryz.func127,Tryz.ntmps127
   go_wp2
   go_ret2
   exact⟨rfl,rfl⟩
  ·have c3:¬ a-b<0:=by omega
   go_enter Tryz.func127,Tryz.ntmps127
   go_wp2
   go_ret2
   exact⟨rfl,rfl⟩
  ·go_enter Tryz.func127,Tryz.ntmps127
   go_wp2
   go_ret2
   exact⟨rfl,rfl⟩
 ·rw [okV_out _ h,okE_out _ h]
  by_cases c1:a<0
  ·have c2:¬ b<0:=by omega
   have c3:¬ wrap64 (a-b)<0:=by unfold wrap64;omega
   clear h
   go_enter Tryz.func127,Tryz.ntmps127
   go_wp2
   go_ret2
   exact⟨rfl,rfl⟩
  ·have c2:b<0:=by omega
   have c3:wrap64 (a-b)<0:=by unfold wrap64;omega
   clear h
   go_enter Tryz.func127,Tryz.ntmps127
   go_wp2
   go_ret2
   exact⟨rfl,rfl⟩
def St (w0 w:World) (l:List (Nat×Array Value×TypeId)):Prop :=
 Below w0.heap.size w0 w∧∀ x∈l,w.heap[x.1]? = some (.cells x.2.1 x.2.2)∧w0.heap.size≤x.1
def Rules (w:World):List (Nat×Array Value×TypeId)→Prop
 | []=>True
 | (B,c,_) :: l=>(∀ i,w.cell? ⟨B,i,none⟩=c[i]?)∧(∀ i,w.frozen? ⟨B,i,none⟩=false)∧B<w.heap.size∧Rules w l
theorem St.start (w:World):St w w []:=⟨Below.refl _ _,fun _ h=>by cases h⟩
theorem lt_of_heap {w:World} {B:Nat} {o:Obj} (h:w.heap[B]? = some o):B<w.heap.size:=by
 rcases Nat.lt_or_ge B w.heap.size with g | g
 ·exact g
 ·rw [Array.getElem?_eq_none g] at h;cases h
theorem St.below {w0 w:World} {l:List (Nat×Array Value×TypeId)} (h:St w0 w l):Below w0.heap.size w0 w:=h.1
theorem St.call {w0 w w1:World} {l:List (Nat×Array Value×TypeId)} (h:St w0 w l) (hb:Below w.heap.size w w1):St w0 w1 l :=
 ⟨h.1.trans (hb.mono h.1.size),fun x hx=>⟨by rw [hb.block _ (lt_of_heap (h.2 x hx).1)];exact (h.2 x hx).1,(h.2 x hx).2⟩⟩
theorem St.skip {w0 w:World} {l:List (Nat×Array Value×TypeId)} (h:St w0 w l) (o:Obj):St w0 (w.alloc o) l :=
 h.call ((Below.refl _ _).alloc (Nat.le_refl _) _)
theorem St.drew {w0 w:World} {l:List (Nat×Array Value×TypeId)} (h:St w0 w l):St w0 w.drew l:=h.call (Below.refl _ _).drew
theorem St.new {w0 w:World} {l:List (Nat×Array Value×TypeId)} {c:Array Value} {t:TypeId} (h:St w0 w l):St w0 (w.alloc (.cells c t)) ((w.heap.size,c,t) :: l):=by
 have h2:=h.skip (.cells c t)
 refine⟨h2.1,fun x hx=>?_⟩
 rcases List.mem_cons.1 hx with rfl | hx
 ·exact⟨by show (w.heap.push _)[w.heap.size]? = _;simp,h.1.size⟩
 ·exact h2.2 x hx
theorem St.tail {w0 w:World} {x:Nat×Array Value×TypeId} {l:List (Nat×Array Value×TypeId)} (h:St w0 w (x :: l)):St w0 w l :=
 ⟨h.1,fun y hy=>h.2 y (List.mem_cons_of_mem _ hy)⟩
theorem heap_setCell_at {w:World} {B i:Nat} {c:Array Value} {t:TypeId} {v:Value} (h:w.heap[B]? = some (.cells c t)) :
  (w.setCell ⟨B,i,none⟩ v).heap[B]? = some (.cells (c.setIfInBounds i v) t):=by
 have hB:=lt_of_heap h
 have e:w.heap[B]=.cells c t:=by rw [Array.getElem?_eq_getElem hB] at h;exact Option.some.inj h
 simp [World.setCell,Array.getElem?_modify,h]
theorem St.set {w0 w:World} {B i:Nat} {c:Array Value} {t:TypeId} {l:List (Nat×Array Value×TypeId)} {v:Value} (h:St w0 w ((B,c,t) :: l)) (hl:∀ x∈l,x.1≠B) :
  St w0 (w.setCell ⟨B,i,none⟩ v) ((B,c.setIfInBounds i v,t) :: l):=by
 have hB:=(h.2 _ List.mem_cons_self)
 refine⟨h.1.setCell (p:=⟨B,i,none⟩) hB.2 v,fun x hx=>?_⟩
 rcases List.mem_cons.1 hx with rfl | hx
 ·exact⟨heap_setCell_at hB.1,hB.2⟩
 ·have:=h.2 x (List.mem_cons_of_mem _ hx)
  exact⟨by rw [Below.heap_setCell _ _ _ _ (hl x hx)];exact this.1,this.2⟩
theorem rules_of {w:World}:∀ (l:List (Nat×Array Value×TypeId)),(∀ x∈l,w.heap[x.1]? = some (.cells x.2.1 x.2.2))→Rules w l
 | [],_=>trivial
 | (B,c,t) :: l,h=>by
  have h0:=h _ List.mem_cons_self
  refine⟨fun i=>?_,fun i=>?_,lt_of_heap h0,rules_of l fun x hx=>h x (List.mem_cons_of_mem _ hx)⟩
  ·have h0:w.heap[B]? = some (.cells c t):=h0
   simp [World.cell?,h0]
  ·have h0:w.heap[B]? = some (.cells c t):=h0
   simp [World.frozen?,h0]
theorem St.rules {w0 w:World} {l:List (Nat×Array Value×TypeId)} (h:St w0 w l):Rules w l:=rules_of l fun x hx=>(h.2 x hx).1
theorem St.size {w0 w:World} {l:List (Nat×Array Value×TypeId)} (h:St w0 w l):w0.heap.size≤w.heap.size:=h.1.size
theorem St.out2 {w0 w:World} {B i j:Nat} {c:Array Value} {t:TypeId} {l:List (Nat×Array Value×TypeId)} {u v:Value} (h:St w0 w ((B,c,t) :: l)) :
  Below w0.heap.size w0 ((w.setCell ⟨B,i,none⟩ u).setCell ⟨B,j,none⟩ v) :=
 (h.1.setCell (p:=⟨B,i,none⟩) (h.2 _ List.mem_cons_self).2 u).setCell (p:=⟨B,j,none⟩) (h.2 _ List.mem_cons_self).2 v
theorem St.set2 {w0 w:World} {B:Nat} {a b u v:Value} {t:TypeId} {l:List (Nat×Array Value×TypeId)} (h:St w0 w ((B,#[a,b],t) :: l)) (hl:∀ x∈l,x.1≠B) :
  St w0 ((w.setCell ⟨B,0,none⟩ u).setCell ⟨B,1,none⟩ v) ((B,#[u,v],t) :: l):=(h.set hl (i:=0) (v:=u)).set hl (i:=1) (v:=v)
theorem St.sub {w0 w:World} {l l':List (Nat×Array Value×TypeId)} (h:St w0 w l) (hs:∀ x∈l',x∈l):St w0 w l':=⟨h.1,fun x hx=>h.2 x (hs x hx)⟩
theorem St.up1 {w0 w:World} {x y:Nat×Array Value×TypeId} {l:List (Nat×Array Value×TypeId)} (h:St w0 w (x :: y :: l)):St w0 w (y :: x :: l) :=
 h.sub fun z hz=>by simp only [List.mem_cons] at *; rcases hz with h | h | h<;>simp [h]
theorem St.up2 {w0 w:World} {x y z:Nat×Array Value×TypeId} {l:List (Nat×Array Value×TypeId)} (h:St w0 w (x :: y :: z :: l)):St w0 w (z :: x :: y :: l) :=
 h.sub fun z hz=>by simp only [List.mem_cons] at *; rcases hz with h | h | h | h<;>simp [h]
def Wd (w0:World) (l:List (Nat×Array Value×TypeId)):Type:=Subtype fun w:World=>St w0 w l
def Wd.w {w0:World} {l:List (Nat×Array Value×TypeId)} (n:Wd w0 l):World:=n.1
theorem Wd.h {w0:World} {l:List (Nat×Array Value×TypeId)} (n:Wd w0 l):St w0 n.w l:=n.2
def Wd.mk {w0:World} {l:List (Nat×Array Value×TypeId)} (w:World) (h:St w0 w l):Wd w0 l:=Subtype.mk w h
theorem region_held {P:Program} {w0:World} {b:List (Nat×Array Value×TypeId)} {id:Nat} {Q:Exit→Act→World→Prop} {a:Act} {w:World} {l:List Oper} (hS:St w0 w b) (hm:P.follows .mixedOrders=true) (hB:Region.lexB .any l.toArray=true)
  (h:wpQuiet P l.toArray (fun w'=>∃ n:Wd w0 b,w'=n.w) (fun a'=>∀ w',(∃ n:Wd w0 b,w'=n.w)→Q .normal a' w') l a):(Code.region id l.toArray true).wp P Q a w :=
 wp_region_quiet (C:=fun w'=>∃ n:Wd w0 b,w'=n.w) hm hB ⟨Wd.mk _ hS.drew,rfl⟩ (by simpa using h)
theorem held_of {P:Program} {f:FuncId} {args:Array Value} {w0:World} {b:List (Nat×Array Value×TypeId)} {n:Wd w0 b} {v:Value}
  (h:Calls P f args n.w fun e w'=>e=.returned v∧Below n.w.heap.size n.w w'):Calls P f args n.w fun e w''=>e=.returned v∧∃ m:Wd w0 b,w''=m.w :=
 h.mono fun _ _ ⟨he,hb⟩=>⟨he,Wd.mk _ (n.h.call hb),rfl⟩
def RulesQ (w0:World) (b:List (Nat×Array Value×TypeId)):List (Nat×Array Value×TypeId)→Prop
 | []=>True
 | (B,c,_) :: l=>(∀ (n:Wd w0 b) i,n.w.cell? ⟨B,i,none⟩=c[i]?)∧(∀ (n:Wd w0 b),B<n.w.heap.size)∧RulesQ w0 b l
theorem rulesQ_of (w0:World) (b:List (Nat×Array Value×TypeId)):∀ l:List (Nat×Array Value×TypeId),(∀ x∈l,x∈b)→RulesQ w0 b l
 | [],_=>trivial
 | (B,c,t) :: l,h=>by
  have hm:=h _ List.mem_cons_self
  refine⟨fun n i=>?_,fun n=>?_,rulesQ_of w0 b l fun x hx=>h x (List.mem_cons_of_mem _ hx)⟩
  ·have h0:n.w.heap[B]? = some (.cells c t):=(n.h.2 _ hm).1
   simp [World.cell?,h0]
  ·exact lt_of_heap (n.h.2 _ hm).1
theorem rulesQ (w0:World) (b:List (Nat×Array Value×TypeId)):RulesQ w0 b b:=rulesQ_of w0 b b fun _ h=>h
open Go.ChangeShapes Go.WideShapes Go.ChangeAt Go.RowKit Go.Deep
def IRow (k:IntKind) (w:World) (a:Option Addr) (len cap:Nat) (zs:List Int):Prop :=
 zs.length=len∧len≤cap∧cap≤maxLen∧(∀ z∈zs,(Lit.int k z).wf=true)∧(a=none→cap=0)∧∀ x,a=some x→∀ i,i<len→w.cell? (x.add i)=some (.int k (zs.getD i 0))
def PRow (k0 k1:IntKind) (w:World) (a:Option Addr) (len cap:Nat) (os:List (Int×Int)):Prop :=
 os.length=len∧len≤cap∧cap≤maxLen∧(∀ o∈os,(Lit.int k0 o.1).wf=true∧(Lit.int k1 o.2).wf=true)∧(a=none→cap=0) ∧
  ∀ x,a=some x→∀ i,i<len→w.cell? (x.add (i*2))=some (.int k0 (os.getD i (0,0)).1)∧w.cell? (x.add (i*2+1))=some (.int k1 (os.getD i (0,0)).2)
def Holds (H:Type) (d:DataW H) (len:Nat):Prop:=(d=.nil∧len=0)∨∃ el sp,d=.slice el sp∧el.length=len
theorem openI {H:Type} {enc:TypeId×Value→H} {W:World} {fuel:Nat} {a:Option Addr} {len cap:Nat} {d:DataW H} {p:List MemPlace} {t e:TypeId} {k:IntKind}
  (ht:Tryz.prog.underlying t=some (.slice e)) (he:Tryz.prog.underlying e=some (.int k)) (hc:Tryz.prog.cellsOf e=1)
  (hf:DataW.trod enc Tryz.prog W 0 (fun _=>true) true fuel t (Value.slice a len cap).cells.toList=some (d,p)):∃ zs,IRow k W a len cap zs∧Holds H d len:=by
 rcases open_ints ht he hc hf with ⟨hcs,hx⟩ | ⟨x,l,c,zs,hcs,_,hl,hm,hz,hx,hcell,hwz⟩
 ·simp [Value.cells] at hcs
  obtain⟨rfl,rfl,rfl⟩:=hcs
  simp only [Prod.mk.injEq] at hx
  exact⟨[],⟨rfl,Nat.le_refl _,by unfold maxLen;omega,(fun _ h=>by cases h),fun _=>rfl,fun x h=>by cases h⟩,.inl ⟨hx.1,rfl⟩⟩
 ·simp [Value.cells] at hcs
  obtain⟨rfl,rfl,rfl⟩:=hcs
  simp only [Prod.mk.injEq] at hx
  simp only [if_true] at hz
  refine⟨zs.take len,⟨by simp;omega,hl,hm,fun z h=>hwz z (List.mem_of_mem_take h),fun h=>(by cases h),fun y hy i hi=>?_⟩,.inr ⟨_,_,hx.1,by simp [lits];omega⟩⟩
  obtain rfl:=Option.some.inj hy
  rw [hcell i (by omega)]
  simp [List.getD,hi]
theorem dbel (w:World) (n:Nat):Below w.heap.size w (w.drewN n):=⟨rfl,rfl,rfl,Nat.le_refl _,fun _ _=>rfl⟩
theorem bal (w:World) (o:Obj):Below w.heap.size w (w.alloc o):=(Below.refl _ _).alloc (Nat.le_refl _) _
theorem bt {a b c:World} (h:Below a.heap.size a b) (k:Below b.heap.size b c):Below a.heap.size a c:=h.trans (k.mono h.size)
theorem cells_at {w:World} {B:Nat} {c:Array Value} {T:TypeId} (h:w.heap[B]? = some (.cells c T (0,0))):(∀ i,w.cell? ⟨B,i,none⟩=c[i]?)∧(∀ i,w.frozen? ⟨B,i,none⟩=false)∧B<w.heap.size :=
 ⟨fun i=>by simp [World.cell?,h],fun i=>by simp only [World.frozen?,h];simp,lt_of_heap h⟩
def Wf (k:IntKind) (zs:List Int):Prop:=∀ z∈zs,(Lit.int k z).wf=true
theorem Wf.nil (k:IntKind):Wf k []:=fun _ h=>by cases h
theorem Wf.app {k:IntKind} {a b:List Int} (h:Wf k a) (g:Wf k b):Wf k (a++b):=fun z hz=>(List.mem_append.1 hz).elim (h z) (g z)
theorem Wf.one {k:IntKind} {z:Int} (h:(Lit.int k z).wf=true):Wf k [z]:=fun y hy=>by simp at hy;subst hy;exact h
theorem Wf.take {k:IntKind} {a:List Int} (h:Wf k a) (n:Nat):Wf k (a.take n):=fun z hz=>h z (List.mem_of_mem_take hz)
theorem Wf.drop {k:IntKind} {a:List Int} (h:Wf k a) (n:Nat):Wf k (a.drop n):=fun z hz=>h z (List.mem_of_mem_drop hz)
theorem Wf.set {k:IntKind} {a:List Int} (h:Wf k a) (n:Nat) {z:Int} (hz:(Lit.int k z).wf=true):Wf k (a.set n z):=fun y hy=>by
 rcases List.mem_or_eq_of_mem_set hy with g | g
 ·exact h y g
 ·rw [g];exact hz
theorem wf_i8 {z:Int} (h:(Lit.int .i8 z).wf=true):-128≤z∧z≤127:=by
 simp [Lit.wf,IntKind.min,IntKind.max,IntKind.bits,IntKind.signed] at h
 omega
theorem mk_i8 {z:Int} (h:-128≤z∧z≤127):(Lit.int .i8 z).wf=true:=by
 simp [Lit.wf,IntKind.min,IntKind.max,IntKind.bits,IntKind.signed]
 omega
theorem wf_i16 {z:Int} (h:(Lit.int .i16 z).wf=true):-32768≤z∧z≤32767:=by
 simp [Lit.wf,IntKind.min,IntKind.max,IntKind.bits,IntKind.signed] at h
 omega
theorem wf_i32 {z:Int} (h:(Lit.int .i32 z).wf=true):-2147483648≤z∧z≤2147483647:=by
 simp [Lit.wf,IntKind.min,IntKind.max,IntKind.bits,IntKind.signed] at h
 omega
theorem IRow.mono {k:IntKind} {w w':World} {a:Option Addr} {len cap:Nat} {zs:List Int} (h:IRow k w a len cap zs) (g:∀ x v,w.cell? x=some (.int k v)→w'.cell? x=some (.int k v)):IRow k w' a len cap zs :=
 ⟨h.1,h.2.1,h.2.2.1,h.2.2.2.1,h.2.2.2.2.1,fun x hx i hi=>g _ _ (h.2.2.2.2.2 x hx i hi)⟩
theorem IRow.below {k:IntKind} {w w':World} {a:Option Addr} {len cap:Nat} {zs:List Int} (h:IRow k w a len cap zs) (g:Below w.heap.size w w'):IRow k w' a len cap zs :=
 h.mono fun x _ hx=>(g.cell (World.block_lt_of_cell? w x hx)).trans hx
theorem add_block (x:Addr) (i:Nat):(x.add i).block=x.block:=by unfold Addr.add; split<;>rfl
theorem IRow.grown {k:IntKind} {w w':World} {g:Option Nat} {a:Option Addr} {len cap:Nat} {zs:List Int} (h:IRow k w a len cap zs) (q:w.grownBy w' g) (hg:∀ x b,a=some x→g=some b→x.block≠b):IRow k w' a len cap zs :=
 ⟨h.1,h.2.1,h.2.2.1,h.2.2.2.1,h.2.2.2.2.1,fun x hx i hi=>q.cell (h.2.2.2.2.2 x hx i hi) (fun e=>hg x _ hx e.symm (add_block x i).symm)⟩
theorem IRow.at {k:IntKind} {w:World} {a:Option Addr} {len cap:Nat} {zs:List Int} (hr:IRow k w a len cap zs) {i:Nat} (hi:i<len) :
  ∃ x c,a=some x∧w.cell? (x.add i)=some (.int k c)∧(Lit.int k c).wf=true∧zs[i]? = some c∧zs.drop i=c :: zs.drop (i+1):=by
 obtain⟨hl,hc,hm,hb,hn,hcell⟩:=hr
 have hk':i<zs.length:=by omega
 obtain⟨x,rfl⟩:∃ x,a=some x:=by
  cases a with
  | none=>have:=hn rfl;omega
  | some x=>exact⟨x,rfl⟩
 have hcx:=hcell x rfl i hi
 rw [List.getD_eq_getElem?_getD,List.getElem?_eq_getElem hk',Option.getD_some] at hcx
 exact⟨x,zs[i],rfl,hcx,hb _ (List.getElem_mem hk'),List.getElem?_eq_getElem hk',List.drop_eq_getElem_cons hk'⟩
theorem irow_nil (k:IntKind) (w:World):IRow k w none 0 0 []:=⟨rfl,Nat.le_refl _,by unfold maxLen;omega,(fun _ h=>by cases h),fun _=>rfl,fun x h=>by cases h⟩
theorem IRow.cut {k:IntKind} {w:World} {a a':Option Addr} {len cap n m:Nat} {zs:List Int} (h:IRow k w a len cap zs) (hn:n+m≤len) (ha:∀ x,a=some x→n<cap→a'=some (x.add n)) (hb:a=none→a'=none):IRow k w a' m (cap-n) ((zs.drop n).take m):=by
 obtain⟨h1,h2,h3,h4,h5,h6⟩:=h
 refine⟨by simp [h1];omega,by omega,by omega,fun z hz=>h4 z (List.mem_of_mem_drop (List.mem_of_mem_take hz)),fun e=>?_,fun x hx i hi=>?_⟩
 ·cases a with
  | none=>have:=h5 rfl;omega
  | some x =>
   rcases Nat.lt_or_ge n cap with q | q
   ·rw [ha x rfl q] at e;cases e
   ·omega
 ·cases a with
  | none=>rw [hb rfl] at hx;cases hx
  | some y =>
   rw [ha y rfl (by omega)] at hx
   cases hx
   have:=h6 y rfl (n+i) (by omega)
   rw [Addr.add_add,this]
   simp [List.getD,hi]
def Own (k:IntKind) (T:TypeId) (w:World) (base:Nat) (v:Value) (zs:List Int):Prop:=w.ownsRow base T 1 v zs.length (zs.map (Value.int k))∧Wf k zs
theorem Own.shape {k:IntKind} {T:TypeId} {w:World} {base:Nat} {v:Value} {zs:List Int} (h:Own k T w base v zs) :
  (v=.slice none 0 0∧zs=[])∨∃ g cap,v=.slice (some ⟨g,0,none⟩) zs.length cap∧base≤g∧g<w.heap.size∧zs.length≤cap∧cap≤maxLen∧(∃ cur,w.heap[g]? = some (.cells cur T (0,0))∧cur.size=cap) ∧
    (∀ i,i<zs.length→w.cell? ⟨g,i,none⟩=some (.int k (zs.getD i 0)))∧∀ i,w.frozen? ⟨g,i,none⟩=false:=by
 obtain⟨⟨h1,h2⟩,hb⟩:=h
 rcases h2 with ⟨rfl,h0⟩ | ⟨g,cap,cur,rfl,hg,hh,hn,hm,hs,ht⟩
 ·exact .inl ⟨rfl,List.eq_nil_of_length_eq_zero h0⟩
 ·refine .inr ⟨g,cap,rfl,hg,lt_of_heap hh,hn,hm,⟨cur,hh,by simpa using hs⟩,fun i hi=>?_,fun i=>?_⟩
  ·have hc:cur[i]? = some (.int k (zs.getD i 0)):=by
    have:(cur.toList.take (zs.length*1))[i]? = some (.int k (zs.getD i 0)):=by rw [ht];simp [List.getD,hi]
    rw [List.getElem?_take,if_pos (by omega)] at this
    simpa using this
   simp [World.cell?,hh,hc]
  ·simp only [World.frozen?,hh];simp
theorem Own.row {k:IntKind} {T:TypeId} {w:World} {base:Nat} {v:Value} {zs:List Int} (h:Own k T w base v zs):∃ a cap,v=.slice a zs.length cap∧IRow k w a zs.length cap zs∧∀ x,a=some x→base≤x.block∧x.block<w.heap.size:=by
 have hb:=h.2
 rcases h.shape with ⟨rfl,rfl⟩ | ⟨g,cap,rfl,hg,hlt,hn,hm,_,hc,_⟩
 ·exact⟨none,0,rfl,irow_nil k w,fun x hx=>by cases hx⟩
 ·refine⟨some ⟨g,0,none⟩,cap,rfl,⟨rfl,hn,hm,hb,fun h=>(by cases h),fun x hx i hi=>?_⟩,fun x hx=>?_⟩
  ·cases hx;rw [Addr.add_lit,Nat.zero_add];exact hc i hi
  ·cases hx;exact⟨hg,hlt⟩
theorem Own.below {k:IntKind} {T:TypeId} {w w':World} {base:Nat} {v:Value} {zs:List Int} (h:Own k T w base v zs) (q:Below w.heap.size w w'):Own k T w' base v zs:=by
 refine⟨h.1.kept (row:=none) ⟨q.os,q.tape,q.output,q.size,fun i hi _=>q.block i hi⟩ ?_,h.2⟩
 rcases h.shape with ⟨rfl,_⟩ | ⟨g,cap,rfl,_⟩
 ·exact .inl rfl
 ·exact .inr (by simp [Value.ownBlock])
theorem Own.base {k:IntKind} {T:TypeId} {w:World} {b c:Nat} {v:Value} {zs:List Int} (h:Own k T w b v zs) (q:c≤b):Own k T w c v zs:=by
 refine⟨⟨h.1.1,?_⟩,h.2⟩
 rcases h.1.2 with h | ⟨g,cap,cur,h1,h2,h3⟩
 ·exact .inl h
 ·exact .inr ⟨g,cap,cur,h1,Nat.le_trans q h2,h3⟩
theorem Own.alloc {k:IntKind} {T:TypeId} {w:World} {base:Nat} {v:Value} {zs:List Int} (h:Own k T w base v zs) (o:Obj):Own k T (w.alloc o) base v zs:=h.below (bal _ _)
theorem own_none (k:IntKind) (T:TypeId) (w:World) (base:Nat):Own k T w base (.slice none 0 0) []:=⟨World.ownsRow_nil _ _ _ _,Wf.nil k⟩
theorem own_full {k:IntKind} {T:TypeId} {w:World} {base g:Nat} {zs:List Int} (h:w.heap[g]? = some (.cells (zs.map (Value.int k)).toArray T (0,0))) (hb:Wf k zs) (hm:zs.length≤maxLen) (hw:base≤g) :
  Own k T w base (.slice (some ⟨g,0,none⟩) zs.length zs.length) zs :=
 ⟨⟨by simp,.inr ⟨g,zs.length,_,rfl,hw,h,Nat.le_refl _,hm,by simp,by rw [Nat.mul_one,List.take_of_length_le (by simp)]⟩⟩,hb⟩
theorem Own.len {k:IntKind} {T:TypeId} {w:World} {base n cap:Nat} {a:Option Addr} {zs:List Int} (h:Own k T w base (.slice a n cap) zs):zs.length=n:=by
 rcases h.shape with ⟨h',rfl⟩ | ⟨g',cap',h',_⟩
 ·cases h';rfl
 ·cases h';rfl
theorem Own.set {k:IntKind} {T:TypeId} {w:World} {base g n cap i:Nat} {zs:List Int} {z:Int} (h:Own k T w base (.slice (some ⟨g,0,none⟩) n cap) zs) (hz:(Lit.int k z).wf=true) :
  Own k T (w.setCell ⟨g,i,none⟩ (.int k z)) base (.slice (some ⟨g,0,none⟩) n cap) (zs.set i z)∧w.grownBy (w.setCell ⟨g,i,none⟩ (.int k z)) (some g):=by
 obtain rfl:=h.len
 have:=h.1.stored i (.int k z)
 refine⟨⟨?_,h.2.set i hz⟩,this.2⟩
 rw [List.length_set,List.map_set];exact this.1
theorem Own.block {k:IntKind} {T:TypeId} {w:World} {base:Nat} {v:Value} {zs:List Int} (h:Own k T w base v zs) {b:Nat} (hb:v.ownBlock=some b):base≤b:=by
 rcases h.shape with ⟨rfl,_⟩ | ⟨g,cap,rfl,hg,_⟩
 ·simp [Value.ownBlock] at hb
 ·obtain rfl:g=b:=by simpa [Value.ownBlock] using hb
  exact hg
theorem Own.bel {k:IntKind} {T:TypeId} {w0 w w':World} {base B:Nat} {v:Value} {zs:List Int} (h:Own k T w base v zs) (hb:Below B w0 w) (g:w.grownBy w' v.ownBlock) (hB:B≤base) (hw:B≤w.heap.size):Below B w0 w' :=
 hb.grown g hw fun _ e=>Nat.le_trans hB (h.block e)
def KT (k:IntKind) (T S:TypeId) (b:Nat):Prop:=Tryz.prog.underlying S=some (.slice T)∧(Tryz.prog.info? T).map (fun i=>(i.zero,i.size,i.bytes))=some (some (.int k 0),1,b)∧1≤b∧b≤8
theorem kt_i8:KT .i8 71 31 1:=⟨Tryz.underlying31,by kernel_rfl,by decide,by decide⟩
theorem wpList_app {k:IntKind} {T S:TypeId} {by8:Nat} (kt:KT k T S by8) {w:World} {ops:Array Oper} {rest:List Oper} {o:Oper} {a:Act} {Q:Exit→Act→World→Prop} (hgd:o.guard=none) (s x:Operand)
  (ho:o.op=.call { callee:=.builtin .append,args:=#[s,x],argTypes:=#[S,S] })
  (base:Nat) (v:Value) (xs ys:List Int) (hs:a.eval s=v) (hown:Own k T w base v xs) (ao:Option Addr) (m c:Nat) (hx:a.eval x=.slice ao m c) (hy:IRow k w ao m c ys)
  (hlen:xs.length+ys.length≤10000000) (hbase:base≤w.heap.size)
  (h:∀ v' w',Own k T w' base v' (xs++ys)→w.grownBy w' v.ownBlock→(v≠.slice none 0 0→v'≠.slice none 0 0)→wpList Tryz.prog ops Q rest (a.put o.dst v') w'):wpList Tryz.prog ops Q (o :: rest) a w:=by
 obtain⟨hu,hin,b1,b8⟩:=kt
 obtain⟨i0,hi,hz0,hz1,hz2⟩:=info_parts hin
 obtain⟨hl,hc,hm,hb,hn,hcell⟩:=hy
 cases ao with
 | none =>
  obtain rfl:c=0:=hn rfl
  obtain rfl:m=0:=by omega
  obtain rfl:ys=[]:=List.eq_nil_of_length_eq_zero hl
  refine wpList_append_own_none hgd s x _ ho base T i0 1 hu hi v xs.length _ hs hown.1 hx ?_
  have:=h v w (by simpa using hown) ⟨rfl,rfl,rfl,Nat.le_refl _,fun _ _ _=>rfl⟩ (fun h=>h)
  exact this
 | some ad =>
  have hby:by8*(xs.length+ys.length)≤8*(xs.length+ys.length):=Nat.mul_le_mul_right _ b8
  refine wpList_append_own _ hgd s x _ ho base T i0 (.int k 0) 1 by8 hu hi hz0 hz1 hz2 rfl (by omega) v xs.length _ hs hown.1 ad m c (ys.map (Value.int k)) hx (by simp [hl]) ?_ (ints_oneCell _ _) ?_ ?_ hbase ?_
  ·intro j u hj
   have hj':j<m:=by
    have:=(List.getElem?_eq_some_iff.1 hj).1
    simpa [hl] using this
   rw [hcell ad rfl j hj']
   simp [List.getD,show j<ys.length by omega] at hj ⊢
   exact hj
  ·unfold maxLen;omega
  ·rw [hl] at hby hlen;rw [Nat.mul_comm];omega
  ·intro v' w' h1 h2 h3
   refine h v' w' ⟨?_,hown.2.app hb⟩ h2 (fun hv hv'=>hv (h3.1 hv').1)
   rw [List.length_append,hl,List.map_append]
   exact h1
theorem row_one (k:IntKind) (T:TypeId) (w:World) (z:Int) (hz:(Lit.int k z).wf=true):IRow k (w.alloc (.cells #[.int k z] T)) (some ⟨w.heap.size,0,none⟩) 1 1 [z]:=by
 refine⟨rfl,Nat.le_refl _,by unfold maxLen;omega,Wf.one hz,fun h=>(by cases h),fun x hx i hi=>?_⟩
 cases hx
 obtain rfl:i=0:=by omega
 simp [Addr.add]
theorem run_mak {k:IntKind} {T S:TypeId} {by8:Nat} (kt:KT k T S by8) (n:Nat) (hn:n≤10000000):∀ w:World,(Instr.makeSlice S (U i6 (n:Int)) (U i6 (n:Int))).run Tryz.prog w=.ok (.slice (some ⟨w.heap.size,0,none⟩) n n) (w.alloc (.cells (Array.replicate n (Value.int k 0)) T)):=by
 intro w
 obtain⟨hu,hin,b1,b8⟩:=kt
 obtain⟨i0,hi,hz0,hz1,hz2⟩:=info_parts hin
 have hby:by8*n≤8*n:=Nat.mul_le_mul_right _ b8
 have hby':(by8:Int)*(n:Int)≤281474976710656:=by
  have:((by8*n:Nat):Int)≤281474976710656:=by omega
  rwa [Int.natCast_mul] at this
 have hr:=run_make (P:=Tryz.prog) w S T i0 (.int k 0) hu hi hz0 .i64 .i64 n n (by omega) (by omega) (by rw [hz2];exact hby') (by omega)
 have hmc:madeCells (Value.int k 0).cells (n*1)=Array.replicate n (Value.int k 0):=by
  apply Array.ext
  ·rw [size_madeCells];simp
  ·intro i h1 h2
   simp [madeCells,Value.cells,Nat.mod_one]
 simp only [Int.toNat_natCast,hz1,hmc] at hr
 exact hr
theorem rep_cells (k:IntKind) (n:Nat):Array.replicate n (Value.int k 0)=((List.replicate n (0:Int)).map (Value.int k)).toArray:=by simp
def vS (h w c:Int):Bool:=decide ((1≤h∧h≤1024)∧(1≤w∧w≤1024)∧(1≤c∧c≤1024)∧h*w*c≤16384)
def elR (h w c:Int):Int×Int:=if vS h w c=true then (h*w*c,0) else (0,50)
theorem vS_yes {h w c:Int} (g:vS h w c=true):(1≤h∧h≤1024)∧(1≤w∧w≤1024)∧(1≤c∧c≤1024)∧h*w*c≤16384:=by simpa [vS] using g
theorem elR_ok {h w c:Int} (g:vS h w c=true):elR h w c=(h*w*c,0):=if_pos g
theorem elR_no {h w c:Int} (g:vS h w c=false):elR h w c=(0,50):=if_neg (by rw [g];exact Bool.false_ne_true)
theorem vS_mk {h w c:Int} (g:(1≤h∧h≤1024)∧(1≤w∧w≤1024)∧(1≤c∧c≤1024)∧h*w*c≤16384):vS h w c=true:=by unfold vS;exact decide_eq_true g
theorem vS_not {h w c:Int} (g:¬ ((1≤h∧h≤1024)∧(1≤w∧w≤1024)∧(1≤c∧c≤1024)∧h*w*c≤16384)):vS h w c=false:=by unfold vS;exact decide_eq_false g
theorem mul_bd {a b A B:Int} (ha:1≤a) (hA:a≤A) (hb:1≤b) (hB:b≤B):1≤a*b∧a*b≤A*B:=by
 constructor
 ·have:=Int.mul_le_mul ha hb (by omega) (by omega);omega
 ·exact Int.mul_le_mul hA hB (by omega) (by omega)
theorem sides_any (h w c:Int) (W:World) :
  Calls Tryz.prog 121 #[.agg #[U i6 h,U i6 w,U i6 c]] W fun e w'=>e=.returned (.agg #[U i6 h,U i6 w,U i6 c])∧Below W.heap.size W w':=by
 go_enter Tryz.func121,Tryz.ntmps121
 go_wp2
 exact bodyPost_ret (v:=.agg #[U i6 h,U i6 w,U i6 c]) (by simp [results,Tryz.results121,go_sem]) rfl ⟨rfl,(St.start W).new.new.below⟩
theorem idx0 (h w c:Int):∀ W:World,(Instr.index 189 (.agg #[U i6 h,U i6 w,U i6 c]) (U i6 0)).run Tryz.prog W=.ok (U i6 h) W:=fun _=>by kernel_rfl
theorem idx1 (h w c:Int):∀ W:World,(Instr.index 189 (.agg #[U i6 h,U i6 w,U i6 c]) (U i6 1)).run Tryz.prog W=.ok (U i6 w) W:=fun _=>by kernel_rfl
theorem idx2 (h w c:Int):∀ W:World,(Instr.index 189 (.agg #[U i6 h,U i6 w,U i6 c]) (U i6 2)).run Tryz.prog W=.ok (U i6 c) W:=fun _=>by kernel_rfl
theorem selems_any (h w c:Int) (W:World) :
  Calls Tryz.prog 109 #[.agg #[U i6 h,U i6 w,U i6 c]] W fun e w'=>e=.returned (.tuple #[U i6 (elR h w c).1,U i6 (elR h w c).2])∧Below W.heap.size W w':=by
 by_cases k1:h<1
 ·rw [elR_no (vS_not (by omega))]
  have i0:=idx0 h w c
  go_enter Tryz.func109,Tryz.ntmps109
  go_wp2_with fail
  refine (sides_any _ _ _ _).mono ?_
  rintro e w1 ⟨rfl,hb⟩
  have s1:=(St.start W).new.call hb
  clear hb
  go_wp2
  refine wp_loop_rounds 1 ?_
  rw [rounds_succ]
  go_wp2
  go_ret2
  exact⟨rfl,s1.below⟩
 by_cases k2:1024<h
 ·rw [elR_no (vS_not (by omega))]
  have i0:=idx0 h w c
  go_enter Tryz.func109,Tryz.ntmps109
  go_wp2_with fail
  refine (sides_any _ _ _ _).mono ?_
  rintro e w1 ⟨rfl,hb⟩
  have s1:=(St.start W).new.call hb
  clear hb
  go_wp2
  refine wp_loop_rounds 1 ?_
  rw [rounds_succ]
  go_wp2
  go_ret2
  exact⟨rfl,s1.below⟩
 by_cases k3:w<1
 ·rw [elR_no (vS_not (by omega))]
  have i0:=idx0 h w c
  have i1:=idx1 h w c
  go_enter Tryz.func109,Tryz.ntmps109
  go_wp2_with fail
  refine (sides_any _ _ _ _).mono ?_
  rintro e w1 ⟨rfl,hb⟩
  have s1:=(St.start W).new.call hb
  clear hb
  go_wp2
  refine wp_loop_rounds 2 ?_
  rw [rounds_succ]
  go_wp2
  rw [rounds_succ]
  go_wp2
  go_ret2
  exact⟨rfl,s1.below⟩
 by_cases k4:1024<w
 ·rw [elR_no (vS_not (by omega))]
  have i0:=idx0 h w c
  have i1:=idx1 h w c
  go_enter Tryz.func109,Tryz.ntmps109
  go_wp2_with fail
  refine (sides_any _ _ _ _).mono ?_
  rintro e w1 ⟨rfl,hb⟩
  have s1:=(St.start W).new.call hb
  clear hb
  go_wp2
  refine wp_loop_rounds 2 ?_
  rw [rounds_succ]
  go_wp2
  rw [rounds_succ]
  go_wp2
  go_ret2
  exact⟨rfl,s1.below⟩
 obtain⟨p1,p2⟩:=mul_bd (by omega:1≤h) (by omega:h≤1024) (by omega:1≤w) (by omega:w≤1024)
 by_cases k5:c<1
 ·rw [elR_no (vS_not (by omega))]
  have i0:=idx0 h w c
  have i1:=idx1 h w c
  have i2:=idx2 h w c
  obtain⟨p,hp⟩:∃ p,h*w=p:=⟨_,rfl⟩
  rw [hp] at p1 p2
  go_enter Tryz.func109,Tryz.ntmps109
  go_wp2_with fail
  refine (sides_any _ _ _ _).mono ?_
  rintro e w1 ⟨rfl,hb⟩
  have s1:=(St.start W).new.call hb
  clear hb
  go_wp2
  refine wp_loop_rounds 3 ?_
  rw [rounds_succ]
  go_wp2
  rw [rounds_succ]
  go_wp2
  rw [rounds_succ]
  go_wp2
  go_ret2
  exact⟨rfl,s1.below⟩
 by_cases k6:1024<c
 ·rw [elR_no (vS_not (by omega))]
  have i0:=idx0 h w c
  have i1:=idx1 h w c
  have i2:=idx2 h w c
  obtain⟨p,hp⟩:∃ p,h*w=p:=⟨_,rfl⟩
  rw [hp] at p1 p2
  go_enter Tryz.func109,Tryz.ntmps109
  go_wp2_with fail
  refine (sides_any _ _ _ _).mono ?_
  rintro e w1 ⟨rfl,hb⟩
  have s1:=(St.start W).new.call hb
  clear hb
  go_wp2
  refine wp_loop_rounds 3 ?_
  rw [rounds_succ]
  go_wp2
  rw [rounds_succ]
  go_wp2
  rw [rounds_succ]
  go_wp2
  go_ret2
  exact⟨rfl,s1.below⟩
 obtain⟨q1,q2⟩:=mul_bd p1 p2 (by omega:1≤c) (by omega:c≤1024)
 have HV:Hid (vS h w c=decide (h*w*c≤16384)):=by
  unfold Hid vS
  exact decide_eq_decide.2 ⟨fun g=>g.2.2.2,fun g=>⟨by omega,by omega,by omega,g⟩⟩
 obtain⟨p,hp⟩:∃ p,h*w=p:=⟨_,rfl⟩
 have HR:Hid (elR h w c=if vS h w c=true then (p*c,0) else (0,50)):=by unfold Hid;rw [← hp];rfl
 rw [hp] at p1 p2 q1 q2
 have HV2:Hid (vS h w c=decide (p*c≤16384)):=by unfold Hid;rw [HV.out,hp]
 clear HV
 obtain⟨q,hq⟩:∃ q,p*c=q:=⟨_,rfl⟩
 rw [hq] at q1 q2
 have HR2:Hid (elR h w c=if q≤16384 then (q,0) else (0,50)):=by unfold Hid;rw [HR.out,HV2.out,hq];simp only [decide_eq_true_eq]
 clear HV2 HR
 rw [HR2.out]
 clear HR2
 by_cases k7:16384<q
 ·rw [if_neg (by omega)]
  have i0:=idx0 h w c
  have i1:=idx1 h w c
  have i2:=idx2 h w c
  go_enter Tryz.func109,Tryz.ntmps109
  go_wp2_with fail
  refine (sides_any _ _ _ _).mono ?_
  rintro e w1 ⟨rfl,hb⟩
  have s1:=(St.start W).new.call hb
  clear hb
  go_wp2
  refine wp_loop_rounds 4 ?_
  rw [rounds_succ]
  go_wp2
  rw [rounds_succ]
  go_wp2
  rw [rounds_succ]
  go_wp2
  rw [rounds_succ]
  go_wp2
  go_ret2
  exact⟨rfl,s1.below⟩
 ·rw [if_pos (by omega)]
  have i0:=idx0 h w c
  have i1:=idx1 h w c
  have i2:=idx2 h w c
  go_enter Tryz.func109,Tryz.ntmps109
  go_wp2_with fail
  refine (sides_any _ _ _ _).mono ?_
  rintro e w1 ⟨rfl,hb⟩
  have s1:=(St.start W).new.call hb
  clear hb
  go_wp2
  refine wp_loop_rounds 4 ?_
  rw [rounds_succ]
  go_wp2
  rw [rounds_succ]
  go_wp2
  rw [rounds_succ]
  go_wp2
  rw [rounds_succ]
  go_wp2
  go_ret2
  exact⟨rfl,s1.below⟩
def btw (n lo hi:Int):Bool:=decide (lo≤n∧n≤hi)
theorem btw_yes {n lo hi:Int} (h:btw n lo hi=true):lo≤n∧n≤hi:=by simpa [btw] using h
def InW (kh kw sh sw tp lf bt rt:Int):Prop:=(1≤kh∧kh≤32)∧(1≤kw∧kw≤32)∧(1≤sh∧sh≤32)∧(1≤sw∧sw≤32)∧(0≤tp∧tp≤kh-1)∧(0≤bt∧bt≤kh-1)∧(0≤lf∧lf≤kw-1)∧(0≤rt∧rt≤kw-1)
def vW (kh kw sh sw tp lf bt rt:Int):Bool:=btw kh 1 32 && btw kw 1 32 && btw sh 1 32 && btw sw 1 32 && btw tp 0 (kh-1) && btw bt 0 (kh-1) && btw lf 0 (kw-1) && btw rt 0 (kw-1)
theorem vW_yes {kh kw sh sw tp lf bt rt:Int} (h:vW kh kw sh sw tp lf bt rt=true):InW kh kw sh sw tp lf bt rt:=by
 simp only [vW,Bool.and_eq_true] at h
 obtain⟨⟨⟨⟨⟨⟨⟨h1,h2⟩,h3⟩,h4⟩,h5⟩,h6⟩,h7⟩,h8⟩:=h
 exact⟨btw_yes h1,btw_yes h2,btw_yes h3,btw_yes h4,btw_yes h5,btw_yes h6,btw_yes h7,btw_yes h8⟩
def sp (n k s:Int):Int:=if n<k then 0 else (n-k) / s+1
theorem sp_no {n k s:Int} (h:n<k):sp n k s=0:=if_pos h
theorem sp_ok {n k s:Int} (h:¬ n<k):sp n k s=(n-k) / s+1:=if_neg h
theorem sp_bd {n k s:Int} (hs:1≤s) (hn:0≤n) (hk:1≤k):0≤sp n k s∧sp n k s≤n+1:=by
 by_cases h:n<k
 ·rw [sp_no h];omega
 ·rw [sp_ok h]
  have h1:=Int.ediv_nonneg (show 0≤n-k by omega) (show 0≤s by omega)
  have h2:=Int.ediv_le_self s (show 0≤n-k by omega)
  omega
theorem sp_mul {n k s:Int} (hs:1≤s) (h:¬ n<k):(sp n k s-1)*s+k≤n:=by
 rw [sp_ok h]
 have:=Int.ediv_mul_le (n-k) (show s≠0 by omega)
 have e:(n-k) / s+1-1=(n-k) / s:=by omega
 rw [e]
 omega
theorem sp_pos {n k s:Int} (hs:1≤s) (h:¬ n<k):1≤sp n k s:=by
 rw [sp_ok h]
 have h1:=Int.ediv_nonneg (show 0≤n-k by omega) (show 0≤s by omega)
 omega
theorem sp_of {n k s c t:Int} (hs:1≤s) (hc:0≤c) (ht:t=c*s) (h1:n<t+k) (h2:c=0∨t-s+k≤n):c=sp n k s:=by
 rcases h2 with rfl | h2
 ·rw [sp_no (by omega)]
 ·by_cases hn:n<k
  ·rcases Int.le_iff_lt_or_eq.1 hc with h | h
   ·have:=Int.mul_le_mul_of_nonneg_right (show 1≤c by omega) (show 0≤s by omega)
    omega
   ·subst h;rw [sp_no hn]
  ·rw [sp_ok hn]
   have e:(c-1)*s=t-s:=by rw [Int.sub_mul,ht];omega
   have g1:c-1≤(n-k) / s:=Int.le_ediv_of_mul_le (by omega) (by omega)
   have g2:(n-k) / s<c:=Int.ediv_lt_of_lt_mul (by omega) (by omega)
   omega
def ouR (h w c kh kw sh sw tp lf bt rt:Int):Int×Int×Int :=
 if vS h w c=true then (if vW kh kw sh sw tp lf bt rt=true then (if sp (tp+h+bt) kh sh=0∨sp (lf+w+rt) kw sw=0 then (0,0,60) else (sp (tp+h+bt) kh sh,sp (lf+w+rt) kw sw,0)) else (0,0,60)) else (0,0,50)
theorem ouR_shape {h w c kh kw sh sw tp lf bt rt:Int} (g:vS h w c=false):ouR h w c kh kw sh sw tp lf bt rt=(0,0,50):=if_neg (by rw [g];exact Bool.false_ne_true)
theorem ouR_win {h w c kh kw sh sw tp lf bt rt:Int} (g:vS h w c=true) (k:vW kh kw sh sw tp lf bt rt=false):ouR h w c kh kw sh sw tp lf bt rt=(0,0,60):=by unfold ouR;rw [if_pos g,if_neg (by rw [k];exact Bool.false_ne_true)]
theorem ouR_out {h w c kh kw sh sw tp lf bt rt:Int} (g:vS h w c=true) (k:vW kh kw sh sw tp lf bt rt=true) (z:sp (tp+h+bt) kh sh=0∨sp (lf+w+rt) kw sw=0):ouR h w c kh kw sh sw tp lf bt rt=(0,0,60):=by unfold ouR;rw [if_pos g,if_pos k,if_pos z]
theorem ouR_in {h w c kh kw sh sw tp lf bt rt:Int} (g:vS h w c=true) (k:vW kh kw sh sw tp lf bt rt=true) (z:¬ (sp (tp+h+bt) kh sh=0∨sp (lf+w+rt) kw sw=0)):ouR h w c kh kw sh sw tp lf bt rt=(sp (tp+h+bt) kh sh,sp (lf+w+rt) kw sw,0):=by unfold ouR;rw [if_pos g,if_pos k,if_neg z]
def Fit (h w kh kw sh sw tp lf bt rt r q:Int):Prop :=
 ((1≤h∧h≤1024)∧(1≤w∧w≤1024)∧h*w≤16384)∧InW kh kw sh sw tp lf bt rt∧(1≤r∧r≤1200)∧(1≤q∧q≤1200)∧(r-1)*sh+kh≤tp+h+bt∧(q-1)*sw+kw≤lf+w+rt
theorem ouR_cases (h w c kh kw sh sw tp lf bt rt:Int):(∃ e,ouR h w c kh kw sh sw tp lf bt rt=(0,0,e)∧(e=50∨e=60))∨∃ r q,ouR h w c kh kw sh sw tp lf bt rt=(r,q,0)∧Fit h w kh kw sh sw tp lf bt rt r q:=by
 cases g:vS h w c with
 | false=>exact .inl ⟨50,ouR_shape g,.inl rfl⟩
 | true =>
  cases k:vW kh kw sh sw tp lf bt rt with
  | false=>exact .inl ⟨60,ouR_win g k,.inr rfl⟩
  | true =>
   by_cases z:sp (tp+h+bt) kh sh=0∨sp (lf+w+rt) kw sw=0
   ·exact .inl ⟨60,ouR_out g k z,.inr rfl⟩
   ·obtain⟨h1,w1,c1,q9⟩:=vS_yes g
    have kk:=vW_yes k
    obtain⟨k1,k2,k3,k4,k5,k6,k7,k8⟩:=kk
    have z1:¬ tp+h+bt<kh:=fun g=>z (.inl (sp_no g))
    have z2:¬ lf+w+rt<kw:=fun g=>z (.inr (sp_no g))
    refine .inr ⟨_,_,ouR_in g k z,⟨h1,w1,?_⟩,⟨k1,k2,k3,k4,k5,k6,k7,k8⟩,⟨sp_pos (by omega) z1,?_⟩,⟨sp_pos (by omega) z2,?_⟩,sp_mul (by omega) z1,sp_mul (by omega) z2⟩
    ·have p1:=(mul_bd h1.1 h1.2 w1.1 w1.2).1
     have:=Int.mul_le_mul_of_nonneg_left c1.1 (show 0≤h*w by omega)
     omega
    ·have:=(sp_bd (n:=tp+h+bt) (k:=kh) (s:=sh) (by omega) (by omega) (by omega)).2;omega
    ·have:=(sp_bd (n:=lf+w+rt) (k:=kw) (s:=sw) (by omega) (by omega) (by omega)).2;omega
def coR (h w c kh kw sh sw tp lf bt rt n:Int):Int×Int×Int :=
 if (ouR h w c kh kw sh sw tp lf bt rt).2.2=0 then (if 0≤n∧n<(ouR h w c kh kw sh sw tp lf bt rt).1*(ouR h w c kh kw sh sw tp lf bt rt).2.1 then (n / (ouR h w c kh kw sh sw tp lf bt rt).2.1*sh-tp,n % (ouR h w c kh kw sh sw tp lf bt rt).2.1*sw-lf,0) else (0,0,3)) else (0,0,(ouR h w c kh kw sh sw tp lf bt rt).2.2)
def plc (h w y x:Int):Int:=if (0≤y∧y<h)∧(0≤x∧x<w) then y*w+x else -1
theorem plc_in {h w y x:Int} (k:(0≤y∧y<h)∧(0≤x∧x<w)):plc h w y x=y*w+x:=if_pos k
theorem plc_out {h w y x:Int} (k:¬ ((0≤y∧y<h)∧(0≤x∧x<w))):plc h w y x = -1:=if_neg k
theorem rowbd {h w y x:Int} (h2:y<h) (h1:0≤y) (g1:0≤x) (g2:x<w):0≤y*w∧y*w+x<h*w:=by
 have a:=Int.mul_le_mul_of_nonneg_right (show y+1≤h by omega) (show 0≤w by omega)
 have b:=Int.mul_le_mul_of_nonneg_right h1 (show 0≤w by omega)
 rw [Int.add_mul] at a
 omega
def tap (h w kw t l:Int) (k:Nat):Int×Int:=((k:Int),plc h w (t+(k:Int) / kw) (l+(k:Int) % kw))
def tapL (h w kw t l:Int) (n:Nat):List (Int×Int):=(List.range n).map (tap h w kw t l)
theorem tapL_len (h w kw t l:Int) (n:Nat):(tapL h w kw t l n).length=n:=by simp [tapL]
theorem tapL_succ (h w kw t l:Int) (n:Nat):tapL h w kw t l (n+1)=tapL h w kw t l n++[tap h w kw t l n]:=by simp [tapL,List.range_succ]
theorem tapL_take (h w kw t l:Int) {k n:Nat} (hk:k≤n):tapL h w kw t l k=(tapL h w kw t l n).take k:=by
 simp [tapL,← List.map_take,List.take_range,Nat.min_eq_left hk]
def tapsOf (h w c kh kw sh sw tp lf bt rt n:Int):List (Int×Int) :=
 if (coR h w c kh kw sh sw tp lf bt rt n).2.2=0 then tapL h w kw (coR h w c kh kw sh sw tp lf bt rt n).1 (coR h w c kh kw sh sw tp lf bt rt n).2.1 (kh*kw).toNat else []
def spotL (q:Int) (n:Nat):List (Int×Int):=(List.range n).map fun (k:Nat)=>((k:Int) / q,(k:Int) % q)
def spotsOf (h w c kh kw sh sw tp lf bt rt:Int):List (Int×Int):=spotL (ouR h w c kh kw sh sw tp lf bt rt).2.1 ((ouR h w c kh kw sh sw tp lf bt rt).1*(ouR h w c kh kw sh sw tp lf bt rt).2.1).toNat
theorem coR_cases (h w c kh kw sh sw tp lf bt rt n:Int):(∃ e,coR h w c kh kw sh sw tp lf bt rt n=(0,0,e)∧(e=50∨e=60∨e=3)) ∨
  ∃ r q,ouR h w c kh kw sh sw tp lf bt rt=(r,q,0)∧Fit h w kh kw sh sw tp lf bt rt r q∧(0≤n∧n<r*q)∧coR h w c kh kw sh sw tp lf bt rt n=(n / q*sh-tp,n % q*sw-lf,0):=by
 rcases ouR_cases h w c kh kw sh sw tp lf bt rt with ⟨e,he,h2⟩ | ⟨r,q,he,hf⟩
 ·left
  refine⟨e,?_,by omega⟩
  unfold coR
  rw [he,if_neg (by simp only;omega)]
 ·by_cases hn:0≤n∧n<r*q
  ·right
   refine⟨r,q,he,hf,hn,?_⟩
   unfold coR
   rw [he,if_pos rfl,if_pos hn]
  ·left
   refine⟨3,?_,by omega⟩
   unfold coR
   rw [he,if_pos rfl,if_neg hn]
def Cor (h w kh kw t l:Int):Prop:=(1≤h∧h≤1024)∧(1≤w∧w≤1024)∧h*w≤16384∧(1≤kh∧kh≤32)∧(1≤kw∧kw≤32)∧(1-kh≤t∧t<h)∧(1-kw≤l∧l<w)
theorem cor_of {h w kh kw sh sw tp lf bt rt n r q:Int} (hf:Fit h w kh kw sh sw tp lf bt rt r q) (hn:0≤n∧n<r*q):Cor h w kh kw (n / q*sh-tp) (n % q*sw-lf):=by
 obtain⟨⟨h1,w1,q9⟩,⟨k1,k2,k3,k4,k5,k6,k7,k8⟩,r1,q1,z1,z2⟩:=hf
 have a1:=Int.ediv_nonneg hn.1 (show 0≤q by omega)
 have a2:n / q<r:=Int.ediv_lt_of_lt_mul (by omega) hn.2
 have b1:=Int.emod_nonneg n (show q≠0 by omega)
 have b2:=Int.emod_lt_of_pos n (show 0<q by omega)
 have c1:=Int.mul_le_mul_of_nonneg_right (show n / q≤r-1 by omega) (show 0≤sh by omega)
 have c2:=Int.mul_le_mul_of_nonneg_right (show n % q≤q-1 by omega) (show 0≤sw by omega)
 have c3:=Int.mul_nonneg a1 (show 0≤sh by omega)
 have c4:=Int.mul_nonneg b1 (show 0≤sw by omega)
 refine⟨h1,w1,q9,k1,k2,⟨by omega,by omega⟩,⟨by omega,by omega⟩⟩
def dmB (n:Int):Bool:=decide (1≤n∧n≤1024)
theorem dmB_yes {n:Int} (h:dmB n=true):1≤n∧n≤1024:=by simpa [dmB] using h
theorem dmB_no {n:Int} (h:dmB n=false):¬ (1≤n∧n≤1024):=by simpa [dmB] using h
theorem dim_any (n:Int) (W:World) :
  Calls Tryz.prog 101 #[U i6 n] W fun e w'=>e=.returned (.bool (dmB n))∧w'=W:=by
 by_cases k1:1≤n
 ·have HR:Hid (decide (n≤1024)=dmB n):=by unfold Hid dmB;simp [k1]
  go_enter Tryz.func101,Tryz.ntmps101
  go_wp2
  go_ret
  exact⟨retB HR.out,rfl⟩
 ·have HR:Hid (false=dmB n):=by unfold Hid dmB;simp [k1]
  go_enter Tryz.func101,Tryz.ntmps101
  go_wp2
  go_ret
  exact⟨retB HR.out,rfl⟩
theorem rvalid_any (h w c:Int) (W:World) :
  Calls Tryz.prog 84 #[.agg #[U i6 h,U i6 w,U i6 c]] W fun e w'=>e=.returned (.bool (vS h w c))∧Below W.heap.size W w':=by
 cases k1:dmB h with
 | false =>
  have HR:Hid (false=vS h w c):=by unfold Hid;rw [vS_not (by have:=dmB_no k1;omega)]
  go_enter Tryz.func84,Tryz.ntmps84
  go_wp2_with fail
  refine (dim_any _ _).mono ?_
  rintro e w1 ⟨rfl,rfl⟩
  go_wp2
  go_ret
  exact⟨retB HR.out,(St.start W).new.below⟩
 | true =>
  cases k2:dmB w with
  | false =>
   have HR:Hid (false=vS h w c):=by unfold Hid;rw [vS_not (by have:=dmB_no k2;omega)]
   go_enter Tryz.func84,Tryz.ntmps84
   go_wp2_with fail
   refine (dim_any _ _).mono ?_
   rintro e w1 ⟨rfl,rfl⟩
   go_wp2_with fail
   refine (dim_any _ _).mono ?_
   rintro e w1 ⟨rfl,rfl⟩
   go_wp2
   go_ret
   exact⟨retB HR.out,(St.start W).new.below⟩
  | true =>
   cases k3:dmB c with
   | false =>
    have HR:Hid (false=vS h w c):=by unfold Hid;rw [vS_not (by have:=dmB_no k3;omega)]
    go_enter Tryz.func84,Tryz.ntmps84
    go_wp2_with fail
    refine (dim_any _ _).mono ?_
    rintro e w1 ⟨rfl,rfl⟩
    go_wp2_with fail
    refine (dim_any _ _).mono ?_
    rintro e w1 ⟨rfl,rfl⟩
    go_wp2_with fail
    refine (dim_any _ _).mono ?_
    rintro e w1 ⟨rfl,rfl⟩
    go_wp2
    go_ret
    exact⟨retB HR.out,(St.start W).new.below⟩
   | true =>
    have h1:=dmB_yes k1
    have w1:=dmB_yes k2
    have c1:=dmB_yes k3
    obtain⟨p1,p2⟩:=mul_bd h1.1 h1.2 w1.1 w1.2
    obtain⟨q1,q2⟩:=mul_bd p1 p2 c1.1 c1.2
    have HV:Hid (decide (h*w*c≤16384)=vS h w c):=by
     unfold Hid vS
     exact decide_eq_decide.2 ⟨fun g=>⟨by omega,by omega,by omega,g⟩,fun g=>g.2.2.2⟩
    clear h1 w1 c1
    obtain⟨p,hp⟩:∃ p,h*w=p:=⟨_,rfl⟩
    rw [hp] at p1 p2 q1 q2 HV
    obtain⟨q,hq⟩:∃ q,p*c=q:=⟨_,rfl⟩
    rw [hq] at q1 q2 HV
    go_enter Tryz.func84,Tryz.ntmps84
    go_wp2_with fail
    refine (dim_any _ _).mono ?_
    rintro e w1 ⟨rfl,rfl⟩
    go_wp2_with fail
    refine (dim_any _ _).mono ?_
    rintro e w1 ⟨rfl,rfl⟩
    go_wp2_with fail
    refine (dim_any _ _).mono ?_
    rintro e w1 ⟨rfl,rfl⟩
    go_wp2
    go_ret
    exact⟨retB HV.out,(St.start W).new.below⟩
theorem td {n c:Int} (hn:0≤n):n.tdiv c=n / c:=Int.tdiv_eq_ediv_of_nonneg hn
theorem tm {n c:Int} (hn:0≤n):n.tmod c=n % c:=Int.tmod_eq_emod_of_nonneg hn
theorem btw_any (n lo hi:Int) (W:World) :
  Calls Tryz.prog 132 #[U i6 n,U i6 lo,U i6 hi] W fun e w'=>e=.returned (.bool (btw n lo hi))∧w'=W:=by
 by_cases k1:lo≤n
 ·have HR:Hid (decide (n≤hi)=btw n lo hi):=by unfold Hid btw;simp [k1]
  go_enter Tryz.func132,Tryz.ntmps132
  go_wp2
  go_ret
  exact⟨retB HR.out,rfl⟩
 ·have HR:Hid (false=btw n lo hi):=by unfold Hid btw;simp [k1]
  go_enter Tryz.func132,Tryz.ntmps132
  go_wp2
  go_ret
  exact⟨retB HR.out,rfl⟩
theorem rin_any (n lo hi:Int) (W:World) :
  Calls Tryz.prog 108 #[U i6 n,U i6 lo,U i6 hi] W fun e w'=>e=.returned (.bool (btw n lo hi))∧w'=W:=by
 by_cases k1:lo≤n
 ·have HR:Hid (decide (n≤hi)=btw n lo hi):=by unfold Hid btw;simp [k1]
  go_enter Tryz.func108,Tryz.ntmps108
  go_wp2
  go_ret
  exact⟨retB HR.out,rfl⟩
 ·have HR:Hid (false=btw n lo hi):=by unfold Hid btw;simp [k1]
  go_enter Tryz.func108,Tryz.ntmps108
  go_wp2
  go_ret
  exact⟨retB HR.out,rfl⟩
theorem wvalid_any (kh kw sh sw tp lf bt rt:Int) (W:World) :
  Calls Tryz.prog 129 #[.agg #[U i6 kh,U i6 kw,U i6 sh,U i6 sw,U i6 tp,U i6 lf,U i6 bt,U i6 rt]] W fun e w'=>e=.returned (.bool (vW kh kw sh sw tp lf bt rt))∧Below W.heap.size W w':=by
 have S:=(St.start W).new (c:=#[U i6 kh,U i6 kw,U i6 sh,U i6 sw,U i6 tp,U i6 lf,U i6 bt,U i6 rt]) (t:=38)
 cases k1:btw kh 1 32 with
 | false =>
  have HR:Hid (false=vW kh kw sh sw tp lf bt rt):=by unfold Hid vW;simp [*]
  go_enter Tryz.func129,Tryz.ntmps129
  iterate 1 (go_wp2_with fail;refine (btw_any _ _ _ _).mono ?_;rintro e w1 ⟨rfl,rfl⟩)
  go_wp2
  go_ret
  exact⟨retB HR.out,S.below⟩
 | true =>
 have y1:=btw_yes k1
 cases k2:btw kw 1 32 with
 | false =>
  have HR:Hid (false=vW kh kw sh sw tp lf bt rt):=by unfold Hid vW;simp [*]
  go_enter Tryz.func129,Tryz.ntmps129
  iterate 2 (go_wp2_with fail;refine (btw_any _ _ _ _).mono ?_;rintro e w1 ⟨rfl,rfl⟩)
  go_wp2
  go_ret
  exact⟨retB HR.out,S.below⟩
 | true =>
 have y2:=btw_yes k2
 cases k3:btw sh 1 32 with
 | false =>
  have HR:Hid (false=vW kh kw sh sw tp lf bt rt):=by unfold Hid vW;simp [*]
  go_enter Tryz.func129,Tryz.ntmps129
  iterate 3 (go_wp2_with fail;refine (btw_any _ _ _ _).mono ?_;rintro e w1 ⟨rfl,rfl⟩)
  go_wp2
  go_ret
  exact⟨retB HR.out,S.below⟩
 | true =>
 have y3:=btw_yes k3
 cases k4:btw sw 1 32 with
 | false =>
  have HR:Hid (false=vW kh kw sh sw tp lf bt rt):=by unfold Hid vW;simp [*]
  go_enter Tryz.func129,Tryz.ntmps129
  iterate 4 (go_wp2_with fail;refine (btw_any _ _ _ _).mono ?_;rintro e w1 ⟨rfl,rfl⟩)
  go_wp2
  go_ret
  exact⟨retB HR.out,S.below⟩
 | true =>
 have y4:=btw_yes k4
 cases k5:btw tp 0 (kh-1) with
 | false =>
  have HR:Hid (false=vW kh kw sh sw tp lf bt rt):=by unfold Hid vW;simp [*]
  go_enter Tryz.func129,Tryz.ntmps129
  iterate 5 (go_wp2_with fail;refine (btw_any _ _ _ _).mono ?_;rintro e w1 ⟨rfl,rfl⟩)
  go_wp2
  go_ret
  exact⟨retB HR.out,S.below⟩
 | true =>
 have y5:=btw_yes k5
 cases k6:btw bt 0 (kh-1) with
 | false =>
  have HR:Hid (false=vW kh kw sh sw tp lf bt rt):=by unfold Hid vW;simp [*]
  go_enter Tryz.func129,Tryz.ntmps129
  iterate 6 (go_wp2_with fail;refine (btw_any _ _ _ _).mono ?_;rintro e w1 ⟨rfl,rfl⟩)
  go_wp2
  go_ret
  exact⟨retB HR.out,S.below⟩
 | true =>
 have y6:=btw_yes k6
 cases k7:btw lf 0 (kw-1) with
 | false =>
  have HR:Hid (false=vW kh kw sh sw tp lf bt rt):=by unfold Hid vW;simp [*]
  go_enter Tryz.func129,Tryz.ntmps129
  iterate 7 (go_wp2_with fail;refine (btw_any _ _ _ _).mono ?_;rintro e w1 ⟨rfl,rfl⟩)
  go_wp2
  go_ret
  exact⟨retB HR.out,S.below⟩
 | true =>
 have y7:=btw_yes k7
 have HR:Hid (btw rt 0 (kw-1)=vW kh kw sh sw tp lf bt rt):=by unfold Hid vW;simp [*]
 go_enter Tryz.func129,Tryz.ntmps129
 iterate 8 (go_wp2_with fail;refine (btw_any _ _ _ _).mono ?_;rintro e w1 ⟨rfl,rfl⟩)
 go_wp2
 go_ret
 exact⟨retB HR.out,S.below⟩
theorem wrvalid_any (kh kw sh sw tp lf bt rt:Int) (W:World) :
  Calls Tryz.prog 90 #[.agg #[U i6 kh,U i6 kw,U i6 sh,U i6 sw,U i6 tp,U i6 lf,U i6 bt,U i6 rt]] W fun e w'=>e=.returned (.bool (vW kh kw sh sw tp lf bt rt))∧Below W.heap.size W w':=by
 have S:=(St.start W).new (c:=#[U i6 kh,U i6 kw,U i6 sh,U i6 sw,U i6 tp,U i6 lf,U i6 bt,U i6 rt]) (t:=38)
 cases k1:btw kh 1 32 with
 | false =>
  have HR:Hid (false=vW kh kw sh sw tp lf bt rt):=by unfold Hid vW;simp [*]
  go_enter Tryz.func90,Tryz.ntmps90
  iterate 1 (go_wp2_with fail;refine (rin_any _ _ _ _).mono ?_;rintro e w1 ⟨rfl,rfl⟩)
  go_wp2
  go_ret
  exact⟨retB HR.out,S.below⟩
 | true =>
 have y1:=btw_yes k1
 cases k2:btw kw 1 32 with
 | false =>
  have HR:Hid (false=vW kh kw sh sw tp lf bt rt):=by unfold Hid vW;simp [*]
  go_enter Tryz.func90,Tryz.ntmps90
  iterate 2 (go_wp2_with fail;refine (rin_any _ _ _ _).mono ?_;rintro e w1 ⟨rfl,rfl⟩)
  go_wp2
  go_ret
  exact⟨retB HR.out,S.below⟩
 | true =>
 have y2:=btw_yes k2
 cases k3:btw sh 1 32 with
 | false =>
  have HR:Hid (false=vW kh kw sh sw tp lf bt rt):=by unfold Hid vW;simp [*]
  go_enter Tryz.func90,Tryz.ntmps90
  iterate 3 (go_wp2_with fail;refine (rin_any _ _ _ _).mono ?_;rintro e w1 ⟨rfl,rfl⟩)
  go_wp2
  go_ret
  exact⟨retB HR.out,S.below⟩
 | true =>
 have y3:=btw_yes k3
 cases k4:btw sw 1 32 with
 | false =>
  have HR:Hid (false=vW kh kw sh sw tp lf bt rt):=by unfold Hid vW;simp [*]
  go_enter Tryz.func90,Tryz.ntmps90
  iterate 4 (go_wp2_with fail;refine (rin_any _ _ _ _).mono ?_;rintro e w1 ⟨rfl,rfl⟩)
  go_wp2
  go_ret
  exact⟨retB HR.out,S.below⟩
 | true =>
 have y4:=btw_yes k4
 cases k5:btw tp 0 (kh-1) with
 | false =>
  have HR:Hid (false=vW kh kw sh sw tp lf bt rt):=by unfold Hid vW;simp [*]
  go_enter Tryz.func90,Tryz.ntmps90
  iterate 5 (go_wp2_with fail;refine (rin_any _ _ _ _).mono ?_;rintro e w1 ⟨rfl,rfl⟩)
  go_wp2
  go_ret
  exact⟨retB HR.out,S.below⟩
 | true =>
 have y5:=btw_yes k5
 cases k6:btw bt 0 (kh-1) with
 | false =>
  have HR:Hid (false=vW kh kw sh sw tp lf bt rt):=by unfold Hid vW;simp [*]
  go_enter Tryz.func90,Tryz.ntmps90
  iterate 6 (go_wp2_with fail;refine (rin_any _ _ _ _).mono ?_;rintro e w1 ⟨rfl,rfl⟩)
  go_wp2
  go_ret
  exact⟨retB HR.out,S.below⟩
 | true =>
 have y6:=btw_yes k6
 cases k7:btw lf 0 (kw-1) with
 | false =>
  have HR:Hid (false=vW kh kw sh sw tp lf bt rt):=by unfold Hid vW;simp [*]
  go_enter Tryz.func90,Tryz.ntmps90
  iterate 7 (go_wp2_with fail;refine (rin_any _ _ _ _).mono ?_;rintro e w1 ⟨rfl,rfl⟩)
  go_wp2
  go_ret
  exact⟨retB HR.out,S.below⟩
 | true =>
 have y7:=btw_yes k7
 have HR:Hid (btw rt 0 (kw-1)=vW kh kw sh sw tp lf bt rt):=by unfold Hid vW;simp [*]
 go_enter Tryz.func90,Tryz.ntmps90
 iterate 8 (go_wp2_with fail;refine (rin_any _ _ _ _).mono ?_;rintro e w1 ⟨rfl,rfl⟩)
 go_wp2
 go_ret
 exact⟨retB HR.out,S.below⟩
theorem stops_any (n k s:Int) (W:World) (hn:0≤n∧n≤4000) (hk:1≤k∧k≤32) (hs:1≤s∧s≤32) :
  Calls Tryz.prog 130 #[U i6 n,U i6 k,U i6 s] W fun e w'=>e=.returned (U i6 (sp n k s))∧w'=W:=by
 by_cases h:n<k
 ·rw [sp_no h]
  go_enter Tryz.func130,Tryz.ntmps130
  go_wp2
  go_ret
  exact⟨rfl,rfl⟩
 ·rw [sp_ok h]
  have t1:=td (c:=s) (show 0≤n-k by omega)
  have h1:=Int.ediv_nonneg (show 0≤n-k by omega) (show 0≤s by omega)
  have h2:=Int.ediv_le_self s (show 0≤n-k by omega)
  obtain⟨d,hd⟩:∃ d,(n-k) / s=d:=⟨_,rfl⟩
  rw [hd] at t1 h1 h2 
  rw [hd]
  clear hd
  go_enter Tryz.func130,Tryz.ntmps130
  go_wp2
  go_ret
  exact⟨rfl,rfl⟩
theorem count_any (n k s:Int) (W:World) (hn:0≤n∧n≤4000) (hk:1≤k∧k≤32) (hs:1≤s∧s≤32) :
  Calls Tryz.prog 91 #[U i6 n,U i6 k,U i6 s] W fun e w'=>e=.returned (U i6 (sp n k s))∧w'=W:=by
 go_enter Tryz.func91,Tryz.ntmps91
 go_wp2
 go_loop [7,8] (fun p q=>∃ c t:Int,p=U i6 c∧q=U i6 t∧0≤c∧0≤t∧t=c*s∧(c=0∨t-s+k≤n)∧c≤t)
  (fun _ q=>(n+100-intOf q).toNat)
 case atStart=>exact⟨0,0,rfl,rfl,by omega,by omega,by omega,.inl rfl,by omega⟩
 case round =>
  obtain⟨c,t,rfl,rfl,c0,t0,ht,hl,hct⟩:=hrel
  have Ht:Hid (t=c*s):=ht
  have bt:t≤4040:=by
   rcases hl with rfl | hl
   ·omega
   ·omega
  have HL:Hid (c=0∨t-s+k≤n):=hl
  clear ht hl
  by_cases hc:t+k≤n
  ·go_wp2
   go_round
   case rel=>exact⟨c+1,t+s,rfl,rfl,by omega,by omega,by rw [Int.add_mul,← Ht.out];omega,.inr (by omega),by omega⟩
   case measure=>simp [intOf];omega
  ·have HR:Hid (c=sp n k s):=sp_of (by omega) c0 Ht.out (by omega) HL.out
   go_wp2
   go_ret
   exact⟨ret1 HR.out,rfl⟩
end Go.Proofs.YtgjcjhnnopandaaGreat
