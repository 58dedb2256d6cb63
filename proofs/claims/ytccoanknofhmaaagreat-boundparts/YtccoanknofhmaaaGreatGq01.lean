/- What each function of package num, and the document's answer to it, returns: each for every argument that fits its type. What lies in the memory that a walk has made, carried through calls that make memory of their own. What Valid, Has, Holds, Hull, Add, Times of package span return, of valid spans whose numbers are small. Rows of ends in plain numbers: their sums, running sums, blocks, hulls. A region that draws its order, whose operations only read, and whose callees make memory of their own alone: walked once, in the order of the text, in every world in which the listed blocks hold what they hold. Slices that came in, opened: of integers, of pairs of integers; how long they may be. Rows of integers of whatever kind: what is read of them, what a call owns, what stays behind a call; make, copy, append over them. What sides and Elems of package shape, and the document's, return: each for every argument. Windows over a plane, in plain numbers: which are valid, how many positions they have, what each of their taps covers. What the document's test of a shape returns. -/
import Derived.Test.YtccoanknofhmaaaGreatRows
import Derived.WalkKit
import Derived.ProofKit
import Derived.OpenShut
import Derived.Below
import Derived.BigQuiet
import Derived.Deep.SlicePairs
import Derived.Laws.AppendOwnNone
import Derived.Laws.CopyOwn
import Derived.Deep.RegionHeld3
import Derived.LoopN
namespace Go.Proofs.YtccoanknofhmaaaGreat
open Go.Value renaming int → U, slice → Sl
open Go.IntKind renaming i64 → i6
set_option maxRecDepth 100000
set_option maxHeartbeats 16000000
open Go.ChangeShapes Go.WideShapes Go.ChangeAt Go.RowKit
def I64 (a:Int):Prop:=-9223372036854775808≤a∧a≤9223372036854775807
def okV (x:Int):Int:=if -9223372036854775808≤x∧x≤9223372036854775807 then x else 0
def okE (x:Int):Int:=if -9223372036854775808≤x∧x≤9223372036854775807 then 0 else 10
def clampV (x lo hi:Int):Int:=if hi<x then hi else if x<lo then lo else x
def fitsN (t x:Int):Bool:=decide (-t≤x∧x≤t-1)
def wrapN (t x:Int):Int:=(x+t) % (2*t)-t
theorem okV_in (x:Int) (h:-9223372036854775808≤x∧x≤9223372036854775807):okV x=x:=if_pos h
theorem okE_in (x:Int) (h:-9223372036854775808≤x∧x≤9223372036854775807):okE x=0:=if_pos h
theorem okV_out (x:Int) (h:¬ (-9223372036854775808≤x∧x≤9223372036854775807)):okV x=0:=if_neg h
theorem okE_out (x:Int) (h:¬ (-9223372036854775808≤x∧x≤9223372036854775807)):okE x=10:=if_neg h
theorem ret2 {a b c d:Int} (h:a=c) (g:b=d):Ending.returned (.tuple #[U i6 a,U i6 b])=.returned (.tuple #[U i6 c,U i6 d]):=by rw [h,g]
theorem ret1 {k:IntKind} {a b:Int} (h:a=b):Ending.returned (.int k a)=.returned (.int k b):=by rw [h]
theorem retB {a b:Bool} (h:a=b):Ending.returned (.bool a)=.returned (.bool b):=by rw [h]
theorem add_any (a b:Int) (w:World) (ha:I64 a) (hb:I64 b) :
  Calls Tryz.prog 59 #[U i6 a,U i6 b] w fun e w'=>e=.returned (.tuple #[U i6 (okV (a+b)),U i6 (okE (a+b))])∧w'=w:=by
 obtain⟨a1,a2⟩:=ha
 obtain⟨b1,b2⟩:=hb
 by_cases h:-9223372036854775808≤a+b∧a+b≤9223372036854775807
 ·rw [okV_in _ h,okE_in _ h]
  obtain⟨h1,h2⟩:=h
  by_cases c1:a<0<;>by_cases c2:b<0
  ·have c3:a+b<0:=by omega
   go_enter Tryz.func59,Tryz.ntmps59
   go_wp2
   go_ret2
   exact⟨rfl,rfl⟩
  ·go_enter Tryz.func59,Tryz.ntmps59
   go_wp2
   go_ret2
   exact⟨rfl,rfl⟩
  ·go_enter Tryz.func59,Tryz.ntmps59
   go_wp2
   go_ret2
   exact⟨rfl,rfl⟩
  ·have c3:¬ a+b<0:=by omega
   go_enter Tryz.func59,Tryz.ntmps59
   go_wp2
   go_ret2
   exact⟨rfl,rfl⟩
 ·rw [okV_out _ h,okE_out _ h]
  by_cases c1:a<0
  ·have c2:b<0:=by omega
   have c3:¬ wrap64 (a+b)<0:=by unfold wrap64;omega
   clear h
   go_enter Tryz.func59,Tryz.ntmps59
   go_wp2
   go_ret2
   exact⟨rfl,rfl⟩
  ·have c2:¬ b<0:=by omega
   have c3:wrap64 (a+b)<0:=by unfold wrap64;omega
   clear h
   go_enter Tryz.func59,Tryz.ntmps59
   go_wp2
   go_ret2
   exact⟨rfl,rfl⟩
theorem sub_any (a b:Int) (w:World) (ha:I64 a) (hb:I64 b) :
  Calls Tryz.prog 104 #[U i6 a,U i6 b] w fun e w'=>e=.returned (.tuple #[U i6 (okV (a-b)),U i6 (okE (a-b))])∧w'=w:=by
 obtain⟨a1,a2⟩:=ha
 obtain⟨b1,b2⟩:=hb
 by_cases h:-9223372036854775808≤a-b∧a-b≤9223372036854775807
 ·rw [okV_in _ h,okE_in _ h]
  obtain⟨h1,h2⟩:=h
  by_cases c1:a<0<;>by_cases c2:b<0
  ·go_enter Tryz.func104,Tryz.ntmps104
   go_wp2
   go_ret2
   exact⟨rfl,rfl⟩
  ·have c3:a-b<0:=by omega
   go_enter Tryz.func104,Tryz.ntmps104
   go_wp2
   go_ret2
   exact⟨rfl,rfl⟩
  ·have c3:¬ a-b<0:=by omega
   go_enter Tryz.func104,Tryz.ntmps104
   go_wp2
   go_ret2
   exact⟨rfl,rfl⟩
  ·go_enter Tryz.func104,Tryz.ntmps104
   go_wp2
   go_ret2
   exact⟨rfl,rfl⟩
 ·rw [okV_out _ h,okE_out _ h]
  by_cases c1:a<0
  ·have c2:¬ b<0:=by omega
   have c3:¬ wrap64 (a-b)<0:=by unfold wrap64;omega
   clear h
   go_enter Tryz.func104,Tryz.ntmps104
   go_wp2
   go_ret2
   exact⟨rfl,rfl⟩
  ·have c2:b<0:=by omega
   have c3:wrap64 (a-b)<0:=by unfold wrap64;omega
   clear h
   go_enter Tryz.func104,Tryz.ntmps104
   go_wp2
   go_ret2
   exact⟨rfl,rfl⟩
def St (w0 w:World) (l:List (Nat×Array Value×TypeId)):Prop :=
 Below w0.heap.size w0 w∧∀ x∈l,w.heap[x.1]? = some (.cells x.2.1 x.2.2)∧w0.heap.size≤x.1
def Rules (w:World):List (Nat×Array Value×TypeId)→Prop
 | []=>True
 | (B,c,_) :: l=>(∀ i,w.cell? ⟨B,i,none⟩=c[i]?)∧(∀ i,w.frozen? ⟨B,i,none⟩=false)∧B<w.heap.size∧Rules w l
theorem St.start (w:World):St w w []:=⟨Below.refl _ _,fun _ h=>by cases h⟩
theorem lt_of_heap {w:World} {B:Nat} {o:Obj} (h:w.heap[B]? = some o):B<w.heap.size:=by
 rcases Nat.lt_or_ge B w.heap.size with g | g
 ·exact g
 ·rw [Array.getElem?_eq_none g] at h;cases h
theorem St.below {w0 w:World} {l:List (Nat×Array Value×TypeId)} (h:St w0 w l):Below w0.heap.size w0 w:=h.1
theorem St.call {w0 w w1:World} {l:List (Nat×Array Value×TypeId)} (h:St w0 w l) (hb:Below w.heap.size w w1):St w0 w1 l :=
 ⟨h.1.trans (hb.mono h.1.size),fun x hx=>⟨by rw [hb.block _ (lt_of_heap (h.2 x hx).1)];exact (h.2 x hx).1,(h.2 x hx).2⟩⟩
theorem St.skip {w0 w:World} {l:List (Nat×Array Value×TypeId)} (h:St w0 w l) (o:Obj):St w0 (w.alloc o) l :=
 h.call ((Below.refl _ _).alloc (Nat.le_refl _) _)
theorem St.drew {w0 w:World} {l:List (Nat×Array Value×TypeId)} (h:St w0 w l):St w0 w.drew l:=h.call (Below.refl _ _).drew
theorem St.new {w0 w:World} {l:List (Nat×Array Value×TypeId)} {c:Array Value} {t:TypeId} (h:St w0 w l):St w0 (w.alloc (.cells c t)) ((w.heap.size,c,t) :: l):=by
 have h2:=h.skip (.cells c t)
 refine⟨h2.1,fun x hx=>?_⟩
 rcases List.mem_cons.1 hx with rfl | hx
 ·exact⟨by show (w.heap.push _)[w.heap.size]? = _;simp,h.1.size⟩
 ·exact h2.2 x hx
theorem St.tail {w0 w:World} {x:Nat×Array Value×TypeId} {l:List (Nat×Array Value×TypeId)} (h:St w0 w (x :: l)):St w0 w l :=
 ⟨h.1,fun y hy=>h.2 y (List.mem_cons_of_mem _ hy)⟩
theorem heap_setCell_at {w:World} {B i:Nat} {c:Array Value} {t:TypeId} {v:Value} (h:w.heap[B]? = some (.cells c t)) :
  (w.setCell ⟨B,i,none⟩ v).heap[B]? = some (.cells (c.setIfInBounds i v) t):=by
 have hB:=lt_of_heap h
 have e:w.heap[B]=.cells c t:=by rw [Array.getElem?_eq_getElem hB] at h;exact Option.some.inj h
 simp [World.setCell,Array.getElem?_modify,h]
theorem St.set {w0 w:World} {B i:Nat} {c:Array Value} {t:TypeId} {l:List (Nat×Array Value×TypeId)} {v:Value} (h:St w0 w ((B,c,t) :: l)) (hl:∀ x∈l,x.1≠B) :
  St w0 (w.setCell ⟨B,i,none⟩ v) ((B,c.setIfInBounds i v,t) :: l):=by
 have hB:=(h.2 _ List.mem_cons_self)
 refine⟨h.1.setCell (p:=⟨B,i,none⟩) hB.2 v,fun x hx=>?_⟩
 rcases List.mem_cons.1 hx with rfl | hx
 ·exact⟨heap_setCell_at hB.1,hB.2⟩
 ·have:=h.2 x (List.mem_cons_of_mem _ hx)
  exact⟨by rw [Below.heap_setCell _ _ _ _ (hl x hx)];exact this.1,this.2⟩
theorem rules_of {w:World}:∀ (l:List (Nat×Array Value×TypeId)),(∀ x∈l,w.heap[x.1]? = some (.cells x.2.1 x.2.2))→Rules w l
 | [],_=>trivial
 | (B,c,t) :: l,h=>by
  have h0:=h _ List.mem_cons_self
  refine⟨fun i=>?_,fun i=>?_,lt_of_heap h0,rules_of l fun x hx=>h x (List.mem_cons_of_mem _ hx)⟩
  ·have h0:w.heap[B]? = some (.cells c t):=h0
   simp [World.cell?,h0]
  ·have h0:w.heap[B]? = some (.cells c t):=h0
   simp [World.frozen?,h0]
theorem St.rules {w0 w:World} {l:List (Nat×Array Value×TypeId)} (h:St w0 w l):Rules w l:=rules_of l fun x hx=>(h.2 x hx).1
theorem St.size {w0 w:World} {l:List (Nat×Array Value×TypeId)} (h:St w0 w l):w0.heap.size≤w.heap.size:=h.1.size
theorem St.out2 {w0 w:World} {B i j:Nat} {c:Array Value} {t:TypeId} {l:List (Nat×Array Value×TypeId)} {u v:Value} (h:St w0 w ((B,c,t) :: l)) :
  Below w0.heap.size w0 ((w.setCell ⟨B,i,none⟩ u).setCell ⟨B,j,none⟩ v) :=
 (h.1.setCell (p:=⟨B,i,none⟩) (h.2 _ List.mem_cons_self).2 u).setCell (p:=⟨B,j,none⟩) (h.2 _ List.mem_cons_self).2 v
theorem St.set2 {w0 w:World} {B:Nat} {a b u v:Value} {t:TypeId} {l:List (Nat×Array Value×TypeId)} (h:St w0 w ((B,#[a,b],t) :: l)) (hl:∀ x∈l,x.1≠B) :
  St w0 ((w.setCell ⟨B,0,none⟩ u).setCell ⟨B,1,none⟩ v) ((B,#[u,v],t) :: l):=(h.set hl (i:=0) (v:=u)).set hl (i:=1) (v:=v)
theorem St.sub {w0 w:World} {l l':List (Nat×Array Value×TypeId)} (h:St w0 w l) (hs:∀ x∈l',x∈l):St w0 w l':=⟨h.1,fun x hx=>h.2 x (hs x hx)⟩
theorem St.up1 {w0 w:World} {x y:Nat×Array Value×TypeId} {l:List (Nat×Array Value×TypeId)} (h:St w0 w (x :: y :: l)):St w0 w (y :: x :: l) :=
 h.sub fun z hz=>by simp only [List.mem_cons] at *; rcases hz with h | h | h<;>simp [h]
theorem St.up2 {w0 w:World} {x y z:Nat×Array Value×TypeId} {l:List (Nat×Array Value×TypeId)} (h:St w0 w (x :: y :: z :: l)):St w0 w (z :: x :: y :: l) :=
 h.sub fun z hz=>by simp only [List.mem_cons] at *; rcases hz with h | h | h | h<;>simp [h]
set_option linter.unusedVariables false
def xmx (a c:Int):Int:=if a<c then c else a
def xmn (a c:Int):Int:=if c<a then c else a
theorem xmx_lt {a c:Int} (h:a<c):xmx a c=c:=if_pos h
theorem xmx_ge {a c:Int} (h:¬ a<c):xmx a c=a:=if_neg h
theorem xmn_lt {a c:Int} (h:c<a):xmn a c=c:=if_pos h
theorem xmn_ge {a c:Int} (h:¬ c<a):xmn a c=a:=if_neg h
theorem xmx_bd (a c:Int):a≤xmx a c∧c≤xmx a c∧(xmx a c=a∨xmx a c=c):=by unfold xmx; split<;>omega
theorem xmn_bd (a c:Int):xmn a c≤a∧xmn a c≤c∧(xmn a c=a∨xmn a c=c):=by unfold xmn; split<;>omega
def xhas (a b x:Int):Bool:=decide (a≤x∧x≤b)
def xho (a b c d:Int):Bool:=decide (c≤d∧a≤c∧d≤b)
def Sm (a:Int):Prop:=-1000000000000≤a∧a≤1000000000000
theorem Sm.i64 {a:Int} (h:Sm a):I64 a:=by unfold Sm at h;unfold I64;omega
theorem xvalid_any (a b:Int) (w:World) :
  Calls Tryz.prog 58 #[.agg #[U i6 a,U i6 b]] w fun e w'=>e=.returned (.bool (decide (a≤b)))∧Below w.heap.size w w':=by
 go_enter Tryz.func58,Tryz.ntmps58
 go_wp2
 go_ret
 exact⟨rfl,(Below.refl _ _).alloc (Nat.le_refl _) _⟩
theorem xvalid_ok (a b:Int) (w:World) (h:a≤b) :
  Calls Tryz.prog 58 #[.agg #[U i6 a,U i6 b]] w fun e w'=>e=.returned (.bool true)∧Below w.heap.size w w':=by
 have:=xvalid_any a b w
 rwa [decide_eq_true h] at this
theorem xhas_any (a b x:Int) (w:World) :
  Calls Tryz.prog 73 #[.agg #[U i6 a,U i6 b],U i6 x] w fun e w'=>e=.returned (.bool (xhas a b x))∧Below w.heap.size w w':=by
 by_cases c:a≤x
 ·have HR:Hid (decide (x≤b)=xhas a b x):=by unfold Hid xhas;simp [c]
  go_enter Tryz.func73,Tryz.ntmps73
  go_wp2
  go_ret
  exact⟨retB HR.out,(Below.refl _ _).alloc (Nat.le_refl _) _⟩
 ·have HR:Hid (false=xhas a b x):=by unfold Hid xhas;simp [c]
  go_enter Tryz.func73,Tryz.ntmps73
  go_wp2
  go_ret
  exact⟨retB HR.out,(Below.refl _ _).alloc (Nat.le_refl _) _⟩
theorem xholds_any (a b c d:Int) (w:World) :
  Calls Tryz.prog 54 #[.agg #[U i6 a,U i6 b],.agg #[U i6 c,U i6 d]] w fun e w'=>e=.returned (.bool (xho a b c d))∧Below w.heap.size w w':=by
 by_cases h1:c≤d
 ·have e1:decide (c≤d)=true:=decide_eq_true h1
  have HV:Hid (∀ w,_):=xvalid_any c d
  rw [e1] at HV
  cases h2:xhas a b c with
  | false =>
   have HR:Hid (false=xho a b c d):=by unfold Hid;unfold xhas at h2;unfold xho;simp at h2 ⊢;omega
   clear e1 h1
   go_enter Tryz.func54,Tryz.ntmps54
   go_wp2_with fail
   refine (HV.out _).mono ?_
   rintro e w1 ⟨rfl,hb⟩
   have s1:=(St.start w).new.new.call hb
   simp only [World.size_alloc] at s1
   obtain⟨c1,f1,z1,c2,f2,z2,-⟩:=s1.rules
   clear hb
   go_wp2_with fail
   refine (xhas_any _ _ _ _).mono ?_
   rintro e w2 ⟨rfl,hb⟩
   have s2:=s1.call hb
   go_wp2
   go_ret
   exact⟨retB HR.out,s2.below⟩
  | true =>
   cases h3:xhas a b d
   all_goals
    try have HR:Hid (false=xho a b c d):=by unfold Hid;unfold xhas at h2 h3;unfold xho;simp at h2 h3 ⊢;omega
    try have HR:Hid (true=xho a b c d):=by unfold Hid;unfold xhas at h2 h3;unfold xho;simp at h2 h3 ⊢;omega
    go_enter Tryz.func54,Tryz.ntmps54
    go_wp2_with fail
    refine (HV.out _).mono ?_
    rintro e w1 ⟨rfl,hb⟩
    have s1:=(St.start w).new.new.call hb
    simp only [World.size_alloc] at s1
    obtain⟨c1,f1,z1,c2,f2,z2,-⟩:=s1.rules
    clear hb
    go_wp2_with fail
    refine (xhas_any _ _ _ _).mono ?_
    rintro e w2 ⟨rfl,hb⟩
    have s2:=s1.call hb
    obtain⟨c1,f1,z1,c2,f2,z2,-⟩:=s2.rules
    clear hb
    go_wp2_with fail
    refine (xhas_any _ _ _ _).mono ?_
    rintro e w3 ⟨rfl,hb⟩
    go_wp2
    go_ret
    exact⟨retB HR.out,(s2.call hb).below⟩
 ·have e1:decide (c≤d)=false:=decide_eq_false h1
  have HV:Hid (∀ w,_):=xvalid_any c d
  rw [e1] at HV
  have HR:Hid (false=xho a b c d):=by unfold Hid xho;simp;omega
  clear e1 h1
  go_enter Tryz.func54,Tryz.ntmps54
  go_wp2_with fail
  refine (HV.out _).mono ?_
  rintro e w1 ⟨rfl,hb⟩
  have s1:=(St.start w).new.new.call hb
  go_wp2
  go_ret
  exact⟨retB HR.out,s1.below⟩
theorem xhull_ok (a b c d:Int) (w:World) (hab:a≤b) (hcd:c≤d) :
  Calls Tryz.prog 41 #[.agg #[U i6 a,U i6 b],.agg #[U i6 c,U i6 d]] w fun e w'=>e=.returned (.tuple #[.agg #[U i6 (xmn a c),U i6 (xmx b d)],U i6 0])∧Below w.heap.size w w':=by
 have HV:Hid (∀ w,_):=fun w=>xvalid_ok a b w hab
 have HU:Hid (∀ w,_):=fun w=>xvalid_ok c d w hcd
 clear hab hcd
 by_cases k1:c<a<;>by_cases k2:b<d
 all_goals
  first | rw [xmn_lt k1] | rw [xmn_ge k1]
  first | rw [xmx_lt k2] | rw [xmx_ge k2]
  go_enter Tryz.func41,Tryz.ntmps41
  go_wp2_with fail
  refine (HV.out _).mono ?_
  rintro e w1 ⟨rfl,hb⟩
  have s1:=(St.start w).new.new.new.call hb
  simp only [World.size_alloc] at s1
  obtain⟨c1,f1,z1,c2,f2,z2,c3,f3,z3,-⟩:=s1.rules
  clear hb
  go_wp2_with fail
  refine (HU.out _).mono ?_
  rintro e w2 ⟨rfl,hb⟩
  have s2:=s1.call hb
  clear hb c1 f1 z1 c2 f2 z2 c3 f3 z3
  obtain⟨c1,f1,z1,c2,f2,z2,c3,f3,z3,-⟩:=s2.rules
  go_wp2
  exact bodyPost_ret (v:=.tuple #[.agg #[U i6 _,U i6 _],U i6 0]) (by simp [results,Tryz.results41,go_sem,c1]) rfl ⟨rfl,s2.out2⟩
theorem xends_ok (a b:Int) (w:World) :
  Calls Tryz.prog 60 #[U i6 a,U i6 0,U i6 b,U i6 0] w fun x w'=>x=.returned (.tuple #[.agg #[U i6 a,U i6 b],U i6 0])∧Below w.heap.size w w':=by
 go_enter Tryz.func60,Tryz.ntmps60
 go_wp2
 exact bodyPost_ret (v:=.tuple #[.agg #[U i6 a,U i6 b],U i6 0]) (by simp [results,Tryz.results60,go_sem]) rfl ⟨rfl,(Below.refl _ _).alloc (Nat.le_refl _) _⟩
theorem xnadd_ok (a b:Int) (w:World) (ha:Sm a) (hb:Sm b) :
  Calls Tryz.prog 59 #[U i6 a,U i6 b] w fun e w'=>e=.returned (.tuple #[U i6 (a+b),U i6 0])∧w'=w:=by
 have h:=add_any a b w ha.i64 hb.i64
 unfold Sm at ha hb
 rwa [okV_in _ (by omega),okE_in _ (by omega)] at h
theorem xadd_ok (a b c d:Int) (w:World) (hab:a≤b) (hcd:c≤d) (ha:Sm a) (hb:Sm b) (hc:Sm c) (hd:Sm d) :
  Calls Tryz.prog 40 #[.agg #[U i6 a,U i6 b],.agg #[U i6 c,U i6 d]] w fun e w'=>e=.returned (.tuple #[.agg #[U i6 (a+c),U i6 (b+d)],U i6 0])∧Below w.heap.size w w':=by
 have HV:Hid (∀ w,_):=fun w=>xvalid_ok a b w hab
 have HU:Hid (∀ w,_):=fun w=>xvalid_ok c d w hcd
 have HX:Hid (∀ w,_):=fun w=>xnadd_ok a c w ha hc
 have HY:Hid (∀ w,_):=fun w=>xnadd_ok b d w hb hd
 clear hab hcd ha hb hc hd
 go_enter Tryz.func40,Tryz.ntmps40
 go_wp2_with fail
 refine (HV.out _).mono ?_
 rintro e w1 ⟨rfl,hb'⟩
 have s1:=(St.start w).new.new.new.call hb'
 simp only [World.size_alloc] at s1
 obtain⟨c1,f1,z1,c2,f2,z2,c3,f3,z3,-⟩:=s1.rules
 clear hb'
 go_wp2_with fail
 refine (HU.out _).mono ?_
 rintro e w2 ⟨rfl,hb'⟩
 have s2:=s1.call hb'
 clear hb' c1 f1 z1 c2 f2 z2 c3 f3 z3
 obtain⟨c1,f1,z1,c2,f2,z2,c3,f3,z3,-⟩:=s2.rules
 go_wp2_with fail
 refine (HX.out _).mono ?_
 rintro e w' ⟨rfl,rfl⟩
 go_wp2_with fail
 refine (HY.out _).mono ?_
 rintro e w' ⟨rfl,rfl⟩
 go_wp2_with fail
 refine (xends_ok _ _ _).mono ?_
 rintro e w3 ⟨rfl,hb'⟩
 have s3:=s2.call hb'
 clear hb' c1 f1 z1 c2 f2 z2 c3 f3 z3
 obtain⟨c1,f1,z1,c2,f2,z2,c3,f3,z3,-⟩:=s3.rules
 go_wp2
 exact bodyPost_ret (v:=.tuple #[.agg #[U i6 _,U i6 _],U i6 _]) (by simp [results,Tryz.results40,go_sem,c1]) rfl ⟨rfl,s3.out2⟩
theorem xtells (a b:Int) (h0:a≠0) (hb:Sm b) (h:Sm (a*b)):wrap64 (a*b)=a*b∧wrap64 ((wrap64 (a*b)).tdiv a)=b:=by
 unfold Sm at h hb
 have e:wrap64 (a*b)=a*b:=IntWalk.wrap64_in _ (by omega)
 refine⟨e,?_⟩
 rw [e,Int.mul_tdiv_cancel_left _ h0]
 exact IntWalk.wrap64_in _ (by omega)
theorem xmul_ok (a b:Int) (w:World) (hb:Sm b) (h:Sm (a*b)) :
  Calls Tryz.prog 89 #[U i6 a,U i6 b] w fun e w'=>e=.returned (.tuple #[U i6 (a*b),U i6 0])∧w'=w:=by
 by_cases h0:a=0
 ·subst h0
  have HR:Hid ((0:Int)*b=0):=Int.zero_mul b
  rw [HR.out]
  clear hb h HR
  go_enter Tryz.func89,Tryz.ntmps89
  go_wp2
  go_ret2
  exact⟨rfl,rfl⟩
 ·by_cases hm:a = -1
  ·subst hm
   have HR:Hid ((-1:Int)*b = -b):=by unfold Hid;omega
   rw [HR.out]
   have HS:Hid (∀ w,Calls Tryz.prog 104 #[U i6 0,U i6 b] w fun e w'=>e=.returned (.tuple #[U i6 (-b),U i6 0])∧w'=w):=fun w=>by
    have hs:=sub_any 0 b w (by unfold I64;omega) hb.i64
    unfold Sm at hb
    rwa [okV_in _ (by omega),okE_in _ (by omega),Int.zero_sub] at hs
   clear hb h HR h0
   go_enter Tryz.func89,Tryz.ntmps89
   go_wp2_with fail
   refine (HS.out _).mono ?_
   rintro e w' ⟨rfl,rfl⟩
   go_wp2
   go_ret2
   exact⟨rfl,rfl⟩
  ·obtain⟨t1,t2⟩:=xtells a b h0 hb h
   have q0:(a == 0)=false:=by simpa using h0
   have qm:(a == -1)=false:=by simpa using hm
   have HV:Hid (wrap64 (a*b)=a*b):=t1
   have qn:(wrap64 ((wrap64 (a*b)).tdiv a) != b)=false:=by rw [t2];simp
   clear t1 t2 hm h hb
   go_enter Tryz.func89,Tryz.ntmps89
   go_wp2
   go_ret2
   exact⟨ret2 HV.out rfl,rfl⟩
def xti (a b k:Int):Int×Int:=if k<0 then (b*k,a*k) else (a*k,b*k)
theorem xtimes_ok (a b k:Int) (w:World) (hab:a≤b) (hk:Sm k) (ha:Sm (a*k)) (hb:Sm (b*k)) :
  Calls Tryz.prog 74 #[.agg #[U i6 a,U i6 b],U i6 k] w fun e w'=>e=.returned (.tuple #[.agg #[U i6 (xti a b k).1,U i6 (xti a b k).2],U i6 0])∧Below w.heap.size w w':=by
 have HV:Hid (∀ w,_):=fun w=>xvalid_ok a b w hab
 have HX:Hid (∀ w,_):=fun w=>xmul_ok a k w hk ha
 have HY:Hid (∀ w,_):=fun w=>xmul_ok b k w hk hb
 clear hab hk ha hb
 unfold xti
 by_cases g:k<0
 ·rw [if_pos g]
  go_enter Tryz.func74,Tryz.ntmps74
  go_wp2_with fail
  refine (HV.out _).mono ?_
  rintro e w1 ⟨rfl,hb'⟩
  have s1:=(St.start w).new.new.call hb'
  simp only [World.size_alloc] at s1
  obtain⟨c1,f1,z1,c2,f2,z2,-⟩:=s1.rules
  clear hb'
  go_wp2_with fail
  go_quiet (fail)
  go_wp2_with fail
  refine (HY.out _).mono ?_
  rintro e w' ⟨rfl,rfl⟩
  go_wp2_with fail
  refine (HX.out _).mono ?_
  rintro e w' ⟨rfl,rfl⟩
  go_wp2_with fail
  refine (xends_ok _ _ _).mono ?_
  rintro e w3 ⟨rfl,hb'⟩
  have s3:=(s1.call (show Below _ _ (w1.drewN _) from ⟨rfl,rfl,rfl,Nat.le_refl _,fun _ _=>rfl⟩)).call hb'
  clear hb' c1 f1 z1 c2 f2 z2
  obtain⟨c1,f1,z1,c2,f2,z2,-⟩:=s3.rules
  go_wp2
  exact bodyPost_ret (v:=.tuple #[.agg #[U i6 _,U i6 _],U i6 _]) (by simp [results,Tryz.results74,go_sem,c1]) rfl ⟨rfl,s3.out2⟩
 ·rw [if_neg g]
  go_enter Tryz.func74,Tryz.ntmps74
  go_wp2_with fail
  refine (HV.out _).mono ?_
  rintro e w1 ⟨rfl,hb'⟩
  have s1:=(St.start w).new.new.call hb'
  simp only [World.size_alloc] at s1
  obtain⟨c1,f1,z1,c2,f2,z2,-⟩:=s1.rules
  clear hb'
  go_wp2_with fail
  go_quiet (fail)
  go_wp2_with fail
  refine (HX.out _).mono ?_
  rintro e w' ⟨rfl,rfl⟩
  go_wp2_with fail
  refine (HY.out _).mono ?_
  rintro e w' ⟨rfl,rfl⟩
  go_wp2_with fail
  refine (xends_ok _ _ _).mono ?_
  rintro e w3 ⟨rfl,hb'⟩
  have s3:=(s1.call (show Below _ _ (w1.drewN _) from ⟨rfl,rfl,rfl,Nat.le_refl _,fun _ _=>rfl⟩)).call hb'
  clear hb' c1 f1 z1 c2 f2 z2
  obtain⟨c1,f1,z1,c2,f2,z2,-⟩:=s3.rules
  go_wp2
  exact bodyPost_ret (v:=.tuple #[.agg #[U i6 _,U i6 _],U i6 _]) (by simp [results,Tryz.results74,go_sem,c1]) rfl ⟨rfl,s3.out2⟩
def plS (a b:Int×Int):Int×Int:=(a.1+b.1,a.2+b.2)
def suS (s:Int×Int) (E:List (Int×Int)):Int×Int:=E.foldl plS s
theorem suS_snoc (s:Int×Int) (E:List (Int×Int)) (e:Int×Int):suS s (E++[e])=plS (suS s E) e:=by simp [suS]
theorem take_snoc {α:Type} {E:List α} {k:Nat} {e d:α} (hk:k<E.length) (he:E.getD k d=e):E.take (k+1)=E.take k++[e]:=by
 rw [List.take_add_one,List.getElem?_eq_getElem hk]
 rw [List.getD_eq_getElem?_getD,List.getElem?_eq_getElem hk] at he
 simp only [Option.getD_some] at he
 rw [he];rfl
theorem suS_take (s:Int×Int) {E:List (Int×Int)} {k:Nat} {e d:Int×Int} (hk:k<E.length) (he:E.getD k d=e):suS s (E.take (k+1))=plS (suS s (E.take k)) e:=by
 rw [take_snoc hk he,suS_snoc]
def ruL (s:Int×Int) (E:List (Int×Int)):List (Int×Int):=(List.range (E.length+1)).map fun j=>suS s (E.take j)
def ruT (s:Int×Int) (E:List (Int×Int)) (k:Nat):List (Int×Int):=(List.range (k+1)).map fun j=>suS s (E.take j)
theorem ruT_0 (s:Int×Int) (E:List (Int×Int)):ruT s E 0=[s]:=by simp [ruT,suS]
theorem ruT_succ (s:Int×Int) (E:List (Int×Int)) (k:Nat):ruT s E (k+1)=ruT s E k++[suS s (E.take (k+1))]:=by unfold ruT;rw [List.range_succ,List.map_append];rfl
theorem ruT_all (s:Int×Int) (E:List (Int×Int)):ruT s E E.length=ruL s E:=rfl
theorem mem_ruL {s x:Int×Int} {E:List (Int×Int)}:x∈ruL s E ↔ ∃ j,j≤E.length∧x=suS s (E.take j):=by
 unfold ruL
 simp only [List.mem_map,List.mem_range]
 constructor
 ·rintro⟨j,h1,h2⟩;exact⟨j,by omega,h2.symm⟩
 ·rintro⟨j,h1,h2⟩;exact⟨j,by omega,h2.symm⟩
theorem mem_ruL_tail {s x:Int×Int} {E:List (Int×Int)}:x∈(ruL s E).tail ↔ ∃ j,1≤j∧j≤E.length∧x=suS s (E.take j):=by
 unfold ruL
 rw [List.range_succ_eq_map]
 simp only [List.map_cons,List.tail_cons,List.map_map,List.mem_map,List.mem_range,Function.comp]
 constructor
 ·rintro⟨j,h1,h2⟩;exact⟨j+1,by omega,by omega,h2.symm⟩
 ·rintro⟨j,h0,h1,h2⟩
  obtain⟨i,rfl⟩:∃ i,j=i+1:=⟨j-1,by omega⟩
  exact⟨i,by omega,h2.symm⟩
def chk (d:Nat) (E:List (Int×Int)) (k:Nat):List (Int×Int):=(E.drop (k*d)).take d
def chN (d n:Nat):Nat:=(n+d-1) / d
theorem chN_lt {d n k:Nat} (hd:0<d):k<chN d n ↔ k*d<n:=by
 unfold chN
 rw [show k<(n+d-1) / d ↔ k+1≤(n+d-1) / d from Iff.rfl,Nat.le_div_iff_mul_le hd,Nat.add_mul]
 omega
theorem chk_len (d:Nat) (E:List (Int×Int)) (k:Nat):(chk d E k).length=min d (E.length-k*d):=by simp [chk]
def paT (d:Nat) (E:List (Int×Int)) (k:Nat):List (Int×Int):=(List.range k).flatMap fun j=>(ruL (0,0) (chk d E j)).tail
def paL (d:Nat) (E:List (Int×Int)):List (Int×Int):=paT d E (chN d E.length)
def psm (d:Nat) (E:List (Int×Int)) (i:Nat):Int×Int:=suS (0,0) ((E.drop (i / d*d)).take (i % d+1))
theorem mem_paL {d:Nat} {E:List (Int×Int)} {x:Int×Int} (hd:0<d):x∈paL d E ↔ ∃ i,i<E.length∧x=psm d E i:=by
 unfold paL paT
 simp only [List.mem_flatMap,List.mem_range]
 constructor
 ·rintro⟨k,hk,hx⟩
  obtain⟨j,h0,h1,rfl⟩:=mem_ruL_tail.1 hx
  rw [chk_len] at h1
  have hk':=(chN_lt hd).1 hk
  refine⟨k*d+(j-1),by omega,?_⟩
  unfold psm chk
  have e1:(k*d+(j-1)) / d=k:=by rw [Nat.mul_comm,Nat.mul_add_div hd,Nat.div_eq_of_lt (by omega)];omega
  have e2:(k*d+(j-1)) % d=j-1:=by rw [Nat.mul_comm,Nat.mul_add_mod,Nat.mod_eq_of_lt (by omega)]
  rw [e1,e2,List.take_take,Nat.min_eq_left (by omega),show j-1+1=j by omega]
 ·rintro⟨i,hi,rfl⟩
  have hm:=Nat.mod_lt i hd
  have hdm:=Nat.div_add_mod i d
  rw [Nat.mul_comm] at hdm
  refine⟨i / d,(chN_lt hd).2 (by omega),mem_ruL_tail.2 ⟨i % d+1,by omega,by rw [chk_len];omega,?_⟩⟩
  unfold psm chk
  rw [List.take_take,Nat.min_eq_left (by omega)]
def hul (a b:Int×Int):Int×Int:=(xmn a.1 b.1,xmx a.2 b.2)
def huF (x:Int×Int) (L:List (Int×Int)):Int×Int:=L.foldl hul x
def huA:List (Int×Int)→Int×Int
 | []=>(0,0)
 | x :: l=>huF x l
theorem huF_snoc (x:Int×Int) (L:List (Int×Int)) (y:Int×Int):huF x (L++[y])=hul (huF x L) y:=by simp [huF]
theorem huA_snoc {L:List (Int×Int)} (h:L≠[]) (y:Int×Int):huA (L++[y])=hul (huA L) y:=by
 cases L with
 | nil=>exact absurd rfl h
 | cons x l=>exact huF_snoc x l y
def IsH (L:List (Int×Int)) (h:Int×Int):Prop:=(∀ x∈L,h.1≤x.1∧x.2≤h.2)∧(∃ x∈L,x.1=h.1)∧(∃ x∈L,x.2=h.2)
theorem huF_is (x:Int×Int):∀ L:List (Int×Int),IsH (x :: L) (huF x L):=by
 intro L
 induction L generalizing x with
 | nil=>exact⟨fun y hy=>by simp at hy;subst hy;exact⟨Int.le_refl _,Int.le_refl _⟩,⟨x,by simp,rfl⟩,⟨x,by simp,rfl⟩⟩
 | cons y l ih =>
  obtain⟨h1,⟨a,ha,ea⟩,⟨b,hb,eb⟩⟩:=ih (hul x y)
  show IsH (x :: y :: l) (huF (hul x y) l)
  have hmn:=xmn_bd x.1 y.1
  have hmx:=xmx_bd x.2 y.2
  have h0:=h1 (hul x y) List.mem_cons_self
  have e1:(hul x y).1=xmn x.1 y.1:=rfl
  have e2:(hul x y).2=xmx x.2 y.2:=rfl
  rw [e1,e2] at h0
  refine⟨fun z hz=>?_,?_,?_⟩
  ·simp only [List.mem_cons] at hz
   rcases hz with rfl | rfl | hz
   ·omega
   ·omega
   ·exact h1 z (List.mem_cons_of_mem _ hz)
  ·rcases List.mem_cons.1 ha with rfl | ha
   ·rw [e1] at ea
    rcases hmn.2.2 with q | q
    ·exact⟨x,by simp,by omega⟩
    ·exact⟨y,by simp,by omega⟩
   ·exact⟨a,by simp [ha],ea⟩
  ·rcases List.mem_cons.1 hb with rfl | hb
   ·rw [e2] at eb
    rcases hmx.2.2 with q | q
    ·exact⟨x,by simp,by omega⟩
    ·exact⟨y,by simp,by omega⟩
   ·exact⟨b,by simp [hb],eb⟩
theorem huA_is {L:List (Int×Int)} (h:L≠[]):IsH L (huA L):=by
 cases L with
 | nil=>exact absurd rfl h
 | cons x l=>exact huF_is x l
theorem IsH.eq {L M:List (Int×Int)} {a b:Int×Int} (h:IsH L a) (g:IsH M b) (e:∀ x,x∈L ↔ x∈M):a=b:=by
 obtain⟨h1,⟨x,hx,ex⟩,⟨y,hy,ey⟩⟩:=h
 obtain⟨g1,⟨z,hz,ez⟩,⟨u,hu,eu⟩⟩:=g
 have a1:=g1 x ((e x).1 hx)
 have a2:=g1 y ((e y).1 hy)
 have a3:=h1 z ((e z).2 hz)
 have a4:=h1 u ((e u).2 hu)
 exact Prod.ext (by omega) (by omega)
theorem huA_eq {L M:List (Int×Int)} (h:L≠[]) (e:∀ x,x∈L ↔ x∈M):huA L=huA M:=by
 have g:M≠[]:=by
  cases L with
  | nil=>exact absurd rfl h
  | cons x l=>intro q;have:=(e x).1 List.mem_cons_self;rw [q] at this;cases this
 exact (huA_is h).eq (huA_is g) e
def Vd (M:Int) (e:Int×Int):Prop:=-M≤e.1∧e.1≤e.2∧e.2≤M
def Rb (E:List (Int×Int)):Prop:=∀ e∈E,Vd 4194304 e
theorem Vd.sm {M:Int} {e:Int×Int} (h:Vd M e) (hM:M≤1000000000000):Sm e.1∧Sm e.2∧e.1≤e.2:=by unfold Vd at h;unfold Sm;omega
theorem suS_bd:∀ (E:List (Int×Int)) (s:Int×Int) (B:Int),Rb E→Vd B s→Vd (B+4194304*(E.length:Int)) (suS s E)
 | [],s,B,_,h=>by simpa [suS] using h
 | e :: E,s,B,hE,h=>by
  have he:=hE e List.mem_cons_self
  have:=suS_bd E (plS s e) (B+4194304) (fun x hx=>hE x (List.mem_cons_of_mem _ hx)) (by unfold Vd plS at *;simp only;omega)
  have e1:B+4194304+4194304*(E.length:Int)=B+4194304*((e :: E).length:Int):=by simp;omega
  rw [← e1]
  exact this
theorem Rb.take {E:List (Int×Int)} (h:Rb E) (k:Nat):Rb (E.take k):=fun e he=>h e (List.mem_of_mem_take he)
theorem Rb.drop {E:List (Int×Int)} (h:Rb E) (k:Nat):Rb (E.drop k):=fun e he=>h e (List.mem_of_mem_drop he)
theorem suS_vd {E:List (Int×Int)} {s:Int×Int} (hE:Rb E) (hl:E.length≤512) (h:Vd 4294967296 s):Vd 10000000000 (suS s E):=by
 have:=suS_bd E s _ hE h
 unfold Vd at *
 omega
theorem ruL_vd {E:List (Int×Int)} {s:Int×Int} (hE:Rb E) (hl:E.length≤512) (h:Vd 4294967296 s):∀ x∈ruL s E,Vd 10000000000 x:=fun x hx=>by
 obtain⟨j,h1,rfl⟩:=mem_ruL.1 hx
 exact suS_vd (hE.take j) (by rw [List.length_take];omega) h
theorem psm_vd {E:List (Int×Int)} {d i:Nat} (hE:Rb E) (hl:E.length≤512):Vd 10000000000 (psm d E i):=by
 unfold psm
 refine suS_vd ((hE.drop _).take _) (by rw [List.length_take,List.length_drop];omega) ?_
 unfold Vd;simp
theorem Rb.vd {E:List (Int×Int)} (h:Rb E):∀ x∈E,Vd 10000000000 x:=fun x hx=>by have:=h x hx;unfold Vd at *;omega
theorem hul_vd {M:Int} {a b:Int×Int} (h:Vd M a) (g:Vd M b):Vd M (hul a b):=by
 have hmn:=xmn_bd a.1 b.1
 have hmx:=xmx_bd a.2 b.2
 have e1:(hul a b).1=xmn a.1 b.1:=rfl
 have e2:(hul a b).2=xmx a.2 b.2:=rfl
 unfold Vd at *
 rw [e1,e2]
 omega
theorem huF_vd {M:Int}:∀ {L:List (Int×Int)} {x:Int×Int},Vd M x→(∀ y∈L,Vd M y)→Vd M (huF x L)
 | [],x,h,_=>h
 | y :: l,x,h,g=>huF_vd (L:=l) (x:=hul x y) (hul_vd h (g y List.mem_cons_self)) fun z hz=>g z (List.mem_cons_of_mem _ hz)
def tmE (lo hi p:Int) (t:Int×Int):Int×Int:=if t.2<0 then (p*t.1,p*t.1) else xti lo hi t.1
def enL (lo hi p:Int) (TL:List (Int×Int)):List (Int×Int):=TL.map (tmE lo hi p)
theorem enL_len (lo hi p:Int) (TL:List (Int×Int)):(enL lo hi p TL).length=TL.length:=by simp [enL]
theorem enL_getD (lo hi p:Int) {TL:List (Int×Int)} {k:Nat} (h:k<TL.length) (d d':Int×Int):(enL lo hi p TL).getD k d=tmE lo hi p (TL.getD k d'):=by
 simp [enL,List.getD_eq_getElem?_getD,List.getElem?_eq_getElem h]
theorem prod_bd {a k:Int} (ha:-128≤a∧a≤127) (hk:-32768≤k∧k≤32767):-4194304≤a*k∧a*k≤4194304:=by
 have h1:=Int.natAbs_mul a k
 have h2:=Nat.mul_le_mul (show a.natAbs≤128 by omega) (show k.natAbs≤32768 by omega)
 omega
theorem xti_vd {a b k:Int} (hab:a≤b) (ha:-128≤a∧a≤127) (hb:-128≤b∧b≤127) (hk:-32768≤k∧k≤32767):Vd 4194304 (xti a b k):=by
 have h1:=prod_bd ha hk
 have h2:=prod_bd hb hk
 unfold xti
 split
 ·have:=Int.mul_le_mul_of_nonneg_right hab (show 0≤-k by omega)
  rw [Int.mul_neg,Int.mul_neg] at this
  unfold Vd;simp only;omega
 ·have:=Int.mul_le_mul_of_nonneg_right hab (show 0≤k by omega)
  unfold Vd;simp only;omega
theorem tmE_vd {lo hi p:Int} {t:Int×Int} (hs:-128≤lo∧lo≤hi∧hi≤127) (hp:-128≤p∧p≤127) (hk:-32768≤t.1∧t.1≤32767):Vd 4194304 (tmE lo hi p t):=by
 unfold tmE
 split
 ·have:=prod_bd hp hk
  unfold Vd;simp only;omega
 ·exact xti_vd hs.2.1 (by omega) (by omega) hk
theorem enL_rb {lo hi p:Int} {TL:List (Int×Int)} (hs:-128≤lo∧lo≤hi∧hi≤127) (hp:-128≤p∧p≤127) (hk:∀ t∈TL,-32768≤t.1∧t.1≤32767):Rb (enL lo hi p TL):=fun e he=>by
 obtain⟨t,ht,rfl⟩:=List.mem_map.1 he
 exact tmE_vd hs hp (hk t ht)
def Wd (w0:World) (l:List (Nat×Array Value×TypeId)):Type:=Subtype fun w:World=>St w0 w l
def Wd.w {w0:World} {l:List (Nat×Array Value×TypeId)} (n:Wd w0 l):World:=n.1
theorem Wd.h {w0:World} {l:List (Nat×Array Value×TypeId)} (n:Wd w0 l):St w0 n.w l:=n.2
def Wd.mk {w0:World} {l:List (Nat×Array Value×TypeId)} (w:World) (h:St w0 w l):Wd w0 l:=Subtype.mk w h
theorem region_held {P:Program} {w0:World} {b:List (Nat×Array Value×TypeId)} {id:Nat} {Q:Exit→Act→World→Prop} {a:Act} {w:World} {l:List Oper} (hS:St w0 w b) (hm:P.follows .mixedOrders=true) (hB:Region.lexB .any l.toArray=true)
  (h:wpQuiet P l.toArray (fun w'=>∃ n:Wd w0 b,w'=n.w) (fun a'=>∀ w',(∃ n:Wd w0 b,w'=n.w)→Q .normal a' w') l a):(Code.region id l.toArray true).wp P Q a w :=
 wp_region_quiet (C:=fun w'=>∃ n:Wd w0 b,w'=n.w) hm hB ⟨Wd.mk _ hS.drew,rfl⟩ (by simpa using h)
theorem held_of {P:Program} {f:FuncId} {args:Array Value} {w0:World} {b:List (Nat×Array Value×TypeId)} {n:Wd w0 b} {v:Value}
  (h:Calls P f args n.w fun e w'=>e=.returned v∧Below n.w.heap.size n.w w'):Calls P f args n.w fun e w''=>e=.returned v∧∃ m:Wd w0 b,w''=m.w :=
 h.mono fun _ _ ⟨he,hb⟩=>⟨he,Wd.mk _ (n.h.call hb),rfl⟩
def RulesQ (w0:World) (b:List (Nat×Array Value×TypeId)):List (Nat×Array Value×TypeId)→Prop
 | []=>True
 | (B,c,_) :: l=>(∀ (n:Wd w0 b) i,n.w.cell? ⟨B,i,none⟩=c[i]?)∧(∀ (n:Wd w0 b),B<n.w.heap.size)∧RulesQ w0 b l
theorem rulesQ_of (w0:World) (b:List (Nat×Array Value×TypeId)):∀ l:List (Nat×Array Value×TypeId),(∀ x∈l,x∈b)→RulesQ w0 b l
 | [],_=>trivial
 | (B,c,t) :: l,h=>by
  have hm:=h _ List.mem_cons_self
  refine⟨fun n i=>?_,fun n=>?_,rulesQ_of w0 b l fun x hx=>h x (List.mem_cons_of_mem _ hx)⟩
  ·have h0:n.w.heap[B]? = some (.cells c t):=(n.h.2 _ hm).1
   simp [World.cell?,h0]
  ·exact lt_of_heap (n.h.2 _ hm).1
theorem rulesQ (w0:World) (b:List (Nat×Array Value×TypeId)):RulesQ w0 b b:=rulesQ_of w0 b b fun _ h=>h
open Go.ChangeShapes Go.WideShapes Go.ChangeAt Go.RowKit Go.Deep
def IRow (k:IntKind) (w:World) (a:Option Addr) (len cap:Nat) (zs:List Int):Prop :=
 zs.length=len∧len≤cap∧cap≤maxLen∧(∀ z∈zs,(Lit.int k z).wf=true)∧(a=none→cap=0)∧∀ x,a=some x→∀ i,i<len→w.cell? (x.add i)=some (.int k (zs.getD i 0))
def PRow (k0 k1:IntKind) (w:World) (a:Option Addr) (len cap:Nat) (os:List (Int×Int)):Prop :=
 os.length=len∧len≤cap∧cap≤maxLen∧(∀ o∈os,(Lit.int k0 o.1).wf=true∧(Lit.int k1 o.2).wf=true)∧(a=none→cap=0) ∧
  ∀ x,a=some x→∀ i,i<len→w.cell? (x.add (i*2))=some (.int k0 (os.getD i (0,0)).1)∧w.cell? (x.add (i*2+1))=some (.int k1 (os.getD i (0,0)).2)
def Holds (H:Type) (d:DataW H) (len:Nat):Prop:=(d=.nil∧len=0)∨∃ el sp,d=.slice el sp∧el.length=len
theorem openI {H:Type} {enc:TypeId×Value→H} {W:World} {fuel:Nat} {a:Option Addr} {len cap:Nat} {d:DataW H} {p:List MemPlace} {t e:TypeId} {k:IntKind}
  (ht:Tryz.prog.underlying t=some (.slice e)) (he:Tryz.prog.underlying e=some (.int k)) (hc:Tryz.prog.cellsOf e=1)
  (hf:DataW.trod enc Tryz.prog W 0 (fun _=>true) true fuel t (Value.slice a len cap).cells.toList=some (d,p)):∃ zs,IRow k W a len cap zs∧Holds H d len:=by
 rcases open_ints ht he hc hf with ⟨hcs,hx⟩ | ⟨x,l,c,zs,hcs,_,hl,hm,hz,hx,hcell,hwz⟩
 ·simp [Value.cells] at hcs
  obtain⟨rfl,rfl,rfl⟩:=hcs
  simp only [Prod.mk.injEq] at hx
  exact⟨[],⟨rfl,Nat.le_refl _,by unfold maxLen;omega,(fun _ h=>by cases h),fun _=>rfl,fun x h=>by cases h⟩,.inl ⟨hx.1,rfl⟩⟩
 ·simp [Value.cells] at hcs
  obtain⟨rfl,rfl,rfl⟩:=hcs
  simp only [Prod.mk.injEq] at hx
  simp only [if_true] at hz
  refine⟨zs.take len,⟨by simp;omega,hl,hm,fun z h=>hwz z (List.mem_of_mem_take h),fun h=>(by cases h),fun y hy i hi=>?_⟩,.inr ⟨_,_,hx.1,by simp [lits];omega⟩⟩
  obtain rfl:=Option.some.inj hy
  rw [hcell i (by omega)]
  simp [List.getD,hi]
theorem dbel (w:World) (n:Nat):Below w.heap.size w (w.drewN n):=⟨rfl,rfl,rfl,Nat.le_refl _,fun _ _=>rfl⟩
theorem bal (w:World) (o:Obj):Below w.heap.size w (w.alloc o):=(Below.refl _ _).alloc (Nat.le_refl _) _
theorem bt {a b c:World} (h:Below a.heap.size a b) (k:Below b.heap.size b c):Below a.heap.size a c:=h.trans (k.mono h.size)
theorem cells_at {w:World} {B:Nat} {c:Array Value} {T:TypeId} (h:w.heap[B]? = some (.cells c T (0,0))):(∀ i,w.cell? ⟨B,i,none⟩=c[i]?)∧(∀ i,w.frozen? ⟨B,i,none⟩=false)∧B<w.heap.size :=
 ⟨fun i=>by simp [World.cell?,h],fun i=>by simp only [World.frozen?,h];simp,lt_of_heap h⟩
def Wf (k:IntKind) (zs:List Int):Prop:=∀ z∈zs,(Lit.int k z).wf=true
theorem Wf.nil (k:IntKind):Wf k []:=fun _ h=>by cases h
theorem Wf.app {k:IntKind} {a b:List Int} (h:Wf k a) (g:Wf k b):Wf k (a++b):=fun z hz=>(List.mem_append.1 hz).elim (h z) (g z)
theorem Wf.one {k:IntKind} {z:Int} (h:(Lit.int k z).wf=true):Wf k [z]:=fun y hy=>by simp at hy;subst hy;exact h
theorem Wf.take {k:IntKind} {a:List Int} (h:Wf k a) (n:Nat):Wf k (a.take n):=fun z hz=>h z (List.mem_of_mem_take hz)
theorem Wf.drop {k:IntKind} {a:List Int} (h:Wf k a) (n:Nat):Wf k (a.drop n):=fun z hz=>h z (List.mem_of_mem_drop hz)
theorem Wf.set {k:IntKind} {a:List Int} (h:Wf k a) (n:Nat) {z:Int} (hz:(Lit.int k z).wf=true):Wf k (a.set n z):=fun y hy=>by
 rcases List.mem_or_eq_of_mem_set hy with g | g
 ·exact h y g
 ·rw [g];exact hz
theorem wf_i16 {z:Int} (h:(Lit.int .i16 z).wf=true):-32768≤z∧z≤32767:=by
 simp [Lit.wf,IntKind.min,IntKind.max,IntKind.bits,IntKind.signed] at h
 omega
theorem wf_i32 {z:Int} (h:(Lit.int .i32 z).wf=true):-2147483648≤z∧z≤2147483647:=by
 simp [Lit.wf,IntKind.min,IntKind.max,IntKind.bits,IntKind.signed] at h
 omega
theorem IRow.mono {k:IntKind} {w w':World} {a:Option Addr} {len cap:Nat} {zs:List Int} (h:IRow k w a len cap zs) (g:∀ x v,w.cell? x=some (.int k v)→w'.cell? x=some (.int k v)):IRow k w' a len cap zs :=
 ⟨h.1,h.2.1,h.2.2.1,h.2.2.2.1,h.2.2.2.2.1,fun x hx i hi=>g _ _ (h.2.2.2.2.2 x hx i hi)⟩
theorem IRow.below {k:IntKind} {w w':World} {a:Option Addr} {len cap:Nat} {zs:List Int} (h:IRow k w a len cap zs) (g:Below w.heap.size w w'):IRow k w' a len cap zs :=
 h.mono fun x _ hx=>(g.cell (World.block_lt_of_cell? w x hx)).trans hx
theorem add_block (x:Addr) (i:Nat):(x.add i).block=x.block:=by unfold Addr.add; split<;>rfl
theorem IRow.grown {k:IntKind} {w w':World} {g:Option Nat} {a:Option Addr} {len cap:Nat} {zs:List Int} (h:IRow k w a len cap zs) (q:w.grownBy w' g) (hg:∀ x b,a=some x→g=some b→x.block≠b):IRow k w' a len cap zs :=
 ⟨h.1,h.2.1,h.2.2.1,h.2.2.2.1,h.2.2.2.2.1,fun x hx i hi=>q.cell (h.2.2.2.2.2 x hx i hi) (fun e=>hg x _ hx e.symm (add_block x i).symm)⟩
theorem IRow.at {k:IntKind} {w:World} {a:Option Addr} {len cap:Nat} {zs:List Int} (hr:IRow k w a len cap zs) {i:Nat} (hi:i<len) :
  ∃ x c,a=some x∧w.cell? (x.add i)=some (.int k c)∧(Lit.int k c).wf=true∧zs[i]? = some c∧zs.drop i=c :: zs.drop (i+1):=by
 obtain⟨hl,hc,hm,hb,hn,hcell⟩:=hr
 have hk':i<zs.length:=by omega
 obtain⟨x,rfl⟩:∃ x,a=some x:=by
  cases a with
  | none=>have:=hn rfl;omega
  | some x=>exact⟨x,rfl⟩
 have hcx:=hcell x rfl i hi
 rw [List.getD_eq_getElem?_getD,List.getElem?_eq_getElem hk',Option.getD_some] at hcx
 exact⟨x,zs[i],rfl,hcx,hb _ (List.getElem_mem hk'),List.getElem?_eq_getElem hk',List.drop_eq_getElem_cons hk'⟩
theorem irow_nil (k:IntKind) (w:World):IRow k w none 0 0 []:=⟨rfl,Nat.le_refl _,by unfold maxLen;omega,(fun _ h=>by cases h),fun _=>rfl,fun x h=>by cases h⟩
def Own (k:IntKind) (T:TypeId) (w:World) (base:Nat) (v:Value) (zs:List Int):Prop:=w.ownsRow base T 1 v zs.length (zs.map (Value.int k))∧Wf k zs
theorem Own.shape {k:IntKind} {T:TypeId} {w:World} {base:Nat} {v:Value} {zs:List Int} (h:Own k T w base v zs) :
  (v=.slice none 0 0∧zs=[])∨∃ g cap,v=.slice (some ⟨g,0,none⟩) zs.length cap∧base≤g∧g<w.heap.size∧zs.length≤cap∧cap≤maxLen∧(∃ cur,w.heap[g]? = some (.cells cur T (0,0))∧cur.size=cap) ∧
    (∀ i,i<zs.length→w.cell? ⟨g,i,none⟩=some (.int k (zs.getD i 0)))∧∀ i,w.frozen? ⟨g,i,none⟩=false:=by
 obtain⟨⟨h1,h2⟩,hb⟩:=h
 rcases h2 with ⟨rfl,h0⟩ | ⟨g,cap,cur,rfl,hg,hh,hn,hm,hs,ht⟩
 ·exact .inl ⟨rfl,List.eq_nil_of_length_eq_zero h0⟩
 ·refine .inr ⟨g,cap,rfl,hg,lt_of_heap hh,hn,hm,⟨cur,hh,by simpa using hs⟩,fun i hi=>?_,fun i=>?_⟩
  ·have hc:cur[i]? = some (.int k (zs.getD i 0)):=by
    have:(cur.toList.take (zs.length*1))[i]? = some (.int k (zs.getD i 0)):=by rw [ht];simp [List.getD,hi]
    rw [List.getElem?_take,if_pos (by omega)] at this
    simpa using this
   simp [World.cell?,hh,hc]
  ·simp only [World.frozen?,hh];simp
theorem Own.row {k:IntKind} {T:TypeId} {w:World} {base:Nat} {v:Value} {zs:List Int} (h:Own k T w base v zs):∃ a cap,v=.slice a zs.length cap∧IRow k w a zs.length cap zs∧∀ x,a=some x→base≤x.block∧x.block<w.heap.size:=by
 have hb:=h.2
 rcases h.shape with ⟨rfl,rfl⟩ | ⟨g,cap,rfl,hg,hlt,hn,hm,_,hc,_⟩
 ·exact⟨none,0,rfl,irow_nil k w,fun x hx=>by cases hx⟩
 ·refine⟨some ⟨g,0,none⟩,cap,rfl,⟨rfl,hn,hm,hb,fun h=>(by cases h),fun x hx i hi=>?_⟩,fun x hx=>?_⟩
  ·cases hx;rw [Addr.add_lit,Nat.zero_add];exact hc i hi
  ·cases hx;exact⟨hg,hlt⟩
theorem Own.below {k:IntKind} {T:TypeId} {w w':World} {base:Nat} {v:Value} {zs:List Int} (h:Own k T w base v zs) (q:Below w.heap.size w w'):Own k T w' base v zs:=by
 refine⟨h.1.kept (row:=none) ⟨q.os,q.tape,q.output,q.size,fun i hi _=>q.block i hi⟩ ?_,h.2⟩
 rcases h.shape with ⟨rfl,_⟩ | ⟨g,cap,rfl,_⟩
 ·exact .inl rfl
 ·exact .inr (by simp [Value.ownBlock])
theorem Own.base {k:IntKind} {T:TypeId} {w:World} {b c:Nat} {v:Value} {zs:List Int} (h:Own k T w b v zs) (q:c≤b):Own k T w c v zs:=by
 refine⟨⟨h.1.1,?_⟩,h.2⟩
 rcases h.1.2 with h | ⟨g,cap,cur,h1,h2,h3⟩
 ·exact .inl h
 ·exact .inr ⟨g,cap,cur,h1,Nat.le_trans q h2,h3⟩
theorem Own.alloc {k:IntKind} {T:TypeId} {w:World} {base:Nat} {v:Value} {zs:List Int} (h:Own k T w base v zs) (o:Obj):Own k T (w.alloc o) base v zs:=h.below (bal _ _)
theorem own_none (k:IntKind) (T:TypeId) (w:World) (base:Nat):Own k T w base (.slice none 0 0) []:=⟨World.ownsRow_nil _ _ _ _,Wf.nil k⟩
theorem Own.len {k:IntKind} {T:TypeId} {w:World} {base n cap:Nat} {a:Option Addr} {zs:List Int} (h:Own k T w base (.slice a n cap) zs):zs.length=n:=by
 rcases h.shape with ⟨h',rfl⟩ | ⟨g',cap',h',_⟩
 ·cases h';rfl
 ·cases h';rfl
theorem Own.set {k:IntKind} {T:TypeId} {w:World} {base g n cap i:Nat} {zs:List Int} {z:Int} (h:Own k T w base (.slice (some ⟨g,0,none⟩) n cap) zs) (hz:(Lit.int k z).wf=true) :
  Own k T (w.setCell ⟨g,i,none⟩ (.int k z)) base (.slice (some ⟨g,0,none⟩) n cap) (zs.set i z)∧w.grownBy (w.setCell ⟨g,i,none⟩ (.int k z)) (some g):=by
 obtain rfl:=h.len
 have:=h.1.stored i (.int k z)
 refine⟨⟨?_,h.2.set i hz⟩,this.2⟩
 rw [List.length_set,List.map_set];exact this.1
theorem Own.block {k:IntKind} {T:TypeId} {w:World} {base:Nat} {v:Value} {zs:List Int} (h:Own k T w base v zs) {b:Nat} (hb:v.ownBlock=some b):base≤b:=by
 rcases h.shape with ⟨rfl,_⟩ | ⟨g,cap,rfl,hg,_⟩
 ·simp [Value.ownBlock] at hb
 ·obtain rfl:g=b:=by simpa [Value.ownBlock] using hb
  exact hg
theorem Own.bel {k:IntKind} {T:TypeId} {w0 w w':World} {base B:Nat} {v:Value} {zs:List Int} (h:Own k T w base v zs) (hb:Below B w0 w) (g:w.grownBy w' v.ownBlock) (hB:B≤base) (hw:B≤w.heap.size):Below B w0 w' :=
 hb.grown g hw fun _ e=>Nat.le_trans hB (h.block e)
def KT (k:IntKind) (T S:TypeId) (b:Nat):Prop:=Tryz.prog.underlying S=some (.slice T)∧(Tryz.prog.info? T).map (fun i=>(i.zero,i.size,i.bytes))=some (some (.int k 0),1,b)∧1≤b∧b≤8
theorem wpList_app {k:IntKind} {T S:TypeId} {by8:Nat} (kt:KT k T S by8) {w:World} {ops:Array Oper} {rest:List Oper} {o:Oper} {a:Act} {Q:Exit→Act→World→Prop} (hgd:o.guard=none) (s x:Operand)
  (ho:o.op=.call { callee:=.builtin .append,args:=#[s,x],argTypes:=#[S,S] })
  (base:Nat) (v:Value) (xs ys:List Int) (hs:a.eval s=v) (hown:Own k T w base v xs) (ao:Option Addr) (m c:Nat) (hx:a.eval x=.slice ao m c) (hy:IRow k w ao m c ys)
  (hlen:xs.length+ys.length≤10000000) (hbase:base≤w.heap.size)
  (h:∀ v' w',Own k T w' base v' (xs++ys)→w.grownBy w' v.ownBlock→(v≠.slice none 0 0→v'≠.slice none 0 0)→wpList Tryz.prog ops Q rest (a.put o.dst v') w'):wpList Tryz.prog ops Q (o :: rest) a w:=by
 obtain⟨hu,hin,b1,b8⟩:=kt
 obtain⟨i0,hi,hz0,hz1,hz2⟩:=info_parts hin
 obtain⟨hl,hc,hm,hb,hn,hcell⟩:=hy
 cases ao with
 | none =>
  obtain rfl:c=0:=hn rfl
  obtain rfl:m=0:=by omega
  obtain rfl:ys=[]:=List.eq_nil_of_length_eq_zero hl
  refine wpList_append_own_none hgd s x _ ho base T i0 1 hu hi v xs.length _ hs hown.1 hx ?_
  have:=h v w (by simpa using hown) ⟨rfl,rfl,rfl,Nat.le_refl _,fun _ _ _=>rfl⟩ (fun h=>h)
  exact this
 | some ad =>
  have hby:by8*(xs.length+ys.length)≤8*(xs.length+ys.length):=Nat.mul_le_mul_right _ b8
  refine wpList_append_own _ hgd s x _ ho base T i0 (.int k 0) 1 by8 hu hi hz0 hz1 hz2 rfl (by omega) v xs.length _ hs hown.1 ad m c (ys.map (Value.int k)) hx (by simp [hl]) ?_ (ints_oneCell _ _) ?_ ?_ hbase ?_
  ·intro j u hj
   have hj':j<m:=by
    have:=(List.getElem?_eq_some_iff.1 hj).1
    simpa [hl] using this
   rw [hcell ad rfl j hj']
   simp [List.getD,show j<ys.length by omega] at hj ⊢
   exact hj
  ·unfold maxLen;omega
  ·rw [hl] at hby hlen;rw [Nat.mul_comm];omega
  ·intro v' w' h1 h2 h3
   refine h v' w' ⟨?_,hown.2.app hb⟩ h2 (fun hv hv'=>hv (h3.1 hv').1)
   rw [List.length_append,hl,List.map_append]
   exact h1
theorem row_one (k:IntKind) (T:TypeId) (w:World) (z:Int) (hz:(Lit.int k z).wf=true):IRow k (w.alloc (.cells #[.int k z] T)) (some ⟨w.heap.size,0,none⟩) 1 1 [z]:=by
 refine⟨rfl,Nat.le_refl _,by unfold maxLen;omega,Wf.one hz,fun h=>(by cases h),fun x hx i hi=>?_⟩
 cases hx
 obtain rfl:i=0:=by omega
 simp [Addr.add]
def vS (h w c:Int):Bool:=decide ((1≤h∧h≤1024)∧(1≤w∧w≤1024)∧(1≤c∧c≤1024)∧h*w*c≤16384)
def elR (h w c:Int):Int×Int:=if vS h w c=true then (h*w*c,0) else (0,50)
theorem vS_yes {h w c:Int} (g:vS h w c=true):(1≤h∧h≤1024)∧(1≤w∧w≤1024)∧(1≤c∧c≤1024)∧h*w*c≤16384:=by simpa [vS] using g
theorem elR_ok {h w c:Int} (g:vS h w c=true):elR h w c=(h*w*c,0):=if_pos g
theorem elR_no {h w c:Int} (g:vS h w c=false):elR h w c=(0,50):=if_neg (by rw [g];exact Bool.false_ne_true)
theorem vS_mk {h w c:Int} (g:(1≤h∧h≤1024)∧(1≤w∧w≤1024)∧(1≤c∧c≤1024)∧h*w*c≤16384):vS h w c=true:=by unfold vS;exact decide_eq_true g
theorem vS_not {h w c:Int} (g:¬ ((1≤h∧h≤1024)∧(1≤w∧w≤1024)∧(1≤c∧c≤1024)∧h*w*c≤16384)):vS h w c=false:=by unfold vS;exact decide_eq_false g
theorem mul_bd {a b A B:Int} (ha:1≤a) (hA:a≤A) (hb:1≤b) (hB:b≤B):1≤a*b∧a*b≤A*B:=by
 constructor
 ·have:=Int.mul_le_mul ha hb (by omega) (by omega);omega
 ·exact Int.mul_le_mul hA hB (by omega) (by omega)
theorem sides_any (h w c:Int) (W:World) :
  Calls Tryz.prog 98 #[.agg #[U i6 h,U i6 w,U i6 c]] W fun e w'=>e=.returned (.agg #[U i6 h,U i6 w,U i6 c])∧Below W.heap.size W w':=by
 go_enter Tryz.func98,Tryz.ntmps98
 go_wp2
 exact bodyPost_ret (v:=.agg #[U i6 h,U i6 w,U i6 c]) (by simp [results,Tryz.results98,go_sem]) rfl ⟨rfl,(St.start W).new.new.below⟩
theorem idx0 (h w c:Int):∀ W:World,(Instr.index 149 (.agg #[U i6 h,U i6 w,U i6 c]) (U i6 0)).run Tryz.prog W=.ok (U i6 h) W:=fun _=>by kernel_rfl
theorem idx1 (h w c:Int):∀ W:World,(Instr.index 149 (.agg #[U i6 h,U i6 w,U i6 c]) (U i6 1)).run Tryz.prog W=.ok (U i6 w) W:=fun _=>by kernel_rfl
theorem idx2 (h w c:Int):∀ W:World,(Instr.index 149 (.agg #[U i6 h,U i6 w,U i6 c]) (U i6 2)).run Tryz.prog W=.ok (U i6 c) W:=fun _=>by kernel_rfl
theorem selems_any (h w c:Int) (W:World) :
  Calls Tryz.prog 80 #[.agg #[U i6 h,U i6 w,U i6 c]] W fun e w'=>e=.returned (.tuple #[U i6 (elR h w c).1,U i6 (elR h w c).2])∧Below W.heap.size W w':=by
 by_cases k1:h<1
 ·rw [elR_no (vS_not (by omega))]
  have i0:=idx0 h w c
  go_enter Tryz.func80,Tryz.ntmps80
  go_wp2_with fail
  refine (sides_any _ _ _ _).mono ?_
  rintro e w1 ⟨rfl,hb⟩
  have s1:=(St.start W).new.call hb
  clear hb
  go_wp2
  refine wp_loop_rounds 1 ?_
  rw [rounds_succ]
  go_wp2
  go_ret2
  exact⟨rfl,s1.below⟩
 by_cases k2:1024<h
 ·rw [elR_no (vS_not (by omega))]
  have i0:=idx0 h w c
  go_enter Tryz.func80,Tryz.ntmps80
  go_wp2_with fail
  refine (sides_any _ _ _ _).mono ?_
  rintro e w1 ⟨rfl,hb⟩
  have s1:=(St.start W).new.call hb
  clear hb
  go_wp2
  refine wp_loop_rounds 1 ?_
  rw [rounds_succ]
  go_wp2
  go_ret2
  exact⟨rfl,s1.below⟩
 by_cases k3:w<1
 ·rw [elR_no (vS_not (by omega))]
  have i0:=idx0 h w c
  have i1:=idx1 h w c
  go_enter Tryz.func80,Tryz.ntmps80
  go_wp2_with fail
  refine (sides_any _ _ _ _).mono ?_
  rintro e w1 ⟨rfl,hb⟩
  have s1:=(St.start W).new.call hb
  clear hb
  go_wp2
  refine wp_loop_rounds 2 ?_
  rw [rounds_succ]
  go_wp2
  rw [rounds_succ]
  go_wp2
  go_ret2
  exact⟨rfl,s1.below⟩
 by_cases k4:1024<w
 ·rw [elR_no (vS_not (by omega))]
  have i0:=idx0 h w c
  have i1:=idx1 h w c
  go_enter Tryz.func80,Tryz.ntmps80
  go_wp2_with fail
  refine (sides_any _ _ _ _).mono ?_
  rintro e w1 ⟨rfl,hb⟩
  have s1:=(St.start W).new.call hb
  clear hb
  go_wp2
  refine wp_loop_rounds 2 ?_
  rw [rounds_succ]
  go_wp2
  rw [rounds_succ]
  go_wp2
  go_ret2
  exact⟨rfl,s1.below⟩
 obtain⟨p1,p2⟩:=mul_bd (by omega:1≤h) (by omega:h≤1024) (by omega:1≤w) (by omega:w≤1024)
 by_cases k5:c<1
 ·rw [elR_no (vS_not (by omega))]
  have i0:=idx0 h w c
  have i1:=idx1 h w c
  have i2:=idx2 h w c
  obtain⟨p,hp⟩:∃ p,h*w=p:=⟨_,rfl⟩
  rw [hp] at p1 p2
  go_enter Tryz.func80,Tryz.ntmps80
  go_wp2_with fail
  refine (sides_any _ _ _ _).mono ?_
  rintro e w1 ⟨rfl,hb⟩
  have s1:=(St.start W).new.call hb
  clear hb
  go_wp2
  refine wp_loop_rounds 3 ?_
  rw [rounds_succ]
  go_wp2
  rw [rounds_succ]
  go_wp2
  rw [rounds_succ]
  go_wp2
  go_ret2
  exact⟨rfl,s1.below⟩
 by_cases k6:1024<c
 ·rw [elR_no (vS_not (by omega))]
  have i0:=idx0 h w c
  have i1:=idx1 h w c
  have i2:=idx2 h w c
  obtain⟨p,hp⟩:∃ p,h*w=p:=⟨_,rfl⟩
  rw [hp] at p1 p2
  go_enter Tryz.func80,Tryz.ntmps80
  go_wp2_with fail
  refine (sides_any _ _ _ _).mono ?_
  rintro e w1 ⟨rfl,hb⟩
  have s1:=(St.start W).new.call hb
  clear hb
  go_wp2
  refine wp_loop_rounds 3 ?_
  rw [rounds_succ]
  go_wp2
  rw [rounds_succ]
  go_wp2
  rw [rounds_succ]
  go_wp2
  go_ret2
  exact⟨rfl,s1.below⟩
 obtain⟨q1,q2⟩:=mul_bd p1 p2 (by omega:1≤c) (by omega:c≤1024)
 have HV:Hid (vS h w c=decide (h*w*c≤16384)):=by
  unfold Hid vS
  exact decide_eq_decide.2 ⟨fun g=>g.2.2.2,fun g=>⟨by omega,by omega,by omega,g⟩⟩
 obtain⟨p,hp⟩:∃ p,h*w=p:=⟨_,rfl⟩
 have HR:Hid (elR h w c=if vS h w c=true then (p*c,0) else (0,50)):=by unfold Hid;rw [← hp];rfl
 rw [hp] at p1 p2 q1 q2
 have HV2:Hid (vS h w c=decide (p*c≤16384)):=by unfold Hid;rw [HV.out,hp]
 clear HV
 obtain⟨q,hq⟩:∃ q,p*c=q:=⟨_,rfl⟩
 rw [hq] at q1 q2
 have HR2:Hid (elR h w c=if q≤16384 then (q,0) else (0,50)):=by unfold Hid;rw [HR.out,HV2.out,hq];simp only [decide_eq_true_eq]
 clear HV2 HR
 rw [HR2.out]
 clear HR2
 by_cases k7:16384<q
 ·rw [if_neg (by omega)]
  have i0:=idx0 h w c
  have i1:=idx1 h w c
  have i2:=idx2 h w c
  go_enter Tryz.func80,Tryz.ntmps80
  go_wp2_with fail
  refine (sides_any _ _ _ _).mono ?_
  rintro e w1 ⟨rfl,hb⟩
  have s1:=(St.start W).new.call hb
  clear hb
  go_wp2
  refine wp_loop_rounds 4 ?_
  rw [rounds_succ]
  go_wp2
  rw [rounds_succ]
  go_wp2
  rw [rounds_succ]
  go_wp2
  rw [rounds_succ]
  go_wp2
  go_ret2
  exact⟨rfl,s1.below⟩
 ·rw [if_pos (by omega)]
  have i0:=idx0 h w c
  have i1:=idx1 h w c
  have i2:=idx2 h w c
  go_enter Tryz.func80,Tryz.ntmps80
  go_wp2_with fail
  refine (sides_any _ _ _ _).mono ?_
  rintro e w1 ⟨rfl,hb⟩
  have s1:=(St.start W).new.call hb
  clear hb
  go_wp2
  refine wp_loop_rounds 4 ?_
  rw [rounds_succ]
  go_wp2
  rw [rounds_succ]
  go_wp2
  rw [rounds_succ]
  go_wp2
  rw [rounds_succ]
  go_wp2
  go_ret2
  exact⟨rfl,s1.below⟩
def btw (n lo hi:Int):Bool:=decide (lo≤n∧n≤hi)
theorem btw_yes {n lo hi:Int} (h:btw n lo hi=true):lo≤n∧n≤hi:=by simpa [btw] using h
def InW (kh kw sh sw tp lf bt rt:Int):Prop:=(1≤kh∧kh≤32)∧(1≤kw∧kw≤32)∧(1≤sh∧sh≤32)∧(1≤sw∧sw≤32)∧(0≤tp∧tp≤kh-1)∧(0≤bt∧bt≤kh-1)∧(0≤lf∧lf≤kw-1)∧(0≤rt∧rt≤kw-1)
def vW (kh kw sh sw tp lf bt rt:Int):Bool:=btw kh 1 32 && btw kw 1 32 && btw sh 1 32 && btw sw 1 32 && btw tp 0 (kh-1) && btw bt 0 (kh-1) && btw lf 0 (kw-1) && btw rt 0 (kw-1)
theorem vW_yes {kh kw sh sw tp lf bt rt:Int} (h:vW kh kw sh sw tp lf bt rt=true):InW kh kw sh sw tp lf bt rt:=by
 simp only [vW,Bool.and_eq_true] at h
 obtain⟨⟨⟨⟨⟨⟨⟨h1,h2⟩,h3⟩,h4⟩,h5⟩,h6⟩,h7⟩,h8⟩:=h
 exact⟨btw_yes h1,btw_yes h2,btw_yes h3,btw_yes h4,btw_yes h5,btw_yes h6,btw_yes h7,btw_yes h8⟩
def sp (n k s:Int):Int:=if n<k then 0 else (n-k) / s+1
theorem sp_no {n k s:Int} (h:n<k):sp n k s=0:=if_pos h
theorem sp_ok {n k s:Int} (h:¬ n<k):sp n k s=(n-k) / s+1:=if_neg h
theorem sp_bd {n k s:Int} (hs:1≤s) (hn:0≤n) (hk:1≤k):0≤sp n k s∧sp n k s≤n+1:=by
 by_cases h:n<k
 ·rw [sp_no h];omega
 ·rw [sp_ok h]
  have h1:=Int.ediv_nonneg (show 0≤n-k by omega) (show 0≤s by omega)
  have h2:=Int.ediv_le_self s (show 0≤n-k by omega)
  omega
theorem sp_mul {n k s:Int} (hs:1≤s) (h:¬ n<k):(sp n k s-1)*s+k≤n:=by
 rw [sp_ok h]
 have:=Int.ediv_mul_le (n-k) (show s≠0 by omega)
 have e:(n-k) / s+1-1=(n-k) / s:=by omega
 rw [e]
 omega
theorem sp_pos {n k s:Int} (hs:1≤s) (h:¬ n<k):1≤sp n k s:=by
 rw [sp_ok h]
 have h1:=Int.ediv_nonneg (show 0≤n-k by omega) (show 0≤s by omega)
 omega
theorem sp_of {n k s c t:Int} (hs:1≤s) (hc:0≤c) (ht:t=c*s) (h1:n<t+k) (h2:c=0∨t-s+k≤n):c=sp n k s:=by
 rcases h2 with rfl | h2
 ·rw [sp_no (by omega)]
 ·by_cases hn:n<k
  ·rcases Int.le_iff_lt_or_eq.1 hc with h | h
   ·have:=Int.mul_le_mul_of_nonneg_right (show 1≤c by omega) (show 0≤s by omega)
    omega
   ·subst h;rw [sp_no hn]
  ·rw [sp_ok hn]
   have e:(c-1)*s=t-s:=by rw [Int.sub_mul,ht];omega
   have g1:c-1≤(n-k) / s:=Int.le_ediv_of_mul_le (by omega) (by omega)
   have g2:(n-k) / s<c:=Int.ediv_lt_of_lt_mul (by omega) (by omega)
   omega
def ouR (h w c kh kw sh sw tp lf bt rt:Int):Int×Int×Int :=
 if vS h w c=true then (if vW kh kw sh sw tp lf bt rt=true then (if sp (tp+h+bt) kh sh=0∨sp (lf+w+rt) kw sw=0 then (0,0,60) else (sp (tp+h+bt) kh sh,sp (lf+w+rt) kw sw,0)) else (0,0,60)) else (0,0,50)
theorem ouR_shape {h w c kh kw sh sw tp lf bt rt:Int} (g:vS h w c=false):ouR h w c kh kw sh sw tp lf bt rt=(0,0,50):=if_neg (by rw [g];exact Bool.false_ne_true)
theorem ouR_win {h w c kh kw sh sw tp lf bt rt:Int} (g:vS h w c=true) (k:vW kh kw sh sw tp lf bt rt=false):ouR h w c kh kw sh sw tp lf bt rt=(0,0,60):=by unfold ouR;rw [if_pos g,if_neg (by rw [k];exact Bool.false_ne_true)]
theorem ouR_out {h w c kh kw sh sw tp lf bt rt:Int} (g:vS h w c=true) (k:vW kh kw sh sw tp lf bt rt=true) (z:sp (tp+h+bt) kh sh=0∨sp (lf+w+rt) kw sw=0):ouR h w c kh kw sh sw tp lf bt rt=(0,0,60):=by unfold ouR;rw [if_pos g,if_pos k,if_pos z]
theorem ouR_in {h w c kh kw sh sw tp lf bt rt:Int} (g:vS h w c=true) (k:vW kh kw sh sw tp lf bt rt=true) (z:¬ (sp (tp+h+bt) kh sh=0∨sp (lf+w+rt) kw sw=0)):ouR h w c kh kw sh sw tp lf bt rt=(sp (tp+h+bt) kh sh,sp (lf+w+rt) kw sw,0):=by unfold ouR;rw [if_pos g,if_pos k,if_neg z]
def Fit (h w kh kw sh sw tp lf bt rt r q:Int):Prop :=
 ((1≤h∧h≤1024)∧(1≤w∧w≤1024)∧h*w≤16384)∧InW kh kw sh sw tp lf bt rt∧(1≤r∧r≤1200)∧(1≤q∧q≤1200)∧(r-1)*sh+kh≤tp+h+bt∧(q-1)*sw+kw≤lf+w+rt
theorem ouR_cases (h w c kh kw sh sw tp lf bt rt:Int):(∃ e,ouR h w c kh kw sh sw tp lf bt rt=(0,0,e)∧(e=50∨e=60))∨∃ r q,ouR h w c kh kw sh sw tp lf bt rt=(r,q,0)∧Fit h w kh kw sh sw tp lf bt rt r q:=by
 cases g:vS h w c with
 | false=>exact .inl ⟨50,ouR_shape g,.inl rfl⟩
 | true =>
  cases k:vW kh kw sh sw tp lf bt rt with
  | false=>exact .inl ⟨60,ouR_win g k,.inr rfl⟩
  | true =>
   by_cases z:sp (tp+h+bt) kh sh=0∨sp (lf+w+rt) kw sw=0
   ·exact .inl ⟨60,ouR_out g k z,.inr rfl⟩
   ·obtain⟨h1,w1,c1,q9⟩:=vS_yes g
    have kk:=vW_yes k
    obtain⟨k1,k2,k3,k4,k5,k6,k7,k8⟩:=kk
    have z1:¬ tp+h+bt<kh:=fun g=>z (.inl (sp_no g))
    have z2:¬ lf+w+rt<kw:=fun g=>z (.inr (sp_no g))
    refine .inr ⟨_,_,ouR_in g k z,⟨h1,w1,?_⟩,⟨k1,k2,k3,k4,k5,k6,k7,k8⟩,⟨sp_pos (by omega) z1,?_⟩,⟨sp_pos (by omega) z2,?_⟩,sp_mul (by omega) z1,sp_mul (by omega) z2⟩
    ·have p1:=(mul_bd h1.1 h1.2 w1.1 w1.2).1
     have:=Int.mul_le_mul_of_nonneg_left c1.1 (show 0≤h*w by omega)
     omega
    ·have:=(sp_bd (n:=tp+h+bt) (k:=kh) (s:=sh) (by omega) (by omega) (by omega)).2;omega
    ·have:=(sp_bd (n:=lf+w+rt) (k:=kw) (s:=sw) (by omega) (by omega) (by omega)).2;omega
def coR (h w c kh kw sh sw tp lf bt rt n:Int):Int×Int×Int :=
 if (ouR h w c kh kw sh sw tp lf bt rt).2.2=0 then (if 0≤n∧n<(ouR h w c kh kw sh sw tp lf bt rt).1*(ouR h w c kh kw sh sw tp lf bt rt).2.1 then (n / (ouR h w c kh kw sh sw tp lf bt rt).2.1*sh-tp,n % (ouR h w c kh kw sh sw tp lf bt rt).2.1*sw-lf,0) else (0,0,3)) else (0,0,(ouR h w c kh kw sh sw tp lf bt rt).2.2)
def plc (h w y x:Int):Int:=if (0≤y∧y<h)∧(0≤x∧x<w) then y*w+x else -1
theorem plc_in {h w y x:Int} (k:(0≤y∧y<h)∧(0≤x∧x<w)):plc h w y x=y*w+x:=if_pos k
theorem plc_out {h w y x:Int} (k:¬ ((0≤y∧y<h)∧(0≤x∧x<w))):plc h w y x = -1:=if_neg k
theorem rowbd {h w y x:Int} (h2:y<h) (h1:0≤y) (g1:0≤x) (g2:x<w):0≤y*w∧y*w+x<h*w:=by
 have a:=Int.mul_le_mul_of_nonneg_right (show y+1≤h by omega) (show 0≤w by omega)
 have b:=Int.mul_le_mul_of_nonneg_right h1 (show 0≤w by omega)
 rw [Int.add_mul] at a
 omega
def tap (h w kw t l:Int) (k:Nat):Int×Int:=((k:Int),plc h w (t+(k:Int) / kw) (l+(k:Int) % kw))
def tapL (h w kw t l:Int) (n:Nat):List (Int×Int):=(List.range n).map (tap h w kw t l)
theorem tapL_len (h w kw t l:Int) (n:Nat):(tapL h w kw t l n).length=n:=by simp [tapL]
theorem tapL_succ (h w kw t l:Int) (n:Nat):tapL h w kw t l (n+1)=tapL h w kw t l n++[tap h w kw t l n]:=by simp [tapL,List.range_succ]
theorem tapL_take (h w kw t l:Int) {k n:Nat} (hk:k≤n):tapL h w kw t l k=(tapL h w kw t l n).take k:=by
 simp [tapL,← List.map_take,List.take_range,Nat.min_eq_left hk]
def tapsOf (h w c kh kw sh sw tp lf bt rt n:Int):List (Int×Int) :=
 if (coR h w c kh kw sh sw tp lf bt rt n).2.2=0 then tapL h w kw (coR h w c kh kw sh sw tp lf bt rt n).1 (coR h w c kh kw sh sw tp lf bt rt n).2.1 (kh*kw).toNat else []
def spotL (q:Int) (n:Nat):List (Int×Int):=(List.range n).map fun (k:Nat)=>((k:Int) / q,(k:Int) % q)
def spotsOf (h w c kh kw sh sw tp lf bt rt:Int):List (Int×Int):=spotL (ouR h w c kh kw sh sw tp lf bt rt).2.1 ((ouR h w c kh kw sh sw tp lf bt rt).1*(ouR h w c kh kw sh sw tp lf bt rt).2.1).toNat
theorem coR_cases (h w c kh kw sh sw tp lf bt rt n:Int):(∃ e,coR h w c kh kw sh sw tp lf bt rt n=(0,0,e)∧(e=50∨e=60∨e=3)) ∨
  ∃ r q,ouR h w c kh kw sh sw tp lf bt rt=(r,q,0)∧Fit h w kh kw sh sw tp lf bt rt r q∧(0≤n∧n<r*q)∧coR h w c kh kw sh sw tp lf bt rt n=(n / q*sh-tp,n % q*sw-lf,0):=by
 rcases ouR_cases h w c kh kw sh sw tp lf bt rt with ⟨e,he,h2⟩ | ⟨r,q,he,hf⟩
 ·left
  refine⟨e,?_,by omega⟩
  unfold coR
  rw [he,if_neg (by simp only;omega)]
 ·by_cases hn:0≤n∧n<r*q
  ·right
   refine⟨r,q,he,hf,hn,?_⟩
   unfold coR
   rw [he,if_pos rfl,if_pos hn]
  ·left
   refine⟨3,?_,by omega⟩
   unfold coR
   rw [he,if_pos rfl,if_neg hn]
def Cor (h w kh kw t l:Int):Prop:=(1≤h∧h≤1024)∧(1≤w∧w≤1024)∧h*w≤16384∧(1≤kh∧kh≤32)∧(1≤kw∧kw≤32)∧(1-kh≤t∧t<h)∧(1-kw≤l∧l<w)
theorem cor_of {h w kh kw sh sw tp lf bt rt n r q:Int} (hf:Fit h w kh kw sh sw tp lf bt rt r q) (hn:0≤n∧n<r*q):Cor h w kh kw (n / q*sh-tp) (n % q*sw-lf):=by
 obtain⟨⟨h1,w1,q9⟩,⟨k1,k2,k3,k4,k5,k6,k7,k8⟩,r1,q1,z1,z2⟩:=hf
 have a1:=Int.ediv_nonneg hn.1 (show 0≤q by omega)
 have a2:n / q<r:=Int.ediv_lt_of_lt_mul (by omega) hn.2
 have b1:=Int.emod_nonneg n (show q≠0 by omega)
 have b2:=Int.emod_lt_of_pos n (show 0<q by omega)
 have c1:=Int.mul_le_mul_of_nonneg_right (show n / q≤r-1 by omega) (show 0≤sh by omega)
 have c2:=Int.mul_le_mul_of_nonneg_right (show n % q≤q-1 by omega) (show 0≤sw by omega)
 have c3:=Int.mul_nonneg a1 (show 0≤sh by omega)
 have c4:=Int.mul_nonneg b1 (show 0≤sw by omega)
 refine⟨h1,w1,q9,k1,k2,⟨by omega,by omega⟩,⟨by omega,by omega⟩⟩
def dmB (n:Int):Bool:=decide (1≤n∧n≤1024)
theorem dmB_yes {n:Int} (h:dmB n=true):1≤n∧n≤1024:=by simpa [dmB] using h
theorem dmB_no {n:Int} (h:dmB n=false):¬ (1≤n∧n≤1024):=by simpa [dmB] using h
theorem dim_any (n:Int) (W:World) :
  Calls Tryz.prog 90 #[U i6 n] W fun e w'=>e=.returned (.bool (dmB n))∧w'=W:=by
 by_cases k1:1≤n
 ·have HR:Hid (decide (n≤1024)=dmB n):=by unfold Hid dmB;simp [k1]
  go_enter Tryz.func90,Tryz.ntmps90
  go_wp2
  go_ret
  exact⟨retB HR.out,rfl⟩
 ·have HR:Hid (false=dmB n):=by unfold Hid dmB;simp [k1]
  go_enter Tryz.func90,Tryz.ntmps90
  go_wp2
  go_ret
  exact⟨retB HR.out,rfl⟩
theorem rvalid_any (h w c:Int) (W:World) :
  Calls Tryz.prog 75 #[.agg #[U i6 h,U i6 w,U i6 c]] W fun e w'=>e=.returned (.bool (vS h w c))∧Below W.heap.size W w':=by
 cases k1:dmB h with
 | false =>
  have HR:Hid (false=vS h w c):=by unfold Hid;rw [vS_not (by have:=dmB_no k1;omega)]
  go_enter Tryz.func75,Tryz.ntmps75
  go_wp2_with fail
  refine (dim_any _ _).mono ?_
  rintro e w1 ⟨rfl,rfl⟩
  go_wp2
  go_ret
  exact⟨retB HR.out,(St.start W).new.below⟩
 | true =>
  cases k2:dmB w with
  | false =>
   have HR:Hid (false=vS h w c):=by unfold Hid;rw [vS_not (by have:=dmB_no k2;omega)]
   go_enter Tryz.func75,Tryz.ntmps75
   go_wp2_with fail
   refine (dim_any _ _).mono ?_
   rintro e w1 ⟨rfl,rfl⟩
   go_wp2_with fail
   refine (dim_any _ _).mono ?_
   rintro e w1 ⟨rfl,rfl⟩
   go_wp2
   go_ret
   exact⟨retB HR.out,(St.start W).new.below⟩
  | true =>
   cases k3:dmB c with
   | false =>
    have HR:Hid (false=vS h w c):=by unfold Hid;rw [vS_not (by have:=dmB_no k3;omega)]
    go_enter Tryz.func75,Tryz.ntmps75
    go_wp2_with fail
    refine (dim_any _ _).mono ?_
    rintro e w1 ⟨rfl,rfl⟩
    go_wp2_with fail
    refine (dim_any _ _).mono ?_
    rintro e w1 ⟨rfl,rfl⟩
    go_wp2_with fail
    refine (dim_any _ _).mono ?_
    rintro e w1 ⟨rfl,rfl⟩
    go_wp2
    go_ret
    exact⟨retB HR.out,(St.start W).new.below⟩
   | true =>
    have h1:=dmB_yes k1
    have w1:=dmB_yes k2
    have c1:=dmB_yes k3
    obtain⟨p1,p2⟩:=mul_bd h1.1 h1.2 w1.1 w1.2
    obtain⟨q1,q2⟩:=mul_bd p1 p2 c1.1 c1.2
    have HV:Hid (decide (h*w*c≤16384)=vS h w c):=by
     unfold Hid vS
     exact decide_eq_decide.2 ⟨fun g=>⟨by omega,by omega,by omega,g⟩,fun g=>g.2.2.2⟩
    clear h1 w1 c1
    obtain⟨p,hp⟩:∃ p,h*w=p:=⟨_,rfl⟩
    rw [hp] at p1 p2 q1 q2 HV
    obtain⟨q,hq⟩:∃ q,p*c=q:=⟨_,rfl⟩
    rw [hq] at q1 q2 HV
    go_enter Tryz.func75,Tryz.ntmps75
    go_wp2_with fail
    refine (dim_any _ _).mono ?_
    rintro e w1 ⟨rfl,rfl⟩
    go_wp2_with fail
    refine (dim_any _ _).mono ?_
    rintro e w1 ⟨rfl,rfl⟩
    go_wp2_with fail
    refine (dim_any _ _).mono ?_
    rintro e w1 ⟨rfl,rfl⟩
    go_wp2
    go_ret
    exact⟨retB HV.out,(St.start W).new.below⟩
end Go.Proofs.YtccoanknofhmaaaGreat
