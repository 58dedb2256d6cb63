/- Shapes in a block of their own; one op in plain numbers; laws of memory for take and one. A region that draws its order and whose last operations wait for all that stands ahead of them: what stands ahead is walked once, in the order of the text, in every world of a class; what is last is walked as it stands. take of package model: what it answers, and what it leaves in memory. outsideOps of package model; laws of memory for goThrough and Look. Models in plain numbers: the shapes, the work, the fault; ops in memory. -/
import Derived.Test.YtccoanknofhmaaaGreatGq09
import Derived.Test.YtccoanknofhmaaaGreatGq10
import Derived.Test.YtccoanknofhmaaaGreatGq11
import Derived.Sort.BigQuietIn
import Derived.TacticsIn
import Derived.Deep.RegionLawGrows
import Derived.ControlIn
namespace Go.Proofs.YtccoanknofhmaaaGreat
open Go.Value renaming int → U, slice → Sl
open Go.IntKind renaming i64 → i6
set_option maxRecDepth 100000
set_option maxHeartbeats 16000000
open Go.ChangeShapes Go.WideShapes Go.ChangeAt Go.RowKit
set_option linter.unusedVariables false
theorem Wd.hp {w0:World} {l:List (Nat×Array Value×TypeId)} {B:Nat} {c:Array Value} {t:TypeId} (hm:(B,c,t)∈l):∀ w,(∃ n:Wd w0 l,w=n.w)→w.heap[B]? = some (.cells c t (0,0)):=by
 rintro w ⟨n,rfl⟩
 exact (n.h.2 _ hm).1
def s3:List (Int×Int×Int)→List Value
 | []=>[]
 | s :: l=>U i6 s.1 :: U i6 s.2.1 :: U i6 s.2.2 :: s3 l
theorem s3_len:∀ l:List (Int×Int×Int),(s3 l).length=l.length*3
 | []=>rfl
 | s :: l=>by simp only [s3,List.length_cons,s3_len l];omega
theorem s3_app:∀ l r:List (Int×Int×Int),s3 (l++r)=s3 l++s3 r
 | [],_=>rfl
 | s :: l,r=>by simp only [List.cons_append,s3,s3_app l r]
theorem s3_at:∀ (l:List (Int×Int×Int)) (i:Nat),i<l.length→(s3 l)[i*3]? = some (U i6 (l.getD i (0,0,0)).1)∧(s3 l)[i*3+1]? = some (U i6 (l.getD i (0,0,0)).2.1)∧(s3 l)[i*3+2]? = some (U i6 (l.getD i (0,0,0)).2.2)
 | [],_,h=>by simp at h
 | s :: l,0,_=>⟨rfl,rfl,rfl⟩
 | s :: l,i+1,h=>by
  have:=s3_at l i (by simpa using h)
  rw [show (i+1)*3=i*3+3 by omega]
  simpa [s3,List.getD] using this
def Cu (cur:Array Value) (cap:Nat) (L:List (Int×Int×Int)):Prop:=cur.size=cap*3∧L.length≤cap∧cur.toList.take (L.length*3)=s3 L
theorem Cu.at {cur:Array Value} {cap:Nat} {L:List (Int×Int×Int)} (h:Cu cur cap L) {i:Nat} (hi:i<L.length) :
  cur[i*3]? = some (U i6 (L.getD i (0,0,0)).1)∧cur[i*3+1]? = some (U i6 (L.getD i (0,0,0)).2.1)∧cur[i*3+2]? = some (U i6 (L.getD i (0,0,0)).2.2):=by
 have g:∀ j,j<L.length*3→cur[j]? = (s3 L)[j]?:=fun j hj=>by rw [← h.2.2,List.getElem?_take,if_pos hj];simp
 obtain⟨a1,a2,a3⟩:=s3_at L i hi
 exact⟨(g _ (by omega)).trans a1,(g _ (by omega)).trans a2,(g _ (by omega)).trans a3⟩
theorem Cu.add {cur:Array Value} {cap:Nat} {L:List (Int×Int×Int)} (h:Cu cur cap L) (hr:L.length<cap) (x y z:Int) :
  Cu (((cur.setIfInBounds (L.length*3) (U i6 x)).setIfInBounds (L.length*3+1) (U i6 y)).setIfInBounds (L.length*3+2) (U i6 z)) cap (L++[(x,y,z)]):=by
 obtain⟨h1,h2,h3⟩:=h
 refine⟨by simp [h1],by simp;omega,?_⟩
 rw [s3_app,← h3]
 apply List.ext_getElem?
 intro j
 have hsz:cur.toList.length=cap*3:=by simpa using h1
 simp only [List.length_append,List.length_cons,List.length_nil,Array.toList_setIfInBounds]
 rw [List.getElem?_take]
 have hl:(cur.toList.take (L.length*3)).length=L.length*3:=by rw [List.length_take];omega
 by_cases q1:j<L.length*3
 ·rw [if_pos (by omega),List.getElem?_append_left (by omega),List.getElem?_take,if_pos q1]
  rw [List.getElem?_set_ne (by omega),List.getElem?_set_ne (by omega),List.getElem?_set_ne (by omega)]
 ·rw [List.getElem?_append_right (by omega),hl]
  by_cases q2:j<L.length*3+3
  ·rw [if_pos (by omega)]
   rcases (show j=L.length*3∨j=L.length*3+1∨j=L.length*3+2 by omega) with rfl | rfl | rfl
   ·rw [List.getElem?_set_ne (by omega),List.getElem?_set_ne (by omega),List.getElem?_set_self (by omega),Nat.sub_self];rfl
   ·rw [List.getElem?_set_ne (by omega),List.getElem?_set_self (by simp;omega),show L.length*3+1-L.length*3=1 by omega];rfl
   ·rw [List.getElem?_set_self (by simp;omega),show L.length*3+2-L.length*3=2 by omega];rfl
  ·rw [if_neg (by omega),List.getElem?_eq_none (by simp [s3];omega)]
def ShA (L:List (Int×Int×Int)) (a:Int):Int×Int×Int:=L.getD a.toNat (0,0,0)
def mk3 (k m kh kw sh sw tp lf bt rt:Int) (s:Int×Int×Int):Int×Int×Int:=mkS k m kh kw sh sw tp lf bt rt s.1 s.2.1 s.2.2
def st3 (k kh kw:Int) (s:Int×Int×Int):Int:=stR k kh kw s.1 s.2.1 s.2.2
def opE (k a b m kh kw sh sw tp lf bt rt:Int) (lw lb:Nat) (sm ss um us z p lo hi:Int) (L:List (Int×Int×Int)):Int :=
 if fmE k a b L.length (ozB k b m kh kw sh sw tp lf bt rt lw lb sm ss um us z p)≠0 then fmE k a b L.length (ozB k b m kh kw sh sw tp lf bt rt lw lb sm ss um us z p)
 else if mkE k m kh kw sh sw tp lf bt rt (ShA L a).1 (ShA L a).2.1 (ShA L a).2.2≠0 then mkE k m kh kw sh sw tp lf bt rt (ShA L a).1 (ShA L a).2.1 (ShA L a).2.2
 else if k=6∧ShA L a≠ShA L b then 50
 else if rdB k=true∧512<st3 k kh kw (ShA L a) then 84
 else nuE k (mk3 k m kh kw sh sw tp lf bt rt (ShA L a)).2.2 (st3 k kh kw (ShA L a)) lw lb sm ss um us z p lo hi
def opW (k m kh kw sh sw tp lf bt rt:Int) (s:Int×Int×Int):Int:=(mk3 k m kh kw sh sw tp lf bt rt s).1*(mk3 k m kh kw sh sw tp lf bt rt s).2.1*(mk3 k m kh kw sh sw tp lf bt rt s).2.2*st3 k kh kw s
def tkE (k a b m kh kw sh sw tp lf bt rt:Int) (lw lb:Nat) (sm ss um us z p lo hi:Int) (L:List (Int×Int×Int)) (wk:Int):Int :=
 if opE k a b m kh kw sh sw tp lf bt rt lw lb sm ss um us z p lo hi L≠0 then opE k a b m kh kw sh sw tp lf bt rt lw lb sm ss um us z p lo hi L else if 131072<wk+opW k m kh kw sh sw tp lf bt rt (ShA L a) then 86 else 0
open Go.RowKit
section
variable {F:Fence} {n:Nat} {P:Program} {ops:Array Oper} {md:Region.Mode} {C:World→Prop} {Q:Exit→Act→World→Prop} {k:Nat}
def Shut (md:Region.Mode) (ops:Array Oper) (listed:Array Bool):Prop :=
 ∀ j o,ops[j]? = some o→listed.getD j true=true→j<listed.size→∀ e∈o.after,Region.binds md e=true→listed.getD e.on false=true
theorem getD_lt {listed:Array Bool} {i:Nat} (h:listed.getD i false=true):i<listed.size:=by
 rcases Nat.lt_or_ge i listed.size with h' | h'
 ·exact h'
 ·simp [Array.getElem?_eq_none h'] at h
theorem Shut.set {listed:Array Bool} {j:Nat} (h:Shut md ops listed) (hj:j∈Region.ready md ops listed):Shut md ops (listed.setIfInBounds j true):=by
 intro i o ho hi hlt e he hb
 by_cases hij:i=j
 ·subst hij
  obtain⟨_,o',ho',hall⟩:=mem_ready.1 hj
  rw [ho] at ho';cases ho'
  exact getD_set_true (hall e he hb)
 ·rw [getD_set_ne true (Ne.symm hij)] at hi
  exact getD_set_true (h i o ho hi (by simpa using hlt) e he hb)
def waits (md:Region.Mode) (ops:Array Oper) (j:Nat):List Nat :=
 match ops[j]? with
 | some o=>((o.after.toList.filter fun e=>Region.binds md e).map fun e=>e.on)
 | none=>[]
def allWaits (md:Region.Mode) (ops:Array Oper):Nat→List Nat→List Nat
 | 0,s=>s
 | f+1,s=>s++allWaits md ops f (s.flatMap (waits md ops))
theorem allWaits_listed {listed:Array Bool} (h:Shut md ops listed):∀ (f:Nat) (s:List Nat),(∀ i∈s,listed.getD i false=true)→∀ i∈allWaits md ops f s,listed.getD i false=true
 | 0,_,hs,i,hi=>hs i hi
 | f+1,s,hs,i,hi=>by
  rcases List.mem_append.1 hi with hi | hi
  ·exact hs i hi
  ·refine allWaits_listed h f _ (fun i' hi'=>?_) i hi
   obtain⟨j,hj,hj'⟩:=List.mem_flatMap.1 hi'
   unfold waits at hj'
   cases ho:ops[j]? with
   | none=>rw [ho] at hj';cases hj'
   | some o =>
    rw [ho] at hj'
    simp only [List.mem_map,List.mem_filter] at hj'
    obtain⟨e,⟨he,hb⟩,rfl⟩:=hj'
    have h1:=hs j hj
    have h2:=getD_lt h1
    exact h j o ho (by simp [h2] at h1 ⊢;exact h1) h2 e (by simpa using he) hb
def coverB (md:Region.Mode) (ops:Array Oper) (k:Nat):Bool :=
 (List.range ops.size).all fun j=>decide (j<k) || (List.range k).all fun i=>(allWaits md ops ops.size (waits md ops j)).contains i
theorem cover_spec {listed:Array Bool} (h:Shut md ops listed) (hT:coverB md ops k=true) {i j:Nat} (hj:j∈Region.ready md ops listed) (hk:¬ j<k) (hi:i<k):listed.getD i false=true:=by
 obtain⟨_,o,ho,hall⟩:=mem_ready.1 hj
 simp only [coverB,List.all_eq_true,List.mem_range,Bool.or_eq_true,decide_eq_true_eq] at hT
 rcases hT j (Array.getElem?_eq_some_iff.1 ho).1 with h1 | h1
 ·exact absurd h1 hk
 ·have h2:=h1 i hi
  refine allWaits_listed h _ _ (fun i' hi'=>?_) i (by simpa using h2)
  unfold waits at hi'
  rw [ho] at hi'
  simp only [List.mem_map,List.mem_filter] at hi'
  obtain⟨e,⟨he,hb⟩,rfl⟩:=hi'
  exact hall e (by simpa using he) hb
def wpAnyT (F:Fence) (n:Nat) (P:Program) (md:Region.Mode) (ops:Array Oper) (C:World→Prop) (Q:Exit→Act→World→Prop) (k:Nat):Nat→Array Bool→Act→Prop
 | 0,listed,a=>Region.ready md ops listed=[]∧∀ w,C w→Q .normal a w
 | fuel+1,listed,a =>
  (Region.ready md ops listed=[]→∀ w,C w→Q .normal a w) ∧
  ∀ i∈Region.ready md ops listed,(i<k→qOpIn F n P ops C i (wpAnyT F n P md ops C Q k fuel (listed.setIfInBounds i true)) a) ∧
   (¬ i<k→∀ w,C w→wpOpIn F n P ops Q i (wpAnyIn F n P md ops Q fuel (listed.setIfInBounds i true)) a w)
theorem wpAnyIn_of_T (hro:F.round=none):∀ (fuel:Nat) (listed:Array Bool) (a:Act) (w:World),C w→wpAnyT F n P md ops C Q k fuel listed a→wpAnyIn F n P md ops Q fuel listed a w
 | 0,_,_,_,hw,h=>⟨h.1,h.2 _ hw⟩
 | fuel+1,_,_,_,hw,h=>⟨fun h0=>h.1 h0 _ hw,fun i hi=>by
   by_cases hik:i<k
   ·exact wpOpIn_of_qOpIn hro hw (fun a' w' hw'=>wpAnyIn_of_T hro fuel _ a' w' hw') ((h.2 i hi).1 hik)
   ·exact (h.2 i hi).2 hik _ hw⟩
theorem wpAnyT_first {i:Nat} {oi:Oper} {v:Value} (hi:ops[i]? = some oi) (hik:i<k) (hT:coverB md ops k=true) (hsel:∀ (j:Nat) (o:Oper) cs b,ops[j]? = some o→o.op≠.select cs b) :
  ∀ (fuel:Nat) (listed:Array Bool) (a:Act),Shut md ops listed →
   (∀ j oj,ops[j]? = some oj→j≠i→listed.getD j true=false→(∀ e∈oj.after,Region.binds md e=true→e.on≠i)→oi.apart ops oj=true) →
   i∈Region.ready md ops listed→YieldsQuiet F n P ops C oi v a →
   wpAnyT F n P md ops C Q k fuel (listed.setIfInBounds i true) (a.put oi.dst v)→wpAnyT F n P md ops C Q k (fuel+1) listed a:=by
 intro fuel
 induction fuel with
 | zero =>
  intro listed a _ _ hr hy H
  refine⟨fun h=>(by rw [h] at hr;cases hr),fun j hj=>?_⟩
  by_cases hji:j=i
  ·subst hji;exact⟨fun _=>hy.qOpIn hi H,fun h=>absurd hik h⟩
  ·have:=ready_mono hj hji
   rw [H.1] at this
   cases this
 | succ fuel ih =>
  intro listed a hS hfree hr hy H
  refine⟨fun h=>(by rw [h] at hr;cases hr),fun j hj=>?_⟩
  by_cases hji:j=i
  ·subst hji;exact⟨fun _=>hy.qOpIn hi H,fun h=>absurd hik h⟩
  ·refine⟨fun hjk=>?_,fun hjk=>?_⟩
   ·have h1:=(H.2 j (ready_mono hj hji)).1 hjk
    obtain⟨hjun,oj,hoj,hall⟩:=mem_ready.1 hj
    have hnot:∀ e∈oj.after,Region.binds md e=true→e.on≠i:=fun e he hb heq=>by
     have h1:=hall e he hb
     have h0:=(mem_ready.1 hr).1
     rw [heq] at h1
     have:=getD_lt h1
     simp [this] at h0 h1;rw [h0] at h1;cases h1
    have h2:=qOpIn_put hoj (hfree j oj hoj hji hjun hnot) (fun cs b=>hsel i oi cs b hi) (fun cs b=>hsel j oj cs b hoj) hy h1
    have hfree':∀ k ok,ops[k]? = some ok→k≠i→(listed.setIfInBounds j true).getD k true=false →
      (∀ e∈ok.after,Region.binds md e=true→e.on≠i)→oi.apart ops ok=true:=fun k ok hk hki hun hno=>by
     refine hfree k ok hk hki ?_ hno
     by_cases hjk:j=k
     ·subst hjk;exact hjun
     ·rw [getD_set_ne true hjk] at hun;exact hun
    refine qOpIn_mono (fun a' h3=>ih (listed.setIfInBounds j true) a' (hS.set hj) hfree' (ready_mono hr (Ne.symm hji)) h3.1 ?_) h2
    rw [Array.setIfInBounds_comm _ _ hji]
    exact h3.2
   ·have h1:=cover_spec hS hT hj hjk hik
    have h0:=(mem_ready.1 hr).1
    have:=getD_lt h1
    simp [this] at h0 h1;rw [h0] at h1;cases h1
def chainFrom (md:Region.Mode) (ops:Array Oper):Nat→Nat→Array Bool→Bool
 | 0,_,listed=>(Region.ready md ops listed).isEmpty
 | f+1,i,listed=>decide (Region.ready md ops listed=[i]) && chainFrom md ops f (i+1) (listed.setIfInBounds i true)
theorem any_of_chain:∀ (l:List Oper) (i:Nat) (listed:Array Bool) (a:Act) (w:World),(∀ j,l[j]? = ops[i+j]?)→chainFrom md ops l.length i listed=true→wpListIn F n P ops Q l a w→wpAnyIn F n P md ops Q l.length listed a w
 | [],_,_,_,_,_,hB,h=>⟨by simpa [chainFrom] using hB,h⟩
 | o :: l,i,listed,a,w,hl,hB,h=>by
  have h0:ops[i]? = some o:=by simpa using (hl 0).symm
  simp only [List.length_cons,chainFrom,Bool.and_eq_true,decide_eq_true_eq] at hB
  refine wpAnyIn_all hB.1 (by simp) fun j hj=>?_
  obtain rfl:j=i:=by simpa using hj
  have ih:=any_of_chain l (j+1) (listed.setIfInBounds j true)
  have hl':∀ m,l[m]? = ops[j+1+m]?:=fun m=>by have:=hl (m+1);simpa [Nat.add_assoc,Nat.add_comm 1 m] using this
  refine wpOpIn_mono (fun a' w' h'=>ih a' w' hl' hB.2 h') ?_
  unfold wpOpIn
  simp only [h0]
  exact h
def headFrom (md:Region.Mode) (ops:Array Oper) (m:Nat):Nat→Nat→Array Bool→Bool
 | 0,i,listed=>chainFrom md ops m i listed
 | f+1,i,listed=>(Region.ready md ops listed).contains i && Region.free md ops listed i && headFrom md ops m f (i+1) (listed.setIfInBounds i true)
theorem anyT_of_chain {l:List Oper} {i:Nat} {listed:Array Bool} {a:Act} (hk:¬ i<k) (hl:∀ j,l[j]? = ops[i+j]?) (hB:chainFrom md ops l.length i listed=true) (h:∀ w,C w→wpListIn F n P ops Q l a w):wpAnyT F n P md ops C Q k l.length listed a:=by
 cases l with
 | nil=>exact⟨by simpa [chainFrom] using hB,h⟩
 | cons o l =>
  have hB':=hB
  simp only [List.length_cons,chainFrom,Bool.and_eq_true,decide_eq_true_eq] at hB'
  refine⟨fun h0=>absurd (hB'.1 ▸ h0) (by simp),fun j hj=>?_⟩
  rw [hB'.1] at hj
  obtain rfl:j=i:=by simpa using hj
  refine⟨fun h=>absurd h hk,fun _ w hw=>?_⟩
  have:=any_of_chain (o :: l) j listed a w hl hB (h w hw)
  exact this.2 j (by rw [hB'.1];simp)
theorem wpAnyT_lex {t:List Oper} (hs:Region.noSelect ops=true) (hT:coverB md ops k=true):∀ (l:List Oper) (i:Nat) (listed:Array Bool) (a:Act),i+l.length=k→(∀ j,(l++t)[j]? = ops[i+j]?)→Shut md ops listed →
  headFrom md ops t.length l.length i listed=true→wpQuietIn F n P ops C (fun a=>∀ w,C w→wpListIn F n P ops Q t a w) l a→wpAnyT F n P md ops C Q k (l.length+t.length) listed a
 | [],i,_,_,hk,hl,_,hB,h=>by
  simp only [List.length_nil,Nat.zero_add]
  exact anyT_of_chain (i:=i) (by simp at hk;omega) (by simpa using hl) hB h
 | o :: l,i,listed,a,hk,hl,hS,hB,h=>by
  have h0:ops[i]? = some o:=by simpa using (hl 0).symm
  simp only [List.length_cons,headFrom,Bool.and_eq_true] at hB
  obtain⟨⟨hr,hf⟩,hB'⟩:=hB
  have hr':i∈Region.ready md ops listed:=by simpa using hr
  have hst:qOpIn F n P ops C i (wpQuietIn F n P ops C (fun a=>∀ w,C w→wpListIn F n P ops Q t a w) l) a:=by unfold qOpIn;simp only [h0];exact h
  obtain⟨v,hy,hK⟩:=yieldsQuiet_of_qOpIn h0 hst
  have e:(o :: l).length+t.length=(l.length+t.length)+1:=by simp;omega
  rw [e]
  exact wpAnyT_first h0 (by simp at hk;omega) hT (Region.noSelect_spec hs) _ listed a hS (Region.free_spec h0 hf) hr' hy
   (wpAnyT_lex hs hT l (i+1) _ _ (by simp at hk;omega) (fun j=>by have:=hl (j+1);simpa [Nat.add_assoc,Nat.add_comm 1 j] using this) (hS.set hr') hB' hK)
def tailB (ops:Array Oper) (k:Nat):Bool:=Region.noSelect ops && coverB .any ops k && headFrom .any ops (ops.size-k) k 0 (Array.replicate ops.size false)
theorem region_tail {id:Nat} {a:Act} {w:World} {l t:List Oper} (hro:F.round=none) (hm:P.follows .mixedOrders=true) (hB:tailB (l++t).toArray l.length=true) (hC:C w.drew)
  (h:wpQuietIn F n P (l++t).toArray C (fun a=>∀ w,C w→wpListIn F n P (l++t).toArray Q t a w) l a):(Code.region id (l++t).toArray true).wpIn F n P Q a w:=by
 simp only [tailB,Bool.and_eq_true] at hB
 refine wpIn_region_any hm (wpAnyIn_of_T (C:=C) (k:=l.length) hro _ _ _ _ hC ?_)
 have e:(l++t).toArray.size-l.length=t.length:=by simp
 rw [e] at hB
 have:=wpAnyT_lex (F:=F) (n:=n) (P:=P) (C:=C) (Q:=Q) (t:=t) hB.1.1 hB.1.2 l 0 (Array.replicate (l++t).toArray.size false) a (by simp) (by simp) (fun j o _ hj hlt=>by
  simp at hlt
  simp [hlt] at hj) hB.2 h
 simpa using this
theorem region_tail_at (k:Nat) {id:Nat} {a:Act} {w:World} {L:List Oper} (hk:decide (k≤L.length)=true) (hro:F.round=none) (hm:P.follows .mixedOrders=true) (hB:tailB L.toArray k=true) (hC:C w.drew)
  (h:wpQuietIn F n P L.toArray C (fun a=>∀ w,C w→wpListIn F n P L.toArray Q (L.drop k) a w) (L.take k) a):(Code.region id L.toArray true).wpIn F n P Q a w:=by
 have e:L.take k++L.drop k=L:=List.take_append_drop k L
 have el:(L.take k).length=k:=by rw [List.length_take];exact Nat.min_eq_left (of_decide_eq_true hk)
 have:=region_tail (F:=F) (n:=n) (P:=P) (C:=C) (Q:=Q) (id:=id) (a:=a) (w:=w) (l:=L.take k) (t:=L.drop k) hro hm (by rw [e,el];exact hB) hC (by rw [e];exact h)
 rw [e] at this
 exact this
end
theorem take_f (k a b m kh kw sh sw tp lf bt rt:Int) (wa:Option Addr) (lw cw:Nat) (ba:Option Addr) (lb cb:Nat) (sm ss um us z p lo hi:Int) (W0 W:World) (B g cap:Nat) (cur:Array Value) (L:List (Int×Int×Int)) (wk x:Int) (l:List (Nat×Array Value×TypeId))
  (s:St W0 W ((B,#[Sl (some ⟨g,0,none⟩) L.length cap,U i6 wk],98) :: (g,cur,23) :: l)) (hf:fmE k a b L.length (ozB k b m kh kw sh sw tp lf bt rt lw lb sm ss um us z p)=x) (hx:x≠0) (hcap:cap≤65) (hlc:L.length≤cap) :
  Calls Tryz.prog 66 #[.pointer (some ⟨B,0,none⟩),.agg #[U i6 k,U i6 a,U i6 b,U i6 m,U i6 kh,U i6 kw,U i6 sh,U i6 sw,U i6 tp,U i6 lf,U i6 bt,U i6 rt,Sl wa lw cw,Sl ba lb cb,U i6 sm,U i6 ss,U i6 um,U i6 us,U i6 z,U i6 p,U i6 lo,U i6 hi]] W fun e w'=>e=.returned (U i6 x)∧St W0 w' ((B,#[Sl (some ⟨g,0,none⟩) L.length cap,U i6 wk],98) :: (g,cur,23) :: l):=by
 have hF:Hid (∀ W,Calls Tryz.prog 82 #[.agg #[U i6 k,U i6 a,U i6 b,U i6 m,U i6 kh,U i6 kw,U i6 sh,U i6 sw,U i6 tp,U i6 lf,U i6 bt,U i6 rt,Sl wa lw cw,Sl ba lb cb,U i6 sm,U i6 ss,U i6 um,U i6 us,U i6 z,U i6 p,U i6 lo,U i6 hi],U i6 (L.length:Int)] W fun e w'=>e=.returned (U i6 x)∧Below W.heap.size W w'):=fun W=>by rw [← hf];exact form_any k a b m kh kw sh sw tp lf bt rt wa lw cw ba lb cb sm ss um us z p lo hi _ W
 obtain⟨n,hn⟩:∃ n,L.length=n:=⟨_,rfl⟩
 rw [hn] at s hF hlc ⊢
 clear hf hn
 have s0:=s.new (c:=#[U i6 k,U i6 a,U i6 b,U i6 m,U i6 kh,U i6 kw,U i6 sh,U i6 sw,U i6 tp,U i6 lf,U i6 bt,U i6 rt,Sl wa lw cw,Sl ba lb cb,U i6 sm,U i6 ss,U i6 um,U i6 us,U i6 z,U i6 p,U i6 lo,U i6 hi]) (t:=42)
 go_enter Tryz.func66,Tryz.ntmps66
 go_upto_region 1 with fail
 obtain⟨c1,g1,c2,g2,c3,g3,-⟩:=rulesQ_st s0
 have hne:=Nonempty.intro (Wd.mk _ s0)
 refine region_held s0 (by kernel_rfl) (by kernel_rfl) ?_
 go_big_quiet_want
 refine quiet_ld 42 (.tmp 3) rfl _ rfl 42 _ _ (Wd.hp (List.mem_cons_self)) Tryz.underlying42 rfl (by kernel_rfl) rfl ?_
 go_simp
 go_big_quiet_on
 repeat (go_big_quiet_step ((go_at_call 82;exact held_of (hF.out _))))
 refine wpQuiet_nil ?_
 intro _ hw'
 obtain⟨nq,rfl⟩:=hw'
 go_wp2
 go_ret
 exact⟨rfl,nq.h.tail⟩
theorem ne3 (T:TypeId) (hT:T=23) (a b c d e f:Int) (v:Bool) (h:decide (a=d∧b=e∧c=f)=v):∀ W,(binOp .neq T (.agg #[U i6 a,U i6 b,U i6 c]) (.agg #[U i6 d,U i6 e,U i6 f])).run Tryz.prog W=.ok (.bool (!v)) W:=by
 intro W;subst h hT;simp [go_sem];repeat' split
 all_goals simp_all
def TkP (W0:World) (B g cap n:Nat) (L:List (Int×Int×Int)) (l:List (Nat×Array Value×TypeId)) (e0:Int) (made:Int×Int×Int) (wk2:Int) (w':World):Prop :=
 ∃ (n':Nat) (cur':Array Value) (wk':Int),St W0 w' ((B,#[Sl (some ⟨g,0,none⟩) n' cap,U i6 wk'],98) :: (g,cur',23) :: l)∧(e0=0→n'=n+1∧wk'=wk2∧Cu cur' cap (L++[made]))
theorem TkP.no {W0:World} {B g cap n n':Nat} {L:List (Int×Int×Int)} {l:List (Nat×Array Value×TypeId)} {e0:Int} {made:Int×Int×Int} {wk2 wk':Int} {w':World} {cur':Array Value} (h:St W0 w' ((B,#[Sl (some ⟨g,0,none⟩) n' cap,U i6 wk'],98) :: (g,cur',23) :: l)) (he:e0≠0):TkP W0 B g cap n L l e0 made wk2 w':=⟨n',cur',wk',h,fun q=>absurd q he⟩
theorem tk_1 {k a b m kh kw sh sw tp lf bt rt:Int} {lw lb:Nat} {sm ss um us z p lo hi:Int} {L:List (Int×Int×Int)} {wk x:Int} (hf:fmE k a b L.length (ozB k b m kh kw sh sw tp lf bt rt lw lb sm ss um us z p)=x) (hx:x≠0):tkE k a b m kh kw sh sw tp lf bt rt lw lb sm ss um us z p lo hi L wk=x:=by
 have:opE k a b m kh kw sh sw tp lf bt rt lw lb sm ss um us z p lo hi L=x:=by unfold opE;rw [hf,if_pos hx]
 unfold tkE;rw [this,if_pos hx]
theorem tk_2 {k a b m kh kw sh sw tp lf bt rt:Int} {lw lb:Nat} {sm ss um us z p lo hi:Int} {L:List (Int×Int×Int)} {wk h w c x:Int} (hf:Hid (fmE k a b L.length (ozB k b m kh kw sh sw tp lf bt rt lw lb sm ss um us z p)=0)) (hA:ShA L a=(h,w,c)) (hx:mkE k m kh kw sh sw tp lf bt rt h w c=x) (h0:x≠0):tkE k a b m kh kw sh sw tp lf bt rt lw lb sm ss um us z p lo hi L wk=x:=by
 have:opE k a b m kh kw sh sw tp lf bt rt lw lb sm ss um us z p lo hi L=x:=by unfold opE;rw [hf.out,if_neg (by decide),hA];simp only;rw [hx,if_pos h0]
 unfold tkE;rw [this,if_pos h0]
theorem tk_3 {k a b m kh kw sh sw tp lf bt rt:Int} {lw lb:Nat} {sm ss um us z p lo hi:Int} {L:List (Int×Int×Int)} {wk h w c:Int} (hf:Hid (fmE k a b L.length (ozB k b m kh kw sh sw tp lf bt rt lw lb sm ss um us z p)=0)) (hA:ShA L a=(h,w,c)) (hx:mkE k m kh kw sh sw tp lf bt rt h w c=0) (hn:decide (k=6∧ShA L a≠ShA L b)=true):tkE k a b m kh kw sh sw tp lf bt rt lw lb sm ss um us z p lo hi L wk=50:=by
 have hn':=of_decide_eq_true hn
 have:opE k a b m kh kw sh sw tp lf bt rt lw lb sm ss um us z p lo hi L=50:=by
  unfold opE
  rw [if_neg (by rw [hf.out];decide),if_neg (by rw [hA];simp only;rw [hx];decide),if_pos hn']
 unfold tkE;rw [this];rfl
theorem tk_4 {k a b m kh kw sh sw tp lf bt rt:Int} {lw lb:Nat} {sm ss um us z p lo hi:Int} {L:List (Int×Int×Int)} {wk h w c st:Int} (hf:Hid (fmE k a b L.length (ozB k b m kh kw sh sw tp lf bt rt lw lb sm ss um us z p)=0)) (hA:ShA L a=(h,w,c)) (hx:mkE k m kh kw sh sw tp lf bt rt h w c=0) (hn:decide (k=6∧ShA L a≠ShA L b)=false) (hst:stR k kh kw h w c=st) (hr:decide (rdB k=true∧512<st)=true):tkE k a b m kh kw sh sw tp lf bt rt lw lb sm ss um us z p lo hi L wk=84:=by
 have hn':=of_decide_eq_false hn
 have hr':=of_decide_eq_true hr
 have:opE k a b m kh kw sh sw tp lf bt rt lw lb sm ss um us z p lo hi L=84:=by
  unfold opE
  rw [if_neg (by rw [hf.out];decide),if_neg (by rw [hA];simp only;rw [hx];decide),if_neg hn',if_pos (by unfold st3;rw [hA];simp only;rw [hst];exact hr')]
 unfold tkE;rw [this];rfl
theorem opE_n {k a b m kh kw sh sw tp lf bt rt:Int} {lw lb:Nat} {sm ss um us z p lo hi:Int} {L:List (Int×Int×Int)} {h w c st H V C:Int} (hf:Hid (fmE k a b L.length (ozB k b m kh kw sh sw tp lf bt rt lw lb sm ss um us z p)=0)) (hA:ShA L a=(h,w,c)) (hx:mkE k m kh kw sh sw tp lf bt rt h w c=0) (hO:mkO k m kh kw sh sw tp lf bt rt h w c=(H,V,C)) (hn:decide (k=6∧ShA L a≠ShA L b)=false) (hst:stR k kh kw h w c=st) (hr:decide (rdB k=true∧512<st)=false):opE k a b m kh kw sh sw tp lf bt rt lw lb sm ss um us z p lo hi L=nuE k C st lw lb sm ss um us z p lo hi:=by
 have hn':=of_decide_eq_false hn
 have hr':=of_decide_eq_false hr
 rw [mkO_ok hx] at hO
 unfold opE
 rw [if_neg (by rw [hf.out];decide),if_neg (by rw [hA];simp only;rw [hx];decide),if_neg hn',if_neg (by unfold st3;rw [hA];simp only;rw [hst];exact hr')]
 unfold st3 mk3
 rw [hA]
 simp only
 rw [hO,hst]
theorem mk_3 {k m kh kw sh sw tp lf bt rt h w c st H V C:Int} {s:Int×Int×Int} (hA:s=(h,w,c)) (hx:mkE k m kh kw sh sw tp lf bt rt h w c=0) (hO:mkO k m kh kw sh sw tp lf bt rt h w c=(H,V,C)) (hst:stR k kh kw h w c=st):mk3 k m kh kw sh sw tp lf bt rt s=(H,V,C)∧opW k m kh kw sh sw tp lf bt rt s=H*V*C*st:=by
 rw [mkO_ok hx] at hO
 subst hA
 have e:mk3 k m kh kw sh sw tp lf bt rt (h,w,c)=(H,V,C):=hO
 refine⟨e,?_⟩
 unfold opW
 rw [e]
 simp only
 rw [show st3 k kh kw (h,w,c)=st from hst]
theorem St.drop3 {w0 w:World} {a b c:Nat×Array Value×TypeId} {l:List (Nat×Array Value×TypeId)} (h:St w0 w (a :: b :: c :: l)):St w0 w (a :: b :: l) :=
 h.sub fun z hz=>by simp only [List.mem_cons] at *; rcases hz with h | h | h<;>simp [h]
theorem St.up5 {w0 w:World} {a b c d e f:Nat×Array Value×TypeId} {l:List (Nat×Array Value×TypeId)} (h:St w0 w (a :: b :: c :: d :: e :: f :: l)):St w0 w (f :: a :: b :: c :: d :: e :: l) :=
 h.sub fun z hz=>by simp only [List.mem_cons] at *; rcases hz with h | h | h | h | h | h | h<;>simp [h]
theorem St.app3 {w0 w:World} {g o:Nat} {cur:Array Value} {t:TypeId} {x y z:Value} {l:List (Nat×Array Value×TypeId)} (h:St w0 w ((g,cur,t) :: l)) (hl:∀ x∈l,x.1≠g) :
  St w0 (w.setCells g (0+o) [x,y,z]) ((g,((cur.setIfInBounds o x).setIfInBounds (o+1) y).setIfInBounds (o+2) z,t) :: l):=by
 rw [Nat.zero_add]
 exact ((h.set hl (i:=o) (v:=x)).set hl (i:=o+1) (v:=y)).set hl (i:=o+2) (v:=z)
theorem spare_of {w:World} {g n:Nat} {cur:Array Value} {t:TypeId} {x y z:Value} (h:w.heap[g]? = some (.cells cur t (0,0))) (hs:n*3+3≤cur.size):∀ j,j < [x,y,z].length→(w.cell? ⟨g,0+n*3+j,none⟩).isSome=true∧w.frozen? ⟨g,0+n*3+j,none⟩=false:=by
 intro j hj
 obtain⟨a1,a2,-⟩:=cells_at h
 refine⟨?_,a2 _⟩
 rw [a1,Array.getElem?_eq_getElem (by simp at hj;omega)]
 rfl
theorem new_cells {w:World} {b:Nat} {x y z:Value} {t:TypeId} (h:w.heap[b]? = some (.cells #[x,y,z] t (0,0))):∀ j u,[x,y,z][j]? = some u→w.cell? ((⟨b,0,none⟩:Addr).add j)=some u:=by
 intro j u hu
 rw [Addr.add_lit,Nat.zero_add,(cells_at h).1]
 simpa using hu
theorem mkE_win {k m kh kw sh sw tp lf bt rt h w c:Int} (hx:mkE k m kh kw sh sw tp lf bt rt h w c=0) (hk:2≤k∧k≤5):(1≤kh∧kh≤32)∧(1≤kw∧kw≤32):=by
 rcases ouR_cases h w c kh kw sh sw tp lf bt rt with ⟨x,ho,hx'⟩ | ⟨r,q,ho,hf⟩
 ·exfalso
  have hw:mkW k kh kw sh sw tp lf bt rt h w c=x:=by unfold mkW;rw [if_pos hk,ho]
  unfold mkE at hx
  by_cases hM:mkM k m=false
  ·rw [if_pos hM] at hx;cases hx
  ·rw [if_neg hM,hw,if_pos (by omega)] at hx;omega
 ·exact⟨hf.2.1.1,hf.2.1.2.1⟩
theorem stR_bd {k kh kw h w c:Int} (hk:1≤k∧k≤8) (g:vS h w c=true) (hw:2≤k∧k≤5→(1≤kh∧kh≤32)∧(1≤kw∧kw≤32)):1≤stR k kh kw h w c∧stR k kh kw h w c≤1048576:=by
 obtain⟨-,q1,q2⟩:=vS_bd g
 obtain⟨-,-,c1,-⟩:=vS_yes g
 unfold stR
 by_cases k1:k=1
 ·rw [if_pos k1];omega
 ·rw [if_neg k1]
  by_cases k2:k=2
  ·rw [if_pos k2]
   obtain⟨a1,a2⟩:=hw (by omega)
   obtain⟨p1,p2⟩:=mul_bd a1.1 a1.2 a2.1 a2.2
   obtain⟨p3,p4⟩:=mul_bd p1 p2 c1.1 c1.2
   omega
  ·rw [if_neg k2]
   by_cases k5:k≤5
   ·rw [if_pos k5]
    obtain⟨a1,a2⟩:=hw (by omega)
    obtain⟨p1,p2⟩:=mul_bd a1.1 a1.2 a2.1 a2.2
    omega
   ·rw [if_neg k5];omega
theorem mkO_bd {k m kh kw sh sw tp lf bt rt h w c H V C:Int} (hx:mkE k m kh kw sh sw tp lf bt rt h w c=0) (hO:mkO k m kh kw sh sw tp lf bt rt h w c=(H,V,C)):(1≤C∧C≤1024)∧(1≤H*V∧H*V≤1048576)∧1≤H*V*C∧H*V*C≤16384:=by
 rw [mkO_ok hx] at hO
 have hv:vS3 (mkS k m kh kw sh sw tp lf bt rt h w c)=true:=by
  unfold mkE at hx
  by_cases hM:mkM k m=false
  ·rw [if_pos hM] at hx;cases hx
  ·rw [if_neg hM] at hx
   by_cases hw:mkW k kh kw sh sw tp lf bt rt h w c≠0
   ·rw [if_pos hw] at hx;exact absurd hx hw
   ·rw [if_neg hw] at hx
    cases hv:vS3 (mkS k m kh kw sh sw tp lf bt rt h w c) with
    | true=>rfl
    | false=>rw [hv,if_pos rfl] at hx;cases hx
 rw [hO] at hv
 have:=vS_bd hv
 exact⟨(vS_yes hv).2.2.1,this⟩
theorem take_g (k a b m kh kw sh sw tp lf bt rt:Int) (wa:Option Addr) (lw cw:Nat) (ba:Option Addr) (lb cb:Nat) (sm ss um us z p lo hi:Int) (i:Nat) (W0 W:World) (B g cap n:Nat) (cur:Array Value) (L:List (Int×Int×Int)) (wk:Int) (l:List (Nat×Array Value×TypeId)) (ha:a=(i:Int)) (hn:L.length=n)
  (s:St W0 W ((B,#[Sl (some ⟨g,0,none⟩) n cap,U i6 wk],98) :: (g,cur,23) :: l)) (hf:fmE k a b n (ozB k b m kh kw sh sw tp lf bt rt lw lb sm ss um us z p)=0) (hcap:cap≤65) (hwk:0≤wk∧wk≤131072) (hlc:n<cap) (hin:i<n) (hC:Cu cur cap L) (hk:1≤k∧k≤8) (hg0:vS3 (ShA L i)=true) (hb6:k=6→0≤b∧b<(n:Int)) (hgB:g≠B) (hd:∀ x∈l,x.1≠B∧x.1≠g) :
  Calls Tryz.prog 66 #[.pointer (some ⟨B,0,none⟩),.agg #[U i6 k,U i6 a,U i6 b,U i6 m,U i6 kh,U i6 kw,U i6 sh,U i6 sw,U i6 tp,U i6 lf,U i6 bt,U i6 rt,Sl wa lw cw,Sl ba lb cb,U i6 sm,U i6 ss,U i6 um,U i6 us,U i6 z,U i6 p,U i6 lo,U i6 hi]] W fun e w'=>e=.returned (U i6 (tkE k i b m kh kw sh sw tp lf bt rt lw lb sm ss um us z p lo hi L wk))∧TkP W0 B g cap n L l (tkE k i b m kh kw sh sw tp lf bt rt lw lb sm ss um us z p lo hi L wk) (mk3 k m kh kw sh sw tp lf bt rt (ShA L i)) (wk+opW k m kh kw sh sw tp lf bt rt (ShA L i)) w':=by
 subst ha
 obtain⟨-,-,zB,-,-,zg,-⟩:=s.rules
 have hF:Hid (∀ W,Calls Tryz.prog 82 #[.agg #[U i6 k,U i6 (i:Int),U i6 b,U i6 m,U i6 kh,U i6 kw,U i6 sh,U i6 sw,U i6 tp,U i6 lf,U i6 bt,U i6 rt,Sl wa lw cw,Sl ba lb cb,U i6 sm,U i6 ss,U i6 um,U i6 us,U i6 z,U i6 p,U i6 lo,U i6 hi],U i6 (n:Int)] W fun e w'=>e=.returned (U i6 0)∧Below W.heap.size W w'):=fun W=>by rw [← hf];exact form_any k i b m kh kw sh sw tp lf bt rt wa lw cw ba lb cb sm ss um us z p lo hi _ W
 have HF:Hid (fmE k i b L.length (ozB k b m kh kw sh sw tp lf bt rt lw lb sm ss um us z p)=0):=by rw [hn];exact hf
 obtain⟨h,w,c,hA⟩:∃ h w c,ShA L i=(h,w,c):=⟨_,_,_,rfl⟩
 have hcur:cur[i*3]? = some (U i6 h)∧cur[i*3+1]? = some (U i6 w)∧cur[i*3+2]? = some (U i6 c):=by
  have:=hC.at (i:=i) (by omega)
  unfold ShA at hA
  rw [Int.toNat_natCast] at hA
  rw [hA] at this
  exact this
 obtain⟨u1,u2,u3⟩:=hcur
 have hg:vS h w c=true:=by have q:=hg0;rw [hA] at q;exact q
 have s0:=s.new (c:=#[U i6 k,U i6 (i:Int),U i6 b,U i6 m,U i6 kh,U i6 kw,U i6 sh,U i6 sw,U i6 tp,U i6 lf,U i6 bt,U i6 rt,Sl wa lw cw,Sl ba lb cb,U i6 sm,U i6 ss,U i6 um,U i6 us,U i6 z,U i6 p,U i6 lo,U i6 hi]) (t:=42)
 obtain⟨E,hEE⟩:∃ E,tkE k i b m kh kw sh sw tp lf bt rt lw lb sm ss um us z p lo hi L wk=E:=⟨_,rfl⟩
 obtain⟨M3,hM3⟩:∃ M3,mk3 k m kh kw sh sw tp lf bt rt (ShA L i)=M3:=⟨_,rfl⟩
 obtain⟨K2,hK2⟩:∃ K2,wk+opW k m kh kw sh sw tp lf bt rt (ShA L i)=K2:=⟨_,rfl⟩
 rw [hEE,hM3,hK2]
 have HEE:Hid (tkE k i b m kh kw sh sw tp lf bt rt lw lb sm ss um us z p lo hi L wk=E):=hEE
 have HM3:Hid (mk3 k m kh kw sh sw tp lf bt rt (ShA L i)=M3):=hM3
 have HK2:Hid (wk+opW k m kh kw sh sw tp lf bt rt (ShA L i)=K2):=hK2
 clear hEE hM3 hK2
 go_enter Tryz.func66,Tryz.ntmps66
 go_upto_region 1 with fail
 obtain⟨c1,g1,c2,g2,c3,g3,-⟩:=rulesQ_st s0
 have hne:=Nonempty.intro (Wd.mk _ s0)
 refine region_held s0 (by kernel_rfl) (by kernel_rfl) ?_
 go_big_quiet_want
 refine quiet_ld 42 (.tmp 3) rfl _ rfl 42 _ _ (Wd.hp (List.mem_cons_self)) Tryz.underlying42 rfl (by kernel_rfl) rfl ?_
 go_simp
 go_big_quiet_on
 repeat (go_big_quiet_step ((go_at_call 82;exact held_of (hF.out _))))
 refine wpQuiet_nil ?_
 intro _ hw'
 obtain⟨nq,rfl⟩:=hw'
 obtain⟨w1,hw1⟩:∃ w1,nq.w=w1:=⟨_,rfl⟩
 have s1:St W0 w1 _:=hw1 ▸ nq.h
 rw [hw1]
 clear c1 g1 c2 g2 c3 g3 hne hw1 hF hf s0
 clear nq
 obtain⟨c1,f1,z1,c2,f2,z2,c3,f3,z3,-⟩:=s1.rules
 go_upto_region 4 with fail
 go_cut [6] (fun x6 wx=>∃ P:Nat,x6=.pointer (some ⟨P,0,none⟩)∧St W0 wx ((P,#[U i6 h,U i6 w,U i6 c],23) :: (W.heap.size,#[U i6 k,U i6 (i:Int),U i6 b,U i6 m,U i6 kh,U i6 kw,U i6 sh,U i6 sw,U i6 tp,U i6 lf,U i6 bt,U i6 rt,Sl wa lw cw,Sl ba lb cb,U i6 sm,U i6 ss,U i6 um,U i6 us,U i6 z,U i6 p,U i6 lo,U i6 hi],42) :: (B,#[Sl (some ⟨g,0,none⟩) n cap,U i6 wk],98) :: (g,cur,23) :: l)∧w1.heap.size≤P)
 case first =>
  go_region_held3 (fun w'=>(∀ j,w'.cell? ⟨W.heap.size,j,none⟩=#[U i6 k,U i6 (i:Int),U i6 b,U i6 m,U i6 kh,U i6 kw,U i6 sh,U i6 sw,U i6 tp,U i6 lf,U i6 bt,U i6 rt,Sl wa lw cw,Sl ba lb cb,U i6 sm,U i6 ss,U i6 um,U i6 us,U i6 z,U i6 p,U i6 lo,U i6 hi][j]?)∧(∀ j,w'.cell? ⟨B,j,none⟩=#[Value.slice (some ⟨g,0,none⟩) n cap,U i6 wk][j]?)∧(∀ j,w'.cell? ⟨g,j,none⟩=cur[j]?)) ((refine⟨?_,?_,?_⟩<;>(intro j; simp [go_sem, *]))) (fail)
  all_goals
   refine (show ∀ a' w',Met _ a' w'→_ from by assumption) _ _ ?_
   go_meet
   exact⟨_,rfl,s1.new.drew,Nat.le_refl _⟩
 case rest =>
 obtain⟨P,rfl,s2,hP⟩:=hcut
 clear c1 f1 c2 f2 c3 f3
 obtain⟨x,hx⟩:∃ x,mkE k m kh kw sh sw tp lf bt rt h w c=x:=⟨_,rfl⟩
 obtain⟨H,V,C,hO⟩:∃ H V C,mkO k m kh kw sh sw tp lf bt rt h w c=(H,V,C):=⟨_,_,_,rfl⟩
 have hM:Hid (∀ W,Calls Tryz.prog 83 #[.agg #[U i6 k,U i6 (i:Int),U i6 b,U i6 m,U i6 kh,U i6 kw,U i6 sh,U i6 sw,U i6 tp,U i6 lf,U i6 bt,U i6 rt,Sl wa lw cw,Sl ba lb cb,U i6 sm,U i6 ss,U i6 um,U i6 us,U i6 z,U i6 p,U i6 lo,U i6 hi],.agg #[U i6 h,U i6 w,U i6 c]] W fun e w'=>e=.returned (.tuple #[.agg #[U i6 H,U i6 V,U i6 C],U i6 x])∧Below W.heap.size W w'):=fun W=>by
  have:=makes_any k i b m kh kw sh sw tp lf bt rt wa lw cw ba lb cb sm ss um us z p lo hi h w c W hk hg
  rw [hO,hx] at this
  exact this
 obtain⟨c1,f1,zz1,c2,f2,zz2,c3,f3,zz3,c4,f4,zz4,-⟩:=s2.rules
 go_wp2_with ((refine wpList_load_row rfl 42 (.tmp 3) rfl _ rfl 42 _ (0,0) _ s2.h2 Tryz.underlying42 rfl (by kernel_rfl) ?_))
 refine (hM.out _).mono ?_
 rintro e w2 ⟨rfl,hb'⟩
 have s3:=s2.call hb'
 clear hb' c1 f1 c2 f2 c3 f3 c4 f4 hM s2
 obtain⟨c1,f1,zw1,c2,f2,zw2,c3,f3,zw3,c4,f4,zw4,-⟩:=s3.rules
 by_cases hx0:x=0
 rotate_left
 ·have hE:Hid (E=x):=HEE.out.symm.trans (tk_2 HF hA hx hx0)
  go_wp2
  go_ret
  exact⟨ret1 hE.out.symm,TkP.no s3.new.tail.tail.tail (by rw [hE.out];exact hx0)⟩
 subst hx0
 go_upto_region 8 with fail
 have s4:=s3.new (c:=#[U i6 H,U i6 V,U i6 C]) (t:=23)
 obtain⟨nb,hnb⟩:∃ nb,decide (k=6∧ShA L i≠ShA L b)=nb:=⟨_,rfl⟩
 clear c1 f1 c2 f2 c3 f3 c4 f4
 go_cut [52] (fun x52 wx=>x52=.bool nb∧St W0 wx ((w2.heap.size,#[U i6 H,U i6 V,U i6 C],23) :: (P,#[U i6 h,U i6 w,U i6 c],23) :: (W.heap.size,#[U i6 k,U i6 (i:Int),U i6 b,U i6 m,U i6 kh,U i6 kw,U i6 sh,U i6 sw,U i6 tp,U i6 lf,U i6 bt,U i6 rt,Sl wa lw cw,Sl ba lb cb,U i6 sm,U i6 ss,U i6 um,U i6 us,U i6 z,U i6 p,U i6 lo,U i6 hi],42) :: (B,#[Sl (some ⟨g,0,none⟩) n cap,U i6 wk],98) :: (g,cur,23) :: l))
 case first =>
  by_cases k6:k=6
  ·subst k6
   obtain⟨j,rfl⟩:=Int.eq_ofNat_of_zero_le (hb6 rfl).1
   have hj:j<n:=by have:=(hb6 rfl).2;omega
   obtain⟨h',v',c',hB'⟩:∃ h' v' c',ShA L j=(h',v',c'):=⟨_,_,_,rfl⟩
   have hcur2:cur[j*3]? = some (U i6 h')∧cur[j*3+1]? = some (U i6 v')∧cur[j*3+2]? = some (U i6 c'):=by
    have:=hC.at (i:=j) (by omega)
    unfold ShA at hB'
    rw [Int.toNat_natCast] at hB'
    rw [hB'] at this
    exact this
   obtain⟨r1,r2,r3⟩:=hcur2
   obtain⟨eb,heb⟩:∃ eb,decide (h=h'∧w=v'∧c=c')=eb:=⟨_,rfl⟩
   have qn:=ne3 23 rfl h w c h' v' c' eb heb
   have hnb':nb = !eb:=by rw [← hnb,← heb,hA,hB'];simp
   clear hnb heb hA hB'
   subst hnb'
   obtain⟨q1,y1,q2,y2,q3,y3,q4,y4,q5,y5,-⟩:=rulesQ_st s4
   have hne:=Nonempty.intro (Wd.mk _ s4)
   refine region_held s4 (by kernel_rfl) (by kernel_rfl) ?_
   repeat (go_big_quiet_step (fail))
   refine wpQuiet_nil ?_
   intro _ hw'
   obtain⟨nq,rfl⟩:=hw'
   refine (show ∀ a' w',Met _ a' w'→_ from by assumption) _ _ ?_
   go_meet
   exact⟨rfl,nq.h⟩
  ·have k6':(k == 6)=false:=by simpa using k6
   have hnb':nb=false:=by rw [← hnb];exact decide_eq_false (fun q=>k6 q.1)
   clear hnb
   subst hnb'
   obtain⟨q1,y1,q2,y2,q3,y3,q4,y4,q5,y5,-⟩:=rulesQ_st s4
   have hne:=Nonempty.intro (Wd.mk _ s4)
   refine region_held s4 (by kernel_rfl) (by kernel_rfl) ?_
   repeat (go_big_quiet_step (fail))
   refine wpQuiet_nil ?_
   intro _ hw'
   obtain⟨nq,rfl⟩:=hw'
   refine (show ∀ a' w',Met _ a' w'→_ from by assumption) _ _ ?_
   go_meet
   exact⟨rfl,nq.h⟩
 case rest =>
 obtain⟨rfl,s5⟩:=hcut
 obtain⟨c1,f1,zv1,c2,f2,zv2,c3,f3,zv3,c4,f4,zv4,c5,f5,zv5,-⟩:=s5.rules
 cases nb with
 | true =>
  have hE:Hid (E=50):=HEE.out.symm.trans (tk_3 HF hA hx hnb)
  go_wp2
  go_ret
  exact⟨ret1 hE.out.symm,TkP.no s5.tail.tail.tail (by rw [hE.out];exact (by decide))⟩
 | false =>
 obtain⟨wc1,rfl⟩:∃ wo,wo=wc:=⟨_,rfl⟩
 obtain⟨st,hst⟩:∃ st,stR k kh kw h w c=st:=⟨_,rfl⟩
 have hS:Hid (∀ W,Calls Tryz.prog 84 #[.agg #[U i6 k,U i6 (i:Int),U i6 b,U i6 m,U i6 kh,U i6 kw,U i6 sh,U i6 sw,U i6 tp,U i6 lf,U i6 bt,U i6 rt,Sl wa lw cw,Sl ba lb cb,U i6 sm,U i6 ss,U i6 um,U i6 us,U i6 z,U i6 p,U i6 lo,U i6 hi],.agg #[U i6 h,U i6 w,U i6 c]] W fun e w'=>e=.returned (U i6 st)∧Below W.heap.size W w'):=fun W=>by rw [← hst];exact steps_any k i b m kh kw sh sw tp lf bt rt wa lw cw ba lb cb sm ss um us z p lo hi h w c W hk hg (mkE_win hx)
 obtain⟨st1,st2⟩:1≤st∧st≤1048576:=by rw [← hst];exact stR_bd hk hg (mkE_win hx)
 obtain⟨⟨C1,C2⟩,⟨e1,e2⟩,e3,e4⟩:(1≤C∧C≤1024)∧(1≤H*V∧H*V≤1048576)∧1≤H*V*C∧H*V*C≤16384:=mkO_bd hx hO
 go_upto_region 10 with fail
 go_wp2_with ((refine wpList_load_row rfl 42 (.tmp 3) rfl _ rfl 42 _ (0,0) _ s5.h3 Tryz.underlying42 rfl (by kernel_rfl) ?_))
 refine (hS.out _).mono ?_
 rintro e w3 ⟨rfl,hb'⟩
 have s6:=s5.call hb'
 clear hb' c1 f1 c2 f2 c3 f3 c4 f4 c5 f5 hS s5
 obtain⟨c1,f1,zu1,c2,f2,zu2,c3,f3,zu3,c4,f4,zu4,c5,f5,zu5,-⟩:=s6.rules
 obtain⟨rb,hrb⟩:∃ rb,decide (rdB k=true∧512<st)=rb:=⟨_,rfl⟩
 go_upto_region 11 with fail
 go_cut [62] (fun x62 wx=>x62=.bool rb∧wx=w3)
 case first =>
  cases hr:rdB k with
  | false =>
   have hrb':rb=false:=by rw [← hrb];exact decide_eq_false (fun q=>by rw [hr] at q;cases q.1)
   subst hrb'
   go_wp2_with fail
   refine (red_any _ _).mono ?_
   rintro e w' ⟨rfl,rfl⟩
   rw [hr]
   go_wp2_with fail
   go_meet
   exact⟨rfl,rfl⟩
  | true =>
   have hrb':rb=decide (512<st):=by rw [← hrb];simp [hr]
   subst hrb'
   go_wp2_with fail
   refine (red_any _ _).mono ?_
   rintro e w' ⟨rfl,rfl⟩
   rw [hr]
   go_wp2_with fail
   go_meet
   exact⟨rfl,rfl⟩
 case rest =>
 obtain⟨rfl,rfl⟩:=hcut
 cases rb with
 | true =>
  have hE:Hid (E=84):=HEE.out.symm.trans (tk_4 HF hA hx hnb hst hrb)
  go_wp2
  go_ret
  exact⟨ret1 hE.out.symm,TkP.no s6.tail.tail.tail (by rw [hE.out];exact (by decide))⟩
 | false =>
 obtain⟨y,hy⟩:∃ y,nuE k C st lw lb sm ss um us z p lo hi=y:=⟨_,rfl⟩
 have hN:Hid (∀ W,Calls Tryz.prog 85 #[.agg #[U i6 k,U i6 (i:Int),U i6 b,U i6 m,U i6 kh,U i6 kw,U i6 sh,U i6 sw,U i6 tp,U i6 lf,U i6 bt,U i6 rt,Sl wa lw cw,Sl ba lb cb,U i6 sm,U i6 ss,U i6 um,U i6 us,U i6 z,U i6 p,U i6 lo,U i6 hi],U i6 C,U i6 st] W fun e w'=>e=.returned (U i6 y)∧Below W.heap.size W w'):=fun W=>by
  rw [← hy];exact numbers_any k i b m kh kw sh sw tp lf bt rt wa lw cw ba lb cb sm ss um us z p lo hi C st W hk (by have:=mul_bd C1 C2 st1 st2;omega)
 go_upto_region 13 with fail
 go_wp2_with ((refine wpList_load_row rfl 42 (.tmp 3) rfl _ rfl 42 _ (0,0) _ s6.h3 Tryz.underlying42 rfl (by kernel_rfl) ?_))
 refine (hN.out _).mono ?_
 rintro e w4 ⟨rfl,hb'⟩
 have s7:=s6.call hb'
 clear hb' c1 f1 c2 f2 c3 f3 c4 f4 c5 f5 hN s6
 obtain⟨c1,f1,zt1,c2,f2,zt2,c3,f3,zt3,c4,f4,zt4,c5,f5,zt5,-⟩:=s7.rules
 by_cases hy0:y=0
 rotate_left
 ·have hE:Hid (E=y):=HEE.out.symm.trans (by unfold tkE;rw [opE_n HF hA hx hO hnb hst hrb,hy,if_pos hy0])
  go_wp2
  go_ret
  exact⟨ret1 hE.out.symm,TkP.no s7.tail.tail.tail (by rw [hE.out];exact hy0)⟩
 subst hy0
 go_upto_region 16 with fail
 have S8:=(s7.new (c:=#[U i6 H,U i6 V,U i6 C]) (t:=23)).drew
 have hlg:∀ x∈(w4.heap.size,#[Value.int .i64 H,U i6 V,U i6 C],23) :: (w2.heap.size,#[U i6 H,U i6 V,U i6 C],23) :: (P,#[U i6 h,U i6 w,U i6 c],23) :: (W.heap.size,#[U i6 k,U i6 (i:Int),U i6 b,U i6 m,U i6 kh,U i6 kw,U i6 sh,U i6 sw,U i6 tp,U i6 lf,U i6 bt,U i6 rt,Sl wa lw cw,Sl ba lb cb,U i6 sm,U i6 ss,U i6 um,U i6 us,U i6 z,U i6 p,U i6 lo,U i6 hi],42) :: (B,#[Sl (some ⟨g,0,none⟩) n cap,U i6 wk],98) :: l,x.1≠g:=by
  intro x hx
  simp only [List.mem_cons] at hx
  rcases hx with rfl | rfl | rfl | rfl | rfl | hx
  ·simp only;omega
  ·simp only;omega
  ·simp only;omega
  ·simp only;omega
  ·simp only;omega
  ·exact (hd x hx).2
 have S9:=S8.up5.app3 hlg (o:=n*3) (x:=U i6 H) (y:=U i6 V) (z:=U i6 C)
 have hSp:=fun j (hj:j < [Value.int .i64 H,U i6 V,U i6 C].length)=>spare_of S8.up5.h1 (n:=n) (by have:=hC.1;omega) j hj
 have hNc:=new_cells S8.h1
 have hlb:∀ x∈(g,((cur.setIfInBounds (n*3) (U i6 H)).setIfInBounds (n*3+1) (U i6 V)).setIfInBounds (n*3+2) (U i6 C),23) :: (w4.heap.size,#[Value.int .i64 H,U i6 V,U i6 C],23) :: (w2.heap.size,#[U i6 H,U i6 V,U i6 C],23) :: (P,#[U i6 h,U i6 w,U i6 c],23) :: (W.heap.size,#[U i6 k,U i6 (i:Int),U i6 b,U i6 m,U i6 kh,U i6 kw,U i6 sh,U i6 sw,U i6 tp,U i6 lf,U i6 bt,U i6 rt,Sl wa lw cw,Sl ba lb cb,U i6 sm,U i6 ss,U i6 um,U i6 us,U i6 z,U i6 p,U i6 lo,U i6 hi],42) :: l,x.1≠B:=by
  intro x hx
  simp only [List.mem_cons] at hx
  rcases hx with rfl | rfl | rfl | rfl | rfl | hx
  ·simp only;omega
  ·simp only;omega
  ·simp only;omega
  ·simp only;omega
  ·simp only;omega
  ·exact (hd x hx).1
 obtain⟨i0,hi0,hz0,hz1,hz2⟩:=info_parts (show (Tryz.prog.info? 23).map (fun i=>(i.zero,i.size,i.bytes))=some (some (.agg #[U i6 0,U i6 0,U i6 0]),3,24) by kernel_rfl)
 have S9':Hid (St W0 _ _):=S9
 have hSp':Hid (∀ j,j < [Value.int .i64 H,U i6 V,U i6 C].length→_∧_):=hSp
 have hNc':Hid (∀ j u,_→_):=hNc
 clear S9 hSp hNc
 go_cut [] (fun wx=>St W0 wx ((B,#[Sl (some ⟨g,0,none⟩) (n+1) cap,U i6 wk],98) :: (g,((cur.setIfInBounds (n*3) (U i6 H)).setIfInBounds (n*3+1) (U i6 V)).setIfInBounds (n*3+2) (U i6 C),23) :: (w2.heap.size,#[U i6 H,U i6 V,U i6 C],23) :: l))
 case first =>
  go_region_law ((refine step_append_room rfl (.tmp 75) (.tmp 77) 77 rfl 23 i0 3 Tryz.underlying77 hi0 hz1 g 0 n cap rfl ⟨w4.heap.size,0,none⟩ 1 1 [U i6 H,U i6 V,U i6 C] rfl rfl hNc'.out (by simp [Value.oneCell']) (by omega) hSp'.out ?_;have S10:=S9'.out;generalize World.setCells _ _ _ _=w5 at S10 ⊢;obtain⟨-,-,-,-,-,-,cM,-,-,-,-,-,-,-,-,cB,fB,zzB,-⟩:=S10.rules))
  all_goals
   refine (show ∀ a' w',Met _ a' w'→_ from by assumption) _ _ ?_
   go_meet
   exact (S10.up5.set hlb (i:=0)).sub (by intro x hx; simp only [List.mem_cons] at hx ⊢; rcases hx with h | h | h | h<;>simp [h])
 case rest =>
 have s8:=hcut
 clear hcut c1 f1 c2 f2 c3 f3 c4 f4 c5 f5 S8 S9' hSp' hNc' s7
 obtain⟨wc2,rfl⟩:∃ wo,wo=wc:=⟨_,rfl⟩
 obtain⟨c1,f1,zs1,c2,f2,zs2,c3,f3,zs3,-⟩:=s8.rules
 obtain⟨hm3,how⟩:=mk_3 hA hx hO hst
 have hE:Hid (E=if 131072<wk+H*V*C*st then 86 else 0):=by
  unfold Hid;rw [← HEE.out];unfold tkE;rw [opE_n HF hA hx hO hnb hst hrb,hy,if_neg (by decide),how]
 have hC':Hid (Cu (((cur.setIfInBounds (n*3) (U i6 H)).setIfInBounds (n*3+1) (U i6 V)).setIfInBounds (n*3+2) (U i6 C)) cap (L++[(H,V,C)])):=by
  have:=hC.add (by omega) H V C
  rw [hn] at this
  exact this
 have HM:Hid (M3=(H,V,C)):=by unfold Hid;rw [← HM3.out,hm3]
 have HK:Hid (K2=wk+H*V*C*st):=by unfold Hid;rw [← HK2.out,how]
 clear hm3 how hx hO hA hst hnb hrb hy
 obtain⟨e5,e6⟩:=mul_bd e3 e4 st1 st2
 obtain⟨p1,hp1⟩:∃ p1,H*V=p1:=⟨_,rfl⟩
 rw [hp1] at e1 e2 e3 e4 e5 e6 hE HK
 obtain⟨p2,hp2⟩:∃ p2,p1*C=p2:=⟨_,rfl⟩
 rw [hp2] at e3 e4 e5 e6 hE HK
 obtain⟨p3,hp3⟩:∃ p3,p2*st=p3:=⟨_,rfl⟩
 rw [hp3] at e5 e6 hE HK
 go_upto_region 17 with fail
 go_cut [] (fun wx=>St W0 wx ((B,#[Sl (some ⟨g,0,none⟩) (n+1) cap,U i6 (wk+p3)],98) :: (g,((cur.setIfInBounds (n*3) (U i6 H)).setIfInBounds (n*3+1) (U i6 V)).setIfInBounds (n*3+2) (U i6 C),23) :: (w2.heap.size,#[U i6 H,U i6 V,U i6 C],23) :: l))
 case first =>
  have hl8:Hid (∀ x∈(g,((cur.setIfInBounds (n*3) (U i6 H)).setIfInBounds (n*3+1) (U i6 V)).setIfInBounds (n*3+2) (U i6 C),23) :: (w2.heap.size,#[Value.int .i64 H,U i6 V,U i6 C],23) :: l,x.1≠B):=fun x hx=>hlb x (by simp only [List.mem_cons] at hx ⊢; rcases hx with h | h | h<;>simp [h])
  clear hlb hlg c1 f1 c2 f2 c3 f3
  obtain⟨q1,y1,q2,y2,q3,y3,-⟩:=rulesQ_st s8
  have hne:=Nonempty.intro (Wd.mk _ s8)
  have hfn:∀ f,Fence.wide.fn f:=fun _=>trivial
  have hdp:Fence.wide.depth=none:=rfl
  refine (wpIn_wide (n:=3)).1 ?_
  refine region_tail_at 17 (C:=fun w'=>∃ n:Wd W0 _,w'=n.w) rfl rfl (by kernel_rfl) (by kernel_rfl) ⟨Wd.mk _ s8.drew,rfl⟩ ?_
  simp only [List.take_succ_cons,List.take_zero,List.drop_succ_cons,List.drop_zero]
  repeat (gi_big_quiet_step (fail))
  refine wpQuietIn_nil ?_
  rintro _ ⟨nq,rfl⟩
  obtain⟨w6,hw6⟩:∃ w6,nq.w=w6:=⟨_,rfl⟩
  have s86:St W0 w6 _:=hw6 ▸ nq.h
  rw [hw6]
  clear q1 y1 q2 y2 q3 y3 hne hw6 s8
  clear nq
  obtain⟨c1,f1,zq1,-⟩:=s86.rules
  gi_wp2
  go_meet
  exact s86.set hl8.out (i:=1)
 case rest =>
 have s9:=hcut.drop3
 clear hcut c1 f1 c2 f2 c3 f3 s8
 obtain⟨c1,f1,zr1,c2,f2,zr2,-⟩:=s9.rules
 by_cases hw86:131072<wk+p3
 ·have hE2:Hid (E=86):=by unfold Hid;rw [hE.out,if_pos hw86]
  go_wp2
  go_ret
  exact⟨ret1 hE2.out.symm,TkP.no s9 (by rw [hE2.out];decide)⟩
 ·have hE2:Hid (E=0):=by unfold Hid;rw [hE.out,if_neg hw86]
  go_wp2
  go_ret
  exact⟨ret1 hE2.out.symm,_,_,_,s9,fun _=>⟨rfl,HK.out.symm,by rw [HM.out];exact hC'.out⟩⟩
theorem ShA_mem {L:List (Int×Int×Int)} {i:Nat} (h:i<L.length):ShA L (i:Int)∈L:=by
 unfold ShA
 rw [Int.toNat_natCast,List.getD_eq_getElem?_getD,List.getElem?_eq_getElem h]
 exact List.getElem_mem h
theorem take_any (k a b m kh kw sh sw tp lf bt rt:Int) (wa:Option Addr) (lw cw:Nat) (ba:Option Addr) (lb cb:Nat) (sm ss um us z p lo hi:Int) (W0 W:World) (B g cap n:Nat) (cur:Array Value) (L:List (Int×Int×Int)) (wk:Int) (l:List (Nat×Array Value×TypeId)) (hn:L.length=n)
  (s:St W0 W ((B,#[Sl (some ⟨g,0,none⟩) n cap,U i6 wk],98) :: (g,cur,23) :: l)) (hcap:cap≤65) (hwk:0≤wk∧wk≤131072) (hlc:n<cap) (hC:Cu cur cap L) (hv:∀ s∈L,vS3 s=true) (hgB:g≠B) (hd:∀ x∈l,x.1≠B∧x.1≠g) :
  Calls Tryz.prog 66 #[.pointer (some ⟨B,0,none⟩),.agg #[U i6 k,U i6 a,U i6 b,U i6 m,U i6 kh,U i6 kw,U i6 sh,U i6 sw,U i6 tp,U i6 lf,U i6 bt,U i6 rt,Sl wa lw cw,Sl ba lb cb,U i6 sm,U i6 ss,U i6 um,U i6 us,U i6 z,U i6 p,U i6 lo,U i6 hi]] W fun e w'=>e=.returned (U i6 (tkE k a b m kh kw sh sw tp lf bt rt lw lb sm ss um us z p lo hi L wk))∧TkP W0 B g cap n L l (tkE k a b m kh kw sh sw tp lf bt rt lw lb sm ss um us z p lo hi L wk) (mk3 k m kh kw sh sw tp lf bt rt (ShA L a)) (wk+opW k m kh kw sh sw tp lf bt rt (ShA L a)) w':=by
 by_cases hf:fmE k a b n (ozB k b m kh kw sh sw tp lf bt rt lw lb sm ss um us z p)=0
 ·obtain⟨hk,⟨ha0,han⟩,hb6,-⟩:=fmE_0 hf
  obtain⟨i,rfl⟩:=Int.eq_ofNat_of_zero_le ha0
  exact take_g k i b m kh kw sh sw tp lf bt rt wa lw cw ba lb cb sm ss um us z p lo hi i W0 W B g cap n cur L wk l rfl hn s hf hcap hwk hlc (by omega) hC hk (hv _ (ShA_mem (by omega))) hb6 hgB hd
 ·obtain⟨x,hx⟩:∃ x,fmE k a b n (ozB k b m kh kw sh sw tp lf bt rt lw lb sm ss um us z p)=x:=⟨_,rfl⟩
  subst hn
  rw [hx] at hf
  rw [tk_1 hx hf]
  exact (take_f k a b m kh kw sh sw tp lf bt rt wa lw cw ba lb cb sm ss um us z p lo hi W0 W B g cap cur L wk x l s hx hf hcap (by omega)).mono fun e w' ⟨h1,h2⟩=>⟨h1,TkP.no h2 hf⟩
def ouE (h w c lo hi ot:Int) (on:Nat):Int:=if vS h w c=false then 50 else if rgB lo hi=false then 85 else if 64<(on:Int) then 80 else if ¬ (0≤ot∧ot≤(on:Int)) then 3 else 0
theorem ouE_0 {h w c lo hi ot:Int} {on:Nat} (q:ouE h w c lo hi ot on=0):vS h w c=true∧rgB lo hi=true∧on≤64∧0≤ot∧ot≤(on:Int):=by
 unfold ouE at q
 cases h1:vS h w c with
 | false=>rw [h1,if_pos rfl] at q;cases q
 | true =>
  cases h2:rgB lo hi with
  | false=>rw [h1,h2,if_neg (by decide),if_pos rfl] at q;cases q
  | true =>
   rw [h1,h2,if_neg (by decide),if_neg (by decide)] at q
   by_cases h3:64<(on:Int)
   ·rw [if_pos h3] at q;cases q
   ·rw [if_neg h3] at q
    by_cases h4:0≤ot∧ot≤(on:Int)
    ·exact⟨rfl,rfl,by omega,h4⟩
    ·rw [if_pos h4] at q;cases q
theorem ou_80 {h w c lo hi ot:Int} {on:Nat} (g:vS h w c=true) (r:rgB lo hi=true) (l:64<(on:Int)):ouE h w c lo hi ot on=80:=by unfold ouE;rw [if_neg (by rw [g];decide),if_neg (by rw [r];decide),if_pos l]
theorem ou_3 {h w c lo hi ot:Int} {on:Nat} (g:vS h w c=true) (r:rgB lo hi=true) (l:¬ 64<(on:Int)) (q:¬ (0≤ot∧ot≤(on:Int))):ouE h w c lo hi ot on=3:=by unfold ouE;rw [if_neg (by rw [g];decide),if_neg (by rw [r];decide),if_neg l,if_pos q]
theorem outside_any (h w c lo hi ot:Int) (oa:Option Addr) (on oc:Nat) (W:World) :
  Calls Tryz.prog 65 #[.agg #[U i6 h,U i6 w,U i6 c,U i6 lo,U i6 hi,Sl oa on oc,U i6 ot]] W fun e w'=>e=.returned (U i6 (ouE h w c lo hi ot on))∧Below W.heap.size W w':=by
 cases g:vS h w c with
 | false =>
  have HE:Hid (elR h w c=(0,50)):=elR_no g
  rw [show ouE h w c lo hi ot on=50 by unfold ouE;rw [if_pos g]]
  clear g
  go_enter Tryz.func65,Tryz.ntmps65
  go_wp2_with fail
  refine (selems_any _ _ _ _).mono ?_
  rintro e w1 ⟨rfl,hb'⟩
  have s1:=(St.start W).new.call hb'
  clear hb'
  try simp only [World.size_setCell] at s1
  try simp only [World.size_alloc] at s1
  obtain⟨c1,f1,zw1_1,-⟩:=s1.rules
  rw [HE.out]
  go_wp2
  go_ret
  exact⟨rfl,s1.below⟩
 | true =>
  have HE:Hid (elR h w c=(h*w*c,0)):=elR_ok g
  obtain⟨q,hq⟩:∃ q,h*w*c=q:=⟨_,rfl⟩
  rw [hq] at HE
  clear hq
  cases r:rgB lo hi with
  | false =>
   rw [show ouE h w c lo hi ot on=85 by unfold ouE;rw [if_neg (by rw [g];decide),if_pos r]]
   clear g
   go_enter Tryz.func65,Tryz.ntmps65
   go_wp2_with fail
   refine (selems_any _ _ _ _).mono ?_
   rintro e w1 ⟨rfl,hb'⟩
   have s1:=(St.start W).new.call hb'
   clear hb'
   try simp only [World.size_setCell] at s1
   try simp only [World.size_alloc] at s1
   obtain⟨c1,f1,zw1_1,-⟩:=s1.rules
   rw [HE.out]
   go_wp2_with fail
   refine (isrange_any _ _ _).mono ?_
   rintro e w' ⟨rfl,rfl⟩
   go_wp2
   go_ret
   exact⟨rfl,s1.below⟩
  | true =>
   by_cases l1:64<(on:Int)
   ·rw [ou_80 g r l1]
    clear g
    go_enter Tryz.func65,Tryz.ntmps65
    go_wp2_with fail
    refine (selems_any _ _ _ _).mono ?_
    rintro e w1 ⟨rfl,hb'⟩
    have s1:=(St.start W).new.call hb'
    clear hb'
    try simp only [World.size_setCell] at s1
    try simp only [World.size_alloc] at s1
    obtain⟨c1,f1,zw1_1,-⟩:=s1.rules
    rw [HE.out]
    go_wp2_with fail
    refine (isrange_any _ _ _).mono ?_
    rintro e w' ⟨rfl,rfl⟩
    go_wp2
    go_ret
    exact⟨rfl,s1.below⟩
   by_cases l2:ot<0
   ·rw [ou_3 g r l1 (by omega)]
    clear g
    go_enter Tryz.func65,Tryz.ntmps65
    go_wp2_with fail
    refine (selems_any _ _ _ _).mono ?_
    rintro e w1 ⟨rfl,hb'⟩
    have s1:=(St.start W).new.call hb'
    clear hb'
    try simp only [World.size_setCell] at s1
    try simp only [World.size_alloc] at s1
    obtain⟨c1,f1,zw1_1,-⟩:=s1.rules
    rw [HE.out]
    go_wp2_with fail
    refine (isrange_any _ _ _).mono ?_
    rintro e w' ⟨rfl,rfl⟩
    go_wp2
    go_ret
    exact⟨rfl,s1.below⟩
   by_cases l3:(on:Int)<ot
   ·rw [ou_3 g r l1 (by omega)]
    clear g
    go_enter Tryz.func65,Tryz.ntmps65
    go_wp2_with fail
    refine (selems_any _ _ _ _).mono ?_
    rintro e w1 ⟨rfl,hb'⟩
    have s1:=(St.start W).new.call hb'
    clear hb'
    try simp only [World.size_setCell] at s1
    try simp only [World.size_alloc] at s1
    obtain⟨c1,f1,zw1_1,-⟩:=s1.rules
    rw [HE.out]
    go_wp2_with fail
    refine (isrange_any _ _ _).mono ?_
    rintro e w' ⟨rfl,rfl⟩
    go_wp2
    go_ret
    exact⟨rfl,s1.below⟩
   rw [show ouE h w c lo hi ot on=0 by unfold ouE;rw [if_neg (by rw [g];decide),if_neg (by rw [r];decide),if_neg l1,if_neg (by omega)]]
   clear g
   go_enter Tryz.func65,Tryz.ntmps65
   go_wp2_with fail
   refine (selems_any _ _ _ _).mono ?_
   rintro e w1 ⟨rfl,hb'⟩
   have s1:=(St.start W).new.call hb'
   clear hb'
   try simp only [World.size_setCell] at s1
   try simp only [World.size_alloc] at s1
   obtain⟨c1,f1,zw1_1,-⟩:=s1.rules
   rw [HE.out]
   go_wp2_with fail
   refine (isrange_any _ _ _).mono ?_
   rintro e w' ⟨rfl,rfl⟩
   go_wp2
   go_ret
   exact⟨rfl,s1.below⟩
def oT (o:Nat→Int) (L:List (Int×Int×Int)) (wk:Int):Int:=tkE (o 0) (o 1) (o 2) (o 3) (o 4) (o 5) (o 6) (o 7) (o 8) (o 9) (o 10) (o 11) (o 12).toNat (o 13).toNat (o 14) (o 15) (o 16) (o 17) (o 18) (o 19) (o 20) (o 21) L wk
def oM (o:Nat→Int) (L:List (Int×Int×Int)):Int×Int×Int:=mk3 (o 0) (o 3) (o 4) (o 5) (o 6) (o 7) (o 8) (o 9) (o 10) (o 11) (ShA L (o 1))
def oW (o:Nat→Int) (L:List (Int×Int×Int)):Int:=opW (o 0) (o 3) (o 4) (o 5) (o 6) (o 7) (o 8) (o 9) (o 10) (o 11) (ShA L (o 1))
def opl (o:Nat→Int) (wa:Option Addr) (lw cw:Nat) (ba:Option Addr) (lb cb:Nat):List Value:=[U i6 (o 0),U i6 (o 1),U i6 (o 2),U i6 (o 3),U i6 (o 4),U i6 (o 5),U i6 (o 6),U i6 (o 7),U i6 (o 8),U i6 (o 9),U i6 (o 10),U i6 (o 11),Sl wa lw cw,Sl ba lb cb,U i6 (o 14),U i6 (o 15),U i6 (o 16),U i6 (o 17),U i6 (o 18),U i6 (o 19),U i6 (o 20),U i6 (o 21)]
def MRow (w:World) (oa:Option Addr) (on oc:Nat) (O:Nat→Nat→Int):Prop :=
 on≤oc∧oc≤maxLen∧(oa=none→oc=0)∧∀ x,oa=some x→∀ i,i<on→∃ (wa:Option Addr) (lw cw:Nat) (ba:Option Addr) (lb cb:Nat),O i 12=(lw:Int)∧O i 13=(lb:Int)∧∀ j v,(opl (O i) wa lw cw ba lb cb)[j]? = some v→w.cell? (x.add (i*22+j))=some v
theorem MRow.below {w w':World} {oa:Option Addr} {on oc:Nat} {O:Nat→Nat→Int} (h:MRow w oa on oc O) (g:Below w.heap.size w w'):MRow w' oa on oc O :=
 ⟨h.1,h.2.1,h.2.2.1,fun x hx i hi=>by
  obtain⟨wa,lw,cw,ba,lb,cb,h1,h2,h3⟩:=h.2.2.2 x hx i hi
  exact⟨wa,lw,cw,ba,lb,cb,h1,h2,fun j v hj=>(g.cell (World.block_lt_of_cell? w _ (h3 j v hj))).trans (h3 j v hj)⟩⟩
theorem MRow.at {w:World} {oa:Option Addr} {on oc:Nat} {O:Nat→Nat→Int} (h:MRow w oa on oc O) {i:Nat} (hi:i<on) :
  ∃ (x:Addr) (wa:Option Addr) (lw cw:Nat) (ba:Option Addr) (lb cb:Nat),oa=some x∧O i 12=(lw:Int)∧O i 13=(lb:Int)∧∀ j v,(opl (O i) wa lw cw ba lb cb)[j]? = some v→w.cell? ((x.add (i*22)).add j)=some v:=by
 cases oa with
 | none=>have:=h.2.2.1 rfl;have:=h.1;omega
 | some x =>
  obtain⟨wa,lw,cw,ba,lb,cb,h1,h2,h3⟩:=h.2.2.2 x rfl i hi
  exact⟨x,wa,lw,cw,ba,lb,cb,rfl,h1,h2,fun j v hj=>by rw [Addr.add_add];exact h3 j v hj⟩
def stG (O:Nat→Nat→Int) (s0:Int×Int×Int):Nat→Int×Int×List (Int×Int×Int)×Int
 | 0=>(0,0,[s0],0)
 | i+1=>if (stG O s0 i).1≠0 then stG O s0 i else if oT (O i) (stG O s0 i).2.2.1 (stG O s0 i).2.2.2≠0 then (oT (O i) (stG O s0 i).2.2.1 (stG O s0 i).2.2.2,(i:Int)+1,[],0)
  else (0,0,(stG O s0 i).2.2.1++[oM (O i) (stG O s0 i).2.2.1],(stG O s0 i).2.2.2+oW (O i) (stG O s0 i).2.2.1)
theorem stG_succ (O:Nat→Nat→Int) (s0:Int×Int×Int) (i:Nat):stG O s0 (i+1)=if (stG O s0 i).1≠0 then stG O s0 i else if oT (O i) (stG O s0 i).2.2.1 (stG O s0 i).2.2.2≠0 then (oT (O i) (stG O s0 i).2.2.1 (stG O s0 i).2.2.2,(i:Int)+1,[],0)
  else (0,0,(stG O s0 i).2.2.1++[oM (O i) (stG O s0 i).2.2.1],(stG O s0 i).2.2.2+oW (O i) (stG O s0 i).2.2.1):=rfl
theorem stG_bad {O:Nat→Nat→Int} {s0:Int×Int×Int} {i:Nat} (h:(stG O s0 i).1≠0):∀ d,stG O s0 (i+d)=stG O s0 i
 | 0=>rfl
 | d+1=>by
  have e:=stG_bad h d
  show stG O s0 (i+d+1)=_
  rw [stG_succ,e,if_pos h]
theorem stG_err {O:Nat→Nat→Int} {s0:Int×Int×Int} {i:Nat} {L:List (Int×Int×Int)} {wk x:Int} (h:stG O s0 i=(0,0,L,wk)) (hx:oT (O i) L wk=x) (h0:x≠0):stG O s0 (i+1)=(x,(i:Int)+1,[],0):=by
 rw [stG_succ,h]
 simp only
 rw [if_neg (by decide),hx,if_pos h0]
theorem stG_ok {O:Nat→Nat→Int} {s0:Int×Int×Int} {i:Nat} {L:List (Int×Int×Int)} {wk:Int} (h:stG O s0 i=(0,0,L,wk)) (hx:oT (O i) L wk=0):stG O s0 (i+1)=(0,0,L++[oM (O i) L],wk+oW (O i) L):=by
 rw [stG_succ,h]
 simp only
 rw [if_neg (by decide),hx,if_neg (by decide)]
theorem tk_0 {k a b m kh kw sh sw tp lf bt rt:Int} {lw lb:Nat} {sm ss um us z p lo hi:Int} {L:List (Int×Int×Int)} {wk:Int} (h:tkE k a b m kh kw sh sw tp lf bt rt lw lb sm ss um us z p lo hi L wk=0) (hv:∀ s∈L,vS3 s=true):vS3 (mk3 k m kh kw sh sw tp lf bt rt (ShA L a))=true∧0≤opW k m kh kw sh sw tp lf bt rt (ShA L a)∧wk+opW k m kh kw sh sw tp lf bt rt (ShA L a)≤131072∧(0≤a∧a<(L.length:Int))∧(1≤k∧k≤8)∧mkE k m kh kw sh sw tp lf bt rt (ShA L a).1 (ShA L a).2.1 (ShA L a).2.2=0:=by
 have h1:opE k a b m kh kw sh sw tp lf bt rt lw lb sm ss um us z p lo hi L=0:=by
  unfold tkE at h
  by_cases q:opE k a b m kh kw sh sw tp lf bt rt lw lb sm ss um us z p lo hi L≠0
  ·rw [if_pos q] at h;exact h
  ·exact Decidable.not_not.1 q
 have h2:¬ 131072<wk+opW k m kh kw sh sw tp lf bt rt (ShA L a):=by
  unfold tkE at h
  rw [if_neg (by rw [h1];decide)] at h
  intro q
  rw [if_pos q] at h
  cases h
 unfold opE at h1
 by_cases q1:fmE k a b L.length (ozB k b m kh kw sh sw tp lf bt rt lw lb sm ss um us z p)≠0
 ·rw [if_pos q1] at h1;exact absurd h1 q1
 ·rw [if_neg q1] at h1
  obtain⟨hk,⟨ha0,han⟩,-,-⟩:=fmE_0 (Decidable.not_not.1 q1)
  by_cases q2:mkE k m kh kw sh sw tp lf bt rt (ShA L a).1 (ShA L a).2.1 (ShA L a).2.2≠0
  ·rw [if_pos q2] at h1;exact absurd h1 q2
  ·have hx:=Decidable.not_not.1 q2
   obtain⟨i,rfl⟩:=Int.eq_ofNat_of_zero_le ha0
   have hg:=hv _ (ShA_mem (show i<L.length by omega))
   obtain⟨H,V,C,hO⟩:∃ H V C,mkO k m kh kw sh sw tp lf bt rt (ShA L i).1 (ShA L i).2.1 (ShA L i).2.2=(H,V,C):=⟨_,_,_,rfl⟩
   obtain⟨hm,how⟩:=mk_3 (s:=ShA L i) (st:=st3 k kh kw (ShA L i)) rfl hx hO rfl
   obtain⟨b1,b2,b3,b4⟩:=mkO_bd hx hO
   have hst:=stR_bd hk hg (mkE_win hx)
   refine⟨?_,?_,by omega,⟨by omega,han⟩,hk,hx⟩
   ·have:vS3 (mkS k m kh kw sh sw tp lf bt rt (ShA L i).1 (ShA L i).2.1 (ShA L i).2.2)=true:=by
     have e:=hx
     unfold mkE at e
     by_cases hM:mkM k m=false
     ·rw [if_pos hM] at e;cases e
     ·rw [if_neg hM] at e
      by_cases hw:mkW k kh kw sh sw tp lf bt rt (ShA L i).1 (ShA L i).2.1 (ShA L i).2.2≠0
      ·rw [if_pos hw] at e;exact absurd e hw
      ·rw [if_neg hw] at e
       cases hv':vS3 (mkS k m kh kw sh sw tp lf bt rt (ShA L i).1 (ShA L i).2.1 (ShA L i).2.2) with
       | true=>rfl
       | false=>rw [hv',if_pos rfl] at e;cases e
    exact this
   ·rw [how]
    exact Int.mul_nonneg (by omega) (by have:=hst.1;unfold st3;omega)
theorem stG_at0 {O:Nat→Nat→Int} {s0:Int×Int×Int}:∀ {i:Nat} {e t:Int} {L:List (Int×Int×Int)} {wk:Int},stG O s0 i=(e,t,L,wk)→e=0→t=0
 | 0,e,t,L,wk,h,_=>by unfold stG at h;simp only [Prod.mk.injEq] at h;exact h.2.1.symm
 | i+1,e,t,L,wk,h,he=>by
  rw [stG_succ] at h
  by_cases hb:(stG O s0 i).1≠0
  ·rw [if_pos hb] at h
   rw [h] at hb
   exact absurd he hb
  ·rw [if_neg hb] at h
   by_cases hx:oT (O i) (stG O s0 i).2.2.1 (stG O s0 i).2.2.2≠0
   ·rw [if_pos hx] at h
    simp only [Prod.mk.injEq] at h
    exact absurd (h.1.trans he) hx
   ·rw [if_neg hx] at h
    simp only [Prod.mk.injEq] at h
    exact h.2.1.symm
theorem stG_inv {O:Nat→Nat→Int} {s0:Int×Int×Int} (hs:vS3 s0=true):∀ (i:Nat) (L:List (Int×Int×Int)) (wk:Int),stG O s0 i=(0,0,L,wk)→L.length=i+1∧(∀ s∈L,vS3 s=true)∧0≤wk∧wk≤131072
 | 0,L,wk,h=>by
  unfold stG at h
  simp only [Prod.mk.injEq,true_and] at h
  obtain⟨rfl,rfl⟩:=h
  exact⟨rfl,fun s hs'=>by simp at hs';rw [hs'];exact hs,by omega,by omega⟩
 | i+1,L,wk,h=>by
  by_cases hb:(stG O s0 i).1=0
  ·obtain⟨e,t,L0,wk0,h0⟩:∃ e t L0 wk0,stG O s0 i=(e,t,L0,wk0):=⟨_,_,_,_,rfl⟩
   by_cases hx:oT (O i) (stG O s0 i).2.2.1 (stG O s0 i).2.2.2=0
   ·rw [stG_succ] at h
    rw [if_neg (by rw [hb];decide),if_neg (by rw [hx];decide)] at h
    simp only [Prod.mk.injEq,true_and] at h
    obtain⟨rfl,rfl⟩:=h
    rw [h0] at hx hb ⊢
    simp only at hx hb ⊢
    have ht:t=0:=stG_at0 h0 hb
    subst hb ht
    obtain⟨i1,i2,i3,i4⟩:=stG_inv hs i L0 wk0 h0
    obtain⟨t1,t2,t3,-⟩:=tk_0 hx i2
    refine⟨by simp [i1],fun s hs'=>?_,Int.add_nonneg i3 t2,t3⟩
    rcases List.mem_append.1 hs' with q | q
    ·exact i2 s q
    ·simp at q;rw [q];exact t1
   ·rw [stG_succ] at h
    rw [if_neg (by rw [hb];decide),if_pos hx] at h
    simp only [Prod.mk.injEq] at h
    exact absurd h.1 hx
  ·rw [stG_succ,if_pos hb] at h
   rw [h] at hb
   exact absurd rfl hb
end Go.Proofs.YtccoanknofhmaaaGreat
