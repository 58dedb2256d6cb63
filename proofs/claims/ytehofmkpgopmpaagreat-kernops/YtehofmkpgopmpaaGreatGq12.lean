/- Fronts of models in plain numbers; what is known of each op of a well-formed model; ops that came in. Sums of ops that reduce, in plain numbers: their terms, their bias, and what is known of such an op of a well-formed model. The document's size of a number, and a size with a sign: for every argument that fits its type. Quotients rounded half away from zero, as plain numbers. What the inner functions of package fixq, Shift, Mean and Finish return: each for every argument that fits its type. What Valid and Apply of package fixq return: each for every argument that fits its type. What an op makes of its tensors, in plain numbers; what is known of each op of a well-formed model; an op alone. Plain numbers of layer 20: registers, what they did, sums taken one by one and block by block. The ends of a narrow type, Sat; the document's Fits, Sat, Wrap; products: each for every argument that fits its type. The document's Add, Sub, Fits, Sat, Wrap, Clamp; the statement's fixed answers: each for every argument that fits its type. What lane's Add, Mul, Sum, and the document's Add and Mul of layer 20 return. What lane's joined, note, multiplied, added, refused, trackOf return, and what they write. What lane's gathered, spilled, refused, trackOf return; Dot. What lane's spilled, trackOf return; Dot. -/
import Derived.Test.YtehofmkpgopmpaaGreatGq01
import Derived.Test.YtehofmkpgopmpaaGreatGq11
import Derived.BigQuiet
import Derived.Below
import Derived.WalkSmall
import Derived.Deep.RegionWith
import Derived.Deep.DeepCutAuto
namespace Go.Proofs.YtehofmkpgopmpaaGreat
open Go.Value renaming int → U, slice → Sl
open Go.IntKind renaming i64 → i6
set_option maxRecDepth 100000
set_option maxHeartbeats 16000000
open Go.ChangeShapes Go.WideShapes Go.ChangeAt Go.RowKit
set_option linter.unusedVariables false
theorem stG_step {O:Nat→Nat→Int} {s0:Int×Int×Int} {n:Nat} {L:List (Int×Int×Int)} {wk:Int} (h:stG O s0 (n+1)=(0,0,L,wk)) :
  ∃ L0 wk0,stG O s0 n=(0,0,L0,wk0)∧oT (O n) L0 wk0=0∧L=L0++[oM (O n) L0]∧wk=wk0+oW (O n) L0:=by
 obtain⟨e,t,L0,wk0,h0⟩:∃ e t L0 wk0,stG O s0 n=(e,t,L0,wk0):=⟨_,_,_,_,rfl⟩
 by_cases he:e=0
 ·have ht:t=0:=stG_at0 h0 he
  subst he ht
  by_cases hx:oT (O n) L0 wk0=0
  ·rw [stG_ok h0 hx] at h
   simp only [Prod.mk.injEq,true_and] at h
   exact⟨L0,wk0,h0,hx,h.1.symm,h.2.symm⟩
  ·rw [stG_err h0 rfl hx] at h
   simp only [Prod.mk.injEq] at h
   exact absurd h.1 hx
 ·have:=stG_bad (O:=O) (s0:=s0) (i:=n) (by rw [h0];exact he) 1
  rw [h,h0] at this
  simp only [Prod.mk.injEq] at this
  exact absurd this.1.symm he
theorem stG_pre {O:Nat→Nat→Int} {s0:Int×Int×Int} (hs:vS3 s0=true):∀ (n:Nat) (L:List (Int×Int×Int)) (wk:Int),stG O s0 n=(0,0,L,wk)→∀ i,i≤n→∃ wi,stG O s0 i=(0,0,L.take (i+1),wi)∧0≤wi∧wi≤wk
 | 0,L,wk,h,i,hi=>by
  obtain rfl:i=0:=by omega
  obtain⟨h1,-,h3,-⟩:=stG_inv hs 0 L wk h
  exact⟨wk,by rw [List.take_of_length_le (by omega)];exact h,h3,Int.le_refl _⟩
 | n+1,L,wk,h,i,hi=>by
  obtain⟨h1,-,h3,-⟩:=stG_inv hs (n+1) L wk h
  by_cases e:i=n+1
  ·subst e
   exact⟨wk,by rw [List.take_of_length_le (by omega)];exact h,h3,Int.le_refl _⟩
  ·obtain⟨L0,wk0,h0,hx,hL,hw⟩:=stG_step h
   obtain⟨i1,i2,i3,i4⟩:=stG_inv hs n L0 wk0 h0
   obtain⟨wi,g1,g2,g3⟩:=stG_pre hs n L0 wk0 h0 i (by omega)
   obtain⟨-,t2,-,-⟩:=tk_0 hx i2
   have t2':0≤oW (O n) L0:=t2
   refine⟨wi,?_,g2,by omega⟩
   rw [g1,hL,List.take_append_of_le_length (by omega)]
theorem ouE_front {h w c lo hi ot:Int} {on j:Nat} (q:ouE h w c lo hi ot on=0) (hj:j≤on):ouE h w c lo hi (j:Int) j=0:=by
 obtain⟨a1,a2,a3,-,-⟩:=ouE_0 q
 unfold ouE
 rw [if_neg (by rw [a1];decide),if_neg (by rw [a2];decide),if_neg (by omega),if_neg (by omega)]
theorem gtR_of {O:Nat→Nat→Int} {h w c lo hi ot:Int} {on:Nat} (q:ouE h w c lo hi ot on=0):gtR O h w c lo hi ot on=stG O (h,w,c) on:=by unfold gtR;rw [q,if_neg (by decide)]
theorem gtR_st {O:Nat→Nat→Int} {h w c lo hi ot t wk:Int} {on:Nat} {L:List (Int×Int×Int)} (q:gtR O h w c lo hi ot on=(0,t,L,wk)):ouE h w c lo hi ot on=0∧t=0∧stG O (h,w,c) on=(0,0,L,wk):=by
 by_cases hx:ouE h w c lo hi ot on=0
 ·rw [gtR_of hx] at q
  have ht:=stG_at0 q rfl
  subst ht
  exact⟨hx,rfl,q⟩
 ·unfold gtR at q
  rw [if_pos hx] at q
  simp only [Prod.mk.injEq] at q
  exact absurd q.1 hx
theorem gtR_ok {O:Nat→Nat→Int} {h w c lo hi ot t wk:Int} {on:Nat} {L:List (Int×Int×Int)} (q:gtR O h w c lo hi ot on=(0,t,L,wk)) :
  t=0∧L.length=on+1∧on≤64∧0≤wk∧wk≤131072∧∀ k:Nat,k≤on→∃ wi,gtR O h w c lo hi (k:Int) k=(0,0,L.take (k+1),wi)∧0≤wi∧wi≤wk:=by
 obtain⟨hx,rfl,q2⟩:=gtR_st q
 clear q
 have q:=q2
 have hv:vS3 (h,w,c)=true:=(ouE_0 hx).1
 obtain⟨h1,-,h3,h4⟩:=stG_inv hv on L wk q
 refine⟨rfl,h1,(ouE_0 hx).2.2.1,h3,h4,fun k hk=>?_⟩
 obtain⟨wi,g1,g2⟩:=stG_pre hv on L wk q k hk
 exact⟨wi,by rw [gtR_of (ouE_front hx hk)];exact g1,g2⟩
theorem mkE_parts {k m kh kw sh sw tp lf bt rt h w c:Int} (hx:mkE k m kh kw sh sw tp lf bt rt h w c=0):mkW k kh kw sh sw tp lf bt rt h w c=0:=by
 unfold mkE at hx
 by_cases hM:mkM k m=false
 ·rw [if_pos hM] at hx;cases hx
 ·rw [if_neg hM] at hx
  by_cases hw:mkW k kh kw sh sw tp lf bt rt h w c≠0
  ·rw [if_pos hw] at hx;exact absurd hx hw
  ·exact Decidable.not_not.1 hw
def OpFit (k kh kw sh sw tp lf bt rt:Int) (A B:Int×Int×Int):Prop :=
 vS B.1 B.2.1 B.2.2=true∧(2≤k∧k≤5→ouR A.1 A.2.1 A.2.2 kh kw sh sw tp lf bt rt=(B.1,B.2.1,0)∧(k≠2→B.2.2=A.2.2))∧(6≤k→B=A)
theorem fit_of {k m kh kw sh sw tp lf bt rt:Int} {A:Int×Int×Int} (hx:mkE k m kh kw sh sw tp lf bt rt A.1 A.2.1 A.2.2=0) (hv:vS3 (mk3 k m kh kw sh sw tp lf bt rt A)=true):OpFit k kh kw sh sw tp lf bt rt A (mk3 k m kh kw sh sw tp lf bt rt A):=by
 refine⟨hv,fun hk=>?_,fun hk=>?_⟩
 ·have hw:=mkE_parts hx
  unfold mkW at hw
  rw [if_pos hk] at hw
  obtain⟨r,q,e,ho⟩:∃ r q e,ouR A.1 A.2.1 A.2.2 kh kw sh sw tp lf bt rt=(r,q,e):=⟨_,_,_,rfl⟩
  rw [ho] at hw
  simp only at hw
  subst hw
  by_cases k2:k=2
  ·have hm:mk3 k m kh kw sh sw tp lf bt rt A=(r,q,m):=by unfold mk3 mkS;rw [if_neg (by omega),if_pos k2,ho]
   rw [hm]
   exact⟨ho,fun h=>absurd k2 h⟩
  ·have hm:mk3 k m kh kw sh sw tp lf bt rt A=(r,q,A.2.2):=by unfold mk3 mkS;rw [if_neg (by omega),if_neg k2,if_pos (by omega),ho]
   rw [hm]
   exact⟨ho,fun _=>rfl⟩
 ·unfold mk3 mkS
  rw [if_neg (by omega),if_neg (by omega),if_neg (by omega)]
theorem ShA_take {L:List (Int×Int×Int)} {i n:Nat} (h:i<n):ShA (L.take n) (i:Int)=ShA L (i:Int):=by
 unfold ShA
 rw [Int.toNat_natCast]
 simp [List.getD,h]
def OpIn (w:World) (cs:List Value):Prop :=
 ∃ (b0:Int) (b1:Int) (b2:Int) (b3:Int) (b4:Int) (b5:Int) (b6:Int) (b7:Int) (b8:Int) (b9:Int) (b10:Int) (b11:Int) (b12:Option Addr) (l12 c12:Nat) (z12:List Int) (b13:Option Addr) (l13 c13:Nat) (z13:List Int) (b14:Int) (b15:Int) (b16:Int) (b17:Int) (b18:Int) (b19:Int) (b20:Int) (b21:Int),cs=[U i6 b0,U i6 b1,U i6 b2,U i6 b3,U i6 b4,U i6 b5,U i6 b6,U i6 b7,U i6 b8,U i6 b9,U i6 b10,U i6 b11,Sl b12 l12 c12,Sl b13 l13 c13,U i6 b14,U i6 b15,U i6 b16,U i6 b17,U i6 b18,U i6 b19,U i6 b20,U i6 b21] ∧
  (Lit.int .i64 b0).wf=true∧(Lit.int .i64 b1).wf=true∧(Lit.int .i64 b2).wf=true∧(Lit.int .i64 b3).wf=true∧(Lit.int .i64 b4).wf=true∧(Lit.int .i64 b5).wf=true∧(Lit.int .i64 b6).wf=true∧(Lit.int .i64 b7).wf=true∧(Lit.int .i64 b8).wf=true∧(Lit.int .i64 b9).wf=true∧(Lit.int .i64 b10).wf=true∧(Lit.int .i64 b11).wf=true ∧
  IRow .i16 w b12 l12 c12 z12∧l12*2≤140737488351232∧IRow .i32 w b13 l13 c13 z13∧l13*4≤140737488351232 ∧
  (Lit.int .i64 b14).wf=true∧(Lit.int .i64 b15).wf=true∧(Lit.int .i64 b16).wf=true∧(Lit.int .i64 b17).wf=true∧(Lit.int .i64 b18).wf=true∧(Lit.int .i64 b19).wf=true∧(Lit.int .i64 b20).wf=true∧(Lit.int .i64 b21).wf=true
def LOp (w:World) (x:Addr) (o:Nat→Int) (z b:List Int):Prop :=
 ∃ (wa:Option Addr) (lw cw:Nat) (ba:Option Addr) (lb cb:Nat),o 12=(lw:Int)∧o 13=(lb:Int)∧(∀ j v,(opl o wa lw cw ba lb cb)[j]? = some v→w.cell? (x.add j)=some v)∧IRow .i16 w wa lw cw z∧IRow .i32 w ba lb cb b∧lw*2≤140737488351232∧lb*4≤140737488351232
def LRow (w:World) (oa:Option Addr) (on oc:Nat) (O:Nat→Nat→Int) (Z B:Nat→List Int):Prop :=
 on≤oc∧oc≤maxLen∧(oa=none→oc=0)∧∀ x,oa=some x→∀ i,i<on→LOp w (x.add (i*22)) (O i) (Z i) (B i)
theorem LRow.m {w:World} {oa:Option Addr} {on oc:Nat} {O:Nat→Nat→Int} {Z B:Nat→List Int} (h:LRow w oa on oc O Z B):MRow w oa on oc O :=
 ⟨h.1,h.2.1,h.2.2.1,fun x hx i hi=>by
  obtain⟨wa,lw,cw,ba,lb,cb,h1,h2,h3,-⟩:=h.2.2.2 x hx i hi
  exact⟨wa,lw,cw,ba,lb,cb,h1,h2,fun j v hj=>by rw [← Addr.add_add];exact h3 j v hj⟩⟩
theorem LOp.below {w w':World} {x:Addr} {o:Nat→Int} {z b:List Int} (h:LOp w x o z b) (g:Below w.heap.size w w'):LOp w' x o z b:=by
 obtain⟨wa,lw,cw,ba,lb,cb,h1,h2,h3,h4,h5,h6⟩:=h
 exact⟨wa,lw,cw,ba,lb,cb,h1,h2,fun j v hj=>(g.cell (World.block_lt_of_cell? w _ (h3 j v hj))).trans (h3 j v hj),h4.below g,h5.below g,h6⟩
theorem LRow.below {w w':World} {oa:Option Addr} {on oc:Nat} {O:Nat→Nat→Int} {Z B:Nat→List Int} (h:LRow w oa on oc O Z B) (g:Below w.heap.size w w'):LRow w' oa on oc O Z B :=
 ⟨h.1,h.2.1,h.2.2.1,fun x hx i hi=>(h.2.2.2 x hx i hi).below g⟩
def oL (b0 b1 b2 b3 b4 b5 b6 b7 b8 b9 b10 b11 b12 b13 b14 b15 b16 b17 b18 b19 b20 b21:Int) (j:Nat):Int:=[b0,b1,b2,b3,b4,b5,b6,b7,b8,b9,b10,b11,b12,b13,b14,b15,b16,b17,b18,b19,b20,b21].getD j 0
theorem lop_of {w:World} {x:Addr} {cs:List Value} (h:OpIn w cs) (hc:∀ j,j<22→w.cell? (x.add j)=cs[j]?):∃ o z b,LOp w x o z b:=by
 obtain⟨b0,b1,b2,b3,b4,b5,b6,b7,b8,b9,b10,b11,b12,l12,c12,z12,b13,l13,c13,z13,b14,b15,b16,b17,b18,b19,b20,b21,rfl,-,-,-,-,-,-,-,-,-,-,-,-,h1,h2,h3,h4,-⟩:=h
 refine⟨oL b0 b1 b2 b3 b4 b5 b6 b7 b8 b9 b10 b11 l12 l13 b14 b15 b16 b17 b18 b19 b20 b21,z12,z13,b12,l12,c12,b13,l13,c13,rfl,rfl,fun j v hj=>?_,h1,h3,h2,h4⟩
 have hj':j<22:=(List.getElem?_eq_some_iff.1 hj).1
 rw [hc j hj',← hj]
 rfl
theorem lrow_of {w:World} {oa:Option Addr} {on oc:Nat} (h:ORow 22 (OpIn w) w oa on oc):∃ O Z B,LRow w oa on oc O Z B:=by
 obtain⟨h1,h2,h3,h4⟩:=h
 cases oa with
 | none=>exact⟨fun _ _=>0,fun _=>[],fun _=>[],h1,h2,h3,fun x hx=>by cases hx⟩
 | some x =>
  have q:∀ i,∃ y:(Nat→Int)×List Int×List Int,i<on→LOp w (x.add (i*22)) y.1 y.2.1 y.2.2:=by
   intro i
   by_cases hi:i<on
   ·obtain⟨cs,-,g1,g2⟩:=h4 x rfl i hi
    obtain⟨o,z,b,g⟩:=lop_of (x:=x.add (i*22)) g1 (fun j hj=>by rw [Addr.add_add];exact g2 j hj)
    exact⟨(o,z,b),fun _=>g⟩
   ·exact⟨(fun _=>0,[],[]),fun h=>absurd h hi⟩
  obtain⟨f,hf⟩:=Classical.skolem.1 q
  exact⟨fun i=>(f i).1,fun i=>(f i).2.1,fun i=>(f i).2.2,h1,h2,h3,fun y hy i hi=>by cases hy;exact hf i hi⟩
def Sit (k kh kw sh sw tp lf bt rt h w c H V C:Int) (lw lb:Nat):Prop :=
 (1≤k∧k≤4)∧vS h w c=true∧vS H V C=true∧(2≤k→ouR h w c kh kw sh sw tp lf bt rt=(H,V,0))∧(k=1→H=1∧V=1)∧(2≤k→(1≤kh∧kh≤32)∧(1≤kw∧kw≤32)) ∧
   (k≤3→(lw:Int)=C*stR k kh kw h w c∧(lb:Int)=C)∧(3≤k→C=c)∧(1≤stR k kh kw h w c∧stR k kh kw h w c≤512)
theorem op_sit {k a b m kh kw sh sw tp lf bt rt:Int} {lw lb:Nat} {sm ss um us z p lo hi wk:Int} {L:List (Int×Int×Int)} (hx:tkE k a b m kh kw sh sw tp lf bt rt lw lb sm ss um us z p lo hi L wk=0) (hk:1≤k∧k≤4) (hv:∀ s∈L,vS3 s=true)
  {h w c H V C:Int} (hA:ShA L a=(h,w,c)) (hB:mk3 k m kh kw sh sw tp lf bt rt (h,w,c)=(H,V,C)):Sit k kh kw sh sw tp lf bt rt h w c H V C lw lb:=by
 obtain⟨t1,-,-,⟨a0,a1⟩,-,t6⟩:=tk_0 hx hv
 have hg:vS h w c=true:=by
  obtain⟨i,rfl⟩:=Int.eq_ofNat_of_zero_le a0
  have:=hv _ (ShA_mem (show i<L.length by omega))
  rw [hA] at this
  exact this
 have h1:opE k a b m kh kw sh sw tp lf bt rt lw lb sm ss um us z p lo hi L=0:=by
  unfold tkE at hx
  by_cases q:opE k a b m kh kw sh sw tp lf bt rt lw lb sm ss um us z p lo hi L≠0
  ·rw [if_pos q] at hx;exact hx
  ·exact Decidable.not_not.1 q
 rw [hA] at t1 t6
 rw [hB] at t1
 have fit:=fit_of (A:=(h,w,c)) t6 (by rw [hB];exact t1)
 rw [hB] at fit
 obtain⟨f1,f2,-⟩:=fit
 have hw:2≤k∧k≤5→(1≤kh∧kh≤32)∧(1≤kw∧kw≤32):=mkE_win t6
 have hst:=stR_bd (k:=k) (kh:=kh) (kw:=kw) (by omega) hg hw
 unfold opE at h1
 rw [hA] at h1
 rw [hB] at h1
 by_cases q1:fmE k a b L.length (ozB k b m kh kw sh sw tp lf bt rt lw lb sm ss um us z p)≠0
 ·rw [if_pos q1] at h1;exact absurd h1 q1
 rw [if_neg q1] at h1
 simp only at h1
 rw [t6,if_neg (by decide),if_neg (by omega)] at h1
 by_cases q2:rdB k=true∧512<st3 k kh kw (h,w,c)
 ·rw [if_pos q2] at h1;cases h1
 rw [if_neg q2] at h1
 have h512:stR k kh kw h w c≤512:=by
  by_cases q:stR k kh kw h w c≤512
  ·exact q
  ·exact absurd ⟨decide_eq_true (by omega),by show 512<stR k kh kw h w c;omega⟩ q2
 unfold nuE at h1
 have hle:leB k C (st3 k kh kw (h,w,c)) lw lb=true:=by
  cases q:leB k C (st3 k kh kw (h,w,c)) lw lb with
  | true=>rfl
  | false=>rw [q,if_pos rfl] at h1;cases h1
 have hle':=of_decide_eq_true hle
 refine⟨hk,hg,f1,fun q=>(f2 (by omega)).1,fun q=>?_,fun q=>hw (by omega),hle',fun q=>(f2 (by omega)).2 (by omega),hst.1,h512⟩
 subst q
 have:mk3 1 m kh kw sh sw tp lf bt rt (h,w,c)=(1,1,m):=by unfold mk3 mkS;rw [if_pos rfl]
 rw [this] at hB
 simp only [Prod.mk.injEq] at hB
 exact⟨hB.1.symm,hB.2.1.symm⟩
def cov (C p c:Int):Int:=if p = -1 then -1 else p*C+c
def tpc (h w kw t u q:Int):Int:=plc h w (t+q / kw) (u+q % kw)
def plA (k C ch h w kw t u i:Int):Int:=if k=1 then i else if k=2 then cov C (tpc h w kw t u (i / C)) (i % C) else cov C (tpc h w kw t u i) (ch-1)
def wgA (k ch st:Int) (z:List Int) (i:Int):Int:=if k=4 then 1 else z.getD ((ch-1)*st+i).toNat 0
def biA (k ch:Int) (b:List Int):Int:=if k=4 then 0 else b.getD (ch-1).toNat 0
def tmL (k C ch h w kw t u st:Int) (z:List Int) (n:Nat):List (Int×Int):=(List.range n).map fun (i:Nat)=>(wgA k ch st z i,plA k C ch h w kw t u i)
theorem tmL_len (k C ch h w kw t u st:Int) (z:List Int) (n:Nat):(tmL k C ch h w kw t u st z n).length=n:=by simp [tmL]
theorem tmL_succ (k C ch h w kw t u st:Int) (z:List Int) (n:Nat):tmL k C ch h w kw t u st z (n+1)=tmL k C ch h w kw t u st z n++[(wgA k ch st z n,plA k C ch h w kw t u n)]:=by simp [tmL,List.range_succ]
def siL (k kh kw sh sw tp lf bt rt h w c ch at':Int) (z:List Int):List (Int×Int) :=
 tmL k c ch h w kw (coR h w c kh kw sh sw tp lf bt rt at').1 (coR h w c kh kw sh sw tp lf bt rt at').2.1 (stR k kh kw h w c) z (stR k kh kw h w c).toNat
def fiE (O:Nat→Nat→Int) (h w c lo hi ot:Int) (on:Nat) (op:Int):Int :=
 if (gtR O h w c lo hi ot on).1≠0 then (gtR O h w c lo hi ot on).1 else if ¬ (1≤op∧op≤(on:Int)) then 3 else if rdB (O (op-1).toNat 0)=false then 81 else 0
end Go.Proofs.YtehofmkpgopmpaaGreat
namespace Go.Proofs.YtehofmkpgopmpaaGreat.Fx
open Go.Value renaming int → U, slice → Sl
open Go.IntKind renaming i64 → i6
set_option maxRecDepth 100000
set_option maxHeartbeats 16000000
open Go.ChangeShapes Go.WideShapes Go.ChangeAt Go.RowKit
def sizeV (x:Int):Int:=if x<0 then -x else x
theorem sizeV_bd (x:Int) (h:I64 x):0≤sizeV x∧sizeV x≤9223372036854775808:=by unfold sizeV; unfold I64 at h; split<;>omega
theorem u64w (x:Int):IntKind.u64.wrap x=x % 18446744073709551616:=by simp [IntKind.wrap,IntKind.bits,IntKind.signed]
theorem size_any (x:Int) (w:World) (h:I64 x) :
  Calls Tryz.prog 82 #[U i6 x] w fun e w'=>e=.returned (.int .u64 (sizeV x))∧w'=w:=by
 obtain⟨h1,h2⟩:=h
 by_cases c:x<0
 ·have HR:Hid (IntKind.u64.wrap (-IntKind.u64.wrap x)=sizeV x):=by unfold Hid sizeV;rw [u64w,u64w,if_pos c];omega
  go_enter Tryz.func82,Tryz.ntmps82
  go_wp2
  go_ret
  exact⟨ret1 HR.out,rfl⟩
 ·have HR:Hid (x=sizeV x):=by unfold Hid sizeV;rw [if_neg c]
  go_enter Tryz.func82,Tryz.ntmps82
  go_wp2
  go_ret
  exact⟨ret1 HR.out,rfl⟩
theorem signed_neg (p:Int) (w:World) (h1:0≤p) (h2:p≤9223372036854775808) :
  Calls Tryz.prog 111 #[.int .u64 p,.bool true] w fun e w'=>e=.returned (.tuple #[U i6 (-p),.bool true])∧w'=w:=by
 have HR:Hid (wrap64 (IntKind.u64.wrap (-p)) = -p):=by unfold Hid wrap64;rw [u64w];omega
 go_enter Tryz.func111,Tryz.ntmps111
 go_wp2
 go_ret2
 exact⟨by rw [HR.out];rfl,rfl⟩
theorem signed_pos (p:Int) (w:World) (h1:0≤p) (h2:p<9223372036854775808) :
  Calls Tryz.prog 111 #[.int .u64 p,.bool false] w fun e w'=>e=.returned (.tuple #[U i6 p,.bool true])∧w'=w:=by
 go_enter Tryz.func111,Tryz.ntmps111
 go_wp2
 go_ret2
 exact⟨rfl,rfl⟩
def hq (s d:Int):Int:=if d≤2*(s % d) then s / d+1 else s / d
def rq (x d:Int):Int:=if x<0 then -(hq (-x) d) else hq x d
def p2 (n:Int):Int:=2 ^ n.toNat
theorem hq_bd (s d:Int) (hs:0≤s) (hd:1≤d):0≤hq s d∧hq s d≤s:=by
 have e:=Int.mul_ediv_add_emod s d
 have r0:=Int.emod_nonneg s (show d≠0 by omega)
 have r1:=Int.emod_lt_of_pos s (show 0<d by omega)
 have q0:=Int.ediv_nonneg hs (show 0≤d by omega)
 have q1:s / d≤d*(s / d):=by
  have:=Int.mul_le_mul_of_nonneg_right hd q0
  omega
 unfold hq
 split<;>omega
theorem rq_size (x d:Int) (hd:1≤d):-(sizeV x)≤rq x d∧rq x d≤sizeV x∧(x<0→rq x d≤0)∧(¬ x<0→0≤rq x d):=by
 unfold rq sizeV
 by_cases h:x<0
 ·have:=hq_bd (-x) d (by omega) hd
  rw [if_pos h,if_pos h];omega
 ·have:=hq_bd x d (by omega) hd
  rw [if_neg h,if_neg h];omega
theorem p2_nat (n:Int):p2 n=((2 ^ n.toNat:Nat):Int):=by
 unfold p2;simp
theorem p2_pos (n:Int):1≤p2 n:=by
 rw [p2_nat]
 have:=Nat.two_pow_pos n.toNat
 omega
theorem p2_le (n:Int) (h:n≤62):p2 n≤4611686018427387904:=by
 rw [p2_nat]
 have:=Nat.pow_le_pow_right (show 0<2 by omega) (show n.toNat≤62 by omega)
 omega
theorem tdiv_neg' (x d:Int) (hx:x<0):x.tdiv d = -((-x) / d)∧x.tmod d = -((-x) % d):=by
 have e:=Int.tmod_eq_emod_of_nonneg (a:=-x) (b:=d) (by omega)
 have f:=Int.tdiv_eq_ediv_of_nonneg (a:=-x) (b:=d) (by omega)
 rw [Int.neg_tmod] at e
 rw [Int.neg_tdiv] at f
 omega
theorem drewN_below (w:World) (n:Nat):Below w.heap.size w (w.drewN n):=below_drewN (Below.refl _ _) n
theorem rq_any (x d:Int) (w:World) (hx:I64 x) (d1:1≤d) (d2:d≤9223372036854775807) :
  Calls Tryz.prog 101 #[U i6 x,U i6 d] w fun e w'=>e=.returned (U i6 (rq x d))∧Below w.heap.size w w':=by
 obtain⟨x1,x2⟩:=hx
 have hd0:(d == 0)=false:=by simp;omega
 by_cases c:x<0
 ·have HR:Hid (rq x d = -(hq (-x) d)):=by unfold Hid rq;rw [if_pos c]
  obtain⟨b1,b2⟩:=hq_bd (-x) d (by omega) d1
  have ht:=tdiv_neg' x d c
  have r0:=Int.emod_nonneg (-x) (show d≠0 by omega)
  have r1:=Int.emod_lt_of_pos (-x) (show 0<d by omega)
  have q0:=Int.ediv_nonneg (show 0≤-x by omega) (show 0≤d by omega)
  have q1:=Int.ediv_le_self (d) (show 0≤-x by omega)
  by_cases c2:d≤2*(-x % d)
  ·have HH:Hid (hq (-x) d = -x / d+1):=by unfold Hid hq;rw [if_pos c2]
   rw [HH.out] at b2
   obtain⟨q,hq'⟩:∃ q,q = -x / d:=⟨_,rfl⟩
   obtain⟨r,hr'⟩:∃ r,r = -x % d:=⟨_,rfl⟩
   rw [← hq',← hr'] at ht
   rw [← hr'] at r0 r1 c2
   rw [← hq'] at q0 q1 b2
   have HQ:Hid (q = -x / d):=hq'
   obtain⟨t1,t2⟩:=ht
   clear b1 hq' hr'
   have c3:¬ 0 < -r:=by omega
   have c4:-r<0:=by omega
   have c5:d+-r≤- -r:=by omega
   clear c2
   go_enter Tryz.func101,Tryz.ntmps101
   go_wp2
   go_quiet (fail)
   go_wp2
   go_ret
   exact⟨ret1 (by rw [HR.out,HH.out,← HQ.out];omega),drewN_below _ _⟩
  ·have HH:Hid (hq (-x) d = -x / d):=by unfold Hid hq;rw [if_neg c2]
   rw [HH.out] at b2
   obtain⟨q,hq'⟩:∃ q,q = -x / d:=⟨_,rfl⟩
   obtain⟨r,hr'⟩:∃ r,r = -x % d:=⟨_,rfl⟩
   rw [← hq',← hr'] at ht
   rw [← hr'] at r0 r1 c2
   rw [← hq'] at q0 q1 b2
   have HQ:Hid (q = -x / d):=hq'
   obtain⟨t1,t2⟩:=ht
   clear b1 hq' hr'
   have c3:¬ 0 < -r:=by omega
   have c5:¬ d+-r≤- -r:=by omega
   clear c2
   by_cases c4:-r<0
   all_goals
    go_enter Tryz.func101,Tryz.ntmps101
    go_wp2
    go_quiet (fail)
    go_wp2
    go_ret
    exact⟨ret1 (by rw [HR.out,HH.out,← HQ.out]),drewN_below _ _⟩
 ·have HR:Hid (rq x d=hq x d):=by unfold Hid rq;rw [if_neg c]
  obtain⟨b1,b2⟩:=hq_bd x d (by omega) d1
  have r0:=Int.emod_nonneg x (show d≠0 by omega)
  have r1:=Int.emod_lt_of_pos x (show 0<d by omega)
  have q0:=Int.ediv_nonneg (show 0≤x by omega) (show 0≤d by omega)
  have q1:=Int.ediv_le_self (d) (show 0≤x by omega)
  by_cases c2:d≤2*(x % d)
  ·have HH:Hid (hq x d=x / d+1):=by unfold Hid hq;rw [if_pos c2]
   rw [HH.out] at b2
   clear b1
   have c3:0<x % d:=by omega
   have c4:d-x % d≤x % d:=by omega
   clear c2
   go_enter Tryz.func101,Tryz.ntmps101
   go_wp2
   go_quiet (fail)
   go_wp2
   go_ret
   exact⟨ret1 (by rw [HR.out,HH.out]),drewN_below _ _⟩
  ·have HH:Hid (hq x d=x / d):=by unfold Hid hq;rw [if_neg c2]
   rw [HH.out] at b2
   clear b1
   have c4:¬ d-x % d≤x % d:=by omega
   have c5:¬ x % d<0:=by omega
   clear c2
   by_cases c3:0<x % d
   all_goals
    go_enter Tryz.func101,Tryz.ntmps101
    go_wp2
    go_quiet (fail)
    go_wp2
    go_ret
    exact⟨ret1 (by rw [HR.out,HH.out]),drewN_below _ _⟩
def shB (n:Int):Bool:=decide (0≤n∧n≤62)
def shV (x n:Int):Int:=if shB n=true then rq x (p2 n) else 0
def shE (n:Int):Int:=if shB n=true then 0 else 20
theorem p2_wrap (n:Int) (h:n≤62):wrap64 (2 ^ n.toNat)=p2 n:=by
 have h1:=p2_pos n
 have h2:=p2_le n h
 show wrap64 (p2 n)=p2 n
 exact IntWalk.wrap64_in _ ⟨by omega,by omega⟩
theorem reach_any (n:Int) (w:World) :
  Calls Tryz.prog 124 #[U i6 n] w fun e w'=>e=.returned (.bool (shB n))∧w'=w:=by
 by_cases c:0≤n
 ·have HR:Hid (decide (n≤62)=shB n):=by unfold Hid shB;simp [c]
  go_enter Tryz.func124,Tryz.ntmps124
  go_wp2
  go_ret
  exact⟨retB HR.out,rfl⟩
 ·have HR:Hid (false=shB n):=by unfold Hid shB;simp;omega
  go_enter Tryz.func124,Tryz.ntmps124
  go_wp2
  go_ret
  exact⟨retB HR.out,rfl⟩
theorem shift_any (x n:Int) (w:World) (hx:I64 x) :
  Calls Tryz.prog 100 #[U i6 x,U i6 n] w fun e w'=>e=.returned (.tuple #[U i6 (shV x n),U i6 (shE n)])∧Below w.heap.size w w':=by
 cases hb:shB n with
 | true =>
  have HV:Hid (shV x n=rq x (p2 n)):=by unfold Hid shV;rw [if_pos hb]
  have HE:Hid (shE n=0):=by unfold Hid shE;rw [if_pos hb]
  rw [HV.out,HE.out]
  have hn:0≤n∧n≤62:=by unfold shB at hb;simpa using hb
  obtain⟨n1,n2⟩:=hn
  have h1:=p2_pos n
  have h2:=p2_le n n2
  have HP:Hid (wrap64 (2 ^ n.toNat)=p2 n):=p2_wrap n n2
  go_enter Tryz.func100,Tryz.ntmps100
  go_wp2_with fail
  refine (reach_any _ _).mono ?_
  rintro e w' ⟨rfl,rfl⟩
  go_wp2_with fail
  rw [HP.out]
  refine (rq_any _ _ _ hx h1 (by omega)).mono ?_
  rintro e w1 ⟨rfl,hw⟩
  go_wp2
  go_ret2
  exact⟨rfl,hw⟩
 | false =>
  have HV:Hid (shV x n=0):=by unfold Hid shV;rw [hb,if_neg (by decide)]
  have HE:Hid (shE n=20):=by unfold Hid shE;rw [hb,if_neg (by decide)]
  rw [HV.out,HE.out]
  go_enter Tryz.func100,Tryz.ntmps100
  go_wp2_with fail
  refine (reach_any _ _).mono ?_
  rintro e w' ⟨rfl,rfl⟩
  go_wp2
  go_ret2
  exact⟨rfl,Below.refl _ _⟩
def meV (x n:Int):Int:=if n<1 then 0 else rq x n
def meE (n:Int):Int:=if n<1 then 2 else 0
theorem mean_any (x n:Int) (w:World) (hx:I64 x) (hn:I64 n) :
  Calls Tryz.prog 66 #[U i6 x,U i6 n] w fun e w'=>e=.returned (.tuple #[U i6 (meV x n),U i6 (meE n)])∧Below w.heap.size w w':=by
 obtain⟨n1,n2⟩:=hn
 by_cases c:n<1
 ·have HV:Hid (meV x n=0):=if_pos c
  have HE:Hid (meE n=2):=if_pos c
  rw [HV.out,HE.out]
  go_enter Tryz.func66,Tryz.ntmps66
  go_wp2
  go_ret2
  exact⟨rfl,Below.refl _ _⟩
 ·have HV:Hid (meV x n=rq x n):=if_neg c
  have HE:Hid (meE n=0):=if_neg c
  rw [HV.out,HE.out]
  go_enter Tryz.func66,Tryz.ntmps66
  go_wp2_with fail
  refine (rq_any _ _ _ hx (by omega) n2).mono ?_
  rintro e w1 ⟨rfl,hw⟩
  go_wp2
  go_ret2
  exact⟨rfl,hw⟩
def vaB (x:Int):Bool:=decide (-128≤x∧x≤127)
def fiB (z lo hi:Int):Bool:=decide (-128≤lo∧lo≤hi∧hi≤127∧-128≤z∧z≤127)
def fiV (v z lo hi:Int):Int:=if fiB z lo hi=true then clampV (v+z) lo hi else 0
def fiE (z lo hi:Int):Int:=if fiB z lo hi=true then 0 else 85
theorem clamp_moved (v z lo hi:Int):clampV v (lo-z) (hi-z)+z=clampV (v+z) lo hi:=by
 unfold clampV
 by_cases c1:hi-z<v
 ·rw [if_pos c1,if_pos (show hi<v+z by omega)];omega
 ·rw [if_neg c1,if_neg (show ¬ hi<v+z by omega)]
  by_cases c2:v<lo-z
  ·rw [if_pos c2,if_pos (show v+z<lo by omega)];omega
  ·rw [if_neg c2,if_neg (show ¬ v+z<lo by omega)]
theorem clamp_in_ends (v lo hi:Int) (h:lo≤hi):lo≤clampV v lo hi∧clampV v lo hi≤hi:=by
 unfold clampV;split
 ·omega
 ·split<;>omega
theorem value_any (x:Int) (w:World) :
  Calls Tryz.prog 102 #[U i6 x] w fun e w'=>e=.returned (.bool (vaB x))∧w'=w:=by
 by_cases c:-128≤x
 ·have HR:Hid (decide (x≤127)=vaB x):=by unfold Hid vaB;simp [c]
  go_enter Tryz.func102,Tryz.ntmps102
  go_wp2
  go_ret
  exact⟨retB HR.out,rfl⟩
 ·have HR:Hid (false=vaB x):=by unfold Hid vaB;simp;omega
  go_enter Tryz.func102,Tryz.ntmps102
  go_wp2
  go_ret
  exact⟨retB HR.out,rfl⟩
theorem finish_any (v z lo hi:Int) (w:World) :
  Calls Tryz.prog 68 #[U i6 v,U i6 z,U i6 lo,U i6 hi] w fun e w'=>e=.returned (.tuple #[U i6 (fiV v z lo hi),U i6 (fiE z lo hi)])∧w'=w:=by
 cases hb:fiB z lo hi with
 | true =>
  have HV:Hid (fiV v z lo hi=clampV (v+z) lo hi):=by unfold Hid fiV;rw [if_pos hb]
  have HE:Hid (fiE z lo hi=0):=by unfold Hid fiE;rw [if_pos hb]
  rw [HV.out,HE.out]
  have hn:-128≤lo∧lo≤hi∧hi≤127∧-128≤z∧z≤127:=by unfold fiB at hb;simpa using hb
  obtain⟨n1,n2,n3,n4,n5⟩:=hn
  have v1:vaB lo=true:=by unfold vaB;simp;omega
  have v2:vaB hi=true:=by unfold vaB;simp;omega
  have v3:vaB z=true:=by unfold vaB;simp;omega
  have v4:¬ hi<lo:=by omega
  obtain⟨k1,k2⟩:=clamp_in_ends v (lo-z) (hi-z) (by omega)
  have HM:Hid (clampV v (lo-z) (hi-z)+z=clampV (v+z) lo hi):=clamp_moved v z lo hi
  clear hb
  go_enter Tryz.func68,Tryz.ntmps68
  go_wp2_with fail
  refine (value_any _ _).mono ?_
  rintro e w' ⟨rfl,rfl⟩
  go_wp2_with fail
  refine (value_any _ _).mono ?_
  rintro e w' ⟨rfl,rfl⟩
  go_wp2_with fail
  refine (value_any _ _).mono ?_
  rintro e w' ⟨rfl,rfl⟩
  go_wp2_with fail
  refine (clamp_any _ _ _ _).mono ?_
  rintro e w' ⟨rfl,rfl⟩
  go_wp2
  go_ret2
  exact⟨ret2 HM.out rfl,rfl⟩
 | false =>
  have HV:Hid (fiV v z lo hi=0):=by unfold Hid fiV;rw [hb,if_neg (by decide)]
  have HE:Hid (fiE z lo hi=85):=by unfold Hid fiE;rw [hb,if_neg (by decide)]
  rw [HV.out,HE.out]
  have hn:¬ (-128≤lo∧lo≤hi∧hi≤127∧-128≤z∧z≤127):=by unfold fiB at hb;simpa using hb
  clear hb
  cases v1:vaB lo with
  | false =>
   clear hn
   go_enter Tryz.func68,Tryz.ntmps68
   go_wp2_with fail
   refine (value_any _ _).mono ?_
   rintro e w' ⟨rfl,rfl⟩
   go_wp2
   go_ret2
   exact⟨rfl,rfl⟩
  | true =>
   cases v2:vaB hi with
   | false =>
    clear hn
    go_enter Tryz.func68,Tryz.ntmps68
    go_wp2_with fail
    refine (value_any _ _).mono ?_
    rintro e w' ⟨rfl,rfl⟩
    go_wp2_with fail
    refine (value_any _ _).mono ?_
    rintro e w' ⟨rfl,rfl⟩
    go_wp2
    go_ret2
    exact⟨rfl,rfl⟩
   | true =>
    by_cases v4:hi<lo
    ·clear hn
     go_enter Tryz.func68,Tryz.ntmps68
     go_wp2_with fail
     refine (value_any _ _).mono ?_
     rintro e w' ⟨rfl,rfl⟩
     go_wp2_with fail
     refine (value_any _ _).mono ?_
     rintro e w' ⟨rfl,rfl⟩
     go_wp2
     go_ret2
     exact⟨rfl,rfl⟩
    ·have v3:vaB z=false:=by
      unfold vaB at v1 v2 ⊢
      simp at v1 v2 ⊢
      omega
     clear hn
     go_enter Tryz.func68,Tryz.ntmps68
     go_wp2_with fail
     refine (value_any _ _).mono ?_
     rintro e w' ⟨rfl,rfl⟩
     go_wp2_with fail
     refine (value_any _ _).mono ?_
     rintro e w' ⟨rfl,rfl⟩
     go_wp2_with fail
     refine (value_any _ _).mono ?_
     rintro e w' ⟨rfl,rfl⟩
     go_wp2
     go_ret2
     exact⟨rfl,rfl⟩
theorem bcell {W w1:World} (hb:Below W.heap.size W w1):(∀ b o,b<W.heap.size→w1.cell? ⟨b,o,none⟩=W.cell? ⟨b,o,none⟩)∧(∀ b o,b<W.heap.size→w1.frozen? ⟨b,o,none⟩=W.frozen? ⟨b,o,none⟩) :=
 ⟨fun b o h=>hb.cell (p:=⟨b,o,none⟩) h,fun b o h=>hb.frozen (p:=⟨b,o,none⟩) h⟩
def scB (m s:Int):Bool:=decide (1≤m∧m≤2147483647∧0≤s∧s≤62)
def acB (a:Int):Bool:=decide (-4294967296≤a∧a≤4294967296)
def apV (a m s:Int):Int:=if scB m s=true then (if acB a=true then rq (a*m) (p2 s) else 0) else 0
def apE (a m s:Int):Int:=if scB m s=true then (if acB a=true then 0 else 10) else 20
theorem prod_bd (a m:Int) (a1:-4294967296≤a) (a2:a≤4294967296) (m1:1≤m) (m2:m≤2147483647):-9223372032559808512≤a*m∧a*m≤9223372032559808512:=by
 have h1:=Int.mul_le_mul_of_nonneg_right a1 (show 0≤m by omega)
 have h2:=Int.mul_le_mul_of_nonneg_right a2 (show 0≤m by omega)
 omega
theorem valid_any (m s:Int) (w:World) :
  Calls Tryz.prog 99 #[.agg #[U i6 m,U i6 s]] w fun e w'=>e=.returned (.bool (scB m s))∧Below w.heap.size w w':=by
 by_cases c1:1≤m
 ·by_cases c2:m≤2147483647
  ·have HR:Hid (shB s=scB m s):=by unfold Hid shB scB;simp [c1,c2]
   go_enter Tryz.func99,Tryz.ntmps99
   go_wp2_with fail
   refine (reach_any _ _).mono ?_
   rintro e w' ⟨rfl,rfl⟩
   go_wp2
   go_ret
   exact⟨retB HR.out,(Below.refl _ _).alloc (Nat.le_refl _) _⟩
  ·have HR:Hid (false=scB m s):=by unfold Hid scB;simp [c2]
   go_enter Tryz.func99,Tryz.ntmps99
   go_wp2
   go_ret
   exact⟨retB HR.out,(Below.refl _ _).alloc (Nat.le_refl _) _⟩
 ·have HR:Hid (false=scB m s):=by unfold Hid scB;simp [c1]
  go_enter Tryz.func99,Tryz.ntmps99
  go_wp2
  go_ret
  exact⟨retB HR.out,(Below.refl _ _).alloc (Nat.le_refl _) _⟩
theorem apply_any (a m s:Int) (w:World) :
  Calls Tryz.prog 65 #[U i6 a,.agg #[U i6 m,U i6 s]] w fun e w'=>e=.returned (.tuple #[U i6 (apV a m s),U i6 (apE a m s)])∧Below w.heap.size w w':=by
 cases hs:scB m s with
 | false =>
  have HV:Hid (apV a m s=0):=by unfold Hid apV;rw [hs,if_neg (by decide)]
  have HE:Hid (apE a m s=20):=by unfold Hid apE;rw [hs,if_neg (by decide)]
  rw [HV.out,HE.out]
  go_enter Tryz.func65,Tryz.ntmps65
  go_wp2_with fail
  refine (valid_any _ _ _).mono ?_
  rintro e w' ⟨rfl,hb⟩
  go_wp2
  go_ret2
  exact⟨rfl,((Below.refl _ _).alloc (Nat.le_refl _) _).trans (hb.mono (by simp))⟩
 | true =>
  cases ha:acB a with
  | false =>
   have HV:Hid (apV a m s=0):=by unfold Hid apV;rw [hs,if_pos rfl,ha,if_neg (by decide)]
   have HE:Hid (apE a m s=10):=by unfold Hid apE;rw [hs,if_pos rfl,ha,if_neg (by decide)]
   rw [HV.out,HE.out]
   have hn:¬ (-4294967296≤a∧a≤4294967296):=by unfold acB at ha;simpa using ha
   by_cases c:a < -4294967296
   all_goals
    try have c':4294967296<a:=by omega
    clear hn
    go_enter Tryz.func65,Tryz.ntmps65
    go_wp2_with fail
    refine (valid_any _ _ _).mono ?_
    rintro e w' ⟨rfl,hb⟩
    go_wp2
    go_ret2
    exact⟨rfl,((Below.refl _ _).alloc (Nat.le_refl _) _).trans (hb.mono (by simp))⟩
  | true =>
   have HV:Hid (apV a m s=rq (a*m) (p2 s)):=by unfold Hid apV;rw [hs,if_pos rfl,ha,if_pos rfl]
   have HE:Hid (apE a m s=0):=by unfold Hid apE;rw [hs,if_pos rfl,ha,if_pos rfl]
   rw [HV.out,HE.out]
   have hn:-4294967296≤a∧a≤4294967296:=by unfold acB at ha;simpa using ha
   have hm:1≤m∧m≤2147483647∧0≤s∧s≤62:=by unfold scB at hs;simpa using hs
   obtain⟨a1,a2⟩:=hn
   obtain⟨m1,m2,s1,s2⟩:=hm
   have hp:=prod_bd a m a1 a2 m1 m2
   have hi:I64 (a*m):=by unfold I64;omega
   obtain⟨p1,p2'⟩:=hp
   have HS:Hid (shV (a*m) s=rq (a*m) (p2 s)):=by unfold Hid shV shB;rw [if_pos (by simp;omega)]
   have HT:Hid (shE s=0):=by unfold Hid shE shB;rw [if_pos (by simp;omega)]
   go_enter Tryz.func65,Tryz.ntmps65
   go_wp2_with fail
   refine (valid_any _ _ _).mono ?_
   rintro e w' ⟨rfl,hb⟩
   obtain⟨hc,hf⟩:=bcell hb
   go_wp2_with fail
   refine (shift_any _ _ _ hi).mono ?_
   rintro e w2 ⟨rfl,hb2⟩
   rw [HS.out,HT.out]
   go_wp2
   go_ret2
   exact⟨rfl,((Below.refl _ _).alloc (Nat.le_refl _) _).trans ((hb.mono (by simp)).trans (hb2.mono (by have:=hb.size;simp at this;omega)))⟩
end Go.Proofs.YtehofmkpgopmpaaGreat.Fx
namespace Go.Proofs.YtehofmkpgopmpaaGreat
open Go.Value renaming int → U, slice → Sl
open Go.IntKind renaming i64 → i6
set_option maxRecDepth 100000
set_option maxHeartbeats 16000000
open Go.ChangeShapes Go.WideShapes Go.ChangeAt Go.RowKit
set_option linter.unusedVariables false
structure Opd (k b m kh kw sh sw tp lf bt rt:Int) (lw lb:Nat) (sm ss um us z p lo hi h w c H V C:Int):Prop where
 hk:1≤k∧k≤8
 hA:vS h w c=true
 hB:vS H V C=true
 si:k≤4→Sit k kh kw sh sw tp lf bt rt h w c H V C lw lb
 al:k≤4→tkE k 0 b m kh kw sh sw tp lf bt rt lw lb sm ss um us z p lo hi [(h,w,c)] 0=0∧mk3 k m kh kw sh sw tp lf bt rt (h,w,c)=(H,V,C)
 ou:2≤k∧k≤5→ouR h w c kh kw sh sw tp lf bt rt=(H,V,0)
 c3:3≤k→C=c
 s6:6≤k→H=h∧V=w
 rz:rzB z p lo hi=true
 sc:ssB k sm ss um us=true
 oz:ozB k b m kh kw sh sw tp lf bt rt lw lb sm ss um us z p=true
theorem op_opd {k a b m kh kw sh sw tp lf bt rt:Int} {lw lb:Nat} {sm ss um us z p lo hi:Int} {wk:Int} {L:List (Int×Int×Int)} (hx:tkE k a b m kh kw sh sw tp lf bt rt lw lb sm ss um us z p lo hi L wk=0) (hwk:0≤wk) (hv:∀ s∈L,vS3 s=true)
  {h w c H V C:Int} (hA:ShA L a=(h,w,c)) (hB:mk3 k m kh kw sh sw tp lf bt rt (h,w,c)=(H,V,C)):Opd k b m kh kw sh sw tp lf bt rt lw lb sm ss um us z p lo hi h w c H V C∧(0≤b∧b<(L.length:Int))∧(k=6→ShA L b=(h,w,c)):=by
 obtain⟨t1,-,t3,⟨a0,a1⟩,hk,t6⟩:=tk_0 hx hv
 have hg:vS h w c=true:=by
  obtain⟨i,rfl⟩:=Int.eq_ofNat_of_zero_le a0
  have:=hv _ (ShA_mem (show i<L.length by omega))
  rw [hA] at this
  exact this
 have h1:opE k a b m kh kw sh sw tp lf bt rt lw lb sm ss um us z p lo hi L=0:=by
  unfold tkE at hx
  by_cases q:opE k a b m kh kw sh sw tp lf bt rt lw lb sm ss um us z p lo hi L≠0
  ·rw [if_pos q] at hx;exact hx
  ·exact Decidable.not_not.1 q
 have hsit:k≤4→Sit k kh kw sh sw tp lf bt rt h w c H V C lw lb:=fun q=>op_sit hx (by omega) hv hA hB
 rw [hA] at t1 t6
 rw [hB] at t1
 have fit:=fit_of (A:=(h,w,c)) t6 (by rw [hB];exact t1)
 rw [hB] at fit
 obtain⟨f1,f2,f3⟩:=fit
 have h1':=h1
 unfold opE at h1
 rw [hA,hB] at h1
 by_cases q1:fmE k a b L.length (ozB k b m kh kw sh sw tp lf bt rt lw lb sm ss um us z p)≠0
 ·rw [if_pos q1] at h1;exact absurd h1 q1
 rw [if_neg q1] at h1
 obtain⟨-,-,hb6,hoz⟩:=fmE_0 (Decidable.not_not.1 q1)
 simp only at h1
 rw [t6,if_neg (by decide)] at h1
 by_cases q3:k=6∧(h,w,c)≠ShA L b
 ·rw [if_pos q3] at h1;cases h1
 rw [if_neg q3] at h1
 by_cases q2:rdB k=true∧512<st3 k kh kw (h,w,c)
 ·rw [if_pos q2] at h1;cases h1
 rw [if_neg q2] at h1
 obtain⟨n1,n2,n3⟩:=nuE_0 h1
 have hoz':=of_decide_eq_true hoz
 have hal:k≤4→tkE k 0 b m kh kw sh sw tp lf bt rt lw lb sm ss um us z p lo hi [(h,w,c)] 0=0:=fun q=>by
  have e:ShA [(h,w,c)] 0=(h,w,c):=rfl
  have hf:fmE k 0 b (([(h,w,c)]:List (Int×Int×Int)).length:Int) (ozB k b m kh kw sh sw tp lf bt rt lw lb sm ss um us z p)=0:=by
   unfold fmE
   rw [if_neg (by omega),if_neg (by simp),if_neg (by omega),hoz,if_neg (by decide)]
  have ho:opE k 0 b m kh kw sh sw tp lf bt rt lw lb sm ss um us z p lo hi [(h,w,c)]=0:=by
   unfold opE
   rw [e,hB]
   simp only
   rw [hf,if_neg (by decide),t6,if_neg (by decide),if_neg (by omega),if_neg q2]
   exact h1
  unfold tkE
  rw [ho,if_neg (by decide),e]
  rw [hA] at t3
  rw [if_neg (by omega)]
 refine⟨⟨hk,hg,f1,hsit,fun q=>⟨hal q,hB⟩,fun q=>(f2 q).1,fun q=>?_,fun q=>?_,n3,n2,hoz⟩,?_,fun q=>?_⟩
 ·by_cases q5:k≤5
  ·exact (f2 (by omega)).2 (by omega)
  ·have:=f3 (by omega);simp only [Prod.mk.injEq] at this;exact this.2.2
 ·have:=f3 q;simp only [Prod.mk.injEq] at this;exact⟨this.1,this.2.1⟩
 ·by_cases q:k=6
  ·exact hb6 q
  ·have:=(hoz'.1 q).1;omega
 ·by_cases q4:(h,w,c)=ShA L b
  ·exact q4.symm
  ·exact absurd ⟨q,q4⟩ q3
theorem opd_of {O:Nat→Nat→Int} {h w c lo hi ot t wk:Int} {on:Nat} {L:List (Int×Int×Int)} (q:gtR O h w c lo hi ot on=(0,t,L,wk)) {i:Nat} (hi0:i<on) :
  ∃ ja jb:Nat,O i 1=(ja:Int)∧ja≤i∧O i 2=(jb:Int)∧jb≤i∧∀ x y v H V C,L.getD ja (0,0,0)=(x,y,v)→L.getD (i+1) (0,0,0)=(H,V,C) →
   Opd (O i 0) (O i 2) (O i 3) (O i 4) (O i 5) (O i 6) (O i 7) (O i 8) (O i 9) (O i 10) (O i 11) (O i 12).toNat (O i 13).toNat (O i 14) (O i 15) (O i 16) (O i 17) (O i 18) (O i 19) (O i 20) (O i 21) x y v H V C∧(O i 0=6→L.getD jb (0,0,0)=(x,y,v)):=by
 obtain⟨hx,rfl,q2⟩:=gtR_st q
 clear q
 have q:=q2
 have hv:vS3 (h,w,c)=true:=(ouE_0 hx).1
 obtain⟨wi,g1,-⟩:=stG_pre hv on L wk q (i+1) (by omega)
 obtain⟨L0,wk0,h0,hx0,hL,-⟩:=stG_step g1
 obtain⟨w2,g2,g3,-⟩:=stG_pre hv on L wk q i (by omega)
 rw [g2] at h0
 simp only [Prod.mk.injEq,true_and] at h0
 obtain⟨rfl,rfl⟩:=h0
 obtain⟨i1,i2,-⟩:=stG_inv hv i _ _ g2
 obtain⟨t1,-,-,⟨a0,a1⟩,-,t6⟩:=tk_0 hx0 i2
 obtain⟨j,hj⟩:=Int.eq_ofNat_of_zero_le a0
 rw [hj] at a1
 have e1:ShA (L.take (i+1)) (j:Int)=ShA L (j:Int):=ShA_take (by omega)
 have e2:ShA L ((i+1:Nat):Int)=mk3 (O i 0) (O i 3) (O i 4) (O i 5) (O i 6) (O i 7) (O i 8) (O i 9) (O i 10) (O i 11) (ShA L (j:Int)):=by
  rw [← ShA_take (n:=i+1+1) (by omega),hL]
  unfold ShA at e1 ⊢
  rw [Int.toNat_natCast]
  simp only [List.getD]
  rw [List.getElem?_append_right (by omega),i1,Nat.sub_self]
  unfold oM ShA
  rw [hj,Int.toNat_natCast]
  rw [Int.toNat_natCast] at e1
  simp only [List.getElem?_cons_zero,Option.getD_some]
  rw [e1]
  rfl
 obtain⟨A1,A2,A3,hA0⟩:∃ A1 A2 A3,ShA L (j:Int)=(A1,A2,A3):=⟨_,_,_,rfl⟩
 obtain⟨B1,B2,B3,hB0⟩:∃ B1 B2 B3,ShA L ((i+1:Nat):Int)=(B1,B2,B3):=⟨_,_,_,rfl⟩
 obtain⟨r1,⟨b0,b1⟩,r3⟩:=op_opd (h:=A1) (w:=A2) (c:=A3) (H:=B1) (V:=B2) (C:=B3) hx0 g3 i2 (by rw [hj,e1];exact hA0) (by rw [← hB0,e2,hA0])
 obtain⟨jb,hjb⟩:=Int.eq_ofNat_of_zero_le b0
 rw [hjb] at b1 r3
 refine⟨j,jb,hj,by omega,hjb,by omega,fun x y v H V C hA hB=>?_⟩
 have ea:(A1,A2,A3)=(x,y,v):=by rw [← hA0,← hA];unfold ShA;rw [Int.toNat_natCast]
 have eb:(B1,B2,B3)=(H,V,C):=by rw [← hB0,← hB];unfold ShA;rw [Int.toNat_natCast]
 simp only [Prod.mk.injEq] at ea eb
 obtain⟨rfl,rfl,rfl⟩:=ea
 obtain⟨rfl,rfl,rfl⟩:=eb
 refine⟨r1,fun q6=>?_⟩
 have:=r3 q6
 rw [ShA_take (by omega)] at this
 unfold ShA at this
 rwa [Int.toNat_natCast] at this
theorem alone_g {k a b m kh kw sh sw tp lf bt rt:Int} {lw lb:Nat} {sm ss um us z p lo hi:Int} {h w c H V C:Int} (s:Opd k b m kh kw sh sw tp lf bt rt lw lb sm ss um us z p lo hi h w c H V C) (hk:k≤4) :
  ∃ Rw,gtR (fun _=>oL k 0 b m kh kw sh sw tp lf bt rt (lw:Int) (lb:Int) sm ss um us z p lo hi) h w c 0 0 0 1=(0,0,[(h,w,c),(H,V,C)],Rw):=by
 have hou:ouE h w c 0 0 0 1=0:=by
  unfold ouE
  rw [s.hA,if_neg (by decide),show rgB 0 0=true by decide,if_neg (by decide),if_neg (by decide),if_neg (by decide)]
 obtain⟨a1,a2⟩:=s.al hk
 rw [gtR_of hou]
 have hT:oT (oL k 0 b m kh kw sh sw tp lf bt rt (lw:Int) (lb:Int) sm ss um us z p lo hi) [(h,w,c)] 0=0:=by
  show tkE k 0 b m kh kw sh sw tp lf bt rt (lw:Int).toNat (lb:Int).toNat sm ss um us z p lo hi [(h,w,c)] 0=0
  rw [Int.toNat_natCast,Int.toNat_natCast]
  exact a1
 rw [stG_ok (i:=0) (L:=[(h,w,c)]) (wk:=0) rfl hT]
 have hM:oM (oL k 0 b m kh kw sh sw tp lf bt rt (lw:Int) (lb:Int) sm ss um us z p lo hi) [(h,w,c)]=(H,V,C):=a2
 rw [hM]
 exact⟨_,rfl⟩
def smT (p:Int) (x:List Int) (t:Int×Int):Int:=t.1*(if t.2<0 then p else x.getD t.2.toNat 0)
def smV (p:Int) (x:List Int):List (Int×Int)→Int
 | []=>0
 | t :: l=>smT p x t+smV p x l
theorem smV_app (p:Int) (x:List Int):∀ l r:List (Int×Int),smV p x (l++r)=smV p x l+smV p x r
 | [],r=>by simp [smV]
 | t :: l,r=>by simp only [List.cons_append,smV,smV_app p x l r];omega
theorem smV_take {p:Int} {x:List Int} {l:List (Int×Int)} {n:Nat} {u v:Int} (hn:n<l.length) (h:l.getD n (0,0)=(u,v)):smV p x (l.take (n+1))=smV p x (l.take n)+smT p x (u,v):=by
 rw [List.getD_eq_getElem?_getD,List.getElem?_eq_getElem hn,Option.getD_some] at h
 rw [List.take_add_one,List.getElem?_eq_getElem hn,smV_app,h]
 simp [smV]
def I8 (v:Int):Prop:=-128≤v∧v≤127
theorem getD_i8 {x:List Int} (h:∀ v∈x,I8 v) (n:Nat):I8 (x.getD n 0):=by
 rcases Nat.lt_or_ge n x.length with q | q
 ·rw [List.getD_eq_getElem?_getD,List.getElem?_eq_getElem q];exact h _ (List.getElem_mem q)
 ·rw [List.getD_eq_getElem?_getD,List.getElem?_eq_none q];exact⟨by decide,by decide⟩
theorem prod_i8 {a v:Int} (ha:-32768≤a∧a≤32767) (hv:I8 v):-4194304≤a*v∧a*v≤4194304:=by
 obtain⟨v1,v2⟩:=hv
 rcases Int.le_total 0 a with h | h
 ·have p1:=Int.mul_le_mul_of_nonneg_left v1 h
  have p2:=Int.mul_le_mul_of_nonneg_left v2 h
  omega
 ·have p1:=Int.mul_le_mul_of_nonpos_left h v1
  have p2:=Int.mul_le_mul_of_nonpos_left h v2
  omega
theorem smT_bd {p:Int} {x:List Int} {t:Int×Int} (hp:I8 p) (hx:∀ v∈x,I8 v) (ht:-32768≤t.1∧t.1≤32767):-4194304≤smT p x t∧smT p x t≤4194304:=by
 unfold smT
 split
 ·exact prod_i8 ht hp
 ·exact prod_i8 ht (getD_i8 hx _)
theorem smV_bd {p:Int} {x:List Int} (hp:I8 p) (hx:∀ v∈x,I8 v):∀ l:List (Int×Int),(∀ t∈l,-32768≤t.1∧t.1≤32767)→-(4194304*(l.length:Int))≤smV p x l∧smV p x l≤4194304*(l.length:Int)
 | [],_=>by simp [smV]
 | t :: l,h=>by
  have h1:=smV_bd hp hx l fun t ht=>h t (List.mem_cons_of_mem _ ht)
  have h2:=smT_bd hp hx (h t List.mem_cons_self)
  simp only [smV,List.length_cons]
  omega
theorem take_mem {l:List (Int×Int)} {P:Int×Int→Prop} (h:∀ t∈l,P t) (n:Nat):∀ t∈l.take n,P t:=fun t ht=>h t (List.mem_of_mem_take ht)
theorem wgA_bd {k ch st:Int} {zs:List Int} (hz:∀ v∈zs,(Lit.int .i16 v).wf=true) (i:Int):-32768≤wgA k ch st zs i∧wgA k ch st zs i≤32767:=by
 unfold wgA
 split
 ·omega
 ·rcases Nat.lt_or_ge (((ch-1)*st+i).toNat) zs.length with q | q
  ·rw [List.getD_eq_getElem?_getD,List.getElem?_eq_getElem q,Option.getD_some]
   exact wf_i16 (hz _ (List.getElem_mem q))
  ·rw [List.getD_eq_getElem?_getD,List.getElem?_eq_none q,Option.getD_none];omega
theorem biA_bd {k ch:Int} {bs:List Int} (hb:∀ v∈bs,(Lit.int .i32 v).wf=true):-2147483648≤biA k ch bs∧biA k ch bs≤2147483647:=by
 unfold biA
 split
 ·omega
 ·rcases Nat.lt_or_ge ((ch-1).toNat) bs.length with q | q
  ·rw [List.getD_eq_getElem?_getD,List.getElem?_eq_getElem q,Option.getD_some]
   exact wf_i32 (hb _ (List.getElem_mem q))
  ·rw [List.getD_eq_getElem?_getD,List.getElem?_eq_none q,Option.getD_none];omega
theorem tpc_in {h w kw t u:Int} (q:Int):tpc h w kw t u q = -1∨(0≤tpc h w kw t u q∧tpc h w kw t u q<h*w):=by
 unfold tpc plc
 split
 ·rename_i g
  obtain⟨⟨g1,g2⟩,g3,g4⟩:=g
  have:=rowbd g2 g1 g3 g4
  right;omega
 ·left;rfl
theorem cov_in {n c q d:Int} (hq:q = -1∨(0≤q∧q<n)) (hd:0≤d∧d<c):cov c q d = -1∨(0≤cov c q d∧cov c q d<n*c):=by
 unfold cov
 split
 ·left;rfl
 ·rename_i g
  rcases hq with q1 | ⟨q1,q2⟩
  ·exact absurd q1 g
  ·have:=rowbd q2 q1 hd.1 hd.2
   right;omega
theorem plA_in {k kh kw sh sw tp lf bt rt h w c H V C:Int} {lw lb:Nat} (s:Sit k kh kw sh sw tp lf bt rt h w c H V C lw lb) {ch:Int} (hch:1≤ch∧ch≤C) (t u i:Int) (hi:0≤i∧i<stR k kh kw h w c) :
  plA k c ch h w kw t u i = -1∨(0≤plA k c ch h w kw t u i∧plA k c ch h w kw t u i<h*w*c):=by
 obtain⟨hk,hvA,-,-,-,-,-,h3c,-⟩:=s
 have hc1:=(vS_yes hvA).2.2.1
 unfold plA
 by_cases k1:k=1
 ·subst k1
  rw [if_pos rfl]
  have:stR 1 kh kw h w c=h*w*c:=rfl
  rw [this] at hi
  right;exact hi
 ·rw [if_neg k1]
  by_cases k2:k=2
  ·rw [if_pos k2]
   exact cov_in (tpc_in _) ⟨Int.emod_nonneg _ (by omega),Int.emod_lt_of_pos _ (by omega)⟩
  ·rw [if_neg k2]
   have:=h3c (by omega)
   exact cov_in (tpc_in _) ⟨by omega,by omega⟩
theorem siL_facts {k kh kw sh sw tp lf bt rt h w c H V C:Int} {lw lb:Nat} (s:Sit k kh kw sh sw tp lf bt rt h w c H V C lw lb) {zs:List Int} (hz:∀ v∈zs,(Lit.int .i16 v).wf=true) {ch:Int} (hch:1≤ch∧ch≤C) (at':Int) :
  (siL k kh kw sh sw tp lf bt rt h w c ch at' zs).length≤512∧∀ t∈siL k kh kw sh sw tp lf bt rt h w c ch at' zs,(-32768≤t.1∧t.1≤32767)∧(t.2 = -1∨(0≤t.2∧t.2<h*w*c)):=by
 have h1:=s.2.2.2.2.2.2.2.2.2
 have h0:=s.2.2.2.2.2.2.2.2.1
 unfold siL
 refine⟨by rw [tmL_len];omega,fun t ht=>?_⟩
 unfold tmL at ht
 obtain⟨i,hi,rfl⟩:=List.mem_map.1 ht
 have hi':i<(stR k kh kw h w c).toNat:=by simpa using hi
 exact⟨wgA_bd hz _,plA_in s hch _ _ _ ⟨by omega,by omega⟩⟩
def suA (k kh kw sh sw tp lf bt rt h w c p:Int) (zs bs x:List Int) (ch at':Int):Int:=biA k ch bs+smV p x (siL k kh kw sh sw tp lf bt rt h w c ch at' zs)
theorem suA_bd {k kh kw sh sw tp lf bt rt h w c H V C p:Int} {lw lb:Nat} (s:Sit k kh kw sh sw tp lf bt rt h w c H V C lw lb) {zs bs x:List Int} (hz:∀ v∈zs,(Lit.int .i16 v).wf=true) (hb:∀ v∈bs,(Lit.int .i32 v).wf=true) (hp:I8 p) (hx:∀ v∈x,I8 v) {ch:Int} (hch:1≤ch∧ch≤C) (at':Int) :
  -4294967296≤suA k kh kw sh sw tp lf bt rt h w c p zs bs x ch at'∧suA k kh kw sh sw tp lf bt rt h w c p zs bs x ch at'≤4294967296:=by
 obtain⟨h1,h2⟩:=siL_facts s hz hch at'
 have h3:=smV_bd hp hx _ fun t ht=>(h2 t ht).1
 have h4:=biA_bd (k:=k) (ch:=ch) hb
 unfold suA
 omega
def suL (k kh kw sh sw tp lf bt rt h w c C p:Int) (zs bs x:List Int) (n:Nat):List Int:=(List.range n).map fun (j:Nat)=>suA k kh kw sh sw tp lf bt rt h w c p zs bs x ((j:Int) % C+1) ((j:Int) / C)
theorem suL_len (k kh kw sh sw tp lf bt rt h w c C p:Int) (zs bs x:List Int) (n:Nat):(suL k kh kw sh sw tp lf bt rt h w c C p zs bs x n).length=n:=by simp [suL]
theorem suL_succ (k kh kw sh sw tp lf bt rt h w c C p:Int) (zs bs x:List Int) (n:Nat):suL k kh kw sh sw tp lf bt rt h w c C p zs bs x (n+1)=suL k kh kw sh sw tp lf bt rt h w c C p zs bs x n++[suA k kh kw sh sw tp lf bt rt h w c p zs bs x ((n:Int) % C+1) ((n:Int) / C)]:=by simp [suL,List.range_succ]
theorem suL_bd {k kh kw sh sw tp lf bt rt h w c H V C p:Int} {lw lb:Nat} (s:Sit k kh kw sh sw tp lf bt rt h w c H V C lw lb) {zs bs x:List Int} (hz:∀ v∈zs,(Lit.int .i16 v).wf=true) (hb:∀ v∈bs,(Lit.int .i32 v).wf=true) (hp:I8 p) (hx:∀ v∈x,I8 v) (n:Nat) :
  ∀ v∈suL k kh kw sh sw tp lf bt rt h w c C p zs bs x n,-4294967296≤v∧v≤4294967296:=fun v hv=>by
 have hC:=(vS_yes s.2.2.1).2.2.1
 obtain⟨j,-,rfl⟩:=List.mem_map.1 hv
 have e1:=Int.emod_nonneg (j:Int) (show C≠0 by omega)
 have e2:=Int.emod_lt_of_pos (j:Int) (show 0<C by omega)
 exact suA_bd s hz hb hp hx ⟨by omega,by omega⟩ _
theorem divmod_at {C:Int} {q d:Nat} (hd:(d:Int)<C):((q:Int)*C+d) / C=q∧((q:Int)*C+d) % C=d:=by
 have hC:0<C:=by omega
 refine⟨?_,?_⟩
 ·rw [Int.add_comm,Int.add_mul_ediv_right _ _ (by omega),Int.ediv_eq_zero_of_lt (by omega) hd,Int.zero_add]
 ·rw [Int.add_comm,Int.add_mul_emod_self_right,Int.emod_eq_of_lt (by omega) hd]
def mxI (a b:Int):Int:=if a<b then b else a
def grA (w c kw:Int) (x:List Int) (t u d:Int) (q:Nat):Int:=x.getD (((t+(q:Int) / kw)*w+(u+(q:Int) % kw))*c+d).toNat 0
def grM (w c kw:Int) (x:List Int) (t u d:Int):Nat→Int
 | 0=>-128
 | q+1=>mxI (grM w c kw x t u d q) (grA w c kw x t u d q)
theorem grM_i8 {w c kw:Int} {x:List Int} (hx:∀ v∈x,I8 v) (t u d:Int):∀ q,I8 (grM w c kw x t u d q)
 | 0=>by unfold grM;exact⟨by decide,by decide⟩
 | q+1=>by
  have h1:=grM_i8 hx t u d q (w:=w) (c:=c) (kw:=kw)
  have h2:I8 (grA w c kw x t u d q):=getD_i8 hx _
  unfold grM mxI
  split
  ·exact h2
  ·exact h1
def grL (kh kw sh sw w c V C:Int) (x:List Int) (n:Nat):List Int:=(List.range n).map fun (j:Nat)=>grM w c kw x ((j:Int) / C / V*sh) ((j:Int) / C % V*sw) ((j:Int) % C) (kh*kw).toNat
theorem grL_len (kh kw sh sw w c V C:Int) (x:List Int) (n:Nat):(grL kh kw sh sw w c V C x n).length=n:=by simp [grL]
theorem grL_succ (kh kw sh sw w c V C:Int) (x:List Int) (n:Nat):grL kh kw sh sw w c V C x (n+1)=grL kh kw sh sw w c V C x n++[grM w c kw x ((n:Int) / C / V*sh) ((n:Int) / C % V*sw) ((n:Int) % C) (kh*kw).toNat]:=by simp [grL,List.range_succ]
theorem grL_i8 {kh kw sh sw w c V C:Int} {x:List Int} (hx:∀ v∈x,I8 v) (n:Nat):∀ v∈grL kh kw sh sw w c V C x n,I8 v:=fun v hv=>by
 obtain⟨j,-,rfl⟩:=List.mem_map.1 hv
 exact grM_i8 hx _ _ _ _
def apL (x:List Int) (m s:Int):List Int:=x.map fun v=>Fx.apV v m s
def meL (x:List Int) (n:Int):List Int:=x.map fun v=>Fx.meV v n
def adL (x y:List Int):List Int:=(List.range x.length).map fun i=>x.getD i 0+y.getD i 0
def fiL (x:List Int) (z lo hi:Int):List Int:=x.map fun v=>Fx.fiV v z lo hi
def vaL (k kh kw sh sw tp lf bt rt sm ss um us p h w c H V C:Int) (zs bs x y:List Int):List Int :=
 if k≤3 then apL (suL k kh kw sh sw tp lf bt rt h w c C p zs bs x (H*V*C).toNat) sm ss
 else if k=4 then meL (suL k kh kw sh sw tp lf bt rt h w c C p zs bs x (H*V*C).toNat) (kh*kw)
 else if k=5 then grL kh kw sh sw w c V C x (H*V*C).toNat
 else if k=6 then adL (apL x sm ss) (apL y um us)
 else if k=7 then apL x sm ss
 else x
def teL (k kh kw sh sw tp lf bt rt sm ss um us z p lo hi h w c H V C:Int) (zs bs x y:List Int):List Int:=fiL (vaL k kh kw sh sw tp lf bt rt sm ss um us p h w c H V C zs bs x y) z lo hi
theorem rq_le {v d X:Int} (hd:1≤d) (hv:-X≤v∧v≤X):-X≤Fx.rq v d∧Fx.rq v d≤X:=by
 obtain⟨a1,a2,-⟩:=Fx.rq_size v d hd
 unfold Fx.sizeV at a1 a2
 split at a1<;>omega
theorem apV_bd {v m s:Int} (hv:-4294967296≤v∧v≤4294967296):-9223372032559808512≤Fx.apV v m s∧Fx.apV v m s≤9223372032559808512:=by
 unfold Fx.apV
 split
 ·rename_i hs
  split
  ·have hm:1≤m∧m≤2147483647∧0≤s∧s≤62:=by unfold Fx.scB at hs;simpa using hs
   exact rq_le (Fx.p2_pos s) (Fx.prod_bd v m hv.1 hv.2 hm.1 hm.2.1)
  ·omega
 ·omega
theorem apV_i8 {v m s:Int} (hv:I8 v):-274877906944≤Fx.apV v m s∧Fx.apV v m s≤274877906944:=by
 obtain⟨v1,v2⟩:=hv
 unfold Fx.apV
 split
 ·rename_i hs
  split
  ·have hm:1≤m∧m≤2147483647∧0≤s∧s≤62:=by unfold Fx.scB at hs;simpa using hs
   have p1:=Int.mul_le_mul_of_nonneg_right v1 (show 0≤m by omega)
   have p2:=Int.mul_le_mul_of_nonneg_right v2 (show 0≤m by omega)
   exact rq_le (Fx.p2_pos s) ⟨by omega,by omega⟩
  ·omega
 ·omega
theorem fiV_in {v z lo hi:Int} (h:Fx.fiB z lo hi=true):lo≤Fx.fiV v z lo hi∧Fx.fiV v z lo hi≤hi:=by
 have h':=h
 unfold Fx.fiB at h'
 simp at h'
 unfold Fx.fiV
 rw [if_pos h]
 exact Fx.clamp_in_ends _ _ _ h'.2.1
theorem fiV_i8 {v z lo hi:Int}:I8 (Fx.fiV v z lo hi):=by
 cases h:Fx.fiB z lo hi with
 | true =>
  have:=fiV_in (v:=v) h
  unfold Fx.fiB at h
  simp at h
  exact⟨by omega,by omega⟩
 | false =>
  unfold Fx.fiV
  rw [h,if_neg (by decide)]
  exact⟨by decide,by decide⟩
theorem fiL_i8 (x:List Int) (z lo hi:Int):∀ v∈fiL x z lo hi,I8 v:=fun v hv=>by
 obtain⟨u,-,rfl⟩:=List.mem_map.1 hv
 exact fiV_i8
def opT (o:Nat→Int) (zs bs:List Int) (A B:Int×Int×Int) (x y:List Int):List Int :=
 teL (o 0) (o 4) (o 5) (o 6) (o 7) (o 8) (o 9) (o 10) (o 11) (o 14) (o 15) (o 16) (o 17) (o 18) (o 19) (o 20) (o 21) A.1 A.2.1 A.2.2 B.1 B.2.1 B.2.2 zs bs x y
def tnL (O:Nat→Nat→Int) (Z B:Nat→List Int) (L:List (Int×Int×Int)) (x:List Int):Nat→List (List Int)
 | 0=>[x]
 | n+1=>tnL O Z B L x n++[opT (O n) (Z n) (B n) (L.getD (O n 1).toNat (0,0,0)) (L.getD (n+1) (0,0,0)) ((tnL O Z B L x n).getD (O n 1).toNat []) ((tnL O Z B L x n).getD (O n 2).toNat [])]
def tnA (O:Nat→Nat→Int) (Z B:Nat→List Int) (L:List (Int×Int×Int)) (x:List Int) (i:Nat):List Int:=(tnL O Z B L x i).getD i []
def xmn (a b:Int):Int:=if b<a then b else a
def xmx (a b:Int):Int:=if a<b then b else a
theorem lmul_bd {a b A B:Int} (ha:-A≤a∧a≤A) (hb:-B≤b∧b≤B):-(A*B)≤a*b∧a*b≤A*B:=by
 have hA:0≤A:=by omega
 have hB:0≤B:=by omega
 rcases Int.le_total 0 b with h | h
 ·have h1:=Int.mul_le_mul_of_nonneg_right ha.2 h
  have h2:=Int.mul_le_mul_of_nonneg_left hb.2 hA
  have h3:=Int.mul_le_mul_of_nonneg_right ha.1 h
  rw [Int.neg_mul] at h3
  omega
 ·have h1:=Int.mul_le_mul_of_nonpos_right ha.1 h
  have h2:=Int.mul_le_mul_of_nonneg_left hb.1 hA
  have h3:=Int.mul_le_mul_of_nonpos_right ha.2 h
  rw [Int.neg_mul] at h1
  rw [Int.mul_neg] at h2
  omega
def bb (b:Bool):Int:=if b=true then 0 else 1
def bw (N x:Int):Int:=bb (fitsN N x)
theorem bw_bd (N x:Int):0≤bw N x∧bw N x≤1:=by unfold bw bb; split<;>omega
theorem wrapN_bd {N:Int} (h:0<N) (x:Int):-N≤wrapN N x∧wrapN N x≤N-1:=by
 unfold wrapN
 have h1:=Int.emod_nonneg (x+N) (show 2*N≠0 by omega)
 have h2:=Int.emod_lt_of_pos (x+N) (show 0<2*N by omega)
 omega
def snL (N:Int):Int→Int→List Int→Int×Int
 | r,n,[]=>(r,n)
 | r,n,z :: zs=>snL N (wrapN N (r+z)) (n+bw N (r+z)) zs
structure Ty where
 m:Int
 w:Int
 a:Int
 l:Int
 h:Int
def Ty.z:Ty:=⟨0,0,0,0,0⟩
def Ty.mu (N:Int) (t:Ty) (p:Int):Ty:=⟨t.m+1,t.w+bw N p,t.a,t.l,t.h⟩
def Ty.ad (N:Int) (t:Ty) (x:Int):Ty:=⟨t.m,t.w+bw N x,t.a+1,if t.a=0 then wrapN N x else xmn t.l (wrapN N x),if t.a=0 then wrapN N x else xmx t.h (wrapN N x)⟩
def Ty.ok (n:Int) (t:Ty):Prop:=(0≤t.m∧t.m≤n)∧(0≤t.w∧t.w≤2*n)∧(0≤t.a∧t.a≤n)∧(-2147483648≤t.l∧t.l≤2147483647)∧(-2147483648≤t.h∧t.h≤2147483647)
theorem xmn_bd {A B a b:Int} (h:A≤a∧a≤B) (g:A≤b∧b≤B):A≤xmn a b∧xmn a b≤B:=by unfold xmn; split<;>omega
theorem xmx_bd {A B a b:Int} (h:A≤a∧a≤B) (g:A≤b∧b≤B):A≤xmx a b∧xmx a b≤B:=by unfold xmx; split<;>omega
theorem Ty.ad_sum {N:Int} (hN:0<N∧N≤2147483648) {t:Ty} {x:Int} (h1:-2147483648≤t.l∧t.l≤2147483647) (h2:-2147483648≤t.h∧t.h≤2147483647):(-2147483648≤(t.ad N x).l∧(t.ad N x).l≤2147483647)∧(-2147483648≤(t.ad N x).h∧(t.ad N x).h≤2147483647):=by
 have h3:=wrapN_bd hN.1 x
 have h4:=xmn_bd h1 (b:=wrapN N x) (by omega)
 have h5:=xmx_bd h2 (b:=wrapN N x) (by omega)
 unfold Ty.ad
 simp only
 constructor
 ·split<;>omega
 ·split<;>omega
def Ty.ma (N:Int) (t:Ty) (r p:Int):Ty:=(t.mu N p).ad N (r+wrapN N p)
theorem Ty.ok.ma {N n:Int} {t:Ty} (h:t.ok n) (hN:0<N∧N≤2147483648) (r p:Int):(t.ma N r p).ok (n+1):=by
 obtain⟨h1,h2,h3,h4,h5⟩:=h
 obtain⟨g1,g2⟩:=Ty.ad_sum hN (t:=t.mu N p) (x:=r+wrapN N p) h4 h5
 have b1:=bw_bd N p
 have b2:=bw_bd N (r+wrapN N p)
 refine⟨?_,?_,?_,g1,g2⟩
 ·show 0≤t.m+1∧t.m+1≤n+1
  omega
 ·show 0≤t.w+bw N p+bw N (r+wrapN N p)∧_≤_
  simp only [Ty.ma,Ty.mu,Ty.ad]
  omega
 ·show 0≤t.a+1∧t.a+1≤n+1
  omega
theorem Ty.ok.ad {N n:Int} {t:Ty} (h:t.ok n) (hN:0<N∧N≤2147483648) (x:Int):(t.ad N x).ok (n+1):=by
 obtain⟨h1,h2,h3,h4,h5⟩:=h
 obtain⟨g1,g2⟩:=Ty.ad_sum hN (t:=t) (x:=x) h4 h5
 have b2:=bw_bd N x
 refine⟨?_,?_,?_,g1,g2⟩
 ·show 0≤t.m∧t.m≤n+1
  omega
 ·show 0≤t.w+bw N x∧t.w+bw N x≤2*(n+1)
  omega
 ·show 0≤t.a+1∧t.a+1≤n+1
  omega
theorem Ty.ok.mono {n k:Int} {t:Ty} (h:t.ok n) (g:n≤k):t.ok k:=by
 obtain⟨h1,h2,h3,h4,h5⟩:=h
 exact⟨by omega,by omega,by omega,h4,h5⟩
theorem Ty.ok_z:Ty.z.ok 0:=by unfold Ty.ok Ty.z;simp only;omega
def gaT (N:Int):Ty→Int→List Int→Ty×Int
 | t,r,[]=>(t,r)
 | t,r,p :: ps=>gaT N (t.ma N r p) (wrapN N (r+wrapN N p)) ps
theorem gaT_ok {N:Int} (hN:0<N∧N≤2147483648):∀ (ps:List Int) (t:Ty) (r n:Int),t.ok n→(-N≤r∧r≤N-1)→(gaT N t r ps).1.ok (n+ps.length)∧(-N≤(gaT N t r ps).2∧(gaT N t r ps).2≤N-1)
 | [],t,r,n,h,hr=>⟨by simpa [gaT] using h,hr⟩
 | p :: ps,t,r,n,h,hr=>by
  have:=gaT_ok hN ps (t.ma N r p) (wrapN N (r+wrapN N p)) (n+1) (h.ma hN r p) (wrapN_bd hN.1 _)
  refine⟨?_,this.2⟩
  have h1:=this.1
  rw [show n+1+(ps.length:Int)=n+((p :: ps).length:Int) by simp only [List.length_cons];omega] at h1
  exact h1
def elT (d:Nat):Nat→Ty→Ty→Int→Int→List Int→Ty×Ty×Int
 | _,s,l,r,_,[]=>(s,l,r)
 | j,s,l,r,q,p :: ps =>
  if j+1=d∨ps=[] then elT d 0 (s.ma 32768 q p) (l.ad 2147483648 (r+wrapN 32768 (q+wrapN 32768 p))) (wrapN 2147483648 (r+wrapN 32768 (q+wrapN 32768 p))) 0 ps
  else elT d (j+1) (s.ma 32768 q p) l r (wrapN 32768 (q+wrapN 32768 p)) ps
theorem elT_block (d:Nat):∀ (ps:List Int) (j:Nat) (s l:Ty) (r q:Int),j<d→ps≠[] →
  elT d j s l r q ps=elT d 0 (gaT 32768 s q (ps.take (d-j))).1 (l.ad 2147483648 (r+(gaT 32768 s q (ps.take (d-j))).2)) (wrapN 2147483648 (r+(gaT 32768 s q (ps.take (d-j))).2)) 0 (ps.drop (d-j))
 | [],_,_,_,_,_,_,h=>absurd rfl h
 | p :: ps,j,s,l,r,q,hj,_=>by
  by_cases h:j+1=d∨ps=[]
  ·have e:(p :: ps).take (d-j)=[p]∧(p :: ps).drop (d-j)=ps:=by
    rcases h with h | h
    ·rw [show d-j=1 by omega];exact⟨rfl,rfl⟩
    ·subst h
     obtain⟨k,hk⟩:∃ k,d-j=k+1:=⟨d-j-1,by omega⟩
     rw [hk];simp
   rw [elT,if_pos h,e.1,e.2]
   rfl
  ·have h':¬ j+1=d:=fun e=>h (.inl e)
   have h2:ps≠[]:=fun e=>h (.inr e)
   rw [elT,if_neg h,elT_block d ps (j+1) _ _ _ _ (by omega) h2]
   obtain⟨k,hk⟩:∃ k,d-j=k+1:=⟨d-j-1,by omega⟩
   rw [hk,show d-(j+1)=k by omega,List.take_succ_cons,List.drop_succ_cons]
   rfl
theorem elT_spill {d:Nat} (hd:0<d) {ps:List Int} (h:ps≠[]) (s l:Ty) (r:Int) :
  elT d 0 s l r 0 ps=elT d 0 (gaT 32768 s 0 (ps.take d)).1 (l.ad 2147483648 (r+(gaT 32768 s 0 (ps.take d)).2)) (wrapN 2147483648 (r+(gaT 32768 s 0 (ps.take d)).2)) 0 (ps.drop d) :=
 elT_block d ps 0 s l r 0 hd h
theorem elT_ok {d:Nat}:∀ (ps:List Int) (j:Nat) (s l:Ty) (r q n:Int),s.ok n→l.ok n→(-2147483648≤r∧r≤2147483647)→(elT d j s l r q ps).1.ok (n+ps.length)∧(elT d j s l r q ps).2.1.ok (n+ps.length)∧(-2147483648≤(elT d j s l r q ps).2.2∧(elT d j s l r q ps).2.2≤2147483647)
 | [],j,s,l,r,q,n,hs,hl,hr=>⟨by simpa [elT] using hs,by simpa [elT] using hl,hr⟩
 | p :: ps,j,s,l,r,q,n,hs,hl,hr=>by
  rw [show n+((p :: ps).length:Int)=n+1+(ps.length:Int) by simp only [List.length_cons];omega]
  rw [elT]
  split
  ·exact elT_ok ps 0 _ _ _ _ (n+1) (hs.ma (by omega) _ _) (hl.ad (by omega) _) (by have:=wrapN_bd (N:=2147483648) (by omega) (r+wrapN 32768 (q+wrapN 32768 p));omega)
  ·exact elT_ok ps (j+1) _ _ _ _ (n+1) (hs.ma (by omega) _ _) (hl.mono (by omega)) hr
def Pw (N x:Int):Prop:=∃ k:Nat,x*2 ^ k = -N
theorem refclamp_any (x lo hi:Int) (w:World) :
  Calls Tryz.prog 83 #[U i6 x,U i6 lo,U i6 hi] w fun e w'=>e=.returned (U i6 (clampV x lo hi))∧w'=w:=by
 unfold clampV
 by_cases h:hi<x
 ·rw [if_pos h]
  go_enter Tryz.func83,Tryz.ntmps83
  go_wp2
  go_ret
  exact⟨rfl,rfl⟩
 ·rw [if_neg h]
  by_cases g:x<lo
  ·rw [if_pos g]
   go_enter Tryz.func83,Tryz.ntmps83
   go_wp2
   go_ret
   exact⟨rfl,rfl⟩
  ·rw [if_neg g]
   go_enter Tryz.func83,Tryz.ntmps83
   go_wp2
   go_ret
   exact⟨rfl,rfl⟩
theorem tmod_nonneg (x m:Int) (hm:0<m) (hx:0≤x):0≤x.tmod m∧x.tmod m=x % m:=by
 have e:=Int.tmod_eq_emod_of_nonneg (b:=m) hx
 exact⟨by rw [e];exact Int.emod_nonneg _ (by omega),e⟩
theorem tmod_neg (x m:Int) (hx:x<0):x.tmod m = -((-x) % m):=by
 have e:=Int.tmod_eq_emod_of_nonneg (a:=-x) (b:=m) (by omega)
 rw [Int.neg_tmod] at e
 omega
theorem reffits_16 (x:Int) (w:World) :
  Calls Tryz.prog 110 #[U i6 16,U i6 x] w fun e w'=>e=.returned (.bool (fitsN 32768 x))∧w'=w:=by
 by_cases c1:-32768≤x
 ·have HR:Hid (decide (x<32768)=fitsN 32768 x):=by unfold Hid fitsN;rw [Bool.eq_iff_iff];simp;omega
  go_enter Tryz.func110,Tryz.ntmps110
  go_wp2
  go_ret
  exact⟨retB HR.out,rfl⟩
 ·have HR:Hid (false=fitsN 32768 x):=by unfold Hid fitsN;rw [Bool.eq_iff_iff];simp;omega
  go_enter Tryz.func110,Tryz.ntmps110
  go_wp2
  go_ret
  exact⟨retB HR.out,rfl⟩
theorem refwrap_16 (x:Int) (w:World) :
  Calls Tryz.prog 109 #[U i6 16,U i6 x] w fun e w'=>e=.returned (U i6 (wrapN 32768 x))∧w'=w:=by
 have hw:∃ r:Int,x.tmod 65536=r∧-65536<r∧r<65536∧wrapN 32768 x=wrapN 32768 r:=by
  refine⟨_,rfl,?_⟩
  unfold wrapN
  by_cases hx:0≤x
  ·have e:=(tmod_nonneg x 65536 (by omega) hx).2
   rw [e];omega
  ·have e:=tmod_neg x 65536 (by omega)
   rw [e];omega
 obtain⟨r,hr,r1,r2,h3⟩:=hw
 have HW:Hid (wrapN 32768 x=wrapN 32768 r):=h3
 clear h3
 rw [HW.out]
 clear HW
 by_cases c1:r<0
 ·by_cases c2:32768≤r+65536
  ·have HR:Hid (r=wrapN 32768 r):=by unfold Hid wrapN;omega
   go_enter Tryz.func109,Tryz.ntmps109
   go_wp2
   go_ret
   exact⟨ret1 HR.out,rfl⟩
  ·have HR:Hid (r+65536=wrapN 32768 r):=by unfold Hid wrapN;omega
   go_enter Tryz.func109,Tryz.ntmps109
   go_wp2
   go_ret
   exact⟨ret1 HR.out,rfl⟩
 ·by_cases c2:32768≤r
  ·have HR:Hid (r-65536=wrapN 32768 r):=by unfold Hid wrapN;omega
   go_enter Tryz.func109,Tryz.ntmps109
   go_wp2
   go_ret
   exact⟨ret1 HR.out,rfl⟩
  ·have HR:Hid (r=wrapN 32768 r):=by unfold Hid wrapN;omega
   go_enter Tryz.func109,Tryz.ntmps109
   go_wp2
   go_ret
   exact⟨ret1 HR.out,rfl⟩
theorem reffits_32 (x:Int) (w:World) :
  Calls Tryz.prog 110 #[U i6 32,U i6 x] w fun e w'=>e=.returned (.bool (fitsN 2147483648 x))∧w'=w:=by
 by_cases c1:-2147483648≤x
 ·have HR:Hid (decide (x<2147483648)=fitsN 2147483648 x):=by unfold Hid fitsN;rw [Bool.eq_iff_iff];simp;omega
  go_enter Tryz.func110,Tryz.ntmps110
  go_wp2
  go_ret
  exact⟨retB HR.out,rfl⟩
 ·have HR:Hid (false=fitsN 2147483648 x):=by unfold Hid fitsN;rw [Bool.eq_iff_iff];simp;omega
  go_enter Tryz.func110,Tryz.ntmps110
  go_wp2
  go_ret
  exact⟨retB HR.out,rfl⟩
theorem refwrap_32 (x:Int) (w:World) :
  Calls Tryz.prog 109 #[U i6 32,U i6 x] w fun e w'=>e=.returned (U i6 (wrapN 2147483648 x))∧w'=w:=by
 have hw:∃ r:Int,x.tmod 4294967296=r∧-4294967296<r∧r<4294967296∧wrapN 2147483648 x=wrapN 2147483648 r:=by
  refine⟨_,rfl,?_⟩
  unfold wrapN
  by_cases hx:0≤x
  ·have e:=(tmod_nonneg x 4294967296 (by omega) hx).2
   rw [e];omega
  ·have e:=tmod_neg x 4294967296 (by omega)
   rw [e];omega
 obtain⟨r,hr,r1,r2,h3⟩:=hw
 have HW:Hid (wrapN 2147483648 x=wrapN 2147483648 r):=h3
 clear h3
 rw [HW.out]
 clear HW
 by_cases c1:r<0
 ·by_cases c2:2147483648≤r+4294967296
  ·have HR:Hid (r=wrapN 2147483648 r):=by unfold Hid wrapN;omega
   go_enter Tryz.func109,Tryz.ntmps109
   go_wp2
   go_ret
   exact⟨ret1 HR.out,rfl⟩
  ·have HR:Hid (r+4294967296=wrapN 2147483648 r):=by unfold Hid wrapN;omega
   go_enter Tryz.func109,Tryz.ntmps109
   go_wp2
   go_ret
   exact⟨ret1 HR.out,rfl⟩
 ·by_cases c2:2147483648≤r
  ·have HR:Hid (r-4294967296=wrapN 2147483648 r):=by unfold Hid wrapN;omega
   go_enter Tryz.func109,Tryz.ntmps109
   go_wp2
   go_ret
   exact⟨ret1 HR.out,rfl⟩
  ·have HR:Hid (r=wrapN 2147483648 r):=by unfold Hid wrapN;omega
   go_enter Tryz.func109,Tryz.ntmps109
   go_wp2
   go_ret
   exact⟨ret1 HR.out,rfl⟩
theorem w64i {x:Int} (h:-9223372036854775808≤x∧x≤9223372036854775807):IntKind.i64.wrap x=x:=by rw [IntKind.wrap_i64];omega
theorem nar_i16 (x:Int) (w:World) :
  Calls Tryz.prog 141 #[U i6 x] w fun e w'=>e=.returned (.tuple #[.int .i16 (wrapN 32768 x),.bool (fitsN 32768 x)])∧w'=w:=by
 go_enter Tryz.func141,Tryz.ntmps141
 go_wp2
 go_ret2
 exact⟨by rw [← fits16,← lit16];rfl,rfl⟩
theorem ladd_i16 (a b:Int) (w:World) (ha:-32768≤a∧a≤32767) (hb:-32768≤b∧b≤32767) :
  Calls Tryz.prog 139 #[.int .i16 a,.int .i16 b] w fun e w'=>e=.returned (.tuple #[.int .i16 (wrapN 32768 (a+b)),.bool (fitsN 32768 (a+b))])∧w'=w:=by
 go_enter Tryz.func139,Tryz.ntmps139
 go_wp2_with fail
 refine (nar_i16 _ _).mono ?_
 rintro e w' ⟨rfl,rfl⟩
 go_wp2
 go_ret2
 exact⟨rfl,rfl⟩
theorem lmul_i16 (a b:Int) (w:World) (ha:-32768≤a∧a≤32767) (hb:-32768≤b∧b≤32767) :
  Calls Tryz.prog 140 #[.int .i16 a,.int .i16 b] w fun e w'=>e=.returned (.tuple #[.int .i16 (wrapN 32768 (a*b)),.bool (fitsN 32768 (a*b))])∧w'=w:=by
 have hp:=lmul_bd (A:=32768) (B:=32768) (a:=a) (b:=b) (by omega) (by omega)
 obtain⟨p,hq⟩:∃ p,a*b=p:=⟨_,rfl⟩
 rw [hq] at hp ⊢
 have w1:IntKind.i64.wrap p=p:=w64i (by omega)
 go_enter Tryz.func140,Tryz.ntmps140
 go_wp2_with fail
 refine (nar_i16 _ _).mono ?_
 rintro e w' ⟨rfl,rfl⟩
 go_wp2
 go_ret2
 exact⟨rfl,rfl⟩
theorem nar_i32 (x:Int) (w:World) :
  Calls Tryz.prog 138 #[U i6 x] w fun e w'=>e=.returned (.tuple #[.int .i32 (wrapN 2147483648 x),.bool (fitsN 2147483648 x)])∧w'=w:=by
 go_enter Tryz.func138,Tryz.ntmps138
 go_wp2
 go_ret2
 exact⟨by rw [← fits32,← lit32];rfl,rfl⟩
theorem ladd_i32 (a b:Int) (w:World) (ha:-2147483648≤a∧a≤2147483647) (hb:-2147483648≤b∧b≤2147483647) :
  Calls Tryz.prog 132 #[.int .i32 a,.int .i32 b] w fun e w'=>e=.returned (.tuple #[.int .i32 (wrapN 2147483648 (a+b)),.bool (fitsN 2147483648 (a+b))])∧w'=w:=by
 go_enter Tryz.func132,Tryz.ntmps132
 go_wp2_with fail
 refine (nar_i32 _ _).mono ?_
 rintro e w' ⟨rfl,rfl⟩
 go_wp2
 go_ret2
 exact⟨rfl,rfl⟩
theorem lmul_i32 (a b:Int) (w:World) (ha:-2147483648≤a∧a≤2147483647) (hb:-2147483648≤b∧b≤2147483647) :
  Calls Tryz.prog 134 #[.int .i32 a,.int .i32 b] w fun e w'=>e=.returned (.tuple #[.int .i32 (wrapN 2147483648 (a*b)),.bool (fitsN 2147483648 (a*b))])∧w'=w:=by
 have hp:=lmul_bd (A:=2147483648) (B:=2147483648) (a:=a) (b:=b) (by omega) (by omega)
 obtain⟨p,hq⟩:∃ p,a*b=p:=⟨_,rfl⟩
 rw [hq] at hp ⊢
 have w1:IntKind.i64.wrap p=p:=w64i (by omega)
 go_enter Tryz.func134,Tryz.ntmps134
 go_wp2_with fail
 refine (nar_i32 _ _).mono ?_
 rintro e w' ⟨rfl,rfl⟩
 go_wp2
 go_ret2
 exact⟨rfl,rfl⟩
theorem refadd_16 (a b:Int) (w:World) (ha:-2147483648≤a∧a≤2147483647) (hb:-2147483648≤b∧b≤2147483647) :
  Calls Tryz.prog 77 #[U i6 16,U i6 a,U i6 b] w fun e w'=>e=.returned (.tuple #[U i6 (wrapN 32768 (a+b)),.bool (!fitsN 32768 (a+b))])∧w'=w:=by
 go_enter Tryz.func77,Tryz.ntmps77
 go_wp2_with fail
 refine (refwrap_16 _ _).mono ?_
 rintro e w' ⟨rfl,rfl⟩
 go_wp2_with fail
 refine (reffits_16 _ _).mono ?_
 rintro e w' ⟨rfl,rfl⟩
 go_wp2
 go_ret2
 exact⟨rfl,rfl⟩
theorem refmul_16 (a b:Int) (w:World) (ha:-2147483648≤a∧a≤2147483647) (hb:-2147483648≤b∧b≤2147483647) :
  Calls Tryz.prog 79 #[U i6 16,U i6 a,U i6 b] w fun e w'=>e=.returned (.tuple #[U i6 (wrapN 32768 (a*b)),.bool (!fitsN 32768 (a*b))])∧w'=w:=by
 have hp:=lmul_bd (A:=2147483648) (B:=2147483648) (a:=a) (b:=b) (by omega) (by omega)
 obtain⟨p,hq⟩:∃ p,a*b=p:=⟨_,rfl⟩
 rw [hq] at hp ⊢
 have w1:IntKind.i64.wrap p=p:=w64i (by omega)
 go_enter Tryz.func79,Tryz.ntmps79
 go_wp2_with fail
 refine (refwrap_16 _ _).mono ?_
 rintro e w' ⟨rfl,rfl⟩
 go_wp2_with fail
 refine (reffits_16 _ _).mono ?_
 rintro e w' ⟨rfl,rfl⟩
 go_wp2
 go_ret2
 exact⟨rfl,rfl⟩
theorem refadd_32 (a b:Int) (w:World) (ha:-2147483648≤a∧a≤2147483647) (hb:-2147483648≤b∧b≤2147483647) :
  Calls Tryz.prog 77 #[U i6 32,U i6 a,U i6 b] w fun e w'=>e=.returned (.tuple #[U i6 (wrapN 2147483648 (a+b)),.bool (!fitsN 2147483648 (a+b))])∧w'=w:=by
 go_enter Tryz.func77,Tryz.ntmps77
 go_wp2_with fail
 refine (refwrap_32 _ _).mono ?_
 rintro e w' ⟨rfl,rfl⟩
 go_wp2_with fail
 refine (reffits_32 _ _).mono ?_
 rintro e w' ⟨rfl,rfl⟩
 go_wp2
 go_ret2
 exact⟨rfl,rfl⟩
theorem refmul_32 (a b:Int) (w:World) (ha:-2147483648≤a∧a≤2147483647) (hb:-2147483648≤b∧b≤2147483647) :
  Calls Tryz.prog 79 #[U i6 32,U i6 a,U i6 b] w fun e w'=>e=.returned (.tuple #[U i6 (wrapN 2147483648 (a*b)),.bool (!fitsN 2147483648 (a*b))])∧w'=w:=by
 have hp:=lmul_bd (A:=2147483648) (B:=2147483648) (a:=a) (b:=b) (by omega) (by omega)
 obtain⟨p,hq⟩:∃ p,a*b=p:=⟨_,rfl⟩
 rw [hq] at hp ⊢
 have w1:IntKind.i64.wrap p=p:=w64i (by omega)
 go_enter Tryz.func79,Tryz.ntmps79
 go_wp2_with fail
 refine (refwrap_32 _ _).mono ?_
 rintro e w' ⟨rfl,rfl⟩
 go_wp2_with fail
 refine (reffits_32 _ _).mono ?_
 rintro e w' ⟨rfl,rfl⟩
 go_wp2
 go_ret2
 exact⟨rfl,rfl⟩
def Ty.cs (t:Ty):Array Value:=#[U i6 t.m,U i6 t.w,U i6 t.a,U i6 t.l,U i6 t.h]
theorem min2 (x y M:Int) (h:xmn x y=M):∀ (W:World) (ts:Array TypeId) (t:TypeId),(Builtin.min_ ts t #[U i6 x,U i6 y]).run Tryz.prog W=.ok (U i6 M) W:=by
 intro W ts t
 subst h
 simp [Builtin.min_,Builtin.min2,xmn]
 repeat' split
 all_goals first | rfl | omega
theorem max2b (x y M:Int) (h:xmx x y=M):∀ (W:World) (ts:Array TypeId) (t:TypeId),(Builtin.max_ ts t #[U i6 x,U i6 y]).run Tryz.prog W=.ok (U i6 M) W:=by
 intro W ts t
 subst h
 simp [Builtin.max_,Builtin.max2,xmx]
 repeat' split
 all_goals first | rfl | omega
def jn (a b:Int×Int×Int):Int×Int×Int :=
 if a.1=0 then (if b.1=0 then (0,0,0) else b) else if b.1=0 then a else (wrap64 (a.1+b.1),xmn a.2.1 b.2.1,xmx a.2.2 b.2.2)
theorem joined_any (a1 a2 a3 b1 b2 b3 j1 j2 j3:Int) (W:World) (hj:jn (a1,a2,a3) (b1,b2,b3)=(j1,j2,j3)) :
  Calls Tryz.prog 98 #[.agg #[U i6 a1,U i6 a2,U i6 a3],.agg #[U i6 b1,U i6 b2,U i6 b3]] W fun e w'=>e=.returned (.agg #[U i6 j1,U i6 j2,U i6 j3])∧Below W.heap.size W w':=by
 have s0:=((St.start W).new (c:=#[U i6 a1,U i6 a2,U i6 a3]) (t:=164)).new (c:=#[U i6 b1,U i6 b2,U i6 b3]) (t:=164) |>.new (c:=#[U i6 j1,U i6 j2,U i6 j3]) (t:=164)
 have HS:Hid (Below W.heap.size W _):=s0.below
 clear s0
 unfold jn at hj
 simp only at hj
 by_cases ha:a1=0
 ·rw [if_pos ha] at hj
  by_cases hb:b1=0
  ·rw [if_pos hb] at hj
   cases hj
   subst ha hb
   go_enter Tryz.func98,Tryz.ntmps98
   go_wp2
   exact bodyPost_ret (v:=.agg #[U i6 0,U i6 0,U i6 0]) (by simp [results,Tryz.results98,go_sem]) rfl ⟨rfl,HS.out⟩
  ·rw [if_neg hb] at hj
   cases hj
   subst ha
   go_enter Tryz.func98,Tryz.ntmps98
   go_wp2
   exact bodyPost_ret (v:=.agg #[U i6 b1,U i6 b2,U i6 b3]) (by simp [results,Tryz.results98,go_sem]) rfl ⟨rfl,HS.out⟩
 ·rw [if_neg ha] at hj
  by_cases hb:b1=0
  ·rw [if_pos hb] at hj
   cases hj
   subst hb
   go_enter Tryz.func98,Tryz.ntmps98
   go_wp2
   exact bodyPost_ret (v:=.agg #[U i6 a1,U i6 a2,U i6 a3]) (by simp [results,Tryz.results98,go_sem]) rfl ⟨rfl,HS.out⟩
  ·rw [if_neg hb] at hj
   cases hj
   obtain⟨n1,hn1⟩:∃ n1,xmn a2 b2=n1:=⟨_,rfl⟩
   obtain⟨n2,hn2⟩:∃ n2,xmx a3 b3=n2:=⟨_,rfl⟩
   have q1:=min2 a2 b2 n1 hn1
   have q2:=max2b a3 b3 n2 hn2
   rw [hn1,hn2] at HS ⊢
   clear hn1 hn2
   go_enter Tryz.func98,Tryz.ntmps98
   go_wp2
   exact bodyPost_ret (v:=.agg #[U i6 (wrap64 (a1+b1)),U i6 n1,U i6 n2]) (by simp [results,Tryz.results98,go_sem]) rfl ⟨rfl,HS.out⟩
theorem note_any (t:Ty) (b:Bool) (W0 W:World) (B:Nat) (l:List (Nat×Array Value×TypeId)) (s:St W0 W ((B,t.cs,166) :: l)) (hl:∀ x∈l,x.1≠B) (hw:0≤t.w∧t.w≤1000000000000000000) :
  Calls Tryz.prog 133 #[.pointer (some ⟨B,0,none⟩),.bool b] W fun e w'=>(∃ v,e=.returned v)∧St W0 w' ((B,({ t with w:=t.w+bb b }:Ty).cs,166) :: l):=by
 obtain⟨m,w,a,lo,hi⟩:=t
 simp only [Ty.cs] at s hw ⊢
 cases b with
 | true =>
  simp only [bb,if_true,Int.add_zero]
  go_enter Tryz.func133,Tryz.ntmps133
  go_wp2
  go_end0
  exact⟨⟨_,rfl⟩,s⟩
 | false =>
  simp only [bb,Bool.false_eq_true,if_false]
  have HS:Hid (St W0 _ _):=s.set hl (i:=1) (v:=U i6 (w+1))
  simp only [List.setIfInBounds_toArray,List.set_cons_succ,List.set_cons_zero] at HS
  obtain⟨c1,f1,z1,-⟩:=s.rules
  clear s
  go_enter Tryz.func133,Tryz.ntmps133
  go_wp2
  go_end0
  exact⟨⟨_,rfl⟩,HS.out⟩
def pz (zs ys:List Int):List Int:=List.zipWith (fun a b=>a*b) zs ys
theorem pz_len {zs ys:List Int} (h:zs.length=ys.length):(pz zs ys).length=zs.length:=by unfold pz;simp [h]
theorem pz_at {zs ys:List Int} {k:Nat} {c d:Int} (h:zs.drop k=c :: zs.drop (k+1)) (g:ys.drop k=d :: ys.drop (k+1)):(pz zs ys).drop k=c*d :: (pz zs ys).drop (k+1):=by
 unfold pz;rw [List.drop_zipWith,List.drop_zipWith,h,g];simp
def BD:Int:=1000000000000000
theorem lmd_i16 (t:Ty) (a b:Int) (W0 W:World) (B:Nat) (l:List (Nat×Array Value×TypeId)) (s:St W0 W ((B,t.cs,166) :: l)) (hl:∀ x∈l,x.1≠B) (ht:t.ok BD) (ha:-32768≤a∧a≤32767) (hb:-32768≤b∧b≤32767) :
  Calls Tryz.prog 136 #[.pointer (some ⟨B,0,none⟩),.int .i16 a,.int .i16 b] W fun e w'=>e=.returned (.int .i16 (wrapN 32768 (a*b)))∧St W0 w' ((B,(t.mu 32768 (a*b)).cs,166) :: l):=by
 have HF:Hid (∀ w,Calls Tryz.prog 140 #[.int .i16 a,.int .i16 b] w fun e w'=>e=.returned (.tuple #[.int .i16 (wrapN 32768 (a*b)),.bool (fitsN 32768 (a*b))])∧w'=w):=fun w=>lmul_i16 a b w ha hb
 generalize a*b=p at HF ⊢
 obtain⟨h1,h2,-⟩:=ht
 unfold BD at h1 h2
 obtain⟨m,w,c,lo,hi⟩:=t
 simp only at h1 h2
 have s1:=s.set hl (i:=0) (v:=U i6 (m+1))
 simp only [Ty.cs,List.setIfInBounds_toArray,List.set_cons_zero] at s1
 obtain⟨c1,f1,z1,-⟩:=s.rules
 simp only [Ty.cs] at c1
 have HN:Hid (∀ w2,St W0 w2 ((B,(⟨m+1,w,c,lo,hi⟩:Ty).cs,166) :: l)→Calls Tryz.prog 133 #[.pointer (some ⟨B,0,none⟩),.bool (fitsN 32768 p)] w2 fun e w'=>(∃ v,e=.returned v)∧St W0 w' ((B,((⟨m,w,c,lo,hi⟩:Ty).mu 32768 p).cs,166) :: l)):=fun w2 s2=>note_any ⟨m+1,w,c,lo,hi⟩ (fitsN 32768 p) W0 w2 B l s2 hl (by simp only;omega)
 generalize Ty.mu 32768 ⟨m,w,c,lo,hi⟩ p=T at HN ⊢
 generalize wrapN 32768 p=V at HF ⊢
 generalize fitsN 32768 p=b at HF HN ⊢
 have HS:Hid (St W0 _ _):=s1
 clear s s1
 go_enter Tryz.func136,Tryz.ntmps136
 go_wp2_with fail
 refine (HF.out _).mono ?_
 rintro e w' ⟨rfl,rfl⟩
 go_wp2_with fail
 refine (HN.out _ HS.out).mono ?_
 rintro e w' ⟨⟨v,rfl⟩,hs⟩
 clear c1 f1
 go_wp2
 go_ret
 exact⟨rfl,hs⟩
theorem lmd_i32 (t:Ty) (a b:Int) (W0 W:World) (B:Nat) (l:List (Nat×Array Value×TypeId)) (s:St W0 W ((B,t.cs,166) :: l)) (hl:∀ x∈l,x.1≠B) (ht:t.ok BD) (ha:-2147483648≤a∧a≤2147483647) (hb:-2147483648≤b∧b≤2147483647) :
  Calls Tryz.prog 122 #[.pointer (some ⟨B,0,none⟩),.int .i32 a,.int .i32 b] W fun e w'=>e=.returned (.int .i32 (wrapN 2147483648 (a*b)))∧St W0 w' ((B,(t.mu 2147483648 (a*b)).cs,166) :: l):=by
 have HF:Hid (∀ w,Calls Tryz.prog 134 #[.int .i32 a,.int .i32 b] w fun e w'=>e=.returned (.tuple #[.int .i32 (wrapN 2147483648 (a*b)),.bool (fitsN 2147483648 (a*b))])∧w'=w):=fun w=>lmul_i32 a b w ha hb
 generalize a*b=p at HF ⊢
 obtain⟨h1,h2,-⟩:=ht
 unfold BD at h1 h2
 obtain⟨m,w,c,lo,hi⟩:=t
 simp only at h1 h2
 have s1:=s.set hl (i:=0) (v:=U i6 (m+1))
 simp only [Ty.cs,List.setIfInBounds_toArray,List.set_cons_zero] at s1
 obtain⟨c1,f1,z1,-⟩:=s.rules
 simp only [Ty.cs] at c1
 have HN:Hid (∀ w2,St W0 w2 ((B,(⟨m+1,w,c,lo,hi⟩:Ty).cs,166) :: l)→Calls Tryz.prog 133 #[.pointer (some ⟨B,0,none⟩),.bool (fitsN 2147483648 p)] w2 fun e w'=>(∃ v,e=.returned v)∧St W0 w' ((B,((⟨m,w,c,lo,hi⟩:Ty).mu 2147483648 p).cs,166) :: l)):=fun w2 s2=>note_any ⟨m+1,w,c,lo,hi⟩ (fitsN 2147483648 p) W0 w2 B l s2 hl (by simp only;omega)
 generalize Ty.mu 2147483648 ⟨m,w,c,lo,hi⟩ p=T at HN ⊢
 generalize wrapN 2147483648 p=V at HF ⊢
 generalize fitsN 2147483648 p=b at HF HN ⊢
 have HS:Hid (St W0 _ _):=s1
 clear s s1
 go_enter Tryz.func122,Tryz.ntmps122
 go_wp2_with fail
 refine (HF.out _).mono ?_
 rintro e w' ⟨rfl,rfl⟩
 go_wp2_with fail
 refine (HN.out _ HS.out).mono ?_
 rintro e w' ⟨⟨v,rfl⟩,hs⟩
 clear c1 f1
 go_wp2
 go_ret
 exact⟨rfl,hs⟩
theorem jn_ad (N:Int) (t:Ty) (x:Int) (h:0≤t.a∧t.a≤BD):jn (t.a,t.l,t.h) (1,wrapN N x,wrapN N x)=((t.ad N x).a,(t.ad N x).l,(t.ad N x).h):=by
 unfold BD at h
 unfold jn Ty.ad
 simp only
 by_cases g:t.a=0
 ·rw [if_pos g,if_pos g,if_pos g,if_neg (by omega),g];rfl
 ·rw [if_neg g,if_neg g,if_neg g,if_neg (by omega),show wrap64 (t.a+1)=t.a+1 by unfold wrap64;omega]
theorem lad_i16 (t:Ty) (a b:Int) (W0 W:World) (B:Nat) (l:List (Nat×Array Value×TypeId)) (s:St W0 W ((B,t.cs,166) :: l)) (hl:∀ x∈l,x.1≠B) (ht:t.ok BD) (ha:-32768≤a∧a≤32767) (hb:-32768≤b∧b≤32767) :
  Calls Tryz.prog 135 #[.pointer (some ⟨B,0,none⟩),.int .i16 a,.int .i16 b] W fun e w'=>e=.returned (.int .i16 (wrapN 32768 (a+b)))∧St W0 w' ((B,(t.ad 32768 (a+b)).cs,166) :: l):=by
 have HF:Hid (∀ w,Calls Tryz.prog 139 #[.int .i16 a,.int .i16 b] w fun e w'=>e=.returned (.tuple #[.int .i16 (wrapN 32768 (a+b)),.bool (fitsN 32768 (a+b))])∧w'=w):=fun w=>ladd_i16 a b w ha hb
 generalize a+b=p at HF ⊢
 have hV:=wrapN_bd (N:=32768) (by omega) p
 obtain⟨-,h2,h3,-⟩:=ht
 have HJ:Hid (∀ w,_):=fun w=>joined_any t.a t.l t.h 1 (wrapN 32768 p) (wrapN 32768 p) _ _ _ w (jn_ad 32768 t p h3)
 unfold BD at h2 h3
 have HN:Hid (∀ w2,St W0 w2 ((B,#[U i6 t.m,U i6 t.w,U i6 (t.ad 32768 p).a,U i6 (t.ad 32768 p).l,U i6 (t.ad 32768 p).h],166) :: l)→Calls Tryz.prog 133 #[.pointer (some ⟨B,0,none⟩),.bool (fitsN 32768 p)] w2 fun e w'=>(∃ v,e=.returned v)∧St W0 w' ((B,(t.ad 32768 p).cs,166) :: l)):=fun w2 s2=>note_any ⟨t.m,t.w,(t.ad 32768 p).a,(t.ad 32768 p).l,(t.ad 32768 p).h⟩ (fitsN 32768 p) W0 w2 B l s2 hl (by simp only;omega)
 obtain⟨m,w,c,lo,hi⟩:=t
 simp only at h2 h3 HJ HN
 generalize Ty.ad 32768 ⟨m,w,c,lo,hi⟩ p=T at HJ HN ⊢
 generalize wrapN 32768 p=V at HF HJ hV ⊢
 generalize fitsN 32768 p=bo at HF HN ⊢
 simp only [Ty.cs] at s
 obtain⟨c1,f1,z1,-⟩:=s.rules
 obtain⟨T1,T2,T3,T4,T5⟩:=T
 have HS:Hid (St W0 W _):=s
 clear s
 go_enter Tryz.func135,Tryz.ntmps135
 go_wp2_with fail
 refine (HF.out _).mono ?_
 rintro e w' ⟨rfl,rfl⟩
 go_wp2_with fail
 refine (HJ.out _).mono ?_
 rintro e w2 ⟨rfl,hb2⟩
 have s2:=HS.out.call hb2
 clear c1 f1 z1 hb2
 obtain⟨c1,f1,z1,-⟩:=s2.rules
 have HS2:Hid (St W0 _ _):=((s2.set hl (i:=2) (v:=U i6 T3)).set hl (i:=3) (v:=U i6 T4)).set hl (i:=4) (v:=U i6 T5)
 simp only [List.setIfInBounds_toArray,List.set_cons_succ,List.set_cons_zero] at HS2
 clear s2
 go_wp2_with fail
 refine (HN.out _ HS2.out).mono ?_
 rintro e w' ⟨⟨v,rfl⟩,hs⟩
 clear c1 f1
 go_wp2
 go_ret
 exact⟨rfl,hs⟩
theorem lad_i32 (t:Ty) (a b:Int) (W0 W:World) (B:Nat) (l:List (Nat×Array Value×TypeId)) (s:St W0 W ((B,t.cs,166) :: l)) (hl:∀ x∈l,x.1≠B) (ht:t.ok BD) (ha:-2147483648≤a∧a≤2147483647) (hb:-2147483648≤b∧b≤2147483647) :
  Calls Tryz.prog 121 #[.pointer (some ⟨B,0,none⟩),.int .i32 a,.int .i32 b] W fun e w'=>e=.returned (.int .i32 (wrapN 2147483648 (a+b)))∧St W0 w' ((B,(t.ad 2147483648 (a+b)).cs,166) :: l):=by
 have HF:Hid (∀ w,Calls Tryz.prog 132 #[.int .i32 a,.int .i32 b] w fun e w'=>e=.returned (.tuple #[.int .i32 (wrapN 2147483648 (a+b)),.bool (fitsN 2147483648 (a+b))])∧w'=w):=fun w=>ladd_i32 a b w ha hb
 generalize a+b=p at HF ⊢
 have hV:=wrapN_bd (N:=2147483648) (by omega) p
 obtain⟨-,h2,h3,-⟩:=ht
 have HJ:Hid (∀ w,_):=fun w=>joined_any t.a t.l t.h 1 (wrapN 2147483648 p) (wrapN 2147483648 p) _ _ _ w (jn_ad 2147483648 t p h3)
 unfold BD at h2 h3
 have HN:Hid (∀ w2,St W0 w2 ((B,#[U i6 t.m,U i6 t.w,U i6 (t.ad 2147483648 p).a,U i6 (t.ad 2147483648 p).l,U i6 (t.ad 2147483648 p).h],166) :: l)→Calls Tryz.prog 133 #[.pointer (some ⟨B,0,none⟩),.bool (fitsN 2147483648 p)] w2 fun e w'=>(∃ v,e=.returned v)∧St W0 w' ((B,(t.ad 2147483648 p).cs,166) :: l)):=fun w2 s2=>note_any ⟨t.m,t.w,(t.ad 2147483648 p).a,(t.ad 2147483648 p).l,(t.ad 2147483648 p).h⟩ (fitsN 2147483648 p) W0 w2 B l s2 hl (by simp only;omega)
 obtain⟨m,w,c,lo,hi⟩:=t
 simp only at h2 h3 HJ HN
 generalize Ty.ad 2147483648 ⟨m,w,c,lo,hi⟩ p=T at HJ HN ⊢
 generalize wrapN 2147483648 p=V at HF HJ hV ⊢
 generalize fitsN 2147483648 p=bo at HF HN ⊢
 simp only [Ty.cs] at s
 obtain⟨c1,f1,z1,-⟩:=s.rules
 obtain⟨T1,T2,T3,T4,T5⟩:=T
 have HS:Hid (St W0 W _):=s
 clear s
 go_enter Tryz.func121,Tryz.ntmps121
 go_wp2_with fail
 refine (HF.out _).mono ?_
 rintro e w' ⟨rfl,rfl⟩
 go_wp2_with fail
 refine (HJ.out _).mono ?_
 rintro e w2 ⟨rfl,hb2⟩
 have s2:=HS.out.call hb2
 clear c1 f1 z1 hb2
 obtain⟨c1,f1,z1,-⟩:=s2.rules
 have HS2:Hid (St W0 _ _):=((s2.set hl (i:=2) (v:=U i6 T3)).set hl (i:=3) (v:=U i6 T4)).set hl (i:=4) (v:=U i6 T5)
 simp only [List.setIfInBounds_toArray,List.set_cons_succ,List.set_cons_zero] at HS2
 clear s2
 go_wp2_with fail
 refine (HN.out _ HS2.out).mono ?_
 rintro e w' ⟨⟨v,rfl⟩,hs⟩
 clear c1 f1
 go_wp2
 go_ret
 exact⟨rfl,hs⟩
def rfE (n m wd dp:Int):Int:=if n≠m∨n=0 then 70 else if wd≠16∧wd≠32 then 150 else if dp<1∨n<dp∨(wd=32∧dp≠n) then 151 else 0
theorem lref_any (n m wd dp:Int) (w:World) (hn:0≤n) (E:Int) (hE:rfE n m wd dp=E) :
  Calls Tryz.prog 94 #[U i6 n,U i6 m,U i6 wd,U i6 dp] w fun e w'=>e=.returned (U i6 E)∧w'=w:=by
 unfold rfE at hE
 by_cases h1:n=m
 ·by_cases h2:n=0
  ·rw [if_pos (.inr h2)] at hE
   subst hE h1
   have h3:n<1:=by omega
   go_enter Tryz.func94,Tryz.ntmps94
   go_wp2
   go_ret
   exact⟨rfl,rfl⟩
  ·rw [if_neg (by omega)] at hE
   subst h1
   have h3:¬ n<1:=by omega
   by_cases h4:wd=16
   ·rw [if_neg (by omega)] at hE
    subst h4
    by_cases h5:dp<1
    ·rw [if_pos (by omega)] at hE
     subst hE
     go_enter Tryz.func94,Tryz.ntmps94
     go_wp2
     go_ret
     exact⟨rfl,rfl⟩
    ·by_cases h6:n<dp
     ·rw [if_pos (by omega)] at hE
      subst hE
      go_enter Tryz.func94,Tryz.ntmps94
      go_wp2
      go_ret
      exact⟨rfl,rfl⟩
     ·rw [if_neg (by omega)] at hE
      subst hE
      go_enter Tryz.func94,Tryz.ntmps94
      go_wp2
      go_ret
      exact⟨rfl,rfl⟩
   ·by_cases h7:wd=32
    ·rw [if_neg (by omega)] at hE
     subst h7
     clear h4
     by_cases h5:dp<1
     ·rw [if_pos (by omega)] at hE
      subst hE
      go_enter Tryz.func94,Tryz.ntmps94
      go_wp2
      go_ret
      exact⟨rfl,rfl⟩
     ·by_cases h6:n<dp
      ·rw [if_pos (by omega)] at hE
       subst hE
       go_enter Tryz.func94,Tryz.ntmps94
       go_wp2
       go_ret
       exact⟨rfl,rfl⟩
      ·by_cases h8:dp=n
       ·rw [if_neg (by omega)] at hE
        subst hE h8
        go_enter Tryz.func94,Tryz.ntmps94
        go_wp2
        go_ret
        exact⟨rfl,rfl⟩
       ·rw [if_pos (by omega)] at hE
        subst hE
        go_enter Tryz.func94,Tryz.ntmps94
        go_wp2
        go_ret
        exact⟨rfl,rfl⟩
    ·rw [if_pos (by omega)] at hE
     subst hE
     have e1:(wd != 16)=true:=by simp [h4]
     have e2:(wd != 32)=true:=by simp [h7]
     go_enter Tryz.func94,Tryz.ntmps94
     go_wp2
     go_ret
     exact⟨rfl,rfl⟩
 ·rw [if_pos (.inl h1)] at hE
  subst hE
  go_enter Tryz.func94,Tryz.ntmps94
  go_wp2
  go_ret
  exact⟨rfl,rfl⟩
theorem lga_i16 (t0:Ty) (r0 n0:Int) (wa xa:Option Addr) (n wc xc:Nat) (zs ys:List Int) (W0 W:World) (B:Nat) (l:List (Nat×Array Value×TypeId)) (s:St W0 W ((B,t0.cs,166) :: l)) (hl:∀ x∈l,x.1≠B) (ht:t0.ok n0) (hn:n0+n≤900000000000000) (hr0:-32768≤r0∧r0≤32767)
  (hw:IRow .i16 W0 wa n wc zs) (hx:IRow .i8 W0 xa n xc ys) (F:Ty×Int) (hF:gaT 32768 t0 r0 (pz zs ys)=F) :
  Calls Tryz.prog 123 #[.pointer (some ⟨B,0,none⟩),.int .i16 r0,Sl wa n wc,Sl xa n xc] W fun e w'=>e=.returned (.int .i16 F.2)∧St W0 w' ((B,F.1.cs,166) :: l):=by
 have hlz:Hid (zs.length=n):=hw.1
 have hly:Hid (ys.length=n):=hx.1
 have hcm:=hw.2.1
 have hmm:=hw.2.2.1
 have hcx:=hx.2.1
 have hmx:=hx.2.2.1
 unfold maxLen at hmm hmx
 have HT:Hid (t0.ok n0):=ht
 have HL:Hid (∀ x∈l,x.1≠B):=hl
 have HS:Hid (St W0 W ((B,t0.cs,166) :: l)):=s
 have HF:Hid (gaT 32768 t0 r0 (pz zs ys)=F):=hF
 clear ht hl s hF
 go_enter Tryz.func123,Tryz.ntmps123
 go_wp2
 go_loopw [1,13] (fun v i wr=>∃ (k:Nat) (r:Int) (t:Ty),k≤n∧i=U i6 k∧v=.int .i16 r∧(-32768≤r∧r≤32767)∧t.ok (n0+k)∧St W0 wr ((B,t.cs,166) :: l)∧gaT 32768 t r ((pz zs ys).drop k)=F) (fun _ i _=>n-(intOf i).toNat)
 case atStart=>exact⟨0,r0,t0,Nat.zero_le _,rfl,rfl,hr0,by have:=HT.out;simpa using this,HS.out,HF.out⟩
 case round =>
  obtain⟨k,r,t,hk,rfl,rfl,hrb,htk,sk,hgk⟩:=hrel
  by_cases hlt:k<n
  ·obtain⟨x,d,rfl,hc,hwf,-,hdr⟩:=(hw.below sk.below).at hlt
   obtain⟨y,c,rfl,hc2,hwf2,-,hdr2⟩:=(hx.below sk.below).at hlt
   have hdb:=wf_i16 hwf
   have hcb:=wf_i8 hwf2
   have HP:Hid ((pz zs ys).drop k=d*c :: (pz zs ys).drop (k+1)):=pz_at hdr hdr2
   rw [HP.out] at hgk
   have HG:Hid (gaT 32768 (t.ma 32768 r (d*c)) (wrapN 32768 (r+wrapN 32768 (d*c))) ((pz zs ys).drop (k+1))=F):=hgk
   have HTM:Hid ((t.ma 32768 r (d*c)).ok (n0+k+1)):=htk.ma (by omega) _ _
   have HM:Hid (Calls Tryz.prog 136 #[.pointer (some ⟨B,0,none⟩),.int .i16 d,.int .i16 c] wr _):=lmd_i16 t d c W0 wr B l sk HL.out (htk.mono (by unfold BD;omega)) (by omega) (by omega)
   have HA:Hid (∀ w2,St W0 w2 ((B,(t.mu 32768 (d*c)).cs,166) :: l)→_):=fun w2 s2=>lad_i16 (t.mu 32768 (d*c)) r (wrapN 32768 (d*c)) W0 w2 B l s2 HL.out (by
    have h1:=bw_bd 32768 (d*c)
    obtain⟨g1,g2,g3,g4,g5⟩:=htk
    unfold BD
    refine⟨?_,?_,?_,g4,g5⟩<;>simp only [Ty.mu]<;>omega) hrb (by have:=wrapN_bd (N:=32768) (by omega) (d*c); omega)
   have hV:=wrapN_bd (N:=32768) (by omega) (r+wrapN 32768 (d*c))
   have HV:Hid (-32768≤wrapN 32768 (r+wrapN 32768 (d*c))∧wrapN 32768 (r+wrapN 32768 (d*c))≤32767):=by unfold Hid;omega
   clear hwf hwf2 hdr hdr2 hgk htk sk hV HP
   go_wp2_with fail
   refine HM.out.mono ?_
   rintro e w2 ⟨rfl,s2⟩
   have HA2:=HA.out w2 s2
   clear s2 HA
   go_wp2_with fail
   refine HA2.mono ?_
   rintro e w3 ⟨rfl,s3⟩
   clear HA2
   go_wp2
   go_roundw
   case rel=>exact⟨k+1,_,_,by omega,by go_num,rfl,HV.out,by have:=HTM.out;rw [show n0+((k+1:Nat):Int)=n0+k+1 by omega];exact this,s3,HG.out⟩
   case measure=>simp [intOf];omega
  ·have hT:(pz zs ys).drop k=[]:=List.drop_of_length_le (by rw [pz_len (by rw [hlz.out,hly.out]),hlz.out];omega)
   rw [hT] at hgk
   have HG:Hid ((t,r)=F):=hgk
   clear hT hgk
   go_wp2
   go_ret
   exact⟨by rw [← HG.out];rfl,by rw [← HG.out];exact sk⟩
theorem lga_i32 (t0:Ty) (r0 n0:Int) (wa xa:Option Addr) (n wc xc:Nat) (zs ys:List Int) (W0 W:World) (B:Nat) (l:List (Nat×Array Value×TypeId)) (s:St W0 W ((B,t0.cs,166) :: l)) (hl:∀ x∈l,x.1≠B) (ht:t0.ok n0) (hn:n0+n≤900000000000000) (hr0:-2147483648≤r0∧r0≤2147483647)
  (hw:IRow .i16 W0 wa n wc zs) (hx:IRow .i8 W0 xa n xc ys) (F:Ty×Int) (hF:gaT 2147483648 t0 r0 (pz zs ys)=F) :
  Calls Tryz.prog 95 #[.pointer (some ⟨B,0,none⟩),.int .i32 r0,Sl wa n wc,Sl xa n xc] W fun e w'=>e=.returned (.int .i32 F.2)∧St W0 w' ((B,F.1.cs,166) :: l):=by
 have hlz:Hid (zs.length=n):=hw.1
 have hly:Hid (ys.length=n):=hx.1
 have hcm:=hw.2.1
 have hmm:=hw.2.2.1
 have hcx:=hx.2.1
 have hmx:=hx.2.2.1
 unfold maxLen at hmm hmx
 have HT:Hid (t0.ok n0):=ht
 have HL:Hid (∀ x∈l,x.1≠B):=hl
 have HS:Hid (St W0 W ((B,t0.cs,166) :: l)):=s
 have HF:Hid (gaT 2147483648 t0 r0 (pz zs ys)=F):=hF
 clear ht hl s hF
 go_enter Tryz.func95,Tryz.ntmps95
 go_wp2
 go_loopw [1,13] (fun v i wr=>∃ (k:Nat) (r:Int) (t:Ty),k≤n∧i=U i6 k∧v=.int .i32 r∧(-2147483648≤r∧r≤2147483647)∧t.ok (n0+k)∧St W0 wr ((B,t.cs,166) :: l)∧gaT 2147483648 t r ((pz zs ys).drop k)=F) (fun _ i _=>n-(intOf i).toNat)
 case atStart=>exact⟨0,r0,t0,Nat.zero_le _,rfl,rfl,hr0,by have:=HT.out;simpa using this,HS.out,HF.out⟩
 case round =>
  obtain⟨k,r,t,hk,rfl,rfl,hrb,htk,sk,hgk⟩:=hrel
  by_cases hlt:k<n
  ·obtain⟨x,d,rfl,hc,hwf,-,hdr⟩:=(hw.below sk.below).at hlt
   obtain⟨y,c,rfl,hc2,hwf2,-,hdr2⟩:=(hx.below sk.below).at hlt
   have hdb:=wf_i16 hwf
   have hcb:=wf_i8 hwf2
   have HP:Hid ((pz zs ys).drop k=d*c :: (pz zs ys).drop (k+1)):=pz_at hdr hdr2
   rw [HP.out] at hgk
   have HG:Hid (gaT 2147483648 (t.ma 2147483648 r (d*c)) (wrapN 2147483648 (r+wrapN 2147483648 (d*c))) ((pz zs ys).drop (k+1))=F):=hgk
   have HTM:Hid ((t.ma 2147483648 r (d*c)).ok (n0+k+1)):=htk.ma (by omega) _ _
   have HM:Hid (Calls Tryz.prog 122 #[.pointer (some ⟨B,0,none⟩),.int .i32 d,.int .i32 c] wr _):=lmd_i32 t d c W0 wr B l sk HL.out (htk.mono (by unfold BD;omega)) (by omega) (by omega)
   have HA:Hid (∀ w2,St W0 w2 ((B,(t.mu 2147483648 (d*c)).cs,166) :: l)→_):=fun w2 s2=>lad_i32 (t.mu 2147483648 (d*c)) r (wrapN 2147483648 (d*c)) W0 w2 B l s2 HL.out (by
    have h1:=bw_bd 2147483648 (d*c)
    obtain⟨g1,g2,g3,g4,g5⟩:=htk
    unfold BD
    refine⟨?_,?_,?_,g4,g5⟩<;>simp only [Ty.mu]<;>omega) hrb (by have:=wrapN_bd (N:=2147483648) (by omega) (d*c); omega)
   have hV:=wrapN_bd (N:=2147483648) (by omega) (r+wrapN 2147483648 (d*c))
   have HV:Hid (-2147483648≤wrapN 2147483648 (r+wrapN 2147483648 (d*c))∧wrapN 2147483648 (r+wrapN 2147483648 (d*c))≤2147483647):=by unfold Hid;omega
   clear hwf hwf2 hdr hdr2 hgk htk sk hV HP
   go_wp2_with fail
   refine HM.out.mono ?_
   rintro e w2 ⟨rfl,s2⟩
   have HA2:=HA.out w2 s2
   clear s2 HA
   go_wp2_with fail
   refine HA2.mono ?_
   rintro e w3 ⟨rfl,s3⟩
   clear HA2
   go_wp2
   go_roundw
   case rel=>exact⟨k+1,_,_,by omega,by go_num,rfl,HV.out,by have:=HTM.out;rw [show n0+((k+1:Nat):Int)=n0+k+1 by omega];exact this,s3,HG.out⟩
   case measure=>simp [intOf];omega
  ·have hT:(pz zs ys).drop k=[]:=List.drop_of_length_le (by rw [pz_len (by rw [hlz.out,hly.out]),hlz.out];omega)
   rw [hT] at hgk
   have HG:Hid ((t,r)=F):=hgk
   clear hT hgk
   go_wp2
   go_ret
   exact⟨by rw [← HG.out];rfl,by rw [← HG.out];exact sk⟩
theorem front_i16 {a:Option Addr} {len cap k:Nat} (hc:k≤cap):∀ W:World,(Instr.slice 50 (.slice a len cap) none (some (U i6 (k:Int))) none).run Tryz.prog W=.ok (.slice a k cap) W:=fun W=>by
 have hs:∀ W:World,(sizeOf 106).run Tryz.prog W=.ok 1 W:=fun _=>by kernel_rfl
 have he:Tryz.prog.elem 50=106:=by kernel_rfl
 have hu:Tryz.prog.underlying 50=some (.slice (Tryz.prog.elem 50)):=by rw [he];exact Tryz.underlying50
 rw [run_slice_h (ht:=hu) (h0:=by omega) (h2:=by omega),he,hs]
 have e:a.map (fun x=>x.add (0*1))=a:=by
  cases a with
  | none=>rfl
  | some x=>simp [Addr.add]
 simp only [Result.andThen,sliced,Int.toNat_natCast,Nat.sub_zero]
 rw [e]
 simp
theorem back_i16 {a:Option Addr} {len cap k:Nat} (hc:k≤len) (hl:len≤cap):∃ a',(∀ W:World,(Instr.slice 50 (.slice a len cap) (some (U i6 (k:Int))) none none).run Tryz.prog W=.ok (.slice a' (len-k) (cap-k)) W)∧(∀ x,a=some x→k<cap→a'=some (x.add k))∧(a=none→a'=none):=by
 have hs:∀ W:World,(sizeOf 106).run Tryz.prog W=.ok 1 W:=fun _=>by kernel_rfl
 have he:Tryz.prog.elem 50=106:=by kernel_rfl
 have hu:Tryz.prog.underlying 50=some (.slice (Tryz.prog.elem 50)):=by rw [he];exact Tryz.underlying50
 refine⟨if cap=k then a else a.map (fun x=>x.add (k*1)),fun W=>?_,fun x hx hk=>?_,fun hx=>?_⟩
 ·rw [run_slice_l (ht:=hu) (h0:=by omega) (h1:=by omega),he,hs]
  simp only [Result.andThen,sliced,Int.toNat_natCast]
 ·rw [if_neg (by omega),hx];simp
 ·subst hx; split<;>rfl
theorem front_i8 {a:Option Addr} {len cap k:Nat} (hc:k≤cap):∀ W:World,(Instr.slice 28 (.slice a len cap) none (some (U i6 (k:Int))) none).run Tryz.prog W=.ok (.slice a k cap) W:=fun W=>by
 have hs:∀ W:World,(sizeOf 72).run Tryz.prog W=.ok 1 W:=fun _=>by kernel_rfl
 have he:Tryz.prog.elem 28=72:=by kernel_rfl
 have hu:Tryz.prog.underlying 28=some (.slice (Tryz.prog.elem 28)):=by rw [he];exact Tryz.underlying28
 rw [run_slice_h (ht:=hu) (h0:=by omega) (h2:=by omega),he,hs]
 have e:a.map (fun x=>x.add (0*1))=a:=by
  cases a with
  | none=>rfl
  | some x=>simp [Addr.add]
 simp only [Result.andThen,sliced,Int.toNat_natCast,Nat.sub_zero]
 rw [e]
 simp
theorem back_i8 {a:Option Addr} {len cap k:Nat} (hc:k≤len) (hl:len≤cap):∃ a',(∀ W:World,(Instr.slice 28 (.slice a len cap) (some (U i6 (k:Int))) none none).run Tryz.prog W=.ok (.slice a' (len-k) (cap-k)) W)∧(∀ x,a=some x→k<cap→a'=some (x.add k))∧(a=none→a'=none):=by
 have hs:∀ W:World,(sizeOf 72).run Tryz.prog W=.ok 1 W:=fun _=>by kernel_rfl
 have he:Tryz.prog.elem 28=72:=by kernel_rfl
 have hu:Tryz.prog.underlying 28=some (.slice (Tryz.prog.elem 28)):=by rw [he];exact Tryz.underlying28
 refine⟨if cap=k then a else a.map (fun x=>x.add (k*1)),fun W=>?_,fun x hx hk=>?_,fun hx=>?_⟩
 ·rw [run_slice_l (ht:=hu) (h0:=by omega) (h1:=by omega),he,hs]
  simp only [Result.andThen,sliced,Int.toNat_natCast]
 ·rw [if_neg (by omega),hx];simp
 ·subst hx; split<;>rfl
theorem IRow.front {k:IntKind} {w:World} {a:Option Addr} {len cap n:Nat} {zs:List Int} (h:IRow k w a len cap zs) (hn:n≤len):IRow k w a n cap (zs.take n):=by
 obtain⟨h1,h2,h3,h4,h5,h6⟩:=h
 refine⟨by rw [List.length_take];omega,by omega,h3,fun z hz=>h4 z (List.mem_of_mem_take hz),h5,fun x hx i hi=>?_⟩
 rw [h6 x hx i (by omega)]
 simp [List.getD,hi]
theorem IRow.back {k:IntKind} {w:World} {a a':Option Addr} {len cap n:Nat} {zs:List Int} (h:IRow k w a len cap zs) (hn:n≤len) (ha:∀ x,a=some x→n<cap→a'=some (x.add n)) (hb:a=none→a'=none):IRow k w a' (len-n) (cap-n) (zs.drop n):=by
 have:=h.cut (n:=n) (m:=len-n) (by omega) ha hb
 rw [List.take_of_length_le (by rw [List.length_drop,h.1];omega)] at this
 exact this
theorem pz_take (zs ys:List Int) (n:Nat):pz (zs.take n) (ys.take n)=(pz zs ys).take n:=by unfold pz;rw [List.take_zipWith]
theorem pz_drop (zs ys:List Int) (n:Nat):pz (zs.drop n) (ys.drop n)=(pz zs ys).drop n:=by unfold pz;rw [List.drop_zipWith]
def lenOf:Value→Nat
 | .slice _ n _=>n
 | _=>0
theorem lsp_any (d N:Nat) (s0 l0:Ty) (r0:Int) (wa0 xa0:Option Addr) (cw0 cx0:Nat) (zs0 ys0:List Int) (W0 W:World) (B C:Nat) (l:List (Nat×Array Value×TypeId)) (hBC:B≠C) (s:St W0 W ((B,s0.cs,166) :: (C,l0.cs,166) :: l)) (hlB:∀ x∈l,x.1≠B) (hlC:∀ x∈l,x.1≠C) (hs0:s0.ok 0) (hl0:l0.ok 0) (hr0:-2147483648≤r0∧r0≤2147483647) (hd:1≤d∧d≤N) (hN:N≤140737488355328)
  (hw0:IRow .i16 W0 wa0 N cw0 zs0) (hx0:IRow .i8 W0 xa0 N cx0 ys0) (F:Ty×Ty×Int) (hF:elT d 0 s0 l0 r0 0 (pz zs0 ys0)=F) :
  Calls Tryz.prog 96 #[.pointer (some ⟨B,0,none⟩),.pointer (some ⟨C,0,none⟩),.int .i32 r0,Sl wa0 N cw0,Sl xa0 N cx0,U i6 (d:Int)] W fun e w'=>e=.returned (.int .i32 F.2.2)∧St W0 w' ((B,F.1.cs,166) :: (C,F.2.1.cs,166) :: l):=by
 have hcm:=hw0.2.1
 have hmm:=hw0.2.2.1
 have hmx:=hx0.2.2.1
 unfold maxLen at hmm hmx
 have HW:Hid (IRow .i16 W0 wa0 N cw0 zs0):=hw0
 have HX:Hid (IRow .i8 W0 xa0 N cx0 ys0):=hx0
 have HB:Hid ((∀ x∈((C,l0.cs,166) :: l),x.1≠B)∧∀ x∈l,x.1≠C):=⟨fun x hx=>by rcases List.mem_cons.1 hx with rfl | hx;exact fun e=>hBC e.symm;exact hlB x hx,hlC⟩
 have HS:Hid (St W0 W ((B,s0.cs,166) :: (C,l0.cs,166) :: l)):=s
 have HF:Hid (elT d 0 s0 l0 r0 0 (pz zs0 ys0)=F):=hF
 have H0:Hid (s0.ok 0∧l0.ok 0):=⟨hs0,hl0⟩
 have HBl:Hid ((∀ x∈l,x.1≠B)∧∀ x∈l,x.1≠C):=⟨hlB,hlC⟩
 clear hw0 hx0 s hF hs0 hl0 hlB hlC
 go_enter Tryz.func96,Tryz.ntmps96
 go_wp2
 go_loopw [2,3,4] (fun v vw vx wr=>∃ (n cw cx:Nat) (r:Int) (wa xa:Option Addr) (zs ys:List Int) (st lt:Ty),n≤N∧v=.int .i32 r∧vw=.slice wa n cw∧vx=.slice xa n cx∧(-2147483648≤r∧r≤2147483647)∧st.ok ((N:Int)-n)∧lt.ok ((N:Int)-n)∧IRow .i16 W0 wa n cw zs∧IRow .i8 W0 xa n cx ys∧St W0 wr ((B,st.cs,166) :: (C,lt.cs,166) :: l)∧elT d 0 st lt r 0 (pz zs ys)=F) (fun _ vw _ _=>lenOf vw)
 case atStart=>exact⟨N,cw0,cx0,r0,wa0,xa0,zs0,ys0,s0,l0,Nat.le_refl _,rfl,rfl,rfl,hr0,by rw [Int.sub_self];exact H0.out.1,by rw [Int.sub_self];exact H0.out.2,HW.out,HX.out,HS.out,HF.out⟩
 case round =>
  obtain⟨n,cw,cx,r,wa,xa,zs,ys,st,lt,hn,rfl,rfl,rfl,hr,hst,hlt,hw,hx,hs,hf⟩:=hrel
  by_cases h0:n=0
  ·subst h0
   have hz:zs=[]:=List.eq_nil_of_length_eq_zero hw.1
   subst hz
   have HG:Hid ((st,lt,r)=F):=hf
   clear hf
   go_wp2
   go_ret
   exact⟨by rw [← HG.out];rfl,by rw [← HG.out];exact hs⟩
  ·have hcap:=hw.2.1
   have hcap2:=hx.2.1
   have hmw:=hw.2.2.1
   have hmx2:=hx.2.2.1
   unfold maxLen at hmw hmx2
   obtain⟨b,hb⟩:∃ b:Nat,b=min d n:=⟨_,rfl⟩
   have hb1:1≤b∧b≤n∧b≤d:=by omega
   have m1:=min2 (d:Int) (n:Int) (b:Int) (by unfold xmn; split<;>omega)
   have f1:=front_i16 (a:=wa) (len:=n) (cap:=cw) (k:=b) (by omega)
   have f2:=front_i8 (a:=xa) (len:=n) (cap:=cx) (k:=b) (by omega)
   obtain⟨wa2,g1,ga1,gb1⟩:=back_i16 (a:=wa) (len:=n) (cap:=cw) (k:=b) (by omega) (by omega)
   obtain⟨xa2,g2,ga2,gb2⟩:=back_i8 (a:=xa) (len:=n) (cap:=cx) (k:=b) (by omega) (by omega)
   have HW1:Hid (IRow .i16 W0 wa b cw (zs.take b)):=hw.front (by omega)
   have HX1:Hid (IRow .i8 W0 xa b cx (ys.take b)):=hx.front (by omega)
   have HW2:Hid (IRow .i16 W0 wa2 (n-b) (cw-b) (zs.drop b)):=hw.back (by omega) ga1 gb1
   have HX2:Hid (IRow .i8 W0 xa2 (n-b) (cx-b) (ys.drop b)):=hx.back (by omega) ga2 gb2
   have hlz:=hw.1
   have hly:=hx.1
   have hpl:(pz zs ys).length=n:=by rw [pz_len (by omega)];exact hlz
   have hne:pz zs ys≠[]:=fun e=>by rw [e] at hpl;simp at hpl;omega
   have htk:(pz zs ys).take d=(pz zs ys).take b:=by
    rcases Nat.le_total d n with h | h
    ·rw [show b=d by omega]
    ·rw [List.take_of_length_le (by omega),List.take_of_length_le (by omega)]
   have hdk:(pz zs ys).drop d=(pz zs ys).drop b:=by
    rcases Nat.le_total d n with h | h
    ·rw [show b=d by omega]
    ·rw [List.drop_of_length_le (by omega),List.drop_of_length_le (by omega)]
   rw [elT_spill (by omega) hne,htk,hdk] at hf
   obtain⟨G,hG⟩:∃ G,gaT 32768 st 0 ((pz zs ys).take b)=G:=⟨_,rfl⟩
   have hGo:=gaT_ok (N:=32768) (by omega) ((pz zs ys).take b) st 0 _ hst (by omega)
   rw [hG] at hf hGo
   rw [show ((((pz zs ys).take b).length:Nat):Int)=b by rw [List.length_take,hpl];omega] at hGo
   have HGA:Hid (∀ W',St W0 W' ((B,st.cs,166) :: (C,lt.cs,166) :: l)→_):=fun W' hs'=>lga_i16 st 0 _ wa xa b cw cx (zs.take b) (ys.take b) W0 W' B _ hs' (fun x hx=>by rcases List.mem_cons.1 hx with rfl | hx;exact fun e=>hBC e.symm;exact HBl.out.1 x hx) hst (by omega) (by omega) HW1.out HX1.out G (by rw [pz_take];exact hG)
   have HAD:Hid (∀ W',St W0 W' ((C,lt.cs,166) :: (B,G.1.cs,166) :: l)→_):=fun W' hs'=>lad_i32 lt r G.2 W0 W' C _ hs' (fun x hx=>by rcases List.mem_cons.1 hx with rfl | hx;exact hBC;exact HBl.out.2 x hx) (hlt.mono (by unfold BD;omega)) hr (by omega)
   have hG2:=hGo.2
   have HOK:Hid (G.1.ok ((N:Int)-((n-b:Nat):Int))∧(lt.ad 2147483648 (r+G.2)).ok ((N:Int)-((n-b:Nat):Int))):=⟨hGo.1.mono (by omega),(hlt.ad (by omega) _).mono (by omega)⟩
   have HE:Hid (elT d 0 G.1 (lt.ad 2147483648 (r+G.2)) (wrapN 2147483648 (r+G.2)) 0 (pz (zs.drop b) (ys.drop b))=F):=by rw [pz_drop];exact hf
   have HV:=wrapN_bd (N:=2147483648) (by omega) (r+G.2)
   have hVV:Hid (-2147483648≤wrapN 2147483648 (r+G.2)∧wrapN 2147483648 (r+G.2)≤2147483647):=by unfold Hid;omega
   obtain⟨G1,G2⟩:=G
   simp only at HGA HAD hG2 HOK HE hVV
   have hs':Hid (St W0 wr ((B,st.cs,166) :: (C,lt.cs,166) :: l)):=hs
   have hn0:0<n:=by omega
   clear hw hx hf hst hlt hG hGo HV hpl hne htk hdk hlz hly ga1 gb1 ga2 gb2 hb hs h0
   go_upto_region 3 with fail
   go_cut [14] from 22 to 29 (fun v14 wx=>v14=.int .i16 G2∧St W0 wx ((B,G1.cs,166) :: (C,lt.cs,166) :: l))
   case first =>
    go_region_with (go_at_call 123;refine (HGA.out _ (St.drew hs'.out)).mono ?_;rintro e w2 ⟨rfl,s2⟩)
    all_goals (go_wp2_with fail;go_meet;case rel=>exact⟨rfl,s2⟩)
   case rest =>
    obtain⟨rfl,s3⟩:=hcut
    have HAD2:=HAD.out wc s3.up1
    clear s3 HAD HGA f1 f2
    go_wp2_with fail
    refine HAD2.mono ?_
    rintro e w4 ⟨rfl,s4⟩
    have HS4:Hid (∀ k,St W0 (w4.drewN k) ((B,G1.cs,166) :: (C,(lt.ad 2147483648 (r+G2)).cs,166) :: l)):=fun k=>s4.up1.call (dbel w4 k)
    clear HAD2 s4
    go_upto_region 5 with fail
    go_quiet (fail)
    go_wp2
    go_roundw
    case rel=>exact⟨n-b,cw-b,cx-b,_,wa2,xa2,_,_,_,_,by omega,rfl,rfl,rfl,hVV.out,HOK.out.1,HOK.out.2,HW2.out,HX2.out,HS4.out _,HE.out⟩
    case measure=>simp [lenOf];omega
end Go.Proofs.YtehofmkpgopmpaaGreat
