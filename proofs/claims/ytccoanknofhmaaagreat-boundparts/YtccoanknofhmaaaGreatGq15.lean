/- Fronts of models in plain numbers; what is known of each op of a well-formed model; ops that came in. Sums of ops that reduce, in plain numbers: their terms, their bias, and what is known of such an op of a well-formed model. What the small functions of package terms return: how many terms, channels and positions an op has; its bias; a weight; the channels that are read; a place. What terms of package terms returns of a Dense: the terms of a channel's sum. What terms of package terms returns of an op with a window: the terms of a channel's sum at a position. Check, Shapes and Work of package model: what each answers. -/
import Derived.Test.YtccoanknofhmaaaGreatGq01
import Derived.Test.YtccoanknofhmaaaGreatGq13
import Derived.Test.YtccoanknofhmaaaGreatGq14
import Derived.BigQuiet
import Derived.Maps.AppendAt
import Derived.RangeFuncCalls
import Derived.Shelf.RegionOpen
namespace Go.Proofs.YtccoanknofhmaaaGreat
open Go.Value renaming int → U, slice → Sl
open Go.IntKind renaming i64 → i6
set_option maxRecDepth 100000
set_option maxHeartbeats 16000000
open Go.ChangeShapes Go.WideShapes Go.ChangeAt Go.RowKit
set_option linter.unusedVariables false
theorem stG_step {O:Nat→Nat→Int} {s0:Int×Int×Int} {n:Nat} {L:List (Int×Int×Int)} {wk:Int} (h:stG O s0 (n+1)=(0,0,L,wk)) :
  ∃ L0 wk0,stG O s0 n=(0,0,L0,wk0)∧oT (O n) L0 wk0=0∧L=L0++[oM (O n) L0]∧wk=wk0+oW (O n) L0:=by
 obtain⟨e,t,L0,wk0,h0⟩:∃ e t L0 wk0,stG O s0 n=(e,t,L0,wk0):=⟨_,_,_,_,rfl⟩
 by_cases he:e=0
 ·have ht:t=0:=stG_at0 h0 he
  subst he ht
  by_cases hx:oT (O n) L0 wk0=0
  ·rw [stG_ok h0 hx] at h
   simp only [Prod.mk.injEq,true_and] at h
   exact⟨L0,wk0,h0,hx,h.1.symm,h.2.symm⟩
  ·rw [stG_err h0 rfl hx] at h
   simp only [Prod.mk.injEq] at h
   exact absurd h.1 hx
 ·have:=stG_bad (O:=O) (s0:=s0) (i:=n) (by rw [h0];exact he) 1
  rw [h,h0] at this
  simp only [Prod.mk.injEq] at this
  exact absurd this.1.symm he
theorem stG_pre {O:Nat→Nat→Int} {s0:Int×Int×Int} (hs:vS3 s0=true):∀ (n:Nat) (L:List (Int×Int×Int)) (wk:Int),stG O s0 n=(0,0,L,wk)→∀ i,i≤n→∃ wi,stG O s0 i=(0,0,L.take (i+1),wi)∧0≤wi∧wi≤wk
 | 0,L,wk,h,i,hi=>by
  obtain rfl:i=0:=by omega
  obtain⟨h1,-,h3,-⟩:=stG_inv hs 0 L wk h
  exact⟨wk,by rw [List.take_of_length_le (by omega)];exact h,h3,Int.le_refl _⟩
 | n+1,L,wk,h,i,hi=>by
  obtain⟨h1,-,h3,-⟩:=stG_inv hs (n+1) L wk h
  by_cases e:i=n+1
  ·subst e
   exact⟨wk,by rw [List.take_of_length_le (by omega)];exact h,h3,Int.le_refl _⟩
  ·obtain⟨L0,wk0,h0,hx,hL,hw⟩:=stG_step h
   obtain⟨i1,i2,i3,i4⟩:=stG_inv hs n L0 wk0 h0
   obtain⟨wi,g1,g2,g3⟩:=stG_pre hs n L0 wk0 h0 i (by omega)
   obtain⟨-,t2,-,-⟩:=tk_0 hx i2
   have t2':0≤oW (O n) L0:=t2
   refine⟨wi,?_,g2,by omega⟩
   rw [g1,hL,List.take_append_of_le_length (by omega)]
theorem ouE_front {h w c lo hi ot:Int} {on j:Nat} (q:ouE h w c lo hi ot on=0) (hj:j≤on):ouE h w c lo hi (j:Int) j=0:=by
 obtain⟨a1,a2,a3,-,-⟩:=ouE_0 q
 unfold ouE
 rw [if_neg (by rw [a1];decide),if_neg (by rw [a2];decide),if_neg (by omega),if_neg (by omega)]
theorem gtR_of {O:Nat→Nat→Int} {h w c lo hi ot:Int} {on:Nat} (q:ouE h w c lo hi ot on=0):gtR O h w c lo hi ot on=stG O (h,w,c) on:=by unfold gtR;rw [q,if_neg (by decide)]
theorem gtR_st {O:Nat→Nat→Int} {h w c lo hi ot t wk:Int} {on:Nat} {L:List (Int×Int×Int)} (q:gtR O h w c lo hi ot on=(0,t,L,wk)):ouE h w c lo hi ot on=0∧t=0∧stG O (h,w,c) on=(0,0,L,wk):=by
 by_cases hx:ouE h w c lo hi ot on=0
 ·rw [gtR_of hx] at q
  have ht:=stG_at0 q rfl
  subst ht
  exact⟨hx,rfl,q⟩
 ·unfold gtR at q
  rw [if_pos hx] at q
  simp only [Prod.mk.injEq] at q
  exact absurd q.1 hx
theorem gtR_ok {O:Nat→Nat→Int} {h w c lo hi ot t wk:Int} {on:Nat} {L:List (Int×Int×Int)} (q:gtR O h w c lo hi ot on=(0,t,L,wk)) :
  t=0∧L.length=on+1∧on≤64∧0≤wk∧wk≤131072∧∀ k:Nat,k≤on→∃ wi,gtR O h w c lo hi (k:Int) k=(0,0,L.take (k+1),wi)∧0≤wi∧wi≤wk:=by
 obtain⟨hx,rfl,q2⟩:=gtR_st q
 clear q
 have q:=q2
 have hv:vS3 (h,w,c)=true:=(ouE_0 hx).1
 obtain⟨h1,-,h3,h4⟩:=stG_inv hv on L wk q
 refine⟨rfl,h1,(ouE_0 hx).2.2.1,h3,h4,fun k hk=>?_⟩
 obtain⟨wi,g1,g2⟩:=stG_pre hv on L wk q k hk
 exact⟨wi,by rw [gtR_of (ouE_front hx hk)];exact g1,g2⟩
theorem mkE_parts {k m kh kw sh sw tp lf bt rt h w c:Int} (hx:mkE k m kh kw sh sw tp lf bt rt h w c=0):mkW k kh kw sh sw tp lf bt rt h w c=0:=by
 unfold mkE at hx
 by_cases hM:mkM k m=false
 ·rw [if_pos hM] at hx;cases hx
 ·rw [if_neg hM] at hx
  by_cases hw:mkW k kh kw sh sw tp lf bt rt h w c≠0
  ·rw [if_pos hw] at hx;exact absurd hx hw
  ·exact Decidable.not_not.1 hw
def OpFit (k kh kw sh sw tp lf bt rt:Int) (A B:Int×Int×Int):Prop :=
 vS B.1 B.2.1 B.2.2=true∧(2≤k∧k≤5→ouR A.1 A.2.1 A.2.2 kh kw sh sw tp lf bt rt=(B.1,B.2.1,0)∧(k≠2→B.2.2=A.2.2))∧(6≤k→B=A)
theorem fit_of {k m kh kw sh sw tp lf bt rt:Int} {A:Int×Int×Int} (hx:mkE k m kh kw sh sw tp lf bt rt A.1 A.2.1 A.2.2=0) (hv:vS3 (mk3 k m kh kw sh sw tp lf bt rt A)=true):OpFit k kh kw sh sw tp lf bt rt A (mk3 k m kh kw sh sw tp lf bt rt A):=by
 refine⟨hv,fun hk=>?_,fun hk=>?_⟩
 ·have hw:=mkE_parts hx
  unfold mkW at hw
  rw [if_pos hk] at hw
  obtain⟨r,q,e,ho⟩:∃ r q e,ouR A.1 A.2.1 A.2.2 kh kw sh sw tp lf bt rt=(r,q,e):=⟨_,_,_,rfl⟩
  rw [ho] at hw
  simp only at hw
  subst hw
  by_cases k2:k=2
  ·have hm:mk3 k m kh kw sh sw tp lf bt rt A=(r,q,m):=by unfold mk3 mkS;rw [if_neg (by omega),if_pos k2,ho]
   rw [hm]
   exact⟨ho,fun h=>absurd k2 h⟩
  ·have hm:mk3 k m kh kw sh sw tp lf bt rt A=(r,q,A.2.2):=by unfold mk3 mkS;rw [if_neg (by omega),if_neg k2,if_pos (by omega),ho]
   rw [hm]
   exact⟨ho,fun _=>rfl⟩
 ·unfold mk3 mkS
  rw [if_neg (by omega),if_neg (by omega),if_neg (by omega)]
theorem ShA_take {L:List (Int×Int×Int)} {i n:Nat} (h:i<n):ShA (L.take n) (i:Int)=ShA L (i:Int):=by
 unfold ShA
 rw [Int.toNat_natCast]
 simp [List.getD,h]
theorem gtR_at {O:Nat→Nat→Int} {h w c lo hi ot t wk:Int} {on:Nat} {L:List (Int×Int×Int)} (q:gtR O h w c lo hi ot on=(0,t,L,wk)) :
  ShA L ((0:Nat):Int)=(h,w,c)∧∀ i,i<on→∃ j:Nat,O i 1=(j:Int)∧j≤i∧OpFit (O i 0) (O i 4) (O i 5) (O i 6) (O i 7) (O i 8) (O i 9) (O i 10) (O i 11) (ShA L (j:Int)) (ShA L ((i+1:Nat):Int)):=by
 obtain⟨hx,rfl,q2⟩:=gtR_st q
 clear q
 have q:=q2
 have hv:vS3 (h,w,c)=true:=(ouE_0 hx).1
 refine⟨?_,fun i hi=>?_⟩
 ·obtain⟨wi,g1,-⟩:=stG_pre hv on L wk q 0 (by omega)
  unfold stG at g1
  simp only [Prod.mk.injEq,true_and] at g1
  rw [← ShA_take (n:=0+1) (by omega),← g1.1]
  rfl
 ·obtain⟨wi,g1,-⟩:=stG_pre hv on L wk q (i+1) (by omega)
  obtain⟨L0,wk0,h0,hx0,hL,-⟩:=stG_step g1
  obtain⟨w2,g2,-⟩:=stG_pre hv on L wk q i (by omega)
  rw [g2] at h0
  simp only [Prod.mk.injEq,true_and] at h0
  obtain⟨rfl,rfl⟩:=h0
  obtain⟨i1,i2,-⟩:=stG_inv hv i _ _ g2
  obtain⟨t1,-,-,⟨a0,a1⟩,-,t6⟩:=tk_0 hx0 i2
  obtain⟨j,hj⟩:=Int.eq_ofNat_of_zero_le a0
  rw [hj] at a1 t1 t6
  refine⟨j,hj,by omega,?_⟩
  have e1:ShA (L.take (i+1)) (j:Int)=ShA L (j:Int):=ShA_take (by omega)
  have e2:ShA L ((i+1:Nat):Int)=mk3 (O i 0) (O i 3) (O i 4) (O i 5) (O i 6) (O i 7) (O i 8) (O i 9) (O i 10) (O i 11) (ShA L (j:Int)):=by
   rw [← ShA_take (n:=i+1+1) (by omega),hL]
   unfold ShA at e1 ⊢
   rw [Int.toNat_natCast]
   simp only [List.getD]
   rw [List.getElem?_append_right (by omega),i1,Nat.sub_self]
   unfold oM ShA
   rw [hj,Int.toNat_natCast]
   rw [Int.toNat_natCast] at e1
   simp only [List.getElem?_cons_zero,Option.getD_some]
   rw [e1]
   rfl
  rw [e1] at t1 t6
  rw [e2]
  exact fit_of t6 t1
def OpIn (w:World) (cs:List Value):Prop :=
 ∃ (b0:Int) (b1:Int) (b2:Int) (b3:Int) (b4:Int) (b5:Int) (b6:Int) (b7:Int) (b8:Int) (b9:Int) (b10:Int) (b11:Int) (b12:Option Addr) (l12 c12:Nat) (z12:List Int) (b13:Option Addr) (l13 c13:Nat) (z13:List Int) (b14:Int) (b15:Int) (b16:Int) (b17:Int) (b18:Int) (b19:Int) (b20:Int) (b21:Int),cs=[U i6 b0,U i6 b1,U i6 b2,U i6 b3,U i6 b4,U i6 b5,U i6 b6,U i6 b7,U i6 b8,U i6 b9,U i6 b10,U i6 b11,Sl b12 l12 c12,Sl b13 l13 c13,U i6 b14,U i6 b15,U i6 b16,U i6 b17,U i6 b18,U i6 b19,U i6 b20,U i6 b21] ∧
  (Lit.int .i64 b0).wf=true∧(Lit.int .i64 b1).wf=true∧(Lit.int .i64 b2).wf=true∧(Lit.int .i64 b3).wf=true∧(Lit.int .i64 b4).wf=true∧(Lit.int .i64 b5).wf=true∧(Lit.int .i64 b6).wf=true∧(Lit.int .i64 b7).wf=true∧(Lit.int .i64 b8).wf=true∧(Lit.int .i64 b9).wf=true∧(Lit.int .i64 b10).wf=true∧(Lit.int .i64 b11).wf=true ∧
  IRow .i16 w b12 l12 c12 z12∧l12*2≤140737488351232∧IRow .i32 w b13 l13 c13 z13∧l13*4≤140737488351232 ∧
  (Lit.int .i64 b14).wf=true∧(Lit.int .i64 b15).wf=true∧(Lit.int .i64 b16).wf=true∧(Lit.int .i64 b17).wf=true∧(Lit.int .i64 b18).wf=true∧(Lit.int .i64 b19).wf=true∧(Lit.int .i64 b20).wf=true∧(Lit.int .i64 b21).wf=true
def LOp (w:World) (x:Addr) (o:Nat→Int) (z b:List Int):Prop :=
 ∃ (wa:Option Addr) (lw cw:Nat) (ba:Option Addr) (lb cb:Nat),o 12=(lw:Int)∧o 13=(lb:Int)∧(∀ j v,(opl o wa lw cw ba lb cb)[j]? = some v→w.cell? (x.add j)=some v)∧IRow .i16 w wa lw cw z∧IRow .i32 w ba lb cb b∧lw*2≤140737488351232∧lb*4≤140737488351232
def LRow (w:World) (oa:Option Addr) (on oc:Nat) (O:Nat→Nat→Int) (Z B:Nat→List Int):Prop :=
 on≤oc∧oc≤maxLen∧(oa=none→oc=0)∧∀ x,oa=some x→∀ i,i<on→LOp w (x.add (i*22)) (O i) (Z i) (B i)
theorem LRow.m {w:World} {oa:Option Addr} {on oc:Nat} {O:Nat→Nat→Int} {Z B:Nat→List Int} (h:LRow w oa on oc O Z B):MRow w oa on oc O :=
 ⟨h.1,h.2.1,h.2.2.1,fun x hx i hi=>by
  obtain⟨wa,lw,cw,ba,lb,cb,h1,h2,h3,-⟩:=h.2.2.2 x hx i hi
  exact⟨wa,lw,cw,ba,lb,cb,h1,h2,fun j v hj=>by rw [← Addr.add_add];exact h3 j v hj⟩⟩
theorem LOp.below {w w':World} {x:Addr} {o:Nat→Int} {z b:List Int} (h:LOp w x o z b) (g:Below w.heap.size w w'):LOp w' x o z b:=by
 obtain⟨wa,lw,cw,ba,lb,cb,h1,h2,h3,h4,h5,h6⟩:=h
 exact⟨wa,lw,cw,ba,lb,cb,h1,h2,fun j v hj=>(g.cell (World.block_lt_of_cell? w _ (h3 j v hj))).trans (h3 j v hj),h4.below g,h5.below g,h6⟩
theorem LRow.below {w w':World} {oa:Option Addr} {on oc:Nat} {O:Nat→Nat→Int} {Z B:Nat→List Int} (h:LRow w oa on oc O Z B) (g:Below w.heap.size w w'):LRow w' oa on oc O Z B :=
 ⟨h.1,h.2.1,h.2.2.1,fun x hx i hi=>(h.2.2.2 x hx i hi).below g⟩
def oL (b0 b1 b2 b3 b4 b5 b6 b7 b8 b9 b10 b11 b12 b13 b14 b15 b16 b17 b18 b19 b20 b21:Int) (j:Nat):Int:=[b0,b1,b2,b3,b4,b5,b6,b7,b8,b9,b10,b11,b12,b13,b14,b15,b16,b17,b18,b19,b20,b21].getD j 0
theorem lop_of {w:World} {x:Addr} {cs:List Value} (h:OpIn w cs) (hc:∀ j,j<22→w.cell? (x.add j)=cs[j]?):∃ o z b,LOp w x o z b:=by
 obtain⟨b0,b1,b2,b3,b4,b5,b6,b7,b8,b9,b10,b11,b12,l12,c12,z12,b13,l13,c13,z13,b14,b15,b16,b17,b18,b19,b20,b21,rfl,-,-,-,-,-,-,-,-,-,-,-,-,h1,h2,h3,h4,-⟩:=h
 refine⟨oL b0 b1 b2 b3 b4 b5 b6 b7 b8 b9 b10 b11 l12 l13 b14 b15 b16 b17 b18 b19 b20 b21,z12,z13,b12,l12,c12,b13,l13,c13,rfl,rfl,fun j v hj=>?_,h1,h3,h2,h4⟩
 have hj':j<22:=(List.getElem?_eq_some_iff.1 hj).1
 rw [hc j hj',← hj]
 rfl
theorem lrow_of {w:World} {oa:Option Addr} {on oc:Nat} (h:ORow 22 (OpIn w) w oa on oc):∃ O Z B,LRow w oa on oc O Z B:=by
 obtain⟨h1,h2,h3,h4⟩:=h
 cases oa with
 | none=>exact⟨fun _ _=>0,fun _=>[],fun _=>[],h1,h2,h3,fun x hx=>by cases hx⟩
 | some x =>
  have q:∀ i,∃ y:(Nat→Int)×List Int×List Int,i<on→LOp w (x.add (i*22)) y.1 y.2.1 y.2.2:=by
   intro i
   by_cases hi:i<on
   ·obtain⟨cs,-,g1,g2⟩:=h4 x rfl i hi
    obtain⟨o,z,b,g⟩:=lop_of (x:=x.add (i*22)) g1 (fun j hj=>by rw [Addr.add_add];exact g2 j hj)
    exact⟨(o,z,b),fun _=>g⟩
   ·exact⟨(fun _=>0,[],[]),fun h=>absurd h hi⟩
  obtain⟨f,hf⟩:=Classical.skolem.1 q
  exact⟨fun i=>(f i).1,fun i=>(f i).2.1,fun i=>(f i).2.2,h1,h2,h3,fun y hy i hi=>by cases hy;exact hf i hi⟩
def Sit (k kh kw sh sw tp lf bt rt h w c H V C:Int) (lw lb:Nat):Prop :=
 (1≤k∧k≤4)∧vS h w c=true∧vS H V C=true∧(2≤k→ouR h w c kh kw sh sw tp lf bt rt=(H,V,0))∧(k=1→H=1∧V=1)∧(2≤k→(1≤kh∧kh≤32)∧(1≤kw∧kw≤32)) ∧
   (k≤3→(lw:Int)=C*stR k kh kw h w c∧(lb:Int)=C)∧(3≤k→C=c)∧(1≤stR k kh kw h w c∧stR k kh kw h w c≤512)
theorem op_sit {k a b m kh kw sh sw tp lf bt rt:Int} {lw lb:Nat} {sm ss um us z p lo hi wk:Int} {L:List (Int×Int×Int)} (hx:tkE k a b m kh kw sh sw tp lf bt rt lw lb sm ss um us z p lo hi L wk=0) (hk:1≤k∧k≤4) (hv:∀ s∈L,vS3 s=true)
  {h w c H V C:Int} (hA:ShA L a=(h,w,c)) (hB:mk3 k m kh kw sh sw tp lf bt rt (h,w,c)=(H,V,C)):Sit k kh kw sh sw tp lf bt rt h w c H V C lw lb:=by
 obtain⟨t1,-,-,⟨a0,a1⟩,-,t6⟩:=tk_0 hx hv
 have hg:vS h w c=true:=by
  obtain⟨i,rfl⟩:=Int.eq_ofNat_of_zero_le a0
  have:=hv _ (ShA_mem (show i<L.length by omega))
  rw [hA] at this
  exact this
 have h1:opE k a b m kh kw sh sw tp lf bt rt lw lb sm ss um us z p lo hi L=0:=by
  unfold tkE at hx
  by_cases q:opE k a b m kh kw sh sw tp lf bt rt lw lb sm ss um us z p lo hi L≠0
  ·rw [if_pos q] at hx;exact hx
  ·exact Decidable.not_not.1 q
 rw [hA] at t1 t6
 rw [hB] at t1
 have fit:=fit_of (A:=(h,w,c)) t6 (by rw [hB];exact t1)
 rw [hB] at fit
 obtain⟨f1,f2,-⟩:=fit
 have hw:2≤k∧k≤5→(1≤kh∧kh≤32)∧(1≤kw∧kw≤32):=mkE_win t6
 have hst:=stR_bd (k:=k) (kh:=kh) (kw:=kw) (by omega) hg hw
 unfold opE at h1
 rw [hA] at h1
 rw [hB] at h1
 by_cases q1:fmE k a b L.length (ozB k b m kh kw sh sw tp lf bt rt lw lb sm ss um us z p)≠0
 ·rw [if_pos q1] at h1;exact absurd h1 q1
 rw [if_neg q1] at h1
 simp only at h1
 rw [t6,if_neg (by decide),if_neg (by omega)] at h1
 by_cases q2:rdB k=true∧512<st3 k kh kw (h,w,c)
 ·rw [if_pos q2] at h1;cases h1
 rw [if_neg q2] at h1
 have h512:stR k kh kw h w c≤512:=by
  by_cases q:stR k kh kw h w c≤512
  ·exact q
  ·exact absurd ⟨decide_eq_true (by omega),by show 512<stR k kh kw h w c;omega⟩ q2
 unfold nuE at h1
 have hle:leB k C (st3 k kh kw (h,w,c)) lw lb=true:=by
  cases q:leB k C (st3 k kh kw (h,w,c)) lw lb with
  | true=>rfl
  | false=>rw [q,if_pos rfl] at h1;cases h1
 have hle':=of_decide_eq_true hle
 refine⟨hk,hg,f1,fun q=>(f2 (by omega)).1,fun q=>?_,fun q=>hw (by omega),hle',fun q=>(f2 (by omega)).2 (by omega),hst.1,h512⟩
 subst q
 have:mk3 1 m kh kw sh sw tp lf bt rt (h,w,c)=(1,1,m):=by unfold mk3 mkS;rw [if_pos rfl]
 rw [this] at hB
 simp only [Prod.mk.injEq] at hB
 exact⟨hB.1.symm,hB.2.1.symm⟩
theorem sit_of {O:Nat→Nat→Int} {h w c lo hi ot t wk:Int} {on:Nat} {L:List (Int×Int×Int)} (q:gtR O h w c lo hi ot on=(0,t,L,wk)) {i:Nat} (hi0:i<on) (hk:1≤O i 0∧O i 0≤4) :
  ∃ j:Nat,O i 1=(j:Int)∧j≤i∧∀ x y z H V C,ShA L (j:Int)=(x,y,z)→ShA L ((i+1:Nat):Int)=(H,V,C)→Sit (O i 0) (O i 4) (O i 5) (O i 6) (O i 7) (O i 8) (O i 9) (O i 10) (O i 11) x y z H V C (O i 12).toNat (O i 13).toNat:=by
 obtain⟨hx,rfl,q2⟩:=gtR_st q
 clear q
 have q:=q2
 have hv:vS3 (h,w,c)=true:=(ouE_0 hx).1
 obtain⟨wi,g1,-⟩:=stG_pre hv on L wk q (i+1) (by omega)
 obtain⟨L0,wk0,h0,hx0,hL,-⟩:=stG_step g1
 obtain⟨w2,g2,-⟩:=stG_pre hv on L wk q i (by omega)
 rw [g2] at h0
 simp only [Prod.mk.injEq,true_and] at h0
 obtain⟨rfl,rfl⟩:=h0
 obtain⟨i1,i2,-⟩:=stG_inv hv i _ _ g2
 obtain⟨t1,-,-,⟨a0,a1⟩,-,t6⟩:=tk_0 hx0 i2
 obtain⟨j,hj⟩:=Int.eq_ofNat_of_zero_le a0
 rw [hj] at a1
 have e1:ShA (L.take (i+1)) (j:Int)=ShA L (j:Int):=ShA_take (by omega)
 have e2:ShA L ((i+1:Nat):Int)=mk3 (O i 0) (O i 3) (O i 4) (O i 5) (O i 6) (O i 7) (O i 8) (O i 9) (O i 10) (O i 11) (ShA L (j:Int)):=by
  rw [← ShA_take (n:=i+1+1) (by omega),hL]
  unfold ShA at e1 ⊢
  rw [Int.toNat_natCast]
  simp only [List.getD]
  rw [List.getElem?_append_right (by omega),i1,Nat.sub_self]
  unfold oM ShA
  rw [hj,Int.toNat_natCast]
  rw [Int.toNat_natCast] at e1
  simp only [List.getElem?_cons_zero,Option.getD_some]
  rw [e1]
  rfl
 refine⟨j,hj,by omega,fun x y z H V C hA hB=>?_⟩
 exact op_sit hx0 hk i2 (by rw [hj,e1];exact hA) (by rw [← hB,e2,hA])
def cov (C p c:Int):Int:=if p = -1 then -1 else p*C+c
def tpc (h w kw t u q:Int):Int:=plc h w (t+q / kw) (u+q % kw)
def plA (k C ch h w kw t u i:Int):Int:=if k=1 then i else if k=2 then cov C (tpc h w kw t u (i / C)) (i % C) else cov C (tpc h w kw t u i) (ch-1)
def wgA (k ch st:Int) (z:List Int) (i:Int):Int:=if k=4 then 1 else z.getD ((ch-1)*st+i).toNat 0
def biA (k ch:Int) (b:List Int):Int:=if k=4 then 0 else b.getD (ch-1).toNat 0
def tmL (k C ch h w kw t u st:Int) (z:List Int) (n:Nat):List (Int×Int):=(List.range n).map fun (i:Nat)=>(wgA k ch st z i,plA k C ch h w kw t u i)
theorem tmL_len (k C ch h w kw t u st:Int) (z:List Int) (n:Nat):(tmL k C ch h w kw t u st z n).length=n:=by simp [tmL]
theorem tmL_succ (k C ch h w kw t u st:Int) (z:List Int) (n:Nat):tmL k C ch h w kw t u st z (n+1)=tmL k C ch h w kw t u st z n++[(wgA k ch st z n,plA k C ch h w kw t u n)]:=by simp [tmL,List.range_succ]
def siL (k kh kw sh sw tp lf bt rt h w c ch at':Int) (z:List Int):List (Int×Int) :=
 tmL k c ch h w kw (coR h w c kh kw sh sw tp lf bt rt at').1 (coR h w c kh kw sh sw tp lf bt rt at').2.1 (stR k kh kw h w c) z (stR k kh kw h w c).toNat
def fiE (O:Nat→Nat→Int) (h w c lo hi ot:Int) (on:Nat) (op:Int):Int :=
 if (gtR O h w c lo hi ot on).1≠0 then (gtR O h w c lo hi ot on).1 else if ¬ (1≤op∧op≤(on:Int)) then 3 else if rdB (O (op-1).toNat 0)=false then 81 else 0
theorem fiE_err {O:Nat→Nat→Int} {h w c lo hi ot op e:Int} {on:Nat} (g:(gtR O h w c lo hi ot on).1=e) (he:e≠0):fiE O h w c lo hi ot on op=e:=by unfold fiE;rw [g,if_pos he]
theorem fiE_3 {O:Nat→Nat→Int} {h w c lo hi ot op:Int} {on:Nat} (g:(gtR O h w c lo hi ot on).1=0) (ho:¬ (1≤op∧op≤(on:Int))):fiE O h w c lo hi ot on op=3:=by unfold fiE;rw [g,if_neg (by decide),if_pos ho]
theorem fiE_81 {O:Nat→Nat→Int} {h w c lo hi ot:Int} {on i:Nat} (g:(gtR O h w c lo hi ot on).1=0) (ho:i<on) (hk:rdB (O i 0)=false):fiE O h w c lo hi ot on ((i:Int)+1)=81:=by
 unfold fiE;rw [g,if_neg (by decide),if_neg (by omega),show ((i:Int)+1-1).toNat=i by omega,hk,if_pos rfl]
theorem fiE_0 {O:Nat→Nat→Int} {h w c lo hi ot:Int} {on i:Nat} (g:(gtR O h w c lo hi ot on).1=0) (ho:i<on) (hk:rdB (O i 0)=true):fiE O h w c lo hi ot on ((i:Int)+1)=0:=by
 unfold fiE;rw [g,if_neg (by decide),if_neg (by omega),show ((i:Int)+1-1).toNat=i by omega,hk,if_neg (by decide)]
theorem Sit.win {k kh kw sh sw tp lf bt rt h w c H V C:Int} {lw lb:Nat} (s:Sit k kh kw sh sw tp lf bt rt h w c H V C lw lb) (q:k≠1):(1≤kh∧kh≤32)∧(1≤kw∧kw≤32):=s.2.2.2.2.2.1 (by have:=s.1;omega)
theorem tlen_1 (a b m kh kw sh sw tp lf bt rt:Int) (wa:Option Addr) (lw wc:Nat) (ba:Option Addr) (lb bc:Nat) (sm ss um us z p lo hi h w c H V C:Int) (r:Nat) (W:World) (hr:W.heap[r]? = some (.cells #[U i6 1,U i6 a,U i6 b,U i6 m,U i6 kh,U i6 kw,U i6 sh,U i6 sw,U i6 tp,U i6 lf,U i6 bt,U i6 rt,Sl wa lw wc,Sl ba lb bc,U i6 sm,U i6 ss,U i6 um,U i6 us,U i6 z,U i6 p,U i6 lo,U i6 hi,U i6 h,U i6 w,U i6 c,U i6 H,U i6 V,U i6 C] 102 (0,0))) (g:vS h w c=true) (hw:(1:Int)≠1→(1≤kh∧kh≤32)∧(1≤kw∧kw≤32)) :
  Calls Tryz.prog 68 #[.pointer (some ⟨r,0,none⟩)] W fun e w'=>e=.returned (U i6 (stR 1 kh kw h w c))∧∃ n,w'=W.drewN n:=by
 have p3:(1≤h*w∧h*w≤1048576)∧(1≤h*w*c∧h*w*c≤16384):=vS_bd g
 have c1:=(vS_yes g).2.2.1
 have hp:(1:Int)≠1→(1≤kh*kw∧kh*kw≤1024)∧(1≤kh*kw*c∧kh*kw*c≤1048576):=fun q=>by
  obtain⟨hw1,hw2⟩:=hw q
  obtain⟨p1,p2⟩:=mul_bd hw1.1 hw1.2 hw2.1 hw2.2
  obtain⟨q1,q2⟩:=mul_bd p1 p2 c1.1 c1.2
  exact⟨⟨p1,by omega⟩,q1,by omega⟩
 rw [show stR 1 kh kw h w c=(if (1:Int)=1 then h*w*c else if (1:Int)=2 then kh*kw*c else kh*kw) from rfl]
 simp at hp ⊢
 obtain⟨p',ep⟩:∃ p',h*w=p':=⟨_,rfl⟩
 obtain⟨q',eq⟩:∃ q',kh*kw=q':=⟨_,rfl⟩
 rw [ep] at p3
 try rw [eq] at hp
 try rw [ep]
 try rw [eq]
 obtain⟨y1,y2,y3⟩:=cells_at hr
 clear g hw c1 hr
 go_enter Tryz.func68,Tryz.ntmps68
 go_wp2
 go_quiet (fail)
 go_wp2
 go_ret
 exact⟨rfl,_,rfl⟩
theorem tlen_2 (a b m kh kw sh sw tp lf bt rt:Int) (wa:Option Addr) (lw wc:Nat) (ba:Option Addr) (lb bc:Nat) (sm ss um us z p lo hi h w c H V C:Int) (r:Nat) (W:World) (hr:W.heap[r]? = some (.cells #[U i6 2,U i6 a,U i6 b,U i6 m,U i6 kh,U i6 kw,U i6 sh,U i6 sw,U i6 tp,U i6 lf,U i6 bt,U i6 rt,Sl wa lw wc,Sl ba lb bc,U i6 sm,U i6 ss,U i6 um,U i6 us,U i6 z,U i6 p,U i6 lo,U i6 hi,U i6 h,U i6 w,U i6 c,U i6 H,U i6 V,U i6 C] 102 (0,0))) (g:vS h w c=true) (hw:(2:Int)≠1→(1≤kh∧kh≤32)∧(1≤kw∧kw≤32)) :
  Calls Tryz.prog 68 #[.pointer (some ⟨r,0,none⟩)] W fun e w'=>e=.returned (U i6 (stR 2 kh kw h w c))∧∃ n,w'=W.drewN n:=by
 have p3:(1≤h*w∧h*w≤1048576)∧(1≤h*w*c∧h*w*c≤16384):=vS_bd g
 have c1:=(vS_yes g).2.2.1
 have hp:(2:Int)≠1→(1≤kh*kw∧kh*kw≤1024)∧(1≤kh*kw*c∧kh*kw*c≤1048576):=fun q=>by
  obtain⟨hw1,hw2⟩:=hw q
  obtain⟨p1,p2⟩:=mul_bd hw1.1 hw1.2 hw2.1 hw2.2
  obtain⟨q1,q2⟩:=mul_bd p1 p2 c1.1 c1.2
  exact⟨⟨p1,by omega⟩,q1,by omega⟩
 rw [show stR 2 kh kw h w c=(if (2:Int)=1 then h*w*c else if (2:Int)=2 then kh*kw*c else kh*kw) from rfl]
 simp at hp ⊢
 obtain⟨p',ep⟩:∃ p',h*w=p':=⟨_,rfl⟩
 obtain⟨q',eq⟩:∃ q',kh*kw=q':=⟨_,rfl⟩
 rw [ep] at p3
 try rw [eq] at hp
 try rw [ep]
 try rw [eq]
 obtain⟨y1,y2,y3⟩:=cells_at hr
 clear g hw c1 hr
 go_enter Tryz.func68,Tryz.ntmps68
 go_wp2
 go_quiet (fail)
 go_wp2
 go_ret
 exact⟨rfl,_,rfl⟩
theorem tlen_3 (a b m kh kw sh sw tp lf bt rt:Int) (wa:Option Addr) (lw wc:Nat) (ba:Option Addr) (lb bc:Nat) (sm ss um us z p lo hi h w c H V C:Int) (r:Nat) (W:World) (hr:W.heap[r]? = some (.cells #[U i6 3,U i6 a,U i6 b,U i6 m,U i6 kh,U i6 kw,U i6 sh,U i6 sw,U i6 tp,U i6 lf,U i6 bt,U i6 rt,Sl wa lw wc,Sl ba lb bc,U i6 sm,U i6 ss,U i6 um,U i6 us,U i6 z,U i6 p,U i6 lo,U i6 hi,U i6 h,U i6 w,U i6 c,U i6 H,U i6 V,U i6 C] 102 (0,0))) (g:vS h w c=true) (hw:(3:Int)≠1→(1≤kh∧kh≤32)∧(1≤kw∧kw≤32)) :
  Calls Tryz.prog 68 #[.pointer (some ⟨r,0,none⟩)] W fun e w'=>e=.returned (U i6 (stR 3 kh kw h w c))∧∃ n,w'=W.drewN n:=by
 have p3:(1≤h*w∧h*w≤1048576)∧(1≤h*w*c∧h*w*c≤16384):=vS_bd g
 have c1:=(vS_yes g).2.2.1
 have hp:(3:Int)≠1→(1≤kh*kw∧kh*kw≤1024)∧(1≤kh*kw*c∧kh*kw*c≤1048576):=fun q=>by
  obtain⟨hw1,hw2⟩:=hw q
  obtain⟨p1,p2⟩:=mul_bd hw1.1 hw1.2 hw2.1 hw2.2
  obtain⟨q1,q2⟩:=mul_bd p1 p2 c1.1 c1.2
  exact⟨⟨p1,by omega⟩,q1,by omega⟩
 rw [show stR 3 kh kw h w c=(if (3:Int)=1 then h*w*c else if (3:Int)=2 then kh*kw*c else kh*kw) from rfl]
 simp at hp ⊢
 obtain⟨p',ep⟩:∃ p',h*w=p':=⟨_,rfl⟩
 obtain⟨q',eq⟩:∃ q',kh*kw=q':=⟨_,rfl⟩
 rw [ep] at p3
 try rw [eq] at hp
 try rw [ep]
 try rw [eq]
 obtain⟨y1,y2,y3⟩:=cells_at hr
 clear g hw c1 hr
 go_enter Tryz.func68,Tryz.ntmps68
 go_wp2
 go_quiet (fail)
 go_wp2
 go_ret
 exact⟨rfl,_,rfl⟩
theorem tlen_4 (a b m kh kw sh sw tp lf bt rt:Int) (wa:Option Addr) (lw wc:Nat) (ba:Option Addr) (lb bc:Nat) (sm ss um us z p lo hi h w c H V C:Int) (r:Nat) (W:World) (hr:W.heap[r]? = some (.cells #[U i6 4,U i6 a,U i6 b,U i6 m,U i6 kh,U i6 kw,U i6 sh,U i6 sw,U i6 tp,U i6 lf,U i6 bt,U i6 rt,Sl wa lw wc,Sl ba lb bc,U i6 sm,U i6 ss,U i6 um,U i6 us,U i6 z,U i6 p,U i6 lo,U i6 hi,U i6 h,U i6 w,U i6 c,U i6 H,U i6 V,U i6 C] 102 (0,0))) (g:vS h w c=true) (hw:(4:Int)≠1→(1≤kh∧kh≤32)∧(1≤kw∧kw≤32)) :
  Calls Tryz.prog 68 #[.pointer (some ⟨r,0,none⟩)] W fun e w'=>e=.returned (U i6 (stR 4 kh kw h w c))∧∃ n,w'=W.drewN n:=by
 have p3:(1≤h*w∧h*w≤1048576)∧(1≤h*w*c∧h*w*c≤16384):=vS_bd g
 have c1:=(vS_yes g).2.2.1
 have hp:(4:Int)≠1→(1≤kh*kw∧kh*kw≤1024)∧(1≤kh*kw*c∧kh*kw*c≤1048576):=fun q=>by
  obtain⟨hw1,hw2⟩:=hw q
  obtain⟨p1,p2⟩:=mul_bd hw1.1 hw1.2 hw2.1 hw2.2
  obtain⟨q1,q2⟩:=mul_bd p1 p2 c1.1 c1.2
  exact⟨⟨p1,by omega⟩,q1,by omega⟩
 rw [show stR 4 kh kw h w c=(if (4:Int)=1 then h*w*c else if (4:Int)=2 then kh*kw*c else kh*kw) from rfl]
 simp at hp ⊢
 obtain⟨p',ep⟩:∃ p',h*w=p':=⟨_,rfl⟩
 obtain⟨q',eq⟩:∃ q',kh*kw=q':=⟨_,rfl⟩
 rw [ep] at p3
 try rw [eq] at hp
 try rw [ep]
 try rw [eq]
 obtain⟨y1,y2,y3⟩:=cells_at hr
 clear g hw c1 hr
 go_enter Tryz.func68,Tryz.ntmps68
 go_wp2
 go_quiet (fail)
 go_wp2
 go_ret
 exact⟨rfl,_,rfl⟩
theorem tlen_any (k a b m kh kw sh sw tp lf bt rt:Int) (wa:Option Addr) (lw wc:Nat) (ba:Option Addr) (lb bc:Nat) (sm ss um us z p lo hi h w c H V C:Int) (r:Nat) (W:World) (hr:W.heap[r]? = some (.cells #[U i6 k,U i6 a,U i6 b,U i6 m,U i6 kh,U i6 kw,U i6 sh,U i6 sw,U i6 tp,U i6 lf,U i6 bt,U i6 rt,Sl wa lw wc,Sl ba lb bc,U i6 sm,U i6 ss,U i6 um,U i6 us,U i6 z,U i6 p,U i6 lo,U i6 hi,U i6 h,U i6 w,U i6 c,U i6 H,U i6 V,U i6 C] 102 (0,0))) (s:Sit k kh kw sh sw tp lf bt rt h w c H V C lw lb) :
  Calls Tryz.prog 68 #[.pointer (some ⟨r,0,none⟩)] W fun e w'=>e=.returned (U i6 (stR k kh kw h w c))∧∃ n,w'=W.drewN n:=by
 have hk:=s.1
 have g:=s.2.1
 have hw:=s.win
 rcases (show k=1∨k=2∨k=3∨k=4 by omega) with rfl | rfl | rfl | rfl
 ·exact tlen_1 a b m kh kw sh sw tp lf bt rt wa lw wc ba lb bc sm ss um us z p lo hi h w c H V C r W hr g hw
 ·exact tlen_2 a b m kh kw sh sw tp lf bt rt wa lw wc ba lb bc sm ss um us z p lo hi h w c H V C r W hr g hw
 ·exact tlen_3 a b m kh kw sh sw tp lf bt rt wa lw wc ba lb bc sm ss um us z p lo hi h w c H V C r W hr g hw
 ·exact tlen_4 a b m kh kw sh sw tp lf bt rt wa lw wc ba lb bc sm ss um us z p lo hi h w c H V C r W hr g hw
theorem tchan_any (k a b m kh kw sh sw tp lf bt rt:Int) (wa:Option Addr) (lw wc:Nat) (ba:Option Addr) (lb bc:Nat) (sm ss um us z p lo hi h w c H V C:Int) (r:Nat) (W:World) (hr:W.heap[r]? = some (.cells #[U i6 k,U i6 a,U i6 b,U i6 m,U i6 kh,U i6 kw,U i6 sh,U i6 sw,U i6 tp,U i6 lf,U i6 bt,U i6 rt,Sl wa lw wc,Sl ba lb bc,U i6 sm,U i6 ss,U i6 um,U i6 us,U i6 z,U i6 p,U i6 lo,U i6 hi,U i6 h,U i6 w,U i6 c,U i6 H,U i6 V,U i6 C] 102 (0,0))) :
  Calls Tryz.prog 50 #[.pointer (some ⟨r,0,none⟩)] W fun e w'=>e=.returned (U i6 C)∧w'=W:=by
 obtain⟨y1,y2,y3⟩:=cells_at hr
 clear hr
 go_enter Tryz.func50,Tryz.ntmps50
 go_wp2
 go_ret
 exact⟨rfl,rfl⟩
theorem tpos_any (k a b m kh kw sh sw tp lf bt rt:Int) (wa:Option Addr) (lw wc:Nat) (ba:Option Addr) (lb bc:Nat) (sm ss um us z p lo hi h w c H V C:Int) (r:Nat) (W:World) (hr:W.heap[r]? = some (.cells #[U i6 k,U i6 a,U i6 b,U i6 m,U i6 kh,U i6 kw,U i6 sh,U i6 sw,U i6 tp,U i6 lf,U i6 bt,U i6 rt,Sl wa lw wc,Sl ba lb bc,U i6 sm,U i6 ss,U i6 um,U i6 us,U i6 z,U i6 p,U i6 lo,U i6 hi,U i6 h,U i6 w,U i6 c,U i6 H,U i6 V,U i6 C] 102 (0,0))) (g:vS H V C=true) :
  Calls Tryz.prog 51 #[.pointer (some ⟨r,0,none⟩)] W fun e w'=>e=.returned (U i6 (H*V))∧∃ n,w'=W.drewN n:=by
 obtain⟨y1,y2,y3⟩:=cells_at hr
 have p3:=vS_bd g
 clear hr g
 go_enter Tryz.func51,Tryz.ntmps51
 go_wp2
 go_quiet (fail)
 go_wp2
 go_ret
 exact⟨rfl,_,rfl⟩
theorem tbias_any (k a b m kh kw sh sw tp lf bt rt:Int) (wa:Option Addr) (lw wc:Nat) (ba:Option Addr) (lb bc:Nat) (sm ss um us z p lo hi h w c H V C:Int) (r:Nat) (W:World) (hr:W.heap[r]? = some (.cells #[U i6 k,U i6 a,U i6 b,U i6 m,U i6 kh,U i6 kw,U i6 sh,U i6 sw,U i6 tp,U i6 lf,U i6 bt,U i6 rt,Sl wa lw wc,Sl ba lb bc,U i6 sm,U i6 ss,U i6 um,U i6 us,U i6 z,U i6 p,U i6 lo,U i6 hi,U i6 h,U i6 w,U i6 c,U i6 H,U i6 V,U i6 C] 102 (0,0))) (bs:List Int) (hB:IRow .i32 W ba lb bc bs) (s:Sit k kh kw sh sw tp lf bt rt h w c H V C lw lb) (ch:Int) (hc:1≤ch∧ch≤C) :
  Calls Tryz.prog 53 #[.pointer (some ⟨r,0,none⟩),U i6 ch] W fun e w'=>e=.returned (U i6 (biA k ch bs))∧w'=W:=by
 obtain⟨y1,y2,y3⟩:=cells_at hr
 obtain⟨hk,-,hv,-,-,-,hl,-⟩:=s
 have hC:=(vS_yes hv).2.2.1
 clear hr
 by_cases k4:k=4
 ·subst k4
  rw [show biA 4 ch bs=0 from if_pos rfl]
  go_enter Tryz.func53,Tryz.ntmps53
  go_wp2
  go_ret
  exact⟨rfl,rfl⟩
 ·rw [show biA k ch bs=bs.getD (ch-1).toNat 0 from if_neg k4]
  have hl2:=(hl (by omega)).2
  obtain⟨n,rfl⟩:∃ n:Nat,ch=(n:Int)+1:=⟨(ch-1).toNat,by omega⟩
  have hm:=hB.2.2.1
  have hcc:=hB.2.1
  unfold maxLen at hm
  obtain⟨x,u,rfl,hu,hwf,hz,-⟩:=hB.at (show n<lb by omega)
  obtain⟨u1,u2⟩:=wf_i32 hwf
  have e:bs.getD ((n:Int)+1-1).toNat 0=u:=by rw [show ((n:Int)+1-1).toNat=n by omega,List.getD_eq_getElem?_getD,hz];rfl
  rw [e]
  have k4':(k == 4)=false:=by simp [k4]
  clear e hz hwf hB hl
  go_enter Tryz.func53,Tryz.ntmps53
  go_wp2
  go_ret
  exact⟨rfl,rfl⟩
theorem twei_any (k a b m kh kw sh sw tp lf bt rt:Int) (wa:Option Addr) (lw wc:Nat) (ba:Option Addr) (lb bc:Nat) (sm ss um us z p lo hi h w c H V C:Int) (r:Nat) (W:World) (hr:W.heap[r]? = some (.cells #[U i6 k,U i6 a,U i6 b,U i6 m,U i6 kh,U i6 kw,U i6 sh,U i6 sw,U i6 tp,U i6 lf,U i6 bt,U i6 rt,Sl wa lw wc,Sl ba lb bc,U i6 sm,U i6 ss,U i6 um,U i6 us,U i6 z,U i6 p,U i6 lo,U i6 hi,U i6 h,U i6 w,U i6 c,U i6 H,U i6 V,U i6 C] 102 (0,0))) (zs:List Int) (hZ:IRow .i16 W wa lw wc zs) (s:Sit k kh kw sh sw tp lf bt rt h w c H V C lw lb) (ch:Int) (hc:1≤ch∧ch≤C) (i:Nat) (hi0:(i:Int)<stR k kh kw h w c) :
  Calls Tryz.prog 69 #[.pointer (some ⟨r,0,none⟩),U i6 ch,U i6 i] W fun e w'=>e=.returned (U i6 (wgA k ch (stR k kh kw h w c) zs i))∧∃ n,w'=W.drewN n:=by
 have hL:Hid (∀ n,Calls Tryz.prog 68 #[.pointer (some ⟨r,0,none⟩)] (W.drewN n) fun e w'=>e=.returned (U i6 (stR k kh kw h w c))∧∃ m,w'=(W.drewN n).drewN m):=fun n=>tlen_any k a b m kh kw sh sw tp lf bt rt wa lw wc ba lb bc sm ss um us z p lo hi h w c H V C r (W.drewN n) hr s
 obtain⟨y1,y2,y3⟩:=cells_at hr
 obtain⟨hk,-,hv,-,-,-,hl,-,hst0,hst1⟩:=s
 have hC:=(vS_yes hv).2.2.1
 obtain⟨st,hst⟩:∃ st,stR k kh kw h w c=st:=⟨_,rfl⟩
 rw [hst] at hL hl hst0 hst1 hi0 ⊢
 clear hr hst hv
 by_cases k4:k=4
 ·subst k4
  rw [show wgA 4 ch st zs i=1 from if_pos rfl]
  go_enter Tryz.func69,Tryz.ntmps69
  go_wp2
  go_ret
  exact⟨rfl,0,rfl⟩
 ·rw [show wgA k ch st zs i=zs.getD ((ch-1)*st+i).toNat 0 from if_neg k4]
  have hl2:=(hl (by omega)).1
  obtain⟨d,rfl⟩:∃ d:Nat,ch=(d:Int)+1:=⟨(ch-1).toNat,by omega⟩
  have hm:=hZ.2.2.1
  have hcc:=hZ.2.1
  unfold maxLen at hm
  have p1:0≤(d:Int)*st:=Int.mul_nonneg (by omega) (by omega)
  have p2:(d:Int)*st+st≤C*st:=by
   have:=Int.mul_le_mul_of_nonneg_right (show (d:Int)+1≤C by omega) (show 0≤st by omega)
   rwa [Int.add_mul,Int.one_mul] at this
  obtain⟨p',ep⟩:∃ p',(d:Int)*st=p':=⟨_,rfl⟩
  rw [show (d:Int)+1-1=d by omega,ep]
  rw [ep] at p1 p2
  rw [← hl2] at p2
  obtain⟨N,eN⟩:∃ N:Nat,p'+(i:Int)=(N:Int):=⟨(p'+i).toNat,by omega⟩
  rw [eN]
  have hN:N<lw:=by omega
  obtain⟨x,u,rfl,hu,hwf,hz,-⟩:=hZ.at hN
  obtain⟨u1,u2⟩:=wf_i16 hwf
  have e:zs.getD ((N:Int)).toNat 0=u:=by rw [Int.toNat_natCast,List.getD_eq_getElem?_getD,hz];rfl
  rw [e]
  have k4':(k == 4)=false:=by simp [k4]
  have hd1:(d:Int)+1≤1024:=by omega
  have hi2:(i:Int)≤512:=by omega
  clear e hz hwf hZ hl hl2 hC hc
  go_enter Tryz.func69,Tryz.ntmps69
  go_wp2
  go_quiet ((go_at_call 68;exact Calls.quiet_of (hL.out _)))
  go_wp2
  go_ret
  exact⟨rfl,_,rfl⟩
def chF (k ch:Int):Int:=if k=2 then 0 else ch-1
def chB (k c ch:Int):Int:=if k=2 then c else ch
theorem tread_any (k a b m kh kw sh sw tp lf bt rt:Int) (wa:Option Addr) (lw wc:Nat) (ba:Option Addr) (lb bc:Nat) (sm ss um us z p lo hi h w c H V C:Int) (r:Nat) (W:World) (hr:W.heap[r]? = some (.cells #[U i6 k,U i6 a,U i6 b,U i6 m,U i6 kh,U i6 kw,U i6 sh,U i6 sw,U i6 tp,U i6 lf,U i6 bt,U i6 rt,Sl wa lw wc,Sl ba lb bc,U i6 sm,U i6 ss,U i6 um,U i6 us,U i6 z,U i6 p,U i6 lo,U i6 hi,U i6 h,U i6 w,U i6 c,U i6 H,U i6 V,U i6 C] 102 (0,0))) (ch:Int) (hc:1≤ch∧ch≤1024) :
  Calls Tryz.prog 70 #[.pointer (some ⟨r,0,none⟩),U i6 ch] W fun e w'=>e=.returned (.tuple #[U i6 (chF k ch),U i6 (chB k c ch)])∧∃ n,w'=W.drewN n:=by
 obtain⟨y1,y2,y3⟩:=cells_at hr
 clear hr
 by_cases k2:k=2
 ·subst k2
  rw [show chF 2 ch=0 from if_pos rfl,show chB 2 c ch=c from if_pos rfl]
  go_enter Tryz.func70,Tryz.ntmps70
  go_wp2
  go_quiet (fail)
  go_wp2
  go_ret2
  exact⟨rfl,_,rfl⟩
 ·rw [show chF k ch=ch-1 from if_neg k2,show chB k c ch=ch from if_neg k2]
  have k2':(k == 2)=false:=by simp [k2]
  go_enter Tryz.func70,Tryz.ntmps70
  go_wp2
  go_ret2
  exact⟨rfl,0,rfl⟩
open Go.ChangeShapes Go.WideShapes Go.ChangeAt Go.RowKit Go.Shelf
def plL (k C ch h w kw t u:Int) (n:Nat):List Int:=(List.range n).map fun (i:Nat)=>plA k C ch h w kw t u i
theorem plL_len (k C ch h w kw t u:Int) (n:Nat):(plL k C ch h w kw t u n).length=n:=by simp [plL]
theorem plL_succ (k C ch h w kw t u:Int) (n:Nat):plL k C ch h w kw t u (n+1)=plL k C ch h w kw t u n++[plA k C ch h w kw t u n]:=by simp [plL,List.range_succ]
theorem boxed_below {w w':World} {B:Nat} {t:TypeId} {v:Value} (h:Boxed w B t v) (k:Below w.heap.size w w'):Boxed w' B t v:=(k.block B h.lt).trans h
theorem lA {n:Nat} {ops:Array Oper} {md:Region.Mode} {C:Array Bool→World→Prop} {Q:Exit→Act→World→Prop} {fuel:Nat} {listed:Array Bool} {a:Act} {w:World} {o:Oper} (i:Nat) (hC:C listed w) (hr:Region.ready md ops listed=[i]) (ho:ops[i]? = some o) (hg:o.guard=none)
  (s x:Operand) (hop:o.op=.call { callee:=.builtin .append,args:=#[s,x],argTypes:=#[53,53] })
  (base:Nat) (v:Value) (L:List (Int×Int)) (hs:a.eval s=v) (hown:OTm w base v L) (g:Nat) (p q:Int) (hx:a.eval x=.slice (some ⟨g,0,none⟩) 1 1) (hy:∀ j u,(p2 [(p,q)])[j]? = some u→w.cell? ⟨g,j,none⟩=some u) (hlen:L.length+1≤10000000) (hbase:base≤w.heap.size)
  (h:∀ v' w',OTm w' base v' (L++[(p,q)])→w.grownBy w' v.ownBlock→(v'.ownBlock=v.ownBlock∨v'.ownBlock=some w.heap.size)→wpAnyL Fence.wide n Tryz.prog md ops C Q fuel (listed.setIfInBounds i true) (a.put o.dst v') w'):wpAnyL Fence.wide n Tryz.prog md ops C Q (fuel+1) listed a w:=by
 obtain⟨i0,hi,hz0,hz1,hz2⟩:=info_parts Tryz.infoT
 obtain⟨v',w',hrun,r1,r2,-,r4⟩:=run_append_own_at (P:=Tryz.prog) w base 53 o.type 92 i0 (.agg #[U i6 0,U i6 0]) 2 16 Tryz.underlying53 hi hz0 hz1 hz2 rfl (by decide) v L.length _ hown ⟨g,0,none⟩ 1 1 (p2 [(p,q)]) rfl (fun j u hj=>by rw [Addr.add_lit,Nat.zero_add];exact hy j u hj) (p2_one _) (by unfold maxLen;omega) (by omega) hbase
 refine lR i hC hr ho hg v' w' ?_ (h v' w' (by unfold OTm;rw [List.length_append,p2_app];exact r1) r2 r4)
 simp [execOp,hop,resolve,invoke,builtin,hs,hx,hrun,Result.andThen]
theorem app_box {base Bx n0:Nat} {L M:List (Int×Int)} {W1 w1:World} {v v':Value} {tmp:Obj} (a1:Boxed W1 Bx 53 v) (a2:OTm W1 base v L) (hn:n0≤base∧n0≤Bx∧n0≤W1.heap.size) (own':OTm w1 base v' M) (gr:(W1.alloc tmp).grownBy w1 v.ownBlock) :
  Boxed w1 Bx 53 v∧Boxed (w1.setCell ⟨Bx,0,none⟩ v') Bx 53 v'∧OTm (w1.setCell ⟨Bx,0,none⟩ v') base v' M∧(∀ b t u,Boxed W1 b t u→b≠Bx→t≠92→Boxed (w1.setCell ⟨Bx,0,none⟩ v') b t u)∧Below n0 W1 (w1.setCell ⟨Bx,0,none⟩ v')∧KeepsOthers W1 (w1.setCell ⟨Bx,0,none⟩ v'):=by
 have hrow:∀ b,v.ownBlock=some b→base≤b:=fun b e=>a2.lt b e
 have hv1:Boxed w1 Bx 53 v:=(a1.alloc tmp).kept gr (a1.not_row (by decide) a2)
 refine⟨hv1,hv1.set v',World.ownsRow.kept own' (grownBy_setCell' w1 Bx v') (.inr (hv1.not_row (by decide) own').symm),fun b t u hb h1 h2=>?_,?_,?_⟩
 ·exact ((hb.alloc tmp).kept gr (hb.not_row h2 a2)).other h1 v'
 ·exact (((Below.refl n0 W1).alloc hn.2.2 tmp).grown gr (by simp;omega) fun j ej=>(by have:=hrow j ej;omega)).setCell (p:=⟨Bx,0,none⟩) hn.2.1 _
 ·refine ((KeepsOthers.alloc W1 tmp).trans (KeepsOthers.of_grownBy gr fun j o ej hj=>?_)).trans (KeepsOthers.setCell _ _ _)
  have a2':OTm (W1.alloc tmp) base v L:=a2.below (bal _ _)
  rcases a2'.2 with ⟨rfl,_⟩ | ⟨g,cap,cur,rfl,_,hgb,_⟩
  ·simp [Value.ownBlock] at ej
  ·obtain rfl:g=j:=by simpa [Value.ownBlock] using ej
   rw [hgb] at hj;cases hj;rfl
theorem terms_1 (a b m kh kw sh sw tp lf bt rt:Int) (wa:Option Addr) (lw wc:Nat) (ba:Option Addr) (lb bc:Nat) (sm ss um us z p lo hi h w c H V C:Int) (r:Nat) (W:World) (hr:W.heap[r]? = some (.cells #[U i6 1,U i6 a,U i6 b,U i6 m,U i6 kh,U i6 kw,U i6 sh,U i6 sw,U i6 tp,U i6 lf,U i6 bt,U i6 rt,Sl wa lw wc,Sl ba lb bc,U i6 sm,U i6 ss,U i6 um,U i6 us,U i6 z,U i6 p,U i6 lo,U i6 hi,U i6 h,U i6 w,U i6 c,U i6 H,U i6 V,U i6 C] 102 (0,0))) (zs:List Int) (hZ:IRow .i16 W wa lw wc zs) (s:Sit 1 kh kw sh sw tp lf bt rt h w c H V C lw lb) (ch at' t u:Int) (hch:1≤ch∧ch≤C) (st:Nat) (hst:stR 1 kh kw h w c=(st:Int)) :
  Calls Tryz.prog 52 #[.pointer (some ⟨r,0,none⟩),U i6 ch,U i6 at'] W fun e w'=>(∃ v,e=.returned v∧OTm w' W.heap.size v (tmL 1 c ch h w kw t u st zs st))∧Below W.heap.size W w':=by
 obtain⟨i0,hi0,hz0,hz1,hz2⟩:=info_parts Tryz.infoT
 have hL:Hid (∀ w',Below W.heap.size W w'→Calls Tryz.prog 68 #[.pointer (some ⟨r,0,none⟩)] w' fun e w''=>e=.returned (U i6 st)∧∃ m,w''=w'.drewN m):=fun w' hb=>by rw [← hst];exact tlen_any 1 a b m kh kw sh sw tp lf bt rt wa lw wc ba lb bc sm ss um us z p lo hi h w c H V C r w' ((hb.block r (lt_of_heap hr)).trans hr) s
 have hlen:st≤512:=by have:=s.2.2.2.2.2.2.2.2.2;rw [hst] at this;omega
 have hrc:Hid (∀ w',Below W.heap.size W w'→∀ i,w'.cell? ⟨r,i,none⟩=(#[U i6 1,U i6 a,U i6 b,U i6 m,U i6 kh,U i6 kw,U i6 sh,U i6 sw,U i6 tp,U i6 lf,U i6 bt,U i6 rt,Sl wa lw wc,Sl ba lb bc,U i6 sm,U i6 ss,U i6 um,U i6 us,U i6 z,U i6 p,U i6 lo,U i6 hi,U i6 h,U i6 w,U i6 c,U i6 H,U i6 V,U i6 C]:Array Value)[i]?):=fun w' hb=>(cells_at ((hb.block r (lt_of_heap hr)).trans hr)).1
 have hrz:r<W.heap.size:=lt_of_heap hr
 have hWg:Hid (∀ (w':World) (i:Nat),i<st→Below W.heap.size W w'→Calls Tryz.prog 69 #[.pointer (some ⟨r,0,none⟩),U i6 ch,U i6 i] w' fun e w''=>e=.returned (U i6 (wgA 1 ch st zs i))∧∃ n,w''=w'.drewN n):=fun w' i hj hb=>by
  have:=twei_any 1 a b m kh kw sh sw tp lf bt rt wa lw wc ba lb bc sm ss um us z p lo hi h w c H V C r w' ((hb.block r hrz).trans hr) zs (hZ.below hb) s ch hch i (by rw [hst];omega)
  rw [hst] at this
  exact this
 have hmx:Tryz.prog.follows .mixedOrders=true:=by kernel_rfl
 clear hst s hZ
 have s0:=((St.start W).new (c:=#[.pointer (some ⟨r,0,none⟩)]) (t:=119)).new (c:=#[U i6 ch]) (t:=3)
 refine (callsIn_wide (n:=3)).1 ?_
 refine callsIn_of_wp_marks Tryz.func52 rfl trivial ?_ rfl
 simp only [Tryz.ntmps52,List.size_toArray,List.length_cons,List.length_nil,Nat.reduceAdd,Nat.reduceSub,Array.replicate_succ,Array.replicate_zero,List.push_toArray,List.append_toArray,List.nil_append,List.cons_append]
 refine wpIn_wide.2 ?_
 go_wp2_with fail
 refine (hL.out _ s0.below).mono ?_
 rintro e w1 ⟨rfl,m,rfl⟩
 have s1:=s0.call (dbel _ m)
 obtain⟨w1,hw1⟩:∃ w1,((W.alloc (.cells #[.pointer (some ⟨r,0,none⟩)] 119)).alloc (.cells #[U i6 ch] 3)).drewN m=w1:=⟨_,rfl⟩
 rw [hw1] at s1 ⊢
 have hz:W.heap.size+1+1=w1.heap.size:=by rw [← hw1];simp
 clear hw1
 simp only [World.size_alloc] at s1
 obtain⟨c1,f1,z1,c2,f2,z2,-⟩:=s1.rules
 go_wp2_with (at_make;refine wpList_make_own _ rfl _ _ 53 rfl w1.heap.size 92 i0 (.agg #[U i6 0,U i6 0]) 2 Tryz.underlying53 hi0 hz0 hz1 .i64 .i64 _ st rfl rfl rfl (by rw [hz2];omega) (by unfold maxLen;omega) (by omega) ?_;intro w2 own2 gr2;have s2:=s1.call ((Below.refl w1.heap.size w1).grown gr2 (Nat.le_refl _) (fun b hb=>by cases hb));obtain⟨c1',f1',z1',c2',f2',z2',-⟩:=s2.rules;have hq:=hrc.out _ s2.below;have zr:=Nat.lt_of_lt_of_le hrz s2.below.size)
 refine (hL.out _ (s2.skip _).below).mono ?_
 rintro e w3 ⟨rfl,m',rfl⟩
 have b3:Boxed (w2.alloc (.cells #[Sl (some ⟨w1.heap.size,0,none⟩) 0 st] 53)) w2.heap.size 53 (.slice (some ⟨w1.heap.size,0,none⟩) 0 st):=heap_alloc_new w2 _
 have o3:OTm (w2.alloc (.cells #[Sl (some ⟨w1.heap.size,0,none⟩) 0 st] 53)) w1.heap.size (.slice (some ⟨w1.heap.size,0,none⟩) 0 st) []:=OTm.below (show OTm w2 w1.heap.size (.slice (some ⟨w1.heap.size,0,none⟩) 0 st) [] from own2) (bal _ _)
 have p3:Boxed (w2.alloc (.cells #[Sl (some ⟨w1.heap.size,0,none⟩) 0 st] 53)) W.heap.size 119 (.pointer (some ⟨r,0,none⟩)):=boxed_below s2.h2 (bal _ _)
 have q3:Boxed (w2.alloc (.cells #[Sl (some ⟨w1.heap.size,0,none⟩) 0 st] 53)) (W.heap.size+1) 3 (U i6 ch):=boxed_below s2.h1 (bal _ _)
 have d3:=(s2.skip (.cells #[Sl (some ⟨w1.heap.size,0,none⟩) 0 st] 53)).below
 have e3:=dbel (w2.alloc (.cells #[Sl (some ⟨w1.heap.size,0,none⟩) 0 st] 53)) m'
 have b4:=boxed_below b3 e3
 have o4:=o3.below e3
 have p4:=boxed_below p3 e3
 have q4:=boxed_below q3 e3
 have d4:=d3.trans (e3.mono d3.size)
 obtain⟨w4,hw4⟩:∃ w4,(w2.alloc (.cells #[Sl (some ⟨w1.heap.size,0,none⟩) 0 st] 53)).drewN m'=w4:=⟨_,rfl⟩
 rw [hw4] at b4 o4 p4 q4 d4 ⊢
 have hz2':w2.heap.size<w4.heap.size:=by rw [← hw4];simp
 have gz:=gr2.size
 have hg12:w1.heap.size<w2.heap.size:=(World.ownsRow.lt own2 w1.heap.size rfl).2
 have B4:Hid (Boxed _ _ _ _):=b4
 have O4:Hid (OTm _ _ _ _):=o4
 have P4:Hid (Boxed _ _ _ _):=p4
 have Q4:Hid (Boxed _ _ _ _):=q4
 have D4:Hid (Below _ _ _):=d4
 clear hw4 b3 o3 p3 q3 d3 e3 own2 gr2 s0 s1 s2 c1 f1 c1' f1' c2 f2 c2' f2' hq b4 o4 p4 q4 d4 z1 z1' z2 z2'
 go_wp2
 go_loopw [25] (fun i wr=>∃ y:Nat,y≤st∧i=U i6 y∧∃ v,Boxed wr w2.heap.size 53 v∧OTm wr w1.heap.size v (tmL 1 c ch h w kw t u st zs y)∧Boxed wr W.heap.size 119 (.pointer (some ⟨r,0,none⟩))∧Boxed wr (W.heap.size+1) 3 (U i6 ch)∧Below W.heap.size W wr∧w4.heap.size≤wr.heap.size) (fun i _=>st-(intOf i).toNat)
 case atStart=>exact⟨0,Nat.zero_le _,rfl,_,B4.out,O4.out,P4.out,Q4.out,D4.out,Nat.le_refl _⟩
 case round =>
  obtain⟨y,hy,rfl,v,hv,hown,hp,hq,hb,hwz⟩:=hrel
  obtain⟨a',cap,rfl⟩:=hown.slice
  rw [tmL_len] at hv hown
  have hbs:=hb.size
  have HS:Hid (tmL 1 c ch h w kw t u st zs (y+1)=tmL 1 c ch h w kw t u st zs y++[(wgA 1 ch st zs y,(y:Int))]):=tmL_succ _ _ _ _ _ _ _ _ _ _ _
  have HL:Hid ((tmL 1 c ch h w kw t u st zs y).length+1≤10000000):=by unfold Hid;rw [tmL_len];omega
  clear B4 O4 P4 Q4 D4
  by_cases hlt:y<st
  ·obtain⟨wd,hwd⟩:∃ wd,wr.drew=wd:=⟨_,rfl⟩
   have hdd:Below wr.heap.size wr wd:=by rw [← hwd];exact (Below.refl _ _).drew
   have hBd:Hid (∀ w',Below wd.heap.size wd w'→Boxed w' w2.heap.size 53 (.slice a' y cap)∧Boxed w' W.heap.size 119 (.pointer (some ⟨r,0,none⟩))∧Boxed w' (W.heap.size+1) 3 (U i6 ch)):=fun w' hb'=>⟨boxed_below (boxed_below hv hdd) hb',boxed_below (boxed_below hp hdd) hb',boxed_below (boxed_below hq hdd) hb'⟩
   have hOd:Hid (OTm wd _ _ _):=hown.below hdd
   have hWd:Hid (Below W.heap.size W wd):=hb.trans (hdd.mono hbs)
   have hzd:w4.heap.size≤wd.heap.size:=Nat.le_trans hwz hdd.size
   go_upto_region 6 with fail
   refine regionLM (Cl [4,6,8] fun w'=>Boxed w' w2.heap.size 53 (.slice a' y cap)∧Boxed w' W.heap.size 119 (.pointer (some ⟨r,0,none⟩))∧Boxed w' (W.heap.size+1) 3 (U i6 ch)) (fun a0 a1 w'=>∃ (v':Value) (g5:Nat),a1=((((((((a0.put (some 28) (.slice a' y cap)).put (some 29) (.pointer (some ⟨r,0,none⟩))).put (some 30) (U i6 ch)).put (some 31) (U i6 y)).put (some 33) (U i6 y)).put (some 32) (U i6 (wgA 1 ch st zs y))).put (some 34) (.agg #[U i6 (wgA 1 ch st zs y),U i6 y])).put (some 35) (.slice (some ⟨g5,0,none⟩) 1 1)).put (some 36) v'∧Boxed w' w2.heap.size 53 v'∧OTm w' w1.heap.size v' (tmL 1 c ch h w kw t u st zs (y+1))∧Boxed w' W.heap.size 119 (.pointer (some ⟨r,0,none⟩))∧Boxed w' (W.heap.size+1) 3 (U i6 ch)∧Below W.heap.size W w'∧w4.heap.size≤w'.heap.size) hmx ?_ ?_
   rotate_left
   ·rintro _ w7 ⟨v',g5,rfl,R7⟩
    have R8:Hid (_∧_):=R7
    clear R7 hBd hOd hWd hv hown hp hq hb hdd hwd hzd hL hWg hrc
    go_wp2
    go_roundw
    case rel=>exact⟨y+1,by omega,by go_num,v',R8.out⟩
    case measure=>simp [intOf];omega
   rw [hwd]
   clear hv hown hp hq hb hdd hwd
   refine takeG 0 8 (v:=.slice a' y cap) rfl rfl (by kernel_rfl) (by kernel_rfl) (by kernel_rfl) (by kernel_rfl) (by kernel_rfl) rfl rfl (fun _ _ _ h=>h) (fun _=>rfl) rfl (fun w' hw'=>by have:=hw'.1.cell;go_simp) ?_
   refine takeG 1 4 (v:=.pointer (some ⟨r,0,none⟩)) rfl rfl (by kernel_rfl) (by kernel_rfl) (by kernel_rfl) (by kernel_rfl) (by kernel_rfl) rfl rfl (fun _ _ _ h=>h) (fun _=>rfl) rfl (fun w' hw'=>by have:=hw'.2.1.cell;go_simp) ?_
   refine takeG 2 4 (v:=U i6 ch) rfl rfl (by kernel_rfl) (by kernel_rfl) (by kernel_rfl) (by kernel_rfl) (by kernel_rfl) rfl rfl (fun _ _ _ h=>h) (fun _=>rfl) rfl (fun w' hw'=>by have:=hw'.2.2.cell;go_simp) ?_
   refine takeG 3 4 (v:=U i6 y) rfl rfl (by kernel_rfl) (by kernel_rfl) (by kernel_rfl) (by kernel_rfl) (by kernel_rfl) rfl rfl (fun _ _ _ h=>h) (fun _=>rfl) rfl (fun w' hw'=>by go_simp) ?_
   refine takeG 5 6 (v:=U i6 y) rfl rfl (by kernel_rfl) (by kernel_rfl) (by kernel_rfl) (by kernel_rfl) (by kernel_rfl) rfl rfl (fun _ _ _ h=>h) (fun _=>rfl) rfl (fun w' hw'=>by go_simp) ?_
   refine lK 4 (Cl.of (hBd.out wd (Below.refl _ _))) (by kernel_rfl) rfl rfl 69 #[.pointer (some ⟨r,0,none⟩),U i6 ch,U i6 y] (by kernel_rfl) (hWg.out wd y hlt hWd.out) ?_
   rintro e w5 ⟨rfl,n5,hw5⟩
   refine⟨_,rfl,?_⟩
   have h5:Below wd.heap.size wd w5:=by rw [hw5];exact dbel _ _
   have hB5:=hBd.out w5 h5
   have hO5:=hOd.out.below h5
   have hW5:=hWd.out.trans (h5.mono hWd.out.size)
   have hz5:=Nat.le_trans hzd h5.size
   refine lR 6 (Cl.of hB5) (by kernel_rfl) rfl rfl (.agg #[U i6 (wgA 1 ch st zs y),U i6 y]) w5 (by go_simp) ?_
   refine lR 7 (Cl.of hB5) (by kernel_rfl) rfl rfl (.slice (some ⟨w5.heap.size,0,none⟩) 1 1) (w5.alloc (.cells #[U i6 (wgA 1 ch st zs y),U i6 y] 92)) (by go_simp) ?_
   refine lA 8 (Cl.of (hBd.out _ (h5.trans ((bal w5 _).mono h5.size)))) (by kernel_rfl) rfl rfl (.tmp 28) (.tmp 35) rfl w1.heap.size (.slice a' y cap) (tmL 1 c ch h w kw t u st zs y) (by kernel_rfl) (hO5.below (bal _ _)) w5.heap.size (wgA 1 ch st zs y) y (by kernel_rfl) (term_one w5 _ _) HL.out (by simp;omega) ?_
   intro v' w6 own' gr' hat'
   obtain⟨a6,cap6,rfl⟩:=own'.slice
   obtain⟨n6,hn6⟩:∃ n,(tmL 1 c ch h w kw t u st zs y++[(wgA 1 ch st zs y,(y:Int))]).length=n:=⟨_,rfl⟩
   rw [hn6] at own' hat' ⊢
   obtain⟨q1,q2,q3,q4,q5,-⟩:=app_box (n0:=W.heap.size) hB5.1 hO5 ⟨by omega,by omega,hW5.size⟩ own' gr'
   have hc7:=q1.cell
   have hf7:=q1.frozen
   refine lT 9 (Cl.all (by kernel_rfl)) (by kernel_rfl) rfl rfl (w6.setCell ⟨w2.heap.size,0,none⟩ (.slice a6 n6 cap6)) (by go_simp) ?_
   refine doneL (Cl.all (by kernel_rfl)) (by kernel_rfl) ?_ _
   exact⟨_,w5.heap.size,by kernel_rfl,q2,by rw [HS.out];exact q3,q4 _ _ _ hB5.2.1 (by omega) (by decide),q4 _ _ _ hB5.2.2 (by omega) (by decide),hW5.trans q5,Nat.le_trans hz5 q5.size⟩
  ·obtain rfl:y=st:=by omega
   have hc:=hv.cell
   go_wp2
   exact⟨.slice a' y cap,by simp [results,Tryz.f52,go_sem],⟨_,rfl,by have:=hown.base (show W.heap.size≤w1.heap.size by omega);exact this⟩,hb⟩
attribute [local go_sem] Oper.semAt_some
def covW (C p c:Int):Int:=if p = -1 then -1 else wrap64 (wrap64 (p*C)+c)
theorem covW_eq {C p c:Int} (hq:-1≤p∧p≤16384) (hd:0≤c∧c≤1024) (hc:1≤C∧C≤1024):covW C p c=cov C p c:=by
 unfold covW cov
 by_cases q1:p = -1
 ·rw [if_pos q1,if_pos q1]
 ·rw [if_neg q1,if_neg q1]
  have p1:0≤p*C:=Int.mul_nonneg (by omega) (by omega)
  have p2:p*C≤16384*1024:=Int.mul_le_mul hq.2 hc.2 (by omega) (by omega)
  have e1:wrap64 (p*C)=p*C:=by unfold wrap64;omega
  rw [e1]
  unfold wrap64
  omega
theorem tplaceW_any (k a b m kh kw sh sw tp lf bt rt:Int) (wa:Option Addr) (lw wc:Nat) (ba:Option Addr) (lb bc:Nat) (sm ss um us z p lo hi h w c H V C:Int) (r:Nat) (W:World) (hr:W.heap[r]? = some (.cells #[U i6 k,U i6 a,U i6 b,U i6 m,U i6 kh,U i6 kw,U i6 sh,U i6 sw,U i6 tp,U i6 lf,U i6 bt,U i6 rt,Sl wa lw wc,Sl ba lb bc,U i6 sm,U i6 ss,U i6 um,U i6 us,U i6 z,U i6 p,U i6 lo,U i6 hi,U i6 h,U i6 w,U i6 c,U i6 H,U i6 V,U i6 C] 102 (0,0))) (q d:Int) :
  Calls Tryz.prog 72 #[.pointer (some ⟨r,0,none⟩),U i6 q,U i6 d] W fun e w'=>e=.returned (U i6 (covW c q d))∧w'=W:=by
 obtain⟨y1,y2,y3⟩:=cells_at hr
 clear hr
 by_cases q1:q = -1
 ·subst q1
  rw [show covW c (-1) d = -1 from if_pos rfl]
  go_enter Tryz.func72,Tryz.ntmps72
  go_wp2
  go_ret
  exact⟨rfl,rfl⟩
 ·rw [show covW c q d=wrap64 (wrap64 (q*c)+d) from if_neg q1]
  have q1':(q == -1)=false:=by simp [q1]
  go_enter Tryz.func72,Tryz.ntmps72
  go_wp2
  go_ret
  exact⟨rfl,rfl⟩
def QI (lo' hi' base Bx B3 B9 B10 r:Nat) (ch F G:Int) (w5 W:World) (l:List (Int×Int)) (W':World):Prop :=
 ∃ v,Boxed W' Bx 53 v∧OTm W' base v l∧(∀ b,v.ownBlock=some b→b<Bx∨hi'≤b)∧Boxed W' B3 119 (.pointer (some ⟨r,0,none⟩))∧Boxed W' (B3+1) 3 (U i6 ch)∧Boxed W' B9 3 (U i6 F)∧Boxed W' B10 3 (U i6 G)∧Mid lo' hi' w5 W'∧Below W.heap.size W W'∧hi'≤W'.heap.size
theorem boxed_turn {W W':World} {B:Nat} {t:TypeId} {v:Value} {row:Option Nat} (h:Boxed W B t v) (k:W.grownBy W' row) (hr:∀ r,row=some r→∃ o:Obj,W.heap[r]? = some o∧o.isCells=false):Boxed W' B t v :=
 Go.Boxed.kept h k fun e=>by
  obtain⟨o,ho,hn⟩:=hr B e.symm
  rw [show W.heap[B]? = _ from h] at ho;cases ho;cases hn
theorem QI.turn {lo' hi' base Bx B3 B9 B10 r:Nat} {ch F G:Int} {w5 W:World} {l:List (Int×Int)} {W1 W2:World} {row:Option Nat} (h:QI lo' hi' base Bx B3 B9 B10 r ch F G w5 W l W1) (k:W1.grownBy W2 row) (hz:W.heap.size≤hi') (hr:∀ q,row=some q→hi'≤q∧∃ o:Obj,W1.heap[q]? = some o∧o.isCells=false):QI lo' hi' base Bx B3 B9 B10 r ch F G w5 W l W2:=by
 obtain⟨v,a1,a2,a3,a4,a4',a5,a6,a7,a8,a9⟩:=h
 have hn:∀ q,row=some q→∃ o:Obj,W1.heap[q]? = some o∧o.isCells=false:=fun q e=>(hr q e).2
 refine⟨v,boxed_turn a1 k hn,World.ownsRow.kept a2 k ?_,a3,boxed_turn a4 k hn,boxed_turn a4' k hn,boxed_turn a5 k hn,boxed_turn a6 k hn,a7.trans (Mid.grown k fun b e=>.inr (hr b e).1),a8.grown k a8.size (fun b e=>Nat.le_trans hz (hr b e).1),Nat.le_trans a9 k.size⟩
 rcases a2.2 with ⟨rfl,_⟩ | ⟨g,cap,cur,rfl,_,hb,_⟩
 ·exact .inl rfl
 ·refine .inr fun e=>?_
  obtain⟨o,ho,hn'⟩:=hn g (by rw [← e];rfl)
  rw [hb] at ho;cases ho;cases hn'
theorem QI.app {lo' hi' base Bx B3 B9 B10 r:Nat} {ch F G:Int} {z:Int×Int} {w5 W:World} {l:List (Int×Int)} {W1 w1:World} {v v':Value} {tmp:Obj}
  (a1:Boxed W1 Bx 53 v) (a2:OTm W1 base v l) (a3:∀ b,v.ownBlock=some b→b<Bx∨hi'≤b) (a4:Boxed W1 B3 119 (.pointer (some ⟨r,0,none⟩))) (a4':Boxed W1 (B3+1) 3 (U i6 ch)) (a5:Boxed W1 B9 3 (U i6 F)) (a6:Boxed W1 B10 3 (U i6 G)) (a7:Mid lo' hi' w5 W1) (a8:Below W.heap.size W W1) (a9:hi'≤W1.heap.size)
  (hB:W.heap.size≤base∧base≤Bx∧B3+1<base∧Bx<B9∧Bx<B10∧B9<lo'∧B10<lo'∧lo'≤hi') (own':OTm w1 base v' (l++[z])) (gr:(W1.alloc tmp).grownBy w1 v.ownBlock) (hat:v'.ownBlock=v.ownBlock∨v'.ownBlock=some (W1.alloc tmp).heap.size) :
  Boxed w1 Bx 53 v∧KeepsOthers W1 (w1.setCell ⟨Bx,0,none⟩ v')∧Mid lo' hi' W1 (w1.setCell ⟨Bx,0,none⟩ v')∧QI lo' hi' base Bx B3 B9 B10 r ch F G w5 W (l++[z]) (w1.setCell ⟨Bx,0,none⟩ v'):=by
 have hrow:∀ b,v.ownBlock=some b→base≤b:=fun b e=>a2.lt b e
 have hne:∀ b t u,Boxed W1 b t u→b≠Bx→v.ownBlock≠some b→Boxed (w1.setCell ⟨Bx,0,none⟩ v') b t u:=fun b t u hb h1 h2=>((hb.alloc tmp).kept gr (fun e=>h2 e.symm)).other h1 v'
 have hv1:Boxed w1 Bx 53 v:=(a1.alloc tmp).kept gr (a1.not_row (by decide) a2)
 have hrb:v.ownBlock≠some Bx:=fun e=>(a1.not_row (by decide) a2) e.symm
 have hm:Mid lo' hi' W1 (w1.setCell ⟨Bx,0,none⟩ v'):=((Mid.later ((Below.refl _ W1).alloc (Nat.le_refl _) tmp)).trans (Mid.grown gr fun b e=>by have:=a3 b e;omega)).trans (Mid.set _ (by omega))
 have hb:Below W.heap.size W1 (w1.setCell ⟨Bx,0,none⟩ v'):=(((Below.refl W.heap.size W1).alloc a8.size tmp).grown gr (by have:=a8.size;simp;omega) fun j ej=>(by have:=hrow j ej;omega)).setCell (p:=⟨Bx,0,none⟩) (by show W.heap.size≤Bx;omega) v'
 refine⟨hv1,?_,hm,v',hv1.set v',World.ownsRow.kept own' (grownBy_setCell' w1 Bx v') (.inr (hv1.not_row (by decide) own').symm),fun b e=>?_,hne _ _ _ a4 (by omega) (fun e=>by have:=hrow _ e;omega),hne _ _ _ a4' (by omega) (fun e=>by have:=hrow _ e;omega),hne _ _ _ a5 (by omega) (fun e=>by have:=a3 _ e;omega),hne _ _ _ a6 (by omega) (fun e=>by have:=a3 _ e;omega),a7.trans hm,a8.trans hb,Nat.le_trans a9 hb.size⟩
 ·refine ((KeepsOthers.alloc W1 tmp).trans (KeepsOthers.of_grownBy gr fun j o ej hj=>?_)).trans (KeepsOthers.setCell _ _ _)
  have a2':OTm (W1.alloc tmp) base v l:=a2.below (bal _ _)
  rcases a2'.2 with ⟨rfl,_⟩ | ⟨g,cap,cur,rfl,_,hgb,_⟩
  ·simp [Value.ownBlock] at ej
  ·obtain rfl:g=j:=by simpa [Value.ownBlock] using ej
   rw [hgb] at hj;cases hj;rfl
 ·rcases hat with h | h
  ·exact a3 b (by rw [← h];exact e)
  ·rw [h,World.size_alloc] at e
   have:=Option.some.inj e
   omega
def pfl (nC:Nat) (c F:Int) (l:List (Int×Int)):List Int:=l.flatMap fun p=>(List.range nC).map fun (j:Nat)=>covW c p.2 (F+j)
theorem pfl_len (nC:Nat) (c F:Int) (l:List (Int×Int)):(pfl nC c F l).length=l.length*nC:=by
 induction l with
 | nil=>simp [pfl]
 | cons x l ih=>simp [pfl] at ih ⊢;rw [ih,Nat.add_mul];omega
theorem pfl_snoc (nC:Nat) (c F:Int) (l:List (Int×Int)) (x:Int×Int):pfl nC c F (l++[x])=pfl nC c F l++(List.range nC).map fun (j:Nat)=>covW c x.2 (F+j):=by simp [pfl]
theorem plA_at {k c ch h w kw t u:Int} {nC q j:Nat} (hk:k≠1) (hn:(nC:Int)=chB k c ch-chF k ch) (hj:j<nC):plA k c ch h w kw t u ((q*nC+j:Nat):Int)=cov c (tpc h w kw t u (q:Int)) (chF k ch+(j:Int)):=by
 have e:=spot_at (y:=q) hj
 simp only [Prod.mk.injEq] at e
 obtain⟨e1,e2⟩:=e
 unfold plA
 rw [if_neg hk]
 by_cases k2:k=2
 ·rw [if_pos k2]
  have h1:chF k ch=0:=if_pos k2
  have h2:chB k c ch=c:=if_pos k2
  rw [h1,h2] at hn
  have hc:c=(nC:Int):=by omega
  rw [h1,hc,e1,e2,Int.zero_add]
 ·rw [if_neg k2]
  have h1:chF k ch=ch-1:=if_neg k2
  have h2:chB k c ch=ch:=if_neg k2
  rw [h1,h2] at hn
  obtain rfl:nC=1:=by omega
  obtain rfl:j=0:=by omega
  rw [h1]
  simp
theorem plc_bd {h w y x:Int} (hh:1≤h∧h≤1024) (hw:1≤w∧w≤1024) (hm:h*w≤16384):-1≤plc h w y x∧plc h w y x≤16384:=by
 by_cases q:(0≤y∧y<h)∧(0≤x∧x<w)
 ·rw [plc_in q]
  have:=rowbd q.1.2 q.1.1 q.2.1 q.2.2
  omega
 ·rw [plc_out q];omega
theorem pfl_tap {k c ch h w kw t u:Int} {nC:Nat} (hk:k≠1) (hn:(nC:Int)=chB k c ch-chF k ch) (hF:0≤chF k ch) (hB:chB k c ch≤1024) (hc:1≤c∧c≤1024) (hh:1≤h∧h≤1024) (hw:1≤w∧w≤1024) (hm:h*w≤16384) :
  ∀ N:Nat,pfl nC c (chF k ch) (tapL h w kw t u N)=plL k c ch h w kw t u (N*nC)
 | 0=>by simp [pfl,plL,tapL]
 | N+1=>by
  rw [tapL_succ,pfl_snoc,pfl_tap hk hn hF hB hc hh hw hm N]
  have g:∀ j,j≤nC→plL k c ch h w kw t u (N*nC+j)=plL k c ch h w kw t u (N*nC)++(List.range j).map fun (i:Nat)=>covW c (tap h w kw t u N).2 (chF k ch+i):=by
   intro j
   induction j with
   | zero=>intro _;simp
   | succ j ih =>
    intro hj
    rw [← Nat.add_assoc,plL_succ,ih (by omega),List.range_succ,List.map_append,← List.append_assoc,plA_at hk hn (by omega)]
    rw [show (List.map (fun (i:Nat)=>covW c (tap h w kw t u N).2 (chF k ch+i)) [j])=[covW c (tap h w kw t u N).2 (chF k ch+j)] from rfl]
    rw [covW_eq (p:=(tap h w kw t u N).2) (plc_bd hh hw hm) (by omega) hc]
    rfl
  rw [← g nC (Nat.le_refl _),Nat.add_mul,Nat.one_mul]
def wz (f:Nat→Int) (l:List Int):List (Int×Int):=l.mapIdx fun i z=>(f i,z)
theorem wz_snoc (f:Nat→Int) (l:List Int) (z:Int):wz f (l++[z])=wz f l++[(f l.length,z)]:=by simp [wz]
theorem wz_len (f:Nat→Int) (l:List Int):(wz f l).length=l.length:=by simp [wz]
theorem wz_plL (k c ch h w kw t u st:Int) (ws:List Int):∀ n:Nat,wz (fun i=>wgA k ch st ws i) (plL k c ch h w kw t u n)=tmL k c ch h w kw t u st ws n
 | 0=>by simp [wz,plL,tmL]
 | n+1=>by rw [plL_succ,wz_snoc,wz_plL k c ch h w kw t u st ws n,tmL_succ,plL_len]
theorem terms_w (k a b m kh kw sh sw tp lf bt rt:Int) (wa:Option Addr) (lw wc:Nat) (ba:Option Addr) (lb bc:Nat) (sm ss um us z p lo hi h w c H V C:Int) (r:Nat) (W:World) (hr:W.heap[r]? = some (.cells #[U i6 k,U i6 a,U i6 b,U i6 m,U i6 kh,U i6 kw,U i6 sh,U i6 sw,U i6 tp,U i6 lf,U i6 bt,U i6 rt,Sl wa lw wc,Sl ba lb bc,U i6 sm,U i6 ss,U i6 um,U i6 us,U i6 z,U i6 p,U i6 lo,U i6 hi,U i6 h,U i6 w,U i6 c,U i6 H,U i6 V,U i6 C] 102 (0,0))) (ws:List Int) (hZ:IRow .i16 W wa lw wc ws) (s:Sit k kh kw sh sw tp lf bt rt h w c H V C lw lb) (k1:k≠1) (ch at':Int) (hch:1≤ch∧ch≤C) (hat:0≤at'∧at'<H*V) (st:Nat) (hst:stR k kh kw h w c=(st:Int)) :
  Calls Tryz.prog 52 #[.pointer (some ⟨r,0,none⟩),U i6 ch,U i6 at'] W fun e w'=>(∃ v,e=.returned v∧OTm w' W.heap.size v (tmL k c ch h w kw (coR h w c kh kw sh sw tp lf bt rt at').1 (coR h w c kh kw sh sw tp lf bt rt at').2.1 st ws st))∧Below W.heap.size W w':=by
 obtain⟨i0,hi0,hz0,hz1,hz2⟩:=info_parts Tryz.infoT
 have hlen:st≤512:=by have:=s.2.2.2.2.2.2.2.2.2;rw [hst] at this;omega
 have hrz:r<W.heap.size:=lt_of_heap hr
 have hbk:Hid (∀ w',Below W.heap.size W w'→w'.heap[r]? = some (.cells #[U i6 k,U i6 a,U i6 b,U i6 m,U i6 kh,U i6 kw,U i6 sh,U i6 sw,U i6 tp,U i6 lf,U i6 bt,U i6 rt,Sl wa lw wc,Sl ba lb bc,U i6 sm,U i6 ss,U i6 um,U i6 us,U i6 z,U i6 p,U i6 lo,U i6 hi,U i6 h,U i6 w,U i6 c,U i6 H,U i6 V,U i6 C] 102 (0,0))):=fun w' hb=>(hb.block r hrz).trans hr
 have hL:Hid (∀ w',Below W.heap.size W w'→Calls Tryz.prog 68 #[.pointer (some ⟨r,0,none⟩)] w' fun e w''=>e=.returned (U i6 st)∧∃ m,w''=w'.drewN m):=fun w' hb=>by rw [← hst];exact tlen_any k a b m kh kw sh sw tp lf bt rt wa lw wc ba lb bc sm ss um us z p lo hi h w c H V C r w' (hbk.out w' hb) s
 have hWg:Hid (∀ (w':World) (i:Nat),i<st→Below W.heap.size W w'→Calls Tryz.prog 69 #[.pointer (some ⟨r,0,none⟩),U i6 ch,U i6 i] w' fun e w''=>e=.returned (U i6 (wgA k ch st ws i))∧∃ n,w''=w'.drewN n):=fun w' i hj hb=>by
  have:=twei_any k a b m kh kw sh sw tp lf bt rt wa lw wc ba lb bc sm ss um us z p lo hi h w c H V C r w' (hbk.out w' hb) ws (hZ.below hb) s ch hch i (by rw [hst];omega)
  rw [hst] at this
  exact this
 clear hZ
 obtain⟨hk,hvA,hvB,hou,-,hwn,-,h3c,-⟩:=s
 have hC1:=(vS_yes hvB).2.2.1
 have hc1:=(vS_yes hvA).2.2.1
 have hd1:=(vS_yes hvA).1
 have hw1:=(vS_yes hvA).2.1
 obtain⟨hk1,hk2⟩:=hwn (by omega)
 -- the channels
 have hF:0≤chF k ch:=by unfold chF; split<;>omega
 have hB0:chB k c ch≤1024:=by unfold chB; split<;>omega
 have hFB:chF k ch<chB k c ch:=by unfold chF chB; split<;>omega
 obtain⟨nC,hnC⟩:∃ nC:Nat,(nC:Int)=chB k c ch-chF k ch:=⟨(chB k c ch-chF k ch).toNat,by omega⟩
 have hR:Hid (∀ w',Below W.heap.size W w'→Calls Tryz.prog 70 #[.pointer (some ⟨r,0,none⟩),U i6 ch] w' fun e w''=>e=.returned (.tuple #[U i6 (chF k ch),U i6 (chB k c ch)])∧∃ m,w''=w'.drewN m):=fun w' hb=>tread_any k a b m kh kw sh sw tp lf bt rt wa lw wc ba lb bc sm ss um us z p lo hi h w c H V C r w' (hbk.out w' hb) ch (by omega)
 -- the taps
 rcases coR_cases h w c kh kw sh sw tp lf bt rt at' with ⟨e,he,h2⟩ | ⟨rr,qq,he,hf,hn,hcc⟩
 ·exfalso
  unfold coR at he
  rw [hou (by omega)] at he
  simp only at he
  rw [if_pos trivial,if_pos hat] at he
  simp at he
  omega
 have hcor:=cor_of hf hn
 have htp:tapsOf h w c kh kw sh sw tp lf bt rt at'=tapL h w kw (coR h w c kh kw sh sw tp lf bt rt at').1 (coR h w c kh kw sh sw tp lf bt rt at').2.1 (kh*kw).toNat:=by rw [tapsOf_ok hcc,hcc]
 obtain⟨t,ht⟩:∃ t,(coR h w c kh kw sh sw tp lf bt rt at').1=t:=⟨_,rfl⟩
 obtain⟨u,hu⟩:∃ u,(coR h w c kh kw sh sw tp lf bt rt at').2.1=u:=⟨_,rfl⟩
 rw [ht,hu] at htp ⊢
 obtain⟨N,hN⟩:∃ N:Nat,kh*kw=(N:Int):=⟨(kh*kw).toNat,by have:=(mul_bd hk1.1 hk1.2 hk2.1 hk2.2).1;omega⟩
 have hN2:N≤1024:=by have:=(mul_bd hk1.1 hk1.2 hk2.1 hk2.2).2;omega
 have hstN:st=N*nC:=by
  have e:stR k kh kw h w c=(N:Int)*nC:=by
   unfold stR
   rw [if_neg k1,hN,hnC]
   by_cases k2:k=2
   ·rw [if_pos k2,show chB k c ch=c from if_pos k2,show chF k ch=0 from if_pos k2,Int.sub_zero]
   ·rw [if_neg k2,if_pos (by omega),show chB k c ch=ch from if_neg k2,show chF k ch=ch-1 from if_neg k2,show ch-(ch-1)=1 by omega,Int.mul_one]
  rw [hst] at e
  exact_mod_cast e
 have htl:wz (fun i=>wgA k ch st ws i) (pfl nC c (chF k ch) (tapsOf h w c kh kw sh sw tp lf bt rt at'))=tmL k c ch h w kw t u st ws st:=by
  rw [← wz_plL k c ch h w kw t u st ws st,htp,hN,Int.toNat_natCast]
  have:=pfl_tap (k:=k) (c:=c) (ch:=ch) (h:=h) (w:=w) (kw:=kw) (t:=t) (u:=u) k1 hnC hF hB0 hc1 hd1 hw1 hcor.2.2.1 N
  rw [this,hstN]
 have hysl:(tapsOf h w c kh kw sh sw tp lf bt rt at').length*nC=st:=by
  rw [htp,hN,Int.toNat_natCast,hstN]
  simp [tapL]
 have hnC2:nC≤1024:=by omega
 obtain⟨ys,hys⟩:∃ ys,tapsOf h w c kh kw sh sw tp lf bt rt at'=ys:=⟨_,rfl⟩
 have HY:Hid (tapsOf h w c kh kw sh sw tp lf bt rt at'=ys):=hys
 have hyl:ys.length≤1024:=by have:=Nx.tapsOf_len h w c kh kw sh sw tp lf bt rt at';rw [hys] at this;exact this
 rw [hys] at htl hysl
 rw [← htl]
 obtain⟨wf,hwf⟩:∃ wf:Nat→Int,(fun i:Nat=>wgA k ch st ws i)=wf:=⟨_,rfl⟩
 have hWf:∀ i:Nat,wgA k ch st ws i=wf i:=fun i=>by rw [← hwf]
 simp only [hWf] at hWg ⊢
 obtain⟨F,hFe⟩:∃ F,chF k ch=F:=⟨_,rfl⟩
 obtain⟨G,hGe⟩:∃ G,chB k c ch=G:=⟨_,rfl⟩
 rw [hFe,hGe] at hR hnC hFB
 rw [hFe] at hF ⊢
 rw [hGe] at hB0
 have hPl:Hid (∀ (w':World) (q d:Int),Below W.heap.size W w'→Calls Tryz.prog 72 #[.pointer (some ⟨r,0,none⟩),U i6 q,U i6 d] w' fun e w''=>e=.returned (U i6 (covW c q d))∧w''=w'):=fun w' q d hb=>tplaceW_any k a b m kh kw sh sw tp lf bt rt wa lw wc ba lb bc sm ss um us z p lo hi h w c H V C r w' (hbk.out w' hb) q d
 have k1':(k == 1)=false:=by simp [k1]
 have hst5:st≤2000000:=by omega
 clear hst hvA hvB hou h3c he hf hn hcc hcor htp ht hu hN hN2 hstN htl hys hFe hGe hlen hwn hwf hWf
 have s0:=((St.start W).new (c:=#[.pointer (some ⟨r,0,none⟩)]) (t:=119)).new (c:=#[U i6 ch]) (t:=3)
 have hfn:∀ f,Fence.wide.fn f:=fun _=>trivial
 have hdp:Fence.wide.depth=none:=rfl
 refine (callsIn_wide (n:=3)).1 ?_
 refine callsIn_of_wp_marks Tryz.func52 rfl trivial ?_ rfl
 simp only [Tryz.ntmps52,List.size_toArray,List.length_cons,List.length_nil,Nat.reduceAdd,Nat.reduceSub,Array.replicate_succ,Array.replicate_zero,List.push_toArray,List.append_toArray,List.nil_append,List.cons_append]
 refine wpIn_wide.2 ?_
 go_wp2_with fail
 refine (hL.out _ s0.below).mono ?_
 rintro e w1 ⟨rfl,m,rfl⟩
 have s1:=s0.call (dbel _ m)
 obtain⟨w1,hw1⟩:∃ w1,((W.alloc (.cells #[.pointer (some ⟨r,0,none⟩)] 119)).alloc (.cells #[U i6 ch] 3)).drewN m=w1:=⟨_,rfl⟩
 rw [hw1] at s1 ⊢
 have hz:W.heap.size+1+1=w1.heap.size:=by rw [← hw1];simp
 clear hw1
 simp only [World.size_alloc] at s1
 obtain⟨c1,f1,z1,c2,f2,z2,-⟩:=s1.rules
 go_wp2_with (first
  | (at_make;refine wpList_make_own _ rfl _ _ 53 rfl w1.heap.size 92 i0 (.agg #[U i6 0,U i6 0]) 2 Tryz.underlying53 hi0 hz0 hz1 .i64 .i64 _ st rfl rfl rfl (by rw [hz2];omega) (by unfold maxLen;omega) (by omega) ?_;intro w2 own2 gr2;have s2:=s1.call ((Below.refl w1.heap.size w1).grown gr2 (Nat.le_refl _) (fun b hb=>by cases hb));obtain⟨c1',f1',z1',c2',f2',z2',-⟩:=s2.rules;have hq:=(cells_at (hbk.out _ s2.below)).1;have zr:=Nat.lt_of_lt_of_le hrz s2.below.size))
 refine (hR.out _ (s2.skip _).below).mono ?_
 rintro e w3 ⟨rfl,m',rfl⟩
 have s3:=((s2.new (c:=#[Sl (some ⟨w1.heap.size,0,none⟩) 0 st]) (t:=53)).call (dbel _ m'))
 have o3:OTm ((w2.alloc (.cells #[Sl (some ⟨w1.heap.size,0,none⟩) 0 st] 53)).drewN m') w1.heap.size (.slice (some ⟨w1.heap.size,0,none⟩) 0 st) []:=(OTm.below (show OTm w2 w1.heap.size (.slice (some ⟨w1.heap.size,0,none⟩) 0 st) [] from own2) (bal _ _)).below (dbel _ m')
 obtain⟨w3,hw3⟩:∃ w3,(w2.alloc (.cells #[Sl (some ⟨w1.heap.size,0,none⟩) 0 st] 53)).drewN m'=w3:=⟨_,rfl⟩
 rw [hw3] at s3 o3 ⊢
 have hz3:w3.heap.size=w2.heap.size+1:=by rw [← hw3];simp
 have gz:=gr2.size
 have hg12:w1.heap.size<w2.heap.size:=(World.ownsRow.lt own2 w1.heap.size rfl).2
 clear hw3 own2 gr2 c1 f1 c1' f1' c2 f2 c2' f2' hq z1 z1' z2 z2' s2 s1
 have s4:=(s3.new (c:=#[U i6 F]) (t:=3)).new (c:=#[U i6 G]) (t:=3)
 have o4:=(o3.below (bal _ (.cells #[U i6 F] 3))).below (bal _ (.cells #[U i6 G] 3))
 obtain⟨c1,f1,z1,c2,f2,z2,c3,f3,z3,-⟩:=s3.rules
 go_upto_region 10 with fail
 simp only [World.size_alloc] at s4
 obtain⟨w4,hw4⟩:∃ w4,(w3.alloc (.cells #[U i6 F] 3)).alloc (.cells #[U i6 G] 3)=w4:=⟨_,rfl⟩
 rw [hw4] at s4 o4 ⊢
 have hz4:w4.heap.size=w3.heap.size+1+1:=by rw [← hw4];simp
 clear hw4 c1 f1 c2 f2 c3 f3 z1 z2 z3 o3 s3
 have e2:=Wn.rule (s4.2 (W.heap.size,#[.pointer (some ⟨r,0,none⟩)],119) (by simp)).1
 have e3:=Wn.rule (hbk.out w4 s4.below)
 have hne:Nonempty (Wn w4):=⟨Wn.mk w4 (Below.refl _ _)⟩
 refine (wpIn_wide (n:=3)).1 ?_
 refine region_tail_at 10 (C:=fun w'=>∃ n:Wn w4,w'=n.w) rfl rfl (by kernel_rfl) (by kernel_rfl) ⟨Wn.mk _ (Below.refl _ _).drew,rfl⟩ ?_
 simp only [List.take_succ_cons,List.take_zero,List.drop_succ_cons,List.drop_zero]
 repeat (gi_big_quiet_step (fail))
 refine wpQuietIn_nil ?_
 rintro _ ⟨n,rfl⟩
 gi_wp2_with fail
 refine (callsIn_wide.2 (taps_any _ _ _ _ _ _ _ _ _ _ _ _ _)).mono ?_
 rintro e w5 ⟨⟨g,lb',rfl,hit⟩,hb5⟩
 rw [HY.out] at hit
 have s5:=(s4.call n.h).call hb5
 have o5:=(o4.below n.h).below hb5
 have hnz:=n.h.size
 have hb5z:=hb5.size
 gi_wp2
 obtain⟨lo',hlo⟩:∃ x,n.w.heap.size=x:=⟨_,rfl⟩
 obtain⟨hi',hhi⟩:∃ x,w5.heap.size=x:=⟨_,rfl⟩
 rw [hlo,hhi] at hit
 rw [hlo] at hnz
 rw [hlo,hhi] at hb5z
 obtain⟨g',lb2,hv,heg,hseq⟩:=hit
 obtain⟨rfl,rfl⟩:g=g'∧lb'=lb2:=by simpa using hv
 have hbl:W.heap.size≤w1.heap.size∧w1.heap.size≤w2.heap.size∧W.heap.size+1<w1.heap.size∧w2.heap.size<w2.heap.size+1∧w2.heap.size<w2.heap.size+1+1∧w2.heap.size+1<lo'∧w2.heap.size+1+1<lo'∧lo'≤hi':=by omega
 have I0:QI lo' hi' w1.heap.size w2.heap.size W.heap.size (w2.heap.size+1) (w2.heap.size+1+1) r ch F G w5 W (wz wf (pfl nC c F [])) w5 :=
  ⟨_,s5.h3,o5,fun b e=>by simp [Value.ownBlock] at e;omega,(s5.2 (W.heap.size,#[.pointer (some ⟨r,0,none⟩)],119) (by simp)).1,s5.h4,by rw [← hz3];exact s5.h2,by rw [← hz3];exact s5.h1,Mid.refl _ _ _,s5.below,by omega⟩
 have HI0:Hid (QI lo' hi' w1.heap.size w2.heap.size W.heap.size (w2.heap.size+1) (w2.heap.size+1+1) r ch F G w5 W (wz wf (pfl nC c F [])) w5):=I0
 clear s4 o4 s5 o5 e2 e3 hne I0 s0
 go_wp2
 refine (wpIn_wide (n:=3)).1 ?_
 refine wpIn_rangeFunc_ownG (F:=Fence.wide) rfl (by omega) (gf:=g) (lb:=lb') rfl trivial heg (hseq w5 _ (Mid.refl _ _ _)) (fun h k=>Mid.trans h k) (fun W l o o' _ h1 h2 _=>Mid.put W l o o' h1 h2) (Below.refl _ _) (fun _=>rfl)
  (fun (pre:List (Int×Int)) W'=>QI lo' hi' w1.heap.size w2.heap.size W.heap.size (w2.heap.size+1) (w2.heap.size+1+1) r ch F G w5 W (wz wf (pfl nC c F pre)) W')
  (fun _ _ _=>False)
  (by rw [hhi];exact fun pre W1 W2 row h k hr=>h.turn k (by omega) hr)
  (fun _ _ _ _ _ hs _ _=>hs)
  HI0.out ?a₁ ?assign ?body ?done ?stop
 case assign =>
  intro l x W' K hK
  gi_wp2
  exact hK
 case stop =>
  rintro D c pre W' _ _ h _
  exact h.elim
 case done =>
  rintro D zs W' hD rfl ⟨v,a1,a2,a3,a4,a4',a5,a6,a7,a8,a9⟩ hK
  obtain⟨a',cap,rfl⟩:=a2.slice
  have hc:=a1.cell
  go_wp2
  refine⟨by simp,.inl ⟨_,_,rfl,run_takeDeferred hK,?_⟩⟩
  refine⟨.slice a' (wz wf (pfl nC c F zs)).length cap,by simp [results,Tryz.f52,go_sem],⟨_,rfl,?_⟩,?_⟩
  ·exact OTm.base (ownsRow_putObj a2 _ hK rfl) (by omega)
  ·exact a8.trans (belowK_b (w:=W) (Nat.le_refl _) W' D _ _ (by omega) hK rfl rfl)
 case body =>
  rintro l pre x W' hQ hlt
  have Ha:Hid (QI lo' hi' w1.heap.size w2.heap.size W.heap.size (w2.heap.size+1) (w2.heap.size+1+1) r ch F G w5 W (wz wf (pfl nC c F pre)) W'):=hQ
  have hc9:Hid (Boxed W' (w2.heap.size+1) 3 (U i6 F)):=by obtain⟨v,a1,a2,a3,a4,a4',a5,-⟩:=hQ;exact a5
  have hc9':=hc9.out.cell
  have hLe:Hid (∀ j,(pfl nC c F pre++(List.range j).map fun (i:Nat)=>covW c x.2 (F+i)).length=pre.length*nC+j):=fun j=>by rw [List.length_append,pfl_len];simp
  have hbs:Hid (∀ j,j<nC→pre.length*nC+j<st):=fun j hj=>by
   have:=Nat.mul_le_mul_right nC (show pre.length+1≤ys.length by omega)
   rw [Nat.add_mul,hysl] at this
   omega
  have hbd:Hid (pre.length*nC≤1048576):=by unfold Hid;have:=Nat.mul_le_mul (show pre.length≤1024 by omega) hnC2;omega
  have hmx:Tryz.prog.follows .mixedOrders=true:=by kernel_rfl
  clear hQ HI0
  gi_wp2
  gi_loopw [13] (fun i wr=>∃ j:Nat,j≤nC∧i=U i6 (F+j)∧QI lo' hi' w1.heap.size w2.heap.size W.heap.size (w2.heap.size+1) (w2.heap.size+1+1) r ch F G w5 W (wz wf (pfl nC c F pre++(List.range j).map fun (i:Nat)=>covW c x.2 (F+i))) wr∧KeepsOthers W' wr∧Mid lo' hi' W' wr) (fun i _=>(G-intOf i).toNat)
  case atStart=>exact⟨0,Nat.zero_le _,by simp,by simpa using Ha.out,KeepsOthers.refl _,Mid.refl _ _ _⟩
  case round =>
   obtain⟨j,hj,rfl,⟨v,b1,b2,b3,b4,b4',b5,b6,b7,b8,b9⟩,hko,hmi⟩:=hrel
   obtain⟨LL,hLL⟩:∃ LL,(pfl nC c F pre++(List.range j).map fun (i:Nat)=>covW c x.2 (F+i))=LL:=⟨_,rfl⟩
   have HLL:Hid ((pfl nC c F pre++(List.range j).map fun (i:Nat)=>covW c x.2 (F+i))=LL):=hLL
   have HLn:Hid ((wz wf LL).length+1≤10000000):=by unfold Hid;rw [wz_len,← hLL,hLe.out];have:=hbd.out;omega
   have HLs:Hid (j<nC→LL.length<st):=fun q=>by rw [← hLL,hLe.out];exact hbs.out j q
   rw [hLL] at b2
   clear hLL
   obtain⟨a',cap,rfl⟩:=b2.slice
   rw [wz_len] at b1 b2 b3
   obtain⟨nL,hnL⟩:∃ nL,LL.length=nL:=⟨_,rfl⟩
   rw [hnL] at b1 b2 b3 HLs
   have HnL:Hid (LL.length=nL):=hnL
   clear hc9 hc9' hnL
   have hc6':=b6.cell
   have b8z:=b8.size
   by_cases hjn:j<nC
   ·have HS:Hid ((List.range (j+1)).map (fun (i:Nat)=>covW c x.2 (F+i))=(List.range j).map (fun (i:Nat)=>covW c x.2 (F+i))++[covW c x.2 (F+j)]):=by unfold Hid;rw [List.range_succ,List.map_append];rfl
    have B1:Hid (Boxed wr _ _ _):=b1
    have B2:Hid (OTm wr _ _ _):=b2
    have B3:Hid (∀ b,_→_):=b3
    have B4:Hid (Boxed wr _ _ _):=b4
    have B4':Hid (Boxed wr _ _ _):=b4'
    have B5:Hid (Boxed wr _ _ _):=b5
    have B6:Hid (Boxed wr _ _ _):=b6
    have B7:Hid (Mid _ _ _ _):=b7
    have B8:Hid (Below _ _ _):=b8
    clear b1 b2 b3 b4 b4' b5 b6 b7 b8
    gi_wp2
    have hls:=HLs.out hjn
    have hBz:w2.heap.size<wr.heap.size:=by omega
    refine regionLM_round (Cl [4,5,9,12] fun w'=>Boxed w' w2.heap.size 53 (.slice a' nL cap)∧Boxed w' W.heap.size 119 (.pointer (some ⟨r,0,none⟩))∧Boxed w' (W.heap.size+1) 3 (U i6 ch))
     (fun a0 a1 w'=>∃ (v':Value) (g5:Nat),a1=((((((((((((a0.put (some 64) (.slice a' nL cap)).put (some 65) (.pointer (some ⟨r,0,none⟩))).put (some 66) (U i6 ch)).put (some 67) (.slice a' nL cap)).put (some 70) (.pointer (some ⟨r,0,none⟩))).put (some 71) (U i6 x.2)).put (some 72) (U i6 (F+j))).put (some 68) (U i6 nL)).put (some 69) (U i6 (wf nL))).put (some 73) (U i6 (covW c x.2 (F+j)))).put (some 74) (.agg #[U i6 (wf nL),U i6 (covW c x.2 (F+j))])).put (some 75) (.slice (some ⟨g5,0,none⟩) 1 1)).put (some 76) v'∧KeepsOthers W' w'∧Mid lo' hi' W' w'∧QI lo' hi' w1.heap.size w2.heap.size W.heap.size (w2.heap.size+1) (w2.heap.size+1+1) r ch F G w5 W (wz wf LL++[(wf nL,covW c x.2 (F+j))]) w') (by kernel_rfl) hmx ?_ ?_
    rotate_left
    ·rintro _ w7 ⟨v',g5,rfl,r1,r2,r3⟩
     have R1:Hid (KeepsOthers W' w7):=r1
     have R2:Hid (Mid lo' hi' W' w7):=r2
     have R3:Hid (QI lo' hi' w1.heap.size w2.heap.size W.heap.size (w2.heap.size+1) (w2.heap.size+1+1) r ch F G w5 W (wz wf LL++[(wf nL,covW c x.2 (F+j))]) w7):=r3
     clear r1 r2 r3 B1 B2 B3 B4 B4' B5 B6 B7 B8 hko hmi hc6'
     gi_wp2
     go_roundw
     case rel=>exact⟨j+1,by omega,by go_num,by rw [HS.out,← List.append_assoc,HLL.out,wz_snoc,HnL.out];exact R3.out,R1.out,R2.out⟩
     case measure=>simp [intOf];omega
    obtain⟨wd,hwd⟩:∃ wd,wr.drew=wd:=⟨_,rfl⟩
    have hdd:Below wr.heap.size wr wd:=by rw [← hwd];exact (Below.refl _ _).drew
    have hkd:KeepsOthers W' wd:=by rw [← hwd];exact hko.trans (KeepsOthers.drew wr)
    rw [hwd]
    have hBd:Hid (∀ w',Below wr.heap.size wr w'→Boxed w' w2.heap.size 53 (.slice a' nL cap)∧Boxed w' W.heap.size 119 (.pointer (some ⟨r,0,none⟩))∧Boxed w' (W.heap.size+1) 3 (U i6 ch)):=fun w' hb'=>⟨boxed_below B1.out hb',boxed_below B4.out hb',boxed_below B4'.out hb'⟩
    clear hwd hc6'
    refine takeG 0 12 (v:=.slice a' nL cap) rfl rfl (by kernel_rfl) (by kernel_rfl) (by kernel_rfl) (by kernel_rfl) (by kernel_rfl) rfl rfl (fun _ _ _ h=>h) (fun _=>rfl) rfl (fun w' hw'=>by have:=hw'.1.cell;go_simp) ?_
    refine takeG 1 5 (v:=.pointer (some ⟨r,0,none⟩)) rfl rfl (by kernel_rfl) (by kernel_rfl) (by kernel_rfl) (by kernel_rfl) (by kernel_rfl) rfl rfl (fun _ _ _ h=>h) (fun _=>rfl) rfl (fun w' hw'=>by have:=hw'.2.1.cell;go_simp) ?_
    refine takeG 2 5 (v:=U i6 ch) rfl rfl (by kernel_rfl) (by kernel_rfl) (by kernel_rfl) (by kernel_rfl) (by kernel_rfl) rfl rfl (fun _ _ _ h=>h) (fun _=>rfl) rfl (fun w' hw'=>by have:=hw'.2.2.cell;go_simp) ?_
    refine takeG 3 4 (v:=.slice a' nL cap) rfl rfl (by kernel_rfl) (by kernel_rfl) (by kernel_rfl) (by kernel_rfl) (by kernel_rfl) rfl rfl (fun _ _ _ h=>h) (fun _=>rfl) rfl (fun w' hw'=>by have:=hw'.1.cell;go_simp) ?_
    refine takeG 6 9 (v:=.pointer (some ⟨r,0,none⟩)) rfl rfl (by kernel_rfl) (by kernel_rfl) (by kernel_rfl) (by kernel_rfl) (by kernel_rfl) rfl rfl (fun _ _ _ h=>h) (fun _=>rfl) rfl (fun w' hw'=>by have:=hw'.2.1.cell;go_simp) ?_
    refine takeG 7 9 (v:=U i6 x.2) rfl rfl (by kernel_rfl) (by kernel_rfl) (by kernel_rfl) (by kernel_rfl) (by kernel_rfl) rfl rfl (fun _ _ _ h=>h) (fun _=>rfl) rfl (fun w' hw'=>by go_simp) ?_
    refine takeG 8 9 (v:=U i6 (F+j)) rfl rfl (by kernel_rfl) (by kernel_rfl) (by kernel_rfl) (by kernel_rfl) (by kernel_rfl) rfl rfl (fun _ _ _ h=>h) (fun _=>rfl) rfl (fun w' hw'=>by go_simp) ?_
    refine lR 4 (Cl.of (hBd.out wd hdd)) (by kernel_rfl) rfl rfl (U i6 nL) wd (by go_simp) ?_
    refine lK 5 (Cl.of (hBd.out wd hdd)) (by kernel_rfl) rfl rfl 69 #[.pointer (some ⟨r,0,none⟩),U i6 ch,U i6 nL] (by kernel_rfl) (hWg.out wd nL hls (B8.out.trans (hdd.mono b8z))) ?_
    rintro e w6 ⟨rfl,n6,hw6⟩
    refine⟨_,rfl,?_⟩
    have hd6:Below wd.heap.size wd w6:=by rw [hw6];exact dbel _ _
    have hk6:KeepsOthers W' w6:=by rw [hw6];exact hkd.trans (show KeepsOthers wd (wd.drewN n6) from ⟨Nat.le_refl _,fun _ _ h _=>h⟩)
    have h6:Below wr.heap.size wr w6:=hdd.trans (hd6.mono hdd.size)
    clear hw6 hkd
    refine lK 9 (Cl.of (hBd.out w6 h6)) (by kernel_rfl) rfl rfl 72 #[.pointer (some ⟨r,0,none⟩),U i6 x.2,U i6 (F+j)] (by kernel_rfl) (hPl.out w6 x.2 (F+j) (B8.out.trans (h6.mono b8z))) ?_
    rintro e w6' ⟨rfl,hw6'⟩
    subst hw6'
    refine⟨_,rfl,?_⟩
    have hB6:=hBd.out _ h6
    refine lR 10 (Cl.of hB6) (by kernel_rfl) rfl rfl (.agg #[U i6 (wf nL),U i6 (covW c x.2 (F+j))]) w6' (by go_simp) ?_
    refine lR 11 (Cl.of hB6) (by kernel_rfl) rfl rfl (.slice (some ⟨w6'.heap.size,0,none⟩) 1 1) (w6'.alloc (.cells #[U i6 (wf nL),U i6 (covW c x.2 (F+j))] 92)) (by go_simp) ?_
    have hO6:=B2.out.below h6
    refine lA 12 (Cl.of (hBd.out _ (h6.trans ((bal w6' _).mono h6.size)))) (by kernel_rfl) rfl rfl (.tmp 64) (.tmp 75) rfl w1.heap.size (.slice a' nL cap) (wz wf LL) (by kernel_rfl) (hO6.below (bal _ _)) w6'.heap.size (wf nL) (covW c x.2 (F+j)) (by kernel_rfl) (term_one w6' _ _) HLn.out (by have:=h6.size;simp;omega) ?_
    intro v' w8 own' gr' hat'
    obtain⟨a8,cap8,rfl⟩:=own'.slice
    obtain⟨n8,hn8⟩:∃ n,(wz wf LL++[(wf nL,covW c x.2 (F+j))]).length=n:=⟨_,rfl⟩
    rw [hn8] at own' hat' ⊢
    obtain⟨q1,q2,q3,q4⟩:=QI.app (W1:=w6') hB6.1 hO6 B3.out hB6.2.1 hB6.2.2 (boxed_below B5.out h6) (boxed_below B6.out h6) (B7.out.trans (Mid.later h6)) (B8.out.trans (h6.mono b8z)) (Nat.le_trans b9 h6.size) hbl own' gr' hat'
    have hc7:=q1.cell
    have hf7:=q1.frozen
    refine lT 13 (Cl.all (by kernel_rfl)) (by kernel_rfl) rfl rfl (w8.setCell ⟨w2.heap.size,0,none⟩ (.slice a8 n8 cap8)) (by go_simp) ?_
    refine doneL (Cl.all (by kernel_rfl)) (by kernel_rfl) ?_ _
    exact⟨.slice a8 n8 cap8,w6'.heap.size,by kernel_rfl,hk6.trans q2,(hmi.trans (Mid.later h6)).trans q3,q4⟩
   ·obtain rfl:j=nC:=by omega
    clear HLs
    gi_wp2
    exact⟨hko.from _,hmi,by show QI lo' hi' w1.heap.size w2.heap.size W.heap.size (w2.heap.size+1) (w2.heap.size+1+1) r ch F G w5 W (wz wf (pfl j c F (pre++[x]))) wr;rw [pfl_snoc,HLL.out];exact⟨_,b1,b2,b3,b4,b4',b5,b6,b7,b8,b9⟩⟩
theorem Shp.slice {w:World} {base:Nat} {v:Value} {L:List (Int×Int×Int)} (h:Shp w base v L):∃ a cap,v=.slice a L.length cap:=by
 rcases h with ⟨rfl,rfl⟩ | ⟨g,cap,cur,rfl,-⟩
 ·exact⟨_,_,rfl⟩
 ·exact⟨_,_,rfl⟩
theorem Shp.below {w w':World} {base:Nat} {v:Value} {L:List (Int×Int×Int)} (h:Shp w base v L) (q:Below w.heap.size w w'):Shp w' base v L:=by
 rcases h with h | ⟨g,cap,cur,h1,h2,h3,h4⟩
 ·exact .inl h
 ·exact .inr ⟨g,cap,cur,h1,h2,(q.block _ (lt_of_heap h3)).trans h3,h4⟩
theorem Shp.base {w:World} {b c:Nat} {v:Value} {L:List (Int×Int×Int)} (h:Shp w b v L) (q:c≤b):Shp w c v L:=by
 rcases h with h | ⟨g,cap,cur,h1,h2,h3⟩
 ·exact .inl h
 ·exact .inr ⟨g,cap,cur,h1,by omega,h3⟩
theorem Shp.set3 {w:World} {N:Nat} {v a b c:Value} {L:List (Int×Int×Int)} (h:Shp w (N+1) v L):Shp (((w.setCell ⟨N,0,none⟩ a).setCell ⟨N,1,none⟩ b).setCell ⟨N,2,none⟩ c) N v L:=by
 rcases h with h | ⟨g,cap,cur,h1,h2,h3,h4⟩
 ·exact .inl h
 ·refine .inr ⟨g,cap,cur,h1,by omega,?_,h4⟩
  rw [Below.heap_setCell _ _ _ _ (show g≠N by omega),Below.heap_setCell _ _ _ _ (show g≠N by omega),Below.heap_setCell _ _ _ _ (show g≠N by omega)]
  exact h3
theorem shapes_any (h w c lo hi ot:Int) (oa:Option Addr) (on oc:Nat) (O:Nat→Nat→Int) (W:World) (hM:MRow W oa on oc O) :
  Calls Tryz.prog 36 #[.agg #[U i6 h,U i6 w,U i6 c,U i6 lo,U i6 hi,Sl oa on oc,U i6 ot]] W fun e w'=>∃ v,e=.returned (.tuple #[v,.agg #[U i6 (gtR O h w c lo hi ot on).1,U i6 (gtR O h w c lo hi ot on).2.1,U i6 0]])∧Shp w' W.heap.size v (gtR O h w c lo hi ot on).2.2.1∧Below W.heap.size W w':=by
 have hG:Hid (∀ W,MRow W oa on oc O→_):=fun W hW=>gothrough_any h w c lo hi ot oa on oc O W hW
 obtain⟨Re,Ra,RL,Rw,hR⟩:∃ Re Ra RL Rw,gtR O h w c lo hi ot on=(Re,Ra,RL,Rw):=⟨_,_,_,_,rfl⟩
 rw [hR] at hG ⊢
 simp only
 have hM2:Hid (MRow W oa on oc O):=hM
 clear hR hM
 go_enter Tryz.func36,Tryz.ntmps36
 go_wp2_with fail
 refine Calls.mono (hG.out _ (hM2.out.below (St.start W).new.new.below)) ?_
 rintro e w1 ⟨v,rfl,hS,hb⟩
 obtain⟨va,vc,rfl⟩:=hS.slice
 have s1:=((St.start W).new.new).call hb
 simp only [World.size_alloc] at s1
 obtain⟨c1,f1,z1,c2,f2,z2,-⟩:=s1.rules
 have hS2:Hid (Shp w1 W.heap.size (.slice va RL.length vc) RL):=hS.base (by simp;omega)
 have hs1:Hid (Below W.heap.size W w1):=s1.below
 have hlt:Hid (∀ g,W.heap.size+1+1≤g→g≠W.heap.size+1):=fun g hg=>by omega
 have hS3:Hid (Shp w1 (W.heap.size+1+1) (.slice va RL.length vc) RL):=by unfold Hid;simpa using hS
 clear hb hS s1
 go_wp2
 go_region_law (fail)
 all_goals
  go_wp2
  exact bodyPost_ret (v:=.tuple #[Sl va RL.length vc,.agg #[U i6 Re,U i6 Ra,U i6 0]]) (by simp [results,Tryz.results36,go_sem, *]) rfl ⟨_,rfl,(by first | exact ((hS3.out.set3).below (bt (bal _ _) (bal _ _))).base (by omega) | exact ((hS3.out.set3).below (bt (bt (bal _ _) (bal _ _)) (Below.refl _ _).drew)).base (by omega)),(by first | exact al2b (set3b hs1.out (by omega)) _ _ | exact (al2b (set3b hs1.out (by omega)) _ _).drew)⟩
end Go.Proofs.YtccoanknofhmaaaGreat
