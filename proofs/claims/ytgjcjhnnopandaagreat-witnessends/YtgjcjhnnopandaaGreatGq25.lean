/- What is known of what the four calls of package bound take. An op alone, in plain numbers: whatever its kind is, the model of it and of the tensor that it reads is well-formed. What Total, Run, Part and Product of package bound return. The walks of Total, Run, Part and Product of package bound. What Total, Run, Part and Product answer of a model: the error, or the hull. Sums of weights, in plain numbers, and what they say at once. What the answers of package bound hold, in plain numbers: one another; over wider spans; Quick. -/
import Derived.Test.YtgjcjhnnopandaaGreatGq12
import Derived.Test.YtgjcjhnnopandaaGreatGq24
import Derived.Deep.RegionWith
import Derived.Deep.DeepCutAuto
namespace Go.Proofs.YtgjcjhnnopandaaGreat
open Go.Value renaming int → U, slice → Sl
open Go.IntKind renaming i64 → i6
set_option maxRecDepth 100000
set_option maxHeartbeats 16000000
open Go.ChangeShapes Go.WideShapes Go.ChangeAt Go.RowKit Go.Shelf
set_option linter.unusedVariables false
theorem ftot {bi:Int} (hbi:-2147483648≤bi∧bi≤2147483647) {E:List (Int×Int)} (hE:Rb E) (hl:E.length≤512):∀ x∈[suS (bi,bi) E],Vd 10000000000 x :=
 fun x hx=>by simp at hx;subst hx;exact suS_vd hE hl (vd_bi hbi)
theorem fprt {d:Nat} {E:List (Int×Int)} (hE:Rb E) (hl:E.length≤512):∀ x∈itL d E,Vd 10000000000 x:=itT_vd hE hl _
theorem piT_it {d:Nat} (hd:0<d) (R:Nat→List (Int×Int)) (N:Nat) (hN:0<N) (hR:0<(R 0).length):huA (piT (fun E=>paL d E++E) R N)=huA (piT (fun E=>itL d E) R N):=by
 refine huA_eq ?_ fun x=>?_
 ·intro h
  cases e:R 0 with
  | nil=>rw [e] at hR;cases hR
  | cons y l =>
   have:y∈piT (fun E=>paL d E++E) R N:=mem_piT.2 ⟨0,hN,List.mem_append.2 (.inr (by rw [e];exact List.mem_cons_self))⟩
   rw [h] at this
   cases this
 ·rw [mem_piT,mem_piT]
  constructor
  ·rintro⟨k,hk,h⟩;exact⟨k,hk,(mem_itL hd).2 h⟩
  ·rintro⟨k,hk,h⟩;exact⟨k,hk,(mem_itL hd).1 h⟩
open Go.ChangeShapes Go.WideShapes Go.ChangeAt Go.RowKit
theorem op_al {k a b m kh kw sh sw tp lf bt rt:Int} {lw lb:Nat} {sm ss um us z p lo hi:Int} {wk:Int} {L:List (Int×Int×Int)} (hx:tkE k a b m kh kw sh sw tp lf bt rt lw lb sm ss um us z p lo hi L wk=0) (hwk:0≤wk) (hv:∀ s∈L,vS3 s=true) {h w c:Int} (hA:ShA L a=(h,w,c)) :
  tkE k 0 0 m kh kw sh sw tp lf bt rt lw lb sm ss um us z p lo hi [(h,w,c)] 0=0:=by
 obtain⟨-,-,t3,⟨a0,a1⟩,hk,t6⟩:=tk_0 hx hv
 have h1:opE k a b m kh kw sh sw tp lf bt rt lw lb sm ss um us z p lo hi L=0:=by
  unfold tkE at hx
  by_cases q:opE k a b m kh kw sh sw tp lf bt rt lw lb sm ss um us z p lo hi L≠0
  ·rw [if_pos q] at hx;exact hx
  ·exact Decidable.not_not.1 q
 rw [hA] at t6 t3
 unfold opE at h1
 rw [hA] at h1
 by_cases q1:fmE k a b L.length (ozB k b m kh kw sh sw tp lf bt rt lw lb sm ss um us z p)≠0
 ·rw [if_pos q1] at h1;exact absurd h1 q1
 rw [if_neg q1] at h1
 obtain⟨-,-,-,hoz⟩:=fmE_0 (Decidable.not_not.1 q1)
 simp only at h1 t6
 rw [t6,if_neg (by decide)] at h1
 by_cases q3:k=6∧(h,w,c)≠ShA L b
 ·rw [if_pos q3] at h1;cases h1
 rw [if_neg q3] at h1
 by_cases q2:rdB k=true∧512<st3 k kh kw (h,w,c)
 ·rw [if_pos q2] at h1;cases h1
 rw [if_neg q2] at h1
 have hoz0:ozB k 0 m kh kw sh sw tp lf bt rt lw lb sm ss um us z p=true:=by
  have:=of_decide_eq_true hoz
  refine decide_eq_true ⟨fun q=>⟨rfl,(this.1 q).2⟩,this.2⟩
 have e:ShA [(h,w,c)] 0=(h,w,c):=rfl
 have hf:fmE k 0 0 (([(h,w,c)]:List (Int×Int×Int)).length:Int) (ozB k 0 m kh kw sh sw tp lf bt rt lw lb sm ss um us z p)=0:=by
  unfold fmE
  rw [if_neg (by omega),if_neg (by simp),if_neg (by simp),hoz0,if_neg (by decide)]
 have ho:opE k 0 0 m kh kw sh sw tp lf bt rt lw lb sm ss um us z p lo hi [(h,w,c)]=0:=by
  unfold opE
  rw [e]
  simp only
  rw [hf,if_neg (by decide),t6,if_neg (by decide),if_neg (by simp),if_neg q2]
  exact h1
 unfold tkE
 rw [ho,if_neg (by decide),e,if_neg (by omega)]
theorem al_of {O:Nat→Nat→Int} {h w c lo hi ot t wk:Int} {on:Nat} {L:List (Int×Int×Int)} (q:gtR O h w c lo hi ot on=(0,t,L,wk)) {i:Nat} (hi0:i<on) :
  (0≤O i 1∧O i 1≤(i:Int))∧∀ x y v,L.getD (O i 1).toNat (0,0,0)=(x,y,v)→∃ Ra RL Rw,gtR (fun _=>oL (O i 0) 0 0 (O i 3) (O i 4) (O i 5) (O i 6) (O i 7) (O i 8) (O i 9) (O i 10) (O i 11) (O i 12) (O i 13) (O i 14) (O i 15) (O i 16) (O i 17) (O i 18) (O i 19) (O i 20) (O i 21)) x y v 0 0 0 1=(0,Ra,RL,Rw):=by
 obtain⟨hx,rfl,q2⟩:=gtR_st q
 clear q
 have q:=q2
 have hv:vS3 (h,w,c)=true:=(ouE_0 hx).1
 obtain⟨wi,g1,-⟩:=stG_pre hv on L wk q (i+1) (by omega)
 obtain⟨L0,wk0,h0,hx0,hL,-⟩:=stG_step g1
 obtain⟨w2,g2,g3,-⟩:=stG_pre hv on L wk q i (by omega)
 rw [g2] at h0
 simp only [Prod.mk.injEq,true_and] at h0
 obtain⟨rfl,rfl⟩:=h0
 obtain⟨i1,i2,-⟩:=stG_inv hv i _ _ g2
 obtain⟨-,-,-,⟨a0,a1⟩,-,-⟩:=tk_0 hx0 i2
 obtain⟨j,hj⟩:=Int.eq_ofNat_of_zero_le a0
 have a1':=a1
 rw [hj] at a1
 refine⟨⟨a0,by rw [i1] at a1';omega⟩,fun x y v hA=>?_⟩
 have e1:ShA (L.take (i+1)) (j:Int)=ShA L (j:Int):=ShA_take (by omega)
 have hA':ShA (L.take (i+1)) (O i 1)=(x,y,v):=by rw [hj,e1];unfold ShA;rw [← hj];exact hA
 have hal:=op_al hx0 g3 i2 hA'
 have hvA:vS x y v=true:=by
  have:=i2 _ (ShA_mem (L:=L.take (i+1)) (show j<(L.take (i+1)).length by omega))
  rw [hj] at hA'
  rw [hA'] at this
  exact this
 have hou:ouE x y v 0 0 0 1=0:=by
  unfold ouE
  rw [hvA,if_neg (by decide),show rgB 0 0=true by decide,if_neg (by decide),if_neg (by decide),if_neg (by decide)]
 have hT:oT (oL (O i 0) 0 0 (O i 3) (O i 4) (O i 5) (O i 6) (O i 7) (O i 8) (O i 9) (O i 10) (O i 11) (O i 12) (O i 13) (O i 14) (O i 15) (O i 16) (O i 17) (O i 18) (O i 19) (O i 20) (O i 21)) [(x,y,v)] 0=0:=hal
 rw [gtR_of hou,stG_ok (i:=0) (L:=[(x,y,v)]) (wk:=0) rfl hT]
 exact⟨_,_,_,rfl⟩
def hbT (bi:Int) (R:Nat→List (Int×Int)) (N:Nat):Int×Int:=huA (piT (fun E=>[suS (bi,bi) E]) R N)
def hbR (bi:Int) (R:Nat→List (Int×Int)) (N:Nat):Int×Int:=huA (piT (fun E=>ruL (bi,bi) E) R N)
def hbP (R:Nat→List (Int×Int)) (N:Nat):Int×Int:=huA (piT (fun E=>E) R N)
def hbD (d:Nat) (R:Nat→List (Int×Int)) (N:Nat):Int×Int:=huA (piT (fun E=>paL d E++E) R N)
theorem bfacts {h w c lo hi ot ch:Int} {oa:Option Addr} {on oc:Nat} {O:Nat→Nat→Int} {Z B:Nat→List Int} {W:World} (hL:LRow W oa on oc O Z B) (RL:List (Int×Int×Int)) (Rw:Int) (hR:gtR O h w c lo hi ot on=(0,0,RL,Rw)) (i:Nat) (x:Addr) (wa:Option Addr) (lw cw:Nat) (ba:Option Addr) (lb cb:Nat) (x0 y0 z0 H V C:Int) (hF:Fnd W oa on O Z B RL i x wa lw cw ba lb cb x0 y0 z0 H V C) (hch:1≤ch∧ch≤C) :
  Opd (O i 0) (O i 2) (O i 3) (O i 4) (O i 5) (O i 6) (O i 7) (O i 8) (O i 9) (O i 10) (O i 11) lw lb (O i 14) (O i 15) (O i 16) (O i 17) (O i 18) (O i 19) (O i 20) (O i 21) x0 y0 z0 H V C∧O i 0≤4∧lw*2≤140737488351232∧lb*4≤140737488351232∧(-128≤O i 19∧O i 19≤127)∧(-2147483648≤biA (O i 0) ch (B i)∧biA (O i 0) ch (B i)≤2147483647)∧(1≤H*V∧H*V≤1048576):=by
 have hSit:=hF.2.2.2.2.2.2.2.2.2.1
 have hb:=hF.2.2.2.2.2.2.1.2.2.2.1
 obtain⟨ja,jb,e1,hja,e3,hjb,hO⟩:=opd_of hR hF.1
 have hopd:=(hO x0 y0 z0 H V C (by rw [← hF.2.2.2.2.2.2.2.1,e1,Int.toNat_natCast]) hF.2.2.2.2.2.2.2.2.1).1
 rw [hF.2.2.1,hF.2.2.2.1,Int.toNat_natCast,Int.toNat_natCast] at hopd
 obtain⟨wa',lw',cw',ba',lb',cb',e12,e13,-,-,-,q1,q2⟩:=hL.2.2.2 x hF.2.1 i hF.1
 have e4:lw'=lw:=by have:=hF.2.2.1;omega
 have e5:lb'=lb:=by have:=hF.2.2.2.1;omega
 subst e4 e5
 have hv:=vS_bd hSit.2.2.1
 have hrz:=hopd.rz
 unfold rzB vlB at hrz;simp at hrz
 exact⟨hopd,hSit.1.2,q1,q2,⟨hrz.2.1,hrz.2.2⟩,biA_bd hb,hv.1⟩
theorem bopd {h w c lo hi ot ch:Int} {oa:Option Addr} {on oc:Nat} {O:Nat→Nat→Int} {Z B:Nat→List Int} {W:World} (hL:LRow W oa on oc O Z B) (RL:List (Int×Int×Int)) (Rw:Int) (hR:gtR O h w c lo hi ot on=(0,0,RL,Rw)) (i:Nat) (x:Addr) (wa:Option Addr) (lw cw:Nat) (ba:Option Addr) (lb cb:Nat) (x0 y0 z0 H V C:Int) (hF:Fnd W oa on O Z B RL i x wa lw cw ba lb cb x0 y0 z0 H V C) (hch:1≤ch∧ch≤C) :
  Opd (O i 0) 0 (O i 3) (O i 4) (O i 5) (O i 6) (O i 7) (O i 8) (O i 9) (O i 10) (O i 11) lw lb (O i 14) (O i 15) (O i 16) (O i 17) (O i 18) (O i 19) (O i 20) (O i 21) x0 y0 z0 H V C:=by
 obtain⟨s,hk,-⟩:=bfacts hL RL Rw hR i x wa lw cw ba lb cb x0 y0 z0 H V C hF hch
 have h0:O i 2=0:=((of_decide_eq_true s.oz).1 (by omega)).1
 rw [h0] at s
 exact s
theorem bfind_m (h w c lo hi ot:Int) (oa:Option Addr) (on oc:Nat) (O:Nat→Nat→Int) (Z B:Nat→List Int) (W:World) (hL:LRow W oa on oc O Z B) (ch:Int) (RL:List (Int×Int×Int)) (Rw:Int) (hR:gtR O h w c lo hi ot on=(0,0,RL,Rw)) (i:Nat) (x:Addr) (wa:Option Addr) (lw cw:Nat) (ba:Option Addr) (lb cb:Nat) (x0 y0 z0 H V C:Int) (hF:Fnd W oa on O Z B RL i x wa lw cw ba lb cb x0 y0 z0 H V C) (hch:1≤ch∧ch≤C) (slo shi:Int) (N:Nat) (hN:(siL (O i 0) (O i 4) (O i 5) (O i 6) (O i 7) (O i 8) (O i 9) (O i 10) (O i 11) x0 y0 z0 ch 0 (Z i)).length=N) (bi:Int) (hbi:biA (O i 0) ch (B i)=bi):∀ W',Below W.heap.size W W'→Calls Tryz.prog 36 #[.agg #[U i6 h,U i6 w,U i6 c,U i6 lo,U i6 hi,Sl oa on oc,U i6 ot],U i6 ((i:Int)+1),U i6 ch,.agg #[U i6 slo,U i6 shi]] W' fun e w'=>((vbB slo shi=false∧e=.returned (.tuple #[.agg #[U i6 0,U i6 0,Sl none 0 0,U i6 0,U i6 0,U i6 0,U i6 0,U i6 0,U i6 0,U i6 0,U i6 0,U i6 0,U i6 0,Sl none 0 0,U i6 0],U i6 30]))∨(vbB slo shi=true∧∃ (g0:Nat) (fa:Option Addr) (fc:Nat),e=.returned (.tuple #[.agg #[U i6 ch,U i6 (H*V),Sl fa N fc,U i6 bi,U i6 slo,U i6 shi,U i6 (O i 19),U i6 (O i 19),U i6 x0,U i6 y0,U i6 z0,U i6 0,U i6 0,Sl (some ⟨g0,0,none⟩) 1 1,U i6 0],U i6 0])∧w'.heap[g0]? = some (.cells #[U i6 (O i 0),U i6 0,U i6 0,U i6 (O i 3),U i6 (O i 4),U i6 (O i 5),U i6 (O i 6),U i6 (O i 7),U i6 (O i 8),U i6 (O i 9),U i6 (O i 10),U i6 (O i 11),Sl wa lw cw,Sl ba lb cb,U i6 (O i 14),U i6 (O i 15),U i6 (O i 16),U i6 (O i 17),U i6 (O i 18),U i6 (O i 19),U i6 (O i 20),U i6 (O i 21)] 44 (0,0))∧W'.heap.size≤g0∧TV w' (.slice fa N fc) (siL (O i 0) (O i 4) (O i 5) (O i 6) (O i 7) (O i 8) (O i 9) (O i 10) (O i 11) x0 y0 z0 ch 0 (Z i))∧∀ a,fa=some a→a.block<w'.heap.size))∧Below W'.heap.size W' w':=fun W' hb=>by
 obtain⟨-,hk,q1,q2,-,-,hv⟩:=bfacts hL RL Rw hR i x wa lw cw ba lb cb x0 y0 z0 H V C hF hch
 have s:=bopd hL RL Rw hR i x wa lw cw ba lb cb x0 y0 z0 H V C hF hch
 subst hbi
 have hF':=hF.below hb
 obtain⟨h1,rfl,h3,h4,h5,h6,h7,h8,h9,h10,h11,h12⟩:=hF'
 refine (bfind_r h w c lo hi ot ch x on oc i O W' (hL.below hb).m h1 wa lw cw ba lb cb h5 Rw RL hR h11.1 h11.2 x0 y0 z0 H V C h8 h9 ⟨by omega,by omega⟩ slo shi (biA (O i 0) ch (B i)) 0 (siL (O i 0) (O i 4) (O i 5) (O i 6) (O i 7) (O i 8) (O i 9) (O i 10) (O i 11) x0 y0 z0 ch 0 (Z i)) N hN
  (fun W'' g0 hb' _ hg=>bof1 (O i 0) (O i 1) 0 (O i 3) (O i 4) (O i 5) (O i 6) (O i 7) (O i 8) (O i 9) (O i 10) (O i 11) wa lw cw ba lb cb (O i 14) (O i 15) (O i 16) (O i 17) (O i 18) (O i 19) (O i 20) (O i 21) x0 y0 z0 H V C s hk (Z i) (B i) W'' (h6.below hb') (h7.below hb') q1 q2 g0 hg ch 0 hch ⟨by omega,by omega⟩)).mono ?_
 rintro e w' ⟨hh,hb2⟩
 refine⟨?_,hb2⟩
 rcases hh with ⟨q,-⟩ | ⟨-,q⟩ | ⟨-,q⟩
 ·exact absurd rfl q
 ·exact .inl q
 ·exact .inr q
theorem bhull_m (h w c lo hi ot:Int) (oa:Option Addr) (on oc:Nat) (O:Nat→Nat→Int) (Z B:Nat→List Int) (W:World) (hL:LRow W oa on oc O Z B) (ch:Int) (RL:List (Int×Int×Int)) (Rw:Int) (hR:gtR O h w c lo hi ot on=(0,0,RL,Rw)) (i:Nat) (x:Addr) (wa:Option Addr) (lw cw:Nat) (ba:Option Addr) (lb cb:Nat) (x0 y0 z0 H V C:Int) (hF:Fnd W oa on O Z B RL i x wa lw cw ba lb cb x0 y0 z0 H V C) (hch:1≤ch∧ch≤C) (slo shi:Int) (hs:vbB slo shi=true) (N:Nat) (bi:Int) (W':World) (hb:Below W.heap.size W W') (g0 q:Nat) (fa:Option Addr) (fc:Nat) (hg:W'.heap[g0]? = some (.cells #[U i6 (O i 0),U i6 0,U i6 0,U i6 (O i 3),U i6 (O i 4),U i6 (O i 5),U i6 (O i 6),U i6 (O i 7),U i6 (O i 8),U i6 (O i 9),U i6 (O i 10),U i6 (O i 11),Sl wa lw cw,Sl ba lb cb,U i6 (O i 14),U i6 (O i 15),U i6 (O i 16),U i6 (O i 17),U i6 (O i 18),U i6 (O i 19),U i6 (O i 20),U i6 (O i 21)] 44 (0,0))) (hq:W'.heap[q]? = some (.cells #[U i6 ch,U i6 (H*V),Sl fa N fc,U i6 bi,U i6 slo,U i6 shi,U i6 (O i 19),U i6 (O i 19),U i6 x0,U i6 y0,U i6 z0,U i6 0,U i6 0,Sl (some ⟨g0,0,none⟩) 1 1,U i6 0] 95 (0,0))) (hF0:TV W' (.slice fa N fc) (siL (O i 0) (O i 4) (O i 5) (O i 6) (O i 7) (O i 8) (O i 9) (O i 10) (O i 11) x0 y0 z0 ch 0 (Z i))) (hfa:∀ a,fa=some a→a.block<W'.heap.size)
  (F:List (Int×Int)→List (Int×Int)) (gf:Nat) (cl:Array Value) (eg:∀ args w,(callFunc gf args).run Tryz.prog w=.ok (.enter gf args) w)
  (hP:Pik W' gf cl F)
  (hFF:∀ E,Rb E→0<E.length→E.length≤512→∀ x∈F E,Vd 10000000000 x) :
  Calls Tryz.prog 37 #[.pointer (some ⟨q,0,none⟩),.func (.func gf) #[] cl] W' fun e w'=>e=.returned (.agg #[U i6 (huA (piT F (fun (j:Nat)=>enL slo shi (O i 19) (siL (O i 0) (O i 4) (O i 5) (O i 6) (O i 7) (O i 8) (O i 9) (O i 10) (O i 11) x0 y0 z0 ch (j:Int) (Z i))) (H*V).toNat)).1,U i6 (huA (piT F (fun (j:Nat)=>enL slo shi (O i 19) (siL (O i 0) (O i 4) (O i 5) (O i 6) (O i 7) (O i 8) (O i 9) (O i 10) (O i 11) x0 y0 z0 ch (j:Int) (Z i))) (H*V).toNat)).2])∧Below W'.heap.size W' w':=by
 obtain⟨-,hk,q1,q2,hp,-,-⟩:=bfacts hL RL Rw hR i x wa lw cw ba lb cb x0 y0 z0 H V C hF hch
 have s:=bopd hL RL Rw hR i x wa lw cw ba lb cb x0 y0 z0 H V C hF hch
 have hF':=hF.below hb
 exact bhull_of (O i 0) (O i 1) 0 (O i 3) (O i 4) (O i 5) (O i 6) (O i 7) (O i 8) (O i 9) (O i 10) (O i 11) wa lw cw ba lb cb (O i 14) (O i 15) (O i 16) (O i 17) (O i 18) (O i 19) (O i 20) (O i 21) x0 y0 z0 H V C s hk (Z i) (B i) W' hF'.2.2.2.2.2.1 hF'.2.2.2.2.2.2.1 q1 q2 g0 hg ch hch fa N fc bi slo shi hF0 hfa (vbB_yes hs) hp q hq F gf cl eg hP hFF
theorem balone {k m kh kw sh sw tp lf bt rt:Int} {wa:Option Addr} {lw wc:Nat} {ba:Option Addr} {lb bc:Nat} {sm ss um us z p lo hi:Int} {W:World} {zs bs:List Int} (hZ:IRow .i16 W wa lw wc zs) (hB:IRow .i32 W ba lb bc bs) (hlw:lw*2≤140737488351232) (hlb:lb*4≤140737488351232) {g:Nat} (hg:W.heap[g]? = some (.cells #[U i6 k,U i6 0,U i6 0,U i6 m,U i6 kh,U i6 kw,U i6 sh,U i6 sw,U i6 tp,U i6 lf,U i6 bt,U i6 rt,Sl wa lw wc,Sl ba lb bc,U i6 sm,U i6 ss,U i6 um,U i6 us,U i6 z,U i6 p,U i6 lo,U i6 hi] 44 (0,0))) :
  LRow W (some ⟨g,0,none⟩) 1 1 (fun _=>oL k 0 0 m kh kw sh sw tp lf bt rt (lw:Int) (lb:Int) sm ss um us z p lo hi) (fun _=>zs) (fun _=>bs):=by
 have hcell:∀ q v,[Value.int .i64 k,U i6 0,U i6 0,U i6 m,U i6 kh,U i6 kw,U i6 sh,U i6 sw,U i6 tp,U i6 lf,U i6 bt,U i6 rt,Sl wa lw wc,Sl ba lb bc,U i6 sm,U i6 ss,U i6 um,U i6 us,U i6 z,U i6 p,U i6 lo,U i6 hi][q]? = some v→W.cell? ((⟨g,0,none⟩:Addr).add q)=some v:=blcells hg (fun q v hq=>by simpa using hq)
 have e0:((⟨g,0,none⟩:Addr).add (0*22))=⟨g,0,none⟩:=by rw [Addr.add_lit]
 refine⟨Nat.le_refl _,by unfold maxLen;omega,(fun h=>by cases h),fun x hx i hi=>?_⟩
 cases hx
 obtain rfl:i=0:=by omega
 rw [e0]
 exact⟨wa,lw,wc,ba,lb,bc,rfl,rfl,hcell,hZ,hB,hlw,hlb⟩
theorem btot_e (h w c lo hi ot op ch:Int) (oa:Option Addr) (on oc:Nat) (W:World) (slo shi:Int) (E:Int) (hE:E≠0) (hFd:∀ W',Below W.heap.size W W'→Calls Tryz.prog 36 #[.agg #[U i6 h,U i6 w,U i6 c,U i6 lo,U i6 hi,Sl oa on oc,U i6 ot],U i6 op,U i6 ch,.agg #[U i6 slo,U i6 shi]] W' fun e w'=>e=.returned (.tuple #[.agg #[U i6 0,U i6 0,Sl none 0 0,U i6 0,U i6 0,U i6 0,U i6 0,U i6 0,U i6 0,U i6 0,U i6 0,U i6 0,U i6 0,Sl none 0 0,U i6 0],U i6 E])∧Below W'.heap.size W' w'):Calls Tryz.prog 15 #[.agg #[U i6 h,U i6 w,U i6 c,U i6 lo,U i6 hi,Sl oa on oc,U i6 ot],U i6 op,U i6 ch,.agg #[U i6 slo,U i6 shi]] W fun e w'=>e=.returned (.tuple #[.agg #[U i6 0,U i6 0],U i6 E])∧Below W.heap.size W w':=by
 have HF:Hid (∀ W',Below W.heap.size W W'→_):=hFd
 have hE':(E == 0)=false:=by simp [hE]
 have s0:=(((St.start W).new (c:=#[U i6 h,U i6 w,U i6 c,U i6 lo,U i6 hi,Sl oa on oc,U i6 ot]) (t:=26)).new (c:=#[U i6 slo,U i6 shi]) (t:=28)).new (c:=#[U i6 0,U i6 0]) (t:=28)
 simp only [World.size_alloc] at s0
 clear hFd
 go_enter Tryz.func15,Tryz.ntmps15
 go_wp2_with fail
 refine (HF.out _ s0.below).mono ?_
 rintro e w1 ⟨rfl,hb⟩
 have s1:=(s0.call hb).new (c:=#[U i6 0,U i6 0,Sl none 0 0,U i6 0,U i6 0,U i6 0,U i6 0,U i6 0,U i6 0,U i6 0,U i6 0,U i6 0,U i6 0,Sl none 0 0,U i6 0]) (t:=95)
 have S1:Hid (St W _ _):=s1
 clear hb s0 HF
 go_upto_region 2 with (refine wpList_st_new rfl 95 (.tmp 10) (.tmp 18) rfl w1 _ #[U i6 0,U i6 0,Sl none 0 0,U i6 0,U i6 0,U i6 0,U i6 0,U i6 0,U i6 0,U i6 0,U i6 0,U i6 0,U i6 0,Sl none 0 0,U i6 0] rfl rfl (by kernel_rfl) rfl (by simp [Value.oneCell']) ?_)
 obtain⟨w2,hw2⟩:∃ w2,w1.alloc (.cells #[U i6 0,U i6 0,Sl none 0 0,U i6 0,U i6 0,U i6 0,U i6 0,U i6 0,U i6 0,U i6 0,U i6 0,U i6 0,U i6 0,Sl none 0 0,U i6 0] 95)=w2:=⟨_,rfl⟩
 rw [hw2] at s1 S1 ⊢
 obtain⟨-,-,-,c1,f1,z1,-⟩:=s1.rules
 have HB:Hid (Below W.heap.size W _):=s1.tail.out2 (i:=0) (j:=1) (u:=U i6 0) (v:=U i6 0)
 clear s1 hw2
 go_wp2
 exact bodyPost_ret (v:=.tuple #[.agg #[U i6 0,U i6 0],U i6 E]) (by simp [results,Tryz.results15,go_sem,c1]) rfl ⟨rfl,HB.out⟩
theorem btot_w (h w c lo hi ot op ch:Int) (oa:Option Addr) (on oc:Nat) (W:World) (slo shi:Int) (n bi p x0 y0 z0:Int) (N:Nat) (hN:N≤512) (op0:Array Value) (TL:List (Int×Int)) (X Y:Int) (hFd:∀ W',Below W.heap.size W W'→Calls Tryz.prog 36 #[.agg #[U i6 h,U i6 w,U i6 c,U i6 lo,U i6 hi,Sl oa on oc,U i6 ot],U i6 op,U i6 ch,.agg #[U i6 slo,U i6 shi]] W' fun e w'=>(∃ (g0:Nat) (fa:Option Addr) (fc:Nat),e=.returned (.tuple #[.agg #[U i6 ch,U i6 n,Sl fa N fc,U i6 bi,U i6 slo,U i6 shi,U i6 p,U i6 p,U i6 x0,U i6 y0,U i6 z0,U i6 0,U i6 0,Sl (some ⟨g0,0,none⟩) 1 1,U i6 0],U i6 0])∧w'.heap[g0]? = some (.cells op0 44 (0,0))∧W'.heap.size≤g0∧TV w' (.slice fa N fc) TL∧∀ a,fa=some a→a.block<w'.heap.size)∧Below W'.heap.size W' w') (gf:Nat)
  (hgf:gf=38)
  (hHl:∀ W' (g0 q:Nat) (fa:Option Addr) (fc:Nat),Below W.heap.size W W'→W'.heap[g0]? = some (.cells op0 44 (0,0))→W'.heap[q]? = some (.cells #[U i6 ch,U i6 n,Sl fa N fc,U i6 bi,U i6 slo,U i6 shi,U i6 p,U i6 p,U i6 x0,U i6 y0,U i6 z0,U i6 0,U i6 0,Sl (some ⟨g0,0,none⟩) 1 1,U i6 0] 95 (0,0))→TV W' (.slice fa N fc) TL→(∀ a,fa=some a→a.block<W'.heap.size)→Calls Tryz.prog 37 #[.pointer (some ⟨q,0,none⟩),.func (.func gf) #[] #[.pointer (some ⟨q,0,none⟩)]] W' fun e w'=>e=.returned (.agg #[U i6 X,U i6 Y])∧Below W'.heap.size W' w') :
  Calls Tryz.prog 15 #[.agg #[U i6 h,U i6 w,U i6 c,U i6 lo,U i6 hi,Sl oa on oc,U i6 ot],U i6 op,U i6 ch,.agg #[U i6 slo,U i6 shi]] W fun e w'=>e=.returned (.tuple #[.agg #[U i6 X,U i6 Y],U i6 0])∧Below W.heap.size W w':=by
 have hmf:∀ (fn:Fn) (first cap:Array Value) (w:World),(Instr.makeFunc fn first cap).run Tryz.prog w=.ok (.func fn first cap) w:=fun _ _ _ _=>rfl
 have HF:Hid (∀ W',Below W.heap.size W W'→_):=hFd
 have HH:Hid (∀ W' (g0 q:Nat) (fa:Option Addr) (fc:Nat),Below W.heap.size W W'→W'.heap[g0]? = some (.cells op0 44 (0,0))→W'.heap[q]? = some (.cells #[U i6 ch,U i6 n,Sl fa N fc,U i6 bi,U i6 slo,U i6 shi,U i6 p,U i6 p,U i6 x0,U i6 y0,U i6 z0,U i6 0,U i6 0,Sl (some ⟨g0,0,none⟩) 1 1,U i6 0] 95 (0,0))→TV W' (.slice fa N fc) TL→(∀ a,fa=some a→a.block<W'.heap.size)→_):=hHl
 rw [hgf] at HH
 have s0:=(((St.start W).new (c:=#[U i6 h,U i6 w,U i6 c,U i6 lo,U i6 hi,Sl oa on oc,U i6 ot]) (t:=26)).new (c:=#[U i6 slo,U i6 shi]) (t:=28)).new (c:=#[U i6 0,U i6 0]) (t:=28)
 simp only [World.size_alloc] at s0
 clear hFd hHl hgf
 go_enter Tryz.func15,Tryz.ntmps15
 go_wp2_with fail
 refine (HF.out _ s0.below).mono ?_
 rintro e w1 ⟨⟨g0,fa,fc,rfl,hg0,-,hTv,hfb⟩,hb⟩
 have s1:=(s0.call hb).new (c:=#[U i6 ch,U i6 n,Sl fa N fc,U i6 bi,U i6 slo,U i6 shi,U i6 p,U i6 p,U i6 x0,U i6 y0,U i6 z0,U i6 0,U i6 0,Sl (some ⟨g0,0,none⟩) 1 1,U i6 0]) (t:=95)
 have S1:Hid (St W _ _):=s1
 have hg1:Hid ((w1.alloc (.cells #[U i6 ch,U i6 n,Sl fa N fc,U i6 bi,U i6 slo,U i6 shi,U i6 p,U i6 p,U i6 x0,U i6 y0,U i6 z0,U i6 0,U i6 0,Sl (some ⟨g0,0,none⟩) 1 1,U i6 0] 95)).heap[g0]? = some (.cells op0 44 (0,0))):=(heap_alloc_old w1 _ (lt_of_heap hg0)).trans hg0
 have hT1:Hid (TV (w1.alloc (.cells #[U i6 ch,U i6 n,Sl fa N fc,U i6 bi,U i6 slo,U i6 shi,U i6 p,U i6 p,U i6 x0,U i6 y0,U i6 z0,U i6 0,U i6 0,Sl (some ⟨g0,0,none⟩) 1 1,U i6 0] 95)) (.slice fa N fc) TL):=hTv.below (bal _ _)
 have hf1:Hid (∀ a,fa=some a→a.block<(w1.alloc (.cells #[U i6 ch,U i6 n,Sl fa N fc,U i6 bi,U i6 slo,U i6 shi,U i6 p,U i6 p,U i6 x0,U i6 y0,U i6 z0,U i6 0,U i6 0,Sl (some ⟨g0,0,none⟩) 1 1,U i6 0] 95)).heap.size):=fun a e=>by have:=hfb a e;simp;omega
 clear hb s0 HF hg0 hTv hfb
 go_upto_region 2 with (refine wpList_st_new rfl 95 (.tmp 10) (.tmp 18) rfl w1 _ #[U i6 ch,U i6 n,Sl fa N fc,U i6 bi,U i6 slo,U i6 shi,U i6 p,U i6 p,U i6 x0,U i6 y0,U i6 z0,U i6 0,U i6 0,Sl (some ⟨g0,0,none⟩) 1 1,U i6 0] rfl rfl (by kernel_rfl) rfl (by simp [Value.oneCell']) ?_)
 obtain⟨q,hq⟩:∃ q,w1.heap.size=q:=⟨_,rfl⟩
 obtain⟨w2,hw2⟩:∃ w2,w1.alloc (.cells #[U i6 ch,U i6 n,Sl fa N fc,U i6 bi,U i6 slo,U i6 shi,U i6 p,U i6 p,U i6 x0,U i6 y0,U i6 z0,U i6 0,U i6 0,Sl (some ⟨g0,0,none⟩) 1 1,U i6 0] 95)=w2:=⟨_,rfl⟩
 rw [hw2] at S1 hg1 hT1 hf1 ⊢
 rw [hq] at S1 ⊢
 clear s1 hw2 hq
 have HC:Hid _:=HH.out w2 g0 q fa fc S1.out.below hg1.out S1.out.h1 hT1.out hf1.out
 clear HH hg1 hT1 hf1
 go_wp2_with fail
 refine Calls.mono HC.out ?_
 rintro e w3 ⟨rfl,hb⟩
 have s3:=S1.out.call hb
 obtain⟨-,-,-,c1,f1,z1,-⟩:=s3.rules
 have HB:Hid (Below W.heap.size W _):=s3.tail.out2 (i:=0) (j:=1) (u:=U i6 X) (v:=U i6 Y)
 clear s3 hb S1
 go_wp2
 exact bodyPost_ret (v:=.tuple #[.agg #[U i6 X,U i6 Y],U i6 0]) (by simp [results,Tryz.results15,go_sem,c1]) rfl ⟨rfl,HB.out⟩
theorem bprt_e (h w c lo hi ot op ch:Int) (oa:Option Addr) (on oc:Nat) (W:World) (slo shi:Int) (dp:Int) (E:Int) (hE:E≠0) (hFd:∀ W',Below W.heap.size W W'→Calls Tryz.prog 36 #[.agg #[U i6 h,U i6 w,U i6 c,U i6 lo,U i6 hi,Sl oa on oc,U i6 ot],U i6 op,U i6 ch,.agg #[U i6 slo,U i6 shi]] W' fun e w'=>e=.returned (.tuple #[.agg #[U i6 0,U i6 0,Sl none 0 0,U i6 0,U i6 0,U i6 0,U i6 0,U i6 0,U i6 0,U i6 0,U i6 0,U i6 0,U i6 0,Sl none 0 0,U i6 0],U i6 E])∧Below W'.heap.size W' w'):Calls Tryz.prog 66 #[.agg #[U i6 h,U i6 w,U i6 c,U i6 lo,U i6 hi,Sl oa on oc,U i6 ot],U i6 op,U i6 ch,.agg #[U i6 slo,U i6 shi],U i6 dp] W fun e w'=>e=.returned (.tuple #[.agg #[U i6 0,U i6 0],U i6 E])∧Below W.heap.size W w':=by
 have HF:Hid (∀ W',Below W.heap.size W W'→_):=hFd
 have hE':(E == 0)=false:=by simp [hE]
 have s0:=((((St.start W).new (c:=#[U i6 h,U i6 w,U i6 c,U i6 lo,U i6 hi,Sl oa on oc,U i6 ot]) (t:=26)).new (c:=#[U i6 slo,U i6 shi]) (t:=28)).new (c:=#[U i6 dp]) (t:=3)).new (c:=#[U i6 0,U i6 0]) (t:=28)
 simp only [World.size_alloc] at s0
 clear hFd
 go_enter Tryz.func66,Tryz.ntmps66
 go_wp2_with fail
 refine (HF.out _ s0.below).mono ?_
 rintro e w1 ⟨rfl,hb⟩
 have s1:=(s0.call hb).new (c:=#[U i6 0,U i6 0,Sl none 0 0,U i6 0,U i6 0,U i6 0,U i6 0,U i6 0,U i6 0,U i6 0,U i6 0,U i6 0,U i6 0,Sl none 0 0,U i6 0]) (t:=95)
 clear hb s0 HF
 go_upto_region 2 with (refine wpList_st_new rfl 95 (.tmp 12) (.tmp 20) rfl w1 _ #[U i6 0,U i6 0,Sl none 0 0,U i6 0,U i6 0,U i6 0,U i6 0,U i6 0,U i6 0,U i6 0,U i6 0,U i6 0,U i6 0,Sl none 0 0,U i6 0] rfl rfl (by kernel_rfl) rfl (by simp [Value.oneCell']) ?_)
 obtain⟨w2,hw2⟩:∃ w2,w1.alloc (.cells #[U i6 0,U i6 0,Sl none 0 0,U i6 0,U i6 0,U i6 0,U i6 0,U i6 0,U i6 0,U i6 0,U i6 0,U i6 0,U i6 0,Sl none 0 0,U i6 0] 95)=w2:=⟨_,rfl⟩
 rw [hw2] at s1 ⊢
 obtain⟨-,-,-,c1,f1,z1,-⟩:=s1.rules
 have HB:Hid (Below W.heap.size W _):=s1.tail.out2 (i:=0) (j:=1) (u:=U i6 0) (v:=U i6 0)
 clear s1 hw2
 go_wp2
 exact bodyPost_ret (v:=.tuple #[.agg #[U i6 0,U i6 0],U i6 E]) (by simp [results,Tryz.results66,go_sem,c1]) rfl ⟨rfl,HB.out⟩
theorem bprt_d (h w c lo hi ot op ch:Int) (oa:Option Addr) (on oc:Nat) (W:World) (slo shi:Int) (dp:Int) (n bi p x0 y0 z0:Int) (N:Nat) (hN:N≤512) (op0:Array Value) (TL:List (Int×Int)) (X Y:Int) (hFd:∀ W',Below W.heap.size W W'→Calls Tryz.prog 36 #[.agg #[U i6 h,U i6 w,U i6 c,U i6 lo,U i6 hi,Sl oa on oc,U i6 ot],U i6 op,U i6 ch,.agg #[U i6 slo,U i6 shi]] W' fun e w'=>(∃ (g0:Nat) (fa:Option Addr) (fc:Nat),e=.returned (.tuple #[.agg #[U i6 ch,U i6 n,Sl fa N fc,U i6 bi,U i6 slo,U i6 shi,U i6 p,U i6 p,U i6 x0,U i6 y0,U i6 z0,U i6 0,U i6 0,Sl (some ⟨g0,0,none⟩) 1 1,U i6 0],U i6 0])∧w'.heap[g0]? = some (.cells op0 44 (0,0))∧W'.heap.size≤g0∧TV w' (.slice fa N fc) TL∧∀ a,fa=some a→a.block<w'.heap.size)∧Below W'.heap.size W' w') (hd:¬ (1≤dp∧dp≤(N:Int))):Calls Tryz.prog 66 #[.agg #[U i6 h,U i6 w,U i6 c,U i6 lo,U i6 hi,Sl oa on oc,U i6 ot],U i6 op,U i6 ch,.agg #[U i6 slo,U i6 shi],U i6 dp] W fun e w'=>e=.returned (.tuple #[.agg #[U i6 0,U i6 0],U i6 151])∧Below W.heap.size W w':=by
 have HF:Hid (∀ W',Below W.heap.size W W'→_):=hFd
 have s0:=((((St.start W).new (c:=#[U i6 h,U i6 w,U i6 c,U i6 lo,U i6 hi,Sl oa on oc,U i6 ot]) (t:=26)).new (c:=#[U i6 slo,U i6 shi]) (t:=28)).new (c:=#[U i6 dp]) (t:=3)).new (c:=#[U i6 0,U i6 0]) (t:=28)
 simp only [World.size_alloc] at s0
 clear hFd
 by_cases d1:dp<1
 ·clear hd
  go_enter Tryz.func66,Tryz.ntmps66
  go_wp2_with fail
  refine (HF.out _ s0.below).mono ?_
  rintro e w1 ⟨⟨g0,fa,fc,rfl,-,-,-,-⟩,hb⟩
  have s1:=(s0.call hb).new (c:=#[U i6 ch,U i6 n,Sl fa N fc,U i6 bi,U i6 slo,U i6 shi,U i6 p,U i6 p,U i6 x0,U i6 y0,U i6 z0,U i6 0,U i6 0,Sl (some ⟨g0,0,none⟩) 1 1,U i6 0]) (t:=95)
  clear hb s0 HF
  go_upto_region 2 with (refine wpList_st_new rfl 95 (.tmp 12) (.tmp 20) rfl w1 _ #[U i6 ch,U i6 n,Sl fa N fc,U i6 bi,U i6 slo,U i6 shi,U i6 p,U i6 p,U i6 x0,U i6 y0,U i6 z0,U i6 0,U i6 0,Sl (some ⟨g0,0,none⟩) 1 1,U i6 0] rfl rfl (by kernel_rfl) rfl (by simp [Value.oneCell']) ?_)
  obtain⟨q,hq⟩:∃ q,w1.heap.size=q:=⟨_,rfl⟩
  obtain⟨w2,hw2⟩:∃ w2,w1.alloc (.cells #[U i6 ch,U i6 n,Sl fa N fc,U i6 bi,U i6 slo,U i6 shi,U i6 p,U i6 p,U i6 x0,U i6 y0,U i6 z0,U i6 0,U i6 0,Sl (some ⟨g0,0,none⟩) 1 1,U i6 0] 95)=w2:=⟨_,rfl⟩
  rw [hw2] at s1 ⊢
  rw [hq] at s1 ⊢
  have S1:Hid (St W w2 _):=s1
  clear hw2 hq s1
  obtain⟨c1,f1,z1,c2,f2,z2,c3,f3,z3,-⟩:=S1.out.rules
  go_upto_region 4 with fail
  go_cut [32] from 26 to 31 (fun v wx=>v=.bool true∧∃ j,wx=w2.drewN j)
  case first =>
   go_quiet (fail)
   go_wp2
   go_meet
   case rel=>exact⟨rfl,_,rfl⟩
  case rest =>
   obtain⟨rfl,j,rfl⟩:=hcut
   clear c1 f1 z1 c2 f2 z2 c3 f3 z3
   have s5:=S1.out.call (dbel w2 j)
   obtain⟨wd,hwd⟩:∃ wd,w2.drewN j=wd:=⟨_,rfl⟩
   rw [hwd] at s5 ⊢
   obtain⟨-,-,-,c1,f1,z1,-⟩:=s5.rules
   have HB:Hid (Below W.heap.size W _):=s5.tail.out2 (i:=0) (j:=1) (u:=U i6 0) (v:=U i6 0)
   clear s5 S1 hwd
   go_wp2
   exact bodyPost_ret (v:=.tuple #[.agg #[U i6 0,U i6 0],U i6 151]) (by simp [results,Tryz.results66,go_sem,c1]) rfl ⟨rfl,HB.out⟩
 ·have d2:(N:Int)<dp:=by omega
  clear hd
  go_enter Tryz.func66,Tryz.ntmps66
  go_wp2_with fail
  refine (HF.out _ s0.below).mono ?_
  rintro e w1 ⟨⟨g0,fa,fc,rfl,-,-,-,-⟩,hb⟩
  have s1:=(s0.call hb).new (c:=#[U i6 ch,U i6 n,Sl fa N fc,U i6 bi,U i6 slo,U i6 shi,U i6 p,U i6 p,U i6 x0,U i6 y0,U i6 z0,U i6 0,U i6 0,Sl (some ⟨g0,0,none⟩) 1 1,U i6 0]) (t:=95)
  clear hb s0 HF
  go_upto_region 2 with (refine wpList_st_new rfl 95 (.tmp 12) (.tmp 20) rfl w1 _ #[U i6 ch,U i6 n,Sl fa N fc,U i6 bi,U i6 slo,U i6 shi,U i6 p,U i6 p,U i6 x0,U i6 y0,U i6 z0,U i6 0,U i6 0,Sl (some ⟨g0,0,none⟩) 1 1,U i6 0] rfl rfl (by kernel_rfl) rfl (by simp [Value.oneCell']) ?_)
  obtain⟨q,hq⟩:∃ q,w1.heap.size=q:=⟨_,rfl⟩
  obtain⟨w2,hw2⟩:∃ w2,w1.alloc (.cells #[U i6 ch,U i6 n,Sl fa N fc,U i6 bi,U i6 slo,U i6 shi,U i6 p,U i6 p,U i6 x0,U i6 y0,U i6 z0,U i6 0,U i6 0,Sl (some ⟨g0,0,none⟩) 1 1,U i6 0] 95)=w2:=⟨_,rfl⟩
  rw [hw2] at s1 ⊢
  rw [hq] at s1 ⊢
  have S1:Hid (St W w2 _):=s1
  clear hw2 hq s1
  have HLN:Hid (∀ j,Calls Tryz.prog 77 _ (w2.drewN j) _):=fun j=>blen_any ch n fa N fc bi slo shi p x0 y0 z0 g0 q (w2.drewN j) (S1.out.call (dbel w2 j)).h1
  obtain⟨c1,f1,z1,c2,f2,z2,c3,f3,z3,-⟩:=S1.out.rules
  go_upto_region 4 with fail
  go_cut [32] from 26 to 31 (fun v wx=>v=.bool true∧∃ j,wx=w2.drewN j)
  case first =>
   go_quiet ((go_at_call 77;exact Calls.quiet_of_same (HLN.out _)))
   go_wp2
   go_meet
   case rel=>exact⟨rfl,_,rfl⟩
  case rest =>
   obtain⟨rfl,j,rfl⟩:=hcut
   clear c1 f1 z1 c2 f2 z2 c3 f3 z3 HLN
   have s5:=S1.out.call (dbel w2 j)
   obtain⟨wd,hwd⟩:∃ wd,w2.drewN j=wd:=⟨_,rfl⟩
   rw [hwd] at s5 ⊢
   obtain⟨-,-,-,c1,f1,z1,-⟩:=s5.rules
   have HB:Hid (Below W.heap.size W _):=s5.tail.out2 (i:=0) (j:=1) (u:=U i6 0) (v:=U i6 0)
   clear s5 S1 hwd
   go_wp2
   exact bodyPost_ret (v:=.tuple #[.agg #[U i6 0,U i6 0],U i6 151]) (by simp [results,Tryz.results66,go_sem,c1]) rfl ⟨rfl,HB.out⟩
theorem bprt_w (h w c lo hi ot op ch:Int) (oa:Option Addr) (on oc:Nat) (W:World) (slo shi:Int) (d:Nat) (n bi p x0 y0 z0:Int) (N:Nat) (hN:N≤512) (op0:Array Value) (TL:List (Int×Int)) (X Y:Int) (hFd:∀ W',Below W.heap.size W W'→Calls Tryz.prog 36 #[.agg #[U i6 h,U i6 w,U i6 c,U i6 lo,U i6 hi,Sl oa on oc,U i6 ot],U i6 op,U i6 ch,.agg #[U i6 slo,U i6 shi]] W' fun e w'=>(∃ (g0:Nat) (fa:Option Addr) (fc:Nat),e=.returned (.tuple #[.agg #[U i6 ch,U i6 n,Sl fa N fc,U i6 bi,U i6 slo,U i6 shi,U i6 p,U i6 p,U i6 x0,U i6 y0,U i6 z0,U i6 0,U i6 0,Sl (some ⟨g0,0,none⟩) 1 1,U i6 0],U i6 0])∧w'.heap[g0]? = some (.cells op0 44 (0,0))∧W'.heap.size≤g0∧TV w' (.slice fa N fc) TL∧∀ a,fa=some a→a.block<w'.heap.size)∧Below W'.heap.size W' w') (hd:1≤d∧d≤N)
  (hHl:∀ W' (g0 q r:Nat) (fa:Option Addr) (fc:Nat),Below W.heap.size W W'→W'.heap[g0]? = some (.cells op0 44 (0,0))→W'.heap[q]? = some (.cells #[U i6 ch,U i6 n,Sl fa N fc,U i6 bi,U i6 slo,U i6 shi,U i6 p,U i6 p,U i6 x0,U i6 y0,U i6 z0,U i6 0,U i6 0,Sl (some ⟨g0,0,none⟩) 1 1,U i6 0] 95 (0,0))→W'.heap[r]? = some (.cells #[U i6 (d:Int)] 3 (0,0))→TV W' (.slice fa N fc) TL→(∀ a,fa=some a→a.block<W'.heap.size)→Calls Tryz.prog 37 #[.pointer (some ⟨q,0,none⟩),.func (.func 88) #[] #[.pointer (some ⟨r,0,none⟩)]] W' fun e w'=>e=.returned (.agg #[U i6 X,U i6 Y])∧Below W'.heap.size W' w') :
  Calls Tryz.prog 66 #[.agg #[U i6 h,U i6 w,U i6 c,U i6 lo,U i6 hi,Sl oa on oc,U i6 ot],U i6 op,U i6 ch,.agg #[U i6 slo,U i6 shi],U i6 (d:Int)] W fun e w'=>e=.returned (.tuple #[.agg #[U i6 X,U i6 Y],U i6 0])∧Below W.heap.size W w':=by
 have hmf:∀ (fn:Fn) (first cap:Array Value) (w:World),(Instr.makeFunc fn first cap).run Tryz.prog w=.ok (.func fn first cap) w:=fun _ _ _ _=>rfl
 have HF:Hid (∀ W',Below W.heap.size W W'→_):=hFd
 have HH:Hid (∀ W' (g0 q r:Nat) (fa:Option Addr) (fc:Nat),Below W.heap.size W W'→W'.heap[g0]? = some (.cells op0 44 (0,0))→W'.heap[q]? = some (.cells #[U i6 ch,U i6 n,Sl fa N fc,U i6 bi,U i6 slo,U i6 shi,U i6 p,U i6 p,U i6 x0,U i6 y0,U i6 z0,U i6 0,U i6 0,Sl (some ⟨g0,0,none⟩) 1 1,U i6 0] 95 (0,0))→W'.heap[r]? = some (.cells #[U i6 (d:Int)] 3 (0,0))→TV W' (.slice fa N fc) TL→(∀ a,fa=some a→a.block<W'.heap.size)→_):=hHl
 obtain⟨d1,d2⟩:=hd
 have d3:decide ((d:Int)<1)=false:=by simp;omega
 have d4:decide (N<d)=false:=by simp;omega
 have s0:=((((St.start W).new (c:=#[U i6 h,U i6 w,U i6 c,U i6 lo,U i6 hi,Sl oa on oc,U i6 ot]) (t:=26)).new (c:=#[U i6 slo,U i6 shi]) (t:=28)).new (c:=#[U i6 (d:Int)]) (t:=3)).new (c:=#[U i6 0,U i6 0]) (t:=28)
 simp only [World.size_alloc] at s0
 clear hFd hHl
 go_enter Tryz.func66,Tryz.ntmps66
 go_wp2_with fail
 refine (HF.out _ s0.below).mono ?_
 rintro e w1 ⟨⟨g0,fa,fc,rfl,hg0,-,hTv,hfb⟩,hb⟩
 have s1:=(s0.call hb).new (c:=#[U i6 ch,U i6 n,Sl fa N fc,U i6 bi,U i6 slo,U i6 shi,U i6 p,U i6 p,U i6 x0,U i6 y0,U i6 z0,U i6 0,U i6 0,Sl (some ⟨g0,0,none⟩) 1 1,U i6 0]) (t:=95)
 have S1:Hid (St W _ _):=s1
 have hg1:Hid ((w1.alloc (.cells #[U i6 ch,U i6 n,Sl fa N fc,U i6 bi,U i6 slo,U i6 shi,U i6 p,U i6 p,U i6 x0,U i6 y0,U i6 z0,U i6 0,U i6 0,Sl (some ⟨g0,0,none⟩) 1 1,U i6 0] 95)).heap[g0]? = some (.cells op0 44 (0,0))):=(heap_alloc_old w1 _ (lt_of_heap hg0)).trans hg0
 have hT1:Hid (TV (w1.alloc (.cells #[U i6 ch,U i6 n,Sl fa N fc,U i6 bi,U i6 slo,U i6 shi,U i6 p,U i6 p,U i6 x0,U i6 y0,U i6 z0,U i6 0,U i6 0,Sl (some ⟨g0,0,none⟩) 1 1,U i6 0] 95)) (.slice fa N fc) TL):=hTv.below (bal _ _)
 have hf1:Hid (∀ a,fa=some a→a.block<(w1.alloc (.cells #[U i6 ch,U i6 n,Sl fa N fc,U i6 bi,U i6 slo,U i6 shi,U i6 p,U i6 p,U i6 x0,U i6 y0,U i6 z0,U i6 0,U i6 0,Sl (some ⟨g0,0,none⟩) 1 1,U i6 0] 95)).heap.size):=fun a e=>by have:=hfb a e;simp;omega
 clear hb s0 HF hg0 hTv hfb
 go_upto_region 2 with (refine wpList_st_new rfl 95 (.tmp 12) (.tmp 20) rfl w1 _ #[U i6 ch,U i6 n,Sl fa N fc,U i6 bi,U i6 slo,U i6 shi,U i6 p,U i6 p,U i6 x0,U i6 y0,U i6 z0,U i6 0,U i6 0,Sl (some ⟨g0,0,none⟩) 1 1,U i6 0] rfl rfl (by kernel_rfl) rfl (by simp [Value.oneCell']) ?_)
 obtain⟨q,hq⟩:∃ q,w1.heap.size=q:=⟨_,rfl⟩
 obtain⟨w2,hw2⟩:∃ w2,w1.alloc (.cells #[U i6 ch,U i6 n,Sl fa N fc,U i6 bi,U i6 slo,U i6 shi,U i6 p,U i6 p,U i6 x0,U i6 y0,U i6 z0,U i6 0,U i6 0,Sl (some ⟨g0,0,none⟩) 1 1,U i6 0] 95)=w2:=⟨_,rfl⟩
 rw [hw2] at S1 hg1 hT1 hf1 ⊢
 rw [hq] at S1 ⊢
 clear s1 hw2 hq
 have HLN:Hid (∀ j,Calls Tryz.prog 77 _ (w2.drewN j) _):=fun j=>blen_any ch n fa N fc bi slo shi p x0 y0 z0 g0 q (w2.drewN j) (S1.out.call (dbel w2 j)).h1
 have HC:Hid (∀ j,Calls Tryz.prog 37 _ (w2.drewN j) _):=fun j=>by
  have hdd:Below w2.heap.size w2 (w2.drewN j):=dbel w2 j
  have sd:=S1.out.call hdd
  exact HH.out (w2.drewN j) g0 q (W.heap.size+1+1) fa fc sd.below ((hdd.block g0 (lt_of_heap hg1.out)).trans hg1.out) sd.h1 sd.h3 (hT1.out.below hdd) (fun a e=>Nat.lt_of_lt_of_le (hf1.out a e) hdd.size)
 clear HH hg1 hT1 hf1
 obtain⟨c1,f1,z1,c2,f2,z2,c3,f3,z3,-⟩:=S1.out.rules
 go_upto_region 4 with fail
 go_cut [32] from 26 to 31 (fun v wx=>v=.bool false∧∃ j,wx=w2.drewN j)
 case first =>
  go_quiet ((go_at_call 77;exact Calls.quiet_of_same (HLN.out _)))
  go_wp2
  go_meet
  case rel=>exact⟨rfl,_,rfl⟩
 case rest =>
  obtain⟨rfl,j,rfl⟩:=hcut
  clear c1 f1 z1 c2 f2 z2 c3 f3 z3 HLN
  have HC2:=HC.out j
  clear HC
  go_wp2_with fail
  refine Calls.mono HC2 ?_
  rintro e w3 ⟨rfl,hb⟩
  have s3:=(S1.out.call (dbel w2 j)).call hb
  obtain⟨-,-,-,c1,f1,z1,-⟩:=s3.rules
  have HB:Hid (Below W.heap.size W _):=s3.tail.out2 (i:=0) (j:=1) (u:=U i6 X) (v:=U i6 Y)
  clear s3 hb S1
  go_wp2
  exact bodyPost_ret (v:=.tuple #[.agg #[U i6 X,U i6 Y],U i6 0]) (by simp [results,Tryz.results66,go_sem,c1]) rfl ⟨rfl,HB.out⟩
theorem bfind_p (h w c lo hi ot:Int) (oa:Option Addr) (on oc:Nat) (O:Nat→Nat→Int) (Z B:Nat→List Int) (W:World) (hL:LRow W oa on oc O Z B) (ch:Int) (RL:List (Int×Int×Int)) (Rw:Int) (hR:gtR O h w c lo hi ot on=(0,0,RL,Rw)) (i:Nat) (x:Addr) (wa:Option Addr) (lw cw:Nat) (ba:Option Addr) (lb cb:Nat) (x0 y0 z0 H V C:Int) (hF:Fnd W oa on O Z B RL i x wa lw cw ba lb cb x0 y0 z0 H V C) (hch:¬ (1≤ch∧ch≤C)) (slo shi:Int) :
  Calls Tryz.prog 36 #[.agg #[U i6 h,U i6 w,U i6 c,U i6 lo,U i6 hi,Sl oa on oc,U i6 ot],U i6 ((i:Int)+1),U i6 ch,.agg #[U i6 slo,U i6 shi]] W fun e w'=>e=.returned (.tuple #[.agg #[U i6 0,U i6 0,Sl none 0 0,U i6 0,U i6 0,U i6 0,U i6 0,U i6 0,U i6 0,U i6 0,U i6 0,U i6 0,U i6 0,Sl none 0 0,U i6 0],U i6 3])∧Below W.heap.size W w':=by
 have hSit:=hF.2.2.2.2.2.2.2.2.2.1
 have hvC:=vS_yes hSit.2.2.1
 obtain⟨-,hk,q1,q2,-,-,hv⟩:=bfacts (ch:=1) hL RL Rw hR i x wa lw cw ba lb cb x0 y0 z0 H V C hF ⟨by omega,by have:=hvC.2.2.1;omega⟩
 have s:=bopd (ch:=1) hL RL Rw hR i x wa lw cw ba lb cb x0 y0 z0 H V C hF ⟨by omega,by have:=hvC.2.2.1;omega⟩
 obtain⟨h1,rfl,h3,h4,h5,h6,h7,h8,h9,h10,h11,h12⟩:=hF
 obtain⟨Rw',hR'⟩:=alone_g (a:=0) s hk
 refine (bfind_r h w c lo hi ot ch x on oc i O W hL.m h1 wa lw cw ba lb cb h5 Rw RL hR h11.1 h11.2 x0 y0 z0 H V C h8 h9 ⟨by omega,by omega⟩ slo shi 0 3 [] 0 rfl (fun W' g0 hb' _ hg=>?_)).mono ?_
 ·have hL':=balone (h6.below hb') (h7.below hb') q1 q2 hg
  have hF':Fnd W' (some ⟨g0,0,none⟩) 1 (fun _=>oL (O i 0) 0 0 (O i 3) (O i 4) (O i 5) (O i 6) (O i 7) (O i 8) (O i 9) (O i 10) (O i 11) (lw:Int) (lb:Int) (O i 14) (O i 15) (O i 16) (O i 17) (O i 18) (O i 19) (O i 20) (O i 21)) (fun _=>Z i) (fun _=>B i) [(x0,y0,z0),(H,V,C)] 0 ⟨g0,0,none⟩ wa lw cw ba lb cb x0 y0 z0 H V C:=by
   have hcell:∀ q v,[U i6 (O i 0),U i6 0,U i6 0,U i6 (O i 3),U i6 (O i 4),U i6 (O i 5),U i6 (O i 6),U i6 (O i 7),U i6 (O i 8),U i6 (O i 9),U i6 (O i 10),U i6 (O i 11),Sl wa lw cw,Sl ba lb cb,U i6 (O i 14),U i6 (O i 15),U i6 (O i 16),U i6 (O i 17),U i6 (O i 18),U i6 (O i 19),U i6 (O i 20),U i6 (O i 21)][q]? = some v→W'.cell? ((⟨g0,0,none⟩:Addr).add q)=some v:=blcells hg (fun q v hq=>by simpa using hq)
   refine⟨by omega,rfl,rfl,rfl,fun q v hq=>?_,h6.below hb',h7.below hb',rfl,rfl,s.si hk,⟨Int.le_refl _,Int.le_refl _⟩,h12⟩
   have e0:((⟨g0,0,none⟩:Addr).add (0*22))=⟨g0,0,none⟩:=by rw [Addr.add_lit]
   rw [e0]
   exact hcell q v hq
  refine (of_place x0 y0 z0 0 0 0 (some ⟨g0,0,none⟩) 1 1 _ _ _ W' hL' ch 0 [(x0,y0,z0),(H,V,C)] Rw' hR' 0 ⟨g0,0,none⟩ wa lw cw ba lb cb x0 y0 z0 H V C hF' (fun q=>hch q.1)).mono ?_
  rintro e w' ⟨rfl,hb2⟩
  exact⟨⟨_,rfl,OTm.nil _ _⟩,hb2⟩
 ·rintro e w' ⟨hh,hb2⟩
  refine⟨?_,hb2⟩
  rcases hh with ⟨-,q⟩ | ⟨q,-⟩ | ⟨q,-⟩
  ·exact q
  ·cases q
  ·cases q
theorem bfind_k (h w c lo hi ot:Int) (oa:Option Addr) (on oc:Nat) (O:Nat→Nat→Int) (Z B:Nat→List Int) (W:World) (hL:LRow W oa on oc O Z B) (ch:Int) (RL:List (Int×Int×Int)) (Rw:Int) (hR:gtR O h w c lo hi ot on=(0,0,RL,Rw)) (i:Nat) (hi0:i<on) (hk:rdB (O i 0)=false) (slo shi:Int) :
  Calls Tryz.prog 36 #[.agg #[U i6 h,U i6 w,U i6 c,U i6 lo,U i6 hi,Sl oa on oc,U i6 ot],U i6 ((i:Int)+1),U i6 ch,.agg #[U i6 slo,U i6 shi]] W fun e w'=>e=.returned (.tuple #[.agg #[U i6 0,U i6 0,Sl none 0 0,U i6 0,U i6 0,U i6 0,U i6 0,U i6 0,U i6 0,U i6 0,U i6 0,U i6 0,U i6 0,Sl none 0 0,U i6 0],U i6 81])∧Below W.heap.size W w':=by
 obtain⟨x,rfl⟩:∃ x,oa=some x:=by
  cases oa with
  | none=>have:=hL.2.2.1 rfl;have:=hL.1;omega
  | some x=>exact⟨x,rfl⟩
 obtain⟨wa,lw,cw,ba,lb,cb,e12,e13,hc,hZ,hB,q1,q2⟩:=hL.2.2.2 x rfl i hi0
 obtain⟨⟨j0,j1⟩,hal⟩:=al_of hR hi0
 obtain⟨x0,y0,z0,hA⟩:∃ x0 y0 z0,RL.getD (O i 1).toNat (0,0,0)=(x0,y0,z0):=⟨_,_,_,rfl⟩
 obtain⟨H,V,C,hHV⟩:∃ H V C,RL.getD (i+1) (0,0,0)=(H,V,C):=⟨_,_,_,rfl⟩
 obtain⟨Ra,RL',Rw',hR'⟩:=hal x0 y0 z0 hA
 obtain⟨ja,jb,e1,-,-,-,hopd⟩:=opd_of hR hi0
 have hvb:=vS_bd (hopd x0 y0 z0 H V C (by rw [← hA,e1,Int.toNat_natCast]) hHV).1.hB
 rw [e12,e13] at hR'
 refine (bfind_r h w c lo hi ot ch x on oc i O W hL.m hi0 wa lw cw ba lb cb hc Rw RL hR j0 j1 x0 y0 z0 H V C hA hHV ⟨by omega,by omega⟩ slo shi 0 81 [] 0 rfl (fun W' g0 hb' _ hg=>?_)).mono ?_
 ·have hL':=balone (hZ.below hb') (hB.below hb') q1 q2 hg
  have hfe:fiE (fun _=>oL (O i 0) 0 0 (O i 3) (O i 4) (O i 5) (O i 6) (O i 7) (O i 8) (O i 9) (O i 10) (O i 11) (lw:Int) (lb:Int) (O i 14) (O i 15) (O i 16) (O i 17) (O i 18) (O i 19) (O i 20) (O i 21)) x0 y0 z0 0 0 0 1 (((0:Nat):Int)+1)=81:=fiE_81 (by rw [hR']) (by omega) hk
  refine (of_bad x0 y0 z0 0 0 0 (some ⟨g0,0,none⟩) 1 1 _ _ _ W' hL' 1 ch 0 81 hfe (by decide)).mono ?_
  rintro e w' ⟨rfl,hb2⟩
  exact⟨⟨_,rfl,OTm.nil _ _⟩,hb2⟩
 ·rintro e w' ⟨hh,hb2⟩
  refine⟨?_,hb2⟩
  rcases hh with ⟨-,q⟩ | ⟨q,-⟩ | ⟨q,-⟩
  ·exact q
  ·cases q
  ·cases q
theorem bofe_p (h w c lo hi ot:Int) (oa:Option Addr) (on oc:Nat) (O:Nat→Nat→Int) (Z B:Nat→List Int) (W:World) (hL:LRow W oa on oc O Z B) (ch:Int) (RL:List (Int×Int×Int)) (Rw:Int) (hR:gtR O h w c lo hi ot on=(0,0,RL,Rw)) (i:Nat) (x:Addr) (wa:Option Addr) (lw cw:Nat) (ba:Option Addr) (lb cb:Nat) (x0 y0 z0 H V C:Int) (hF:Fnd W oa on O Z B RL i x wa lw cw ba lb cb x0 y0 z0 H V C) (hch:¬ (1≤ch∧ch≤C)) (op E:Int) (hop:op=(i:Int)+1) (hE3:E=3):(∀ W',Below W.heap.size W W'→(Calls Tryz.prog 55 #[.agg #[U i6 h,U i6 w,U i6 c,U i6 lo,U i6 hi,Sl oa on oc,U i6 ot],U i6 op,U i6 ch,U i6 0] W' fun e w'=>e=.returned (.tuple #[Sl none 0 0,U i6 0,U i6 E])∧Below W'.heap.size W' w')∧∀ slo shi:Int,Calls Tryz.prog 36 #[.agg #[U i6 h,U i6 w,U i6 c,U i6 lo,U i6 hi,Sl oa on oc,U i6 ot],U i6 op,U i6 ch,.agg #[U i6 slo,U i6 shi]] W' fun e w'=>e=.returned (.tuple #[.agg #[U i6 0,U i6 0,Sl none 0 0,U i6 0,U i6 0,U i6 0,U i6 0,U i6 0,U i6 0,U i6 0,U i6 0,U i6 0,U i6 0,Sl none 0 0,U i6 0],U i6 E])∧Below W'.heap.size W' w'):=by
 subst hop hE3
 exact fun W' hb=>⟨of_place h w c lo hi ot oa on oc O Z B W' (hL.below hb) ch 0 RL Rw hR i x wa lw cw ba lb cb x0 y0 z0 H V C (hF.below hb) (fun q=>hch q.1),fun slo shi=>bfind_p h w c lo hi ot oa on oc O Z B W' (hL.below hb) ch RL Rw hR i x wa lw cw ba lb cb x0 y0 z0 H V C (hF.below hb) hch slo shi⟩
theorem bofe_e (h w c lo hi ot:Int) (oa:Option Addr) (on oc:Nat) (O:Nat→Nat→Int) (Z B:Nat→List Int) (W:World) (hL:LRow W oa on oc O Z B) (op ch E:Int) (hf:fiE O h w c lo hi ot on op=E) (hE:E≠0):(∀ W',Below W.heap.size W W'→(Calls Tryz.prog 55 #[.agg #[U i6 h,U i6 w,U i6 c,U i6 lo,U i6 hi,Sl oa on oc,U i6 ot],U i6 op,U i6 ch,U i6 0] W' fun e w'=>e=.returned (.tuple #[Sl none 0 0,U i6 0,U i6 E])∧Below W'.heap.size W' w')∧∀ slo shi:Int,Calls Tryz.prog 36 #[.agg #[U i6 h,U i6 w,U i6 c,U i6 lo,U i6 hi,Sl oa on oc,U i6 ot],U i6 op,U i6 ch,.agg #[U i6 slo,U i6 shi]] W' fun e w'=>e=.returned (.tuple #[.agg #[U i6 0,U i6 0,Sl none 0 0,U i6 0,U i6 0,U i6 0,U i6 0,U i6 0,U i6 0,U i6 0,U i6 0,U i6 0,U i6 0,Sl none 0 0,U i6 0],U i6 E])∧Below W'.heap.size W' w'):=by
 refine fun W' hb=>⟨of_bad h w c lo hi ot oa on oc O Z B W' (hL.below hb) op ch 0 E hf hE,fun slo shi=>?_⟩
 obtain⟨Re,Ra,RL,Rw,hR⟩:∃ Re Ra RL Rw,gtR O h w c lo hi ot on=(Re,Ra,RL,Rw):=⟨_,_,_,_,rfl⟩
 by_cases h1:Re=0
 ·subst h1
  obtain⟨-,rfl,-⟩:=gtR_st hR
  by_cases h2:1≤op∧op≤(on:Int)
  ·obtain⟨i,hii⟩:=Int.eq_ofNat_of_zero_le (show 0≤op-1 by omega)
   obtain rfl:op=(i:Int)+1:=by omega
   have h3:rdB (O i 0)=false:=by
    cases q:rdB (O i 0) with
    | false=>rfl
    | true =>
     refine absurd ?_ hE
     rw [← hf]
     unfold fiE
     rw [hR]
     simp only
     rw [if_neg (by decide),if_neg (by simpa using h2),show ((i:Int)+1-1).toNat=i by omega,q,if_neg (by decide)]
   have hE81:E=81:=by rw [← hf];exact fiE_81 (by rw [hR]) (by omega) h3
   subst hE81
   exact bfind_k h w c lo hi ot oa on oc O Z B W' (hL.below hb) ch RL Rw hR i (by omega) h3 slo shi
  ·have hE3:E=3:=by rw [← hf];exact fiE_3 (by rw [hR]) h2
   subst hE3
   exact bfind_b h w c lo hi ot op ch oa on oc O W' (hL.below hb).m slo shi _ Rw RL hR h2
 ·have hEe:E=Re:=by rw [← hf];exact fiE_err (by rw [hR]) h1
  subst hEe
  exact bfind_a h w c lo hi ot op ch oa on oc O W' (hL.below hb).m slo shi E Ra Rw RL hR h1
def spR (slo shi:Int) (r:Int×Int):Int×Int×Int:=if vbB slo shi=true then (r.1,r.2,0) else (0,0,30)
def spD (slo shi dp:Int) (N:Nat) (r:Int×Int):Int×Int×Int:=if vbB slo shi=true then (if 1≤dp∧dp≤(N:Int) then (r.1,r.2,0) else (0,0,151)) else (0,0,30)
theorem slen {h w c lo hi ot ch:Int} {oa:Option Addr} {on:Nat} {O:Nat→Nat→Int} {Z B:Nat→List Int} {W:World} (RL:List (Int×Int×Int)) (Rw:Int) (hR:gtR O h w c lo hi ot on=(0,0,RL,Rw)) (i:Nat) (x:Addr) (wa:Option Addr) (lw cw:Nat) (ba:Option Addr) (lb cb:Nat) (x0 y0 z0 H V C:Int) (hF:Fnd W oa on O Z B RL i x wa lw cw ba lb cb x0 y0 z0 H V C) (hch:1≤ch∧ch≤C):(siL (O i 0) (O i 4) (O i 5) (O i 6) (O i 7) (O i 8) (O i 9) (O i 10) (O i 11) x0 y0 z0 ch 0 (Z i)).length≤512:=by
 exact (siL_facts hF.2.2.2.2.2.2.2.2.2.1 hF.2.2.2.2.2.1.2.2.2.1 hch 0).1
theorem bfd_30 (h w c lo hi ot:Int) (oa:Option Addr) (on oc:Nat) (O:Nat→Nat→Int) (Z B:Nat→List Int) (W:World) (hL:LRow W oa on oc O Z B) (ch:Int) (RL:List (Int×Int×Int)) (Rw:Int) (hR:gtR O h w c lo hi ot on=(0,0,RL,Rw)) (i:Nat) (x:Addr) (wa:Option Addr) (lw cw:Nat) (ba:Option Addr) (lb cb:Nat) (x0 y0 z0 H V C:Int) (hF:Fnd W oa on O Z B RL i x wa lw cw ba lb cb x0 y0 z0 H V C) (hch:1≤ch∧ch≤C) (slo shi:Int) (hs:vbB slo shi=false):∀ W',Below W.heap.size W W'→Calls Tryz.prog 36 #[.agg #[U i6 h,U i6 w,U i6 c,U i6 lo,U i6 hi,Sl oa on oc,U i6 ot],U i6 ((i:Int)+1),U i6 ch,.agg #[U i6 slo,U i6 shi]] W' fun e w'=>e=.returned (.tuple #[.agg #[U i6 0,U i6 0,Sl none 0 0,U i6 0,U i6 0,U i6 0,U i6 0,U i6 0,U i6 0,U i6 0,U i6 0,U i6 0,U i6 0,Sl none 0 0,U i6 0],U i6 30])∧Below W'.heap.size W' w':=fun W' hb =>
 (bfind_m h w c lo hi ot oa on oc O Z B W hL ch RL Rw hR i x wa lw cw ba lb cb x0 y0 z0 H V C hF hch slo shi _ rfl _ rfl W' hb).mono fun e w' hh=>by
   refine⟨?_,hh.2⟩
   rcases hh.1 with ⟨-,q⟩ | ⟨q,-⟩
   ·exact q
   ·rw [hs] at q;cases q
theorem bfd_ok (h w c lo hi ot:Int) (oa:Option Addr) (on oc:Nat) (O:Nat→Nat→Int) (Z B:Nat→List Int) (W:World) (hL:LRow W oa on oc O Z B) (ch:Int) (RL:List (Int×Int×Int)) (Rw:Int) (hR:gtR O h w c lo hi ot on=(0,0,RL,Rw)) (i:Nat) (x:Addr) (wa:Option Addr) (lw cw:Nat) (ba:Option Addr) (lb cb:Nat) (x0 y0 z0 H V C:Int) (hF:Fnd W oa on O Z B RL i x wa lw cw ba lb cb x0 y0 z0 H V C) (hch:1≤ch∧ch≤C) (slo shi:Int) (hs:vbB slo shi=true) (N:Nat) (hN:(siL (O i 0) (O i 4) (O i 5) (O i 6) (O i 7) (O i 8) (O i 9) (O i 10) (O i 11) x0 y0 z0 ch 0 (Z i)).length=N) (bi:Int) (hbi:biA (O i 0) ch (B i)=bi):∀ W',Below W.heap.size W W'→Calls Tryz.prog 36 #[.agg #[U i6 h,U i6 w,U i6 c,U i6 lo,U i6 hi,Sl oa on oc,U i6 ot],U i6 ((i:Int)+1),U i6 ch,.agg #[U i6 slo,U i6 shi]] W' fun e w'=>(∃ (g0:Nat) (fa:Option Addr) (fc:Nat),e=.returned (.tuple #[.agg #[U i6 ch,U i6 (H*V),Sl fa N fc,U i6 bi,U i6 slo,U i6 shi,U i6 (O i 19),U i6 (O i 19),U i6 x0,U i6 y0,U i6 z0,U i6 0,U i6 0,Sl (some ⟨g0,0,none⟩) 1 1,U i6 0],U i6 0])∧w'.heap[g0]? = some (.cells #[U i6 (O i 0),U i6 0,U i6 0,U i6 (O i 3),U i6 (O i 4),U i6 (O i 5),U i6 (O i 6),U i6 (O i 7),U i6 (O i 8),U i6 (O i 9),U i6 (O i 10),U i6 (O i 11),Sl wa lw cw,Sl ba lb cb,U i6 (O i 14),U i6 (O i 15),U i6 (O i 16),U i6 (O i 17),U i6 (O i 18),U i6 (O i 19),U i6 (O i 20),U i6 (O i 21)] 44 (0,0))∧W'.heap.size≤g0∧TV w' (.slice fa N fc) (siL (O i 0) (O i 4) (O i 5) (O i 6) (O i 7) (O i 8) (O i 9) (O i 10) (O i 11) x0 y0 z0 ch 0 (Z i))∧∀ a,fa=some a→a.block<w'.heap.size)∧Below W'.heap.size W' w':=fun W' hb =>
 (bfind_m h w c lo hi ot oa on oc O Z B W hL ch RL Rw hR i x wa lw cw ba lb cb x0 y0 z0 H V C hF hch slo shi N hN bi hbi W' hb).mono fun e w' hh=>by
   refine⟨?_,hh.2⟩
   rcases hh.1 with ⟨q,-⟩ | ⟨-,q⟩
   ·rw [hs] at q;cases q
   ·exact q
theorem btot_bad (h w c lo hi ot op ch:Int) (oa:Option Addr) (on oc:Nat) (W:World) (slo shi E:Int) (hE:E≠0) (hO:(∀ W',Below W.heap.size W W'→(Calls Tryz.prog 55 #[.agg #[U i6 h,U i6 w,U i6 c,U i6 lo,U i6 hi,Sl oa on oc,U i6 ot],U i6 op,U i6 ch,U i6 0] W' fun e w'=>e=.returned (.tuple #[Sl none 0 0,U i6 0,U i6 E])∧Below W'.heap.size W' w')∧∀ slo shi:Int,Calls Tryz.prog 36 #[.agg #[U i6 h,U i6 w,U i6 c,U i6 lo,U i6 hi,Sl oa on oc,U i6 ot],U i6 op,U i6 ch,.agg #[U i6 slo,U i6 shi]] W' fun e w'=>e=.returned (.tuple #[.agg #[U i6 0,U i6 0,Sl none 0 0,U i6 0,U i6 0,U i6 0,U i6 0,U i6 0,U i6 0,U i6 0,U i6 0,U i6 0,U i6 0,Sl none 0 0,U i6 0],U i6 E])∧Below W'.heap.size W' w')):Calls Tryz.prog 15 #[.agg #[U i6 h,U i6 w,U i6 c,U i6 lo,U i6 hi,Sl oa on oc,U i6 ot],U i6 op,U i6 ch,.agg #[U i6 slo,U i6 shi]] W fun e w'=>e=.returned (.tuple #[.agg #[U i6 0,U i6 0],U i6 E])∧Below W.heap.size W w' :=
 btot_e h w c lo hi ot op ch oa on oc W slo shi E hE (fun W' hb=>(hO W' hb).2 slo shi)
theorem btot_ok (h w c lo hi ot:Int) (oa:Option Addr) (on oc:Nat) (O:Nat→Nat→Int) (Z B:Nat→List Int) (W:World) (hL:LRow W oa on oc O Z B) (ch:Int) (RL:List (Int×Int×Int)) (Rw:Int) (hR:gtR O h w c lo hi ot on=(0,0,RL,Rw)) (i:Nat) (x:Addr) (wa:Option Addr) (lw cw:Nat) (ba:Option Addr) (lb cb:Nat) (x0 y0 z0 H V C:Int) (hF:Fnd W oa on O Z B RL i x wa lw cw ba lb cb x0 y0 z0 H V C) (hch:1≤ch∧ch≤C) (slo shi:Int):Calls Tryz.prog 15 #[.agg #[U i6 h,U i6 w,U i6 c,U i6 lo,U i6 hi,Sl oa on oc,U i6 ot],U i6 ((i:Int)+1),U i6 ch,.agg #[U i6 slo,U i6 shi]] W fun e w'=>e=.returned (.tuple #[.agg #[U i6 (spR slo shi (hbT (biA (O i 0) ch (B i)) (fun (j:Nat)=>enL slo shi (O i 19) (siL (O i 0) (O i 4) (O i 5) (O i 6) (O i 7) (O i 8) (O i 9) (O i 10) (O i 11) x0 y0 z0 ch (j:Int) (Z i))) (H*V).toNat)).1,U i6 (spR slo shi (hbT (biA (O i 0) ch (B i)) (fun (j:Nat)=>enL slo shi (O i 19) (siL (O i 0) (O i 4) (O i 5) (O i 6) (O i 7) (O i 8) (O i 9) (O i 10) (O i 11) x0 y0 z0 ch (j:Int) (Z i))) (H*V).toNat)).2.1],U i6 (spR slo shi (hbT (biA (O i 0) ch (B i)) (fun (j:Nat)=>enL slo shi (O i 19) (siL (O i 0) (O i 4) (O i 5) (O i 6) (O i 7) (O i 8) (O i 9) (O i 10) (O i 11) x0 y0 z0 ch (j:Int) (Z i))) (H*V).toNat)).2.2])∧Below W.heap.size W w':=by
 unfold spR
 cases hs:vbB slo shi with
 | false =>
  rw [if_neg (by decide)]
  exact btot_e h w c lo hi ot _ ch oa on oc W slo shi 30 (by decide) (bfd_30 h w c lo hi ot oa on oc O Z B W hL ch RL Rw hR i x wa lw cw ba lb cb x0 y0 z0 H V C hF hch slo shi hs)
 | true =>
  rw [if_pos rfl]
  obtain⟨-,-,-,-,-,hbi,-⟩:=bfacts hL RL Rw hR i x wa lw cw ba lb cb x0 y0 z0 H V C hF hch
  obtain⟨N,hN⟩:∃ N,(siL (O i 0) (O i 4) (O i 5) (O i 6) (O i 7) (O i 8) (O i 9) (O i 10) (O i 11) x0 y0 z0 ch 0 (Z i)).length=N:=⟨_,rfl⟩
  refine btot_w h w c lo hi ot _ ch oa on oc W slo shi (H*V) (biA (O i 0) ch (B i)) (O i 19) x0 y0 z0 N (by rw [← hN];exact slen RL Rw hR i x wa lw cw ba lb cb x0 y0 z0 H V C hF hch) #[U i6 (O i 0),U i6 0,U i6 0,U i6 (O i 3),U i6 (O i 4),U i6 (O i 5),U i6 (O i 6),U i6 (O i 7),U i6 (O i 8),U i6 (O i 9),U i6 (O i 10),U i6 (O i 11),Sl wa lw cw,Sl ba lb cb,U i6 (O i 14),U i6 (O i 15),U i6 (O i 16),U i6 (O i 17),U i6 (O i 18),U i6 (O i 19),U i6 (O i 20),U i6 (O i 21)] (siL (O i 0) (O i 4) (O i 5) (O i 6) (O i 7) (O i 8) (O i 9) (O i 10) (O i 11) x0 y0 z0 ch 0 (Z i)) _ _ (bfd_ok h w c lo hi ot oa on oc O Z B W hL ch RL Rw hR i x wa lw cw ba lb cb x0 y0 z0 H V C hF hch slo shi hs N hN _ rfl) 38 rfl (fun W' g0 q fa fc hb hg hq hTv hfa=>?_)
  exact bhull_m h w c lo hi ot oa on oc O Z B W hL ch RL Rw hR i x wa lw cw ba lb cb x0 y0 z0 H V C hF hch slo shi hs N (biA (O i 0) ch (B i)) W' hb g0 q fa fc hg hq hTv hfa (fun E=>[suS (biA (O i 0) ch (B i),biA (O i 0) ch (B i)) E]) 38 #[.pointer (some ⟨q,0,none⟩)] (enters_of Tryz.func38 (by kernel_rfl) rfl) (fun W'' v E L nb b hb' hE h0 hl hv hn hbb hT hL=>ctot_any ch (H*V) fa N fc (biA (O i 0) ch (B i)) slo shi (O i 19) x0 y0 z0 g0 q W'' ((hb'.block q (lt_of_heap hq)).trans hq) hbi v E L nb b hE h0 hl hv hn hbb hT hL) (fun E hE h0 hl=>ftot hbi hE hl)
theorem bprt_bad (h w c lo hi ot op ch:Int) (oa:Option Addr) (on oc:Nat) (W:World) (slo shi dp E:Int) (hE:E≠0) (hO:(∀ W',Below W.heap.size W W'→(Calls Tryz.prog 55 #[.agg #[U i6 h,U i6 w,U i6 c,U i6 lo,U i6 hi,Sl oa on oc,U i6 ot],U i6 op,U i6 ch,U i6 0] W' fun e w'=>e=.returned (.tuple #[Sl none 0 0,U i6 0,U i6 E])∧Below W'.heap.size W' w')∧∀ slo shi:Int,Calls Tryz.prog 36 #[.agg #[U i6 h,U i6 w,U i6 c,U i6 lo,U i6 hi,Sl oa on oc,U i6 ot],U i6 op,U i6 ch,.agg #[U i6 slo,U i6 shi]] W' fun e w'=>e=.returned (.tuple #[.agg #[U i6 0,U i6 0,Sl none 0 0,U i6 0,U i6 0,U i6 0,U i6 0,U i6 0,U i6 0,U i6 0,U i6 0,U i6 0,U i6 0,Sl none 0 0,U i6 0],U i6 E])∧Below W'.heap.size W' w')):Calls Tryz.prog 66 #[.agg #[U i6 h,U i6 w,U i6 c,U i6 lo,U i6 hi,Sl oa on oc,U i6 ot],U i6 op,U i6 ch,.agg #[U i6 slo,U i6 shi],U i6 dp] W fun e w'=>e=.returned (.tuple #[.agg #[U i6 0,U i6 0],U i6 E])∧Below W.heap.size W w' :=
 bprt_e h w c lo hi ot op ch oa on oc W slo shi dp E hE (fun W' hb=>(hO W' hb).2 slo shi)
theorem bprt_ok (h w c lo hi ot:Int) (oa:Option Addr) (on oc:Nat) (O:Nat→Nat→Int) (Z B:Nat→List Int) (W:World) (hL:LRow W oa on oc O Z B) (ch:Int) (RL:List (Int×Int×Int)) (Rw:Int) (hR:gtR O h w c lo hi ot on=(0,0,RL,Rw)) (i:Nat) (x:Addr) (wa:Option Addr) (lw cw:Nat) (ba:Option Addr) (lb cb:Nat) (x0 y0 z0 H V C:Int) (hF:Fnd W oa on O Z B RL i x wa lw cw ba lb cb x0 y0 z0 H V C) (hch:1≤ch∧ch≤C) (slo shi dp:Int) (N:Nat) (hN:(siL (O i 0) (O i 4) (O i 5) (O i 6) (O i 7) (O i 8) (O i 9) (O i 10) (O i 11) x0 y0 z0 ch 0 (Z i)).length=N):Calls Tryz.prog 66 #[.agg #[U i6 h,U i6 w,U i6 c,U i6 lo,U i6 hi,Sl oa on oc,U i6 ot],U i6 ((i:Int)+1),U i6 ch,.agg #[U i6 slo,U i6 shi],U i6 dp] W fun e w'=>e=.returned (.tuple #[.agg #[U i6 (spD slo shi dp N (hbD dp.toNat (fun (j:Nat)=>enL slo shi (O i 19) (siL (O i 0) (O i 4) (O i 5) (O i 6) (O i 7) (O i 8) (O i 9) (O i 10) (O i 11) x0 y0 z0 ch (j:Int) (Z i))) (H*V).toNat)).1,U i6 (spD slo shi dp N (hbD dp.toNat (fun (j:Nat)=>enL slo shi (O i 19) (siL (O i 0) (O i 4) (O i 5) (O i 6) (O i 7) (O i 8) (O i 9) (O i 10) (O i 11) x0 y0 z0 ch (j:Int) (Z i))) (H*V).toNat)).2.1],U i6 (spD slo shi dp N (hbD dp.toNat (fun (j:Nat)=>enL slo shi (O i 19) (siL (O i 0) (O i 4) (O i 5) (O i 6) (O i 7) (O i 8) (O i 9) (O i 10) (O i 11) x0 y0 z0 ch (j:Int) (Z i))) (H*V).toNat)).2.2])∧Below W.heap.size W w':=by
 unfold spD
 have hN5:N≤512:=by rw [← hN];exact slen RL Rw hR i x wa lw cw ba lb cb x0 y0 z0 H V C hF hch
 cases hs:vbB slo shi with
 | false =>
  rw [if_neg (by decide)]
  exact bprt_e h w c lo hi ot _ ch oa on oc W slo shi dp 30 (by decide) (bfd_30 h w c lo hi ot oa on oc O Z B W hL ch RL Rw hR i x wa lw cw ba lb cb x0 y0 z0 H V C hF hch slo shi hs)
 | true =>
  rw [if_pos rfl]
  have hFm:=bfd_ok h w c lo hi ot oa on oc O Z B W hL ch RL Rw hR i x wa lw cw ba lb cb x0 y0 z0 H V C hF hch slo shi hs N hN _ rfl
  by_cases hd:1≤dp∧dp≤(N:Int)
  ·rw [if_pos hd]
   obtain⟨d,rfl⟩:=Int.eq_ofNat_of_zero_le (show 0≤dp by omega)
   rw [Int.toNat_natCast]
   have hbf:=bfacts hL RL Rw hR i x wa lw cw ba lb cb x0 y0 z0 H V C hF hch
   have hrf:=row_facts (hbf.1.si hbf.2.1) hF.2.2.2.2.2.1.2.2.2.1 hch (vbB_yes hs) hbf.2.2.2.2.1 0
   have hpi:=piT_it (show 0<d by omega) (fun (j:Nat)=>enL slo shi (O i 19) (siL (O i 0) (O i 4) (O i 5) (O i 6) (O i 7) (O i 8) (O i 9) (O i 10) (O i 11) x0 y0 z0 ch (j:Int) (Z i))) (H*V).toNat (by omega) hrf.2.1
   unfold hbD
   rw [hpi]
   refine bprt_w h w c lo hi ot _ ch oa on oc W slo shi d (H*V) (biA (O i 0) ch (B i)) (O i 19) x0 y0 z0 N hN5 #[U i6 (O i 0),U i6 0,U i6 0,U i6 (O i 3),U i6 (O i 4),U i6 (O i 5),U i6 (O i 6),U i6 (O i 7),U i6 (O i 8),U i6 (O i 9),U i6 (O i 10),U i6 (O i 11),Sl wa lw cw,Sl ba lb cb,U i6 (O i 14),U i6 (O i 15),U i6 (O i 16),U i6 (O i 17),U i6 (O i 18),U i6 (O i 19),U i6 (O i 20),U i6 (O i 21)] (siL (O i 0) (O i 4) (O i 5) (O i 6) (O i 7) (O i 8) (O i 9) (O i 10) (O i 11) x0 y0 z0 ch 0 (Z i)) _ _ hFm ⟨by omega,by omega⟩ (fun W' g0 q r fa fc hb hg hq hr hTv hfa=>?_)
   exact bhull_m h w c lo hi ot oa on oc O Z B W hL ch RL Rw hR i x wa lw cw ba lb cb x0 y0 z0 H V C hF hch slo shi hs N (biA (O i 0) ch (B i)) W' hb g0 q fa fc hg hq hTv hfa (fun E=>itL d E) 88 #[.pointer (some ⟨r,0,none⟩)] (enters_of Tryz.func88 (by kernel_rfl) rfl) (fun W'' v E L nb b hb' hE h0 hl hv hn hbb hT hL=>cprt_any W'' d r ((hb'.block r (lt_of_heap hr)).trans hr) (by omega) (by omega) v E L nb b hE h0 hl hv hn hbb hT hL) (fun E hE h0 hl=>fprt hE hl)
  ·rw [if_neg hd]
   exact bprt_d h w c lo hi ot _ ch oa on oc W slo shi dp (H*V) (biA (O i 0) ch (B i)) (O i 19) x0 y0 z0 N hN5 #[U i6 (O i 0),U i6 0,U i6 0,U i6 (O i 3),U i6 (O i 4),U i6 (O i 5),U i6 (O i 6),U i6 (O i 7),U i6 (O i 8),U i6 (O i 9),U i6 (O i 10),U i6 (O i 11),Sl wa lw cw,Sl ba lb cb,U i6 (O i 14),U i6 (O i 15),U i6 (O i 16),U i6 (O i 17),U i6 (O i 18),U i6 (O i 19),U i6 (O i 20),U i6 (O i 21)] (siL (O i 0) (O i 4) (O i 5) (O i 6) (O i 7) (O i 8) (O i 9) (O i 10) (O i 11) x0 y0 z0 ch 0 (Z i)) 0 0 hFm hd
def upW (a:Int):Int:=if 0<a then a else 0
def dnW (a:Int):Int:=if 0<a then 0 else a
def upS:List (Int×Int)→Int
 | []=>0
 | t :: l=>upW t.1+upS l
def dnS:List (Int×Int)→Int
 | []=>0
 | t :: l=>dnW t.1+dnS l
def szV (x:Int):Int:=if x<0 then -x else x
def rcS (lo hi:Int):Int:=mxI (szV lo) (szV hi)
def rcV (tp lf bt rt p lo hi:Int):Int:=if 0<tp+lf+bt+rt then mxI (rcS lo hi) (szV p) else rcS lo hi
theorem piT_head {F:List (Int×Int)→List (Int×Int)} {R:Nat→List (Int×Int)} {N:Nat} (hN:0<N) {x:Int×Int} {l:List (Int×Int)} (h:F (R 0)=x :: l):∃ m,piT F R N=x :: m:=by
 obtain⟨n,rfl⟩:∃ n,N=n+1:=⟨N-1,by omega⟩
 unfold piT
 rw [List.range_succ_eq_map,List.flatMap_cons,h]
 exact⟨_,rfl⟩
def Inn (x y:Int×Int):Prop:=y.1≤x.1∧x.2≤y.2
theorem Inn.refl (x:Int×Int):Inn x x:=⟨Int.le_refl _,Int.le_refl _⟩
theorem hul_has {L:List (Int×Int)} {x:Int×Int} (hx:x∈L):Inn x (huA L):=by
 have hL:L≠[]:=fun e=>by rw [e] at hx;cases hx
 exact (huA_is hL).1 x hx
theorem piT_ne {F:List (Int×Int)→List (Int×Int)} {R:Nat→List (Int×Int)} {N:Nat} (hN:0<N) (h:0<(F (R 0)).length):piT F R N≠[]:=fun e=>by
 cases q:F (R 0) with
 | nil=>rw [q] at h;cases h
 | cons x l =>
  obtain⟨m,hm⟩:=piT_head hN q
  rw [hm] at e;cases e
section
variable {lo hi lo' hi' p:Int} (h1:lo'≤lo) (h2:lo≤hi) (h3:hi≤hi') (TL:List (Int×Int))
include h1 h2 h3
end
end Go.Proofs.YtgjcjhnnopandaaGreat
