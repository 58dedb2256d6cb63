/- goThrough of package model: what it answers. Slices of structs that came in, opened. Readings whose every list is within the reach: slices of integers, and slices of structs that hold slices, opened with that. Fronts of models in plain numbers; what is known of each op of a well-formed model; ops that came in. Sums of ops that reduce, in plain numbers: their terms, their bias, and what is known of such an op of a well-formed model. The document's size of a number, and a size with a sign: for every argument that fits its type. Quotients rounded half away from zero, as plain numbers. What the inner functions of package fixq, Shift, Mean and Finish return: each for every argument that fits its type. What Valid and Apply of package fixq return: each for every argument that fits its type. What an op makes of its tensors, in plain numbers; what is known of each op of a well-formed model; an op alone. Small functions of package witness: slid, the shape of a tensor. -/
import Derived.Test.YtgjcjhnnopandaaGreatGq01
import Derived.Test.YtgjcjhnnopandaaGreatGq08
import Derived.Test.YtgjcjhnnopandaaGreatGq11
import Derived.Deep.WholeRow
import Derived.SizedLaws
import Derived.BigQuiet
import Derived.Below
import Derived.WalkSmall
namespace Go.Proofs.YtgjcjhnnopandaaGreat
open Go.Value renaming int → U, slice → Sl
open Go.IntKind renaming i64 → i6
set_option maxRecDepth 100000
set_option maxHeartbeats 16000000
open Go.ChangeShapes Go.WideShapes Go.ChangeAt Go.RowKit
set_option linter.unusedVariables false
theorem set5b {w0 w:World} {B N M:Nat} {a b c d e:Value} (h:Below B w0 w) (hN:B≤N) (hM:B≤M):Below B w0 (((((w.setCell ⟨N,0,none⟩ a).setCell ⟨N,1,none⟩ b).setCell ⟨M,0,none⟩ c).setCell ⟨M,1,none⟩ d).setCell ⟨M,2,none⟩ e) :=
 ((((h.setCell (p:=⟨N,0,none⟩) hN a).setCell (p:=⟨N,1,none⟩) hN b).setCell (p:=⟨M,0,none⟩) hM c).setCell (p:=⟨M,1,none⟩) hM d).setCell (p:=⟨M,2,none⟩) hM e
theorem set5h {w:World} {g N M:Nat} {o:Obj} {a b c d e:Value} (h:w.heap[g]? = some o) (hN:g≠N) (hM:g≠M):(((((w.setCell ⟨N,0,none⟩ a).setCell ⟨N,1,none⟩ b).setCell ⟨M,0,none⟩ c).setCell ⟨M,1,none⟩ d).setCell ⟨M,2,none⟩ e).heap[g]? = some o:=by
 rw [Below.heap_setCell _ _ _ _ hM,Below.heap_setCell _ _ _ _ hM,Below.heap_setCell _ _ _ _ hM,Below.heap_setCell _ _ _ _ hN,Below.heap_setCell _ _ _ _ hN]
 exact h
theorem wpList_mk3 {w:World} {ops:Array Oper} {rest:List Oper} {o:Oper} {a:Act} {Q:Exit→Act→World→Prop} (hg:o.guard=none) (l c:Operand) (hop:o.op=Op.makeSlice 121 l c)
  (m:Nat) (C:Int) (hl:a.eval l=U i6 0) (hc:a.eval c=U i6 C) (hC:C=(m:Int)) (hm:m≤1000)
  (hK:∀ cur:Array Value,cur.size=m*3→wpList Tryz.prog ops Q rest (a.put o.dst (.slice (some ⟨w.heap.size,0,none⟩) 0 m)) (w.alloc (.cells cur 23))) :
  wpList Tryz.prog ops Q (o :: rest) a w:=by
 obtain⟨i0,hi0,hz0,hz1,hz2⟩:=info_parts (show (Tryz.prog.info? 23).map (fun i=>(i.zero,i.size,i.bytes))=some (some (.agg #[U i6 0,U i6 0,U i6 0]),3,24) by kernel_rfl)
 subst hC
 refine wpList_plain hg fun K hK'=>?_
 have hr:=run_make (P:=Tryz.prog) w 121 23 i0 (.agg #[U i6 0,U i6 0,U i6 0]) Tryz.underlying121 hi0 hz0 .i64 .i64 ((0:Nat):Int) m (by omega) (by omega) (by rw [hz2];omega) (by omega)
 simp only [Int.toNat_natCast,hz1] at hr
 unfold Oper.wp
 simp only [execOp,hop,hl,hc]
 simp [Result.andThen]
 have hr':=hr
 simp only [Int.natCast_zero] at hr'
 rw [hr']
 exact hK' _ _ (hK _ (by rw [size_madeCells]))
theorem wpList_ap3 {w:World} {ops:Array Oper} {rest:List Oper} {o:Oper} {a:Act} {Q:Exit→Act→World→Prop} (hg:o.guard=none) (s x:Operand) (hop:o.op=Op.call { callee:=Callee.builtin Builtin.append,args:=#[s,x],argTypes:=#[121,121] })
  (g n cap:Nat) (hs:a.eval s=.slice (some ⟨g,0,none⟩) n cap) (b:Nat) (u v z:Value) (hx:a.eval x=.slice (some ⟨b,0,none⟩) 1 1) (hb:w.heap[b]? = some (.cells #[u,v,z] 23 (0,0))) (h1:∀ q∈[u,v,z],q.oneCell'=true)
  (cur:Array Value) (hcur:w.heap[g]? = some (.cells cur 23 (0,0))) (hsz:n*3+3≤cur.size) (hroom:n+1≤cap)
  (hK:wpList Tryz.prog ops Q rest (a.put o.dst (.slice (some ⟨g,0,none⟩) (n+1) cap)) (w.setCells g (0+n*3) [u,v,z])):wpList Tryz.prog ops Q (o :: rest) a w:=by
 obtain⟨i0,hi0,hz0,hz1,hz2⟩:=info_parts (show (Tryz.prog.info? 23).map (fun i=>(i.zero,i.size,i.bytes))=some (some (.agg #[U i6 0,U i6 0,U i6 0]),3,24) by kernel_rfl)
 refine wpList_plain hg fun K hK'=>?_
 have:=step_append_room (P:=Tryz.prog) (ops:=ops) (o:=o) (a:=a) (w:=w) (K:=K) (Q:=Q) (E:=False) hg s x 121 hop 23 i0 3 Tryz.underlying121 hi0 hz1 g 0 n cap hs ⟨b,0,none⟩ 1 1 [u,v,z] hx rfl (new_cells hb) h1 hroom (spare_of hcur hsz) (hK' _ _ hK)
 rwa [if_pos (by simp [Region.wanted,hg])] at this
def Shp (w:World) (base:Nat) (v:Value) (L:List (Int×Int×Int)):Prop :=
 (v=.slice none 0 0∧L=[])∨∃ (g cap:Nat) (cur:Array Value),v=.slice (some ⟨g,0,none⟩) L.length cap∧base≤g∧w.heap[g]? = some (.cells cur 23 (0,0))∧Cu cur cap L∧cap≤1000
def gtR (O:Nat→Nat→Int) (h w c lo hi ot:Int) (on:Nat):Int×Int×List (Int×Int×Int)×Int:=if ouE h w c lo hi ot on≠0 then (ouE h w c lo hi ot on,0,[],0) else stG O (h,w,c) on
theorem gothrough_any (h w c lo hi ot:Int) (oa:Option Addr) (on oc:Nat) (O:Nat→Nat→Int) (W:World) (hM:MRow W oa on oc O) :
  Calls Tryz.prog 71 #[.agg #[U i6 h,U i6 w,U i6 c,U i6 lo,U i6 hi,.slice oa on oc,U i6 ot]] W fun e w'=>∃ v,e=.returned (.tuple #[.agg #[v,U i6 (gtR O h w c lo hi ot on).2.2.2],.agg #[U i6 (gtR O h w c lo hi ot on).1,U i6 (gtR O h w c lo hi ot on).2.1,U i6 0]])∧Shp w' W.heap.size v (gtR O h w c lo hi ot on).2.2.1∧Below W.heap.size W w':=by
 obtain⟨x,hx⟩:∃ x,ouE h w c lo hi ot on=x:=⟨_,rfl⟩
 have hU:Hid (∀ W,Calls Tryz.prog 92 #[.agg #[U i6 h,U i6 w,U i6 c,U i6 lo,U i6 hi,.slice oa on oc,U i6 ot]] W fun e w'=>e=.returned (U i6 x)∧Below W.heap.size W w'):=fun W=>by rw [← hx];exact outside_any h w c lo hi ot oa on oc W
 obtain⟨Re,Ra,RL,Rw,hR⟩:∃ Re Ra RL Rw,gtR O h w c lo hi ot on=(Re,Ra,RL,Rw):=⟨_,_,_,_,rfl⟩
 rw [hR]
 simp only
 by_cases hx0:x=0
 rotate_left
 ·have hRR:gtR O h w c lo hi ot on=(x,0,[],0):=by unfold gtR;rw [hx,if_pos hx0]
  rw [hR] at hRR
  simp only [Prod.mk.injEq] at hRR
  obtain⟨rfl,rfl,rfl,rfl⟩:=hRR
  clear hx hR hM
  go_enter Tryz.func71,Tryz.ntmps71
  go_wp2_with fail
  refine (hU.out _).mono ?_
  rintro e w1 ⟨rfl,hb'⟩
  have s1:=(St.start W).new.new.new.call hb'
  clear hb'
  try simp only [World.size_setCell] at s1
  try simp only [World.size_alloc] at s1
  obtain⟨c1,f1,zw1_1,c2,f2,zw1_2,c3,f3,zw1_3,-⟩:=s1.rules
  go_wp2
  exact bodyPost_ret (v:=.tuple #[.agg #[.slice none 0 0,U i6 0],.agg #[U i6 Re,U i6 0,U i6 0]]) (by simp [results,Tryz.results71,go_sem, *]) rfl ⟨_,rfl,.inl ⟨rfl,rfl⟩,set5b s1.below (by omega) (by omega)⟩
 subst hx0
 obtain⟨g0,r0,ho64,hot0,hot1⟩:=ouE_0 hx
 have hRG:Hid (stG O (h,w,c) on=(Re,Ra,RL,Rw)):=by unfold Hid;rw [← hR];unfold gtR;rw [hx,if_neg (by decide)]
 have hocc:=hM.1
 have hocm:=hM.2.1
 unfold maxLen at hocm
 have hM':Hid (MRow W oa on oc O):=hM
 clear hx hR hM hot0 hot1 r0
 go_enter Tryz.func71,Tryz.ntmps71
 go_wp2_with fail
 refine (hU.out _).mono ?_
 rintro e w1 ⟨rfl,hb'⟩
 have s1:=(St.start W).new.new.new.call hb'
 clear hb'
 try simp only [World.size_setCell] at s1
 try simp only [World.size_alloc] at s1
 obtain⟨c1,f1,zw1_1,c2,f2,zw1_2,c3,f3,zw1_3,-⟩:=s1.rules
 go_wp2_with (first
  | (at_make;refine wpList_mk3 rfl _ _ rfl (on+1) _ rfl rfl (by omega) (by omega) ?_;intro cur hcur)
  | (at_builtin;refine wpList_ap3 rfl (.tmp 22) (.tmp 25) rfl w1.heap.size 0 (on+1) rfl (w1.heap.size+1) (U i6 h) (U i6 w) (U i6 c) rfl (heap_alloc2_new w1 _ _) (by simp [Value.oneCell']) cur (heap_alloc2_old w1 _ _) (by omega) (by omega) ?_;have s2:=(s1.new (c:=cur) (t:=23)).new (c:=#[U i6 h,U i6 w,U i6 c]) (t:=23);simp only [World.size_alloc] at s2;have s3:=s2.up1.app3 (by simp;omega) (o:=0*3) (x:=U i6 h) (y:=U i6 w) (z:=U i6 c);generalize World.setCells _ _ _ _=w2 at s3 ⊢;clear s2 c1 f1 c2 f2 c3 f3;obtain⟨-,-,zg,-,-,-,-,-,-,-,-,-,c3,f3,zm,-⟩:=s3.rules))
 have hC1:Cu _ (on+1) [(h,w,c)]:=(show Cu cur (on+1) [] from ⟨hcur,by simp,by rw [show ([]:List (Int×Int×Int)).length*3=0 from rfl,List.take_zero];rfl⟩).add (by simp) h w c
 have s4:=s3.drop2.new (c:=#[.slice (some ⟨w1.heap.size,0,none⟩) 1 (on+1),U i6 0]) (t:=150)
 have H4:Hid (∃ cur,Cu cur (on+1) [(h,w,c)]∧St W _ ((_,_,_) :: (_,cur,_) :: _)):=⟨_,hC1,s4⟩
 clear s3 s4 hC1 c3 f3 hcur s1
 go_loopw [31] (fun i wr=>∃ (k:Nat) (L:List (Int×Int×Int)) (wk:Int) (cur:Array Value),k≤on∧i=U i6 k∧stG O (h,w,c) k=(0,0,L,wk)∧Cu cur (on+1) L∧St W wr ((w2.heap.size,#[.slice (some ⟨w1.heap.size,0,none⟩) (k+1) (on+1),U i6 wk],150) :: (w1.heap.size,cur,23) :: (W.heap.size+1+1,#[U i6 0,U i6 0,U i6 0],123) :: (W.heap.size+1,#[.slice none 0 0,U i6 0],150) :: (W.heap.size,#[U i6 h,U i6 w,U i6 c,U i6 lo,U i6 hi,.slice oa on oc,U i6 ot],26) :: [])) (fun i _=>on-(intOf i).toNat)
 case atStart =>
  obtain⟨cur1,hC1,s4⟩:=H4.out
  exact⟨0,[(h,w,c)],0,cur1,Nat.zero_le _,rfl,rfl,hC1,s4⟩
 case round =>
  obtain⟨k,L,wk,cur1,hk,rfl,hst,hCu,sr⟩:=hrel
  clear H4 cur
  obtain⟨i1,i2,i3,i4⟩:=stG_inv (O:=O) (s0:=(h,w,c)) g0 k L wk hst
  obtain⟨c1,f1,zr1,c2,f2,zr2,c3,f3,zr3,c4,f4,zr4,c5,f5,zr5,-⟩:=sr.rules
  by_cases hlt:k<on
  ·obtain⟨x,wa,lw,cw,ba,lb,cb,rfl,hl12,hl13,hcell⟩:=(hM'.out.below sr.below).at hlt
   have sb:=(sr.new (c:=#[U i6 (O k 0),U i6 (O k 1),U i6 (O k 2),U i6 (O k 3),U i6 (O k 4),U i6 (O k 5),U i6 (O k 6),U i6 (O k 7),U i6 (O k 8),U i6 (O k 9),U i6 (O k 10),U i6 (O k 11),.slice wa lw cw,.slice ba lb cb,U i6 (O k 14),U i6 (O k 15),U i6 (O k 16),U i6 (O k 17),U i6 (O k 18),U i6 (O k 19),U i6 (O k 20),U i6 (O k 21)]) (t:=44)).toFront
   have hT:tkE (O k 0) (O k 1) (O k 2) (O k 3) (O k 4) (O k 5) (O k 6) (O k 7) (O k 8) (O k 9) (O k 10) (O k 11) lw lb (O k 14) (O k 15) (O k 16) (O k 17) (O k 18) (O k 19) (O k 20) (O k 21) L wk=oT (O k) L wk:=by unfold oT;rw [hl12,hl13];rfl
   have hcall:=take_any (O k 0) (O k 1) (O k 2) (O k 3) (O k 4) (O k 5) (O k 6) (O k 7) (O k 8) (O k 9) (O k 10) (O k 11) wa lw cw ba lb cb (O k 14) (O k 15) (O k 16) (O k 17) (O k 18) (O k 19) (O k 20) (O k 21) W _ w2.heap.size w1.heap.size (on+1) (k+1) cur1 L wk _ i1 sb (by omega) ⟨i3,i4⟩ (by omega) hCu i2 (by omega) (by simp;omega)
   rw [hT] at hcall
   obtain⟨y,hy⟩:∃ y,oT (O k) L wk=y:=⟨_,rfl⟩
   rw [hy] at hcall
   have Hcall:Hid _:=hcall
   have Hbox:=heap_alloc_new wr (.cells #[U i6 (O k 0),U i6 (O k 1),U i6 (O k 2),U i6 (O k 3),U i6 (O k 4),U i6 (O k 5),U i6 (O k 6),U i6 (O k 7),U i6 (O k 8),U i6 (O k 9),U i6 (O k 10),U i6 (O k 11),.slice wa lw cw,.slice ba lb cb,U i6 (O k 14),U i6 (O k 15),U i6 (O k 16),U i6 (O k 17),U i6 (O k 18),U i6 (O k 19),U i6 (O k 20),U i6 (O k 21)] 44)
   have hcell':Hid (∀ j v,[U i6 (O k 0),U i6 (O k 1),U i6 (O k 2),U i6 (O k 3),U i6 (O k 4),U i6 (O k 5),U i6 (O k 6),U i6 (O k 7),U i6 (O k 8),U i6 (O k 9),U i6 (O k 10),U i6 (O k 11),.slice wa lw cw,.slice ba lb cb,U i6 (O k 14),U i6 (O k 15),U i6 (O k 16),U i6 (O k 17),U i6 (O k 18),U i6 (O k 19),U i6 (O k 20),U i6 (O k 21)][j]? = some v→wr.cell? ((x.add (k*22)).add j)=some v):=hcell
   clear hcall hcell hT hl12 hl13
   go_upto_region 8 with fail
   go_wp2_with (first
    | (refine wpList_load_any rfl 44 (.tmp 34) rfl _ rfl [U i6 (O k 0),U i6 (O k 1),U i6 (O k 2),U i6 (O k 3),U i6 (O k 4),U i6 (O k 5),U i6 (O k 6),U i6 (O k 7),U i6 (O k 8),U i6 (O k 9),U i6 (O k 10),U i6 (O k 11),.slice wa lw cw,.slice ba lb cb,U i6 (O k 14),U i6 (O k 15),U i6 (O k 16),U i6 (O k 17),U i6 (O k 18),U i6 (O k 19),U i6 (O k 20),U i6 (O k 21)] _ hcell'.out Tryz.underlying44 rfl (by kernel_rfl) ?_)
    | (refine wpList_st_new rfl 44 (.tmp 8) (.tmp 35) rfl wr _ #[U i6 (O k 0),U i6 (O k 1),U i6 (O k 2),U i6 (O k 3),U i6 (O k 4),U i6 (O k 5),U i6 (O k 6),U i6 (O k 7),U i6 (O k 8),U i6 (O k 9),U i6 (O k 10),U i6 (O k 11),.slice wa lw cw,.slice ba lb cb,U i6 (O k 14),U i6 (O k 15),U i6 (O k 16),U i6 (O k 17),U i6 (O k 18),U i6 (O k 19),U i6 (O k 20),U i6 (O k 21)] rfl rfl (by kernel_rfl) rfl (by simp [Value.oneCell']) ?_)
    | (refine wpList_load_row rfl 44 (.tmp 8) rfl wr.heap.size rfl 44 _ (0,0) _ Hbox Tryz.underlying44 rfl (by kernel_rfl) ?_))
   refine Calls.mono Hcall.out ?_
   rintro e w3 ⟨rfl,T⟩
   clear Hcall Hbox hcell' c1 f1 c2 f2 c3 f3 c4 f4 c5 f5 sb sr
   by_cases hy0:y=0
   ·obtain⟨n',cur',wk',s5,hz⟩:=T
    obtain⟨rfl,rfl,hCu'⟩:=hz hy0
    have hst':=stG_ok hst (hy.trans hy0)
    have Hst:Hid (stG O (h,w,c) (k+1)=_):=hst'
    have HC:Hid (Cu cur' (on+1) _):=hCu'
    have Hs5:Hid (St W w3 _):=s5
    clear hst' hCu' hst hz hy hCu s5 i1 i2
    subst hy0
    go_wp2
    go_round
    case rel=>exact⟨k+1,_,_,cur',by omega,rfl,Hst.out,HC.out,Hs5.out.drop3⟩
    case measure=>simp [intOf];omega
   ·obtain⟨n',cur',wk',s5,-⟩:=T
    have hst':=stG_err hst hy hy0
    have hon:stG O (h,w,c) on=(y,(k:Int)+1,[],0):=by
     have:=stG_bad (O:=O) (s0:=(h,w,c)) (i:=k+1) (by rw [hst'];exact hy0) (on-(k+1))
     rw [show k+1+(on-(k+1))=on by omega] at this
     rw [this,hst']
    rw [hRG.out] at hon
    simp only [Prod.mk.injEq] at hon
    obtain⟨e1,e2,e3,e4⟩:=hon
    have HE:Hid (Re=y∧Ra=(k:Int)+1∧RL=[]∧Rw=0):=⟨e1,e2,e3,e4⟩
    clear e1 e2 e3 e4 hst' hst hy hCu i1 i2 hRG
    obtain⟨c1,f1,zt1,c2,f2,zt2,c3,f3,zt3,c4,f4,zt4,c5,f5,zt5,c6,f6,zt6,-⟩:=s5.rules
    go_wp2
    exact bodyPost_ret (v:=.tuple #[.agg #[.slice none 0 0,U i6 0],.agg #[U i6 y,U i6 ((k:Int)+1),U i6 0]]) (by simp [results,Tryz.results71,go_sem, *]) rfl ⟨_,by rw [HE.out.1,HE.out.2.1,HE.out.2.2.2],.inl ⟨rfl,HE.out.2.2.1⟩,set5b s5.below (by omega) (by omega)⟩
  ·obtain rfl:k=on:=by omega
   rw [hRG.out] at hst
   simp only [Prod.mk.injEq] at hst
   obtain⟨e1,e2,e3,e4⟩:=hst
   have HE:Hid (Re=0∧Ra=0∧RL=L∧Rw=wk):=⟨e1,e2,e3,e4⟩
   have HL:Hid (L.length=k+1):=i1
   clear e1 e2 e3 e4 hRG i1
   go_wp2
   exact bodyPost_ret (v:=.tuple #[.agg #[.slice (some ⟨w1.heap.size,0,none⟩) (k+1) (k+1),U i6 wk],.agg #[U i6 0,U i6 0,U i6 0]]) (by simp [results,Tryz.results71,go_sem, *]) rfl ⟨_,by rw [HE.out.1,HE.out.2.1,HE.out.2.2.2],.inr ⟨w1.heap.size,k+1,cur1,by rw [HE.out.2.2.1,HL.out],by omega,set5h sr.h2 (by omega) (by omega),by rw [HE.out.2.2.1];exact hCu,by omega⟩,set5b sr.below (by omega) (by omega)⟩
open Go.ChangeShapes Go.WideShapes Go.ChangeAt Go.RowKit Go.Deep
def ORow (nc:Nat) (R:List Value→Prop) (w:World) (a:Option Addr) (len cap:Nat):Prop :=
 len≤cap∧cap≤maxLen∧(a=none→cap=0)∧∀ x,a=some x→∀ i,i<len→∃ cs,cs.length=nc∧R cs∧∀ j,j<nc→w.cell? (x.add (i*nc+j))=cs[j]?
def Sz {H:Type} (t:TypeId) (d:DataW H):Prop:=∀ n∈d.weights Tryz.prog t,n≤reachBytes
theorem weightsAll_mem {H:Type} {e:TypeId}:∀ {ds:List (DataW H)} {d:DataW H},d∈ds→∀ n∈d.weights Tryz.prog e,n∈DataW.weightsAll Tryz.prog e ds
 | x :: r,d,hd,n,hn=>by
  simp only [DataW.weightsAll,List.mem_append]
  rcases List.mem_cons.1 hd with rfl | hd
  ·exact .inl hn
  ·exact .inr (weightsAll_mem hd n hn)
theorem sz_arg {H:Type} {ts:List TypeId} {ds:List (DataW H)} (h:(DataW.weightsEach Tryz.prog ts ds).all (·≤reachBytes)=true) {j:Nat} {t:TypeId} {d:DataW H} (ht:ts[j]? = some t) (hd:ds[j]? = some d):Sz t d:=fun n hn=>by
 simpa using List.all_eq_true.1 h n (DataW.weights_mem_each ht hd n hn)
theorem Sz.slice {H:Type} {t e:TypeId} {el sp:List (DataW H)} (h:Sz t (.slice el sp)) (hu:Tryz.prog.underlying t=some (.slice e)):(el.length+sp.length)*Tryz.prog.bytesOf e≤reachBytes∧∀ x∈el,Sz e x:=by
 refine⟨h _ (by simp [DataW.weights,hu]),fun x hx n hn=>h n ?_⟩
 simp only [DataW.weights,hu]
 exact List.mem_cons_of_mem _ (List.mem_append_left _ (weightsAll_mem hx n hn))
theorem Sz.part {H:Type} {t:TypeId} {fs:Array Field} {ps:List (DataW H)} (h:Sz t (.agg ps)) (hu:Tryz.prog.underlying t=some (.struct fs)) {j:Nat} {f:Field} {d:DataW H} (hf:fs[j]? = some f) (hd:ps[j]? = some d):Sz f.type d:=fun n hn=>by
 refine h n ?_
 simp only [DataW.weights,hu]
 refine DataW.weights_mem_each (j:=j) ?_ hd n hn
 rw [List.getElem?_map,Array.getElem?_toList,hf]
 rfl
theorem openIz {H:Type} {enc:TypeId×Value→H} {W:World} {fuel:Nat} {a:Option Addr} {len cap:Nat} {d:DataW H} {p:List MemPlace} {t e:TypeId} {k:IntKind} {b:Nat}
  (ht:Tryz.prog.underlying t=some (.slice e)) (he:Tryz.prog.underlying e=some (.int k)) (hc:Tryz.prog.cellsOf e=1) (hb:Tryz.prog.bytesOf e=b)
  (hf:DataW.trod enc Tryz.prog W 0 (fun _=>true) true fuel t (Value.slice a len cap).cells.toList=some (d,p)) (hs:Sz t d):∃ zs,IRow k W a len cap zs∧len*b≤140737488351232:=by
 obtain⟨zs,h1,h2⟩:=openI ht he hc hf
 refine⟨zs,h1,?_⟩
 rcases h2 with ⟨_,h0⟩ | ⟨el,sp,rfl,hl⟩
 ·rw [h0];omega
 ·have:=(hs.slice ht).1
  rw [hb,hl] at this
  simp only [reachBytes] at this
  have e2:len*b≤(len+sp.length)*b:=Nat.mul_le_mul_right _ (by omega)
  omega
theorem openF {H:Type} {enc:TypeId×Value→H} {W:World} {fuel:Nat} {cs:List Value} {x:DataW H×List MemPlace} {t e:TypeId} {k:IntKind} {b:Nat}
  (ht:Tryz.prog.underlying t=some (.slice e)) (he:Tryz.prog.underlying e=some (.int k)) (hc:Tryz.prog.cellsOf e=1) (hb:Tryz.prog.bytesOf e=b)
  (hf:DataW.trod enc Tryz.prog W 0 (fun _=>true) true fuel t cs=some x) (hs:Sz t x.1):∃ a len cap zs,cs=[.slice a len cap]∧IRow k W a len cap zs∧len*b≤140737488351232:=by
 rcases open_slice ht hf with ⟨rfl,_⟩ | ⟨a,l,c,m,n,D,Pl,rfl,_⟩
 ·obtain⟨zs,h1,h2⟩:=openIz (a:=none) (len:=0) (cap:=0) (d:=x.1) (p:=x.2) ht he hc hb hf hs
  exact⟨none,0,0,zs,rfl,h1,h2⟩
 ·obtain⟨zs,h1,h2⟩:=openIz (a:=some a) (len:=l) (cap:=c) (d:=x.1) (p:=x.2) ht he hc hb hf hs
  exact⟨some a,l,c,zs,rfl,h1,h2⟩
theorem openOz {H:Type} {enc:TypeId×Value→H} {W:World} {fuel:Nat} {a:Option Addr} {len cap:Nat} {d:DataW H} {p:List MemPlace} {t e:TypeId} {nc b:Nat} (R:List Value→Prop)
  (ht:Tryz.prog.underlying t=some (.slice e)) (ce:Tryz.prog.cellsOf e=nc) (hb:Tryz.prog.bytesOf e=b) (hR:∀ n cs x,DataW.trod enc Tryz.prog W 0 (fun _=>true) true n e cs=some x→Sz e x.1→R cs)
  (hf:DataW.trod enc Tryz.prog W 0 (fun _=>true) true fuel t (Value.slice a len cap).cells.toList=some (d,p)) (hs:Sz t d):ORow nc R W a len cap∧len*b≤140737488351232:=by
 rcases open_slice ht hf with ⟨hcs,hx⟩ | ⟨x,l,c,m,n,D,Pl,hcs,_,hl,hm,hmm,hx,hcell⟩
 ·simp [Value.cells] at hcs
  obtain⟨rfl,rfl,rfl⟩:=hcs
  exact⟨⟨Nat.le_refl _,by unfold maxLen;omega,fun _=>rfl,fun x h=>by cases h⟩,by omega⟩
 ·simp [Value.cells] at hcs
  obtain⟨rfl,rfl,rfl⟩:=hcs
  simp only [Prod.mk.injEq] at hx
  simp only [if_true] at hmm
  obtain⟨rfl,-⟩:=hx
  obtain⟨hz,hz2⟩:=hs.slice ht
  refine⟨⟨hl,hm,fun h=>(by cases h),fun y hy i hi=>?_⟩,?_⟩
  ·obtain rfl:=Option.some.inj hy
   obtain⟨cs,h1,h2⟩:=hcell i (by omega)
   rw [ce] at h1
   obtain⟨_,hlen,hc⟩:=World.cells?_some h1
   refine⟨cs,hlen,hR _ _ _ h2 (hz2 _ (List.mem_map.2 ⟨i,by simpa using hi,rfl⟩)),fun j hj=>?_⟩
   have:=hc j (by omega)
   rw [Addr.add_add] at this
   exact this
  ·rw [hb] at hz
   simp only [List.length_map,List.length_range,reachBytes] at hz
   have e2:len*b≤(len+(m-len))*b:=Nat.mul_le_mul_right _ (by omega)
   omega
theorem openFo {H:Type} {enc:TypeId×Value→H} {W:World} {fuel:Nat} {cs:List Value} {x:DataW H×List MemPlace} {t e:TypeId} {nc b:Nat} (R:List Value→Prop)
  (ht:Tryz.prog.underlying t=some (.slice e)) (ce:Tryz.prog.cellsOf e=nc) (hb:Tryz.prog.bytesOf e=b) (hR:∀ n cs x,DataW.trod enc Tryz.prog W 0 (fun _=>true) true n e cs=some x→Sz e x.1→R cs)
  (hf:DataW.trod enc Tryz.prog W 0 (fun _=>true) true fuel t cs=some x) (hs:Sz t x.1):∃ a len cap,cs=[.slice a len cap]∧ORow nc R W a len cap∧len*b≤140737488351232:=by
 rcases open_slice ht hf with ⟨rfl,_⟩ | ⟨a,l,c,m,n,D,Pl,rfl,_⟩
 ·have:=openOz (a:=none) (len:=0) (cap:=0) (d:=x.1) (p:=x.2) R ht ce hb hR hf hs
  exact⟨none,0,0,rfl,this⟩
 ·have:=openOz (a:=some a) (len:=l) (cap:=c) (d:=x.1) (p:=x.2) R ht ce hb hR hf hs
  exact⟨some a,l,c,rfl,this⟩
theorem stG_step {O:Nat→Nat→Int} {s0:Int×Int×Int} {n:Nat} {L:List (Int×Int×Int)} {wk:Int} (h:stG O s0 (n+1)=(0,0,L,wk)) :
  ∃ L0 wk0,stG O s0 n=(0,0,L0,wk0)∧oT (O n) L0 wk0=0∧L=L0++[oM (O n) L0]∧wk=wk0+oW (O n) L0:=by
 obtain⟨e,t,L0,wk0,h0⟩:∃ e t L0 wk0,stG O s0 n=(e,t,L0,wk0):=⟨_,_,_,_,rfl⟩
 by_cases he:e=0
 ·have ht:t=0:=stG_at0 h0 he
  subst he ht
  by_cases hx:oT (O n) L0 wk0=0
  ·rw [stG_ok h0 hx] at h
   simp only [Prod.mk.injEq,true_and] at h
   exact⟨L0,wk0,h0,hx,h.1.symm,h.2.symm⟩
  ·rw [stG_err h0 rfl hx] at h
   simp only [Prod.mk.injEq] at h
   exact absurd h.1 hx
 ·have:=stG_bad (O:=O) (s0:=s0) (i:=n) (by rw [h0];exact he) 1
  rw [h,h0] at this
  simp only [Prod.mk.injEq] at this
  exact absurd this.1.symm he
theorem stG_pre {O:Nat→Nat→Int} {s0:Int×Int×Int} (hs:vS3 s0=true):∀ (n:Nat) (L:List (Int×Int×Int)) (wk:Int),stG O s0 n=(0,0,L,wk)→∀ i,i≤n→∃ wi,stG O s0 i=(0,0,L.take (i+1),wi)∧0≤wi∧wi≤wk
 | 0,L,wk,h,i,hi=>by
  obtain rfl:i=0:=by omega
  obtain⟨h1,-,h3,-⟩:=stG_inv hs 0 L wk h
  exact⟨wk,by rw [List.take_of_length_le (by omega)];exact h,h3,Int.le_refl _⟩
 | n+1,L,wk,h,i,hi=>by
  obtain⟨h1,-,h3,-⟩:=stG_inv hs (n+1) L wk h
  by_cases e:i=n+1
  ·subst e
   exact⟨wk,by rw [List.take_of_length_le (by omega)];exact h,h3,Int.le_refl _⟩
  ·obtain⟨L0,wk0,h0,hx,hL,hw⟩:=stG_step h
   obtain⟨i1,i2,i3,i4⟩:=stG_inv hs n L0 wk0 h0
   obtain⟨wi,g1,g2,g3⟩:=stG_pre hs n L0 wk0 h0 i (by omega)
   obtain⟨-,t2,-,-⟩:=tk_0 hx i2
   have t2':0≤oW (O n) L0:=t2
   refine⟨wi,?_,g2,by omega⟩
   rw [g1,hL,List.take_append_of_le_length (by omega)]
theorem ouE_front {h w c lo hi ot:Int} {on j:Nat} (q:ouE h w c lo hi ot on=0) (hj:j≤on):ouE h w c lo hi (j:Int) j=0:=by
 obtain⟨a1,a2,a3,-,-⟩:=ouE_0 q
 unfold ouE
 rw [if_neg (by rw [a1];decide),if_neg (by rw [a2];decide),if_neg (by omega),if_neg (by omega)]
theorem gtR_of {O:Nat→Nat→Int} {h w c lo hi ot:Int} {on:Nat} (q:ouE h w c lo hi ot on=0):gtR O h w c lo hi ot on=stG O (h,w,c) on:=by unfold gtR;rw [q,if_neg (by decide)]
theorem gtR_st {O:Nat→Nat→Int} {h w c lo hi ot t wk:Int} {on:Nat} {L:List (Int×Int×Int)} (q:gtR O h w c lo hi ot on=(0,t,L,wk)):ouE h w c lo hi ot on=0∧t=0∧stG O (h,w,c) on=(0,0,L,wk):=by
 by_cases hx:ouE h w c lo hi ot on=0
 ·rw [gtR_of hx] at q
  have ht:=stG_at0 q rfl
  subst ht
  exact⟨hx,rfl,q⟩
 ·unfold gtR at q
  rw [if_pos hx] at q
  simp only [Prod.mk.injEq] at q
  exact absurd q.1 hx
theorem gtR_ok {O:Nat→Nat→Int} {h w c lo hi ot t wk:Int} {on:Nat} {L:List (Int×Int×Int)} (q:gtR O h w c lo hi ot on=(0,t,L,wk)) :
  t=0∧L.length=on+1∧on≤64∧0≤wk∧wk≤131072∧∀ k:Nat,k≤on→∃ wi,gtR O h w c lo hi (k:Int) k=(0,0,L.take (k+1),wi)∧0≤wi∧wi≤wk:=by
 obtain⟨hx,rfl,q2⟩:=gtR_st q
 clear q
 have q:=q2
 have hv:vS3 (h,w,c)=true:=(ouE_0 hx).1
 obtain⟨h1,-,h3,h4⟩:=stG_inv hv on L wk q
 refine⟨rfl,h1,(ouE_0 hx).2.2.1,h3,h4,fun k hk=>?_⟩
 obtain⟨wi,g1,g2⟩:=stG_pre hv on L wk q k hk
 exact⟨wi,by rw [gtR_of (ouE_front hx hk)];exact g1,g2⟩
theorem mkE_parts {k m kh kw sh sw tp lf bt rt h w c:Int} (hx:mkE k m kh kw sh sw tp lf bt rt h w c=0):mkW k kh kw sh sw tp lf bt rt h w c=0:=by
 unfold mkE at hx
 by_cases hM:mkM k m=false
 ·rw [if_pos hM] at hx;cases hx
 ·rw [if_neg hM] at hx
  by_cases hw:mkW k kh kw sh sw tp lf bt rt h w c≠0
  ·rw [if_pos hw] at hx;exact absurd hx hw
  ·exact Decidable.not_not.1 hw
def OpFit (k kh kw sh sw tp lf bt rt:Int) (A B:Int×Int×Int):Prop :=
 vS B.1 B.2.1 B.2.2=true∧(2≤k∧k≤5→ouR A.1 A.2.1 A.2.2 kh kw sh sw tp lf bt rt=(B.1,B.2.1,0)∧(k≠2→B.2.2=A.2.2))∧(6≤k→B=A)
theorem fit_of {k m kh kw sh sw tp lf bt rt:Int} {A:Int×Int×Int} (hx:mkE k m kh kw sh sw tp lf bt rt A.1 A.2.1 A.2.2=0) (hv:vS3 (mk3 k m kh kw sh sw tp lf bt rt A)=true):OpFit k kh kw sh sw tp lf bt rt A (mk3 k m kh kw sh sw tp lf bt rt A):=by
 refine⟨hv,fun hk=>?_,fun hk=>?_⟩
 ·have hw:=mkE_parts hx
  unfold mkW at hw
  rw [if_pos hk] at hw
  obtain⟨r,q,e,ho⟩:∃ r q e,ouR A.1 A.2.1 A.2.2 kh kw sh sw tp lf bt rt=(r,q,e):=⟨_,_,_,rfl⟩
  rw [ho] at hw
  simp only at hw
  subst hw
  by_cases k2:k=2
  ·have hm:mk3 k m kh kw sh sw tp lf bt rt A=(r,q,m):=by unfold mk3 mkS;rw [if_neg (by omega),if_pos k2,ho]
   rw [hm]
   exact⟨ho,fun h=>absurd k2 h⟩
  ·have hm:mk3 k m kh kw sh sw tp lf bt rt A=(r,q,A.2.2):=by unfold mk3 mkS;rw [if_neg (by omega),if_neg k2,if_pos (by omega),ho]
   rw [hm]
   exact⟨ho,fun _=>rfl⟩
 ·unfold mk3 mkS
  rw [if_neg (by omega),if_neg (by omega),if_neg (by omega)]
theorem ShA_take {L:List (Int×Int×Int)} {i n:Nat} (h:i<n):ShA (L.take n) (i:Int)=ShA L (i:Int):=by
 unfold ShA
 rw [Int.toNat_natCast]
 simp [List.getD,h]
theorem gtR_at {O:Nat→Nat→Int} {h w c lo hi ot t wk:Int} {on:Nat} {L:List (Int×Int×Int)} (q:gtR O h w c lo hi ot on=(0,t,L,wk)) :
  ShA L ((0:Nat):Int)=(h,w,c)∧∀ i,i<on→∃ j:Nat,O i 1=(j:Int)∧j≤i∧OpFit (O i 0) (O i 4) (O i 5) (O i 6) (O i 7) (O i 8) (O i 9) (O i 10) (O i 11) (ShA L (j:Int)) (ShA L ((i+1:Nat):Int)):=by
 obtain⟨hx,rfl,q2⟩:=gtR_st q
 clear q
 have q:=q2
 have hv:vS3 (h,w,c)=true:=(ouE_0 hx).1
 refine⟨?_,fun i hi=>?_⟩
 ·obtain⟨wi,g1,-⟩:=stG_pre hv on L wk q 0 (by omega)
  unfold stG at g1
  simp only [Prod.mk.injEq,true_and] at g1
  rw [← ShA_take (n:=0+1) (by omega),← g1.1]
  rfl
 ·obtain⟨wi,g1,-⟩:=stG_pre hv on L wk q (i+1) (by omega)
  obtain⟨L0,wk0,h0,hx0,hL,-⟩:=stG_step g1
  obtain⟨w2,g2,-⟩:=stG_pre hv on L wk q i (by omega)
  rw [g2] at h0
  simp only [Prod.mk.injEq,true_and] at h0
  obtain⟨rfl,rfl⟩:=h0
  obtain⟨i1,i2,-⟩:=stG_inv hv i _ _ g2
  obtain⟨t1,-,-,⟨a0,a1⟩,-,t6⟩:=tk_0 hx0 i2
  obtain⟨j,hj⟩:=Int.eq_ofNat_of_zero_le a0
  rw [hj] at a1 t1 t6
  refine⟨j,hj,by omega,?_⟩
  have e1:ShA (L.take (i+1)) (j:Int)=ShA L (j:Int):=ShA_take (by omega)
  have e2:ShA L ((i+1:Nat):Int)=mk3 (O i 0) (O i 3) (O i 4) (O i 5) (O i 6) (O i 7) (O i 8) (O i 9) (O i 10) (O i 11) (ShA L (j:Int)):=by
   rw [← ShA_take (n:=i+1+1) (by omega),hL]
   unfold ShA at e1 ⊢
   rw [Int.toNat_natCast]
   simp only [List.getD]
   rw [List.getElem?_append_right (by omega),i1,Nat.sub_self]
   unfold oM ShA
   rw [hj,Int.toNat_natCast]
   rw [Int.toNat_natCast] at e1
   simp only [List.getElem?_cons_zero,Option.getD_some]
   rw [e1]
   rfl
  rw [e1] at t1 t6
  rw [e2]
  exact fit_of t6 t1
def OpIn (w:World) (cs:List Value):Prop :=
 ∃ (b0:Int) (b1:Int) (b2:Int) (b3:Int) (b4:Int) (b5:Int) (b6:Int) (b7:Int) (b8:Int) (b9:Int) (b10:Int) (b11:Int) (b12:Option Addr) (l12 c12:Nat) (z12:List Int) (b13:Option Addr) (l13 c13:Nat) (z13:List Int) (b14:Int) (b15:Int) (b16:Int) (b17:Int) (b18:Int) (b19:Int) (b20:Int) (b21:Int),cs=[U i6 b0,U i6 b1,U i6 b2,U i6 b3,U i6 b4,U i6 b5,U i6 b6,U i6 b7,U i6 b8,U i6 b9,U i6 b10,U i6 b11,.slice b12 l12 c12,.slice b13 l13 c13,U i6 b14,U i6 b15,U i6 b16,U i6 b17,U i6 b18,U i6 b19,U i6 b20,U i6 b21] ∧
  (Lit.int .i64 b0).wf=true∧(Lit.int .i64 b1).wf=true∧(Lit.int .i64 b2).wf=true∧(Lit.int .i64 b3).wf=true∧(Lit.int .i64 b4).wf=true∧(Lit.int .i64 b5).wf=true∧(Lit.int .i64 b6).wf=true∧(Lit.int .i64 b7).wf=true∧(Lit.int .i64 b8).wf=true∧(Lit.int .i64 b9).wf=true∧(Lit.int .i64 b10).wf=true∧(Lit.int .i64 b11).wf=true ∧
  IRow .i16 w b12 l12 c12 z12∧l12*2≤140737488351232∧IRow .i32 w b13 l13 c13 z13∧l13*4≤140737488351232 ∧
  (Lit.int .i64 b14).wf=true∧(Lit.int .i64 b15).wf=true∧(Lit.int .i64 b16).wf=true∧(Lit.int .i64 b17).wf=true∧(Lit.int .i64 b18).wf=true∧(Lit.int .i64 b19).wf=true∧(Lit.int .i64 b20).wf=true∧(Lit.int .i64 b21).wf=true
def LOp (w:World) (x:Addr) (o:Nat→Int) (z b:List Int):Prop :=
 ∃ (wa:Option Addr) (lw cw:Nat) (ba:Option Addr) (lb cb:Nat),o 12=(lw:Int)∧o 13=(lb:Int)∧(∀ j v,(opl o wa lw cw ba lb cb)[j]? = some v→w.cell? (x.add j)=some v)∧IRow .i16 w wa lw cw z∧IRow .i32 w ba lb cb b∧lw*2≤140737488351232∧lb*4≤140737488351232
def LRow (w:World) (oa:Option Addr) (on oc:Nat) (O:Nat→Nat→Int) (Z B:Nat→List Int):Prop :=
 on≤oc∧oc≤maxLen∧(oa=none→oc=0)∧∀ x,oa=some x→∀ i,i<on→LOp w (x.add (i*22)) (O i) (Z i) (B i)
theorem LRow.m {w:World} {oa:Option Addr} {on oc:Nat} {O:Nat→Nat→Int} {Z B:Nat→List Int} (h:LRow w oa on oc O Z B):MRow w oa on oc O :=
 ⟨h.1,h.2.1,h.2.2.1,fun x hx i hi=>by
  obtain⟨wa,lw,cw,ba,lb,cb,h1,h2,h3,-⟩:=h.2.2.2 x hx i hi
  exact⟨wa,lw,cw,ba,lb,cb,h1,h2,fun j v hj=>by rw [← Addr.add_add];exact h3 j v hj⟩⟩
theorem LOp.below {w w':World} {x:Addr} {o:Nat→Int} {z b:List Int} (h:LOp w x o z b) (g:Below w.heap.size w w'):LOp w' x o z b:=by
 obtain⟨wa,lw,cw,ba,lb,cb,h1,h2,h3,h4,h5,h6⟩:=h
 exact⟨wa,lw,cw,ba,lb,cb,h1,h2,fun j v hj=>(g.cell (World.block_lt_of_cell? w _ (h3 j v hj))).trans (h3 j v hj),h4.below g,h5.below g,h6⟩
theorem LRow.below {w w':World} {oa:Option Addr} {on oc:Nat} {O:Nat→Nat→Int} {Z B:Nat→List Int} (h:LRow w oa on oc O Z B) (g:Below w.heap.size w w'):LRow w' oa on oc O Z B :=
 ⟨h.1,h.2.1,h.2.2.1,fun x hx i hi=>(h.2.2.2 x hx i hi).below g⟩
def oL (b0 b1 b2 b3 b4 b5 b6 b7 b8 b9 b10 b11 b12 b13 b14 b15 b16 b17 b18 b19 b20 b21:Int) (j:Nat):Int:=[b0,b1,b2,b3,b4,b5,b6,b7,b8,b9,b10,b11,b12,b13,b14,b15,b16,b17,b18,b19,b20,b21].getD j 0
theorem lop_of {w:World} {x:Addr} {cs:List Value} (h:OpIn w cs) (hc:∀ j,j<22→w.cell? (x.add j)=cs[j]?):∃ o z b,LOp w x o z b:=by
 obtain⟨b0,b1,b2,b3,b4,b5,b6,b7,b8,b9,b10,b11,b12,l12,c12,z12,b13,l13,c13,z13,b14,b15,b16,b17,b18,b19,b20,b21,rfl,-,-,-,-,-,-,-,-,-,-,-,-,h1,h2,h3,h4,-⟩:=h
 refine⟨oL b0 b1 b2 b3 b4 b5 b6 b7 b8 b9 b10 b11 l12 l13 b14 b15 b16 b17 b18 b19 b20 b21,z12,z13,b12,l12,c12,b13,l13,c13,rfl,rfl,fun j v hj=>?_,h1,h3,h2,h4⟩
 have hj':j<22:=(List.getElem?_eq_some_iff.1 hj).1
 rw [hc j hj',← hj]
 rfl
theorem lrow_of {w:World} {oa:Option Addr} {on oc:Nat} (h:ORow 22 (OpIn w) w oa on oc):∃ O Z B,LRow w oa on oc O Z B:=by
 obtain⟨h1,h2,h3,h4⟩:=h
 cases oa with
 | none=>exact⟨fun _ _=>0,fun _=>[],fun _=>[],h1,h2,h3,fun x hx=>by cases hx⟩
 | some x =>
  have q:∀ i,∃ y:(Nat→Int)×List Int×List Int,i<on→LOp w (x.add (i*22)) y.1 y.2.1 y.2.2:=by
   intro i
   by_cases hi:i<on
   ·obtain⟨cs,-,g1,g2⟩:=h4 x rfl i hi
    obtain⟨o,z,b,g⟩:=lop_of (x:=x.add (i*22)) g1 (fun j hj=>by rw [Addr.add_add];exact g2 j hj)
    exact⟨(o,z,b),fun _=>g⟩
   ·exact⟨(fun _=>0,[],[]),fun h=>absurd h hi⟩
  obtain⟨f,hf⟩:=Classical.skolem.1 q
  exact⟨fun i=>(f i).1,fun i=>(f i).2.1,fun i=>(f i).2.2,h1,h2,h3,fun y hy i hi=>by cases hy;exact hf i hi⟩
def Sit (k kh kw sh sw tp lf bt rt h w c H V C:Int) (lw lb:Nat):Prop :=
 (1≤k∧k≤4)∧vS h w c=true∧vS H V C=true∧(2≤k→ouR h w c kh kw sh sw tp lf bt rt=(H,V,0))∧(k=1→H=1∧V=1)∧(2≤k→(1≤kh∧kh≤32)∧(1≤kw∧kw≤32)) ∧
   (k≤3→(lw:Int)=C*stR k kh kw h w c∧(lb:Int)=C)∧(3≤k→C=c)∧(1≤stR k kh kw h w c∧stR k kh kw h w c≤512)
theorem op_sit {k a b m kh kw sh sw tp lf bt rt:Int} {lw lb:Nat} {sm ss um us z p lo hi wk:Int} {L:List (Int×Int×Int)} (hx:tkE k a b m kh kw sh sw tp lf bt rt lw lb sm ss um us z p lo hi L wk=0) (hk:1≤k∧k≤4) (hv:∀ s∈L,vS3 s=true)
  {h w c H V C:Int} (hA:ShA L a=(h,w,c)) (hB:mk3 k m kh kw sh sw tp lf bt rt (h,w,c)=(H,V,C)):Sit k kh kw sh sw tp lf bt rt h w c H V C lw lb:=by
 obtain⟨t1,-,-,⟨a0,a1⟩,-,t6⟩:=tk_0 hx hv
 have hg:vS h w c=true:=by
  obtain⟨i,rfl⟩:=Int.eq_ofNat_of_zero_le a0
  have:=hv _ (ShA_mem (show i<L.length by omega))
  rw [hA] at this
  exact this
 have h1:opE k a b m kh kw sh sw tp lf bt rt lw lb sm ss um us z p lo hi L=0:=by
  unfold tkE at hx
  by_cases q:opE k a b m kh kw sh sw tp lf bt rt lw lb sm ss um us z p lo hi L≠0
  ·rw [if_pos q] at hx;exact hx
  ·exact Decidable.not_not.1 q
 rw [hA] at t1 t6
 rw [hB] at t1
 have fit:=fit_of (A:=(h,w,c)) t6 (by rw [hB];exact t1)
 rw [hB] at fit
 obtain⟨f1,f2,-⟩:=fit
 have hw:2≤k∧k≤5→(1≤kh∧kh≤32)∧(1≤kw∧kw≤32):=mkE_win t6
 have hst:=stR_bd (k:=k) (kh:=kh) (kw:=kw) (by omega) hg hw
 unfold opE at h1
 rw [hA] at h1
 rw [hB] at h1
 by_cases q1:fmE k a b L.length (ozB k b m kh kw sh sw tp lf bt rt lw lb sm ss um us z p)≠0
 ·rw [if_pos q1] at h1;exact absurd h1 q1
 rw [if_neg q1] at h1
 simp only at h1
 rw [t6,if_neg (by decide),if_neg (by omega)] at h1
 by_cases q2:rdB k=true∧512<st3 k kh kw (h,w,c)
 ·rw [if_pos q2] at h1;cases h1
 rw [if_neg q2] at h1
 have h512:stR k kh kw h w c≤512:=by
  by_cases q:stR k kh kw h w c≤512
  ·exact q
  ·exact absurd ⟨decide_eq_true (by omega),by show 512<stR k kh kw h w c;omega⟩ q2
 unfold nuE at h1
 have hle:leB k C (st3 k kh kw (h,w,c)) lw lb=true:=by
  cases q:leB k C (st3 k kh kw (h,w,c)) lw lb with
  | true=>rfl
  | false=>rw [q,if_pos rfl] at h1;cases h1
 have hle':=of_decide_eq_true hle
 refine⟨hk,hg,f1,fun q=>(f2 (by omega)).1,fun q=>?_,fun q=>hw (by omega),hle',fun q=>(f2 (by omega)).2 (by omega),hst.1,h512⟩
 subst q
 have:mk3 1 m kh kw sh sw tp lf bt rt (h,w,c)=(1,1,m):=by unfold mk3 mkS;rw [if_pos rfl]
 rw [this] at hB
 simp only [Prod.mk.injEq] at hB
 exact⟨hB.1.symm,hB.2.1.symm⟩
theorem sit_of {O:Nat→Nat→Int} {h w c lo hi ot t wk:Int} {on:Nat} {L:List (Int×Int×Int)} (q:gtR O h w c lo hi ot on=(0,t,L,wk)) {i:Nat} (hi0:i<on) (hk:1≤O i 0∧O i 0≤4) :
  ∃ j:Nat,O i 1=(j:Int)∧j≤i∧∀ x y z H V C,ShA L (j:Int)=(x,y,z)→ShA L ((i+1:Nat):Int)=(H,V,C)→Sit (O i 0) (O i 4) (O i 5) (O i 6) (O i 7) (O i 8) (O i 9) (O i 10) (O i 11) x y z H V C (O i 12).toNat (O i 13).toNat:=by
 obtain⟨hx,rfl,q2⟩:=gtR_st q
 clear q
 have q:=q2
 have hv:vS3 (h,w,c)=true:=(ouE_0 hx).1
 obtain⟨wi,g1,-⟩:=stG_pre hv on L wk q (i+1) (by omega)
 obtain⟨L0,wk0,h0,hx0,hL,-⟩:=stG_step g1
 obtain⟨w2,g2,-⟩:=stG_pre hv on L wk q i (by omega)
 rw [g2] at h0
 simp only [Prod.mk.injEq,true_and] at h0
 obtain⟨rfl,rfl⟩:=h0
 obtain⟨i1,i2,-⟩:=stG_inv hv i _ _ g2
 obtain⟨t1,-,-,⟨a0,a1⟩,-,t6⟩:=tk_0 hx0 i2
 obtain⟨j,hj⟩:=Int.eq_ofNat_of_zero_le a0
 rw [hj] at a1
 have e1:ShA (L.take (i+1)) (j:Int)=ShA L (j:Int):=ShA_take (by omega)
 have e2:ShA L ((i+1:Nat):Int)=mk3 (O i 0) (O i 3) (O i 4) (O i 5) (O i 6) (O i 7) (O i 8) (O i 9) (O i 10) (O i 11) (ShA L (j:Int)):=by
  rw [← ShA_take (n:=i+1+1) (by omega),hL]
  unfold ShA at e1 ⊢
  rw [Int.toNat_natCast]
  simp only [List.getD]
  rw [List.getElem?_append_right (by omega),i1,Nat.sub_self]
  unfold oM ShA
  rw [hj,Int.toNat_natCast]
  rw [Int.toNat_natCast] at e1
  simp only [List.getElem?_cons_zero,Option.getD_some]
  rw [e1]
  rfl
 refine⟨j,hj,by omega,fun x y z H V C hA hB=>?_⟩
 exact op_sit hx0 hk i2 (by rw [hj,e1];exact hA) (by rw [← hB,e2,hA])
def cov (C p c:Int):Int:=if p = -1 then -1 else p*C+c
def tpc (h w kw t u q:Int):Int:=plc h w (t+q / kw) (u+q % kw)
def plA (k C ch h w kw t u i:Int):Int:=if k=1 then i else if k=2 then cov C (tpc h w kw t u (i / C)) (i % C) else cov C (tpc h w kw t u i) (ch-1)
def wgA (k ch st:Int) (z:List Int) (i:Int):Int:=if k=4 then 1 else z.getD ((ch-1)*st+i).toNat 0
def biA (k ch:Int) (b:List Int):Int:=if k=4 then 0 else b.getD (ch-1).toNat 0
def tmL (k C ch h w kw t u st:Int) (z:List Int) (n:Nat):List (Int×Int):=(List.range n).map fun (i:Nat)=>(wgA k ch st z i,plA k C ch h w kw t u i)
theorem tmL_len (k C ch h w kw t u st:Int) (z:List Int) (n:Nat):(tmL k C ch h w kw t u st z n).length=n:=by simp [tmL]
theorem tmL_succ (k C ch h w kw t u st:Int) (z:List Int) (n:Nat):tmL k C ch h w kw t u st z (n+1)=tmL k C ch h w kw t u st z n++[(wgA k ch st z n,plA k C ch h w kw t u n)]:=by simp [tmL,List.range_succ]
def siL (k kh kw sh sw tp lf bt rt h w c ch at':Int) (z:List Int):List (Int×Int) :=
 tmL k c ch h w kw (coR h w c kh kw sh sw tp lf bt rt at').1 (coR h w c kh kw sh sw tp lf bt rt at').2.1 (stR k kh kw h w c) z (stR k kh kw h w c).toNat
def fiE (O:Nat→Nat→Int) (h w c lo hi ot:Int) (on:Nat) (op:Int):Int :=
 if (gtR O h w c lo hi ot on).1≠0 then (gtR O h w c lo hi ot on).1 else if ¬ (1≤op∧op≤(on:Int)) then 3 else if rdB (O (op-1).toNat 0)=false then 81 else 0
theorem fiE_err {O:Nat→Nat→Int} {h w c lo hi ot op e:Int} {on:Nat} (g:(gtR O h w c lo hi ot on).1=e) (he:e≠0):fiE O h w c lo hi ot on op=e:=by unfold fiE;rw [g,if_pos he]
theorem fiE_3 {O:Nat→Nat→Int} {h w c lo hi ot op:Int} {on:Nat} (g:(gtR O h w c lo hi ot on).1=0) (ho:¬ (1≤op∧op≤(on:Int))):fiE O h w c lo hi ot on op=3:=by unfold fiE;rw [g,if_neg (by decide),if_pos ho]
theorem fiE_81 {O:Nat→Nat→Int} {h w c lo hi ot:Int} {on i:Nat} (g:(gtR O h w c lo hi ot on).1=0) (ho:i<on) (hk:rdB (O i 0)=false):fiE O h w c lo hi ot on ((i:Int)+1)=81:=by
 unfold fiE;rw [g,if_neg (by decide),if_neg (by omega),show ((i:Int)+1-1).toNat=i by omega,hk,if_pos rfl]
theorem fiE_0 {O:Nat→Nat→Int} {h w c lo hi ot:Int} {on i:Nat} (g:(gtR O h w c lo hi ot on).1=0) (ho:i<on) (hk:rdB (O i 0)=true):fiE O h w c lo hi ot on ((i:Int)+1)=0:=by
 unfold fiE;rw [g,if_neg (by decide),if_neg (by omega),show ((i:Int)+1-1).toNat=i by omega,hk,if_neg (by decide)]
end Go.Proofs.YtgjcjhnnopandaaGreat
namespace Go.Proofs.YtgjcjhnnopandaaGreat.Fx
open Go.Value renaming int → U, slice → Sl
open Go.IntKind renaming i64 → i6
set_option maxRecDepth 100000
set_option maxHeartbeats 16000000
open Go.ChangeShapes Go.WideShapes Go.ChangeAt Go.RowKit
def sizeV (x:Int):Int:=if x<0 then -x else x
def hq (s d:Int):Int:=if d≤2*(s % d) then s / d+1 else s / d
def rq (x d:Int):Int:=if x<0 then -(hq (-x) d) else hq x d
def p2 (n:Int):Int:=2 ^ n.toNat
theorem drewN_below (w:World) (n:Nat):Below w.heap.size w (w.drewN n):=below_drewN (Below.refl _ _) n
def shB (n:Int):Bool:=decide (0≤n∧n≤62)
def shV (x n:Int):Int:=if shB n=true then rq x (p2 n) else 0
def shE (n:Int):Int:=if shB n=true then 0 else 20
theorem reach_any (n:Int) (w:World) :
  Calls Tryz.prog 131 #[U i6 n] w fun e w'=>e=.returned (.bool (shB n))∧w'=w:=by
 by_cases c:0≤n
 ·have HR:Hid (decide (n≤62)=shB n):=by unfold Hid shB;simp [c]
  go_enter Tryz.func131,Tryz.ntmps131
  go_wp2
  go_ret
  exact⟨retB HR.out,rfl⟩
 ·have HR:Hid (false=shB n):=by unfold Hid shB;simp;omega
  go_enter Tryz.func131,Tryz.ntmps131
  go_wp2
  go_ret
  exact⟨retB HR.out,rfl⟩
def meV (x n:Int):Int:=if n<1 then 0 else rq x n
def meE (n:Int):Int:=if n<1 then 2 else 0
def vaB (x:Int):Bool:=decide (-128≤x∧x≤127)
def fiB (z lo hi:Int):Bool:=decide (-128≤lo∧lo≤hi∧hi≤127∧-128≤z∧z≤127)
def fiV (v z lo hi:Int):Int:=if fiB z lo hi=true then clampV (v+z) lo hi else 0
def fiE (z lo hi:Int):Int:=if fiB z lo hi=true then 0 else 85
def scB (m s:Int):Bool:=decide (1≤m∧m≤2147483647∧0≤s∧s≤62)
def acB (a:Int):Bool:=decide (-4294967296≤a∧a≤4294967296)
def apV (a m s:Int):Int:=if scB m s=true then (if acB a=true then rq (a*m) (p2 s) else 0) else 0
def apE (a m s:Int):Int:=if scB m s=true then (if acB a=true then 0 else 10) else 20
theorem prod_bd (a m:Int) (a1:-4294967296≤a) (a2:a≤4294967296) (m1:1≤m) (m2:m≤2147483647):-9223372032559808512≤a*m∧a*m≤9223372032559808512:=by
 have h1:=Int.mul_le_mul_of_nonneg_right a1 (show 0≤m by omega)
 have h2:=Int.mul_le_mul_of_nonneg_right a2 (show 0≤m by omega)
 omega
theorem valid_any (m s:Int) (w:World) :
  Calls Tryz.prog 126 #[.agg #[U i6 m,U i6 s]] w fun e w'=>e=.returned (.bool (scB m s))∧Below w.heap.size w w':=by
 by_cases c1:1≤m
 ·by_cases c2:m≤2147483647
  ·have HR:Hid (shB s=scB m s):=by unfold Hid shB scB;simp [c1,c2]
   go_enter Tryz.func126,Tryz.ntmps126
   go_wp2_with fail
   refine (reach_any _ _).mono ?_
   rintro e w' ⟨rfl,rfl⟩
   go_wp2
   go_ret
   exact⟨retB HR.out,(Below.refl _ _).alloc (Nat.le_refl _) _⟩
  ·have HR:Hid (false=scB m s):=by unfold Hid scB;simp [c2]
   go_enter Tryz.func126,Tryz.ntmps126
   go_wp2
   go_ret
   exact⟨retB HR.out,(Below.refl _ _).alloc (Nat.le_refl _) _⟩
 ·have HR:Hid (false=scB m s):=by unfold Hid scB;simp [c1]
  go_enter Tryz.func126,Tryz.ntmps126
  go_wp2
  go_ret
  exact⟨retB HR.out,(Below.refl _ _).alloc (Nat.le_refl _) _⟩
end Go.Proofs.YtgjcjhnnopandaaGreat.Fx
namespace Go.Proofs.YtgjcjhnnopandaaGreat
open Go.Value renaming int → U, slice → Sl
open Go.IntKind renaming i64 → i6
set_option maxRecDepth 100000
set_option maxHeartbeats 16000000
open Go.ChangeShapes Go.WideShapes Go.ChangeAt Go.RowKit
set_option linter.unusedVariables false
structure Opd (k b m kh kw sh sw tp lf bt rt:Int) (lw lb:Nat) (sm ss um us z p lo hi h w c H V C:Int):Prop where
 hk:1≤k∧k≤8
 hA:vS h w c=true
 hB:vS H V C=true
 si:k≤4→Sit k kh kw sh sw tp lf bt rt h w c H V C lw lb
 al:k≤4→tkE k 0 b m kh kw sh sw tp lf bt rt lw lb sm ss um us z p lo hi [(h,w,c)] 0=0∧mk3 k m kh kw sh sw tp lf bt rt (h,w,c)=(H,V,C)
 ou:2≤k∧k≤5→ouR h w c kh kw sh sw tp lf bt rt=(H,V,0)
 c3:3≤k→C=c
 s6:6≤k→H=h∧V=w
 rz:rzB z p lo hi=true
 sc:ssB k sm ss um us=true
 oz:ozB k b m kh kw sh sw tp lf bt rt lw lb sm ss um us z p=true
theorem op_opd {k a b m kh kw sh sw tp lf bt rt:Int} {lw lb:Nat} {sm ss um us z p lo hi:Int} {wk:Int} {L:List (Int×Int×Int)} (hx:tkE k a b m kh kw sh sw tp lf bt rt lw lb sm ss um us z p lo hi L wk=0) (hwk:0≤wk) (hv:∀ s∈L,vS3 s=true)
  {h w c H V C:Int} (hA:ShA L a=(h,w,c)) (hB:mk3 k m kh kw sh sw tp lf bt rt (h,w,c)=(H,V,C)):Opd k b m kh kw sh sw tp lf bt rt lw lb sm ss um us z p lo hi h w c H V C∧(0≤b∧b<(L.length:Int))∧(k=6→ShA L b=(h,w,c)):=by
 obtain⟨t1,-,t3,⟨a0,a1⟩,hk,t6⟩:=tk_0 hx hv
 have hg:vS h w c=true:=by
  obtain⟨i,rfl⟩:=Int.eq_ofNat_of_zero_le a0
  have:=hv _ (ShA_mem (show i<L.length by omega))
  rw [hA] at this
  exact this
 have h1:opE k a b m kh kw sh sw tp lf bt rt lw lb sm ss um us z p lo hi L=0:=by
  unfold tkE at hx
  by_cases q:opE k a b m kh kw sh sw tp lf bt rt lw lb sm ss um us z p lo hi L≠0
  ·rw [if_pos q] at hx;exact hx
  ·exact Decidable.not_not.1 q
 have hsit:k≤4→Sit k kh kw sh sw tp lf bt rt h w c H V C lw lb:=fun q=>op_sit hx (by omega) hv hA hB
 rw [hA] at t1 t6
 rw [hB] at t1
 have fit:=fit_of (A:=(h,w,c)) t6 (by rw [hB];exact t1)
 rw [hB] at fit
 obtain⟨f1,f2,f3⟩:=fit
 have h1':=h1
 unfold opE at h1
 rw [hA,hB] at h1
 by_cases q1:fmE k a b L.length (ozB k b m kh kw sh sw tp lf bt rt lw lb sm ss um us z p)≠0
 ·rw [if_pos q1] at h1;exact absurd h1 q1
 rw [if_neg q1] at h1
 obtain⟨-,-,hb6,hoz⟩:=fmE_0 (Decidable.not_not.1 q1)
 simp only at h1
 rw [t6,if_neg (by decide)] at h1
 by_cases q3:k=6∧(h,w,c)≠ShA L b
 ·rw [if_pos q3] at h1;cases h1
 rw [if_neg q3] at h1
 by_cases q2:rdB k=true∧512<st3 k kh kw (h,w,c)
 ·rw [if_pos q2] at h1;cases h1
 rw [if_neg q2] at h1
 obtain⟨n1,n2,n3⟩:=nuE_0 h1
 have hoz':=of_decide_eq_true hoz
 have hal:k≤4→tkE k 0 b m kh kw sh sw tp lf bt rt lw lb sm ss um us z p lo hi [(h,w,c)] 0=0:=fun q=>by
  have e:ShA [(h,w,c)] 0=(h,w,c):=rfl
  have hf:fmE k 0 b (([(h,w,c)]:List (Int×Int×Int)).length:Int) (ozB k b m kh kw sh sw tp lf bt rt lw lb sm ss um us z p)=0:=by
   unfold fmE
   rw [if_neg (by omega),if_neg (by simp),if_neg (by omega),hoz,if_neg (by decide)]
  have ho:opE k 0 b m kh kw sh sw tp lf bt rt lw lb sm ss um us z p lo hi [(h,w,c)]=0:=by
   unfold opE
   rw [e,hB]
   simp only
   rw [hf,if_neg (by decide),t6,if_neg (by decide),if_neg (by omega),if_neg q2]
   exact h1
  unfold tkE
  rw [ho,if_neg (by decide),e]
  rw [hA] at t3
  rw [if_neg (by omega)]
 refine⟨⟨hk,hg,f1,hsit,fun q=>⟨hal q,hB⟩,fun q=>(f2 q).1,fun q=>?_,fun q=>?_,n3,n2,hoz⟩,?_,fun q=>?_⟩
 ·by_cases q5:k≤5
  ·exact (f2 (by omega)).2 (by omega)
  ·have:=f3 (by omega);simp only [Prod.mk.injEq] at this;exact this.2.2
 ·have:=f3 q;simp only [Prod.mk.injEq] at this;exact⟨this.1,this.2.1⟩
 ·by_cases q:k=6
  ·exact hb6 q
  ·have:=(hoz'.1 q).1;omega
 ·by_cases q4:(h,w,c)=ShA L b
  ·exact q4.symm
  ·exact absurd ⟨q,q4⟩ q3
theorem opd_of {O:Nat→Nat→Int} {h w c lo hi ot t wk:Int} {on:Nat} {L:List (Int×Int×Int)} (q:gtR O h w c lo hi ot on=(0,t,L,wk)) {i:Nat} (hi0:i<on) :
  ∃ ja jb:Nat,O i 1=(ja:Int)∧ja≤i∧O i 2=(jb:Int)∧jb≤i∧∀ x y v H V C,L.getD ja (0,0,0)=(x,y,v)→L.getD (i+1) (0,0,0)=(H,V,C) →
   Opd (O i 0) (O i 2) (O i 3) (O i 4) (O i 5) (O i 6) (O i 7) (O i 8) (O i 9) (O i 10) (O i 11) (O i 12).toNat (O i 13).toNat (O i 14) (O i 15) (O i 16) (O i 17) (O i 18) (O i 19) (O i 20) (O i 21) x y v H V C∧(O i 0=6→L.getD jb (0,0,0)=(x,y,v)):=by
 obtain⟨hx,rfl,q2⟩:=gtR_st q
 clear q
 have q:=q2
 have hv:vS3 (h,w,c)=true:=(ouE_0 hx).1
 obtain⟨wi,g1,-⟩:=stG_pre hv on L wk q (i+1) (by omega)
 obtain⟨L0,wk0,h0,hx0,hL,-⟩:=stG_step g1
 obtain⟨w2,g2,g3,-⟩:=stG_pre hv on L wk q i (by omega)
 rw [g2] at h0
 simp only [Prod.mk.injEq,true_and] at h0
 obtain⟨rfl,rfl⟩:=h0
 obtain⟨i1,i2,-⟩:=stG_inv hv i _ _ g2
 obtain⟨t1,-,-,⟨a0,a1⟩,-,t6⟩:=tk_0 hx0 i2
 obtain⟨j,hj⟩:=Int.eq_ofNat_of_zero_le a0
 rw [hj] at a1
 have e1:ShA (L.take (i+1)) (j:Int)=ShA L (j:Int):=ShA_take (by omega)
 have e2:ShA L ((i+1:Nat):Int)=mk3 (O i 0) (O i 3) (O i 4) (O i 5) (O i 6) (O i 7) (O i 8) (O i 9) (O i 10) (O i 11) (ShA L (j:Int)):=by
  rw [← ShA_take (n:=i+1+1) (by omega),hL]
  unfold ShA at e1 ⊢
  rw [Int.toNat_natCast]
  simp only [List.getD]
  rw [List.getElem?_append_right (by omega),i1,Nat.sub_self]
  unfold oM ShA
  rw [hj,Int.toNat_natCast]
  rw [Int.toNat_natCast] at e1
  simp only [List.getElem?_cons_zero,Option.getD_some]
  rw [e1]
  rfl
 obtain⟨A1,A2,A3,hA0⟩:∃ A1 A2 A3,ShA L (j:Int)=(A1,A2,A3):=⟨_,_,_,rfl⟩
 obtain⟨B1,B2,B3,hB0⟩:∃ B1 B2 B3,ShA L ((i+1:Nat):Int)=(B1,B2,B3):=⟨_,_,_,rfl⟩
 obtain⟨r1,⟨b0,b1⟩,r3⟩:=op_opd (h:=A1) (w:=A2) (c:=A3) (H:=B1) (V:=B2) (C:=B3) hx0 g3 i2 (by rw [hj,e1];exact hA0) (by rw [← hB0,e2,hA0])
 obtain⟨jb,hjb⟩:=Int.eq_ofNat_of_zero_le b0
 rw [hjb] at b1 r3
 refine⟨j,jb,hj,by omega,hjb,by omega,fun x y v H V C hA hB=>?_⟩
 have ea:(A1,A2,A3)=(x,y,v):=by rw [← hA0,← hA];unfold ShA;rw [Int.toNat_natCast]
 have eb:(B1,B2,B3)=(H,V,C):=by rw [← hB0,← hB];unfold ShA;rw [Int.toNat_natCast]
 simp only [Prod.mk.injEq] at ea eb
 obtain⟨rfl,rfl,rfl⟩:=ea
 obtain⟨rfl,rfl,rfl⟩:=eb
 refine⟨r1,fun q6=>?_⟩
 have:=r3 q6
 rw [ShA_take (by omega)] at this
 unfold ShA at this
 rwa [Int.toNat_natCast] at this
theorem alone_g {k a b m kh kw sh sw tp lf bt rt:Int} {lw lb:Nat} {sm ss um us z p lo hi:Int} {h w c H V C:Int} (s:Opd k b m kh kw sh sw tp lf bt rt lw lb sm ss um us z p lo hi h w c H V C) (hk:k≤4) :
  ∃ Rw,gtR (fun _=>oL k 0 b m kh kw sh sw tp lf bt rt (lw:Int) (lb:Int) sm ss um us z p lo hi) h w c 0 0 0 1=(0,0,[(h,w,c),(H,V,C)],Rw):=by
 have hou:ouE h w c 0 0 0 1=0:=by
  unfold ouE
  rw [s.hA,if_neg (by decide),show rgB 0 0=true by decide,if_neg (by decide),if_neg (by decide),if_neg (by decide)]
 obtain⟨a1,a2⟩:=s.al hk
 rw [gtR_of hou]
 have hT:oT (oL k 0 b m kh kw sh sw tp lf bt rt (lw:Int) (lb:Int) sm ss um us z p lo hi) [(h,w,c)] 0=0:=by
  show tkE k 0 b m kh kw sh sw tp lf bt rt (lw:Int).toNat (lb:Int).toNat sm ss um us z p lo hi [(h,w,c)] 0=0
  rw [Int.toNat_natCast,Int.toNat_natCast]
  exact a1
 rw [stG_ok (i:=0) (L:=[(h,w,c)]) (wk:=0) rfl hT]
 have hM:oM (oL k 0 b m kh kw sh sw tp lf bt rt (lw:Int) (lb:Int) sm ss um us z p lo hi) [(h,w,c)]=(H,V,C):=a2
 rw [hM]
 exact⟨_,rfl⟩
def smT (p:Int) (x:List Int) (t:Int×Int):Int:=t.1*(if t.2<0 then p else x.getD t.2.toNat 0)
def smV (p:Int) (x:List Int):List (Int×Int)→Int
 | []=>0
 | t :: l=>smT p x t+smV p x l
theorem smV_app (p:Int) (x:List Int):∀ l r:List (Int×Int),smV p x (l++r)=smV p x l+smV p x r
 | [],r=>by simp [smV]
 | t :: l,r=>by simp only [List.cons_append,smV,smV_app p x l r];omega
theorem smV_take {p:Int} {x:List Int} {l:List (Int×Int)} {n:Nat} {u v:Int} (hn:n<l.length) (h:l.getD n (0,0)=(u,v)):smV p x (l.take (n+1))=smV p x (l.take n)+smT p x (u,v):=by
 rw [List.getD_eq_getElem?_getD,List.getElem?_eq_getElem hn,Option.getD_some] at h
 rw [List.take_add_one,List.getElem?_eq_getElem hn,smV_app,h]
 simp [smV]
def I8 (v:Int):Prop:=-128≤v∧v≤127
theorem getD_i8 {x:List Int} (h:∀ v∈x,I8 v) (n:Nat):I8 (x.getD n 0):=by
 rcases Nat.lt_or_ge n x.length with q | q
 ·rw [List.getD_eq_getElem?_getD,List.getElem?_eq_getElem q];exact h _ (List.getElem_mem q)
 ·rw [List.getD_eq_getElem?_getD,List.getElem?_eq_none q];exact⟨by decide,by decide⟩
theorem prod_i8 {a v:Int} (ha:-32768≤a∧a≤32767) (hv:I8 v):-4194304≤a*v∧a*v≤4194304:=by
 obtain⟨v1,v2⟩:=hv
 rcases Int.le_total 0 a with h | h
 ·have p1:=Int.mul_le_mul_of_nonneg_left v1 h
  have p2:=Int.mul_le_mul_of_nonneg_left v2 h
  omega
 ·have p1:=Int.mul_le_mul_of_nonpos_left h v1
  have p2:=Int.mul_le_mul_of_nonpos_left h v2
  omega
theorem smT_bd {p:Int} {x:List Int} {t:Int×Int} (hp:I8 p) (hx:∀ v∈x,I8 v) (ht:-32768≤t.1∧t.1≤32767):-4194304≤smT p x t∧smT p x t≤4194304:=by
 unfold smT
 split
 ·exact prod_i8 ht hp
 ·exact prod_i8 ht (getD_i8 hx _)
theorem smV_bd {p:Int} {x:List Int} (hp:I8 p) (hx:∀ v∈x,I8 v):∀ l:List (Int×Int),(∀ t∈l,-32768≤t.1∧t.1≤32767)→-(4194304*(l.length:Int))≤smV p x l∧smV p x l≤4194304*(l.length:Int)
 | [],_=>by simp [smV]
 | t :: l,h=>by
  have h1:=smV_bd hp hx l fun t ht=>h t (List.mem_cons_of_mem _ ht)
  have h2:=smT_bd hp hx (h t List.mem_cons_self)
  simp only [smV,List.length_cons]
  omega
theorem take_mem {l:List (Int×Int)} {P:Int×Int→Prop} (h:∀ t∈l,P t) (n:Nat):∀ t∈l.take n,P t:=fun t ht=>h t (List.mem_of_mem_take ht)
theorem wgA_bd {k ch st:Int} {zs:List Int} (hz:∀ v∈zs,(Lit.int .i16 v).wf=true) (i:Int):-32768≤wgA k ch st zs i∧wgA k ch st zs i≤32767:=by
 unfold wgA
 split
 ·omega
 ·rcases Nat.lt_or_ge (((ch-1)*st+i).toNat) zs.length with q | q
  ·rw [List.getD_eq_getElem?_getD,List.getElem?_eq_getElem q,Option.getD_some]
   exact wf_i16 (hz _ (List.getElem_mem q))
  ·rw [List.getD_eq_getElem?_getD,List.getElem?_eq_none q,Option.getD_none];omega
theorem biA_bd {k ch:Int} {bs:List Int} (hb:∀ v∈bs,(Lit.int .i32 v).wf=true):-2147483648≤biA k ch bs∧biA k ch bs≤2147483647:=by
 unfold biA
 split
 ·omega
 ·rcases Nat.lt_or_ge ((ch-1).toNat) bs.length with q | q
  ·rw [List.getD_eq_getElem?_getD,List.getElem?_eq_getElem q,Option.getD_some]
   exact wf_i32 (hb _ (List.getElem_mem q))
  ·rw [List.getD_eq_getElem?_getD,List.getElem?_eq_none q,Option.getD_none];omega
theorem tpc_in {h w kw t u:Int} (q:Int):tpc h w kw t u q = -1∨(0≤tpc h w kw t u q∧tpc h w kw t u q<h*w):=by
 unfold tpc plc
 split
 ·rename_i g
  obtain⟨⟨g1,g2⟩,g3,g4⟩:=g
  have:=rowbd g2 g1 g3 g4
  right;omega
 ·left;rfl
theorem cov_in {n c q d:Int} (hq:q = -1∨(0≤q∧q<n)) (hd:0≤d∧d<c):cov c q d = -1∨(0≤cov c q d∧cov c q d<n*c):=by
 unfold cov
 split
 ·left;rfl
 ·rename_i g
  rcases hq with q1 | ⟨q1,q2⟩
  ·exact absurd q1 g
  ·have:=rowbd q2 q1 hd.1 hd.2
   right;omega
theorem plA_in {k kh kw sh sw tp lf bt rt h w c H V C:Int} {lw lb:Nat} (s:Sit k kh kw sh sw tp lf bt rt h w c H V C lw lb) {ch:Int} (hch:1≤ch∧ch≤C) (t u i:Int) (hi:0≤i∧i<stR k kh kw h w c) :
  plA k c ch h w kw t u i = -1∨(0≤plA k c ch h w kw t u i∧plA k c ch h w kw t u i<h*w*c):=by
 obtain⟨hk,hvA,-,-,-,-,-,h3c,-⟩:=s
 have hc1:=(vS_yes hvA).2.2.1
 unfold plA
 by_cases k1:k=1
 ·subst k1
  rw [if_pos rfl]
  have:stR 1 kh kw h w c=h*w*c:=rfl
  rw [this] at hi
  right;exact hi
 ·rw [if_neg k1]
  by_cases k2:k=2
  ·rw [if_pos k2]
   exact cov_in (tpc_in _) ⟨Int.emod_nonneg _ (by omega),Int.emod_lt_of_pos _ (by omega)⟩
  ·rw [if_neg k2]
   have:=h3c (by omega)
   exact cov_in (tpc_in _) ⟨by omega,by omega⟩
theorem siL_facts {k kh kw sh sw tp lf bt rt h w c H V C:Int} {lw lb:Nat} (s:Sit k kh kw sh sw tp lf bt rt h w c H V C lw lb) {zs:List Int} (hz:∀ v∈zs,(Lit.int .i16 v).wf=true) {ch:Int} (hch:1≤ch∧ch≤C) (at':Int) :
  (siL k kh kw sh sw tp lf bt rt h w c ch at' zs).length≤512∧∀ t∈siL k kh kw sh sw tp lf bt rt h w c ch at' zs,(-32768≤t.1∧t.1≤32767)∧(t.2 = -1∨(0≤t.2∧t.2<h*w*c)):=by
 have h1:=s.2.2.2.2.2.2.2.2.2
 have h0:=s.2.2.2.2.2.2.2.2.1
 unfold siL
 refine⟨by rw [tmL_len];omega,fun t ht=>?_⟩
 unfold tmL at ht
 obtain⟨i,hi,rfl⟩:=List.mem_map.1 ht
 have hi':i<(stR k kh kw h w c).toNat:=by simpa using hi
 exact⟨wgA_bd hz _,plA_in s hch _ _ _ ⟨by omega,by omega⟩⟩
def suA (k kh kw sh sw tp lf bt rt h w c p:Int) (zs bs x:List Int) (ch at':Int):Int:=biA k ch bs+smV p x (siL k kh kw sh sw tp lf bt rt h w c ch at' zs)
def suL (k kh kw sh sw tp lf bt rt h w c C p:Int) (zs bs x:List Int) (n:Nat):List Int:=(List.range n).map fun (j:Nat)=>suA k kh kw sh sw tp lf bt rt h w c p zs bs x ((j:Int) % C+1) ((j:Int) / C)
def mxI (a b:Int):Int:=if a<b then b else a
def grA (w c kw:Int) (x:List Int) (t u d:Int) (q:Nat):Int:=x.getD (((t+(q:Int) / kw)*w+(u+(q:Int) % kw))*c+d).toNat 0
def grM (w c kw:Int) (x:List Int) (t u d:Int):Nat→Int
 | 0=>-128
 | q+1=>mxI (grM w c kw x t u d q) (grA w c kw x t u d q)
def grL (kh kw sh sw w c V C:Int) (x:List Int) (n:Nat):List Int:=(List.range n).map fun (j:Nat)=>grM w c kw x ((j:Int) / C / V*sh) ((j:Int) / C % V*sw) ((j:Int) % C) (kh*kw).toNat
def apL (x:List Int) (m s:Int):List Int:=x.map fun v=>Fx.apV v m s
def meL (x:List Int) (n:Int):List Int:=x.map fun v=>Fx.meV v n
def adL (x y:List Int):List Int:=(List.range x.length).map fun i=>x.getD i 0+y.getD i 0
def fiL (x:List Int) (z lo hi:Int):List Int:=x.map fun v=>Fx.fiV v z lo hi
def vaL (k kh kw sh sw tp lf bt rt sm ss um us p h w c H V C:Int) (zs bs x y:List Int):List Int :=
 if k≤3 then apL (suL k kh kw sh sw tp lf bt rt h w c C p zs bs x (H*V*C).toNat) sm ss
 else if k=4 then meL (suL k kh kw sh sw tp lf bt rt h w c C p zs bs x (H*V*C).toNat) (kh*kw)
 else if k=5 then grL kh kw sh sw w c V C x (H*V*C).toNat
 else if k=6 then adL (apL x sm ss) (apL y um us)
 else if k=7 then apL x sm ss
 else x
def teL (k kh kw sh sw tp lf bt rt sm ss um us z p lo hi h w c H V C:Int) (zs bs x y:List Int):List Int:=fiL (vaL k kh kw sh sw tp lf bt rt sm ss um us p h w c H V C zs bs x y) z lo hi
def opT (o:Nat→Int) (zs bs:List Int) (A B:Int×Int×Int) (x y:List Int):List Int :=
 teL (o 0) (o 4) (o 5) (o 6) (o 7) (o 8) (o 9) (o 10) (o 11) (o 14) (o 15) (o 16) (o 17) (o 18) (o 19) (o 20) (o 21) A.1 A.2.1 A.2.2 B.1 B.2.1 B.2.2 zs bs x y
def tnL (O:Nat→Nat→Int) (Z B:Nat→List Int) (L:List (Int×Int×Int)) (x:List Int):Nat→List (List Int)
 | 0=>[x]
 | n+1=>tnL O Z B L x n++[opT (O n) (Z n) (B n) (L.getD (O n 1).toNat (0,0,0)) (L.getD (n+1) (0,0,0)) ((tnL O Z B L x n).getD (O n 1).toNat []) ((tnL O Z B L x n).getD (O n 2).toNat [])]
def tnA (O:Nat→Nat→Int) (Z B:Nat→List Int) (L:List (Int×Int×Int)) (x:List Int) (i:Nat):List Int:=(tnL O Z B L x i).getD i []
theorem ouR_slid {h w c kh kw sh sw tp lf bt rt r q:Int} (ho:ouR h w c kh kw sh sw tp lf bt rt=(r,q,0)) :
  ((1≤h∧h≤1024)∧(1≤w∧w≤1024))∧InW kh kw sh sw tp lf bt rt∧(1≤r∧r≤1200)∧(1≤q∧q≤1200)∧(tp+h+bt-kh).tdiv sh+1=r∧(lf+w+rt-kw).tdiv sw+1=q:=by
 rcases ouR_cases h w c kh kw sh sw tp lf bt rt with ⟨e,he,hx⟩ | ⟨r',q',he,hf⟩
 ·rw [ho] at he
  simp only [Prod.mk.injEq] at he
  omega
 rw [ho] at he
 simp only [Prod.mk.injEq,and_true] at he
 obtain⟨rfl,rfl⟩:=he
 obtain⟨⟨f1,f2,-⟩,f3,f4,f5,f6,f7⟩:=hf
 have h3:=f3
 obtain⟨⟨k1,-⟩,⟨k2,-⟩,⟨k3,-⟩,⟨k4,-⟩,-⟩:=h3
 have n1:=Int.mul_nonneg (show 0≤r-1 by omega) (show 0≤sh by omega)
 have n2:=Int.mul_nonneg (show 0≤q-1 by omega) (show 0≤sw by omega)
 have hv:vS h w c=true:=by
  cases g:vS h w c with
  | true=>rfl
  | false=>rw [ouR_shape g] at ho;simp at ho
 have hw:vW kh kw sh sw tp lf bt rt=true:=by
  cases g:vW kh kw sh sw tp lf bt rt with
  | true=>rfl
  | false=>rw [ouR_win hv g] at ho;simp at ho
 have hz:¬ (sp (tp+h+bt) kh sh=0∨sp (lf+w+rt) kw sw=0):=fun g=>by rw [ouR_out hv hw g] at ho;simp at ho
 rw [ouR_in hv hw hz] at ho
 simp only [Prod.mk.injEq,and_true] at ho
 have m1:¬ tp+h+bt<kh:=by omega
 have m2:¬ lf+w+rt<kw:=by omega
 rw [sp_ok m1,sp_ok m2] at ho
 refine⟨⟨f1,f2⟩,f3,f4,f5,?_,?_⟩
 ·rw [Int.tdiv_eq_ediv_of_nonneg (by omega)];exact ho.1
 ·rw [Int.tdiv_eq_ediv_of_nonneg (by omega)];exact ho.2
theorem wslid_any (h w c kh kw sh sw tp lf bt rt r q:Int) (W:World) (ho:ouR h w c kh kw sh sw tp lf bt rt=(r,q,0)) :
  Calls Tryz.prog 60 #[.agg #[U i6 h,U i6 w,U i6 c],.agg #[U i6 kh,U i6 kw,U i6 sh,U i6 sw,U i6 tp,U i6 lf,U i6 bt,U i6 rt]] W fun e w'=>e=.returned (.agg #[U i6 r,U i6 q,U i6 c])∧Below W.heap.size W w':=by
 obtain⟨⟨hh,hw⟩,⟨k1,k2,k3,k4,k5,k6,k7,k8⟩,hr,hq,hr2,hq2⟩:=ouR_slid ho
 clear ho
 have hd1:sh≠0:=by omega
 have hd2:sw≠0:=by omega
 have t1:0≤(tp+h+bt-kh).tdiv sh∧(tp+h+bt-kh).tdiv sh≤1200:=by omega
 have t2:0≤(lf+w+rt-kw).tdiv sw∧(lf+w+rt-kw).tdiv sw≤1200:=by omega
 have s0:=(((St.start W).new (c:=#[U i6 h,U i6 w,U i6 c]) (t:=23)).new (c:=#[U i6 kh,U i6 kw,U i6 sh,U i6 sw,U i6 tp,U i6 lf,U i6 bt,U i6 rt]) (t:=38)).new (c:=#[U i6 0,U i6 0,U i6 0]) (t:=23)
 simp only [World.size_alloc] at s0
 have S0:Hid (St W _ _):=s0
 clear s0
 go_enter Tryz.func60,Tryz.ntmps60
 go_upto_region 1 with fail
 obtain⟨w0,hw0⟩:∃ w0,(((W.alloc (.cells #[U i6 h,U i6 w,U i6 c] 23)).alloc (.cells #[U i6 kh,U i6 kw,U i6 sh,U i6 sw,U i6 tp,U i6 lf,U i6 bt,U i6 rt] 38)).alloc (.cells #[U i6 0,U i6 0,U i6 0] 23))=w0:=⟨_,rfl⟩
 rw [hw0] at S0 ⊢
 clear hw0
 obtain⟨c0,f0,z0,c1,f1,z1,c2,f2,z2,-⟩:=S0.out.rules
 go_wp2
 exact bodyPost_ret (v:=.agg #[U i6 r,U i6 q,U i6 c]) (by simp [results,Tryz.results60,go_sem, *]) rfl ⟨rfl,set3b ((S0.out.up2.set (i:=0) (v:=U i6 r) (by simp;omega)).set (i:=1) (v:=U i6 q) (by simp;omega)).below (by omega)⟩
theorem wtl1 {P:Program} {ops:Array Oper} {rest:List Oper} {o:Oper} {a:Act} {w:World} {Q:Exit→Act→World→Prop} (hg:o.guard=none) (dst:Option Tmp) (hdst:o.dst=dst)
  (v:Value) (w':World) (hrun:(execOp a.eval o).run P w=.ok (.value v) w') (h:wpList P ops Q rest (a.put dst v) w'):wpList P ops Q (o :: rest) a w:=by
 subst hdst
 refine wpList_plain hg fun K hK=>?_
 unfold Oper.wp
 rw [hrun,Oper.upon_value]
 exact hK _ _ h
theorem shape_0 (h w c lo hi ot:Int) (oa:Option Addr) (on oc:Nat) (W:World) :
  Calls Tryz.prog 42 #[.agg #[U i6 h,U i6 w,U i6 c,U i6 lo,U i6 hi,.slice oa on oc,U i6 ot],U i6 0] W fun e w'=>e=.returned (.agg #[U i6 h,U i6 w,U i6 c])∧Below W.heap.size W w':=by
 have s0:=((St.start W).new (c:=#[U i6 h,U i6 w,U i6 c,U i6 lo,U i6 hi,.slice oa on oc,U i6 ot]) (t:=26)).new (c:=#[U i6 0,U i6 0,U i6 0]) (t:=23)
 simp only [World.size_alloc] at s0
 have S0:Hid (St W _ _):=s0
 clear s0
 go_enter Tryz.func42,Tryz.ntmps42
 go_upto_region 1 with fail
 obtain⟨w0,hw0⟩:∃ w0,((W.alloc (.cells #[U i6 h,U i6 w,U i6 c,U i6 lo,U i6 hi,.slice oa on oc,U i6 ot] 26)).alloc (.cells #[U i6 0,U i6 0,U i6 0] 23))=w0:=⟨_,rfl⟩
 rw [hw0] at S0 ⊢
 clear hw0
 obtain⟨c0,f0,z0,c1,f1,z1,-⟩:=S0.out.rules
 go_wp2
 exact bodyPost_ret (v:=.agg #[U i6 h,U i6 w,U i6 c]) (by simp [results,Tryz.results42,go_sem, *]) rfl ⟨rfl,set3b S0.out.below (by omega)⟩
theorem shape_s (h w c lo hi ot:Int) (x:Addr) (on oc i:Nat) (k:Int) (a b m kh kw sh sw tp lf bt rt:Int) (wa:Option Addr) (lw cw:Nat) (ba:Option Addr) (lb cb:Nat) (sm ss um us z p l2 h2:Int) (W:World) (hoc:on≤oc) (hom:oc≤9223372036854775807) (hi0:i<on)
  (hcell:∀ q v,[U i6 k,U i6 a,U i6 b,U i6 m,U i6 kh,U i6 kw,U i6 sh,U i6 sw,U i6 tp,U i6 lf,U i6 bt,U i6 rt,.slice wa lw cw,.slice ba lb cb,U i6 sm,U i6 ss,U i6 um,U i6 us,U i6 z,U i6 p,U i6 l2,U i6 h2][q]? = some v→W.cell? ((x.add (i*22)).add q)=some v) (x0 y0 z0 H V C:Int)
  (HA:Hid (∀ W',Below W.heap.size W W'→Calls Tryz.prog 42 #[.agg #[U i6 h,U i6 w,U i6 c,U i6 lo,U i6 hi,.slice (some x) on oc,U i6 ot],U i6 a] W' fun e w'=>e=.returned (.agg #[U i6 x0,U i6 y0,U i6 z0])∧Below W'.heap.size W' w'))
  (hk:1≤k∧k≤8) (G1:Hid (k=1→H=1∧V=1∧C=m)) (G2:Hid (2≤k∧k≤5→ouR x0 y0 z0 kh kw sh sw tp lf bt rt=(H,V,0))) (G3:Hid (k=2→C=m)) (G4:Hid (3≤k→C=z0)) (G5:Hid (6≤k→H=x0∧V=y0)) :
  Calls Tryz.prog 42 #[.agg #[U i6 h,U i6 w,U i6 c,U i6 lo,U i6 hi,.slice (some x) on oc,U i6 ot],U i6 ((i:Int)+1)] W fun e w'=>e=.returned (.agg #[U i6 H,U i6 V,U i6 C])∧Below W.heap.size W w':=by
 have Hc:Hid (∀ q v,[U i6 k,U i6 a,U i6 b,U i6 m,U i6 kh,U i6 kw,U i6 sh,U i6 sw,U i6 tp,U i6 lf,U i6 bt,U i6 rt,.slice wa lw cw,.slice ba lb cb,U i6 sm,U i6 ss,U i6 um,U i6 us,U i6 z,U i6 p,U i6 l2,U i6 h2][q]? = some v→W.cell? ((x.add (i*22)).add q)=some v):=hcell
 have s0:=((St.start W).new (c:=#[U i6 h,U i6 w,U i6 c,U i6 lo,U i6 hi,.slice (some x) on oc,U i6 ot]) (t:=26)).new (c:=#[U i6 0,U i6 0,U i6 0]) (t:=23)
 simp only [World.size_alloc] at s0
 have S0:Hid (St W _ _):=s0
 have hne:(((i:Int)+1) == 0)=false:=by simp;omega
 clear s0 hcell
 go_enter Tryz.func42,Tryz.ntmps42
 go_upto_region 1 with fail
 obtain⟨w0,hw0⟩:∃ w0,((W.alloc (.cells #[U i6 h,U i6 w,U i6 c,U i6 lo,U i6 hi,.slice (some x) on oc,U i6 ot] 26)).alloc (.cells #[U i6 0,U i6 0,U i6 0] 23))=w0:=⟨_,rfl⟩
 rw [hw0] at S0 ⊢
 have HC0:Hid (∀ q v,[U i6 k,U i6 a,U i6 b,U i6 m,U i6 kh,U i6 kw,U i6 sh,U i6 sw,U i6 tp,U i6 lf,U i6 bt,U i6 rt,.slice wa lw cw,.slice ba lb cb,U i6 sm,U i6 ss,U i6 um,U i6 us,U i6 z,U i6 p,U i6 l2,U i6 h2][q]? = some v→w0.cell? ((x.add (i*22)).add q)=some v):=fun q v hq=>(S0.out.below.cell (World.block_lt_of_cell? W _ (Hc.out q v hq))).trans (Hc.out q v hq)
 clear hw0 Hc
 obtain⟨c0,f0,z0',c1,f1,z1,-⟩:=S0.out.rules
 obtain⟨vo,hvo⟩:∃ vo,Value.agg #[U i6 k,U i6 a,U i6 b,U i6 m,U i6 kh,U i6 kw,U i6 sh,U i6 sw,U i6 tp,U i6 lf,U i6 bt,U i6 rt,.slice wa lw cw,.slice ba lb cb,U i6 sm,U i6 ss,U i6 um,U i6 us,U i6 z,U i6 p,U i6 l2,U i6 h2]=vo:=⟨_,rfl⟩
 have HVO:Hid (Value.agg #[U i6 k,U i6 a,U i6 b,U i6 m,U i6 kh,U i6 kw,U i6 sh,U i6 sw,U i6 tp,U i6 lf,U i6 bt,U i6 rt,.slice wa lw cw,.slice ba lb cb,U i6 sm,U i6 ss,U i6 um,U i6 us,U i6 z,U i6 p,U i6 l2,U i6 h2]=vo):=hvo
 have s1:=S0.out.new (c:=#[U i6 k,U i6 a,U i6 b,U i6 m,U i6 kh,U i6 kw,U i6 sh,U i6 sw,U i6 tp,U i6 lf,U i6 bt,U i6 rt,.slice wa lw cw,.slice ba lb cb,U i6 sm,U i6 ss,U i6 um,U i6 us,U i6 z,U i6 p,U i6 l2,U i6 h2]) (t:=44)
 have S1:Hid (St W _ _):=s1
 clear s1
 go_upto_region 4 with ((refine wpList_load_any rfl 44 (.tmp 15) rfl (x.add (i*22)) rfl [U i6 k,U i6 a,U i6 b,U i6 m,U i6 kh,U i6 kw,U i6 sh,U i6 sw,U i6 tp,U i6 lf,U i6 bt,U i6 rt,.slice wa lw cw,.slice ba lb cb,U i6 sm,U i6 ss,U i6 um,U i6 us,U i6 z,U i6 p,U i6 l2,U i6 h2] _ HC0.out Tryz.underlying44 rfl (by kernel_rfl) ?_;(show wpList _ _ _ _ (Act.put _ _ (Value.agg #[U i6 k,U i6 a,U i6 b,U i6 m,U i6 kh,U i6 kw,U i6 sh,U i6 sw,U i6 tp,U i6 lf,U i6 bt,U i6 rt,.slice wa lw cw,.slice ba lb cb,U i6 sm,U i6 ss,U i6 um,U i6 us,U i6 z,U i6 p,U i6 l2,U i6 h2])) _);rw [hvo];clear hvo;refine wtl1 rfl (some 5) rfl (.pointer (some ⟨w0.heap.size,0,none⟩)) (w0.alloc (.cells #[U i6 0,U i6 0,U i6 0,U i6 0,U i6 0,U i6 0,U i6 0,U i6 0,U i6 0,U i6 0,U i6 0,U i6 0,.slice none 0 0,.slice none 0 0,U i6 0,U i6 0,U i6 0,U i6 0,U i6 0,U i6 0,U i6 0,U i6 0] 44)) (by kernel_rfl) ?_;refine wpList_st_new rfl 44 (.tmp 5) (.tmp 16) rfl w0 #[U i6 0,U i6 0,U i6 0,U i6 0,U i6 0,U i6 0,U i6 0,U i6 0,U i6 0,U i6 0,U i6 0,U i6 0,.slice none 0 0,.slice none 0 0,U i6 0,U i6 0,U i6 0,U i6 0,U i6 0,U i6 0,U i6 0,U i6 0] #[U i6 k,U i6 a,U i6 b,U i6 m,U i6 kh,U i6 kw,U i6 sh,U i6 sw,U i6 tp,U i6 lf,U i6 bt,U i6 rt,.slice wa lw cw,.slice ba lb cb,U i6 sm,U i6 ss,U i6 um,U i6 us,U i6 z,U i6 p,U i6 l2,U i6 h2] (by kernel_rfl) (Eq.trans (by kernel_rfl:_=vo) HVO.out.symm) (by kernel_rfl) rfl (by simp [Value.oneCell']) ?_))
 obtain⟨w1,hw1⟩:∃ w1,w0.alloc (.cells #[U i6 k,U i6 a,U i6 b,U i6 m,U i6 kh,U i6 kw,U i6 sh,U i6 sw,U i6 tp,U i6 lf,U i6 bt,U i6 rt,.slice wa lw cw,.slice ba lb cb,U i6 sm,U i6 ss,U i6 um,U i6 us,U i6 z,U i6 p,U i6 l2,U i6 h2] 44)=w1:=⟨_,rfl⟩
 rw [hw1] at S1 ⊢
 obtain⟨B1,hB1⟩:∃ B,w0.heap.size=B:=⟨_,rfl⟩
 rw [hB1] at S1 ⊢
 have hz1:W.heap.size+2≤B1:=by omega
 clear hw1 hB1 c0 f0 z0' c1 f1 z1 S0 HC0
 obtain⟨c0,f0,z0',c1,f1,z1,c2,f2,z2,-⟩:=S1.out.rules
 go_wp2_with fail
 refine Calls.mono (HA.out _ S1.out.below) ?_
 rintro e w2 ⟨rfl,hb⟩
 have S2:Hid (St W _ _):=(S1.out.call hb).new (c:=#[U i6 x0,U i6 y0,U i6 z0]) (t:=23)
 have hz2:=hb.size
 have hz3:=Nat.lt_of_lt_of_le (lt_of_heap S1.out.h1) hz2
 clear hb S1 HA c0 f0 z0' c1 f1 z1 c2 f2 z2
 obtain⟨w3,hw3⟩:∃ w3,w2.alloc (.cells #[U i6 x0,U i6 y0,U i6 z0] 23)=w3:=⟨_,rfl⟩
 obtain⟨B2,hB2⟩:∃ B,w2.heap.size=B:=⟨_,rfl⟩
 rw [hw3,hB2] at S2
 go_upto_region 5 with fail
 try rw [hw3]
 try rw [hB2]
 rw [hB2] at hz2 hz3
 clear hw3 hB2
 obtain⟨c3,f3,z3,c0,f0,z0',c1,f1,z1,c2,f2,z2,-⟩:=S2.out.rules
 rcases (show k=1∨k=2∨k=3∨k=4∨k=5∨k=6∨k=7∨k=8 by omega) with rfl | rfl | rfl | rfl | rfl | rfl | rfl | rfl
 ·obtain⟨rfl,rfl,rfl⟩:=G1.out rfl
  clear G1 G2 G3 G4 G5 hk
  go_wp2
  exact bodyPost_ret (v:=.agg #[U i6 1,U i6 1,U i6 C]) (by simp [results,Tryz.results42,go_sem, *]) rfl ⟨rfl,set3b S2.out.below (by omega)⟩
 ·obtain rfl:=G3.out rfl
  have HO:Hid (ouR x0 y0 z0 kh kw sh sw tp lf bt rt=(H,V,0)):=G2.out (by decide)
  clear G1 G2 G3 G4 G5 hk
  go_wp2_with fail
  refine (wslid_any _ _ _ _ _ _ _ _ _ _ _ _ _ _ HO.out).mono ?_
  rintro e w4 ⟨rfl,hb⟩
  have S4:Hid (St W _ _):=(S2.out.call hb)
  clear hb S2 c3 f3 z3 c0 f0 z0' c1 f1 z1 c2 f2 z2
  obtain⟨c3,f3,z3,c0,f0,z0',c1,f1,z1,c2,f2,z2,-⟩:=S4.out.rules
  go_upto_region 10 with fail
  have S5:Hid (St W _ _):=S4.out.set012 (u:=U i6 H) (v:=U i6 V) (x:=U i6 z0) (by simp;omega)
  obtain⟨w5,hw5⟩:∃ w5,(((w4.setCell ⟨B2,0,none⟩ (U i6 H)).setCell ⟨B2,1,none⟩ (U i6 V)).setCell ⟨B2,2,none⟩ (U i6 z0))=w5:=⟨_,rfl⟩
  rw [hw5] at S5 ⊢
  clear S4 hw5 c3 f3 z3 c0 f0 z0' c1 f1 z1 c2 f2 z2
  obtain⟨c3,f3,z3,c0,f0,z0',c1,f1,z1,c2,f2,z2,-⟩:=S5.out.rules
  go_upto_region 15 with fail
  have S6:Hid (St W (w5.setCell ⟨B2,2,none⟩ (U i6 C)) _):=S5.out.set (i:=2) (v:=U i6 C) (by simp;omega)
  obtain⟨w6,hw6⟩:∃ w6,w5.setCell ⟨B2,2,none⟩ (U i6 C)=w6:=⟨_,rfl⟩
  rw [hw6] at S6 ⊢
  clear S5 hw6 c3 f3 z3 c0 f0 z0' c1 f1 z1 c2 f2 z2
  obtain⟨c3,f3,z3,c0,f0,z0',c1,f1,z1,c2,f2,z2,-⟩:=S6.out.rules
  simp only [List.setIfInBounds_toArray,List.set_cons_zero,List.set_cons_succ] at c3
  go_wp2
  exact bodyPost_ret (v:=.agg #[U i6 H,U i6 V,U i6 C]) (by simp [results,Tryz.results42,go_sem, *]) rfl ⟨rfl,set3b S6.out.below (by omega)⟩
 ·obtain rfl:=G4.out (by decide)
  have HO:Hid (ouR x0 y0 C kh kw sh sw tp lf bt rt=(H,V,0)):=G2.out (by decide)
  clear G1 G2 G3 G4 G5 hk
  go_wp2_with fail
  refine (wslid_any _ _ _ _ _ _ _ _ _ _ _ _ _ _ HO.out).mono ?_
  rintro e w4 ⟨rfl,hb⟩
  have S4:Hid (St W _ _):=(S2.out.call hb)
  clear hb S2 c3 f3 z3 c0 f0 z0' c1 f1 z1 c2 f2 z2
  obtain⟨c3,f3,z3,c0,f0,z0',c1,f1,z1,c2,f2,z2,-⟩:=S4.out.rules
  go_upto_region 15 with fail
  have S5:Hid (St W _ _):=S4.out.set012 (u:=U i6 H) (v:=U i6 V) (x:=U i6 C) (by simp;omega)
  obtain⟨w5,hw5⟩:∃ w5,(((w4.setCell ⟨B2,0,none⟩ (U i6 H)).setCell ⟨B2,1,none⟩ (U i6 V)).setCell ⟨B2,2,none⟩ (U i6 C))=w5:=⟨_,rfl⟩
  rw [hw5] at S5 ⊢
  clear S4 hw5 c3 f3 z3 c0 f0 z0' c1 f1 z1 c2 f2 z2
  obtain⟨c3,f3,z3,c0,f0,z0',c1,f1,z1,c2,f2,z2,-⟩:=S5.out.rules
  go_wp2
  exact bodyPost_ret (v:=.agg #[U i6 H,U i6 V,U i6 C]) (by simp [results,Tryz.results42,go_sem, *]) rfl ⟨rfl,set3b S5.out.below (by omega)⟩
 ·obtain rfl:=G4.out (by decide)
  have HO:Hid (ouR x0 y0 C kh kw sh sw tp lf bt rt=(H,V,0)):=G2.out (by decide)
  clear G1 G2 G3 G4 G5 hk
  go_wp2_with fail
  refine (wslid_any _ _ _ _ _ _ _ _ _ _ _ _ _ _ HO.out).mono ?_
  rintro e w4 ⟨rfl,hb⟩
  have S4:Hid (St W _ _):=(S2.out.call hb)
  clear hb S2 c3 f3 z3 c0 f0 z0' c1 f1 z1 c2 f2 z2
  obtain⟨c3,f3,z3,c0,f0,z0',c1,f1,z1,c2,f2,z2,-⟩:=S4.out.rules
  go_upto_region 15 with fail
  have S5:Hid (St W _ _):=S4.out.set012 (u:=U i6 H) (v:=U i6 V) (x:=U i6 C) (by simp;omega)
  obtain⟨w5,hw5⟩:∃ w5,(((w4.setCell ⟨B2,0,none⟩ (U i6 H)).setCell ⟨B2,1,none⟩ (U i6 V)).setCell ⟨B2,2,none⟩ (U i6 C))=w5:=⟨_,rfl⟩
  rw [hw5] at S5 ⊢
  clear S4 hw5 c3 f3 z3 c0 f0 z0' c1 f1 z1 c2 f2 z2
  obtain⟨c3,f3,z3,c0,f0,z0',c1,f1,z1,c2,f2,z2,-⟩:=S5.out.rules
  go_wp2
  exact bodyPost_ret (v:=.agg #[U i6 H,U i6 V,U i6 C]) (by simp [results,Tryz.results42,go_sem, *]) rfl ⟨rfl,set3b S5.out.below (by omega)⟩
 ·obtain rfl:=G4.out (by decide)
  have HO:Hid (ouR x0 y0 C kh kw sh sw tp lf bt rt=(H,V,0)):=G2.out (by decide)
  clear G1 G2 G3 G4 G5 hk
  go_wp2_with fail
  refine (wslid_any _ _ _ _ _ _ _ _ _ _ _ _ _ _ HO.out).mono ?_
  rintro e w4 ⟨rfl,hb⟩
  have S4:Hid (St W _ _):=(S2.out.call hb)
  clear hb S2 c3 f3 z3 c0 f0 z0' c1 f1 z1 c2 f2 z2
  obtain⟨c3,f3,z3,c0,f0,z0',c1,f1,z1,c2,f2,z2,-⟩:=S4.out.rules
  go_upto_region 15 with fail
  have S5:Hid (St W _ _):=S4.out.set012 (u:=U i6 H) (v:=U i6 V) (x:=U i6 C) (by simp;omega)
  obtain⟨w5,hw5⟩:∃ w5,(((w4.setCell ⟨B2,0,none⟩ (U i6 H)).setCell ⟨B2,1,none⟩ (U i6 V)).setCell ⟨B2,2,none⟩ (U i6 C))=w5:=⟨_,rfl⟩
  rw [hw5] at S5 ⊢
  clear S4 hw5 c3 f3 z3 c0 f0 z0' c1 f1 z1 c2 f2 z2
  obtain⟨c3,f3,z3,c0,f0,z0',c1,f1,z1,c2,f2,z2,-⟩:=S5.out.rules
  go_wp2
  exact bodyPost_ret (v:=.agg #[U i6 H,U i6 V,U i6 C]) (by simp [results,Tryz.results42,go_sem, *]) rfl ⟨rfl,set3b S5.out.below (by omega)⟩
 ·obtain rfl:=G4.out (by decide)
  obtain⟨rfl,rfl⟩:=G5.out (by decide)
  clear G1 G2 G3 G4 G5 hk
  go_wp2
  exact bodyPost_ret (v:=.agg #[U i6 H,U i6 V,U i6 C]) (by simp [results,Tryz.results42,go_sem, *]) rfl ⟨rfl,set3b S2.out.below (by omega)⟩
 ·obtain rfl:=G4.out (by decide)
  obtain⟨rfl,rfl⟩:=G5.out (by decide)
  clear G1 G2 G3 G4 G5 hk
  go_wp2
  exact bodyPost_ret (v:=.agg #[U i6 H,U i6 V,U i6 C]) (by simp [results,Tryz.results42,go_sem, *]) rfl ⟨rfl,set3b S2.out.below (by omega)⟩
 ·obtain rfl:=G4.out (by decide)
  obtain⟨rfl,rfl⟩:=G5.out (by decide)
  clear G1 G2 G3 G4 G5 hk
  go_wp2
  exact bodyPost_ret (v:=.agg #[U i6 H,U i6 V,U i6 C]) (by simp [results,Tryz.results42,go_sem, *]) rfl ⟨rfl,set3b S2.out.below (by omega)⟩
theorem shape_any {h w c lo hi ot:Int} {oa:Option Addr} {on oc:Nat} {O:Nat→Nat→Int} {W:World} (hM:MRow W oa on oc O) {RL:List (Int×Int×Int)} {Rw:Int} (hR:gtR O h w c lo hi ot on=(0,0,RL,Rw)) :
  ∀ t:Nat,t≤on→∀ W',Below W.heap.size W W'→∀ H V C,RL.getD t (0,0,0)=(H,V,C)→Calls Tryz.prog 42 #[.agg #[U i6 h,U i6 w,U i6 c,U i6 lo,U i6 hi,.slice oa on oc,U i6 ot],U i6 (t:Int)] W' fun e w'=>e=.returned (.agg #[U i6 H,U i6 V,U i6 C])∧Below W'.heap.size W' w':=by
 intro t
 induction t using Nat.strongRecOn with
 | ind t ih =>
  intro ht W' hb H V C hS
  match t with
  | 0 =>
   have h0:=(gtR_at hR).1
   unfold ShA at h0
   rw [Int.toNat_natCast,hS] at h0
   simp only [Prod.mk.injEq] at h0
   obtain⟨rfl,rfl,rfl⟩:=h0
   exact shape_0 H V C lo hi ot oa on oc W'
  | i+1 =>
   have hM':=hM.below hb
   have hom:oc≤9223372036854775807:=by have:=hM.2.1;unfold maxLen at this;omega
   obtain⟨x,wa,lw,cw,ba,lb,cb,rfl,e12,e13,hcell⟩:=hM'.at (show i<on by omega)
   obtain⟨ja,jb,e1,hja,e2,hjb,hopd⟩:=opd_of hR (show i<on by omega)
   obtain⟨x0,y0,z0,hA⟩:∃ x0 y0 z0,RL.getD ja (0,0,0)=(x0,y0,z0):=⟨_,_,_,rfl⟩
   obtain⟨s,-⟩:=hopd x0 y0 z0 H V C hA hS
   have e:((i+1:Nat):Int)=(i:Int)+1:=by omega
   rw [e]
   refine shape_s h w c lo hi ot x on oc i (O i 0) (O i 1) (O i 2) (O i 3) (O i 4) (O i 5) (O i 6) (O i 7) (O i 8) (O i 9) (O i 10) (O i 11) wa lw cw ba lb cb (O i 14) (O i 15) (O i 16) (O i 17) (O i 18) (O i 19) (O i 20) (O i 21) W' hM.1 hom (by omega) hcell x0 y0 z0 H V C (fun W'' hb'=>?_) s.hk (fun k1=>?_) s.ou (fun k2=>?_) s.c3 s.s6
   ·rw [e1];exact ih ja (by omega) (by omega) W'' (hb.trans (hb'.mono hb.size)) x0 y0 z0 hA
   ·have:=(s.al (by omega)).2
    unfold mk3 mkS at this
    rw [if_pos k1] at this
    simp only [Prod.mk.injEq] at this
    exact⟨this.1.symm,this.2.1.symm,this.2.2.symm⟩
   ·have:=(s.al (by omega)).2
    unfold mk3 mkS at this
    rw [if_neg (by omega),if_pos k2] at this
    simp only [Prod.mk.injEq] at this
    exact this.2.2.symm
end Go.Proofs.YtgjcjhnnopandaaGreat
