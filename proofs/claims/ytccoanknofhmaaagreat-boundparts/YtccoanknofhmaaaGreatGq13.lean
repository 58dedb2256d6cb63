/- goThrough of package model: what it answers. Lists of terms in memory: what is read of them, what a call owns; 'make', 'append', a store into one; same of the law. Lists of spans in memory: what is read of them, what a call owns; cuts of them; 'make' and 'append'; steps of regions that draw their order. The iterator of Taps: called with whatever round, it gives each tap in its order, till it is told to stop. The iterator of Positions: called with whatever round, it gives each position's row and column in their order, till it is told to stop. What corner of package window, and the document's Has, return: each for every argument. Taps and Positions hand back iterators: what they give, and for how long. Rows of ints: what is read of them, what a call owns, what stays behind a call; append over them. What the law's own pairs and spots collect of an iterator: the first so many of what it gives, in a new slice. A region that draws its order within a round of a loop over an iterator: it goes as outside of one; 'append' of one int as a step of such a region. Loops over iterators that make what they give: a value that is given reads as told at the time when it is given. -/
import Derived.Test.YtccoanknofhmaaaGreatGq01
import Derived.Test.YtccoanknofhmaaaGreatGq02
import Derived.Test.YtccoanknofhmaaaGreatGq09
import Derived.Test.YtccoanknofhmaaaGreatGq12
import Derived.Deep.WholeRow
import Derived.Laws.AppendOwnNone
import Derived.BigQuiet
import Derived.LoopN
import Derived.Maps.AppendAt
import Derived.RangeFuncNested
import Derived.RangeFuncBound
import Derived.RangeFuncCalls
import Derived.RangeFuncLeaves
import Derived.Shelf.Abstract
import Derived.Shelf.RegionOpen
import Derived.WalkKit
import Derived.OwnWalkIn
import Derived.TacticsInMore
import Derived.LoopNIn
import Derived.LoopIn
import Derived.RangeFuncBox
namespace Go.Proofs.YtccoanknofhmaaaGreat
open Go.Value renaming int → U, slice → Sl
open Go.IntKind renaming i64 → i6
set_option maxRecDepth 100000
set_option maxHeartbeats 16000000
open Go.ChangeShapes Go.WideShapes Go.ChangeAt Go.RowKit
set_option linter.unusedVariables false
theorem set5b {w0 w:World} {B N M:Nat} {a b c d e:Value} (h:Below B w0 w) (hN:B≤N) (hM:B≤M):Below B w0 (((((w.setCell ⟨N,0,none⟩ a).setCell ⟨N,1,none⟩ b).setCell ⟨M,0,none⟩ c).setCell ⟨M,1,none⟩ d).setCell ⟨M,2,none⟩ e) :=
 ((((h.setCell (p:=⟨N,0,none⟩) hN a).setCell (p:=⟨N,1,none⟩) hN b).setCell (p:=⟨M,0,none⟩) hM c).setCell (p:=⟨M,1,none⟩) hM d).setCell (p:=⟨M,2,none⟩) hM e
theorem set5h {w:World} {g N M:Nat} {o:Obj} {a b c d e:Value} (h:w.heap[g]? = some o) (hN:g≠N) (hM:g≠M):(((((w.setCell ⟨N,0,none⟩ a).setCell ⟨N,1,none⟩ b).setCell ⟨M,0,none⟩ c).setCell ⟨M,1,none⟩ d).setCell ⟨M,2,none⟩ e).heap[g]? = some o:=by
 rw [Below.heap_setCell _ _ _ _ hM,Below.heap_setCell _ _ _ _ hM,Below.heap_setCell _ _ _ _ hM,Below.heap_setCell _ _ _ _ hN,Below.heap_setCell _ _ _ _ hN]
 exact h
theorem wpList_mk3 {w:World} {ops:Array Oper} {rest:List Oper} {o:Oper} {a:Act} {Q:Exit→Act→World→Prop} (hg:o.guard=none) (l c:Operand) (hop:o.op=Op.makeSlice 77 l c)
  (m:Nat) (C:Int) (hl:a.eval l=U i6 0) (hc:a.eval c=U i6 C) (hC:C=(m:Int)) (hm:m≤1000)
  (hK:∀ cur:Array Value,cur.size=m*3→wpList Tryz.prog ops Q rest (a.put o.dst (.slice (some ⟨w.heap.size,0,none⟩) 0 m)) (w.alloc (.cells cur 23))) :
  wpList Tryz.prog ops Q (o :: rest) a w:=by
 obtain⟨i0,hi0,hz0,hz1,hz2⟩:=info_parts (show (Tryz.prog.info? 23).map (fun i=>(i.zero,i.size,i.bytes))=some (some (.agg #[U i6 0,U i6 0,U i6 0]),3,24) by kernel_rfl)
 subst hC
 refine wpList_plain hg fun K hK'=>?_
 have hr:=run_make (P:=Tryz.prog) w 77 23 i0 (.agg #[U i6 0,U i6 0,U i6 0]) Tryz.underlying77 hi0 hz0 .i64 .i64 ((0:Nat):Int) m (by omega) (by omega) (by rw [hz2];omega) (by omega)
 simp only [Int.toNat_natCast,hz1] at hr
 unfold Oper.wp
 simp only [execOp,hop,hl,hc]
 simp [Result.andThen]
 have hr':=hr
 simp only [Int.natCast_zero] at hr'
 rw [hr']
 exact hK' _ _ (hK _ (by rw [size_madeCells]))
theorem wpList_ap3 {w:World} {ops:Array Oper} {rest:List Oper} {o:Oper} {a:Act} {Q:Exit→Act→World→Prop} (hg:o.guard=none) (s x:Operand) (hop:o.op=Op.call { callee:=Callee.builtin Builtin.append,args:=#[s,x],argTypes:=#[77,77] })
  (g n cap:Nat) (hs:a.eval s=.slice (some ⟨g,0,none⟩) n cap) (b:Nat) (u v z:Value) (hx:a.eval x=.slice (some ⟨b,0,none⟩) 1 1) (hb:w.heap[b]? = some (.cells #[u,v,z] 23 (0,0))) (h1:∀ q∈[u,v,z],q.oneCell'=true)
  (cur:Array Value) (hcur:w.heap[g]? = some (.cells cur 23 (0,0))) (hsz:n*3+3≤cur.size) (hroom:n+1≤cap)
  (hK:wpList Tryz.prog ops Q rest (a.put o.dst (.slice (some ⟨g,0,none⟩) (n+1) cap)) (w.setCells g (0+n*3) [u,v,z])):wpList Tryz.prog ops Q (o :: rest) a w:=by
 obtain⟨i0,hi0,hz0,hz1,hz2⟩:=info_parts (show (Tryz.prog.info? 23).map (fun i=>(i.zero,i.size,i.bytes))=some (some (.agg #[U i6 0,U i6 0,U i6 0]),3,24) by kernel_rfl)
 refine wpList_plain hg fun K hK'=>?_
 have:=step_append_room (P:=Tryz.prog) (ops:=ops) (o:=o) (a:=a) (w:=w) (K:=K) (Q:=Q) (E:=False) hg s x 77 hop 23 i0 3 Tryz.underlying77 hi0 hz1 g 0 n cap hs ⟨b,0,none⟩ 1 1 [u,v,z] hx rfl (new_cells hb) h1 hroom (spare_of hcur hsz) (hK' _ _ hK)
 rwa [if_pos (by simp [Region.wanted,hg])] at this
def Shp (w:World) (base:Nat) (v:Value) (L:List (Int×Int×Int)):Prop :=
 (v=.slice none 0 0∧L=[])∨∃ (g cap:Nat) (cur:Array Value),v=.slice (some ⟨g,0,none⟩) L.length cap∧base≤g∧w.heap[g]? = some (.cells cur 23 (0,0))∧Cu cur cap L∧cap≤1000
def gtR (O:Nat→Nat→Int) (h w c lo hi ot:Int) (on:Nat):Int×Int×List (Int×Int×Int)×Int:=if ouE h w c lo hi ot on≠0 then (ouE h w c lo hi ot on,0,[],0) else stG O (h,w,c) on
theorem gothrough_any (h w c lo hi ot:Int) (oa:Option Addr) (on oc:Nat) (O:Nat→Nat→Int) (W:World) (hM:MRow W oa on oc O) :
  Calls Tryz.prog 48 #[.agg #[U i6 h,U i6 w,U i6 c,U i6 lo,U i6 hi,Sl oa on oc,U i6 ot]] W fun e w'=>∃ v,e=.returned (.tuple #[.agg #[v,U i6 (gtR O h w c lo hi ot on).2.2.2],.agg #[U i6 (gtR O h w c lo hi ot on).1,U i6 (gtR O h w c lo hi ot on).2.1,U i6 0]])∧Shp w' W.heap.size v (gtR O h w c lo hi ot on).2.2.1∧Below W.heap.size W w':=by
 obtain⟨x,hx⟩:∃ x,ouE h w c lo hi ot on=x:=⟨_,rfl⟩
 have hU:Hid (∀ W,Calls Tryz.prog 65 #[.agg #[U i6 h,U i6 w,U i6 c,U i6 lo,U i6 hi,Sl oa on oc,U i6 ot]] W fun e w'=>e=.returned (U i6 x)∧Below W.heap.size W w'):=fun W=>by rw [← hx];exact outside_any h w c lo hi ot oa on oc W
 obtain⟨Re,Ra,RL,Rw,hR⟩:∃ Re Ra RL Rw,gtR O h w c lo hi ot on=(Re,Ra,RL,Rw):=⟨_,_,_,_,rfl⟩
 rw [hR]
 simp only
 by_cases hx0:x=0
 rotate_left
 ·have hRR:gtR O h w c lo hi ot on=(x,0,[],0):=by unfold gtR;rw [hx,if_pos hx0]
  rw [hR] at hRR
  simp only [Prod.mk.injEq] at hRR
  obtain⟨rfl,rfl,rfl,rfl⟩:=hRR
  clear hx hR hM
  go_enter Tryz.func48,Tryz.ntmps48
  go_wp2_with fail
  refine (hU.out _).mono ?_
  rintro e w1 ⟨rfl,hb'⟩
  have s1:=(St.start W).new.new.new.call hb'
  clear hb'
  try simp only [World.size_setCell] at s1
  try simp only [World.size_alloc] at s1
  obtain⟨c1,f1,zw1_1,c2,f2,zw1_2,c3,f3,zw1_3,-⟩:=s1.rules
  go_wp2
  exact bodyPost_ret (v:=.tuple #[.agg #[Sl none 0 0,U i6 0],.agg #[U i6 Re,U i6 0,U i6 0]]) (by simp [results,Tryz.results48,go_sem, *]) rfl ⟨_,rfl,.inl ⟨rfl,rfl⟩,set5b s1.below (by omega) (by omega)⟩
 subst hx0
 obtain⟨g0,r0,ho64,hot0,hot1⟩:=ouE_0 hx
 have hRG:Hid (stG O (h,w,c) on=(Re,Ra,RL,Rw)):=by unfold Hid;rw [← hR];unfold gtR;rw [hx,if_neg (by decide)]
 have hocc:=hM.1
 have hocm:=hM.2.1
 unfold maxLen at hocm
 have hM':Hid (MRow W oa on oc O):=hM
 clear hx hR hM hot0 hot1 r0
 go_enter Tryz.func48,Tryz.ntmps48
 go_wp2_with fail
 refine (hU.out _).mono ?_
 rintro e w1 ⟨rfl,hb'⟩
 have s1:=(St.start W).new.new.new.call hb'
 clear hb'
 try simp only [World.size_setCell] at s1
 try simp only [World.size_alloc] at s1
 obtain⟨c1,f1,zw1_1,c2,f2,zw1_2,c3,f3,zw1_3,-⟩:=s1.rules
 go_wp2_with (first
  | (at_make;refine wpList_mk3 rfl _ _ rfl (on+1) _ rfl rfl (by omega) (by omega) ?_;intro cur hcur)
  | (at_builtin;refine wpList_ap3 rfl (.tmp 22) (.tmp 25) rfl w1.heap.size 0 (on+1) rfl (w1.heap.size+1) (U i6 h) (U i6 w) (U i6 c) rfl (heap_alloc2_new w1 _ _) (by simp [Value.oneCell']) cur (heap_alloc2_old w1 _ _) (by omega) (by omega) ?_;have s2:=(s1.new (c:=cur) (t:=23)).new (c:=#[U i6 h,U i6 w,U i6 c]) (t:=23);simp only [World.size_alloc] at s2;have s3:=s2.up1.app3 (by simp;omega) (o:=0*3) (x:=U i6 h) (y:=U i6 w) (z:=U i6 c);generalize World.setCells _ _ _ _=w2 at s3 ⊢;clear s2 c1 f1 c2 f2 c3 f3;obtain⟨-,-,zg,-,-,-,-,-,-,-,-,-,c3,f3,zm,-⟩:=s3.rules))
 have hC1:Cu _ (on+1) [(h,w,c)]:=(show Cu cur (on+1) [] from ⟨hcur,by simp,by rw [show ([]:List (Int×Int×Int)).length*3=0 from rfl,List.take_zero];rfl⟩).add (by simp) h w c
 have s4:=s3.drop2.new (c:=#[Sl (some ⟨w1.heap.size,0,none⟩) 1 (on+1),U i6 0]) (t:=98)
 have H4:Hid (∃ cur,Cu cur (on+1) [(h,w,c)]∧St W _ ((_,_,_) :: (_,cur,_) :: _)):=⟨_,hC1,s4⟩
 clear s3 s4 hC1 c3 f3 hcur s1
 go_loopw [31] (fun i wr=>∃ (k:Nat) (L:List (Int×Int×Int)) (wk:Int) (cur:Array Value),k≤on∧i=U i6 k∧stG O (h,w,c) k=(0,0,L,wk)∧Cu cur (on+1) L∧St W wr ((w2.heap.size,#[Sl (some ⟨w1.heap.size,0,none⟩) (k+1) (on+1),U i6 wk],98) :: (w1.heap.size,cur,23) :: (W.heap.size+1+1,#[U i6 0,U i6 0,U i6 0],79) :: (W.heap.size+1,#[Sl none 0 0,U i6 0],98) :: (W.heap.size,#[U i6 h,U i6 w,U i6 c,U i6 lo,U i6 hi,Sl oa on oc,U i6 ot],26) :: [])) (fun i _=>on-(intOf i).toNat)
 case atStart =>
  obtain⟨cur1,hC1,s4⟩:=H4.out
  exact⟨0,[(h,w,c)],0,cur1,Nat.zero_le _,rfl,rfl,hC1,s4⟩
 case round =>
  obtain⟨k,L,wk,cur1,hk,rfl,hst,hCu,sr⟩:=hrel
  clear H4 cur
  obtain⟨i1,i2,i3,i4⟩:=stG_inv (O:=O) (s0:=(h,w,c)) g0 k L wk hst
  obtain⟨c1,f1,zr1,c2,f2,zr2,c3,f3,zr3,c4,f4,zr4,c5,f5,zr5,-⟩:=sr.rules
  by_cases hlt:k<on
  ·obtain⟨x,wa,lw,cw,ba,lb,cb,rfl,hl12,hl13,hcell⟩:=(hM'.out.below sr.below).at hlt
   have sb:=(sr.new (c:=#[U i6 (O k 0),U i6 (O k 1),U i6 (O k 2),U i6 (O k 3),U i6 (O k 4),U i6 (O k 5),U i6 (O k 6),U i6 (O k 7),U i6 (O k 8),U i6 (O k 9),U i6 (O k 10),U i6 (O k 11),Sl wa lw cw,Sl ba lb cb,U i6 (O k 14),U i6 (O k 15),U i6 (O k 16),U i6 (O k 17),U i6 (O k 18),U i6 (O k 19),U i6 (O k 20),U i6 (O k 21)]) (t:=42)).toFront
   have hT:tkE (O k 0) (O k 1) (O k 2) (O k 3) (O k 4) (O k 5) (O k 6) (O k 7) (O k 8) (O k 9) (O k 10) (O k 11) lw lb (O k 14) (O k 15) (O k 16) (O k 17) (O k 18) (O k 19) (O k 20) (O k 21) L wk=oT (O k) L wk:=by unfold oT;rw [hl12,hl13];rfl
   have hcall:=take_any (O k 0) (O k 1) (O k 2) (O k 3) (O k 4) (O k 5) (O k 6) (O k 7) (O k 8) (O k 9) (O k 10) (O k 11) wa lw cw ba lb cb (O k 14) (O k 15) (O k 16) (O k 17) (O k 18) (O k 19) (O k 20) (O k 21) W _ w2.heap.size w1.heap.size (on+1) (k+1) cur1 L wk _ i1 sb (by omega) ⟨i3,i4⟩ (by omega) hCu i2 (by omega) (by simp;omega)
   rw [hT] at hcall
   obtain⟨y,hy⟩:∃ y,oT (O k) L wk=y:=⟨_,rfl⟩
   rw [hy] at hcall
   have Hcall:Hid _:=hcall
   have Hbox:=heap_alloc_new wr (.cells #[U i6 (O k 0),U i6 (O k 1),U i6 (O k 2),U i6 (O k 3),U i6 (O k 4),U i6 (O k 5),U i6 (O k 6),U i6 (O k 7),U i6 (O k 8),U i6 (O k 9),U i6 (O k 10),U i6 (O k 11),Sl wa lw cw,Sl ba lb cb,U i6 (O k 14),U i6 (O k 15),U i6 (O k 16),U i6 (O k 17),U i6 (O k 18),U i6 (O k 19),U i6 (O k 20),U i6 (O k 21)] 42)
   have hcell':Hid (∀ j v,[U i6 (O k 0),U i6 (O k 1),U i6 (O k 2),U i6 (O k 3),U i6 (O k 4),U i6 (O k 5),U i6 (O k 6),U i6 (O k 7),U i6 (O k 8),U i6 (O k 9),U i6 (O k 10),U i6 (O k 11),Sl wa lw cw,Sl ba lb cb,U i6 (O k 14),U i6 (O k 15),U i6 (O k 16),U i6 (O k 17),U i6 (O k 18),U i6 (O k 19),U i6 (O k 20),U i6 (O k 21)][j]? = some v→wr.cell? ((x.add (k*22)).add j)=some v):=hcell
   clear hcall hcell hT hl12 hl13
   go_upto_region 8 with fail
   go_wp2_with (first
    | (refine wpList_load_any rfl 42 (.tmp 34) rfl _ rfl [U i6 (O k 0),U i6 (O k 1),U i6 (O k 2),U i6 (O k 3),U i6 (O k 4),U i6 (O k 5),U i6 (O k 6),U i6 (O k 7),U i6 (O k 8),U i6 (O k 9),U i6 (O k 10),U i6 (O k 11),Sl wa lw cw,Sl ba lb cb,U i6 (O k 14),U i6 (O k 15),U i6 (O k 16),U i6 (O k 17),U i6 (O k 18),U i6 (O k 19),U i6 (O k 20),U i6 (O k 21)] _ hcell'.out Tryz.underlying42 rfl (by kernel_rfl) ?_)
    | (refine wpList_st_new rfl 42 (.tmp 8) (.tmp 35) rfl wr _ #[U i6 (O k 0),U i6 (O k 1),U i6 (O k 2),U i6 (O k 3),U i6 (O k 4),U i6 (O k 5),U i6 (O k 6),U i6 (O k 7),U i6 (O k 8),U i6 (O k 9),U i6 (O k 10),U i6 (O k 11),Sl wa lw cw,Sl ba lb cb,U i6 (O k 14),U i6 (O k 15),U i6 (O k 16),U i6 (O k 17),U i6 (O k 18),U i6 (O k 19),U i6 (O k 20),U i6 (O k 21)] rfl rfl (by kernel_rfl) rfl (by simp [Value.oneCell']) ?_)
    | (refine wpList_load_row rfl 42 (.tmp 8) rfl wr.heap.size rfl 42 _ (0,0) _ Hbox Tryz.underlying42 rfl (by kernel_rfl) ?_))
   refine Calls.mono Hcall.out ?_
   rintro e w3 ⟨rfl,T⟩
   clear Hcall Hbox hcell' c1 f1 c2 f2 c3 f3 c4 f4 c5 f5 sb sr
   by_cases hy0:y=0
   ·obtain⟨n',cur',wk',s5,hz⟩:=T
    obtain⟨rfl,rfl,hCu'⟩:=hz hy0
    have hst':=stG_ok hst (hy.trans hy0)
    have Hst:Hid (stG O (h,w,c) (k+1)=_):=hst'
    have HC:Hid (Cu cur' (on+1) _):=hCu'
    have Hs5:Hid (St W w3 _):=s5
    clear hst' hCu' hst hz hy hCu s5 i1 i2
    subst hy0
    go_wp2
    go_round
    case rel=>exact⟨k+1,_,_,cur',by omega,rfl,Hst.out,HC.out,Hs5.out.drop3⟩
    case measure=>simp [intOf];omega
   ·obtain⟨n',cur',wk',s5,-⟩:=T
    have hst':=stG_err hst hy hy0
    have hon:stG O (h,w,c) on=(y,(k:Int)+1,[],0):=by
     have:=stG_bad (O:=O) (s0:=(h,w,c)) (i:=k+1) (by rw [hst'];exact hy0) (on-(k+1))
     rw [show k+1+(on-(k+1))=on by omega] at this
     rw [this,hst']
    rw [hRG.out] at hon
    simp only [Prod.mk.injEq] at hon
    obtain⟨e1,e2,e3,e4⟩:=hon
    have HE:Hid (Re=y∧Ra=(k:Int)+1∧RL=[]∧Rw=0):=⟨e1,e2,e3,e4⟩
    clear e1 e2 e3 e4 hst' hst hy hCu i1 i2 hRG
    obtain⟨c1,f1,zt1,c2,f2,zt2,c3,f3,zt3,c4,f4,zt4,c5,f5,zt5,c6,f6,zt6,-⟩:=s5.rules
    go_wp2
    exact bodyPost_ret (v:=.tuple #[.agg #[Sl none 0 0,U i6 0],.agg #[U i6 y,U i6 ((k:Int)+1),U i6 0]]) (by simp [results,Tryz.results48,go_sem, *]) rfl ⟨_,by rw [HE.out.1,HE.out.2.1,HE.out.2.2.2],.inl ⟨rfl,HE.out.2.2.1⟩,set5b s5.below (by omega) (by omega)⟩
  ·obtain rfl:k=on:=by omega
   rw [hRG.out] at hst
   simp only [Prod.mk.injEq] at hst
   obtain⟨e1,e2,e3,e4⟩:=hst
   have HE:Hid (Re=0∧Ra=0∧RL=L∧Rw=wk):=⟨e1,e2,e3,e4⟩
   have HL:Hid (L.length=k+1):=i1
   clear e1 e2 e3 e4 hRG i1
   go_wp2
   exact bodyPost_ret (v:=.tuple #[.agg #[Sl (some ⟨w1.heap.size,0,none⟩) (k+1) (k+1),U i6 wk],.agg #[U i6 0,U i6 0,U i6 0]]) (by simp [results,Tryz.results48,go_sem, *]) rfl ⟨_,by rw [HE.out.1,HE.out.2.1,HE.out.2.2.2],.inr ⟨w1.heap.size,k+1,cur1,by rw [HE.out.2.2.1,HL.out],by omega,set5h sr.h2 (by omega) (by omega),by rw [HE.out.2.2.1];exact hCu,by omega⟩,set5b sr.below (by omega) (by omega)⟩
def p2:List (Int×Int)→List Value
 | []=>[]
 | s :: l=>U i6 s.1 :: U i6 s.2 :: p2 l
theorem p2_len:∀ l:List (Int×Int),(p2 l).length=l.length*2
 | []=>rfl
 | s :: l=>by simp only [p2,List.length_cons,p2_len l];omega
theorem p2_app:∀ l r:List (Int×Int),p2 (l++r)=p2 l++p2 r
 | [],_=>rfl
 | s :: l,r=>by simp only [List.cons_append,p2,p2_app l r]
theorem p2_one:∀ l:List (Int×Int),∀ u∈p2 l,u.oneCell'=true
 | [],u,h=>by cases h
 | s :: l,u,h=>by
  simp only [p2,List.mem_cons] at h
  rcases h with rfl | rfl | h
  ·rfl
  ·rfl
  ·exact p2_one l u h
theorem p2_at:∀ (l:List (Int×Int)) (i:Nat),i<l.length→(p2 l)[i*2]? = some (U i6 (l.getD i (0,0)).1)∧(p2 l)[i*2+1]? = some (U i6 (l.getD i (0,0)).2)
 | [],_,h=>by simp at h
 | s :: l,0,_=>⟨rfl,rfl⟩
 | s :: l,i+1,h=>by
  have:=p2_at l i (by simpa using h)
  rw [show (i+1)*2=i*2+2 by omega]
  simpa [p2,List.getD] using this
def Cu2 (cur:Array Value) (cap:Nat) (L:List (Int×Int)):Prop:=cur.size=cap*2∧L.length≤cap∧cur.toList.take (L.length*2)=p2 L
theorem Cu2.get {cur:Array Value} {cap:Nat} {L:List (Int×Int)} (h:Cu2 cur cap L) {j:Nat} {u:Value} (hj:(p2 L)[j]? = some u):cur[j]? = some u:=by
 have hl:j<L.length*2:=by have:=(List.getElem?_eq_some_iff.1 hj).1;rwa [p2_len] at this
 rw [← h.2.2,List.getElem?_take,if_pos hl] at hj
 simpa using hj
theorem Cu2.add {cur:Array Value} {cap:Nat} {L:List (Int×Int)} (h:Cu2 cur cap L) (hr:L.length<cap) (x y:Int) :
  Cu2 ((cur.setIfInBounds (L.length*2) (U i6 x)).setIfInBounds (L.length*2+1) (U i6 y)) cap (L++[(x,y)]):=by
 obtain⟨h1,h2,h3⟩:=h
 refine⟨by simp [h1],by simp;omega,?_⟩
 rw [p2_app,← h3]
 apply List.ext_getElem?
 intro j
 have hsz:cur.toList.length=cap*2:=by simpa using h1
 simp only [List.length_append,List.length_cons,List.length_nil,Array.toList_setIfInBounds]
 rw [List.getElem?_take]
 have hl:(cur.toList.take (L.length*2)).length=L.length*2:=by rw [List.length_take];omega
 by_cases q1:j<L.length*2
 ·rw [if_pos (by omega),List.getElem?_append_left (by omega),List.getElem?_take,if_pos q1]
  rw [List.getElem?_set_ne (by omega),List.getElem?_set_ne (by omega)]
 ·rw [List.getElem?_append_right (by omega),hl]
  by_cases q2:j<L.length*2+2
  ·rw [if_pos (by omega)]
   rcases (show j=L.length*2∨j=L.length*2+1 by omega) with rfl | rfl
   ·rw [List.getElem?_set_ne (by omega),List.getElem?_set_self (by omega),Nat.sub_self];rfl
   ·rw [List.getElem?_set_self (by simp;omega),show L.length*2+1-L.length*2=1 by omega];rfl
  ·rw [if_neg (by omega),List.getElem?_eq_none (by simp [p2];omega)]
def OTm (w:World) (base:Nat) (v:Value) (L:List (Int×Int)):Prop:=w.ownsRow base 92 2 v L.length (p2 L)
theorem OTm.cu {w:World} {base:Nat} {v:Value} {L:List (Int×Int)} (h:OTm w base v L) (h0:0<L.length):∃ g cap cur,v=.slice (some ⟨g,0,none⟩) L.length cap∧base≤g∧w.heap[g]? = some (.cells cur 92 (0,0))∧Cu2 cur cap L∧cap≤maxLen:=by
 rcases h.2 with ⟨-,q⟩ | ⟨g,cap,cur,h1,h2,h3,h4,h5,h6,h7⟩
 ·omega
 ·exact⟨g,cap,cur,h1,h2,h3,⟨h6,h4,h7⟩,h5⟩
theorem OTm.of {w:World} {g cap base:Nat} {cur:Array Value} {L:List (Int×Int)} (h:w.heap[g]? = some (.cells cur 92 (0,0))) (hb:base≤g) (hC:Cu2 cur cap L) (hcap:cap≤maxLen):OTm w base (.slice (some ⟨g,0,none⟩) L.length cap) L :=
 ⟨by rw [p2_len],.inr ⟨g,cap,cur,rfl,hb,h,hC.2.1,hcap,hC.1,hC.2.2⟩⟩
theorem OTm.nil (w:World) (base:Nat):OTm w base (.slice none 0 0) []:=World.ownsRow_nil _ _ _ _
theorem OTm.below {w w':World} {base:Nat} {v:Value} {L:List (Int×Int)} (h:OTm w base v L) (g:Below w.heap.size w w'):OTm w' base v L:=by
 refine World.ownsRow.kept h (row:=none) ⟨g.os,g.tape,g.output,g.size,fun i hi _=>g.block i hi⟩ ?_
 cases e:v.ownBlock with
 | none=>exact .inl rfl
 | some b=>exact .inr (by simp)
theorem OTm.base {w:World} {b c:Nat} {v:Value} {L:List (Int×Int)} (h:OTm w b v L) (k:c≤b):OTm w c v L:=by
 refine⟨h.1,?_⟩
 rcases h.2 with h | ⟨g,cap,cur,h1,h2,h3⟩
 ·exact .inl h
 ·exact .inr ⟨g,cap,cur,h1,Nat.le_trans k h2,h3⟩
theorem OTm.slice {w:World} {base:Nat} {v:Value} {L:List (Int×Int)} (h:OTm w base v L):∃ a cap,v=.slice a L.length cap:=by
 rcases h.2 with ⟨rfl,q⟩ | ⟨g,cap,cur,rfl,-⟩
 ·exact⟨_,_,by rw [q]⟩
 ·exact⟨_,_,rfl⟩
theorem OTm.lt {w:World} {base:Nat} {v:Value} {L:List (Int×Int)} (h:OTm w base v L):∀ b,v.ownBlock=some b→base≤b:=fun b e=>(World.ownsRow.lt h b e).1
def TV (w:World) (v:Value) (L:List (Int×Int)):Prop :=
 ∃ a cap,v=.slice a L.length cap∧L.length≤cap∧cap≤maxLen∧(0<L.length→∃ g,a=some ⟨g,0,none⟩∧∀ j u,(p2 L)[j]? = some u→w.cell? ⟨g,j,none⟩=some u)
theorem TV.at {w:World} {g:Nat} {L:List (Int×Int)} (h:∀ j u,(p2 L)[j]? = some u→w.cell? ⟨g,j,none⟩=some u) {i:Nat} (hi:i<L.length) :
  w.cell? ⟨g,i*2,none⟩=some (U i6 (L.getD i (0,0)).1)∧w.cell? ⟨g,i*2+1,none⟩=some (U i6 (L.getD i (0,0)).2):=⟨h _ _ (p2_at L i hi).1,h _ _ (p2_at L i hi).2⟩
theorem TV.below {w w':World} {v:Value} {L:List (Int×Int)} (h:TV w v L) (q:Below w.heap.size w w'):TV w' v L:=by
 obtain⟨a,cap,h1,h2,h3,h4⟩:=h
 refine⟨a,cap,h1,h2,h3,fun h0=>?_⟩
 obtain⟨g,e,hc⟩:=h4 h0
 exact⟨g,e,fun j u hj=>(q.cell (World.block_lt_of_cell? w _ (hc j u hj))).trans (hc j u hj)⟩
theorem OTm.tv {w:World} {base:Nat} {v:Value} {L:List (Int×Int)} (h:OTm w base v L):TV w v L:=by
 rcases h.2 with ⟨rfl,q⟩ | ⟨g,cap,cur,rfl,h2,h3,h4,h5,h6,h7⟩
 ·obtain rfl:=List.eq_nil_of_length_eq_zero q
  exact⟨none,0,rfl,Nat.le_refl _,by unfold maxLen;omega,fun h=>by cases h⟩
 ·exact⟨_,_,rfl,h4,h5,fun _=>⟨g,rfl,fun j u hj=>by rw [(cells_at h3).1];exact Cu2.get ⟨h6,h4,h7⟩ hj⟩⟩
theorem Tryz.infoT:(Tryz.prog.info? 92).map (fun i=>(i.zero,i.size,i.bytes))=some (some (.agg #[U i6 0,U i6 0]),2,16):=by kernel_rfl
theorem wpList_apT {w:World} {ops:Array Oper} {rest:List Oper} {o:Oper} {a:Act} {Q:Exit→Act→World→Prop} (hgd:o.guard=none) (s x:Operand)
  (ho:o.op=.call { callee:=.builtin .append,args:=#[s,x],argTypes:=#[53,53] })
  (base:Nat) (v:Value) (L M:List (Int×Int)) (hs:a.eval s=v) (hown:OTm w base v L) (g m c:Nat) (hx:a.eval x=.slice (some ⟨g,0,none⟩) m c) (hm:M.length=m) (hy:∀ j u,(p2 M)[j]? = some u→w.cell? ⟨g,j,none⟩=some u)
  (hlen:L.length+M.length≤1000000) (hbase:base≤w.heap.size)
  (h:∀ v' w',OTm w' base v' (L++M)→w.grownBy w' v.ownBlock→wpList Tryz.prog ops Q rest (a.put o.dst v') w'):wpList Tryz.prog ops Q (o :: rest) a w:=by
 obtain⟨i0,hi,hz0,hz1,hz2⟩:=info_parts Tryz.infoT
 refine wpList_append_own _ hgd s x _ ho base 92 i0 (.agg #[U i6 0,U i6 0]) 2 16 Tryz.underlying53 hi hz0 hz1 hz2 rfl (by decide) v L.length _ hs hown ⟨g,0,none⟩ m c (p2 M) hx (by rw [p2_len,hm]) (fun j u hj=>by rw [Addr.add_lit,Nat.zero_add];exact hy j u hj) (p2_one M) (by unfold maxLen;omega) (by omega) hbase ?_
 intro v' w' h1 h2 h3
 refine h v' w' ?_ h2
 unfold OTm
 rw [List.length_append,hm,p2_app]
 exact h1
theorem term_one (w:World) (p q:Int):∀ j u,(p2 [(p,q)])[j]? = some u→(w.alloc (.cells #[U i6 p,U i6 q] 92)).cell? ⟨w.heap.size,j,none⟩=some u:=fun j u hj=>by
 rw [(cells_at (heap_alloc_new w (.cells #[U i6 p,U i6 q] 92))).1]
 simpa [p2] using hj
def OSp (w:World) (base:Nat) (v:Value) (L:List (Int×Int)):Prop:=w.ownsRow base 28 2 v L.length (p2 L)
theorem OSp.of {w:World} {g cap base:Nat} {cur:Array Value} {L:List (Int×Int)} (h:w.heap[g]? = some (.cells cur 28 (0,0))) (hb:base≤g) (hC:Cu2 cur cap L) (hcap:cap≤maxLen):OSp w base (.slice (some ⟨g,0,none⟩) L.length cap) L :=
 ⟨by rw [p2_len],.inr ⟨g,cap,cur,rfl,hb,h,hC.2.1,hcap,hC.1,hC.2.2⟩⟩
theorem OSp.nil (w:World) (base:Nat):OSp w base (.slice none 0 0) []:=World.ownsRow_nil _ _ _ _
theorem OSp.below {w w':World} {base:Nat} {v:Value} {L:List (Int×Int)} (h:OSp w base v L) (g:Below w.heap.size w w'):OSp w' base v L:=by
 refine World.ownsRow.kept h (row:=none) ⟨g.os,g.tape,g.output,g.size,fun i hi _=>g.block i hi⟩ ?_
 cases e:v.ownBlock with
 | none=>exact .inl rfl
 | some b=>exact .inr (by simp)
theorem OSp.base {w:World} {b c:Nat} {v:Value} {L:List (Int×Int)} (h:OSp w b v L) (k:c≤b):OSp w c v L:=by
 refine⟨h.1,?_⟩
 rcases h.2 with h | ⟨g,cap,cur,h1,h2,h3⟩
 ·exact .inl h
 ·exact .inr ⟨g,cap,cur,h1,Nat.le_trans k h2,h3⟩
theorem OSp.slice {w:World} {base:Nat} {v:Value} {L:List (Int×Int)} (h:OSp w base v L):∃ a cap,v=.slice a L.length cap:=by
 rcases h.2 with ⟨rfl,q⟩ | ⟨g,cap,cur,rfl,-⟩
 ·exact⟨_,_,by rw [q]⟩
 ·exact⟨_,_,rfl⟩
theorem OSp.lt {w:World} {base:Nat} {v:Value} {L:List (Int×Int)} (h:OSp w base v L):∀ b,v.ownBlock=some b→base≤b∧b<w.heap.size:=fun b e=>World.ownsRow.lt h b e
def SpV (w:World) (v:Value) (L:List (Int×Int)):Prop :=
 ∃ a cap,v=.slice a L.length cap∧L.length≤cap∧cap≤maxLen∧(0<L.length→∃ g o,a=some ⟨g,o,none⟩∧∀ j u,(p2 L)[j]? = some u→w.cell? ⟨g,o+j,none⟩=some u)
theorem SpV.at {w:World} {g o:Nat} {L:List (Int×Int)} (h:∀ j u,(p2 L)[j]? = some u→w.cell? ⟨g,o+j,none⟩=some u) {i:Nat} (hi:i<L.length) :
  w.cell? ⟨g,o+i*2,none⟩=some (U i6 (L.getD i (0,0)).1)∧w.cell? ⟨g,o+i*2+1,none⟩=some (U i6 (L.getD i (0,0)).2):=⟨h _ _ (p2_at L i hi).1,by rw [Nat.add_assoc];exact h _ _ (p2_at L i hi).2⟩
theorem SpV.below {w w':World} {v:Value} {L:List (Int×Int)} (h:SpV w v L) (q:Below w.heap.size w w'):SpV w' v L:=by
 obtain⟨a,cap,h1,h2,h3,h4⟩:=h
 refine⟨a,cap,h1,h2,h3,fun h0=>?_⟩
 obtain⟨g,o,e,hc⟩:=h4 h0
 exact⟨g,o,e,fun j u hj=>(q.cell (World.block_lt_of_cell? w _ (hc j u hj))).trans (hc j u hj)⟩
theorem OSp.sv {w:World} {base:Nat} {v:Value} {L:List (Int×Int)} (h:OSp w base v L):SpV w v L:=by
 rcases h.2 with ⟨rfl,q⟩ | ⟨g,cap,cur,rfl,h2,h3,h4,h5,h6,h7⟩
 ·obtain rfl:=List.eq_nil_of_length_eq_zero q
  exact⟨none,0,rfl,Nat.le_refl _,by unfold maxLen;omega,fun h=>by cases h⟩
 ·exact⟨_,_,rfl,h4,h5,fun _=>⟨g,0,rfl,fun j u hj=>by rw [Nat.zero_add,(cells_at h3).1];exact Cu2.get ⟨h6,h4,h7⟩ hj⟩⟩
theorem p2_drop:∀ (k:Nat) (L:List (Int×Int)),p2 (L.drop k)=(p2 L).drop (k*2)
 | 0,L=>by simp
 | k+1,[]=>by simp [p2]
 | k+1,x :: L=>by rw [List.drop_succ_cons,p2_drop k L,show (k+1)*2=k*2+1+1 by omega];simp [p2]
theorem p2_take:∀ (k:Nat) (L:List (Int×Int)),p2 (L.take k)=(p2 L).take (k*2)
 | 0,L=>by simp [p2]
 | k+1,[]=>by simp [p2]
 | k+1,x :: L=>by rw [show (k+1)*2=k*2+1+1 by omega];simp [p2,p2_take k L]
theorem Tryz.sizS:∀ W:World,(sizeOf 28).run Tryz.prog W=.ok 2 W:=fun _=>by kernel_rfl
theorem Tryz.elS:Tryz.prog.elem 59=28:=by kernel_rfl
theorem Tryz.unS:Tryz.prog.underlying 59=some (.slice (Tryz.prog.elem 59)):=by rw [Tryz.elS];exact Tryz.underlying59
def Nb (nb:Nat) (v:Value):Prop:=∀ a n c,v=.slice (some a) n c→nb≤a.block
theorem Nb.zero (v:Value):Nb 0 v:=fun _ _ _ _=>Nat.zero_le _
theorem Nb.mono {a b:Nat} {v:Value} (h:Nb a v) (k:b≤a):Nb b v:=fun x n c e=>Nat.le_trans k (h x n c e)
theorem OSp.nb {w:World} {base:Nat} {v:Value} {L:List (Int×Int)} (h:OSp w base v L):Nb base v:=fun a n c e=>by
 rcases h.2 with ⟨rfl,q⟩ | ⟨g,cap,cur,rfl,h2,h3,h4,h5,h6,h7⟩
 ·cases e
 ·cases e;exact h2
theorem SpV.set {w:World} {v u:Value} {L:List (Int×Int)} {nb B i:Nat} (h:SpV w v L) (hn:Nb nb v) (hB:B<nb):SpV (w.setCell ⟨B,i,none⟩ u) v L:=by
 obtain⟨a,cap,rfl,h2,h3,h4⟩:=h
 refine⟨a,cap,rfl,h2,h3,fun h0=>?_⟩
 obtain⟨g,o,rfl,hc⟩:=h4 h0
 have hg:nb≤g:=hn _ _ _ rfl
 exact⟨g,o,rfl,fun j u' hj=>(World.cell?_of_block (Below.heap_setCell _ _ _ _ (by show g≠B;omega))).trans (hc j u' hj)⟩
theorem SpV.from {w:World} {v:Value} {L:List (Int×Int)} (h:SpV w v L) {k:Nat} (hk:k<L.length) {K:Int} (hK:K=(k:Int)):∃ v',(∀ W,(Instr.sliceAt 59 v (some (U i6 K)) none none).run Tryz.prog W=.ok v' W)∧SpV w v' (L.drop k)∧∀ nb,Nb nb v→Nb nb v':=by
 subst hK
 obtain⟨a,cap,rfl,h2,h3,h4⟩:=h
 obtain⟨g,o,rfl,hc⟩:=h4 (by omega)
 refine⟨.slice (some ⟨g,o+k*2,none⟩) (L.length-k) (cap-k),fun W=>?_,⟨some ⟨g,o+k*2,none⟩,cap-k,by rw [List.length_drop],by rw [List.length_drop];omega,by omega,fun h0=>⟨g,o+k*2,rfl,fun j u hj=>?_⟩⟩,fun nb hn a n c e=>by cases e;exact hn ⟨g,o,none⟩ _ _ rfl⟩
 ·rw [run_sliceAt_slice (h:=Tryz.unS),run_slice_l (ht:=Tryz.unS) (h0:=by omega) (h1:=by omega),Tryz.elS,Tryz.sizS]
  simp only [Result.andThen,sliced,Int.toNat_natCast]
  rw [if_neg (by omega)]
  simp [Addr.add]
 ·rw [p2_drop,List.getElem?_drop] at hj
  rw [Nat.add_assoc]
  exact hc _ _ hj
theorem SpV.mid {w:World} {v:Value} {L:List (Int×Int)} (h:SpV w v L) {k m:Nat} (hk:k+m≤L.length) (hm:0<m) {K M:Int} (hK:K=(k:Int)) (hM:M=(k:Int)+(m:Int)):∃ v',(∀ W,(Instr.sliceAt 59 v (some (U i6 K)) (some (U i6 M)) (some (U i6 M))).run Tryz.prog W=.ok v' W)∧SpV w v' ((L.drop k).take m)∧∀ nb,Nb nb v→Nb nb v':=by
 subst hK hM
 obtain⟨a,cap,rfl,h2,h3,h4⟩:=h
 obtain⟨g,o,rfl,hc⟩:=h4 (by omega)
 have hl:((L.drop k).take m).length=m:=by rw [List.length_take,List.length_drop];omega
 refine⟨.slice (some ⟨g,o+k*2,none⟩) m m,fun W=>?_,⟨some ⟨g,o+k*2,none⟩,m,by rw [hl],by omega,by omega,fun h0=>⟨g,o+k*2,rfl,fun j u hj=>?_⟩⟩,fun nb hn a n c e=>by cases e;exact hn ⟨g,o,none⟩ _ _ rfl⟩
 ·rw [run_sliceAt_slice (h:=Tryz.unS),run_slice_lhm (ht:=Tryz.unS) (h0:=by omega) (h1:=by omega) (h2:=by omega) (h3:=by omega),Tryz.elS,Tryz.sizS]
  simp only [Result.andThen,sliced]
  rw [show ((k:Int)+(m:Int)).toNat=k+m by omega,Int.toNat_natCast,if_neg (by omega)]
  simp [Addr.add]
 ·have hj2:j<m*2:=by
   have:=(List.getElem?_eq_some_iff.1 hj).1
   rw [p2_len,hl] at this
   exact this
  rw [p2_take,List.getElem?_take,if_pos hj2,p2_drop,List.getElem?_drop] at hj
  rw [Nat.add_assoc]
  exact hc _ _ hj
theorem Tryz.infoS:(Tryz.prog.info? 28).map (fun i=>(i.zero,i.size,i.bytes))=some (some (.agg #[U i6 0,U i6 0]),2,16):=by kernel_rfl
theorem run_apS {w:World} (base:Nat) (v:Value) (L M:List (Int×Int)) (ty:TypeId) (hown:OSp w base v L) (x:Value) (hx:SpV w x M) (h0:0<M.length) (hlen:L.length+M.length≤1000000) (hbase:base≤w.heap.size) :
  ∃ v' w',(Builtin.append_ #[59,59] ty #[v,x]).run Tryz.prog w=.ok v' w'∧OSp w' base v' (L++M)∧w.grownBy w' v.ownBlock∧(v'.ownBlock=v.ownBlock∨v'.ownBlock=some w.heap.size):=by
 obtain⟨i0,hi,hz0,hz1,hz2⟩:=info_parts Tryz.infoS
 obtain⟨a,cap,rfl,-,-,h4⟩:=hx
 obtain⟨g,o,rfl,hc⟩:=h4 h0
 obtain⟨v',w',h1,h2,h3,-,h5⟩:=run_append_own_at (P:=Tryz.prog) w base 59 ty 28 i0 (.agg #[U i6 0,U i6 0]) 2 16 Tryz.underlying59 hi hz0 hz1 hz2 rfl (by decide) v L.length _ hown ⟨g,o,none⟩ M.length cap (p2 M) (p2_len M) (fun j u hj=>by rw [Addr.add_lit];exact hc j u hj) (p2_one M) (by unfold maxLen;omega) (by omega) hbase
 refine⟨v',w',h1,?_,h3,h5⟩
 unfold OSp
 rw [List.length_append,p2_app]
 exact h2
theorem wpList_apS {w:World} {ops:Array Oper} {rest:List Oper} {o:Oper} {a:Act} {Q:Exit→Act→World→Prop} (hgd:o.guard=none) (s x:Operand)
  (ho:o.op=.call { callee:=.builtin .append,args:=#[s,x],argTypes:=#[59,59] })
  (base:Nat) (v:Value) (L M:List (Int×Int)) (hs:a.eval s=v) (hown:OSp w base v L) (y:Value) (hx:a.eval x=y) (hy:SpV w y M) (h0:0<M.length) (hlen:L.length+M.length≤1000000) (hbase:base≤w.heap.size)
  (h:∀ v' w',OSp w' base v' (L++M)→w.grownBy w' v.ownBlock→(v'.ownBlock=v.ownBlock∨v'.ownBlock=some w.heap.size)→wpList Tryz.prog ops Q rest (a.put o.dst v') w'):wpList Tryz.prog ops Q (o :: rest) a w:=by
 obtain⟨v',w',h1,h2,h3,h4⟩:=run_apS base v L M o.type hown y hy h0 hlen hbase
 refine wpList_plain hgd fun K hK=>?_
 unfold Oper.wp
 simp [execOp,ho,resolve,invoke,builtin,hs,hx,h1,Result.andThen]
 exact hK _ _ (h v' w' h2 h3 h4)
theorem span_one (w:World) (p q:Int):SpV (w.alloc (.cells #[U i6 p,U i6 q] 28)) (.slice (some ⟨w.heap.size,0,none⟩) 1 1) [(p,q)] :=
 ⟨_,1,rfl,Nat.le_refl _,by unfold maxLen;omega,fun _=>⟨w.heap.size,0,rfl,fun j u hj=>by
  rw [Nat.zero_add,(cells_at (heap_alloc_new w (.cells #[U i6 p,U i6 q] 28))).1]
  simpa [p2] using hj⟩⟩
theorem OSp.grows {w0 w w':World} {base B:Nat} {v:Value} {L:List (Int×Int)} (h:OSp w base v L) (hb:Below B w0 w) (g:w.grownBy w' v.ownBlock) (hB:B≤base) (hw:B≤w.heap.size):Below B w0 w' :=
 hb.grown g hw fun b e=>Nat.le_trans hB (h.lt b e).1
theorem grown_setB (W:World) (b i:Nat) (v:Value):W.grownBy (W.setCell ⟨b,i,none⟩ v) (some b) :=
 ⟨rfl,rfl,rfl,by simp,fun k _ hne=>Below.heap_setCell _ _ _ _ (fun e=>hne (by rw [e]))⟩
theorem OSp.set {w:World} {base B i:Nat} {v u:Value} {L:List (Int×Int)} (h:OSp w base v L) (hB:B<base):OSp (w.setCell ⟨B,i,none⟩ u) base v L:=by
 refine World.ownsRow.kept h (grown_setB w B i u) ?_
 cases e:v.ownBlock with
 | none=>exact .inl rfl
 | some b=>exact .inr fun q=>by have:=(h.lt b e).1;cases q;omega
theorem wpList_mkS {w:World} {ops:Array Oper} {rest:List Oper} {o:Oper} {a:Act} {Q:Exit→Act→World→Prop} (hg:o.guard=none) (l:Operand) (hop:o.op=Op.makeSlice 59 l l)
  (n:Nat) (hl:a.eval l=U i6 (n:Int)) (hm:n≤1000000)
  (hK:∀ cur,(w.alloc (.cells cur 28)).heap[w.heap.size]? = some (.cells cur 28 (0,0))→Cu2 cur n []→wpList Tryz.prog ops Q rest (a.put o.dst (.slice (some ⟨w.heap.size,0,none⟩) n n)) (w.alloc (.cells cur 28))) :
  wpList Tryz.prog ops Q (o :: rest) a w:=by
 obtain⟨i0,hi,hz0,hz1,hz2⟩:=info_parts Tryz.infoS
 refine wpList_plain hg fun K hK'=>?_
 have hr:=run_make (P:=Tryz.prog) w 59 28 i0 (.agg #[U i6 0,U i6 0]) Tryz.underlying59 hi hz0 .i64 .i64 n n (by omega) (by omega) (by rw [hz2];omega) (by omega)
 simp only [Int.toNat_natCast,hz1] at hr
 unfold Oper.wp
 simp only [execOp,hop,hl]
 simp [Result.andThen,hr]
 exact hK' _ _ (hK _ (heap_alloc_new w _) ⟨by rw [size_madeCells],Nat.zero_le _,by simp [p2]⟩)
section
variable {P:Program} {ops:Array Oper} {md:Region.Mode} {C:World→Prop} {Q:Exit→Act→World→Prop} {fuel:Nat} {listed:Array Bool} {a:Act} {w:World} {o:Oper}
theorem yW (i:Nat) (hC:C w) (hr:Region.ready md ops listed=[i]) (ho:ops[i]? = some o) (hg:o.guard=none)
  (h:∀ K:Act→World→Prop,(∀ a w,wpAnyC Fence.wide 3 P md ops C Q fuel (listed.setIfInBounds i true) a w→K a w)→o.wp P a w K Q):wpAnyC Fence.wide 3 P md ops C Q (fuel+1) listed a w :=
 stepC i hC hr ho fun K hK=>step_wp hg (h K hK)
theorem yR (i:Nat) (hC:C w) (hr:Region.ready md ops listed=[i]) (ho:ops[i]? = some o) (hg:o.guard=none)
  (v:Value) (w':World) (hrun:(execOp a.eval o).run P w=.ok (.value v) w') (h:wpAnyC Fence.wide 3 P md ops C Q fuel (listed.setIfInBounds i true) (a.put o.dst v) w'):wpAnyC Fence.wide 3 P md ops C Q (fuel+1) listed a w :=
 yW i hC hr ho hg fun K hK=>by unfold Oper.wp;rw [hrun,Oper.upon_value];exact hK _ _ h
theorem yK (i:Nat) (hC:C w) (hr:Region.ready md ops listed=[i]) (ho:ops[i]? = some o) (hg:o.guard=none)
  (f:FuncId) (args:Array Value) (hrun:(execOp a.eval o).run P w=.ok (.enter f args) w) {R:Ending→World→Prop} (hcall:Calls P f args w R)
  (h:∀ e w',R e w'→∃ v,e=.returned v∧wpAnyC Fence.wide 3 P md ops C Q fuel (listed.setIfInBounds i true) (a.put o.dst v) w'):wpAnyC Fence.wide 3 P md ops C Q (fuel+1) listed a w :=
 yW i hC hr ho hg fun K hK=>by
  unfold Oper.wp
  rw [hrun]
  refine Calls.mono hcall fun e w' he=>?_
  obtain⟨v,rfl,hv⟩:=h e w' he
  exact hK _ _ hv
theorem yS (i:Nat) (hC:C w) (hr:Region.ready md ops listed=[i]) (ho:ops[i]? = some o) (hg:o.guard=none)
  (ty:TypeId) (x y:Operand) (hop:o.op=.store ty x y) (g:Nat) (cells:Array Value) (hx:a.eval x=.pointer (some ⟨g,0,none⟩)) (hy:a.eval y=.agg cells) (t:TypeId) (old:Array Value) (hh:w.heap[g]? = some (.cells old t (0,0))) (hi:(P.info? ty).map (·.size)=some cells.size) (hold:old.size=cells.size) (h1:cells.all (·.oneCell')=true)
  (h:wpAnyC Fence.wide 3 P md ops C Q fuel (listed.setIfInBounds i true) (a.put o.dst undef) (w.setRow g cells)):wpAnyC Fence.wide 3 P md ops C Q (fuel+1) listed a w :=
 yW i hC hr ho hg fun K hK=>wp_store_row ty x y hop g cells hx hy t old hh hi hold h1 (hK _ _ h)
theorem y2 (i j:Nat) (hC:C w) (hr:Region.ready md ops listed=[i,j])
  (h1:wpOpIn Fence.wide 3 P ops Q i (wpAnyC Fence.wide 3 P md ops C Q fuel (listed.setIfInBounds i true)) a w)
  (h2:wpOpIn Fence.wide 3 P ops Q j (wpAnyC Fence.wide 3 P md ops C Q fuel (listed.setIfInBounds j true)) a w):wpAnyC Fence.wide 3 P md ops C Q (fuel+1) listed a w :=
 ⟨hC,fun h0=>(by rw [hr] at h0;cases h0),fun k hk=>by
  rw [hr] at hk
  simp only [List.mem_cons,List.not_mem_nil,or_false] at hk
  rcases hk with rfl | rfl
  ·exact h1
  ·exact h2⟩
theorem yO {i:Nat} (ho:ops[i]? = some o) (hg:o.guard=none) (v:Value) (w':World) (hrun:(execOp a.eval o).run P w=.ok (.value v) w') {K:Act→World→Prop} (h:K (a.put o.dst v) w'):wpOpIn Fence.wide 3 P ops Q i K a w :=
 wpOpIn_step ho fun K' hK'=>step_wp hg (by unfold Oper.wp;rw [hrun,Oper.upon_value];exact hK' _ _ h)
end
open Go.ChangeShapes Go.WideShapes Go.ChangeAt Go.RowKit Go.Shelf
attribute [local go_sem] Oper.semAt_some
def Kept (l:List Nat) (W W':World):Prop:=∀ b∈l,∀ c t,W.heap[b]? = some (.cells c t (0,0))→W'.heap[b]? = some (.cells c t (0,0))
theorem Kept.refl (l:List Nat) (W:World):Kept l W W:=fun _ _ _ _ h=>h
theorem Kept.trans {l:List Nat} {A B C:World} (h:Kept l A B) (k:Kept l B C):Kept l A C:=fun b hb c t hc=>k b hb c t (h b hb c t hc)
theorem Kept.put {l:List Nat} (W:World) (i:Nat) (o o':Obj) (h:W.heap[i]? = some o) (ho:o.isCells=false):Kept l W (W.putObj i o'):=fun b _ _ _ hc=>by
 by_cases e:b=i
 ·subst e;rw [h] at hc;cases hc;cases ho
 ·rw [World.putObj_heap_other e];exact hc
theorem Kept.below {l:List Nat} {W W':World} (h:Below W.heap.size W W'):Kept l W W':=fun b _ _ _ hc=>(h.block b (lt_of_heap hc)).trans hc
theorem Kept.grown {l:List Nat} {W W':World} {g:Option Nat} (h:W.grownBy W' g) (hg:∀ b,g=some b→b ∉ l):Kept l W W':=fun b hb _ _ hc=>(h.block b (lt_of_heap hc) (fun e=>hg b e.symm hb)).trans hc
def Wn (W:World):Type:=Subtype fun w:World=>Below W.heap.size W w
def Wn.w {W:World} (n:Wn W):World:=n.1
theorem Wn.h {W:World} (n:Wn W):Below W.heap.size W n.w:=n.2
def Wn.mk {W:World} (w:World) (h:Below W.heap.size W w):Wn W:=Subtype.mk w h
theorem Wn.rule {W:World} {B:Nat} {c:Array Value} {t:TypeId} (h:W.heap[B]? = some (.cells c t (0,0))):∀ (n:Wn W) (i:Nat),n.w.cell? ⟨B,i,none⟩=c[i]?:=fun n i=>by
 have h0:n.w.heap[B]? = some (.cells c t (0,0)):=(n.h.block B (lt_of_heap h)).trans h
 simp [World.cell?,h0]
theorem wn_call {f:FuncId} {args:Array Value} {W:World} {n:Wn W} {m:Nat} {v:Value}
  (h:Calls Tryz.prog f args n.w fun e w'=>e=.returned v∧Below n.w.heap.size n.w w'):CallsIn Fence.wide m Tryz.prog f args n.w fun e w''=>e=.returned v∧∃ k:Wn W,w''=k.w :=
 callsIn_wide.2 (h.mono fun _ _ ⟨he,hb⟩=>⟨he,Wn.mk _ (n.h.trans (hb.mono n.h.size)),rfl⟩)
theorem grownBy_of_below {W W':World} (k:Below W.heap.size W W'):W.grownBy W' none:=⟨k.os,k.tape,k.output,k.size,fun i hi _=>k.block i hi⟩
theorem abides_below {β:Type} {B:Nat} {J:β→World→Prop} (hJ:AbidesFrom B J) {s:β} {W W':World} (h:J s W) (k:Below W.heap.size W W'):J s W' :=
 hJ s W W' none h (grownBy_of_below k) (fun r e=>by cases e)
theorem taps1_in (m:Nat) (l B1 B2 B3 B4 B5:Nat) (h w c kh kw sh sw tp lf bt rt t u:Int) (N:Nat) (J Jx:List (Int×Int)→World→Prop) (W:World)
  (hC:N=0∨Cor h w kh kw t u∧N=(kh*kw).toNat)
  (hJ:AbidesFrom W.heap.size J)
  (hY:∀ pre x W1,J pre W1→pre.length<N→YieldAt Fence.wide (m-1) Tryz.prog l #[U i6 x.1,U i6 x.2] W1 fun e W' =>
    (e=.returned (.bool true)∧J (pre++[x]) W'∧Kept [B2,B3,B4,B5] W1 W')∨(e=.returned (.bool false)∧Jx (pre++[x]) W'))
  (c1:W.heap[B1]? = some (.cells #[U i6 N] 3 (0,0))) (c2:W.heap[B2]? = some (.cells #[U i6 h,U i6 w,U i6 c] 23 (0,0))) (c3:W.heap[B3]? = some (.cells #[U i6 t] 3 (0,0)))
  (c4:W.heap[B4]? = some (.cells #[U i6 kh,U i6 kw,U i6 sh,U i6 sw,U i6 tp,U i6 lf,U i6 bt,U i6 rt] 36 (0,0))) (c5:W.heap[B5]? = some (.cells #[U i6 u] 3 (0,0))) (h0:J [] W) :
  CallsIn Fence.wide m Tryz.prog 87 #[.func (.yield l) #[] #[],.pointer (some ⟨B1,0,none⟩),.pointer (some ⟨B2,0,none⟩),.pointer (some ⟨B3,0,none⟩),.pointer (some ⟨B4,0,none⟩),.pointer (some ⟨B5,0,none⟩)] W fun e W'=>(∃ v,e=.returned v) ∧
   ((∃ ys,ys=tapL h w kw t u N∧J ys W')∨(∃ pre,(∃ k,k≤N∧pre=tapL h w kw t u k)∧Jx pre W')):=by
 have r1:W.cell? ⟨B1,0,none⟩=some (U i6 N):=by simp [World.cell?,c1]
 refine callsIn_of_wp Tryz.func87 rfl trivial ?_ rfl
 simp only [Tryz.ntmps87,List.size_toArray,List.length_cons,List.length_nil,Nat.reduceAdd,Nat.reduceSub,Array.replicate_succ,Array.replicate_zero,List.push_toArray,List.append_toArray,List.nil_append,List.cons_append]
 gi_wp2
 gi_loopw [9] (fun i wr=>∃ k:Nat,k≤N∧i=U i6 k∧J (tapL h w kw t u k) wr∧Kept [B2,B3,B4,B5] W wr)
  (fun i _=>N-(intOf i).toNat)
 case atStart=>exact⟨0,Nat.zero_le _,rfl,h0,Kept.refl _ _⟩
 case round =>
  obtain⟨k,hk,rfl,hJs,hkp⟩:=hrel
  by_cases hlt:k<N
  ·rcases hC with rfl | ⟨⟨h1,w1,q9,k1,k2,t1,u1⟩,hN⟩
   ·omega
   have d2:=hkp B2 (by simp) _ _ c2
   have d3:=hkp B3 (by simp) _ _ c3
   have d4:=hkp B4 (by simp) _ _ c4
   have d5:=hkp B5 (by simp) _ _ c5
   have e2:=Wn.rule d2
   have e3:=Wn.rule d3
   have e4:=Wn.rule d4
   have e5:=Wn.rule d5
   have p1:=Int.ediv_nonneg (show (0:Int)≤k by omega) (show 0≤kw by omega)
   have p3:=Int.mul_nonneg (show 0≤kh by omega) (show 0≤kw by omega)
   have p2:(k:Int) / kw<kh:=Int.ediv_lt_of_lt_mul (by omega) (by omega)
   have p4:=Int.emod_nonneg (k:Int) (show kw≠0 by omega)
   have p5:=Int.emod_lt_of_pos (k:Int) (show 0<kw by omega)
   have t6:=td (c:=kw) (show (0:Int)≤k by omega)
   have t7:=tm (c:=kw) (show (0:Int)≤k by omega)
   obtain⟨d,hd⟩:∃ d,(k:Int) / kw=d:=⟨_,rfl⟩
   obtain⟨e,he⟩:∃ e,(k:Int) % kw=e:=⟨_,rfl⟩
   have HT:Hid (tap h w kw t u k=((k:Int),plc h w (t+d) (u+e))):=by unfold Hid tap;rw [hd,he]
   rw [hd] at p1 p2 t6
   rw [he] at p4 p5 t7
   have kw0:¬ kw=0:=by omega
   have kN:N≤1024:=by
    have:=Int.mul_le_mul k1.2 k2.2 (by omega) (by omega)
    omega
   have HN:Hid (N=(kh*kw).toNat):=hN
   clear hd he hN p3
   have hfn:∀ f,Fence.wide.fn f:=fun _=>trivial
   have hdp:Fence.wide.depth=none:=rfl
   have hne:Nonempty (Wn wr):=⟨Wn.mk wr (Below.refl _ _)⟩
   gi_wp2
   refine region_tail_at 16 (C:=fun w'=>∃ n:Wn wr,w'=n.w) rfl rfl (by kernel_rfl) (by kernel_rfl) ⟨Wn.mk _ (Below.refl _ _).drew,rfl⟩ ?_
   simp only [List.take_succ_cons,List.take_zero,List.drop_succ_cons,List.drop_zero]
   repeat (gi_big_quiet_step (exact wn_call (place_any _ _ _ _ _ _ (by omega) (by omega) h1 w1)))
   refine wpQuietIn_nil ?_
   rintro _ ⟨n,rfl⟩
   obtain⟨fn,tmps,assign,body,hy,hR⟩:=hY (tapL h w kw t u k) (tap h w kw t u k) n.w (abides_below hJ hJs n.h) (by rw [tapL_len];exact hlt)
   rw [← tapL_succ] at hR
   rw [HT.out] at hy
   dsimp only at hy
   gi_wp2
   refine hR.mono ?_
   rintro e W3 (⟨rfl,hJ3,hk3⟩ | ⟨rfl,hJx3⟩)
   ·gi_wp2
    go_roundw
    case rel=>exact⟨k+1,by omega,by simp,hJ3,(hkp.trans (Kept.below n.h)).trans hk3⟩
    case measure=>simp [intOf];omega
   ·gi_wp2
    refine bodyPost_ret (results_none rfl _ _ _) rfl ?_
    exact⟨⟨_,rfl⟩,.inr ⟨_,⟨k+1,by omega,rfl⟩,hJx3⟩⟩
  ·obtain rfl:k=N:=by omega
   gi_wp2
   go_end0
   exact⟨⟨_,rfl⟩,.inl ⟨_,rfl,hJs⟩⟩
attribute [local go_sem] Oper.semAt_some
theorem spot_at {q y x:Nat} (hx:x<q):(((y*q+x:Nat):Int) / (q:Int),((y*q+x:Nat):Int) % (q:Int))=((y:Int),(x:Int)):=by
 have e1:((y*q+x:Nat):Int) / (q:Int)=y:=by
  rw [← Int.natCast_ediv]
  congr 1
  rw [Nat.mul_comm,Nat.mul_add_div (by omega),Nat.div_eq_of_lt hx,Nat.add_zero]
 have e2:((y*q+x:Nat):Int) % (q:Int)=x:=by
  rw [← Int.natCast_emod]
  congr 1
  rw [Nat.mul_comm,Nat.mul_add_mod,Nat.mod_eq_of_lt hx]
 rw [e1,e2]
theorem drewN_below (w:World) (n:Nat):Below w.heap.size w (w.drewN n):=below_drewN (Below.refl _ _) n
theorem coR_bad {h w c kh kw sh sw tp lf bt rt n e:Int} (he:ouR h w c kh kw sh sw tp lf bt rt=(0,0,e)) (h2:e≠0):coR h w c kh kw sh sw tp lf bt rt n=(0,0,e):=by unfold coR;rw [he,if_neg (by simpa using h2)]
theorem coR_out {h w c kh kw sh sw tp lf bt rt n r q:Int} (he:ouR h w c kh kw sh sw tp lf bt rt=(r,q,0)) (hn:¬ (0≤n∧n<r*q)):coR h w c kh kw sh sw tp lf bt rt n=(0,0,3):=by unfold coR;rw [he,if_pos rfl,if_neg hn]
theorem coR_in {h w c kh kw sh sw tp lf bt rt n r q:Int} (he:ouR h w c kh kw sh sw tp lf bt rt=(r,q,0)) (hn:0≤n∧n<r*q):coR h w c kh kw sh sw tp lf bt rt n=(n / q*sh-tp,n % q*sw-lf,0):=by unfold coR;rw [he,if_pos rfl,if_pos hn]
theorem corner_any (h w c kh kw sh sw tp lf bt rt n:Int) (W:World) :
  Calls Tryz.prog 86 #[.agg #[U i6 h,U i6 w,U i6 c],.agg #[U i6 kh,U i6 kw,U i6 sh,U i6 sw,U i6 tp,U i6 lf,U i6 bt,U i6 rt],U i6 n] W fun e w'=>e=.returned (.tuple #[U i6 (coR h w c kh kw sh sw tp lf bt rt n).1,U i6 (coR h w c kh kw sh sw tp lf bt rt n).2.1,U i6 (coR h w c kh kw sh sw tp lf bt rt n).2.2])∧Below W.heap.size W w':=by
 rcases ouR_cases h w c kh kw sh sw tp lf bt rt with ⟨e,he,h2⟩ | ⟨r,q,he,hf⟩
 ·rw [coR_bad he (by omega)]
  have HO:Hid (ouR h w c kh kw sh sw tp lf bt rt=(0,0,e)):=he
  clear he
  rcases h2 with rfl | rfl
  ·go_enter Tryz.func86,Tryz.ntmps86
   go_wp2_with fail
   refine (out_any _ _ _ _ _ _ _ _ _ _ _ _).mono ?_
   rintro e w1 ⟨rfl,hb'⟩
   have s1:=(St.start W).new.new.call hb'
   clear hb'
   try simp only [World.size_setCell] at s1
   try simp only [World.size_alloc] at s1
   obtain⟨c1,f1,zw1_1,c2,f2,zw1_2,-⟩:=s1.rules
   rw [HO.out]
   go_wp2
   go_ret3
   exact⟨rfl,s1.below⟩
  ·go_enter Tryz.func86,Tryz.ntmps86
   go_wp2_with fail
   refine (out_any _ _ _ _ _ _ _ _ _ _ _ _).mono ?_
   rintro e w1 ⟨rfl,hb'⟩
   have s1:=(St.start W).new.new.call hb'
   clear hb'
   try simp only [World.size_setCell] at s1
   try simp only [World.size_alloc] at s1
   obtain⟨c1,f1,zw1_1,c2,f2,zw1_2,-⟩:=s1.rules
   rw [HO.out]
   go_wp2
   go_ret3
   exact⟨rfl,s1.below⟩
 ·obtain⟨⟨h1,v1,q9⟩,⟨k1,k2,k3,k4,k5,k6,k7,k8⟩,r1,q1,z1,z2⟩:=hf
  obtain⟨m1,m2⟩:=mul_bd r1.1 r1.2 q1.1 q1.2
  have HO:Hid (ouR h w c kh kw sh sw tp lf bt rt=(r,q,0)):=he
  clear he z1 z2 q9
  obtain⟨m,hm⟩:∃ m,r*q=m:=⟨_,rfl⟩
  have HM:Hid (r*q=m):=hm
  rw [hm] at m1 m2
  by_cases n1:n<0
  ·rw [coR_out HO.out (by omega)]
   clear hm
   go_enter Tryz.func86,Tryz.ntmps86
   go_wp2_with fail
   refine (out_any _ _ _ _ _ _ _ _ _ _ _ _).mono ?_
   rintro e w1 ⟨rfl,hb'⟩
   have s1:=(St.start W).new.new.call hb'
   clear hb'
   try simp only [World.size_setCell] at s1
   try simp only [World.size_alloc] at s1
   obtain⟨c1,f1,zw1_1,c2,f2,zw1_2,-⟩:=s1.rules
   rw [HO.out]
   go_wp2
   go_ret3
   exact⟨rfl,s1.below⟩
  by_cases n2:m≤n
  ·rw [coR_out HO.out (by omega)]
   go_enter Tryz.func86,Tryz.ntmps86
   go_wp2_with fail
   refine (out_any _ _ _ _ _ _ _ _ _ _ _ _).mono ?_
   rintro e w1 ⟨rfl,hb'⟩
   have s1:=(St.start W).new.new.call hb'
   clear hb'
   try simp only [World.size_setCell] at s1
   try simp only [World.size_alloc] at s1
   obtain⟨c1,f1,zw1_1,c2,f2,zw1_2,-⟩:=s1.rules
   rw [HO.out]
   go_wp2
   go_ret3
   exact⟨rfl,s1.below⟩
  rw [coR_in HO.out (by omega)]
  have a1:=Int.ediv_nonneg (show 0≤n by omega) (show 0≤q by omega)
  have a2:n / q<r:=Int.ediv_lt_of_lt_mul (by omega) (by omega)
  have b1:=Int.emod_nonneg n (show q≠0 by omega)
  have b2:=Int.emod_lt_of_pos n (show 0<q by omega)
  have t1:=td (c:=q) (show 0≤n by omega)
  have t2:=tm (c:=q) (show 0≤n by omega)
  obtain⟨d,hd⟩:∃ d,n / q=d:=⟨_,rfl⟩
  obtain⟨u,hu⟩:∃ u,n % q=u:=⟨_,rfl⟩
  rw [hd] at a1 a2 t1
  rw [hu] at b1 b2 t2
  rw [hd,hu]
  clear hd hu
  have c1:=Int.mul_le_mul (show d≤1200 by omega) k3.2 (by omega) (by omega)
  have c2:=Int.mul_le_mul (show u≤1200 by omega) k4.2 (by omega) (by omega)
  have c3:=Int.mul_nonneg a1 (show 0≤sh by omega)
  have c4:=Int.mul_nonneg b1 (show 0≤sw by omega)
  obtain⟨p,hp⟩:∃ p,d*sh=p:=⟨_,rfl⟩
  obtain⟨v,hv⟩:∃ v,u*sw=v:=⟨_,rfl⟩
  rw [hp] at c1 c3
  rw [hv] at c2 c4
  rw [hp,hv]
  have q0:¬ q=0:=by omega
  go_enter Tryz.func86,Tryz.ntmps86
  go_wp2_with fail
  refine (out_any _ _ _ _ _ _ _ _ _ _ _ _).mono ?_
  rintro e w1 ⟨rfl,hb'⟩
  have s1:=(St.start W).new.new.call hb'
  clear hb'
  try simp only [World.size_setCell] at s1
  try simp only [World.size_alloc] at s1
  obtain⟨c1,f1,zw1_1,c2,f2,zw1_2,-⟩:=s1.rules
  rw [HO.out]
  go_wp2
  go_quiet (fail)
  go_wp2
  go_ret3
  exact⟨rfl,s1.below.trans ((drewN_below _ _).mono s1.below.size)⟩
def Mid (lo hi:Nat) (W W':World):Prop:=∀ b,lo≤b→b<hi→∀ c t,W.heap[b]? = some (.cells c t (0,0))→W'.heap[b]? = some (.cells c t (0,0))
theorem Mid.refl (lo hi:Nat) (W:World):Mid lo hi W W:=fun _ _ _ _ _ h=>h
theorem Mid.trans {lo hi:Nat} {A B C:World} (h:Mid lo hi A B) (k:Mid lo hi B C):Mid lo hi A C:=fun b h1 h2 c t hc=>k b h1 h2 c t (h b h1 h2 c t hc)
theorem Mid.put {lo hi:Nat} (W:World) (i:Nat) (o o':Obj) (h:W.heap[i]? = some o) (ho:o.isCells=false):Mid lo hi W (W.putObj i o'):=fun b _ _ _ _ hc=>by
 by_cases e:b=i
 ·subst e;rw [h] at hc;cases hc;cases ho
 ·rw [World.putObj_heap_other e];exact hc
theorem Mid.below {lo hi n:Nat} {W W':World} (h:Below n W W') (hn:hi≤n):Mid lo hi W W':=fun b _ h2 _ _ hc=>(h.block b (by omega)).trans hc
theorem Mid.later {lo hi:Nat} {W W':World} (h:Below W.heap.size W W'):Mid lo hi W W':=fun b _ _ _ _ hc=>(h.block b (lt_of_heap hc)).trans hc
theorem Mid.grown {lo hi:Nat} {W W':World} {g:Option Nat} (h:W.grownBy W' g) (hg:∀ b,g=some b→b<lo∨hi≤b):Mid lo hi W W':=fun b h1 h2 _ _ hc=>(h.block b (lt_of_heap hc) (fun e=>by have:=hg b e.symm;omega)).trans hc
theorem Mid.set {lo hi:Nat} (W:World) {B i:Nat} {v:Value} (hB:B<lo∨hi≤B):Mid lo hi W (W.setCell ⟨B,i,none⟩ v):=fun b h1 h2 _ _ hc=>by
 rw [Below.heap_setCell _ _ _ _ (by show b≠B;omega)];exact hc
theorem Mid.kept {lo hi:Nat} {l:List Nat} {W W':World} (h:Mid lo hi W W') (hl:∀ b∈l,lo≤b∧b<hi):Kept l W W':=fun b hb c t hc=>h b (hl b hb).1 (hl b hb).2 c t hc
def It (lo hi:Nat) (w:World) (v:Value) (ys:List (Int×Int)):Prop :=
 ∃ g lb,v=.func (.func g) #[] lb∧(∀ args w,(callFunc g args).run Tryz.prog w=.ok (.enter g args) w) ∧
  ∀ w' m,Mid lo hi w w'→SeqStopsK Fence.wide m Tryz.prog g lb (fun x:Int×Int=>#[Value.int .i64 x.1,Value.int .i64 x.2]) (Mid lo hi) (fun zs=>zs=ys) (fun pre=>∃ k,k≤ys.length∧pre=ys.take k) ys.length w'
theorem It.mid {lo hi:Nat} {w w':World} {v:Value} {ys:List (Int×Int)} (h:It lo hi w v ys) (k:Mid lo hi w w'):It lo hi w' v ys:=by
 obtain⟨g,lb,h1,h2,h3⟩:=h
 exact⟨g,lb,h1,h2,fun w'' m k'=>h3 w'' m (k.trans k')⟩
theorem It.later {lo hi:Nat} {w w':World} {v:Value} {ys:List (Int×Int)} (h:It lo hi w v ys) (k:Below w.heap.size w w'):It lo hi w' v ys:=h.mid (Mid.later k)
theorem cell_of {lo hi:Nat} {w w' W:World} {b:Nat} {c:Array Value} {t:TypeId} (h:w.heap[b]? = some (.cells c t (0,0))) (h1:lo≤b) (h2:b<hi) (k:Mid lo hi w w') (hW:Below w'.heap.size w' W):W.heap[b]? = some (.cells c t (0,0)) :=
 Mid.later (lo:=lo) (hi:=hi) hW b h1 h2 c t (k b h1 h2 c t h)
theorem it_taps {lo hi:Nat} {w0:World} {B1 B2 B3 B4 B5:Nat} {h w c kh kw sh sw tp lf bt rt t u:Int} {N:Nat} (hC:N=0∨Cor h w kh kw t u∧N=(kh*kw).toNat)
  (c1:w0.heap[B1]? = some (.cells #[U i6 N] 3 (0,0))) (c2:w0.heap[B2]? = some (.cells #[U i6 h,U i6 w,U i6 c] 23 (0,0))) (c3:w0.heap[B3]? = some (.cells #[U i6 t] 3 (0,0)))
  (c4:w0.heap[B4]? = some (.cells #[U i6 kh,U i6 kw,U i6 sh,U i6 sw,U i6 tp,U i6 lf,U i6 bt,U i6 rt] 36 (0,0))) (c5:w0.heap[B5]? = some (.cells #[U i6 u] 3 (0,0))) (hb:∀ b∈[B1,B2,B3,B4,B5],lo≤b∧b<hi) :
  It lo hi w0 (.func (.func 87) #[] #[.pointer (some ⟨B1,0,none⟩),.pointer (some ⟨B2,0,none⟩),.pointer (some ⟨B3,0,none⟩),.pointer (some ⟨B4,0,none⟩),.pointer (some ⟨B5,0,none⟩)]) (tapL h w kw t u N):=by
 refine⟨_,_,rfl,enters_of Tryz.func87 (by kernel_rfl) rfl,fun w' m k l J Jx W hW hJ hJx hY h0=>?_⟩
 have b1:=hb B1 (by simp)
 have b2:=hb B2 (by simp)
 have b3:=hb B3 (by simp)
 have b4:=hb B4 (by simp)
 have b5:=hb B5 (by simp)
 rw [tapL_len] at hY
 refine (taps1_in m l B1 B2 B3 B4 B5 h w c kh kw sh sw tp lf bt rt t u N J Jx W hC hJ (fun pre x W1 hj hl=>YieldAt.mono (hY pre x W1 hj hl) ?_)
  (cell_of c1 b1.1 b1.2 k hW) (cell_of c2 b2.1 b2.2 k hW) (cell_of c3 b3.1 b3.2 k hW) (cell_of c4 b4.1 b4.2 k hW) (cell_of c5 b5.1 b5.2 k hW) h0).mono ?_
 ·rintro e W' (⟨h1,h2,h3⟩ | h1)
  ·exact .inl ⟨h1,h2,h3.kept fun b hb'=>hb b (List.mem_cons_of_mem _ hb')⟩
  ·exact .inr h1
 ·rintro e W' ⟨he,⟨ys,rfl,hj⟩ | ⟨pre,⟨j,hj1,rfl⟩,hj⟩⟩
  ·exact⟨he,.inl ⟨_,rfl,hj⟩⟩
  ·exact⟨he,.inr ⟨_,⟨j,by rw [tapL_len];exact hj1,tapL_take _ _ _ _ _ hj1⟩,hj⟩⟩
def Heaps (w:World):List (Nat×Array Value×TypeId)→Prop
 | []=>True
 | (B,c,t) :: l=>w.heap[B]? = some (.cells c t)∧Heaps w l
theorem heaps_of {w:World}:∀ (l:List (Nat×Array Value×TypeId)),(∀ x∈l,w.heap[x.1]? = some (.cells x.2.1 x.2.2))→Heaps w l
 | [],_=>trivial
 | (_,_,_) :: l,h=>⟨h _ List.mem_cons_self,heaps_of l fun x hx=>h x (List.mem_cons_of_mem _ hx)⟩
theorem St.heaps {w0 w:World} {l:List (Nat×Array Value×TypeId)} (h:St w0 w l):Heaps w l:=heaps_of l fun x hx=>(h.2 x hx).1
theorem tapsOf_no {h w c kh kw sh sw tp lf bt rt n e:Int} (he:coR h w c kh kw sh sw tp lf bt rt n=(0,0,e)) (h2:e≠0):tapsOf h w c kh kw sh sw tp lf bt rt n=[]:=by unfold tapsOf;rw [he,if_neg (by simpa using h2)]
theorem tapsOf_ok {h w c kh kw sh sw tp lf bt rt n t u:Int} (he:coR h w c kh kw sh sw tp lf bt rt n=(t,u,0)):tapsOf h w c kh kw sh sw tp lf bt rt n=tapL h w kw t u (kh*kw).toNat:=by unfold tapsOf;rw [he,if_pos rfl]
theorem taps_any (h w c kh kw sh sw tp lf bt rt n:Int) (W:World) :
  Calls Tryz.prog 71 #[.agg #[U i6 h,U i6 w,U i6 c],.agg #[U i6 kh,U i6 kw,U i6 sh,U i6 sw,U i6 tp,U i6 lf,U i6 bt,U i6 rt],U i6 n] W fun e w'=>(∃ g lb,e=.returned (.func (.func g) #[] lb)∧It W.heap.size w'.heap.size w' (.func (.func g) #[] lb) (tapsOf h w c kh kw sh sw tp lf bt rt n))∧Below W.heap.size W w':=by
 have hmf:∀ (fn:Fn) (first cap:Array Value) (w:World),(Instr.makeFunc fn first cap).run Tryz.prog w=.ok (.func fn first cap) w:=fun _ _ _ _=>rfl
 rcases coR_cases h w c kh kw sh sw tp lf bt rt n with ⟨e,he,h2⟩ | ⟨r,q,he,hf,hn,hc⟩
 ·rw [tapsOf_no he (by omega)]
  have HC:Hid (coR h w c kh kw sh sw tp lf bt rt n=(0,0,e)):=he
  have z1:(e == 0)=false:=by simp;omega
  clear he
  go_enter Tryz.func71,Tryz.ntmps71
  go_wp2_with fail
  refine (corner_any _ _ _ _ _ _ _ _ _ _ _ _ _).mono ?_
  rintro e w1 ⟨rfl,hb'⟩
  have s1:=(St.start W).new.new.call hb'
  clear hb'
  try simp only [World.size_setCell] at s1
  try simp only [World.size_alloc] at s1
  obtain⟨c1,f1,zw1_1,c2,f2,zw1_2,-⟩:=s1.rules
  rw [HC.out]
  go_wp2
  have s2:=(s1.new (c:=#[U i6 0]) (t:=3)).new (c:=#[U i6 0]) (t:=3) |>.new (c:=#[U i6 0]) (t:=3)
  simp only [World.size_alloc] at s2
  go_ret
  refine⟨⟨_,_,rfl,?_⟩,s2.below⟩
  obtain⟨a1,a2,a3,a4,a5,-⟩:=s2.heaps
  exact it_taps (N:=0) (.inl rfl) a1 a5 a3 a4 a2 (fun b hb=>by have:=s1.size;simp at hb ⊢;omega)
 ·rw [tapsOf_ok hc]
  have HC:Hid (coR h w c kh kw sh sw tp lf bt rt n=(n / q*sh-tp,n % q*sw-lf,0)):=hc
  have hcor:=cor_of hf hn
  have HN:Hid (Cor h w kh kw (n / q*sh-tp) (n % q*sw-lf)):=hcor
  have k1:=hcor.2.2.2.1
  have k2:=hcor.2.2.2.2.1
  clear he hf hn hc hcor
  obtain⟨t,ht⟩:∃ t,n / q*sh-tp=t:=⟨_,rfl⟩
  obtain⟨u,hu⟩:∃ u,n % q*sw-lf=u:=⟨_,rfl⟩
  rw [ht,hu] at HC HN
  rw [ht,hu]
  clear ht hu
  obtain⟨p1,p2⟩:=mul_bd k1.1 k1.2 k2.1 k2.2
  obtain⟨p,hp⟩:∃ p,kh*kw=p:=⟨_,rfl⟩
  have HP:Hid (kh*kw=p):=hp
  rw [hp] at p1 p2
  go_enter Tryz.func71,Tryz.ntmps71
  go_wp2_with fail
  refine (corner_any _ _ _ _ _ _ _ _ _ _ _ _ _).mono ?_
  rintro e w1 ⟨rfl,hb'⟩
  have s1:=(St.start W).new.new.call hb'
  clear hb'
  try simp only [World.size_setCell] at s1
  try simp only [World.size_alloc] at s1
  obtain⟨c1,f1,zw1_1,c2,f2,zw1_2,-⟩:=s1.rules
  rw [HC.out]
  go_wp2
  have e:p=((kh*kw).toNat:Int):=by rw [HP.out];omega
  have s2:=(s1.new (c:=#[U i6 t]) (t:=3)).new (c:=#[U i6 u]) (t:=3) |>.new (c:=#[U i6 p]) (t:=3)
  simp only [World.size_alloc] at s2
  go_ret
  refine⟨⟨_,_,rfl,?_⟩,s2.below⟩
  obtain⟨a1,a2,a3,a4,a5,-⟩:=s2.heaps
  exact it_taps (.inr ⟨HN.out,rfl⟩) (by rw [← e];exact a1) a5 a3 a4 a2 (fun b hb=>by have:=s1.size;simp at hb ⊢;omega)
end Go.Proofs.YtccoanknofhmaaaGreat
namespace Go.Proofs.YtccoanknofhmaaaGreat.Nx
open Go.Value renaming int → U, slice → Sl
open Go.IntKind renaming i64 → i6
set_option maxRecDepth 100000
set_option maxHeartbeats 16000000
open Go.ChangeShapes Go.WideShapes Go.ChangeAt Go.RowKit
def Row (w:World) (a:Option Addr) (len cap:Nat) (zs:List Int):Prop :=
 zs.length=len∧len≤cap∧cap≤maxLen∧(a=none→cap=0)∧∀ x,a=some x→∀ i,i<len→w.cell? (x.add i)=some (U i6 (zs.getD i 0))
theorem Row.mono {w w':World} {a:Option Addr} {len cap:Nat} {zs:List Int} (h:Row w a len cap zs) (k:∀ x v,w.cell? x=some (U i6 v)→w'.cell? x=some (U i6 v)):Row w' a len cap zs :=
 ⟨h.1,h.2.1,h.2.2.1,h.2.2.2.1,fun x hx i hi=>k _ _ (h.2.2.2.2 x hx i hi)⟩
theorem Row.below {w w':World} {a:Option Addr} {len cap:Nat} {zs:List Int} (h:Row w a len cap zs) (k:Below w.heap.size w w'):Row w' a len cap zs :=
 h.mono fun x _ hx=>(k.cell (World.block_lt_of_cell? w x hx)).trans hx
def Own (w:World) (base:Nat) (v:Value) (zs:List Int):Prop:=w.ownsRow base 3 1 v zs.length (zs.map (Value.int .i64))
theorem Own.shape {w:World} {base:Nat} {v:Value} {zs:List Int} (h:Own w base v zs) :
  (v=.slice none 0 0∧zs=[])∨∃ g cap,v=.slice (some ⟨g,0,none⟩) zs.length cap∧base≤g∧g<w.heap.size∧zs.length≤cap∧cap≤maxLen ∧
    (∀ i,i<zs.length→w.cell? ⟨g,i,none⟩=some (U i6 (zs.getD i 0)))∧∀ i,w.frozen? ⟨g,i,none⟩=false:=by
 obtain⟨h1,h2⟩:=h
 rcases h2 with ⟨rfl,h0⟩ | ⟨g,cap,cur,rfl,hg,hh,hn,hm,hs,ht⟩
 ·exact .inl ⟨rfl,List.eq_nil_of_length_eq_zero h0⟩
 ·refine .inr ⟨g,cap,rfl,hg,lt_of_heap hh,hn,hm,fun i hi=>?_,fun i=>?_⟩
  ·have hc:cur[i]? = some (U i6 (zs.getD i 0)):=by
    have:(cur.toList.take (zs.length*1))[i]? = some (U i6 (zs.getD i 0)):=by rw [ht];simp [List.getD,hi]
    rw [List.getElem?_take,if_pos (by omega)] at this
    simpa using this
   simp [World.cell?,hh,hc]
  ·simp only [World.frozen?,hh];simp
theorem Own.row {w:World} {base:Nat} {v:Value} {zs:List Int} (h:Own w base v zs):∃ a cap,v=.slice a zs.length cap∧Row w a zs.length cap zs∧∀ x,a=some x→base≤x.block∧x.block<w.heap.size:=by
 rcases h.shape with ⟨rfl,rfl⟩ | ⟨g,cap,rfl,hg,hlt,hn,hm,hc,_⟩
 ·exact⟨none,0,rfl,⟨rfl,by simp,by simp,fun _=>rfl,fun x hx=>by cases hx⟩,fun x hx=>by cases hx⟩
 ·refine⟨some ⟨g,0,none⟩,cap,rfl,⟨rfl,hn,hm,fun h=>(by cases h),fun x hx i hi=>?_⟩,fun x hx=>?_⟩
  ·cases hx;rw [Addr.add_lit,Nat.zero_add];exact hc i hi
  ·cases hx;exact⟨hg,hlt⟩
theorem Own.block {w:World} {base:Nat} {v:Value} {zs:List Int} (h:Own w base v zs) {b:Nat} (hb:v.ownBlock=some b):base≤b:=by
 rcases h.shape with ⟨rfl,_⟩ | ⟨g,cap,rfl,hg,_⟩
 ·simp [Value.ownBlock] at hb
 ·obtain rfl:g=b:=by simpa [Value.ownBlock] using hb
  exact hg
theorem Own.below {w w':World} {base:Nat} {v:Value} {zs:List Int} (h:Own w base v zs) (k:Below w.heap.size w w'):Own w' base v zs:=by
 refine World.ownsRow.kept (row:=none) h ⟨k.os,k.tape,k.output,k.size,fun i hi _=>k.block i hi⟩ ?_
 rcases h.shape with ⟨rfl,_⟩ | ⟨g,cap,rfl,_⟩
 ·exact .inl rfl
 ·exact .inr (by simp [Value.ownBlock])
theorem Own.base {w:World} {b c:Nat} {v:Value} {zs:List Int} (h:Own w b v zs) (k:c≤b):Own w c v zs:=by
 refine⟨h.1,?_⟩
 rcases h.2 with h | ⟨g,cap,cur,h1,h2,h3⟩
 ·exact .inl h
 ·exact .inr ⟨g,cap,cur,h1,Nat.le_trans k h2,h3⟩
theorem own_none (w:World) (base:Nat):Own w base (.slice none 0 0) []:=World.ownsRow_nil _ _ _ _
theorem Tryz.infoI:(Tryz.prog.info? 3).map (fun i=>(i.zero,i.size,i.bytes))=some (some (U i6 0),1,8):=by kernel_rfl
theorem wpList_app {w:World} {ops:Array Oper} {rest:List Oper} {o:Oper} {a:Act} {Q:Exit→Act→World→Prop} (hgd:o.guard=none) (s x:Operand)
  (ho:o.op=.call { callee:=.builtin .append,args:=#[s,x],argTypes:=#[115,115] })
  (base:Nat) (v:Value) (xs ys:List Int) (hs:a.eval s=v) (hown:Own w base v xs) (ad:Addr) (m c:Nat) (hx:a.eval x=.slice (some ad) m c) (hy:Row w (some ad) m c ys)
  (hlen:xs.length+ys.length≤10000000) (hbase:base≤w.heap.size)
  (h:∀ v' w',Own w' base v' (xs++ys)→w.grownBy w' v.ownBlock→wpList Tryz.prog ops Q rest (a.put o.dst v') w'):wpList Tryz.prog ops Q (o :: rest) a w:=by
 obtain⟨i0,hi,hz0,hz1,hz2⟩:=info_parts Tryz.infoI
 obtain⟨hl,hc,hm,hn,hcell⟩:=hy
 refine wpList_append_own _ hgd s x _ ho base 3 i0 (U i6 0) 1 8 Tryz.underlying115 hi hz0 hz1 hz2 rfl (by decide) v xs.length _ hs hown ad m c (ys.map (Value.int .i64)) hx (by simp [hl]) ?_ (ints_oneCell _ _) ?_ (by omega) hbase ?_
 ·intro j u hj
  have hj':j<m:=by
   have:=(List.getElem?_eq_some_iff.1 hj).1
   simpa [hl] using this
  rw [hcell ad rfl j hj']
  simp [List.getD,show j<ys.length by omega] at hj ⊢
  exact hj
 ·unfold maxLen;omega
 ·intro v' w' h1 h2 h3
  refine h v' w' ?_ h2
  unfold Own
  rw [List.length_append,hl,List.map_append]
  exact h1
theorem row_one (w:World) (z:Int):Row (w.alloc (.cells #[U i6 z] 3)) (some ⟨w.heap.size,0,none⟩) 1 1 [z]:=by
 refine⟨rfl,Nat.le_refl _,by unfold maxLen;omega,fun h=>(by cases h),fun x hx i hi=>?_⟩
 cases hx
 obtain rfl:i=0:=by omega
 simp [Addr.add]
theorem Own.alloc {w:World} {base:Nat} {v:Value} {zs:List Int} (h:Own w base v zs) (o:Obj):Own (w.alloc o) base v zs:=h.below ((Below.refl _ _).alloc (Nat.le_refl _) _)
open Go.ChangeShapes Go.WideShapes Go.ChangeAt Go.RowKit Go.Shelf
attribute [local go_sem] Oper.semAt_some
def flat (l:List (Int×Int)):List Int:=l.flatMap fun p=>[p.1,p.2]
theorem tapsOf_len (h w c kh kw sh sw tp lf bt rt n:Int):(tapsOf h w c kh kw sh sw tp lf bt rt n).length≤1024:=by
 rcases coR_cases h w c kh kw sh sw tp lf bt rt n with ⟨e,he,h2⟩ | ⟨r,q,he,hf,hn,hc⟩
 ·rw [tapsOf_no he (by omega)];simp
 ·rw [tapsOf_ok hc,tapL_len]
  obtain⟨-,⟨k1,k2,-⟩,-⟩:=hf
  have:=Int.mul_le_mul k1.2 k2.2 (by omega) (by omega)
  omega
end Go.Proofs.YtccoanknofhmaaaGreat.Nx
namespace Go.Proofs.YtccoanknofhmaaaGreat
open Go.Value renaming int → U, slice → Sl
open Go.IntKind renaming i64 → i6
set_option maxRecDepth 100000
set_option maxHeartbeats 16000000
open Go.ChangeShapes Go.WideShapes Go.ChangeAt Go.RowKit Go.Shelf
set_option linter.unusedVariables false
section
variable {F:Fence} {n l:Nat} {P:Program} {ops:Array Oper} {md:Region.Mode} {Q:Exit→Act→World→Prop}
def noDefer (ops:Array Oper):Bool:=ops.toList.all fun o=>match o.op with | .defer _=>false | _=>true
theorem noDefer_at (h:noDefer ops=true) {i:Nat} {o:Oper} (ho:ops[i]? = some o):∀ c,o.op≠.defer c:=by
 intro c e
 have:=List.all_eq_true.1 h o (Array.mem_toList_iff.2 (Array.mem_of_getElem? ho))
 rw [e] at this
 cases this
theorem op_round (h:noDefer ops=true) (hro:F.round=none) {i:Nat} {K K':Act→World→Prop} {a:Act} {w:World} (hK:∀ a w,K a w→K' a w) (g:wpOpIn F n P ops Q i K a w):wpOpIn (F.inRound l) n P ops Q i K' a w:=by
 refine wpOpIn_mono hK ?_
 unfold wpOpIn at g ⊢
 cases ho:ops[i]? with
 | none=>rw [ho] at g;exact g
 | some o =>
  rw [ho] at g
  simp only at g ⊢
  split at g
  ·rename_i hw
   rw [if_pos hw]
   unfold Oper.wpIn at g ⊢
   rw [Oper.semAt_eq _ _ _ (noDefer_at h ho)] at g ⊢
   exact g
  ·rename_i hw
   rw [if_neg hw]
   exact g
theorem any_round (h:noDefer ops=true) (hro:F.round=none):∀ (fuel:Nat) (listed:Array Bool) (a:Act) (w:World),wpAnyIn F n P md ops Q fuel listed a w→wpAnyIn (F.inRound l) n P md ops Q fuel listed a w
 | 0,_,_,_,g=>g
 | fuel+1,_,_,_,g=>⟨g.1,fun i hi=>op_round h hro (fun a w=>any_round h hro fuel _ a w) (g.2 i hi)⟩
theorem region_round {id:Nat} {a:Act} {w:World} (h:noDefer ops=true) (hro:F.round=none) (hm:P.follows .mixedOrders=true) (g:wpAnyIn F n P .any ops Q ops.size (Array.replicate ops.size false) a w.drew):(Code.region id ops true).wpIn (F.inRound l) n P Q a w :=
 wpIn_region_any hm (any_round h hro _ _ _ _ g)
end
def Kps (n0:Nat) (bs:List Nat) (A B:World):Prop:=Below n0 A B∧Kept bs A B
theorem Kps.trans {n0:Nat} {bs:List Nat} {A B C:World} (h:Kps n0 bs A B) (k:Kps n0 bs B C):Kps n0 bs A C:=⟨h.1.trans k.1,h.2.trans k.2⟩
theorem Kps.put {n0:Nat} {bs:List Nat} {W:World} {l:Nat} {o:Obj} (o':Obj) (hl:W.heap[l]? = some o) (ho:o.isCells=false) (hn:n0≤l):Kps n0 bs W (W.putObj l o') :=
 ⟨(Below.refl n0 W).grown (grownBy_putObj' W l o') (Nat.le_trans hn (Nat.le_of_lt (lt_of_heap hl))) (fun r e=>by cases e;exact hn),Kept.put W l o o' hl ho⟩
theorem Kps.of {n0:Nat} {bs:List Nat} {A B:World} (h:Below A.heap.size A B) (hn:n0≤A.heap.size):Kps n0 bs A B:=⟨h.mono hn,Kept.below h⟩
def Tch (b:Nat) (w w':World):Prop:=w'.os=w.os∧w'.tape=w.tape∧w'.output=w.output∧w.heap.size≤w'.heap.size∧∀ i,i<w.heap.size→i≠b→w'.heap[i]? = w.heap[i]?
theorem Tch.refl (b:Nat) (w:World):Tch b w w:=⟨rfl,rfl,rfl,Nat.le_refl _,fun _ _ _=>rfl⟩
theorem Tch.trans {b:Nat} {w w1 w2:World} (h:Tch b w w1) (k:Tch b w1 w2):Tch b w w2 :=
 ⟨k.1.trans h.1,k.2.1.trans h.2.1,k.2.2.1.trans h.2.2.1,Nat.le_trans h.2.2.2.1 k.2.2.2.1,fun i hi h1=>(k.2.2.2.2 i (Nat.lt_of_lt_of_le hi h.2.2.2.1) h1).trans (h.2.2.2.2 i hi h1)⟩
theorem Tch.of {b:Nat} {w w':World} (h:Below w.heap.size w w'):Tch b w w':=⟨h.os,h.tape,h.output,h.size,fun i hi _=>h.block i hi⟩
theorem Tch.bel {b:Nat} {w w1 w2:World} (h:Tch b w w1) (k:Below w1.heap.size w1 w2):Tch b w w2:=h.trans (Tch.of k)
theorem Tch.size {b:Nat} {w w':World} (h:Tch b w w'):w.heap.size≤w'.heap.size:=h.2.2.2.1
theorem Tch.set {b B i:Nat} {v:Value} {w w1:World} (h:Tch b w w1) (hB:B=b∨w.heap.size≤B):Tch b w (w1.setCell ⟨B,i,none⟩ v) :=
 ⟨h.1,h.2.1,h.2.2.1,by simpa using h.size,fun j hj h1=>(Below.heap_setCell _ _ _ _ (by show j≠B;omega)).trans (h.2.2.2.2 j hj h1)⟩
theorem Tch.below {b n0:Nat} {w w':World} (h:Tch b w w') (hn:n0≤b) (hs:n0≤w.heap.size):Below n0 w w':=⟨h.1,h.2.1,h.2.2.1,h.size,fun k hk=>h.2.2.2.2 k (by omega) (by omega)⟩
theorem Tch.kept {b:Nat} {bs:List Nat} {w w':World} (h:Tch b w w') (hb:∀ x∈bs,x≠b):Kept bs w w':=fun x hx c t hc=>(h.2.2.2.2 x (lt_of_heap hc) (hb x hx)).trans hc
theorem Tch.kps {b n0:Nat} {bs:List Nat} {w w':World} (h:Tch b w w') (hn:n0≤b) (hs:n0≤w.heap.size) (hb:∀ x∈bs,x≠b):Kps n0 bs w w':=⟨h.below hn hs,h.kept hb⟩
theorem Tch.from {b B:Nat} {w w':World} (h:Tch b w w') (hB:b<B):KeepsFrom B w w':=⟨h.size,fun k o hk ho _=>(h.2.2.2.2 k (lt_of_heap ho) (by omega)).trans ho⟩
theorem Tch.cell {b B i:Nat} {v:Value} {w w':World} (h:Tch b w w') (hc:w.cell? ⟨B,i,none⟩=some v) (h1:B≠b):w'.cell? ⟨B,i,none⟩=some v :=
 (World.cell?_of_block (h.2.2.2.2 B (World.block_lt_of_cell? w _ hc) h1)).trans hc
theorem Tch.grown {b:Nat} {w w':World} (h:Tch b w w'):w.grownBy w' (some b):=⟨h.1,h.2.1,h.2.2.1,h.size,fun i hi hne=>h.2.2.2.2 i hi (fun e=>hne (by rw [e]))⟩
def AbAll (B:Nat) (J:Nat→World→Prop):Prop:=∀ s W W' row,J s W→W.grownBy W' row→(∀ r,row=some r→B≤r)→J s W'
theorem AbAll.bel {B:Nat} {J:Nat→World→Prop} (hJ:AbAll B J) {s:Nat} {W W':World} (h:J s W) (k:Below W.heap.size W W'):J s W':=hJ s W W' none h (grownBy_of_below k) (fun r e=>by cases e)
theorem AbAll.putObj {B:Nat} {J:Nat→World→Prop} (hJ:AbAll B J) {s l:Nat} {W:World} (o':Obj) (h:J s W) (hB:B≤l):J s (W.putObj l o'):=hJ s W _ (some l) h (grownBy_putObj' W l o') (fun r e=>by cases e;exact hB)
def KX (x:Value) (A B:World):Prop:=∀ a n c,x=.slice (some a) n c→Kept [a.block] A B
theorem KX.trans {x:Value} {A B C:World} (h:KX x A B) (k:KX x B C):KX x A C:=fun a n c e=>(h a n c e).trans (k a n c e)
theorem KX.put {x:Value} {W:World} {l:Nat} {o:Obj} (o':Obj) (hl:W.heap[l]? = some o) (ho:o.isCells=false):KX x W (W.putObj l o'):=fun a n c e=>Kept.put W l o o' hl ho
theorem Tch.kx {b:Nat} {x:Value} {w w':World} (h:Tch b w w') (hb:∀ a n c,x=.slice (some a) n c→a.block≠b):KX x w w':=fun a n c e=>h.kept fun y hy=>by
 obtain rfl:y=a.block:=by simpa using hy
 exact hb a n c e
def Sq (n0 nb:Nat) (bs:List Nat) (Pr:World→Prop) (w:World) (v:Value) (Y:Nat→List (Int×Int)) (N:Nat):Prop :=
 ∃ g lb,v=.func (.func g) #[] lb∧(∀ args w,(callFunc g args).run Tryz.prog w=.ok (.enter g args) w) ∧
  ∀ (l m:Nat) (J:Nat→World→Prop) (W:World),Below w.heap.size w W→AbAll W.heap.size J→(∀ k W1,J k W1→Pr W1) →
   (∀ k x W1,J k W1→k<N→SpV W1 x (Y k)→Nb nb x→YieldAt Fence.wide (m-1) Tryz.prog l #[x] W1 fun e W'=>e=.returned (.bool true)∧J (k+1) W'∧Kps n0 bs W1 W'∧KX x W1 W') →
   J 0 W→CallsIn Fence.wide m Tryz.prog g (#[.func (.yield l) #[] #[]]++lb) W fun e W'=>(∃ v,e=.returned v)∧J N W'
def sqPost (B n0:Nat) (bs:List Nat) (x:Value) (I:World→Prop) (W:World):Exit→Act→World→Prop
 | .normal,_,W'=>KeepsFrom B W W'∧Kps n0 bs W W'∧KX x W W'∧I W'
 | _,_,_=>False
theorem SpV.turn {W W':World} {v:Value} {L:List (Int×Int)} {row:Option Nat} (h:SpV W v L) (hg:W.grownBy W' row) (hr:∀ r,row=some r→∃ o:Obj,W.heap[r]? = some o∧o.isCells=false):SpV W' v L:=by
 obtain⟨a,cap,h1,h2,h3,h4⟩:=h
 refine⟨a,cap,h1,h2,h3,fun h0=>?_⟩
 obtain⟨g,o,e,hc⟩:=h4 h0
 exact⟨g,o,e,fun j u hj=>cell_kept (hc j u hj) hg hr⟩
def markD (D:Nat):Deferred:={ target:=.collected D,args:=#[] }
theorem range_sq {g:Operand} {ps:Array Tmp} {assign body:Code} {Q:Exit→Act→World→Prop} {a:Act} {w:World} {n n0 nb N:Nat} {bs:List Nat} {v:Value} {Y:Nat→List (Int×Int)} {Pr:World→Prop} (it:Sq n0 nb bs Pr w v Y N) (hg:a.eval g=v) (hps:ps.size=1) (hn:1≤n) (hn0:n0≤w.heap.size)
  (I:Nat→World→Prop) (hI:AbAll w.heap.size I) (hPr:∀ k W,I k W→Pr W) (h0:I 0 w) (a₁:Value→Act)
  (hassign:∀ (l:Nat) (x:Value) (W:World) (K:Act→World→Prop),K (a₁ x) W →
    assign.wpIn (Fence.wide.inRound l) (n-1-1) Tryz.prog (Exit.then K (fun _ _ _=>False)) { tmps:=(ps.zip #[x]).foldl (fun t (p,v)=>t.setIfInBounds p v) a.tmps,defers:=[] } W)
  (hbody:∀ (l k:Nat) (x:Value) (W:World),I k W→k<N→SpV W x (Y k)→Nb nb x→body.wpIn (Fence.wide.inRound l) (n-1-1) Tryz.prog (sqPost w.heap.size n0 bs x (I (k+1)) W) (a₁ x) W)
  (hdone:∀ (D:Nat) (W:World),w.heap.size≤D→I N W→W.heap[D]? = some (.deferred (some []))→Q .normal { a with defers:=markD D :: a.defers } W) :
  (Code.rangeFunc g ps assign body).wpIn Fence.wide n Tryz.prog Q a w:=by
 obtain⟨gf,lb,rfl,heg,hseq⟩:=it
 refine wpIn_rangeFunc fun fn hfn=>?_
 let rec':LoopState→Loop:=fun st=>{ state:=st,pending:=none,fn,tmps:=a.tmps,params:=ps,assign,body,defers:=w.heap.size }
 let L:=w.heap.size+1
 let R1:Obj:=.loop (rec' .ready)
 have hW1:((w.alloc (.deferred (some []))).alloc R1).heap[L]? = some R1:=by
  have:=World.alloc_heap_new (w.alloc (.deferred (some []))) R1
  rwa [World.size_alloc] at this
 have hD1:((w.alloc (.deferred (some []))).alloc R1).heap[w.heap.size]? = some (.deferred (some [])):=(Below.heap_alloc _ _ _ (by simp)).trans (World.alloc_heap_new w _)
 have hb1:Below w.heap.size w ((w.alloc (.deferred (some []))).alloc R1):=((Below.refl _ w).alloc (Nat.le_refl _) _).alloc (by simp) _
 refine⟨L,[markD w.heap.size],(w.alloc (.deferred (some []))).alloc R1,{ target:=.fn (.func gf) lb,args:=#[.func (.yield L) #[] #[]] },(w.alloc (.deferred (some []))).alloc R1,gf,#[.func (.yield L) #[] #[]]++lb,(w.alloc (.deferred (some []))).alloc R1,run_enterLoop_outer _ _ _ _ _,?_,?_,?_,fun _=>hn,?_⟩
 ·simp only [resolve,hg]
  simp [go_sem]
 ·intro f' hf';exact trivial
 ·simp [invoke,go_sem,heg]
 refine (hseq L (n-1) (fun k W=>I k W∧W.heap[L]? = some R1∧W.heap[w.heap.size]? = some (.deferred (some []))) _ hb1 ?_ (fun k W1 h=>hPr k W1 h.1) ?_ ⟨hI.bel h0 hb1,hW1,hD1⟩).mono ?_
 ·rintro k A B row ⟨h1,h2,h3⟩ hgr hr
  have hr':∀ r,row=some r→w.heap.size+1+1≤r:=fun r e=>by have q:=hr r e;simp at q;exact q
  exact⟨hI k A B row h1 hgr (fun r e=>by have:=hr' r e;omega),(hgr.block L (lt_of_heap h2) (fun e=>by have:=hr' L e.symm;omega)).trans h2,(hgr.block _ (lt_of_heap h3) (fun e=>by have:=hr' _ e.symm;omega)).trans h3⟩
 ·rintro k x W ⟨h1,h2,h3⟩ hk hx hxn
  refine⟨fn,_,assign,body,run_yield (P:=Tryz.prog) (args:=#[x]) h2 hps.symm,roundIn_of_wpIn hfn (hassign L x W _ ?_)⟩
  have hlt:=lt_of_heap h2
  have e2:(W.putObj L (.loop { rec' .ready with state:=.busy })).heap[L]? = some (.loop { rec' .ready with state:=.busy }):=World.putObj_heap_same hlt
  have e3:(W.putObj L (.loop { rec' .ready with state:=.busy })).heap[w.heap.size]? = some (.deferred (some [])):=(World.putObj_heap_other (by omega)).trans h3
  refine⟨_,run_beginRound h2 rfl,?_⟩
  refine wpIn_mono (hbody L k x _ (hI.putObj _ h1 (by omega)) hk (hx.turn (grownBy_putObj' W L _) fun r e=>by cases e;exact⟨_,h2,rfl⟩) hxn) ?_
  rintro e a3 W3 hp
  cases e with
  | normal =>
   obtain⟨k1,k2,kx,k3⟩:=hp
   have g2:=k1.same L _ (by omega) e2 rfl
   have g3:=k1.same _ _ (Nat.le_refl _) e3 rfl
   refine⟨_,_,run_endRound (P:=Tryz.prog) none g2,rfl,⟨hI.putObj _ k3 (by omega),World.putObj_heap_same (lt_of_heap g2),(World.putObj_heap_other (by omega)).trans g3⟩,((Kps.put _ h2 rfl (by omega)).trans k2).trans (Kps.put _ g2 rfl (by omega)),?_⟩
   exact ((KX.put _ h2 rfl).trans kx).trans (KX.put _ g2 rfl)
  | ret=>exact hp.elim
  | exit id=>exact hp.elim
  | goto t=>exact hp.elim
  | panic ch=>exact hp.elim
  | outgrown=>exact hp.elim
 ·rintro e W2 ⟨⟨u,rfl⟩,h1,h2,h3⟩
  exact⟨none,_,run_endLoop (P:=Tryz.prog) h2 (by simp [rec']),hdone _ _ (Nat.le_refl _) (hI.putObj _ h1 (by omega)) ((World.putObj_heap_other (by omega)).trans h3)⟩
theorem St.turn {w0 w w':World} {l:List (Nat×Array Value×TypeId)} {row:Option Nat} (h:St w0 w l) (g:w.grownBy w' row) (hr:∀ r,row=some r→w0.heap.size≤r∧∃ o:Obj,w.heap[r]? = some o∧o.isCells=false):St w0 w' l :=
 ⟨h.1.grown g h.1.size fun r e=>(hr r e).1,fun x hx=>⟨(grownBy_keeps_cells g (fun r e=>(hr r e).2) (h.2 x hx).1 rfl).trans (h.2 x hx).1,(h.2 x hx).2⟩⟩
theorem OSp.turn {w w':World} {base:Nat} {v:Value} {L:List (Int×Int)} {row:Option Nat} (h:OSp w base v L) (g:w.grownBy w' row) (hr:∀ r,row=some r→∃ o:Obj,w.heap[r]? = some o∧o.isCells=false):OSp w' base v L:=by
 refine World.ownsRow.kept h g ?_
 rcases h.2 with ⟨rfl,_⟩ | ⟨b,cap,cur,rfl,_,hb,_⟩
 ·exact .inl rfl
 ·refine .inr fun e=>?_
  obtain⟨o,ho,hn⟩:=hr b (by rw [← e];rfl)
  rw [hb] at ho;cases ho;cases hn
theorem Kps.row {n0:Nat} {bs:List Nat} {w w':World} {base:Nat} {v:Value} {L:List (Int×Int)} (h:OSp w base v L) (g:w.grownBy w' v.ownBlock) (hn:n0≤w.heap.size) (hb:n0≤base) (hbs:∀ b∈bs,b<base):Kps n0 bs w w' :=
 ⟨h.grows (Below.refl _ _) g hb hn,Kept.grown g fun b e hm=>by have:=(h.lt b e).1;have:=hbs b hm;omega⟩
theorem Kps.set {n0:Nat} {bs:List Nat} (w:World) {B i:Nat} {v:Value} (hn:n0≤B) (hbs:∀ b∈bs,b≠B):Kps n0 bs w (w.setCell ⟨B,i,none⟩ v) :=
 ⟨(Below.refl n0 w).setCell (p:=⟨B,i,none⟩) hn v,fun b hb c t hc=>by rw [Below.heap_setCell _ _ _ _ (hbs b hb)];exact hc⟩
theorem yC {P:Program} {ops:Array Oper} {Q:Exit→Act→World→Prop} {a:Act} {w:World} {o:Oper} {i:Nat} (ho:ops[i]? = some o) (hg:o.guard=none) (f:FuncId) (args:Array Value) (hrun:(execOp a.eval o).run P w=.ok (.enter f args) w) {R:Ending→World→Prop} (hcall:Calls P f args w R) {K:Act→World→Prop}
  (h:∀ e w',R e w'→∃ v,e=.returned v∧K (a.put o.dst v) w'):wpOpIn Fence.wide 3 P ops Q i K a w :=
 wpOpIn_step ho fun K' hK'=>step_wp hg (by
  unfold Oper.wp
  rw [hrun]
  refine Calls.mono hcall fun e w' he=>?_
  obtain⟨v,rfl,hv⟩:=h e w' he
  exact hK' _ _ hv)
def Qm (M:Act→World→Prop):Exit→Act→World→Prop
 | .normal,a,w=>M a w
 | _,_,_=>False
theorem regionM {P:Program} {ops:Array Oper} {Q:Exit→Act→World→Prop} {id:Nat} {a:Act} {w:World} (C:World→Prop) (M:Act→World→Prop) (hm:P.follows .mixedOrders=true) (g:wpAnyC Fence.wide 3 P .any ops C (Qm M) ops.size (Array.replicate ops.size false) a w.drew) (h:∀ a w,M a w→Q .normal a w):(Code.region id ops true).wp P Q a w :=
 (wpIn_wide (n:=3)).1 (wpIn_mono (wpIn_region_any hm (any_of_C _ _ _ _ g)) (fun e a w q=>by cases e<;>first | exact h _ _ q | exact q.elim))
theorem doneM {F:Fence} {n:Nat} {P:Program} {ops:Array Oper} {md:Region.Mode} {C:World→Prop} {M:Act→World→Prop} {listed:Array Bool} {a:Act} {w:World} (hC:C w) (hr:Region.ready md ops listed=[]) (h:M a w):∀ fuel,wpAnyC F n P md ops C (Qm M) fuel listed a w :=
 doneC hC hr h
end Go.Proofs.YtccoanknofhmaaaGreat
