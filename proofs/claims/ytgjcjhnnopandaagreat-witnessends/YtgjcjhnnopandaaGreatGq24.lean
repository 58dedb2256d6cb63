/- What find of package bound returns of a channel that is there. The hulls of a channel: of an op alone, whatever is picked; what is picked by the four calls. What the closures of Total, Run, Product and Part of package bound take of a row of ends. What the closure of Part of package bound takes of a row of ends: block by block. -/
import Derived.Test.YtgjcjhnnopandaaGreatGq12
import Derived.Test.YtgjcjhnnopandaaGreatGq16
import Derived.Test.YtgjcjhnnopandaaGreatGq23
namespace Go.Proofs.YtgjcjhnnopandaaGreat
open Go.Value renaming int → U, slice → Sl
open Go.IntKind renaming i64 → i6
set_option maxRecDepth 100000
set_option maxHeartbeats 16000000
open Go.ChangeShapes Go.WideShapes Go.ChangeAt Go.RowKit
set_option linter.unusedVariables false
theorem wl1 {P:Program} {ops:Array Oper} {rest:List Oper} {o:Oper} {a:Act} {w:World} {Q:Exit→Act→World→Prop} (hg:o.guard=none) (dst:Option Tmp) (hdst:o.dst=dst)
  (v:Value) (w':World) (hrun:(execOp a.eval o).run P w=.ok (.value v) w') (h:wpList P ops Q rest (a.put dst v) w'):wpList P ops Q (o :: rest) a w:=by
 subst hdst
 refine wpList_plain hg fun K hK=>?_
 unfold Oper.wp
 rw [hrun,Oper.upon_value]
 exact hK _ _ h
theorem TV.other {w:World} {v:Value} {L:List (Int×Int)} {B:Nat} {cs:Array Value} (h:TV w v L) (hB:∀ b,v.ownBlock=some b→b≠B):TV (w.setRow B cs) v L:=by
 obtain⟨a,cap,rfl,h2,h3,h4⟩:=h
 refine⟨a,cap,rfl,h2,h3,fun h0=>?_⟩
 obtain⟨g,rfl,hc⟩:=h4 h0
 exact⟨g,rfl,fun j u hj=>(World.cell?_of_block (setRow_other _ _ _ _ (hB g rfl))).trans (hc j u hj)⟩
theorem size_setRow (w:World) (B:Nat) (cs:Array Value):w.heap.size≤(w.setRow B cs).heap.size:=(below_setRow (Below.refl 0 w) (Nat.zero_le _) cs).size
theorem bfind_r (h w c lo hi ot ch:Int) (x:Addr) (on oc i:Nat) (O:Nat→Nat→Int) (W:World) (hM:MRow W (some x) on oc O) (hi0:i<on) (wa:Option Addr) (lw cw:Nat) (ba:Option Addr) (lb cb:Nat)
  (hcell:∀ q v,[U i6 (O i 0),U i6 (O i 1),U i6 (O i 2),U i6 (O i 3),U i6 (O i 4),U i6 (O i 5),U i6 (O i 6),U i6 (O i 7),U i6 (O i 8),U i6 (O i 9),U i6 (O i 10),U i6 (O i 11),Sl wa lw cw,Sl ba lb cb,U i6 (O i 14),U i6 (O i 15),U i6 (O i 16),U i6 (O i 17),U i6 (O i 18),U i6 (O i 19),U i6 (O i 20),U i6 (O i 21)][q]? = some v→W.cell? ((x.add (i*22)).add q)=some v) (Rw:Int) (RL:List (Int×Int×Int)) (hR:gtR O h w c lo hi ot on=(0,0,RL,Rw)) (hj0:0≤O i 1) (hj1:O i 1≤(i:Int))
  (x0 y0 z0 H V C:Int) (hA:RL.getD (O i 1).toNat (0,0,0)=(x0,y0,z0)) (hB:RL.getD (i+1) (0,0,0)=(H,V,C)) (hHV:0≤H*V∧H*V≤100000000) (slo shi bi er:Int) (TL:List (Int×Int)) (N:Nat) (hN:TL.length=N)
  (hO:∀ W' (g0:Nat),Below W.heap.size W W'→W.heap.size≤g0→W'.heap[g0]? = some (.cells #[U i6 (O i 0),U i6 0,U i6 0,U i6 (O i 3),U i6 (O i 4),U i6 (O i 5),U i6 (O i 6),U i6 (O i 7),U i6 (O i 8),U i6 (O i 9),U i6 (O i 10),U i6 (O i 11),Sl wa lw cw,Sl ba lb cb,U i6 (O i 14),U i6 (O i 15),U i6 (O i 16),U i6 (O i 17),U i6 (O i 18),U i6 (O i 19),U i6 (O i 20),U i6 (O i 21)] 44 (0,0))→Calls Tryz.prog 55 #[.agg #[U i6 x0,U i6 y0,U i6 z0,U i6 0,U i6 0,Sl (some ⟨g0,0,none⟩) 1 1,U i6 0],U i6 1,U i6 ch,U i6 0] W' fun e w'=>(∃ v,e=.returned (.tuple #[v,U i6 bi,U i6 er])∧OTm w' W'.heap.size v TL)∧Below W'.heap.size W' w') :
  Calls Tryz.prog 36 #[.agg #[U i6 h,U i6 w,U i6 c,U i6 lo,U i6 hi,Sl (some x) on oc,U i6 ot],U i6 ((i:Int)+1),U i6 ch,.agg #[U i6 slo,U i6 shi]] W fun e w'=>((er≠0∧e=.returned (.tuple #[.agg #[U i6 0,U i6 0,Sl none 0 0,U i6 0,U i6 0,U i6 0,U i6 0,U i6 0,U i6 0,U i6 0,U i6 0,U i6 0,U i6 0,Sl none 0 0,U i6 0],U i6 er]))∨(er=0∧vbB slo shi=false∧e=.returned (.tuple #[.agg #[U i6 0,U i6 0,Sl none 0 0,U i6 0,U i6 0,U i6 0,U i6 0,U i6 0,U i6 0,U i6 0,U i6 0,U i6 0,U i6 0,Sl none 0 0,U i6 0],U i6 30])) ∨
   (er=0∧vbB slo shi=true∧∃ (g0:Nat) (fa:Option Addr) (fc:Nat),e=.returned (.tuple #[.agg #[U i6 ch,U i6 (H*V),Sl fa N fc,U i6 bi,U i6 slo,U i6 shi,U i6 (O i 19),U i6 (O i 19),U i6 x0,U i6 y0,U i6 z0,U i6 0,U i6 0,Sl (some ⟨g0,0,none⟩) 1 1,U i6 0],U i6 0])∧w'.heap[g0]? = some (.cells #[U i6 (O i 0),U i6 0,U i6 0,U i6 (O i 3),U i6 (O i 4),U i6 (O i 5),U i6 (O i 6),U i6 (O i 7),U i6 (O i 8),U i6 (O i 9),U i6 (O i 10),U i6 (O i 11),Sl wa lw cw,Sl ba lb cb,U i6 (O i 14),U i6 (O i 15),U i6 (O i 16),U i6 (O i 17),U i6 (O i 18),U i6 (O i 19),U i6 (O i 20),U i6 (O i 21)] 44 (0,0))∧W.heap.size≤g0∧TV w' (.slice fa N fc) TL∧∀ a,fa=some a→a.block<w'.heap.size))∧Below W.heap.size W w':=by
 have hS:Hid (∀ W,MRow W (some x) on oc O→_):=fun W hW=>shapes_any h w c lo hi ot (some x) on oc O W hW
 rw [hR] at hS
 simp only at hS
 obtain⟨-,hRl,ho64,-,-,-⟩:=gtR_ok hR
 have hM2:Hid (MRow W (some x) on oc O):=hM
 have hocm:=hM.1
 have hocx:=hM.2.1
 unfold maxLen at hocx
 have Hc:Hid (∀ q v,[U i6 (O i 0),U i6 (O i 1),U i6 (O i 2),U i6 (O i 3),U i6 (O i 4),U i6 (O i 5),U i6 (O i 6),U i6 (O i 7),U i6 (O i 8),U i6 (O i 9),U i6 (O i 10),U i6 (O i 11),Sl wa lw cw,Sl ba lb cb,U i6 (O i 14),U i6 (O i 15),U i6 (O i 16),U i6 (O i 17),U i6 (O i 18),U i6 (O i 19),U i6 (O i 20),U i6 (O i 21)][q]? = some v→W.cell? ((x.add (i*22)).add q)=some v):=hcell
 have HO:Hid (∀ W' (g0:Nat),Below W.heap.size W W'→W.heap.size≤g0→W'.heap[g0]? = some (.cells #[U i6 (O i 0),U i6 0,U i6 0,U i6 (O i 3),U i6 (O i 4),U i6 (O i 5),U i6 (O i 6),U i6 (O i 7),U i6 (O i 8),U i6 (O i 9),U i6 (O i 10),U i6 (O i 11),Sl wa lw cw,Sl ba lb cb,U i6 (O i 14),U i6 (O i 15),U i6 (O i 16),U i6 (O i 17),U i6 (O i 18),U i6 (O i 19),U i6 (O i 20),U i6 (O i 21)] 44 (0,0))→_):=hO
 have HV:Hid (∀ W',_):=fun W'=>bofv_any slo shi W'
 obtain⟨hv1,hv2⟩:=hHV
 have HNN:Hid (TL.length=N):=hN
 have s0:=(((St.start W).new (c:=#[U i6 h,U i6 w,U i6 c,U i6 lo,U i6 hi,Sl (some x) on oc,U i6 ot]) (t:=26)).new (c:=#[U i6 slo,U i6 shi]) (t:=28)).new (c:=#[U i6 0,U i6 0,Sl none 0 0,U i6 0,U i6 0,U i6 0,U i6 0,U i6 0,U i6 0,U i6 0,U i6 0,U i6 0,U i6 0,Sl none 0 0,U i6 0]) (t:=95)
 simp only [World.size_alloc] at s0
 clear hO hR hM hcell hN
 go_enter Tryz.func36,Tryz.ntmps36
 go_wp2_with fail
 refine Calls.mono (hS.out _ (hM2.out.below s0.below)) ?_
 rintro e w3 ⟨v,rfl,hSh,hb⟩
 have s3:=(s0.call hb).new (c:=#[U i6 0,U i6 0,U i6 0]) (t:=123)
 have hz23:=hb.size
 have hz2:=s0.size
 obtain⟨g,cap,cur,rfl,hgb,hgc,hCu⟩:∃ g cap cur,v=.slice (some ⟨g,0,none⟩) (on+1) cap∧W.heap.size≤g∧w3.heap[g]? = some (.cells cur 23 (0,0))∧Cu cur cap RL:=by
  rcases hSh with ⟨-,q⟩ | ⟨g,cap,cur,q1,q2,q3,q4,-⟩
  ·rw [q] at hRl;simp at hRl
  ·exact⟨g,cap,cur,by rw [q1,hRl],by omega,q3,q4⟩
 have hcap:=hCu.2.1
 obtain⟨b1,b2,b3⟩:=hCu.at (show i+1<RL.length by omega)
 obtain⟨a1,a2,a3⟩:=hCu.at (show (O i 1).toNat<RL.length by omega)
 rw [hB] at b1 b2 b3
 rw [hA] at a1 a2 a3
 simp only at a1 a2 a3 b1 b2 b3
 have hgz:=lt_of_heap hgc
 have hgc2:Hid ((w3.alloc (.cells #[U i6 0,U i6 0,U i6 0] 123)).heap[g]? = some (.cells cur 23 (0,0))):=(heap_alloc_old w3 _ hgz).trans hgc
 obtain⟨c1,f1,z1,c2,f2,z2,c3,f3,z3,-⟩:=(s0.call hb).rules
 clear hb hSh hCu hgc hS hM2 c1 f1 c2 f2 s0
 go_upto_region 6 with fail
 obtain⟨B11,hB11⟩:∃ B,w3.heap.size=B:=⟨_,rfl⟩
 have HB11:Hid (W.heap.size+1+1<B11):=by unfold Hid;rw [← hB11];exact z1
 obtain⟨w4,hw4⟩:∃ w4,w3.alloc (.cells #[U i6 0,U i6 0,U i6 0] 123)=w4:=⟨_,rfl⟩
 rw [hB11,hw4] at s3
 rw [hw4] at hgc2 ⊢
 have hz4:w4.heap.size=B11+1:=by rw [← hw4,← hB11];simp
 have S4:Hid (St W w4 ((B11,#[U i6 0,U i6 0,U i6 0],123) :: (W.heap.size+1+1,#[U i6 0,U i6 0,Sl none 0 0,U i6 0,U i6 0,U i6 0,U i6 0,U i6 0,U i6 0,U i6 0,U i6 0,U i6 0,U i6 0,Sl none 0 0,U i6 0],95) :: (W.heap.size+1,#[U i6 slo,U i6 shi],28) :: (W.heap.size,#[U i6 h,U i6 w,U i6 c,U i6 lo,U i6 hi,Sl (some x) on oc,U i6 ot],26) :: [])):=s3
 have HC4:Hid (∀ q v,[U i6 (O i 0),U i6 (O i 1),U i6 (O i 2),U i6 (O i 3),U i6 (O i 4),U i6 (O i 5),U i6 (O i 6),U i6 (O i 7),U i6 (O i 8),U i6 (O i 9),U i6 (O i 10),U i6 (O i 11),Sl wa lw cw,Sl ba lb cb,U i6 (O i 14),U i6 (O i 15),U i6 (O i 16),U i6 (O i 17),U i6 (O i 18),U i6 (O i 19),U i6 (O i 20),U i6 (O i 21)][q]? = some v→w4.cell? ((x.add (i*22)).add q)=some v):=fun q v hq=>(s3.below.cell (World.block_lt_of_cell? W _ (Hc.out q v hq))).trans (Hc.out q v hq)
 clear c3 f3 z1 z2 z3 hw4 s3 Hc
 obtain⟨c1,f1,z1,c2,f2,z2,c3,f3,z3,c4,f4,z4,-⟩:=S4.out.rules
 clear c1 f1 c2 f2 c3 f3 f4
 obtain⟨vo,hvo⟩:∃ vo,Value.agg #[U i6 (O i 0),U i6 (O i 1),U i6 (O i 2),U i6 (O i 3),U i6 (O i 4),U i6 (O i 5),U i6 (O i 6),U i6 (O i 7),U i6 (O i 8),U i6 (O i 9),U i6 (O i 10),U i6 (O i 11),Sl wa lw cw,Sl ba lb cb,U i6 (O i 14),U i6 (O i 15),U i6 (O i 16),U i6 (O i 17),U i6 (O i 18),U i6 (O i 19),U i6 (O i 20),U i6 (O i 21)]=vo:=⟨_,rfl⟩
 have HVO:Hid (Value.agg #[U i6 (O i 0),U i6 (O i 1),U i6 (O i 2),U i6 (O i 3),U i6 (O i 4),U i6 (O i 5),U i6 (O i 6),U i6 (O i 7),U i6 (O i 8),U i6 (O i 9),U i6 (O i 10),U i6 (O i 11),Sl wa lw cw,Sl ba lb cb,U i6 (O i 14),U i6 (O i 15),U i6 (O i 16),U i6 (O i 17),U i6 (O i 18),U i6 (O i 19),U i6 (O i 20),U i6 (O i 21)]=vo):=hvo
 have s5:=S4.out.new (c:=#[U i6 (O i 0),U i6 (O i 1),U i6 (O i 2),U i6 (O i 3),U i6 (O i 4),U i6 (O i 5),U i6 (O i 6),U i6 (O i 7),U i6 (O i 8),U i6 (O i 9),U i6 (O i 10),U i6 (O i 11),Sl wa lw cw,Sl ba lb cb,U i6 (O i 14),U i6 (O i 15),U i6 (O i 16),U i6 (O i 17),U i6 (O i 18),U i6 (O i 19),U i6 (O i 20),U i6 (O i 21)]) (t:=44)
 have hgc5:Hid ((w4.alloc (.cells #[U i6 (O i 0),U i6 (O i 1),U i6 (O i 2),U i6 (O i 3),U i6 (O i 4),U i6 (O i 5),U i6 (O i 6),U i6 (O i 7),U i6 (O i 8),U i6 (O i 9),U i6 (O i 10),U i6 (O i 11),Sl wa lw cw,Sl ba lb cb,U i6 (O i 14),U i6 (O i 15),U i6 (O i 16),U i6 (O i 17),U i6 (O i 18),U i6 (O i 19),U i6 (O i 20),U i6 (O i 21)] 44)).heap[g]? = some (.cells cur 23 (0,0))):=(heap_alloc_old w4 _ (lt_of_heap hgc2.out)).trans hgc2.out
 go_upto_region 7 with ((refine wpList_load_any rfl 44 (.tmp 42) rfl (x.add (i*22)) rfl [U i6 (O i 0),U i6 (O i 1),U i6 (O i 2),U i6 (O i 3),U i6 (O i 4),U i6 (O i 5),U i6 (O i 6),U i6 (O i 7),U i6 (O i 8),U i6 (O i 9),U i6 (O i 10),U i6 (O i 11),Sl wa lw cw,Sl ba lb cb,U i6 (O i 14),U i6 (O i 15),U i6 (O i 16),U i6 (O i 17),U i6 (O i 18),U i6 (O i 19),U i6 (O i 20),U i6 (O i 21)] _ HC4.out Tryz.underlying44 rfl (by kernel_rfl) ?_;(show wpList _ _ _ _ (Act.put _ _ (Value.agg #[U i6 (O i 0),U i6 (O i 1),U i6 (O i 2),U i6 (O i 3),U i6 (O i 4),U i6 (O i 5),U i6 (O i 6),U i6 (O i 7),U i6 (O i 8),U i6 (O i 9),U i6 (O i 10),U i6 (O i 11),Sl wa lw cw,Sl ba lb cb,U i6 (O i 14),U i6 (O i 15),U i6 (O i 16),U i6 (O i 17),U i6 (O i 18),U i6 (O i 19),U i6 (O i 20),U i6 (O i 21)])) _);rw [hvo];clear hvo;refine wl1 rfl (some 12) rfl (.pointer (some ⟨w4.heap.size,0,none⟩)) (w4.alloc (.cells #[U i6 0,U i6 0,U i6 0,U i6 0,U i6 0,U i6 0,U i6 0,U i6 0,U i6 0,U i6 0,U i6 0,U i6 0,Sl none 0 0,Sl none 0 0,U i6 0,U i6 0,U i6 0,U i6 0,U i6 0,U i6 0,U i6 0,U i6 0] 44)) (by kernel_rfl) ?_;refine wpList_st_new rfl 44 (.tmp 12) (.tmp 43) rfl w4 #[U i6 0,U i6 0,U i6 0,U i6 0,U i6 0,U i6 0,U i6 0,U i6 0,U i6 0,U i6 0,U i6 0,U i6 0,Sl none 0 0,Sl none 0 0,U i6 0,U i6 0,U i6 0,U i6 0,U i6 0,U i6 0,U i6 0,U i6 0] #[U i6 (O i 0),U i6 (O i 1),U i6 (O i 2),U i6 (O i 3),U i6 (O i 4),U i6 (O i 5),U i6 (O i 6),U i6 (O i 7),U i6 (O i 8),U i6 (O i 9),U i6 (O i 10),U i6 (O i 11),Sl wa lw cw,Sl ba lb cb,U i6 (O i 14),U i6 (O i 15),U i6 (O i 16),U i6 (O i 17),U i6 (O i 18),U i6 (O i 19),U i6 (O i 20),U i6 (O i 21)] (by kernel_rfl) (Eq.trans (by kernel_rfl:_=vo) HVO.out.symm) (by kernel_rfl) rfl (by simp [Value.oneCell']) ?_;(obtain⟨w5,hw5⟩:∃ w5,w4.alloc (.cells #[U i6 (O i 0),U i6 (O i 1),U i6 (O i 2),U i6 (O i 3),U i6 (O i 4),U i6 (O i 5),U i6 (O i 6),U i6 (O i 7),U i6 (O i 8),U i6 (O i 9),U i6 (O i 10),U i6 (O i 11),Sl wa lw cw,Sl ba lb cb,U i6 (O i 14),U i6 (O i 15),U i6 (O i 16),U i6 (O i 17),U i6 (O i 18),U i6 (O i 19),U i6 (O i 20),U i6 (O i 21)] 44)=w5:=⟨_,rfl⟩);rw [hw5] at s5 hgc5 ⊢;have hz5:w5.heap.size=B11+1+1:=(by rw [← hw5,World.size_alloc,hz4]);clear hw5))
 obtain⟨B12,hB12⟩:∃ B,w4.heap.size=B:=⟨_,rfl⟩
 rw [hB12] at s5
 have S5:Hid (St W w5 ((B12,#[U i6 (O i 0),U i6 (O i 1),U i6 (O i 2),U i6 (O i 3),U i6 (O i 4),U i6 (O i 5),U i6 (O i 6),U i6 (O i 7),U i6 (O i 8),U i6 (O i 9),U i6 (O i 10),U i6 (O i 11),Sl wa lw cw,Sl ba lb cb,U i6 (O i 14),U i6 (O i 15),U i6 (O i 16),U i6 (O i 17),U i6 (O i 18),U i6 (O i 19),U i6 (O i 20),U i6 (O i 21)],44) :: (B11,#[U i6 0,U i6 0,U i6 0],123) :: (W.heap.size+1+1,#[U i6 0,U i6 0,Sl none 0 0,U i6 0,U i6 0,U i6 0,U i6 0,U i6 0,U i6 0,U i6 0,U i6 0,U i6 0,U i6 0,Sl none 0 0,U i6 0],95) :: (W.heap.size+1,#[U i6 slo,U i6 shi],28) :: (W.heap.size,#[U i6 h,U i6 w,U i6 c,U i6 lo,U i6 hi,Sl (some x) on oc,U i6 ot],26) :: [])):=s5
 have HB12:Hid (B12=B11+1):=by unfold Hid;omega
 have HZ5:Hid (w5.heap.size=B11+1+1):=hz5
 clear s5 S4 hgc2 HC4 c4 z1 z2 z3 z4
 rw [hB12]
 clear hB12 hz4 hz5 hB11
 have hc12:=(cells_at S5.out.h1).1 1
 have hg5:=(cells_at hgc5.out).1
 obtain⟨-,-,z1,-,-,z2,-,-,z3,-,-,z4,-,-,z5,-⟩:=S5.out.rules
 have s6:=S5.out.new (c:=#[U i6 x0,U i6 y0,U i6 z0,U i6 0,U i6 0,Sl none 0 0,U i6 0]) (t:=26)
 go_upto_region 8 with (refine wpList_load_any rfl 23 (.tmp 47) rfl ⟨g,(O i 1).toNat*3,none⟩ rfl [U i6 x0,U i6 y0,U i6 z0] _ (three_at hgc5.out a1 a2 a3) Tryz.underlying23 rfl (by kernel_rfl) ?_)
 obtain⟨B13,hB13⟩:∃ B,w5.heap.size=B:=⟨_,rfl⟩
 have HB13:Hid (B13=B11+1+1):=by unfold Hid;rw [← hB13];exact HZ5.out
 obtain⟨w6,hw6⟩:∃ w6,w5.alloc (.cells #[U i6 x0,U i6 y0,U i6 z0,U i6 0,U i6 0,Sl none 0 0,U i6 0] 26)=w6:=⟨_,rfl⟩
 have hgc6:Hid (w6.heap[g]? = some (.cells cur 23 (0,0))):=by unfold Hid;rw [← hw6];exact (heap_alloc_old w5 _ (lt_of_heap hgc5.out)).trans hgc5.out
 have hz6:w6.heap.size=B11+1+1+1:=by rw [← hw6,World.size_alloc,HZ5.out]
 rw [hB13,hw6] at s6
 try rw [hw6]
 try rw [hB13]
 have S6:Hid (St W w6 ((B13,#[U i6 x0,U i6 y0,U i6 z0,U i6 0,U i6 0,Sl none 0 0,U i6 0],26) :: (B12,#[U i6 (O i 0),U i6 (O i 1),U i6 (O i 2),U i6 (O i 3),U i6 (O i 4),U i6 (O i 5),U i6 (O i 6),U i6 (O i 7),U i6 (O i 8),U i6 (O i 9),U i6 (O i 10),U i6 (O i 11),Sl wa lw cw,Sl ba lb cb,U i6 (O i 14),U i6 (O i 15),U i6 (O i 16),U i6 (O i 17),U i6 (O i 18),U i6 (O i 19),U i6 (O i 20),U i6 (O i 21)],44) :: (B11,#[U i6 0,U i6 0,U i6 0],123) :: (W.heap.size+1+1,#[U i6 0,U i6 0,Sl none 0 0,U i6 0,U i6 0,U i6 0,U i6 0,U i6 0,U i6 0,U i6 0,U i6 0,U i6 0,U i6 0,Sl none 0 0,U i6 0],95) :: (W.heap.size+1,#[U i6 slo,U i6 shi],28) :: (W.heap.size,#[U i6 h,U i6 w,U i6 c,U i6 lo,U i6 hi,Sl (some x) on oc,U i6 ot],26) :: [])):=s6
 clear hB13 hw6 s6 hc12 hg5 z1 z2 z3 z4 z5 hgc5 S5 a1 a2 a3
 have hz11:=HB11.out
 have hz12:=HB12.out
 have hz13:=HB13.out
 obtain⟨y1,y2,y3⟩:=cells_at S6.out.h2
 have s7:=S6.out.up1.seti (i:=1) (v:=U i6 0) (by simp;omega) #[U i6 (O i 0),U i6 0,U i6 (O i 2),U i6 (O i 3),U i6 (O i 4),U i6 (O i 5),U i6 (O i 6),U i6 (O i 7),U i6 (O i 8),U i6 (O i 9),U i6 (O i 10),U i6 (O i 11),Sl wa lw cw,Sl ba lb cb,U i6 (O i 14),U i6 (O i 15),U i6 (O i 16),U i6 (O i 17),U i6 (O i 18),U i6 (O i 19),U i6 (O i 20),U i6 (O i 21)] (by kernel_rfl)
 have s8:=s7.seti (i:=2) (v:=U i6 0) (by simp;omega) #[U i6 (O i 0),U i6 0,U i6 0,U i6 (O i 3),U i6 (O i 4),U i6 (O i 5),U i6 (O i 6),U i6 (O i 7),U i6 (O i 8),U i6 (O i 9),U i6 (O i 10),U i6 (O i 11),Sl wa lw cw,Sl ba lb cb,U i6 (O i 14),U i6 (O i 15),U i6 (O i 16),U i6 (O i 17),U i6 (O i 18),U i6 (O i 19),U i6 (O i 20),U i6 (O i 21)] (by kernel_rfl)
 have hgB:g≠B12:=fun e=>by have h7:=S6.out.h2;rw [← e,hgc6.out] at h7;simp at h7
 have hgc8:Hid (((w6.setCell ⟨B12,1,none⟩ (U i6 0)).setCell ⟨B12,2,none⟩ (U i6 0)).heap[g]? = some (.cells cur 23 (0,0))):=(Below.heap_setCell _ _ _ _ hgB).trans ((Below.heap_setCell _ _ _ _ hgB).trans hgc6.out)
 have HZ8:Hid (((w6.setCell ⟨B12,1,none⟩ (U i6 0)).setCell ⟨B12,2,none⟩ (U i6 0)).heap.size=B11+1+1+1):=by unfold Hid;simpa using hz6
 clear hz11 hz12 hz13 hz6
 go_upto_region 9 with fail
 obtain⟨w8,hw8⟩:∃ w8,(w6.setCell ⟨B12,1,none⟩ (U i6 0)).setCell ⟨B12,2,none⟩ (U i6 0)=w8:=⟨_,rfl⟩
 rw [hw8] at s8 hgc8 HZ8 ⊢
 have S8:Hid (St W w8 ((B12,#[U i6 (O i 0),U i6 0,U i6 0,U i6 (O i 3),U i6 (O i 4),U i6 (O i 5),U i6 (O i 6),U i6 (O i 7),U i6 (O i 8),U i6 (O i 9),U i6 (O i 10),U i6 (O i 11),Sl wa lw cw,Sl ba lb cb,U i6 (O i 14),U i6 (O i 15),U i6 (O i 16),U i6 (O i 17),U i6 (O i 18),U i6 (O i 19),U i6 (O i 20),U i6 (O i 21)],44) :: (B13,#[U i6 x0,U i6 y0,U i6 z0,U i6 0,U i6 0,Sl none 0 0,U i6 0],26) :: (B11,#[U i6 0,U i6 0,U i6 0],123) :: (W.heap.size+1+1,#[U i6 0,U i6 0,Sl none 0 0,U i6 0,U i6 0,U i6 0,U i6 0,U i6 0,U i6 0,U i6 0,U i6 0,U i6 0,U i6 0,Sl none 0 0,U i6 0],95) :: (W.heap.size+1,#[U i6 slo,U i6 shi],28) :: (W.heap.size,#[U i6 h,U i6 w,U i6 c,U i6 lo,U i6 hi,Sl (some x) on oc,U i6 ot],26) :: [])):=s8
 clear hw8 s7 s8 y1 y2 y3 hgc6 S6
 -- the model of the op alone
 obtain⟨g0,hg0e⟩:∃ g0,w8.heap.size=g0:=⟨_,rfl⟩
 have HG0e:Hid (g0=B11+1+1+1):=by unfold Hid;rw [← hg0e];exact HZ8.out
 have hgB3:g≠B13:=fun e=>by have h7:=S8.out.h2;rw [← e,hgc8.out] at h7;simp at h7
 have hg03:g0≠B13:=by have:=lt_of_heap S8.out.h2;omega
 have z11:=HB11.out
 have z12:=HB12.out
 have z13:=HB13.out
 have s9:=S8.out.up1.seti (i:=5) (v:=.slice (some ⟨g0,0,none⟩) 1 1) (by simp;omega) #[U i6 x0,U i6 y0,U i6 z0,U i6 0,U i6 0,Sl (some ⟨g0,0,none⟩) 1 1,U i6 0] (by kernel_rfl)
 have hz9:(w8.setCell ⟨B13,5,none⟩ (.slice (some ⟨g0,0,none⟩) 1 1)).heap.size=g0:=by simpa using hg0e
 have s10:=s9.skip (.cells #[U i6 (O i 0),U i6 0,U i6 0,U i6 (O i 3),U i6 (O i 4),U i6 (O i 5),U i6 (O i 6),U i6 (O i 7),U i6 (O i 8),U i6 (O i 9),U i6 (O i 10),U i6 (O i 11),Sl wa lw cw,Sl ba lb cb,U i6 (O i 14),U i6 (O i 15),U i6 (O i 16),U i6 (O i 17),U i6 (O i 18),U i6 (O i 19),U i6 (O i 20),U i6 (O i 21)] 44)
 have hg10:Hid (((w8.setCell ⟨B13,5,none⟩ (.slice (some ⟨g0,0,none⟩) 1 1)).alloc (.cells #[U i6 (O i 0),U i6 0,U i6 0,U i6 (O i 3),U i6 (O i 4),U i6 (O i 5),U i6 (O i 6),U i6 (O i 7),U i6 (O i 8),U i6 (O i 9),U i6 (O i 10),U i6 (O i 11),Sl wa lw cw,Sl ba lb cb,U i6 (O i 14),U i6 (O i 15),U i6 (O i 16),U i6 (O i 17),U i6 (O i 18),U i6 (O i 19),U i6 (O i 20),U i6 (O i 21)] 44)).heap[g0]? = some (.cells #[U i6 (O i 0),U i6 0,U i6 0,U i6 (O i 3),U i6 (O i 4),U i6 (O i 5),U i6 (O i 6),U i6 (O i 7),U i6 (O i 8),U i6 (O i 9),U i6 (O i 10),U i6 (O i 11),Sl wa lw cw,Sl ba lb cb,U i6 (O i 14),U i6 (O i 15),U i6 (O i 16),U i6 (O i 17),U i6 (O i 18),U i6 (O i 19),U i6 (O i 20),U i6 (O i 21)] 44 (0,0))):=by have h7:=heap_alloc_new (w8.setCell ⟨B13,5,none⟩ (.slice (some ⟨g0,0,none⟩) 1 1)) (.cells #[U i6 (O i 0),U i6 0,U i6 0,U i6 (O i 3),U i6 (O i 4),U i6 (O i 5),U i6 (O i 6),U i6 (O i 7),U i6 (O i 8),U i6 (O i 9),U i6 (O i 10),U i6 (O i 11),Sl wa lw cw,Sl ba lb cb,U i6 (O i 14),U i6 (O i 15),U i6 (O i 16),U i6 (O i 17),U i6 (O i 18),U i6 (O i 19),U i6 (O i 20),U i6 (O i 21)] 44);rw [hz9] at h7;exact h7
 have hgc10:Hid (((w8.setCell ⟨B13,5,none⟩ (.slice (some ⟨g0,0,none⟩) 1 1)).alloc (.cells #[U i6 (O i 0),U i6 0,U i6 0,U i6 (O i 3),U i6 (O i 4),U i6 (O i 5),U i6 (O i 6),U i6 (O i 7),U i6 (O i 8),U i6 (O i 9),U i6 (O i 10),U i6 (O i 11),Sl wa lw cw,Sl ba lb cb,U i6 (O i 14),U i6 (O i 15),U i6 (O i 16),U i6 (O i 17),U i6 (O i 18),U i6 (O i 19),U i6 (O i 20),U i6 (O i 21)] 44)).heap[g]? = some (.cells cur 23 (0,0))):=(heap_alloc_old _ _ (by simpa using lt_of_heap hgc8.out)).trans ((Below.heap_setCell _ _ _ _ hgB3).trans hgc8.out)
 have hgW:Hid (W.heap.size≤g0):=by unfold Hid;rw [← hg0e];exact S8.out.size
 have S10:Hid (St W _ _):=s10
 clear z11 z12 z13 s9 s10 hz9
 obtain⟨y1,y2,y3⟩:=cells_at S8.out.h2
 have y4:=y3
 rw [hg0e] at y4
 have HC8:Hid (∀ q v,[U i6 (O i 0),U i6 0,U i6 0,U i6 (O i 3),U i6 (O i 4),U i6 (O i 5),U i6 (O i 6),U i6 (O i 7),U i6 (O i 8),U i6 (O i 9),U i6 (O i 10),U i6 (O i 11),Sl wa lw cw,Sl ba lb cb,U i6 (O i 14),U i6 (O i 15),U i6 (O i 16),U i6 (O i 17),U i6 (O i 18),U i6 (O i 19),U i6 (O i 20),U i6 (O i 21)][q]? = some v→w8.cell? ((⟨B12,0,none⟩:Addr).add q)=some v):=fun q v hq=>by rw [Addr.add_lit,Nat.zero_add,(cells_at S8.out.h1).1];simpa using hq
 go_upto_region 10 with (refine wpList_load_any rfl 44 (.tmp 12) rfl ⟨B12,0,none⟩ rfl [U i6 (O i 0),U i6 0,U i6 0,U i6 (O i 3),U i6 (O i 4),U i6 (O i 5),U i6 (O i 6),U i6 (O i 7),U i6 (O i 8),U i6 (O i 9),U i6 (O i 10),U i6 (O i 11),Sl wa lw cw,Sl ba lb cb,U i6 (O i 14),U i6 (O i 15),U i6 (O i 16),U i6 (O i 17),U i6 (O i 18),U i6 (O i 19),U i6 (O i 20),U i6 (O i 21)] _ HC8.out Tryz.underlying44 rfl (by kernel_rfl) ?_)
 obtain⟨w9,hw9⟩:∃ w9,(w8.setCell ⟨B13,5,none⟩ (.slice (some ⟨g0,0,none⟩) 1 1)).alloc (.cells #[U i6 (O i 0),U i6 0,U i6 0,U i6 (O i 3),U i6 (O i 4),U i6 (O i 5),U i6 (O i 6),U i6 (O i 7),U i6 (O i 8),U i6 (O i 9),U i6 (O i 10),U i6 (O i 11),Sl wa lw cw,Sl ba lb cb,U i6 (O i 14),U i6 (O i 15),U i6 (O i 16),U i6 (O i 17),U i6 (O i 18),U i6 (O i 19),U i6 (O i 20),U i6 (O i 21)] 44)=w9:=⟨_,rfl⟩
 try rw [hg0e]
 rw [hw9] at S10 hg10 hgc10 ⊢
 clear hw9 y1 y2 y3 y4 HC8 hgc8 S8 hg0e
 have HC9:Hid (∀ q v,[U i6 x0,U i6 y0,U i6 z0,U i6 0,U i6 0,Sl (some ⟨g0,0,none⟩) 1 1,U i6 0][q]? = some v→w9.cell? ((⟨B13,0,none⟩:Addr).add q)=some v):=fun q v hq=>by rw [Addr.add_lit,Nat.zero_add,(cells_at S10.out.h1).1];simpa using hq
 have HCO:Hid _:=HO.out w9 g0 S10.out.below hgW.out hg10.out
 clear HO
 go_wp2_with (refine wpList_load_any rfl 26 (.tmp 13) rfl ⟨B13,0,none⟩ rfl [U i6 x0,U i6 y0,U i6 z0,U i6 0,U i6 0,Sl (some ⟨g0,0,none⟩) 1 1,U i6 0] _ HC9.out Tryz.underlying26 rfl (by kernel_rfl) ?_)
 refine Calls.mono HCO.out ?_
 rintro e w10 ⟨⟨v,rfl,ho⟩,hb10⟩
 have S11:Hid (St W w10 _):=S10.out.call hb10
 have HG11:Hid (w10.heap[g0]? = some (.cells #[U i6 (O i 0),U i6 0,U i6 0,U i6 (O i 3),U i6 (O i 4),U i6 (O i 5),U i6 (O i 6),U i6 (O i 7),U i6 (O i 8),U i6 (O i 9),U i6 (O i 10),U i6 (O i 11),Sl wa lw cw,Sl ba lb cb,U i6 (O i 14),U i6 (O i 15),U i6 (O i 16),U i6 (O i 17),U i6 (O i 18),U i6 (O i 19),U i6 (O i 20),U i6 (O i 21)] 44 (0,0))):=(hb10.block g0 (lt_of_heap hg10.out)).trans hg10.out
 have HGC11:Hid (w10.heap[g]? = some (.cells cur 23 (0,0))):=(hb10.block g (lt_of_heap hgc10.out)).trans hgc10.out
 have HTV:Hid (TV w10 v TL):=ho.tv
 have HTB:Hid (∀ b,v.ownBlock=some b→W.heap.size+1+1<b∧b<w10.heap.size):=fun b e=>⟨Nat.lt_of_lt_of_le (lt_of_heap S10.out.h4) (World.ownsRow.lt ho b e).1,(World.ownsRow.lt ho b e).2⟩
 obtain⟨ta,tc,rfl⟩:=ho.slice
 rw [HNN.out] at HTV HTB ⊢
 clear ho hb10 HCO S10 hg10 hgc10 HC9
 have HB5:Hid (W.heap.size<W.heap.size+1+1∧W.heap.size+1+1<B11∧B12=B11+1∧B13=B11+1+1):=⟨by omega,HB11.out,HB12.out,HB13.out⟩
 clear HB11 HB12 HB13
 by_cases her:er=0
 ·subst her
  obtain⟨vb,hvb⟩:∃ vb,vbB slo shi=vb:=⟨_,rfl⟩
  have HVB:Hid (vbB slo shi=vb):=hvb
  rw [hvb] at HV
  obtain⟨-,-,z0',-,-,z1,-,-,z2,-,-,z3,c4,f4,z4,-⟩:=S11.out.rules
  clear hvb
  go_wp2_with fail
  refine (HV.out _).mono ?_
  rintro e w11 ⟨rfl,hb11⟩
  have S12:Hid (St W w11 _):=S11.out.call hb11
  have HG12:Hid (w11.heap[g0]? = some (.cells #[U i6 (O i 0),U i6 0,U i6 0,U i6 (O i 3),U i6 (O i 4),U i6 (O i 5),U i6 (O i 6),U i6 (O i 7),U i6 (O i 8),U i6 (O i 9),U i6 (O i 10),U i6 (O i 11),Sl wa lw cw,Sl ba lb cb,U i6 (O i 14),U i6 (O i 15),U i6 (O i 16),U i6 (O i 17),U i6 (O i 18),U i6 (O i 19),U i6 (O i 20),U i6 (O i 21)] 44 (0,0))):=(hb11.block g0 (lt_of_heap HG11.out)).trans HG11.out
  have HGC12:Hid (w11.heap[g]? = some (.cells cur 23 (0,0))):=(hb11.block g (lt_of_heap HGC11.out)).trans HGC11.out
  have HTV12:Hid (TV w11 (.slice ta N tc) TL):=HTV.out.below hb11
  have HTB12:Hid (∀ b,(Value.slice ta N tc).ownBlock=some b→W.heap.size+1+1<b∧b<w11.heap.size):=fun b e=>⟨(HTB.out b e).1,Nat.lt_of_lt_of_le (HTB.out b e).2 hb11.size⟩
  clear hb11 S11 HG11 HGC11 HTV HTB HV z0' z1 z2 z3 c4 f4 z4
  cases vb with
  | false =>
   go_wp2_with (refine wpList_store_row rfl 95 (.tmp 8) (.tmp 69) rfl (W.heap.size+1+1) #[U i6 0,U i6 0,Sl none 0 0,U i6 0,U i6 0,U i6 0,U i6 0,U i6 0,U i6 0,U i6 0,U i6 0,U i6 0,U i6 0,Sl none 0 0,U i6 0] rfl rfl 95 #[U i6 0,U i6 0,Sl none 0 0,U i6 0,U i6 0,U i6 0,U i6 0,U i6 0,U i6 0,U i6 0,U i6 0,U i6 0,U i6 0,Sl none 0 0,U i6 0] S12.out.h4 (by kernel_rfl) rfl (by simp [Value.oneCell']) ?_;have hZ':=setRow_heap _ (W.heap.size+1+1) #[U i6 0,U i6 0,Sl none 0 0,U i6 0,U i6 0,U i6 0,U i6 0,U i6 0,U i6 0,U i6 0,U i6 0,U i6 0,U i6 0,Sl none 0 0,U i6 0] #[U i6 0,U i6 0,Sl none 0 0,U i6 0,U i6 0,U i6 0,U i6 0,U i6 0,U i6 0,U i6 0,U i6 0,U i6 0,U i6 0,Sl none 0 0,U i6 0] 95 (0,0) S12.out.h4;have hB':Hid (Below W.heap.size W (_:World)):=below_setRow S12.out.below (show W.heap.size≤W.heap.size+1+1 by omega) #[U i6 0,U i6 0,Sl none 0 0,U i6 0,U i6 0,U i6 0,U i6 0,U i6 0,U i6 0,U i6 0,U i6 0,U i6 0,U i6 0,Sl none 0 0,U i6 0];generalize World.setRow _ _ _=w5 at hZ' hB' ⊢)
   exact bodyPost_ret (results_row_tmp Tryz.results36 _ _ (W.heap.size+1+1) 95 _ _ (U i6 30) rfl hZ' Tryz.underlying95 rfl (by kernel_rfl) rfl) rfl ⟨.inl ⟨HVB.out,rfl⟩,hB'.out⟩
  | true =>
   go_upto_region 15 with fail
   have hb5:=HB5.out
   have s13:St W w11 ((B13,#[U i6 x0,U i6 y0,U i6 z0,U i6 0,U i6 0,Sl (some ⟨g0,0,none⟩) 1 1,U i6 0],26) :: (B12,#[U i6 (O i 0),U i6 0,U i6 0,U i6 (O i 3),U i6 (O i 4),U i6 (O i 5),U i6 (O i 6),U i6 (O i 7),U i6 (O i 8),U i6 (O i 9),U i6 (O i 10),U i6 (O i 11),Sl wa lw cw,Sl ba lb cb,U i6 (O i 14),U i6 (O i 15),U i6 (O i 16),U i6 (O i 17),U i6 (O i 18),U i6 (O i 19),U i6 (O i 20),U i6 (O i 21)],44) :: (W.heap.size+1,#[U i6 slo,U i6 shi],28) :: []):=S12.out.sub (fun y hy=>by simp only [List.mem_cons,List.not_mem_nil,or_false] at hy ⊢; rcases hy with rfl | rfl | rfl<;>simp)
   have hBS:=S12.out.h4
   have hgBS:g≠W.heap.size+1+1:=fun e=>by have h7:=hBS;rw [← e,HGC12.out] at h7;simp at h7
   have hg0BS:g0≠W.heap.size+1+1:=fun e=>by have h7:=hBS;rw [← e,HG12.out] at h7;simp at h7
   refine regionC (fun w'=>St W w' ((B13,#[U i6 x0,U i6 y0,U i6 z0,U i6 0,U i6 0,Sl (some ⟨g0,0,none⟩) 1 1,U i6 0],26) :: (B12,#[U i6 (O i 0),U i6 0,U i6 0,U i6 (O i 3),U i6 (O i 4),U i6 (O i 5),U i6 (O i 6),U i6 (O i 7),U i6 (O i 8),U i6 (O i 9),U i6 (O i 10),U i6 (O i 11),Sl wa lw cw,Sl ba lb cb,U i6 (O i 14),U i6 (O i 15),U i6 (O i 16),U i6 (O i 17),U i6 (O i 18),U i6 (O i 19),U i6 (O i 20),U i6 (O i 21)],44) :: (W.heap.size+1,#[U i6 slo,U i6 shi],28) :: [])∧w'.heap[g]? = some (.cells cur 23 (0,0))) (by kernel_rfl) ?_
   obtain⟨wd,hwd⟩:∃ wd,w11.drew=wd:=⟨_,rfl⟩
   have hdd:Below w11.heap.size w11 wd:=by rw [← hwd];exact (Below.refl _ _).drew
   rw [hwd]
   have SD:Hid (St W wd _):=s13.call hdd
   have hBSd:Hid (wd.heap[W.heap.size+1+1]? = some (.cells #[U i6 0,U i6 0,Sl none 0 0,U i6 0,U i6 0,U i6 0,U i6 0,U i6 0,U i6 0,U i6 0,U i6 0,U i6 0,U i6 0,Sl none 0 0,U i6 0] 95 (0,0))):=(hdd.block _ (lt_of_heap hBS)).trans hBS
   have HGD:Hid (wd.heap[g]? = some (.cells cur 23 (0,0))):=(hdd.block g (lt_of_heap HGC12.out)).trans HGC12.out
   have HG0D:Hid (wd.heap[g0]? = some (.cells #[U i6 (O i 0),U i6 0,U i6 0,U i6 (O i 3),U i6 (O i 4),U i6 (O i 5),U i6 (O i 6),U i6 (O i 7),U i6 (O i 8),U i6 (O i 9),U i6 (O i 10),U i6 (O i 11),Sl wa lw cw,Sl ba lb cb,U i6 (O i 14),U i6 (O i 15),U i6 (O i 16),U i6 (O i 17),U i6 (O i 18),U i6 (O i 19),U i6 (O i 20),U i6 (O i 21)] 44 (0,0))):=(hdd.block g0 (lt_of_heap HG12.out)).trans HG12.out
   have HTVD:Hid (TV wd (.slice ta N tc) TL):=HTV12.out.below hdd
   have HTBD:Hid (∀ b,(Value.slice ta N tc).ownBlock=some b→W.heap.size+1+1<b∧b<wd.heap.size):=fun b e=>⟨(HTB12.out b e).1,Nat.lt_of_lt_of_le (HTB12.out b e).2 hdd.size⟩
   clear hwd hdd s13 hBS S12 HGC12 HG12 HTV12 HTB12 hb5
   refine takeC 0 (v:=U i6 ch) rfl rfl (by kernel_rfl) (by kernel_rfl) (by kernel_rfl) (fun _ _ _ h=>h) (fun _=>rfl) rfl (fun w' hw'=>by go_simp) ?_
   refine takeC 1 (v:=.slice (some ⟨g,0,none⟩) (on+1) cap) rfl rfl (by kernel_rfl) (by kernel_rfl) (by kernel_rfl) (fun _ _ _ h=>h) (fun _=>rfl) rfl (fun w' hw'=>by go_simp) ?_
   refine takeC 2 (v:=U i6 ((i:Int)+1)) rfl rfl (by kernel_rfl) (by kernel_rfl) (by kernel_rfl) (fun _ _ _ h=>h) (fun _=>rfl) rfl (fun w' hw'=>by go_simp) ?_
   refine takeC 3 (v:=.pointer (some ⟨g,(i+1)*3,none⟩)) rfl rfl (by kernel_rfl) (by kernel_rfl) (by kernel_rfl) (fun _ _ _ h=>h) (fun _=>rfl) rfl (fun w' hw'=>by go_simp;intro q;omega) ?_
   refine takeC 4 (v:=.pointer (some ⟨g,(i+1)*3,none⟩)) rfl rfl (by kernel_rfl) (by kernel_rfl) (by kernel_rfl) (fun _ _ _ h=>h) (fun _=>rfl) rfl (fun w' hw'=>by go_simp) ?_
   refine takeC 5 (v:=U i6 H) rfl rfl (by kernel_rfl) (by kernel_rfl) (by kernel_rfl) (fun _ _ _ h=>h) (fun _=>rfl) rfl (fun w' hw'=>by have hc:w'.cell? ⟨g,(i+1)*3,none⟩=some (U i6 H):=(by rw [(cells_at hw'.2).1];exact b1);go_simp) ?_
   refine takeC 6 (v:=.slice (some ⟨g,0,none⟩) (on+1) cap) rfl rfl (by kernel_rfl) (by kernel_rfl) (by kernel_rfl) (fun _ _ _ h=>h) (fun _=>rfl) rfl (fun w' hw'=>by go_simp) ?_
   refine takeC 7 (v:=U i6 ((i:Int)+1)) rfl rfl (by kernel_rfl) (by kernel_rfl) (by kernel_rfl) (fun _ _ _ h=>h) (fun _=>rfl) rfl (fun w' hw'=>by go_simp) ?_
   refine takeC 8 (v:=.pointer (some ⟨g,(i+1)*3,none⟩)) rfl rfl (by kernel_rfl) (by kernel_rfl) (by kernel_rfl) (fun _ _ _ h=>h) (fun _=>rfl) rfl (fun w' hw'=>by go_simp;intro q;omega) ?_
   refine takeC 9 (v:=.pointer (some ⟨g,(i+1)*3+1,none⟩)) rfl rfl (by kernel_rfl) (by kernel_rfl) (by kernel_rfl) (fun _ _ _ h=>h) (fun _=>rfl) rfl (fun w' hw'=>by go_simp) ?_
   refine takeC 10 (v:=U i6 V) rfl rfl (by kernel_rfl) (by kernel_rfl) (by kernel_rfl) (fun _ _ _ h=>h) (fun _=>rfl) rfl (fun w' hw'=>by have hc:w'.cell? ⟨g,(i+1)*3+1,none⟩=some (U i6 V):=(by rw [(cells_at hw'.2).1];exact b2);go_simp) ?_
   refine takeC 11 (v:=U i6 (H*V)) rfl rfl (by kernel_rfl) (by kernel_rfl) (by kernel_rfl) (fun _ _ _ h=>h) (fun _=>rfl) rfl (fun w' hw'=>by go_simp;rw [IntKind.wrap_i64];omega) ?_
   refine takeC 12 (v:=.slice ta N tc) rfl rfl (by kernel_rfl) (by kernel_rfl) (by kernel_rfl) (fun _ _ _ h=>h) (fun _=>rfl) rfl (fun w' hw'=>by go_simp) ?_
   refine takeC 13 (v:=U i6 bi) rfl rfl (by kernel_rfl) (by kernel_rfl) (by kernel_rfl) (fun _ _ _ h=>h) (fun _=>rfl) rfl (fun w' hw'=>by go_simp) ?_
   refine takeC 14 (v:=.agg #[U i6 slo,U i6 shi]) rfl rfl (by kernel_rfl) (by kernel_rfl) (by kernel_rfl) (fun _ _ _ h=>h) (fun _=>rfl) rfl (fun w' hw'=>run_la 28 (.tmp 7) rfl ⟨W.heap.size+1,0,none⟩ (by kernel_rfl) [U i6 slo,U i6 shi] _ (fun j v hj=>by rw [Addr.add_lit,Nat.zero_add,(cells_at hw'.1.h3).1];simpa using hj) Tryz.underlying28 rfl (by kernel_rfl)) ?_
   refine takeC 15 (v:=.pointer (some ⟨B12,19,none⟩)) rfl rfl (by kernel_rfl) (by kernel_rfl) (by kernel_rfl) (fun _ _ _ h=>h) (fun _=>rfl) rfl (fun w' hw'=>by go_simp) ?_
   refine takeC 16 (v:=U i6 (O i 19)) rfl rfl (by kernel_rfl) (by kernel_rfl) (by kernel_rfl) (fun _ _ _ h=>h) (fun _=>rfl) rfl (fun w' hw'=>by have hc:=(cells_at hw'.1.h2).1 19;go_simp) ?_
   refine takeC 18 (v:=.agg #[U i6 x0,U i6 y0,U i6 z0,U i6 0,U i6 0,Sl (some ⟨g0,0,none⟩) 1 1,U i6 0]) rfl rfl (by kernel_rfl) (by kernel_rfl) (by kernel_rfl) (fun _ _ _ h=>h) (fun _=>rfl) rfl (fun w' hw'=>run_la 26 (.tmp 13) rfl ⟨B13,0,none⟩ (by kernel_rfl) [U i6 x0,U i6 y0,U i6 z0,U i6 0,U i6 0,Sl (some ⟨g0,0,none⟩) 1 1,U i6 0] _ (fun j v hj=>by rw [Addr.add_lit,Nat.zero_add,(cells_at hw'.1.h1).1];simpa using hj) Tryz.underlying26 rfl (by kernel_rfl)) ?_
   refine yK 17 ⟨SD.out,HGD.out⟩ (by kernel_rfl) rfl rfl 39 #[U i6 (O i 19)] (by kernel_rfl) (bone_any _ _) ?_
   rintro e wb ⟨rfl,hbb⟩
   refine⟨_,rfl,?_⟩
   have sb:=SD.out.call hbb
   have hgb:=(hbb.block g (lt_of_heap HGD.out)).trans HGD.out
   have hBSb:=(hbb.block _ (lt_of_heap hBSd.out)).trans hBSd.out
   have hg0b:=(hbb.block g0 (lt_of_heap HG0D.out)).trans HG0D.out
   have htvb:=HTVD.out.below hbb
   have htbb:∀ b,(Value.slice ta N tc).ownBlock=some b→W.heap.size+1+1<b∧b<wb.heap.size:=fun b e=>⟨(HTBD.out b e).1,Nat.lt_of_lt_of_le (HTBD.out b e).2 hbb.size⟩
   refine takeC 19 (v:=.agg #[U i6 ch,U i6 (H*V),Sl ta N tc,U i6 bi,U i6 slo,U i6 shi,U i6 (O i 19),U i6 (O i 19),U i6 x0,U i6 y0,U i6 z0,U i6 0,U i6 0,Sl (some ⟨g0,0,none⟩) 1 1,U i6 0]) rfl rfl (by kernel_rfl) (by kernel_rfl) (by kernel_rfl) (fun _ _ _ h=>h) (fun _=>rfl) rfl (fun w' hw'=>by kernel_rfl) ?_
   refine yS 20 ⟨sb,hgb⟩ (by kernel_rfl) rfl rfl 95 (.tmp 8) (.tmp 89) rfl (W.heap.size+1+1) #[U i6 ch,U i6 (H*V),Sl ta N tc,U i6 bi,U i6 slo,U i6 shi,U i6 (O i 19),U i6 (O i 19),U i6 x0,U i6 y0,U i6 z0,U i6 0,U i6 0,Sl (some ⟨g0,0,none⟩) 1 1,U i6 0] (by kernel_rfl) (by kernel_rfl) 95 #[U i6 0,U i6 0,Sl none 0 0,U i6 0,U i6 0,U i6 0,U i6 0,U i6 0,U i6 0,U i6 0,U i6 0,U i6 0,U i6 0,Sl none 0 0,U i6 0] hBSb (by kernel_rfl) rfl (by simp [Value.oneCell']) ?_
   have hb5:=HB5.out
   have hB':=below_setRow sb.below (show W.heap.size≤W.heap.size+1+1 by omega) #[U i6 ch,U i6 (H*V),Sl ta N tc,U i6 bi,U i6 slo,U i6 shi,U i6 (O i 19),U i6 (O i 19),U i6 x0,U i6 y0,U i6 z0,U i6 0,U i6 0,Sl (some ⟨g0,0,none⟩) 1 1,U i6 0]
   have hZ':=setRow_heap wb (W.heap.size+1+1) #[U i6 0,U i6 0,Sl none 0 0,U i6 0,U i6 0,U i6 0,U i6 0,U i6 0,U i6 0,U i6 0,U i6 0,U i6 0,U i6 0,Sl none 0 0,U i6 0] #[U i6 ch,U i6 (H*V),Sl ta N tc,U i6 bi,U i6 slo,U i6 shi,U i6 (O i 19),U i6 (O i 19),U i6 x0,U i6 y0,U i6 z0,U i6 0,U i6 0,Sl (some ⟨g0,0,none⟩) 1 1,U i6 0] 95 (0,0) hBSb
   have hG':(wb.setRow (W.heap.size+1+1) #[U i6 ch,U i6 (H*V),Sl ta N tc,U i6 bi,U i6 slo,U i6 shi,U i6 (O i 19),U i6 (O i 19),U i6 x0,U i6 y0,U i6 z0,U i6 0,U i6 0,Sl (some ⟨g0,0,none⟩) 1 1,U i6 0]).heap[g0]? = some (.cells #[U i6 (O i 0),U i6 0,U i6 0,U i6 (O i 3),U i6 (O i 4),U i6 (O i 5),U i6 (O i 6),U i6 (O i 7),U i6 (O i 8),U i6 (O i 9),U i6 (O i 10),U i6 (O i 11),Sl wa lw cw,Sl ba lb cb,U i6 (O i 14),U i6 (O i 15),U i6 (O i 16),U i6 (O i 17),U i6 (O i 18),U i6 (O i 19),U i6 (O i 20),U i6 (O i 21)] 44 (0,0)):=(setRow_other _ _ _ _ hg0BS).trans hg0b
   have hgc':(wb.setRow (W.heap.size+1+1) #[U i6 ch,U i6 (H*V),Sl ta N tc,U i6 bi,U i6 slo,U i6 shi,U i6 (O i 19),U i6 (O i 19),U i6 x0,U i6 y0,U i6 z0,U i6 0,U i6 0,Sl (some ⟨g0,0,none⟩) 1 1,U i6 0]).heap[g]? = some (.cells cur 23 (0,0)):=(setRow_other _ _ _ _ hgBS).trans hgb
   have sd:St W (wb.setRow (W.heap.size+1+1) #[U i6 ch,U i6 (H*V),Sl ta N tc,U i6 bi,U i6 slo,U i6 shi,U i6 (O i 19),U i6 (O i 19),U i6 x0,U i6 y0,U i6 z0,U i6 0,U i6 0,Sl (some ⟨g0,0,none⟩) 1 1,U i6 0]) ((B13,#[U i6 x0,U i6 y0,U i6 z0,U i6 0,U i6 0,Sl (some ⟨g0,0,none⟩) 1 1,U i6 0],26) :: (B12,#[U i6 (O i 0),U i6 0,U i6 0,U i6 (O i 3),U i6 (O i 4),U i6 (O i 5),U i6 (O i 6),U i6 (O i 7),U i6 (O i 8),U i6 (O i 9),U i6 (O i 10),U i6 (O i 11),Sl wa lw cw,Sl ba lb cb,U i6 (O i 14),U i6 (O i 15),U i6 (O i 16),U i6 (O i 17),U i6 (O i 18),U i6 (O i 19),U i6 (O i 20),U i6 (O i 21)],44) :: (W.heap.size+1,#[U i6 slo,U i6 shi],28) :: []):=⟨hB',fun y hy=>⟨(setRow_other _ _ _ _ (by simp only [List.mem_cons,List.not_mem_nil,or_false] at hy; rcases hy with rfl | rfl | rfl<;>simp<;>omega)).trans (sb.2 y hy).1,(sb.2 y hy).2⟩⟩
   refine yR 21 ⟨sd,hgc'⟩ (by kernel_rfl) rfl rfl (U i6 0) (wb.setRow (W.heap.size+1+1) #[U i6 ch,U i6 (H*V),Sl ta N tc,U i6 bi,U i6 slo,U i6 shi,U i6 (O i 19),U i6 (O i 19),U i6 x0,U i6 y0,U i6 z0,U i6 0,U i6 0,Sl (some ⟨g0,0,none⟩) 1 1,U i6 0]) (by kernel_rfl) ?_
   refine doneC ⟨sd,hgc'⟩ (by kernel_rfl) ?_ _
   have HB':Hid (Below W.heap.size W (wb.setRow (W.heap.size+1+1) #[U i6 ch,U i6 (H*V),Sl ta N tc,U i6 bi,U i6 slo,U i6 shi,U i6 (O i 19),U i6 (O i 19),U i6 x0,U i6 y0,U i6 z0,U i6 0,U i6 0,Sl (some ⟨g0,0,none⟩) 1 1,U i6 0])):=hB'
   have HZ':Hid ((wb.setRow (W.heap.size+1+1) #[U i6 ch,U i6 (H*V),Sl ta N tc,U i6 bi,U i6 slo,U i6 shi,U i6 (O i 19),U i6 (O i 19),U i6 x0,U i6 y0,U i6 z0,U i6 0,U i6 0,Sl (some ⟨g0,0,none⟩) 1 1,U i6 0]).heap[W.heap.size+1+1]? = some (.cells #[U i6 ch,U i6 (H*V),Sl ta N tc,U i6 bi,U i6 slo,U i6 shi,U i6 (O i 19),U i6 (O i 19),U i6 x0,U i6 y0,U i6 z0,U i6 0,U i6 0,Sl (some ⟨g0,0,none⟩) 1 1,U i6 0] 95 (0,0))):=hZ'
   have HG':Hid ((wb.setRow (W.heap.size+1+1) #[U i6 ch,U i6 (H*V),Sl ta N tc,U i6 bi,U i6 slo,U i6 shi,U i6 (O i 19),U i6 (O i 19),U i6 x0,U i6 y0,U i6 z0,U i6 0,U i6 0,Sl (some ⟨g0,0,none⟩) 1 1,U i6 0]).heap[g0]? = some (.cells #[U i6 (O i 0),U i6 0,U i6 0,U i6 (O i 3),U i6 (O i 4),U i6 (O i 5),U i6 (O i 6),U i6 (O i 7),U i6 (O i 8),U i6 (O i 9),U i6 (O i 10),U i6 (O i 11),Sl wa lw cw,Sl ba lb cb,U i6 (O i 14),U i6 (O i 15),U i6 (O i 16),U i6 (O i 17),U i6 (O i 18),U i6 (O i 19),U i6 (O i 20),U i6 (O i 21)] 44 (0,0))):=hG'
   have HT':Hid (TV (wb.setRow (W.heap.size+1+1) #[U i6 ch,U i6 (H*V),Sl ta N tc,U i6 bi,U i6 slo,U i6 shi,U i6 (O i 19),U i6 (O i 19),U i6 x0,U i6 y0,U i6 z0,U i6 0,U i6 0,Sl (some ⟨g0,0,none⟩) 1 1,U i6 0]) (.slice ta N tc) TL∧∀ a,ta=some a→a.block<(wb.setRow (W.heap.size+1+1) #[U i6 ch,U i6 (H*V),Sl ta N tc,U i6 bi,U i6 slo,U i6 shi,U i6 (O i 19),U i6 (O i 19),U i6 x0,U i6 y0,U i6 z0,U i6 0,U i6 0,Sl (some ⟨g0,0,none⟩) 1 1,U i6 0]).heap.size):=⟨htvb.other (fun b e=>by have:=(htbb b e).1;omega),fun a e=>by have h9:=(htbb a.block (by rw [e];rfl)).2;have h8:=size_setRow wb (W.heap.size+1+1) #[U i6 ch,U i6 (H*V),Sl ta N tc,U i6 bi,U i6 slo,U i6 shi,U i6 (O i 19),U i6 (O i 19),U i6 x0,U i6 y0,U i6 z0,U i6 0,U i6 0,Sl (some ⟨g0,0,none⟩) 1 1,U i6 0];omega⟩
   clear hB' hZ' hG' hgc' sd sb hBSb hgb hg0b htvb htbb hb5
   go_wp2
   refine bodyPost_ret (v:=.tuple #[.agg #[U i6 ch,U i6 (H*V),Sl ta N tc,U i6 bi,U i6 slo,U i6 shi,U i6 (O i 19),U i6 (O i 19),U i6 x0,U i6 y0,U i6 z0,U i6 0,U i6 0,Sl (some ⟨g0,0,none⟩) 1 1,U i6 0],U i6 0]) (results_row_tmp Tryz.results36 _ _ (W.heap.size+1+1) 95 _ _ (U i6 0) (by kernel_rfl) HZ'.out Tryz.underlying95 rfl (by kernel_rfl) (by kernel_rfl)) (by kernel_rfl) ⟨.inr ⟨HVB.out,g0,ta,tc,rfl,HG'.out,hgW.out,HT'.out.1,HT'.out.2⟩,HB'.out⟩
 ·have her':(er == 0)=false:=by simp [her]
  go_wp2_with (refine wpList_store_row rfl 95 (.tmp 8) (.tmp 64) rfl (W.heap.size+1+1) #[U i6 0,U i6 0,Sl none 0 0,U i6 0,U i6 0,U i6 0,U i6 0,U i6 0,U i6 0,U i6 0,U i6 0,U i6 0,U i6 0,Sl none 0 0,U i6 0] rfl rfl 95 #[U i6 0,U i6 0,Sl none 0 0,U i6 0,U i6 0,U i6 0,U i6 0,U i6 0,U i6 0,U i6 0,U i6 0,U i6 0,U i6 0,Sl none 0 0,U i6 0] S11.out.h4 (by kernel_rfl) rfl (by simp [Value.oneCell']) ?_;have hZ':=setRow_heap _ (W.heap.size+1+1) #[U i6 0,U i6 0,Sl none 0 0,U i6 0,U i6 0,U i6 0,U i6 0,U i6 0,U i6 0,U i6 0,U i6 0,U i6 0,U i6 0,Sl none 0 0,U i6 0] #[U i6 0,U i6 0,Sl none 0 0,U i6 0,U i6 0,U i6 0,U i6 0,U i6 0,U i6 0,U i6 0,U i6 0,U i6 0,U i6 0,Sl none 0 0,U i6 0] 95 (0,0) S11.out.h4;have hB':Hid (Below W.heap.size W (_:World)):=below_setRow S11.out.below (show W.heap.size≤W.heap.size+1+1 by omega) #[U i6 0,U i6 0,Sl none 0 0,U i6 0,U i6 0,U i6 0,U i6 0,U i6 0,U i6 0,U i6 0,U i6 0,U i6 0,U i6 0,Sl none 0 0,U i6 0];generalize World.setRow _ _ _=w5 at hZ' hB' ⊢)
  exact bodyPost_ret (results_row_tmp Tryz.results36 _ _ (W.heap.size+1+1) 95 _ _ (U i6 er) rfl hZ' Tryz.underlying95 rfl (by kernel_rfl) rfl) rfl ⟨.inl ⟨her,rfl⟩,hB'.out⟩
open Go.ChangeShapes Go.WideShapes Go.ChangeAt Go.RowKit Go.Shelf
theorem blcells {w:World} {B:Nat} {cs:Array Value} {T:TypeId} (h:w.heap[B]? = some (.cells cs T (0,0))) {l:List Value} (hl:∀ (q:Nat) (v:Value),l[q]? = some v→cs[q]? = some v):∀ (q:Nat) (v:Value),l[q]? = some v→w.cell? ((⟨B,0,none⟩:Addr).add q)=some v:=fun q v hq=>by
 rw [Addr.add_lit,Nat.zero_add,(cells_at h).1]
 exact hl q v hq
theorem bof1 (k a b m kh kw sh sw tp lf bt rt:Int) (wa:Option Addr) (lw wc:Nat) (ba:Option Addr) (lb bc:Nat) (sm ss um us z p lo hi h w c H V C:Int) (s:Opd k b m kh kw sh sw tp lf bt rt lw lb sm ss um us z p lo hi h w c H V C) (hk:k≤4) (zs bs:List Int) (W:World) (hZ:IRow .i16 W wa lw wc zs) (hB:IRow .i32 W ba lb bc bs) (hlw:lw*2≤140737488351232) (hlb:lb*4≤140737488351232) (g:Nat) (hg:W.heap[g]? = some (.cells #[U i6 k,U i6 0,U i6 b,U i6 m,U i6 kh,U i6 kw,U i6 sh,U i6 sw,U i6 tp,U i6 lf,U i6 bt,U i6 rt,Sl wa lw wc,Sl ba lb bc,U i6 sm,U i6 ss,U i6 um,U i6 us,U i6 z,U i6 p,U i6 lo,U i6 hi] 44 (0,0))) (ch at':Int) (hch:1≤ch∧ch≤C) (hat:0≤at'∧at'<H*V) :
  Calls Tryz.prog 55 #[.agg #[U i6 h,U i6 w,U i6 c,U i6 0,U i6 0,Sl (some ⟨g,0,none⟩) 1 1,U i6 0],U i6 1,U i6 ch,U i6 at'] W fun e w'=>(∃ v,e=.returned (.tuple #[v,U i6 (biA k ch bs),U i6 0])∧OTm w' W.heap.size v (siL k kh kw sh sw tp lf bt rt h w c ch at' zs))∧Below W.heap.size W w':=by
 obtain⟨Rw,hR⟩:=alone_g (a:=0) s hk
 have hcell:∀ q v,[U i6 k,U i6 0,U i6 b,U i6 m,U i6 kh,U i6 kw,U i6 sh,U i6 sw,U i6 tp,U i6 lf,U i6 bt,U i6 rt,Sl wa lw wc,Sl ba lb bc,U i6 sm,U i6 ss,U i6 um,U i6 us,U i6 z,U i6 p,U i6 lo,U i6 hi][q]? = some v→W.cell? ((⟨g,0,none⟩:Addr).add q)=some v:=blcells hg (fun q v hq=>by simpa using hq)
 have e0:((⟨g,0,none⟩:Addr).add (0*22))=⟨g,0,none⟩:=by rw [Addr.add_lit]
 have hL:LRow W (some ⟨g,0,none⟩) 1 1 (fun _=>oL k 0 b m kh kw sh sw tp lf bt rt (lw:Int) (lb:Int) sm ss um us z p lo hi) (fun _=>zs) (fun _=>bs):=by
  refine⟨Nat.le_refl _,by unfold maxLen;omega,(fun h=>by cases h),fun x hx i hi=>?_⟩
  cases hx
  obtain rfl:i=0:=by omega
  rw [e0]
  exact⟨wa,lw,wc,ba,lb,bc,rfl,rfl,hcell,hZ,hB,hlw,hlb⟩
 have hF:Fnd W (some ⟨g,0,none⟩) 1 (fun _=>oL k 0 b m kh kw sh sw tp lf bt rt (lw:Int) (lb:Int) sm ss um us z p lo hi) (fun _=>zs) (fun _=>bs) [(h,w,c),(H,V,C)] 0 ⟨g,0,none⟩ wa lw wc ba lb bc h w c H V C :=
  ⟨by omega,rfl,rfl,rfl,fun q v hq=>by rw [e0];exact hcell q v hq,hZ,hB,rfl,rfl,s.si hk,⟨Int.le_refl _,Int.le_refl _⟩,decide_eq_true (show 1≤k∧k≤4 by have:=s.hk;omega)⟩
 exact of_ok h w c 0 0 0 (some ⟨g,0,none⟩) 1 1 (fun _=>oL k 0 b m kh kw sh sw tp lf bt rt (lw:Int) (lb:Int) sm ss um us z p lo hi) (fun _=>zs) (fun _=>bs) W hL ch at' [(h,w,c),(H,V,C)] Rw hR 0 ⟨g,0,none⟩ wa lw wc ba lb bc h w c H V C hF hch hat
theorem row_facts {k kh kw sh sw tp lf bt rt h w c H V C:Int} {lw lb:Nat} (s:Sit k kh kw sh sw tp lf bt rt h w c H V C lw lb) {zs:List Int} (hz:∀ v∈zs,(Lit.int .i16 v).wf=true) {ch:Int} (hch:1≤ch∧ch≤C) {slo shi p:Int} (hs:-128≤slo∧slo≤shi∧shi≤127) (hp:-128≤p∧p≤127) (at':Int) :
  Rb (enL slo shi p (siL k kh kw sh sw tp lf bt rt h w c ch at' zs))∧0<(enL slo shi p (siL k kh kw sh sw tp lf bt rt h w c ch at' zs)).length∧(enL slo shi p (siL k kh kw sh sw tp lf bt rt h w c ch at' zs)).length≤512:=by
 obtain⟨h1,h2⟩:=siL_facts s hz hch at'
 refine⟨enL_rb hs hp fun t ht=>(h2 t ht).1,?_,by rw [enL_len];exact h1⟩
 rw [enL_len]
 unfold siL
 rw [tmL_len]
 have:=s.2.2.2.2.2.2.2.2.1
 omega
theorem bhull_of (k a b m kh kw sh sw tp lf bt rt:Int) (wa:Option Addr) (lw wc:Nat) (ba:Option Addr) (lb bc:Nat) (sm ss um us z p lo hi h w c H V C:Int) (s:Opd k b m kh kw sh sw tp lf bt rt lw lb sm ss um us z p lo hi h w c H V C) (hk:k≤4) (zs bs:List Int) (W:World) (hZ:IRow .i16 W wa lw wc zs) (hB:IRow .i32 W ba lb bc bs) (hlw:lw*2≤140737488351232) (hlb:lb*4≤140737488351232) (g:Nat) (hg:W.heap[g]? = some (.cells #[U i6 k,U i6 0,U i6 b,U i6 m,U i6 kh,U i6 kw,U i6 sh,U i6 sw,U i6 tp,U i6 lf,U i6 bt,U i6 rt,Sl wa lw wc,Sl ba lb bc,U i6 sm,U i6 ss,U i6 um,U i6 us,U i6 z,U i6 p,U i6 lo,U i6 hi] 44 (0,0))) (ch:Int) (hch:1≤ch∧ch≤C)
  (fa:Option Addr) (fl fc:Nat) (bi slo shi:Int) (hF0:TV W (.slice fa fl fc) (siL k kh kw sh sw tp lf bt rt h w c ch 0 zs)) (hfa:∀ a,fa=some a→a.block<W.heap.size) (hs:-128≤slo∧slo≤shi∧shi≤127) (hp:-128≤p∧p≤127) (q:Nat) (hq:W.heap[q]? = some (.cells #[U i6 ch,U i6 (H*V),Sl fa fl fc,U i6 bi,U i6 slo,U i6 shi,U i6 p,U i6 p,U i6 h,U i6 w,U i6 c,U i6 0,U i6 0,Sl (some ⟨g,0,none⟩) 1 1,U i6 0] 95 (0,0))) (F:List (Int×Int)→List (Int×Int)) (gf:Nat) (cl:Array Value)
  (eg:∀ args w,(callFunc gf args).run Tryz.prog w=.ok (.enter gf args) w)
  (hP:Pik W gf cl F)
  (hF:∀ E,Rb E→0<E.length→E.length≤512→∀ x∈F E,Vd 10000000000 x) :
  Calls Tryz.prog 37 #[.pointer (some ⟨q,0,none⟩),.func (.func gf) #[] cl] W fun e w'=>e=.returned (.agg #[U i6 (huA (piT F (fun (j:Nat)=>enL slo shi p (siL k kh kw sh sw tp lf bt rt h w c ch (j:Int) zs)) (H*V).toNat)).1,U i6 (huA (piT F (fun (j:Nat)=>enL slo shi p (siL k kh kw sh sw tp lf bt rt h w c ch (j:Int) zs)) (H*V).toNat)).2])∧Below W.heap.size W w':=by
 have hS:=s.si hk
 have hz:=hZ.2.2.2.1
 have hvb:=vS_bd s.hB
 have hN:H*V=((H*V).toNat:Int):=by omega
 have hf:∀ j:Nat,_:=fun j=>row_facts hS hz hch hs hp (j:Int)
 have hfl:fl=(stR k kh kw h w c).toNat:=by
  obtain⟨a,cap,e,-⟩:=hF0
  have:=(Value.slice.inj e).2.1
  rw [this]
  unfold siL
  rw [tmL_len]
 have hst:=hS.2.2.2.2.2.2.2.2
 refine bhull_any q ch (H*V) fa fl fc bi slo shi p h w c g (fun (j:Nat)=>siL k kh kw sh sw tp lf bt rt h w c ch (j:Int) zs) (H*V).toNat hN (by omega) (by omega) (fun j _=>by unfold siL;rw [tmL_len,hfl]) (fun (j:Nat)=>enL slo shi p (siL k kh kw sh sw tp lf bt rt h w c ch (j:Int) zs)) rfl F gf cl W hq (fun W' j hb hj=>?_) (fun W' j t hb hj ht=>?_) eg (fun W' v j nb b L hb hj hv hn hb' hT hL=>hP W' v _ L nb b hb (hf j).1 (hf j).2.1 (hf j).2.2 hv hn hb' hT hL) (fun j hj=>hF _ (hf j).1 (hf j).2.1 (hf j).2.2)
 ·refine bterms_any ch (H*V) fa fl fc bi slo shi p h w c g q W' ((hb.block q (lt_of_heap hq)).trans hq) W.heap.size (j:Int) _ _ ?_ hfa (fun _ W'' hb'=>bof1 k a b m kh kw sh sw tp lf bt rt wa lw wc ba lb bc sm ss um us z p lo hi h w c H V C s hk zs bs W'' ((hZ.below hb).below hb') ((hB.below hb).below hb') hlw hlb g ((hb'.block g (by have:=lt_of_heap hg;have:=hb.size;omega)).trans ((hb.block g (lt_of_heap hg)).trans hg)) ch (j:Int) hch ⟨by omega,by omega⟩)
  by_cases q0:j=0
  ·subst q0
   exact .inl (hF0.below hb)
  ·exact .inr (by omega)
 ·obtain⟨h1,h2⟩:=siL_facts hS hz hch (j:Int)
  exact bprod_any ch (H*V) fa fl fc bi slo shi p h w c g q W' ((hb.block q (lt_of_heap hq)).trans hq) t hs hp (h2 t ht).1
attribute [local go_sem] Oper.semAt_some
theorem vd_bi {bi:Int} (h:-2147483648≤bi∧bi≤2147483647):Vd 4294967296 (bi,bi):=by unfold Vd;simp only;omega
theorem app_vd {L M:List (Int×Int)} (h:∀ y∈L,Vd 10000000000 y) (g:∀ y∈M,Vd 10000000000 y):∀ y∈L++M,Vd 10000000000 y:=fun y hy=>by
 rcases List.mem_append.1 hy with q | q
 ·exact h y q
 ·exact g y q
theorem getD_vd {E:List (Int×Int)} (hE:Rb E) {k:Nat} (hk:k<E.length):Vd 10000000000 (E.getD k (0,0)):=by
 rw [List.getD_eq_getElem?_getD,List.getElem?_eq_getElem hk]
 exact hE.vd _ (List.getElem_mem _)
theorem ctot_any (ch n:Int) (fa:Option Addr) (fl fc:Nat) (bi slo shi p h w c:Int) (g0:Nat) (q:Nat) (W:World) (hq:W.heap[q]? = some (.cells #[U i6 ch,U i6 n,Sl fa fl fc,U i6 bi,U i6 slo,U i6 shi,U i6 p,U i6 p,U i6 h,U i6 w,U i6 c,U i6 0,U i6 0,Sl (some ⟨g0,0,none⟩) 1 1,U i6 0] 95 (0,0))) (hbi:-2147483648≤bi∧bi≤2147483647) (v:Value) (E L:List (Int×Int)) (nb b:Nat) (hE:Rb E) (h0:0<E.length) (hl:E.length≤512) (hv:SpV W v E) (hn:Nb nb v) (hb:b+1≤nb) (hT:Tk W b L) (hL:∀ y∈L,Vd 10000000000 y) :
  Calls Tryz.prog 38 #[v,fTk b,.pointer (some ⟨q,0,none⟩)] W fun e w'=>(∃ u,e=.returned u)∧Tk w' b (L++[suS (bi,bi) E])∧Tch b W w':=by
 obtain⟨y1,y2,y3⟩:=cells_at hq
 obtain⟨va,vc,rfl,h2,h3,h4⟩:=hv
 obtain⟨N,hN⟩:∃ N,E.length=N:=⟨_,rfl⟩
 have HB:Hid (∀ (x:Int×Int) (w:World),Tk w b L→Vd 10000000000 x→_):=fun x w t hx=>btake_any b x L w t hL hx
 have HV:Hid (∀ k,k<N→Vd 10000000000 (E.getD k (0,0))):=fun k hk=>getD_vd hE (by omega)
 have HW:Hid (∀ k,k≤N→Vd 10000000000 (suS (bi,bi) (E.take k))):=fun k hk=>suS_vd (hE.take k) (by rw [List.length_take];omega) (vd_bi hbi)
 have HN:Hid (E.length=N):=hN
 have HT:Hid (Tk W b L):=hT
 have hbz:=hT.lt
 rw [hN] at h2 h4 hl ⊢
 have H4:Hid (0<N→_):=h4
 unfold maxLen at h3
 clear h4 hN hE hn hT hL h0 hbi hq
 unfold fTk
 go_enter Tryz.func38,Tryz.ntmps38
 go_wp2_with fail
 refine (bone_any _ _).mono ?_
 rintro e w1 ⟨rfl,hb1⟩
 have s1:=((St.start W).call hb1).new (c:=#[U i6 bi,U i6 bi]) (t:=28)
 have hz1w:=hb1.size
 obtain⟨B,hB⟩:∃ B,w1.heap.size=B:=⟨_,rfl⟩
 rw [hB] at s1 hz1w
 go_upto_region 1 with fail
 obtain⟨w2,hw2⟩:∃ w2,w1.alloc (.cells #[U i6 bi,U i6 bi] 28)=w2:=⟨_,rfl⟩
 rw [hw2] at s1 ⊢
 have S1:Hid (St W w2 [(B,#[U i6 bi,U i6 bi],28)]):=s1
 clear hw2 s1 y1 y2 y3 hb1
 clear hB
 go_wp2
 go_loopw [13] (fun i wr=>∃ k:Nat,k≤N∧i=U i6 k∧St W wr [(B,#[U i6 (suS (bi,bi) (E.take k)).1,U i6 (suS (bi,bi) (E.take k)).2],28)]) (fun i _=>N-(intOf i).toNat)
 case atStart=>exact⟨0,Nat.zero_le _,rfl,S1.out⟩
 case round =>
  obtain⟨k,hk,rfl,s⟩:=hrel
  clear S1
  have hzr:=s.size
  by_cases hlt:k<N
  ·obtain⟨g,o,rfl,hc⟩:=H4.out (by omega)
   have hkE:k<E.length:=by rw [HN.out];exact hlt
   obtain⟨q1,q2⟩:=SpV.at hc hkE
   have hve:=HV.out k hlt
   have hvs:=HW.out k hk
   obtain⟨e1,e2,he⟩:∃ e1 e2,E.getD k (0,0)=(e1,e2):=⟨_,_,rfl⟩
   obtain⟨m1,m2,hm⟩:∃ m1 m2,suS (bi,bi) (E.take k)=(m1,m2):=⟨_,_,rfl⟩
   have HS:Hid (suS (bi,bi) (E.take (k+1))=(m1+e1,m2+e2)):=by unfold Hid;rw [suS_take _ hkE he,hm];rfl
   rw [he] at q1 q2 hve
   rw [hm] at s hvs
   simp only at q1 q2 s
   have HP:Hid (∀ w,_):=fun w=>bplus_ok (m1,m2) (e1,e2) w hvs hve
   have p1:=(s.below.cell (World.block_lt_of_cell? W _ q1)).trans q1
   have p2:=(s.below.cell (World.block_lt_of_cell? W _ q2)).trans q2
   have S:Hid (St W wr [(B,#[U i6 m1,U i6 m2],28)]):=s
   obtain⟨c1,f1,z1,-⟩:=s.rules
   clear q1 q2 hc he hm hve hvs s H4 HV HB HT hkE
   go_wp2_with fail
   refine (HP.out _).mono ?_
   rintro e w3 ⟨rfl,hb3⟩
   have s3:=(S.out.skip (.cells #[U i6 e1,U i6 e2] 28)).call hb3
   have S4:Hid (St W _ _):=s3.set2 (u:=U i6 (m1+e1)) (v:=U i6 (m2+e2)) (by simp)
   clear c1 f1 z1 p1 p2 S hb3
   obtain⟨c1,f1,z1,-⟩:=s3.rules
   clear s3
   simp only [plS]
   go_wp2
   go_roundw
   case rel=>exact⟨k+1,by omega,by go_num,by rw [HS.out];exact S4.out⟩
   case measure=>simp [intOf];omega
  ·obtain rfl:k=N:=by omega
   have hvs:=HW.out k (Nat.le_refl _)
   rw [List.take_of_length_le (by rw [HN.out];exact Nat.le_refl _)] at s hvs
   obtain⟨m1,m2,hm⟩:∃ m1 m2,suS (bi,bi) E=(m1,m2):=⟨_,_,rfl⟩
   have HM:Hid (suS (bi,bi) E=(m1,m2)):=hm
   rw [hm] at s hvs
   simp only at s
   obtain⟨c1,f1,z1,-⟩:=s.rules
   have HC:Hid (Calls _ _ _ _ _):=HB.out (m1,m2) wr (HT.out.below s.below) hvs
   have TC:Hid (Tch b W wr):=Tch.of s.below
   clear hm hvs s H4 HV HB HT HW
   go_wp2_with fail
   refine HC.out.mono ?_
   rintro e w3 ⟨⟨u,rfl⟩,tk3,tc3⟩
   have T3:Hid (Tk w3 b (L++[suS (bi,bi) E])):=by unfold Hid;rw [HM.out];exact tk3
   have C3:Hid (Tch b W w3):=TC.out.trans tc3
   clear tk3 tc3 HC TC c1 f1 z1
   go_wp2
   go_end0
   exact⟨⟨_,rfl⟩,T3.out,C3.out⟩
attribute [local go_sem] Oper.semAt_some
def inT (C:List (Int×Int)) (n:Nat):List (Int×Int):=(List.range n).flatMap fun i=>[suS (0,0) (C.take (i+1)),C.getD i (0,0)]
theorem inT_succ (C:List (Int×Int)) (n:Nat):inT C (n+1)=inT C n++[suS (0,0) (C.take (n+1)),C.getD n (0,0)]:=by unfold inT;rw [List.range_succ,List.flatMap_append];simp
theorem mem_inT {C:List (Int×Int)} {x:Int×Int}:x∈inT C C.length ↔ x∈(ruL (0,0) C).tail∨x∈C:=by
 unfold inT
 simp only [List.mem_flatMap,List.mem_range,List.mem_cons,List.not_mem_nil,or_false]
 rw [mem_ruL_tail]
 constructor
 ·rintro⟨i,hi,rfl | rfl⟩
  ·exact .inl ⟨i+1,by omega,by omega,rfl⟩
  ·refine .inr ?_
   rw [List.getD_eq_getElem?_getD,List.getElem?_eq_getElem hi]
   exact List.getElem_mem _
 ·rintro (⟨j,h0,h1,rfl⟩ | h)
  ·exact⟨j-1,by omega,.inl (by rw [show j-1+1=j by omega])⟩
  ·obtain⟨i,hi,rfl⟩:=List.getElem_of_mem h
   exact⟨i,hi,.inr (by rw [List.getD_eq_getElem?_getD,List.getElem?_eq_getElem hi];rfl)⟩
def itT (d:Nat) (E:List (Int×Int)) (k:Nat):List (Int×Int):=(List.range k).flatMap fun j=>inT (chk d E j) (chk d E j).length
theorem itT_succ (d:Nat) (E:List (Int×Int)) (k:Nat):itT d E (k+1)=itT d E k++inT (chk d E k) (chk d E k).length:=by unfold itT;rw [List.range_succ,List.flatMap_append];simp
def itL (d:Nat) (E:List (Int×Int)):List (Int×Int):=itT d E (chN d E.length)
theorem mem_chk {d:Nat} {E:List (Int×Int)} {x:Int×Int} (hd:0<d):x∈E ↔ ∃ k,k<chN d E.length∧x∈chk d E k:=by
 constructor
 ·intro h
  obtain⟨i,hi,rfl⟩:=List.getElem_of_mem h
  have hm:=Nat.mod_lt i hd
  have hdm:=Nat.div_add_mod i d
  rw [Nat.mul_comm] at hdm
  refine⟨i / d,(chN_lt hd).2 (by omega),?_⟩
  refine List.mem_of_getElem? (i:=i % d) ?_
  unfold chk
  rw [List.getElem?_take,if_pos hm,List.getElem?_drop,hdm,List.getElem?_eq_getElem hi]
 ·rintro⟨k,-,h⟩
  exact List.mem_of_mem_drop (List.mem_of_mem_take h)
theorem mem_itL {d:Nat} {E:List (Int×Int)} {x:Int×Int} (hd:0<d):x∈itL d E ↔ x∈paL d E++E:=by
 rw [List.mem_append,mem_chk (x:=x) (E:=E) hd]
 unfold itL itT paL paT
 simp only [List.mem_flatMap,List.mem_range,mem_inT]
 constructor
 ·rintro⟨k,hk,h | h⟩
  ·exact .inl ⟨k,hk,h⟩
  ·exact .inr ⟨k,hk,h⟩
 ·rintro (⟨k,hk,h⟩ | ⟨k,hk,h⟩)
  ·exact⟨k,hk,.inl h⟩
  ·exact⟨k,hk,.inr h⟩
theorem chk_rb {d k:Nat} {E:List (Int×Int)} (h:Rb E):Rb (chk d E k):=(h.drop _).take _
theorem inT_vd {C:List (Int×Int)} (hC:Rb C) (hl:C.length≤512) (n:Nat) (hn:n≤C.length):∀ x∈inT C n,Vd 10000000000 x:=fun x hx=>by
 unfold inT at hx
 simp only [List.mem_flatMap,List.mem_range,List.mem_cons,List.not_mem_nil,or_false] at hx
 obtain⟨i,hi,rfl | rfl⟩:=hx
 ·exact suS_vd (hC.take _) (by rw [List.length_take];omega) (by unfold Vd;simp)
 ·exact getD_vd hC (by omega)
theorem itT_vd {d:Nat} {E:List (Int×Int)} (hE:Rb E) (hl:E.length≤512) (k:Nat):∀ x∈itT d E k,Vd 10000000000 x:=fun x hx=>by
 unfold itT at hx
 obtain⟨j,-,h⟩:=List.mem_flatMap.1 hx
 exact inT_vd (chk_rb hE) (by rw [chk_len];omega) _ (Nat.le_refl _) x h
theorem SB.turn {b:Nat} {w0 w w':World} {l:List (Nat×Array Value×TypeId)} {row:Option Nat} (h:SB b w0 w l) (g:w.grownBy w' row) (hr:∀ r,row=some r→w0.heap.size≤r∧∀ x∈l,x.1≠r):SB b w0 w' l :=
 ⟨⟨g.os.trans h.1.1,g.tape.trans h.1.2.1,g.output.trans h.1.2.2.1,Nat.le_trans h.1.size g.size,fun i hi h1=>(g.block i (Nat.lt_of_lt_of_le hi h.1.size) (fun e=>by have:=(hr i e.symm).1;omega)).trans (h.1.2.2.2.2 i hi h1)⟩,fun x hx=>⟨(g.block x.1 (lt_of_heap (h.2 x hx).1) (fun e=>(hr x.1 e.symm).2 x hx rfl)).trans (h.2 x hx).1,(h.2 x hx).2⟩⟩
theorem SB.sub {b:Nat} {w0 w:World} {l l':List (Nat×Array Value×TypeId)} (h:SB b w0 w l) (hs:∀ x∈l',x∈l):SB b w0 w l':=⟨h.1,fun x hx=>h.2 x (hs x hx)⟩
theorem SB.up1 {b:Nat} {w0 w:World} {x y:Nat×Array Value×TypeId} {l:List (Nat×Array Value×TypeId)} (h:SB b w0 w (x :: y :: l)):SB b w0 w (y :: x :: l) :=
 h.sub fun z hz=>by simp only [List.mem_cons] at *; rcases hz with h | h | h<;>simp [h]
theorem cprt_any (W:World) (d q:Nat) (hq:W.heap[q]? = some (.cells #[U i6 (d:Int)] 3 (0,0))) (hd:0<d) (hd2:d≤512) (v:Value) (E L:List (Int×Int)) (nb b:Nat) (hE:Rb E) (h0:0<E.length) (hl:E.length≤512) (hv:SpV W v E) (hn:Nb nb v) (hb:b+1≤nb) (hT:Tk W b L) (hL:∀ y∈L,Vd 10000000000 y) :
  Calls Tryz.prog 88 #[v,fTk b,.pointer (some ⟨q,0,none⟩)] W fun e w'=>(∃ u,e=.returned u)∧Tk w' b (L++itL d E)∧Tch b W w':=by
 have hbz:=hT.lt
 have s0:=(St.start W).new (c:=#[fTk b]) (t:=99)
 have HT:Hid (Tk W b L):=hT
 have HCh:Hid (∀ W1,Below W.heap.size W W1→_):=fun W1 hw=>chunk_any 0 nb d v E W1 (hv.below hw) hn hd hd2 hl (Nat.zero_le _)
 have HBk:Hid (∀ (k j:Nat) (x:Int×Int) (w:World),j≤(chk d E k).length→Tk w b (L++itT d E k++inT (chk d E k) j)→Vd 10000000000 x→_):=fun k j x w hj t hx=>btake_any b x _ w t (app_vd (app_vd hL (itT_vd hE hl k)) (inT_vd (chk_rb hE) (by rw [chk_len];omega) j hj)) hx
 have HBl:Hid (∀ (k j:Nat) (x y:Int×Int) (w:World),j≤(chk d E k).length→Vd 10000000000 y→Tk w b (L++itT d E k++inT (chk d E k) j++[y])→Vd 10000000000 x→_):=fun k j x y w hj hy t hx=>btake_any b x _ w t (app_vd (app_vd (app_vd hL (itT_vd hE hl k)) (inT_vd (chk_rb hE) (by rw [chk_len];omega) j hj)) (fun z hz=>by simp at hz;subst hz;exact hy)) hx
 have HCv:Hid (∀ k j,j<(chk d E k).length→Vd 10000000000 ((chk d E k).getD j (0,0))):=fun k j hj=>getD_vd (chk_rb hE) hj
 have HCs:Hid (∀ k j,Vd 10000000000 (suS (0,0) ((chk d E k).take j))):=fun k j=>suS_vd ((chk_rb hE).take j) (by rw [List.length_take,chk_len];omega) (by unfold Vd;simp)
 have HCl:Hid (∀ k,(chk d E k).length≤512):=fun k=>by rw [chk_len];omega
 have HV:Hid (SpV W v E∧Nb nb v):=⟨hv,hn⟩
 have HSv:Hid (∀ W',Tch b W W'→SpV W' v E):=fun W' h=>hv.tch hn hb h
 obtain⟨y1,y2,y3⟩:=cells_at hq
 obtain⟨va,vc,hve,-⟩:=id hv
 clear hv hE hn hT hL
 rw [hve] at HCh HSv ⊢
 have HVe:Hid (v=_):=hve
 clear hve
 unfold fTk at s0 ⊢
 have hfn:∀ f,Fence.wide.fn f:=fun _=>trivial
 have hdp:Fence.wide.depth=none:=rfl
 refine (callsIn_wide (n:=3)).1 ?_
 refine callsIn_of_wp_marks Tryz.func88 rfl trivial ?_ rfl
 simp only [Tryz.ntmps88,List.size_toArray,List.length_cons,List.length_nil,Nat.reduceAdd,Nat.reduceSub,Array.replicate_succ,Array.replicate_zero,List.push_toArray,List.append_toArray,List.nil_append,List.cons_append]
 refine wpIn_wide.2 ?_
 go_wp2_with fail
 refine (HCh.out _ s0.below).mono ?_
 rintro e w5 ⟨⟨lb,rfl,hsq⟩,hb5,hz5⟩
 simp only [World.size_alloc] at hsq hz5
 have HT5:Hid (Tk w5 b L):=(HT.out.below (bal W (.cells #[.pointer (some ⟨b,0,none⟩)] 99))).below hb5
 have HS5:Hid (SB b W w5 [(W.heap.size,#[.pointer (some ⟨b,0,none⟩)],99)]):=SB.of (s0.call hb5)
 have HSQ:Hid (Sq _ _ _ _ w5 _ _ _):=hsq
 clear hsq s0 hb5 HCh y1 y2 y3 HT
 go_wp2
 refine (wpIn_wide (n:=5)).1 ?_
 refine range_sq HSQ.out rfl rfl (by omega) (Nat.zero_le _)
  (fun k W'=>SB b W W' [(W.heap.size,#[.pointer (some ⟨b,0,none⟩)],99)]∧Tk W' b (L++itT d E k)∧w5.heap.size≤W'.heap.size)
  ?own (fun k W' h=>HSv.out W' h.1.1) ⟨HS5.out,by simpa [itT] using HT5.out,Nat.le_refl _⟩ ?a₁ ?assign ?body ?done
 case own =>
  rintro k A B row ⟨h1,h2,h3⟩ hg hr
  have hz:=HS5.out.size
  have hz5:=lt_of_heap HS5.out.h1
  exact⟨h1.turn hg (fun r e=>⟨by have:=hr r e;omega,fun x hx=>by obtain rfl:x=_:=List.mem_singleton.1 hx;have:=hr r e;simp only;omega⟩),h2.turn hg (fun r e=>by have:=hr r e;omega),Nat.le_trans h3 hg.size⟩
 case assign =>
  intro l x W' K hK
  gi_wp2
  exact hK
 case done =>
  rintro D W' hD ⟨h1,h2,h3⟩ hK
  have hz:=HS5.out.size
  have HF:Hid (Tk (W'.putObj D (.deferred none)) b (L++itL d E)):=h2.turn (grownBy_putObj' _ D (.deferred none)) (fun r e=>by cases e;omega)
  have HG:Hid (Tch b W (W'.putObj D (.deferred none))):=(h1.turn (grownBy_putObj' _ D (.deferred none)) (fun r e=>by cases e;exact⟨by omega,fun x hx=>by obtain rfl:x=_:=List.mem_singleton.1 hx;have:=lt_of_heap HS5.out.h1;simp only;omega⟩)).1
  clear h1 h2
  go_wp2
  refine⟨by simp,.inl ⟨_,_,rfl,run_takeDeferred hK,?_⟩⟩
  exact⟨.tuple #[],by simp [results,Tryz.f88,go_sem],⟨_,rfl⟩,HF.out,HG.out⟩
 case body =>
  rintro l k x W' ⟨h1,h2,h3⟩ hk hx hxn
  obtain⟨xa,xc,hxe,-,x3,x4⟩:=hx
  subst hxe
  have HA:Hid _:=HBk.out k
  have HBb:Hid _:=HBl.out k
  have HV1:Hid _:=HCv.out k
  have HV2:Hid _:=HCs.out k
  have hM1:=HCl.out k
  have HI:Hid _:=itT_succ d E k
  obtain⟨C,hC⟩:∃ C,chk d E k=C:=⟨_,rfl⟩
  obtain⟨M,hM⟩:∃ M,C.length=M:=⟨_,rfl⟩
  rw [hC] at HA HBb HV1 HV2 hM1 HI x4 hxn ⊢
  rw [hM] at HA HBb HV1 hM1 HI x4 hxn ⊢
  have X4:Hid (0<M→_):=x4
  have HXn:Hid (Nb nb (.slice xa M xc)):=hxn
  have HM:Hid (C.length=M):=hM
  have HS0:Hid (SB b W W' [(W.heap.size,#[.pointer (some ⟨b,0,none⟩)],99)]):=h1
  have HT0:Hid (Tk W' b (L++itT d E k)):=h2
  have hz:=HS5.out.size
  obtain⟨c1,f1,z1,-⟩:=h1.rules
  unfold maxLen at x3
  have s1:=h1.new (c:=#[U i6 0,U i6 0]) (t:=28)
  have t1:=h2.below (bal W' (.cells #[U i6 0,U i6 0] 28))
  have k1:Hid (Tch b W' _):=Tch.of (bal W' (.cells #[U i6 0,U i6 0] 28))
  have S1:Hid (SB b W _ _):=s1
  have T1:Hid (Tk _ b _):=t1
  clear h1 h2 s1 t1 x4 hxn hC hM HSQ HS5 HT5 HBk HBl HCv HCs HCl HS0 HT0
  gi_wp2
  gi_loopw [15] (fun i wr=>∃ j:Nat,j≤M∧i=U i6 j∧SB b W wr [(W'.heap.size,#[U i6 (suS (0,0) (C.take j)).1,U i6 (suS (0,0) (C.take j)).2],28),(W.heap.size,#[.pointer (some ⟨b,0,none⟩)],99)]∧Tk wr b (L++itT d E k++inT C j)∧Tch b W' wr) (fun i _=>M-(intOf i).toNat)
  case atStart=>exact⟨0,Nat.zero_le _,rfl,S1.out,by simpa [inT] using T1.out,k1.out⟩
  case round =>
   obtain⟨j,hj,rfl,s,tk,tc⟩:=hrel
   clear S1 T1 k1 c1 f1 z1
   have hzr:=tc.size
   by_cases hlt:j<M
   ·obtain⟨g,o,rfl,hc⟩:=X4.out (by omega)
    have hjC:j<C.length:=by rw [HM.out];exact hlt
    obtain⟨q1,q2⟩:=SpV.at hc hjC
    have hg:nb≤g:=HXn.out ⟨g,o,none⟩ _ _ rfl
    have hve:=HV1.out j hlt
    have hvs:=HV2.out j
    have hvn:=HV2.out (j+1)
    obtain⟨e1,e2,he⟩:∃ e1 e2,C.getD j (0,0)=(e1,e2):=⟨_,_,rfl⟩
    obtain⟨m1,m2,hm⟩:∃ m1 m2,suS (0,0) (C.take j)=(m1,m2):=⟨_,_,rfl⟩
    have HS:Hid (suS (0,0) (C.take (j+1))=(m1+e1,m2+e2)):=by unfold Hid;rw [suS_take _ hjC he,hm];rfl
    have HR:Hid (L++itT d E k++inT C (j+1)=(L++itT d E k++inT C j++[(m1+e1,m2+e2)])++[(e1,e2)]):=by unfold Hid;rw [inT_succ,HS.out,he];simp
    rw [he] at q1 q2 hve
    rw [hm] at s hvs
    rw [HS.out] at hvn
    simp only at q1 q2 s
    have HP:Hid (∀ w,_):=fun w=>bplus_ok (m1,m2) (e1,e2) w hvs hve
    have HA1:Hid (∀ w,Tk w b (L++itT d E k++inT C j)→_):=fun w t=>HA.out j (m1+e1,m2+e2) w hj t hvn
    have HA2:Hid (∀ w,Tk w b (L++itT d E k++inT C j++[(m1+e1,m2+e2)])→_):=fun w t=>HBb.out j (e1,e2) (m1+e1,m2+e2) w hj hvn t hve
    have p1:=tc.cell q1 (by omega)
    have p2:=tc.cell q2 (by omega)
    have S:Hid (SB b W wr [(W'.heap.size,#[U i6 m1,U i6 m2],28),(W.heap.size,#[.pointer (some ⟨b,0,none⟩)],99)]):=s
    have TK:Hid (Tk wr b (L++itT d E k++inT C j)):=tk
    obtain⟨c1,f1,z1,c2,f2,z2,-⟩:=s.rules
    clear q1 q2 hc he hm hve hvs hvn s tk X4 HA HBb HV1 HV2 hjC
    gi_wp2_with fail
    refine (CallsIn.inRound l (callsIn_wide.2 (HP.out _))).mono ?_
    rintro e w3 ⟨rfl,hb3⟩
    have s3:=(S.out.new (c:=#[U i6 e1,U i6 e2]) (t:=28)).call hb3
    have t3:=(TK.out.below (bal wr (.cells #[U i6 e1,U i6 e2] 28))).below hb3
    have s4:=s3.up1.set2 (u:=U i6 (m1+e1)) (v:=U i6 (m2+e2)) (by simp;omega)
    have t4:=(t3.set (B:=W'.heap.size) (i:=0) (v:=U i6 (m1+e1)) (by omega)).set (B:=W'.heap.size) (i:=1) (v:=U i6 (m2+e2)) (by omega)
    have k4:=((tc.bel (bal wr (.cells #[U i6 e1,U i6 e2] 28))).bel hb3).set (B:=W'.heap.size) (i:=0) (v:=U i6 (m1+e1)) (.inr (Nat.le_refl _)) |>.set (B:=W'.heap.size) (i:=1) (v:=U i6 (m2+e2)) (.inr (Nat.le_refl _))
    have S4:Hid (SB b W _ _):=s4
    have K4:Hid (Tch b W' _):=k4
    have HC:Hid (Calls _ _ _ _ _):=HA1.out _ t4
    clear c1 f1 z1 c2 f2 z2 p1 p2 S hb3 t3 t4 TK HA1 tc k4
    obtain⟨c1,f1,z1,c2,f2,z2,c3,f3,z3,-⟩:=s3.rules
    clear s3 s4
    simp only [plS]
    gi_wp2_with fail
    refine (CallsIn.inRound l (callsIn_wide.2 HC.out)).mono ?_
    rintro e w5' ⟨⟨u,rfl⟩,tk5,tc5⟩
    have s5:=S4.out.take tc5 hbz
    have S5:Hid (SB b W w5' _):=s5
    have K5:Hid (Tch b W' w5'):=K4.out.trans tc5
    have HC2:Hid (Calls _ _ _ _ _):=HA2.out w5' tk5
    clear c1 f1 z1 c2 f2 z2 c3 f3 z3 HC S4 K4 tk5 tc5 HA2
    obtain⟨c1,f1,z1,c2,f2,z2,c3,f3,z3,-⟩:=s5.rules
    clear s5
    gi_wp2_with fail
    refine (CallsIn.inRound l (callsIn_wide.2 HC2.out)).mono ?_
    rintro e w7 ⟨⟨u,rfl⟩,tk7,tc7⟩
    have S7:Hid (SB b W w7 [(W'.heap.size,#[U i6 (m1+e1),U i6 (m2+e2)],28),(W.heap.size,#[.pointer (some ⟨b,0,none⟩)],99)]):=(S5.out.take tc7 hbz).sub fun x hx=>by
     simp only [List.mem_cons,List.not_mem_nil,or_false] at hx ⊢
     rcases hx with h | h
     ·exact .inl h
     ·exact .inr (.inr h)
    have K7:Hid (Tch b W' w7):=K5.out.trans tc7
    have T7:Hid (Tk w7 b _):=tk7
    clear c1 f1 z1 c2 f2 z2 c3 f3 z3 HC2 S5 K5 tk7 tc7
    gi_wp2
    go_roundw
    case rel=>exact⟨j+1,by omega,by go_num,by rw [HS.out];exact S7.out,by rw [HR.out];exact T7.out,K7.out⟩
    case measure=>simp [intOf];omega
   ·obtain rfl:j=M:=by omega
    have SF:Hid (SB b W wr [(W.heap.size,#[.pointer (some ⟨b,0,none⟩)],99)]):=s.tail
    have TF:Hid (Tk wr b (L++itT d E (k+1))):=by unfold Hid;rw [HI.out,← List.append_assoc];exact tk
    have KF:Hid (Tch b W' wr):=tc
    clear s tk tc X4
    gi_wp2
    exact⟨KF.out.from (by omega),KF.out.kps (Nat.zero_le _) (Nat.zero_le _) (by simp;omega),KF.out.kx (fun a n c e=>by have:=HXn.out a n c e;omega),SF.out,TF.out,by omega⟩
end Go.Proofs.YtgjcjhnnopandaaGreat
