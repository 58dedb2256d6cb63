/- What find of package bound returns of a channel that is there. The document's size of a number, and a size with a sign: for every argument that fits its type. Quotients rounded half away from zero, as plain numbers. What the inner functions of package fixq, Shift, Mean and Finish return: each for every argument that fits its type. What Valid and Apply of package fixq return: each for every argument that fits its type. What an op makes of its tensors, in plain numbers; what is known of each op of a well-formed model; an op alone. The hulls of a channel: of an op alone, whatever is picked; what is picked by the four calls. -/
import Derived.Test.YtccoanknofhmaaaGreatGq01
import Derived.Test.YtccoanknofhmaaaGreatGq15
import Derived.Test.YtccoanknofhmaaaGreatGq22
import Derived.BigQuiet
import Derived.Below
import Derived.WalkSmall
namespace Go.Proofs.YtccoanknofhmaaaGreat
open Go.Value renaming int → U, slice → Sl
open Go.IntKind renaming i64 → i6
set_option maxRecDepth 100000
set_option maxHeartbeats 16000000
open Go.ChangeShapes Go.WideShapes Go.ChangeAt Go.RowKit
set_option linter.unusedVariables false
theorem wl1 {P:Program} {ops:Array Oper} {rest:List Oper} {o:Oper} {a:Act} {w:World} {Q:Exit→Act→World→Prop} (hg:o.guard=none) (dst:Option Tmp) (hdst:o.dst=dst)
  (v:Value) (w':World) (hrun:(execOp a.eval o).run P w=.ok (.value v) w') (h:wpList P ops Q rest (a.put dst v) w'):wpList P ops Q (o :: rest) a w:=by
 subst hdst
 refine wpList_plain hg fun K hK=>?_
 unfold Oper.wp
 rw [hrun,Oper.upon_value]
 exact hK _ _ h
theorem TV.other {w:World} {v:Value} {L:List (Int×Int)} {B:Nat} {cs:Array Value} (h:TV w v L) (hB:∀ b,v.ownBlock=some b→b≠B):TV (w.setRow B cs) v L:=by
 obtain⟨a,cap,rfl,h2,h3,h4⟩:=h
 refine⟨a,cap,rfl,h2,h3,fun h0=>?_⟩
 obtain⟨g,rfl,hc⟩:=h4 h0
 exact⟨g,rfl,fun j u hj=>(World.cell?_of_block (setRow_other _ _ _ _ (hB g rfl))).trans (hc j u hj)⟩
theorem size_setRow (w:World) (B:Nat) (cs:Array Value):w.heap.size≤(w.setRow B cs).heap.size:=(below_setRow (Below.refl 0 w) (Nat.zero_le _) cs).size
theorem bfind_r (h w c lo hi ot ch:Int) (x:Addr) (on oc i:Nat) (O:Nat→Nat→Int) (W:World) (hM:MRow W (some x) on oc O) (hi0:i<on) (wa:Option Addr) (lw cw:Nat) (ba:Option Addr) (lb cb:Nat)
  (hcell:∀ q v,[U i6 (O i 0),U i6 (O i 1),U i6 (O i 2),U i6 (O i 3),U i6 (O i 4),U i6 (O i 5),U i6 (O i 6),U i6 (O i 7),U i6 (O i 8),U i6 (O i 9),U i6 (O i 10),U i6 (O i 11),Sl wa lw cw,Sl ba lb cb,U i6 (O i 14),U i6 (O i 15),U i6 (O i 16),U i6 (O i 17),U i6 (O i 18),U i6 (O i 19),U i6 (O i 20),U i6 (O i 21)][q]? = some v→W.cell? ((x.add (i*22)).add q)=some v) (Rw:Int) (RL:List (Int×Int×Int)) (hR:gtR O h w c lo hi ot on=(0,0,RL,Rw)) (hj0:0≤O i 1) (hj1:O i 1≤(i:Int))
  (x0 y0 z0 H V C:Int) (hA:RL.getD (O i 1).toNat (0,0,0)=(x0,y0,z0)) (hB:RL.getD (i+1) (0,0,0)=(H,V,C)) (hHV:0≤H*V∧H*V≤100000000) (slo shi bi er:Int) (TL:List (Int×Int)) (N:Nat) (hN:TL.length=N)
  (hO:∀ W' (g0:Nat),Below W.heap.size W W'→W.heap.size≤g0→W'.heap[g0]? = some (.cells #[U i6 (O i 0),U i6 0,U i6 0,U i6 (O i 3),U i6 (O i 4),U i6 (O i 5),U i6 (O i 6),U i6 (O i 7),U i6 (O i 8),U i6 (O i 9),U i6 (O i 10),U i6 (O i 11),Sl wa lw cw,Sl ba lb cb,U i6 (O i 14),U i6 (O i 15),U i6 (O i 16),U i6 (O i 17),U i6 (O i 18),U i6 (O i 19),U i6 (O i 20),U i6 (O i 21)] 42 (0,0))→Calls Tryz.prog 37 #[.agg #[U i6 x0,U i6 y0,U i6 z0,U i6 0,U i6 0,Sl (some ⟨g0,0,none⟩) 1 1,U i6 0],U i6 1,U i6 ch,U i6 0] W' fun e w'=>(∃ v,e=.returned (.tuple #[v,U i6 bi,U i6 er])∧OTm w' W'.heap.size v TL)∧Below W'.heap.size W' w') :
  Calls Tryz.prog 17 #[.agg #[U i6 h,U i6 w,U i6 c,U i6 lo,U i6 hi,Sl (some x) on oc,U i6 ot],U i6 ((i:Int)+1),U i6 ch,.agg #[U i6 slo,U i6 shi]] W fun e w'=>((er≠0∧e=.returned (.tuple #[.agg #[U i6 0,U i6 0,Sl none 0 0,U i6 0,U i6 0,U i6 0,U i6 0,U i6 0,U i6 0,U i6 0,U i6 0,U i6 0,U i6 0,Sl none 0 0,U i6 0],U i6 er]))∨(er=0∧vbB slo shi=false∧e=.returned (.tuple #[.agg #[U i6 0,U i6 0,Sl none 0 0,U i6 0,U i6 0,U i6 0,U i6 0,U i6 0,U i6 0,U i6 0,U i6 0,U i6 0,U i6 0,Sl none 0 0,U i6 0],U i6 30])) ∨
   (er=0∧vbB slo shi=true∧∃ (g0:Nat) (fa:Option Addr) (fc:Nat),e=.returned (.tuple #[.agg #[U i6 ch,U i6 (H*V),Sl fa N fc,U i6 bi,U i6 slo,U i6 shi,U i6 (O i 19),U i6 (O i 19),U i6 x0,U i6 y0,U i6 z0,U i6 0,U i6 0,Sl (some ⟨g0,0,none⟩) 1 1,U i6 0],U i6 0])∧w'.heap[g0]? = some (.cells #[U i6 (O i 0),U i6 0,U i6 0,U i6 (O i 3),U i6 (O i 4),U i6 (O i 5),U i6 (O i 6),U i6 (O i 7),U i6 (O i 8),U i6 (O i 9),U i6 (O i 10),U i6 (O i 11),Sl wa lw cw,Sl ba lb cb,U i6 (O i 14),U i6 (O i 15),U i6 (O i 16),U i6 (O i 17),U i6 (O i 18),U i6 (O i 19),U i6 (O i 20),U i6 (O i 21)] 42 (0,0))∧W.heap.size≤g0∧TV w' (.slice fa N fc) TL∧∀ a,fa=some a→a.block<w'.heap.size))∧Below W.heap.size W w':=by
 have hS:Hid (∀ W,MRow W (some x) on oc O→_):=fun W hW=>shapes_any h w c lo hi ot (some x) on oc O W hW
 rw [hR] at hS
 simp only at hS
 obtain⟨-,hRl,ho64,-,-,-⟩:=gtR_ok hR
 have hM2:Hid (MRow W (some x) on oc O):=hM
 have hocm:=hM.1
 have hocx:=hM.2.1
 unfold maxLen at hocx
 have Hc:Hid (∀ q v,[U i6 (O i 0),U i6 (O i 1),U i6 (O i 2),U i6 (O i 3),U i6 (O i 4),U i6 (O i 5),U i6 (O i 6),U i6 (O i 7),U i6 (O i 8),U i6 (O i 9),U i6 (O i 10),U i6 (O i 11),Sl wa lw cw,Sl ba lb cb,U i6 (O i 14),U i6 (O i 15),U i6 (O i 16),U i6 (O i 17),U i6 (O i 18),U i6 (O i 19),U i6 (O i 20),U i6 (O i 21)][q]? = some v→W.cell? ((x.add (i*22)).add q)=some v):=hcell
 have HO:Hid (∀ W' (g0:Nat),Below W.heap.size W W'→W.heap.size≤g0→W'.heap[g0]? = some (.cells #[U i6 (O i 0),U i6 0,U i6 0,U i6 (O i 3),U i6 (O i 4),U i6 (O i 5),U i6 (O i 6),U i6 (O i 7),U i6 (O i 8),U i6 (O i 9),U i6 (O i 10),U i6 (O i 11),Sl wa lw cw,Sl ba lb cb,U i6 (O i 14),U i6 (O i 15),U i6 (O i 16),U i6 (O i 17),U i6 (O i 18),U i6 (O i 19),U i6 (O i 20),U i6 (O i 21)] 42 (0,0))→_):=hO
 have HV:Hid (∀ W',_):=fun W'=>bofv_any slo shi W'
 obtain⟨hv1,hv2⟩:=hHV
 have HNN:Hid (TL.length=N):=hN
 have s0:=(((St.start W).new (c:=#[U i6 h,U i6 w,U i6 c,U i6 lo,U i6 hi,Sl (some x) on oc,U i6 ot]) (t:=26)).new (c:=#[U i6 slo,U i6 shi]) (t:=28)).new (c:=#[U i6 0,U i6 0,Sl none 0 0,U i6 0,U i6 0,U i6 0,U i6 0,U i6 0,U i6 0,U i6 0,U i6 0,U i6 0,U i6 0,Sl none 0 0,U i6 0]) (t:=55)
 simp only [World.size_alloc] at s0
 clear hO hR hM hcell hN
 go_enter Tryz.func17,Tryz.ntmps17
 go_wp2_with fail
 refine Calls.mono (hS.out _ (hM2.out.below s0.below)) ?_
 rintro e w3 ⟨v,rfl,hSh,hb⟩
 have s3:=(s0.call hb).new (c:=#[U i6 0,U i6 0,U i6 0]) (t:=79)
 have hz23:=hb.size
 have hz2:=s0.size
 obtain⟨g,cap,cur,rfl,hgb,hgc,hCu⟩:∃ g cap cur,v=.slice (some ⟨g,0,none⟩) (on+1) cap∧W.heap.size≤g∧w3.heap[g]? = some (.cells cur 23 (0,0))∧Cu cur cap RL:=by
  rcases hSh with ⟨-,q⟩ | ⟨g,cap,cur,q1,q2,q3,q4,-⟩
  ·rw [q] at hRl;simp at hRl
  ·exact⟨g,cap,cur,by rw [q1,hRl],by omega,q3,q4⟩
 have hcap:=hCu.2.1
 obtain⟨b1,b2,b3⟩:=hCu.at (show i+1<RL.length by omega)
 obtain⟨a1,a2,a3⟩:=hCu.at (show (O i 1).toNat<RL.length by omega)
 rw [hB] at b1 b2 b3
 rw [hA] at a1 a2 a3
 simp only at a1 a2 a3 b1 b2 b3
 have hgz:=lt_of_heap hgc
 have hgc2:Hid ((w3.alloc (.cells #[U i6 0,U i6 0,U i6 0] 79)).heap[g]? = some (.cells cur 23 (0,0))):=(heap_alloc_old w3 _ hgz).trans hgc
 obtain⟨c1,f1,z1,c2,f2,z2,c3,f3,z3,-⟩:=(s0.call hb).rules
 clear hb hSh hCu hgc hS hM2 c1 f1 c2 f2 s0
 go_upto_region 6 with fail
 obtain⟨B11,hB11⟩:∃ B,w3.heap.size=B:=⟨_,rfl⟩
 have HB11:Hid (W.heap.size+1+1<B11):=by unfold Hid;rw [← hB11];exact z1
 obtain⟨w4,hw4⟩:∃ w4,w3.alloc (.cells #[U i6 0,U i6 0,U i6 0] 79)=w4:=⟨_,rfl⟩
 rw [hB11,hw4] at s3
 rw [hw4] at hgc2 ⊢
 have hz4:w4.heap.size=B11+1:=by rw [← hw4,← hB11];simp
 have S4:Hid (St W w4 ((B11,#[U i6 0,U i6 0,U i6 0],79) :: (W.heap.size+1+1,#[U i6 0,U i6 0,Sl none 0 0,U i6 0,U i6 0,U i6 0,U i6 0,U i6 0,U i6 0,U i6 0,U i6 0,U i6 0,U i6 0,Sl none 0 0,U i6 0],55) :: (W.heap.size+1,#[U i6 slo,U i6 shi],28) :: (W.heap.size,#[U i6 h,U i6 w,U i6 c,U i6 lo,U i6 hi,Sl (some x) on oc,U i6 ot],26) :: [])):=s3
 have HC4:Hid (∀ q v,[U i6 (O i 0),U i6 (O i 1),U i6 (O i 2),U i6 (O i 3),U i6 (O i 4),U i6 (O i 5),U i6 (O i 6),U i6 (O i 7),U i6 (O i 8),U i6 (O i 9),U i6 (O i 10),U i6 (O i 11),Sl wa lw cw,Sl ba lb cb,U i6 (O i 14),U i6 (O i 15),U i6 (O i 16),U i6 (O i 17),U i6 (O i 18),U i6 (O i 19),U i6 (O i 20),U i6 (O i 21)][q]? = some v→w4.cell? ((x.add (i*22)).add q)=some v):=fun q v hq=>(s3.below.cell (World.block_lt_of_cell? W _ (Hc.out q v hq))).trans (Hc.out q v hq)
 clear c3 f3 z1 z2 z3 hw4 s3 Hc
 obtain⟨c1,f1,z1,c2,f2,z2,c3,f3,z3,c4,f4,z4,-⟩:=S4.out.rules
 clear c1 f1 c2 f2 c3 f3 f4
 obtain⟨vo,hvo⟩:∃ vo,Value.agg #[U i6 (O i 0),U i6 (O i 1),U i6 (O i 2),U i6 (O i 3),U i6 (O i 4),U i6 (O i 5),U i6 (O i 6),U i6 (O i 7),U i6 (O i 8),U i6 (O i 9),U i6 (O i 10),U i6 (O i 11),Sl wa lw cw,Sl ba lb cb,U i6 (O i 14),U i6 (O i 15),U i6 (O i 16),U i6 (O i 17),U i6 (O i 18),U i6 (O i 19),U i6 (O i 20),U i6 (O i 21)]=vo:=⟨_,rfl⟩
 have HVO:Hid (Value.agg #[U i6 (O i 0),U i6 (O i 1),U i6 (O i 2),U i6 (O i 3),U i6 (O i 4),U i6 (O i 5),U i6 (O i 6),U i6 (O i 7),U i6 (O i 8),U i6 (O i 9),U i6 (O i 10),U i6 (O i 11),Sl wa lw cw,Sl ba lb cb,U i6 (O i 14),U i6 (O i 15),U i6 (O i 16),U i6 (O i 17),U i6 (O i 18),U i6 (O i 19),U i6 (O i 20),U i6 (O i 21)]=vo):=hvo
 have s5:=S4.out.new (c:=#[U i6 (O i 0),U i6 (O i 1),U i6 (O i 2),U i6 (O i 3),U i6 (O i 4),U i6 (O i 5),U i6 (O i 6),U i6 (O i 7),U i6 (O i 8),U i6 (O i 9),U i6 (O i 10),U i6 (O i 11),Sl wa lw cw,Sl ba lb cb,U i6 (O i 14),U i6 (O i 15),U i6 (O i 16),U i6 (O i 17),U i6 (O i 18),U i6 (O i 19),U i6 (O i 20),U i6 (O i 21)]) (t:=42)
 have hgc5:Hid ((w4.alloc (.cells #[U i6 (O i 0),U i6 (O i 1),U i6 (O i 2),U i6 (O i 3),U i6 (O i 4),U i6 (O i 5),U i6 (O i 6),U i6 (O i 7),U i6 (O i 8),U i6 (O i 9),U i6 (O i 10),U i6 (O i 11),Sl wa lw cw,Sl ba lb cb,U i6 (O i 14),U i6 (O i 15),U i6 (O i 16),U i6 (O i 17),U i6 (O i 18),U i6 (O i 19),U i6 (O i 20),U i6 (O i 21)] 42)).heap[g]? = some (.cells cur 23 (0,0))):=(heap_alloc_old w4 _ (lt_of_heap hgc2.out)).trans hgc2.out
 go_upto_region 7 with ((refine wpList_load_any rfl 42 (.tmp 42) rfl (x.add (i*22)) rfl [U i6 (O i 0),U i6 (O i 1),U i6 (O i 2),U i6 (O i 3),U i6 (O i 4),U i6 (O i 5),U i6 (O i 6),U i6 (O i 7),U i6 (O i 8),U i6 (O i 9),U i6 (O i 10),U i6 (O i 11),Sl wa lw cw,Sl ba lb cb,U i6 (O i 14),U i6 (O i 15),U i6 (O i 16),U i6 (O i 17),U i6 (O i 18),U i6 (O i 19),U i6 (O i 20),U i6 (O i 21)] _ HC4.out Tryz.underlying42 rfl (by kernel_rfl) ?_;(show wpList _ _ _ _ (Act.put _ _ (Value.agg #[U i6 (O i 0),U i6 (O i 1),U i6 (O i 2),U i6 (O i 3),U i6 (O i 4),U i6 (O i 5),U i6 (O i 6),U i6 (O i 7),U i6 (O i 8),U i6 (O i 9),U i6 (O i 10),U i6 (O i 11),Sl wa lw cw,Sl ba lb cb,U i6 (O i 14),U i6 (O i 15),U i6 (O i 16),U i6 (O i 17),U i6 (O i 18),U i6 (O i 19),U i6 (O i 20),U i6 (O i 21)])) _);rw [hvo];clear hvo;refine wl1 rfl (some 12) rfl (.pointer (some ⟨w4.heap.size,0,none⟩)) (w4.alloc (.cells #[U i6 0,U i6 0,U i6 0,U i6 0,U i6 0,U i6 0,U i6 0,U i6 0,U i6 0,U i6 0,U i6 0,U i6 0,Sl none 0 0,Sl none 0 0,U i6 0,U i6 0,U i6 0,U i6 0,U i6 0,U i6 0,U i6 0,U i6 0] 42)) (by kernel_rfl) ?_;refine wpList_st_new rfl 42 (.tmp 12) (.tmp 43) rfl w4 #[U i6 0,U i6 0,U i6 0,U i6 0,U i6 0,U i6 0,U i6 0,U i6 0,U i6 0,U i6 0,U i6 0,U i6 0,Sl none 0 0,Sl none 0 0,U i6 0,U i6 0,U i6 0,U i6 0,U i6 0,U i6 0,U i6 0,U i6 0] #[U i6 (O i 0),U i6 (O i 1),U i6 (O i 2),U i6 (O i 3),U i6 (O i 4),U i6 (O i 5),U i6 (O i 6),U i6 (O i 7),U i6 (O i 8),U i6 (O i 9),U i6 (O i 10),U i6 (O i 11),Sl wa lw cw,Sl ba lb cb,U i6 (O i 14),U i6 (O i 15),U i6 (O i 16),U i6 (O i 17),U i6 (O i 18),U i6 (O i 19),U i6 (O i 20),U i6 (O i 21)] (by kernel_rfl) (Eq.trans (by kernel_rfl:_=vo) HVO.out.symm) (by kernel_rfl) rfl (by simp [Value.oneCell']) ?_;(obtain⟨w5,hw5⟩:∃ w5,w4.alloc (.cells #[U i6 (O i 0),U i6 (O i 1),U i6 (O i 2),U i6 (O i 3),U i6 (O i 4),U i6 (O i 5),U i6 (O i 6),U i6 (O i 7),U i6 (O i 8),U i6 (O i 9),U i6 (O i 10),U i6 (O i 11),Sl wa lw cw,Sl ba lb cb,U i6 (O i 14),U i6 (O i 15),U i6 (O i 16),U i6 (O i 17),U i6 (O i 18),U i6 (O i 19),U i6 (O i 20),U i6 (O i 21)] 42)=w5:=⟨_,rfl⟩);rw [hw5] at s5 hgc5 ⊢;have hz5:w5.heap.size=B11+1+1:=(by rw [← hw5,World.size_alloc,hz4]);clear hw5))
 obtain⟨B12,hB12⟩:∃ B,w4.heap.size=B:=⟨_,rfl⟩
 rw [hB12] at s5
 have S5:Hid (St W w5 ((B12,#[U i6 (O i 0),U i6 (O i 1),U i6 (O i 2),U i6 (O i 3),U i6 (O i 4),U i6 (O i 5),U i6 (O i 6),U i6 (O i 7),U i6 (O i 8),U i6 (O i 9),U i6 (O i 10),U i6 (O i 11),Sl wa lw cw,Sl ba lb cb,U i6 (O i 14),U i6 (O i 15),U i6 (O i 16),U i6 (O i 17),U i6 (O i 18),U i6 (O i 19),U i6 (O i 20),U i6 (O i 21)],42) :: (B11,#[U i6 0,U i6 0,U i6 0],79) :: (W.heap.size+1+1,#[U i6 0,U i6 0,Sl none 0 0,U i6 0,U i6 0,U i6 0,U i6 0,U i6 0,U i6 0,U i6 0,U i6 0,U i6 0,U i6 0,Sl none 0 0,U i6 0],55) :: (W.heap.size+1,#[U i6 slo,U i6 shi],28) :: (W.heap.size,#[U i6 h,U i6 w,U i6 c,U i6 lo,U i6 hi,Sl (some x) on oc,U i6 ot],26) :: [])):=s5
 have HB12:Hid (B12=B11+1):=by unfold Hid;omega
 have HZ5:Hid (w5.heap.size=B11+1+1):=hz5
 clear s5 S4 hgc2 HC4 c4 z1 z2 z3 z4
 rw [hB12]
 clear hB12 hz4 hz5 hB11
 have hc12:=(cells_at S5.out.h1).1 1
 have hg5:=(cells_at hgc5.out).1
 obtain⟨-,-,z1,-,-,z2,-,-,z3,-,-,z4,-,-,z5,-⟩:=S5.out.rules
 have s6:=S5.out.new (c:=#[U i6 x0,U i6 y0,U i6 z0,U i6 0,U i6 0,Sl none 0 0,U i6 0]) (t:=26)
 go_upto_region 8 with (refine wpList_load_any rfl 23 (.tmp 47) rfl ⟨g,(O i 1).toNat*3,none⟩ rfl [U i6 x0,U i6 y0,U i6 z0] _ (three_at hgc5.out a1 a2 a3) Tryz.underlying23 rfl (by kernel_rfl) ?_)
 obtain⟨B13,hB13⟩:∃ B,w5.heap.size=B:=⟨_,rfl⟩
 have HB13:Hid (B13=B11+1+1):=by unfold Hid;rw [← hB13];exact HZ5.out
 obtain⟨w6,hw6⟩:∃ w6,w5.alloc (.cells #[U i6 x0,U i6 y0,U i6 z0,U i6 0,U i6 0,Sl none 0 0,U i6 0] 26)=w6:=⟨_,rfl⟩
 have hgc6:Hid (w6.heap[g]? = some (.cells cur 23 (0,0))):=by unfold Hid;rw [← hw6];exact (heap_alloc_old w5 _ (lt_of_heap hgc5.out)).trans hgc5.out
 have hz6:w6.heap.size=B11+1+1+1:=by rw [← hw6,World.size_alloc,HZ5.out]
 rw [hB13,hw6] at s6
 try rw [hw6]
 try rw [hB13]
 have S6:Hid (St W w6 ((B13,#[U i6 x0,U i6 y0,U i6 z0,U i6 0,U i6 0,Sl none 0 0,U i6 0],26) :: (B12,#[U i6 (O i 0),U i6 (O i 1),U i6 (O i 2),U i6 (O i 3),U i6 (O i 4),U i6 (O i 5),U i6 (O i 6),U i6 (O i 7),U i6 (O i 8),U i6 (O i 9),U i6 (O i 10),U i6 (O i 11),Sl wa lw cw,Sl ba lb cb,U i6 (O i 14),U i6 (O i 15),U i6 (O i 16),U i6 (O i 17),U i6 (O i 18),U i6 (O i 19),U i6 (O i 20),U i6 (O i 21)],42) :: (B11,#[U i6 0,U i6 0,U i6 0],79) :: (W.heap.size+1+1,#[U i6 0,U i6 0,Sl none 0 0,U i6 0,U i6 0,U i6 0,U i6 0,U i6 0,U i6 0,U i6 0,U i6 0,U i6 0,U i6 0,Sl none 0 0,U i6 0],55) :: (W.heap.size+1,#[U i6 slo,U i6 shi],28) :: (W.heap.size,#[U i6 h,U i6 w,U i6 c,U i6 lo,U i6 hi,Sl (some x) on oc,U i6 ot],26) :: [])):=s6
 clear hB13 hw6 s6 hc12 hg5 z1 z2 z3 z4 z5 hgc5 S5 a1 a2 a3
 have hz11:=HB11.out
 have hz12:=HB12.out
 have hz13:=HB13.out
 obtain⟨y1,y2,y3⟩:=cells_at S6.out.h2
 have s7:=S6.out.up1.seti (i:=1) (v:=U i6 0) (by simp;omega) #[U i6 (O i 0),U i6 0,U i6 (O i 2),U i6 (O i 3),U i6 (O i 4),U i6 (O i 5),U i6 (O i 6),U i6 (O i 7),U i6 (O i 8),U i6 (O i 9),U i6 (O i 10),U i6 (O i 11),Sl wa lw cw,Sl ba lb cb,U i6 (O i 14),U i6 (O i 15),U i6 (O i 16),U i6 (O i 17),U i6 (O i 18),U i6 (O i 19),U i6 (O i 20),U i6 (O i 21)] (by kernel_rfl)
 have s8:=s7.seti (i:=2) (v:=U i6 0) (by simp;omega) #[U i6 (O i 0),U i6 0,U i6 0,U i6 (O i 3),U i6 (O i 4),U i6 (O i 5),U i6 (O i 6),U i6 (O i 7),U i6 (O i 8),U i6 (O i 9),U i6 (O i 10),U i6 (O i 11),Sl wa lw cw,Sl ba lb cb,U i6 (O i 14),U i6 (O i 15),U i6 (O i 16),U i6 (O i 17),U i6 (O i 18),U i6 (O i 19),U i6 (O i 20),U i6 (O i 21)] (by kernel_rfl)
 have hgB:g≠B12:=fun e=>by have h7:=S6.out.h2;rw [← e,hgc6.out] at h7;simp at h7
 have hgc8:Hid (((w6.setCell ⟨B12,1,none⟩ (U i6 0)).setCell ⟨B12,2,none⟩ (U i6 0)).heap[g]? = some (.cells cur 23 (0,0))):=(Below.heap_setCell _ _ _ _ hgB).trans ((Below.heap_setCell _ _ _ _ hgB).trans hgc6.out)
 have HZ8:Hid (((w6.setCell ⟨B12,1,none⟩ (U i6 0)).setCell ⟨B12,2,none⟩ (U i6 0)).heap.size=B11+1+1+1):=by unfold Hid;simpa using hz6
 clear hz11 hz12 hz13 hz6
 go_upto_region 9 with fail
 obtain⟨w8,hw8⟩:∃ w8,(w6.setCell ⟨B12,1,none⟩ (U i6 0)).setCell ⟨B12,2,none⟩ (U i6 0)=w8:=⟨_,rfl⟩
 rw [hw8] at s8 hgc8 HZ8 ⊢
 have S8:Hid (St W w8 ((B12,#[U i6 (O i 0),U i6 0,U i6 0,U i6 (O i 3),U i6 (O i 4),U i6 (O i 5),U i6 (O i 6),U i6 (O i 7),U i6 (O i 8),U i6 (O i 9),U i6 (O i 10),U i6 (O i 11),Sl wa lw cw,Sl ba lb cb,U i6 (O i 14),U i6 (O i 15),U i6 (O i 16),U i6 (O i 17),U i6 (O i 18),U i6 (O i 19),U i6 (O i 20),U i6 (O i 21)],42) :: (B13,#[U i6 x0,U i6 y0,U i6 z0,U i6 0,U i6 0,Sl none 0 0,U i6 0],26) :: (B11,#[U i6 0,U i6 0,U i6 0],79) :: (W.heap.size+1+1,#[U i6 0,U i6 0,Sl none 0 0,U i6 0,U i6 0,U i6 0,U i6 0,U i6 0,U i6 0,U i6 0,U i6 0,U i6 0,U i6 0,Sl none 0 0,U i6 0],55) :: (W.heap.size+1,#[U i6 slo,U i6 shi],28) :: (W.heap.size,#[U i6 h,U i6 w,U i6 c,U i6 lo,U i6 hi,Sl (some x) on oc,U i6 ot],26) :: [])):=s8
 clear hw8 s7 s8 y1 y2 y3 hgc6 S6
 -- the model of the op alone
 obtain⟨g0,hg0e⟩:∃ g0,w8.heap.size=g0:=⟨_,rfl⟩
 have HG0e:Hid (g0=B11+1+1+1):=by unfold Hid;rw [← hg0e];exact HZ8.out
 have hgB3:g≠B13:=fun e=>by have h7:=S8.out.h2;rw [← e,hgc8.out] at h7;simp at h7
 have hg03:g0≠B13:=by have:=lt_of_heap S8.out.h2;omega
 have z11:=HB11.out
 have z12:=HB12.out
 have z13:=HB13.out
 have s9:=S8.out.up1.seti (i:=5) (v:=.slice (some ⟨g0,0,none⟩) 1 1) (by simp;omega) #[U i6 x0,U i6 y0,U i6 z0,U i6 0,U i6 0,Sl (some ⟨g0,0,none⟩) 1 1,U i6 0] (by kernel_rfl)
 have hz9:(w8.setCell ⟨B13,5,none⟩ (.slice (some ⟨g0,0,none⟩) 1 1)).heap.size=g0:=by simpa using hg0e
 have s10:=s9.skip (.cells #[U i6 (O i 0),U i6 0,U i6 0,U i6 (O i 3),U i6 (O i 4),U i6 (O i 5),U i6 (O i 6),U i6 (O i 7),U i6 (O i 8),U i6 (O i 9),U i6 (O i 10),U i6 (O i 11),Sl wa lw cw,Sl ba lb cb,U i6 (O i 14),U i6 (O i 15),U i6 (O i 16),U i6 (O i 17),U i6 (O i 18),U i6 (O i 19),U i6 (O i 20),U i6 (O i 21)] 42)
 have hg10:Hid (((w8.setCell ⟨B13,5,none⟩ (.slice (some ⟨g0,0,none⟩) 1 1)).alloc (.cells #[U i6 (O i 0),U i6 0,U i6 0,U i6 (O i 3),U i6 (O i 4),U i6 (O i 5),U i6 (O i 6),U i6 (O i 7),U i6 (O i 8),U i6 (O i 9),U i6 (O i 10),U i6 (O i 11),Sl wa lw cw,Sl ba lb cb,U i6 (O i 14),U i6 (O i 15),U i6 (O i 16),U i6 (O i 17),U i6 (O i 18),U i6 (O i 19),U i6 (O i 20),U i6 (O i 21)] 42)).heap[g0]? = some (.cells #[U i6 (O i 0),U i6 0,U i6 0,U i6 (O i 3),U i6 (O i 4),U i6 (O i 5),U i6 (O i 6),U i6 (O i 7),U i6 (O i 8),U i6 (O i 9),U i6 (O i 10),U i6 (O i 11),Sl wa lw cw,Sl ba lb cb,U i6 (O i 14),U i6 (O i 15),U i6 (O i 16),U i6 (O i 17),U i6 (O i 18),U i6 (O i 19),U i6 (O i 20),U i6 (O i 21)] 42 (0,0))):=by have h7:=heap_alloc_new (w8.setCell ⟨B13,5,none⟩ (.slice (some ⟨g0,0,none⟩) 1 1)) (.cells #[U i6 (O i 0),U i6 0,U i6 0,U i6 (O i 3),U i6 (O i 4),U i6 (O i 5),U i6 (O i 6),U i6 (O i 7),U i6 (O i 8),U i6 (O i 9),U i6 (O i 10),U i6 (O i 11),Sl wa lw cw,Sl ba lb cb,U i6 (O i 14),U i6 (O i 15),U i6 (O i 16),U i6 (O i 17),U i6 (O i 18),U i6 (O i 19),U i6 (O i 20),U i6 (O i 21)] 42);rw [hz9] at h7;exact h7
 have hgc10:Hid (((w8.setCell ⟨B13,5,none⟩ (.slice (some ⟨g0,0,none⟩) 1 1)).alloc (.cells #[U i6 (O i 0),U i6 0,U i6 0,U i6 (O i 3),U i6 (O i 4),U i6 (O i 5),U i6 (O i 6),U i6 (O i 7),U i6 (O i 8),U i6 (O i 9),U i6 (O i 10),U i6 (O i 11),Sl wa lw cw,Sl ba lb cb,U i6 (O i 14),U i6 (O i 15),U i6 (O i 16),U i6 (O i 17),U i6 (O i 18),U i6 (O i 19),U i6 (O i 20),U i6 (O i 21)] 42)).heap[g]? = some (.cells cur 23 (0,0))):=(heap_alloc_old _ _ (by simpa using lt_of_heap hgc8.out)).trans ((Below.heap_setCell _ _ _ _ hgB3).trans hgc8.out)
 have hgW:Hid (W.heap.size≤g0):=by unfold Hid;rw [← hg0e];exact S8.out.size
 have S10:Hid (St W _ _):=s10
 clear z11 z12 z13 s9 s10 hz9
 obtain⟨y1,y2,y3⟩:=cells_at S8.out.h2
 have y4:=y3
 rw [hg0e] at y4
 have HC8:Hid (∀ q v,[U i6 (O i 0),U i6 0,U i6 0,U i6 (O i 3),U i6 (O i 4),U i6 (O i 5),U i6 (O i 6),U i6 (O i 7),U i6 (O i 8),U i6 (O i 9),U i6 (O i 10),U i6 (O i 11),Sl wa lw cw,Sl ba lb cb,U i6 (O i 14),U i6 (O i 15),U i6 (O i 16),U i6 (O i 17),U i6 (O i 18),U i6 (O i 19),U i6 (O i 20),U i6 (O i 21)][q]? = some v→w8.cell? ((⟨B12,0,none⟩:Addr).add q)=some v):=fun q v hq=>by rw [Addr.add_lit,Nat.zero_add,(cells_at S8.out.h1).1];simpa using hq
 go_upto_region 10 with (refine wpList_load_any rfl 42 (.tmp 12) rfl ⟨B12,0,none⟩ rfl [U i6 (O i 0),U i6 0,U i6 0,U i6 (O i 3),U i6 (O i 4),U i6 (O i 5),U i6 (O i 6),U i6 (O i 7),U i6 (O i 8),U i6 (O i 9),U i6 (O i 10),U i6 (O i 11),Sl wa lw cw,Sl ba lb cb,U i6 (O i 14),U i6 (O i 15),U i6 (O i 16),U i6 (O i 17),U i6 (O i 18),U i6 (O i 19),U i6 (O i 20),U i6 (O i 21)] _ HC8.out Tryz.underlying42 rfl (by kernel_rfl) ?_)
 obtain⟨w9,hw9⟩:∃ w9,(w8.setCell ⟨B13,5,none⟩ (.slice (some ⟨g0,0,none⟩) 1 1)).alloc (.cells #[U i6 (O i 0),U i6 0,U i6 0,U i6 (O i 3),U i6 (O i 4),U i6 (O i 5),U i6 (O i 6),U i6 (O i 7),U i6 (O i 8),U i6 (O i 9),U i6 (O i 10),U i6 (O i 11),Sl wa lw cw,Sl ba lb cb,U i6 (O i 14),U i6 (O i 15),U i6 (O i 16),U i6 (O i 17),U i6 (O i 18),U i6 (O i 19),U i6 (O i 20),U i6 (O i 21)] 42)=w9:=⟨_,rfl⟩
 try rw [hg0e]
 rw [hw9] at S10 hg10 hgc10 ⊢
 clear hw9 y1 y2 y3 y4 HC8 hgc8 S8 hg0e
 have HC9:Hid (∀ q v,[U i6 x0,U i6 y0,U i6 z0,U i6 0,U i6 0,Sl (some ⟨g0,0,none⟩) 1 1,U i6 0][q]? = some v→w9.cell? ((⟨B13,0,none⟩:Addr).add q)=some v):=fun q v hq=>by rw [Addr.add_lit,Nat.zero_add,(cells_at S10.out.h1).1];simpa using hq
 have HCO:Hid _:=HO.out w9 g0 S10.out.below hgW.out hg10.out
 clear HO
 go_wp2_with (refine wpList_load_any rfl 26 (.tmp 13) rfl ⟨B13,0,none⟩ rfl [U i6 x0,U i6 y0,U i6 z0,U i6 0,U i6 0,Sl (some ⟨g0,0,none⟩) 1 1,U i6 0] _ HC9.out Tryz.underlying26 rfl (by kernel_rfl) ?_)
 refine Calls.mono HCO.out ?_
 rintro e w10 ⟨⟨v,rfl,ho⟩,hb10⟩
 have S11:Hid (St W w10 _):=S10.out.call hb10
 have HG11:Hid (w10.heap[g0]? = some (.cells #[U i6 (O i 0),U i6 0,U i6 0,U i6 (O i 3),U i6 (O i 4),U i6 (O i 5),U i6 (O i 6),U i6 (O i 7),U i6 (O i 8),U i6 (O i 9),U i6 (O i 10),U i6 (O i 11),Sl wa lw cw,Sl ba lb cb,U i6 (O i 14),U i6 (O i 15),U i6 (O i 16),U i6 (O i 17),U i6 (O i 18),U i6 (O i 19),U i6 (O i 20),U i6 (O i 21)] 42 (0,0))):=(hb10.block g0 (lt_of_heap hg10.out)).trans hg10.out
 have HGC11:Hid (w10.heap[g]? = some (.cells cur 23 (0,0))):=(hb10.block g (lt_of_heap hgc10.out)).trans hgc10.out
 have HTV:Hid (TV w10 v TL):=ho.tv
 have HTB:Hid (∀ b,v.ownBlock=some b→W.heap.size+1+1<b∧b<w10.heap.size):=fun b e=>⟨Nat.lt_of_lt_of_le (lt_of_heap S10.out.h4) (World.ownsRow.lt ho b e).1,(World.ownsRow.lt ho b e).2⟩
 obtain⟨ta,tc,rfl⟩:=ho.slice
 rw [HNN.out] at HTV HTB ⊢
 clear ho hb10 HCO S10 hg10 hgc10 HC9
 have HB5:Hid (W.heap.size<W.heap.size+1+1∧W.heap.size+1+1<B11∧B12=B11+1∧B13=B11+1+1):=⟨by omega,HB11.out,HB12.out,HB13.out⟩
 clear HB11 HB12 HB13
 by_cases her:er=0
 ·subst her
  obtain⟨vb,hvb⟩:∃ vb,vbB slo shi=vb:=⟨_,rfl⟩
  have HVB:Hid (vbB slo shi=vb):=hvb
  rw [hvb] at HV
  obtain⟨-,-,z0',-,-,z1,-,-,z2,-,-,z3,c4,f4,z4,-⟩:=S11.out.rules
  clear hvb
  go_wp2_with fail
  refine (HV.out _).mono ?_
  rintro e w11 ⟨rfl,hb11⟩
  have S12:Hid (St W w11 _):=S11.out.call hb11
  have HG12:Hid (w11.heap[g0]? = some (.cells #[U i6 (O i 0),U i6 0,U i6 0,U i6 (O i 3),U i6 (O i 4),U i6 (O i 5),U i6 (O i 6),U i6 (O i 7),U i6 (O i 8),U i6 (O i 9),U i6 (O i 10),U i6 (O i 11),Sl wa lw cw,Sl ba lb cb,U i6 (O i 14),U i6 (O i 15),U i6 (O i 16),U i6 (O i 17),U i6 (O i 18),U i6 (O i 19),U i6 (O i 20),U i6 (O i 21)] 42 (0,0))):=(hb11.block g0 (lt_of_heap HG11.out)).trans HG11.out
  have HGC12:Hid (w11.heap[g]? = some (.cells cur 23 (0,0))):=(hb11.block g (lt_of_heap HGC11.out)).trans HGC11.out
  have HTV12:Hid (TV w11 (.slice ta N tc) TL):=HTV.out.below hb11
  have HTB12:Hid (∀ b,(Value.slice ta N tc).ownBlock=some b→W.heap.size+1+1<b∧b<w11.heap.size):=fun b e=>⟨(HTB.out b e).1,Nat.lt_of_lt_of_le (HTB.out b e).2 hb11.size⟩
  clear hb11 S11 HG11 HGC11 HTV HTB HV z0' z1 z2 z3 c4 f4 z4
  cases vb with
  | false =>
   go_wp2_with (refine wpList_store_row rfl 55 (.tmp 8) (.tmp 69) rfl (W.heap.size+1+1) #[U i6 0,U i6 0,Sl none 0 0,U i6 0,U i6 0,U i6 0,U i6 0,U i6 0,U i6 0,U i6 0,U i6 0,U i6 0,U i6 0,Sl none 0 0,U i6 0] rfl rfl 55 #[U i6 0,U i6 0,Sl none 0 0,U i6 0,U i6 0,U i6 0,U i6 0,U i6 0,U i6 0,U i6 0,U i6 0,U i6 0,U i6 0,Sl none 0 0,U i6 0] S12.out.h4 (by kernel_rfl) rfl (by simp [Value.oneCell']) ?_;have hZ':=setRow_heap _ (W.heap.size+1+1) #[U i6 0,U i6 0,Sl none 0 0,U i6 0,U i6 0,U i6 0,U i6 0,U i6 0,U i6 0,U i6 0,U i6 0,U i6 0,U i6 0,Sl none 0 0,U i6 0] #[U i6 0,U i6 0,Sl none 0 0,U i6 0,U i6 0,U i6 0,U i6 0,U i6 0,U i6 0,U i6 0,U i6 0,U i6 0,U i6 0,Sl none 0 0,U i6 0] 55 (0,0) S12.out.h4;have hB':Hid (Below W.heap.size W (_:World)):=below_setRow S12.out.below (show W.heap.size≤W.heap.size+1+1 by omega) #[U i6 0,U i6 0,Sl none 0 0,U i6 0,U i6 0,U i6 0,U i6 0,U i6 0,U i6 0,U i6 0,U i6 0,U i6 0,U i6 0,Sl none 0 0,U i6 0];generalize World.setRow _ _ _=w5 at hZ' hB' ⊢)
   exact bodyPost_ret (results_row_tmp Tryz.results17 _ _ (W.heap.size+1+1) 55 _ _ (U i6 30) rfl hZ' Tryz.underlying55 rfl (by kernel_rfl) rfl) rfl ⟨.inl ⟨HVB.out,rfl⟩,hB'.out⟩
  | true =>
   go_upto_region 15 with fail
   have hb5:=HB5.out
   have s13:St W w11 ((B13,#[U i6 x0,U i6 y0,U i6 z0,U i6 0,U i6 0,Sl (some ⟨g0,0,none⟩) 1 1,U i6 0],26) :: (B12,#[U i6 (O i 0),U i6 0,U i6 0,U i6 (O i 3),U i6 (O i 4),U i6 (O i 5),U i6 (O i 6),U i6 (O i 7),U i6 (O i 8),U i6 (O i 9),U i6 (O i 10),U i6 (O i 11),Sl wa lw cw,Sl ba lb cb,U i6 (O i 14),U i6 (O i 15),U i6 (O i 16),U i6 (O i 17),U i6 (O i 18),U i6 (O i 19),U i6 (O i 20),U i6 (O i 21)],42) :: (W.heap.size+1,#[U i6 slo,U i6 shi],28) :: []):=S12.out.sub (fun y hy=>by simp only [List.mem_cons,List.not_mem_nil,or_false] at hy ⊢; rcases hy with rfl | rfl | rfl<;>simp)
   have hBS:=S12.out.h4
   have hgBS:g≠W.heap.size+1+1:=fun e=>by have h7:=hBS;rw [← e,HGC12.out] at h7;simp at h7
   have hg0BS:g0≠W.heap.size+1+1:=fun e=>by have h7:=hBS;rw [← e,HG12.out] at h7;simp at h7
   refine regionC (fun w'=>St W w' ((B13,#[U i6 x0,U i6 y0,U i6 z0,U i6 0,U i6 0,Sl (some ⟨g0,0,none⟩) 1 1,U i6 0],26) :: (B12,#[U i6 (O i 0),U i6 0,U i6 0,U i6 (O i 3),U i6 (O i 4),U i6 (O i 5),U i6 (O i 6),U i6 (O i 7),U i6 (O i 8),U i6 (O i 9),U i6 (O i 10),U i6 (O i 11),Sl wa lw cw,Sl ba lb cb,U i6 (O i 14),U i6 (O i 15),U i6 (O i 16),U i6 (O i 17),U i6 (O i 18),U i6 (O i 19),U i6 (O i 20),U i6 (O i 21)],42) :: (W.heap.size+1,#[U i6 slo,U i6 shi],28) :: [])∧w'.heap[g]? = some (.cells cur 23 (0,0))) (by kernel_rfl) ?_
   obtain⟨wd,hwd⟩:∃ wd,w11.drew=wd:=⟨_,rfl⟩
   have hdd:Below w11.heap.size w11 wd:=by rw [← hwd];exact (Below.refl _ _).drew
   rw [hwd]
   have SD:Hid (St W wd _):=s13.call hdd
   have hBSd:Hid (wd.heap[W.heap.size+1+1]? = some (.cells #[U i6 0,U i6 0,Sl none 0 0,U i6 0,U i6 0,U i6 0,U i6 0,U i6 0,U i6 0,U i6 0,U i6 0,U i6 0,U i6 0,Sl none 0 0,U i6 0] 55 (0,0))):=(hdd.block _ (lt_of_heap hBS)).trans hBS
   have HGD:Hid (wd.heap[g]? = some (.cells cur 23 (0,0))):=(hdd.block g (lt_of_heap HGC12.out)).trans HGC12.out
   have HG0D:Hid (wd.heap[g0]? = some (.cells #[U i6 (O i 0),U i6 0,U i6 0,U i6 (O i 3),U i6 (O i 4),U i6 (O i 5),U i6 (O i 6),U i6 (O i 7),U i6 (O i 8),U i6 (O i 9),U i6 (O i 10),U i6 (O i 11),Sl wa lw cw,Sl ba lb cb,U i6 (O i 14),U i6 (O i 15),U i6 (O i 16),U i6 (O i 17),U i6 (O i 18),U i6 (O i 19),U i6 (O i 20),U i6 (O i 21)] 42 (0,0))):=(hdd.block g0 (lt_of_heap HG12.out)).trans HG12.out
   have HTVD:Hid (TV wd (.slice ta N tc) TL):=HTV12.out.below hdd
   have HTBD:Hid (∀ b,(Value.slice ta N tc).ownBlock=some b→W.heap.size+1+1<b∧b<wd.heap.size):=fun b e=>⟨(HTB12.out b e).1,Nat.lt_of_lt_of_le (HTB12.out b e).2 hdd.size⟩
   clear hwd hdd s13 hBS S12 HGC12 HG12 HTV12 HTB12 hb5
   refine takeC 0 (v:=U i6 ch) rfl rfl (by kernel_rfl) (by kernel_rfl) (by kernel_rfl) (fun _ _ _ h=>h) (fun _=>rfl) rfl (fun w' hw'=>by go_simp) ?_
   refine takeC 1 (v:=.slice (some ⟨g,0,none⟩) (on+1) cap) rfl rfl (by kernel_rfl) (by kernel_rfl) (by kernel_rfl) (fun _ _ _ h=>h) (fun _=>rfl) rfl (fun w' hw'=>by go_simp) ?_
   refine takeC 2 (v:=U i6 ((i:Int)+1)) rfl rfl (by kernel_rfl) (by kernel_rfl) (by kernel_rfl) (fun _ _ _ h=>h) (fun _=>rfl) rfl (fun w' hw'=>by go_simp) ?_
   refine takeC 3 (v:=.pointer (some ⟨g,(i+1)*3,none⟩)) rfl rfl (by kernel_rfl) (by kernel_rfl) (by kernel_rfl) (fun _ _ _ h=>h) (fun _=>rfl) rfl (fun w' hw'=>by go_simp;intro q;omega) ?_
   refine takeC 4 (v:=.pointer (some ⟨g,(i+1)*3,none⟩)) rfl rfl (by kernel_rfl) (by kernel_rfl) (by kernel_rfl) (fun _ _ _ h=>h) (fun _=>rfl) rfl (fun w' hw'=>by go_simp) ?_
   refine takeC 5 (v:=U i6 H) rfl rfl (by kernel_rfl) (by kernel_rfl) (by kernel_rfl) (fun _ _ _ h=>h) (fun _=>rfl) rfl (fun w' hw'=>by have hc:w'.cell? ⟨g,(i+1)*3,none⟩=some (U i6 H):=(by rw [(cells_at hw'.2).1];exact b1);go_simp) ?_
   refine takeC 6 (v:=.slice (some ⟨g,0,none⟩) (on+1) cap) rfl rfl (by kernel_rfl) (by kernel_rfl) (by kernel_rfl) (fun _ _ _ h=>h) (fun _=>rfl) rfl (fun w' hw'=>by go_simp) ?_
   refine takeC 7 (v:=U i6 ((i:Int)+1)) rfl rfl (by kernel_rfl) (by kernel_rfl) (by kernel_rfl) (fun _ _ _ h=>h) (fun _=>rfl) rfl (fun w' hw'=>by go_simp) ?_
   refine takeC 8 (v:=.pointer (some ⟨g,(i+1)*3,none⟩)) rfl rfl (by kernel_rfl) (by kernel_rfl) (by kernel_rfl) (fun _ _ _ h=>h) (fun _=>rfl) rfl (fun w' hw'=>by go_simp;intro q;omega) ?_
   refine takeC 9 (v:=.pointer (some ⟨g,(i+1)*3+1,none⟩)) rfl rfl (by kernel_rfl) (by kernel_rfl) (by kernel_rfl) (fun _ _ _ h=>h) (fun _=>rfl) rfl (fun w' hw'=>by go_simp) ?_
   refine takeC 10 (v:=U i6 V) rfl rfl (by kernel_rfl) (by kernel_rfl) (by kernel_rfl) (fun _ _ _ h=>h) (fun _=>rfl) rfl (fun w' hw'=>by have hc:w'.cell? ⟨g,(i+1)*3+1,none⟩=some (U i6 V):=(by rw [(cells_at hw'.2).1];exact b2);go_simp) ?_
   refine takeC 11 (v:=U i6 (H*V)) rfl rfl (by kernel_rfl) (by kernel_rfl) (by kernel_rfl) (fun _ _ _ h=>h) (fun _=>rfl) rfl (fun w' hw'=>by go_simp;rw [IntKind.wrap_i64];omega) ?_
   refine takeC 12 (v:=.slice ta N tc) rfl rfl (by kernel_rfl) (by kernel_rfl) (by kernel_rfl) (fun _ _ _ h=>h) (fun _=>rfl) rfl (fun w' hw'=>by go_simp) ?_
   refine takeC 13 (v:=U i6 bi) rfl rfl (by kernel_rfl) (by kernel_rfl) (by kernel_rfl) (fun _ _ _ h=>h) (fun _=>rfl) rfl (fun w' hw'=>by go_simp) ?_
   refine takeC 14 (v:=.agg #[U i6 slo,U i6 shi]) rfl rfl (by kernel_rfl) (by kernel_rfl) (by kernel_rfl) (fun _ _ _ h=>h) (fun _=>rfl) rfl (fun w' hw'=>run_la 28 (.tmp 7) rfl ⟨W.heap.size+1,0,none⟩ (by kernel_rfl) [U i6 slo,U i6 shi] _ (fun j v hj=>by rw [Addr.add_lit,Nat.zero_add,(cells_at hw'.1.h3).1];simpa using hj) Tryz.underlying28 rfl (by kernel_rfl)) ?_
   refine takeC 15 (v:=.pointer (some ⟨B12,19,none⟩)) rfl rfl (by kernel_rfl) (by kernel_rfl) (by kernel_rfl) (fun _ _ _ h=>h) (fun _=>rfl) rfl (fun w' hw'=>by go_simp) ?_
   refine takeC 16 (v:=U i6 (O i 19)) rfl rfl (by kernel_rfl) (by kernel_rfl) (by kernel_rfl) (fun _ _ _ h=>h) (fun _=>rfl) rfl (fun w' hw'=>by have hc:=(cells_at hw'.1.h2).1 19;go_simp) ?_
   refine takeC 18 (v:=.agg #[U i6 x0,U i6 y0,U i6 z0,U i6 0,U i6 0,Sl (some ⟨g0,0,none⟩) 1 1,U i6 0]) rfl rfl (by kernel_rfl) (by kernel_rfl) (by kernel_rfl) (fun _ _ _ h=>h) (fun _=>rfl) rfl (fun w' hw'=>run_la 26 (.tmp 13) rfl ⟨B13,0,none⟩ (by kernel_rfl) [U i6 x0,U i6 y0,U i6 z0,U i6 0,U i6 0,Sl (some ⟨g0,0,none⟩) 1 1,U i6 0] _ (fun j v hj=>by rw [Addr.add_lit,Nat.zero_add,(cells_at hw'.1.h1).1];simpa using hj) Tryz.underlying26 rfl (by kernel_rfl)) ?_
   refine yK 17 ⟨SD.out,HGD.out⟩ (by kernel_rfl) rfl rfl 20 #[U i6 (O i 19)] (by kernel_rfl) (bone_any _ _) ?_
   rintro e wb ⟨rfl,hbb⟩
   refine⟨_,rfl,?_⟩
   have sb:=SD.out.call hbb
   have hgb:=(hbb.block g (lt_of_heap HGD.out)).trans HGD.out
   have hBSb:=(hbb.block _ (lt_of_heap hBSd.out)).trans hBSd.out
   have hg0b:=(hbb.block g0 (lt_of_heap HG0D.out)).trans HG0D.out
   have htvb:=HTVD.out.below hbb
   have htbb:∀ b,(Value.slice ta N tc).ownBlock=some b→W.heap.size+1+1<b∧b<wb.heap.size:=fun b e=>⟨(HTBD.out b e).1,Nat.lt_of_lt_of_le (HTBD.out b e).2 hbb.size⟩
   refine takeC 19 (v:=.agg #[U i6 ch,U i6 (H*V),Sl ta N tc,U i6 bi,U i6 slo,U i6 shi,U i6 (O i 19),U i6 (O i 19),U i6 x0,U i6 y0,U i6 z0,U i6 0,U i6 0,Sl (some ⟨g0,0,none⟩) 1 1,U i6 0]) rfl rfl (by kernel_rfl) (by kernel_rfl) (by kernel_rfl) (fun _ _ _ h=>h) (fun _=>rfl) rfl (fun w' hw'=>by kernel_rfl) ?_
   refine yS 20 ⟨sb,hgb⟩ (by kernel_rfl) rfl rfl 55 (.tmp 8) (.tmp 89) rfl (W.heap.size+1+1) #[U i6 ch,U i6 (H*V),Sl ta N tc,U i6 bi,U i6 slo,U i6 shi,U i6 (O i 19),U i6 (O i 19),U i6 x0,U i6 y0,U i6 z0,U i6 0,U i6 0,Sl (some ⟨g0,0,none⟩) 1 1,U i6 0] (by kernel_rfl) (by kernel_rfl) 55 #[U i6 0,U i6 0,Sl none 0 0,U i6 0,U i6 0,U i6 0,U i6 0,U i6 0,U i6 0,U i6 0,U i6 0,U i6 0,U i6 0,Sl none 0 0,U i6 0] hBSb (by kernel_rfl) rfl (by simp [Value.oneCell']) ?_
   have hb5:=HB5.out
   have hB':=below_setRow sb.below (show W.heap.size≤W.heap.size+1+1 by omega) #[U i6 ch,U i6 (H*V),Sl ta N tc,U i6 bi,U i6 slo,U i6 shi,U i6 (O i 19),U i6 (O i 19),U i6 x0,U i6 y0,U i6 z0,U i6 0,U i6 0,Sl (some ⟨g0,0,none⟩) 1 1,U i6 0]
   have hZ':=setRow_heap wb (W.heap.size+1+1) #[U i6 0,U i6 0,Sl none 0 0,U i6 0,U i6 0,U i6 0,U i6 0,U i6 0,U i6 0,U i6 0,U i6 0,U i6 0,U i6 0,Sl none 0 0,U i6 0] #[U i6 ch,U i6 (H*V),Sl ta N tc,U i6 bi,U i6 slo,U i6 shi,U i6 (O i 19),U i6 (O i 19),U i6 x0,U i6 y0,U i6 z0,U i6 0,U i6 0,Sl (some ⟨g0,0,none⟩) 1 1,U i6 0] 55 (0,0) hBSb
   have hG':(wb.setRow (W.heap.size+1+1) #[U i6 ch,U i6 (H*V),Sl ta N tc,U i6 bi,U i6 slo,U i6 shi,U i6 (O i 19),U i6 (O i 19),U i6 x0,U i6 y0,U i6 z0,U i6 0,U i6 0,Sl (some ⟨g0,0,none⟩) 1 1,U i6 0]).heap[g0]? = some (.cells #[U i6 (O i 0),U i6 0,U i6 0,U i6 (O i 3),U i6 (O i 4),U i6 (O i 5),U i6 (O i 6),U i6 (O i 7),U i6 (O i 8),U i6 (O i 9),U i6 (O i 10),U i6 (O i 11),Sl wa lw cw,Sl ba lb cb,U i6 (O i 14),U i6 (O i 15),U i6 (O i 16),U i6 (O i 17),U i6 (O i 18),U i6 (O i 19),U i6 (O i 20),U i6 (O i 21)] 42 (0,0)):=(setRow_other _ _ _ _ hg0BS).trans hg0b
   have hgc':(wb.setRow (W.heap.size+1+1) #[U i6 ch,U i6 (H*V),Sl ta N tc,U i6 bi,U i6 slo,U i6 shi,U i6 (O i 19),U i6 (O i 19),U i6 x0,U i6 y0,U i6 z0,U i6 0,U i6 0,Sl (some ⟨g0,0,none⟩) 1 1,U i6 0]).heap[g]? = some (.cells cur 23 (0,0)):=(setRow_other _ _ _ _ hgBS).trans hgb
   have sd:St W (wb.setRow (W.heap.size+1+1) #[U i6 ch,U i6 (H*V),Sl ta N tc,U i6 bi,U i6 slo,U i6 shi,U i6 (O i 19),U i6 (O i 19),U i6 x0,U i6 y0,U i6 z0,U i6 0,U i6 0,Sl (some ⟨g0,0,none⟩) 1 1,U i6 0]) ((B13,#[U i6 x0,U i6 y0,U i6 z0,U i6 0,U i6 0,Sl (some ⟨g0,0,none⟩) 1 1,U i6 0],26) :: (B12,#[U i6 (O i 0),U i6 0,U i6 0,U i6 (O i 3),U i6 (O i 4),U i6 (O i 5),U i6 (O i 6),U i6 (O i 7),U i6 (O i 8),U i6 (O i 9),U i6 (O i 10),U i6 (O i 11),Sl wa lw cw,Sl ba lb cb,U i6 (O i 14),U i6 (O i 15),U i6 (O i 16),U i6 (O i 17),U i6 (O i 18),U i6 (O i 19),U i6 (O i 20),U i6 (O i 21)],42) :: (W.heap.size+1,#[U i6 slo,U i6 shi],28) :: []):=⟨hB',fun y hy=>⟨(setRow_other _ _ _ _ (by simp only [List.mem_cons,List.not_mem_nil,or_false] at hy; rcases hy with rfl | rfl | rfl<;>simp<;>omega)).trans (sb.2 y hy).1,(sb.2 y hy).2⟩⟩
   refine yR 21 ⟨sd,hgc'⟩ (by kernel_rfl) rfl rfl (U i6 0) (wb.setRow (W.heap.size+1+1) #[U i6 ch,U i6 (H*V),Sl ta N tc,U i6 bi,U i6 slo,U i6 shi,U i6 (O i 19),U i6 (O i 19),U i6 x0,U i6 y0,U i6 z0,U i6 0,U i6 0,Sl (some ⟨g0,0,none⟩) 1 1,U i6 0]) (by kernel_rfl) ?_
   refine doneC ⟨sd,hgc'⟩ (by kernel_rfl) ?_ _
   have HB':Hid (Below W.heap.size W (wb.setRow (W.heap.size+1+1) #[U i6 ch,U i6 (H*V),Sl ta N tc,U i6 bi,U i6 slo,U i6 shi,U i6 (O i 19),U i6 (O i 19),U i6 x0,U i6 y0,U i6 z0,U i6 0,U i6 0,Sl (some ⟨g0,0,none⟩) 1 1,U i6 0])):=hB'
   have HZ':Hid ((wb.setRow (W.heap.size+1+1) #[U i6 ch,U i6 (H*V),Sl ta N tc,U i6 bi,U i6 slo,U i6 shi,U i6 (O i 19),U i6 (O i 19),U i6 x0,U i6 y0,U i6 z0,U i6 0,U i6 0,Sl (some ⟨g0,0,none⟩) 1 1,U i6 0]).heap[W.heap.size+1+1]? = some (.cells #[U i6 ch,U i6 (H*V),Sl ta N tc,U i6 bi,U i6 slo,U i6 shi,U i6 (O i 19),U i6 (O i 19),U i6 x0,U i6 y0,U i6 z0,U i6 0,U i6 0,Sl (some ⟨g0,0,none⟩) 1 1,U i6 0] 55 (0,0))):=hZ'
   have HG':Hid ((wb.setRow (W.heap.size+1+1) #[U i6 ch,U i6 (H*V),Sl ta N tc,U i6 bi,U i6 slo,U i6 shi,U i6 (O i 19),U i6 (O i 19),U i6 x0,U i6 y0,U i6 z0,U i6 0,U i6 0,Sl (some ⟨g0,0,none⟩) 1 1,U i6 0]).heap[g0]? = some (.cells #[U i6 (O i 0),U i6 0,U i6 0,U i6 (O i 3),U i6 (O i 4),U i6 (O i 5),U i6 (O i 6),U i6 (O i 7),U i6 (O i 8),U i6 (O i 9),U i6 (O i 10),U i6 (O i 11),Sl wa lw cw,Sl ba lb cb,U i6 (O i 14),U i6 (O i 15),U i6 (O i 16),U i6 (O i 17),U i6 (O i 18),U i6 (O i 19),U i6 (O i 20),U i6 (O i 21)] 42 (0,0))):=hG'
   have HT':Hid (TV (wb.setRow (W.heap.size+1+1) #[U i6 ch,U i6 (H*V),Sl ta N tc,U i6 bi,U i6 slo,U i6 shi,U i6 (O i 19),U i6 (O i 19),U i6 x0,U i6 y0,U i6 z0,U i6 0,U i6 0,Sl (some ⟨g0,0,none⟩) 1 1,U i6 0]) (.slice ta N tc) TL∧∀ a,ta=some a→a.block<(wb.setRow (W.heap.size+1+1) #[U i6 ch,U i6 (H*V),Sl ta N tc,U i6 bi,U i6 slo,U i6 shi,U i6 (O i 19),U i6 (O i 19),U i6 x0,U i6 y0,U i6 z0,U i6 0,U i6 0,Sl (some ⟨g0,0,none⟩) 1 1,U i6 0]).heap.size):=⟨htvb.other (fun b e=>by have:=(htbb b e).1;omega),fun a e=>by have h9:=(htbb a.block (by rw [e];rfl)).2;have h8:=size_setRow wb (W.heap.size+1+1) #[U i6 ch,U i6 (H*V),Sl ta N tc,U i6 bi,U i6 slo,U i6 shi,U i6 (O i 19),U i6 (O i 19),U i6 x0,U i6 y0,U i6 z0,U i6 0,U i6 0,Sl (some ⟨g0,0,none⟩) 1 1,U i6 0];omega⟩
   clear hB' hZ' hG' hgc' sd sb hBSb hgb hg0b htvb htbb hb5
   go_wp2
   refine bodyPost_ret (v:=.tuple #[.agg #[U i6 ch,U i6 (H*V),Sl ta N tc,U i6 bi,U i6 slo,U i6 shi,U i6 (O i 19),U i6 (O i 19),U i6 x0,U i6 y0,U i6 z0,U i6 0,U i6 0,Sl (some ⟨g0,0,none⟩) 1 1,U i6 0],U i6 0]) (results_row_tmp Tryz.results17 _ _ (W.heap.size+1+1) 55 _ _ (U i6 0) (by kernel_rfl) HZ'.out Tryz.underlying55 rfl (by kernel_rfl) (by kernel_rfl)) (by kernel_rfl) ⟨.inr ⟨HVB.out,g0,ta,tc,rfl,HG'.out,hgW.out,HT'.out.1,HT'.out.2⟩,HB'.out⟩
 ·have her':(er == 0)=false:=by simp [her]
  go_wp2_with (refine wpList_store_row rfl 55 (.tmp 8) (.tmp 64) rfl (W.heap.size+1+1) #[U i6 0,U i6 0,Sl none 0 0,U i6 0,U i6 0,U i6 0,U i6 0,U i6 0,U i6 0,U i6 0,U i6 0,U i6 0,U i6 0,Sl none 0 0,U i6 0] rfl rfl 55 #[U i6 0,U i6 0,Sl none 0 0,U i6 0,U i6 0,U i6 0,U i6 0,U i6 0,U i6 0,U i6 0,U i6 0,U i6 0,U i6 0,Sl none 0 0,U i6 0] S11.out.h4 (by kernel_rfl) rfl (by simp [Value.oneCell']) ?_;have hZ':=setRow_heap _ (W.heap.size+1+1) #[U i6 0,U i6 0,Sl none 0 0,U i6 0,U i6 0,U i6 0,U i6 0,U i6 0,U i6 0,U i6 0,U i6 0,U i6 0,U i6 0,Sl none 0 0,U i6 0] #[U i6 0,U i6 0,Sl none 0 0,U i6 0,U i6 0,U i6 0,U i6 0,U i6 0,U i6 0,U i6 0,U i6 0,U i6 0,U i6 0,Sl none 0 0,U i6 0] 55 (0,0) S11.out.h4;have hB':Hid (Below W.heap.size W (_:World)):=below_setRow S11.out.below (show W.heap.size≤W.heap.size+1+1 by omega) #[U i6 0,U i6 0,Sl none 0 0,U i6 0,U i6 0,U i6 0,U i6 0,U i6 0,U i6 0,U i6 0,U i6 0,U i6 0,U i6 0,Sl none 0 0,U i6 0];generalize World.setRow _ _ _=w5 at hZ' hB' ⊢)
  exact bodyPost_ret (results_row_tmp Tryz.results17 _ _ (W.heap.size+1+1) 55 _ _ (U i6 er) rfl hZ' Tryz.underlying55 rfl (by kernel_rfl) rfl) rfl ⟨.inl ⟨her,rfl⟩,hB'.out⟩
end Go.Proofs.YtccoanknofhmaaaGreat
namespace Go.Proofs.YtccoanknofhmaaaGreat.Fx
open Go.Value renaming int → U, slice → Sl
open Go.IntKind renaming i64 → i6
set_option maxRecDepth 100000
set_option maxHeartbeats 16000000
open Go.ChangeShapes Go.WideShapes Go.ChangeAt Go.RowKit
def sizeV (x:Int):Int:=if x<0 then -x else x
def hq (s d:Int):Int:=if d≤2*(s % d) then s / d+1 else s / d
def rq (x d:Int):Int:=if x<0 then -(hq (-x) d) else hq x d
def p2 (n:Int):Int:=2 ^ n.toNat
theorem drewN_below (w:World) (n:Nat):Below w.heap.size w (w.drewN n):=below_drewN (Below.refl _ _) n
def shB (n:Int):Bool:=decide (0≤n∧n≤62)
def shV (x n:Int):Int:=if shB n=true then rq x (p2 n) else 0
def shE (n:Int):Int:=if shB n=true then 0 else 20
theorem reach_any (n:Int) (w:World) :
  Calls Tryz.prog 111 #[U i6 n] w fun e w'=>e=.returned (.bool (shB n))∧w'=w:=by
 by_cases c:0≤n
 ·have HR:Hid (decide (n≤62)=shB n):=by unfold Hid shB;simp [c]
  go_enter Tryz.func111,Tryz.ntmps111
  go_wp2
  go_ret
  exact⟨retB HR.out,rfl⟩
 ·have HR:Hid (false=shB n):=by unfold Hid shB;simp;omega
  go_enter Tryz.func111,Tryz.ntmps111
  go_wp2
  go_ret
  exact⟨retB HR.out,rfl⟩
def meV (x n:Int):Int:=if n<1 then 0 else rq x n
def meE (n:Int):Int:=if n<1 then 2 else 0
def vaB (x:Int):Bool:=decide (-128≤x∧x≤127)
def fiB (z lo hi:Int):Bool:=decide (-128≤lo∧lo≤hi∧hi≤127∧-128≤z∧z≤127)
def fiV (v z lo hi:Int):Int:=if fiB z lo hi=true then clampV (v+z) lo hi else 0
def fiE (z lo hi:Int):Int:=if fiB z lo hi=true then 0 else 85
def scB (m s:Int):Bool:=decide (1≤m∧m≤2147483647∧0≤s∧s≤62)
def acB (a:Int):Bool:=decide (-4294967296≤a∧a≤4294967296)
def apV (a m s:Int):Int:=if scB m s=true then (if acB a=true then rq (a*m) (p2 s) else 0) else 0
def apE (a m s:Int):Int:=if scB m s=true then (if acB a=true then 0 else 10) else 20
theorem prod_bd (a m:Int) (a1:-4294967296≤a) (a2:a≤4294967296) (m1:1≤m) (m2:m≤2147483647):-9223372032559808512≤a*m∧a*m≤9223372032559808512:=by
 have h1:=Int.mul_le_mul_of_nonneg_right a1 (show 0≤m by omega)
 have h2:=Int.mul_le_mul_of_nonneg_right a2 (show 0≤m by omega)
 omega
theorem valid_any (m s:Int) (w:World) :
  Calls Tryz.prog 103 #[.agg #[U i6 m,U i6 s]] w fun e w'=>e=.returned (.bool (scB m s))∧Below w.heap.size w w':=by
 by_cases c1:1≤m
 ·by_cases c2:m≤2147483647
  ·have HR:Hid (shB s=scB m s):=by unfold Hid shB scB;simp [c1,c2]
   go_enter Tryz.func103,Tryz.ntmps103
   go_wp2_with fail
   refine (reach_any _ _).mono ?_
   rintro e w' ⟨rfl,rfl⟩
   go_wp2
   go_ret
   exact⟨retB HR.out,(Below.refl _ _).alloc (Nat.le_refl _) _⟩
  ·have HR:Hid (false=scB m s):=by unfold Hid scB;simp [c2]
   go_enter Tryz.func103,Tryz.ntmps103
   go_wp2
   go_ret
   exact⟨retB HR.out,(Below.refl _ _).alloc (Nat.le_refl _) _⟩
 ·have HR:Hid (false=scB m s):=by unfold Hid scB;simp [c1]
  go_enter Tryz.func103,Tryz.ntmps103
  go_wp2
  go_ret
  exact⟨retB HR.out,(Below.refl _ _).alloc (Nat.le_refl _) _⟩
end Go.Proofs.YtccoanknofhmaaaGreat.Fx
namespace Go.Proofs.YtccoanknofhmaaaGreat
open Go.Value renaming int → U, slice → Sl
open Go.IntKind renaming i64 → i6
set_option maxRecDepth 100000
set_option maxHeartbeats 16000000
open Go.ChangeShapes Go.WideShapes Go.ChangeAt Go.RowKit
set_option linter.unusedVariables false
structure Opd (k b m kh kw sh sw tp lf bt rt:Int) (lw lb:Nat) (sm ss um us z p lo hi h w c H V C:Int):Prop where
 hk:1≤k∧k≤8
 hA:vS h w c=true
 hB:vS H V C=true
 si:k≤4→Sit k kh kw sh sw tp lf bt rt h w c H V C lw lb
 al:k≤4→tkE k 0 b m kh kw sh sw tp lf bt rt lw lb sm ss um us z p lo hi [(h,w,c)] 0=0∧mk3 k m kh kw sh sw tp lf bt rt (h,w,c)=(H,V,C)
 ou:2≤k∧k≤5→ouR h w c kh kw sh sw tp lf bt rt=(H,V,0)
 c3:3≤k→C=c
 s6:6≤k→H=h∧V=w
 rz:rzB z p lo hi=true
 sc:ssB k sm ss um us=true
 oz:ozB k b m kh kw sh sw tp lf bt rt lw lb sm ss um us z p=true
theorem op_opd {k a b m kh kw sh sw tp lf bt rt:Int} {lw lb:Nat} {sm ss um us z p lo hi:Int} {wk:Int} {L:List (Int×Int×Int)} (hx:tkE k a b m kh kw sh sw tp lf bt rt lw lb sm ss um us z p lo hi L wk=0) (hwk:0≤wk) (hv:∀ s∈L,vS3 s=true)
  {h w c H V C:Int} (hA:ShA L a=(h,w,c)) (hB:mk3 k m kh kw sh sw tp lf bt rt (h,w,c)=(H,V,C)):Opd k b m kh kw sh sw tp lf bt rt lw lb sm ss um us z p lo hi h w c H V C∧(0≤b∧b<(L.length:Int))∧(k=6→ShA L b=(h,w,c)):=by
 obtain⟨t1,-,t3,⟨a0,a1⟩,hk,t6⟩:=tk_0 hx hv
 have hg:vS h w c=true:=by
  obtain⟨i,rfl⟩:=Int.eq_ofNat_of_zero_le a0
  have:=hv _ (ShA_mem (show i<L.length by omega))
  rw [hA] at this
  exact this
 have h1:opE k a b m kh kw sh sw tp lf bt rt lw lb sm ss um us z p lo hi L=0:=by
  unfold tkE at hx
  by_cases q:opE k a b m kh kw sh sw tp lf bt rt lw lb sm ss um us z p lo hi L≠0
  ·rw [if_pos q] at hx;exact hx
  ·exact Decidable.not_not.1 q
 have hsit:k≤4→Sit k kh kw sh sw tp lf bt rt h w c H V C lw lb:=fun q=>op_sit hx (by omega) hv hA hB
 rw [hA] at t1 t6
 rw [hB] at t1
 have fit:=fit_of (A:=(h,w,c)) t6 (by rw [hB];exact t1)
 rw [hB] at fit
 obtain⟨f1,f2,f3⟩:=fit
 have h1':=h1
 unfold opE at h1
 rw [hA,hB] at h1
 by_cases q1:fmE k a b L.length (ozB k b m kh kw sh sw tp lf bt rt lw lb sm ss um us z p)≠0
 ·rw [if_pos q1] at h1;exact absurd h1 q1
 rw [if_neg q1] at h1
 obtain⟨-,-,hb6,hoz⟩:=fmE_0 (Decidable.not_not.1 q1)
 simp only at h1
 rw [t6,if_neg (by decide)] at h1
 by_cases q3:k=6∧(h,w,c)≠ShA L b
 ·rw [if_pos q3] at h1;cases h1
 rw [if_neg q3] at h1
 by_cases q2:rdB k=true∧512<st3 k kh kw (h,w,c)
 ·rw [if_pos q2] at h1;cases h1
 rw [if_neg q2] at h1
 obtain⟨n1,n2,n3⟩:=nuE_0 h1
 have hoz':=of_decide_eq_true hoz
 have hal:k≤4→tkE k 0 b m kh kw sh sw tp lf bt rt lw lb sm ss um us z p lo hi [(h,w,c)] 0=0:=fun q=>by
  have e:ShA [(h,w,c)] 0=(h,w,c):=rfl
  have hf:fmE k 0 b (([(h,w,c)]:List (Int×Int×Int)).length:Int) (ozB k b m kh kw sh sw tp lf bt rt lw lb sm ss um us z p)=0:=by
   unfold fmE
   rw [if_neg (by omega),if_neg (by simp),if_neg (by omega),hoz,if_neg (by decide)]
  have ho:opE k 0 b m kh kw sh sw tp lf bt rt lw lb sm ss um us z p lo hi [(h,w,c)]=0:=by
   unfold opE
   rw [e,hB]
   simp only
   rw [hf,if_neg (by decide),t6,if_neg (by decide),if_neg (by omega),if_neg q2]
   exact h1
  unfold tkE
  rw [ho,if_neg (by decide),e]
  rw [hA] at t3
  rw [if_neg (by omega)]
 refine⟨⟨hk,hg,f1,hsit,fun q=>⟨hal q,hB⟩,fun q=>(f2 q).1,fun q=>?_,fun q=>?_,n3,n2,hoz⟩,?_,fun q=>?_⟩
 ·by_cases q5:k≤5
  ·exact (f2 (by omega)).2 (by omega)
  ·have:=f3 (by omega);simp only [Prod.mk.injEq] at this;exact this.2.2
 ·have:=f3 q;simp only [Prod.mk.injEq] at this;exact⟨this.1,this.2.1⟩
 ·by_cases q:k=6
  ·exact hb6 q
  ·have:=(hoz'.1 q).1;omega
 ·by_cases q4:(h,w,c)=ShA L b
  ·exact q4.symm
  ·exact absurd ⟨q,q4⟩ q3
theorem opd_of {O:Nat→Nat→Int} {h w c lo hi ot t wk:Int} {on:Nat} {L:List (Int×Int×Int)} (q:gtR O h w c lo hi ot on=(0,t,L,wk)) {i:Nat} (hi0:i<on) :
  ∃ ja jb:Nat,O i 1=(ja:Int)∧ja≤i∧O i 2=(jb:Int)∧jb≤i∧∀ x y v H V C,L.getD ja (0,0,0)=(x,y,v)→L.getD (i+1) (0,0,0)=(H,V,C) →
   Opd (O i 0) (O i 2) (O i 3) (O i 4) (O i 5) (O i 6) (O i 7) (O i 8) (O i 9) (O i 10) (O i 11) (O i 12).toNat (O i 13).toNat (O i 14) (O i 15) (O i 16) (O i 17) (O i 18) (O i 19) (O i 20) (O i 21) x y v H V C∧(O i 0=6→L.getD jb (0,0,0)=(x,y,v)):=by
 obtain⟨hx,rfl,q2⟩:=gtR_st q
 clear q
 have q:=q2
 have hv:vS3 (h,w,c)=true:=(ouE_0 hx).1
 obtain⟨wi,g1,-⟩:=stG_pre hv on L wk q (i+1) (by omega)
 obtain⟨L0,wk0,h0,hx0,hL,-⟩:=stG_step g1
 obtain⟨w2,g2,g3,-⟩:=stG_pre hv on L wk q i (by omega)
 rw [g2] at h0
 simp only [Prod.mk.injEq,true_and] at h0
 obtain⟨rfl,rfl⟩:=h0
 obtain⟨i1,i2,-⟩:=stG_inv hv i _ _ g2
 obtain⟨t1,-,-,⟨a0,a1⟩,-,t6⟩:=tk_0 hx0 i2
 obtain⟨j,hj⟩:=Int.eq_ofNat_of_zero_le a0
 rw [hj] at a1
 have e1:ShA (L.take (i+1)) (j:Int)=ShA L (j:Int):=ShA_take (by omega)
 have e2:ShA L ((i+1:Nat):Int)=mk3 (O i 0) (O i 3) (O i 4) (O i 5) (O i 6) (O i 7) (O i 8) (O i 9) (O i 10) (O i 11) (ShA L (j:Int)):=by
  rw [← ShA_take (n:=i+1+1) (by omega),hL]
  unfold ShA at e1 ⊢
  rw [Int.toNat_natCast]
  simp only [List.getD]
  rw [List.getElem?_append_right (by omega),i1,Nat.sub_self]
  unfold oM ShA
  rw [hj,Int.toNat_natCast]
  rw [Int.toNat_natCast] at e1
  simp only [List.getElem?_cons_zero,Option.getD_some]
  rw [e1]
  rfl
 obtain⟨A1,A2,A3,hA0⟩:∃ A1 A2 A3,ShA L (j:Int)=(A1,A2,A3):=⟨_,_,_,rfl⟩
 obtain⟨B1,B2,B3,hB0⟩:∃ B1 B2 B3,ShA L ((i+1:Nat):Int)=(B1,B2,B3):=⟨_,_,_,rfl⟩
 obtain⟨r1,⟨b0,b1⟩,r3⟩:=op_opd (h:=A1) (w:=A2) (c:=A3) (H:=B1) (V:=B2) (C:=B3) hx0 g3 i2 (by rw [hj,e1];exact hA0) (by rw [← hB0,e2,hA0])
 obtain⟨jb,hjb⟩:=Int.eq_ofNat_of_zero_le b0
 rw [hjb] at b1 r3
 refine⟨j,jb,hj,by omega,hjb,by omega,fun x y v H V C hA hB=>?_⟩
 have ea:(A1,A2,A3)=(x,y,v):=by rw [← hA0,← hA];unfold ShA;rw [Int.toNat_natCast]
 have eb:(B1,B2,B3)=(H,V,C):=by rw [← hB0,← hB];unfold ShA;rw [Int.toNat_natCast]
 simp only [Prod.mk.injEq] at ea eb
 obtain⟨rfl,rfl,rfl⟩:=ea
 obtain⟨rfl,rfl,rfl⟩:=eb
 refine⟨r1,fun q6=>?_⟩
 have:=r3 q6
 rw [ShA_take (by omega)] at this
 unfold ShA at this
 rwa [Int.toNat_natCast] at this
theorem alone_g {k a b m kh kw sh sw tp lf bt rt:Int} {lw lb:Nat} {sm ss um us z p lo hi:Int} {h w c H V C:Int} (s:Opd k b m kh kw sh sw tp lf bt rt lw lb sm ss um us z p lo hi h w c H V C) (hk:k≤4) :
  ∃ Rw,gtR (fun _=>oL k 0 b m kh kw sh sw tp lf bt rt (lw:Int) (lb:Int) sm ss um us z p lo hi) h w c 0 0 0 1=(0,0,[(h,w,c),(H,V,C)],Rw):=by
 have hou:ouE h w c 0 0 0 1=0:=by
  unfold ouE
  rw [s.hA,if_neg (by decide),show rgB 0 0=true by decide,if_neg (by decide),if_neg (by decide),if_neg (by decide)]
 obtain⟨a1,a2⟩:=s.al hk
 rw [gtR_of hou]
 have hT:oT (oL k 0 b m kh kw sh sw tp lf bt rt (lw:Int) (lb:Int) sm ss um us z p lo hi) [(h,w,c)] 0=0:=by
  show tkE k 0 b m kh kw sh sw tp lf bt rt (lw:Int).toNat (lb:Int).toNat sm ss um us z p lo hi [(h,w,c)] 0=0
  rw [Int.toNat_natCast,Int.toNat_natCast]
  exact a1
 rw [stG_ok (i:=0) (L:=[(h,w,c)]) (wk:=0) rfl hT]
 have hM:oM (oL k 0 b m kh kw sh sw tp lf bt rt (lw:Int) (lb:Int) sm ss um us z p lo hi) [(h,w,c)]=(H,V,C):=a2
 rw [hM]
 exact⟨_,rfl⟩
def smT (p:Int) (x:List Int) (t:Int×Int):Int:=t.1*(if t.2<0 then p else x.getD t.2.toNat 0)
def smV (p:Int) (x:List Int):List (Int×Int)→Int
 | []=>0
 | t :: l=>smT p x t+smV p x l
def I8 (v:Int):Prop:=-128≤v∧v≤127
theorem wgA_bd {k ch st:Int} {zs:List Int} (hz:∀ v∈zs,(Lit.int .i16 v).wf=true) (i:Int):-32768≤wgA k ch st zs i∧wgA k ch st zs i≤32767:=by
 unfold wgA
 split
 ·omega
 ·rcases Nat.lt_or_ge (((ch-1)*st+i).toNat) zs.length with q | q
  ·rw [List.getD_eq_getElem?_getD,List.getElem?_eq_getElem q,Option.getD_some]
   exact wf_i16 (hz _ (List.getElem_mem q))
  ·rw [List.getD_eq_getElem?_getD,List.getElem?_eq_none q,Option.getD_none];omega
theorem biA_bd {k ch:Int} {bs:List Int} (hb:∀ v∈bs,(Lit.int .i32 v).wf=true):-2147483648≤biA k ch bs∧biA k ch bs≤2147483647:=by
 unfold biA
 split
 ·omega
 ·rcases Nat.lt_or_ge ((ch-1).toNat) bs.length with q | q
  ·rw [List.getD_eq_getElem?_getD,List.getElem?_eq_getElem q,Option.getD_some]
   exact wf_i32 (hb _ (List.getElem_mem q))
  ·rw [List.getD_eq_getElem?_getD,List.getElem?_eq_none q,Option.getD_none];omega
theorem tpc_in {h w kw t u:Int} (q:Int):tpc h w kw t u q = -1∨(0≤tpc h w kw t u q∧tpc h w kw t u q<h*w):=by
 unfold tpc plc
 split
 ·rename_i g
  obtain⟨⟨g1,g2⟩,g3,g4⟩:=g
  have:=rowbd g2 g1 g3 g4
  right;omega
 ·left;rfl
theorem cov_in {n c q d:Int} (hq:q = -1∨(0≤q∧q<n)) (hd:0≤d∧d<c):cov c q d = -1∨(0≤cov c q d∧cov c q d<n*c):=by
 unfold cov
 split
 ·left;rfl
 ·rename_i g
  rcases hq with q1 | ⟨q1,q2⟩
  ·exact absurd q1 g
  ·have:=rowbd q2 q1 hd.1 hd.2
   right;omega
theorem plA_in {k kh kw sh sw tp lf bt rt h w c H V C:Int} {lw lb:Nat} (s:Sit k kh kw sh sw tp lf bt rt h w c H V C lw lb) {ch:Int} (hch:1≤ch∧ch≤C) (t u i:Int) (hi:0≤i∧i<stR k kh kw h w c) :
  plA k c ch h w kw t u i = -1∨(0≤plA k c ch h w kw t u i∧plA k c ch h w kw t u i<h*w*c):=by
 obtain⟨hk,hvA,-,-,-,-,-,h3c,-⟩:=s
 have hc1:=(vS_yes hvA).2.2.1
 unfold plA
 by_cases k1:k=1
 ·subst k1
  rw [if_pos rfl]
  have:stR 1 kh kw h w c=h*w*c:=rfl
  rw [this] at hi
  right;exact hi
 ·rw [if_neg k1]
  by_cases k2:k=2
  ·rw [if_pos k2]
   exact cov_in (tpc_in _) ⟨Int.emod_nonneg _ (by omega),Int.emod_lt_of_pos _ (by omega)⟩
  ·rw [if_neg k2]
   have:=h3c (by omega)
   exact cov_in (tpc_in _) ⟨by omega,by omega⟩
theorem siL_facts {k kh kw sh sw tp lf bt rt h w c H V C:Int} {lw lb:Nat} (s:Sit k kh kw sh sw tp lf bt rt h w c H V C lw lb) {zs:List Int} (hz:∀ v∈zs,(Lit.int .i16 v).wf=true) {ch:Int} (hch:1≤ch∧ch≤C) (at':Int) :
  (siL k kh kw sh sw tp lf bt rt h w c ch at' zs).length≤512∧∀ t∈siL k kh kw sh sw tp lf bt rt h w c ch at' zs,(-32768≤t.1∧t.1≤32767)∧(t.2 = -1∨(0≤t.2∧t.2<h*w*c)):=by
 have h1:=s.2.2.2.2.2.2.2.2.2
 have h0:=s.2.2.2.2.2.2.2.2.1
 unfold siL
 refine⟨by rw [tmL_len];omega,fun t ht=>?_⟩
 unfold tmL at ht
 obtain⟨i,hi,rfl⟩:=List.mem_map.1 ht
 have hi':i<(stR k kh kw h w c).toNat:=by simpa using hi
 exact⟨wgA_bd hz _,plA_in s hch _ _ _ ⟨by omega,by omega⟩⟩
def suA (k kh kw sh sw tp lf bt rt h w c p:Int) (zs bs x:List Int) (ch at':Int):Int:=biA k ch bs+smV p x (siL k kh kw sh sw tp lf bt rt h w c ch at' zs)
def suL (k kh kw sh sw tp lf bt rt h w c C p:Int) (zs bs x:List Int) (n:Nat):List Int:=(List.range n).map fun (j:Nat)=>suA k kh kw sh sw tp lf bt rt h w c p zs bs x ((j:Int) % C+1) ((j:Int) / C)
def mxI (a b:Int):Int:=if a<b then b else a
def grA (w c kw:Int) (x:List Int) (t u d:Int) (q:Nat):Int:=x.getD (((t+(q:Int) / kw)*w+(u+(q:Int) % kw))*c+d).toNat 0
def grM (w c kw:Int) (x:List Int) (t u d:Int):Nat→Int
 | 0=>-128
 | q+1=>mxI (grM w c kw x t u d q) (grA w c kw x t u d q)
def grL (kh kw sh sw w c V C:Int) (x:List Int) (n:Nat):List Int:=(List.range n).map fun (j:Nat)=>grM w c kw x ((j:Int) / C / V*sh) ((j:Int) / C % V*sw) ((j:Int) % C) (kh*kw).toNat
def apL (x:List Int) (m s:Int):List Int:=x.map fun v=>Fx.apV v m s
def meL (x:List Int) (n:Int):List Int:=x.map fun v=>Fx.meV v n
def adL (x y:List Int):List Int:=(List.range x.length).map fun i=>x.getD i 0+y.getD i 0
def fiL (x:List Int) (z lo hi:Int):List Int:=x.map fun v=>Fx.fiV v z lo hi
def vaL (k kh kw sh sw tp lf bt rt sm ss um us p h w c H V C:Int) (zs bs x y:List Int):List Int :=
 if k≤3 then apL (suL k kh kw sh sw tp lf bt rt h w c C p zs bs x (H*V*C).toNat) sm ss
 else if k=4 then meL (suL k kh kw sh sw tp lf bt rt h w c C p zs bs x (H*V*C).toNat) (kh*kw)
 else if k=5 then grL kh kw sh sw w c V C x (H*V*C).toNat
 else if k=6 then adL (apL x sm ss) (apL y um us)
 else if k=7 then apL x sm ss
 else x
def teL (k kh kw sh sw tp lf bt rt sm ss um us z p lo hi h w c H V C:Int) (zs bs x y:List Int):List Int:=fiL (vaL k kh kw sh sw tp lf bt rt sm ss um us p h w c H V C zs bs x y) z lo hi
def opT (o:Nat→Int) (zs bs:List Int) (A B:Int×Int×Int) (x y:List Int):List Int :=
 teL (o 0) (o 4) (o 5) (o 6) (o 7) (o 8) (o 9) (o 10) (o 11) (o 14) (o 15) (o 16) (o 17) (o 18) (o 19) (o 20) (o 21) A.1 A.2.1 A.2.2 B.1 B.2.1 B.2.2 zs bs x y
def tnL (O:Nat→Nat→Int) (Z B:Nat→List Int) (L:List (Int×Int×Int)) (x:List Int):Nat→List (List Int)
 | 0=>[x]
 | n+1=>tnL O Z B L x n++[opT (O n) (Z n) (B n) (L.getD (O n 1).toNat (0,0,0)) (L.getD (n+1) (0,0,0)) ((tnL O Z B L x n).getD (O n 1).toNat []) ((tnL O Z B L x n).getD (O n 2).toNat [])]
def tnA (O:Nat→Nat→Int) (Z B:Nat→List Int) (L:List (Int×Int×Int)) (x:List Int) (i:Nat):List Int:=(tnL O Z B L x i).getD i []
open Go.ChangeShapes Go.WideShapes Go.ChangeAt Go.RowKit Go.Shelf
theorem blcells {w:World} {B:Nat} {cs:Array Value} {T:TypeId} (h:w.heap[B]? = some (.cells cs T (0,0))) {l:List Value} (hl:∀ (q:Nat) (v:Value),l[q]? = some v→cs[q]? = some v):∀ (q:Nat) (v:Value),l[q]? = some v→w.cell? ((⟨B,0,none⟩:Addr).add q)=some v:=fun q v hq=>by
 rw [Addr.add_lit,Nat.zero_add,(cells_at h).1]
 exact hl q v hq
theorem bof1 (k a b m kh kw sh sw tp lf bt rt:Int) (wa:Option Addr) (lw wc:Nat) (ba:Option Addr) (lb bc:Nat) (sm ss um us z p lo hi h w c H V C:Int) (s:Opd k b m kh kw sh sw tp lf bt rt lw lb sm ss um us z p lo hi h w c H V C) (hk:k≤4) (zs bs:List Int) (W:World) (hZ:IRow .i16 W wa lw wc zs) (hB:IRow .i32 W ba lb bc bs) (hlw:lw*2≤140737488351232) (hlb:lb*4≤140737488351232) (g:Nat) (hg:W.heap[g]? = some (.cells #[U i6 k,U i6 0,U i6 b,U i6 m,U i6 kh,U i6 kw,U i6 sh,U i6 sw,U i6 tp,U i6 lf,U i6 bt,U i6 rt,Sl wa lw wc,Sl ba lb bc,U i6 sm,U i6 ss,U i6 um,U i6 us,U i6 z,U i6 p,U i6 lo,U i6 hi] 42 (0,0))) (ch at':Int) (hch:1≤ch∧ch≤C) (hat:0≤at'∧at'<H*V) :
  Calls Tryz.prog 37 #[.agg #[U i6 h,U i6 w,U i6 c,U i6 0,U i6 0,Sl (some ⟨g,0,none⟩) 1 1,U i6 0],U i6 1,U i6 ch,U i6 at'] W fun e w'=>(∃ v,e=.returned (.tuple #[v,U i6 (biA k ch bs),U i6 0])∧OTm w' W.heap.size v (siL k kh kw sh sw tp lf bt rt h w c ch at' zs))∧Below W.heap.size W w':=by
 obtain⟨Rw,hR⟩:=alone_g (a:=0) s hk
 have hcell:∀ q v,[U i6 k,U i6 0,U i6 b,U i6 m,U i6 kh,U i6 kw,U i6 sh,U i6 sw,U i6 tp,U i6 lf,U i6 bt,U i6 rt,Sl wa lw wc,Sl ba lb bc,U i6 sm,U i6 ss,U i6 um,U i6 us,U i6 z,U i6 p,U i6 lo,U i6 hi][q]? = some v→W.cell? ((⟨g,0,none⟩:Addr).add q)=some v:=blcells hg (fun q v hq=>by simpa using hq)
 have e0:((⟨g,0,none⟩:Addr).add (0*22))=⟨g,0,none⟩:=by rw [Addr.add_lit]
 have hL:LRow W (some ⟨g,0,none⟩) 1 1 (fun _=>oL k 0 b m kh kw sh sw tp lf bt rt (lw:Int) (lb:Int) sm ss um us z p lo hi) (fun _=>zs) (fun _=>bs):=by
  refine⟨Nat.le_refl _,by unfold maxLen;omega,(fun h=>by cases h),fun x hx i hi=>?_⟩
  cases hx
  obtain rfl:i=0:=by omega
  rw [e0]
  exact⟨wa,lw,wc,ba,lb,bc,rfl,rfl,hcell,hZ,hB,hlw,hlb⟩
 have hF:Fnd W (some ⟨g,0,none⟩) 1 (fun _=>oL k 0 b m kh kw sh sw tp lf bt rt (lw:Int) (lb:Int) sm ss um us z p lo hi) (fun _=>zs) (fun _=>bs) [(h,w,c),(H,V,C)] 0 ⟨g,0,none⟩ wa lw wc ba lb bc h w c H V C :=
  ⟨by omega,rfl,rfl,rfl,fun q v hq=>by rw [e0];exact hcell q v hq,hZ,hB,rfl,rfl,s.si hk,⟨Int.le_refl _,Int.le_refl _⟩,decide_eq_true (show 1≤k∧k≤4 by have:=s.hk;omega)⟩
 exact of_ok h w c 0 0 0 (some ⟨g,0,none⟩) 1 1 (fun _=>oL k 0 b m kh kw sh sw tp lf bt rt (lw:Int) (lb:Int) sm ss um us z p lo hi) (fun _=>zs) (fun _=>bs) W hL ch at' [(h,w,c),(H,V,C)] Rw hR 0 ⟨g,0,none⟩ wa lw wc ba lb bc h w c H V C hF hch hat
theorem row_facts {k kh kw sh sw tp lf bt rt h w c H V C:Int} {lw lb:Nat} (s:Sit k kh kw sh sw tp lf bt rt h w c H V C lw lb) {zs:List Int} (hz:∀ v∈zs,(Lit.int .i16 v).wf=true) {ch:Int} (hch:1≤ch∧ch≤C) {slo shi p:Int} (hs:-128≤slo∧slo≤shi∧shi≤127) (hp:-128≤p∧p≤127) (at':Int) :
  Rb (enL slo shi p (siL k kh kw sh sw tp lf bt rt h w c ch at' zs))∧0<(enL slo shi p (siL k kh kw sh sw tp lf bt rt h w c ch at' zs)).length∧(enL slo shi p (siL k kh kw sh sw tp lf bt rt h w c ch at' zs)).length≤512:=by
 obtain⟨h1,h2⟩:=siL_facts s hz hch at'
 refine⟨enL_rb hs hp fun t ht=>(h2 t ht).1,?_,by rw [enL_len];exact h1⟩
 rw [enL_len]
 unfold siL
 rw [tmL_len]
 have:=s.2.2.2.2.2.2.2.2.1
 omega
theorem bhull_of (k a b m kh kw sh sw tp lf bt rt:Int) (wa:Option Addr) (lw wc:Nat) (ba:Option Addr) (lb bc:Nat) (sm ss um us z p lo hi h w c H V C:Int) (s:Opd k b m kh kw sh sw tp lf bt rt lw lb sm ss um us z p lo hi h w c H V C) (hk:k≤4) (zs bs:List Int) (W:World) (hZ:IRow .i16 W wa lw wc zs) (hB:IRow .i32 W ba lb bc bs) (hlw:lw*2≤140737488351232) (hlb:lb*4≤140737488351232) (g:Nat) (hg:W.heap[g]? = some (.cells #[U i6 k,U i6 0,U i6 b,U i6 m,U i6 kh,U i6 kw,U i6 sh,U i6 sw,U i6 tp,U i6 lf,U i6 bt,U i6 rt,Sl wa lw wc,Sl ba lb bc,U i6 sm,U i6 ss,U i6 um,U i6 us,U i6 z,U i6 p,U i6 lo,U i6 hi] 42 (0,0))) (ch:Int) (hch:1≤ch∧ch≤C)
  (fa:Option Addr) (fl fc:Nat) (bi slo shi:Int) (hF0:TV W (.slice fa fl fc) (siL k kh kw sh sw tp lf bt rt h w c ch 0 zs)) (hfa:∀ a,fa=some a→a.block<W.heap.size) (hs:-128≤slo∧slo≤shi∧shi≤127) (hp:-128≤p∧p≤127) (q:Nat) (hq:W.heap[q]? = some (.cells #[U i6 ch,U i6 (H*V),Sl fa fl fc,U i6 bi,U i6 slo,U i6 shi,U i6 p,U i6 p,U i6 h,U i6 w,U i6 c,U i6 0,U i6 0,Sl (some ⟨g,0,none⟩) 1 1,U i6 0] 55 (0,0))) (F:List (Int×Int)→List (Int×Int)) (gf:Nat) (cl:Array Value)
  (eg:∀ args w,(callFunc gf args).run Tryz.prog w=.ok (.enter gf args) w)
  (hP:Pik W gf cl F)
  (hF:∀ E,Rb E→0<E.length→E.length≤512→∀ x∈F E,Vd 10000000000 x) :
  Calls Tryz.prog 18 #[.pointer (some ⟨q,0,none⟩),.func (.func gf) #[] cl] W fun e w'=>e=.returned (.agg #[U i6 (huA (piT F (fun (j:Nat)=>enL slo shi p (siL k kh kw sh sw tp lf bt rt h w c ch (j:Int) zs)) (H*V).toNat)).1,U i6 (huA (piT F (fun (j:Nat)=>enL slo shi p (siL k kh kw sh sw tp lf bt rt h w c ch (j:Int) zs)) (H*V).toNat)).2])∧Below W.heap.size W w':=by
 have hS:=s.si hk
 have hz:=hZ.2.2.2.1
 have hvb:=vS_bd s.hB
 have hN:H*V=((H*V).toNat:Int):=by omega
 have hf:∀ j:Nat,_:=fun j=>row_facts hS hz hch hs hp (j:Int)
 have hfl:fl=(stR k kh kw h w c).toNat:=by
  obtain⟨a,cap,e,-⟩:=hF0
  have:=(Value.slice.inj e).2.1
  rw [this]
  unfold siL
  rw [tmL_len]
 have hst:=hS.2.2.2.2.2.2.2.2
 refine bhull_any q ch (H*V) fa fl fc bi slo shi p h w c g (fun (j:Nat)=>siL k kh kw sh sw tp lf bt rt h w c ch (j:Int) zs) (H*V).toNat hN (by omega) (by omega) (fun j _=>by unfold siL;rw [tmL_len,hfl]) (fun (j:Nat)=>enL slo shi p (siL k kh kw sh sw tp lf bt rt h w c ch (j:Int) zs)) rfl F gf cl W hq (fun W' j hb hj=>?_) (fun W' j t hb hj ht=>?_) eg (fun W' v j nb b L hb hj hv hn hb' hT hL=>hP W' v _ L nb b hb (hf j).1 (hf j).2.1 (hf j).2.2 hv hn hb' hT hL) (fun j hj=>hF _ (hf j).1 (hf j).2.1 (hf j).2.2)
 ·refine bterms_any ch (H*V) fa fl fc bi slo shi p h w c g q W' ((hb.block q (lt_of_heap hq)).trans hq) W.heap.size (j:Int) _ _ ?_ hfa (fun _ W'' hb'=>bof1 k a b m kh kw sh sw tp lf bt rt wa lw wc ba lb bc sm ss um us z p lo hi h w c H V C s hk zs bs W'' ((hZ.below hb).below hb') ((hB.below hb).below hb') hlw hlb g ((hb'.block g (by have:=lt_of_heap hg;have:=hb.size;omega)).trans ((hb.block g (lt_of_heap hg)).trans hg)) ch (j:Int) hch ⟨by omega,by omega⟩)
  by_cases q0:j=0
  ·subst q0
   exact .inl (hF0.below hb)
  ·exact .inr (by omega)
 ·obtain⟨h1,h2⟩:=siL_facts hS hz hch (j:Int)
  exact bprod_any ch (H*V) fa fl fc bi slo shi p h w c g q W' ((hb.block q (lt_of_heap hq)).trans hq) t hs hp (h2 t ht).1
end Go.Proofs.YtccoanknofhmaaaGreat
