/- Choose of package depth, of what it asks. What Safe, Most and Choose answer of a model. What Length, Channels and Positions of package terms return. What Low, High and Break answer of a model: the error, or numbers that reach an end; a leak, or none. plain and fixed of law10. The document's Same of layer 11, of lists that are the same (for layer 23). one and fixed of law23. What the small functions of package plain return: places, isInput, widened, scaled, means, added. What sum of package plain returns. What alone of package plain returns: a model of one op. -/
import Derived.Test.YtgjcjhnnopandaaGreatGq01
import Derived.Test.YtgjcjhnnopandaaGreatGq08
import Derived.Test.YtgjcjhnnopandaaGreatGq11
import Derived.Test.YtgjcjhnnopandaaGreatGq12
import Derived.Test.YtgjcjhnnopandaaGreatGq13
import Derived.Test.YtgjcjhnnopandaaGreatGq21
import Derived.Test.YtgjcjhnnopandaaGreatGq22
import Derived.Test.YtgjcjhnnopandaaGreatGq23
import Derived.Test.YtgjcjhnnopandaaGreatGq24
import Derived.Test.YtgjcjhnnopandaaGreatGq26
import Derived.Test.YtgjcjhnnopandaaGreatGq27
import Derived.BigQuiet
import Derived.LoopN
import Derived.Deep.DeepCutAuto
namespace Go.Proofs.YtgjcjhnnopandaaGreat
open Go.Value renaming int → U, slice → Sl
open Go.IntKind renaming i64 → i6
set_option maxRecDepth 100000
set_option maxHeartbeats 16000000
open Go.ChangeShapes Go.WideShapes Go.ChangeAt Go.RowKit
set_option linter.unusedVariables false
open Go.ChangeShapes Go.WideShapes Go.ChangeAt Go.RowKit Go.Shelf
theorem spD_t {slo shi dp:Int} {N:Nat} (h:vbB slo shi=true) (g:1≤dp∧dp≤(N:Int)) (r:Int×Int):spD slo shi dp N r=(r.1,r.2,0):=by unfold spD;rw [if_pos h,if_pos g]
theorem spD_d {slo shi dp:Int} {N:Nat} (h:vbB slo shi=true) (g:¬ (1≤dp∧dp≤(N:Int))) (r:Int×Int):spD slo shi dp N r=(0,0,151):=by unfold spD;rw [if_pos h,if_neg g]
theorem spD_f {slo shi dp:Int} {N:Nat} (h:vbB slo shi=false) (r:Int×Int):spD slo shi dp N r=(0,0,30):=by unfold spD;rw [if_neg (by rw [h];decide)]
theorem dsaf_bad (h w c lo hi ot op ch:Int) (oa:Option Addr) (on oc:Nat) (W:World) (slo shi dp E:Int) (hE:E≠0) (hO:(∀ W',Below W.heap.size W W'→(Calls Tryz.prog 55 #[.agg #[U i6 h,U i6 w,U i6 c,U i6 lo,U i6 hi,Sl oa on oc,U i6 ot],U i6 op,U i6 ch,U i6 0] W' fun e w'=>e=.returned (.tuple #[Sl none 0 0,U i6 0,U i6 E])∧Below W'.heap.size W' w')∧∀ slo shi:Int,Calls Tryz.prog 36 #[.agg #[U i6 h,U i6 w,U i6 c,U i6 lo,U i6 hi,Sl oa on oc,U i6 ot],U i6 op,U i6 ch,.agg #[U i6 slo,U i6 shi]] W' fun e w'=>e=.returned (.tuple #[.agg #[U i6 0,U i6 0,Sl none 0 0,U i6 0,U i6 0,U i6 0,U i6 0,U i6 0,U i6 0,U i6 0,U i6 0,U i6 0,U i6 0,Sl none 0 0,U i6 0],U i6 E])∧Below W'.heap.size W' w')) :
  Calls Tryz.prog 50 #[.agg #[U i6 h,U i6 w,U i6 c,U i6 lo,U i6 hi,Sl oa on oc,U i6 ot],U i6 op,U i6 ch,.agg #[U i6 slo,U i6 shi],U i6 dp] W fun e w'=>e=.returned (.tuple #[.bool false,U i6 E])∧Below W.heap.size W w':=by
 have:=dsaf_w h w c lo hi ot op ch oa on oc W slo shi dp 0 0 E (fun W' hb=>bprt_bad h w c lo hi ot op ch oa on oc W' slo shi dp E hE (fun W'' hb'=>hO W'' (hb.trans (hb'.mono hb.size))))
 rw [saB_e hE] at this
 exact this
def saR (slo shi dp:Int) (N:Nat) (r:Int×Int):Bool×Int:=(saB (spD slo shi dp N r).1 (spD slo shi dp N r).2.1 (spD slo shi dp N r).2.2,(spD slo shi dp N r).2.2)
theorem saR_t {slo shi dp:Int} {N:Nat} (h:vbB slo shi=true) (g:1≤dp∧dp≤(N:Int)) (r:Int×Int):saR slo shi dp N r=(w16 r,0):=by unfold saR;rw [spD_t h g];exact Prod.ext (saB_0 _ _) rfl
theorem saR_d {slo shi dp:Int} {N:Nat} (h:vbB slo shi=true) (g:¬ (1≤dp∧dp≤(N:Int))) (r:Int×Int):saR slo shi dp N r=(false,151):=by unfold saR;rw [spD_d h g];rfl
theorem saR_f {slo shi dp:Int} {N:Nat} (h:vbB slo shi=false) (r:Int×Int):saR slo shi dp N r=(false,30):=by unfold saR;rw [spD_f h];rfl
theorem dsaf_ok (h w c lo hi ot:Int) (oa:Option Addr) (on oc:Nat) (O:Nat→Nat→Int) (Z B:Nat→List Int) (W:World) (hL:LRow W oa on oc O Z B) (ch:Int) (RL:List (Int×Int×Int)) (Rw:Int) (hR:gtR O h w c lo hi ot on=(0,0,RL,Rw)) (i:Nat) (x:Addr) (wa:Option Addr) (lw cw:Nat) (ba:Option Addr) (lb cb:Nat) (x0 y0 z0 H V C:Int) (hF:Fnd W oa on O Z B RL i x wa lw cw ba lb cb x0 y0 z0 H V C) (hch:1≤ch∧ch≤C) (slo shi dp:Int) (N:Nat) (hN:(siL (O i 0) (O i 4) (O i 5) (O i 6) (O i 7) (O i 8) (O i 9) (O i 10) (O i 11) x0 y0 z0 ch 0 (Z i)).length=N) :
  Calls Tryz.prog 50 #[.agg #[U i6 h,U i6 w,U i6 c,U i6 lo,U i6 hi,Sl oa on oc,U i6 ot],U i6 ((i:Int)+1),U i6 ch,.agg #[U i6 slo,U i6 shi],U i6 dp] W fun e w'=>e=.returned (.tuple #[.bool (saR slo shi dp N (hbD dp.toNat (fun (j:Nat)=>enL slo shi (O i 19) (siL (O i 0) (O i 4) (O i 5) (O i 6) (O i 7) (O i 8) (O i 9) (O i 10) (O i 11) x0 y0 z0 ch (j:Int) (Z i))) (H*V).toNat)).1,U i6 (saR slo shi dp N (hbD dp.toNat (fun (j:Nat)=>enL slo shi (O i 19) (siL (O i 0) (O i 4) (O i 5) (O i 6) (O i 7) (O i 8) (O i 9) (O i 10) (O i 11) x0 y0 z0 ch (j:Int) (Z i))) (H*V).toNat)).2])∧Below W.heap.size W w' :=
 dsaf_w h w c lo hi ot ((i:Int)+1) ch oa on oc W slo shi dp _ _ _ (fun W' hb=>bprt_ok h w c lo hi ot oa on oc O Z B W' (hL.below hb) ch RL Rw hR i x wa lw cw ba lb cb x0 y0 z0 H V C (hF.below hb) hch slo shi dp N hN)
theorem op_len {h w c lo hi ot ch:Int} {oa:Option Addr} {on:Nat} {O:Nat→Nat→Int} {Z B:Nat→List Int} {W:World} (RL:List (Int×Int×Int)) (Rw:Int) (hR:gtR O h w c lo hi ot on=(0,0,RL,Rw)) (i:Nat) (x:Addr) (wa:Option Addr) (lw cw:Nat) (ba:Option Addr) (lb cb:Nat) (x0 y0 z0 H V C:Int) (hF:Fnd W oa on O Z B RL i x wa lw cw ba lb cb x0 y0 z0 H V C) (hch:1≤ch∧ch≤C) (N:Nat) (hN:(siL (O i 0) (O i 4) (O i 5) (O i 6) (O i 7) (O i 8) (O i 9) (O i 10) (O i 11) x0 y0 z0 ch 0 (Z i)).length=N):stR (O i 0) (O i 4) (O i 5) x0 y0 z0=(N:Int)∧0<N∧N≤512:=by
 have hs:=hF.2.2.2.2.2.2.2.2.2.1
 have h1:(siL (O i 0) (O i 4) (O i 5) (O i 6) (O i 7) (O i 8) (O i 9) (O i 10) (O i 11) x0 y0 z0 ch 0 (Z i)).length=(stR (O i 0) (O i 4) (O i 5) x0 y0 z0).toNat:=by unfold siL;rw [tmL_len]
 have:=hs.2.2.2.2.2.2.2.2
 omega
theorem posT_ok (h w c lo hi ot:Int) (oa:Option Addr) (on oc:Nat) (O:Nat→Nat→Int) (Z B:Nat→List Int) (W:World) (hL:LRow W oa on oc O Z B) (RL:List (Int×Int×Int)) (Rw:Int) (hR:gtR O h w c lo hi ot on=(0,0,RL,Rw)) (i:Nat) (x:Addr) (wa:Option Addr) (lw cw:Nat) (ba:Option Addr) (lb cb:Nat) (x0 y0 z0 H V C:Int) (hF:Fnd W oa on O Z B RL i x wa lw cw ba lb cb x0 y0 z0 H V C) :
  Calls Tryz.prog 43 #[.agg #[U i6 h,U i6 w,U i6 c,U i6 lo,U i6 hi,Sl oa on oc,U i6 ot],U i6 ((i:Int)+1)] W fun e w'=>e=.returned (.tuple #[U i6 (H*V),U i6 0])∧Below W.heap.size W w':=by
 have s0:=(St.start W).new (c:=#[U i6 h,U i6 w,U i6 c,U i6 lo,U i6 hi,Sl oa on oc,U i6 ot]) (t:=26)
 have hSit:Hid (Sit (O i 0) (O i 4) (O i 5) (O i 6) (O i 7) (O i 8) (O i 9) (O i 10) (O i 11) x0 y0 z0 H V C lw lb):=hF.2.2.2.2.2.2.2.2.2.1
 have hK:Hid (∀ W',Below W.heap.size W W'→_):=fun W' hb=>find_ok h w c lo hi ot oa on oc O Z B W' (hL.below hb) RL Rw hR i x wa lw cw ba lb cb x0 y0 z0 H V C (hF.below hb)
 clear hF hR hL
 go_enter Tryz.func43,Tryz.ntmps43
 go_wp2_with fail
 refine (hK.out _ s0.below).mono ?_
 rintro e w1 ⟨rfl,hb⟩
 have s1:=(s0.call hb).new (c:=#[U i6 (O i 0),U i6 (O i 1),U i6 (O i 2),U i6 (O i 3),U i6 (O i 4),U i6 (O i 5),U i6 (O i 6),U i6 (O i 7),U i6 (O i 8),U i6 (O i 9),U i6 (O i 10),U i6 (O i 11),Sl wa lw cw,Sl ba lb cb,U i6 (O i 14),U i6 (O i 15),U i6 (O i 16),U i6 (O i 17),U i6 (O i 18),U i6 (O i 19),U i6 (O i 20),U i6 (O i 21),U i6 x0,U i6 y0,U i6 z0,U i6 H,U i6 V,U i6 C]) (t:=137)
 clear hb
 go_wp2_with (refine wpList_st_new rfl 137 (.tmp 6) (.tmp 12) rfl w1 _ #[U i6 (O i 0),U i6 (O i 1),U i6 (O i 2),U i6 (O i 3),U i6 (O i 4),U i6 (O i 5),U i6 (O i 6),U i6 (O i 7),U i6 (O i 8),U i6 (O i 9),U i6 (O i 10),U i6 (O i 11),Sl wa lw cw,Sl ba lb cb,U i6 (O i 14),U i6 (O i 15),U i6 (O i 16),U i6 (O i 17),U i6 (O i 18),U i6 (O i 19),U i6 (O i 20),U i6 (O i 21),U i6 x0,U i6 y0,U i6 z0,U i6 H,U i6 V,U i6 C] rfl rfl (by kernel_rfl) rfl (by simp [Value.oneCell']) ?_)
 refine (tpos_any (O i 0) (O i 1) (O i 2) (O i 3) (O i 4) (O i 5) (O i 6) (O i 7) (O i 8) (O i 9) (O i 10) (O i 11) wa lw cw ba lb cb (O i 14) (O i 15) (O i 16) (O i 17) (O i 18) (O i 19) (O i 20) (O i 21) x0 y0 z0 H V C _ _ (heap_alloc_new w1 _) hSit.out.2.2.1).mono ?_
 rintro e w2 ⟨rfl,hw2⟩
 have hb2:Hid (Below W.heap.size W w2):=by first | (obtain⟨n,rfl⟩:=hw2;exact bt s1.below (dbel _ n)) | (subst hw2;exact s1.below)
 clear hw2
 go_wp2
 go_ret2
 exact⟨rfl,hb2.out⟩
theorem wfacts (h w c lo hi ot:Int) (oa:Option Addr) (on oc:Nat) (O:Nat→Nat→Int) (Z B:Nat→List Int) (W:World) (hL:LRow W oa on oc O Z B) (ch:Int) (RL:List (Int×Int×Int)) (Rw:Int) (hR:gtR O h w c lo hi ot on=(0,0,RL,Rw)) (i:Nat) (x:Addr) (wa:Option Addr) (lw cw:Nat) (ba:Option Addr) (lb cb:Nat) (x0 y0 z0 H V C:Int) (hF:Fnd W oa on O Z B RL i x wa lw cw ba lb cb x0 y0 z0 H V C) (hch:1≤ch∧ch≤C):(0≤x0*y0∧x0*y0≤1048576)∧x0*y0*z0=(((x0*y0*z0).toNat:Nat):Int)∧(x0*y0*z0).toNat≤16384∧H*V=(((H*V).toNat:Nat):Int)∧(H*V).toNat≤1048576∧0<(H*V).toNat∧(∀ r:Nat,(siL (O i 0) (O i 4) (O i 5) (O i 6) (O i 7) (O i 8) (O i 9) (O i 10) (O i 11) x0 y0 z0 ch (r:Int) (Z i)).length=(stR (O i 0) (O i 4) (O i 5) x0 y0 z0).toNat)∧(stR (O i 0) (O i 4) (O i 5) x0 y0 z0).toNat≤512∧(∀ r:Nat,∀ t∈siL (O i 0) (O i 4) (O i 5) (O i 6) (O i 7) (O i 8) (O i 9) (O i 10) (O i 11) x0 y0 z0 ch (r:Int) (Z i),-32768≤t.1∧t.1≤32767)∧∀ r:Nat,Pli (x0*y0*z0).toNat (siL (O i 0) (O i 4) (O i 5) (O i 6) (O i 7) (O i 8) (O i 9) (O i 10) (O i 11) x0 y0 z0 ch (r:Int) (Z i)):=by
 have hSit:=hF.2.2.2.2.2.2.2.2.2.1
 have hz:=hF.2.2.2.2.2.1.2.2.2.1
 obtain⟨-,-,-,-,hp,hbi,hHV⟩:=bfacts hL RL Rw hR i x wa lw cw ba lb cb x0 y0 z0 H V C hF hch
 have hva:=vS_bd hSit.2.1
 have hTl:∀ r:Nat,(siL (O i 0) (O i 4) (O i 5) (O i 6) (O i 7) (O i 8) (O i 9) (O i 10) (O i 11) x0 y0 z0 ch (r:Int) (Z i)).length=(stR (O i 0) (O i 4) (O i 5) x0 y0 z0).toNat:=fun r=>by unfold siL;rw [tmL_len]
 have hf1:∀ r:Nat,_:=fun r=>siL_facts hSit hz hch (r:Int)
 have h1024:=vS_yes hSit.2.1
 refine⟨⟨by omega,by omega⟩,by omega,by omega,by omega,by omega,by omega,hTl,by rw [← hTl 0];exact (hf1 0).1,fun r t ht=>((hf1 r).2 t ht).1,fun r=>⟨fun k hk=>?_,fun k l hk hl hn he=>siL_inj hSit hch hk hl hn he⟩⟩
 have:=((hf1 r).2 _ (getD_in hk)).2
 unfold pls
 omega
theorem wchn (h w c lo hi ot:Int) (oa:Option Addr) (on oc:Nat) (O:Nat→Nat→Int) (Z B:Nat→List Int) (W:World) (hL:LRow W oa on oc O Z B) (ch:Int) (RL:List (Int×Int×Int)) (Rw:Int) (hR:gtR O h w c lo hi ot on=(0,0,RL,Rw)) (i:Nat) (x:Addr) (wa:Option Addr) (lw cw:Nat) (ba:Option Addr) (lb cb:Nat) (x0 y0 z0 H V C:Int) (hF:Fnd W oa on O Z B RL i x wa lw cw ba lb cb x0 y0 z0 H V C) (hch:1≤ch∧ch≤C) (slo shi:Int):∀ W',Below W.heap.size W W'→Calls Tryz.prog 16 #[.agg #[U i6 h,U i6 w,U i6 c,U i6 lo,U i6 hi,Sl oa on oc,U i6 ot],U i6 ((i:Int)+1),U i6 ch,.agg #[U i6 slo,U i6 shi]] W' fun e w'=>(∃ g0:Nat,e=.returned (.agg #[U i6 ch,U i6 (H*V),U i6 slo,U i6 shi,U i6 x0,U i6 y0,U i6 z0,U i6 0,U i6 0,Sl (some ⟨g0,0,none⟩) 1 1,U i6 0])∧w'.heap[g0]? = some (.cells #[U i6 (O i 0),U i6 0,U i6 0,U i6 (O i 3),U i6 (O i 4),U i6 (O i 5),U i6 (O i 6),U i6 (O i 7),U i6 (O i 8),U i6 (O i 9),U i6 (O i 10),U i6 (O i 11),Sl wa lw cw,Sl ba lb cb,U i6 (O i 14),U i6 (O i 15),U i6 (O i 16),U i6 (O i 17),U i6 (O i 18),U i6 (O i 19),U i6 (O i 20),U i6 (O i 21)] 44 (0,0))∧W'.heap.size≤g0)∧Below W'.heap.size W' w':=fun W' hb=>by
 obtain⟨hopd,hk,q1,q2,hp,hbi,hHV⟩:=bfacts hL RL Rw hR i x wa lw cw ba lb cb x0 y0 z0 H V C hF hch
 have s:=bopd hL RL Rw hR i x wa lw cw ba lb cb x0 y0 z0 H V C hF hch
 have h0:O i 2=0:=((of_decide_eq_true hopd.oz).1 (by omega)).1
 have hL':=hL.below hb
 have hF':=hF.below hb
 obtain⟨h1,rfl,h3,h4,h5,h6,h7,h8,h9,h10,h11,h12⟩:=hF'
 rw [h0] at h5
 have hom:oc≤9223372036854775807:=by have:=hL.2.1;unfold maxLen at this;omega
 obtain⟨Rw',hR'⟩:=alone_g (a:=0) s hk
 have hvb:=vS_bd h10.2.2.1
 exact wchan_w h w c lo hi ot ch slo shi x on oc i (O i 0) (O i 1) 0 (O i 3) (O i 4) (O i 5) (O i 6) (O i 7) (O i 8) (O i 9) (O i 10) (O i 11) wa lw cw ba lb cb (O i 14) (O i 15) (O i 16) (O i 17) (O i 18) (O i 19) (O i 20) (O i 21) W' hL.1 hom h1 h5 x0 y0 z0 (H*V)
  (fun W'' hb'=>by
    have:=shape_any hL'.m hR (O i 1).toNat (by omega) W'' hb' x0 y0 z0 h8
    rwa [Int.toNat_of_nonneg h11.1] at this)
  (fun W'' g0 hb' hg=>by
    have hLa:=balone (h6.below hb') (h7.below hb') q1 q2 hg
    have hFa:Fnd W'' (some ⟨g0,0,none⟩) 1 (fun _=>oL (O i 0) 0 0 (O i 3) (O i 4) (O i 5) (O i 6) (O i 7) (O i 8) (O i 9) (O i 10) (O i 11) (lw:Int) (lb:Int) (O i 14) (O i 15) (O i 16) (O i 17) (O i 18) (O i 19) (O i 20) (O i 21)) (fun _=>Z i) (fun _=>B i) [(x0,y0,z0),(H,V,C)] 0 ⟨g0,0,none⟩ wa lw cw ba lb cb x0 y0 z0 H V C:=by
     have hcell:∀ q v,[U i6 (O i 0),U i6 0,U i6 0,U i6 (O i 3),U i6 (O i 4),U i6 (O i 5),U i6 (O i 6),U i6 (O i 7),U i6 (O i 8),U i6 (O i 9),U i6 (O i 10),U i6 (O i 11),Sl wa lw cw,Sl ba lb cb,U i6 (O i 14),U i6 (O i 15),U i6 (O i 16),U i6 (O i 17),U i6 (O i 18),U i6 (O i 19),U i6 (O i 20),U i6 (O i 21)][q]? = some v→W''.cell? ((⟨g0,0,none⟩:Addr).add q)=some v:=blcells hg (fun q v hq=>by simpa using hq)
     refine⟨by omega,rfl,rfl,rfl,fun q v hq=>?_,h6.below hb',h7.below hb',rfl,rfl,s.si hk,⟨Int.le_refl _,Int.le_refl _⟩,h12⟩
     have e0:((⟨g0,0,none⟩:Addr).add (0*22))=⟨g0,0,none⟩:=by rw [Addr.add_lit]
     rw [e0]
     exact hcell q v hq
    exact posT_ok x0 y0 z0 0 0 0 (some ⟨g0,0,none⟩) 1 1 _ _ _ W'' hLa [(x0,y0,z0),(H,V,C)] Rw' hR' 0 ⟨g0,0,none⟩ wa lw cw ba lb cb x0 y0 z0 H V C hFa)
theorem wtrms (h w c lo hi ot:Int) (oa:Option Addr) (on oc:Nat) (O:Nat→Nat→Int) (Z B:Nat→List Int) (W:World) (hL:LRow W oa on oc O Z B) (ch:Int) (RL:List (Int×Int×Int)) (Rw:Int) (hR:gtR O h w c lo hi ot on=(0,0,RL,Rw)) (i:Nat) (x:Addr) (wa:Option Addr) (lw cw:Nat) (ba:Option Addr) (lb cb:Nat) (x0 y0 z0 H V C:Int) (hF:Fnd W oa on O Z B RL i x wa lw cw ba lb cb x0 y0 z0 H V C) (hch:1≤ch∧ch≤C) (slo shi:Int) (W':World) (hb:Below W.heap.size W W') (q g0:Nat) (hq:W'.heap[q]? = some (.cells #[U i6 ch,U i6 (H*V),U i6 slo,U i6 shi,U i6 x0,U i6 y0,U i6 z0,U i6 0,U i6 0,Sl (some ⟨g0,0,none⟩) 1 1,U i6 0] 63 (0,0))) (hg:W'.heap[g0]? = some (.cells #[U i6 (O i 0),U i6 0,U i6 0,U i6 (O i 3),U i6 (O i 4),U i6 (O i 5),U i6 (O i 6),U i6 (O i 7),U i6 (O i 8),U i6 (O i 9),U i6 (O i 10),U i6 (O i 11),Sl wa lw cw,Sl ba lb cb,U i6 (O i 14),U i6 (O i 15),U i6 (O i 16),U i6 (O i 17),U i6 (O i 18),U i6 (O i 19),U i6 (O i 20),U i6 (O i 21)] 44 (0,0))) :
  ∀ W'' (r:Nat),Below W'.heap.size W' W''→r<(H*V).toNat→Calls Tryz.prog 44 #[.pointer (some ⟨q,0,none⟩),U i6 (r:Int)] W'' fun e w'=>(∃ v,e=.returned (.tuple #[v,U i6 (biA (O i 0) ch (B i))])∧SpV w' v (siL (O i 0) (O i 4) (O i 5) (O i 6) (O i 7) (O i 8) (O i 9) (O i 10) (O i 11) x0 y0 z0 ch (r:Int) (Z i)))∧Below W''.heap.size W'' w':=fun W'' r hb' hr=>by
 obtain⟨-,hk,q1,q2,-,-,hHV⟩:=bfacts hL RL Rw hR i x wa lw cw ba lb cb x0 y0 z0 H V C hF hch
 have s:=bopd hL RL Rw hR i x wa lw cw ba lb cb x0 y0 z0 H V C hF hch
 have hF':=hF.below (hb.trans (hb'.mono hb.size))
 refine wtrm_any ch (H*V) slo shi x0 y0 z0 g0 q W'' ((hb'.block q (lt_of_heap hq)).trans hq) (r:Int) (biA (O i 0) ch (B i)) (siL (O i 0) (O i 4) (O i 5) (O i 6) (O i 7) (O i 8) (O i 9) (O i 10) (O i 11) x0 y0 z0 ch (r:Int) (Z i)) (fun W3 hb3=>?_)
 have hF3:=hF'.below hb3
 exact bof1 (O i 0) (O i 1) 0 (O i 3) (O i 4) (O i 5) (O i 6) (O i 7) (O i 8) (O i 9) (O i 10) (O i 11) wa lw cw ba lb cb (O i 14) (O i 15) (O i 16) (O i 17) (O i 18) (O i 19) (O i 20) (O i 21) x0 y0 z0 H V C s hk (Z i) (B i) W3 hF3.2.2.2.2.2.1 hF3.2.2.2.2.2.2.1 q1 q2 g0 ((hb3.block g0 (Nat.lt_of_lt_of_le (lt_of_heap hg) hb'.size)).trans ((hb'.block g0 (lt_of_heap hg)).trans hg)) ch (r:Int) hch ⟨by omega,by omega⟩
def WOk (N M L:Nat) (lo hi p bi:Int) (u:Bool) (TLs:Nat→List (Int×Int)) (r:Nat) (A:List Int):Prop :=
 r<N∧enB u (suS (bi,bi) (enL lo hi p (TLs r)))=enB u (hbT bi (fun k=>enL lo hi p (TLs k)) N)∧Dr M lo hi p u (TLs r) L A
def LOk (N M d:Nat) (lo hi p:Int) (TLs:Nat→List (Int×Int)) (r f g:Nat) (A:List Int):Prop :=
 r<N∧∃ u,Brk d u (enL lo hi p (TLs r)) f g∧Dr M lo hi p u (((TLs r).drop f).take (g-f)) (g-f) A
theorem wlo_bad (h w c lo hi ot op ch:Int) (oa:Option Addr) (on oc:Nat) (W:World) (slo shi E:Int) (hE:E≠0) (hO:(∀ W',Below W.heap.size W W'→(Calls Tryz.prog 55 #[.agg #[U i6 h,U i6 w,U i6 c,U i6 lo,U i6 hi,Sl oa on oc,U i6 ot],U i6 op,U i6 ch,U i6 0] W' fun e w'=>e=.returned (.tuple #[Sl none 0 0,U i6 0,U i6 E])∧Below W'.heap.size W' w')∧∀ slo shi:Int,Calls Tryz.prog 36 #[.agg #[U i6 h,U i6 w,U i6 c,U i6 lo,U i6 hi,Sl oa on oc,U i6 ot],U i6 op,U i6 ch,.agg #[U i6 slo,U i6 shi]] W' fun e w'=>e=.returned (.tuple #[.agg #[U i6 0,U i6 0,Sl none 0 0,U i6 0,U i6 0,U i6 0,U i6 0,U i6 0,U i6 0,U i6 0,U i6 0,U i6 0,U i6 0,Sl none 0 0,U i6 0],U i6 E])∧Below W'.heap.size W' w')):Calls Tryz.prog 5 #[.agg #[U i6 h,U i6 w,U i6 c,U i6 lo,U i6 hi,Sl oa on oc,U i6 ot],U i6 op,U i6 ch,.agg #[U i6 slo,U i6 shi]] W fun e w'=>e=.returned (.tuple #[.agg #[U i6 0,Sl none 0 0],U i6 E])∧Below W.heap.size W w' :=
 wl_e h w c lo hi ot op ch slo shi oa on oc W 0 0 E hE (fun W' hb=>btot_bad h w c lo hi ot op ch oa on oc W' slo shi E hE (fun W'' hb'=>hO W'' (hb.trans (hb'.mono hb.size))))
theorem wlo_30 (h w c lo hi ot:Int) (oa:Option Addr) (on oc:Nat) (O:Nat→Nat→Int) (Z B:Nat→List Int) (W:World) (hL:LRow W oa on oc O Z B) (ch:Int) (RL:List (Int×Int×Int)) (Rw:Int) (hR:gtR O h w c lo hi ot on=(0,0,RL,Rw)) (i:Nat) (x:Addr) (wa:Option Addr) (lw cw:Nat) (ba:Option Addr) (lb cb:Nat) (x0 y0 z0 H V C:Int) (hF:Fnd W oa on O Z B RL i x wa lw cw ba lb cb x0 y0 z0 H V C) (hch:1≤ch∧ch≤C) (slo shi:Int) (hs:vbB slo shi=false):Calls Tryz.prog 5 #[.agg #[U i6 h,U i6 w,U i6 c,U i6 lo,U i6 hi,Sl oa on oc,U i6 ot],U i6 ((i:Int)+1),U i6 ch,.agg #[U i6 slo,U i6 shi]] W fun e w'=>e=.returned (.tuple #[.agg #[U i6 0,Sl none 0 0],U i6 30])∧Below W.heap.size W w':=by
 have hT:∀ W',Below W.heap.size W W'→_:=fun W' hb=>btot_ok h w c lo hi ot oa on oc O Z B W' (hL.below hb) ch RL Rw hR i x wa lw cw ba lb cb x0 y0 z0 H V C (hF.below hb) hch slo shi
 rw [spR_f hs] at hT
 exact wl_e h w c lo hi ot ((i:Int)+1) ch slo shi oa on oc W 0 0 30 (by decide) hT
theorem wlo_ok (h w c lo hi ot:Int) (oa:Option Addr) (on oc:Nat) (O:Nat→Nat→Int) (Z B:Nat→List Int) (W:World) (hL:LRow W oa on oc O Z B) (ch:Int) (RL:List (Int×Int×Int)) (Rw:Int) (hR:gtR O h w c lo hi ot on=(0,0,RL,Rw)) (i:Nat) (x:Addr) (wa:Option Addr) (lw cw:Nat) (ba:Option Addr) (lb cb:Nat) (x0 y0 z0 H V C:Int) (hF:Fnd W oa on O Z B RL i x wa lw cw ba lb cb x0 y0 z0 H V C) (hch:1≤ch∧ch≤C) (slo shi:Int) (hs:vbB slo shi=true):Calls Tryz.prog 5 #[.agg #[U i6 h,U i6 w,U i6 c,U i6 lo,U i6 hi,Sl oa on oc,U i6 ot],U i6 ((i:Int)+1),U i6 ch,.agg #[U i6 slo,U i6 shi]] W fun e w'=>(∃ r A v',WOk (H*V).toNat (x0*y0*z0).toNat (stR (O i 0) (O i 4) (O i 5) x0 y0 z0).toNat slo shi (O i 19) (biA (O i 0) ch (B i)) false (fun r=>siL (O i 0) (O i 4) (O i 5) (O i 6) (O i 7) (O i 8) (O i 9) (O i 10) (O i 11) x0 y0 z0 ch (r:Int) (Z i)) r A∧e=.returned (.tuple #[.agg #[U i6 (r:Int),v'],U i6 0])∧Own .i8 71 w' W.heap.size v' A)∧Below W.heap.size W w':=by
 have hT:∀ W',Below W.heap.size W W'→_:=fun W' hb=>btot_ok h w c lo hi ot oa on oc O Z B W' (hL.below hb) ch RL Rw hR i x wa lw cw ba lb cb x0 y0 z0 H V C (hF.below hb) hch slo shi
 rw [spR_t hs] at hT
 obtain⟨f1,f2,f3,f4,f5,f6,f7,f8,f9,f10⟩:=wfacts h w c lo hi ot oa on oc O Z B W hL ch RL Rw hR i x wa lw cw ba lb cb x0 y0 z0 H V C hF hch
 obtain⟨-,-,-,-,hp,hbi,-⟩:=bfacts hL RL Rw hR i x wa lw cw ba lb cb x0 y0 z0 H V C hF hch
 obtain⟨a1,a2⟩:=hbT_ends (biA (O i 0) ch (B i)) (fun (j:Nat)=>enL slo shi (O i 19) (siL (O i 0) (O i 4) (O i 5) (O i 6) (O i 7) (O i 8) (O i 9) (O i 10) (O i 11) x0 y0 z0 ch (j:Int) (Z i))) (H*V).toNat f6
 refine wl_w h w c lo hi ot ((i:Int)+1) ch slo shi oa on oc W _ _ x0 y0 z0 (H*V) #[U i6 (O i 0),U i6 0,U i6 0,U i6 (O i 3),U i6 (O i 4),U i6 (O i 5),U i6 (O i 6),U i6 (O i 7),U i6 (O i 8),U i6 (O i 9),U i6 (O i 10),U i6 (O i 11),Sl wa lw cw,Sl ba lb cb,U i6 (O i 14),U i6 (O i 15),U i6 (O i 16),U i6 (O i 17),U i6 (O i 18),U i6 (O i 19),U i6 (O i 20),U i6 (O i 21)] (WOk (H*V).toNat (x0*y0*z0).toNat (stR (O i 0) (O i 4) (O i 5) x0 y0 z0).toNat slo shi (O i 19) (biA (O i 0) ch (B i)) false (fun r=>siL (O i 0) (O i 4) (O i 5) (O i 6) (O i 7) (O i 8) (O i 9) (O i 10) (O i 11) x0 y0 z0 ch (r:Int) (Z i))) hT (wchn h w c lo hi ot oa on oc O Z B W hL ch RL Rw hR i x wa lw cw ba lb cb x0 y0 z0 H V C hF hch slo shi) (fun W' q g0 hb hq hg=>?_)
 refine (wrch_any ch (H*V) slo shi x0 y0 z0 g0 (O i 0) 0 0 (O i 3) (O i 4) (O i 5) (O i 6) (O i 7) (O i 8) (O i 9) (O i 10) (O i 11) wa lw cw ba lb cb (O i 14) (O i 15) (O i 16) (O i 17) (O i 18) (O i 19) (O i 20) (O i 21) q W' hq hg (H*V).toNat (stR (O i 0) (O i 4) (O i 5) x0 y0 z0).toNat (x0*y0*z0).toNat (fun r=>siL (O i 0) (O i 4) (O i 5) (O i 6) (O i 7) (O i 8) (O i 9) (O i 10) (O i 11) x0 y0 z0 ch (r:Int) (Z i)) (biA (O i 0) ch (B i)) f4 (by omega) (fun r _=>f7 r) f8 (fun r _=>f9 r) (fun r _=>f10 r) f1 f2 f3 (vbB_yes hs) hp hbi (wtrms h w c lo hi ot oa on oc O Z B W hL ch RL Rw hR i x wa lw cw ba lb cb x0 y0 z0 H V C hF hch slo shi W' hb q g0 hq hg) false (enB false (hbT (biA (O i 0) ch (B i)) (fun (j:Nat)=>enL slo shi (O i 19) (siL (O i 0) (O i 4) (O i 5) (O i 6) (O i 7) (O i 8) (O i 9) (O i 10) (O i 11) x0 y0 z0 ch (j:Int) (Z i))) (H*V).toNat)) (a1)).mono ?_
 rintro e w' ⟨⟨r,A,v',g1,g2,g3,g4,g5⟩,g6⟩
 exact⟨⟨r,A,v',⟨g1,g2,g3⟩,g4,g5⟩,g6⟩
theorem who_bad (h w c lo hi ot op ch:Int) (oa:Option Addr) (on oc:Nat) (W:World) (slo shi E:Int) (hE:E≠0) (hO:(∀ W',Below W.heap.size W W'→(Calls Tryz.prog 55 #[.agg #[U i6 h,U i6 w,U i6 c,U i6 lo,U i6 hi,Sl oa on oc,U i6 ot],U i6 op,U i6 ch,U i6 0] W' fun e w'=>e=.returned (.tuple #[Sl none 0 0,U i6 0,U i6 E])∧Below W'.heap.size W' w')∧∀ slo shi:Int,Calls Tryz.prog 36 #[.agg #[U i6 h,U i6 w,U i6 c,U i6 lo,U i6 hi,Sl oa on oc,U i6 ot],U i6 op,U i6 ch,.agg #[U i6 slo,U i6 shi]] W' fun e w'=>e=.returned (.tuple #[.agg #[U i6 0,U i6 0,Sl none 0 0,U i6 0,U i6 0,U i6 0,U i6 0,U i6 0,U i6 0,U i6 0,U i6 0,U i6 0,U i6 0,Sl none 0 0,U i6 0],U i6 E])∧Below W'.heap.size W' w')):Calls Tryz.prog 6 #[.agg #[U i6 h,U i6 w,U i6 c,U i6 lo,U i6 hi,Sl oa on oc,U i6 ot],U i6 op,U i6 ch,.agg #[U i6 slo,U i6 shi]] W fun e w'=>e=.returned (.tuple #[.agg #[U i6 0,Sl none 0 0],U i6 E])∧Below W.heap.size W w' :=
 wh_e h w c lo hi ot op ch slo shi oa on oc W 0 0 E hE (fun W' hb=>btot_bad h w c lo hi ot op ch oa on oc W' slo shi E hE (fun W'' hb'=>hO W'' (hb.trans (hb'.mono hb.size))))
theorem who_30 (h w c lo hi ot:Int) (oa:Option Addr) (on oc:Nat) (O:Nat→Nat→Int) (Z B:Nat→List Int) (W:World) (hL:LRow W oa on oc O Z B) (ch:Int) (RL:List (Int×Int×Int)) (Rw:Int) (hR:gtR O h w c lo hi ot on=(0,0,RL,Rw)) (i:Nat) (x:Addr) (wa:Option Addr) (lw cw:Nat) (ba:Option Addr) (lb cb:Nat) (x0 y0 z0 H V C:Int) (hF:Fnd W oa on O Z B RL i x wa lw cw ba lb cb x0 y0 z0 H V C) (hch:1≤ch∧ch≤C) (slo shi:Int) (hs:vbB slo shi=false):Calls Tryz.prog 6 #[.agg #[U i6 h,U i6 w,U i6 c,U i6 lo,U i6 hi,Sl oa on oc,U i6 ot],U i6 ((i:Int)+1),U i6 ch,.agg #[U i6 slo,U i6 shi]] W fun e w'=>e=.returned (.tuple #[.agg #[U i6 0,Sl none 0 0],U i6 30])∧Below W.heap.size W w':=by
 have hT:∀ W',Below W.heap.size W W'→_:=fun W' hb=>btot_ok h w c lo hi ot oa on oc O Z B W' (hL.below hb) ch RL Rw hR i x wa lw cw ba lb cb x0 y0 z0 H V C (hF.below hb) hch slo shi
 rw [spR_f hs] at hT
 exact wh_e h w c lo hi ot ((i:Int)+1) ch slo shi oa on oc W 0 0 30 (by decide) hT
theorem who_ok (h w c lo hi ot:Int) (oa:Option Addr) (on oc:Nat) (O:Nat→Nat→Int) (Z B:Nat→List Int) (W:World) (hL:LRow W oa on oc O Z B) (ch:Int) (RL:List (Int×Int×Int)) (Rw:Int) (hR:gtR O h w c lo hi ot on=(0,0,RL,Rw)) (i:Nat) (x:Addr) (wa:Option Addr) (lw cw:Nat) (ba:Option Addr) (lb cb:Nat) (x0 y0 z0 H V C:Int) (hF:Fnd W oa on O Z B RL i x wa lw cw ba lb cb x0 y0 z0 H V C) (hch:1≤ch∧ch≤C) (slo shi:Int) (hs:vbB slo shi=true):Calls Tryz.prog 6 #[.agg #[U i6 h,U i6 w,U i6 c,U i6 lo,U i6 hi,Sl oa on oc,U i6 ot],U i6 ((i:Int)+1),U i6 ch,.agg #[U i6 slo,U i6 shi]] W fun e w'=>(∃ r A v',WOk (H*V).toNat (x0*y0*z0).toNat (stR (O i 0) (O i 4) (O i 5) x0 y0 z0).toNat slo shi (O i 19) (biA (O i 0) ch (B i)) true (fun r=>siL (O i 0) (O i 4) (O i 5) (O i 6) (O i 7) (O i 8) (O i 9) (O i 10) (O i 11) x0 y0 z0 ch (r:Int) (Z i)) r A∧e=.returned (.tuple #[.agg #[U i6 (r:Int),v'],U i6 0])∧Own .i8 71 w' W.heap.size v' A)∧Below W.heap.size W w':=by
 have hT:∀ W',Below W.heap.size W W'→_:=fun W' hb=>btot_ok h w c lo hi ot oa on oc O Z B W' (hL.below hb) ch RL Rw hR i x wa lw cw ba lb cb x0 y0 z0 H V C (hF.below hb) hch slo shi
 rw [spR_t hs] at hT
 obtain⟨f1,f2,f3,f4,f5,f6,f7,f8,f9,f10⟩:=wfacts h w c lo hi ot oa on oc O Z B W hL ch RL Rw hR i x wa lw cw ba lb cb x0 y0 z0 H V C hF hch
 obtain⟨-,-,-,-,hp,hbi,-⟩:=bfacts hL RL Rw hR i x wa lw cw ba lb cb x0 y0 z0 H V C hF hch
 obtain⟨a1,a2⟩:=hbT_ends (biA (O i 0) ch (B i)) (fun (j:Nat)=>enL slo shi (O i 19) (siL (O i 0) (O i 4) (O i 5) (O i 6) (O i 7) (O i 8) (O i 9) (O i 10) (O i 11) x0 y0 z0 ch (j:Int) (Z i))) (H*V).toNat f6
 refine wh_w h w c lo hi ot ((i:Int)+1) ch slo shi oa on oc W _ _ x0 y0 z0 (H*V) #[U i6 (O i 0),U i6 0,U i6 0,U i6 (O i 3),U i6 (O i 4),U i6 (O i 5),U i6 (O i 6),U i6 (O i 7),U i6 (O i 8),U i6 (O i 9),U i6 (O i 10),U i6 (O i 11),Sl wa lw cw,Sl ba lb cb,U i6 (O i 14),U i6 (O i 15),U i6 (O i 16),U i6 (O i 17),U i6 (O i 18),U i6 (O i 19),U i6 (O i 20),U i6 (O i 21)] (WOk (H*V).toNat (x0*y0*z0).toNat (stR (O i 0) (O i 4) (O i 5) x0 y0 z0).toNat slo shi (O i 19) (biA (O i 0) ch (B i)) true (fun r=>siL (O i 0) (O i 4) (O i 5) (O i 6) (O i 7) (O i 8) (O i 9) (O i 10) (O i 11) x0 y0 z0 ch (r:Int) (Z i))) hT (wchn h w c lo hi ot oa on oc O Z B W hL ch RL Rw hR i x wa lw cw ba lb cb x0 y0 z0 H V C hF hch slo shi) (fun W' q g0 hb hq hg=>?_)
 refine (wrch_any ch (H*V) slo shi x0 y0 z0 g0 (O i 0) 0 0 (O i 3) (O i 4) (O i 5) (O i 6) (O i 7) (O i 8) (O i 9) (O i 10) (O i 11) wa lw cw ba lb cb (O i 14) (O i 15) (O i 16) (O i 17) (O i 18) (O i 19) (O i 20) (O i 21) q W' hq hg (H*V).toNat (stR (O i 0) (O i 4) (O i 5) x0 y0 z0).toNat (x0*y0*z0).toNat (fun r=>siL (O i 0) (O i 4) (O i 5) (O i 6) (O i 7) (O i 8) (O i 9) (O i 10) (O i 11) x0 y0 z0 ch (r:Int) (Z i)) (biA (O i 0) ch (B i)) f4 (by omega) (fun r _=>f7 r) f8 (fun r _=>f9 r) (fun r _=>f10 r) f1 f2 f3 (vbB_yes hs) hp hbi (wtrms h w c lo hi ot oa on oc O Z B W hL ch RL Rw hR i x wa lw cw ba lb cb x0 y0 z0 H V C hF hch slo shi W' hb q g0 hq hg) true (enB true (hbT (biA (O i 0) ch (B i)) (fun (j:Nat)=>enL slo shi (O i 19) (siL (O i 0) (O i 4) (O i 5) (O i 6) (O i 7) (O i 8) (O i 9) (O i 10) (O i 11) x0 y0 z0 ch (j:Int) (Z i))) (H*V).toNat)) (a2)).mono ?_
 rintro e w' ⟨⟨r,A,v',g1,g2,g3,g4,g5⟩,g6⟩
 exact⟨⟨r,A,v',⟨g1,g2,g3⟩,g4,g5⟩,g6⟩
theorem wbr_bad (h w c lo hi ot op ch:Int) (oa:Option Addr) (on oc:Nat) (W:World) (slo shi dp E:Int) (hE:E≠0) (hO:(∀ W',Below W.heap.size W W'→(Calls Tryz.prog 55 #[.agg #[U i6 h,U i6 w,U i6 c,U i6 lo,U i6 hi,Sl oa on oc,U i6 ot],U i6 op,U i6 ch,U i6 0] W' fun e w'=>e=.returned (.tuple #[Sl none 0 0,U i6 0,U i6 E])∧Below W'.heap.size W' w')∧∀ slo shi:Int,Calls Tryz.prog 36 #[.agg #[U i6 h,U i6 w,U i6 c,U i6 lo,U i6 hi,Sl oa on oc,U i6 ot],U i6 op,U i6 ch,.agg #[U i6 slo,U i6 shi]] W' fun e w'=>e=.returned (.tuple #[.agg #[U i6 0,U i6 0,Sl none 0 0,U i6 0,U i6 0,U i6 0,U i6 0,U i6 0,U i6 0,U i6 0,U i6 0,U i6 0,U i6 0,Sl none 0 0,U i6 0],U i6 E])∧Below W'.heap.size W' w')):Calls Tryz.prog 11 #[.agg #[U i6 h,U i6 w,U i6 c,U i6 lo,U i6 hi,Sl oa on oc,U i6 ot],U i6 op,U i6 ch,.agg #[U i6 slo,U i6 shi],U i6 dp] W fun e w'=>e=.returned (.tuple #[.agg #[U i6 0,U i6 0,U i6 0,Sl none 0 0],.bool false,U i6 E])∧Below W.heap.size W w' :=
 wbr_n h w c lo hi ot op ch slo shi oa on oc W dp false E (.inl hE) (fun W' hb=>dsaf_bad h w c lo hi ot op ch oa on oc W' slo shi dp E hE (fun W'' hb'=>hO W'' (hb.trans (hb'.mono hb.size))))
theorem wbr_no (h w c lo hi ot:Int) (oa:Option Addr) (on oc:Nat) (O:Nat→Nat→Int) (Z B:Nat→List Int) (W:World) (hL:LRow W oa on oc O Z B) (ch:Int) (RL:List (Int×Int×Int)) (Rw:Int) (hR:gtR O h w c lo hi ot on=(0,0,RL,Rw)) (i:Nat) (x:Addr) (wa:Option Addr) (lw cw:Nat) (ba:Option Addr) (lb cb:Nat) (x0 y0 z0 H V C:Int) (hF:Fnd W oa on O Z B RL i x wa lw cw ba lb cb x0 y0 z0 H V C) (hch:1≤ch∧ch≤C) (slo shi dp:Int) (N:Nat) (hN:(siL (O i 0) (O i 4) (O i 5) (O i 6) (O i 7) (O i 8) (O i 9) (O i 10) (O i 11) x0 y0 z0 ch 0 (Z i)).length=N) (sf:Bool) (E:Int) (hq:saR slo shi dp N (hbD dp.toNat (fun (j:Nat)=>enL slo shi (O i 19) (siL (O i 0) (O i 4) (O i 5) (O i 6) (O i 7) (O i 8) (O i 9) (O i 10) (O i 11) x0 y0 z0 ch (j:Int) (Z i))) (H*V).toNat)=(sf,E)) (hE:E≠0∨sf=true) :
  Calls Tryz.prog 11 #[.agg #[U i6 h,U i6 w,U i6 c,U i6 lo,U i6 hi,Sl oa on oc,U i6 ot],U i6 ((i:Int)+1),U i6 ch,.agg #[U i6 slo,U i6 shi],U i6 dp] W fun e w'=>e=.returned (.tuple #[.agg #[U i6 0,U i6 0,U i6 0,Sl none 0 0],.bool false,U i6 E])∧Below W.heap.size W w':=by
 refine wbr_n h w c lo hi ot ((i:Int)+1) ch slo shi oa on oc W dp sf E hE (fun W' hb=>?_)
 have:=dsaf_ok h w c lo hi ot oa on oc O Z B W' (hL.below hb) ch RL Rw hR i x wa lw cw ba lb cb x0 y0 z0 H V C (hF.below hb) hch slo shi dp N hN
 rw [hq] at this
 exact this
theorem wbr_yes (h w c lo hi ot:Int) (oa:Option Addr) (on oc:Nat) (O:Nat→Nat→Int) (Z B:Nat→List Int) (W:World) (hL:LRow W oa on oc O Z B) (ch:Int) (RL:List (Int×Int×Int)) (Rw:Int) (hR:gtR O h w c lo hi ot on=(0,0,RL,Rw)) (i:Nat) (x:Addr) (wa:Option Addr) (lw cw:Nat) (ba:Option Addr) (lb cb:Nat) (x0 y0 z0 H V C:Int) (hF:Fnd W oa on O Z B RL i x wa lw cw ba lb cb x0 y0 z0 H V C) (hch:1≤ch∧ch≤C) (slo shi:Int) (d N:Nat) (hN:(siL (O i 0) (O i 4) (O i 5) (O i 6) (O i 7) (O i 8) (O i 9) (O i 10) (O i 11) x0 y0 z0 ch 0 (Z i)).length=N) (hs:vbB slo shi=true) (hd:1≤d∧d≤N) (hw:w16 (hbD d (fun (j:Nat)=>enL slo shi (O i 19) (siL (O i 0) (O i 4) (O i 5) (O i 6) (O i 7) (O i 8) (O i 9) (O i 10) (O i 11) x0 y0 z0 ch (j:Int) (Z i))) (H*V).toNat)=false) :
  Calls Tryz.prog 11 #[.agg #[U i6 h,U i6 w,U i6 c,U i6 lo,U i6 hi,Sl oa on oc,U i6 ot],U i6 ((i:Int)+1),U i6 ch,.agg #[U i6 slo,U i6 shi],U i6 (d:Int)] W fun e w'=>(∃ (r f g:Nat) (A:List Int) (v':Value),LOk (H*V).toNat (x0*y0*z0).toNat d slo shi (O i 19) (fun r=>siL (O i 0) (O i 4) (O i 5) (O i 6) (O i 7) (O i 8) (O i 9) (O i 10) (O i 11) x0 y0 z0 ch (r:Int) (Z i)) r f g A∧e=.returned (.tuple #[.agg #[U i6 (r:Int),U i6 (f:Int),U i6 (g:Int),v'],.bool true,U i6 0])∧Own .i8 71 w' W.heap.size v' A)∧Below W.heap.size W w':=by
 obtain⟨f1,f2,f3,f4,f5,f6,f7,f8,f9,f10⟩:=wfacts h w c lo hi ot oa on oc O Z B W hL ch RL Rw hR i x wa lw cw ba lb cb x0 y0 z0 H V C hF hch
 obtain⟨hopd,hk4,-,-,hp,hbi,-⟩:=bfacts hL RL Rw hR i x wa lw cw ba lb cb x0 y0 z0 H V C hF hch
 have hz:=hF.2.2.2.2.2.1.2.2.2.1
 obtain⟨-,-,e3⟩:=op_len RL Rw hR i x wa lw cw ba lb cb x0 y0 z0 H V C hF hch N hN
 refine wbr_w h w c lo hi ot ((i:Int)+1) ch slo shi oa on oc W (d:Int) x0 y0 z0 (H*V) #[U i6 (O i 0),U i6 0,U i6 0,U i6 (O i 3),U i6 (O i 4),U i6 (O i 5),U i6 (O i 6),U i6 (O i 7),U i6 (O i 8),U i6 (O i 9),U i6 (O i 10),U i6 (O i 11),Sl wa lw cw,Sl ba lb cb,U i6 (O i 14),U i6 (O i 15),U i6 (O i 16),U i6 (O i 17),U i6 (O i 18),U i6 (O i 19),U i6 (O i 20),U i6 (O i 21)] (LOk (H*V).toNat (x0*y0*z0).toNat d slo shi (O i 19) (fun r=>siL (O i 0) (O i 4) (O i 5) (O i 6) (O i 7) (O i 8) (O i 9) (O i 10) (O i 11) x0 y0 z0 ch (r:Int) (Z i))) (fun W' hb=>?_) (wchn h w c lo hi ot oa on oc O Z B W hL ch RL Rw hR i x wa lw cw ba lb cb x0 y0 z0 H V C hF hch slo shi) (fun W' q g0 hb hq hg=>?_)
 ·have:=dsaf_ok h w c lo hi ot oa on oc O Z B W' (hL.below hb) ch RL Rw hR i x wa lw cw ba lb cb x0 y0 z0 H V C (hF.below hb) hch slo shi (d:Int) N hN
  rw [saR_t hs ⟨by omega,by omega⟩,Int.toNat_natCast,hw] at this
  exact this
 refine (wlk_any ch (H*V) slo shi x0 y0 z0 g0 (O i 0) 0 0 (O i 3) (O i 4) (O i 5) (O i 6) (O i 7) (O i 8) (O i 9) (O i 10) (O i 11) wa lw cw ba lb cb (O i 14) (O i 15) (O i 16) (O i 17) (O i 18) (O i 19) (O i 20) (O i 21) q W' hq hg (H*V).toNat (stR (O i 0) (O i 4) (O i 5) x0 y0 z0).toNat (x0*y0*z0).toNat d (fun r=>siL (O i 0) (O i 4) (O i 5) (O i 6) (O i 7) (O i 8) (O i 9) (O i 10) (O i 11) x0 y0 z0 ch (r:Int) (Z i)) (biA (O i 0) ch (B i)) f4 (by omega) (fun r _=>f7 r) f8 (fun r _=>f9 r) (fun r _=>f10 r) f1 f2 f3 (vbB_yes hs) hp (by omega) (by omega) (wtrms h w c lo hi ot oa on oc O Z B W hL ch RL Rw hR i x wa lw cw ba lb cb x0 y0 z0 H V C hF hch slo shi W' hb q g0 hq hg)).mono ?_
 rintro e w' ⟨hh,g6⟩
 rcases hh with ⟨r,u,f,g,A,v',g1,g2,g3,g4,g5⟩ | ⟨-,g2⟩
 ·exact⟨⟨r,f,g,A,v',⟨g1,u,g2,g3⟩,g4,g5⟩,g6⟩
 ·have hne:=(hb_ne (hopd.si hk4) hz hch (vbB_yes hs) hp hbi d).2.2.2
  have:=fts_safe (d:=d) (by omega) (R:=(fun (j:Nat)=>enL slo shi (O i 19) (siL (O i 0) (O i 4) (O i 5) (O i 6) (O i 7) (O i 8) (O i 9) (O i 10) (O i 11) x0 y0 z0 ch (j:Int) (Z i)))) (N:=(H*V).toNat) hne (fun j hj u=>by
   have h1:=g2 j hj u
   rw [← f7 j,← enL_len slo shi (O i 19)] at h1
   exact h1)
  rw [hw] at this
  cases this
def plZ (_:Nat):List Int:=[3,-2]
def plB (_:Nat):List Int:=[1]
theorem irow_blk {k:IntKind} {w:World} {b:Nat} {T:TypeId} (zs:List Int) (h:w.heap[b]? = some (.cells (zs.map (Value.int k)).toArray T (0,0))) (hw:∀ z∈zs,(Lit.int k z).wf=true) (hm:zs.length≤1000):IRow k w (some ⟨b,0,none⟩) zs.length zs.length zs:=by
 refine⟨rfl,Nat.le_refl _,by unfold maxLen;omega,hw,fun h=>(by cases h),fun x hx i hi=>?_⟩
 cases hx
 rw [Addr.add_lit,Nat.zero_add,(cells_at h).1]
 simp [List.getD,hi]
theorem pl_lrow {w:World} {g p q:Nat} (h:w.heap[g]? = some (.cells #[U i6 1,U i6 0,U i6 0,U i6 1,U i6 0,U i6 0,U i6 0,U i6 0,U i6 0,U i6 0,U i6 0,U i6 0,Sl (some ⟨p,0,none⟩) 2 2,Sl (some ⟨q,0,none⟩) 1 1,U i6 1,U i6 0,U i6 0,U i6 0,U i6 0,U i6 0,U i6 (-128),U i6 127] 44 (0,0))) (hp:w.heap[p]? = some (.cells #[.int .i16 3,.int .i16 (-2)] 110 (0,0))) (hq:w.heap[q]? = some (.cells #[.int .i32 1] 21 (0,0))):LRow w (some ⟨g,0,none⟩) 1 1 (plO 0) plZ plB:=by
 refine⟨Nat.le_refl _,by unfold maxLen;omega,fun h=>(by cases h),fun x hx i hi=>?_⟩
 cases hx
 obtain rfl:i=0:=by omega
 refine⟨some ⟨p,0,none⟩,2,2,some ⟨q,0,none⟩,1,1,rfl,rfl,fun j v hj=>?_,irow_blk [3,-2] hp (fun z hz=>?_) (by simp),irow_blk [1] hq (fun z hz=>?_) (by simp),by omega,by omega⟩
 ·rw [Nat.zero_mul,Addr.add_lit,Addr.add_lit,(cells_at h).1,← hj]
  simp [opl,plO]
 ·simp only [List.mem_cons,List.not_mem_nil,or_false] at hz
  rcases hz with rfl | rfl<;>rfl
 ·simp only [List.mem_cons,List.not_mem_nil,or_false] at hz
  subst hz;rfl
theorem pl_found {W:World} {g:Nat} (hL:LRow W (some ⟨g,0,none⟩) 1 1 (plO 0) plZ plB):∃ wa lw cw ba lb cb,Fnd W (some ⟨g,0,none⟩) 1 (plO 0) plZ plB [(1,1,2),(1,1,1)] 0 ⟨g,0,none⟩ wa lw cw ba lb cb 1 1 2 1 1 1:=by
 obtain⟨RL,Rw,hR,i,x,wa,lw,cw,ba,lb,cb,x0,y0,z0,H,V,C,hop,hF⟩:=found 1 1 2 (-128) 127 1 (some ⟨g,0,none⟩) 1 1 (plO 0) plZ plB W hL 1 (fiE_0 (i:=0) (by rw [pl_0]) (by omega) (by decide))
 obtain rfl:i=0:=by omega
 rw [pl_0] at hR
 simp only [Prod.mk.injEq,true_and] at hR
 obtain⟨rfl,-⟩:=hR
 have h8:=hF.2.2.2.2.2.2.2.1
 have h9:=hF.2.2.2.2.2.2.2.2.1
 have h2:=hF.2.1
 simp only [plO,List.getD,List.getElem?_cons_zero,List.getElem?_cons_succ,Option.getD_some,Int.toNat_zero,Prod.mk.injEq,Nat.zero_add] at h8 h9
 obtain⟨rfl,rfl,rfl⟩:=h8
 obtain⟨rfl,rfl,rfl⟩:=h9
 simp only [Option.some.injEq] at h2
 subst h2
 exact⟨wa,lw,cw,ba,lb,cb,hF⟩
theorem irow_new8 (w:World) (zs:List Int) (hw:∀ z∈zs,I8 z) (hm:zs.length≤1000):IRow .i8 (w.alloc (.cells (zs.map (Value.int .i8)).toArray 71)) (some ⟨w.heap.size,0,none⟩) zs.length zs.length zs:=irow_blk zs (heap_alloc_new w _) (fun z hz=>mk_i8 (hw z hz)) hm
theorem same8_any (a b:Option Addr) (n ca cb:Nat) (xs:List Int) (W:World) (ha:IRow .i8 W a n ca xs) (hb:IRow .i8 W b n cb xs) :
  Calls Tryz.prog 21 #[Sl a n ca,Sl b n cb] W fun e w'=>e=.returned (.bool true)∧∃ q,w'=W.drewN q:=by
 have HA:Hid (IRow .i8 W a n ca xs):=ha
 have HB:Hid (IRow .i8 W b n cb xs):=hb
 have h1:=ha.2.1
 have h2:=ha.2.2.1
 have h3:=hb.2.1
 have h4:=hb.2.2.1
 unfold maxLen at h2 h4
 clear ha hb
 go_enter Tryz.func21,Tryz.ntmps21
 go_wp2
 go_loopw [13] (fun i wr=>∃ k q:Nat,k≤n∧i=U i6 k∧wr=W.drewN q) (fun i _=>n-(intOf i).toNat)
 case atStart=>exact⟨0,0,Nat.zero_le _,rfl,rfl⟩
 case round =>
  obtain⟨k,q,hk,rfl,rfl⟩:=hrel
  by_cases hlt:k<n
  ·obtain⟨x1,u,rfl,hu,hw,hz,-⟩:=HA.out.at hlt
   obtain⟨x2,u',rfl,hu',-,hz',-⟩:=HB.out.at hlt
   obtain rfl:u=u':=by rw [hz] at hz';exact Option.some.inj hz'
   clear hz hz' hw
   go_wp2
   go_quiet (fail)
   go_wp2
   go_roundw
   case rel=>exact⟨k+1,_,by omega,by go_num,rfl⟩
   case measure=>simp [intOf];omega
  ·go_wp2
   go_ret
   exact⟨rfl,_,rfl⟩
theorem same8_b (a b:Option Addr) (n ca cb:Nat) (xs:List Int) (W:World) (ha:IRow .i8 W a n ca xs) (hb:IRow .i8 W b n cb xs) :
  Calls Tryz.prog 21 #[Sl a n ca,Sl b n cb] W fun e w'=>e=.returned (.bool true)∧Below W.heap.size W w' :=
 (same8_any a b n ca cb xs W ha hb).mono fun e w' ⟨h,q,hq⟩=>⟨h,by rw [hq];exact dbel _ _⟩
theorem one23_any (W:World) :
  Calls Tryz.prog 20 #[] W fun e w'=>∃ g:Nat,e=.returned (.agg #[U i6 1,U i6 1,U i6 2,U i6 (-128),U i6 127,Sl (some ⟨g,0,none⟩) 1 1,U i6 1])∧LRow w' (some ⟨g,0,none⟩) 1 1 (plO 0) plZ plB∧Below W.heap.size W w':=by
 go_enter Tryz.func20,Tryz.ntmps20
 go_wp2
 have s1:=(((St.start W).new (c:=#[U i6 1,U i6 1,U i6 2,U i6 (-128),U i6 127,Sl (some ⟨W.heap.size+1+1+1,0,none⟩) 1 1,U i6 1]) (t:=26)).new (c:=#[.int .i16 3,.int .i16 (-2)]) (t:=110)).new (c:=#[.int .i32 1]) (t:=21)
 simp only [World.size_alloc] at s1
 have s2:=s1.new (c:=#[U i6 1,U i6 0,U i6 0,U i6 1,U i6 0,U i6 0,U i6 0,U i6 0,U i6 0,U i6 0,U i6 0,U i6 0,Sl (some ⟨W.heap.size+1,0,none⟩) 2 2,Sl (some ⟨W.heap.size+1+1,0,none⟩) 1 1,U i6 1,U i6 0,U i6 0,U i6 0,U i6 0,U i6 0,U i6 (-128),U i6 127]) (t:=44)
 simp only [World.size_alloc] at s2
 exact bodyPost_ret (v:=.agg #[U i6 1,U i6 1,U i6 2,U i6 (-128),U i6 127,Sl (some ⟨W.heap.size+1+1+1,0,none⟩) 1 1,U i6 1]) (by simp [results,Tryz.results20,go_sem]) rfl ⟨W.heap.size+1+1+1,rfl,pl_lrow (p:=W.heap.size+1) (q:=W.heap.size+1+1) s2.h1 s2.h3 s2.h2,s2.below⟩
theorem pl_e1:((1:Int)*1*2).toNat=2:=by decide
theorem pl_e2:plO 0 0 19=0:=by decide
theorem pl_e3:siL (plO 0 0 0) (plO 0 0 4) (plO 0 0 5) (plO 0 0 6) (plO 0 0 7) (plO 0 0 8) (plO 0 0 9) (plO 0 0 10) (plO 0 0 11) 1 1 2 1 ((0:Nat):Int) (plZ 0)=[(3,0),(-2,1)]:=by decide
theorem pl_e4:(stR (plO 0 0 0) (plO 0 0 4) (plO 0 0 5) 1 1 2).toNat=2:=by decide
theorem pl_e5:(siL (plO 0 0 0) (plO 0 0 4) (plO 0 0 5) (plO 0 0 6) (plO 0 0 7) (plO 0 0 8) (plO 0 0 9) (plO 0 0 10) (plO 0 0 11) 1 1 2 1 0 (plZ 0)).length=2:=by decide
theorem pl_l {A:List Int} (h:Dr 2 0 10 0 false [(3,0),(-2,1)] 2 A):A=[0,10]:=by
 obtain⟨a,b,rfl⟩:∃ a b,A=[a,b]:=by
  have:=h.len
  match A,this with
  | [a,b],_=>exact⟨a,b,rfl⟩
 have k0:a=dvT 0 10 0 false (3,0):=h.hit 0 (by omega) (by decide)
 have k1:b=dvT 0 10 0 false (-2,1):=h.hit 1 (by omega) (by decide)
 rw [show dvT 0 10 0 false (3,0)=0 by decide] at k0
 rw [show dvT 0 10 0 false (-2,1)=10 by decide] at k1
 rw [k0,k1]
theorem wfxl (g:Nat) (W:World) (hL:LRow W (some ⟨g,0,none⟩) 1 1 (plO 0) plZ plB):Calls Tryz.prog 5 #[.agg #[U i6 1,U i6 1,U i6 2,U i6 (-128),U i6 127,Sl (some ⟨g,0,none⟩) 1 1,U i6 1],U i6 1,U i6 1,.agg #[U i6 0,U i6 10]] W fun e w'=>(∃ a c,e=.returned (.tuple #[.agg #[U i6 0,Sl a 2 c],U i6 0])∧IRow .i8 w' a 2 c [0,10])∧Below W.heap.size W w':=by
 obtain⟨wa,lw,cw,ba,lb,cb,hF⟩:=pl_found hL
 refine (wlo_ok 1 1 2 (-128) 127 1 (some ⟨g,0,none⟩) 1 1 (plO 0) plZ plB W hL 1 _ _ pl_0 0 ⟨g,0,none⟩ wa lw cw ba lb cb 1 1 2 1 1 1 hF (by omega) 0 10 (by decide)).mono ?_
 rintro e w' ⟨⟨r,A,v',⟨h1,-,h3⟩,rfl,hO⟩,hb⟩
 have hr:r=0:=by
  have:((1:Int)*1).toNat=1:=by decide
  omega
 subst hr
 simp only [pl_e1,pl_e2,pl_e3,pl_e4] at h3
 obtain rfl:=pl_l h3
 obtain⟨a,c,rfl,hI,-⟩:=hO.row
 exact⟨⟨a,c,rfl,hI⟩,hb⟩
theorem pl_h {A:List Int} (h:Dr 2 0 10 0 true [(3,0),(-2,1)] 2 A):A=[10,0]:=by
 obtain⟨a,b,rfl⟩:∃ a b,A=[a,b]:=by
  have:=h.len
  match A,this with
  | [a,b],_=>exact⟨a,b,rfl⟩
 have k0:a=dvT 0 10 0 true (3,0):=h.hit 0 (by omega) (by decide)
 have k1:b=dvT 0 10 0 true (-2,1):=h.hit 1 (by omega) (by decide)
 rw [show dvT 0 10 0 true (3,0)=10 by decide] at k0
 rw [show dvT 0 10 0 true (-2,1)=0 by decide] at k1
 rw [k0,k1]
theorem wfxh (g:Nat) (W:World) (hL:LRow W (some ⟨g,0,none⟩) 1 1 (plO 0) plZ plB):Calls Tryz.prog 6 #[.agg #[U i6 1,U i6 1,U i6 2,U i6 (-128),U i6 127,Sl (some ⟨g,0,none⟩) 1 1,U i6 1],U i6 1,U i6 1,.agg #[U i6 0,U i6 10]] W fun e w'=>(∃ a c,e=.returned (.tuple #[.agg #[U i6 0,Sl a 2 c],U i6 0])∧IRow .i8 w' a 2 c [10,0])∧Below W.heap.size W w':=by
 obtain⟨wa,lw,cw,ba,lb,cb,hF⟩:=pl_found hL
 refine (who_ok 1 1 2 (-128) 127 1 (some ⟨g,0,none⟩) 1 1 (plO 0) plZ plB W hL 1 _ _ pl_0 0 ⟨g,0,none⟩ wa lw cw ba lb cb 1 1 2 1 1 1 hF (by omega) 0 10 (by decide)).mono ?_
 rintro e w' ⟨⟨r,A,v',⟨h1,-,h3⟩,rfl,hO⟩,hb⟩
 have hr:r=0:=by
  have:((1:Int)*1).toNat=1:=by decide
  omega
 subst hr
 simp only [pl_e1,pl_e2,pl_e3,pl_e4] at h3
 obtain rfl:=pl_h h3
 obtain⟨a,c,rfl,hI,-⟩:=hO.row
 exact⟨⟨a,c,rfl,hI⟩,hb⟩
theorem pl_s2:saR 0 10 2 2 (hbD (2:Int).toNat (fun (j:Nat)=>enL 0 10 (plO 0 0 19) (siL (plO 0 0 0) (plO 0 0 4) (plO 0 0 5) (plO 0 0 6) (plO 0 0 7) (plO 0 0 8) (plO 0 0 9) (plO 0 0 10) (plO 0 0 11) 1 1 2 1 (j:Int) (plZ 0))) ((1:Int)*1).toNat)=(true,0):=by decide
theorem pl_s3:saR 0 10 3 2 (hbD (3:Int).toNat (fun (j:Nat)=>enL 0 10 (plO 0 0 19) (siL (plO 0 0 0) (plO 0 0 4) (plO 0 0 5) (plO 0 0 6) (plO 0 0 7) (plO 0 0 8) (plO 0 0 9) (plO 0 0 10) (plO 0 0 11) 1 1 2 1 (j:Int) (plZ 0))) ((1:Int)*1).toNat)=(false,151):=by decide
theorem wfxb2 (g:Nat) (W:World) (hL:LRow W (some ⟨g,0,none⟩) 1 1 (plO 0) plZ plB):Calls Tryz.prog 11 #[.agg #[U i6 1,U i6 1,U i6 2,U i6 (-128),U i6 127,Sl (some ⟨g,0,none⟩) 1 1,U i6 1],U i6 1,U i6 1,.agg #[U i6 0,U i6 10],U i6 2] W fun e w'=>e=.returned (.tuple #[.agg #[U i6 0,U i6 0,U i6 0,Sl none 0 0],.bool false,U i6 0])∧Below W.heap.size W w':=by
 obtain⟨wa,lw,cw,ba,lb,cb,hF⟩:=pl_found hL
 exact wbr_no 1 1 2 (-128) 127 1 (some ⟨g,0,none⟩) 1 1 (plO 0) plZ plB W hL 1 _ _ pl_0 0 ⟨g,0,none⟩ wa lw cw ba lb cb 1 1 2 1 1 1 hF (by omega) 0 10 2 2 pl_e5 true 0 pl_s2 (.inr rfl)
theorem wfxb3 (g:Nat) (W:World) (hL:LRow W (some ⟨g,0,none⟩) 1 1 (plO 0) plZ plB):Calls Tryz.prog 11 #[.agg #[U i6 1,U i6 1,U i6 2,U i6 (-128),U i6 127,Sl (some ⟨g,0,none⟩) 1 1,U i6 1],U i6 1,U i6 1,.agg #[U i6 0,U i6 10],U i6 3] W fun e w'=>e=.returned (.tuple #[.agg #[U i6 0,U i6 0,U i6 0,Sl none 0 0],.bool false,U i6 151])∧Below W.heap.size W w':=by
 obtain⟨wa,lw,cw,ba,lb,cb,hF⟩:=pl_found hL
 exact wbr_no 1 1 2 (-128) 127 1 (some ⟨g,0,none⟩) 1 1 (plO 0) plZ plB W hL 1 _ _ pl_0 0 ⟨g,0,none⟩ wa lw cw ba lb cb 1 1 2 1 1 1 hF (by omega) 0 10 3 2 pl_e5 false 151 pl_s3 (.inl (by decide))
theorem fixed23_any (W:World):Calls Tryz.prog 8 #[] W fun e w'=>e=.returned (.bool true)∧Below W.heap.size W w':=by
 go_enter Tryz.func8,Tryz.ntmps8
 go_wp2_with fail
 refine (one23_any _).mono ?_
 rintro e w1 ⟨g,rfl,hL,hb⟩
 have S1:Hid (St W w1 []):=(St.start W).call hb
 have HF:Hid _:=wfxl g w1 hL
 clear hL hb
 go_wp2_with fail
 refine Calls.mono HF.out ?_
 rintro e w2 ⟨⟨a1,d1,rfl,hI⟩,hb⟩
 have S2:Hid (St W (w2.alloc (.cells #[U i6 0,Sl a1 2 d1] 33)) _):=(S1.out.call hb).new (c:=#[U i6 0,Sl a1 2 d1]) (t:=33)
 have HI1:Hid (IRow .i8 (w2.alloc (.cells #[U i6 0,Sl a1 2 d1] 33)) a1 2 d1 [0,10]):=hI.below (bal _ _)
 clear hI hb HF S1
 go_upto_region 2 with fail
 obtain⟨w3,hw3⟩:∃ w3,w2.alloc (.cells #[U i6 0,Sl a1 2 d1] 33)=w3:=⟨_,rfl⟩
 obtain⟨B1,hB1⟩:∃ B,w2.heap.size=B:=⟨_,rfl⟩
 rw [hw3,hB1] at S2
 rw [hw3] at HI1
 rw [hw3,hB1]
 clear hw3 hB1
 go_wp2_with fail
 refine (one23_any _).mono ?_
 rintro e w4 ⟨g',rfl,hL,hb⟩
 have S4:Hid (St W w4 _):=S2.out.call hb
 have HI4:Hid (IRow .i8 w4 a1 2 d1 [0,10]):=HI1.out.below hb
 have HF:Hid _:=wfxh g' w4 hL
 clear hL hb S2 HI1
 go_wp2_with fail
 refine Calls.mono HF.out ?_
 rintro e w5 ⟨⟨a2,d2,rfl,hI⟩,hb⟩
 have S5:Hid (St W (w5.alloc (.cells #[U i6 0,Sl a2 2 d2] 33)) _):=(S4.out.call hb).new (c:=#[U i6 0,Sl a2 2 d2]) (t:=33)
 have HI5:Hid (IRow .i8 (w5.alloc (.cells #[U i6 0,Sl a2 2 d2] 33)) a1 2 d1 [0,10]):=(HI4.out.below hb).below (bal _ _)
 have HJ5:Hid (IRow .i8 (w5.alloc (.cells #[U i6 0,Sl a2 2 d2] 33)) a2 2 d2 [10,0]):=hI.below (bal _ _)
 clear hI hb HF S4 HI4
 go_upto_region 3 with fail
 obtain⟨w6,hw6⟩:∃ w6,w5.alloc (.cells #[U i6 0,Sl a2 2 d2] 33)=w6:=⟨_,rfl⟩
 obtain⟨B2,hB2⟩:∃ B,w5.heap.size=B:=⟨_,rfl⟩
 rw [hw6,hB2] at S5
 rw [hw6] at HI5 HJ5
 rw [hw6,hB2]
 clear hw6 hB2
 go_wp2_with fail
 refine (one23_any _).mono ?_
 rintro e w7 ⟨g',rfl,hL,hb⟩
 have S7:Hid (St W w7 _):=S5.out.call hb
 have HI7:Hid (IRow .i8 w7 a1 2 d1 [0,10]):=HI5.out.below hb
 have HJ7:Hid (IRow .i8 w7 a2 2 d2 [10,0]):=HJ5.out.below hb
 have HF:Hid _:=wfxb2 g' w7 hL
 clear hL hb S5 HI5 HJ5
 go_wp2_with fail
 refine Calls.mono HF.out ?_
 rintro e w8 ⟨rfl,hb⟩
 have S8:Hid (St W (w8.alloc (.cells #[U i6 0,U i6 0,U i6 0,Sl none 0 0] 54)) _):=(S7.out.call hb).new (c:=#[U i6 0,U i6 0,U i6 0,Sl none 0 0]) (t:=54)
 have HI8:Hid (IRow .i8 (w8.alloc (.cells #[U i6 0,U i6 0,U i6 0,Sl none 0 0] 54)) a1 2 d1 [0,10]):=(HI7.out.below hb).below (bal _ _)
 have HJ8:Hid (IRow .i8 (w8.alloc (.cells #[U i6 0,U i6 0,U i6 0,Sl none 0 0] 54)) a2 2 d2 [10,0]):=(HJ7.out.below hb).below (bal _ _)
 clear hb HF S7 HI7 HJ7
 go_upto_region 4 with fail
 obtain⟨w9,hw9⟩:∃ w9,w8.alloc (.cells #[U i6 0,U i6 0,U i6 0,Sl none 0 0] 54)=w9:=⟨_,rfl⟩
 obtain⟨B3,hB3⟩:∃ B,w8.heap.size=B:=⟨_,rfl⟩
 rw [hw9,hB3] at S8
 rw [hw9] at HI8 HJ8
 rw [hw9,hB3]
 clear hw9 hB3
 go_wp2_with fail
 refine (one23_any _).mono ?_
 rintro e w10 ⟨g',rfl,hL,hb⟩
 have S10:Hid (St W w10 _):=S8.out.call hb
 have HI10:Hid (IRow .i8 w10 a1 2 d1 [0,10]):=HI8.out.below hb
 have HJ10:Hid (IRow .i8 w10 a2 2 d2 [10,0]):=HJ8.out.below hb
 have HF:Hid _:=wfxb3 g' w10 hL
 clear hL hb S8 HI8 HJ8
 go_wp2_with fail
 refine Calls.mono HF.out ?_
 rintro e w11 ⟨rfl,hb⟩
 have S11:Hid (St W (w11.alloc (.cells #[U i6 0,U i6 0,U i6 0,Sl none 0 0] 54)) _):=(S10.out.call hb).skip (.cells #[U i6 0,U i6 0,U i6 0,Sl none 0 0] 54)
 have HI11:Hid (IRow .i8 (w11.alloc (.cells #[U i6 0,U i6 0,U i6 0,Sl none 0 0] 54)) a1 2 d1 [0,10]):=(HI10.out.below hb).below (bal _ _)
 have HJ11:Hid (IRow .i8 (w11.alloc (.cells #[U i6 0,U i6 0,U i6 0,Sl none 0 0] 54)) a2 2 d2 [10,0]):=(HJ10.out.below hb).below (bal _ _)
 clear hb HF S10 HI10 HJ10
 go_upto_region 5 with fail
 obtain⟨w12,hw12⟩:∃ w,w11.alloc (.cells #[U i6 0,U i6 0,U i6 0,Sl none 0 0] 54)=w:=⟨_,rfl⟩
 rw [hw12] at S11 HI11 HJ11 ⊢
 obtain⟨B4,hB4⟩:∃ B,w11.heap.size=B:=⟨_,rfl⟩
 rw [hB4]
 clear hw12 hB4
 obtain⟨c3,f3,z3,c2,f2,z2,c1,f1,z1,-⟩:=S11.out.rules
 have hA:=irow_new8 w12 [0,10] (by simp [I8]) (by simp)
 have SA:Hid (St W (w12.alloc (.cells #[.int .i8 0,.int .i8 10] 71)) _):=S11.out.skip (.cells #[.int .i8 0,.int .i8 10] 71)
 have HIA:Hid (IRow .i8 (w12.alloc (.cells #[.int .i8 0,.int .i8 10] 71)) a1 2 d1 [0,10]):=HI11.out.below (bal _ _)
 have HJA:Hid (IRow .i8 (w12.alloc (.cells #[.int .i8 0,.int .i8 10] 71)) a2 2 d2 [10,0]):=HJ11.out.below (bal _ _)
 have HAA:Hid (IRow .i8 (w12.alloc (.cells #[.int .i8 0,.int .i8 10] 71)) (some ⟨w12.heap.size,0,none⟩) 2 2 [0,10]):=hA
 have HS1:Hid _:=same8_b a1 (some ⟨w12.heap.size,0,none⟩) 2 d1 2 [0,10] _ HIA.out HAA.out
 clear hA
 go_wp2_with fail
 refine Calls.mono HS1.out ?_
 rintro e w13 ⟨rfl,hb⟩
 have S13:Hid (St W w13 _):=SA.out.call hb
 have HJ13:Hid (IRow .i8 w13 a2 2 d2 [10,0]):=HJA.out.below hb
 clear hb SA HIA HJA HAA HS1 c1 f1 z1 c2 f2 z2 c3 f3 z3 S11 HI11 HJ11
 obtain⟨c3,f3,z3,c2,f2,z2,c1,f1,z1,-⟩:=S13.out.rules
 have hA:=irow_new8 w13 [10,0] (by simp [I8]) (by simp)
 have SA:Hid (St W (w13.alloc (.cells #[.int .i8 10,.int .i8 0] 71)) _):=S13.out.skip (.cells #[.int .i8 10,.int .i8 0] 71)
 have HJA:Hid (IRow .i8 (w13.alloc (.cells #[.int .i8 10,.int .i8 0] 71)) a2 2 d2 [10,0]):=HJ13.out.below (bal _ _)
 have HAA:Hid (IRow .i8 (w13.alloc (.cells #[.int .i8 10,.int .i8 0] 71)) (some ⟨w13.heap.size,0,none⟩) 2 2 [10,0]):=hA
 have HS2:Hid _:=same8_b a2 (some ⟨w13.heap.size,0,none⟩) 2 d2 2 [10,0] _ HJA.out HAA.out
 clear hA
 go_wp2_with fail
 refine Calls.mono HS2.out ?_
 rintro e w14 ⟨rfl,hb⟩
 have S14:Hid (St W w14 _):=SA.out.call hb
 clear hb SA HJA HAA HS2 c1 f1 z1 c2 f2 z2 c3 f3 z3 S13 HJ13
 obtain⟨c3,f3,z3,c2,f2,z2,c1,f1,z1,-⟩:=S14.out.rules
 go_wp2
 go_ret
 exact⟨rfl,S14.out.below⟩
theorem btr {a b c:World} (h:Below a.heap.size a b) (k:Below b.heap.size b c):Below a.heap.size a c:=bt h k
theorem IRow.i8 {w:World} {a:Option Addr} {n c:Nat} {xs:List Int} (h:IRow .i8 w a n c xs):∀ v∈xs,I8 v:=fun v hv=>wf_i8 (h.2.2.2.1 v hv)
def fil (ys:List Int) (y:Nat):List Int:=ys.take y++List.replicate (ys.length-y) 0
theorem fil_0 (ys:List Int):fil ys 0=List.replicate ys.length 0:=by simp [fil]
def Bk (k:IntKind) (T:TypeId) (w:World) (g:Nat) (zs:List Int):Prop:=w.heap[g]? = some (.cells (zs.map (Value.int k)).toArray T (0,0))
theorem Bk.at {k:IntKind} {T:TypeId} {w:World} {g p:Nat} {zs:List Int} (h:Bk k T w g zs) (hp:p<zs.length):w.cell? ⟨g,p,none⟩=some (.int k (zs.getD p 0))∧(∀ i,w.frozen? ⟨g,i,none⟩=false)∧g<w.heap.size:=by
 have:=cells_at h
 exact⟨by rw [this.1];simp [List.getD,hp],this.2⟩
theorem Bk.set {k:IntKind} {T:TypeId} {w:World} {g p:Nat} {zs:List Int} (z:Int) (h:Bk k T w g zs):Bk k T (w.setCell ⟨g,p,none⟩ (.int k z)) g (zs.set p z):=by
 have:=heap_setCell_at (i:=p) (v:=.int k z) h
 unfold Bk
 rw [this]
 simp [List.map_set]
theorem Bk.below {k:IntKind} {T:TypeId} {w w':World} {g:Nat} {zs:List Int} (h:Bk k T w g zs) (q:Below w.heap.size w w'):Bk k T w' g zs:=(q.block g (lt_of_heap h)).trans h
theorem Bk.new {k:IntKind} {T:TypeId} {w:World} {g n:Nat} {zs:List Int} (h:w.heap[g]? = some (.cells (Array.replicate n (Value.int k 0)) T (0,0))) (hn:zs.length=n):Bk k T w g (fil zs 0):=by
 unfold Bk
 rw [h,fil_0,hn]
 simp
def inB (h w c lo hi:Int) (xs:List Int):Bool:=decide ((xs.length:Int)=h*w*c∧∀ v∈xs,lo≤v∧v≤hi)
end Go.Proofs.YtgjcjhnnopandaaGreat
