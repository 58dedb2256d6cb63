/- What the document's Find of layer 10 returns: the op that is asked, with its shapes; the error. What the document's Find of layer 10 returns of an op that is there: the op that is asked, with its shapes; the error. -/
import Derived.Test.YtccoanknofhmaaaGreatGq21
namespace Go.Proofs.YtccoanknofhmaaaGreat
open Go.Value renaming int → U, slice → Sl
open Go.IntKind renaming i64 → i6
set_option maxRecDepth 100000
set_option maxHeartbeats 16000000
open Go.ChangeShapes Go.WideShapes Go.ChangeAt Go.RowKit
set_option linter.unusedVariables false
theorem rfind_e (h w c lo hi ot op ch:Int) (oa:Option Addr) (on oc:Nat) (O:Nat→Nat→Int) (Z B:Nat→List Int) (W:World) (hM:LRow W oa on oc O Z B) (hon:on≤1000000000000) (Re Ra Rw:Int) (RL:List (Int×Int×Int)) (hR:gtR O h w c lo hi ot on=(Re,Ra,RL,Rw)) (he:Re≠0) :
  Calls Tryz.prog 42 #[.agg #[U i6 h,U i6 w,U i6 c,U i6 lo,U i6 hi,Sl oa on oc,U i6 ot],U i6 op,U i6 ch] W fun e w'=>e=.returned (.tuple #[.agg #[U i6 0,U i6 0,U i6 0,U i6 0,U i6 0,U i6 0,U i6 0,U i6 0,U i6 0,U i6 0,U i6 0,U i6 0,Sl none 0 0,Sl none 0 0,U i6 0,U i6 0,U i6 0,U i6 0,U i6 0,U i6 0,U i6 0,U i6 0,U i6 0,U i6 0,U i6 0,U i6 0,U i6 0,U i6 0],U i6 Re])∧Below W.heap.size W w':=by
 have hS:Hid (∀ W,LRow W oa on oc O Z B→_):=fun W hW=>look_any h w c lo hi ot oa on oc O Z B W hW hon
 rw [hR] at hS
 simp only at hS
 have he':(Re == 0)=false:=by simp [he]
 have hM2:Hid (LRow W oa on oc O Z B):=hM
 clear hR hM
 have s0:=((St.start W).new (c:=#[U i6 h,U i6 w,U i6 c,U i6 lo,U i6 hi,Sl oa on oc,U i6 ot]) (t:=26)).new (c:=#[U i6 0,U i6 0,U i6 0,U i6 0,U i6 0,U i6 0,U i6 0,U i6 0,U i6 0,U i6 0,U i6 0,U i6 0,Sl none 0 0,Sl none 0 0,U i6 0,U i6 0,U i6 0,U i6 0,U i6 0,U i6 0,U i6 0,U i6 0,U i6 0,U i6 0,U i6 0,U i6 0,U i6 0,U i6 0]) (t:=44)
 simp only [World.size_alloc] at s0
 go_enter Tryz.func42,Tryz.ntmps42
 go_wp2_with fail
 refine Calls.mono (hS.out _ (hM2.out.below s0.below)) ?_
 rintro e w1 ⟨v,rfl,hSh,hb⟩
 have s1:=(s0.call hb).new (c:=#[U i6 Re,U i6 Ra,U i6 0]) (t:=79)
 obtain⟨va,vc,rfl⟩:=hSh.slice
 obtain⟨c1,f1,z1,c2,f2,z2,-⟩:=(s0.call hb).rules
 clear hb hSh
 go_wp2
 obtain⟨w2,hw2⟩:∃ w2,w1.alloc (.cells #[U i6 Re,U i6 Ra,U i6 0] 79)=w2:=⟨_,rfl⟩
 rw [hw2] at s1 ⊢
 have hF:=s1.h1
 have hZ:=s1.h2
 have S1:Hid (St W w2 _):=s1
 clear hw2 s0 s1 c1 f1 c2 f2
 refine regionC (fun w'=>w'.heap[w1.heap.size]? = some (.cells #[U i6 Re,U i6 Ra,U i6 0] 79 (0,0))) (by kernel_rfl) ?_
 refine takeC 0 (v:=.agg #[U i6 0,U i6 0,U i6 0,U i6 0,U i6 0,U i6 0,U i6 0,U i6 0,U i6 0,U i6 0,U i6 0,U i6 0,Sl none 0 0,Sl none 0 0,U i6 0,U i6 0,U i6 0,U i6 0,U i6 0,U i6 0,U i6 0,U i6 0,U i6 0,U i6 0,U i6 0,U i6 0,U i6 0,U i6 0]) rfl rfl (by kernel_rfl) (by kernel_rfl) (by kernel_rfl) (fun _ _ _ h=>h) (fun _=>rfl) rfl (fun w' hw'=>by kernel_rfl) ?_
 refine takeC 1 (v:=.pointer (some ⟨w1.heap.size,0,none⟩)) rfl rfl (by kernel_rfl) (by kernel_rfl) (by kernel_rfl) (fun _ _ _ h=>h) (fun _=>rfl) rfl (fun w' hw'=>by go_simp) ?_
 refine takeC 2 (v:=U i6 Re) rfl rfl (by kernel_rfl) (by kernel_rfl) (by kernel_rfl) (fun _ _ _ h=>h) (fun _=>rfl) rfl (fun w' hw'=>by have hc:=(cells_at hw').1 0;go_simp) ?_
 have hne:w1.heap.size≠W.heap.size+1:=by omega
 refine stepC 3 hF (by kernel_rfl) rfl (fun K hK=>step_wp rfl (wp_store_row 44 (.tmp 6) (.tmp 22) rfl (W.heap.size+1) #[U i6 0,U i6 0,U i6 0,U i6 0,U i6 0,U i6 0,U i6 0,U i6 0,U i6 0,U i6 0,U i6 0,U i6 0,Sl none 0 0,Sl none 0 0,U i6 0,U i6 0,U i6 0,U i6 0,U i6 0,U i6 0,U i6 0,U i6 0,U i6 0,U i6 0,U i6 0,U i6 0,U i6 0,U i6 0] rfl rfl 44 #[U i6 0,U i6 0,U i6 0,U i6 0,U i6 0,U i6 0,U i6 0,U i6 0,U i6 0,U i6 0,U i6 0,U i6 0,Sl none 0 0,Sl none 0 0,U i6 0,U i6 0,U i6 0,U i6 0,U i6 0,U i6 0,U i6 0,U i6 0,U i6 0,U i6 0,U i6 0,U i6 0,U i6 0,U i6 0] hZ (by kernel_rfl) rfl (by simp [Value.oneCell']) (hK _ _ ?_)))
 refine takeC 4 (v:=U i6 Re) rfl rfl (by kernel_rfl) (by kernel_rfl) (by kernel_rfl) (fun _ _ _ h=>h) (fun _=>rfl) rfl (fun w' hw'=>by go_simp) ?_
 refine doneC ((setRow_other _ _ _ _ hne).trans hF) (by kernel_rfl) ?_ _
 have hZ':=setRow_heap w2.drew (W.heap.size+1) #[U i6 0,U i6 0,U i6 0,U i6 0,U i6 0,U i6 0,U i6 0,U i6 0,U i6 0,U i6 0,U i6 0,U i6 0,Sl none 0 0,Sl none 0 0,U i6 0,U i6 0,U i6 0,U i6 0,U i6 0,U i6 0,U i6 0,U i6 0,U i6 0,U i6 0,U i6 0,U i6 0,U i6 0,U i6 0] #[U i6 0,U i6 0,U i6 0,U i6 0,U i6 0,U i6 0,U i6 0,U i6 0,U i6 0,U i6 0,U i6 0,U i6 0,Sl none 0 0,Sl none 0 0,U i6 0,U i6 0,U i6 0,U i6 0,U i6 0,U i6 0,U i6 0,U i6 0,U i6 0,U i6 0,U i6 0,U i6 0,U i6 0,U i6 0] 44 (0,0) hZ
 have hB':Hid (Below W.heap.size W (w2.drew.setRow (W.heap.size+1) #[U i6 0,U i6 0,U i6 0,U i6 0,U i6 0,U i6 0,U i6 0,U i6 0,U i6 0,U i6 0,U i6 0,U i6 0,Sl none 0 0,Sl none 0 0,U i6 0,U i6 0,U i6 0,U i6 0,U i6 0,U i6 0,U i6 0,U i6 0,U i6 0,U i6 0,U i6 0,U i6 0,U i6 0,U i6 0])):=below_setRow S1.out.drew.below (by omega) _
 obtain⟨w3,hw3⟩:∃ w3,w2.drew.setRow (W.heap.size+1) #[U i6 0,U i6 0,U i6 0,U i6 0,U i6 0,U i6 0,U i6 0,U i6 0,U i6 0,U i6 0,U i6 0,U i6 0,Sl none 0 0,Sl none 0 0,U i6 0,U i6 0,U i6 0,U i6 0,U i6 0,U i6 0,U i6 0,U i6 0,U i6 0,U i6 0,U i6 0,U i6 0,U i6 0,U i6 0]=w3:=⟨_,rfl⟩
 rw [hw3] at hZ' hB' ⊢
 clear hw3
 go_wp2
 exact bodyPost_ret (results_row_tmp Tryz.results42 _ _ (W.heap.size+1) 44 _ _ (U i6 Re) rfl hZ' Tryz.underlying44 rfl (by kernel_rfl) rfl) rfl ⟨rfl,hB'.out⟩
theorem rfind_3 (h w c lo hi ot op ch:Int) (oa:Option Addr) (on oc:Nat) (O:Nat→Nat→Int) (Z B:Nat→List Int) (W:World) (hM:LRow W oa on oc O Z B) (hon:on≤1000000000000) (Ra Rw:Int) (RL:List (Int×Int×Int)) (hR:gtR O h w c lo hi ot on=(0,Ra,RL,Rw)) (ho:¬ (1≤op∧op≤(on:Int))) :
  Calls Tryz.prog 42 #[.agg #[U i6 h,U i6 w,U i6 c,U i6 lo,U i6 hi,Sl oa on oc,U i6 ot],U i6 op,U i6 ch] W fun e w'=>e=.returned (.tuple #[.agg #[U i6 0,U i6 0,U i6 0,U i6 0,U i6 0,U i6 0,U i6 0,U i6 0,U i6 0,U i6 0,U i6 0,U i6 0,Sl none 0 0,Sl none 0 0,U i6 0,U i6 0,U i6 0,U i6 0,U i6 0,U i6 0,U i6 0,U i6 0,U i6 0,U i6 0,U i6 0,U i6 0,U i6 0,U i6 0],U i6 3])∧Below W.heap.size W w':=by
 have hS:Hid (∀ W,LRow W oa on oc O Z B→_):=fun W hW=>look_any h w c lo hi ot oa on oc O Z B W hW hon
 rw [hR] at hS
 simp only at hS
 have hM2:Hid (LRow W oa on oc O Z B):=hM
 have hocm:=hM.1
 have hocx:=hM.2.1
 unfold maxLen at hocx
 clear hR hM
 have s0:=((St.start W).new (c:=#[U i6 h,U i6 w,U i6 c,U i6 lo,U i6 hi,Sl oa on oc,U i6 ot]) (t:=26)).new (c:=#[U i6 0,U i6 0,U i6 0,U i6 0,U i6 0,U i6 0,U i6 0,U i6 0,U i6 0,U i6 0,U i6 0,U i6 0,Sl none 0 0,Sl none 0 0,U i6 0,U i6 0,U i6 0,U i6 0,U i6 0,U i6 0,U i6 0,U i6 0,U i6 0,U i6 0,U i6 0,U i6 0,U i6 0,U i6 0]) (t:=44)
 simp only [World.size_alloc] at s0
 by_cases ho1:op<1
 ·go_enter Tryz.func42,Tryz.ntmps42
  go_wp2_with fail
  refine Calls.mono (hS.out _ (hM2.out.below s0.below)) ?_
  rintro e w1 ⟨v,rfl,hSh,hb⟩
  have s1:=(s0.call hb).new (c:=#[U i6 0,U i6 Ra,U i6 0]) (t:=79)
  obtain⟨va,vc,rfl⟩:=hSh.slice
  obtain⟨c1,f1,z1,c2,f2,z2,-⟩:=(s0.call hb).rules
  have ho2:op<1∨(on:Int)<op:=by omega
  clear hb hSh ho
  go_wp2_with (refine wpList_store_row rfl 44 (.tmp 6) (.tmp 34) rfl (W.heap.size+1) #[U i6 0,U i6 0,U i6 0,U i6 0,U i6 0,U i6 0,U i6 0,U i6 0,U i6 0,U i6 0,U i6 0,U i6 0,Sl none 0 0,Sl none 0 0,U i6 0,U i6 0,U i6 0,U i6 0,U i6 0,U i6 0,U i6 0,U i6 0,U i6 0,U i6 0,U i6 0,U i6 0,U i6 0,U i6 0] rfl rfl 44 #[U i6 0,U i6 0,U i6 0,U i6 0,U i6 0,U i6 0,U i6 0,U i6 0,U i6 0,U i6 0,U i6 0,U i6 0,Sl none 0 0,Sl none 0 0,U i6 0,U i6 0,U i6 0,U i6 0,U i6 0,U i6 0,U i6 0,U i6 0,U i6 0,U i6 0,U i6 0,U i6 0,U i6 0,U i6 0] s1.h2 (by kernel_rfl) rfl (by simp [Value.oneCell']) ?_;have hZ':=setRow_heap _ (W.heap.size+1) #[U i6 0,U i6 0,U i6 0,U i6 0,U i6 0,U i6 0,U i6 0,U i6 0,U i6 0,U i6 0,U i6 0,U i6 0,Sl none 0 0,Sl none 0 0,U i6 0,U i6 0,U i6 0,U i6 0,U i6 0,U i6 0,U i6 0,U i6 0,U i6 0,U i6 0,U i6 0,U i6 0,U i6 0,U i6 0] #[U i6 0,U i6 0,U i6 0,U i6 0,U i6 0,U i6 0,U i6 0,U i6 0,U i6 0,U i6 0,U i6 0,U i6 0,Sl none 0 0,Sl none 0 0,U i6 0,U i6 0,U i6 0,U i6 0,U i6 0,U i6 0,U i6 0,U i6 0,U i6 0,U i6 0,U i6 0,U i6 0,U i6 0,U i6 0] 44 (0,0) s1.h2;have hB':Hid (Below W.heap.size W (_:World)):=below_setRow s1.below (show W.heap.size≤W.heap.size+1 by omega) #[U i6 0,U i6 0,U i6 0,U i6 0,U i6 0,U i6 0,U i6 0,U i6 0,U i6 0,U i6 0,U i6 0,U i6 0,Sl none 0 0,Sl none 0 0,U i6 0,U i6 0,U i6 0,U i6 0,U i6 0,U i6 0,U i6 0,U i6 0,U i6 0,U i6 0,U i6 0,U i6 0,U i6 0,U i6 0];clear c1 f1 c2 f2;generalize World.setRow _ _ _=w3 at hZ' hB' ⊢)
  exact bodyPost_ret (results_row_tmp Tryz.results42 _ _ (W.heap.size+1) 44 _ _ (U i6 3) rfl hZ' Tryz.underlying44 rfl (by kernel_rfl) rfl) rfl ⟨rfl,hB'.out⟩
 ·go_enter Tryz.func42,Tryz.ntmps42
  go_wp2_with fail
  refine Calls.mono (hS.out _ (hM2.out.below s0.below)) ?_
  rintro e w1 ⟨v,rfl,hSh,hb⟩
  have s1:=(s0.call hb).new (c:=#[U i6 0,U i6 Ra,U i6 0]) (t:=79)
  obtain⟨va,vc,rfl⟩:=hSh.slice
  obtain⟨c1,f1,z1,c2,f2,z2,-⟩:=(s0.call hb).rules
  have ho2:op<1∨(on:Int)<op:=by omega
  clear hb hSh ho
  go_wp2_with (refine wpList_store_row rfl 44 (.tmp 6) (.tmp 34) rfl (W.heap.size+1) #[U i6 0,U i6 0,U i6 0,U i6 0,U i6 0,U i6 0,U i6 0,U i6 0,U i6 0,U i6 0,U i6 0,U i6 0,Sl none 0 0,Sl none 0 0,U i6 0,U i6 0,U i6 0,U i6 0,U i6 0,U i6 0,U i6 0,U i6 0,U i6 0,U i6 0,U i6 0,U i6 0,U i6 0,U i6 0] rfl rfl 44 #[U i6 0,U i6 0,U i6 0,U i6 0,U i6 0,U i6 0,U i6 0,U i6 0,U i6 0,U i6 0,U i6 0,U i6 0,Sl none 0 0,Sl none 0 0,U i6 0,U i6 0,U i6 0,U i6 0,U i6 0,U i6 0,U i6 0,U i6 0,U i6 0,U i6 0,U i6 0,U i6 0,U i6 0,U i6 0] s1.h2 (by kernel_rfl) rfl (by simp [Value.oneCell']) ?_;have hZ':=setRow_heap _ (W.heap.size+1) #[U i6 0,U i6 0,U i6 0,U i6 0,U i6 0,U i6 0,U i6 0,U i6 0,U i6 0,U i6 0,U i6 0,U i6 0,Sl none 0 0,Sl none 0 0,U i6 0,U i6 0,U i6 0,U i6 0,U i6 0,U i6 0,U i6 0,U i6 0,U i6 0,U i6 0,U i6 0,U i6 0,U i6 0,U i6 0] #[U i6 0,U i6 0,U i6 0,U i6 0,U i6 0,U i6 0,U i6 0,U i6 0,U i6 0,U i6 0,U i6 0,U i6 0,Sl none 0 0,Sl none 0 0,U i6 0,U i6 0,U i6 0,U i6 0,U i6 0,U i6 0,U i6 0,U i6 0,U i6 0,U i6 0,U i6 0,U i6 0,U i6 0,U i6 0] 44 (0,0) s1.h2;have hB':Hid (Below W.heap.size W (_:World)):=below_setRow s1.below (show W.heap.size≤W.heap.size+1 by omega) #[U i6 0,U i6 0,U i6 0,U i6 0,U i6 0,U i6 0,U i6 0,U i6 0,U i6 0,U i6 0,U i6 0,U i6 0,Sl none 0 0,Sl none 0 0,U i6 0,U i6 0,U i6 0,U i6 0,U i6 0,U i6 0,U i6 0,U i6 0,U i6 0,U i6 0,U i6 0,U i6 0,U i6 0,U i6 0];clear c1 f1 c2 f2;generalize World.setRow _ _ _=w3 at hZ' hB' ⊢)
  exact bodyPost_ret (results_row_tmp Tryz.results42 _ _ (W.heap.size+1) 44 _ _ (U i6 3) rfl hZ' Tryz.underlying44 rfl (by kernel_rfl) rfl) rfl ⟨rfl,hB'.out⟩
theorem rfind_r (h w c lo hi ot ch:Int) (x:Addr) (on oc i:Nat) (O:Nat→Nat→Int) (Z B:Nat→List Int) (W:World) (hM:LRow W (some x) on oc O Z B) (hon:on≤1000000000000) (hi0:i<on) (wa:Option Addr) (lw cw:Nat) (ba:Option Addr) (lb cb:Nat)
  (hcell:∀ q v,[U i6 (O i 0),U i6 (O i 1),U i6 (O i 2),U i6 (O i 3),U i6 (O i 4),U i6 (O i 5),U i6 (O i 6),U i6 (O i 7),U i6 (O i 8),U i6 (O i 9),U i6 (O i 10),U i6 (O i 11),Sl wa lw cw,Sl ba lb cb,U i6 (O i 14),U i6 (O i 15),U i6 (O i 16),U i6 (O i 17),U i6 (O i 18),U i6 (O i 19),U i6 (O i 20),U i6 (O i 21)][q]? = some v→W.cell? ((x.add (i*22)).add q)=some v) (Rw:Int) (RL:List (Int×Int×Int)) (hR:gtR O h w c lo hi ot on=(0,0,RL,Rw)) (hj0:0≤O i 1) (hj1:O i 1≤(i:Int))
  (x0 y0 z0 H V C:Int) (hA:RL.getD (O i 1).toNat (0,0,0)=(x0,y0,z0)) (hB:RL.getD (i+1) (0,0,0)=(H,V,C)) (rb:Bool) (hrb:rdB (O i 0)=rb) :
  Calls Tryz.prog 42 #[.agg #[U i6 h,U i6 w,U i6 c,U i6 lo,U i6 hi,Sl (some x) on oc,U i6 ot],U i6 ((i:Int)+1),U i6 ch] W fun e w'=>e=.returned (if rb=true then (if 0≤ch∧ch≤C then .tuple #[.agg #[U i6 (O i 0),U i6 (O i 1),U i6 (O i 2),U i6 (O i 3),U i6 (O i 4),U i6 (O i 5),U i6 (O i 6),U i6 (O i 7),U i6 (O i 8),U i6 (O i 9),U i6 (O i 10),U i6 (O i 11),Sl wa lw cw,Sl ba lb cb,U i6 (O i 14),U i6 (O i 15),U i6 (O i 16),U i6 (O i 17),U i6 (O i 18),U i6 (O i 19),U i6 (O i 20),U i6 (O i 21),U i6 x0,U i6 y0,U i6 z0,U i6 H,U i6 V,U i6 C],U i6 0] else .tuple #[.agg #[U i6 0,U i6 0,U i6 0,U i6 0,U i6 0,U i6 0,U i6 0,U i6 0,U i6 0,U i6 0,U i6 0,U i6 0,Sl none 0 0,Sl none 0 0,U i6 0,U i6 0,U i6 0,U i6 0,U i6 0,U i6 0,U i6 0,U i6 0,U i6 0,U i6 0,U i6 0,U i6 0,U i6 0,U i6 0],U i6 3]) else .tuple #[.agg #[U i6 0,U i6 0,U i6 0,U i6 0,U i6 0,U i6 0,U i6 0,U i6 0,U i6 0,U i6 0,U i6 0,U i6 0,Sl none 0 0,Sl none 0 0,U i6 0,U i6 0,U i6 0,U i6 0,U i6 0,U i6 0,U i6 0,U i6 0,U i6 0,U i6 0,U i6 0,U i6 0,U i6 0,U i6 0],U i6 81])∧Below W.heap.size W w':=by
 have hS:Hid (∀ W,LRow W (some x) on oc O Z B→_):=fun W hW=>look_any h w c lo hi ot (some x) on oc O Z B W hW hon
 rw [hR] at hS
 simp only at hS
 obtain⟨-,hRl,ho64,-,-,-⟩:=gtR_ok hR
 have hM2:Hid (LRow W (some x) on oc O Z B):=hM
 have hocm:=hM.1
 have hocx:=hM.2.1
 unfold maxLen at hocx
 have Hc:Hid (∀ q v,[U i6 (O i 0),U i6 (O i 1),U i6 (O i 2),U i6 (O i 3),U i6 (O i 4),U i6 (O i 5),U i6 (O i 6),U i6 (O i 7),U i6 (O i 8),U i6 (O i 9),U i6 (O i 10),U i6 (O i 11),Sl wa lw cw,Sl ba lb cb,U i6 (O i 14),U i6 (O i 15),U i6 (O i 16),U i6 (O i 17),U i6 (O i 18),U i6 (O i 19),U i6 (O i 20),U i6 (O i 21)][q]? = some v→W.cell? ((x.add (i*22)).add q)=some v):=hcell
 clear hR hM hcell
 have s0:=((St.start W).new (c:=#[U i6 h,U i6 w,U i6 c,U i6 lo,U i6 hi,Sl (some x) on oc,U i6 ot]) (t:=26)).new (c:=#[U i6 0,U i6 0,U i6 0,U i6 0,U i6 0,U i6 0,U i6 0,U i6 0,U i6 0,U i6 0,U i6 0,U i6 0,Sl none 0 0,Sl none 0 0,U i6 0,U i6 0,U i6 0,U i6 0,U i6 0,U i6 0,U i6 0,U i6 0,U i6 0,U i6 0,U i6 0,U i6 0,U i6 0,U i6 0]) (t:=44)
 simp only [World.size_alloc] at s0
 go_enter Tryz.func42,Tryz.ntmps42
 go_wp2_with fail
 refine Calls.mono (hS.out _ (hM2.out.below s0.below)) ?_
 rintro e w1 ⟨v,rfl,hSh,hb⟩
 have s1:=(s0.call hb).new (c:=#[U i6 0,U i6 0,U i6 0]) (t:=79)
 obtain⟨g,cap,cur,rfl,hgb,hgc,hCu,-⟩:=hSh.cu (by omega)
 rw [hRl]
 have hcap:=hCu.2.1
 obtain⟨b1,b2,b3⟩:=hCu.at (show i+1<RL.length by omega)
 obtain⟨a1,a2,a3⟩:=hCu.at (show (O i 1).toNat<RL.length by omega)
 rw [hB] at b1 b2 b3
 rw [hA] at a1 a2 a3
 simp only at a1 a2 a3 b1 b2 b3
 have hgz:=lt_of_heap hgc
 have hgc2:Hid ((w1.alloc (.cells #[U i6 0,U i6 0,U i6 0] 79)).heap[g]? = some (.cells cur 23 (0,0))):=(heap_alloc_old w1 _ hgz).trans hgc
 obtain⟨c1,f1,z1,c2,f2,z2,-⟩:=(s0.call hb).rules
 clear hb hSh hCu hgc hS hM2
 go_upto_region 6 with fail
 obtain⟨w2,hw2⟩:∃ w2,w1.alloc (.cells #[U i6 0,U i6 0,U i6 0] 79)=w2:=⟨_,rfl⟩
 rw [hw2] at s1 hgc2 ⊢
 have hw2z:Hid (w2.heap.size=w1.heap.size+1):=by unfold Hid;rw [← hw2];simp
 have HC1:Hid (∀ q v,[U i6 (O i 0),U i6 (O i 1),U i6 (O i 2),U i6 (O i 3),U i6 (O i 4),U i6 (O i 5),U i6 (O i 6),U i6 (O i 7),U i6 (O i 8),U i6 (O i 9),U i6 (O i 10),U i6 (O i 11),Sl wa lw cw,Sl ba lb cb,U i6 (O i 14),U i6 (O i 15),U i6 (O i 16),U i6 (O i 17),U i6 (O i 18),U i6 (O i 19),U i6 (O i 20),U i6 (O i 21)][q]? = some v→w2.cell? ((x.add (i*22)).add q)=some v):=fun q v hq=>(s1.below.cell (World.block_lt_of_cell? W _ (Hc.out q v hq))).trans (Hc.out q v hq)
 have S2:Hid (St W (w2.alloc (.cells #[U i6 (O i 0),U i6 (O i 1),U i6 (O i 2),U i6 (O i 3),U i6 (O i 4),U i6 (O i 5),U i6 (O i 6),U i6 (O i 7),U i6 (O i 8),U i6 (O i 9),U i6 (O i 10),U i6 (O i 11),Sl wa lw cw,Sl ba lb cb,U i6 (O i 14),U i6 (O i 15),U i6 (O i 16),U i6 (O i 17),U i6 (O i 18),U i6 (O i 19),U i6 (O i 20),U i6 (O i 21)] 42)) _):=s1.new (c:=#[U i6 (O i 0),U i6 (O i 1),U i6 (O i 2),U i6 (O i 3),U i6 (O i 4),U i6 (O i 5),U i6 (O i 6),U i6 (O i 7),U i6 (O i 8),U i6 (O i 9),U i6 (O i 10),U i6 (O i 11),Sl wa lw cw,Sl ba lb cb,U i6 (O i 14),U i6 (O i 15),U i6 (O i 16),U i6 (O i 17),U i6 (O i 18),U i6 (O i 19),U i6 (O i 20),U i6 (O i 21)]) (t:=42)
 have hgc3:Hid ((w2.alloc (.cells #[U i6 (O i 0),U i6 (O i 1),U i6 (O i 2),U i6 (O i 3),U i6 (O i 4),U i6 (O i 5),U i6 (O i 6),U i6 (O i 7),U i6 (O i 8),U i6 (O i 9),U i6 (O i 10),U i6 (O i 11),Sl wa lw cw,Sl ba lb cb,U i6 (O i 14),U i6 (O i 15),U i6 (O i 16),U i6 (O i 17),U i6 (O i 18),U i6 (O i 19),U i6 (O i 20),U i6 (O i 21)] 42)).heap[g]? = some (.cells cur 23 (0,0))):=(heap_alloc_old _ _ (lt_of_heap hgc2.out)).trans hgc2.out
 clear c1 f1 c2 f2 hw2
 obtain⟨-,-,z3,-,-,z4,c1,f1,z5,-⟩:=s1.rules
 clear s1 hgc2
 go_wp2_with (first
  | (refine wpList_load_any rfl 42 (.tmp 39) rfl _ rfl [U i6 (O i 0),U i6 (O i 1),U i6 (O i 2),U i6 (O i 3),U i6 (O i 4),U i6 (O i 5),U i6 (O i 6),U i6 (O i 7),U i6 (O i 8),U i6 (O i 9),U i6 (O i 10),U i6 (O i 11),Sl wa lw cw,Sl ba lb cb,U i6 (O i 14),U i6 (O i 15),U i6 (O i 16),U i6 (O i 17),U i6 (O i 18),U i6 (O i 19),U i6 (O i 20),U i6 (O i 21)] _ HC1.out Tryz.underlying42 rfl (by kernel_rfl) ?_)
  | (refine wpList_st_new rfl 42 (.tmp 11) (.tmp 40) rfl w2 _ #[U i6 (O i 0),U i6 (O i 1),U i6 (O i 2),U i6 (O i 3),U i6 (O i 4),U i6 (O i 5),U i6 (O i 6),U i6 (O i 7),U i6 (O i 8),U i6 (O i 9),U i6 (O i 10),U i6 (O i 11),Sl wa lw cw,Sl ba lb cb,U i6 (O i 14),U i6 (O i 15),U i6 (O i 16),U i6 (O i 17),U i6 (O i 18),U i6 (O i 19),U i6 (O i 20),U i6 (O i 21)] rfl rfl (by kernel_rfl) rfl (by simp [Value.oneCell']) ?_))
 refine (rred_any _ _).mono ?_
 rintro e w' ⟨rfl,hw'⟩
 obtain⟨w3,hw3⟩:∃ w3,w2.alloc (.cells #[U i6 (O i 0),U i6 (O i 1),U i6 (O i 2),U i6 (O i 3),U i6 (O i 4),U i6 (O i 5),U i6 (O i 6),U i6 (O i 7),U i6 (O i 8),U i6 (O i 9),U i6 (O i 10),U i6 (O i 11),Sl wa lw cw,Sl ba lb cb,U i6 (O i 14),U i6 (O i 15),U i6 (O i 16),U i6 (O i 17),U i6 (O i 18),U i6 (O i 19),U i6 (O i 20),U i6 (O i 21)] 42)=w3:=⟨_,rfl⟩
 rw [hw3] at hw' S2 hgc3
 have hw'':=hw'.symm
 subst hw''
 rw [hrb]
 have hz3:Hid (w3.heap.size=w2.heap.size+1):=by unfold Hid;rw [← hw3];simp
 have hzz:w1.heap.size<w2.heap.size:=by have:=hw2z.out;omega
 clear hw' hw3 c1 f1 HC1 Hc
 cases rb with
 | false =>
  go_wp2_with (refine wpList_store_row rfl 44 (.tmp 6) (.tmp 45) rfl (W.heap.size+1) #[U i6 0,U i6 0,U i6 0,U i6 0,U i6 0,U i6 0,U i6 0,U i6 0,U i6 0,U i6 0,U i6 0,U i6 0,Sl none 0 0,Sl none 0 0,U i6 0,U i6 0,U i6 0,U i6 0,U i6 0,U i6 0,U i6 0,U i6 0,U i6 0,U i6 0,U i6 0,U i6 0,U i6 0,U i6 0] rfl rfl 44 #[U i6 0,U i6 0,U i6 0,U i6 0,U i6 0,U i6 0,U i6 0,U i6 0,U i6 0,U i6 0,U i6 0,U i6 0,Sl none 0 0,Sl none 0 0,U i6 0,U i6 0,U i6 0,U i6 0,U i6 0,U i6 0,U i6 0,U i6 0,U i6 0,U i6 0,U i6 0,U i6 0,U i6 0,U i6 0] S2.out.h3 (by kernel_rfl) rfl (by simp [Value.oneCell']) ?_;have hZ':=setRow_heap _ (W.heap.size+1) #[U i6 0,U i6 0,U i6 0,U i6 0,U i6 0,U i6 0,U i6 0,U i6 0,U i6 0,U i6 0,U i6 0,U i6 0,Sl none 0 0,Sl none 0 0,U i6 0,U i6 0,U i6 0,U i6 0,U i6 0,U i6 0,U i6 0,U i6 0,U i6 0,U i6 0,U i6 0,U i6 0,U i6 0,U i6 0] #[U i6 0,U i6 0,U i6 0,U i6 0,U i6 0,U i6 0,U i6 0,U i6 0,U i6 0,U i6 0,U i6 0,U i6 0,Sl none 0 0,Sl none 0 0,U i6 0,U i6 0,U i6 0,U i6 0,U i6 0,U i6 0,U i6 0,U i6 0,U i6 0,U i6 0,U i6 0,U i6 0,U i6 0,U i6 0] 44 (0,0) S2.out.h3;have hB':Hid (Below W.heap.size W (_:World)):=below_setRow S2.out.below (show W.heap.size≤W.heap.size+1 by omega) #[U i6 0,U i6 0,U i6 0,U i6 0,U i6 0,U i6 0,U i6 0,U i6 0,U i6 0,U i6 0,U i6 0,U i6 0,Sl none 0 0,Sl none 0 0,U i6 0,U i6 0,U i6 0,U i6 0,U i6 0,U i6 0,U i6 0,U i6 0,U i6 0,U i6 0,U i6 0,U i6 0,U i6 0,U i6 0];generalize World.setRow _ _ _=w5 at hZ' hB' ⊢)
  exact bodyPost_ret (results_row_tmp Tryz.results42 _ _ (W.heap.size+1) 44 _ _ (U i6 81) rfl hZ' Tryz.underlying44 rfl (by kernel_rfl) rfl) rfl ⟨rfl,hB'.out⟩
 | true =>
  have hG:=S2.out.h1
  go_upto_region 9 with fail
  refine regionC (fun w'=>Below w3.heap.size w3 w') (by kernel_rfl) ?_
  obtain⟨wd,hwd⟩:∃ wd,w3.drew=wd:=⟨_,rfl⟩
  have HD:Hid (Below w3.heap.size w3 wd):=by unfold Hid;rw [← hwd];exact (Below.refl _ _).drew
  have hdz:Hid (wd.heap.size=w3.heap.size):=by unfold Hid;rw [← hwd];rfl
  rw [hwd]
  clear hwd
  refine takeC 0 (v:=.agg #[U i6 (O i 0),U i6 (O i 1),U i6 (O i 2),U i6 (O i 3),U i6 (O i 4),U i6 (O i 5),U i6 (O i 6),U i6 (O i 7),U i6 (O i 8),U i6 (O i 9),U i6 (O i 10),U i6 (O i 11),Sl wa lw cw,Sl ba lb cb,U i6 (O i 14),U i6 (O i 15),U i6 (O i 16),U i6 (O i 17),U i6 (O i 18),U i6 (O i 19),U i6 (O i 20),U i6 (O i 21)]) rfl rfl (by kernel_rfl) (by kernel_rfl) (by kernel_rfl) (fun _ _ _ h=>h) (fun _=>rfl) rfl (fun w' hw'=>run_la 42 (.tmp 11) rfl ⟨w2.heap.size,0,none⟩ (by kernel_rfl) [U i6 (O i 0),U i6 (O i 1),U i6 (O i 2),U i6 (O i 3),U i6 (O i 4),U i6 (O i 5),U i6 (O i 6),U i6 (O i 7),U i6 (O i 8),U i6 (O i 9),U i6 (O i 10),U i6 (O i 11),Sl wa lw cw,Sl ba lb cb,U i6 (O i 14),U i6 (O i 15),U i6 (O i 16),U i6 (O i 17),U i6 (O i 18),U i6 (O i 19),U i6 (O i 20),U i6 (O i 21)] _ (fun q v hq=>by rw [Addr.add_lit,Nat.zero_add,(cells_at ((hw'.block _ (lt_of_heap hG)).trans hG)).1];simpa using hq) Tryz.underlying42 rfl (by kernel_rfl)) ?_
  refine takeC 1 (v:=.slice (some ⟨g,0,none⟩) (on+1) cap) rfl rfl (by kernel_rfl) (by kernel_rfl) (by kernel_rfl) (fun _ _ _ h=>h) (fun _=>rfl) rfl (fun w' hw'=>by go_simp) ?_
  refine takeC 2 (v:=.pointer (some ⟨w2.heap.size,1,none⟩)) rfl rfl (by kernel_rfl) (by kernel_rfl) (by kernel_rfl) (fun _ _ _ h=>h) (fun _=>rfl) rfl (fun w' hw'=>by go_simp) ?_
  refine takeC 3 (v:=U i6 (O i 1)) rfl rfl (by kernel_rfl) (by kernel_rfl) (by kernel_rfl) (fun _ _ _ h=>h) (fun _=>rfl) rfl (fun w' hw'=>by have hc:=(cells_at ((hw'.block _ (lt_of_heap hG)).trans hG)).1 1;go_simp) ?_
  refine takeC 4 (v:=.pointer (some ⟨g,(O i 1).toNat*3,none⟩)) rfl rfl (by kernel_rfl) (by kernel_rfl) (by kernel_rfl) (fun _ _ _ h=>h) (fun _=>rfl) rfl (fun w' hw'=>by go_simp;intro q;omega) ?_
  refine takeC 5 (v:=.agg #[U i6 x0,U i6 y0,U i6 z0]) rfl rfl (by kernel_rfl) (by kernel_rfl) (by kernel_rfl) (fun _ _ _ h=>h) (fun _=>rfl) rfl (fun w' hw'=>run_la 23 (.tmp 50) rfl ⟨g,(O i 1).toNat*3,none⟩ (by kernel_rfl) [U i6 x0,U i6 y0,U i6 z0] _ (three_at ((hw'.block _ (lt_of_heap hgc3.out)).trans hgc3.out) a1 a2 a3) Tryz.underlying23 rfl (by kernel_rfl)) ?_
  refine takeC 6 (v:=.slice (some ⟨g,0,none⟩) (on+1) cap) rfl rfl (by kernel_rfl) (by kernel_rfl) (by kernel_rfl) (fun _ _ _ h=>h) (fun _=>rfl) rfl (fun w' hw'=>by go_simp) ?_
  refine takeC 7 (v:=U i6 ((i:Int)+1)) rfl rfl (by kernel_rfl) (by kernel_rfl) (by kernel_rfl) (fun _ _ _ h=>h) (fun _=>rfl) rfl (fun w' hw'=>by go_simp) ?_
  refine takeC 8 (v:=.pointer (some ⟨g,(i+1)*3,none⟩)) rfl rfl (by kernel_rfl) (by kernel_rfl) (by kernel_rfl) (fun _ _ _ h=>h) (fun _=>rfl) rfl (fun w' hw'=>by go_simp;intro q;omega) ?_
  refine takeC 9 (v:=.agg #[U i6 H,U i6 V,U i6 C]) rfl rfl (by kernel_rfl) (by kernel_rfl) (by kernel_rfl) (fun _ _ _ h=>h) (fun _=>rfl) rfl (fun w' hw'=>run_la 23 (.tmp 54) rfl ⟨g,(i+1)*3,none⟩ (by kernel_rfl) [U i6 H,U i6 V,U i6 C] _ (three_at ((hw'.block _ (lt_of_heap hgc3.out)).trans hgc3.out) b1 b2 b3) Tryz.underlying23 rfl (by kernel_rfl)) ?_
  refine takeC 10 (v:=.agg #[U i6 (O i 0),U i6 (O i 1),U i6 (O i 2),U i6 (O i 3),U i6 (O i 4),U i6 (O i 5),U i6 (O i 6),U i6 (O i 7),U i6 (O i 8),U i6 (O i 9),U i6 (O i 10),U i6 (O i 11),Sl wa lw cw,Sl ba lb cb,U i6 (O i 14),U i6 (O i 15),U i6 (O i 16),U i6 (O i 17),U i6 (O i 18),U i6 (O i 19),U i6 (O i 20),U i6 (O i 21),U i6 x0,U i6 y0,U i6 z0,U i6 H,U i6 V,U i6 C]) rfl rfl (by kernel_rfl) (by kernel_rfl) (by kernel_rfl) (fun _ _ _ h=>h) (fun _=>rfl) rfl (fun w' hw'=>by kernel_rfl) ?_
  refine stepC 11 HD.out (by kernel_rfl) rfl (fun K hK=>step_wp rfl ?_)
  go_simp
  refine hK _ _ ?_
  clear hK K
  have HA:Hid (Below w3.heap.size w3 (wd.alloc (.cells #[U i6 0,U i6 0,U i6 0,U i6 0,U i6 0,U i6 0,U i6 0,U i6 0,U i6 0,U i6 0,U i6 0,U i6 0,Sl none 0 0,Sl none 0 0,U i6 0,U i6 0,U i6 0,U i6 0,U i6 0,U i6 0,U i6 0,U i6 0,U i6 0,U i6 0,U i6 0,U i6 0,U i6 0,U i6 0] 44))):=HD.out.alloc HD.out.size _
  refine stepC 12 HA.out (by kernel_rfl) rfl (fun K hK=>step_wp rfl (wp_store_row 44 (.tmp 12) (.tmp 56) rfl wd.heap.size #[U i6 (O i 0),U i6 (O i 1),U i6 (O i 2),U i6 (O i 3),U i6 (O i 4),U i6 (O i 5),U i6 (O i 6),U i6 (O i 7),U i6 (O i 8),U i6 (O i 9),U i6 (O i 10),U i6 (O i 11),Sl wa lw cw,Sl ba lb cb,U i6 (O i 14),U i6 (O i 15),U i6 (O i 16),U i6 (O i 17),U i6 (O i 18),U i6 (O i 19),U i6 (O i 20),U i6 (O i 21),U i6 x0,U i6 y0,U i6 z0,U i6 H,U i6 V,U i6 C] (by kernel_rfl) (by kernel_rfl) 44 #[U i6 0,U i6 0,U i6 0,U i6 0,U i6 0,U i6 0,U i6 0,U i6 0,U i6 0,U i6 0,U i6 0,U i6 0,Sl none 0 0,Sl none 0 0,U i6 0,U i6 0,U i6 0,U i6 0,U i6 0,U i6 0,U i6 0,U i6 0,U i6 0,U i6 0,U i6 0,U i6 0,U i6 0,U i6 0] (heap_alloc_new wd _) (by kernel_rfl) rfl (by simp [Value.oneCell']) (hK _ _ ?_)))
  rw [World.setRow_alloc_new]
  refine doneC (HD.out.alloc HD.out.size _) (by kernel_rfl) ?_ _
  have S4:Hid (St W (wd.alloc (.cells #[U i6 (O i 0),U i6 (O i 1),U i6 (O i 2),U i6 (O i 3),U i6 (O i 4),U i6 (O i 5),U i6 (O i 6),U i6 (O i 7),U i6 (O i 8),U i6 (O i 9),U i6 (O i 10),U i6 (O i 11),Sl wa lw cw,Sl ba lb cb,U i6 (O i 14),U i6 (O i 15),U i6 (O i 16),U i6 (O i 17),U i6 (O i 18),U i6 (O i 19),U i6 (O i 20),U i6 (O i 21),U i6 x0,U i6 y0,U i6 z0,U i6 H,U i6 V,U i6 C] 44)) _):=(S2.out.call HD.out).new (c:=#[U i6 (O i 0),U i6 (O i 1),U i6 (O i 2),U i6 (O i 3),U i6 (O i 4),U i6 (O i 5),U i6 (O i 6),U i6 (O i 7),U i6 (O i 8),U i6 (O i 9),U i6 (O i 10),U i6 (O i 11),Sl wa lw cw,Sl ba lb cb,U i6 (O i 14),U i6 (O i 15),U i6 (O i 16),U i6 (O i 17),U i6 (O i 18),U i6 (O i 19),U i6 (O i 20),U i6 (O i 21),U i6 x0,U i6 y0,U i6 z0,U i6 H,U i6 V,U i6 C]) (t:=44)
  obtain⟨w4,hw4⟩:∃ w4,wd.alloc (.cells #[U i6 (O i 0),U i6 (O i 1),U i6 (O i 2),U i6 (O i 3),U i6 (O i 4),U i6 (O i 5),U i6 (O i 6),U i6 (O i 7),U i6 (O i 8),U i6 (O i 9),U i6 (O i 10),U i6 (O i 11),Sl wa lw cw,Sl ba lb cb,U i6 (O i 14),U i6 (O i 15),U i6 (O i 16),U i6 (O i 17),U i6 (O i 18),U i6 (O i 19),U i6 (O i 20),U i6 (O i 21),U i6 x0,U i6 y0,U i6 z0,U i6 H,U i6 V,U i6 C] 44)=w4:=⟨_,rfl⟩
  rw [hw4] at S4 ⊢
  have hR1:=S4.out.h1
  have HZ1:Hid (w4.heap[W.heap.size+1]? = some (.cells #[U i6 0,U i6 0,U i6 0,U i6 0,U i6 0,U i6 0,U i6 0,U i6 0,U i6 0,U i6 0,U i6 0,U i6 0,Sl none 0 0,Sl none 0 0,U i6 0,U i6 0,U i6 0,U i6 0,U i6 0,U i6 0,U i6 0,U i6 0,U i6 0,U i6 0,U i6 0,U i6 0,U i6 0,U i6 0] 44 (0,0))):=S4.out.h4
  have hB1:Hid (Below W.heap.size W w4):=S4.out.below
  obtain⟨c1,f1,zz1,-⟩:=S4.out.rules
  clear hw4 HD HA hgc3 hG S2 S4 a1 a2 a3 b1 b2 b3
  by_cases q1:ch<0
  ·go_wp2_with (refine wpList_store_row rfl 44 (.tmp 6) (.tmp 66) rfl (W.heap.size+1) #[U i6 0,U i6 0,U i6 0,U i6 0,U i6 0,U i6 0,U i6 0,U i6 0,U i6 0,U i6 0,U i6 0,U i6 0,Sl none 0 0,Sl none 0 0,U i6 0,U i6 0,U i6 0,U i6 0,U i6 0,U i6 0,U i6 0,U i6 0,U i6 0,U i6 0,U i6 0,U i6 0,U i6 0,U i6 0] rfl rfl 44 #[U i6 0,U i6 0,U i6 0,U i6 0,U i6 0,U i6 0,U i6 0,U i6 0,U i6 0,U i6 0,U i6 0,U i6 0,Sl none 0 0,Sl none 0 0,U i6 0,U i6 0,U i6 0,U i6 0,U i6 0,U i6 0,U i6 0,U i6 0,U i6 0,U i6 0,U i6 0,U i6 0,U i6 0,U i6 0] HZ1.out (by kernel_rfl) rfl (by simp [Value.oneCell']) ?_;have hZ':=setRow_heap _ (W.heap.size+1) #[U i6 0,U i6 0,U i6 0,U i6 0,U i6 0,U i6 0,U i6 0,U i6 0,U i6 0,U i6 0,U i6 0,U i6 0,Sl none 0 0,Sl none 0 0,U i6 0,U i6 0,U i6 0,U i6 0,U i6 0,U i6 0,U i6 0,U i6 0,U i6 0,U i6 0,U i6 0,U i6 0,U i6 0,U i6 0] #[U i6 0,U i6 0,U i6 0,U i6 0,U i6 0,U i6 0,U i6 0,U i6 0,U i6 0,U i6 0,U i6 0,U i6 0,Sl none 0 0,Sl none 0 0,U i6 0,U i6 0,U i6 0,U i6 0,U i6 0,U i6 0,U i6 0,U i6 0,U i6 0,U i6 0,U i6 0,U i6 0,U i6 0,U i6 0] 44 (0,0) HZ1.out;have hB':Hid (Below W.heap.size W (_:World)):=below_setRow hB1.out (show W.heap.size≤W.heap.size+1 by omega) #[U i6 0,U i6 0,U i6 0,U i6 0,U i6 0,U i6 0,U i6 0,U i6 0,U i6 0,U i6 0,U i6 0,U i6 0,Sl none 0 0,Sl none 0 0,U i6 0,U i6 0,U i6 0,U i6 0,U i6 0,U i6 0,U i6 0,U i6 0,U i6 0,U i6 0,U i6 0,U i6 0,U i6 0,U i6 0];clear c1 f1 hR1;generalize World.setRow _ _ _=w5 at hZ' hB' ⊢)
   exact bodyPost_ret (results_row_tmp Tryz.results42 _ _ (W.heap.size+1) 44 _ _ (U i6 3) rfl hZ' Tryz.underlying44 rfl (by kernel_rfl) rfl) rfl ⟨by first | rfl | rw [if_pos rfl,if_neg (by omega)],hB'.out⟩
  ·by_cases q2:C<ch
   ·go_wp2_with (refine wpList_store_row rfl 44 (.tmp 6) (.tmp 66) rfl (W.heap.size+1) #[U i6 0,U i6 0,U i6 0,U i6 0,U i6 0,U i6 0,U i6 0,U i6 0,U i6 0,U i6 0,U i6 0,U i6 0,Sl none 0 0,Sl none 0 0,U i6 0,U i6 0,U i6 0,U i6 0,U i6 0,U i6 0,U i6 0,U i6 0,U i6 0,U i6 0,U i6 0,U i6 0,U i6 0,U i6 0] rfl rfl 44 #[U i6 0,U i6 0,U i6 0,U i6 0,U i6 0,U i6 0,U i6 0,U i6 0,U i6 0,U i6 0,U i6 0,U i6 0,Sl none 0 0,Sl none 0 0,U i6 0,U i6 0,U i6 0,U i6 0,U i6 0,U i6 0,U i6 0,U i6 0,U i6 0,U i6 0,U i6 0,U i6 0,U i6 0,U i6 0] HZ1.out (by kernel_rfl) rfl (by simp [Value.oneCell']) ?_;have hZ':=setRow_heap _ (W.heap.size+1) #[U i6 0,U i6 0,U i6 0,U i6 0,U i6 0,U i6 0,U i6 0,U i6 0,U i6 0,U i6 0,U i6 0,U i6 0,Sl none 0 0,Sl none 0 0,U i6 0,U i6 0,U i6 0,U i6 0,U i6 0,U i6 0,U i6 0,U i6 0,U i6 0,U i6 0,U i6 0,U i6 0,U i6 0,U i6 0] #[U i6 0,U i6 0,U i6 0,U i6 0,U i6 0,U i6 0,U i6 0,U i6 0,U i6 0,U i6 0,U i6 0,U i6 0,Sl none 0 0,Sl none 0 0,U i6 0,U i6 0,U i6 0,U i6 0,U i6 0,U i6 0,U i6 0,U i6 0,U i6 0,U i6 0,U i6 0,U i6 0,U i6 0,U i6 0] 44 (0,0) HZ1.out;have hB':Hid (Below W.heap.size W (_:World)):=below_setRow hB1.out (show W.heap.size≤W.heap.size+1 by omega) #[U i6 0,U i6 0,U i6 0,U i6 0,U i6 0,U i6 0,U i6 0,U i6 0,U i6 0,U i6 0,U i6 0,U i6 0,Sl none 0 0,Sl none 0 0,U i6 0,U i6 0,U i6 0,U i6 0,U i6 0,U i6 0,U i6 0,U i6 0,U i6 0,U i6 0,U i6 0,U i6 0,U i6 0,U i6 0];clear c1 f1 hR1;generalize World.setRow _ _ _=w5 at hZ' hB' ⊢)
    exact bodyPost_ret (results_row_tmp Tryz.results42 _ _ (W.heap.size+1) 44 _ _ (U i6 3) rfl hZ' Tryz.underlying44 rfl (by kernel_rfl) rfl) rfl ⟨by first | rfl | rw [if_pos rfl,if_neg (by omega)],hB'.out⟩
   ·go_wp2_with (first
     | (refine wpList_load_row rfl 44 (.tmp 12) rfl wd.heap.size rfl 44 _ (0,0) _ hR1 Tryz.underlying44 rfl (by kernel_rfl) ?_)
     | (refine wpList_store_row rfl 44 (.tmp 6) (.tmp 67) rfl (W.heap.size+1) #[U i6 (O i 0),U i6 (O i 1),U i6 (O i 2),U i6 (O i 3),U i6 (O i 4),U i6 (O i 5),U i6 (O i 6),U i6 (O i 7),U i6 (O i 8),U i6 (O i 9),U i6 (O i 10),U i6 (O i 11),Sl wa lw cw,Sl ba lb cb,U i6 (O i 14),U i6 (O i 15),U i6 (O i 16),U i6 (O i 17),U i6 (O i 18),U i6 (O i 19),U i6 (O i 20),U i6 (O i 21),U i6 x0,U i6 y0,U i6 z0,U i6 H,U i6 V,U i6 C] rfl rfl 44 #[U i6 0,U i6 0,U i6 0,U i6 0,U i6 0,U i6 0,U i6 0,U i6 0,U i6 0,U i6 0,U i6 0,U i6 0,Sl none 0 0,Sl none 0 0,U i6 0,U i6 0,U i6 0,U i6 0,U i6 0,U i6 0,U i6 0,U i6 0,U i6 0,U i6 0,U i6 0,U i6 0,U i6 0,U i6 0] HZ1.out (by kernel_rfl) rfl (by simp [Value.oneCell']) ?_;have hZ':=setRow_heap _ (W.heap.size+1) #[U i6 0,U i6 0,U i6 0,U i6 0,U i6 0,U i6 0,U i6 0,U i6 0,U i6 0,U i6 0,U i6 0,U i6 0,Sl none 0 0,Sl none 0 0,U i6 0,U i6 0,U i6 0,U i6 0,U i6 0,U i6 0,U i6 0,U i6 0,U i6 0,U i6 0,U i6 0,U i6 0,U i6 0,U i6 0] #[U i6 (O i 0),U i6 (O i 1),U i6 (O i 2),U i6 (O i 3),U i6 (O i 4),U i6 (O i 5),U i6 (O i 6),U i6 (O i 7),U i6 (O i 8),U i6 (O i 9),U i6 (O i 10),U i6 (O i 11),Sl wa lw cw,Sl ba lb cb,U i6 (O i 14),U i6 (O i 15),U i6 (O i 16),U i6 (O i 17),U i6 (O i 18),U i6 (O i 19),U i6 (O i 20),U i6 (O i 21),U i6 x0,U i6 y0,U i6 z0,U i6 H,U i6 V,U i6 C] 44 (0,0) HZ1.out;have hB':Hid (Below W.heap.size W (_:World)):=below_setRow hB1.out (show W.heap.size≤W.heap.size+1 by omega) #[U i6 (O i 0),U i6 (O i 1),U i6 (O i 2),U i6 (O i 3),U i6 (O i 4),U i6 (O i 5),U i6 (O i 6),U i6 (O i 7),U i6 (O i 8),U i6 (O i 9),U i6 (O i 10),U i6 (O i 11),Sl wa lw cw,Sl ba lb cb,U i6 (O i 14),U i6 (O i 15),U i6 (O i 16),U i6 (O i 17),U i6 (O i 18),U i6 (O i 19),U i6 (O i 20),U i6 (O i 21),U i6 x0,U i6 y0,U i6 z0,U i6 H,U i6 V,U i6 C];clear c1 f1 hR1;generalize World.setRow _ _ _=w6 at hZ' hB' ⊢))
    exact bodyPost_ret (results_row_tmp Tryz.results42 _ _ (W.heap.size+1) 44 _ _ (U i6 0) rfl hZ' Tryz.underlying44 rfl (by kernel_rfl) rfl) rfl ⟨by first | rfl | rw [if_pos rfl,if_pos (by omega)],hB'.out⟩
end Go.Proofs.YtccoanknofhmaaaGreat
