/- What find of package terms returns: the op that is asked, with the shapes that it reads and makes; the error. What find of package terms returns of an op that is there. The op that is asked, with all that is known of it; what Length, Channels and Positions of package terms return. What terms of package terms returns: the terms of a channel's sum at a position. -/
import Derived.Test.YtccoanknofhmaaaGreatGq09
import Derived.Test.YtccoanknofhmaaaGreatGq13
import Derived.Test.YtccoanknofhmaaaGreatGq15
import Derived.Test.YtccoanknofhmaaaGreatGq20
import Derived.Laws.ResultCell
namespace Go.Proofs.YtccoanknofhmaaaGreat
open Go.Value renaming int → U, slice → Sl
open Go.IntKind renaming i64 → i6
set_option maxRecDepth 100000
set_option maxHeartbeats 16000000
open Go.ChangeShapes Go.WideShapes Go.ChangeAt Go.RowKit
set_option linter.unusedVariables false
theorem results_row_tmp {P:Program} {fn:Func} {p u:Tmp} {ty:TypeId} (h:fn.results=#[.cell p ty,.tmp u]) (tmps:Array Value) (w:World) (g:Nat) (t:TypeId) (cs:Array Value) (d:TypeDesc) (v:Value)
  (hp:tmps.getD p undef=.pointer (some ⟨g,0,none⟩)) (hg:w.heap[g]? = some (.cells cs t (0,0)))
  (hu:P.underlying ty=some d) (hd:(match d with | .struct _ | .array _ _=>true | _=>false)=true) (hi:(P.info? ty).map (·.size)=some cs.size) (hv:tmps.getD u undef=v) :
  (results fn tmps).run P w=.ok (.tuple #[.agg cs,v]) w:=by
 rw [Go.results_cell_tmp h,hp,hv]
 simp [asAddr,run_loadVar_row w g t ty cs (0,0) d hg hu hd hi,Result.andThen]
theorem find_e (h w c lo hi ot op:Int) (oa:Option Addr) (on oc:Nat) (O:Nat→Nat→Int) (W:World) (hM:MRow W oa on oc O) (Re Ra Rw:Int) (RL:List (Int×Int×Int)) (hR:gtR O h w c lo hi ot on=(Re,Ra,RL,Rw)) (he:Re≠0) :
  Calls Tryz.prog 49 #[.agg #[U i6 h,U i6 w,U i6 c,U i6 lo,U i6 hi,Sl oa on oc,U i6 ot],U i6 op] W fun e w'=>e=.returned (.tuple #[.agg #[U i6 0,U i6 0,U i6 0,U i6 0,U i6 0,U i6 0,U i6 0,U i6 0,U i6 0,U i6 0,U i6 0,U i6 0,Sl none 0 0,Sl none 0 0,U i6 0,U i6 0,U i6 0,U i6 0,U i6 0,U i6 0,U i6 0,U i6 0,U i6 0,U i6 0,U i6 0,U i6 0,U i6 0,U i6 0],U i6 Re])∧Below W.heap.size W w':=by
 have hS:Hid (∀ W,MRow W oa on oc O→_):=fun W hW=>shapes_any h w c lo hi ot oa on oc O W hW
 rw [hR] at hS
 simp only at hS
 have he':(Re == 0)=false:=by simp [he]
 have hM2:Hid (MRow W oa on oc O):=hM
 clear hR hM
 have s0:=((St.start W).new (c:=#[U i6 h,U i6 w,U i6 c,U i6 lo,U i6 hi,Sl oa on oc,U i6 ot]) (t:=26)).new (c:=#[U i6 0,U i6 0,U i6 0,U i6 0,U i6 0,U i6 0,U i6 0,U i6 0,U i6 0,U i6 0,U i6 0,U i6 0,Sl none 0 0,Sl none 0 0,U i6 0,U i6 0,U i6 0,U i6 0,U i6 0,U i6 0,U i6 0,U i6 0,U i6 0,U i6 0,U i6 0,U i6 0,U i6 0,U i6 0]) (t:=102)
 simp only [World.size_alloc] at s0
 go_enter Tryz.func49,Tryz.ntmps49
 go_wp2_with fail
 refine Calls.mono (hS.out _ (hM2.out.below s0.below)) ?_
 rintro e w1 ⟨v,rfl,hSh,hb⟩
 have s1:=(s0.call hb).new (c:=#[U i6 Re,U i6 Ra,U i6 0]) (t:=79)
 obtain⟨va,vc,rfl⟩:=hSh.slice
 obtain⟨c1,f1,z1,c2,f2,z2,-⟩:=(s0.call hb).rules
 clear hb hSh
 go_wp2
 obtain⟨w2,hw2⟩:∃ w2,w1.alloc (.cells #[U i6 Re,U i6 Ra,U i6 0] 79)=w2:=⟨_,rfl⟩
 rw [hw2] at s1 ⊢
 have hF:=s1.h1
 have hZ:=s1.h2
 have S1:Hid (St W w2 _):=s1
 clear hw2 s0 s1 c1 f1 c2 f2
 refine regionC (fun w'=>w'.heap[w1.heap.size]? = some (.cells #[U i6 Re,U i6 Ra,U i6 0] 79 (0,0))) (by kernel_rfl) ?_
 refine takeC 0 (v:=.agg #[U i6 0,U i6 0,U i6 0,U i6 0,U i6 0,U i6 0,U i6 0,U i6 0,U i6 0,U i6 0,U i6 0,U i6 0,Sl none 0 0,Sl none 0 0,U i6 0,U i6 0,U i6 0,U i6 0,U i6 0,U i6 0,U i6 0,U i6 0,U i6 0,U i6 0,U i6 0,U i6 0,U i6 0,U i6 0]) rfl rfl (by kernel_rfl) (by kernel_rfl) (by kernel_rfl) (fun _ _ _ h=>h) (fun _=>rfl) rfl (fun w' hw'=>by kernel_rfl) ?_
 refine takeC 1 (v:=.pointer (some ⟨w1.heap.size,0,none⟩)) rfl rfl (by kernel_rfl) (by kernel_rfl) (by kernel_rfl) (fun _ _ _ h=>h) (fun _=>rfl) rfl (fun w' hw'=>by go_simp) ?_
 refine takeC 2 (v:=U i6 Re) rfl rfl (by kernel_rfl) (by kernel_rfl) (by kernel_rfl) (fun _ _ _ h=>h) (fun _=>rfl) rfl (fun w' hw'=>by have hc:=(cells_at hw').1 0;go_simp) ?_
 have hne:w1.heap.size≠W.heap.size+1:=by omega
 refine stepC 3 hF (by kernel_rfl) rfl (fun K hK=>step_wp rfl (wp_store_row 102 (.tmp 4) (.tmp 17) rfl (W.heap.size+1) #[U i6 0,U i6 0,U i6 0,U i6 0,U i6 0,U i6 0,U i6 0,U i6 0,U i6 0,U i6 0,U i6 0,U i6 0,Sl none 0 0,Sl none 0 0,U i6 0,U i6 0,U i6 0,U i6 0,U i6 0,U i6 0,U i6 0,U i6 0,U i6 0,U i6 0,U i6 0,U i6 0,U i6 0,U i6 0] rfl rfl 102 #[U i6 0,U i6 0,U i6 0,U i6 0,U i6 0,U i6 0,U i6 0,U i6 0,U i6 0,U i6 0,U i6 0,U i6 0,Sl none 0 0,Sl none 0 0,U i6 0,U i6 0,U i6 0,U i6 0,U i6 0,U i6 0,U i6 0,U i6 0,U i6 0,U i6 0,U i6 0,U i6 0,U i6 0,U i6 0] hZ (by kernel_rfl) rfl (by simp [Value.oneCell']) (hK _ _ ?_)))
 refine takeC 4 (v:=U i6 Re) rfl rfl (by kernel_rfl) (by kernel_rfl) (by kernel_rfl) (fun _ _ _ h=>h) (fun _=>rfl) rfl (fun w' hw'=>by go_simp) ?_
 refine doneC ((setRow_other _ _ _ _ hne).trans hF) (by kernel_rfl) ?_ _
 have hZ':=setRow_heap w2.drew (W.heap.size+1) #[U i6 0,U i6 0,U i6 0,U i6 0,U i6 0,U i6 0,U i6 0,U i6 0,U i6 0,U i6 0,U i6 0,U i6 0,Sl none 0 0,Sl none 0 0,U i6 0,U i6 0,U i6 0,U i6 0,U i6 0,U i6 0,U i6 0,U i6 0,U i6 0,U i6 0,U i6 0,U i6 0,U i6 0,U i6 0] #[U i6 0,U i6 0,U i6 0,U i6 0,U i6 0,U i6 0,U i6 0,U i6 0,U i6 0,U i6 0,U i6 0,U i6 0,Sl none 0 0,Sl none 0 0,U i6 0,U i6 0,U i6 0,U i6 0,U i6 0,U i6 0,U i6 0,U i6 0,U i6 0,U i6 0,U i6 0,U i6 0,U i6 0,U i6 0] 102 (0,0) hZ
 have hB':Hid (Below W.heap.size W (w2.drew.setRow (W.heap.size+1) #[U i6 0,U i6 0,U i6 0,U i6 0,U i6 0,U i6 0,U i6 0,U i6 0,U i6 0,U i6 0,U i6 0,U i6 0,Sl none 0 0,Sl none 0 0,U i6 0,U i6 0,U i6 0,U i6 0,U i6 0,U i6 0,U i6 0,U i6 0,U i6 0,U i6 0,U i6 0,U i6 0,U i6 0,U i6 0])):=below_setRow S1.out.drew.below (by omega) _
 obtain⟨w3,hw3⟩:∃ w3,w2.drew.setRow (W.heap.size+1) #[U i6 0,U i6 0,U i6 0,U i6 0,U i6 0,U i6 0,U i6 0,U i6 0,U i6 0,U i6 0,U i6 0,U i6 0,Sl none 0 0,Sl none 0 0,U i6 0,U i6 0,U i6 0,U i6 0,U i6 0,U i6 0,U i6 0,U i6 0,U i6 0,U i6 0,U i6 0,U i6 0,U i6 0,U i6 0]=w3:=⟨_,rfl⟩
 rw [hw3] at hZ' hB' ⊢
 clear hw3
 go_wp2
 exact bodyPost_ret (results_row_tmp Tryz.results49 _ _ (W.heap.size+1) 102 _ _ (U i6 Re) rfl hZ' Tryz.underlying102 rfl (by kernel_rfl) rfl) rfl ⟨rfl,hB'.out⟩
theorem find_3 (h w c lo hi ot op:Int) (oa:Option Addr) (on oc:Nat) (O:Nat→Nat→Int) (W:World) (hM:MRow W oa on oc O) (Ra Rw:Int) (RL:List (Int×Int×Int)) (hR:gtR O h w c lo hi ot on=(0,Ra,RL,Rw)) (ho:¬ (1≤op∧op≤(on:Int))) :
  Calls Tryz.prog 49 #[.agg #[U i6 h,U i6 w,U i6 c,U i6 lo,U i6 hi,Sl oa on oc,U i6 ot],U i6 op] W fun e w'=>e=.returned (.tuple #[.agg #[U i6 0,U i6 0,U i6 0,U i6 0,U i6 0,U i6 0,U i6 0,U i6 0,U i6 0,U i6 0,U i6 0,U i6 0,Sl none 0 0,Sl none 0 0,U i6 0,U i6 0,U i6 0,U i6 0,U i6 0,U i6 0,U i6 0,U i6 0,U i6 0,U i6 0,U i6 0,U i6 0,U i6 0,U i6 0],U i6 3])∧Below W.heap.size W w':=by
 have hS:Hid (∀ W,MRow W oa on oc O→_):=fun W hW=>shapes_any h w c lo hi ot oa on oc O W hW
 rw [hR] at hS
 simp only at hS
 have hM2:Hid (MRow W oa on oc O):=hM
 have hocm:=hM.1
 have hocx:=hM.2.1
 unfold maxLen at hocx
 clear hR hM
 have s0:=((St.start W).new (c:=#[U i6 h,U i6 w,U i6 c,U i6 lo,U i6 hi,Sl oa on oc,U i6 ot]) (t:=26)).new (c:=#[U i6 0,U i6 0,U i6 0,U i6 0,U i6 0,U i6 0,U i6 0,U i6 0,U i6 0,U i6 0,U i6 0,U i6 0,Sl none 0 0,Sl none 0 0,U i6 0,U i6 0,U i6 0,U i6 0,U i6 0,U i6 0,U i6 0,U i6 0,U i6 0,U i6 0,U i6 0,U i6 0,U i6 0,U i6 0]) (t:=102)
 simp only [World.size_alloc] at s0
 by_cases ho1:op<1
 ·go_enter Tryz.func49,Tryz.ntmps49
  go_wp2_with fail
  refine Calls.mono (hS.out _ (hM2.out.below s0.below)) ?_
  rintro e w1 ⟨v,rfl,hSh,hb⟩
  have s1:=(s0.call hb).new (c:=#[U i6 0,U i6 Ra,U i6 0]) (t:=79)
  obtain⟨va,vc,rfl⟩:=hSh.slice
  obtain⟨c1,f1,z1,c2,f2,z2,-⟩:=(s0.call hb).rules
  have ho2:op<1∨(on:Int)<op:=by omega
  clear hb hSh ho
  go_wp2_with (refine wpList_store_row rfl 102 (.tmp 4) (.tmp 29) rfl (W.heap.size+1) #[U i6 0,U i6 0,U i6 0,U i6 0,U i6 0,U i6 0,U i6 0,U i6 0,U i6 0,U i6 0,U i6 0,U i6 0,Sl none 0 0,Sl none 0 0,U i6 0,U i6 0,U i6 0,U i6 0,U i6 0,U i6 0,U i6 0,U i6 0,U i6 0,U i6 0,U i6 0,U i6 0,U i6 0,U i6 0] rfl rfl 102 #[U i6 0,U i6 0,U i6 0,U i6 0,U i6 0,U i6 0,U i6 0,U i6 0,U i6 0,U i6 0,U i6 0,U i6 0,Sl none 0 0,Sl none 0 0,U i6 0,U i6 0,U i6 0,U i6 0,U i6 0,U i6 0,U i6 0,U i6 0,U i6 0,U i6 0,U i6 0,U i6 0,U i6 0,U i6 0] s1.h2 (by kernel_rfl) rfl (by simp [Value.oneCell']) ?_;have hZ':=setRow_heap _ (W.heap.size+1) #[U i6 0,U i6 0,U i6 0,U i6 0,U i6 0,U i6 0,U i6 0,U i6 0,U i6 0,U i6 0,U i6 0,U i6 0,Sl none 0 0,Sl none 0 0,U i6 0,U i6 0,U i6 0,U i6 0,U i6 0,U i6 0,U i6 0,U i6 0,U i6 0,U i6 0,U i6 0,U i6 0,U i6 0,U i6 0] #[U i6 0,U i6 0,U i6 0,U i6 0,U i6 0,U i6 0,U i6 0,U i6 0,U i6 0,U i6 0,U i6 0,U i6 0,Sl none 0 0,Sl none 0 0,U i6 0,U i6 0,U i6 0,U i6 0,U i6 0,U i6 0,U i6 0,U i6 0,U i6 0,U i6 0,U i6 0,U i6 0,U i6 0,U i6 0] 102 (0,0) s1.h2;have hB':Hid (Below W.heap.size W (_:World)):=below_setRow s1.below (show W.heap.size≤W.heap.size+1 by omega) #[U i6 0,U i6 0,U i6 0,U i6 0,U i6 0,U i6 0,U i6 0,U i6 0,U i6 0,U i6 0,U i6 0,U i6 0,Sl none 0 0,Sl none 0 0,U i6 0,U i6 0,U i6 0,U i6 0,U i6 0,U i6 0,U i6 0,U i6 0,U i6 0,U i6 0,U i6 0,U i6 0,U i6 0,U i6 0];clear c1 f1 c2 f2;generalize World.setRow _ _ _=w3 at hZ' hB' ⊢)
  exact bodyPost_ret (results_row_tmp Tryz.results49 _ _ (W.heap.size+1) 102 _ _ (U i6 3) rfl hZ' Tryz.underlying102 rfl (by kernel_rfl) rfl) rfl ⟨rfl,hB'.out⟩
 ·go_enter Tryz.func49,Tryz.ntmps49
  go_wp2_with fail
  refine Calls.mono (hS.out _ (hM2.out.below s0.below)) ?_
  rintro e w1 ⟨v,rfl,hSh,hb⟩
  have s1:=(s0.call hb).new (c:=#[U i6 0,U i6 Ra,U i6 0]) (t:=79)
  obtain⟨va,vc,rfl⟩:=hSh.slice
  obtain⟨c1,f1,z1,c2,f2,z2,-⟩:=(s0.call hb).rules
  have ho2:op<1∨(on:Int)<op:=by omega
  clear hb hSh ho
  go_wp2_with (refine wpList_store_row rfl 102 (.tmp 4) (.tmp 29) rfl (W.heap.size+1) #[U i6 0,U i6 0,U i6 0,U i6 0,U i6 0,U i6 0,U i6 0,U i6 0,U i6 0,U i6 0,U i6 0,U i6 0,Sl none 0 0,Sl none 0 0,U i6 0,U i6 0,U i6 0,U i6 0,U i6 0,U i6 0,U i6 0,U i6 0,U i6 0,U i6 0,U i6 0,U i6 0,U i6 0,U i6 0] rfl rfl 102 #[U i6 0,U i6 0,U i6 0,U i6 0,U i6 0,U i6 0,U i6 0,U i6 0,U i6 0,U i6 0,U i6 0,U i6 0,Sl none 0 0,Sl none 0 0,U i6 0,U i6 0,U i6 0,U i6 0,U i6 0,U i6 0,U i6 0,U i6 0,U i6 0,U i6 0,U i6 0,U i6 0,U i6 0,U i6 0] s1.h2 (by kernel_rfl) rfl (by simp [Value.oneCell']) ?_;have hZ':=setRow_heap _ (W.heap.size+1) #[U i6 0,U i6 0,U i6 0,U i6 0,U i6 0,U i6 0,U i6 0,U i6 0,U i6 0,U i6 0,U i6 0,U i6 0,Sl none 0 0,Sl none 0 0,U i6 0,U i6 0,U i6 0,U i6 0,U i6 0,U i6 0,U i6 0,U i6 0,U i6 0,U i6 0,U i6 0,U i6 0,U i6 0,U i6 0] #[U i6 0,U i6 0,U i6 0,U i6 0,U i6 0,U i6 0,U i6 0,U i6 0,U i6 0,U i6 0,U i6 0,U i6 0,Sl none 0 0,Sl none 0 0,U i6 0,U i6 0,U i6 0,U i6 0,U i6 0,U i6 0,U i6 0,U i6 0,U i6 0,U i6 0,U i6 0,U i6 0,U i6 0,U i6 0] 102 (0,0) s1.h2;have hB':Hid (Below W.heap.size W (_:World)):=below_setRow s1.below (show W.heap.size≤W.heap.size+1 by omega) #[U i6 0,U i6 0,U i6 0,U i6 0,U i6 0,U i6 0,U i6 0,U i6 0,U i6 0,U i6 0,U i6 0,U i6 0,Sl none 0 0,Sl none 0 0,U i6 0,U i6 0,U i6 0,U i6 0,U i6 0,U i6 0,U i6 0,U i6 0,U i6 0,U i6 0,U i6 0,U i6 0,U i6 0,U i6 0];clear c1 f1 c2 f2;generalize World.setRow _ _ _=w3 at hZ' hB' ⊢)
  exact bodyPost_ret (results_row_tmp Tryz.results49 _ _ (W.heap.size+1) 102 _ _ (U i6 3) rfl hZ' Tryz.underlying102 rfl (by kernel_rfl) rfl) rfl ⟨rfl,hB'.out⟩
theorem three_at {w:World} {g n:Nat} {cur:Array Value} {T:TypeId} {x y z:Value} (h:w.heap[g]? = some (.cells cur T (0,0))) (h0:cur[n]? = some x) (h1:cur[n+1]? = some y) (h2:cur[n+2]? = some z):∀ q v,[x,y,z][q]? = some v→w.cell? ((⟨g,n,none⟩:Addr).add q)=some v:=by
 intro q v hq
 rw [Addr.add_lit,(cells_at h).1]
 match q,hq with
 | 0,hq=>rw [Nat.add_zero,h0];exact hq
 | 1,hq=>rw [h1];exact hq
 | 2,hq=>rw [h2];exact hq
 | q+3,hq=>simp at hq
theorem find_r (h w c lo hi ot:Int) (x:Addr) (on oc i:Nat) (O:Nat→Nat→Int) (W:World) (hM:MRow W (some x) on oc O) (hi0:i<on) (wa:Option Addr) (lw cw:Nat) (ba:Option Addr) (lb cb:Nat)
  (hcell:∀ q v,[U i6 (O i 0),U i6 (O i 1),U i6 (O i 2),U i6 (O i 3),U i6 (O i 4),U i6 (O i 5),U i6 (O i 6),U i6 (O i 7),U i6 (O i 8),U i6 (O i 9),U i6 (O i 10),U i6 (O i 11),Sl wa lw cw,Sl ba lb cb,U i6 (O i 14),U i6 (O i 15),U i6 (O i 16),U i6 (O i 17),U i6 (O i 18),U i6 (O i 19),U i6 (O i 20),U i6 (O i 21)][q]? = some v→W.cell? ((x.add (i*22)).add q)=some v) (Rw:Int) (RL:List (Int×Int×Int)) (hR:gtR O h w c lo hi ot on=(0,0,RL,Rw)) (hj0:0≤O i 1) (hj1:O i 1≤(i:Int))
  (x0 y0 z0 H V C:Int) (hA:RL.getD (O i 1).toNat (0,0,0)=(x0,y0,z0)) (hB:RL.getD (i+1) (0,0,0)=(H,V,C)) (rb:Bool) (hrb:rdB (O i 0)=rb) :
  Calls Tryz.prog 49 #[.agg #[U i6 h,U i6 w,U i6 c,U i6 lo,U i6 hi,Sl (some x) on oc,U i6 ot],U i6 ((i:Int)+1)] W fun e w'=>e=.returned (if rb=true then .tuple #[.agg #[U i6 (O i 0),U i6 (O i 1),U i6 (O i 2),U i6 (O i 3),U i6 (O i 4),U i6 (O i 5),U i6 (O i 6),U i6 (O i 7),U i6 (O i 8),U i6 (O i 9),U i6 (O i 10),U i6 (O i 11),Sl wa lw cw,Sl ba lb cb,U i6 (O i 14),U i6 (O i 15),U i6 (O i 16),U i6 (O i 17),U i6 (O i 18),U i6 (O i 19),U i6 (O i 20),U i6 (O i 21),U i6 x0,U i6 y0,U i6 z0,U i6 H,U i6 V,U i6 C],U i6 0] else .tuple #[.agg #[U i6 0,U i6 0,U i6 0,U i6 0,U i6 0,U i6 0,U i6 0,U i6 0,U i6 0,U i6 0,U i6 0,U i6 0,Sl none 0 0,Sl none 0 0,U i6 0,U i6 0,U i6 0,U i6 0,U i6 0,U i6 0,U i6 0,U i6 0,U i6 0,U i6 0,U i6 0,U i6 0,U i6 0,U i6 0],U i6 81])∧Below W.heap.size W w':=by
 have hS:Hid (∀ W,MRow W (some x) on oc O→_):=fun W hW=>shapes_any h w c lo hi ot (some x) on oc O W hW
 rw [hR] at hS
 simp only at hS
 obtain⟨-,hRl,ho64,-,-,-⟩:=gtR_ok hR
 have hM2:Hid (MRow W (some x) on oc O):=hM
 have hocm:=hM.1
 have hocx:=hM.2.1
 unfold maxLen at hocx
 have Hc:Hid (∀ q v,[U i6 (O i 0),U i6 (O i 1),U i6 (O i 2),U i6 (O i 3),U i6 (O i 4),U i6 (O i 5),U i6 (O i 6),U i6 (O i 7),U i6 (O i 8),U i6 (O i 9),U i6 (O i 10),U i6 (O i 11),Sl wa lw cw,Sl ba lb cb,U i6 (O i 14),U i6 (O i 15),U i6 (O i 16),U i6 (O i 17),U i6 (O i 18),U i6 (O i 19),U i6 (O i 20),U i6 (O i 21)][q]? = some v→W.cell? ((x.add (i*22)).add q)=some v):=hcell
 clear hR hM hcell
 have s0:=((St.start W).new (c:=#[U i6 h,U i6 w,U i6 c,U i6 lo,U i6 hi,Sl (some x) on oc,U i6 ot]) (t:=26)).new (c:=#[U i6 0,U i6 0,U i6 0,U i6 0,U i6 0,U i6 0,U i6 0,U i6 0,U i6 0,U i6 0,U i6 0,U i6 0,Sl none 0 0,Sl none 0 0,U i6 0,U i6 0,U i6 0,U i6 0,U i6 0,U i6 0,U i6 0,U i6 0,U i6 0,U i6 0,U i6 0,U i6 0,U i6 0,U i6 0]) (t:=102)
 simp only [World.size_alloc] at s0
 go_enter Tryz.func49,Tryz.ntmps49
 go_wp2_with fail
 refine Calls.mono (hS.out _ (hM2.out.below s0.below)) ?_
 rintro e w1 ⟨v,rfl,hSh,hb⟩
 have s1:=(s0.call hb).new (c:=#[U i6 0,U i6 0,U i6 0]) (t:=79)
 obtain⟨g,cap,cur,rfl,hgb,hgc,hCu⟩:∃ g cap cur,v=.slice (some ⟨g,0,none⟩) (on+1) cap∧W.heap.size≤g∧w1.heap[g]? = some (.cells cur 23 (0,0))∧Cu cur cap RL:=by
  rcases hSh with ⟨-,q⟩ | ⟨g,cap,cur,q1,q2,q3,q4,-⟩
  ·rw [q] at hRl;simp at hRl
  ·exact⟨g,cap,cur,by rw [q1,hRl],by simp at q2;omega,q3,q4⟩
 have hcap:=hCu.2.1
 obtain⟨b1,b2,b3⟩:=hCu.at (show i+1<RL.length by omega)
 obtain⟨a1,a2,a3⟩:=hCu.at (show (O i 1).toNat<RL.length by omega)
 rw [hB] at b1 b2 b3
 rw [hA] at a1 a2 a3
 simp only at a1 a2 a3 b1 b2 b3
 have hgz:=lt_of_heap hgc
 have hgc2:Hid ((w1.alloc (.cells #[U i6 0,U i6 0,U i6 0] 79)).heap[g]? = some (.cells cur 23 (0,0))):=(heap_alloc_old w1 _ hgz).trans hgc
 obtain⟨c1,f1,z1,c2,f2,z2,-⟩:=(s0.call hb).rules
 clear hb hSh hCu hgc hS hM2
 go_wp2
 obtain⟨w2,hw2⟩:∃ w2,w1.alloc (.cells #[U i6 0,U i6 0,U i6 0] 79)=w2:=⟨_,rfl⟩
 rw [hw2] at s1 hgc2 ⊢
 have hw2z:w2.heap.size=w1.heap.size+1:=by rw [← hw2];simp
 have S1:Hid (St W w2 _):=s1
 have hG:=s1.h3
 have HC2:Hid (∀ q v,[U i6 (O i 0),U i6 (O i 1),U i6 (O i 2),U i6 (O i 3),U i6 (O i 4),U i6 (O i 5),U i6 (O i 6),U i6 (O i 7),U i6 (O i 8),U i6 (O i 9),U i6 (O i 10),U i6 (O i 11),Sl wa lw cw,Sl ba lb cb,U i6 (O i 14),U i6 (O i 15),U i6 (O i 16),U i6 (O i 17),U i6 (O i 18),U i6 (O i 19),U i6 (O i 20),U i6 (O i 21)][q]? = some v→w2.cell? ((x.add (i*22)).add q)=some v):=fun q v hq=>(s1.below.cell (World.block_lt_of_cell? W _ (Hc.out q v hq))).trans (Hc.out q v hq)
 clear hw2 s0 s1 c1 f1 c2 f2
 refine regionC (fun w'=>Below w2.heap.size w2 w') (by kernel_rfl) ?_
 obtain⟨wd,hwd⟩:∃ wd,w2.drew=wd:=⟨_,rfl⟩
 have hdB:Below w2.heap.size w2 wd:=by rw [← hwd];exact (Below.refl _ _).drew
 have S2:Hid (St W wd _):=S1.out.call hdB
 rw [hwd]
 have hwz:Hid (wd.heap.size=w1.heap.size+1):=by unfold Hid;rw [← hwd];exact hw2z
 clear hw2z
 have HD:Hid (Below w2.heap.size w2 wd):=hdB
 clear hwd hdB
 refine takeC 0 (v:=.pointer (some ⟨W.heap.size,5,none⟩)) rfl rfl (by kernel_rfl) (by kernel_rfl) (by kernel_rfl) (fun _ _ _ h=>h) (fun _=>rfl) rfl (fun w' hw'=>by go_simp) ?_
 refine takeC 1 (v:=.slice (some x) on oc) rfl rfl (by kernel_rfl) (by kernel_rfl) (by kernel_rfl) (fun _ _ _ h=>h) (fun _=>rfl) rfl (fun w' hw'=>by have hc:=(cells_at ((hw'.block _ (lt_of_heap hG)).trans hG)).1 5;go_simp) ?_
 refine takeC 2 (v:=U i6 ((i:Int)+1)) rfl rfl (by kernel_rfl) (by kernel_rfl) (by kernel_rfl) (fun _ _ _ h=>h) (fun _=>rfl) rfl (fun w' hw'=>by go_simp) ?_
 refine takeC 3 (v:=U i6 (i:Int)) rfl rfl (by kernel_rfl) (by kernel_rfl) (by kernel_rfl) (fun _ _ _ h=>h) (fun _=>rfl) rfl (fun w' hw'=>by go_simp;rw [IntKind.wrap_i64];omega) ?_
 refine takeC 4 (v:=.pointer (some (x.add (i*22)))) rfl rfl (by kernel_rfl) (by kernel_rfl) (by kernel_rfl) (fun _ _ _ h=>h) (fun _=>rfl) rfl (fun w' hw'=>by go_simp) ?_
 refine takeC 5 (v:=.agg #[U i6 (O i 0),U i6 (O i 1),U i6 (O i 2),U i6 (O i 3),U i6 (O i 4),U i6 (O i 5),U i6 (O i 6),U i6 (O i 7),U i6 (O i 8),U i6 (O i 9),U i6 (O i 10),U i6 (O i 11),Sl wa lw cw,Sl ba lb cb,U i6 (O i 14),U i6 (O i 15),U i6 (O i 16),U i6 (O i 17),U i6 (O i 18),U i6 (O i 19),U i6 (O i 20),U i6 (O i 21)]) rfl rfl (by kernel_rfl) (by kernel_rfl) (by kernel_rfl) (fun _ _ _ h=>h) (fun _=>rfl) rfl (fun w' hw'=>run_la 42 (.tmp 34) rfl (x.add (i*22)) (by kernel_rfl) [U i6 (O i 0),U i6 (O i 1),U i6 (O i 2),U i6 (O i 3),U i6 (O i 4),U i6 (O i 5),U i6 (O i 6),U i6 (O i 7),U i6 (O i 8),U i6 (O i 9),U i6 (O i 10),U i6 (O i 11),Sl wa lw cw,Sl ba lb cb,U i6 (O i 14),U i6 (O i 15),U i6 (O i 16),U i6 (O i 17),U i6 (O i 18),U i6 (O i 19),U i6 (O i 20),U i6 (O i 21)] _ (fun q v hq=>(hw'.cell (World.block_lt_of_cell? _ _ (HC2.out q v hq))).trans (HC2.out q v hq)) Tryz.underlying42 rfl (by kernel_rfl)) ?_
 refine takeC 6 (v:=.slice (some ⟨g,0,none⟩) (on+1) cap) rfl rfl (by kernel_rfl) (by kernel_rfl) (by kernel_rfl) (fun _ _ _ h=>h) (fun _=>rfl) rfl (fun w' hw'=>by go_simp) ?_
 refine takeC 7 (v:=U i6 ((i:Int)+1)) rfl rfl (by kernel_rfl) (by kernel_rfl) (by kernel_rfl) (fun _ _ _ h=>h) (fun _=>rfl) rfl (fun w' hw'=>by go_simp) ?_
 refine takeC 8 (v:=.pointer (some ⟨g,(i+1)*3,none⟩)) rfl rfl (by kernel_rfl) (by kernel_rfl) (by kernel_rfl) (fun _ _ _ h=>h) (fun _=>rfl) rfl (fun w' hw'=>by go_simp;intro q;omega) ?_
 refine takeC 9 (v:=.agg #[U i6 H,U i6 V,U i6 C]) rfl rfl (by kernel_rfl) (by kernel_rfl) (by kernel_rfl) (fun _ _ _ h=>h) (fun _=>rfl) rfl (fun w' hw'=>run_la 23 (.tmp 38) rfl ⟨g,(i+1)*3,none⟩ (by kernel_rfl) [U i6 H,U i6 V,U i6 C] _ (three_at ((hw'.block _ (lt_of_heap hgc2.out)).trans hgc2.out) b1 b2 b3) Tryz.underlying23 rfl (by kernel_rfl)) ?_
 refine takeC 10 (v:=.agg #[U i6 (O i 0),U i6 (O i 1),U i6 (O i 2),U i6 (O i 3),U i6 (O i 4),U i6 (O i 5),U i6 (O i 6),U i6 (O i 7),U i6 (O i 8),U i6 (O i 9),U i6 (O i 10),U i6 (O i 11),Sl wa lw cw,Sl ba lb cb,U i6 (O i 14),U i6 (O i 15),U i6 (O i 16),U i6 (O i 17),U i6 (O i 18),U i6 (O i 19),U i6 (O i 20),U i6 (O i 21),U i6 0,U i6 0,U i6 0,U i6 H,U i6 V,U i6 C]) rfl rfl (by kernel_rfl) (by kernel_rfl) (by kernel_rfl) (fun _ _ _ h=>h) (fun _=>rfl) rfl (fun w' hw'=>by kernel_rfl) ?_
 refine stepC 11 HD.out (by kernel_rfl) rfl (fun K hK=>step_wp rfl ?_)
 go_simp
 refine hK _ _ ?_
 clear hK K
 have HA:Hid (Below w2.heap.size w2 (wd.alloc (.cells #[U i6 0,U i6 0,U i6 0,U i6 0,U i6 0,U i6 0,U i6 0,U i6 0,U i6 0,U i6 0,U i6 0,U i6 0,Sl none 0 0,Sl none 0 0,U i6 0,U i6 0,U i6 0,U i6 0,U i6 0,U i6 0,U i6 0,U i6 0,U i6 0,U i6 0,U i6 0,U i6 0,U i6 0,U i6 0] 102))):=HD.out.alloc HD.out.size _
 refine stepC 12 HA.out (by kernel_rfl) rfl (fun K hK=>step_wp rfl (wp_store_row 102 (.tmp 8) (.tmp 40) rfl wd.heap.size #[U i6 (O i 0),U i6 (O i 1),U i6 (O i 2),U i6 (O i 3),U i6 (O i 4),U i6 (O i 5),U i6 (O i 6),U i6 (O i 7),U i6 (O i 8),U i6 (O i 9),U i6 (O i 10),U i6 (O i 11),Sl wa lw cw,Sl ba lb cb,U i6 (O i 14),U i6 (O i 15),U i6 (O i 16),U i6 (O i 17),U i6 (O i 18),U i6 (O i 19),U i6 (O i 20),U i6 (O i 21),U i6 0,U i6 0,U i6 0,U i6 H,U i6 V,U i6 C] (by kernel_rfl) (by kernel_rfl) 102 #[U i6 0,U i6 0,U i6 0,U i6 0,U i6 0,U i6 0,U i6 0,U i6 0,U i6 0,U i6 0,U i6 0,U i6 0,Sl none 0 0,Sl none 0 0,U i6 0,U i6 0,U i6 0,U i6 0,U i6 0,U i6 0,U i6 0,U i6 0,U i6 0,U i6 0,U i6 0,U i6 0,U i6 0,U i6 0] (heap_alloc_new wd _) (by kernel_rfl) rfl (by simp [Value.oneCell']) (hK _ _ ?_)))
 rw [World.setRow_alloc_new]
 refine doneC (HD.out.alloc HD.out.size _) (by kernel_rfl) ?_ _
 have s3:=S2.out.new (c:=#[U i6 (O i 0),U i6 (O i 1),U i6 (O i 2),U i6 (O i 3),U i6 (O i 4),U i6 (O i 5),U i6 (O i 6),U i6 (O i 7),U i6 (O i 8),U i6 (O i 9),U i6 (O i 10),U i6 (O i 11),Sl wa lw cw,Sl ba lb cb,U i6 (O i 14),U i6 (O i 15),U i6 (O i 16),U i6 (O i 17),U i6 (O i 18),U i6 (O i 19),U i6 (O i 20),U i6 (O i 21),U i6 0,U i6 0,U i6 0,U i6 H,U i6 V,U i6 C]) (t:=102)
 have hgc3:Hid ((wd.alloc (.cells #[U i6 (O i 0),U i6 (O i 1),U i6 (O i 2),U i6 (O i 3),U i6 (O i 4),U i6 (O i 5),U i6 (O i 6),U i6 (O i 7),U i6 (O i 8),U i6 (O i 9),U i6 (O i 10),U i6 (O i 11),Sl wa lw cw,Sl ba lb cb,U i6 (O i 14),U i6 (O i 15),U i6 (O i 16),U i6 (O i 17),U i6 (O i 18),U i6 (O i 19),U i6 (O i 20),U i6 (O i 21),U i6 0,U i6 0,U i6 0,U i6 H,U i6 V,U i6 C] 102)).heap[g]? = some (.cells cur 23 (0,0))):=((HD.out.alloc HD.out.size _).block g (lt_of_heap hgc2.out)).trans hgc2.out
 obtain⟨w4,hw4⟩:∃ w4,wd.alloc (.cells #[U i6 (O i 0),U i6 (O i 1),U i6 (O i 2),U i6 (O i 3),U i6 (O i 4),U i6 (O i 5),U i6 (O i 6),U i6 (O i 7),U i6 (O i 8),U i6 (O i 9),U i6 (O i 10),U i6 (O i 11),Sl wa lw cw,Sl ba lb cb,U i6 (O i 14),U i6 (O i 15),U i6 (O i 16),U i6 (O i 17),U i6 (O i 18),U i6 (O i 19),U i6 (O i 20),U i6 (O i 21),U i6 0,U i6 0,U i6 0,U i6 H,U i6 V,U i6 C] 102)=w4:=⟨_,rfl⟩
 rw [hw4] at s3 hgc3 ⊢
 have S3:Hid (St W w4 _):=s3
 obtain⟨c1,f1,z1,-,-,-,c3,f3,z3,c4,f4,z4,-⟩:=s3.rules
 clear hw4 S1 S2 HD HA hgc2 HC2 Hc s3 c3 f3 c4 f4 hG
 go_wp2_with fail
 refine (red_any _ _).mono ?_
 rintro e w' ⟨rfl,hw'⟩
 have hw'':=hw'.symm
 subst hw''
 rw [hrb]
 have hz:w1.heap.size<wd.heap.size:=by have:=hwz.out;omega
 cases rb with
 | false =>
  go_wp2_with (refine wpList_store_row rfl 102 (.tmp 4) (.tmp 46) rfl (W.heap.size+1) #[U i6 0,U i6 0,U i6 0,U i6 0,U i6 0,U i6 0,U i6 0,U i6 0,U i6 0,U i6 0,U i6 0,U i6 0,Sl none 0 0,Sl none 0 0,U i6 0,U i6 0,U i6 0,U i6 0,U i6 0,U i6 0,U i6 0,U i6 0,U i6 0,U i6 0,U i6 0,U i6 0,U i6 0,U i6 0] rfl rfl 102 #[U i6 0,U i6 0,U i6 0,U i6 0,U i6 0,U i6 0,U i6 0,U i6 0,U i6 0,U i6 0,U i6 0,U i6 0,Sl none 0 0,Sl none 0 0,U i6 0,U i6 0,U i6 0,U i6 0,U i6 0,U i6 0,U i6 0,U i6 0,U i6 0,U i6 0,U i6 0,U i6 0,U i6 0,U i6 0] S3.out.h3 (by kernel_rfl) rfl (by simp [Value.oneCell']) ?_;have hZ':=setRow_heap _ (W.heap.size+1) #[U i6 0,U i6 0,U i6 0,U i6 0,U i6 0,U i6 0,U i6 0,U i6 0,U i6 0,U i6 0,U i6 0,U i6 0,Sl none 0 0,Sl none 0 0,U i6 0,U i6 0,U i6 0,U i6 0,U i6 0,U i6 0,U i6 0,U i6 0,U i6 0,U i6 0,U i6 0,U i6 0,U i6 0,U i6 0] #[U i6 0,U i6 0,U i6 0,U i6 0,U i6 0,U i6 0,U i6 0,U i6 0,U i6 0,U i6 0,U i6 0,U i6 0,Sl none 0 0,Sl none 0 0,U i6 0,U i6 0,U i6 0,U i6 0,U i6 0,U i6 0,U i6 0,U i6 0,U i6 0,U i6 0,U i6 0,U i6 0,U i6 0,U i6 0] 102 (0,0) S3.out.h3;have hB':Hid (Below W.heap.size W (_:World)):=below_setRow S3.out.below (show W.heap.size≤W.heap.size+1 by omega) #[U i6 0,U i6 0,U i6 0,U i6 0,U i6 0,U i6 0,U i6 0,U i6 0,U i6 0,U i6 0,U i6 0,U i6 0,Sl none 0 0,Sl none 0 0,U i6 0,U i6 0,U i6 0,U i6 0,U i6 0,U i6 0,U i6 0,U i6 0,U i6 0,U i6 0,U i6 0,U i6 0,U i6 0,U i6 0];clear c1 f1;generalize World.setRow _ _ _=w5 at hZ' hB' ⊢)
  exact bodyPost_ret (results_row_tmp Tryz.results49 _ _ (W.heap.size+1) 102 _ _ (U i6 81) rfl hZ' Tryz.underlying102 rfl (by kernel_rfl) rfl) rfl ⟨rfl,hB'.out⟩
 | true =>
  have a1':w4.cell? ⟨g,(O i 1).toNat*3,none⟩=some (U i6 x0):=by rw [(cells_at hgc3.out).1];exact a1
  have a2':w4.cell? ⟨g,(O i 1).toNat*3+1,none⟩=some (U i6 y0):=by rw [(cells_at hgc3.out).1];exact a2
  have a3':w4.cell? ⟨g,(O i 1).toNat*3+2,none⟩=some (U i6 z0):=by rw [(cells_at hgc3.out).1];exact a3
  clear a1 a2 a3 b1 b2 b3
  go_upto_region 10 with fail
  have hR1:(((w4.setCell ⟨wd.heap.size,22,none⟩ (U i6 x0)).setCell ⟨wd.heap.size,23,none⟩ (U i6 y0)).setCell ⟨wd.heap.size,24,none⟩ (U i6 z0)).heap[wd.heap.size]? = some (.cells #[U i6 (O i 0),U i6 (O i 1),U i6 (O i 2),U i6 (O i 3),U i6 (O i 4),U i6 (O i 5),U i6 (O i 6),U i6 (O i 7),U i6 (O i 8),U i6 (O i 9),U i6 (O i 10),U i6 (O i 11),Sl wa lw cw,Sl ba lb cb,U i6 (O i 14),U i6 (O i 15),U i6 (O i 16),U i6 (O i 17),U i6 (O i 18),U i6 (O i 19),U i6 (O i 20),U i6 (O i 21),U i6 x0,U i6 y0,U i6 z0,U i6 H,U i6 V,U i6 C] 102 (0,0)):=heap_setCell_at (heap_setCell_at (heap_setCell_at S3.out.h1))
  have hZ1:(((w4.setCell ⟨wd.heap.size,22,none⟩ (U i6 x0)).setCell ⟨wd.heap.size,23,none⟩ (U i6 y0)).setCell ⟨wd.heap.size,24,none⟩ (U i6 z0)).heap[W.heap.size+1]? = some (.cells #[U i6 0,U i6 0,U i6 0,U i6 0,U i6 0,U i6 0,U i6 0,U i6 0,U i6 0,U i6 0,U i6 0,U i6 0,Sl none 0 0,Sl none 0 0,U i6 0,U i6 0,U i6 0,U i6 0,U i6 0,U i6 0,U i6 0,U i6 0,U i6 0,U i6 0,U i6 0,U i6 0,U i6 0,U i6 0] 102 (0,0)):=by
   have hne:W.heap.size+1≠wd.heap.size:=by omega
   rw [Below.heap_setCell _ _ _ _ hne,Below.heap_setCell _ _ _ _ hne,Below.heap_setCell _ _ _ _ hne]
   exact S3.out.h3
  have hB1:Hid (Below W.heap.size W (((w4.setCell ⟨wd.heap.size,22,none⟩ (U i6 x0)).setCell ⟨wd.heap.size,23,none⟩ (U i6 y0)).setCell ⟨wd.heap.size,24,none⟩ (U i6 z0))):=((S3.out.below.setCell (p:=⟨wd.heap.size,22,none⟩) (by show W.heap.size≤wd.heap.size;omega) _).setCell (p:=⟨wd.heap.size,23,none⟩) (by show W.heap.size≤wd.heap.size;omega) _).setCell (p:=⟨wd.heap.size,24,none⟩) (by show W.heap.size≤wd.heap.size;omega) _
  obtain⟨w5,hw5⟩:∃ w5,((w4.setCell ⟨wd.heap.size,22,none⟩ (U i6 x0)).setCell ⟨wd.heap.size,23,none⟩ (U i6 y0)).setCell ⟨wd.heap.size,24,none⟩ (U i6 z0)=w5:=⟨_,rfl⟩
  rw [hw5] at hR1 hZ1 hB1 ⊢
  have HZ1:Hid (w5.heap[W.heap.size+1]? = some (.cells #[U i6 0,U i6 0,U i6 0,U i6 0,U i6 0,U i6 0,U i6 0,U i6 0,U i6 0,U i6 0,U i6 0,U i6 0,Sl none 0 0,Sl none 0 0,U i6 0,U i6 0,U i6 0,U i6 0,U i6 0,U i6 0,U i6 0,U i6 0,U i6 0,U i6 0,U i6 0,U i6 0,U i6 0,U i6 0] 102 (0,0))):=hZ1
  clear hw5 c1 f1 a1' a2' a3' S3 hgc3 hZ1
  go_wp2_with (first
   | (refine wpList_load_row rfl 102 (.tmp 8) rfl wd.heap.size rfl 102 _ (0,0) _ hR1 Tryz.underlying102 rfl (by kernel_rfl) ?_)
   | (refine wpList_store_row rfl 102 (.tmp 4) (.tmp 54) rfl (W.heap.size+1) #[U i6 (O i 0),U i6 (O i 1),U i6 (O i 2),U i6 (O i 3),U i6 (O i 4),U i6 (O i 5),U i6 (O i 6),U i6 (O i 7),U i6 (O i 8),U i6 (O i 9),U i6 (O i 10),U i6 (O i 11),Sl wa lw cw,Sl ba lb cb,U i6 (O i 14),U i6 (O i 15),U i6 (O i 16),U i6 (O i 17),U i6 (O i 18),U i6 (O i 19),U i6 (O i 20),U i6 (O i 21),U i6 x0,U i6 y0,U i6 z0,U i6 H,U i6 V,U i6 C] rfl rfl 102 #[U i6 0,U i6 0,U i6 0,U i6 0,U i6 0,U i6 0,U i6 0,U i6 0,U i6 0,U i6 0,U i6 0,U i6 0,Sl none 0 0,Sl none 0 0,U i6 0,U i6 0,U i6 0,U i6 0,U i6 0,U i6 0,U i6 0,U i6 0,U i6 0,U i6 0,U i6 0,U i6 0,U i6 0,U i6 0] HZ1.out (by kernel_rfl) rfl (by simp [Value.oneCell']) ?_;have hZ':=setRow_heap _ (W.heap.size+1) #[U i6 0,U i6 0,U i6 0,U i6 0,U i6 0,U i6 0,U i6 0,U i6 0,U i6 0,U i6 0,U i6 0,U i6 0,Sl none 0 0,Sl none 0 0,U i6 0,U i6 0,U i6 0,U i6 0,U i6 0,U i6 0,U i6 0,U i6 0,U i6 0,U i6 0,U i6 0,U i6 0,U i6 0,U i6 0] #[U i6 (O i 0),U i6 (O i 1),U i6 (O i 2),U i6 (O i 3),U i6 (O i 4),U i6 (O i 5),U i6 (O i 6),U i6 (O i 7),U i6 (O i 8),U i6 (O i 9),U i6 (O i 10),U i6 (O i 11),Sl wa lw cw,Sl ba lb cb,U i6 (O i 14),U i6 (O i 15),U i6 (O i 16),U i6 (O i 17),U i6 (O i 18),U i6 (O i 19),U i6 (O i 20),U i6 (O i 21),U i6 x0,U i6 y0,U i6 z0,U i6 H,U i6 V,U i6 C] 102 (0,0) HZ1.out;have hB':Hid (Below W.heap.size W (_:World)):=below_setRow hB1.out (show W.heap.size≤W.heap.size+1 by omega) #[U i6 (O i 0),U i6 (O i 1),U i6 (O i 2),U i6 (O i 3),U i6 (O i 4),U i6 (O i 5),U i6 (O i 6),U i6 (O i 7),U i6 (O i 8),U i6 (O i 9),U i6 (O i 10),U i6 (O i 11),Sl wa lw cw,Sl ba lb cb,U i6 (O i 14),U i6 (O i 15),U i6 (O i 16),U i6 (O i 17),U i6 (O i 18),U i6 (O i 19),U i6 (O i 20),U i6 (O i 21),U i6 x0,U i6 y0,U i6 z0,U i6 H,U i6 V,U i6 C];clear hR1;generalize World.setRow _ _ _=w6 at hZ' hB' ⊢))
  exact bodyPost_ret (results_row_tmp Tryz.results49 _ _ (W.heap.size+1) 102 _ _ (U i6 0) rfl hZ' Tryz.underlying102 rfl (by kernel_rfl) rfl) rfl ⟨rfl,hB'.out⟩
def Fnd (W:World) (oa:Option Addr) (on:Nat) (O:Nat→Nat→Int) (Z B:Nat→List Int) (RL:List (Int×Int×Int)) (i:Nat) (x:Addr) (wa:Option Addr) (lw cw:Nat) (ba:Option Addr) (lb cb:Nat) (x0 y0 z0 H V C:Int):Prop :=
 i<on∧oa=some x∧O i 12=(lw:Int)∧O i 13=(lb:Int)∧(∀ q v,[U i6 (O i 0),U i6 (O i 1),U i6 (O i 2),U i6 (O i 3),U i6 (O i 4),U i6 (O i 5),U i6 (O i 6),U i6 (O i 7),U i6 (O i 8),U i6 (O i 9),U i6 (O i 10),U i6 (O i 11),Sl wa lw cw,Sl ba lb cb,U i6 (O i 14),U i6 (O i 15),U i6 (O i 16),U i6 (O i 17),U i6 (O i 18),U i6 (O i 19),U i6 (O i 20),U i6 (O i 21)][q]? = some v→W.cell? ((x.add (i*22)).add q)=some v)∧IRow .i16 W wa lw cw (Z i)∧IRow .i32 W ba lb cb (B i) ∧
  RL.getD (O i 1).toNat (0,0,0)=(x0,y0,z0)∧RL.getD (i+1) (0,0,0)=(H,V,C)∧Sit (O i 0) (O i 4) (O i 5) (O i 6) (O i 7) (O i 8) (O i 9) (O i 10) (O i 11) x0 y0 z0 H V C lw lb∧(0≤O i 1∧O i 1≤(i:Int))∧rdB (O i 0)=true
theorem Fnd.below {W W':World} {oa:Option Addr} {on:Nat} {O:Nat→Nat→Int} {Z B:Nat→List Int} {RL:List (Int×Int×Int)} {i:Nat} {x:Addr} {wa:Option Addr} {lw cw:Nat} {ba:Option Addr} {lb cb:Nat} {x0 y0 z0 H V C:Int} (h:Fnd W oa on O Z B RL i x wa lw cw ba lb cb x0 y0 z0 H V C) (g:Below W.heap.size W W'):Fnd W' oa on O Z B RL i x wa lw cw ba lb cb x0 y0 z0 H V C:=by
 obtain⟨h1,h2,h3,h4,h5,h6,h7,h8⟩:=h
 exact⟨h1,h2,h3,h4,fun q v hq=>(g.cell (World.block_lt_of_cell? W _ (h5 q v hq))).trans (h5 q v hq),h6.below g,h7.below g,h8⟩
theorem found (h w c lo hi ot:Int) (oa:Option Addr) (on oc:Nat) (O:Nat→Nat→Int) (Z B:Nat→List Int) (W:World) (hL:LRow W oa on oc O Z B) (op:Int) (hf:fiE O h w c lo hi ot on op=0):∃ (RL:List (Int×Int×Int)) (Rw:Int),gtR O h w c lo hi ot on=(0,0,RL,Rw)∧∃ (i:Nat) (x:Addr) (wa:Option Addr) (lw cw:Nat) (ba:Option Addr) (lb cb:Nat) (x0 y0 z0 H V C:Int),op=(i:Int)+1∧Fnd W oa on O Z B RL i x wa lw cw ba lb cb x0 y0 z0 H V C:=by
 obtain⟨Re,Ra,RL,Rw,hR⟩:∃ Re Ra RL Rw,gtR O h w c lo hi ot on=(Re,Ra,RL,Rw):=⟨_,_,_,_,rfl⟩
 have hRe:Re=0:=by
  by_cases q:Re=0
  ·exact q
  ·rw [fiE_err (by rw [hR]) q] at hf;exact absurd hf q
 subst hRe
 obtain⟨rfl,hl,h64,-,-,-⟩:=gtR_ok hR
 have ho:1≤op∧op≤(on:Int):=by
  by_cases q:1≤op∧op≤(on:Int)
  ·exact q
  ·rw [fiE_3 (by rw [hR]) q] at hf;cases hf
 obtain⟨i,rfl⟩:∃ i:Nat,op=(i:Int)+1:=⟨(op-1).toNat,by omega⟩
 have hi0:i<on:=by omega
 have hk:rdB (O i 0)=true:=by
  cases q:rdB (O i 0) with
  | true=>rfl
  | false=>rw [fiE_81 (by rw [hR]) hi0 q] at hf;cases hf
 refine⟨RL,Rw,hR,?_⟩
 obtain⟨x,rfl⟩:∃ x,oa=some x:=by
  cases oa with
  | none=>have h1:=hL.2.2.1 rfl;have h2:=hL.1;omega
  | some x=>exact⟨x,rfl⟩
 obtain⟨wa,lw,cw,ba,lb,cb,e12,e13,hcell,hz,hb,-,-⟩:=hL.2.2.2 x rfl i hi0
 obtain⟨j,hj,hji,hs⟩:=sit_of hR hi0 (of_decide_eq_true hk)
 obtain⟨x0,y0,z0,hA⟩:∃ x0 y0 z0,RL.getD (O i 1).toNat (0,0,0)=(x0,y0,z0):=⟨_,_,_,rfl⟩
 obtain⟨H,V,C,hB⟩:∃ H V C,RL.getD (i+1) (0,0,0)=(H,V,C):=⟨_,_,_,rfl⟩
 have hS:=hs x0 y0 z0 H V C (by unfold ShA;rw [← hj];exact hA) (by unfold ShA;rw [Int.toNat_natCast];exact hB)
 rw [e12,e13,Int.toNat_natCast,Int.toNat_natCast] at hS
 exact⟨i,x,wa,lw,cw,ba,lb,cb,x0,y0,z0,H,V,C,rfl,hi0,rfl,e12,e13,hcell,hz,hb,hA,hB,hS,⟨by omega,by omega⟩,hk⟩
theorem find_bad (h w c lo hi ot:Int) (oa:Option Addr) (on oc:Nat) (O:Nat→Nat→Int) (Z B:Nat→List Int) (W:World) (hL:LRow W oa on oc O Z B) (op E:Int) (hf:fiE O h w c lo hi ot on op=E) (hE:E≠0) :
  Calls Tryz.prog 49 #[.agg #[U i6 h,U i6 w,U i6 c,U i6 lo,U i6 hi,Sl oa on oc,U i6 ot],U i6 op] W fun e w'=>e=.returned (.tuple #[.agg #[U i6 0,U i6 0,U i6 0,U i6 0,U i6 0,U i6 0,U i6 0,U i6 0,U i6 0,U i6 0,U i6 0,U i6 0,Sl none 0 0,Sl none 0 0,U i6 0,U i6 0,U i6 0,U i6 0,U i6 0,U i6 0,U i6 0,U i6 0,U i6 0,U i6 0,U i6 0,U i6 0,U i6 0,U i6 0],U i6 E])∧Below W.heap.size W w':=by
 obtain⟨Re,Ra,RL,Rw,hR⟩:∃ Re Ra RL Rw,gtR O h w c lo hi ot on=(Re,Ra,RL,Rw):=⟨_,_,_,_,rfl⟩
 by_cases q:Re=0
 ·subst q
  by_cases ho:1≤op∧op≤(on:Int)
  ·obtain⟨rfl,hl,h64,-,-,-⟩:=gtR_ok hR
   obtain⟨i,rfl⟩:∃ i:Nat,op=(i:Int)+1:=⟨(op-1).toNat,by omega⟩
   have hi0:i<on:=by omega
   cases hk:rdB (O i 0) with
   | true=>rw [fiE_0 (by rw [hR]) hi0 hk] at hf;exact absurd hf.symm hE
   | false =>
    rw [fiE_81 (by rw [hR]) hi0 hk] at hf
    subst hf
    obtain⟨x,rfl⟩:∃ x,oa=some x:=by
     cases oa with
     | none=>have h1:=hL.2.2.1 rfl;have h2:=hL.1;omega
     | some x=>exact⟨x,rfl⟩
    obtain⟨wa,lw,cw,ba,lb,cb,e12,e13,hcell,hz,hb,-,-⟩:=hL.2.2.2 x rfl i hi0
    obtain⟨j,hj,hji,-⟩:=(gtR_at hR).2 i hi0
    exact find_r h w c lo hi ot x on oc i O W hL.m hi0 wa lw cw ba lb cb hcell Rw RL hR (by omega) (by omega) _ _ _ _ _ _ rfl rfl false hk
  ·rw [fiE_3 (by rw [hR]) ho] at hf
   subst hf
   exact find_3 h w c lo hi ot op oa on oc O W hL.m Ra Rw RL hR ho
 ·rw [fiE_err (by rw [hR]) q] at hf
  subst hf
  exact find_e h w c lo hi ot op oa on oc O W hL.m _ Ra Rw RL hR hE
theorem find_ok (h w c lo hi ot:Int) (oa:Option Addr) (on oc:Nat) (O:Nat→Nat→Int) (Z B:Nat→List Int) (W:World) (hL:LRow W oa on oc O Z B) (RL:List (Int×Int×Int)) (Rw:Int) (hR:gtR O h w c lo hi ot on=(0,0,RL,Rw)) (i:Nat) (x:Addr) (wa:Option Addr) (lw cw:Nat) (ba:Option Addr) (lb cb:Nat) (x0 y0 z0 H V C:Int) (hF:Fnd W oa on O Z B RL i x wa lw cw ba lb cb x0 y0 z0 H V C) :
  Calls Tryz.prog 49 #[.agg #[U i6 h,U i6 w,U i6 c,U i6 lo,U i6 hi,Sl oa on oc,U i6 ot],U i6 ((i:Int)+1)] W fun e w'=>e=.returned (.tuple #[.agg #[U i6 (O i 0),U i6 (O i 1),U i6 (O i 2),U i6 (O i 3),U i6 (O i 4),U i6 (O i 5),U i6 (O i 6),U i6 (O i 7),U i6 (O i 8),U i6 (O i 9),U i6 (O i 10),U i6 (O i 11),Sl wa lw cw,Sl ba lb cb,U i6 (O i 14),U i6 (O i 15),U i6 (O i 16),U i6 (O i 17),U i6 (O i 18),U i6 (O i 19),U i6 (O i 20),U i6 (O i 21),U i6 x0,U i6 y0,U i6 z0,U i6 H,U i6 V,U i6 C],U i6 0])∧Below W.heap.size W w':=by
 obtain⟨h1,rfl,h3,h4,h5,h6,h7,h8,h9,h10,h11,h12⟩:=hF
 exact find_r h w c lo hi ot x on oc i O W hL.m h1 wa lw cw ba lb cb h5 Rw RL hR h11.1 h11.2 _ _ _ _ _ _ h8 h9 true h12
theorem terms_any (k a b m kh kw sh sw tp lf bt rt:Int) (wa:Option Addr) (lw wc:Nat) (ba:Option Addr) (lb bc:Nat) (sm ss um us z p lo hi h w c H V C:Int) (r:Nat) (W:World) (hr:W.heap[r]? = some (.cells #[U i6 k,U i6 a,U i6 b,U i6 m,U i6 kh,U i6 kw,U i6 sh,U i6 sw,U i6 tp,U i6 lf,U i6 bt,U i6 rt,Sl wa lw wc,Sl ba lb bc,U i6 sm,U i6 ss,U i6 um,U i6 us,U i6 z,U i6 p,U i6 lo,U i6 hi,U i6 h,U i6 w,U i6 c,U i6 H,U i6 V,U i6 C] 102 (0,0))) (zs:List Int) (hZ:IRow .i16 W wa lw wc zs) (s:Sit k kh kw sh sw tp lf bt rt h w c H V C lw lb) (ch at':Int) (hch:1≤ch∧ch≤C) (hat:0≤at'∧at'<H*V) :
  Calls Tryz.prog 52 #[.pointer (some ⟨r,0,none⟩),U i6 ch,U i6 at'] W fun e w'=>(∃ v,e=.returned v∧OTm w' W.heap.size v (siL k kh kw sh sw tp lf bt rt h w c ch at' zs))∧Below W.heap.size W w':=by
 obtain⟨st,hst⟩:∃ st:Nat,stR k kh kw h w c=(st:Int):=⟨(stR k kh kw h w c).toNat,by have:=s.2.2.2.2.2.2.2.2.1;omega⟩
 unfold siL
 rw [hst,Int.toNat_natCast]
 by_cases k1:k=1
 ·subst k1
  exact terms_1 a b m kh kw sh sw tp lf bt rt wa lw wc ba lb bc sm ss um us z p lo hi h w c H V C r W hr zs hZ s ch at' _ _ hch st hst
 ·exact terms_w k a b m kh kw sh sw tp lf bt rt wa lw wc ba lb bc sm ss um us z p lo hi h w c H V C r W hr zs hZ s k1 ch at' hch hat st hst
end Go.Proofs.YtccoanknofhmaaaGreat
