/- What find of package terms returns of an op that is there. The op that is asked, with all that is known of it; what Length, Channels and Positions of package terms return. What terms of package terms returns: the terms of a channel's sum at a position. What Of of package terms returns. What sum of package plain returns. What alone of package plain returns: a model of one op. Lists of flat structs, and of lists of them, in memory; the small functions of package cert and of its document. What costOfSum and plusTimes of package cert return. What formOfList of package cert returns. The document's SameOp and Same of layer 8, of like ops and models: what each returns. What Form of package cert returns. What Form of package cert returns, of a well-formed model and lists of the right length. The document's Check, Chans: what each returns. -/
import Derived.Test.YtehofmkpgopmpaaGreatGq01
import Derived.Test.YtehofmkpgopmpaaGreatGq02
import Derived.Test.YtehofmkpgopmpaaGreatGq08
import Derived.Test.YtehofmkpgopmpaaGreatGq11
import Derived.Test.YtehofmkpgopmpaaGreatGq13
import Derived.Test.YtehofmkpgopmpaaGreatGq14
import Derived.Test.YtehofmkpgopmpaaGreatGq19
import Derived.BigQuiet
namespace Go.Proofs.YtehofmkpgopmpaaGreat
open Go.Value renaming int → U, slice → Sl
open Go.IntKind renaming i64 → i6
set_option maxRecDepth 100000
set_option maxHeartbeats 16000000
open Go.ChangeShapes Go.WideShapes Go.ChangeAt Go.RowKit
set_option linter.unusedVariables false
theorem three_at {w:World} {g n:Nat} {cur:Array Value} {T:TypeId} {x y z:Value} (h:w.heap[g]? = some (.cells cur T (0,0))) (h0:cur[n]? = some x) (h1:cur[n+1]? = some y) (h2:cur[n+2]? = some z):∀ q v,[x,y,z][q]? = some v→w.cell? ((⟨g,n,none⟩:Addr).add q)=some v:=by
 intro q v hq
 rw [Addr.add_lit,(cells_at h).1]
 match q,hq with
 | 0,hq=>rw [Nat.add_zero,h0];exact hq
 | 1,hq=>rw [h1];exact hq
 | 2,hq=>rw [h2];exact hq
 | q+3,hq=>simp at hq
theorem find_r (h w c lo hi ot:Int) (x:Addr) (on oc i:Nat) (O:Nat→Nat→Int) (W:World) (hM:MRow W (some x) on oc O) (hi0:i<on) (wa:Option Addr) (lw cw:Nat) (ba:Option Addr) (lb cb:Nat)
  (hcell:∀ q v,[U i6 (O i 0),U i6 (O i 1),U i6 (O i 2),U i6 (O i 3),U i6 (O i 4),U i6 (O i 5),U i6 (O i 6),U i6 (O i 7),U i6 (O i 8),U i6 (O i 9),U i6 (O i 10),U i6 (O i 11),Sl wa lw cw,Sl ba lb cb,U i6 (O i 14),U i6 (O i 15),U i6 (O i 16),U i6 (O i 17),U i6 (O i 18),U i6 (O i 19),U i6 (O i 20),U i6 (O i 21)][q]? = some v→W.cell? ((x.add (i*22)).add q)=some v) (Rw:Int) (RL:List (Int×Int×Int)) (hR:gtR O h w c lo hi ot on=(0,0,RL,Rw)) (hj0:0≤O i 1) (hj1:O i 1≤(i:Int))
  (x0 y0 z0 H V C:Int) (hA:RL.getD (O i 1).toNat (0,0,0)=(x0,y0,z0)) (hB:RL.getD (i+1) (0,0,0)=(H,V,C)) (rb:Bool) (hrb:rdB (O i 0)=rb) :
  Calls Tryz.prog 59 #[.agg #[U i6 h,U i6 w,U i6 c,U i6 lo,U i6 hi,Sl (some x) on oc,U i6 ot],U i6 ((i:Int)+1)] W fun e w'=>e=.returned (if rb=true then .tuple #[.agg #[U i6 (O i 0),U i6 (O i 1),U i6 (O i 2),U i6 (O i 3),U i6 (O i 4),U i6 (O i 5),U i6 (O i 6),U i6 (O i 7),U i6 (O i 8),U i6 (O i 9),U i6 (O i 10),U i6 (O i 11),Sl wa lw cw,Sl ba lb cb,U i6 (O i 14),U i6 (O i 15),U i6 (O i 16),U i6 (O i 17),U i6 (O i 18),U i6 (O i 19),U i6 (O i 20),U i6 (O i 21),U i6 x0,U i6 y0,U i6 z0,U i6 H,U i6 V,U i6 C],U i6 0] else .tuple #[.agg #[U i6 0,U i6 0,U i6 0,U i6 0,U i6 0,U i6 0,U i6 0,U i6 0,U i6 0,U i6 0,U i6 0,U i6 0,Sl none 0 0,Sl none 0 0,U i6 0,U i6 0,U i6 0,U i6 0,U i6 0,U i6 0,U i6 0,U i6 0,U i6 0,U i6 0,U i6 0,U i6 0,U i6 0,U i6 0],U i6 81])∧Below W.heap.size W w':=by
 have hS:Hid (∀ W,MRow W (some x) on oc O→_):=fun W hW=>shapes_any h w c lo hi ot (some x) on oc O W hW
 rw [hR] at hS
 simp only at hS
 obtain⟨-,hRl,ho64,-,-,-⟩:=gtR_ok hR
 have hM2:Hid (MRow W (some x) on oc O):=hM
 have hocm:=hM.1
 have hocx:=hM.2.1
 unfold maxLen at hocx
 have Hc:Hid (∀ q v,[U i6 (O i 0),U i6 (O i 1),U i6 (O i 2),U i6 (O i 3),U i6 (O i 4),U i6 (O i 5),U i6 (O i 6),U i6 (O i 7),U i6 (O i 8),U i6 (O i 9),U i6 (O i 10),U i6 (O i 11),Sl wa lw cw,Sl ba lb cb,U i6 (O i 14),U i6 (O i 15),U i6 (O i 16),U i6 (O i 17),U i6 (O i 18),U i6 (O i 19),U i6 (O i 20),U i6 (O i 21)][q]? = some v→W.cell? ((x.add (i*22)).add q)=some v):=hcell
 clear hR hM hcell
 have s0:=((St.start W).new (c:=#[U i6 h,U i6 w,U i6 c,U i6 lo,U i6 hi,Sl (some x) on oc,U i6 ot]) (t:=26)).new (c:=#[U i6 0,U i6 0,U i6 0,U i6 0,U i6 0,U i6 0,U i6 0,U i6 0,U i6 0,U i6 0,U i6 0,U i6 0,Sl none 0 0,Sl none 0 0,U i6 0,U i6 0,U i6 0,U i6 0,U i6 0,U i6 0,U i6 0,U i6 0,U i6 0,U i6 0,U i6 0,U i6 0,U i6 0,U i6 0]) (t:=125)
 simp only [World.size_alloc] at s0
 go_enter Tryz.func59,Tryz.ntmps59
 go_wp2_with fail
 refine Calls.mono (hS.out _ (hM2.out.below s0.below)) ?_
 rintro e w1 ⟨v,rfl,hSh,hb⟩
 have s1:=(s0.call hb).new (c:=#[U i6 0,U i6 0,U i6 0]) (t:=35)
 obtain⟨g,cap,cur,rfl,hgb,hgc,hCu⟩:∃ g cap cur,v=.slice (some ⟨g,0,none⟩) (on+1) cap∧W.heap.size≤g∧w1.heap[g]? = some (.cells cur 23 (0,0))∧Cu cur cap RL:=by
  rcases hSh with ⟨-,q⟩ | ⟨g,cap,cur,q1,q2,q3,q4,-⟩
  ·rw [q] at hRl;simp at hRl
  ·exact⟨g,cap,cur,by rw [q1,hRl],by simp at q2;omega,q3,q4⟩
 have hcap:=hCu.2.1
 obtain⟨b1,b2,b3⟩:=hCu.at (show i+1<RL.length by omega)
 obtain⟨a1,a2,a3⟩:=hCu.at (show (O i 1).toNat<RL.length by omega)
 rw [hB] at b1 b2 b3
 rw [hA] at a1 a2 a3
 simp only at a1 a2 a3 b1 b2 b3
 have hgz:=lt_of_heap hgc
 have hgc2:Hid ((w1.alloc (.cells #[U i6 0,U i6 0,U i6 0] 35)).heap[g]? = some (.cells cur 23 (0,0))):=(heap_alloc_old w1 _ hgz).trans hgc
 obtain⟨c1,f1,z1,c2,f2,z2,-⟩:=(s0.call hb).rules
 clear hb hSh hCu hgc hS hM2
 go_wp2
 obtain⟨w2,hw2⟩:∃ w2,w1.alloc (.cells #[U i6 0,U i6 0,U i6 0] 35)=w2:=⟨_,rfl⟩
 rw [hw2] at s1 hgc2 ⊢
 have hw2z:w2.heap.size=w1.heap.size+1:=by rw [← hw2];simp
 have S1:Hid (St W w2 _):=s1
 have hG:=s1.h3
 have HC2:Hid (∀ q v,[U i6 (O i 0),U i6 (O i 1),U i6 (O i 2),U i6 (O i 3),U i6 (O i 4),U i6 (O i 5),U i6 (O i 6),U i6 (O i 7),U i6 (O i 8),U i6 (O i 9),U i6 (O i 10),U i6 (O i 11),Sl wa lw cw,Sl ba lb cb,U i6 (O i 14),U i6 (O i 15),U i6 (O i 16),U i6 (O i 17),U i6 (O i 18),U i6 (O i 19),U i6 (O i 20),U i6 (O i 21)][q]? = some v→w2.cell? ((x.add (i*22)).add q)=some v):=fun q v hq=>(s1.below.cell (World.block_lt_of_cell? W _ (Hc.out q v hq))).trans (Hc.out q v hq)
 clear hw2 s0 s1 c1 f1 c2 f2
 refine regionC (fun w'=>Below w2.heap.size w2 w') (by kernel_rfl) ?_
 obtain⟨wd,hwd⟩:∃ wd,w2.drew=wd:=⟨_,rfl⟩
 have hdB:Below w2.heap.size w2 wd:=by rw [← hwd];exact (Below.refl _ _).drew
 have S2:Hid (St W wd _):=S1.out.call hdB
 rw [hwd]
 have hwz:Hid (wd.heap.size=w1.heap.size+1):=by unfold Hid;rw [← hwd];exact hw2z
 clear hw2z
 have HD:Hid (Below w2.heap.size w2 wd):=hdB
 clear hwd hdB
 refine takeC 0 (v:=.pointer (some ⟨W.heap.size,5,none⟩)) rfl rfl (by kernel_rfl) (by kernel_rfl) (by kernel_rfl) (fun _ _ _ h=>h) (fun _=>rfl) rfl (fun w' hw'=>by go_simp) ?_
 refine takeC 1 (v:=.slice (some x) on oc) rfl rfl (by kernel_rfl) (by kernel_rfl) (by kernel_rfl) (fun _ _ _ h=>h) (fun _=>rfl) rfl (fun w' hw'=>by have hc:=(cells_at ((hw'.block _ (lt_of_heap hG)).trans hG)).1 5;go_simp) ?_
 refine takeC 2 (v:=U i6 ((i:Int)+1)) rfl rfl (by kernel_rfl) (by kernel_rfl) (by kernel_rfl) (fun _ _ _ h=>h) (fun _=>rfl) rfl (fun w' hw'=>by go_simp) ?_
 refine takeC 3 (v:=U i6 (i:Int)) rfl rfl (by kernel_rfl) (by kernel_rfl) (by kernel_rfl) (fun _ _ _ h=>h) (fun _=>rfl) rfl (fun w' hw'=>by go_simp;rw [IntKind.wrap_i64];omega) ?_
 refine takeC 4 (v:=.pointer (some (x.add (i*22)))) rfl rfl (by kernel_rfl) (by kernel_rfl) (by kernel_rfl) (fun _ _ _ h=>h) (fun _=>rfl) rfl (fun w' hw'=>by go_simp) ?_
 refine takeC 5 (v:=.agg #[U i6 (O i 0),U i6 (O i 1),U i6 (O i 2),U i6 (O i 3),U i6 (O i 4),U i6 (O i 5),U i6 (O i 6),U i6 (O i 7),U i6 (O i 8),U i6 (O i 9),U i6 (O i 10),U i6 (O i 11),Sl wa lw cw,Sl ba lb cb,U i6 (O i 14),U i6 (O i 15),U i6 (O i 16),U i6 (O i 17),U i6 (O i 18),U i6 (O i 19),U i6 (O i 20),U i6 (O i 21)]) rfl rfl (by kernel_rfl) (by kernel_rfl) (by kernel_rfl) (fun _ _ _ h=>h) (fun _=>rfl) rfl (fun w' hw'=>run_la 55 (.tmp 34) rfl (x.add (i*22)) (by kernel_rfl) [U i6 (O i 0),U i6 (O i 1),U i6 (O i 2),U i6 (O i 3),U i6 (O i 4),U i6 (O i 5),U i6 (O i 6),U i6 (O i 7),U i6 (O i 8),U i6 (O i 9),U i6 (O i 10),U i6 (O i 11),Sl wa lw cw,Sl ba lb cb,U i6 (O i 14),U i6 (O i 15),U i6 (O i 16),U i6 (O i 17),U i6 (O i 18),U i6 (O i 19),U i6 (O i 20),U i6 (O i 21)] _ (fun q v hq=>(hw'.cell (World.block_lt_of_cell? _ _ (HC2.out q v hq))).trans (HC2.out q v hq)) Tryz.underlying55 rfl (by kernel_rfl)) ?_
 refine takeC 6 (v:=.slice (some ⟨g,0,none⟩) (on+1) cap) rfl rfl (by kernel_rfl) (by kernel_rfl) (by kernel_rfl) (fun _ _ _ h=>h) (fun _=>rfl) rfl (fun w' hw'=>by go_simp) ?_
 refine takeC 7 (v:=U i6 ((i:Int)+1)) rfl rfl (by kernel_rfl) (by kernel_rfl) (by kernel_rfl) (fun _ _ _ h=>h) (fun _=>rfl) rfl (fun w' hw'=>by go_simp) ?_
 refine takeC 8 (v:=.pointer (some ⟨g,(i+1)*3,none⟩)) rfl rfl (by kernel_rfl) (by kernel_rfl) (by kernel_rfl) (fun _ _ _ h=>h) (fun _=>rfl) rfl (fun w' hw'=>by go_simp;intro q;omega) ?_
 refine takeC 9 (v:=.agg #[U i6 H,U i6 V,U i6 C]) rfl rfl (by kernel_rfl) (by kernel_rfl) (by kernel_rfl) (fun _ _ _ h=>h) (fun _=>rfl) rfl (fun w' hw'=>run_la 23 (.tmp 38) rfl ⟨g,(i+1)*3,none⟩ (by kernel_rfl) [U i6 H,U i6 V,U i6 C] _ (three_at ((hw'.block _ (lt_of_heap hgc2.out)).trans hgc2.out) b1 b2 b3) Tryz.underlying23 rfl (by kernel_rfl)) ?_
 refine takeC 10 (v:=.agg #[U i6 (O i 0),U i6 (O i 1),U i6 (O i 2),U i6 (O i 3),U i6 (O i 4),U i6 (O i 5),U i6 (O i 6),U i6 (O i 7),U i6 (O i 8),U i6 (O i 9),U i6 (O i 10),U i6 (O i 11),Sl wa lw cw,Sl ba lb cb,U i6 (O i 14),U i6 (O i 15),U i6 (O i 16),U i6 (O i 17),U i6 (O i 18),U i6 (O i 19),U i6 (O i 20),U i6 (O i 21),U i6 0,U i6 0,U i6 0,U i6 H,U i6 V,U i6 C]) rfl rfl (by kernel_rfl) (by kernel_rfl) (by kernel_rfl) (fun _ _ _ h=>h) (fun _=>rfl) rfl (fun w' hw'=>by kernel_rfl) ?_
 refine stepC 11 HD.out (by kernel_rfl) rfl (fun K hK=>step_wp rfl ?_)
 go_simp
 refine hK _ _ ?_
 clear hK K
 have HA:Hid (Below w2.heap.size w2 (wd.alloc (.cells #[U i6 0,U i6 0,U i6 0,U i6 0,U i6 0,U i6 0,U i6 0,U i6 0,U i6 0,U i6 0,U i6 0,U i6 0,Sl none 0 0,Sl none 0 0,U i6 0,U i6 0,U i6 0,U i6 0,U i6 0,U i6 0,U i6 0,U i6 0,U i6 0,U i6 0,U i6 0,U i6 0,U i6 0,U i6 0] 125))):=HD.out.alloc HD.out.size _
 refine stepC 12 HA.out (by kernel_rfl) rfl (fun K hK=>step_wp rfl (wp_store_row 125 (.tmp 8) (.tmp 40) rfl wd.heap.size #[U i6 (O i 0),U i6 (O i 1),U i6 (O i 2),U i6 (O i 3),U i6 (O i 4),U i6 (O i 5),U i6 (O i 6),U i6 (O i 7),U i6 (O i 8),U i6 (O i 9),U i6 (O i 10),U i6 (O i 11),Sl wa lw cw,Sl ba lb cb,U i6 (O i 14),U i6 (O i 15),U i6 (O i 16),U i6 (O i 17),U i6 (O i 18),U i6 (O i 19),U i6 (O i 20),U i6 (O i 21),U i6 0,U i6 0,U i6 0,U i6 H,U i6 V,U i6 C] (by kernel_rfl) (by kernel_rfl) 125 #[U i6 0,U i6 0,U i6 0,U i6 0,U i6 0,U i6 0,U i6 0,U i6 0,U i6 0,U i6 0,U i6 0,U i6 0,Sl none 0 0,Sl none 0 0,U i6 0,U i6 0,U i6 0,U i6 0,U i6 0,U i6 0,U i6 0,U i6 0,U i6 0,U i6 0,U i6 0,U i6 0,U i6 0,U i6 0] (heap_alloc_new wd _) (by kernel_rfl) rfl (by simp [Value.oneCell']) (hK _ _ ?_)))
 rw [World.setRow_alloc_new]
 refine doneC (HD.out.alloc HD.out.size _) (by kernel_rfl) ?_ _
 have s3:=S2.out.new (c:=#[U i6 (O i 0),U i6 (O i 1),U i6 (O i 2),U i6 (O i 3),U i6 (O i 4),U i6 (O i 5),U i6 (O i 6),U i6 (O i 7),U i6 (O i 8),U i6 (O i 9),U i6 (O i 10),U i6 (O i 11),Sl wa lw cw,Sl ba lb cb,U i6 (O i 14),U i6 (O i 15),U i6 (O i 16),U i6 (O i 17),U i6 (O i 18),U i6 (O i 19),U i6 (O i 20),U i6 (O i 21),U i6 0,U i6 0,U i6 0,U i6 H,U i6 V,U i6 C]) (t:=125)
 have hgc3:Hid ((wd.alloc (.cells #[U i6 (O i 0),U i6 (O i 1),U i6 (O i 2),U i6 (O i 3),U i6 (O i 4),U i6 (O i 5),U i6 (O i 6),U i6 (O i 7),U i6 (O i 8),U i6 (O i 9),U i6 (O i 10),U i6 (O i 11),Sl wa lw cw,Sl ba lb cb,U i6 (O i 14),U i6 (O i 15),U i6 (O i 16),U i6 (O i 17),U i6 (O i 18),U i6 (O i 19),U i6 (O i 20),U i6 (O i 21),U i6 0,U i6 0,U i6 0,U i6 H,U i6 V,U i6 C] 125)).heap[g]? = some (.cells cur 23 (0,0))):=((HD.out.alloc HD.out.size _).block g (lt_of_heap hgc2.out)).trans hgc2.out
 obtain⟨w4,hw4⟩:∃ w4,wd.alloc (.cells #[U i6 (O i 0),U i6 (O i 1),U i6 (O i 2),U i6 (O i 3),U i6 (O i 4),U i6 (O i 5),U i6 (O i 6),U i6 (O i 7),U i6 (O i 8),U i6 (O i 9),U i6 (O i 10),U i6 (O i 11),Sl wa lw cw,Sl ba lb cb,U i6 (O i 14),U i6 (O i 15),U i6 (O i 16),U i6 (O i 17),U i6 (O i 18),U i6 (O i 19),U i6 (O i 20),U i6 (O i 21),U i6 0,U i6 0,U i6 0,U i6 H,U i6 V,U i6 C] 125)=w4:=⟨_,rfl⟩
 rw [hw4] at s3 hgc3 ⊢
 have S3:Hid (St W w4 _):=s3
 obtain⟨c1,f1,z1,-,-,-,c3,f3,z3,c4,f4,z4,-⟩:=s3.rules
 clear hw4 S1 S2 HD HA hgc2 HC2 Hc s3 c3 f3 c4 f4 hG
 go_wp2_with fail
 refine (red_any _ _).mono ?_
 rintro e w' ⟨rfl,hw'⟩
 have hw'':=hw'.symm
 subst hw''
 rw [hrb]
 have hz:w1.heap.size<wd.heap.size:=by have:=hwz.out;omega
 cases rb with
 | false =>
  go_wp2_with (refine wpList_store_row rfl 125 (.tmp 4) (.tmp 46) rfl (W.heap.size+1) #[U i6 0,U i6 0,U i6 0,U i6 0,U i6 0,U i6 0,U i6 0,U i6 0,U i6 0,U i6 0,U i6 0,U i6 0,Sl none 0 0,Sl none 0 0,U i6 0,U i6 0,U i6 0,U i6 0,U i6 0,U i6 0,U i6 0,U i6 0,U i6 0,U i6 0,U i6 0,U i6 0,U i6 0,U i6 0] rfl rfl 125 #[U i6 0,U i6 0,U i6 0,U i6 0,U i6 0,U i6 0,U i6 0,U i6 0,U i6 0,U i6 0,U i6 0,U i6 0,Sl none 0 0,Sl none 0 0,U i6 0,U i6 0,U i6 0,U i6 0,U i6 0,U i6 0,U i6 0,U i6 0,U i6 0,U i6 0,U i6 0,U i6 0,U i6 0,U i6 0] S3.out.h3 (by kernel_rfl) rfl (by simp [Value.oneCell']) ?_;have hZ':=setRow_heap _ (W.heap.size+1) #[U i6 0,U i6 0,U i6 0,U i6 0,U i6 0,U i6 0,U i6 0,U i6 0,U i6 0,U i6 0,U i6 0,U i6 0,Sl none 0 0,Sl none 0 0,U i6 0,U i6 0,U i6 0,U i6 0,U i6 0,U i6 0,U i6 0,U i6 0,U i6 0,U i6 0,U i6 0,U i6 0,U i6 0,U i6 0] #[U i6 0,U i6 0,U i6 0,U i6 0,U i6 0,U i6 0,U i6 0,U i6 0,U i6 0,U i6 0,U i6 0,U i6 0,Sl none 0 0,Sl none 0 0,U i6 0,U i6 0,U i6 0,U i6 0,U i6 0,U i6 0,U i6 0,U i6 0,U i6 0,U i6 0,U i6 0,U i6 0,U i6 0,U i6 0] 125 (0,0) S3.out.h3;have hB':Hid (Below W.heap.size W (_:World)):=below_setRow S3.out.below (show W.heap.size≤W.heap.size+1 by omega) #[U i6 0,U i6 0,U i6 0,U i6 0,U i6 0,U i6 0,U i6 0,U i6 0,U i6 0,U i6 0,U i6 0,U i6 0,Sl none 0 0,Sl none 0 0,U i6 0,U i6 0,U i6 0,U i6 0,U i6 0,U i6 0,U i6 0,U i6 0,U i6 0,U i6 0,U i6 0,U i6 0,U i6 0,U i6 0];clear c1 f1;generalize World.setRow _ _ _=w5 at hZ' hB' ⊢)
  exact bodyPost_ret (results_row_tmp Tryz.results59 _ _ (W.heap.size+1) 125 _ _ (U i6 81) rfl hZ' Tryz.underlying125 rfl (by kernel_rfl) rfl) rfl ⟨rfl,hB'.out⟩
 | true =>
  have a1':w4.cell? ⟨g,(O i 1).toNat*3,none⟩=some (U i6 x0):=by rw [(cells_at hgc3.out).1];exact a1
  have a2':w4.cell? ⟨g,(O i 1).toNat*3+1,none⟩=some (U i6 y0):=by rw [(cells_at hgc3.out).1];exact a2
  have a3':w4.cell? ⟨g,(O i 1).toNat*3+2,none⟩=some (U i6 z0):=by rw [(cells_at hgc3.out).1];exact a3
  clear a1 a2 a3 b1 b2 b3
  go_upto_region 10 with fail
  have hR1:(((w4.setCell ⟨wd.heap.size,22,none⟩ (U i6 x0)).setCell ⟨wd.heap.size,23,none⟩ (U i6 y0)).setCell ⟨wd.heap.size,24,none⟩ (U i6 z0)).heap[wd.heap.size]? = some (.cells #[U i6 (O i 0),U i6 (O i 1),U i6 (O i 2),U i6 (O i 3),U i6 (O i 4),U i6 (O i 5),U i6 (O i 6),U i6 (O i 7),U i6 (O i 8),U i6 (O i 9),U i6 (O i 10),U i6 (O i 11),Sl wa lw cw,Sl ba lb cb,U i6 (O i 14),U i6 (O i 15),U i6 (O i 16),U i6 (O i 17),U i6 (O i 18),U i6 (O i 19),U i6 (O i 20),U i6 (O i 21),U i6 x0,U i6 y0,U i6 z0,U i6 H,U i6 V,U i6 C] 125 (0,0)):=heap_setCell_at (heap_setCell_at (heap_setCell_at S3.out.h1))
  have hZ1:(((w4.setCell ⟨wd.heap.size,22,none⟩ (U i6 x0)).setCell ⟨wd.heap.size,23,none⟩ (U i6 y0)).setCell ⟨wd.heap.size,24,none⟩ (U i6 z0)).heap[W.heap.size+1]? = some (.cells #[U i6 0,U i6 0,U i6 0,U i6 0,U i6 0,U i6 0,U i6 0,U i6 0,U i6 0,U i6 0,U i6 0,U i6 0,Sl none 0 0,Sl none 0 0,U i6 0,U i6 0,U i6 0,U i6 0,U i6 0,U i6 0,U i6 0,U i6 0,U i6 0,U i6 0,U i6 0,U i6 0,U i6 0,U i6 0] 125 (0,0)):=by
   have hne:W.heap.size+1≠wd.heap.size:=by omega
   rw [Below.heap_setCell _ _ _ _ hne,Below.heap_setCell _ _ _ _ hne,Below.heap_setCell _ _ _ _ hne]
   exact S3.out.h3
  have hB1:Hid (Below W.heap.size W (((w4.setCell ⟨wd.heap.size,22,none⟩ (U i6 x0)).setCell ⟨wd.heap.size,23,none⟩ (U i6 y0)).setCell ⟨wd.heap.size,24,none⟩ (U i6 z0))):=((S3.out.below.setCell (p:=⟨wd.heap.size,22,none⟩) (by show W.heap.size≤wd.heap.size;omega) _).setCell (p:=⟨wd.heap.size,23,none⟩) (by show W.heap.size≤wd.heap.size;omega) _).setCell (p:=⟨wd.heap.size,24,none⟩) (by show W.heap.size≤wd.heap.size;omega) _
  obtain⟨w5,hw5⟩:∃ w5,((w4.setCell ⟨wd.heap.size,22,none⟩ (U i6 x0)).setCell ⟨wd.heap.size,23,none⟩ (U i6 y0)).setCell ⟨wd.heap.size,24,none⟩ (U i6 z0)=w5:=⟨_,rfl⟩
  rw [hw5] at hR1 hZ1 hB1 ⊢
  have HZ1:Hid (w5.heap[W.heap.size+1]? = some (.cells #[U i6 0,U i6 0,U i6 0,U i6 0,U i6 0,U i6 0,U i6 0,U i6 0,U i6 0,U i6 0,U i6 0,U i6 0,Sl none 0 0,Sl none 0 0,U i6 0,U i6 0,U i6 0,U i6 0,U i6 0,U i6 0,U i6 0,U i6 0,U i6 0,U i6 0,U i6 0,U i6 0,U i6 0,U i6 0] 125 (0,0))):=hZ1
  clear hw5 c1 f1 a1' a2' a3' S3 hgc3 hZ1
  go_wp2_with (first
   | (refine wpList_load_row rfl 125 (.tmp 8) rfl wd.heap.size rfl 125 _ (0,0) _ hR1 Tryz.underlying125 rfl (by kernel_rfl) ?_)
   | (refine wpList_store_row rfl 125 (.tmp 4) (.tmp 54) rfl (W.heap.size+1) #[U i6 (O i 0),U i6 (O i 1),U i6 (O i 2),U i6 (O i 3),U i6 (O i 4),U i6 (O i 5),U i6 (O i 6),U i6 (O i 7),U i6 (O i 8),U i6 (O i 9),U i6 (O i 10),U i6 (O i 11),Sl wa lw cw,Sl ba lb cb,U i6 (O i 14),U i6 (O i 15),U i6 (O i 16),U i6 (O i 17),U i6 (O i 18),U i6 (O i 19),U i6 (O i 20),U i6 (O i 21),U i6 x0,U i6 y0,U i6 z0,U i6 H,U i6 V,U i6 C] rfl rfl 125 #[U i6 0,U i6 0,U i6 0,U i6 0,U i6 0,U i6 0,U i6 0,U i6 0,U i6 0,U i6 0,U i6 0,U i6 0,Sl none 0 0,Sl none 0 0,U i6 0,U i6 0,U i6 0,U i6 0,U i6 0,U i6 0,U i6 0,U i6 0,U i6 0,U i6 0,U i6 0,U i6 0,U i6 0,U i6 0] HZ1.out (by kernel_rfl) rfl (by simp [Value.oneCell']) ?_;have hZ':=setRow_heap _ (W.heap.size+1) #[U i6 0,U i6 0,U i6 0,U i6 0,U i6 0,U i6 0,U i6 0,U i6 0,U i6 0,U i6 0,U i6 0,U i6 0,Sl none 0 0,Sl none 0 0,U i6 0,U i6 0,U i6 0,U i6 0,U i6 0,U i6 0,U i6 0,U i6 0,U i6 0,U i6 0,U i6 0,U i6 0,U i6 0,U i6 0] #[U i6 (O i 0),U i6 (O i 1),U i6 (O i 2),U i6 (O i 3),U i6 (O i 4),U i6 (O i 5),U i6 (O i 6),U i6 (O i 7),U i6 (O i 8),U i6 (O i 9),U i6 (O i 10),U i6 (O i 11),Sl wa lw cw,Sl ba lb cb,U i6 (O i 14),U i6 (O i 15),U i6 (O i 16),U i6 (O i 17),U i6 (O i 18),U i6 (O i 19),U i6 (O i 20),U i6 (O i 21),U i6 x0,U i6 y0,U i6 z0,U i6 H,U i6 V,U i6 C] 125 (0,0) HZ1.out;have hB':Hid (Below W.heap.size W (_:World)):=below_setRow hB1.out (show W.heap.size≤W.heap.size+1 by omega) #[U i6 (O i 0),U i6 (O i 1),U i6 (O i 2),U i6 (O i 3),U i6 (O i 4),U i6 (O i 5),U i6 (O i 6),U i6 (O i 7),U i6 (O i 8),U i6 (O i 9),U i6 (O i 10),U i6 (O i 11),Sl wa lw cw,Sl ba lb cb,U i6 (O i 14),U i6 (O i 15),U i6 (O i 16),U i6 (O i 17),U i6 (O i 18),U i6 (O i 19),U i6 (O i 20),U i6 (O i 21),U i6 x0,U i6 y0,U i6 z0,U i6 H,U i6 V,U i6 C];clear hR1;generalize World.setRow _ _ _=w6 at hZ' hB' ⊢))
  exact bodyPost_ret (results_row_tmp Tryz.results59 _ _ (W.heap.size+1) 125 _ _ (U i6 0) rfl hZ' Tryz.underlying125 rfl (by kernel_rfl) rfl) rfl ⟨rfl,hB'.out⟩
def Fnd (W:World) (oa:Option Addr) (on:Nat) (O:Nat→Nat→Int) (Z B:Nat→List Int) (RL:List (Int×Int×Int)) (i:Nat) (x:Addr) (wa:Option Addr) (lw cw:Nat) (ba:Option Addr) (lb cb:Nat) (x0 y0 z0 H V C:Int):Prop :=
 i<on∧oa=some x∧O i 12=(lw:Int)∧O i 13=(lb:Int)∧(∀ q v,[U i6 (O i 0),U i6 (O i 1),U i6 (O i 2),U i6 (O i 3),U i6 (O i 4),U i6 (O i 5),U i6 (O i 6),U i6 (O i 7),U i6 (O i 8),U i6 (O i 9),U i6 (O i 10),U i6 (O i 11),Sl wa lw cw,Sl ba lb cb,U i6 (O i 14),U i6 (O i 15),U i6 (O i 16),U i6 (O i 17),U i6 (O i 18),U i6 (O i 19),U i6 (O i 20),U i6 (O i 21)][q]? = some v→W.cell? ((x.add (i*22)).add q)=some v)∧IRow .i16 W wa lw cw (Z i)∧IRow .i32 W ba lb cb (B i) ∧
  RL.getD (O i 1).toNat (0,0,0)=(x0,y0,z0)∧RL.getD (i+1) (0,0,0)=(H,V,C)∧Sit (O i 0) (O i 4) (O i 5) (O i 6) (O i 7) (O i 8) (O i 9) (O i 10) (O i 11) x0 y0 z0 H V C lw lb∧(0≤O i 1∧O i 1≤(i:Int))∧rdB (O i 0)=true
theorem Fnd.below {W W':World} {oa:Option Addr} {on:Nat} {O:Nat→Nat→Int} {Z B:Nat→List Int} {RL:List (Int×Int×Int)} {i:Nat} {x:Addr} {wa:Option Addr} {lw cw:Nat} {ba:Option Addr} {lb cb:Nat} {x0 y0 z0 H V C:Int} (h:Fnd W oa on O Z B RL i x wa lw cw ba lb cb x0 y0 z0 H V C) (g:Below W.heap.size W W'):Fnd W' oa on O Z B RL i x wa lw cw ba lb cb x0 y0 z0 H V C:=by
 obtain⟨h1,h2,h3,h4,h5,h6,h7,h8⟩:=h
 exact⟨h1,h2,h3,h4,fun q v hq=>(g.cell (World.block_lt_of_cell? W _ (h5 q v hq))).trans (h5 q v hq),h6.below g,h7.below g,h8⟩
theorem find_ok (h w c lo hi ot:Int) (oa:Option Addr) (on oc:Nat) (O:Nat→Nat→Int) (Z B:Nat→List Int) (W:World) (hL:LRow W oa on oc O Z B) (RL:List (Int×Int×Int)) (Rw:Int) (hR:gtR O h w c lo hi ot on=(0,0,RL,Rw)) (i:Nat) (x:Addr) (wa:Option Addr) (lw cw:Nat) (ba:Option Addr) (lb cb:Nat) (x0 y0 z0 H V C:Int) (hF:Fnd W oa on O Z B RL i x wa lw cw ba lb cb x0 y0 z0 H V C) :
  Calls Tryz.prog 59 #[.agg #[U i6 h,U i6 w,U i6 c,U i6 lo,U i6 hi,Sl oa on oc,U i6 ot],U i6 ((i:Int)+1)] W fun e w'=>e=.returned (.tuple #[.agg #[U i6 (O i 0),U i6 (O i 1),U i6 (O i 2),U i6 (O i 3),U i6 (O i 4),U i6 (O i 5),U i6 (O i 6),U i6 (O i 7),U i6 (O i 8),U i6 (O i 9),U i6 (O i 10),U i6 (O i 11),Sl wa lw cw,Sl ba lb cb,U i6 (O i 14),U i6 (O i 15),U i6 (O i 16),U i6 (O i 17),U i6 (O i 18),U i6 (O i 19),U i6 (O i 20),U i6 (O i 21),U i6 x0,U i6 y0,U i6 z0,U i6 H,U i6 V,U i6 C],U i6 0])∧Below W.heap.size W w':=by
 obtain⟨h1,rfl,h3,h4,h5,h6,h7,h8,h9,h10,h11,h12⟩:=hF
 exact find_r h w c lo hi ot x on oc i O W hL.m h1 wa lw cw ba lb cb h5 Rw RL hR h11.1 h11.2 _ _ _ _ _ _ h8 h9 true h12
theorem terms_any (k a b m kh kw sh sw tp lf bt rt:Int) (wa:Option Addr) (lw wc:Nat) (ba:Option Addr) (lb bc:Nat) (sm ss um us z p lo hi h w c H V C:Int) (r:Nat) (W:World) (hr:W.heap[r]? = some (.cells #[U i6 k,U i6 a,U i6 b,U i6 m,U i6 kh,U i6 kw,U i6 sh,U i6 sw,U i6 tp,U i6 lf,U i6 bt,U i6 rt,Sl wa lw wc,Sl ba lb bc,U i6 sm,U i6 ss,U i6 um,U i6 us,U i6 z,U i6 p,U i6 lo,U i6 hi,U i6 h,U i6 w,U i6 c,U i6 H,U i6 V,U i6 C] 125 (0,0))) (zs:List Int) (hZ:IRow .i16 W wa lw wc zs) (s:Sit k kh kw sh sw tp lf bt rt h w c H V C lw lb) (ch at':Int) (hch:1≤ch∧ch≤C) (hat:0≤at'∧at'<H*V) :
  Calls Tryz.prog 92 #[.pointer (some ⟨r,0,none⟩),U i6 ch,U i6 at'] W fun e w'=>(∃ v,e=.returned v∧OTm w' W.heap.size v (siL k kh kw sh sw tp lf bt rt h w c ch at' zs))∧Below W.heap.size W w':=by
 obtain⟨st,hst⟩:∃ st:Nat,stR k kh kw h w c=(st:Int):=⟨(stR k kh kw h w c).toNat,by have:=s.2.2.2.2.2.2.2.2.1;omega⟩
 unfold siL
 rw [hst,Int.toNat_natCast]
 by_cases k1:k=1
 ·subst k1
  exact terms_1 a b m kh kw sh sw tp lf bt rt wa lw wc ba lb bc sm ss um us z p lo hi h w c H V C r W hr zs hZ s ch at' _ _ hch st hst
 ·exact terms_w k a b m kh kw sh sw tp lf bt rt wa lw wc ba lb bc sm ss um us z p lo hi h w c H V C r W hr zs hZ s k1 ch at' hch hat st hst
theorem of_ok (h w c lo hi ot:Int) (oa:Option Addr) (on oc:Nat) (O:Nat→Nat→Int) (Z B:Nat→List Int) (W:World) (hL:LRow W oa on oc O Z B) (ch at':Int) (RL:List (Int×Int×Int)) (Rw:Int) (hR:gtR O h w c lo hi ot on=(0,0,RL,Rw)) (i:Nat) (x:Addr) (wa:Option Addr) (lw cw:Nat) (ba:Option Addr) (lb cb:Nat) (x0 y0 z0 H V C:Int) (hF:Fnd W oa on O Z B RL i x wa lw cw ba lb cb x0 y0 z0 H V C) (hch:1≤ch∧ch≤C) (hat:0≤at'∧at'<H*V) :
  Calls Tryz.prog 61 #[.agg #[U i6 h,U i6 w,U i6 c,U i6 lo,U i6 hi,Sl oa on oc,U i6 ot],U i6 ((i:Int)+1),U i6 ch,U i6 at'] W fun e w'=>(∃ v,e=.returned (.tuple #[v,U i6 (biA (O i 0) ch (B i)),U i6 0])∧OTm w' W.heap.size v (siL (O i 0) (O i 4) (O i 5) (O i 6) (O i 7) (O i 8) (O i 9) (O i 10) (O i 11) x0 y0 z0 ch at' (Z i)))∧Below W.heap.size W w':=by
 have s0:=(St.start W).new (c:=#[U i6 h,U i6 w,U i6 c,U i6 lo,U i6 hi,Sl oa on oc,U i6 ot]) (t:=26)
 have hSit:Hid (Sit (O i 0) (O i 4) (O i 5) (O i 6) (O i 7) (O i 8) (O i 9) (O i 10) (O i 11) x0 y0 z0 H V C lw lb):=hF.2.2.2.2.2.2.2.2.2.1
 have hrZ:Hid (IRow .i16 W wa lw cw (Z i)):=hF.2.2.2.2.2.1
 have hrB:Hid (IRow .i32 W ba lb cb (B i)):=hF.2.2.2.2.2.2.1
 have hK:Hid (∀ W',Below W.heap.size W W'→_):=fun W' hb=>find_ok h w c lo hi ot oa on oc O Z B W' (hL.below hb) RL Rw hR i x wa lw cw ba lb cb x0 y0 z0 H V C (hF.below hb)
 have hPo:Hid (∀ (w1:World),_):=fun w1=>tpos_any (O i 0) (O i 1) (O i 2) (O i 3) (O i 4) (O i 5) (O i 6) (O i 7) (O i 8) (O i 9) (O i 10) (O i 11) wa lw cw ba lb cb (O i 14) (O i 15) (O i 16) (O i 17) (O i 18) (O i 19) (O i 20) (O i 21) x0 y0 z0 H V C _ _ (heap_alloc_new w1 _) hSit.out.2.2.1
 have hTe:Hid (∀ (w':World) (r:Nat),w'.heap[r]? = some (.cells #[U i6 (O i 0),U i6 (O i 1),U i6 (O i 2),U i6 (O i 3),U i6 (O i 4),U i6 (O i 5),U i6 (O i 6),U i6 (O i 7),U i6 (O i 8),U i6 (O i 9),U i6 (O i 10),U i6 (O i 11),Sl wa lw cw,Sl ba lb cb,U i6 (O i 14),U i6 (O i 15),U i6 (O i 16),U i6 (O i 17),U i6 (O i 18),U i6 (O i 19),U i6 (O i 20),U i6 (O i 21),U i6 x0,U i6 y0,U i6 z0,U i6 H,U i6 V,U i6 C] 125 (0,0))→Below W.heap.size W w'→_):=fun w' r hr hb=>terms_any (O i 0) (O i 1) (O i 2) (O i 3) (O i 4) (O i 5) (O i 6) (O i 7) (O i 8) (O i 9) (O i 10) (O i 11) wa lw cw ba lb cb (O i 14) (O i 15) (O i 16) (O i 17) (O i 18) (O i 19) (O i 20) (O i 21) x0 y0 z0 H V C r w' hr (Z i) (hrZ.out.below hb) hSit.out ch at' hch hat
 have hBi:Hid (∀ (w':World) (r:Nat),w'.heap[r]? = some (.cells #[U i6 (O i 0),U i6 (O i 1),U i6 (O i 2),U i6 (O i 3),U i6 (O i 4),U i6 (O i 5),U i6 (O i 6),U i6 (O i 7),U i6 (O i 8),U i6 (O i 9),U i6 (O i 10),U i6 (O i 11),Sl wa lw cw,Sl ba lb cb,U i6 (O i 14),U i6 (O i 15),U i6 (O i 16),U i6 (O i 17),U i6 (O i 18),U i6 (O i 19),U i6 (O i 20),U i6 (O i 21),U i6 x0,U i6 y0,U i6 z0,U i6 H,U i6 V,U i6 C] 125 (0,0))→Below W.heap.size W w'→_):=fun w' r hr hb=>tbias_any (O i 0) (O i 1) (O i 2) (O i 3) (O i 4) (O i 5) (O i 6) (O i 7) (O i 8) (O i 9) (O i 10) (O i 11) wa lw cw ba lb cb (O i 14) (O i 15) (O i 16) (O i 17) (O i 18) (O i 19) (O i 20) (O i 21) x0 y0 z0 H V C r w' hr (B i) (hrB.out.below hb) hSit.out ch hch
 obtain⟨hv,ehv⟩:∃ hv,H*V=hv:=⟨_,rfl⟩
 rw [ehv] at hat hPo
 obtain⟨TL,hTL⟩:∃ TL,siL (O i 0) (O i 4) (O i 5) (O i 6) (O i 7) (O i 8) (O i 9) (O i 10) (O i 11) x0 y0 z0 ch at' (Z i)=TL:=⟨_,rfl⟩
 obtain⟨bi,hbi⟩:∃ bi,biA (O i 0) ch (B i)=bi:=⟨_,rfl⟩
 rw [hTL] at hTe ⊢
 rw [hbi] at hBi ⊢
 clear hF hR hL ehv hTL hbi hrZ hrB
 go_enter Tryz.func61,Tryz.ntmps61
 go_wp2_with fail
 refine (hK.out _ s0.below).mono ?_
 rintro e w1 ⟨rfl,hb⟩
 have s1:=(s0.call hb).new (c:=#[U i6 (O i 0),U i6 (O i 1),U i6 (O i 2),U i6 (O i 3),U i6 (O i 4),U i6 (O i 5),U i6 (O i 6),U i6 (O i 7),U i6 (O i 8),U i6 (O i 9),U i6 (O i 10),U i6 (O i 11),Sl wa lw cw,Sl ba lb cb,U i6 (O i 14),U i6 (O i 15),U i6 (O i 16),U i6 (O i 17),U i6 (O i 18),U i6 (O i 19),U i6 (O i 20),U i6 (O i 21),U i6 x0,U i6 y0,U i6 z0,U i6 H,U i6 V,U i6 C]) (t:=125)
 have S1:Hid (St W _ _):=s1
 clear hb s1
 go_wp2_with (first
  | (refine wpList_st_new rfl 125 (.tmp 11) (.tmp 17) rfl w1 _ #[U i6 (O i 0),U i6 (O i 1),U i6 (O i 2),U i6 (O i 3),U i6 (O i 4),U i6 (O i 5),U i6 (O i 6),U i6 (O i 7),U i6 (O i 8),U i6 (O i 9),U i6 (O i 10),U i6 (O i 11),Sl wa lw cw,Sl ba lb cb,U i6 (O i 14),U i6 (O i 15),U i6 (O i 16),U i6 (O i 17),U i6 (O i 18),U i6 (O i 19),U i6 (O i 20),U i6 (O i 21),U i6 x0,U i6 y0,U i6 z0,U i6 H,U i6 V,U i6 C] rfl rfl (by kernel_rfl) rfl (by simp [Value.oneCell']) ?_)
  | (go_at_call 90;refine (tchan_any (O i 0) (O i 1) (O i 2) (O i 3) (O i 4) (O i 5) (O i 6) (O i 7) (O i 8) (O i 9) (O i 10) (O i 11) wa lw cw ba lb cb (O i 14) (O i 15) (O i 16) (O i 17) (O i 18) (O i 19) (O i 20) (O i 21) x0 y0 z0 H V C _ _ (heap_alloc_new w1 _)).mono ?_;rintro e w2 ⟨rfl,hw2⟩;have hw3:=hw2.symm;subst hw3;clear hw2)
  | (go_at_call 91;refine (hPo.out w1).mono ?_;rintro e w2 ⟨rfl,n,hw2⟩;have S2:Hid (St W w2 _):=(by rw [hw2];exact S1.out.call (dbel _ n));clear hw2 S1))
 refine (hTe.out _ _ S2.out.h1 S2.out.below).mono ?_
 rintro e w3 ⟨⟨v,rfl,hO⟩,hb3⟩
 have S3:Hid (St W w3 _):=S2.out.call hb3
 have hz2:=S2.out.below.size
 have HO:Hid (OTm w3 W.heap.size v TL):=hO.base hz2
 obtain⟨va,vc,rfl⟩:=hO.slice
 clear hO hb3 S2
 go_wp2_with fail
 refine (hBi.out _ _ S3.out.h1 S3.out.below).mono ?_
 rintro e w4 ⟨rfl,hw4⟩
 have hw5:=hw4.symm
 subst hw5
 clear hw4
 go_wp2
 exact bodyPost_ret (v:=.tuple #[Sl va TL.length vc,U i6 bi,U i6 0]) (by simp [results,Tryz.results61,go_sem, *]) rfl ⟨⟨_,rfl,HO.out⟩,S3.out.below⟩
theorem lcells {w:World} {B:Nat} {cs:Array Value} {T:TypeId} (h:w.heap[B]? = some (.cells cs T (0,0))) {l:List Value} (hl:∀ (q:Nat) (v:Value),l[q]? = some v→cs[q]? = some v):∀ (q:Nat) (v:Value),l[q]? = some v→w.cell? ((⟨B,0,none⟩:Addr).add q)=some v:=fun q v hq=>by
 rw [Addr.add_lit,Nat.zero_add,(cells_at h).1]
 exact hl q v hq
theorem fget (l r:List Value):∀ (q:Nat) (v:Value),l[q]? = some v→(l++r).toArray[q]? = some v:=fun q v hq=>by
 have:=(List.getElem?_eq_some_iff.1 hq).1
 rw [List.getElem?_toArray,List.getElem?_append_left this]
 exact hq
theorem wpList_run1 {P:Program} {ops:Array Oper} {rest:List Oper} {o:Oper} {a:Act} {w:World} {Q:Exit→Act→World→Prop} (hg:o.guard=none) (dst:Option Tmp) (hdst:o.dst=dst)
  (v:Value) (w':World) (hrun:(execOp a.eval o).run P w=.ok (.value v) w') (h:wpList P ops Q rest (a.put dst v) w'):wpList P ops Q (o :: rest) a w:=by
 subst hdst
 refine wpList_plain hg fun K hK=>?_
 unfold Oper.wp
 rw [hrun,Oper.upon_value]
 exact hK _ _ h
theorem wp_run1 {P:Program} {o:Oper} {a:Act} {w w':World} {v:Value} {K:Act→World→Prop} {Q:Exit→Act→World→Prop} (hrun:(execOp a.eval o).run P w=.ok (.value v) w') (h:K (a.put o.dst v) w'):o.wp P a w K Q:=by
 unfold Oper.wp
 rw [hrun,Oper.upon_value]
 exact h
theorem stepW {P:Program} {ops:Array Oper} {md:Region.Mode} {C:World→Prop} {Q:Exit→Act→World→Prop} (i:Nat) {o:Oper} {fuel:Nat} {listed:Array Bool} {a:Act} {w:World} (hC:C w) (hr:Region.ready md ops listed=[i]) (ho:ops[i]? = some o) (hg:o.guard=none)
  (h:∀ K:Act→World→Prop,(∀ a w,wpAnyC Fence.wide 3 P md ops C Q fuel (listed.setIfInBounds i true) a w→K a w)→o.wp P a w K Q):wpAnyC Fence.wide 3 P md ops C Q (fuel+1) listed a w :=
 stepC i hC hr ho fun K hK=>step_wp hg (h K hK)
theorem stepR {P:Program} {ops:Array Oper} {md:Region.Mode} {C:World→Prop} {Q:Exit→Act→World→Prop} (i:Nat) {o:Oper} {fuel:Nat} {listed:Array Bool} {a:Act} {w:World} (hC:C w) (hr:Region.ready md ops listed=[i]) (ho:ops[i]? = some o) (hg:o.guard=none)
  (v:Value) (w':World) (hrun:(execOp a.eval o).run P w=.ok (.value v) w') (h:wpAnyC Fence.wide 3 P md ops C Q fuel (listed.setIfInBounds i true) (a.put o.dst v) w'):wpAnyC Fence.wide 3 P md ops C Q (fuel+1) listed a w :=
 stepW i hC hr ho hg fun K hK=>wp_run1 hrun (hK _ _ h)
theorem stepK {P:Program} {ops:Array Oper} {md:Region.Mode} {C:World→Prop} {Q:Exit→Act→World→Prop} (i:Nat) {o:Oper} {fuel:Nat} {listed:Array Bool} {a:Act} {w:World} (hC:C w) (hr:Region.ready md ops listed=[i]) (ho:ops[i]? = some o) (hg:o.guard=none)
  (f:FuncId) (args:Array Value) (hrun:(execOp a.eval o).run P w=.ok (.enter f args) w) {R:Ending→World→Prop} (hcall:Calls P f args w R)
  (h:∀ e w',R e w'→∃ v,e=.returned v∧wpAnyC Fence.wide 3 P md ops C Q fuel (listed.setIfInBounds i true) (a.put o.dst v) w'):wpAnyC Fence.wide 3 P md ops C Q (fuel+1) listed a w :=
 stepW i hC hr ho hg fun K hK=>by
  unfold Oper.wp
  rw [hrun]
  refine Calls.mono hcall fun e w' he=>?_
  obtain⟨v,rfl,hv⟩:=h e w' he
  exact hK _ _ hv
theorem stepS {P:Program} {ops:Array Oper} {md:Region.Mode} {C:World→Prop} {Q:Exit→Act→World→Prop} (i:Nat) {o:Oper} {fuel:Nat} {listed:Array Bool} {a:Act} {w:World} (hC:C w) (hr:Region.ready md ops listed=[i]) (ho:ops[i]? = some o) (hg:o.guard=none)
  (ty:TypeId) (x y:Operand) (hop:o.op=.store ty x y) (g:Nat) (cells:Array Value) (hx:a.eval x=.pointer (some ⟨g,0,none⟩)) (hy:a.eval y=.agg cells) (t:TypeId) (old:Array Value) (hh:w.heap[g]? = some (.cells old t (0,0))) (hi:(P.info? ty).map (·.size)=some cells.size) (hold:old.size=cells.size) (h1:cells.all (·.oneCell')=true)
  (h:wpAnyC Fence.wide 3 P md ops C Q fuel (listed.setIfInBounds i true) (a.put o.dst undef) (w.setRow g cells)):wpAnyC Fence.wide 3 P md ops C Q (fuel+1) listed a w :=
 stepW i hC hr ho hg fun K hK=>wp_store_row ty x y hop g cells hx hy t old hh hi hold h1 (hK _ _ h)
theorem deE_w {p:Pl} {n:Int} (h1:¬ p.1=16) (h2:¬ p.1=32):deE p n=150:=by unfold deE;rw [if_neg h1,if_neg h2]
theorem deE_16y {p:Pl} {n:Int} (h1:p.1=16) (h2:1≤p.2.1∧p.2.1≤n):deE p n=0:=by unfold deE;rw [if_pos h1,if_pos h2]
theorem deE_16n {p:Pl} {n:Int} (h1:p.1=16) (h2:¬ (1≤p.2.1∧p.2.1≤n)):deE p n=151:=by unfold deE;rw [if_pos h1,if_neg h2]
theorem deE_32y {p:Pl} {n:Int} (h1:p.1=32) (h2:p.2.1=n):deE p n=0:=by unfold deE;rw [if_neg (by omega),if_pos h1,if_pos h2]
theorem deE_32n {p:Pl} {n:Int} (h1:p.1=32) (h2:¬ p.2.1=n):deE p n=151:=by unfold deE;rw [if_neg (by omega),if_pos h1,if_neg h2]
theorem rdeep_any (p1 p2 p3 p4 p5 p6 n:Int) (hn:1≤n) (W:World) :
  Calls Tryz.prog 18 #[.agg #[U i6 p1,U i6 p2,U i6 p3,U i6 p4,U i6 p5,U i6 p6],U i6 n] W fun e w'=>e=.returned (U i6 (deE (p1,p2,p3,p4,p5,p6) n))∧Below W.heap.size W w':=by
 by_cases h16:p1=16
 ·subst h16
  by_cases a1:p2<1
  ·rw [deE_16n rfl (by simp only;omega)]
   go_enter Tryz.func18,Tryz.ntmps18
   go_wp2
   go_ret
   exact⟨rfl,bal _ _⟩
  ·by_cases a2:n<p2
   ·rw [deE_16n rfl (by simp only;omega)]
    go_enter Tryz.func18,Tryz.ntmps18
    go_wp2
    go_ret
    exact⟨rfl,bal _ _⟩
   ·rw [deE_16y rfl (by simp only;omega)]
    go_enter Tryz.func18,Tryz.ntmps18
    go_wp2
    go_ret
    exact⟨rfl,bal _ _⟩
 ·by_cases h32:p1=32
  ·subst h32
   clear h16
   by_cases a1:p2<1
   ·rw [deE_32n rfl (by simp only;omega)]
    go_enter Tryz.func18,Tryz.ntmps18
    go_wp2
    go_ret
    exact⟨rfl,bal _ _⟩
   ·by_cases a2:n<p2
    ·rw [deE_32n rfl (by simp only;omega)]
     go_enter Tryz.func18,Tryz.ntmps18
     go_wp2
     go_ret
     exact⟨rfl,bal _ _⟩
    ·by_cases a3:p2=n
     ·rw [deE_32y rfl a3]
      subst a3
      clear a2
      go_enter Tryz.func18,Tryz.ntmps18
      go_wp2
      go_ret
      exact⟨rfl,bal _ _⟩
     ·rw [deE_32n rfl a3]
      go_enter Tryz.func18,Tryz.ntmps18
      go_wp2
      go_ret
      exact⟨rfl,bal _ _⟩
  ·rw [deE_w h16 h32]
   have g1:(p1 != 16)=true:=by simp [h16]
   have g2:(p1 != 32)=true:=by simp [h32]
   go_enter Tryz.func18,Tryz.ntmps18
   go_wp2
   go_ret
   exact⟨rfl,bal _ _⟩
def Lit9 (x:Int):Prop:=0≤x∧x≤1000000000000
def nuP (O:Nat→Nat→Int) (RL:List (Int×Int×Int)) (i:Nat):Int:=if rdB (O i 0)=true then (RL.getD (i+1) (0,0,0)).2.2 else 0
theorem osh_at {w:World} {base:Nat} {v:Value} {L:List (Int×Int×Int)} {n:Nat} (h:OSh w base v L) (hn:L.length=n+1):∃ g cap,v=.slice (some ⟨g,0,none⟩) (n+1) cap∧n+1≤cap∧cap≤9223372036854775807∧∀ i,i<n+1→w.cell? ⟨g,i*3+2,none⟩=some (U i6 (L.getD i (0,0,0)).2.2):=by
 obtain⟨g,cap,cur,q1,q2,q3,q4,q5⟩:=h.cu (by omega)
 unfold maxLen at q5
 refine⟨g,cap,by rw [q1,hn],by rw [← hn];exact q4.2.1,by omega,fun i hi=>?_⟩
 obtain⟨b1,b2,b3⟩:=q4.at (show i<L.length by omega)
 rw [(cells_at q3).1]
 exact b3
theorem rchans_any (h w c lo hi ot:Int) (oa:Option Addr) (on oc:Nat) (O:Nat→Nat→Int) (Z B:Nat→List Int) (W:World) (hL:LRow W oa on oc O Z B) (Rw:Int) (RL:List (Int×Int×Int)) (hG:gtR O h w c lo hi ot on=(0,0,RL,Rw)) (i:Nat) (hi0:i<on) :
  Calls Tryz.prog 17 #[.agg #[U i6 h,U i6 w,U i6 c,U i6 lo,U i6 hi,Sl oa on oc,U i6 ot],U i6 ((i:Int)+1)] W fun e w'=>e=.returned (U i6 (nuP O RL i))∧Below W.heap.size W w':=by
 obtain⟨-,hRl,ho64,-,-,-⟩:=gtR_ok hG
 have hK:Hid (∀ w',Below W.heap.size W w'→_):=fun w' hb=>look_any h w c lo hi ot oa on oc O Z B w' (hL.below hb) (by omega)
 rw [hG] at hK
 simp only at hK
 obtain⟨x,wa,lw,cw,ba,lb,cb,rfl,-,-,hop⟩:=hL.m.at hi0
 have hk:=hop 0 _ rfl
 have e0:(x.add (i*22)).add 0=x.add (i*22):=by rw [Addr.add_add,Nat.add_zero]
 rw [e0] at hk
 have Hk:Hid (W.cell? (x.add (i*22))=some (U i6 (O i 0))):=hk
 have m1:=hL.1
 have m2:=hL.2.1
 unfold maxLen at m2
 have HR:Hid (∀ w,_):=rred_any (O i 0)
 obtain⟨nu,hnu⟩:∃ nu,nuP O RL i=nu:=⟨_,rfl⟩
 rw [hnu]
 have HN:Hid ((if rdB (O i 0)=true then (RL.getD (i+1) (0,0,0)).2.2 else 0)=nu):=hnu
 clear hL hG hop hk hnu
 have s0:=(St.start W).new (c:=#[U i6 h,U i6 w,U i6 c,U i6 lo,U i6 hi,Sl (some x) on oc,U i6 ot]) (t:=26)
 go_enter Tryz.func17,Tryz.ntmps17
 go_wp2_with fail
 refine (hK.out _ s0.below).mono ?_
 rintro e w1 ⟨v,rfl,hO,hb⟩
 obtain⟨g,cap,rfl,hcap,hcm,hsh⟩:=osh_at hO hRl
 have s1:=(s0.call hb).call (bal w1 (.cells #[U i6 0,U i6 0,U i6 0] 35))
 have hk1:(w1.alloc (.cells #[U i6 0,U i6 0,U i6 0] 35)).cell? (x.add (i*22))=some (U i6 (O i 0)):=(s1.below.cell (World.block_lt_of_cell? W _ Hk.out)).trans Hk.out
 have hc1:=hsh (i+1) (by omega)
 have hc2:(w1.alloc (.cells #[U i6 0,U i6 0,U i6 0] 35)).cell? ⟨g,(i+1)*3+2,none⟩=some (U i6 (RL.getD (i+1) (0,0,0)).2.2):=((bal w1 _).cell (World.block_lt_of_cell? w1 _ hc1)).trans hc1
 obtain⟨c1,f1,z1,-⟩:=(s0.call hb).rules
 clear hb hO s0 hsh hc1 hRl hK Hk
 go_upto_region 2 with fail
 obtain⟨w2,hw2⟩:∃ w2,w1.alloc (.cells #[U i6 0,U i6 0,U i6 0] 35)=w2:=⟨_,rfl⟩
 rw [hw2] at s1 hk1 hc2 ⊢
 have S2:Hid (St W w2 _):=s1
 clear hw2 c1 f1 z1
 obtain⟨c1,f1,z1,-⟩:=s1.rules
 clear s1
 obtain⟨C,hC⟩:∃ C,(RL.getD (i+1) (0,0,0)).2.2=C:=⟨_,rfl⟩
 rw [hC] at HN hc2
 clear hC
 cases q:rdB (O i 0) with
 | true =>
  have hn:=HN.out
  rw [q,if_pos rfl] at hn
  subst hn
  rw [q] at HR
  go_wp2_with fail
  refine (HR.out _).mono ?_
  rintro e w3 ⟨rfl,hw3⟩
  have hw3':=hw3.symm
  subst hw3'
  go_wp2
  go_ret
  exact⟨rfl,S2.out.below⟩
 | false =>
  have hn:=HN.out
  rw [q,if_neg (by decide)] at hn
  subst hn
  rw [q] at HR
  go_wp2_with fail
  refine (HR.out _).mono ?_
  rintro e w3 ⟨rfl,hw3⟩
  have hw3':=hw3.symm
  subst hw3'
  go_wp2
  go_ret
  exact⟨rfl,S2.out.below⟩
end Go.Proofs.YtehofmkpgopmpaaGreat
