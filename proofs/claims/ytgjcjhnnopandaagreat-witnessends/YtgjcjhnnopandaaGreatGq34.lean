/- The document's answers of layer 13 at an op that is there. What the document's Narrow of layer 13 and safe of layer 18 return. The document's Numbers and Reaches of layer 23. The document's Leaks of layer 23. -/
import Derived.Test.YtgjcjhnnopandaaGreatGq28
import Derived.Test.YtgjcjhnnopandaaGreatGq31
import Derived.Test.YtgjcjhnnopandaaGreatGq32
import Derived.Test.YtgjcjhnnopandaaGreatGq33
namespace Go.Proofs.YtgjcjhnnopandaaGreat
open Go.Value renaming int → U, slice → Sl
open Go.IntKind renaming i64 → i6
set_option maxRecDepth 100000
set_option maxHeartbeats 16000000
open Go.ChangeShapes Go.WideShapes Go.ChangeAt Go.RowKit
set_option linter.unusedVariables false
theorem rask (h w c lo hi ot:Int) (oa:Option Addr) (on oc:Nat) (O:Nat→Nat→Int) (Z B:Nat→List Int) (W:World) (hL:LRow W oa on oc O Z B) (hon:on≤1000000000000) (op ch:Int) :
  (∃ E:Int,E≠0∧(∀ W',Below W.heap.size W W'→(Calls Tryz.prog 55 #[.agg #[U i6 h,U i6 w,U i6 c,U i6 lo,U i6 hi,Sl oa on oc,U i6 ot],U i6 op,U i6 ch,U i6 0] W' fun e w'=>e=.returned (.tuple #[Sl none 0 0,U i6 0,U i6 E])∧Below W'.heap.size W' w')∧∀ slo shi:Int,Calls Tryz.prog 36 #[.agg #[U i6 h,U i6 w,U i6 c,U i6 lo,U i6 hi,Sl oa on oc,U i6 ot],U i6 op,U i6 ch,.agg #[U i6 slo,U i6 shi]] W' fun e w'=>e=.returned (.tuple #[.agg #[U i6 0,U i6 0,Sl none 0 0,U i6 0,U i6 0,U i6 0,U i6 0,U i6 0,U i6 0,U i6 0,U i6 0,U i6 0,U i6 0,Sl none 0 0,U i6 0],U i6 E])∧Below W'.heap.size W' w') ∧
    (∀ W',Below W.heap.size W W'→Calls Tryz.prog 18 #[.agg #[U i6 h,U i6 w,U i6 c,U i6 lo,U i6 hi,Sl oa on oc,U i6 ot],U i6 op,U i6 ch] W' fun e w'=>e=.returned (.tuple #[.agg #[U i6 0,U i6 0,U i6 0,U i6 0,U i6 0,U i6 0,U i6 0,U i6 0,U i6 0,U i6 0,U i6 0,U i6 0,Sl none 0 0,Sl none 0 0,U i6 0,U i6 0,U i6 0,U i6 0,U i6 0,U i6 0,U i6 0,U i6 0,U i6 0,U i6 0,U i6 0,U i6 0,U i6 0,U i6 0],U i6 E])∧Below W'.heap.size W' w')) ∨
  (∃ (RL:List (Int×Int×Int)) (Rw:Int),gtR O h w c lo hi ot on=(0,0,RL,Rw)∧∃ (i:Nat) (x:Addr) (wa:Option Addr) (lw cw:Nat) (ba:Option Addr) (lb cb:Nat) (x0 y0 z0 H V C:Int),op=(i:Int)+1∧Fnd W oa on O Z B RL i x wa lw cw ba lb cb x0 y0 z0 H V C∧(1≤ch∧ch≤C)):=by
 obtain⟨E,hf⟩:∃ E,fiE O h w c lo hi ot on op=E:=⟨_,rfl⟩
 by_cases hE:E=0
 ·subst hE
  obtain⟨RL,Rw,hR,i,x,wa,lw,cw,ba,lb,cb,x0,y0,z0,H,V,C,rfl,hF⟩:=found h w c lo hi ot oa on oc O Z B W hL op hf
  by_cases hch:1≤ch∧ch≤C
  ·exact .inr ⟨RL,Rw,hR,i,x,wa,lw,cw,ba,lb,cb,x0,y0,z0,H,V,C,rfl,hF,hch⟩
  ·refine .inl ⟨3,by omega,bofe_p h w c lo hi ot oa on oc O Z B W hL ch RL Rw hR i x wa lw cw ba lb cb x0 y0 z0 H V C hF hch _ 3 rfl rfl,fun W' hb=>?_⟩
   by_cases h0:0≤ch∧ch≤C
   ·obtain rfl:ch=0:=by omega
    exact fch_0 (O:=O) (i:=i) (x:=x) (wa:=wa) (lw:=lw) (cw:=cw) (ba:=ba) (lb:=lb) (cb:=cb) (x0:=x0) (y0:=y0) (z0:=z0) (H:=H) (V:=V) (C:=C) h w c lo hi ot oa on oc W' ((i:Int)+1) (fun W'' hb'=>rfind_ok h w c lo hi ot oa on oc O Z B W'' (hL.below (hb.trans (hb'.mono hb.size))) hon 0 RL Rw hR i x wa lw cw ba lb cb x0 y0 z0 H V C (hF.below (hb.trans (hb'.mono hb.size))) h0)
   ·exact fch_z (x9:=0) h w c lo hi ot oa on oc W' ((i:Int)+1) ch 3 (by omega) (fun W'' hb'=>rfind_no h w c lo hi ot oa on oc O Z B W'' (hL.below (hb.trans (hb'.mono hb.size))) hon ch RL Rw hR i x wa lw cw ba lb cb x0 y0 z0 H V C (hF.below (hb.trans (hb'.mono hb.size))) h0)
 ·exact .inl ⟨E,hE,bofe_e h w c lo hi ot oa on oc O Z B W hL op ch E hf hE,fun W' hb=>fch_z (x9:=0) h w c lo hi ot oa on oc W' op ch E (by omega) (fun W'' hb'=>rfind_bad h w c lo hi ot oa on oc O Z B W'' (hL.below (hb.trans (hb'.mono hb.size))) hon op ch E hf hE)⟩
theorem rfc_ok (h w c lo hi ot:Int) (oa:Option Addr) (on oc:Nat) (O:Nat→Nat→Int) (Z B:Nat→List Int) (W:World) (hL:LRow W oa on oc O Z B) (hon:on≤1000000000000) (ch:Int) (RL:List (Int×Int×Int)) (Rw:Int) (hR:gtR O h w c lo hi ot on=(0,0,RL,Rw)) (i:Nat) (x:Addr) (wa:Option Addr) (lw cw:Nat) (ba:Option Addr) (lb cb:Nat) (x0 y0 z0 H V C:Int) (hF:Fnd W oa on O Z B RL i x wa lw cw ba lb cb x0 y0 z0 H V C) (hch:1≤ch∧ch≤C):∀ W',Below W.heap.size W W'→Calls Tryz.prog 18 #[.agg #[U i6 h,U i6 w,U i6 c,U i6 lo,U i6 hi,Sl oa on oc,U i6 ot],U i6 ((i:Int)+1),U i6 ch] W' fun e w'=>e=.returned (.tuple #[.agg #[U i6 (O i 0),U i6 (O i 1),U i6 (O i 2),U i6 (O i 3),U i6 (O i 4),U i6 (O i 5),U i6 (O i 6),U i6 (O i 7),U i6 (O i 8),U i6 (O i 9),U i6 (O i 10),U i6 (O i 11),Sl wa lw cw,Sl ba lb cb,U i6 (O i 14),U i6 (O i 15),U i6 (O i 16),U i6 (O i 17),U i6 (O i 18),U i6 (O i 19),U i6 (O i 20),U i6 (O i 21),U i6 x0,U i6 y0,U i6 z0,U i6 H,U i6 V,U i6 C],U i6 0])∧Below W'.heap.size W' w':=fun W' hb =>
 fch_r (O:=O) (i:=i) (x:=x) (wa:=wa) (lw:=lw) (cw:=cw) (ba:=ba) (lb:=lb) (cb:=cb) (x0:=x0) (y0:=y0) (z0:=z0) (H:=H) (V:=V) (C:=C) h w c lo hi ot oa on oc W' ((i:Int)+1) ch 0 (fun q=>by omega) (fun W'' hb'=>rfind_ok h w c lo hi ot oa on oc O Z B W'' (hL.below (hb.trans (hb'.mono hb.size))) hon ch RL Rw hR i x wa lw cw ba lb cb x0 y0 z0 H V C (hF.below (hb.trans (hb'.mono hb.size))) ⟨by omega,hch.2⟩)
theorem rrw_ok (h w c lo hi ot:Int) (oa:Option Addr) (on oc:Nat) (O:Nat→Nat→Int) (Z B:Nat→List Int) (W:World) (hL:LRow W oa on oc O Z B) (ch:Int) (RL:List (Int×Int×Int)) (Rw:Int) (hR:gtR O h w c lo hi ot on=(0,0,RL,Rw)) (i:Nat) (x:Addr) (wa:Option Addr) (lw cw:Nat) (ba:Option Addr) (lb cb:Nat) (x0 y0 z0 H V C:Int) (hF:Fnd W oa on O Z B RL i x wa lw cw ba lb cb x0 y0 z0 H V C) (hch:1≤ch∧ch≤C) (slo shi:Int) (hs:-128≤slo∧slo≤shi∧shi≤127):∀ W',Below W.heap.size W W'→Calls Tryz.prog 22 #[.agg #[U i6 (O i 0),U i6 (O i 1),U i6 (O i 2),U i6 (O i 3),U i6 (O i 4),U i6 (O i 5),U i6 (O i 6),U i6 (O i 7),U i6 (O i 8),U i6 (O i 9),U i6 (O i 10),U i6 (O i 11),Sl wa lw cw,Sl ba lb cb,U i6 (O i 14),U i6 (O i 15),U i6 (O i 16),U i6 (O i 17),U i6 (O i 18),U i6 (O i 19),U i6 (O i 20),U i6 (O i 21),U i6 x0,U i6 y0,U i6 z0,U i6 H,U i6 V,U i6 C],U i6 ch,.agg #[U i6 slo,U i6 shi]] W' fun e w'=>(∃ v,e=.returned v∧RwO w' W'.heap.size v (fun (j:Nat)=>enL slo shi (O i 19) (siL (O i 0) (O i 4) (O i 5) (O i 6) (O i 7) (O i 8) (O i 9) (O i 10) (O i 11) x0 y0 z0 ch (j:Int) (Z i))) (H*V).toNat)∧Below W'.heap.size W' w':=fun W' hb=>by
 have hSit:=hF.2.2.2.2.2.2.2.2.2.1
 have hz:=hF.2.2.2.2.2.1.2.2.2.1
 obtain⟨-,-,-,-,hp,hbi,hHV⟩:=bfacts hL RL Rw hR i x wa lw cw ba lb cb x0 y0 z0 H V C hF hch
 have e:(((H*V).toNat:Nat):Int)=H*V:=by omega
 exact rrows_any (O i 0) (O i 1) (O i 2) (O i 3) (O i 4) (O i 5) (O i 6) (O i 7) (O i 8) (O i 9) (O i 10) (O i 11) wa lw cw ba lb cb (O i 14) (O i 15) (O i 16) (O i 17) (O i 18) (O i 19) (O i 20) (O i 21) x0 y0 z0 H V C W' ch slo shi (fun (j:Nat)=>enL slo shi (O i 19) (siL (O i 0) (O i 4) (O i 5) (O i 6) (O i 7) (O i 8) (O i 9) (O i 10) (O i 11) x0 y0 z0 ch (j:Int) (Z i))) (fun (j:Nat)=>siL (O i 0) (O i 4) (O i 5) (O i 6) (O i 7) (O i 8) (O i 9) (O i 10) (O i 11) x0 y0 z0 ch (j:Int) (Z i)) (H*V).toNat (by omega) (fun j=>rfl) (fun j=>⟨(siL_facts hSit hz hch _).1,fun t ht=>((siL_facts hSit hz hch _).2 t ht).1⟩) hs hp (fun W''=>by rw [e];exact rpos_any (O i 0) (O i 1) (O i 2) (O i 3) (O i 4) (O i 5) (O i 6) (O i 7) (O i 8) (O i 9) (O i 10) (O i 11) wa lw cw ba lb cb (O i 14) (O i 15) (O i 16) (O i 17) (O i 18) (O i 19) (O i 20) (O i 21) x0 y0 z0 H V C W'' hSit.2.2.1) (fun W'' j hb' hj=>rterms_any (O i 0) (O i 1) (O i 2) (O i 3) (O i 4) (O i 5) (O i 6) (O i 7) (O i 8) (O i 9) (O i 10) (O i 11) wa lw cw ba lb cb (O i 14) (O i 15) (O i 16) (O i 17) (O i 18) (O i 19) (O i 20) (O i 21) x0 y0 z0 H V C W'' (Z i) (hF.2.2.2.2.2.1.below (hb.trans (hb'.mono hb.size))) hSit ch j hch ⟨by omega,by omega⟩)
theorem rbg_ok (h w c lo hi ot:Int) (oa:Option Addr) (on oc:Nat) (O:Nat→Nat→Int) (Z B:Nat→List Int) (W:World) (hL:LRow W oa on oc O Z B) (ch:Int) (RL:List (Int×Int×Int)) (Rw:Int) (hR:gtR O h w c lo hi ot on=(0,0,RL,Rw)) (i:Nat) (x:Addr) (wa:Option Addr) (lw cw:Nat) (ba:Option Addr) (lb cb:Nat) (x0 y0 z0 H V C:Int) (hF:Fnd W oa on O Z B RL i x wa lw cw ba lb cb x0 y0 z0 H V C) (hch:1≤ch∧ch≤C):∀ W',Below W.heap.size W W'→Calls Tryz.prog 23 #[.agg #[U i6 (O i 0),U i6 (O i 1),U i6 (O i 2),U i6 (O i 3),U i6 (O i 4),U i6 (O i 5),U i6 (O i 6),U i6 (O i 7),U i6 (O i 8),U i6 (O i 9),U i6 (O i 10),U i6 (O i 11),Sl wa lw cw,Sl ba lb cb,U i6 (O i 14),U i6 (O i 15),U i6 (O i 16),U i6 (O i 17),U i6 (O i 18),U i6 (O i 19),U i6 (O i 20),U i6 (O i 21),U i6 x0,U i6 y0,U i6 z0,U i6 H,U i6 V,U i6 C],U i6 ch] W' fun e w'=>e=.returned (.agg #[U i6 (biA (O i 0) ch (B i)),U i6 (biA (O i 0) ch (B i))])∧Below W'.heap.size W' w':=fun W' hb =>
 rbeg_any (O i 0) (O i 1) (O i 2) (O i 3) (O i 4) (O i 5) (O i 6) (O i 7) (O i 8) (O i 9) (O i 10) (O i 11) wa lw cw ba lb cb (O i 14) (O i 15) (O i 16) (O i 17) (O i 18) (O i 19) (O i 20) (O i 21) x0 y0 z0 H V C W' (biA (O i 0) ch (B i)) ch (fun W'' hb'=>rbias_any (O i 0) (O i 1) (O i 2) (O i 3) (O i 4) (O i 5) (O i 6) (O i 7) (O i 8) (O i 9) (O i 10) (O i 11) wa lw cw ba lb cb (O i 14) (O i 15) (O i 16) (O i 17) (O i 18) (O i 19) (O i 20) (O i 21) x0 y0 z0 H V C W'' (B i) (hF.2.2.2.2.2.2.1.below (hb.trans (hb'.mono hb.size))) hF.2.2.2.2.2.2.2.2.2.1 ch hch)
theorem dto_ok (h w c lo hi ot:Int) (oa:Option Addr) (on oc:Nat) (O:Nat→Nat→Int) (Z B:Nat→List Int) (W:World) (hL:LRow W oa on oc O Z B) (ch:Int) (RL:List (Int×Int×Int)) (Rw:Int) (hR:gtR O h w c lo hi ot on=(0,0,RL,Rw)) (i:Nat) (x:Addr) (wa:Option Addr) (lw cw:Nat) (ba:Option Addr) (lb cb:Nat) (x0 y0 z0 H V C:Int) (hF:Fnd W oa on O Z B RL i x wa lw cw ba lb cb x0 y0 z0 H V C) (hch:1≤ch∧ch≤C) (slo shi:Int) (hs:-128≤slo∧slo≤shi∧shi≤127):∀ W',Below W.heap.size W W'→Calls Tryz.prog 9 #[.agg #[U i6 (O i 0),U i6 (O i 1),U i6 (O i 2),U i6 (O i 3),U i6 (O i 4),U i6 (O i 5),U i6 (O i 6),U i6 (O i 7),U i6 (O i 8),U i6 (O i 9),U i6 (O i 10),U i6 (O i 11),Sl wa lw cw,Sl ba lb cb,U i6 (O i 14),U i6 (O i 15),U i6 (O i 16),U i6 (O i 17),U i6 (O i 18),U i6 (O i 19),U i6 (O i 20),U i6 (O i 21),U i6 x0,U i6 y0,U i6 z0,U i6 H,U i6 V,U i6 C],U i6 ch,.agg #[U i6 slo,U i6 shi]] W' fun e w'=>e=.returned (.agg #[U i6 (hbT (biA (O i 0) ch (B i)) (fun (j:Nat)=>enL slo shi (O i 19) (siL (O i 0) (O i 4) (O i 5) (O i 6) (O i 7) (O i 8) (O i 9) (O i 10) (O i 11) x0 y0 z0 ch (j:Int) (Z i))) (H*V).toNat).1,U i6 (hbT (biA (O i 0) ch (B i)) (fun (j:Nat)=>enL slo shi (O i 19) (siL (O i 0) (O i 4) (O i 5) (O i 6) (O i 7) (O i 8) (O i 9) (O i 10) (O i 11) x0 y0 z0 ch (j:Int) (Z i))) (H*V).toNat).2])∧Below W'.heap.size W' w':=fun W' hb=>by
 have hSit:=hF.2.2.2.2.2.2.2.2.2.1
 have hz:=hF.2.2.2.2.2.1.2.2.2.1
 obtain⟨-,-,-,-,hp,hbi,hHV⟩:=bfacts hL RL Rw hR i x wa lw cw ba lb cb x0 y0 z0 H V C hF hch
 exact rtot_any (O i 0) (O i 1) (O i 2) (O i 3) (O i 4) (O i 5) (O i 6) (O i 7) (O i 8) (O i 9) (O i 10) (O i 11) wa lw cw ba lb cb (O i 14) (O i 15) (O i 16) (O i 17) (O i 18) (O i 19) (O i 20) (O i 21) x0 y0 z0 H V C W' ch slo shi (biA (O i 0) ch (B i)) (fun (j:Nat)=>enL slo shi (O i 19) (siL (O i 0) (O i 4) (O i 5) (O i 6) (O i 7) (O i 8) (O i 9) (O i 10) (O i 11) x0 y0 z0 ch (j:Int) (Z i))) (H*V).toNat (by omega) (fun j=>have q:=row_facts hSit hz hch hs hp (j:Int);⟨q.1,q.2.2⟩) (fun W'' hb'=>rrw_ok h w c lo hi ot oa on oc O Z B W hL ch RL Rw hR i x wa lw cw ba lb cb x0 y0 z0 H V C hF hch slo shi hs W'' (hb.trans (hb'.mono hb.size))) hbi (fun W'' hb'=>rbg_ok h w c lo hi ot oa on oc O Z B W hL ch RL Rw hR i x wa lw cw ba lb cb x0 y0 z0 H V C hF hch W'' (hb.trans (hb'.mono hb.size)))
theorem dle_ok (h w c lo hi ot:Int) (oa:Option Addr) (on oc:Nat) (O:Nat→Nat→Int) (Z B:Nat→List Int) (W:World) (hL:LRow W oa on oc O Z B) (ch:Int) (RL:List (Int×Int×Int)) (Rw:Int) (hR:gtR O h w c lo hi ot on=(0,0,RL,Rw)) (i:Nat) (x:Addr) (wa:Option Addr) (lw cw:Nat) (ba:Option Addr) (lb cb:Nat) (x0 y0 z0 H V C:Int) (hF:Fnd W oa on O Z B RL i x wa lw cw ba lb cb x0 y0 z0 H V C) (hch:1≤ch∧ch≤C):∀ W',Below W.heap.size W W'→Calls Tryz.prog 12 #[.agg #[U i6 (O i 0),U i6 (O i 1),U i6 (O i 2),U i6 (O i 3),U i6 (O i 4),U i6 (O i 5),U i6 (O i 6),U i6 (O i 7),U i6 (O i 8),U i6 (O i 9),U i6 (O i 10),U i6 (O i 11),Sl wa lw cw,Sl ba lb cb,U i6 (O i 14),U i6 (O i 15),U i6 (O i 16),U i6 (O i 17),U i6 (O i 18),U i6 (O i 19),U i6 (O i 20),U i6 (O i 21),U i6 x0,U i6 y0,U i6 z0,U i6 H,U i6 V,U i6 C]] W' fun e w'=>e=.returned (U i6 ((siL (O i 0) (O i 4) (O i 5) (O i 6) (O i 7) (O i 8) (O i 9) (O i 10) (O i 11) x0 y0 z0 ch 0 (Z i)).length:Int))∧Below W'.heap.size W' w':=fun W' hb=>by
 have hSit:=hF.2.2.2.2.2.2.2.2.2.1
 have e:(((siL (O i 0) (O i 4) (O i 5) (O i 6) (O i 7) (O i 8) (O i 9) (O i 10) (O i 11) x0 y0 z0 ch 0 (Z i)).length:Nat):Int)=stR (O i 0) (O i 4) (O i 5) x0 y0 z0:=by
  unfold siL;rw [tmL_len]
  have:=hSit.2.2.2.2.2.2.2.2.1;omega
 rw [e]
 exact rlen_any (O i 0) (O i 1) (O i 2) (O i 3) (O i 4) (O i 5) (O i 6) (O i 7) (O i 8) (O i 9) (O i 10) (O i 11) wa lw cw ba lb cb (O i 14) (O i 15) (O i 16) (O i 17) (O i 18) (O i 19) (O i 20) (O i 21) x0 y0 z0 H V C W' hSit
theorem rretB {x y:Bool} (h:x=y):Ending.returned (.bool x)=.returned (.bool y):=by rw [h]
theorem rnar_16 (a b:Int) (W:World):Calls Tryz.prog 35 #[.agg #[U i6 a,U i6 b],U i6 16] W fun e w'=>e=.returned (.bool (wiB (-32768) 32767 a b))∧Below W.heap.size W w':=by
 have s0:=(St.start W).new (c:=#[U i6 a,U i6 b]) (t:=28)
 by_cases h1:-32768≤a
 ·have HR:Hid (decide (b<32768)=wiB (-32768) 32767 a b):=by
   unfold Hid wiB
   by_cases h2:b<32768
   ·rw [decide_eq_true h2,decide_eq_true ⟨h1,by omega⟩]
   ·rw [decide_eq_false h2,decide_eq_false (by omega)]
  go_enter Tryz.func35,Tryz.ntmps35
  go_wp2
  go_ret
  exact⟨rretB HR.out,s0.below⟩
 ·have HR:Hid (false=wiB (-32768) 32767 a b):=by unfold Hid wiB;rw [decide_eq_false (by omega)]
  go_enter Tryz.func35,Tryz.ntmps35
  go_wp2
  go_ret
  exact⟨rretB HR.out,s0.below⟩
theorem RwU.below {w w':World} {lo:Nat} {v:Value} {R:Nat→List (Int×Int)} {N:Nat} {us:List Value} (h:RwU w lo v R N us) (g:Below w.heap.size w w'):RwU w' lo v R N us:=by
 obtain⟨h1,h2,h3⟩:=h
 refine⟨h1,World.ownsRow.kept h2 (row:=none) ⟨g.os,g.tape,g.output,g.size,fun i hi _=>g.block i hi⟩ ?_,fun j hj=>(h3 j hj).below g⟩
 cases e:v.ownBlock with
 | none=>exact .inl rfl
 | some b=>exact .inr (by simp)
def okI (d:Nat) (E:List (Int×Int)) (j:Nat):Prop:=∀ i,i<j→w16 (psm d E i)=true∧w16 (E.getD i (0,0))=true
def okR (d:Nat) (R:Nat→List (Int×Int)) (k:Nat):Prop:=∀ y,y<k→okI d (R y) (R y).length
theorem okI_0 (d:Nat) (E:List (Int×Int)):okI d E 0:=fun i h=>absurd h (by omega)
theorem okR_0 (d:Nat) (R:Nat→List (Int×Int)):okR d R 0:=fun i h=>absurd h (by omega)
theorem okI_succ {d:Nat} {E:List (Int×Int)} {j:Nat} (h:okI d E j) (g1:w16 (psm d E j)=true) (g2:w16 (E.getD j (0,0))=true):okI d E (j+1):=fun i hi=>by
 by_cases q:i=j
 ·subst q;exact⟨g1,g2⟩
 ·exact h i (by omega)
theorem okR_succ {d:Nat} {R:Nat→List (Int×Int)} {k:Nat} (h:okR d R k) (g:okI d (R k) (R k).length):okR d R (k+1):=fun y hy=>by
 by_cases q:y=k
 ·subst q;exact g
 ·exact h y (by omega)
theorem ok_all {d:Nat} (hd:0<d) {R:Nat→List (Int×Int)} {N:Nat} (hN:0<N) (h0:0<(R 0).length) (h:okR d R N):w16 (hbD d R N)=true:=by
 have hne:piT (fun E=>paL d E++E) R N≠[]:=fun e=>by
  have:(R 0).getD 0 (0,0)∈piT (fun E=>paL d E++E) R N:=mem_piT.2 ⟨0,hN,List.mem_append_right _ (by rw [List.getD_eq_getElem?_getD,List.getElem?_eq_getElem h0];exact List.getElem_mem _)⟩
  rw [e] at this;cases this
 have key:∀ x∈piT (fun E=>paL d E++E) R N,w16 x=true:=fun x hx=>by
  obtain⟨y,hy,hx'⟩:=mem_piT.1 hx
  rcases List.mem_append.1 hx' with q | q
  ·obtain⟨i,hi,rfl⟩:=(mem_paL hd).1 q
   exact (h y hy i hi).1
  ·obtain⟨i,hi,rfl⟩:=List.mem_iff_getElem.1 q
   have:=(h y hy i hi).2
   rwa [List.getD_eq_getElem?_getD,List.getElem?_eq_getElem hi] at this
 obtain⟨-,⟨x,hx,ex⟩,⟨y,hy,ey⟩⟩:=huA_is hne
 have k1:=of_decide_eq_true (key x hx)
 have k2:=of_decide_eq_true (key y hy)
 show w16 (huA _)=true
 exact decide_eq_true ⟨by omega,by omega⟩
theorem no_psm {d:Nat} (hd:0<d) {R:Nat→List (Int×Int)} {N y j:Nat} (hy:y<N) (hj:j<(R y).length) (h:w16 (psm d (R y) j)=false):false=w16 (hbD d R N):=by
 cases q:w16 (hbD d R N) with
 | false=>rfl
 | true =>
  have hx:psm d (R y) j∈piT (fun E=>paL d E++E) R N:=mem_piT.2 ⟨y,hy,List.mem_append_left _ ((mem_paL hd).2 ⟨j,hj,rfl⟩)⟩
  have:=w16_in (hul_has hx) q
  rw [h] at this;cases this
theorem no_end {d:Nat} {R:Nat→List (Int×Int)} {N y j:Nat} (hy:y<N) (hj:j<(R y).length) (h:w16 ((R y).getD j (0,0))=false):false=w16 (hbD d R N):=by
 cases q:w16 (hbD d R N) with
 | false=>rfl
 | true =>
  have hm:(R y).getD j (0,0)∈R y:=by rw [List.getD_eq_getElem?_getD,List.getElem?_eq_getElem hj];exact List.getElem_mem _
  have hx:(R y).getD j (0,0)∈piT (fun E=>paL d E++E) R N:=mem_piT.2 ⟨y,hy,List.mem_append_right _ hm⟩
  have:=w16_in (hul_has hx) q
  rw [h] at this;cases this
theorem rsaf_any (lo:Nat) (v:Value) (R:Nat→List (Int×Int)) (N:Nat) (us:List Value) (W:World) (hU:RwU W lo v R N us) (hN:N≤10000000) (hN0:0<N) (hR:∀ j,Rb (R j)∧(R j).length≤512) (h00:0<(R 0).length) (d:Nat) (hd:0<d) (hd2:d≤512) :
  Calls Tryz.prog 32 #[v,U i6 (d:Int)] W fun e w'=>e=.returned (.bool (w16 (hbD d R N)))∧Below W.heap.size W w':=by
 obtain⟨X,hX⟩:∃ X,w16 (hbD d R N)=X:=⟨_,rfl⟩
 have HAll:Hid (okR d R N→X=true):=fun q=>by rw [← hX];exact ok_all hd hN0 h00 q
 have HNo1:Hid (∀ y j,y<N→j<(R y).length→w16 (psm d (R y) j)=false→false=X):=fun y j h1 h2 h3=>by rw [← hX];exact no_psm hd h1 h2 h3
 have HNo2:Hid (∀ y j,y<N→j<(R y).length→w16 ((R y).getD j (0,0))=false→false=X):=fun y j h1 h2 h3=>by rw [← hX];exact no_end h1 h2 h3
 have HV:Hid (∀ k j,Vd 10000000000 (psT d (R k) j)):=fun k j=>psT_vd (hR k).1 (hR k).2 j
 have HE:Hid (∀ k j,j<(R k).length→Vd 10000000000 ((R k).getD j (0,0))):=fun k j hj=>by
  rw [List.getD_eq_getElem?_getD,List.getElem?_eq_getElem hj]
  exact (hR k).1.vd _ (List.getElem_mem _)
 have HLn:Hid (∀ k,(R k).length≤512):=fun k=>(hR k).2
 have RO:Hid (RwU W lo v R N us):=hU
 obtain⟨g,cap,e0,-,hc1,hc2⟩:=hU.at hN0
 subst e0
 rw [hX]
 clear hU hR h00 hX hc2
 go_enter Tryz.func32,Tryz.ntmps32
 go_wp2
 go_loopw [12] (fun i wr=>∃ k':Nat,k'≤N∧i=U i6 k'∧Below W.heap.size W wr∧okR d R k') (fun i _=>N-(intOf i).toNat)
 case atStart=>exact⟨0,Nat.zero_le _,rfl,Below.refl _ _,okR_0 d R⟩
 case round =>
  obtain⟨y,hy,rfl,hb,hok⟩:=hrel
  have HB:Hid (Below W.heap.size W wr):=hb
  have HOk:Hid (okR d R y):=hok
  by_cases hlt:y<N
  ·obtain⟨g',cap',e0,hcu,hc1',hc2'⟩:=(RO.out.below hb).at hlt
   have e1:g=g':=by have:=(Value.slice.inj e0).1;simpa using this
   subst e1
   have hou:=(RO.out.below hb).2.2 y hlt
   have HOy:Hid (∀ w',Below W.heap.size W w'→OSp w' lo (us.getD y undef) (R y)):=fun w' hm'=>(RO.out.below hm').2.2 y hlt
   obtain⟨u,hu0⟩:∃ u,us.getD y undef=u:=⟨_,rfl⟩
   rw [hu0] at hcu hou HOy
   obtain⟨M,hM⟩:∃ M,(R y).length=M:=⟨_,rfl⟩
   have HM:Hid ((R y).length=M):=hM
   obtain⟨ua,uc,hue⟩:=hou.slice
   rw [hM] at hue
   subst hue
   have hM5:M≤512:=by rw [← hM];exact HLn.out y
   have s7:=((St.start W).call hb).new (c:=#[U i6 0,U i6 0]) (t:=28)
   have hzr:=hb.size
   clear hou hM hb hok hc1' hc2' hu0 e0
   go_upto_region 5 with fail
   obtain⟨Bs,hBs⟩:∃ B,wr.heap.size=B:=⟨_,rfl⟩
   obtain⟨w7,hw7⟩:∃ w7,wr.alloc (.cells #[U i6 0,U i6 0] 28)=w7:=⟨_,rfl⟩
   rw [hw7,hBs] at s7
   rw [hw7,hBs]
   rw [hBs] at hzr
   have S7:Hid (St W w7 [(Bs,#[U i6 0,U i6 0],28)]):=s7
   clear hw7 hBs s7 HB hcu
   go_wp2
   go_loopw [18] (fun i w'=>∃ j:Nat,j≤M∧i=U i6 j∧St W w' [(Bs,#[U i6 (psT d (R y) j).1,U i6 (psT d (R y) j).2],28)]∧okI d (R y) j) (fun i _=>M-(intOf i).toNat)
   case atStart=>exact⟨0,Nat.zero_le _,rfl,by simpa [psT] using S7.out,okI_0 _ _⟩
   case round =>
    obtain⟨j,hj,rfl,s,hoi⟩:=hrel
    clear S7
    have HOI:Hid (okI d (R y) j):=hoi
    clear hoi
    by_cases hjl:j<M
    ·have hsp:=(HOy.out wr s.below).sv
     have hjL:j<(R y).length:=by rw [HM.out];exact hjl
     have hve:=HE.out y j hjL
     have hvm:=HV.out y j
     obtain⟨a9,c9,e9,-,-,h9⟩:=hsp
     obtain⟨g9,o9,hg9,hc9⟩:=h9 (by omega)
     have e10:ua=some ⟨g9,o9,none⟩:=by rw [(Value.slice.inj e9).1];exact hg9
     subst e10
     obtain⟨q1,q2⟩:=SpV.at hc9 hjL
     obtain⟨e1,e2,he⟩:∃ e1 e2,(R y).getD j (0,0)=(e1,e2):=⟨_,_,rfl⟩
     have HPT:Hid (psT d (R y) (j+1)=psm d (R y) j):=psT_succ _ _ _
     have hdm:Int.tmod (j:Int) (d:Int)=((j % d:Nat):Int):=by rw [Int.tmod_eq_emod_of_nonneg (by omega)];rfl
     have hd0:¬ (d:Int)=0:=by omega
     obtain⟨r,hr⟩:∃ r,j % d=r:=⟨_,rfl⟩
     rw [hr] at hdm
     have hrl:r<d:=by rw [← hr];exact Nat.mod_lt _ hd
     have hj5:j<512:=by omega
     rw [he] at q1 q2 hve
     simp only at q1 q2
     have HN1:Hid (w16 (psm d (R y) j)=false→false=X):=HNo1.out y j hlt hjL
     have HN2:Hid (w16 (e1,e2)=false→false=X):=fun q=>HNo2.out y j hlt hjL (by rw [he];exact q)
     have HSc:Hid (w16 (psm d (R y) j)=true→w16 (e1,e2)=true→okI d (R y) (j+1)):=fun g1 g2=>okI_succ HOI.out g1 (by rw [he];exact g2)
     clear e9 h9 hg9 hc9 HOI
     obtain⟨c1,f1,z1,-⟩:=s.rules
     have s8n:=s.new (c:=#[U i6 e1,U i6 e2]) (t:=28)
     have hBsr:=lt_of_heap s.h1
     go_upto_region 8 with fail
     obtain⟨Be,hBe⟩:∃ B,wr.heap.size=B:=⟨_,rfl⟩
     obtain⟨w8,hw8⟩:∃ w8,wr.alloc (.cells #[U i6 e1,U i6 e2] 28)=w8:=⟨_,rfl⟩
     rw [hw8,hBe] at s8n
     rw [hw8,hBe]
     rw [hBe] at hBsr
     have S8:Hid (St W w8 [(Bs,#[U i6 (psT d (R y) j).1,U i6 (psT d (R y) j).2],28),(Be,#[U i6 e1,U i6 e2],28)]):=s8n.up1
     clear hw8 hBe s8n s c1 f1 z1 q1 q2
     by_cases hr0:r=0
     ·subst hr0
      have hps:psm d (R y) j=(0+e1,0+e2):=psm_zero hd hjL hr he
      obtain⟨m1,hm1⟩:∃ m:Int,m=0:=⟨_,rfl⟩
      obtain⟨m2,hm2⟩:∃ m:Int,m=0:=⟨_,rfl⟩
      have s9:=S8.out.set2 (u:=U i6 0) (v:=U i6 0) (by simp;omega)
      obtain⟨c1,f1,z1,-⟩:=S8.out.rules
      have hvm:Vd 10000000000 ((m1,m2):Int×Int):=by rw [hm1,hm2];unfold Vd;simp
      clear he hr HV HE
      go_upto_region 10 with fail
      obtain⟨w9,hw9⟩:∃ w9,(w8.setCell ⟨Bs,0,none⟩ (U i6 0)).setCell ⟨Bs,1,none⟩ (U i6 0)=w9:=⟨_,rfl⟩
      rw [hw9] at s9 ⊢
      have S9:Hid (St W w9 [(Bs,#[U i6 m1,U i6 m2],28),(Be,#[U i6 e1,U i6 e2],28)]):=by unfold Hid;rw [hm1,hm2];exact s9
      rw [show (0:Int)+e1=m1+e1 by rw [hm1],show (0:Int)+e2=m2+e2 by rw [hm2]] at hps
      clear hw9 s9 S8 c1 f1 z1 hm1 hm2
      have HP1:Hid (∀ w,_):=fun w=>rnar_16 (m1+e1) (m2+e2) w
      have HP2:Hid (∀ w,_):=fun w=>rnar_16 e1 e2 w
      unfold Vd at hve hvm
      simp only at hve hvm
      have hw1:IntKind.i64.wrap (m1+e1)=m1+e1:=by rw [IntKind.wrap_i64];omega
      have hw2:IntKind.i64.wrap (m2+e2)=m2+e2:=by rw [IntKind.wrap_i64];omega
      have HPT2:Hid (psT d (R y) (j+1)=(m1+e1,m2+e2)):=by unfold Hid;rw [HPT.out,hps]
      rw [hps] at HN1 HSc
      obtain⟨c1,f1,z1,c2,f2,z2,-⟩:=S9.out.rules
      have s10:=S9.out.set2 (u:=U i6 (m1+e1)) (v:=U i6 (m2+e2)) (by simp;omega)
      have S10:Hid (St W _ _):=s10
      clear hps HPT S9 s10
      obtain⟨b1,hb1⟩:∃ b,wiB (-32768) 32767 (m1+e1) (m2+e2)=b:=⟨_,rfl⟩
      obtain⟨b2,hb2⟩:∃ b,wiB (-32768) 32767 e1 e2=b:=⟨_,rfl⟩
      rw [hb1] at HP1
      rw [hb2] at HP2
      have HN1':Hid (b1=false→false=X):=fun q=>HN1.out (by show wiB _ _ _ _=false;rw [hb1];exact q)
      have HN2':Hid (b2=false→false=X):=fun q=>HN2.out (by show wiB _ _ _ _=false;rw [hb2];exact q)
      have HSc':Hid (b1=true→b2=true→okI d (R y) (j+1)):=fun g1 g2=>HSc.out (by show wiB _ _ _ _=true;rw [hb1];exact g1) (by show wiB _ _ _ _=true;rw [hb2];exact g2)
      clear hb1 hb2 HN1 HN2 HSc hve hvm
      cases b1 with
      | false =>
       have hf:Hid (false=X):=HN1'.out rfl
       clear HN1' HN2' HSc'
       go_wp2_with fail
       refine (HP1.out _).mono ?_
       rintro e w11 ⟨rfl,hb⟩
       have HB2:Hid (Below W.heap.size W w11):=(S10.out.call hb).below
       clear hb S10 HP1 HP2 c1 f1 z1 c2 f2 z2
       go_wp2
       go_ret
       exact⟨rretB hf.out,HB2.out⟩
      | true =>
       have HSd:Hid (b2=true→okI d (R y) (j+1)):=HSc'.out rfl
       clear HSc'
       go_wp2_with fail
       refine (HP1.out _).mono ?_
       rintro e w11 ⟨rfl,hb⟩
       have s11:=S10.out.call hb
       clear hb S10 HP1 c1 f1 z1 c2 f2 z2
       obtain⟨c1,f1,z1,c2,f2,z2,-⟩:=s11.rules
       have S11:Hid (St W w11 _):=s11
       clear s11 c1 f1
       cases b2 with
       | false =>
        have hf:Hid (false=X):=HN2'.out rfl
        clear HN1' HN2' HSd
        go_wp2_with fail
        refine (HP2.out _).mono ?_
        rintro e w12 ⟨rfl,hb⟩
        have HB2:Hid (Below W.heap.size W w12):=(S11.out.call hb).below
        clear hb S11 HP2 z1 c2 f2 z2
        go_wp2
        go_ret
        exact⟨rretB hf.out,HB2.out⟩
       | true =>
        have hsc:Hid (okI d (R y) (j+1)):=HSd.out rfl
        clear HN1' HN2' HSd
        go_wp2_with fail
        refine (HP2.out _).mono ?_
        rintro e w12 ⟨rfl,hb⟩
        have S12:Hid (St W w12 [(Bs,#[U i6 (m1+e1),U i6 (m2+e2)],28)]):=(S11.out.call hb).sub (fun x hx=>by simp only [List.mem_cons,List.not_mem_nil,or_false] at hx ⊢;exact .inl hx)
        clear hb S11 HP2 z1 c2 f2 z2 hw1 hw2
        go_wp2
        go_roundw
        case rel=>exact⟨j+1,by omega,by go_num,by rw [HPT2.out];exact S12.out,hsc.out⟩
        case measure=>simp [intOf];omega
     ·have hps0:psm d (R y) j=plS (psT d (R y) j) (e1,e2):=psm_more hd hjL (by rw [hr];exact hr0) he
      obtain⟨m1,m2,hmm⟩:∃ m1 m2,psT d (R y) j=(m1,m2):=⟨_,_,rfl⟩
      have hps:psm d (R y) j=(m1+e1,m2+e2):=by rw [hps0,hmm];rfl
      have hr1:((r:Int) == 0)=false:=by simp;omega
      rw [hmm] at hvm
      have S9:Hid (St W w8 [(Bs,#[U i6 m1,U i6 m2],28),(Be,#[U i6 e1,U i6 e2],28)]):=by have q:=S8.out;rw [hmm] at q;exact q
      clear he hr HV HE hps0 hmm S8
      go_upto_region 10 with fail
      have HP1:Hid (∀ w,_):=fun w=>rnar_16 (m1+e1) (m2+e2) w
      have HP2:Hid (∀ w,_):=fun w=>rnar_16 e1 e2 w
      unfold Vd at hve hvm
      simp only at hve hvm
      have hw1:IntKind.i64.wrap (m1+e1)=m1+e1:=by rw [IntKind.wrap_i64];omega
      have hw2:IntKind.i64.wrap (m2+e2)=m2+e2:=by rw [IntKind.wrap_i64];omega
      have HPT2:Hid (psT d (R y) (j+1)=(m1+e1,m2+e2)):=by unfold Hid;rw [HPT.out,hps]
      rw [hps] at HN1 HSc
      obtain⟨c1,f1,z1,c2,f2,z2,-⟩:=S9.out.rules
      have s10:=S9.out.set2 (u:=U i6 (m1+e1)) (v:=U i6 (m2+e2)) (by simp;omega)
      have S10:Hid (St W _ _):=s10
      clear hps HPT S9 s10
      obtain⟨b1,hb1⟩:∃ b,wiB (-32768) 32767 (m1+e1) (m2+e2)=b:=⟨_,rfl⟩
      obtain⟨b2,hb2⟩:∃ b,wiB (-32768) 32767 e1 e2=b:=⟨_,rfl⟩
      rw [hb1] at HP1
      rw [hb2] at HP2
      have HN1':Hid (b1=false→false=X):=fun q=>HN1.out (by show wiB _ _ _ _=false;rw [hb1];exact q)
      have HN2':Hid (b2=false→false=X):=fun q=>HN2.out (by show wiB _ _ _ _=false;rw [hb2];exact q)
      have HSc':Hid (b1=true→b2=true→okI d (R y) (j+1)):=fun g1 g2=>HSc.out (by show wiB _ _ _ _=true;rw [hb1];exact g1) (by show wiB _ _ _ _=true;rw [hb2];exact g2)
      clear hb1 hb2 HN1 HN2 HSc hve hvm
      cases b1 with
      | false =>
       have hf:Hid (false=X):=HN1'.out rfl
       clear HN1' HN2' HSc'
       go_wp2_with fail
       refine (HP1.out _).mono ?_
       rintro e w11 ⟨rfl,hb⟩
       have HB2:Hid (Below W.heap.size W w11):=(S10.out.call hb).below
       clear hb S10 HP1 HP2 c1 f1 z1 c2 f2 z2
       go_wp2
       go_ret
       exact⟨rretB hf.out,HB2.out⟩
      | true =>
       have HSd:Hid (b2=true→okI d (R y) (j+1)):=HSc'.out rfl
       clear HSc'
       go_wp2_with fail
       refine (HP1.out _).mono ?_
       rintro e w11 ⟨rfl,hb⟩
       have s11:=S10.out.call hb
       clear hb S10 HP1 c1 f1 z1 c2 f2 z2
       obtain⟨c1,f1,z1,c2,f2,z2,-⟩:=s11.rules
       have S11:Hid (St W w11 _):=s11
       clear s11 c1 f1
       cases b2 with
       | false =>
        have hf:Hid (false=X):=HN2'.out rfl
        clear HN1' HN2' HSd
        go_wp2_with fail
        refine (HP2.out _).mono ?_
        rintro e w12 ⟨rfl,hb⟩
        have HB2:Hid (Below W.heap.size W w12):=(S11.out.call hb).below
        clear hb S11 HP2 z1 c2 f2 z2
        go_wp2
        go_ret
        exact⟨rretB hf.out,HB2.out⟩
       | true =>
        have hsc:Hid (okI d (R y) (j+1)):=HSd.out rfl
        clear HN1' HN2' HSd
        go_wp2_with fail
        refine (HP2.out _).mono ?_
        rintro e w12 ⟨rfl,hb⟩
        have S12:Hid (St W w12 [(Bs,#[U i6 (m1+e1),U i6 (m2+e2)],28)]):=(S11.out.call hb).sub (fun x hx=>by simp only [List.mem_cons,List.not_mem_nil,or_false] at hx ⊢;exact .inl hx)
        clear hb S11 HP2 z1 c2 f2 z2 hw1 hw2
        go_wp2
        go_roundw
        case rel=>exact⟨j+1,by omega,by go_num,by rw [HPT2.out];exact S12.out,hsc.out⟩
        case measure=>simp [intOf];omega
    ·obtain rfl:j=M:=by omega
     have hok2:Hid (okR d R (y+1)):=okR_succ HOk.out (by have q:=HOI.out;rwa [← HM.out] at q)
     have HBr:Hid (Below W.heap.size W wr):=s.below
     clear s HOI HOk
     go_wp2
     go_roundw
     case rel=>exact⟨y+1,by omega,by go_num,HBr.out,hok2.out⟩
     case measure=>simp [intOf];omega
  ·obtain rfl:y=N:=by omega
   have HT:Hid (X=true):=HAll.out hok
   clear hb hok
   go_wp2
   go_ret
   exact⟨rretB HT.out.symm,HB.out⟩
theorem rnum_any (k a b m kh kw sh sw tp lf bt rt:Int) (wa:Option Addr) (lw wc:Nat) (ba:Option Addr) (lb bc:Nat) (sm ss um us z p lo hi h w c H V C:Int) (slo shi:Int) (W:World) (ad:Option Addr) (n cap:Nat) (A:List Int) (hX:IRow .i8 W ad n cap A) (hg:vS h w c=true) (hn:(n:Int)=h*w*c) (hA:∀ v∈A,slo≤v∧v≤shi) :
  Calls Tryz.prog 27 #[.agg #[U i6 k,U i6 a,U i6 b,U i6 m,U i6 kh,U i6 kw,U i6 sh,U i6 sw,U i6 tp,U i6 lf,U i6 bt,U i6 rt,Sl wa lw wc,Sl ba lb bc,U i6 sm,U i6 ss,U i6 um,U i6 us,U i6 z,U i6 p,U i6 lo,U i6 hi,U i6 h,U i6 w,U i6 c,U i6 H,U i6 V,U i6 C],.agg #[U i6 slo,U i6 shi],Sl ad n cap] W fun e w'=>e=.returned (.bool true)∧Below W.heap.size W w':=by
 obtain⟨h1,w1,c1',q9⟩:=vS_yes hg
 have hq:=(mul_bd h1.1 h1.2 w1.1 w1.2)
 obtain⟨q,hq1⟩:∃ q,h*w=q:=⟨_,rfl⟩
 have hvb:=vS_bd hg
 have HX:Hid (IRow .i8 W ad n cap A):=hX
 have HA:Hid (∀ v∈A,slo≤v∧v≤shi):=hA
 have hl:=hX.1
 have hc1:=hX.2.1
 have hc2:=hX.2.2.1
 unfold maxLen at hc2
 rw [hq1] at hn hq hvb
 have hn16:(n:Int)≤16384:=by omega
 have HN:Hid (A.length=n):=hl
 have s0:=((St.start W).new (c:=#[U i6 k,U i6 a,U i6 b,U i6 m,U i6 kh,U i6 kw,U i6 sh,U i6 sw,U i6 tp,U i6 lf,U i6 bt,U i6 rt,Sl wa lw wc,Sl ba lb bc,U i6 sm,U i6 ss,U i6 um,U i6 us,U i6 z,U i6 p,U i6 lo,U i6 hi,U i6 h,U i6 w,U i6 c,U i6 H,U i6 V,U i6 C]) (t:=46)).new (c:=#[U i6 slo,U i6 shi]) (t:=28)
 simp only [World.size_alloc] at s0
 have S0:Hid (St W _ _):=s0
 clear s0 hX hA hg hl q9
 go_enter Tryz.func27,Tryz.ntmps27
 go_upto_region 1 with fail
 obtain⟨w0,hw0⟩:∃ w0,((W.alloc (.cells #[U i6 k,U i6 a,U i6 b,U i6 m,U i6 kh,U i6 kw,U i6 sh,U i6 sw,U i6 tp,U i6 lf,U i6 bt,U i6 rt,Sl wa lw wc,Sl ba lb bc,U i6 sm,U i6 ss,U i6 um,U i6 us,U i6 z,U i6 p,U i6 lo,U i6 hi,U i6 h,U i6 w,U i6 c,U i6 H,U i6 V,U i6 C] 46)).alloc (.cells #[U i6 slo,U i6 shi] 28))=w0:=⟨_,rfl⟩
 rw [hw0] at S0 ⊢
 clear hw0
 obtain⟨c0,f0,z0',c1,f1,z1,-⟩:=S0.out.rules
 go_upto_region 3 with fail
 go_wp2
 go_loopw [25] (fun ix wr=>∃ j:Nat,j≤n∧ix=U i6 j∧St W wr ((W.heap.size+1,#[U i6 slo,U i6 shi],28) :: (W.heap.size,#[U i6 k,U i6 a,U i6 b,U i6 m,U i6 kh,U i6 kw,U i6 sh,U i6 sw,U i6 tp,U i6 lf,U i6 bt,U i6 rt,Sl wa lw wc,Sl ba lb bc,U i6 sm,U i6 ss,U i6 um,U i6 us,U i6 z,U i6 p,U i6 lo,U i6 hi,U i6 h,U i6 w,U i6 c,U i6 H,U i6 V,U i6 C],46) :: [])) (fun i _=>n-(intOf i).toNat)
 case atStart=>exact⟨0,Nat.zero_le _,rfl,S0.out⟩
 obtain⟨j,hj,rfl,hS⟩:=hrel
 have Sk:Hid (St W wr _):=hS
 clear hS S0 c0 f0 z0' c1 f1 z1
 by_cases hlt:j<n
 ·obtain⟨x1,v,rfl,hu,hw,hz,-⟩:=(HX.out.below Sk.out.below).at hlt
  have hm:=List.mem_of_getElem? hz
  have hv:=HA.out v hm
  have hv8:=HX.out.i8 v hm
  unfold I8 at hv8
  have hv1:¬ v<slo:=by omega
  have hv2:¬ shi<v:=by omega
  obtain⟨c0,f0,z0',-⟩:=Sk.out.rules
  clear hz hm hv
  go_wp2
  go_roundw
  case rel=>exact⟨j+1,by omega,by go_num,Sk.out⟩
  case measure=>simp [intOf];omega
 ·obtain rfl:n=j:=by omega
  go_wp2
  go_ret
  exact⟨rfl,Sk.out.below⟩
theorem rrea_any (k a b m kh kw sh sw tp lf bt rt:Int) (wa:Option Addr) (lw wc:Nat) (ba:Option Addr) (lb bc:Nat) (sm ss um us z p lo hi h w c H V C:Int) (slo shi ch t HV:Int) (r:Nat) (W:World) (ad:Option Addr) (n cap:Nat) (hr:(r:Int)<HV)
  (HPo:Hid (∀ W',Calls Tryz.prog 26 #[.agg #[U i6 k,U i6 a,U i6 b,U i6 m,U i6 kh,U i6 kw,U i6 sh,U i6 sw,U i6 tp,U i6 lf,U i6 bt,U i6 rt,Sl wa lw wc,Sl ba lb bc,U i6 sm,U i6 ss,U i6 um,U i6 us,U i6 z,U i6 p,U i6 lo,U i6 hi,U i6 h,U i6 w,U i6 c,U i6 H,U i6 V,U i6 C]] W' fun e w'=>e=.returned (U i6 HV)∧Below W'.heap.size W' w'))
  (HNu:Hid (∀ W',Below W.heap.size W W'→Calls Tryz.prog 27 #[.agg #[U i6 k,U i6 a,U i6 b,U i6 m,U i6 kh,U i6 kw,U i6 sh,U i6 sw,U i6 tp,U i6 lf,U i6 bt,U i6 rt,Sl wa lw wc,Sl ba lb bc,U i6 sm,U i6 ss,U i6 um,U i6 us,U i6 z,U i6 p,U i6 lo,U i6 hi,U i6 h,U i6 w,U i6 c,U i6 H,U i6 V,U i6 C],.agg #[U i6 slo,U i6 shi],Sl ad n cap] W' fun e w'=>e=.returned (.bool true)∧Below W'.heap.size W' w'))
  (HSu:Hid (∀ W',Below W.heap.size W W'→Calls Tryz.prog 28 #[.agg #[U i6 k,U i6 a,U i6 b,U i6 m,U i6 kh,U i6 kw,U i6 sh,U i6 sw,U i6 tp,U i6 lf,U i6 bt,U i6 rt,Sl wa lw wc,Sl ba lb bc,U i6 sm,U i6 ss,U i6 um,U i6 us,U i6 z,U i6 p,U i6 lo,U i6 hi,U i6 h,U i6 w,U i6 c,U i6 H,U i6 V,U i6 C],U i6 ch,U i6 (r:Int),Sl ad n cap] W' fun e w'=>e=.returned (U i6 t)∧Below W'.heap.size W' w')) :
  Calls Tryz.prog 10 #[.agg #[U i6 k,U i6 a,U i6 b,U i6 m,U i6 kh,U i6 kw,U i6 sh,U i6 sw,U i6 tp,U i6 lf,U i6 bt,U i6 rt,Sl wa lw wc,Sl ba lb bc,U i6 sm,U i6 ss,U i6 um,U i6 us,U i6 z,U i6 p,U i6 lo,U i6 hi,U i6 h,U i6 w,U i6 c,U i6 H,U i6 V,U i6 C],U i6 ch,.agg #[U i6 slo,U i6 shi],.agg #[U i6 (r:Int),Sl ad n cap],U i6 t] W fun e w'=>e=.returned (.bool true)∧Below W.heap.size W w':=by
 have s0:=(((St.start W).new (c:=#[U i6 k,U i6 a,U i6 b,U i6 m,U i6 kh,U i6 kw,U i6 sh,U i6 sw,U i6 tp,U i6 lf,U i6 bt,U i6 rt,Sl wa lw wc,Sl ba lb bc,U i6 sm,U i6 ss,U i6 um,U i6 us,U i6 z,U i6 p,U i6 lo,U i6 hi,U i6 h,U i6 w,U i6 c,U i6 H,U i6 V,U i6 C]) (t:=46)).new (c:=#[U i6 slo,U i6 shi]) (t:=28)).new (c:=#[U i6 (r:Int),Sl ad n cap]) (t:=33)
 simp only [World.size_alloc] at s0
 have S0:Hid (St W _ ((W.heap.size+1+1,#[U i6 (r:Int),Sl ad n cap],33) :: (W.heap.size+1,#[U i6 slo,U i6 shi],28) :: (W.heap.size,#[U i6 k,U i6 a,U i6 b,U i6 m,U i6 kh,U i6 kw,U i6 sh,U i6 sw,U i6 tp,U i6 lf,U i6 bt,U i6 rt,Sl wa lw wc,Sl ba lb bc,U i6 sm,U i6 ss,U i6 um,U i6 us,U i6 z,U i6 p,U i6 lo,U i6 hi,U i6 h,U i6 w,U i6 c,U i6 H,U i6 V,U i6 C],46) :: [])):=s0
 clear s0
 go_enter Tryz.func10,Tryz.ntmps10
 go_upto_region 1 with fail
 obtain⟨w0,hw0⟩:∃ w0,(((W.alloc (.cells #[U i6 k,U i6 a,U i6 b,U i6 m,U i6 kh,U i6 kw,U i6 sh,U i6 sw,U i6 tp,U i6 lf,U i6 bt,U i6 rt,Sl wa lw wc,Sl ba lb bc,U i6 sm,U i6 ss,U i6 um,U i6 us,U i6 z,U i6 p,U i6 lo,U i6 hi,U i6 h,U i6 w,U i6 c,U i6 H,U i6 V,U i6 C] 46)).alloc (.cells #[U i6 slo,U i6 shi] 28)).alloc (.cells #[U i6 (r:Int),Sl ad n cap] 33))=w0:=⟨_,rfl⟩
 rw [hw0] at S0 ⊢
 clear hw0
 have s9:=S0.out
 obtain⟨c1,g1,c2,g2,c3,g3,-⟩:=rulesQ_st s9
 have hne:=Nonempty.intro (Wd.mk _ s9)
 have hr0:¬ ((r:Int)<0):=by omega
 have hr1:¬ (HV≤(r:Int)):=by omega
 refine region_held s9 (by kernel_rfl) (by kernel_rfl) ?_
 repeat (first
  | (go_big_quiet_want;refine quiet_ld 46 (.tmp 5) rfl _ rfl 46 _ _ (Wd.hp (List.mem_cons_of_mem _ (List.mem_cons_of_mem _ List.mem_cons_self))) Tryz.underlying46 rfl (by kernel_rfl) rfl ?_;go_simp;go_big_quiet_on)
  | (go_big_quiet_step ((go_at_call 26;exact held_of (HPo.out _))))
  | (go_big_quiet_step ((go_at_call 27;exact held_of (HNu.out _ (Wd.h _).below)))))
 refine wpQuiet_nil ?_
 intro _ hw'
 obtain⟨nq,rfl⟩:=hw'
 have b8:=nq.h
 obtain⟨w8,hw8⟩:∃ w,nq.w=w:=⟨_,rfl⟩
 rw [hw8] at b8 ⊢
 have S8:Hid (St W w8 ((W.heap.size+1+1,#[U i6 (r:Int),Sl ad n cap],33) :: (W.heap.size+1,#[U i6 slo,U i6 shi],28) :: (W.heap.size,#[U i6 k,U i6 a,U i6 b,U i6 m,U i6 kh,U i6 kw,U i6 sh,U i6 sw,U i6 tp,U i6 lf,U i6 bt,U i6 rt,Sl wa lw wc,Sl ba lb bc,U i6 sm,U i6 ss,U i6 um,U i6 us,U i6 z,U i6 p,U i6 lo,U i6 hi,U i6 h,U i6 w,U i6 c,U i6 H,U i6 V,U i6 C],46) :: [])):=b8
 clear c1 g1 c2 g2 c3 g3 hne s9 hw8 b8 S0
 obtain⟨c1,f1,z1,c2,f2,z2,c3,f3,z3,-⟩:=S8.out.rules
 go_wp2_with (refine wpList_load_any rfl 46 (.tmp 5) rfl ⟨W.heap.size,0,none⟩ rfl [U i6 k,U i6 a,U i6 b,U i6 m,U i6 kh,U i6 kw,U i6 sh,U i6 sw,U i6 tp,U i6 lf,U i6 bt,U i6 rt,Sl wa lw wc,Sl ba lb bc,U i6 sm,U i6 ss,U i6 um,U i6 us,U i6 z,U i6 p,U i6 lo,U i6 hi,U i6 h,U i6 w,U i6 c,U i6 H,U i6 V,U i6 C] _ (ecells (cs:=[U i6 k,U i6 a,U i6 b,U i6 m,U i6 kh,U i6 kw,U i6 sh,U i6 sw,U i6 tp,U i6 lf,U i6 bt,U i6 rt,Sl wa lw wc,Sl ba lb bc,U i6 sm,U i6 ss,U i6 um,U i6 us,U i6 z,U i6 p,U i6 lo,U i6 hi,U i6 h,U i6 w,U i6 c,U i6 H,U i6 V,U i6 C]) S8.out.h3) Tryz.underlying46 rfl (by kernel_rfl) ?_)
 refine Calls.mono (HSu.out _ S8.out.below) ?_
 rintro e w9 ⟨rfl,hb⟩
 have S9:Hid (St W w9 _):=S8.out.call hb
 clear hb S8 c1 f1 z1 c2 f2 z2 c3 f3 z3
 go_wp2
 go_ret
 exact⟨rfl,S9.out.below⟩
theorem rleak_any (k a b m kh kw sh sw tp lf bt rt:Int) (wa:Option Addr) (lw wc:Nat) (ba:Option Addr) (lb bc:Nat) (sm ss um us z p lo hi h w c H V C:Int) (slo shi ch HV:Int) (r f g d L:Nat) (TL:List (Int×Int)) (W:World) (ad:Option Addr) (n cap:Nat) (xs:List Int) (hr:(r:Int)<HV) (hL:TL.length=L) (hL5:L≤512) (hfg:f<g) (hg:g≤L) (hd:0<d) (hd5:d≤512) (hsh:g=f+1∨(f % d=0∧g≤f+d)) (hp:I8 p)
  (hxs:∀ v∈xs,I8 v) (hTb:∀ t∈TL,-32768≤t.1∧t.1≤32767) (hbad:f16 (smV p xs ((TL.drop f).take (g-f)))=false)
  (HPo:Hid (∀ W',Calls Tryz.prog 26 #[.agg #[U i6 k,U i6 a,U i6 b,U i6 m,U i6 kh,U i6 kw,U i6 sh,U i6 sw,U i6 tp,U i6 lf,U i6 bt,U i6 rt,Sl wa lw wc,Sl ba lb bc,U i6 sm,U i6 ss,U i6 um,U i6 us,U i6 z,U i6 p,U i6 lo,U i6 hi,U i6 h,U i6 w,U i6 c,U i6 H,U i6 V,U i6 C]] W' fun e w'=>e=.returned (U i6 HV)∧Below W'.heap.size W' w'))
  (HLe:Hid (∀ W',Calls Tryz.prog 12 #[.agg #[U i6 k,U i6 a,U i6 b,U i6 m,U i6 kh,U i6 kw,U i6 sh,U i6 sw,U i6 tp,U i6 lf,U i6 bt,U i6 rt,Sl wa lw wc,Sl ba lb bc,U i6 sm,U i6 ss,U i6 um,U i6 us,U i6 z,U i6 p,U i6 lo,U i6 hi,U i6 h,U i6 w,U i6 c,U i6 H,U i6 V,U i6 C]] W' fun e w'=>e=.returned (U i6 (L:Int))∧Below W'.heap.size W' w'))
  (HNu:Hid (∀ W',Below W.heap.size W W'→Calls Tryz.prog 27 #[.agg #[U i6 k,U i6 a,U i6 b,U i6 m,U i6 kh,U i6 kw,U i6 sh,U i6 sw,U i6 tp,U i6 lf,U i6 bt,U i6 rt,Sl wa lw wc,Sl ba lb bc,U i6 sm,U i6 ss,U i6 um,U i6 us,U i6 z,U i6 p,U i6 lo,U i6 hi,U i6 h,U i6 w,U i6 c,U i6 H,U i6 V,U i6 C],.agg #[U i6 slo,U i6 shi],Sl ad n cap] W' fun e w'=>e=.returned (.bool true)∧Below W'.heap.size W' w'))
  (HTe:Hid (∀ W',Below W.heap.size W W'→Calls Tryz.prog 33 #[.agg #[U i6 k,U i6 a,U i6 b,U i6 m,U i6 kh,U i6 kw,U i6 sh,U i6 sw,U i6 tp,U i6 lf,U i6 bt,U i6 rt,Sl wa lw wc,Sl ba lb bc,U i6 sm,U i6 ss,U i6 um,U i6 us,U i6 z,U i6 p,U i6 lo,U i6 hi,U i6 h,U i6 w,U i6 c,U i6 H,U i6 V,U i6 C],U i6 ch,U i6 (r:Int)] W' fun e w'=>(∃ v,e=.returned v∧OTm w' W'.heap.size v TL)∧Below W'.heap.size W' w'))
  (HVa:Hid (∀ W' t1 t2,Below W.heap.size W W'→(t1,t2)∈TL→Calls Tryz.prog 34 #[.agg #[U i6 k,U i6 a,U i6 b,U i6 m,U i6 kh,U i6 kw,U i6 sh,U i6 sw,U i6 tp,U i6 lf,U i6 bt,U i6 rt,Sl wa lw wc,Sl ba lb bc,U i6 sm,U i6 ss,U i6 um,U i6 us,U i6 z,U i6 p,U i6 lo,U i6 hi,U i6 h,U i6 w,U i6 c,U i6 H,U i6 V,U i6 C],.agg #[U i6 t1,U i6 t2],Sl ad n cap] W' fun e w'=>e=.returned (U i6 (smT p xs (t1,t2)))∧Below W'.heap.size W' w')) :
  Calls Tryz.prog 14 #[.agg #[U i6 k,U i6 a,U i6 b,U i6 m,U i6 kh,U i6 kw,U i6 sh,U i6 sw,U i6 tp,U i6 lf,U i6 bt,U i6 rt,Sl wa lw wc,Sl ba lb bc,U i6 sm,U i6 ss,U i6 um,U i6 us,U i6 z,U i6 p,U i6 lo,U i6 hi,U i6 h,U i6 w,U i6 c,U i6 H,U i6 V,U i6 C],U i6 ch,.agg #[U i6 slo,U i6 shi],.agg #[U i6 (r:Int),U i6 (f:Int),U i6 (g:Int),Sl ad n cap],U i6 (d:Int)] W fun e w'=>e=.returned (.bool true)∧Below W.heap.size W w':=by
 have HL:Hid (TL.length=L):=hL
 have hX:((TL.drop f).take (g-f)).length=g-f:=cutT hL hg
 have HX:Hid (((TL.drop f).take (g-f)).length=g-f):=hX
 have HSt:Hid (∀ k,smV p xs (((TL.drop f).take (g-f)).take k)≤4194304*512∧-(4194304*512)≤smV p xs (((TL.drop f).take (g-f)).take k)):=fun k=>by
  have hmem:∀ t∈((TL.drop f).take (g-f)).take k,-32768≤t.1∧t.1≤32767:=fun t ht=>hTb t (List.mem_of_mem_drop (List.mem_of_mem_take (List.mem_of_mem_take ht)))
  have h1:=smV_bd hp hxs (((TL.drop f).take (g-f)).take k) hmem
  have h2:(((TL.drop f).take (g-f)).take k).length≤512:=by rw [List.length_take,hX];omega
  omega
 have HMe:Hid (∀ k,k<g-f→((TL.drop f).take (g-f)).getD k (0,0)∈TL):=fun k hk=>by
  have:=getD_in (E:=((TL.drop f).take (g-f))) (k:=k) (by rw [hX];exact hk)
  exact List.mem_of_mem_drop (List.mem_of_mem_take this)
 have HBad:Hid (f16 (smV p xs ((TL.drop f).take (g-f)))=false):=hbad
 have hn16:(g:Int)≤512:=by omega
 have s0:=(((St.start W).new (c:=#[U i6 k,U i6 a,U i6 b,U i6 m,U i6 kh,U i6 kw,U i6 sh,U i6 sw,U i6 tp,U i6 lf,U i6 bt,U i6 rt,Sl wa lw wc,Sl ba lb bc,U i6 sm,U i6 ss,U i6 um,U i6 us,U i6 z,U i6 p,U i6 lo,U i6 hi,U i6 h,U i6 w,U i6 c,U i6 H,U i6 V,U i6 C]) (t:=46)).new (c:=#[U i6 slo,U i6 shi]) (t:=28)).new (c:=#[U i6 (r:Int),U i6 (f:Int),U i6 (g:Int),Sl ad n cap]) (t:=54)
 simp only [World.size_alloc] at s0
 have S0:Hid (St W _ ((W.heap.size+1+1,#[U i6 (r:Int),U i6 (f:Int),U i6 (g:Int),Sl ad n cap],54) :: (W.heap.size+1,#[U i6 slo,U i6 shi],28) :: (W.heap.size,#[U i6 k,U i6 a,U i6 b,U i6 m,U i6 kh,U i6 kw,U i6 sh,U i6 sw,U i6 tp,U i6 lf,U i6 bt,U i6 rt,Sl wa lw wc,Sl ba lb bc,U i6 sm,U i6 ss,U i6 um,U i6 us,U i6 z,U i6 p,U i6 lo,U i6 hi,U i6 h,U i6 w,U i6 c,U i6 H,U i6 V,U i6 C],46) :: [])):=s0
 clear s0 hxs hTb hbad hL hX hp
 go_enter Tryz.func14,Tryz.ntmps14
 go_upto_region 1 with fail
 obtain⟨w0,hw0⟩:∃ w0,(((W.alloc (.cells #[U i6 k,U i6 a,U i6 b,U i6 m,U i6 kh,U i6 kw,U i6 sh,U i6 sw,U i6 tp,U i6 lf,U i6 bt,U i6 rt,Sl wa lw wc,Sl ba lb bc,U i6 sm,U i6 ss,U i6 um,U i6 us,U i6 z,U i6 p,U i6 lo,U i6 hi,U i6 h,U i6 w,U i6 c,U i6 H,U i6 V,U i6 C] 46)).alloc (.cells #[U i6 slo,U i6 shi] 28)).alloc (.cells #[U i6 (r:Int),U i6 (f:Int),U i6 (g:Int),Sl ad n cap] 54))=w0:=⟨_,rfl⟩
 rw [hw0] at S0 ⊢
 clear hw0
 have s9:=S0.out
 obtain⟨c1,g1,c2,g2,c3,g3,-⟩:=rulesQ_st s9
 have hne:=Nonempty.intro (Wd.mk _ s9)
 have hr0:¬ ((r:Int)<0):=by omega
 have hr1:¬ (HV≤(r:Int)):=by omega
 have hf0:¬ ((f:Int)<0):=by omega
 have hfg1:¬ ((g:Int)≤(f:Int)):=by omega
 have hgL:¬ ((L:Int)<(g:Int)):=by omega
 refine region_held s9 (by kernel_rfl) (by kernel_rfl) ?_
 repeat (first
  | (go_big_quiet_want;refine quiet_ld 46 (.tmp 5) rfl _ rfl 46 _ _ (Wd.hp (List.mem_cons_of_mem _ (List.mem_cons_of_mem _ List.mem_cons_self))) Tryz.underlying46 rfl (by kernel_rfl) rfl ?_;go_simp;go_big_quiet_on)
  | (go_big_quiet_step ((go_at_call 26;exact held_of (HPo.out _))))
  | (go_big_quiet_step ((go_at_call 12;exact held_of (HLe.out _))))
  | (go_big_quiet_step ((go_at_call 27;exact held_of (HNu.out _ (Wd.h _).below)))))
 refine wpQuiet_nil ?_
 intro _ hw'
 obtain⟨nq,rfl⟩:=hw'
 have b8:=nq.h
 obtain⟨w8,hw8⟩:∃ w,nq.w=w:=⟨_,rfl⟩
 rw [hw8] at b8 ⊢
 have S8:Hid (St W w8 ((W.heap.size+1+1,#[U i6 (r:Int),U i6 (f:Int),U i6 (g:Int),Sl ad n cap],54) :: (W.heap.size+1,#[U i6 slo,U i6 shi],28) :: (W.heap.size,#[U i6 k,U i6 a,U i6 b,U i6 m,U i6 kh,U i6 kw,U i6 sh,U i6 sw,U i6 tp,U i6 lf,U i6 bt,U i6 rt,Sl wa lw wc,Sl ba lb bc,U i6 sm,U i6 ss,U i6 um,U i6 us,U i6 z,U i6 p,U i6 lo,U i6 hi,U i6 h,U i6 w,U i6 c,U i6 H,U i6 V,U i6 C],46) :: [])):=b8
 clear c1 g1 c2 g2 c3 g3 hne s9 hw8 b8 S0
 obtain⟨c1,f1,z1,c2,f2,z2,c3,f3,z3,-⟩:=S8.out.rules
 go_upto_region 3 with fail
 go_cut [72] from 51 to 71 (fun x wx=>x=.bool false∧wx=w8)
 case first =>
  by_cases h1:(1:Int)<(g:Int)-(f:Int)
  ·have hfd:f % d=0:=by omega
   have hgd:¬ ((d:Int)<(g:Int)-(f:Int)):=by omega
   have hmd:=tmod_nat f d
   rw [hfd] at hmd
   have hd1:(d:Int)≠0:=by omega
   go_wp2_with fail
   go_meet
   exact⟨rfl,rfl⟩
  ·go_wp2_with fail
   go_meet
   exact⟨rfl,rfl⟩
 obtain⟨rfl,h8⟩:=hcut
 rw [h8]
 clear h8 wc
 go_upto_region 6 with fail
 clear c1 f1 z1 c2 f2 z2 c3 f3 z3
 have C8:=S8.out
 refine regionC (fun w'=>St W w' ((W.heap.size+1+1,#[U i6 (r:Int),U i6 (f:Int),U i6 (g:Int),Sl ad n cap],54) :: (W.heap.size+1,#[U i6 slo,U i6 shi],28) :: (W.heap.size,#[U i6 k,U i6 a,U i6 b,U i6 m,U i6 kh,U i6 kw,U i6 sh,U i6 sw,U i6 tp,U i6 lf,U i6 bt,U i6 rt,Sl wa lw wc,Sl ba lb bc,U i6 sm,U i6 ss,U i6 um,U i6 us,U i6 z,U i6 p,U i6 lo,U i6 hi,U i6 h,U i6 w,U i6 c,U i6 H,U i6 V,U i6 C],46) :: [])) (by kernel_rfl) ?_
 obtain⟨wd,hwd⟩:∃ wd,w8.drew=wd:=⟨_,rfl⟩
 have SD:=C8.drew
 rw [hwd] at SD ⊢
 have HCT:Hid _:=HTe.out wd SD.below
 clear hwd C8 S8
 refine takeC 0 (v:=.agg #[U i6 k,U i6 a,U i6 b,U i6 m,U i6 kh,U i6 kw,U i6 sh,U i6 sw,U i6 tp,U i6 lf,U i6 bt,U i6 rt,Sl wa lw wc,Sl ba lb bc,U i6 sm,U i6 ss,U i6 um,U i6 us,U i6 z,U i6 p,U i6 lo,U i6 hi,U i6 h,U i6 w,U i6 c,U i6 H,U i6 V,U i6 C]) rfl rfl (by kernel_rfl) (by kernel_rfl) (by kernel_rfl) (fun _ _ _ h=>h) (fun _=>rfl) rfl (fun w' hw'=>run_la 46 (.tmp 5) rfl ⟨W.heap.size,0,none⟩ (by kernel_rfl) [U i6 k,U i6 a,U i6 b,U i6 m,U i6 kh,U i6 kw,U i6 sh,U i6 sw,U i6 tp,U i6 lf,U i6 bt,U i6 rt,Sl wa lw wc,Sl ba lb bc,U i6 sm,U i6 ss,U i6 um,U i6 us,U i6 z,U i6 p,U i6 lo,U i6 hi,U i6 h,U i6 w,U i6 c,U i6 H,U i6 V,U i6 C] _ (ecells (cs:=[U i6 k,U i6 a,U i6 b,U i6 m,U i6 kh,U i6 kw,U i6 sh,U i6 sw,U i6 tp,U i6 lf,U i6 bt,U i6 rt,Sl wa lw wc,Sl ba lb bc,U i6 sm,U i6 ss,U i6 um,U i6 us,U i6 z,U i6 p,U i6 lo,U i6 hi,U i6 h,U i6 w,U i6 c,U i6 H,U i6 V,U i6 C]) hw'.h3) Tryz.underlying46 rfl (by kernel_rfl)) ?_
 refine takeC 1 (v:=U i6 ch) rfl rfl (by kernel_rfl) (by kernel_rfl) (by kernel_rfl) (fun _ _ _ h=>h) (fun _=>rfl) rfl (fun w' hw'=>by go_simp) ?_
 refine takeC 2 (v:=.pointer (some ⟨W.heap.size+1+1,0,none⟩)) rfl rfl (by kernel_rfl) (by kernel_rfl) (by kernel_rfl) (fun _ _ _ h=>h) (fun _=>rfl) rfl (fun w' hw'=>by go_simp) ?_
 refine takeC 3 (v:=U i6 (r:Int)) rfl rfl (by kernel_rfl) (by kernel_rfl) (by kernel_rfl) (fun _ _ _ h=>h) (fun _=>rfl) rfl (fun w' hw'=>by have hc:=(cells_at hw'.h1).1 0;go_simp) ?_
 refine takeC 5 (v:=.pointer (some ⟨W.heap.size+1+1,1,none⟩)) rfl rfl (by kernel_rfl) (by kernel_rfl) (by kernel_rfl) (fun _ _ _ h=>h) (fun _=>rfl) rfl (fun w' hw'=>by go_simp) ?_
 refine takeC 6 (v:=U i6 (f:Int)) rfl rfl (by kernel_rfl) (by kernel_rfl) (by kernel_rfl) (fun _ _ _ h=>h) (fun _=>rfl) rfl (fun w' hw'=>by have hc:=(cells_at hw'.h1).1 1;go_simp) ?_
 refine takeC 7 (v:=.pointer (some ⟨W.heap.size+1+1,2,none⟩)) rfl rfl (by kernel_rfl) (by kernel_rfl) (by kernel_rfl) (fun _ _ _ h=>h) (fun _=>rfl) rfl (fun w' hw'=>by go_simp) ?_
 refine takeC 8 (v:=U i6 (g:Int)) rfl rfl (by kernel_rfl) (by kernel_rfl) (by kernel_rfl) (fun _ _ _ h=>h) (fun _=>rfl) rfl (fun w' hw'=>by have hc:=(cells_at hw'.h1).1 2;go_simp) ?_
 refine takeC 11 (v:=U i6 0) rfl rfl (by kernel_rfl) (by kernel_rfl) (by kernel_rfl) (fun _ _ _ h=>h) (fun _=>rfl) rfl (fun w' hw'=>by go_simp) ?_
 refine yK 4 SD (by kernel_rfl) rfl rfl 33 #[.agg #[U i6 k,U i6 a,U i6 b,U i6 m,U i6 kh,U i6 kw,U i6 sh,U i6 sw,U i6 tp,U i6 lf,U i6 bt,U i6 rt,Sl wa lw wc,Sl ba lb bc,U i6 sm,U i6 ss,U i6 um,U i6 us,U i6 z,U i6 p,U i6 lo,U i6 hi,U i6 h,U i6 w,U i6 c,U i6 H,U i6 V,U i6 C],U i6 ch,U i6 (r:Int)] (by kernel_rfl) HCT.out ?_
 rintro e w10 ⟨⟨v,rfl,hO⟩,hb⟩
 refine⟨_,rfl,?_⟩
 have S10:=SD.call hb
 have hsv:=hO.tv.sp
 obtain⟨va,vc,rfl⟩:=hO.slice
 rw [HL.out] at hsv ⊢
 obtain⟨gt,ot,rfl,hLc,hcut⟩:=hsv.cutT HL.out hfg hg
 have HCut:Hid (SpV w10 _ _):=hcut
 clear hO hsv hcut HCT
 have s1:g≤vc:=by omega
 have s2:f≤g:=by omega
 have s3:¬ vc=f:=by omega
 refine yR 9 S10 (by kernel_rfl) rfl rfl (.slice (some ⟨gt,ot+f*2,none⟩) (g-f) (vc-f)) w10 (by go_simp) ?_
 refine yR 10 S10 (by kernel_rfl) rfl rfl (U i6 ((g-f:Nat):Int)) w10 (by go_simp) ?_
 refine doneC S10 (by kernel_rfl) ?_ _
 have T10:Hid (St W w10 ((W.heap.size+1+1,#[U i6 (r:Int),U i6 (f:Int),U i6 (g:Int),Sl ad n cap],54) :: (W.heap.size+1,#[U i6 slo,U i6 shi],28) :: (W.heap.size,#[U i6 k,U i6 a,U i6 b,U i6 m,U i6 kh,U i6 kw,U i6 sh,U i6 sw,U i6 tp,U i6 lf,U i6 bt,U i6 rt,Sl wa lw wc,Sl ba lb bc,U i6 sm,U i6 ss,U i6 um,U i6 us,U i6 z,U i6 p,U i6 lo,U i6 hi,U i6 h,U i6 w,U i6 c,U i6 H,U i6 V,U i6 C],46) :: [])):=S10
 obtain⟨q,hq⟩:∃ q,g-f=q:=⟨_,rfl⟩
 have hq5:q≤512:=by omega
 have HQ:Hid (g-f=q):=hq
 rw [hq] at HX HMe HCut ⊢
 obtain⟨TX,hTX⟩:∃ TX,(TL.drop f).take q=TX:=⟨_,rfl⟩
 rw [hq] at HSt HBad
 rw [hTX] at HX HMe HCut HSt HBad
 clear S10 SD hb hq hTX s1 s2 s3
 go_wp2
 go_loopw [11,84] (fun sx ix wr=>∃ j:Nat,j≤q∧ix=U i6 j∧sx=U i6 (smV p xs (TX.take j))∧St W wr ((W.heap.size+1+1,#[U i6 (r:Int),U i6 (f:Int),U i6 (g:Int),Sl ad n cap],54) :: (W.heap.size+1,#[U i6 slo,U i6 shi],28) :: (W.heap.size,#[U i6 k,U i6 a,U i6 b,U i6 m,U i6 kh,U i6 kw,U i6 sh,U i6 sw,U i6 tp,U i6 lf,U i6 bt,U i6 rt,Sl wa lw wc,Sl ba lb bc,U i6 sm,U i6 ss,U i6 um,U i6 us,U i6 z,U i6 p,U i6 lo,U i6 hi,U i6 h,U i6 w,U i6 c,U i6 H,U i6 V,U i6 C],46) :: [])∧Below w10.heap.size w10 wr) (fun _ i _=>q-(intOf i).toNat)
 case atStart=>exact⟨0,Nat.zero_le _,rfl,rfl,T10.out,Below.refl _ _⟩
 obtain⟨j,hj,rfl,rfl,hS,hB⟩:=hrel
 have Sk:Hid (St W wr ((W.heap.size+1+1,#[U i6 (r:Int),U i6 (f:Int),U i6 (g:Int),Sl ad n cap],54) :: (W.heap.size+1,#[U i6 slo,U i6 shi],28) :: (W.heap.size,#[U i6 k,U i6 a,U i6 b,U i6 m,U i6 kh,U i6 kw,U i6 sh,U i6 sw,U i6 tp,U i6 lf,U i6 bt,U i6 rt,Sl wa lw wc,Sl ba lb bc,U i6 sm,U i6 ss,U i6 um,U i6 us,U i6 z,U i6 p,U i6 lo,U i6 hi,U i6 h,U i6 w,U i6 c,U i6 H,U i6 V,U i6 C],46) :: [])):=hS
 have BK:Hid (Below w10.heap.size w10 wr):=hB
 clear hS hB
 by_cases hjq:j<q
 ·have hkl:Hid (j<TX.length):=by unfold Hid;rw [HX.out];exact hjq
  obtain⟨a9,c9,e9,-,-,h9⟩:=HCut.out
  obtain⟨gt9,ot9,e8,hc⟩:=h9 (by have:=hkl.out;omega)
  rw [HX.out] at e9
  cases e9
  cases e8
  obtain⟨q1,q2⟩:=SpV.at (fun x y h=>(BK.out.cell (World.block_lt_of_cell? w10 _ (hc x y h))).trans (hc x y h)) hkl.out
  obtain⟨ww,hww⟩:∃ x,(TX.getD j (0,0)).1=x:=⟨_,rfl⟩
  obtain⟨pp,hpp⟩:∃ x,(TX.getD j (0,0)).2=x:=⟨_,rfl⟩
  rw [hww] at q1
  rw [hpp] at q2
  have hwp:TX.getD j (0,0)=(ww,pp):=Prod.ext hww hpp
  have hmem:=HMe.out j hjq
  rw [hwp] at hmem
  have htk:=smV_take (p:=p) (x:=xs) hkl.out hwp
  have hnx:=HSt.out (j+1)
  have hcu:=HSt.out j
  have HCV:Hid (∀ W',Below W.heap.size W W'→_):=fun W' hb=>HVa.out W' ww pp hb hmem
  obtain⟨v0,hv0⟩:∃ x,smV p xs (TX.take j)=x:=⟨_,rfl⟩
  obtain⟨v1,hv1⟩:∃ x,smV p xs (TX.take (j+1))=x:=⟨_,rfl⟩
  obtain⟨v2,hv2⟩:∃ x,smT p xs (ww,pp)=x:=⟨_,rfl⟩
  rw [hv0,hv1,hv2] at htk
  rw [hv1] at hnx
  rw [hv0] at hcu ⊢
  simp only [hv2] at HCV
  have HV1:Hid (smV p xs (TX.take (j+1))=v1):=hv1
  have s9:=Sk.out.new (c:=#[U i6 ww,U i6 pp]) (t:=91)
  clear hc hww hpp hv0 hv1 hv2 hwp h9 hmem
  go_upto_region 9 with fail
  obtain⟨w11,hw11⟩:∃ w',wr.alloc (.cells #[U i6 ww,U i6 pp] 91)=w':=⟨_,rfl⟩
  obtain⟨Be,hBe⟩:∃ B,wr.heap.size=B:=⟨_,rfl⟩
  have hb11:Below w10.heap.size w10 w11:=by rw [← hw11];exact BK.out.alloc BK.out.size _
  rw [hw11,hBe] at s9
  rw [hw11,hBe]
  clear hw11 hBe q1 q2 Sk
  have S11:Hid (St W w11 ((Be,#[U i6 ww,U i6 pp],91) :: (W.heap.size+1+1,#[U i6 (r:Int),U i6 (f:Int),U i6 (g:Int),Sl ad n cap],54) :: (W.heap.size+1,#[U i6 slo,U i6 shi],28) :: (W.heap.size,#[U i6 k,U i6 a,U i6 b,U i6 m,U i6 kh,U i6 kw,U i6 sh,U i6 sw,U i6 tp,U i6 lf,U i6 bt,U i6 rt,Sl wa lw wc,Sl ba lb bc,U i6 sm,U i6 ss,U i6 um,U i6 us,U i6 z,U i6 p,U i6 lo,U i6 hi,U i6 h,U i6 w,U i6 c,U i6 H,U i6 V,U i6 C],46) :: [])):=s9
  have B11:Hid (Below w10.heap.size w10 w11):=hb11
  clear s9 hb11
  obtain⟨cx,fx,zx,cl,fl,zl,-⟩:=S11.out.rules
  go_wp2_with (refine wpList_load_any rfl 46 (.tmp 5) rfl ⟨W.heap.size,0,none⟩ rfl [U i6 k,U i6 a,U i6 b,U i6 m,U i6 kh,U i6 kw,U i6 sh,U i6 sw,U i6 tp,U i6 lf,U i6 bt,U i6 rt,Sl wa lw wc,Sl ba lb bc,U i6 sm,U i6 ss,U i6 um,U i6 us,U i6 z,U i6 p,U i6 lo,U i6 hi,U i6 h,U i6 w,U i6 c,U i6 H,U i6 V,U i6 C] _ (ecells (cs:=[U i6 k,U i6 a,U i6 b,U i6 m,U i6 kh,U i6 kw,U i6 sh,U i6 sw,U i6 tp,U i6 lf,U i6 bt,U i6 rt,Sl wa lw wc,Sl ba lb bc,U i6 sm,U i6 ss,U i6 um,U i6 us,U i6 z,U i6 p,U i6 lo,U i6 hi,U i6 h,U i6 w,U i6 c,U i6 H,U i6 V,U i6 C]) S11.out.tail.h3) Tryz.underlying46 rfl (by kernel_rfl) ?_)
  refine Calls.mono (HCV.out _ S11.out.below) ?_
  rintro e w12 ⟨rfl,hb⟩
  have S12:Hid (St W w12 ((Be,#[U i6 ww,U i6 pp],91) :: (W.heap.size+1+1,#[U i6 (r:Int),U i6 (f:Int),U i6 (g:Int),Sl ad n cap],54) :: (W.heap.size+1,#[U i6 slo,U i6 shi],28) :: (W.heap.size,#[U i6 k,U i6 a,U i6 b,U i6 m,U i6 kh,U i6 kw,U i6 sh,U i6 sw,U i6 tp,U i6 lf,U i6 bt,U i6 rt,Sl wa lw wc,Sl ba lb bc,U i6 sm,U i6 ss,U i6 um,U i6 us,U i6 z,U i6 p,U i6 lo,U i6 hi,U i6 h,U i6 w,U i6 c,U i6 H,U i6 V,U i6 C],46) :: [])):=S11.out.call hb
  have B12:Hid (Below w10.heap.size w10 w12):=B11.out.trans (hb.mono B11.out.size)
  clear hb S11 B11 cx fx zx cl fl zl
  go_wp2
  go_roundw
  case rel=>exact⟨j+1,by omega,by go_num,by rw [HV1.out,htk],S12.out.tail,B12.out⟩
  case measure=>simp [intOf];omega
 obtain rfl:q=j:=by omega
 have hfull:TX.take q=TX:=List.take_of_length_le (by rw [HX.out];exact Nat.le_refl _)
 rw [hfull]
 obtain⟨v0,hv0⟩:∃ x,smV p xs TX=x:=⟨_,rfl⟩
 rw [hv0] at HBad ⊢
 have hw16:wiB (-32768) 32767 v0 v0=false:=by have:=HBad.out;unfold f16 at this;unfold wiB;simp at this ⊢;omega
 have HN:Hid (∀ W',_):=fun W'=>rnar_16 v0 v0 W'
 rw [hw16] at HN
 clear hfull hv0 hw16
 go_wp2_with fail
 refine (HN.out _).mono ?_
 rintro e w13 ⟨rfl,hb⟩
 have S13:Hid (St W w13 ((W.heap.size+1+1,#[U i6 (r:Int),U i6 (f:Int),U i6 (g:Int),Sl ad n cap],54) :: (W.heap.size+1,#[U i6 slo,U i6 shi],28) :: (W.heap.size,#[U i6 k,U i6 a,U i6 b,U i6 m,U i6 kh,U i6 kw,U i6 sh,U i6 sw,U i6 tp,U i6 lf,U i6 bt,U i6 rt,Sl wa lw wc,Sl ba lb bc,U i6 sm,U i6 ss,U i6 um,U i6 us,U i6 z,U i6 p,U i6 lo,U i6 hi,U i6 h,U i6 w,U i6 c,U i6 H,U i6 V,U i6 C],46) :: [])):=Sk.out.call hb
 clear hb
 go_wp2
 go_ret
 exact⟨rfl,S13.out.below⟩
end Go.Proofs.YtgjcjhnnopandaaGreat
