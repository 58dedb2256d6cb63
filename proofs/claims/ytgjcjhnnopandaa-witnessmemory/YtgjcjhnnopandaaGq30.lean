/- The walk of WitnessMost, over what its calls return. WitnessTotals and WitnessMost. -/
import Derived.Test.YtgjcjhnnopandaaGq28
import Derived.Test.YtgjcjhnnopandaaGq29
namespace Go.Proofs.Ytgjcjhnnopandaa
open Go.Value renaming int → U, slice → Sl
open Go.IntKind renaming i64 → i6
set_option maxRecDepth 100000
set_option maxHeartbeats 16000000
open Go.ChangeShapes Go.WideShapes Go.ChangeAt Go.RowKit
set_option linter.unusedVariables false
theorem wmost_e (h w c lo hi:Int) (oa:Option Addr) (on oc:Nat) (ot op ch slo shi dp:Int) (W:World) (E n F:Int) (hE:E≠0)
  (HMo:Hid (∀ W',Below W.heap.size W W'→Calls Try.prog 12 #[.agg #[U i6 h,U i6 w,U i6 c,U i6 lo,U i6 hi,Sl oa on oc,U i6 ot],U i6 op,U i6 ch,.agg #[U i6 slo,U i6 shi]] W' fun e w'=>e=.returned (.tuple #[U i6 0,U i6 E])∧Below W'.heap.size W' w'))
  (HLe:Hid (∀ W',Below W.heap.size W W'→Calls Try.prog 13 #[.agg #[U i6 h,U i6 w,U i6 c,U i6 lo,U i6 hi,Sl oa on oc,U i6 ot],U i6 op] W' fun e w'=>e=.returned (.tuple #[U i6 n,U i6 F])∧Below W'.heap.size W' w')) :
  Calls Try.prog 4 #[.agg #[U i6 h,U i6 w,U i6 c,U i6 lo,U i6 hi,Sl oa on oc,U i6 ot,U i6 op,U i6 ch,U i6 slo,U i6 shi,U i6 dp]] W fun e w'=>e=.returned (.bool true)∧Below W.heap.size W w':=by
 have s0:=(St.start W).new (c:=#[U i6 h,U i6 w,U i6 c,U i6 lo,U i6 hi,Sl oa on oc,U i6 ot,U i6 op,U i6 ch,U i6 slo,U i6 shi,U i6 dp]) (t:=30)
 have hE2:(E == 0)=false:=by simp [hE]
 go_enter Try.func4,Try.ntmps4
 go_wp2_with fail
 refine (fixed23_any _).mono ?_
 rintro e w1 ⟨rfl,hb⟩
 have S1:Hid (St W w1 _):=s0.call hb
 clear hb s0
 obtain⟨c1,f1,z1,-⟩:=S1.out.rules
 go_wp2_with fail
 refine Calls.mono (HMo.out _ S1.out.below) ?_
 rintro e w2 ⟨rfl,hb⟩
 have S2:Hid (St W w2 _):=S1.out.call hb
 clear hb S1 HMo c1 f1 z1
 obtain⟨c1,f1,z1,-⟩:=S2.out.rules
 go_wp2_with fail
 refine Calls.mono (HLe.out _ S2.out.below) ?_
 rintro e w3 ⟨rfl,hb⟩
 have S3:Hid (St W w3 _):=S2.out.call hb
 clear hb S2 HLe c1 f1 z1
 go_wp2
 go_ret
 exact⟨rfl,S3.out.below⟩
theorem wmost_w (h w c lo hi:Int) (oa:Option Addr) (on oc:Nat) (ot op ch slo shi dp:Int) (W:World) (k N:Nat) (hkN:k≤N) (hN:N≤512)
  (HMo:Hid (∀ W',Below W.heap.size W W'→Calls Try.prog 12 #[.agg #[U i6 h,U i6 w,U i6 c,U i6 lo,U i6 hi,Sl oa on oc,U i6 ot],U i6 op,U i6 ch,.agg #[U i6 slo,U i6 shi]] W' fun e w'=>e=.returned (.tuple #[U i6 (k:Int),U i6 0])∧Below W'.heap.size W' w'))
  (HLe:Hid (∀ W',Below W.heap.size W W'→Calls Try.prog 13 #[.agg #[U i6 h,U i6 w,U i6 c,U i6 lo,U i6 hi,Sl oa on oc,U i6 ot],U i6 op] W' fun e w'=>e=.returned (.tuple #[U i6 (N:Int),U i6 0])∧Below W'.heap.size W' w'))
  (HB1:Hid (0<k→∀ W',Below W.heap.size W W'→Calls Try.prog 14 #[.agg #[U i6 h,U i6 w,U i6 c,U i6 lo,U i6 hi,Sl oa on oc,U i6 ot],U i6 op,U i6 ch,.agg #[U i6 slo,U i6 shi],U i6 (k:Int)] W' fun e w'=>e=.returned (.tuple #[.agg #[U i6 0,U i6 0,U i6 0,Sl none 0 0],.bool false,U i6 0])∧Below W'.heap.size W' w'))
  (ok2:Bool) (e2:Int) (hok:(N≤k∧ok2=false∧e2=151)∨(k<N∧ok2=true∧e2=0))
  (HB2:Hid (∀ W',Below W.heap.size W W'→Calls Try.prog 14 #[.agg #[U i6 h,U i6 w,U i6 c,U i6 lo,U i6 hi,Sl oa on oc,U i6 ot],U i6 op,U i6 ch,.agg #[U i6 slo,U i6 shi],U i6 ((k:Int)+1)] W' fun e w'=>(∃ (r f g l cp:Nat) (a:Option Addr),e=.returned (.tuple #[.agg #[U i6 (r:Int),U i6 (f:Int),U i6 (g:Int),Sl a l cp],.bool ok2,U i6 e2])∧(ok2=true→f<g∧g-f≤k+1∧g≤512))∧Below W'.heap.size W' w')) :
  Calls Try.prog 4 #[.agg #[U i6 h,U i6 w,U i6 c,U i6 lo,U i6 hi,Sl oa on oc,U i6 ot,U i6 op,U i6 ch,U i6 slo,U i6 shi,U i6 dp]] W fun e w'=>e=.returned (.bool true)∧Below W.heap.size W w':=by
 have s0:=(St.start W).new (c:=#[U i6 h,U i6 w,U i6 c,U i6 lo,U i6 hi,Sl oa on oc,U i6 ot,U i6 op,U i6 ch,U i6 slo,U i6 shi,U i6 dp]) (t:=30)
 go_enter Try.func4,Try.ntmps4
 go_wp2_with fail
 refine (fixed23_any _).mono ?_
 rintro e w1 ⟨rfl,hb⟩
 have S1:Hid (St W w1 _):=s0.call hb
 clear hb s0
 obtain⟨c1,f1,z1,-⟩:=S1.out.rules
 go_wp2_with fail
 refine Calls.mono (HMo.out _ S1.out.below) ?_
 rintro e w2 ⟨rfl,hb⟩
 have S2:Hid (St W w2 _):=S1.out.call hb
 clear hb S1 HMo c1 f1 z1
 obtain⟨c1,f1,z1,-⟩:=S2.out.rules
 go_wp2_with fail
 refine Calls.mono (HLe.out _ S2.out.below) ?_
 rintro e w3 ⟨rfl,hb⟩
 have S3:Hid (St W w3 _):=S2.out.call hb
 clear hb S2 HLe c1 f1 z1
 obtain⟨c1,f1,z1,-⟩:=S3.out.rules
 by_cases hk:0<k
 ·have hk1:(0:Int)<(k:Int):=by omega
  have HB1k:Hid _:=HB1.out hk
  go_wp2_with fail
  refine Calls.mono (HB1k.out _ S3.out.below) ?_
  rintro e w4 ⟨rfl,hb⟩
  have S4:Hid (St W (w4.alloc (.cells #[U i6 0,U i6 0,U i6 0,Sl none 0 0] 48)) _):=(S3.out.call hb).skip (.cells #[U i6 0,U i6 0,U i6 0,Sl none 0 0] 48)
  clear hb S3 HB1 HB1k c1 f1 z1
  go_upto_region 9 with fail
  obtain⟨w5,hw5⟩:∃ w5,w4.alloc (.cells #[U i6 0,U i6 0,U i6 0,Sl none 0 0] 48)=w5:=⟨_,rfl⟩
  obtain⟨B4,hB4⟩:∃ B,w4.heap.size=B:=⟨_,rfl⟩
  rw [hw5] at S4 ⊢
  rw [hB4]
  clear hw5 hB4
  have S5:Hid (St W w5 _):=S4.out
  clear S4
  obtain⟨c1,f1,z1,-⟩:=S5.out.rules
  go_wp2_with fail
  refine Calls.mono (HB2.out _ S5.out.below) ?_
  rintro e w6 ⟨⟨r,f,g,l,cp,a,rfl,hfg⟩,hb⟩
  have S6:Hid (St W (w6.alloc (.cells #[U i6 (r:Int),U i6 (f:Int),U i6 (g:Int),Sl a l cp] 48)) _):=(S5.out.call hb).new (c:=#[U i6 (r:Int),U i6 (f:Int),U i6 (g:Int),Sl a l cp]) (t:=48)
  clear hb S5 HB2 c1 f1 z1
  go_upto_region 12 with fail
  obtain⟨w7,hw7⟩:∃ w7,w6.alloc (.cells #[U i6 (r:Int),U i6 (f:Int),U i6 (g:Int),Sl a l cp] 48)=w7:=⟨_,rfl⟩
  obtain⟨B6,hB6⟩:∃ B,w6.heap.size=B:=⟨_,rfl⟩
  rw [hw7,hB6] at S6
  rw [hw7,hB6]
  clear hw7 hB6
  rcases hok with ⟨h1,rfl,rfl⟩ | ⟨h1,rfl,rfl⟩
  ·have h2:(N:Int)≤(k:Int):=by omega
   go_wp2
   go_ret
   exact⟨rfl,S6.out.below⟩
  ·have h2:¬ (N:Int)≤(k:Int):=by omega
   obtain⟨g1,g2,g3⟩:=hfg rfl
   have g4:(f:Int)<(g:Int):=by omega
   have g5:(g:Int)-(f:Int)≤(k:Int)+1:=by omega
   obtain⟨c2,f2,z2,-⟩:=S6.out.rules
   go_wp2
   go_ret
   exact⟨rfl,S6.out.below⟩
 ·have hk1:¬ (0:Int)<(k:Int):=by omega
  obtain⟨w5,rfl⟩:∃ w5,w5=w3:=⟨_,rfl⟩
  have S5:Hid (St W w5 _):=S3.out
  clear HB1 S3 c1 f1 z1
  obtain⟨c1,f1,z1,-⟩:=S5.out.rules
  go_wp2_with fail
  refine Calls.mono (HB2.out _ S5.out.below) ?_
  rintro e w6 ⟨⟨r,f,g,l,cp,a,rfl,hfg⟩,hb⟩
  have S6:Hid (St W (w6.alloc (.cells #[U i6 (r:Int),U i6 (f:Int),U i6 (g:Int),Sl a l cp] 48)) _):=(S5.out.call hb).new (c:=#[U i6 (r:Int),U i6 (f:Int),U i6 (g:Int),Sl a l cp]) (t:=48)
  clear hb S5 HB2 c1 f1 z1
  go_upto_region 12 with fail
  obtain⟨w7,hw7⟩:∃ w7,w6.alloc (.cells #[U i6 (r:Int),U i6 (f:Int),U i6 (g:Int),Sl a l cp] 48)=w7:=⟨_,rfl⟩
  obtain⟨B6,hB6⟩:∃ B,w6.heap.size=B:=⟨_,rfl⟩
  rw [hw7,hB6] at S6
  rw [hw7,hB6]
  clear hw7 hB6
  rcases hok with ⟨h1,rfl,rfl⟩ | ⟨h1,rfl,rfl⟩
  ·have h2:(N:Int)≤(k:Int):=by omega
   go_wp2
   go_ret
   exact⟨rfl,S6.out.below⟩
  ·have h2:¬ (N:Int)≤(k:Int):=by omega
   obtain⟨g1,g2,g3⟩:=hfg rfl
   have g4:(f:Int)<(g:Int):=by omega
   have g5:(g:Int)-(f:Int)≤(k:Int)+1:=by omega
   obtain⟨c2,f2,z2,-⟩:=S6.out.rules
   go_wp2
   go_ret
   exact⟨rfl,S6.out.below⟩
theorem wsuL_at {k kh kw sh sw tp lf bt rt h w c C p ch:Int} {zs bs x:List Int} {n m:Nat} (hch:1≤ch∧ch≤C) (hn:m*C.toNat+(ch-1).toNat<n) :
  (suL k kh kw sh sw tp lf bt rt h w c C p zs bs x n).getD (m*C.toNat+(ch-1).toNat) 0=suA k kh kw sh sw tp lf bt rt h w c p zs bs x ch (m:Int):=by
 unfold suL
 rw [List.getD_eq_getElem?_getD,List.getElem?_map,List.getElem?_range hn]
 have e:((m*C.toNat+(ch-1).toNat:Nat):Int)=(m:Int)*C+((ch-1).toNat:Nat):=by
  rw [Int.natCast_add,Int.natCast_mul,Int.toNat_of_nonneg (show 0≤C by omega)]
 obtain⟨e1,e2⟩:=divmod_at (C:=C) (q:=m) (d:=(ch-1).toNat) (by omega)
 simp only [Option.map_some,Option.getD_some]
 rw [e,e1,e2,show (((ch-1).toNat:Nat):Int)+1=ch by omega]
theorem wkf_ok {N:Nat} {HV C ch:Int} (hN:(N:Int)=HV) (hC:1≤C∧C≤1024) (hch:1≤ch∧ch≤C) (hNb:N≤1048576) {m:Nat} (hm:m<N) :
  (0≤(m:Int)*C∧(m:Int)*C≤10000000000)∧(m:Int)*C+ch-1=((m*C.toNat+(ch-1).toNat:Nat):Int)∧m*C.toNat+(ch-1).toNat<(HV*C).toNat:=by
 have h0:=Int.mul_nonneg (show (0:Int)≤(m:Int) by omega) (show 0≤C by omega)
 have h1:=Int.mul_le_mul_of_nonneg_right (show (m:Int)≤1048576 by omega) (show 0≤C by omega)
 have h2:=Int.mul_le_mul_of_nonneg_right (show (m:Int)+1≤HV by omega) (show 0≤C by omega)
 rw [Int.add_mul,Int.one_mul] at h2
 have e:((m*C.toNat+(ch-1).toNat:Nat):Int)=(m:Int)*C+((ch-1).toNat:Nat):=by
  rw [Int.natCast_add,Int.natCast_mul,Int.toNat_of_nonneg (show 0≤C by omega)]
 refine⟨⟨h0,by omega⟩,by rw [e];omega,?_⟩
 omega
theorem witnessTotals_walk (h w c lo hi:Int) (oa:Option Addr) (on oc:Nat) (ot op ch slo shi dp:Int) (W:World) (_:(Lit.int .i64 h).wf=true) (_:(Lit.int .i64 w).wf=true) (_:(Lit.int .i64 c).wf=true) (_:(Lit.int .i64 lo).wf=true) (_:(Lit.int .i64 hi).wf=true) (wo:ORow 22 (OpIn W) W oa on oc) (hr:on*208≤140737488351232) (_:(Lit.int .i64 ot).wf=true) (_:(Lit.int .i64 op).wf=true) (_:(Lit.int .i64 ch).wf=true) (_:(Lit.int .i64 slo).wf=true) (_:(Lit.int .i64 shi).wf=true) (_:(Lit.int .i64 dp).wf=true):Calls Try.prog 3 #[.agg #[U i6 h,U i6 w,U i6 c,U i6 lo,U i6 hi,Sl oa on oc,U i6 ot,U i6 op,U i6 ch,U i6 slo,U i6 shi,U i6 dp]] W fun e w'=>e=.returned (.bool true)∧Below W.heap.size W w':=by
 obtain⟨O,Z,B,hL⟩:=lrow_of wo
 rcases bask h w c lo hi ot oa on oc O Z B W hL op ch with ⟨E,hE,h1⟩ | ⟨RL,Rw,hR,i,x,wa,lw,cw,ba,lb,cb,x0,y0,z0,H,V,C,rfl,hF,hch⟩
 ·exact wtot_e h w c lo hi oa on oc ot op ch slo shi dp W E hE (fun W' hb=>wlo_bad h w c lo hi ot op ch oa on oc W' slo shi E hE (fun W2 hb2=>h1 W2 (hb.trans (hb2.mono hb.size)))) (fun W' hb=>who_bad h w c lo hi ot op ch oa on oc W' slo shi E hE (fun W2 hb2=>h1 W2 (hb.trans (hb2.mono hb.size)))) (fun W' hb=>btot_bad h w c lo hi ot op ch oa on oc W' slo shi E hE (fun W2 hb2=>h1 W2 (hb.trans (hb2.mono hb.size))))
 have hT:∀ W',Below W.heap.size W W'→_:=fun W' hb=>btot_ok h w c lo hi ot oa on oc O Z B W' (hL.below hb) ch RL Rw hR i x wa lw cw ba lb cb x0 y0 z0 H V C (hF.below hb) hch slo shi
 cases hs:vbB slo shi with
 | false =>
  rw [spR_f hs] at hT
  exact wtot_e h w c lo hi oa on oc ot ((i:Int)+1) ch slo shi dp W 30 (by decide) (fun W' hb=>wlo_30 h w c lo hi ot oa on oc O Z B W' (hL.below hb) ch RL Rw hR i x wa lw cw ba lb cb x0 y0 z0 H V C (hF.below hb) hch slo shi hs) (fun W' hb=>who_30 h w c lo hi ot oa on oc O Z B W' (hL.below hb) ch RL Rw hR i x wa lw cw ba lb cb x0 y0 z0 H V C (hF.below hb) hch slo shi hs) hT
 | true =>
  rw [spR_t hs] at hT
  obtain⟨f1,f2,f3,f4,f5,f6,f7,f8,f9,f10⟩:=wfacts h w c lo hi ot oa on oc O Z B W hL ch RL Rw hR i x wa lw cw ba lb cb x0 y0 z0 H V C hF hch
  have hSit:=hF.2.2.2.2.2.2.2.2.2.1
  have hvb:=vS_bd hSit.2.2.1
  have hC:=(vS_yes hSit.2.2.1).2.2.1
  have hk:∀ r:Nat,r<(H*V).toNat→_:=fun r hr=>wkf_ok (ch:=ch) f4.symm hC hch f5 hr
  have key:∀ (u:Bool) (r:Nat) (A:List Int),WOk (H*V).toNat (x0*y0*z0).toNat (stR (O i 0) (O i 4) (O i 5) x0 y0 z0).toNat slo shi (O i 19) (biA (O i 0) ch (B i)) u (fun r=>siL (O i 0) (O i 4) (O i 5) (O i 6) (O i 7) (O i 8) (O i 9) (O i 10) (O i 11) x0 y0 z0 ch (r:Int) (Z i)) r A→r<(H*V).toNat∧A.length=(x0*y0*z0).toNat∧((fun (xs':List Int)=>suL (O i 0) (O i 4) (O i 5) (O i 6) (O i 7) (O i 8) (O i 9) (O i 10) (O i 11) x0 y0 z0 C (O i 19) (Z i) (B i) xs' (H*V*C).toNat) A).getD (r*C.toNat+(ch-1).toNat) 0=enB u (hbT (biA (O i 0) ch (B i)) (fun (j:Nat)=>enL slo shi (O i 19) (siL (O i 0) (O i 4) (O i 5) (O i 6) (O i 7) (O i 8) (O i 9) (O i 10) (O i 11) x0 y0 z0 ch (j:Int) (Z i))) (H*V).toNat):=fun u r A h=>by
   obtain⟨h1,h2,h3⟩:=h
   refine⟨h1,h3.len,?_⟩
   show (suL (O i 0) (O i 4) (O i 5) (O i 6) (O i 7) (O i 8) (O i 9) (O i 10) (O i 11) x0 y0 z0 C (O i 19) (Z i) (B i) A (H*V*C).toNat).getD (r*C.toNat+(ch-1).toNat) 0=_
   rw [wsuL_at hch (hk r h1).2.2]
   rw [← f7 r] at h3
   rw [← h2]
   exact h3.sum _
  refine wtot_w h w c lo hi oa on oc ot ((i:Int)+1) ch slo shi dp W _ _ C (H*V).toNat (x0*y0*z0).toNat (H*V*C).toNat _ _ (fun r=>r*C.toNat+(ch-1).toNat) (fun (xs':List Int)=>suL (O i 0) (O i 4) (O i 5) (O i 6) (O i 7) (O i 8) (O i 9) (O i 10) (O i 11) x0 y0 z0 C (O i 19) (Z i) (B i) xs' (H*V*C).toNat) (fun W' hb=>wlo_ok h w c lo hi ot oa on oc O Z B W' (hL.below hb) ch RL Rw hR i x wa lw cw ba lb cb x0 y0 z0 H V C (hF.below hb) hch slo shi hs) (fun W' hb=>who_ok h w c lo hi ot oa on oc O Z B W' (hL.below hb) ch RL Rw hR i x wa lw cw ba lb cb x0 y0 z0 H V C (hF.below hb) hch slo shi hs) hT
   (fun W' a cp A hb hI=>(totals_ok h w c lo hi ot oa on oc O Z B W' (hL.below hb) RL Rw hR i x wa lw cw ba lb cb x0 y0 z0 H V C (hF.below hb) a _ _ A hI).mono fun e w' q=>?_)
   (fun W' hb=>chaT_ok h w c lo hi ot oa on oc O Z B W' (hL.below hb) RL Rw hR i x wa lw cw ba lb cb x0 y0 z0 H V C (hF.below hb)) f5 (by omega) hch hC.2 (fun A=>suL_len _ _ _ _ _ _ _ _ _ _ _ _ _ _ _ _ _ _) hk (key false) (key true)
  obtain⟨h1,h2⟩:=q
  rw [if_pos f2.symm] at h1
  exact⟨h1,h2⟩
theorem wlen_any (h w c lo hi ot:Int) (oa:Option Addr) (on oc:Nat) (O:Nat→Nat→Int) (Z B:Nat→List Int) (W:World) (hL:LRow W oa on oc O Z B) (op:Int):∃ n f:Int,∀ W',Below W.heap.size W W'→Calls Try.prog 13 #[.agg #[U i6 h,U i6 w,U i6 c,U i6 lo,U i6 hi,Sl oa on oc,U i6 ot],U i6 op] W' fun e w'=>e=.returned (.tuple #[U i6 n,U i6 f])∧Below W'.heap.size W' w':=by
 obtain⟨E,hf⟩:∃ E,fiE O h w c lo hi ot on op=E:=⟨_,rfl⟩
 by_cases hE:E=0
 ·subst hE
  obtain⟨RL,Rw,hR,i,x,wa,lw,cw,ba,lb,cb,x0,y0,z0,H,V,C,rfl,hF⟩:=found h w c lo hi ot oa on oc O Z B W hL op hf
  exact⟨_,_,fun W' hb=>lenT_ok h w c lo hi ot oa on oc O Z B W' (hL.below hb) RL Rw hR i x wa lw cw ba lb cb x0 y0 z0 H V C (hF.below hb)⟩
 ·exact⟨_,_,fun W' hb=>lenT_bad h w c lo hi ot oa on oc O Z B W' (hL.below hb) op E hf hE⟩
theorem witnessMost_walk (h w c lo hi:Int) (oa:Option Addr) (on oc:Nat) (ot op ch slo shi dp:Int) (W:World) (_:(Lit.int .i64 h).wf=true) (_:(Lit.int .i64 w).wf=true) (_:(Lit.int .i64 c).wf=true) (_:(Lit.int .i64 lo).wf=true) (_:(Lit.int .i64 hi).wf=true) (wo:ORow 22 (OpIn W) W oa on oc) (hr:on*208≤140737488351232) (_:(Lit.int .i64 ot).wf=true) (_:(Lit.int .i64 op).wf=true) (_:(Lit.int .i64 ch).wf=true) (_:(Lit.int .i64 slo).wf=true) (_:(Lit.int .i64 shi).wf=true) (_:(Lit.int .i64 dp).wf=true):Calls Try.prog 4 #[.agg #[U i6 h,U i6 w,U i6 c,U i6 lo,U i6 hi,Sl oa on oc,U i6 ot,U i6 op,U i6 ch,U i6 slo,U i6 shi,U i6 dp]] W fun e w'=>e=.returned (.bool true)∧Below W.heap.size W w':=by
 obtain⟨O,Z,B,hL⟩:=lrow_of wo
 rcases bask h w c lo hi ot oa on oc O Z B W hL op ch with ⟨E,hE,h1⟩ | ⟨RL,Rw,hR,i,x,wa,lw,cw,ba,lb,cb,x0,y0,z0,H,V,C,rfl,hF,hch⟩
 ·obtain⟨n,f,hn⟩:=wlen_any h w c lo hi ot oa on oc O Z B W hL op
  exact wmost_e h w c lo hi oa on oc ot op ch slo shi dp W E n f hE (fun W' hb=>dmos_bad h w c lo hi ot op ch oa on oc W' slo shi E hE (fun W2 hb2=>h1 W2 (hb.trans (hb2.mono hb.size)))) hn
 obtain⟨N,hN⟩:∃ N,(siL (O i 0) (O i 4) (O i 5) (O i 6) (O i 7) (O i 8) (O i 9) (O i 10) (O i 11) x0 y0 z0 ch 0 (Z i)).length=N:=⟨_,rfl⟩
 have hM:∀ W',Below W.heap.size W W'→_:=fun W' hb=>dmos_ok h w c lo hi ot oa on oc O Z B W' (hL.below hb) ch RL Rw hR i x wa lw cw ba lb cb x0 y0 z0 H V C (hF.below hb) hch slo shi N hN
 have hLe:∀ W',Below W.heap.size W W'→_:=fun W' hb=>lenT_ok h w c lo hi ot oa on oc O Z B W' (hL.below hb) RL Rw hR i x wa lw cw ba lb cb x0 y0 z0 H V C (hF.below hb)
 cases hs:vbB slo shi with
 | false =>
  rw [moR_f hs] at hM
  exact wmost_e h w c lo hi oa on oc ot ((i:Int)+1) ch slo shi dp W 30 _ 0 (by decide) hM hLe
 | true =>
  rw [moR_t hs] at hM
  obtain⟨e1,e2,e3⟩:=op_len RL Rw hR i x wa lw cw ba lb cb x0 y0 z0 H V C hF hch N hN
  rw [e1] at hLe
  have f7:=(wfacts h w c lo hi ot oa on oc O Z B W hL ch RL Rw hR i x wa lw cw ba lb cb x0 y0 z0 H V C hF hch).2.2.2.2.2.2.1
  have hKN:=grN_le (sfD (fun (j:Nat)=>enL slo shi (O i 19) (siL (O i 0) (O i 4) (O i 5) (O i 6) (O i 7) (O i 8) (O i 9) (O i 10) (O i 11) x0 y0 z0 ch (j:Int) (Z i))) (H*V).toNat) N
  by_cases hk:N≤(grN (sfD (fun (j:Nat)=>enL slo shi (O i 19) (siL (O i 0) (O i 4) (O i 5) (O i 6) (O i 7) (O i 8) (O i 9) (O i 10) (O i 11) x0 y0 z0 ch (j:Int) (Z i))) (H*V).toNat) N)
  ·refine wmost_w h w c lo hi oa on oc ot ((i:Int)+1) ch slo shi dp W (grN (sfD (fun (j:Nat)=>enL slo shi (O i 19) (siL (O i 0) (O i 4) (O i 5) (O i 6) (O i 7) (O i 8) (O i 9) (O i 10) (O i 11) x0 y0 z0 ch (j:Int) (Z i))) (H*V).toNat) N) N hKN e3 hM hLe (fun h0 W' hb=>?_) false 151 (.inl ⟨hk,rfl,rfl⟩) (fun W' hb=>?_)
   ·exact wbr_no h w c lo hi ot oa on oc O Z B W' (hL.below hb) ch RL Rw hR i x wa lw cw ba lb cb x0 y0 z0 H V C (hF.below hb) hch slo shi _ N hN true 0 (by rw [saR_t hs ⟨by omega,by omega⟩,Int.toNat_natCast];exact congrArg (·,(0:Int)) (grN_safe (sfD (fun (j:Nat)=>enL slo shi (O i 19) (siL (O i 0) (O i 4) (O i 5) (O i 6) (O i 7) (O i 8) (O i 9) (O i 10) (O i 11) x0 y0 z0 ch (j:Int) (Z i))) (H*V).toNat) N h0)) (.inr rfl)
   ·refine (wbr_no h w c lo hi ot oa on oc O Z B W' (hL.below hb) ch RL Rw hR i x wa lw cw ba lb cb x0 y0 z0 H V C (hF.below hb) hch slo shi _ N hN false 151 (saR_d hs (by omega) _) (.inl (by decide))).mono ?_
    rintro e w' ⟨rfl,hb'⟩
    exact⟨⟨0,0,0,0,0,none,rfl,fun q=>by cases q⟩,hb'⟩
  ·refine wmost_w h w c lo hi oa on oc ot ((i:Int)+1) ch slo shi dp W (grN (sfD (fun (j:Nat)=>enL slo shi (O i 19) (siL (O i 0) (O i 4) (O i 5) (O i 6) (O i 7) (O i 8) (O i 9) (O i 10) (O i 11) x0 y0 z0 ch (j:Int) (Z i))) (H*V).toNat) N) N hKN e3 hM hLe (fun h0 W' hb=>?_) true 0 (.inr ⟨by omega,rfl,rfl⟩) (fun W' hb=>?_)
   ·exact wbr_no h w c lo hi ot oa on oc O Z B W' (hL.below hb) ch RL Rw hR i x wa lw cw ba lb cb x0 y0 z0 H V C (hF.below hb) hch slo shi _ N hN true 0 (by rw [saR_t hs ⟨by omega,by omega⟩,Int.toNat_natCast];exact congrArg (·,(0:Int)) (grN_safe (sfD (fun (j:Nat)=>enL slo shi (O i 19) (siL (O i 0) (O i 4) (O i 5) (O i 6) (O i 7) (O i 8) (O i 9) (O i 10) (O i 11) x0 y0 z0 ch (j:Int) (Z i))) (H*V).toNat) N h0)) (.inr rfl)
   ·have hw:w16 (hbD ((grN (sfD (fun (j:Nat)=>enL slo shi (O i 19) (siL (O i 0) (O i 4) (O i 5) (O i 6) (O i 7) (O i 8) (O i 9) (O i 10) (O i 11) x0 y0 z0 ch (j:Int) (Z i))) (H*V).toNat) N)+1) (fun (j:Nat)=>enL slo shi (O i 19) (siL (O i 0) (O i 4) (O i 5) (O i 6) (O i 7) (O i 8) (O i 9) (O i 10) (O i 11) x0 y0 z0 ch (j:Int) (Z i))) (H*V).toNat)=false:=grN_max (sfD (fun (j:Nat)=>enL slo shi (O i 19) (siL (O i 0) (O i 4) (O i 5) (O i 6) (O i 7) (O i 8) (O i 9) (O i 10) (O i 11) x0 y0 z0 ch (j:Int) (Z i))) (H*V).toNat) N ((grN (sfD (fun (j:Nat)=>enL slo shi (O i 19) (siL (O i 0) (O i 4) (O i 5) (O i 6) (O i 7) (O i 8) (O i 9) (O i 10) (O i 11) x0 y0 z0 ch (j:Int) (Z i))) (H*V).toNat) N)+1) (by omega) (by omega)
    have:=wbr_yes h w c lo hi ot oa on oc O Z B W' (hL.below hb) ch RL Rw hR i x wa lw cw ba lb cb x0 y0 z0 H V C (hF.below hb) hch slo shi ((grN (sfD (fun (j:Nat)=>enL slo shi (O i 19) (siL (O i 0) (O i 4) (O i 5) (O i 6) (O i 7) (O i 8) (O i 9) (O i 10) (O i 11) x0 y0 z0 ch (j:Int) (Z i))) (H*V).toNat) N)+1) N hN hs ⟨by omega,by omega⟩ hw
    rw [show (((grN (sfD (fun (j:Nat)=>enL slo shi (O i 19) (siL (O i 0) (O i 4) (O i 5) (O i 6) (O i 7) (O i 8) (O i 9) (O i 10) (O i 11) x0 y0 z0 ch (j:Int) (Z i))) (H*V).toNat) N)+1:Nat):Int)=(((grN (sfD (fun (j:Nat)=>enL slo shi (O i 19) (siL (O i 0) (O i 4) (O i 5) (O i 6) (O i 7) (O i 8) (O i 9) (O i 10) (O i 11) x0 y0 z0 ch (j:Int) (Z i))) (H*V).toNat) N):Nat):Int)+1 by omega] at this
    refine this.mono ?_
    rintro e w' ⟨⟨r,f,g,A,v',⟨q1,u,⟨q2,q3,q4,-⟩,-⟩,rfl,hO⟩,hb'⟩
    obtain⟨a,cp,rfl,-⟩:=hO.row
    rw [enL_len,f7 r] at q3
    exact⟨⟨r,f,g,_,_,a,rfl,fun _=>⟨q2,by omega,by omega⟩⟩,hb'⟩
end Go.Proofs.Ytgjcjhnnopandaa
