/- What the document's Taps returns, of a position that is there. What the document's Terms returns, of a Dense. -/
import Derived.Test.YtccoanknofhmaaaGreatGq13
import Derived.Test.YtccoanknofhmaaaGreatGq25
namespace Go.Proofs.YtccoanknofhmaaaGreat.Nx
open Go.Value renaming int → U, slice → Sl
open Go.IntKind renaming i64 → i6
set_option maxRecDepth 100000
set_option maxHeartbeats 16000000
open Go.ChangeShapes Go.WideShapes Go.ChangeAt Go.RowKit
def covL (h w kw t l:Int) (n:Nat):List Int:=(List.range n).map fun (k:Nat)=>plc h w (t+(k:Int) / kw) (l+(k:Int) % kw)
theorem covL_len (h w kw t l:Int) (n:Nat):(covL h w kw t l n).length=n:=by simp [covL]
theorem covL_succ (h w t l:Int) {q y x:Nat} (hx:x<q):covL h w q t l (y*q+x+1)=covL h w q t l (y*q+x)++[plc h w (t+y) (l+x)]:=by
 have:=spot_at (y:=y) hx
 simp only [Prod.mk.injEq] at this
 simp only [covL,List.range_succ,List.map_append,List.map_cons,List.map_nil,this.1,this.2]
theorem Own.grow {w w' w0:World} {base:Nat} {v:Value} {zs:List Int} (h:Own w base v zs) (hb:Below base w0 w) (k:w.grownBy w' v.ownBlock) (hB:base≤w.heap.size):Below base w0 w':=hb.grown k hB fun _ hb=>h.block hb
theorem rtaps_any (h w c kh kw sh sw tp lf bt rt n t u:Int) (W:World) (hc:coR h w c kh kw sh sw tp lf bt rt n=(t,u,0)) :
  Calls Tryz.prog 64 #[.agg #[U i6 h,U i6 w,U i6 c],.agg #[U i6 kh,U i6 kw,U i6 sh,U i6 sw,U i6 tp,U i6 lf,U i6 bt,U i6 rt],U i6 n] W fun e w'=>(∃ v,e=.returned v∧Own w' W.heap.size v (covL h w kw t u (kh*kw).toNat))∧Below W.heap.size W w':=by
 rcases coR_cases h w c kh kw sh sw tp lf bt rt n with ⟨e,he,h2⟩ | ⟨r,q,he,hf,hn,hc'⟩
 ·rw [he] at hc;simp at hc;omega
 rw [hc'] at hc
 simp only [Prod.mk.injEq,and_true] at hc
 obtain⟨hct,hcu⟩:=hc
 have hcor:=cor_of hf hn
 rw [hct,hcu] at hcor
 obtain⟨⟨h1,v1,q9⟩,⟨k1,k2,k3,k4,k5,k6,k7,k8⟩,r1,q1,z1,z2⟩:=hf
 obtain⟨-,-,-,-,-,t1,u1⟩:=hcor
 have HO:Hid (ouR h w c kh kw sh sw tp lf bt rt=(r,q,0)):=he
 have a1:=Int.ediv_nonneg (show 0≤n by omega) (show 0≤q by omega)
 have a2:n / q<r:=Int.ediv_lt_of_lt_mul (by omega) (by omega)
 have b1:=Int.emod_nonneg n (show q≠0 by omega)
 have b2:=Int.emod_lt_of_pos n (show 0<q by omega)
 have t2:=td (c:=q) (show 0≤n by omega)
 have t3:=tm (c:=q) (show 0≤n by omega)
 obtain⟨d,hd⟩:∃ d,n / q=d:=⟨_,rfl⟩
 obtain⟨o,ho⟩:∃ o,n % q=o:=⟨_,rfl⟩
 rw [hd] at a1 a2 t2 hct
 rw [ho] at b1 b2 t3 hcu
 have n1:=hn.1
 clear hd ho he hc' z1 z2 hn
 have c3:=Int.mul_nonneg a1 (show 0≤sh by omega)
 have c4:=Int.mul_nonneg b1 (show 0≤sw by omega)
 obtain⟨p,hp⟩:∃ p,d*sh=p:=⟨_,rfl⟩
 obtain⟨v,hv⟩:∃ v,o*sw=v:=⟨_,rfl⟩
 rw [hp] at c3 hct
 rw [hv] at c4 hcu
 have e3:p=t+tp:=by omega
 have e4:v=u+lf:=by omega
 subst e3 e4
 have q0:¬ q=0:=by omega
 obtain⟨KH,hKH⟩:∃ K:Nat,kh=K:=⟨kh.toNat,by omega⟩
 obtain⟨KW,hKW⟩:∃ K:Nat,kw=K:=⟨kw.toNat,by omega⟩
 subst hKH hKW
 have HN:Hid (((KH:Int)*(KW:Int)).toNat=KH*KW):=by unfold Hid;rw [← Int.natCast_mul];rfl
 rw [HN.out]
 clear hct hcu
 go_enter Tryz.func64,Tryz.ntmps64
 go_wp2_with fail
 refine (rout_any _ _ _ _ _ _ _ _ _ _ _ _).mono ?_
 rintro e w1 ⟨rfl,hb'⟩
 have s1:=(St.start W).new.new.call hb'
 clear hb'
 try simp only [World.size_setCell] at s1
 try simp only [World.size_alloc] at s1
 obtain⟨c1,f1,zw1_1,c2,f2,zw1_2,-⟩:=s1.rules
 rw [HO.out]
 go_wp2
 go_quiet (fail)
 have s2:=s1.call (drewN_below w1 nq)
 clear c1 f1 c2 f2
 obtain⟨w2,hw2⟩:∃ w2,w1.drewN nq=w2:=⟨_,rfl⟩
 rw [hw2] at s2
 rw [hw2]
 clear hw2 zw1_1 zw1_2 s1
 go_wp2
 have hs2:=s2.size
 go_loopw [12,13] (fun out ky wr=>∃ y:Nat,y≤KH∧ky=U i6 y∧Own wr w2.heap.size out (covL h w KW t u (y*KW))∧Below w2.heap.size w2 wr)
  (fun _ ky _=>KH-(intOf ky).toNat)
 case atStart=>exact⟨0,Nat.zero_le _,rfl,by simpa [covL] using own_none _ _,Below.refl _ _⟩
 case round =>
  obtain⟨y,hy,rfl,hown,hb⟩:=hrel
  have s3:=s2.call hb
  obtain⟨c1,f1,zr1,c2,f2,zr2,-⟩:=s3.rules
  by_cases hlt:y<KH
  ·go_wp2
   go_loopw [12,14] (fun out kx wr'=>∃ x:Nat,x≤KW∧kx=U i6 x∧Own wr' w2.heap.size out (covL h w KW t u (y*KW+x))∧Below w2.heap.size w2 wr')
    (fun _ kx _=>KW-(intOf kx).toNat)
   case atStart=>exact⟨0,Nat.zero_le _,rfl,hown,hb⟩
   case round =>
    obtain⟨x,hx,rfl,hown2,hb2⟩:=hrel
    clear c1 f1 c2 f2 zr1 zr2
    have s4:=s2.call hb2
    obtain⟨c1,f1,zr1,c2,f2,zr2,-⟩:=s4.rules
    have hbs:=hb2.size
    by_cases hlt2:x<KW
    ·have HS:=covL_succ h w t u (y:=y) hlt2
     have HL:=covL_len h w KW t u (y*KW+x)
     have HX:Hid ((covL h w KW t u (y*KW+x)).length+1≤10000000):=by
      unfold Hid
      rw [HL]
      have:=Nat.mul_le_mul (show y≤32 by omega) (show KW≤32 by omega)
      omega
     have HS':Hid (covL h w KW t u (y*KW+x+1)=covL h w KW t u (y*KW+x)++[plc h w (t+y) (u+x)]):=HS
     clear HS HL
     obtain⟨L,hL⟩:∃ L,covL h w KW t u (y*KW+x)=L:=⟨_,rfl⟩
     rw [hL] at HX HS' hown2
     clear hL
     by_cases k1:t+y<0
     ·have HP:Hid (plc h w (t+y) (u+x) = -1):=plc_out (by omega)
      rw [HP.out] at HS'
      have own3:=hown2.alloc (.cells #[U i6 (-1)] 3)
      have b3:=hb2.alloc hb2.size (.cells #[U i6 (-1)] 3)
      go_wp2_with (at_builtin;refine wpList_app rfl (.tmp 78) (.tmp 79) rfl w2.heap.size _ _ [(-1:Int)] rfl own3 _ _ _ rfl (row_one _ _) HX.out b3.size ?_;intro v4 w4 own4 gr4)
      go_roundw
      case rel=>exact⟨x+1,by omega,by go_num,by rw [← Nat.add_assoc,HS'.out];exact own4,own3.grow b3 gr4 b3.size⟩
      case measure=>simp [intOf];omega
     by_cases k2:h≤t+y
     ·have HP:Hid (plc h w (t+y) (u+x) = -1):=plc_out (by omega)
      rw [HP.out] at HS'
      have own3:=hown2.alloc (.cells #[U i6 (-1)] 3)
      have b3:=hb2.alloc hb2.size (.cells #[U i6 (-1)] 3)
      go_wp2_with (at_builtin;refine wpList_app rfl (.tmp 78) (.tmp 79) rfl w2.heap.size _ _ [(-1:Int)] rfl own3 _ _ _ rfl (row_one _ _) HX.out b3.size ?_;intro v4 w4 own4 gr4)
      go_roundw
      case rel=>exact⟨x+1,by omega,by go_num,by rw [← Nat.add_assoc,HS'.out];exact own4,own3.grow b3 gr4 b3.size⟩
      case measure=>simp [intOf];omega
     by_cases k3:u+x<0
     ·have HP:Hid (plc h w (t+y) (u+x) = -1):=plc_out (by omega)
      rw [HP.out] at HS'
      have own3:=hown2.alloc (.cells #[U i6 (-1)] 3)
      have b3:=hb2.alloc hb2.size (.cells #[U i6 (-1)] 3)
      go_wp2_with (at_builtin;refine wpList_app rfl (.tmp 78) (.tmp 79) rfl w2.heap.size _ _ [(-1:Int)] rfl own3 _ _ _ rfl (row_one _ _) HX.out b3.size ?_;intro v4 w4 own4 gr4)
      go_roundw
      case rel=>exact⟨x+1,by omega,by go_num,by rw [← Nat.add_assoc,HS'.out];exact own4,own3.grow b3 gr4 b3.size⟩
      case measure=>simp [intOf];omega
     by_cases k4:w≤u+x
     ·have HP:Hid (plc h w (t+y) (u+x) = -1):=plc_out (by omega)
      rw [HP.out] at HS'
      have own3:=hown2.alloc (.cells #[U i6 (-1)] 3)
      have b3:=hb2.alloc hb2.size (.cells #[U i6 (-1)] 3)
      go_wp2_with (at_builtin;refine wpList_app rfl (.tmp 78) (.tmp 79) rfl w2.heap.size _ _ [(-1:Int)] rfl own3 _ _ _ rfl (row_one _ _) HX.out b3.size ?_;intro v4 w4 own4 gr4)
      go_roundw
      case rel=>exact⟨x+1,by omega,by go_num,by rw [← Nat.add_assoc,HS'.out];exact own4,own3.grow b3 gr4 b3.size⟩
      case measure=>simp [intOf];omega
     have HP:Hid (plc h w (t+y) (u+x)=(t+y)*w+(u+x)):=plc_in (by omega)
     rw [HP.out] at HS'
     obtain⟨p1,p2⟩:=rowbd (by omega:t+y<h) (by omega:0≤t+(y:Int)) (by omega:0≤u+(x:Int)) (by omega:u+x<w)
     obtain⟨-,m2⟩:=mul_bd h1.1 h1.2 v1.1 v1.2
     obtain⟨m,hm⟩:∃ m,h*w=m:=⟨_,rfl⟩
     rw [hm] at p2 m2
     clear hm
     obtain⟨p,hp'⟩:∃ p,(t+(y:Int))*w=p:=⟨_,rfl⟩
     rw [hp'] at p1 p2 HS'
     have own3:=hown2.alloc (.cells #[U i6 (p+(u+x))] 3)
     have b3:=hb2.alloc hb2.size (.cells #[U i6 (p+(u+x))] 3)
     go_wp2_with (at_builtin;refine wpList_app rfl (.tmp 81) (.tmp 88) rfl w2.heap.size _ _ [p+(u+(x:Int))] rfl own3 _ _ _ rfl (row_one _ _) HX.out b3.size ?_;intro v4 w4 own4 gr4)
     go_roundw
     case rel=>exact⟨x+1,by omega,by go_num,by rw [← Nat.add_assoc,HS'.out];exact own4,own3.grow b3 gr4 b3.size⟩
     case measure=>simp [intOf];omega
    ·obtain rfl:x=KW:=by omega
     go_wp2
     go_roundw
     case rel=>exact⟨y+1,by omega,by go_num,by rw [Nat.add_mul,Nat.one_mul];exact hown2,hb2⟩
     case measure=>simp [intOf];omega
  ·obtain rfl:y=KH:=by omega
   go_wp2
   go_ret
   exact⟨⟨_,rfl,hown.base (by omega)⟩,s2.below.trans (hb.mono (by omega))⟩
end Go.Proofs.YtccoanknofhmaaaGreat.Nx
namespace Go.Proofs.YtccoanknofhmaaaGreat
open Go.Value renaming int → U, slice → Sl
open Go.IntKind renaming i64 → i6
set_option maxRecDepth 100000
set_option maxHeartbeats 16000000
open Go.ChangeShapes Go.WideShapes Go.ChangeAt Go.RowKit
set_option linter.unusedVariables false
theorem OTm.grow {w w' w0:World} {base:Nat} {v:Value} {L:List (Int×Int)} (h:OTm w base v L) (hb:Below base w0 w) (k:w.grownBy w' v.ownBlock) (hB:base≤w.heap.size):Below base w0 w':=hb.grown k hB fun b e=>h.lt b e
theorem plA_1 (C ch h w kw t u i:Int):plA 1 C ch h w kw t u i=i:=if_pos rfl
theorem rterms_1 (a b m kh kw sh sw tp lf bt rt:Int) (wa:Option Addr) (lw wc:Nat) (ba:Option Addr) (lb bc:Nat) (sm ss um us z p lo hi h w c H V C:Int) (W:World) (zs:List Int) (hZ:IRow .i16 W wa lw wc zs) (s:Sit 1 kh kw sh sw tp lf bt rt h w c H V C lw lb) (ch at' t u:Int) (hch:1≤ch∧ch≤C) (st:Nat) (hst:stR 1 kh kw h w c=(st:Int)) :
  Calls Tryz.prog 44 #[.agg #[U i6 1,U i6 a,U i6 b,U i6 m,U i6 kh,U i6 kw,U i6 sh,U i6 sw,U i6 tp,U i6 lf,U i6 bt,U i6 rt,Sl wa lw wc,Sl ba lb bc,U i6 sm,U i6 ss,U i6 um,U i6 us,U i6 z,U i6 p,U i6 lo,U i6 hi,U i6 h,U i6 w,U i6 c,U i6 H,U i6 V,U i6 C],U i6 ch,U i6 at'] W fun e w'=>(∃ v,e=.returned v∧OTm w' W.heap.size v (tmL 1 c ch h w kw t u st zs st))∧Below W.heap.size W w':=by
 have hLe:Hid (∀ W',Calls Tryz.prog 15 #[.agg #[U i6 1,U i6 a,U i6 b,U i6 m,U i6 kh,U i6 kw,U i6 sh,U i6 sw,U i6 tp,U i6 lf,U i6 bt,U i6 rt,Sl wa lw wc,Sl ba lb bc,U i6 sm,U i6 ss,U i6 um,U i6 us,U i6 z,U i6 p,U i6 lo,U i6 hi,U i6 h,U i6 w,U i6 c,U i6 H,U i6 V,U i6 C]] W' fun e w'=>e=.returned (U i6 st)∧Below W'.heap.size W' w'):=fun W'=>by rw [← hst];exact rlen_any 1 a b m kh kw sh sw tp lf bt rt wa lw wc ba lb bc sm ss um us z p lo hi h w c H V C W' s
 have hWg:Hid (∀ (w':World) (i:Nat),i<st→Below W.heap.size W w'→Calls Tryz.prog 63 #[.agg #[U i6 1,U i6 a,U i6 b,U i6 m,U i6 kh,U i6 kw,U i6 sh,U i6 sw,U i6 tp,U i6 lf,U i6 bt,U i6 rt,Sl wa lw wc,Sl ba lb bc,U i6 sm,U i6 ss,U i6 um,U i6 us,U i6 z,U i6 p,U i6 lo,U i6 hi,U i6 h,U i6 w,U i6 c,U i6 H,U i6 V,U i6 C],U i6 ch,U i6 i] w' fun e w''=>e=.returned (U i6 (wgA 1 ch st zs i))∧Below w'.heap.size w' w''):=fun w' i hj hb=>by
  have:=rwei_any 1 a b m kh kw sh sw tp lf bt rt wa lw wc ba lb bc sm ss um us z p lo hi h w c H V C w' zs (hZ.below hb) s ch hch i (by rw [hst];omega)
  rw [hst] at this
  exact this
 have hlen:st≤512:=by have:=s.2.2.2.2.2.2.2.2.2;rw [hst] at this;omega
 clear hst hZ s
 have s0:=(St.start W).new (c:=#[U i6 1,U i6 a,U i6 b,U i6 m,U i6 kh,U i6 kw,U i6 sh,U i6 sw,U i6 tp,U i6 lf,U i6 bt,U i6 rt,Sl wa lw wc,Sl ba lb bc,U i6 sm,U i6 ss,U i6 um,U i6 us,U i6 z,U i6 p,U i6 lo,U i6 hi,U i6 h,U i6 w,U i6 c,U i6 H,U i6 V,U i6 C]) (t:=44)
 go_enter Tryz.func44,Tryz.ntmps44
 go_wp2_with (refine wpList_load_row rfl 44 (.tmp 3) rfl W.heap.size rfl 44 _ (0,0) _ s0.h1 Tryz.underlying44 rfl (by kernel_rfl) ?_)
 refine (hLe.out _).mono ?_
 rintro e w1 ⟨rfl,hb⟩
 have s1:=s0.call hb
 obtain⟨c1,f1,z1,-⟩:=s1.rules
 have S1:Hid (St W w1 _):=s1
 clear hb s0 s1
 go_wp2
 clear c1 f1
 go_loopw [7,9] (fun v i wr=>∃ y:Nat,y≤st∧i=U i6 y∧OTm wr w1.heap.size v (tmL 1 c ch h w kw t u st zs y)∧Below w1.heap.size w1 wr) (fun _ i _=>st-(intOf i).toNat)
 case atStart=>exact⟨0,Nat.zero_le _,rfl,OTm.nil _ _,Below.refl _ _⟩
 case round =>
  obtain⟨y,hy,rfl,hO,hb⟩:=hrel
  have s2:=S1.out.call hb
  obtain⟨va,vc,hve⟩:=hO.slice
  rw [tmL_len] at hve
  subst hve
  have HO:Hid (OTm _ _ _ _):=hO
  have hbz:=hb.size
  clear hO
  by_cases hlt:y<st
  ·have h1:=s2.h1
   go_wp2_with (refine wpList_load_row rfl 44 (.tmp 3) rfl W.heap.size rfl 44 _ (0,0) _ h1 Tryz.underlying44 rfl (by kernel_rfl) ?_)
   refine (hWg.out _ y hlt s2.below).mono ?_
   rintro e w3 ⟨rfl,hb3⟩
   have HO3:Hid (OTm _ _ _ _):=(HO.out.below hb3).below (bal w3 (.cells #[U i6 (wgA 1 ch st zs y),U i6 y] 92))
   have B3:Hid (Below w1.heap.size w1 _):=(hb.trans (hb3.mono hbz)).alloc (Nat.le_trans hbz hb3.size) (.cells #[U i6 (wgA 1 ch st zs y),U i6 y] 92)
   have hz3:w1.heap.size≤w3.heap.size:=Nat.le_trans hbz hb3.size
   have HS:Hid (tmL 1 c ch h w kw t u st zs (y+1)=tmL 1 c ch h w kw t u st zs y++[(wgA 1 ch st zs y,(y:Int))]):=by unfold Hid;rw [tmL_succ,plA_1]
   have HLn:Hid ((tmL 1 c ch h w kw t u st zs y).length+1≤1000000):=by unfold Hid;rw [tmL_len];omega
   clear hb3 hb s2 HO h1
   go_wp2_with (at_builtin;refine wpList_apT rfl (.tmp 26) (.tmp 33) rfl w1.heap.size _ _ [(wgA 1 ch st zs y,(y:Int))] rfl HO3.out w3.heap.size 1 1 rfl rfl (term_one w3 _ _) HLn.out (by simp;omega) ?_;intro v4 w4 own4 gr4;have B4:Hid (Below w1.heap.size w1 w4):=HO3.out.grow B3.out gr4 (by simp;omega))
   go_roundw
   case rel=>exact⟨y+1,by omega,by go_num,by rw [HS.out];exact own4,B4.out⟩
   case measure=>simp [intOf];omega
  ·obtain rfl:y=st:=by omega
   have hS1:=S1.out.below
   go_wp2
   go_ret
   exact⟨⟨_,rfl,HO.out.base hS1.size⟩,hS1.trans (hb.mono hS1.size)⟩
end Go.Proofs.YtccoanknofhmaaaGreat
