/- What the document's Taps returns, of a position that is there. What the document's Terms returns, of a Dense. What the document's Terms returns, of an op with a window. The document's greatest of layer 11. -/
import Derived.Test.YtehofmkpgopmpaaGreatGq13
import Derived.Test.YtehofmkpgopmpaaGreatGq14
import Derived.Test.YtehofmkpgopmpaaGreatGq27
namespace Go.Proofs.YtehofmkpgopmpaaGreat.Nx
open Go.Value renaming int → U, slice → Sl
open Go.IntKind renaming i64 → i6
set_option maxRecDepth 100000
set_option maxHeartbeats 16000000
open Go.ChangeShapes Go.WideShapes Go.ChangeAt Go.RowKit
def covL (h w kw t l:Int) (n:Nat):List Int:=(List.range n).map fun (k:Nat)=>plc h w (t+(k:Int) / kw) (l+(k:Int) % kw)
theorem covL_len (h w kw t l:Int) (n:Nat):(covL h w kw t l n).length=n:=by simp [covL]
theorem covL_succ (h w t l:Int) {q y x:Nat} (hx:x<q):covL h w q t l (y*q+x+1)=covL h w q t l (y*q+x)++[plc h w (t+y) (l+x)]:=by
 have:=spot_at (y:=y) hx
 simp only [Prod.mk.injEq] at this
 simp only [covL,List.range_succ,List.map_append,List.map_cons,List.map_nil,this.1,this.2]
theorem Own.grow {w w' w0:World} {base:Nat} {v:Value} {zs:List Int} (h:Own w base v zs) (hb:Below base w0 w) (k:w.grownBy w' v.ownBlock) (hB:base≤w.heap.size):Below base w0 w':=hb.grown k hB fun _ hb=>h.block hb
theorem rtaps_any (h w c kh kw sh sw tp lf bt rt n t u:Int) (W:World) (hc:coR h w c kh kw sh sw tp lf bt rt n=(t,u,0)) :
  Calls Tryz.prog 49 #[.agg #[U i6 h,U i6 w,U i6 c],.agg #[U i6 kh,U i6 kw,U i6 sh,U i6 sw,U i6 tp,U i6 lf,U i6 bt,U i6 rt],U i6 n] W fun e w'=>(∃ v,e=.returned v∧Own w' W.heap.size v (covL h w kw t u (kh*kw).toNat))∧Below W.heap.size W w':=by
 rcases coR_cases h w c kh kw sh sw tp lf bt rt n with ⟨e,he,h2⟩ | ⟨r,q,he,hf,hn,hc'⟩
 ·rw [he] at hc;simp at hc;omega
 rw [hc'] at hc
 simp only [Prod.mk.injEq,and_true] at hc
 obtain⟨hct,hcu⟩:=hc
 have hcor:=cor_of hf hn
 rw [hct,hcu] at hcor
 obtain⟨⟨h1,v1,q9⟩,⟨k1,k2,k3,k4,k5,k6,k7,k8⟩,r1,q1,z1,z2⟩:=hf
 obtain⟨-,-,-,-,-,t1,u1⟩:=hcor
 have HO:Hid (ouR h w c kh kw sh sw tp lf bt rt=(r,q,0)):=he
 have a1:=Int.ediv_nonneg (show 0≤n by omega) (show 0≤q by omega)
 have a2:n / q<r:=Int.ediv_lt_of_lt_mul (by omega) (by omega)
 have b1:=Int.emod_nonneg n (show q≠0 by omega)
 have b2:=Int.emod_lt_of_pos n (show 0<q by omega)
 have t2:=td (c:=q) (show 0≤n by omega)
 have t3:=tm (c:=q) (show 0≤n by omega)
 obtain⟨d,hd⟩:∃ d,n / q=d:=⟨_,rfl⟩
 obtain⟨o,ho⟩:∃ o,n % q=o:=⟨_,rfl⟩
 rw [hd] at a1 a2 t2 hct
 rw [ho] at b1 b2 t3 hcu
 have n1:=hn.1
 clear hd ho he hc' z1 z2 hn
 have c3:=Int.mul_nonneg a1 (show 0≤sh by omega)
 have c4:=Int.mul_nonneg b1 (show 0≤sw by omega)
 obtain⟨p,hp⟩:∃ p,d*sh=p:=⟨_,rfl⟩
 obtain⟨v,hv⟩:∃ v,o*sw=v:=⟨_,rfl⟩
 rw [hp] at c3 hct
 rw [hv] at c4 hcu
 have e3:p=t+tp:=by omega
 have e4:v=u+lf:=by omega
 subst e3 e4
 have q0:¬ q=0:=by omega
 obtain⟨KH,hKH⟩:∃ K:Nat,kh=K:=⟨kh.toNat,by omega⟩
 obtain⟨KW,hKW⟩:∃ K:Nat,kw=K:=⟨kw.toNat,by omega⟩
 subst hKH hKW
 have HN:Hid (((KH:Int)*(KW:Int)).toNat=KH*KW):=by unfold Hid;rw [← Int.natCast_mul];rfl
 rw [HN.out]
 clear hct hcu
 go_enter Tryz.func49,Tryz.ntmps49
 go_wp2_with fail
 refine (rout_any _ _ _ _ _ _ _ _ _ _ _ _).mono ?_
 rintro e w1 ⟨rfl,hb'⟩
 have s1:=(St.start W).new.new.call hb'
 clear hb'
 try simp only [World.size_setCell] at s1
 try simp only [World.size_alloc] at s1
 obtain⟨c1,f1,zw1_1,c2,f2,zw1_2,-⟩:=s1.rules
 rw [HO.out]
 go_wp2
 go_quiet (fail)
 have s2:=s1.call (drewN_below w1 nq)
 clear c1 f1 c2 f2
 obtain⟨w2,hw2⟩:∃ w2,w1.drewN nq=w2:=⟨_,rfl⟩
 rw [hw2] at s2
 rw [hw2]
 clear hw2 zw1_1 zw1_2 s1
 go_wp2
 have hs2:=s2.size
 go_loopw [12,13] (fun out ky wr=>∃ y:Nat,y≤KH∧ky=U i6 y∧Own wr w2.heap.size out (covL h w KW t u (y*KW))∧Below w2.heap.size w2 wr)
  (fun _ ky _=>KH-(intOf ky).toNat)
 case atStart=>exact⟨0,Nat.zero_le _,rfl,by simpa [covL] using own_none _ _,Below.refl _ _⟩
 case round =>
  obtain⟨y,hy,rfl,hown,hb⟩:=hrel
  have s3:=s2.call hb
  obtain⟨c1,f1,zr1,c2,f2,zr2,-⟩:=s3.rules
  by_cases hlt:y<KH
  ·go_wp2
   go_loopw [12,14] (fun out kx wr'=>∃ x:Nat,x≤KW∧kx=U i6 x∧Own wr' w2.heap.size out (covL h w KW t u (y*KW+x))∧Below w2.heap.size w2 wr')
    (fun _ kx _=>KW-(intOf kx).toNat)
   case atStart=>exact⟨0,Nat.zero_le _,rfl,hown,hb⟩
   case round =>
    obtain⟨x,hx,rfl,hown2,hb2⟩:=hrel
    clear c1 f1 c2 f2 zr1 zr2
    have s4:=s2.call hb2
    obtain⟨c1,f1,zr1,c2,f2,zr2,-⟩:=s4.rules
    have hbs:=hb2.size
    by_cases hlt2:x<KW
    ·have HS:=covL_succ h w t u (y:=y) hlt2
     have HL:=covL_len h w KW t u (y*KW+x)
     have HX:Hid ((covL h w KW t u (y*KW+x)).length+1≤10000000):=by
      unfold Hid
      rw [HL]
      have:=Nat.mul_le_mul (show y≤32 by omega) (show KW≤32 by omega)
      omega
     have HS':Hid (covL h w KW t u (y*KW+x+1)=covL h w KW t u (y*KW+x)++[plc h w (t+y) (u+x)]):=HS
     clear HS HL
     obtain⟨L,hL⟩:∃ L,covL h w KW t u (y*KW+x)=L:=⟨_,rfl⟩
     rw [hL] at HX HS' hown2
     clear hL
     by_cases k1:t+y<0
     ·have HP:Hid (plc h w (t+y) (u+x) = -1):=plc_out (by omega)
      rw [HP.out] at HS'
      have own3:=hown2.alloc (.cells #[U i6 (-1)] 3)
      have b3:=hb2.alloc hb2.size (.cells #[U i6 (-1)] 3)
      go_wp2_with (at_builtin;refine wpList_app rfl (.tmp 78) (.tmp 79) rfl w2.heap.size _ _ [(-1:Int)] rfl own3 _ _ _ rfl (row_one _ _) HX.out b3.size ?_;intro v4 w4 own4 gr4)
      go_roundw
      case rel=>exact⟨x+1,by omega,by go_num,by rw [← Nat.add_assoc,HS'.out];exact own4,own3.grow b3 gr4 b3.size⟩
      case measure=>simp [intOf];omega
     by_cases k2:h≤t+y
     ·have HP:Hid (plc h w (t+y) (u+x) = -1):=plc_out (by omega)
      rw [HP.out] at HS'
      have own3:=hown2.alloc (.cells #[U i6 (-1)] 3)
      have b3:=hb2.alloc hb2.size (.cells #[U i6 (-1)] 3)
      go_wp2_with (at_builtin;refine wpList_app rfl (.tmp 78) (.tmp 79) rfl w2.heap.size _ _ [(-1:Int)] rfl own3 _ _ _ rfl (row_one _ _) HX.out b3.size ?_;intro v4 w4 own4 gr4)
      go_roundw
      case rel=>exact⟨x+1,by omega,by go_num,by rw [← Nat.add_assoc,HS'.out];exact own4,own3.grow b3 gr4 b3.size⟩
      case measure=>simp [intOf];omega
     by_cases k3:u+x<0
     ·have HP:Hid (plc h w (t+y) (u+x) = -1):=plc_out (by omega)
      rw [HP.out] at HS'
      have own3:=hown2.alloc (.cells #[U i6 (-1)] 3)
      have b3:=hb2.alloc hb2.size (.cells #[U i6 (-1)] 3)
      go_wp2_with (at_builtin;refine wpList_app rfl (.tmp 78) (.tmp 79) rfl w2.heap.size _ _ [(-1:Int)] rfl own3 _ _ _ rfl (row_one _ _) HX.out b3.size ?_;intro v4 w4 own4 gr4)
      go_roundw
      case rel=>exact⟨x+1,by omega,by go_num,by rw [← Nat.add_assoc,HS'.out];exact own4,own3.grow b3 gr4 b3.size⟩
      case measure=>simp [intOf];omega
     by_cases k4:w≤u+x
     ·have HP:Hid (plc h w (t+y) (u+x) = -1):=plc_out (by omega)
      rw [HP.out] at HS'
      have own3:=hown2.alloc (.cells #[U i6 (-1)] 3)
      have b3:=hb2.alloc hb2.size (.cells #[U i6 (-1)] 3)
      go_wp2_with (at_builtin;refine wpList_app rfl (.tmp 78) (.tmp 79) rfl w2.heap.size _ _ [(-1:Int)] rfl own3 _ _ _ rfl (row_one _ _) HX.out b3.size ?_;intro v4 w4 own4 gr4)
      go_roundw
      case rel=>exact⟨x+1,by omega,by go_num,by rw [← Nat.add_assoc,HS'.out];exact own4,own3.grow b3 gr4 b3.size⟩
      case measure=>simp [intOf];omega
     have HP:Hid (plc h w (t+y) (u+x)=(t+y)*w+(u+x)):=plc_in (by omega)
     rw [HP.out] at HS'
     obtain⟨p1,p2⟩:=rowbd (by omega:t+y<h) (by omega:0≤t+(y:Int)) (by omega:0≤u+(x:Int)) (by omega:u+x<w)
     obtain⟨-,m2⟩:=mul_bd h1.1 h1.2 v1.1 v1.2
     obtain⟨m,hm⟩:∃ m,h*w=m:=⟨_,rfl⟩
     rw [hm] at p2 m2
     clear hm
     obtain⟨p,hp'⟩:∃ p,(t+(y:Int))*w=p:=⟨_,rfl⟩
     rw [hp'] at p1 p2 HS'
     have own3:=hown2.alloc (.cells #[U i6 (p+(u+x))] 3)
     have b3:=hb2.alloc hb2.size (.cells #[U i6 (p+(u+x))] 3)
     go_wp2_with (at_builtin;refine wpList_app rfl (.tmp 81) (.tmp 88) rfl w2.heap.size _ _ [p+(u+(x:Int))] rfl own3 _ _ _ rfl (row_one _ _) HX.out b3.size ?_;intro v4 w4 own4 gr4)
     go_roundw
     case rel=>exact⟨x+1,by omega,by go_num,by rw [← Nat.add_assoc,HS'.out];exact own4,own3.grow b3 gr4 b3.size⟩
     case measure=>simp [intOf];omega
    ·obtain rfl:x=KW:=by omega
     go_wp2
     go_roundw
     case rel=>exact⟨y+1,by omega,by go_num,by rw [Nat.add_mul,Nat.one_mul];exact hown2,hb2⟩
     case measure=>simp [intOf];omega
  ·obtain rfl:y=KH:=by omega
   go_wp2
   go_ret
   exact⟨⟨_,rfl,hown.base (by omega)⟩,s2.below.trans (hb.mono (by omega))⟩
end Go.Proofs.YtehofmkpgopmpaaGreat.Nx
namespace Go.Proofs.YtehofmkpgopmpaaGreat
open Go.Value renaming int → U, slice → Sl
open Go.IntKind renaming i64 → i6
set_option maxRecDepth 100000
set_option maxHeartbeats 16000000
open Go.ChangeShapes Go.WideShapes Go.ChangeAt Go.RowKit
set_option linter.unusedVariables false
theorem OTm.grow {w w' w0:World} {base:Nat} {v:Value} {L:List (Int×Int)} (h:OTm w base v L) (hb:Below base w0 w) (k:w.grownBy w' v.ownBlock) (hB:base≤w.heap.size):Below base w0 w':=hb.grown k hB fun b e=>h.lt b e
theorem plA_1 (C ch h w kw t u i:Int):plA 1 C ch h w kw t u i=i:=if_pos rfl
theorem rterms_1 (a b m kh kw sh sw tp lf bt rt:Int) (wa:Option Addr) (lw wc:Nat) (ba:Option Addr) (lb bc:Nat) (sm ss um us z p lo hi h w c H V C:Int) (W:World) (zs:List Int) (hZ:IRow .i16 W wa lw wc zs) (s:Sit 1 kh kw sh sw tp lf bt rt h w c H V C lw lb) (ch at' t u:Int) (hch:1≤ch∧ch≤C) (st:Nat) (hst:stR 1 kh kw h w c=(st:Int)) :
  Calls Tryz.prog 24 #[.agg #[U i6 1,U i6 a,U i6 b,U i6 m,U i6 kh,U i6 kw,U i6 sh,U i6 sw,U i6 tp,U i6 lf,U i6 bt,U i6 rt,Sl wa lw wc,Sl ba lb bc,U i6 sm,U i6 ss,U i6 um,U i6 us,U i6 z,U i6 p,U i6 lo,U i6 hi,U i6 h,U i6 w,U i6 c,U i6 H,U i6 V,U i6 C],U i6 ch,U i6 at'] W fun e w'=>(∃ v,e=.returned v∧OTm w' W.heap.size v (tmL 1 c ch h w kw t u st zs st))∧Below W.heap.size W w':=by
 have hLe:Hid (∀ W',Calls Tryz.prog 28 #[.agg #[U i6 1,U i6 a,U i6 b,U i6 m,U i6 kh,U i6 kw,U i6 sh,U i6 sw,U i6 tp,U i6 lf,U i6 bt,U i6 rt,Sl wa lw wc,Sl ba lb bc,U i6 sm,U i6 ss,U i6 um,U i6 us,U i6 z,U i6 p,U i6 lo,U i6 hi,U i6 h,U i6 w,U i6 c,U i6 H,U i6 V,U i6 C]] W' fun e w'=>e=.returned (U i6 st)∧Below W'.heap.size W' w'):=fun W'=>by rw [← hst];exact rlen_any 1 a b m kh kw sh sw tp lf bt rt wa lw wc ba lb bc sm ss um us z p lo hi h w c H V C W' s
 have hWg:Hid (∀ (w':World) (i:Nat),i<st→Below W.heap.size W w'→Calls Tryz.prog 48 #[.agg #[U i6 1,U i6 a,U i6 b,U i6 m,U i6 kh,U i6 kw,U i6 sh,U i6 sw,U i6 tp,U i6 lf,U i6 bt,U i6 rt,Sl wa lw wc,Sl ba lb bc,U i6 sm,U i6 ss,U i6 um,U i6 us,U i6 z,U i6 p,U i6 lo,U i6 hi,U i6 h,U i6 w,U i6 c,U i6 H,U i6 V,U i6 C],U i6 ch,U i6 i] w' fun e w''=>e=.returned (U i6 (wgA 1 ch st zs i))∧Below w'.heap.size w' w''):=fun w' i hj hb=>by
  have:=rwei_any 1 a b m kh kw sh sw tp lf bt rt wa lw wc ba lb bc sm ss um us z p lo hi h w c H V C w' zs (hZ.below hb) s ch hch i (by rw [hst];omega)
  rw [hst] at this
  exact this
 have hlen:st≤512:=by have:=s.2.2.2.2.2.2.2.2.2;rw [hst] at this;omega
 clear hst hZ s
 have s0:=(St.start W).new (c:=#[U i6 1,U i6 a,U i6 b,U i6 m,U i6 kh,U i6 kw,U i6 sh,U i6 sw,U i6 tp,U i6 lf,U i6 bt,U i6 rt,Sl wa lw wc,Sl ba lb bc,U i6 sm,U i6 ss,U i6 um,U i6 us,U i6 z,U i6 p,U i6 lo,U i6 hi,U i6 h,U i6 w,U i6 c,U i6 H,U i6 V,U i6 C]) (t:=76)
 go_enter Tryz.func24,Tryz.ntmps24
 go_wp2_with (refine wpList_load_row rfl 76 (.tmp 3) rfl W.heap.size rfl 76 _ (0,0) _ s0.h1 Tryz.underlying76 rfl (by kernel_rfl) ?_)
 refine (hLe.out _).mono ?_
 rintro e w1 ⟨rfl,hb⟩
 have s1:=s0.call hb
 obtain⟨c1,f1,z1,-⟩:=s1.rules
 have S1:Hid (St W w1 _):=s1
 clear hb s0 s1
 go_wp2
 clear c1 f1
 go_loopw [7,9] (fun v i wr=>∃ y:Nat,y≤st∧i=U i6 y∧OTm wr w1.heap.size v (tmL 1 c ch h w kw t u st zs y)∧Below w1.heap.size w1 wr) (fun _ i _=>st-(intOf i).toNat)
 case atStart=>exact⟨0,Nat.zero_le _,rfl,OTm.nil _ _,Below.refl _ _⟩
 case round =>
  obtain⟨y,hy,rfl,hO,hb⟩:=hrel
  have s2:=S1.out.call hb
  obtain⟨va,vc,hve⟩:=hO.slice
  rw [tmL_len] at hve
  subst hve
  have HO:Hid (OTm _ _ _ _):=hO
  have hbz:=hb.size
  clear hO
  by_cases hlt:y<st
  ·have h1:=s2.h1
   go_wp2_with (refine wpList_load_row rfl 76 (.tmp 3) rfl W.heap.size rfl 76 _ (0,0) _ h1 Tryz.underlying76 rfl (by kernel_rfl) ?_)
   refine (hWg.out _ y hlt s2.below).mono ?_
   rintro e w3 ⟨rfl,hb3⟩
   have HO3:Hid (OTm _ _ _ _):=(HO.out.below hb3).below (bal w3 (.cells #[U i6 (wgA 1 ch st zs y),U i6 y] 82))
   have B3:Hid (Below w1.heap.size w1 _):=(hb.trans (hb3.mono hbz)).alloc (Nat.le_trans hbz hb3.size) (.cells #[U i6 (wgA 1 ch st zs y),U i6 y] 82)
   have hz3:w1.heap.size≤w3.heap.size:=Nat.le_trans hbz hb3.size
   have HS:Hid (tmL 1 c ch h w kw t u st zs (y+1)=tmL 1 c ch h w kw t u st zs y++[(wgA 1 ch st zs y,(y:Int))]):=by unfold Hid;rw [tmL_succ,plA_1]
   have HLn:Hid ((tmL 1 c ch h w kw t u st zs y).length+1≤1000000):=by unfold Hid;rw [tmL_len];omega
   clear hb3 hb s2 HO h1
   go_wp2_with (at_builtin;refine wpList_apT rfl (.tmp 26) (.tmp 33) rfl w1.heap.size _ _ [(wgA 1 ch st zs y,(y:Int))] rfl HO3.out w3.heap.size 1 1 rfl rfl (term_one w3 _ _) HLn.out (by simp;omega) ?_;intro v4 w4 own4 gr4;have B4:Hid (Below w1.heap.size w1 w4):=HO3.out.grow B3.out gr4 (by simp;omega))
   go_roundw
   case rel=>exact⟨y+1,by omega,by go_num,by rw [HS.out];exact own4,B4.out⟩
   case measure=>simp [intOf];omega
  ·obtain rfl:y=st:=by omega
   have hS1:=S1.out.below
   go_wp2
   go_ret
   exact⟨⟨_,rfl,HO.out.base hS1.size⟩,hS1.trans (hb.mono hS1.size)⟩
theorem covL_get (h w kw t u:Int) {n i:Nat} (hi:i<n):(Nx.covL h w kw t u n).getD i 0=tpc h w kw t u (i:Int):=by simp [Nx.covL,List.getD,hi,tpc]
theorem otm_other {w:World} {base B i:Nat} {v u:Value} {L:List (Int×Int)} (h:OTm w base v L) (hn:v.ownBlock≠some B):OTm (w.setCell ⟨B,i,none⟩ u) base v L:=by
 refine World.ownsRow.kept h (grown_set w B i u) ?_
 cases e:v.ownBlock with
 | none=>exact .inl rfl
 | some b=>exact .inr (fun q=>hn (by rw [e,q]))
theorem rterms_w (k a b m kh kw sh sw tp lf bt rt:Int) (wa:Option Addr) (lw wc:Nat) (ba:Option Addr) (lb bc:Nat) (sm ss um us z p lo hi h w:Int) (cn:Nat) (H V C:Int) (W:World) (zs:List Int) (hZ:IRow .i16 W wa lw wc zs) (s:Sit k kh kw sh sw tp lf bt rt h w (cn:Int) H V C lw lb) (k1:k≠1) (ch at' t u:Int) (hch:1≤ch∧ch≤C) (hcc:coR h w (cn:Int) kh kw sh sw tp lf bt rt at'=(t,u,0)) (st:Nat) (hst:stR k kh kw h w (cn:Int)=(st:Int)) :
  Calls Tryz.prog 24 #[.agg #[U i6 k,U i6 a,U i6 b,U i6 m,U i6 kh,U i6 kw,U i6 sh,U i6 sw,U i6 tp,U i6 lf,U i6 bt,U i6 rt,Sl wa lw wc,Sl ba lb bc,U i6 sm,U i6 ss,U i6 um,U i6 us,U i6 z,U i6 p,U i6 lo,U i6 hi,U i6 h,U i6 w,U i6 (cn:Int),U i6 H,U i6 V,U i6 C],U i6 ch,U i6 at'] W fun e w'=>(∃ v,e=.returned v∧OTm w' W.heap.size v (tmL k (cn:Int) ch h w kw t u st zs st))∧Below W.heap.size W w':=by
 have hLe:Hid (∀ W',Calls Tryz.prog 28 #[.agg #[U i6 k,U i6 a,U i6 b,U i6 m,U i6 kh,U i6 kw,U i6 sh,U i6 sw,U i6 tp,U i6 lf,U i6 bt,U i6 rt,Sl wa lw wc,Sl ba lb bc,U i6 sm,U i6 ss,U i6 um,U i6 us,U i6 z,U i6 p,U i6 lo,U i6 hi,U i6 h,U i6 w,U i6 (cn:Int),U i6 H,U i6 V,U i6 C]] W' fun e w'=>e=.returned (U i6 st)∧Below W'.heap.size W' w'):=fun W'=>by rw [← hst];exact rlen_any k a b m kh kw sh sw tp lf bt rt wa lw wc ba lb bc sm ss um us z p lo hi h w (cn:Int) H V C W' s
 have hWg:Hid (∀ (w':World) (i:Nat),i<st→Below W.heap.size W w'→Calls Tryz.prog 48 #[.agg #[U i6 k,U i6 a,U i6 b,U i6 m,U i6 kh,U i6 kw,U i6 sh,U i6 sw,U i6 tp,U i6 lf,U i6 bt,U i6 rt,Sl wa lw wc,Sl ba lb bc,U i6 sm,U i6 ss,U i6 um,U i6 us,U i6 z,U i6 p,U i6 lo,U i6 hi,U i6 h,U i6 w,U i6 (cn:Int),U i6 H,U i6 V,U i6 C],U i6 ch,U i6 i] w' fun e w''=>e=.returned (U i6 (wgA k ch st zs i))∧Below w'.heap.size w' w''):=fun w' i hj hb=>by
  have:=rwei_any k a b m kh kw sh sw tp lf bt rt wa lw wc ba lb bc sm ss um us z p lo hi h w (cn:Int) H V C w' zs (hZ.below hb) s ch hch i (by rw [hst];omega)
  rw [hst] at this
  exact this
 have hTp:Hid (∀ W',_):=fun W'=>Nx.rtaps_any h w (cn:Int) kh kw sh sw tp lf bt rt at' t u W' hcc
 have hlen:st≤512:=by have:=s.2.2.2.2.2.2.2.2.2;rw [hst] at this;omega
 obtain⟨hk,hvA,hvB,hou,-,hwn,-,h3c,-⟩:=s
 have hC1:=(vS_yes hvB).2.2.1
 have hcn1:=(vS_yes hvA).2.2.1
 have hd1:=(vS_yes hvA).1
 have hw1:=(vS_yes hvA).2.1
 obtain⟨hk1,hk2⟩:=hwn (by omega)
 have hm:h*w≤16384:=by
  have h4:=(vS_yes hvA).2.2.2
  have p1:=(mul_bd hd1.1 hd1.2 hw1.1 hw1.2).1
  have:=Int.mul_le_mul_of_nonneg_left hcn1.1 (show 0≤h*w by omega)
  omega
 obtain⟨N,hN⟩:∃ N:Nat,kh*kw=(N:Int):=⟨(kh*kw).toNat,by have:=(mul_bd hk1.1 hk1.2 hk2.1 hk2.2).1;omega⟩
 rw [hN,Int.toNat_natCast] at hTp
 have hstN:(k=2→st=N*cn)∧(k≠2→st=N):=by
  unfold stR at hst
  rw [if_neg k1] at hst
  constructor
  ·intro k2
   rw [if_pos k2,hN] at hst
   exact_mod_cast hst.symm
  ·intro k2
   rw [if_neg k2,if_pos (by omega),hN] at hst
   exact_mod_cast hst.symm
 have hN2:N≤1024:=by have:=(mul_bd hk1.1 hk1.2 hk2.1 hk2.2).2;omega
 have HST:Hid ((k=2→st=N*cn)∧(k≠2→st=N)):=hstN
 have hPb:Hid (∀ q:Int,-1≤tpc h w kw t u q∧tpc h w kw t u q≤16384):=fun q=>plc_bd hd1 hw1 hm
 have k1':(k == 1)=false:=by simp [k1]
 clear hst hZ hvA hvB hou hwn h3c hcc hN hm hstN
 have s0:=(St.start W).new (c:=#[U i6 k,U i6 a,U i6 b,U i6 m,U i6 kh,U i6 kw,U i6 sh,U i6 sw,U i6 tp,U i6 lf,U i6 bt,U i6 rt,Sl wa lw wc,Sl ba lb bc,U i6 sm,U i6 ss,U i6 um,U i6 us,U i6 z,U i6 p,U i6 lo,U i6 hi,U i6 h,U i6 w,U i6 (cn:Int),U i6 H,U i6 V,U i6 C]) (t:=76)
 go_enter Tryz.func24,Tryz.ntmps24
 go_wp2_with (refine wpList_load_row rfl 76 (.tmp 3) rfl W.heap.size rfl 76 _ (0,0) _ s0.h1 Tryz.underlying76 rfl (by kernel_rfl) ?_)
 refine (hLe.out _).mono ?_
 rintro e w1 ⟨rfl,hb⟩
 have s1:=s0.call hb
 obtain⟨c1,f1,z1,-⟩:=s1.rules
 clear hb s0
 go_wp2_with fail
 refine (hTp.out _).mono ?_
 rintro e w2 ⟨⟨v,rfl,hOw⟩,hb⟩
 obtain⟨ta,tc,rfl,hrow,-⟩:=hOw.row
 rw [Nx.covL_len] at hrow ⊢
 have hcap:=hrow.2.1
 have hcm:=hrow.2.2.1
 unfold maxLen at hcm
 have Hrow:Hid (Nx.Row w2 ta N tc (Nx.covL h w kw t u N)):=hrow
 have S2:Hid (St W w2 _):=s1.call hb
 clear hb s1 hOw hrow c1 f1 z1
 go_wp2
 go_loopw [7,11] (fun v i wr=>∃ y:Nat,y≤st∧i=U i6 y∧OTm wr w2.heap.size v (tmL k (cn:Int) ch h w kw t u st zs y)∧Below w2.heap.size w2 wr) (fun _ i _=>st-(intOf i).toNat)
 case atStart=>exact⟨0,Nat.zero_le _,rfl,OTm.nil _ _,Below.refl _ _⟩
 case round =>
  obtain⟨y,hy,rfl,hO,hb⟩:=hrel
  have s3:=S2.out.call hb
  obtain⟨va,vc,hve⟩:=hO.slice
  rw [tmL_len] at hve
  subst hve
  have HO:Hid (OTm _ _ _ _):=hO
  have hbz:=hb.size
  have Hb:Hid (Below w2.heap.size w2 wr):=hb
  clear hO
  by_cases hlt:y<st
  ·obtain⟨c1,f1,z1,-⟩:=s3.rules
   by_cases k2:k=2
   ·have hstN:=HST.out.1 k2
    have hcn0:0<cn:=by omega
    obtain⟨Q,hQe⟩:∃ Q,y / cn=Q:=⟨_,rfl⟩
    obtain⟨R,hRe⟩:∃ R,y % cn=R:=⟨_,rfl⟩
    have hQ:Q<N:=by rw [← hQe];exact Nat.div_lt_of_lt_mul (by rw [Nat.mul_comm];omega)
    have hR:R<cn:=by rw [← hRe];exact Nat.mod_lt _ hcn0
    have hq1:Int.tdiv (y:Int) (cn:Int)=(Q:Int):=by rw [← hQe];rfl
    have hq2:Int.tmod (y:Int) (cn:Int)=(R:Int):=by rw [← hRe];rfl
    have HP:Hid (plA k (cn:Int) ch h w kw t u y=cov (cn:Int) (tpc h w kw t u (Q:Int)) (R:Int)):=by unfold Hid plA;rw [if_neg k1,if_pos k2,← hQe,← hRe];rfl
    have hc0:¬ ((cn:Int)=0):=by omega
    have k2':(k == 2)=true:=by simp [k2]
    obtain⟨D,hDe⟩:∃ D:Int,(R:Int)=D:=⟨_,rfl⟩
    have hD:0≤D∧D≤1024:=by omega
    rw [hDe] at hq2 HP
    clear hQe hRe hDe hstN hR HST k2
    go_upto_region 15 with fail
    go_quiet (fail)
    have s4:=s3.call (dbel wr nq)
    have HO4:Hid (OTm _ _ _ _):=HO.out.below (dbel wr nq)
    have Hb4:Hid (Below w2.heap.size w2 _):=Hb.out.trans ((dbel wr nq).mono hbz)
    obtain⟨w4,hw4⟩:∃ w4,wr.drewN nq=w4:=⟨_,rfl⟩
    rw [hw4] at s4 HO4 Hb4 ⊢
    have hbz4:=Hb4.out.size
    clear hw4 c1 f1 z1 hb s3 Hb HO
    obtain⟨P,hPe⟩:∃ P,tpc h w kw t u (Q:Int)=P:=⟨_,rfl⟩
    obtain⟨x,rfl⟩:∃ x,ta=some x:=by
     cases ta with
     | none=>have h1:=Hrow.out.2.2.2.1 rfl;have h2:=Hrow.out.2.1;omega
     | some x=>exact⟨x,rfl⟩
    have hcx0:=Hrow.out.2.2.2.2 x rfl Q hQ
    rw [covL_get _ _ _ _ _ hQ,hPe] at hcx0
    have hxb:x.block<w2.heap.size:=by have:=World.block_lt_of_cell? _ _ hcx0;rwa [add_block] at this
    have hPb1:=hPb.out (Q:Int)
    rw [hPe] at HP hPb1
    obtain⟨WG,hWG⟩:∃ WG,wgA k ch st zs y=WG:=⟨_,rfl⟩
    have hWg1:Hid (∀ (w':World),Below W.heap.size W w'→_):=fun w' hb=>hWg.out w' y hlt hb
    rw [hWG] at hWg1
    have HS:Hid (tmL k (cn:Int) ch h w kw t u st zs (y+1)=tmL k (cn:Int) ch h w kw t u st zs y++[(WG,cov (cn:Int) P D)]):=by unfold Hid;rw [tmL_succ,hWG,HP.out]
    have HLn:Hid ((tmL k (cn:Int) ch h w kw t u st zs y).length+1≤1000000):=by unfold Hid;rw [tmL_len];omega
    clear hPe hWG HP
    have h1:=s4.h1
    go_wp2_with (refine wpList_load_row rfl 76 (.tmp 3) rfl W.heap.size rfl 76 _ (0,0) _ h1 Tryz.underlying76 rfl (by kernel_rfl) ?_)
    refine (hWg1.out _ s4.below).mono ?_
    rintro e w5 ⟨rfl,hb5⟩
    have s5:=(s4.call hb5).new (c:=#[U i6 WG,U i6 (-1)]) (t:=82)
    have HOn:Hid ((Value.slice va y vc).ownBlock≠some w5.heap.size):=fun e=>by have:=(World.ownsRow.lt (HO4.out.below hb5) _ e).2;omega
    have HO5:Hid (OTm _ _ _ _):=(HO4.out.below hb5).below (bal w5 (.cells #[U i6 WG,U i6 (-1)] 82))
    have hz5:w2.heap.size≤w5.heap.size:=Nat.le_trans hbz4 hb5.size
    have B5:Hid (Below w2.heap.size w2 (w5.alloc (.cells #[U i6 WG,U i6 (-1)] 82))):=(Hb4.out.trans (hb5.mono hbz4)).alloc hz5 _
    have hWz:W.heap.size<w2.heap.size:=lt_of_heap S2.out.h1
    obtain⟨w6,hw6⟩:∃ w6,w5.alloc (.cells #[U i6 WG,U i6 (-1)] 82)=w6:=⟨_,rfl⟩
    have hcx:w6.cell? (x.add Q)=some (U i6 P):=by rw [← hw6];exact (B5.out.cell (by rw [add_block];exact hxb)).trans hcx0
    have hz6:Hid (w6.heap.size=w5.heap.size+1):=by unfold Hid;rw [← hw6];simp
    clear hb5 h1 s4 HO4 Hb4 hcx0
    go_upto_region 17 with fail
    rw [hw6] at s5 HO5 B5
    try rw [hw6]
    clear hw6
    have S5:Hid (St W w6 _):=s5
    obtain⟨c1,f1,z1,c2,f2,z2,-⟩:=s5.rules
    clear s5
    by_cases hp:P = -1
    ·subst hp
     have HC:Hid (cov (cn:Int) (-1) D = -1):=if_pos rfl
     rw [HC.out] at HS
     go_wp2_with (at_builtin;refine wpList_apT rfl (.tmp 86) (.tmp 88) rfl w2.heap.size _ _ [(WG,(-1:Int))] rfl (HO5.out.below (bal w6 _)) w6.heap.size 1 1 rfl rfl (term_one w6 _ _) HLn.out (by simp;have:=hz6.out;omega) ?_;intro v7 w7 own7 gr7;have B7:Hid (Below w2.heap.size w2 w7):=(HO5.out.below (bal w6 _)).grow (B5.out.alloc B5.out.size _) gr7 (by simp;have:=hz6.out;omega))
     go_roundw
     case rel=>exact⟨y+1,by omega,by go_num,by rw [HS.out];exact own7,B7.out⟩
     case measure=>simp [intOf];omega
    ·have HC:Hid (cov (cn:Int) P D=P*(cn:Int)+D):=if_neg hp
     rw [HC.out] at HS
     have hp0:0≤P:=by omega
     have m1:0≤P*(cn:Int):=Int.mul_nonneg (by omega) (by omega)
     have m2:P*(cn:Int)≤16384*1024:=Int.mul_le_mul hPb1.2 hcn1.2 (by omega) (by omega)
     obtain⟨PC,hPC⟩:∃ PC,P*(cn:Int)=PC:=⟨_,rfl⟩
     rw [hPC] at m1 m2 HS
     go_upto_region 18 with fail
     have hG:=S5.out.h2
     have hG1:=S5.out.h1
     refine regionC (fun w'=>w'.cell? (x.add Q)=some (U i6 P)∧w'.heap[W.heap.size]? = some (.cells #[U i6 k,U i6 a,U i6 b,U i6 m,U i6 kh,U i6 kw,U i6 sh,U i6 sw,U i6 tp,U i6 lf,U i6 bt,U i6 rt,Sl wa lw wc,Sl ba lb bc,U i6 sm,U i6 ss,U i6 um,U i6 us,U i6 z,U i6 p,U i6 lo,U i6 hi,U i6 h,U i6 w,U i6 (cn:Int),U i6 H,U i6 V,U i6 C] 76 (0,0))) (by kernel_rfl) ?_
     obtain⟨wd,hwd⟩:∃ wd,w6.drew=wd:=⟨_,rfl⟩
     have HCl:Hid (wd.cell? (x.add Q)=some (U i6 P)∧wd.heap[W.heap.size]? = some (.cells #[U i6 k,U i6 a,U i6 b,U i6 m,U i6 kh,U i6 kw,U i6 sh,U i6 sw,U i6 tp,U i6 lf,U i6 bt,U i6 rt,Sl wa lw wc,Sl ba lb bc,U i6 sm,U i6 ss,U i6 um,U i6 us,U i6 z,U i6 p,U i6 lo,U i6 hi,U i6 h,U i6 w,U i6 (cn:Int),U i6 H,U i6 V,U i6 C] 76 (0,0))):=by unfold Hid;rw [← hwd];exact⟨hcx,hG⟩
     have HD:Hid (Below w6.heap.size w6 wd):=by unfold Hid;rw [← hwd];exact (Below.refl _ _).drew
     have hGd:wd.heap[w5.heap.size]? = some (.cells #[U i6 WG,U i6 (-1)] 82 (0,0)):=by rw [← hwd];exact hG1
     rw [hwd]
     clear hwd hG hG1 c1 f1 c2 f2
     refine takeC 0 (v:=.slice (some x) N tc) rfl rfl (by kernel_rfl) (by kernel_rfl) (by kernel_rfl) (fun _ _ _ h=>h) (fun _=>rfl) rfl (fun w' hw'=>by go_simp) ?_
     refine takeC 1 (v:=U i6 (Q:Int)) rfl rfl (by kernel_rfl) (by kernel_rfl) (by kernel_rfl) (fun _ _ _ h=>h) (fun _=>rfl) rfl (fun w' hw'=>by go_simp) ?_
     refine takeC 2 (v:=.pointer (some (x.add Q))) rfl rfl (by kernel_rfl) (by kernel_rfl) (by kernel_rfl) (fun _ _ _ h=>h) (fun _=>rfl) rfl (fun w' hw'=>by go_simp) ?_
     refine takeC 3 (v:=U i6 P) rfl rfl (by kernel_rfl) (by kernel_rfl) (by kernel_rfl) (fun _ _ _ h=>h) (fun _=>rfl) rfl (fun w' hw'=>by have hc:=hw'.1;go_simp) ?_
     refine takeC 4 (v:=.pointer (some ⟨W.heap.size,22,none⟩)) rfl rfl (by kernel_rfl) (by kernel_rfl) (by kernel_rfl) (fun _ _ _ h=>h) (fun _=>rfl) rfl (fun w' hw'=>by go_simp) ?_
     refine takeC 5 (v:=.pointer (some ⟨W.heap.size,24,none⟩)) rfl rfl (by kernel_rfl) (by kernel_rfl) (by kernel_rfl) (fun _ _ _ h=>h) (fun _=>rfl) rfl (fun w' hw'=>by go_simp) ?_
     refine takeC 6 (v:=U i6 (cn:Int)) rfl rfl (by kernel_rfl) (by kernel_rfl) (by kernel_rfl) (fun _ _ _ h=>h) (fun _=>rfl) rfl (fun w' hw'=>by have hc:=(cells_at hw'.2).1 24;go_simp) ?_
     refine takeC 7 (v:=U i6 PC) rfl rfl (by kernel_rfl) (by kernel_rfl) (by kernel_rfl) (fun _ _ _ h=>h) (fun _=>rfl) rfl (fun w' hw'=>by go_simp;try (rw [IntKind.wrap_i64];omega)) ?_
     refine takeC 8 (v:=U i6 D) rfl rfl (by kernel_rfl) (by kernel_rfl) (by kernel_rfl) (fun _ _ _ h=>h) (fun _=>rfl) rfl (fun w' hw'=>by go_simp) ?_
     refine takeC 9 (v:=U i6 (PC+D)) rfl rfl (by kernel_rfl) (by kernel_rfl) (by kernel_rfl) (fun _ _ _ h=>h) (fun _=>rfl) rfl (fun w' hw'=>by go_simp;try (rw [IntKind.wrap_i64];omega)) ?_
     refine takeC 10 (v:=.pointer (some ⟨w5.heap.size,1,none⟩)) rfl rfl (by kernel_rfl) (by kernel_rfl) (by kernel_rfl) (fun _ _ _ h=>h) (fun _=>rfl) rfl (fun w' hw'=>by go_simp) ?_
     have g1:wd.cell? ⟨w5.heap.size,1,none⟩=some (U i6 (-1)):=(cells_at hGd).1 1
     have g2:wd.frozen? ⟨w5.heap.size,1,none⟩=false:=(cells_at hGd).2.1 1
     refine stepC 11 HCl.out (by kernel_rfl) rfl (fun K hK=>step_wp rfl ?_)
     go_simp
     refine hK _ _ ?_
     clear hK K g1 g2
     have hGs:Hid ((wd.setCell ⟨w5.heap.size,1,none⟩ (U i6 (PC+D))).heap[w5.heap.size]? = some (.cells #[U i6 WG,U i6 (PC+D)] 82 (0,0))):=heap_setCell_at hGd
     have hD6:Hid (Below w2.heap.size w2 (wd.setCell ⟨w5.heap.size,1,none⟩ (U i6 (PC+D)))):=(B5.out.trans (HD.out.mono B5.out.size)).setCell (p:=⟨w5.heap.size,1,none⟩) hz5 _
     have HCs:Hid ((wd.setCell ⟨w5.heap.size,1,none⟩ (U i6 (PC+D))).cell? (x.add Q)=some (U i6 P)∧(wd.setCell ⟨w5.heap.size,1,none⟩ (U i6 (PC+D))).heap[W.heap.size]? = some (.cells #[U i6 k,U i6 a,U i6 b,U i6 m,U i6 kh,U i6 kw,U i6 sh,U i6 sw,U i6 tp,U i6 lf,U i6 bt,U i6 rt,Sl wa lw wc,Sl ba lb bc,U i6 sm,U i6 ss,U i6 um,U i6 us,U i6 z,U i6 p,U i6 lo,U i6 hi,U i6 h,U i6 w,U i6 (cn:Int),U i6 H,U i6 V,U i6 C] 76 (0,0))):=by
      refine⟨?_,?_⟩
      ·have hb7:Below w2.heap.size wd (wd.setCell ⟨w5.heap.size,1,none⟩ (U i6 (PC+D))):=(Below.refl _ wd).setCell (p:=⟨w5.heap.size,1,none⟩) hz5 _
       exact (hb7.cell (by rw [add_block];exact hxb)).trans HCl.out.1
      ·rw [Below.heap_setCell _ _ _ _ (show W.heap.size≠w5.heap.size by omega)]
       exact HCl.out.2
     have HO6:Hid (OTm (wd.setCell ⟨w5.heap.size,1,none⟩ (U i6 (PC+D))) w2.heap.size (.slice va y vc) (tmL k (cn:Int) ch h w kw t u st zs y)):=otm_other (HO5.out.below HD.out) HOn.out
     refine doneC HCs.out (by kernel_rfl) ?_ _
     obtain⟨w7,hw7⟩:∃ w7,wd.setCell ⟨w5.heap.size,1,none⟩ (U i6 (PC+D))=w7:=⟨_,rfl⟩
     rw [hw7] at hGs hD6 HO6 ⊢
     have hz7:w5.heap.size<w7.heap.size:=lt_of_heap hGs.out
     obtain⟨c1,f1,z1'⟩:=cells_at hGs.out
     clear hw7 HCs HCl HD hGd hcx
     go_wp2_with (at_builtin;refine wpList_apT rfl (.tmp 86) (.tmp 88) rfl w2.heap.size _ _ [(WG,PC+D)] rfl (HO6.out.below (bal w7 _)) w7.heap.size 1 1 rfl rfl (term_one w7 _ _) HLn.out (by simp;omega) ?_;intro v8 w8 own8 gr8;have B8:Hid (Below w2.heap.size w2 w8):=(HO6.out.below (bal w7 _)).grow (hD6.out.alloc hD6.out.size _) gr8 (by simp;omega))
     go_roundw
     case rel=>exact⟨y+1,by omega,by go_num,by rw [HS.out];exact own8,B8.out⟩
     case measure=>simp [intOf];omega
   ·have hstN:=HST.out.2 k2
    have k2':(k == 2)=false:=by simp [k2]
    have hQ:y<N:=by omega
    obtain⟨D,hDe⟩:∃ D:Int,ch-1=D:=⟨_,rfl⟩
    have hD:0≤D∧D≤1024:=by omega
    have HP:Hid (plA k (cn:Int) ch h w kw t u y=cov (cn:Int) (tpc h w kw t u (y:Int)) D):=by unfold Hid plA;rw [if_neg k1,if_neg k2,hDe]
    clear hstN HST k2
    go_upto_region 16 with fail
    have s4:=s3
    have HO4:Hid (OTm _ _ _ _):=HO.out
    have Hb4:Hid (Below w2.heap.size w2 _):=Hb.out
    have hbz4:=Hb4.out.size
    clear c1 f1 z1 hb s3 Hb HO
    obtain⟨P,hPe⟩:∃ P,tpc h w kw t u (y:Int)=P:=⟨_,rfl⟩
    obtain⟨x,rfl⟩:∃ x,ta=some x:=by
     cases ta with
     | none=>have h1:=Hrow.out.2.2.2.1 rfl;have h2:=Hrow.out.2.1;omega
     | some x=>exact⟨x,rfl⟩
    have hcx0:=Hrow.out.2.2.2.2 x rfl y hQ
    rw [covL_get _ _ _ _ _ hQ,hPe] at hcx0
    have hxb:x.block<w2.heap.size:=by have:=World.block_lt_of_cell? _ _ hcx0;rwa [add_block] at this
    have hPb1:=hPb.out (y:Int)
    rw [hPe] at HP hPb1
    obtain⟨WG,hWG⟩:∃ WG,wgA k ch st zs y=WG:=⟨_,rfl⟩
    have hWg1:Hid (∀ (w':World),Below W.heap.size W w'→_):=fun w' hb=>hWg.out w' y hlt hb
    rw [hWG] at hWg1
    have HS:Hid (tmL k (cn:Int) ch h w kw t u st zs (y+1)=tmL k (cn:Int) ch h w kw t u st zs y++[(WG,cov (cn:Int) P D)]):=by unfold Hid;rw [tmL_succ,hWG,HP.out]
    have HLn:Hid ((tmL k (cn:Int) ch h w kw t u st zs y).length+1≤1000000):=by unfold Hid;rw [tmL_len];omega
    clear hPe hWG HP
    have h1:=s4.h1
    go_wp2_with (refine wpList_load_row rfl 76 (.tmp 3) rfl W.heap.size rfl 76 _ (0,0) _ h1 Tryz.underlying76 rfl (by kernel_rfl) ?_)
    refine (hWg1.out _ s4.below).mono ?_
    rintro e w5 ⟨rfl,hb5⟩
    have s5:=(s4.call hb5).new (c:=#[U i6 WG,U i6 (-1)]) (t:=82)
    have HOn:Hid ((Value.slice va y vc).ownBlock≠some w5.heap.size):=fun e=>by have:=(World.ownsRow.lt (HO4.out.below hb5) _ e).2;omega
    have HO5:Hid (OTm _ _ _ _):=(HO4.out.below hb5).below (bal w5 (.cells #[U i6 WG,U i6 (-1)] 82))
    have hz5:w2.heap.size≤w5.heap.size:=Nat.le_trans hbz4 hb5.size
    have B5:Hid (Below w2.heap.size w2 (w5.alloc (.cells #[U i6 WG,U i6 (-1)] 82))):=(Hb4.out.trans (hb5.mono hbz4)).alloc hz5 _
    have hWz:W.heap.size<w2.heap.size:=lt_of_heap S2.out.h1
    obtain⟨w6,hw6⟩:∃ w6,w5.alloc (.cells #[U i6 WG,U i6 (-1)] 82)=w6:=⟨_,rfl⟩
    have hcx:w6.cell? (x.add y)=some (U i6 P):=by rw [← hw6];exact (B5.out.cell (by rw [add_block];exact hxb)).trans hcx0
    have hz6:Hid (w6.heap.size=w5.heap.size+1):=by unfold Hid;rw [← hw6];simp
    clear hb5 h1 s4 HO4 Hb4 hcx0
    go_upto_region 17 with fail
    rw [hw6] at s5 HO5 B5
    try rw [hw6]
    clear hw6
    have S5:Hid (St W w6 _):=s5
    obtain⟨c1,f1,z1,c2,f2,z2,-⟩:=s5.rules
    clear s5
    by_cases hp:P = -1
    ·subst hp
     have HC:Hid (cov (cn:Int) (-1) D = -1):=if_pos rfl
     rw [HC.out] at HS
     go_wp2_with (at_builtin;refine wpList_apT rfl (.tmp 86) (.tmp 88) rfl w2.heap.size _ _ [(WG,(-1:Int))] rfl (HO5.out.below (bal w6 _)) w6.heap.size 1 1 rfl rfl (term_one w6 _ _) HLn.out (by simp;have:=hz6.out;omega) ?_;intro v7 w7 own7 gr7;have B7:Hid (Below w2.heap.size w2 w7):=(HO5.out.below (bal w6 _)).grow (B5.out.alloc B5.out.size _) gr7 (by simp;have:=hz6.out;omega))
     go_roundw
     case rel=>exact⟨y+1,by omega,by go_num,by rw [HS.out];exact own7,B7.out⟩
     case measure=>simp [intOf];omega
    ·have HC:Hid (cov (cn:Int) P D=P*(cn:Int)+D):=if_neg hp
     rw [HC.out] at HS
     have hp0:0≤P:=by omega
     have m1:0≤P*(cn:Int):=Int.mul_nonneg (by omega) (by omega)
     have m2:P*(cn:Int)≤16384*1024:=Int.mul_le_mul hPb1.2 hcn1.2 (by omega) (by omega)
     obtain⟨PC,hPC⟩:∃ PC,P*(cn:Int)=PC:=⟨_,rfl⟩
     rw [hPC] at m1 m2 HS
     go_upto_region 18 with fail
     have hG:=S5.out.h2
     have hG1:=S5.out.h1
     refine regionC (fun w'=>w'.cell? (x.add y)=some (U i6 P)∧w'.heap[W.heap.size]? = some (.cells #[U i6 k,U i6 a,U i6 b,U i6 m,U i6 kh,U i6 kw,U i6 sh,U i6 sw,U i6 tp,U i6 lf,U i6 bt,U i6 rt,Sl wa lw wc,Sl ba lb bc,U i6 sm,U i6 ss,U i6 um,U i6 us,U i6 z,U i6 p,U i6 lo,U i6 hi,U i6 h,U i6 w,U i6 (cn:Int),U i6 H,U i6 V,U i6 C] 76 (0,0))) (by kernel_rfl) ?_
     obtain⟨wd,hwd⟩:∃ wd,w6.drew=wd:=⟨_,rfl⟩
     have HCl:Hid (wd.cell? (x.add y)=some (U i6 P)∧wd.heap[W.heap.size]? = some (.cells #[U i6 k,U i6 a,U i6 b,U i6 m,U i6 kh,U i6 kw,U i6 sh,U i6 sw,U i6 tp,U i6 lf,U i6 bt,U i6 rt,Sl wa lw wc,Sl ba lb bc,U i6 sm,U i6 ss,U i6 um,U i6 us,U i6 z,U i6 p,U i6 lo,U i6 hi,U i6 h,U i6 w,U i6 (cn:Int),U i6 H,U i6 V,U i6 C] 76 (0,0))):=by unfold Hid;rw [← hwd];exact⟨hcx,hG⟩
     have HD:Hid (Below w6.heap.size w6 wd):=by unfold Hid;rw [← hwd];exact (Below.refl _ _).drew
     have hGd:wd.heap[w5.heap.size]? = some (.cells #[U i6 WG,U i6 (-1)] 82 (0,0)):=by rw [← hwd];exact hG1
     rw [hwd]
     clear hwd hG hG1 c1 f1 c2 f2
     refine takeC 0 (v:=.slice (some x) N tc) rfl rfl (by kernel_rfl) (by kernel_rfl) (by kernel_rfl) (fun _ _ _ h=>h) (fun _=>rfl) rfl (fun w' hw'=>by go_simp) ?_
     refine takeC 1 (v:=U i6 (y:Int)) rfl rfl (by kernel_rfl) (by kernel_rfl) (by kernel_rfl) (fun _ _ _ h=>h) (fun _=>rfl) rfl (fun w' hw'=>by go_simp) ?_
     refine takeC 2 (v:=.pointer (some (x.add y))) rfl rfl (by kernel_rfl) (by kernel_rfl) (by kernel_rfl) (fun _ _ _ h=>h) (fun _=>rfl) rfl (fun w' hw'=>by go_simp) ?_
     refine takeC 3 (v:=U i6 P) rfl rfl (by kernel_rfl) (by kernel_rfl) (by kernel_rfl) (fun _ _ _ h=>h) (fun _=>rfl) rfl (fun w' hw'=>by have hc:=hw'.1;go_simp) ?_
     refine takeC 4 (v:=.pointer (some ⟨W.heap.size,22,none⟩)) rfl rfl (by kernel_rfl) (by kernel_rfl) (by kernel_rfl) (fun _ _ _ h=>h) (fun _=>rfl) rfl (fun w' hw'=>by go_simp) ?_
     refine takeC 5 (v:=.pointer (some ⟨W.heap.size,24,none⟩)) rfl rfl (by kernel_rfl) (by kernel_rfl) (by kernel_rfl) (fun _ _ _ h=>h) (fun _=>rfl) rfl (fun w' hw'=>by go_simp) ?_
     refine takeC 6 (v:=U i6 (cn:Int)) rfl rfl (by kernel_rfl) (by kernel_rfl) (by kernel_rfl) (fun _ _ _ h=>h) (fun _=>rfl) rfl (fun w' hw'=>by have hc:=(cells_at hw'.2).1 24;go_simp) ?_
     refine takeC 7 (v:=U i6 PC) rfl rfl (by kernel_rfl) (by kernel_rfl) (by kernel_rfl) (fun _ _ _ h=>h) (fun _=>rfl) rfl (fun w' hw'=>by go_simp;try (rw [IntKind.wrap_i64];omega)) ?_
     refine takeC 8 (v:=U i6 D) rfl rfl (by kernel_rfl) (by kernel_rfl) (by kernel_rfl) (fun _ _ _ h=>h) (fun _=>rfl) rfl (fun w' hw'=>by go_simp) ?_
     refine takeC 9 (v:=U i6 (PC+D)) rfl rfl (by kernel_rfl) (by kernel_rfl) (by kernel_rfl) (fun _ _ _ h=>h) (fun _=>rfl) rfl (fun w' hw'=>by go_simp;try (rw [IntKind.wrap_i64];omega)) ?_
     refine takeC 10 (v:=.pointer (some ⟨w5.heap.size,1,none⟩)) rfl rfl (by kernel_rfl) (by kernel_rfl) (by kernel_rfl) (fun _ _ _ h=>h) (fun _=>rfl) rfl (fun w' hw'=>by go_simp) ?_
     have g1:wd.cell? ⟨w5.heap.size,1,none⟩=some (U i6 (-1)):=(cells_at hGd).1 1
     have g2:wd.frozen? ⟨w5.heap.size,1,none⟩=false:=(cells_at hGd).2.1 1
     refine stepC 11 HCl.out (by kernel_rfl) rfl (fun K hK=>step_wp rfl ?_)
     go_simp
     refine hK _ _ ?_
     clear hK K g1 g2
     have hGs:Hid ((wd.setCell ⟨w5.heap.size,1,none⟩ (U i6 (PC+D))).heap[w5.heap.size]? = some (.cells #[U i6 WG,U i6 (PC+D)] 82 (0,0))):=heap_setCell_at hGd
     have hD6:Hid (Below w2.heap.size w2 (wd.setCell ⟨w5.heap.size,1,none⟩ (U i6 (PC+D)))):=(B5.out.trans (HD.out.mono B5.out.size)).setCell (p:=⟨w5.heap.size,1,none⟩) hz5 _
     have HCs:Hid ((wd.setCell ⟨w5.heap.size,1,none⟩ (U i6 (PC+D))).cell? (x.add y)=some (U i6 P)∧(wd.setCell ⟨w5.heap.size,1,none⟩ (U i6 (PC+D))).heap[W.heap.size]? = some (.cells #[U i6 k,U i6 a,U i6 b,U i6 m,U i6 kh,U i6 kw,U i6 sh,U i6 sw,U i6 tp,U i6 lf,U i6 bt,U i6 rt,Sl wa lw wc,Sl ba lb bc,U i6 sm,U i6 ss,U i6 um,U i6 us,U i6 z,U i6 p,U i6 lo,U i6 hi,U i6 h,U i6 w,U i6 (cn:Int),U i6 H,U i6 V,U i6 C] 76 (0,0))):=by
      refine⟨?_,?_⟩
      ·have hb7:Below w2.heap.size wd (wd.setCell ⟨w5.heap.size,1,none⟩ (U i6 (PC+D))):=(Below.refl _ wd).setCell (p:=⟨w5.heap.size,1,none⟩) hz5 _
       exact (hb7.cell (by rw [add_block];exact hxb)).trans HCl.out.1
      ·rw [Below.heap_setCell _ _ _ _ (show W.heap.size≠w5.heap.size by omega)]
       exact HCl.out.2
     have HO6:Hid (OTm (wd.setCell ⟨w5.heap.size,1,none⟩ (U i6 (PC+D))) w2.heap.size (.slice va y vc) (tmL k (cn:Int) ch h w kw t u st zs y)):=otm_other (HO5.out.below HD.out) HOn.out
     refine doneC HCs.out (by kernel_rfl) ?_ _
     obtain⟨w7,hw7⟩:∃ w7,wd.setCell ⟨w5.heap.size,1,none⟩ (U i6 (PC+D))=w7:=⟨_,rfl⟩
     rw [hw7] at hGs hD6 HO6 ⊢
     have hz7:w5.heap.size<w7.heap.size:=lt_of_heap hGs.out
     obtain⟨c1,f1,z1'⟩:=cells_at hGs.out
     clear hw7 HCs HCl HD hGd hcx
     go_wp2_with (at_builtin;refine wpList_apT rfl (.tmp 86) (.tmp 88) rfl w2.heap.size _ _ [(WG,PC+D)] rfl (HO6.out.below (bal w7 _)) w7.heap.size 1 1 rfl rfl (term_one w7 _ _) HLn.out (by simp;omega) ?_;intro v8 w8 own8 gr8;have B8:Hid (Below w2.heap.size w2 w8):=(HO6.out.below (bal w7 _)).grow (hD6.out.alloc hD6.out.size _) gr8 (by simp;omega))
     go_roundw
     case rel=>exact⟨y+1,by omega,by go_num,by rw [HS.out];exact own8,B8.out⟩
     case measure=>simp [intOf];omega
  ·obtain rfl:y=st:=by omega
   have hS1:=S2.out.below
   go_wp2
   go_ret
   exact⟨⟨_,rfl,HO.out.base hS1.size⟩,hS1.trans (hb.mono hS1.size)⟩
theorem own_heap {w:World} {base:Nat} {e:TypeId} {size:Nat} {v:Value} {n b:Nat} {xs:List Value} (h:w.ownsRow base e size v n xs) (hb:v.ownBlock=some b):∃ c,w.heap[b]? = some (.cells c e (0,0)):=by
 rcases h.2 with ⟨rfl,-⟩ | ⟨f,cap,cur,rfl,-,h3,-⟩
 ·simp [Value.ownBlock] at hb
 ·obtain rfl:f=b:=by simpa [Value.ownBlock] using hb
  exact⟨cur,h3⟩
theorem nx_grow {w w':World} {base base':Nat} {v u:Value} {zs ys:List Int} {k:IntKind} {T:TypeId} (h:Nx.Own w base v zs) (o:Own k T w base' u ys) (g:w.grownBy w' u.ownBlock) (hT:T≠3):Nx.Own w' base v zs:=by
 refine World.ownsRow.kept h g ?_
 cases e:v.ownBlock with
 | none=>exact .inl rfl
 | some b =>
  refine .inr fun q=>?_
  obtain⟨c,h1⟩:=own_heap h e
  have hu:u.ownBlock=some b:=by first | exact q | exact q.symm
  obtain⟨c',h2⟩:=own_heap o.1 hu
  rw [h1] at h2
  simp only [Option.some.injEq,Obj.cells.injEq] at h2
  exact hT h2.2.1.symm
theorem nx_row {w:World} {base n cap:Nat} {a:Option Addr} {zs:List Int} (h:Nx.Own w base (.slice a n cap) zs) (hn:zs.length=n):Nx.Row w a n cap zs:=by
 obtain⟨a',cap',e,hr,-⟩:=h.row
 simp only [Value.slice.injEq] at e
 obtain⟨rfl,rfl,rfl⟩:=e
 exact hr
theorem fiL_app (x:List Int) (v z lo hi:Int):fiL (x++[v]) z lo hi=fiL x z lo hi++[Fx.fiV v z lo hi]:=by simp [fiL]
theorem fiL_len (x:List Int) (z lo hi:Int):(fiL x z lo hi).length=x.length:=by simp [fiL]
theorem rgreat_any (a b m kh kw sh sw:Int) (wa:Option Addr) (lw wc:Nat) (ba:Option Addr) (lb bc:Nat) (sm ss um us z p lo hi h w c H V C:Int) (W:World) (ad:Option Addr) (n cap:Nat) (xs:List Int) (hX:IRow .i8 W ad n cap xs) (hn:(n:Int)=h*w*c) (hA:vS h w c=true) (hB:vS H V C=true) (hou:ouR h w c kh kw sh sw 0 0 0 0=(H,V,0)) (hkh:1≤kh∧kh≤32) (hkw:1≤kw∧kw≤32) (hsh:1≤sh∧sh≤32) (hsw:1≤sw∧sw≤32) (hf1:(H-1)*sh+kh≤h) (hf2:(V-1)*sw+kw≤w) (hCc:C=c) :
  Calls Tryz.prog 46 #[.agg #[U i6 5,U i6 a,U i6 b,U i6 m,U i6 kh,U i6 kw,U i6 sh,U i6 sw,U i6 0,U i6 0,U i6 0,U i6 0,Sl wa lw wc,Sl ba lb bc,U i6 sm,U i6 ss,U i6 um,U i6 us,U i6 z,U i6 p,U i6 lo,U i6 hi],.agg #[U i6 h,U i6 w,U i6 c],.agg #[U i6 H,U i6 V,U i6 C],Sl ad n cap] W fun e w'=>(∃ v,e=.returned v∧Own .i8 72 w' W.heap.size v (fiL (grL kh kw sh sw w c V C xs (H*V*C).toNat) 0 lo hi))∧Below W.heap.size W w':=by
 have HX:Hid (IRow .i8 W ad n cap xs):=hX
 have HX8:Hid (∀ v∈xs,I8 v):=hX.i8
 have HTp:Hid (∀ (W':World) (at':Int),0≤at'∧at'<H*V→Calls Tryz.prog 49 #[.agg #[U i6 h,U i6 w,U i6 c],.agg #[U i6 kh,U i6 kw,U i6 sh,U i6 sw,U i6 0,U i6 0,U i6 0,U i6 0],U i6 at'] W' fun e w'=>(∃ v,e=.returned v∧Nx.Own w' W'.heap.size v (Nx.covL h w kw (at' / V*sh) (at' % V*sw) (kh*kw).toNat))∧Below W'.heap.size W' w'):=fun W' at' hat=>by
  have hc:coR h w c kh kw sh sw 0 0 0 0 at'=(at' / V*sh,at' % V*sw,0):=by
   unfold coR;rw [hou];simp only;rw [if_pos trivial,if_pos hat,Int.sub_zero,Int.sub_zero]
  exact Nx.rtaps_any h w c kh kw sh sw 0 0 0 0 at' _ _ W' hc
 obtain⟨hh,hw,hc,-⟩:=vS_yes hA
 obtain⟨hH,hV,hC,-⟩:=vS_yes hB
 have p3:=vS_bd hB
 have pA:=vS_bd hA
 subst hCc
 obtain⟨VN,rfl⟩:∃ VN:Nat,V=(VN:Int):=⟨V.toNat,by omega⟩
 obtain⟨CN,rfl⟩:∃ CN:Nat,C=(CN:Int):=⟨C.toNat,by omega⟩
 have hH2:H≤1024∧1≤H:=by omega
 obtain⟨P,hP⟩:∃ P:Nat,H*(VN:Int)=(P:Int):=⟨(H*VN).toNat,by omega⟩
 have HrowP:Hid (∀ y:Nat,y<P→(0≤(y:Int) / VN∧(y:Int) / VN<H)∧(0≤(y:Int) % VN∧(y:Int) % VN<VN)):=fun y hy=>⟨⟨Int.ediv_nonneg (by omega) (by omega),Int.ediv_lt_of_lt_mul (by omega) (by rw [hP];omega)⟩,Int.emod_nonneg _ (by omega),Int.emod_lt_of_pos _ (by omega)⟩
 rw [hP] at HTp p3 ⊢
 obtain⟨N,hN⟩:∃ N:Nat,(P:Int)*(CN:Int)=(N:Int):=⟨P*CN,by rw [Int.natCast_mul]⟩
 have HNN:Hid (P*CN=N):=by
  have:((P*CN:Nat):Int)=(N:Int):=by rw [Int.natCast_mul];exact hN
  unfold Hid;omega
 rw [hN] at p3 ⊢
 rw [Int.toNat_natCast]
 obtain⟨KK,hKK⟩:∃ KK:Nat,kh*kw=(KK:Int):=⟨(kh*kw).toNat,by have:=(mul_bd hkh.1 hkh.2 hkw.1 hkw.2).1;omega⟩
 have hKK2:KK≤1024:=by have:=(mul_bd hkh.1 hkh.2 hkw.1 hkw.2).2;omega
 rw [hKK,Int.toNat_natCast] at HTp
 have HKK:Hid ((kh*kw).toNat=KK):=by unfold Hid;rw [hKK,Int.toNat_natCast]
 have HNn:Hid ((n:Int)=h*w*CN):=hn
 have hcap:=hX.2.1
 have hcm:=hX.2.2.1
 unfold maxLen at hcm
 have s0:=(((St.start W).new (c:=#[U i6 5,U i6 a,U i6 b,U i6 m,U i6 kh,U i6 kw,U i6 sh,U i6 sw,U i6 0,U i6 0,U i6 0,U i6 0,Sl wa lw wc,Sl ba lb bc,U i6 sm,U i6 ss,U i6 um,U i6 us,U i6 z,U i6 p,U i6 lo,U i6 hi]) (t:=55)).new (c:=#[U i6 h,U i6 w,U i6 (CN:Int)]) (t:=23)).new (c:=#[U i6 H,U i6 (VN:Int),U i6 (CN:Int)]) (t:=23)
 simp only [World.size_alloc] at s0
 have S0:Hid (St W _ [(W.heap.size+1+1,#[U i6 H,U i6 (VN:Int),U i6 (CN:Int)],23),(W.heap.size+1,#[U i6 h,U i6 w,U i6 (CN:Int)],23),(W.heap.size,#[U i6 5,U i6 a,U i6 b,U i6 m,U i6 kh,U i6 kw,U i6 sh,U i6 sw,U i6 0,U i6 0,U i6 0,U i6 0,Sl wa lw wc,Sl ba lb bc,U i6 sm,U i6 ss,U i6 um,U i6 us,U i6 z,U i6 p,U i6 lo,U i6 hi],55)]):=s0
 have HKq:Hid (∀ q:Nat,q<KK→(0≤(q:Int) / kw∧(q:Int) / kw<kh)∧(0≤(q:Int) % kw∧(q:Int) % kw<kw)):=fun q hq=>⟨⟨Int.ediv_nonneg (by omega) (by omega),Int.ediv_lt_of_lt_mul (by omega) (by rw [hKK];omega)⟩,Int.emod_nonneg _ (by omega),Int.emod_lt_of_pos _ (by omega)⟩
 have HP:Hid (H*(VN:Int)=(P:Int)):=hP
 have hwP:IntKind.i64.wrap (P:Int)=P:=w64 (by omega)
 clear hX hn hA hB hou hN hKK s0
 go_enter Tryz.func46,Tryz.ntmps46
 go_wp2
 have Ho0:Hid (Own .i8 72 (((W.alloc (.cells #[U i6 5,U i6 a,U i6 b,U i6 m,U i6 kh,U i6 kw,U i6 sh,U i6 sw,U i6 0,U i6 0,U i6 0,U i6 0,Sl wa lw wc,Sl ba lb bc,U i6 sm,U i6 ss,U i6 um,U i6 us,U i6 z,U i6 p,U i6 lo,U i6 hi] 55)).alloc (.cells #[U i6 h,U i6 w,U i6 (CN:Int)] 23)).alloc (.cells #[U i6 H,U i6 (VN:Int),U i6 (CN:Int)] 23)) W.heap.size (.slice none 0 0) []):=own_none _ _ _ _
 go_loopw [9,10] (fun v i wr=>∃ (y:Nat) (v1:Value),v1=v∧y≤P∧i=U i6 y∧Own .i8 72 wr W.heap.size v (fiL (grL kh kw sh sw w CN VN CN xs (y*CN)) 0 lo hi)∧St W wr [(W.heap.size+1+1,#[U i6 H,U i6 (VN:Int),U i6 (CN:Int)],23),(W.heap.size+1,#[U i6 h,U i6 w,U i6 (CN:Int)],23),(W.heap.size,#[U i6 5,U i6 a,U i6 b,U i6 m,U i6 kh,U i6 kw,U i6 sh,U i6 sw,U i6 0,U i6 0,U i6 0,U i6 0,Sl wa lw wc,Sl ba lb bc,U i6 sm,U i6 ss,U i6 um,U i6 us,U i6 z,U i6 p,U i6 lo,U i6 hi],55)]) (fun _ i _=>P-(intOf i).toNat)
 case atStart=>exact⟨0,_,rfl,Nat.zero_le _,rfl,by simpa [grL,fiL] using Ho0.out,S0.out⟩
 case round =>
  obtain⟨y,v1,rfl,hy,rfl,hO,sr⟩:=hrel
  clear S0 Ho0
  obtain⟨c1,f1,z1,c2,f2,z2,c3,f3,z3,-⟩:=sr.rules
  have HO:Hid (Own .i8 72 wr W.heap.size v1 (fiL (grL kh kw sh sw w CN VN CN xs (y*CN)) 0 lo hi)):=hO
  have SR:Hid (St W wr [(W.heap.size+1+1,#[U i6 H,U i6 (VN:Int),U i6 (CN:Int)],23),(W.heap.size+1,#[U i6 h,U i6 w,U i6 (CN:Int)],23),(W.heap.size,#[U i6 5,U i6 a,U i6 b,U i6 m,U i6 kh,U i6 kw,U i6 sh,U i6 sw,U i6 0,U i6 0,U i6 0,U i6 0,Sl wa lw wc,Sl ba lb bc,U i6 sm,U i6 ss,U i6 um,U i6 us,U i6 z,U i6 p,U i6 lo,U i6 hi],55)]):=sr
  clear hO sr
  by_cases hlt:y<P
  ·obtain⟨⟨y1,y2⟩,y3,y4⟩:=HrowP.out y hlt
   obtain⟨t1,t2⟩:=step_in (i:=(y:Int) / VN) ⟨y1,y2⟩ hsh.1 hf1
   obtain⟨t3,t4⟩:=step_in (i:=(y:Int) % VN) ⟨y3,y4⟩ hsw.1 hf2
   have HTq:Hid (∀ (W':World),_):=fun W'=>HTp.out W' y ⟨by omega,by omega⟩
   have HGs:Hid (∀ d,d<CN→grL kh kw sh sw w CN VN CN xs (y*CN+d+1)=grL kh kw sh sw w CN VN CN xs (y*CN+d)++[grM w CN kw xs ((y:Int) / VN*sh) ((y:Int) % VN*sw) d KK]):=fun d hd=>by
    obtain⟨e1,e2⟩:=divmod_at (C:=(CN:Int)) (q:=y) (d:=d) (by omega)
    rw [grL_succ,Int.natCast_add,Int.natCast_mul,e1,e2,HKK.out]
   obtain⟨T,hT⟩:∃ T,(y:Int) / VN*sh=T:=⟨_,rfl⟩
   obtain⟨UU,hU⟩:∃ UU,(y:Int) % VN*sw=UU:=⟨_,rfl⟩
   rw [hT] at t1 t2 HTq HGs
   rw [hU] at t3 t4 HTq HGs
   clear hT hU y1 y2 y3 y4
   have hPP:=HP.out
   go_wp2_with fail
   refine Calls.mono (HTq.out _) ?_
   rintro e w1 ⟨⟨v,rfl,hOt⟩,hb1⟩
   obtain⟨va,vc,rfl,hrow,-⟩:=hOt.row
   rw [Nx.covL_len] at hOt ⊢
   obtain⟨w0z,hw0z⟩:∃ w0z,wr.heap.size=w0z:=⟨_,rfl⟩
   rw [hw0z] at hOt
   have HT1:Hid (Nx.Own w1 w0z (.slice va KK vc) (Nx.covL h w kw T UU KK)):=hOt
   clear hw0z
   have S1:Hid (St W w1 [(W.heap.size+1+1,#[U i6 H,U i6 (VN:Int),U i6 (CN:Int)],23),(W.heap.size+1,#[U i6 h,U i6 w,U i6 (CN:Int)],23),(W.heap.size,#[U i6 5,U i6 a,U i6 b,U i6 m,U i6 kh,U i6 kw,U i6 sh,U i6 sw,U i6 0,U i6 0,U i6 0,U i6 0,Sl wa lw wc,Sl ba lb bc,U i6 sm,U i6 ss,U i6 um,U i6 us,U i6 z,U i6 p,U i6 lo,U i6 hi],55)]):=SR.out.call hb1
   have O1:Hid (Own .i8 72 w1 W.heap.size v1 (fiL (grL kh kw sh sw w CN VN CN xs (y*CN)) 0 lo hi)):=HO.out.below hb1
   clear hb1 hOt hrow SR HO c1 f1 z1 c2 f2 z2 c3 f3 z3 HTq hPP
   go_wp2
   go_loopw [9,12] (fun v i wr=>∃ (d:Nat) (v2:Value),v2=v∧d≤CN∧i=U i6 d∧Own .i8 72 wr W.heap.size v (fiL (grL kh kw sh sw w CN VN CN xs (y*CN+d)) 0 lo hi)∧Nx.Own wr w0z (.slice va KK vc) (Nx.covL h w kw T UU KK)∧St W wr [(W.heap.size+1+1,#[U i6 H,U i6 (VN:Int),U i6 (CN:Int)],23),(W.heap.size+1,#[U i6 h,U i6 w,U i6 (CN:Int)],23),(W.heap.size,#[U i6 5,U i6 a,U i6 b,U i6 m,U i6 kh,U i6 kw,U i6 sh,U i6 sw,U i6 0,U i6 0,U i6 0,U i6 0,Sl wa lw wc,Sl ba lb bc,U i6 sm,U i6 ss,U i6 um,U i6 us,U i6 z,U i6 p,U i6 lo,U i6 hi],55)]) (fun _ i _=>CN-(intOf i).toNat)
   case atStart=>exact⟨0,_,rfl,Nat.zero_le _,rfl,O1.out,HT1.out,S1.out⟩
   case round =>
    obtain⟨d,v2,rfl,hd,rfl,hO,hbw,sr⟩:=hrel
    clear O1 S1
    obtain⟨c1,f1,z1,c2,f2,z2,c3,f3,z3,-⟩:=sr.rules
    have HO:Hid (Own .i8 72 wr W.heap.size v2 (fiL (grL kh kw sh sw w CN VN CN xs (y*CN+d)) 0 lo hi)):=hO
    have SR:Hid (St W wr [(W.heap.size+1+1,#[U i6 H,U i6 (VN:Int),U i6 (CN:Int)],23),(W.heap.size+1,#[U i6 h,U i6 w,U i6 (CN:Int)],23),(W.heap.size,#[U i6 5,U i6 a,U i6 b,U i6 m,U i6 kh,U i6 kw,U i6 sh,U i6 sw,U i6 0,U i6 0,U i6 0,U i6 0,Sl wa lw wc,Sl ba lb bc,U i6 sm,U i6 ss,U i6 um,U i6 us,U i6 z,U i6 p,U i6 lo,U i6 hi],55)]):=sr
    have HTo:Hid (Nx.Own wr w0z (.slice va KK vc) (Nx.covL h w kw T UU KK)):=hbw
    have HTr:Hid (Nx.Row wr va KK vc (Nx.covL h w kw T UU KK)):=nx_row hbw (Nx.covL_len _ _ _ _ _ _)
    clear hO sr hbw
    by_cases hltd:d<CN
    ·have hvc:=HTr.out.2.1
     have hvm:=HTr.out.2.2.1
     unfold maxLen at hvm
     go_wp2
     go_loopw [13,40] (fun g i wq=>∃ q:Nat,q≤KK∧i=U i6 q∧g=U i6 (grM w CN kw xs T UU d q)∧wq=wr) (fun _ i _=>KK-(intOf i).toNat)
     case atStart=>exact⟨0,Nat.zero_le _,rfl,rfl,rfl⟩
     case round =>
      obtain⟨q,hq,rfl,rfl,hwq⟩:=hrel
      subst hwq
      by_cases hltq:q<KK
      ·obtain⟨⟨k1,k2⟩,k3,k4⟩:=HKq.out q hltq
       obtain⟨xt,rfl⟩:∃ xt,va=some xt:=by
        cases va with
        | none=>have h1:=HTr.out.2.2.2.1 rfl;omega
        | some xt=>exact⟨xt,rfl⟩
       have hcx:=HTr.out.2.2.2.2 xt rfl q hltq
       rw [show (Nx.covL h w kw T UU KK).getD q 0=plc h w (T+(q:Int) / kw) (UU+(q:Int) % kw) by simp [Nx.covL,List.getD,hltq],plc_in ⟨⟨by omega,by omega⟩,by omega,by omega⟩] at hcx
       obtain⟨r1,r2⟩:=rowbd (h:=h) (w:=w) (y:=T+(q:Int) / kw) (x:=UU+(q:Int) % kw) (by omega) (by omega) (by omega) (by omega)
       have HS:Hid (grM w CN kw xs T UU d (q+1)=mxI (grM w CN kw xs T UU d q) (xs.getD ((((T+(q:Int) / kw)*w+(UU+(q:Int) % kw))*CN+d)).toNat 0)):=rfl
       obtain⟨R,hR⟩:∃ R,(T+(q:Int) / kw)*w+(UU+(q:Int) % kw)=R:=⟨_,rfl⟩
       rw [hR] at hcx r2 HS
       have hR0:0≤R:=by omega
       obtain⟨r3,r4⟩:=rowbd (w:=(CN:Int)) (x:=(d:Int)) r2 hR0 (by omega) (by omega)
       obtain⟨R2,hR2⟩:∃ R2,R*(CN:Int)=R2:=⟨_,rfl⟩
       rw [hR2] at r3 r4 HS
       obtain⟨I,hI⟩:∃ I:Nat,R2+(d:Int)=(I:Int):=⟨(R2+d).toNat,by omega⟩
       rw [hI,Int.toNat_natCast] at HS
       have hIn:I<n:=by have:=HNn.out;omega
       obtain⟨xa,u,rfl,hu,hw8,hz,-⟩:=(HX.out.below SR.out.below).at hIn
       obtain⟨u1,u2⟩:=wf_i8 hw8
       rw [show xs.getD I 0=u by rw [List.getD_eq_getElem?_getD,hz];rfl] at HS
       have hG:=grM_i8 (w:=w) (c:=(CN:Int)) (kw:=kw) HX8.out T UU d q
       obtain⟨G,hGe⟩:∃ G,grM w CN kw xs T UU d q=G:=⟨_,rfl⟩
       rw [hGe] at HS hG ⊢
       obtain⟨g1,g2⟩:=hG
       have hRb:R≤1048576:=by omega
       clear k1 k2 k3 k4 r1 hR hGe hz hw8
       by_cases hlg:G<u
       ·have HM:Hid (mxI G u=u):=if_pos hlg
        have hng:¬ u<G:=by omega
        go_wp2
        go_roundw
        case rel=>exact⟨q+1,by omega,by go_num,by rw [HS.out,HM.out],by first | rfl | trivial⟩
        case measure=>simp [intOf];omega
       ·have HM:Hid (mxI G u=G):=if_neg hlg
        go_wp2
        go_roundw
        case rel=>exact⟨q+1,by omega,by go_num,by rw [HS.out,HM.out],by first | rfl | trivial⟩
        case measure=>simp [intOf];omega
      ·obtain rfl:KK=q:=by omega
       have HSS:=HGs.out d hltd
       have hG:=grM_i8 (w:=w) (c:=(CN:Int)) (kw:=kw) HX8.out T UU d KK
       obtain⟨G,hGe⟩:∃ G,grM w CN kw xs T UU d KK=G:=⟨_,rfl⟩
       rw [hGe] at HSS hG ⊢
       have HSS2:Hid (fiL (grL kh kw sh sw w CN VN CN xs (y*CN+d+1)) 0 lo hi=fiL (grL kh kw sh sw w CN VN CN xs (y*CN+d)) 0 lo hi++[Fx.fiV G 0 lo hi]):=by unfold Hid;rw [HSS,fiL_app]
       have h8:=fiV_i8 (v:=G) (z:=0) (lo:=lo) (hi:=hi)
       have h8w:=i8w h8
       have HLn:Hid (y*CN+d≤16384):=by
        unfold Hid
        have q1:(y+1)*CN≤P*CN:=Nat.mul_le_mul_right _ hlt
        rw [HNN.out,Nat.add_mul] at q1
        omega
       clear hGe HSS
       go_wp2_with fail
       refine (Fx.reffinish_any G 0 lo hi _).mono ?_
       rintro e wf ⟨rfl,hwf⟩
       have hwf':=hwf.symm
       subst hwf'
       obtain⟨F,hF⟩:∃ F,Fx.fiV G 0 lo hi=F:=⟨_,rfl⟩
       rw [hF] at h8 h8w HSS2 ⊢
       have H8:Hid (I8 F):=h8
       clear hF hwf h8
       go_wp2_with (at_builtin;refine wpList_app kt_i8 rfl (.tmp 66) (.tmp 69) rfl W.heap.size v2 (fiL (grL kh kw sh sw w CN VN CN xs (y*CN+d)) 0 lo hi) [F] rfl (HO.out.alloc _) _ _ _ rfl (row_one .i8 72 wr F (mk_i8 H8.out)) (by rw [fiL_len,grL_len];have:=HLn.out;simp;omega) (by have:=SR.out.size;simp;omega) ?_;intro v7 w7 own7 gr7 nn7;have S7:Hid (St W w7 [(W.heap.size+1+1,#[U i6 H,U i6 (VN:Int),U i6 (CN:Int)],23),(W.heap.size+1,#[U i6 h,U i6 w,U i6 (CN:Int)],23),(W.heap.size,#[U i6 5,U i6 a,U i6 b,U i6 m,U i6 kh,U i6 kw,U i6 sh,U i6 sw,U i6 0,U i6 0,U i6 0,U i6 0,Sl wa lw wc,Sl ba lb bc,U i6 sm,U i6 ss,U i6 um,U i6 us,U i6 z,U i6 p,U i6 lo,U i6 hi],55)]):=(SR.out.skip (.cells #[.int .i8 F] 72)).grow (HO.out.alloc _) gr7 (Nat.le_refl _) (by simp);have O7:Hid (Own .i8 72 w7 W.heap.size v7 (fiL (grL kh kw sh sw w CN VN CN xs (y*CN+d+1)) 0 lo hi)):=(by rw [HSS2.out];exact own7);have B7:Hid (Nx.Own w7 w0z (.slice va KK vc) (Nx.covL h w kw T UU KK)):=nx_grow (HTo.out.alloc _) (HO.out.alloc _) gr7 (by decide);clear own7 gr7 nn7)
       go_roundw
       case rel=>exact⟨d+1,_,rfl,by omega,by go_num,O7.out,B7.out,S7.out⟩
       case measure=>simp [intOf];omega
    ·obtain rfl:d=CN:=by omega
     have Ho2:Hid (Own .i8 72 wr W.heap.size v2 (fiL (grL kh kw sh sw w d VN d xs ((y+1)*d)) 0 lo hi)):=by
      have e:(y+1)*d=y*d+d:=by rw [Nat.add_mul,Nat.one_mul]
      unfold Hid
      rw [e];exact HO.out
     clear HO
     go_wp2
     go_roundw
     case rel=>exact⟨y+1,_,rfl,by omega,by go_num,Ho2.out,SR.out⟩
     case measure=>simp [intOf];omega
  ·obtain rfl:y=P:=by omega
   have HO2:Hid (Own .i8 72 wr W.heap.size v1 (fiL (grL kh kw sh sw w CN VN CN xs N) 0 lo hi)):=by rw [← HNN.out];exact HO.out
   have hPP:=HP.out
   go_wp2
   go_ret
   exact⟨⟨_,rfl,HO2.out⟩,SR.out.below⟩
end Go.Proofs.YtehofmkpgopmpaaGreat
