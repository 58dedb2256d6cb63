/- The document's Terms, of whatever kind. The document's Value, Sum and Sums of layers 10 and 11. The document's Make of layer 11. What the document's registers do (Dots), and its Dot. The document's Dot. -/
import Derived.Test.YtehofmkpgopmpaaGreatGq13
import Derived.Test.YtehofmkpgopmpaaGreatGq22
import Derived.Test.YtehofmkpgopmpaaGreatGq28
import Derived.Deep.RegionWith
import Derived.Deep.DeepCutAuto
namespace Go.Proofs.YtehofmkpgopmpaaGreat
open Go.Value renaming int → U, slice → Sl
open Go.IntKind renaming i64 → i6
set_option maxRecDepth 100000
set_option maxHeartbeats 16000000
open Go.ChangeShapes Go.WideShapes Go.ChangeAt Go.RowKit
set_option linter.unusedVariables false
theorem rterms_any (k a b m kh kw sh sw tp lf bt rt:Int) (wa:Option Addr) (lw wc:Nat) (ba:Option Addr) (lb bc:Nat) (sm ss um us z p lo hi h w c H V C:Int) (W:World) (zs:List Int) (hZ:IRow .i16 W wa lw wc zs) (s:Sit k kh kw sh sw tp lf bt rt h w c H V C lw lb) (ch at':Int) (hch:1≤ch∧ch≤C) (hat:0≤at'∧at'<H*V) :
  Calls Tryz.prog 24 #[.agg #[U i6 k,U i6 a,U i6 b,U i6 m,U i6 kh,U i6 kw,U i6 sh,U i6 sw,U i6 tp,U i6 lf,U i6 bt,U i6 rt,Sl wa lw wc,Sl ba lb bc,U i6 sm,U i6 ss,U i6 um,U i6 us,U i6 z,U i6 p,U i6 lo,U i6 hi,U i6 h,U i6 w,U i6 c,U i6 H,U i6 V,U i6 C],U i6 ch,U i6 at'] W fun e w'=>(∃ v,e=.returned v∧OTm w' W.heap.size v (siL k kh kw sh sw tp lf bt rt h w c ch at' zs))∧Below W.heap.size W w':=by
 obtain⟨st,hst⟩:∃ st:Nat,stR k kh kw h w c=(st:Int):=⟨(stR k kh kw h w c).toNat,by have:=s.2.2.2.2.2.2.2.2.1;omega⟩
 unfold siL
 rw [hst,Int.toNat_natCast]
 by_cases k1:k=1
 ·subst k1
  exact rterms_1 a b m kh kw sh sw tp lf bt rt wa lw wc ba lb bc sm ss um us z p lo hi h w c H V C W zs hZ s ch at' _ _ hch st hst
 ·obtain⟨cn,rfl⟩:∃ cn:Nat,c=(cn:Int):=⟨c.toNat,by have:=(vS_yes s.2.1).2.2.1;omega⟩
  have hou:=s.2.2.2.1 (by have:=s.1;omega)
  have hcc:(coR h w (cn:Int) kh kw sh sw tp lf bt rt at').2.2=0:=by
   unfold coR
   rw [hou]
   simp only
   rw [if_pos trivial,if_pos hat]
  exact rterms_w k a b m kh kw sh sw tp lf bt rt wa lw wc ba lb bc sm ss um us z p lo hi h w cn H V C W zs hZ s k1 ch at' _ _ hch (by rw [← hcc]) st hst
theorem rvalue_any (k a b m kh kw sh sw tp lf bt rt:Int) (wa:Option Addr) (lw wc:Nat) (ba:Option Addr) (lb bc:Nat) (sm ss um us z p lo hi h w c H V C:Int) (A1 A2:Int) (W:World) (ad:Option Addr) (n cap:Nat) (xs:List Int) (hX:IRow .i8 W ad n cap xs) (hp:I8 p) (h1:-32768≤A1∧A1≤32767) (h2:A2 = -1∨(0≤A2∧A2<(n:Int))) :
  Calls Tryz.prog 106 #[.agg #[U i6 k,U i6 a,U i6 b,U i6 m,U i6 kh,U i6 kw,U i6 sh,U i6 sw,U i6 tp,U i6 lf,U i6 bt,U i6 rt,Sl wa lw wc,Sl ba lb bc,U i6 sm,U i6 ss,U i6 um,U i6 us,U i6 z,U i6 p,U i6 lo,U i6 hi,U i6 h,U i6 w,U i6 c,U i6 H,U i6 V,U i6 C],.agg #[U i6 A1,U i6 A2],Sl ad n cap] W fun e w'=>e=.returned (U i6 (smT p xs (A1,A2)))∧Below W.heap.size W w':=by
 have s0:=((St.start W).new (c:=#[U i6 k,U i6 a,U i6 b,U i6 m,U i6 kh,U i6 kw,U i6 sh,U i6 sw,U i6 tp,U i6 lf,U i6 bt,U i6 rt,Sl wa lw wc,Sl ba lb bc,U i6 sm,U i6 ss,U i6 um,U i6 us,U i6 z,U i6 p,U i6 lo,U i6 hi,U i6 h,U i6 w,U i6 c,U i6 H,U i6 V,U i6 C]) (t:=76)).new (c:=#[U i6 A1,U i6 A2]) (t:=82)
 simp only [World.size_alloc] at s0
 obtain⟨c1,f1,z1,c2,f2,z2,-⟩:=s0.rules
 have S0:Hid (St W _ _):=s0
 have hb:=smT_bd (t:=(A1,A2)) hp hX.i8 h1
 by_cases neg:A2<0
 ·have e:Hid (A1*p=smT p xs (A1,A2)):=by unfold Hid smT;rw [if_pos neg]
  rw [← e.out] at hb ⊢
  obtain⟨pp,hpp⟩:∃ pp,A1*p=pp:=⟨_,rfl⟩
  rw [hpp] at hb ⊢
  clear hX h2 e s0
  go_enter Tryz.func106,Tryz.ntmps106
  go_wp2
  go_ret
  exact⟨rfl,S0.out.below⟩
 ·obtain⟨j,rfl⟩:∃ j:Nat,A2=(j:Int):=⟨A2.toNat,by omega⟩
  have hj:j<n:=by omega
  obtain⟨x,u,rfl,hu,hw8,hz,-⟩:=(hX.below S0.out.below).at hj
  obtain⟨u1,u2⟩:=wf_i8 hw8
  have e:Hid (A1*u=smT p xs (A1,(j:Int))):=by unfold Hid smT;simp only;rw [if_neg (by omega),Int.toNat_natCast,List.getD_eq_getElem?_getD,hz];rfl
  rw [← e.out] at hb ⊢
  obtain⟨pp,hpp⟩:∃ pp,A1*u=pp:=⟨_,rfl⟩
  rw [hpp] at hb ⊢
  have hwp:IntKind.i64.wrap pp=pp:=w64 (by omega)
  clear hX h2 e s0 hz hw8
  go_enter Tryz.func106,Tryz.ntmps106
  go_wp2
  go_quiet (fail)
  go_wp2
  go_ret
  exact⟨rfl,btr S0.out.below (dbel _ _)⟩
theorem rsum_any (k a b m kh kw sh sw tp lf bt rt:Int) (wa:Option Addr) (lw wc:Nat) (ba:Option Addr) (lb bc:Nat) (sm ss um us z p lo hi h w c H V C:Int) (W:World) (s:Sit k kh kw sh sw tp lf bt rt h w c H V C lw lb) (zs bs:List Int) (hZ:IRow .i16 W wa lw wc zs) (hB:IRow .i32 W ba lb bc bs) (ad:Option Addr) (n cap:Nat) (xs:List Int) (hX:IRow .i8 W ad n cap xs) (hn:(n:Int)=h*w*c) (hp:I8 p) (ch at':Int) (hch:1≤ch∧ch≤C) (hat:0≤at'∧at'<H*V) :
  Calls Tryz.prog 75 #[.agg #[U i6 k,U i6 a,U i6 b,U i6 m,U i6 kh,U i6 kw,U i6 sh,U i6 sw,U i6 tp,U i6 lf,U i6 bt,U i6 rt,Sl wa lw wc,Sl ba lb bc,U i6 sm,U i6 ss,U i6 um,U i6 us,U i6 z,U i6 p,U i6 lo,U i6 hi,U i6 h,U i6 w,U i6 c,U i6 H,U i6 V,U i6 C],U i6 ch,U i6 at',Sl ad n cap] W fun e w'=>e=.returned (U i6 (suA k kh kw sh sw tp lf bt rt h w c p zs bs xs ch at'))∧Below W.heap.size W w':=by
 have HBi:Hid (∀ (w':World),Below W.heap.size W w'→_):=fun w' hb=>rbias_any k a b m kh kw sh sw tp lf bt rt wa lw wc ba lb bc sm ss um us z p lo hi h w c H V C w' bs (hB.below hb) s ch hch
 have HTe:Hid (∀ (w':World),Below W.heap.size W w'→_):=fun w' hb=>rterms_any k a b m kh kw sh sw tp lf bt rt wa lw wc ba lb bc sm ss um us z p lo hi h w c H V C w' zs (hZ.below hb) s ch at' hch hat
 obtain⟨hl,ht⟩:=siL_facts s hZ.2.2.2.1 hch at'
 have hb0:=biA_bd (k:=k) (ch:=ch) hB.2.2.2.1
 have HVa:Hid (∀ (w':World),Below W.heap.size W w'→∀ A1 A2,(-32768≤A1∧A1≤32767)→(A2 = -1∨(0≤A2∧A2<(n:Int)))→_):=fun w' hb A1 A2 h1 h2=>rvalue_any k a b m kh kw sh sw tp lf bt rt wa lw wc ba lb bc sm ss um us z p lo hi h w c H V C A1 A2 w' ad n cap xs (hX.below hb) hp h1 h2
 unfold suA
 obtain⟨TL,hTL⟩:∃ TL,siL k kh kw sh sw tp lf bt rt h w c ch at' zs=TL:=⟨_,rfl⟩
 obtain⟨bi,hbi⟩:∃ bi,biA k ch bs=bi:=⟨_,rfl⟩
 rw [hTL] at HTe hl ht ⊢
 rw [hbi] at HBi hb0 ⊢
 rw [← hn] at ht
 have HT:Hid (∀ t∈TL,(-32768≤t.1∧t.1≤32767)∧(t.2 = -1∨(0≤t.2∧t.2<(n:Int)))):=ht
 have HX8:Hid (∀ v∈xs,I8 v):=hX.i8
 have HP8:Hid (I8 p):=hp
 have HLn:Hid (TL.length≤512):=hl
 have s0:=(St.start W).new (c:=#[U i6 k,U i6 a,U i6 b,U i6 m,U i6 kh,U i6 kw,U i6 sh,U i6 sw,U i6 tp,U i6 lf,U i6 bt,U i6 rt,Sl wa lw wc,Sl ba lb bc,U i6 sm,U i6 ss,U i6 um,U i6 us,U i6 z,U i6 p,U i6 lo,U i6 hi,U i6 h,U i6 w,U i6 c,U i6 H,U i6 V,U i6 C]) (t:=76)
 have S0:Hid (St W _ _):=s0
 clear hZ hB hX s ht hl hTL hbi hp s0
 go_enter Tryz.func75,Tryz.ntmps75
 go_wp2_with (refine wpList_load_row rfl 76 (.tmp 4) rfl W.heap.size rfl 76 _ (0,0) _ S0.out.h1 Tryz.underlying76 rfl (by kernel_rfl) ?_)
 refine Calls.mono (HBi.out _ S0.out.below) ?_
 rintro e w1 ⟨rfl,hb1⟩
 have S1:Hid (St W w1 _):=S0.out.call hb1
 clear hb1 S0 HBi
 go_wp2_with (refine wpList_load_row rfl 76 (.tmp 4) rfl W.heap.size rfl 76 _ (0,0) _ S1.out.h1 Tryz.underlying76 rfl (by kernel_rfl) ?_)
 refine Calls.mono (HTe.out _ S1.out.below) ?_
 rintro e w2 ⟨⟨v,rfl,hO⟩,hb2⟩
 have S2:Hid (St W w2 _):=S1.out.call hb2
 obtain⟨va,vc,hve,v1,v2,v3⟩:=hO.tv
 subst hve
 unfold maxLen at v2
 obtain⟨N,hN⟩:∃ N,TL.length=N:=⟨_,rfl⟩
 rw [hN] at v1 v3 HLn ⊢
 have HNl:Hid (TL.length=N):=hN
 have HV:Hid (0<N→_):=v3
 clear hb2 hO S1 HTe v3 hN
 go_wp2
 go_loopw [9,20] (fun sm' i wr=>∃ y:Nat,y≤N∧i=U i6 y∧sm'=U i6 (bi+smV p xs (TL.take y))∧Below w2.heap.size w2 wr) (fun _ i _=>N-(intOf i).toNat)
 case atStart=>exact⟨0,Nat.zero_le _,rfl,by simp [smV],Below.refl _ _⟩
 case round =>
  obtain⟨y,hy,rfl,rfl,hb⟩:=hrel
  have SR:Hid (St W wr _):=S2.out.call hb
  by_cases hlt:y<N
  ·obtain⟨g,rfl,hc⟩:=HV.out (by omega)
   obtain⟨q1,q2⟩:=TV.at hc (show y<TL.length by rw [HNl.out];exact hlt)
   obtain⟨A1,A2,hA⟩:∃ A1 A2,TL.getD y (0,0)=(A1,A2):=⟨_,_,rfl⟩
   rw [hA] at q1 q2
   simp only at q1 q2
   have hmem:(A1,A2)∈TL:=by
    rw [← hA,List.getD_eq_getElem?_getD,List.getElem?_eq_getElem (by rw [HNl.out];exact hlt)]
    exact List.getElem_mem _
   obtain⟨hw1,hat2⟩:=HT.out _ hmem
   have hS:=smV_take (p:=p) (x:=xs) (show y<TL.length by rw [HNl.out];exact hlt) hA
   have b1:=smV_bd HP8.out HX8.out (TL.take y) (take_mem (fun t ht=>(HT.out t ht).1) y)
   have b2:=smT_bd HP8.out HX8.out (t:=(A1,A2)) hw1
   have hty:(TL.take y).length≤512:=by rw [List.length_take];have:=HLn.out;omega
   have p1:=(hb.cell (World.block_lt_of_cell? w2 _ q1)).trans q1
   have p2':=(hb.cell (World.block_lt_of_cell? w2 _ q2)).trans q2
   have HC:Hid (∀ (w':World),Below W.heap.size W w'→_):=fun w' hb=>HVa.out w' hb A1 A2 hw1 hat2
   obtain⟨sv,hsv⟩:∃ sv,smV p xs (TL.take y)=sv:=⟨_,rfl⟩
   obtain⟨tv,htv⟩:∃ tv,smT p xs (A1,A2)=tv:=⟨_,rfl⟩
   rw [hsv] at b1 hS ⊢
   rw [htv] at b2 hS HC
   have b1':-2147483648≤sv∧sv≤2147483648:=by omega
   have HS:Hid (smV p xs (TL.take (y+1))=sv+tv):=hS
   have hbox:=heap_alloc_old wr (.cells #[U i6 A1,U i6 A2] 82) (lt_of_heap SR.out.h1)
   rw [SR.out.h1] at hbox
   have Hbox:Hid ((wr.alloc (.cells #[U i6 A1,U i6 A2] 82)).heap[W.heap.size]? = some (.cells #[U i6 k,U i6 a,U i6 b,U i6 m,U i6 kh,U i6 kw,U i6 sh,U i6 sw,U i6 tp,U i6 lf,U i6 bt,U i6 rt,Sl wa lw wc,Sl ba lb bc,U i6 sm,U i6 ss,U i6 um,U i6 us,U i6 z,U i6 p,U i6 lo,U i6 hi,U i6 h,U i6 w,U i6 c,U i6 H,U i6 V,U i6 C] 76 (0,0))):=hbox
   clear hS b1 q1 q2 hsv hmem hc hA HV htv hbox hw1 hat2
   go_wp2_with (refine wpList_load_row rfl 76 (.tmp 4) rfl W.heap.size rfl 76 _ (0,0) _ Hbox.out Tryz.underlying76 rfl (by kernel_rfl) ?_)
   refine Calls.mono (HC.out _ (btr SR.out.below (bal _ _))) ?_
   rintro e w5 ⟨rfl,hb5⟩
   have Hb5:Hid (Below w2.heap.size w2 w5):=btr hb (btr (bal _ _) hb5)
   clear hb5 hb p1 p2' SR Hbox HC
   go_wp2
   go_roundw
   case rel=>exact⟨y+1,by omega,by go_num,by rw [HS.out,Int.add_assoc],Hb5.out⟩
   case measure=>simp [intOf];omega
  ·obtain rfl:y=N:=by omega
   have e:Hid (bi+smV p xs (TL.take y)=bi+smV p xs TL):=by unfold Hid;rw [← HNl.out,List.take_length]
   clear HV
   go_wp2
   go_ret
   exact⟨ret1 e.out,SR.out.below⟩
theorem rsums_any (k a b m kh kw sh sw tp lf bt rt:Int) (wa:Option Addr) (lw wc:Nat) (ba:Option Addr) (lb bc:Nat) (sm ss um us z p lo hi h w c H V C:Int) (W:World) (s:Sit k kh kw sh sw tp lf bt rt h w c H V C lw lb) (zs bs:List Int) (hZ:IRow .i16 W wa lw wc zs) (hB:IRow .i32 W ba lb bc bs) (ad:Option Addr) (n cap:Nat) (xs:List Int) (hX:IRow .i8 W ad n cap xs) (hn:(n:Int)=h*w*c) (hp:I8 p) :
  Calls Tryz.prog 45 #[.agg #[U i6 k,U i6 a,U i6 b,U i6 m,U i6 kh,U i6 kw,U i6 sh,U i6 sw,U i6 tp,U i6 lf,U i6 bt,U i6 rt,Sl wa lw wc,Sl ba lb bc,U i6 sm,U i6 ss,U i6 um,U i6 us,U i6 z,U i6 p,U i6 lo,U i6 hi,U i6 h,U i6 w,U i6 c,U i6 H,U i6 V,U i6 C],Sl ad n cap] W fun e w'=>(∃ v,e=.returned v∧Own .i64 2 w' W.heap.size v (suL k kh kw sh sw tp lf bt rt h w c C p zs bs xs (H*V*C).toNat))∧Below W.heap.size W w':=by
 have HPo:Hid (∀ W',Calls Tryz.prog 23 #[.agg #[U i6 k,U i6 a,U i6 b,U i6 m,U i6 kh,U i6 kw,U i6 sh,U i6 sw,U i6 tp,U i6 lf,U i6 bt,U i6 rt,Sl wa lw wc,Sl ba lb bc,U i6 sm,U i6 ss,U i6 um,U i6 us,U i6 z,U i6 p,U i6 lo,U i6 hi,U i6 h,U i6 w,U i6 c,U i6 H,U i6 V,U i6 C]] W' fun e w'=>e=.returned (U i6 (H*V))∧Below W'.heap.size W' w'):=fun W'=>rpos_any k a b m kh kw sh sw tp lf bt rt wa lw wc ba lb bc sm ss um us z p lo hi h w c H V C W' s.2.2.1
 have HSm:Hid (∀ (w':World),Below W.heap.size W w'→∀ (ch at':Int),(1≤ch∧ch≤C)→(0≤at'∧at'<H*V)→Calls Tryz.prog 75 #[.agg #[U i6 k,U i6 a,U i6 b,U i6 m,U i6 kh,U i6 kw,U i6 sh,U i6 sw,U i6 tp,U i6 lf,U i6 bt,U i6 rt,Sl wa lw wc,Sl ba lb bc,U i6 sm,U i6 ss,U i6 um,U i6 us,U i6 z,U i6 p,U i6 lo,U i6 hi,U i6 h,U i6 w,U i6 c,U i6 H,U i6 V,U i6 C],U i6 ch,U i6 at',Sl ad n cap] w' fun e w''=>e=.returned (U i6 (suA k kh kw sh sw tp lf bt rt h w c p zs bs xs ch at'))∧Below w'.heap.size w' w'') :=
  fun w' hb ch at' hch hat=>rsum_any k a b m kh kw sh sw tp lf bt rt wa lw wc ba lb bc sm ss um us z p lo hi h w c H V C w' s zs bs (hZ.below hb) (hB.below hb) ad n cap xs (hX.below hb) hn hp ch at' hch hat
 have HSb:Hid (∀ ch at':Int,(1≤ch∧ch≤C)→-4294967296≤suA k kh kw sh sw tp lf bt rt h w c p zs bs xs ch at'∧suA k kh kw sh sw tp lf bt rt h w c p zs bs xs ch at'≤4294967296):=fun ch at' hch=>suA_bd s hZ.2.2.2.1 hB.2.2.2.1 hp hX.i8 hch at'
 obtain⟨hH,hV,hC,-⟩:=vS_yes s.2.2.1
 have p3:=vS_bd s.2.2.1
 clear hZ hB hX hn s hp
 obtain⟨CN,rfl⟩:∃ CN:Nat,C=(CN:Int):=⟨C.toNat,by omega⟩
 obtain⟨P,hP⟩:∃ P:Nat,H*V=(P:Int):=⟨(H*V).toNat,by omega⟩
 rw [hP] at HPo HSm p3 ⊢
 obtain⟨N,hN⟩:∃ N:Nat,(P:Int)*(CN:Int)=(N:Int):=⟨P*CN,by rw [Int.natCast_mul]⟩
 have HNN:Hid (P*CN=N):=by
  have:((P*CN:Nat):Int)=(N:Int):=by rw [Int.natCast_mul];exact hN
  unfold Hid;omega
 rw [hN] at p3 ⊢
 rw [Int.toNat_natCast]
 clear hN
 have s0:=(St.start W).new (c:=#[U i6 k,U i6 a,U i6 b,U i6 m,U i6 kh,U i6 kw,U i6 sh,U i6 sw,U i6 tp,U i6 lf,U i6 bt,U i6 rt,Sl wa lw wc,Sl ba lb bc,U i6 sm,U i6 ss,U i6 um,U i6 us,U i6 z,U i6 p,U i6 lo,U i6 hi,U i6 h,U i6 w,U i6 c,U i6 H,U i6 V,U i6 (CN:Int)]) (t:=76)
 have S0:Hid (St W _ [(W.heap.size,#[U i6 k,U i6 a,U i6 b,U i6 m,U i6 kh,U i6 kw,U i6 sh,U i6 sw,U i6 tp,U i6 lf,U i6 bt,U i6 rt,Sl wa lw wc,Sl ba lb bc,U i6 sm,U i6 ss,U i6 um,U i6 us,U i6 z,U i6 p,U i6 lo,U i6 hi,U i6 h,U i6 w,U i6 c,U i6 H,U i6 V,U i6 (CN:Int)],76)]):=s0
 clear s0
 go_enter Tryz.func45,Tryz.ntmps45
 go_wp2_with fail
 have Ho0:Hid (Own .i64 2 (W.alloc (.cells #[U i6 k,U i6 a,U i6 b,U i6 m,U i6 kh,U i6 kw,U i6 sh,U i6 sw,U i6 tp,U i6 lf,U i6 bt,U i6 rt,Sl wa lw wc,Sl ba lb bc,U i6 sm,U i6 ss,U i6 um,U i6 us,U i6 z,U i6 p,U i6 lo,U i6 hi,U i6 h,U i6 w,U i6 c,U i6 H,U i6 V,U i6 (CN:Int)] 76)) W.heap.size (.slice none 0 0) []):=own_none _ _ _ _
 go_loopw [5,6] (fun v i wr=>∃ (y:Nat) (v1:Value),v1=v∧y≤P∧i=U i6 y∧Own .i64 2 wr W.heap.size v (suL k kh kw sh sw tp lf bt rt h w c CN p zs bs xs (y*CN))∧St W wr [(W.heap.size,#[U i6 k,U i6 a,U i6 b,U i6 m,U i6 kh,U i6 kw,U i6 sh,U i6 sw,U i6 tp,U i6 lf,U i6 bt,U i6 rt,Sl wa lw wc,Sl ba lb bc,U i6 sm,U i6 ss,U i6 um,U i6 us,U i6 z,U i6 p,U i6 lo,U i6 hi,U i6 h,U i6 w,U i6 c,U i6 H,U i6 V,U i6 (CN:Int)],76)]) (fun _ i _=>P-(intOf i).toNat)
 case atStart=>exact⟨0,_,rfl,Nat.zero_le _,rfl,by simpa [suL] using Ho0.out,S0.out⟩
 case round =>
  obtain⟨y,v1,rfl,hy,rfl,hO,sr⟩:=hrel
  clear S0 Ho0
  have HO:Hid (Own .i64 2 wr W.heap.size v1 (suL k kh kw sh sw tp lf bt rt h w c CN p zs bs xs (y*CN))):=hO
  have SR:Hid (St W wr [(W.heap.size,#[U i6 k,U i6 a,U i6 b,U i6 m,U i6 kh,U i6 kw,U i6 sh,U i6 sw,U i6 tp,U i6 lf,U i6 bt,U i6 rt,Sl wa lw wc,Sl ba lb bc,U i6 sm,U i6 ss,U i6 um,U i6 us,U i6 z,U i6 p,U i6 lo,U i6 hi,U i6 h,U i6 w,U i6 c,U i6 H,U i6 V,U i6 (CN:Int)],76)]):=sr
  clear hO sr
  go_wp2_with (refine wpList_load_row rfl 76 (.tmp 2) rfl W.heap.size rfl 76 _ (0,0) _ SR.out.h1 Tryz.underlying76 rfl (by kernel_rfl) ?_)
  refine Calls.mono (HPo.out _) ?_
  rintro e w1 ⟨rfl,hb1⟩
  have S1:Hid (St W w1 [(W.heap.size,#[U i6 k,U i6 a,U i6 b,U i6 m,U i6 kh,U i6 kw,U i6 sh,U i6 sw,U i6 tp,U i6 lf,U i6 bt,U i6 rt,Sl wa lw wc,Sl ba lb bc,U i6 sm,U i6 ss,U i6 um,U i6 us,U i6 z,U i6 p,U i6 lo,U i6 hi,U i6 h,U i6 w,U i6 c,U i6 H,U i6 V,U i6 (CN:Int)],76)]):=SR.out.call hb1
  have O1:Hid (Own .i64 2 w1 W.heap.size v1 (suL k kh kw sh sw tp lf bt rt h w c CN p zs bs xs (y*CN))):=HO.out.below hb1
  clear hb1 SR HO
  by_cases hlt:y<P
  ·go_wp2
   go_loopw [5,7] (fun v i wr=>∃ (d:Nat) (v2:Value),v2=v∧d≤CN∧i=U i6 ((d:Int)+1)∧Own .i64 2 wr W.heap.size v (suL k kh kw sh sw tp lf bt rt h w c CN p zs bs xs (y*CN+d))∧St W wr [(W.heap.size,#[U i6 k,U i6 a,U i6 b,U i6 m,U i6 kh,U i6 kw,U i6 sh,U i6 sw,U i6 tp,U i6 lf,U i6 bt,U i6 rt,Sl wa lw wc,Sl ba lb bc,U i6 sm,U i6 ss,U i6 um,U i6 us,U i6 z,U i6 p,U i6 lo,U i6 hi,U i6 h,U i6 w,U i6 c,U i6 H,U i6 V,U i6 (CN:Int)],76)]) (fun _ i _=>CN+1-(intOf i).toNat)
   case atStart=>exact⟨0,_,rfl,Nat.zero_le _,rfl,O1.out,S1.out⟩
   case round =>
    obtain⟨d,v2,rfl,hd,rfl,hO,sr⟩:=hrel
    clear O1 S1
    have HO:Hid (Own .i64 2 wr W.heap.size v2 (suL k kh kw sh sw tp lf bt rt h w c CN p zs bs xs (y*CN+d))):=hO
    have SR:Hid (St W wr [(W.heap.size,#[U i6 k,U i6 a,U i6 b,U i6 m,U i6 kh,U i6 kw,U i6 sh,U i6 sw,U i6 tp,U i6 lf,U i6 bt,U i6 rt,Sl wa lw wc,Sl ba lb bc,U i6 sm,U i6 ss,U i6 um,U i6 us,U i6 z,U i6 p,U i6 lo,U i6 hi,U i6 h,U i6 w,U i6 c,U i6 H,U i6 V,U i6 (CN:Int)],76)]):=sr
    obtain⟨c2,f2,z6,-⟩:=sr.rules
    clear hO sr
    by_cases hltd:d<CN
    ·have hch:1≤(d:Int)+1∧(d:Int)+1≤(CN:Int):=by omega
     have HS:=suL_succ k kh kw sh sw tp lf bt rt h w c (CN:Int) p zs bs xs (y*CN+d)
     obtain⟨e1,e2⟩:=divmod_at (C:=(CN:Int)) (q:=y) (d:=d) (by omega)
     rw [Int.natCast_add,Int.natCast_mul,e1,e2] at HS
     obtain⟨b1,b2⟩:=HSb.out ((d:Int)+1) (y:Int) hch
     have HC1:Hid (∀ (w':World),Below W.heap.size W w'→_):=fun w' hb=>HSm.out w' hb ((d:Int)+1) y hch ⟨by omega,by omega⟩
     obtain⟨sv,hsv⟩:∃ sv,suA k kh kw sh sw tp lf bt rt h w c p zs bs xs ((d:Int)+1) (y:Int)=sv:=⟨_,rfl⟩
     rw [hsv] at HC1 HS b1 b2
     have HSS:Hid (suL k kh kw sh sw tp lf bt rt h w c CN p zs bs xs (y*CN+d+1)=suL k kh kw sh sw tp lf bt rt h w c CN p zs bs xs (y*CN+d)++[sv]):=HS
     have HLn:Hid (y*CN+d≤16384):=by
      unfold Hid
      have q1:(y+1)*CN≤P*CN:=Nat.mul_le_mul_right _ hlt
      rw [HNN.out,Nat.add_mul] at q1
      omega
     clear HS e1 e2 hsv
     obtain⟨D,hD⟩:∃ D:Int,(d:Int)+1=D:=⟨_,rfl⟩
     rw [hD] at HC1 hch ⊢
     have HD:Hid ((d:Int)+1=D):=hD
     clear hD
     go_wp2_with (refine wpList_load_row rfl 76 (.tmp 2) rfl W.heap.size rfl 76 _ (0,0) _ SR.out.h1 Tryz.underlying76 rfl (by kernel_rfl) ?_)
     refine Calls.mono (HC1.out _ SR.out.below) ?_
     rintro e w6 ⟨rfl,hb6⟩
     have S6:Hid (St W w6 [(W.heap.size,#[U i6 k,U i6 a,U i6 b,U i6 m,U i6 kh,U i6 kw,U i6 sh,U i6 sw,U i6 tp,U i6 lf,U i6 bt,U i6 rt,Sl wa lw wc,Sl ba lb bc,U i6 sm,U i6 ss,U i6 um,U i6 us,U i6 z,U i6 p,U i6 lo,U i6 hi,U i6 h,U i6 w,U i6 c,U i6 H,U i6 V,U i6 (CN:Int)],76)]):=SR.out.call hb6
     have O6:Hid (Own .i64 2 w6 W.heap.size v2 (suL k kh kw sh sw tp lf bt rt h w c CN p zs bs xs (y*CN+d))):=HO.out.below hb6
     clear hb6 HC1 HO SR c2 f2
     go_wp2_with (at_builtin;refine wpList_app kt_i64 rfl (.tmp 21) (.tmp 27) rfl W.heap.size v2 (suL k kh kw sh sw tp lf bt rt h w c CN p zs bs xs (y*CN+d)) [sv] rfl (O6.out.alloc _) _ _ _ rfl (row_one .i64 2 w6 sv (mk_i64 (by omega))) (by rw [suL_len];have:=HLn.out;simp;omega) (by have:=S6.out.size;simp;omega) ?_;intro v7 w7 own7 gr7 nn7;have S7:Hid (St W w7 [(W.heap.size,#[U i6 k,U i6 a,U i6 b,U i6 m,U i6 kh,U i6 kw,U i6 sh,U i6 sw,U i6 tp,U i6 lf,U i6 bt,U i6 rt,Sl wa lw wc,Sl ba lb bc,U i6 sm,U i6 ss,U i6 um,U i6 us,U i6 z,U i6 p,U i6 lo,U i6 hi,U i6 h,U i6 w,U i6 c,U i6 H,U i6 V,U i6 (CN:Int)],76)]):=(S6.out.skip (.cells #[U i6 sv] 2)).grow (O6.out.alloc _) gr7 (Nat.le_refl _) (by simp);have O7:Hid (Own .i64 2 w7 W.heap.size v7 (suL k kh kw sh sw tp lf bt rt h w c CN p zs bs xs (y*CN+d+1))):=(by rw [HSS.out];exact own7);clear own7 gr7 nn7 S6 O6)
     go_roundw
     case rel=>exact⟨d+1,_,rfl,by omega,by rw [← HD.out];go_num,O7.out,S7.out⟩
     case measure=>have:=HD.out;simp [intOf];omega
    ·obtain rfl:d=CN:=by omega
     have Ho2:Hid (Own .i64 2 wr W.heap.size v2 (suL k kh kw sh sw tp lf bt rt h w c d p zs bs xs ((y+1)*d))):=by
      have e:(y+1)*d=y*d+d:=by rw [Nat.add_mul,Nat.one_mul]
      unfold Hid
      rw [e];exact HO.out
     clear HO
     go_wp2
     go_roundw
     case rel=>exact⟨y+1,_,rfl,by omega,by go_num,Ho2.out,SR.out⟩
     case measure=>simp [intOf];omega
  ·obtain rfl:y=P:=by omega
   have HO2:Hid (Own .i64 2 w1 W.heap.size v1 (suL k kh kw sh sw tp lf bt rt h w c CN p zs bs xs N)):=by rw [← HNN.out];exact O1.out
   go_wp2
   go_ret
   exact⟨⟨_,rfl,HO2.out⟩,S1.out.below⟩
theorem stepO {k:IntKind} {T S:TypeId} {by8:Nat} (kt:KT k T S by8) {ops:Array Oper} {md:Region.Mode} {C:World→Prop} {Q:Exit→Act→World→Prop} (i:Nat) {o:Oper} {fuel:Nat} {listed:Array Bool} {a:Act} {w:World} (hC:C w) (hr:Region.ready md ops listed=[i]) (ho:ops[i]? = some o) (hg:o.guard=none)
  (s x:Operand) (hop:o.op=.call { callee:=.builtin .append,args:=#[s,x],argTypes:=#[S,S] })
  (base:Nat) (v:Value) (xs ys:List Int) (hs:a.eval s=v) (hown:Own k T w base v xs) (ad:Addr) (m c:Nat) (hx:a.eval x=.slice (some ad) m c) (hy:IRow k w (some ad) m c ys) (hlen:xs.length+ys.length≤10000000) (hbase:base≤w.heap.size)
  (h:∀ v' w',Own k T w' base v' (xs++ys)→w.grownBy w' v.ownBlock→wpAnyC Fence.wide 3 Tryz.prog md ops C Q fuel (listed.setIfInBounds i true) (a.put o.dst v') w'):wpAnyC Fence.wide 3 Tryz.prog md ops C Q (fuel+1) listed a w :=
 stepW i hC hr ho hg fun K hK=>by
  have:=step_ap kt (ops:=#[]) (K:=K) (Q:=Q) (E:=False) hg s x hop base v xs ys hs hown ad m c hx hy hlen hbase fun v' w' h1 h2=>hK _ _ (h v' w' h1 h2)
  rwa [if_pos (by simp [Region.wanted,hg])] at this
theorem map_take_succ {xs:List Int} {f:Int→Int} {y:Nat} {u:Int} (h:xs[y]? = some u):(xs.take (y+1)).map f=(xs.take y).map f++[f u]:=by
 rw [List.take_add_one,h,List.map_append];rfl
theorem make_s (k a b m kh kw sh sw tp lf bt rt:Int) (wa:Option Addr) (lw wc:Nat) (ba:Option Addr) (lb bc:Nat) (sm ss um us z p lo hi h w c H V C:Int) (W:World) (s:Sit k kh kw sh sw tp lf bt rt h w c H V C lw lb) (ad:Option Addr) (n cap:Nat) (bd:Option Addr) (nb capb:Nat) (SS:List Int) (hl:SS.length≤16384) (hbd:∀ v∈SS,-4294967296≤v∧v≤4294967296)
  (hS:Hid (∀ (w':World),Below W.heap.size W w'→Calls Tryz.prog 45 #[.agg #[U i6 k,U i6 a,U i6 b,U i6 m,U i6 kh,U i6 kw,U i6 sh,U i6 sw,U i6 tp,U i6 lf,U i6 bt,U i6 rt,Sl wa lw wc,Sl ba lb bc,U i6 sm,U i6 ss,U i6 um,U i6 us,U i6 z,U i6 p,U i6 lo,U i6 hi,U i6 h,U i6 w,U i6 c,U i6 H,U i6 V,U i6 C],Sl ad n cap] w' fun e w''=>(∃ v,e=.returned v∧Own .i64 2 w'' w'.heap.size v SS)∧Below w'.heap.size w' w'')) :
  Calls Tryz.prog 22 #[.agg #[U i6 k,U i6 a,U i6 b,U i6 m,U i6 kh,U i6 kw,U i6 sh,U i6 sw,U i6 tp,U i6 lf,U i6 bt,U i6 rt,Sl wa lw wc,Sl ba lb bc,U i6 sm,U i6 ss,U i6 um,U i6 us,U i6 z,U i6 p,U i6 lo,U i6 hi],.agg #[U i6 h,U i6 w,U i6 c],.agg #[U i6 H,U i6 V,U i6 C],Sl ad n cap,Sl bd nb capb] W fun e w'=>(∃ v,e=.returned v∧Own .i8 72 w' W.heap.size v (SS.map fun t=>hoV k sm ss z lo hi t (stR k kh kw h w c)))∧Below W.heap.size W w':=by
 have hk:=s.1
 have HLe:Hid (∀ W',Calls Tryz.prog 28 #[.agg #[U i6 k,U i6 a,U i6 b,U i6 m,U i6 kh,U i6 kw,U i6 sh,U i6 sw,U i6 tp,U i6 lf,U i6 bt,U i6 rt,Sl wa lw wc,Sl ba lb bc,U i6 sm,U i6 ss,U i6 um,U i6 us,U i6 z,U i6 p,U i6 lo,U i6 hi,U i6 h,U i6 w,U i6 c,U i6 H,U i6 V,U i6 C]] W' fun e w'=>e=.returned (U i6 (stR k kh kw h w c))∧Below W'.heap.size W' w'):=fun W'=>rlen_any k a b m kh kw sh sw tp lf bt rt wa lw wc ba lb bc sm ss um us z p lo hi h w c H V C W' s
 have hst:1≤stR k kh kw h w c∧stR k kh kw h w c≤512:=⟨s.2.2.2.2.2.2.2.2.1,s.2.2.2.2.2.2.2.2.2⟩
 obtain⟨st,hste⟩:∃ st,stR k kh kw h w c=st:=⟨_,rfl⟩
 rw [hste] at HLe hst ⊢
 have HHo:Hid (∀ (W':World) (t:Int),t∈SS→Calls Tryz.prog 27 #[.agg #[U i6 k,U i6 a,U i6 b,U i6 m,U i6 kh,U i6 kw,U i6 sh,U i6 sw,U i6 tp,U i6 lf,U i6 bt,U i6 rt,Sl wa lw wc,Sl ba lb bc,U i6 sm,U i6 ss,U i6 um,U i6 us,U i6 z,U i6 p,U i6 lo,U i6 hi],U i6 t,U i6 st] W' fun e w'=>e=.returned (.int .i8 (hoV k sm ss z lo hi t st))∧Below W'.heap.size W' w'):=fun W' t ht=>home_any k a b m kh kw sh sw tp lf bt rt wa lw wc ba lb bc sm ss um us z p lo hi t st W' (by have:=hbd t ht;unfold I64;omega) (by unfold I64;omega)
 have H8:Hid (∀ t,I8 (hoV k sm ss z lo hi t st)):=fun t=>by unfold hoV; split<;>exact fiV_i8
 have hrd:rdB k=true:=decide_eq_true hk
 obtain⟨N,hN⟩:∃ N,SS.length=N:=⟨_,rfl⟩
 rw [hN] at hl
 have HN:Hid (SS.length=N):=hN
 have HF:Hid (∀ y u,SS[y]? = some u→(SS.take (y+1)).map (fun t=>hoV k sm ss z lo hi t st)=(SS.take y).map (fun t=>hoV k sm ss z lo hi t st)++[hoV k sm ss z lo hi u st]):=fun y u h=>map_take_succ h
 have s0:=(((St.start W).new (c:=#[U i6 k,U i6 a,U i6 b,U i6 m,U i6 kh,U i6 kw,U i6 sh,U i6 sw,U i6 tp,U i6 lf,U i6 bt,U i6 rt,Sl wa lw wc,Sl ba lb bc,U i6 sm,U i6 ss,U i6 um,U i6 us,U i6 z,U i6 p,U i6 lo,U i6 hi]) (t:=55)).new (c:=#[U i6 h,U i6 w,U i6 c]) (t:=23)).new (c:=#[U i6 H,U i6 V,U i6 C]) (t:=23)
 simp only [World.size_alloc] at s0
 have S0:Hid (St W _ [(W.heap.size+1+1,#[U i6 H,U i6 V,U i6 C],23),(W.heap.size+1,#[U i6 h,U i6 w,U i6 c],23),(W.heap.size,#[U i6 k,U i6 a,U i6 b,U i6 m,U i6 kh,U i6 kw,U i6 sh,U i6 sw,U i6 tp,U i6 lf,U i6 bt,U i6 rt,Sl wa lw wc,Sl ba lb bc,U i6 sm,U i6 ss,U i6 um,U i6 us,U i6 z,U i6 p,U i6 lo,U i6 hi],55)]):=s0
 clear s hste hbd s0 hN
 go_enter Tryz.func22,Tryz.ntmps22
 go_wp2_with fail
 refine (rred_any _ _).mono ?_
 rintro e w1 ⟨rfl,hw1⟩
 have hw1':=hw1.symm
 subst hw1'
 clear hw1
 rw [hrd]
 go_upto_region 3 with fail
 obtain⟨w1,hw1⟩:∃ w1,((W.alloc (.cells #[U i6 k,U i6 a,U i6 b,U i6 m,U i6 kh,U i6 kw,U i6 sh,U i6 sw,U i6 tp,U i6 lf,U i6 bt,U i6 rt,Sl wa lw wc,Sl ba lb bc,U i6 sm,U i6 ss,U i6 um,U i6 us,U i6 z,U i6 p,U i6 lo,U i6 hi] 55)).alloc (.cells #[U i6 h,U i6 w,U i6 c] 23)).alloc (.cells #[U i6 H,U i6 V,U i6 C] 23)=w1:=⟨_,rfl⟩
 rw [hw1] at S0 ⊢
 clear hw1
 obtain⟨vr,hvr⟩:∃ vr,Value.agg #[U i6 k,U i6 a,U i6 b,U i6 m,U i6 kh,U i6 kw,U i6 sh,U i6 sw,U i6 tp,U i6 lf,U i6 bt,U i6 rt,Sl wa lw wc,Sl ba lb bc,U i6 sm,U i6 ss,U i6 um,U i6 us,U i6 z,U i6 p,U i6 lo,U i6 hi,U i6 h,U i6 w,U i6 c,U i6 H,U i6 V,U i6 C]=vr:=⟨_,rfl⟩
 have HVR:Hid (Value.agg #[U i6 k,U i6 a,U i6 b,U i6 m,U i6 kh,U i6 kw,U i6 sh,U i6 sw,U i6 tp,U i6 lf,U i6 bt,U i6 rt,Sl wa lw wc,Sl ba lb bc,U i6 sm,U i6 ss,U i6 um,U i6 us,U i6 z,U i6 p,U i6 lo,U i6 hi,U i6 h,U i6 w,U i6 c,U i6 H,U i6 V,U i6 C]=vr):=hvr
 have s1:=S0.out.new (c:=#[U i6 k,U i6 a,U i6 b,U i6 m,U i6 kh,U i6 kw,U i6 sh,U i6 sw,U i6 tp,U i6 lf,U i6 bt,U i6 rt,Sl wa lw wc,Sl ba lb bc,U i6 sm,U i6 ss,U i6 um,U i6 us,U i6 z,U i6 p,U i6 lo,U i6 hi,U i6 h,U i6 w,U i6 c,U i6 H,U i6 V,U i6 C]) (t:=76)
 obtain⟨c1,f1,z1,c2,f2,z2,-⟩:=S0.out.rules
 go_upto_region 4 with (first
  | (refine wpList_load_row rfl 55 (.tmp 5) rfl W.heap.size rfl 55 _ (0,0) _ S0.out.h3 Tryz.underlying55 rfl (by kernel_rfl) ?_)
  | (refine wpList_run1 rfl (some 12) rfl (.pointer (some ⟨w1.heap.size,0,none⟩)) (w1.alloc (.cells #[U i6 0,U i6 0,U i6 0,U i6 0,U i6 0,U i6 0,U i6 0,U i6 0,U i6 0,U i6 0,U i6 0,U i6 0,Sl none 0 0,Sl none 0 0,U i6 0,U i6 0,U i6 0,U i6 0,U i6 0,U i6 0,U i6 0,U i6 0,U i6 0,U i6 0,U i6 0,U i6 0,U i6 0,U i6 0] 76)) (by kernel_rfl) ?_;refine wpList_st_new rfl 76 (.tmp 12) (.tmp 22) rfl w1 #[U i6 0,U i6 0,U i6 0,U i6 0,U i6 0,U i6 0,U i6 0,U i6 0,U i6 0,U i6 0,U i6 0,U i6 0,Sl none 0 0,Sl none 0 0,U i6 0,U i6 0,U i6 0,U i6 0,U i6 0,U i6 0,U i6 0,U i6 0,U i6 0,U i6 0,U i6 0,U i6 0,U i6 0,U i6 0] #[U i6 k,U i6 a,U i6 b,U i6 m,U i6 kh,U i6 kw,U i6 sh,U i6 sw,U i6 tp,U i6 lf,U i6 bt,U i6 rt,Sl wa lw wc,Sl ba lb bc,U i6 sm,U i6 ss,U i6 um,U i6 us,U i6 z,U i6 p,U i6 lo,U i6 hi,U i6 h,U i6 w,U i6 c,U i6 H,U i6 V,U i6 C] (by kernel_rfl) (Eq.trans (by kernel_rfl:_=vr) HVR.out.symm) (by kernel_rfl) rfl (by simp [Value.oneCell']) ?_))
 obtain⟨sb,hsb⟩:∃ sb,w1.heap.size=sb:=⟨_,rfl⟩
 obtain⟨w2,hw2⟩:∃ w2,w1.alloc (.cells #[U i6 k,U i6 a,U i6 b,U i6 m,U i6 kh,U i6 kw,U i6 sh,U i6 sw,U i6 tp,U i6 lf,U i6 bt,U i6 rt,Sl wa lw wc,Sl ba lb bc,U i6 sm,U i6 ss,U i6 um,U i6 us,U i6 z,U i6 p,U i6 lo,U i6 hi,U i6 h,U i6 w,U i6 c,U i6 H,U i6 V,U i6 C] 76)=w2:=⟨_,rfl⟩
 rw [hw2,hsb] at s1
 rw [hw2,hsb]
 have S2:Hid (St W w2 [(sb,#[U i6 k,U i6 a,U i6 b,U i6 m,U i6 kh,U i6 kw,U i6 sh,U i6 sw,U i6 tp,U i6 lf,U i6 bt,U i6 rt,Sl wa lw wc,Sl ba lb bc,U i6 sm,U i6 ss,U i6 um,U i6 us,U i6 z,U i6 p,U i6 lo,U i6 hi,U i6 h,U i6 w,U i6 c,U i6 H,U i6 V,U i6 C],76),(W.heap.size+1+1,#[U i6 H,U i6 V,U i6 C],23),(W.heap.size+1,#[U i6 h,U i6 w,U i6 c],23),(W.heap.size,#[U i6 k,U i6 a,U i6 b,U i6 m,U i6 kh,U i6 kw,U i6 sh,U i6 sw,U i6 tp,U i6 lf,U i6 bt,U i6 rt,Sl wa lw wc,Sl ba lb bc,U i6 sm,U i6 ss,U i6 um,U i6 us,U i6 z,U i6 p,U i6 lo,U i6 hi],55)]):=s1
 clear hw2 hsb s1 S0 c1 f1 z1 c2 f2 z2 hvr HVR
 go_wp2_with (refine wpList_load_row rfl 76 (.tmp 12) rfl sb rfl 76 _ (0,0) _ S2.out.h1 Tryz.underlying76 rfl (by kernel_rfl) ?_)
 refine Calls.mono (hS.out _ S2.out.below) ?_
 rintro e w3 ⟨⟨v,rfl,hO⟩,hb⟩
 have S3:Hid (St W w3 [(sb,#[U i6 k,U i6 a,U i6 b,U i6 m,U i6 kh,U i6 kw,U i6 sh,U i6 sw,U i6 tp,U i6 lf,U i6 bt,U i6 rt,Sl wa lw wc,Sl ba lb bc,U i6 sm,U i6 ss,U i6 um,U i6 us,U i6 z,U i6 p,U i6 lo,U i6 hi,U i6 h,U i6 w,U i6 c,U i6 H,U i6 V,U i6 C],76),(W.heap.size+1+1,#[U i6 H,U i6 V,U i6 C],23),(W.heap.size+1,#[U i6 h,U i6 w,U i6 c],23),(W.heap.size,#[U i6 k,U i6 a,U i6 b,U i6 m,U i6 kh,U i6 kw,U i6 sh,U i6 sw,U i6 tp,U i6 lf,U i6 bt,U i6 rt,Sl wa lw wc,Sl ba lb bc,U i6 sm,U i6 ss,U i6 um,U i6 us,U i6 z,U i6 p,U i6 lo,U i6 hi],55)]):=S2.out.call hb
 obtain⟨va,vc,rfl,hrow,-⟩:=hO.row
 rw [HN.out] at hO ⊢
 have HO3:Hid (Own .i64 2 w3 W.heap.size (.slice va N vc) SS):=hO.base S2.out.size
 have hv1:=hrow.2.1
 have hv2:=hrow.2.2.1
 rw [HN.out] at hv1
 unfold maxLen at hv2
 clear hb hO hrow S2 hS
 go_wp2
 have Ho0:Hid (Own .i8 72 w3 W.heap.size (.slice none 0 0) []):=own_none _ _ _ _
 go_loopw [11,27] (fun v i wr=>∃ (y:Nat) (v1:Value),v1=v∧y≤N∧i=U i6 y∧Own .i8 72 wr W.heap.size v ((SS.take y).map (fun t=>hoV k sm ss z lo hi t st))∧Own .i64 2 wr W.heap.size (.slice va N vc) SS∧St W wr [(sb,#[U i6 k,U i6 a,U i6 b,U i6 m,U i6 kh,U i6 kw,U i6 sh,U i6 sw,U i6 tp,U i6 lf,U i6 bt,U i6 rt,Sl wa lw wc,Sl ba lb bc,U i6 sm,U i6 ss,U i6 um,U i6 us,U i6 z,U i6 p,U i6 lo,U i6 hi,U i6 h,U i6 w,U i6 c,U i6 H,U i6 V,U i6 C],76),(W.heap.size+1+1,#[U i6 H,U i6 V,U i6 C],23),(W.heap.size+1,#[U i6 h,U i6 w,U i6 c],23),(W.heap.size,#[U i6 k,U i6 a,U i6 b,U i6 m,U i6 kh,U i6 kw,U i6 sh,U i6 sw,U i6 tp,U i6 lf,U i6 bt,U i6 rt,Sl wa lw wc,Sl ba lb bc,U i6 sm,U i6 ss,U i6 um,U i6 us,U i6 z,U i6 p,U i6 lo,U i6 hi],55)]) (fun _ i _=>N-(intOf i).toNat)
 case atStart=>exact⟨0,_,rfl,Nat.zero_le _,rfl,by simpa using Ho0.out,HO3.out,S3.out⟩
 case round =>
  obtain⟨y,v1,rfl,hy,rfl,hO,hQ,sr⟩:=hrel
  clear Ho0 HO3 S3
  have HO:Hid (Own .i8 72 wr W.heap.size v1 ((SS.take y).map (fun t=>hoV k sm ss z lo hi t st))):=hO
  have HQ:Hid (Own .i64 2 wr W.heap.size (.slice va N vc) SS):=hQ
  have SR:Hid (St W wr [(sb,#[U i6 k,U i6 a,U i6 b,U i6 m,U i6 kh,U i6 kw,U i6 sh,U i6 sw,U i6 tp,U i6 lf,U i6 bt,U i6 rt,Sl wa lw wc,Sl ba lb bc,U i6 sm,U i6 ss,U i6 um,U i6 us,U i6 z,U i6 p,U i6 lo,U i6 hi,U i6 h,U i6 w,U i6 c,U i6 H,U i6 V,U i6 C],76),(W.heap.size+1+1,#[U i6 H,U i6 V,U i6 C],23),(W.heap.size+1,#[U i6 h,U i6 w,U i6 c],23),(W.heap.size,#[U i6 k,U i6 a,U i6 b,U i6 m,U i6 kh,U i6 kw,U i6 sh,U i6 sw,U i6 tp,U i6 lf,U i6 bt,U i6 rt,Sl wa lw wc,Sl ba lb bc,U i6 sm,U i6 ss,U i6 um,U i6 us,U i6 z,U i6 p,U i6 lo,U i6 hi],55)]):=sr
  clear hO hQ sr
  by_cases hlt:y<N
  ·obtain⟨x,u,rfl,hu,-,hz,-⟩:=HQ.out.irow.at hlt
   have hmem:u∈SS:=List.mem_of_getElem? hz
   have HH:Hid (∀ W',_):=fun W'=>HHo.out W' u hmem
   have HFF:=HF.out y u hz
   have h8:=H8.out u
   obtain⟨F,hFe⟩:∃ F,hoV k sm ss z lo hi u st=F:=⟨_,rfl⟩
   rw [hFe] at HH HFF h8
   have HFS:Hid ((SS.take (y+1)).map (fun t=>hoV k sm ss z lo hi t st)=(SS.take y).map (fun t=>hoV k sm ss z lo hi t st)++[F]):=HFF
   have H8F:Hid (I8 F):=h8
   have hG1:=SR.out.h1
   have hG4:=SR.out.h4
   clear hz hmem hFe HFF h8
   go_wp2
   refine regionC (fun w'=>w'.heap[sb]? = some (.cells #[U i6 k,U i6 a,U i6 b,U i6 m,U i6 kh,U i6 kw,U i6 sh,U i6 sw,U i6 tp,U i6 lf,U i6 bt,U i6 rt,Sl wa lw wc,Sl ba lb bc,U i6 sm,U i6 ss,U i6 um,U i6 us,U i6 z,U i6 p,U i6 lo,U i6 hi,U i6 h,U i6 w,U i6 c,U i6 H,U i6 V,U i6 C] 76 (0,0))∧w'.heap[W.heap.size]? = some (.cells #[U i6 k,U i6 a,U i6 b,U i6 m,U i6 kh,U i6 kw,U i6 sh,U i6 sw,U i6 tp,U i6 lf,U i6 bt,U i6 rt,Sl wa lw wc,Sl ba lb bc,U i6 sm,U i6 ss,U i6 um,U i6 us,U i6 z,U i6 p,U i6 lo,U i6 hi] 55 (0,0))) (by kernel_rfl) ?_
   obtain⟨wd,hwd⟩:∃ wd,wr.drew=wd:=⟨_,rfl⟩
   have HC:Hid (∀ w',Below wr.heap.size wr w'→w'.heap[sb]? = some (.cells #[U i6 k,U i6 a,U i6 b,U i6 m,U i6 kh,U i6 kw,U i6 sh,U i6 sw,U i6 tp,U i6 lf,U i6 bt,U i6 rt,Sl wa lw wc,Sl ba lb bc,U i6 sm,U i6 ss,U i6 um,U i6 us,U i6 z,U i6 p,U i6 lo,U i6 hi,U i6 h,U i6 w,U i6 c,U i6 H,U i6 V,U i6 C] 76 (0,0))∧w'.heap[W.heap.size]? = some (.cells #[U i6 k,U i6 a,U i6 b,U i6 m,U i6 kh,U i6 kw,U i6 sh,U i6 sw,U i6 tp,U i6 lf,U i6 bt,U i6 rt,Sl wa lw wc,Sl ba lb bc,U i6 sm,U i6 ss,U i6 um,U i6 us,U i6 z,U i6 p,U i6 lo,U i6 hi] 55 (0,0))):=fun w' hb=>⟨(hb.block _ (lt_of_heap hG1)).trans hG1,(hb.block _ (lt_of_heap hG4)).trans hG4⟩
   have HD:Hid (Below wr.heap.size wr wd):=by unfold Hid;rw [← hwd];exact (Below.refl _ _).drew
   rw [hwd]
   clear hwd hG1 hG4 hu
   refine takeC 0 (v:=v1) rfl rfl (by kernel_rfl) (by kernel_rfl) (by kernel_rfl) (fun _ _ _ h=>h) (fun _=>rfl) rfl (fun w' hw'=>by go_simp) ?_
   refine takeC 1 (v:=.agg #[U i6 k,U i6 a,U i6 b,U i6 m,U i6 kh,U i6 kw,U i6 sh,U i6 sw,U i6 tp,U i6 lf,U i6 bt,U i6 rt,Sl wa lw wc,Sl ba lb bc,U i6 sm,U i6 ss,U i6 um,U i6 us,U i6 z,U i6 p,U i6 lo,U i6 hi]) rfl rfl (by kernel_rfl) (by kernel_rfl) (by kernel_rfl) (fun _ _ _ h=>h) (fun _=>rfl) rfl (fun w' hw'=>run_la 55 (.tmp 5) rfl ⟨W.heap.size,0,none⟩ (by kernel_rfl) [U i6 k,U i6 a,U i6 b,U i6 m,U i6 kh,U i6 kw,U i6 sh,U i6 sw,U i6 tp,U i6 lf,U i6 bt,U i6 rt,Sl wa lw wc,Sl ba lb bc,U i6 sm,U i6 ss,U i6 um,U i6 us,U i6 z,U i6 p,U i6 lo,U i6 hi] _ (lcells hw'.2 (fget [U i6 k,U i6 a,U i6 b,U i6 m,U i6 kh,U i6 kw,U i6 sh,U i6 sw,U i6 tp,U i6 lf,U i6 bt,U i6 rt,Sl wa lw wc,Sl ba lb bc,U i6 sm,U i6 ss,U i6 um,U i6 us,U i6 z,U i6 p,U i6 lo,U i6 hi] [])) Tryz.underlying55 rfl (by kernel_rfl)) ?_
   refine takeC 2 (v:=U i6 u) rfl rfl (by kernel_rfl) (by kernel_rfl) (by kernel_rfl) (fun _ _ _ h=>h) (fun _=>rfl) rfl (fun w' hw'=>by go_simp) ?_
   refine takeC 3 (v:=.agg #[U i6 k,U i6 a,U i6 b,U i6 m,U i6 kh,U i6 kw,U i6 sh,U i6 sw,U i6 tp,U i6 lf,U i6 bt,U i6 rt,Sl wa lw wc,Sl ba lb bc,U i6 sm,U i6 ss,U i6 um,U i6 us,U i6 z,U i6 p,U i6 lo,U i6 hi,U i6 h,U i6 w,U i6 c,U i6 H,U i6 V,U i6 C]) rfl rfl (by kernel_rfl) (by kernel_rfl) (by kernel_rfl) (fun _ _ _ h=>h) (fun _=>rfl) rfl (fun w' hw'=>run_la 76 (.tmp 12) rfl ⟨sb,0,none⟩ (by kernel_rfl) [U i6 k,U i6 a,U i6 b,U i6 m,U i6 kh,U i6 kw,U i6 sh,U i6 sw,U i6 tp,U i6 lf,U i6 bt,U i6 rt,Sl wa lw wc,Sl ba lb bc,U i6 sm,U i6 ss,U i6 um,U i6 us,U i6 z,U i6 p,U i6 lo,U i6 hi,U i6 h,U i6 w,U i6 c,U i6 H,U i6 V,U i6 C] _ (lcells hw'.1 (fget [U i6 k,U i6 a,U i6 b,U i6 m,U i6 kh,U i6 kw,U i6 sh,U i6 sw,U i6 tp,U i6 lf,U i6 bt,U i6 rt,Sl wa lw wc,Sl ba lb bc,U i6 sm,U i6 ss,U i6 um,U i6 us,U i6 z,U i6 p,U i6 lo,U i6 hi,U i6 h,U i6 w,U i6 c,U i6 H,U i6 V,U i6 C] [])) Tryz.underlying76 rfl (by kernel_rfl)) ?_
   refine stepK 4 (HC.out _ HD.out) (by kernel_rfl) rfl rfl 28 #[.agg #[U i6 k,U i6 a,U i6 b,U i6 m,U i6 kh,U i6 kw,U i6 sh,U i6 sw,U i6 tp,U i6 lf,U i6 bt,U i6 rt,Sl wa lw wc,Sl ba lb bc,U i6 sm,U i6 ss,U i6 um,U i6 us,U i6 z,U i6 p,U i6 lo,U i6 hi,U i6 h,U i6 w,U i6 c,U i6 H,U i6 V,U i6 C]] (by kernel_rfl) (HLe.out wd) ?_
   rintro e w4 ⟨rfl,hb4⟩
   have HB4:Hid (Below wr.heap.size wr w4):=btr HD.out hb4
   clear hb4
   refine⟨_,rfl,?_⟩
   refine stepK 5 (HC.out _ HB4.out) (by kernel_rfl) rfl rfl 27 #[.agg #[U i6 k,U i6 a,U i6 b,U i6 m,U i6 kh,U i6 kw,U i6 sh,U i6 sw,U i6 tp,U i6 lf,U i6 bt,U i6 rt,Sl wa lw wc,Sl ba lb bc,U i6 sm,U i6 ss,U i6 um,U i6 us,U i6 z,U i6 p,U i6 lo,U i6 hi],U i6 u,U i6 st] (by kernel_rfl) (HH.out w4) ?_
   rintro e w5 ⟨rfl,hb5⟩
   have HB5:Hid (Below wr.heap.size wr w5):=btr HB4.out hb5
   clear hb5
   refine⟨_,rfl,?_⟩
   refine stepR 6 (HC.out _ HB5.out) (by kernel_rfl) rfl rfl (.slice (some ⟨w5.heap.size,0,none⟩) 1 1) (w5.alloc (.cells #[.int .i8 F] 72)) (by kernel_rfl) ?_
   have HB6:Hid (Below wr.heap.size wr (w5.alloc (.cells #[.int .i8 F] 72))):=btr HB5.out (bal _ _)
   have hO6:Hid (Own .i8 72 (w5.alloc (.cells #[.int .i8 F] 72)) W.heap.size v1 ((SS.take y).map (fun t=>hoV k sm ss z lo hi t st))):=HO.out.below HB6.out
   have hQ6:Hid (Own .i64 2 (w5.alloc (.cells #[.int .i8 F] 72)) W.heap.size (.slice (some x) N vc) SS):=HQ.out.below HB6.out
   have hR6:Hid (IRow .i8 (w5.alloc (.cells #[.int .i8 F] 72)) (some ⟨w5.heap.size,0,none⟩) 1 1 [F]):=row_one .i8 72 w5 F (mk_i8 H8F.out)
   have S6:Hid (St W (w5.alloc (.cells #[.int .i8 F] 72)) [(sb,#[U i6 k,U i6 a,U i6 b,U i6 m,U i6 kh,U i6 kw,U i6 sh,U i6 sw,U i6 tp,U i6 lf,U i6 bt,U i6 rt,Sl wa lw wc,Sl ba lb bc,U i6 sm,U i6 ss,U i6 um,U i6 us,U i6 z,U i6 p,U i6 lo,U i6 hi,U i6 h,U i6 w,U i6 c,U i6 H,U i6 V,U i6 C],76),(W.heap.size+1+1,#[U i6 H,U i6 V,U i6 C],23),(W.heap.size+1,#[U i6 h,U i6 w,U i6 c],23),(W.heap.size,#[U i6 k,U i6 a,U i6 b,U i6 m,U i6 kh,U i6 kw,U i6 sh,U i6 sw,U i6 tp,U i6 lf,U i6 bt,U i6 rt,Sl wa lw wc,Sl ba lb bc,U i6 sm,U i6 ss,U i6 um,U i6 us,U i6 z,U i6 p,U i6 lo,U i6 hi],55)]):=SR.out.call HB6.out
   refine stepO kt_i8 7 (HC.out _ HB6.out) (by kernel_rfl) rfl rfl (.tmp 31) (.tmp 37) rfl W.heap.size v1 _ [F] (by kernel_rfl) hO6.out ⟨w5.heap.size,0,none⟩ 1 1 (by kernel_rfl) hR6.out (by simp;omega) S6.out.size ?_
   intro v7 w7 own7 gr7
   have S7:Hid (St W w7 [(sb,#[U i6 k,U i6 a,U i6 b,U i6 m,U i6 kh,U i6 kw,U i6 sh,U i6 sw,U i6 tp,U i6 lf,U i6 bt,U i6 rt,Sl wa lw wc,Sl ba lb bc,U i6 sm,U i6 ss,U i6 um,U i6 us,U i6 z,U i6 p,U i6 lo,U i6 hi,U i6 h,U i6 w,U i6 c,U i6 H,U i6 V,U i6 C],76),(W.heap.size+1+1,#[U i6 H,U i6 V,U i6 C],23),(W.heap.size+1,#[U i6 h,U i6 w,U i6 c],23),(W.heap.size,#[U i6 k,U i6 a,U i6 b,U i6 m,U i6 kh,U i6 kw,U i6 sh,U i6 sw,U i6 tp,U i6 lf,U i6 bt,U i6 rt,Sl wa lw wc,Sl ba lb bc,U i6 sm,U i6 ss,U i6 um,U i6 us,U i6 z,U i6 p,U i6 lo,U i6 hi],55)]):=S6.out.grow hO6.out gr7 (Nat.le_refl _) (by simp)
   have O7:Hid (Own .i8 72 w7 W.heap.size v7 ((SS.take (y+1)).map (fun t=>hoV k sm ss z lo hi t st))):=by rw [HFS.out];exact own7
   have Q7:Hid (Own .i64 2 w7 W.heap.size (.slice (some x) N vc) SS):=hQ6.out.grown gr7 (fun b hb c e=>by obtain⟨c',h'⟩:=own_heap hO6.out.1 hb;rw [h'] at e;simp at e)
   clear own7 gr7 HC
   refine stepR 8 ⟨S7.out.h1,S7.out.h4⟩ (by kernel_rfl) rfl rfl v7 w7 (by kernel_rfl) ?_
   refine doneC ⟨S7.out.h1,S7.out.h4⟩ (by kernel_rfl) ?_ _
   go_wp2
   go_roundw
   case rel=>exact⟨y+1,_,rfl,by omega,by go_num,O7.out,Q7.out,S7.out⟩
   case measure=>simp [intOf];omega
  ·obtain rfl:y=N:=by omega
   have HO2:Hid (Own .i8 72 wr W.heap.size v1 (SS.map (fun t=>hoV k sm ss z lo hi t st))):=by
    have:=HO.out
    rw [← HN.out,List.take_length] at this
    exact this
   go_wp2
   go_ret
   exact⟨⟨_,rfl,HO2.out⟩,SR.out.below⟩
theorem make_g (k a b m kh kw sh sw tp lf bt rt:Int) (wa:Option Addr) (lw wc:Nat) (ba:Option Addr) (lb bc:Nat) (sm ss um us z p lo hi h w c H V C:Int) (W:World) (hk:k=5) (ad:Option Addr) (n cap:Nat) (bd:Option Addr) (nb capb:Nat) (TS:List Int)
  (hG:Hid (∀ (w':World),Below W.heap.size W w'→Calls Tryz.prog 46 #[.agg #[U i6 k,U i6 a,U i6 b,U i6 m,U i6 kh,U i6 kw,U i6 sh,U i6 sw,U i6 tp,U i6 lf,U i6 bt,U i6 rt,Sl wa lw wc,Sl ba lb bc,U i6 sm,U i6 ss,U i6 um,U i6 us,U i6 z,U i6 p,U i6 lo,U i6 hi],.agg #[U i6 h,U i6 w,U i6 c],.agg #[U i6 H,U i6 V,U i6 C],Sl ad n cap] w' fun e w''=>(∃ v,e=.returned v∧Own .i8 72 w'' w'.heap.size v TS)∧Below w'.heap.size w' w'')) :
  Calls Tryz.prog 22 #[.agg #[U i6 k,U i6 a,U i6 b,U i6 m,U i6 kh,U i6 kw,U i6 sh,U i6 sw,U i6 tp,U i6 lf,U i6 bt,U i6 rt,Sl wa lw wc,Sl ba lb bc,U i6 sm,U i6 ss,U i6 um,U i6 us,U i6 z,U i6 p,U i6 lo,U i6 hi],.agg #[U i6 h,U i6 w,U i6 c],.agg #[U i6 H,U i6 V,U i6 C],Sl ad n cap,Sl bd nb capb] W fun e w'=>(∃ v,e=.returned v∧Own .i8 72 w' W.heap.size v TS)∧Below W.heap.size W w':=by
 have hrd:rdB k=false:=decide_eq_false (by omega)
 have hk5:(k == 5)=true:=by simp [hk]
 have s0:=(((St.start W).new (c:=#[U i6 k,U i6 a,U i6 b,U i6 m,U i6 kh,U i6 kw,U i6 sh,U i6 sw,U i6 tp,U i6 lf,U i6 bt,U i6 rt,Sl wa lw wc,Sl ba lb bc,U i6 sm,U i6 ss,U i6 um,U i6 us,U i6 z,U i6 p,U i6 lo,U i6 hi]) (t:=55)).new (c:=#[U i6 h,U i6 w,U i6 c]) (t:=23)).new (c:=#[U i6 H,U i6 V,U i6 C]) (t:=23)
 simp only [World.size_alloc] at s0
 have S0:Hid (St W _ [(W.heap.size+1+1,#[U i6 H,U i6 V,U i6 C],23),(W.heap.size+1,#[U i6 h,U i6 w,U i6 c],23),(W.heap.size,#[U i6 k,U i6 a,U i6 b,U i6 m,U i6 kh,U i6 kw,U i6 sh,U i6 sw,U i6 tp,U i6 lf,U i6 bt,U i6 rt,Sl wa lw wc,Sl ba lb bc,U i6 sm,U i6 ss,U i6 um,U i6 us,U i6 z,U i6 p,U i6 lo,U i6 hi],55)]):=s0
 clear s0 hk
 go_enter Tryz.func22,Tryz.ntmps22
 go_wp2_with fail
 refine (rred_any _ _).mono ?_
 rintro e w1 ⟨rfl,hw1⟩
 have hw1':=hw1.symm
 subst hw1'
 clear hw1
 rw [hrd]
 go_upto_region 10 with fail
 obtain⟨w1,hw1⟩:∃ w1,((W.alloc (.cells #[U i6 k,U i6 a,U i6 b,U i6 m,U i6 kh,U i6 kw,U i6 sh,U i6 sw,U i6 tp,U i6 lf,U i6 bt,U i6 rt,Sl wa lw wc,Sl ba lb bc,U i6 sm,U i6 ss,U i6 um,U i6 us,U i6 z,U i6 p,U i6 lo,U i6 hi] 55)).alloc (.cells #[U i6 h,U i6 w,U i6 c] 23)).alloc (.cells #[U i6 H,U i6 V,U i6 C] 23)=w1:=⟨_,rfl⟩
 rw [hw1] at S0 ⊢
 clear hw1
 obtain⟨c1,f1,z1,c2,f2,z2,c3,f3,z3,-⟩:=S0.out.rules
 go_wp2_with (refine wpList_load_row rfl 55 (.tmp 5) rfl W.heap.size rfl 55 _ (0,0) _ S0.out.h3 Tryz.underlying55 rfl (by kernel_rfl) ?_)
 refine Calls.mono (hG.out _ S0.out.below) ?_
 rintro e w2 ⟨⟨v,rfl,hO⟩,hb⟩
 have HO:Hid (Own .i8 72 w2 W.heap.size v TS):=hO.base S0.out.size
 have HB:Hid (Below W.heap.size W w2):=btr S0.out.below hb
 clear hO hb S0 c1 f1 z1 c2 f2 z2 c3 f3 z3
 go_wp2
 go_ret
 exact⟨⟨_,rfl,HO.out⟩,HB.out⟩
def eaL (k sm ss um us z lo hi:Int) (xs ys:List Int) (n:Nat):List Int:=(List.range n).map fun i=>eaV k sm ss um us z lo hi (xs.getD i 0) (ys.getD i 0)
theorem eaL_succ (k sm ss um us z lo hi:Int) (xs ys:List Int) (n:Nat):eaL k sm ss um us z lo hi xs ys (n+1)=eaL k sm ss um us z lo hi xs ys n++[eaV k sm ss um us z lo hi (xs.getD n 0) (ys.getD n 0)]:=by simp [eaL,List.range_succ]
theorem eaL_len (k sm ss um us z lo hi:Int) (xs ys:List Int) (n:Nat):(eaL k sm ss um us z lo hi xs ys n).length=n:=by simp [eaL]
theorem make_e (k a b m kh kw sh sw tp lf bt rt:Int) (wa:Option Addr) (lw wc:Nat) (ba:Option Addr) (lb bc:Nat) (sm ss um us z p lo hi h w c H V C:Int) (W:World) (hk:6≤k∧k≤8) (ad:Option Addr) (n cap:Nat) (xs:List Int) (hX:IRow .i8 W ad n cap xs) (hn:n≤16384) (bd:Option Addr) (capb:Nat) (ys:List Int) (hY:IRow .i8 W bd n capb ys) :
  Calls Tryz.prog 22 #[.agg #[U i6 k,U i6 a,U i6 b,U i6 m,U i6 kh,U i6 kw,U i6 sh,U i6 sw,U i6 tp,U i6 lf,U i6 bt,U i6 rt,Sl wa lw wc,Sl ba lb bc,U i6 sm,U i6 ss,U i6 um,U i6 us,U i6 z,U i6 p,U i6 lo,U i6 hi],.agg #[U i6 h,U i6 w,U i6 c],.agg #[U i6 H,U i6 V,U i6 C],Sl ad n cap,Sl bd n capb] W fun e w'=>(∃ v,e=.returned v∧Own .i8 72 w' W.heap.size v (eaL k sm ss um us z lo hi xs ys n))∧Below W.heap.size W w':=by
 have hrd:rdB k=false:=decide_eq_false (by omega)
 have hk5:(k == 5)=false:=by simp;omega
 have HEa:Hid (∀ (W':World) (u v:Int),I8 u→I8 v→Calls Tryz.prog 47 #[.agg #[U i6 k,U i6 a,U i6 b,U i6 m,U i6 kh,U i6 kw,U i6 sh,U i6 sw,U i6 tp,U i6 lf,U i6 bt,U i6 rt,Sl wa lw wc,Sl ba lb bc,U i6 sm,U i6 ss,U i6 um,U i6 us,U i6 z,U i6 p,U i6 lo,U i6 hi],.int .i8 u,.int .i8 v] W' fun e w'=>e=.returned (.int .i8 (eaV k sm ss um us z lo hi u v))∧Below W'.heap.size W' w'):=fun W' u v hu hv=>each_any k a b m kh kw sh sw tp lf bt rt wa lw wc ba lb bc sm ss um us z p lo hi u v W' hk hu hv
 have H8:Hid (∀ u v,I8 (eaV k sm ss um us z lo hi u v)):=fun u v=>by unfold eaV;exact fiV_i8
 have HF:Hid (∀ y u v,xs[y]? = some u→ys[y]? = some v→eaL k sm ss um us z lo hi xs ys (y+1)=eaL k sm ss um us z lo hi xs ys y++[eaV k sm ss um us z lo hi u v]):=fun y u v h1 h2=>by
  rw [eaL_succ,List.getD_eq_getElem?_getD,h1,List.getD_eq_getElem?_getD,h2];rfl
 have HX:Hid (IRow .i8 W ad n cap xs):=hX
 have HY:Hid (IRow .i8 W bd n capb ys):=hY
 have s0:=(((St.start W).new (c:=#[U i6 k,U i6 a,U i6 b,U i6 m,U i6 kh,U i6 kw,U i6 sh,U i6 sw,U i6 tp,U i6 lf,U i6 bt,U i6 rt,Sl wa lw wc,Sl ba lb bc,U i6 sm,U i6 ss,U i6 um,U i6 us,U i6 z,U i6 p,U i6 lo,U i6 hi]) (t:=55)).new (c:=#[U i6 h,U i6 w,U i6 c]) (t:=23)).new (c:=#[U i6 H,U i6 V,U i6 C]) (t:=23)
 simp only [World.size_alloc] at s0
 have S0:Hid (St W _ [(W.heap.size+1+1,#[U i6 H,U i6 V,U i6 C],23),(W.heap.size+1,#[U i6 h,U i6 w,U i6 c],23),(W.heap.size,#[U i6 k,U i6 a,U i6 b,U i6 m,U i6 kh,U i6 kw,U i6 sh,U i6 sw,U i6 tp,U i6 lf,U i6 bt,U i6 rt,Sl wa lw wc,Sl ba lb bc,U i6 sm,U i6 ss,U i6 um,U i6 us,U i6 z,U i6 p,U i6 lo,U i6 hi],55)]):=s0
 clear s0 hX hY hk
 go_enter Tryz.func22,Tryz.ntmps22
 go_wp2_with fail
 refine (rred_any _ _).mono ?_
 rintro e w1 ⟨rfl,hw1⟩
 have hw1':=hw1.symm
 subst hw1'
 clear hw1
 rw [hrd]
 go_upto_region 10 with fail
 obtain⟨w1,hw1⟩:∃ w1,((W.alloc (.cells #[U i6 k,U i6 a,U i6 b,U i6 m,U i6 kh,U i6 kw,U i6 sh,U i6 sw,U i6 tp,U i6 lf,U i6 bt,U i6 rt,Sl wa lw wc,Sl ba lb bc,U i6 sm,U i6 ss,U i6 um,U i6 us,U i6 z,U i6 p,U i6 lo,U i6 hi] 55)).alloc (.cells #[U i6 h,U i6 w,U i6 c] 23)).alloc (.cells #[U i6 H,U i6 V,U i6 C] 23)=w1:=⟨_,rfl⟩
 rw [hw1] at S0 ⊢
 clear hw1
 obtain⟨-,-,-,-,-,-,c3,f3,z3,-⟩:=S0.out.rules
 go_wp2
 have Ho0:Hid (Own .i8 72 w1 W.heap.size (.slice none 0 0) []):=own_none _ _ _ _
 clear c3 f3 z3
 go_loopw [11,51] (fun v i wr=>∃ (y:Nat) (v1:Value),v1=v∧y≤n∧i=U i6 y∧Own .i8 72 wr W.heap.size v (eaL k sm ss um us z lo hi xs ys y)∧St W wr [(W.heap.size+1+1,#[U i6 H,U i6 V,U i6 C],23),(W.heap.size+1,#[U i6 h,U i6 w,U i6 c],23),(W.heap.size,#[U i6 k,U i6 a,U i6 b,U i6 m,U i6 kh,U i6 kw,U i6 sh,U i6 sw,U i6 tp,U i6 lf,U i6 bt,U i6 rt,Sl wa lw wc,Sl ba lb bc,U i6 sm,U i6 ss,U i6 um,U i6 us,U i6 z,U i6 p,U i6 lo,U i6 hi],55)]) (fun _ i _=>n-(intOf i).toNat)
 case atStart=>exact⟨0,_,rfl,Nat.zero_le _,rfl,by simpa [eaL] using Ho0.out,S0.out⟩
 case round =>
  obtain⟨y,v1,rfl,hy,rfl,hO,sr⟩:=hrel
  clear Ho0 S0
  have HO:Hid (Own .i8 72 wr W.heap.size v1 (eaL k sm ss um us z lo hi xs ys y)):=hO
  have SR:Hid (St W wr [(W.heap.size+1+1,#[U i6 H,U i6 V,U i6 C],23),(W.heap.size+1,#[U i6 h,U i6 w,U i6 c],23),(W.heap.size,#[U i6 k,U i6 a,U i6 b,U i6 m,U i6 kh,U i6 kw,U i6 sh,U i6 sw,U i6 tp,U i6 lf,U i6 bt,U i6 rt,Sl wa lw wc,Sl ba lb bc,U i6 sm,U i6 ss,U i6 um,U i6 us,U i6 z,U i6 p,U i6 lo,U i6 hi],55)]):=sr
  clear hO sr
  by_cases hlt:y<n
  ·obtain⟨xa,u,rfl,hu,hu8,hz,-⟩:=HX.out.at hlt
   obtain⟨xb,v,rfl,hv,hv8,hz',-⟩:=HY.out.at hlt
   have HH:Hid (∀ W',_):=fun W'=>HEa.out W' u v (wf_i8 hu8) (wf_i8 hv8)
   have HFF:=HF.out y u v hz hz'
   have h8:=H8.out u v
   obtain⟨F,hFe⟩:∃ F,eaV k sm ss um us z lo hi u v=F:=⟨_,rfl⟩
   rw [hFe] at HH HFF h8
   have HFS:Hid (eaL k sm ss um us z lo hi xs ys (y+1)=eaL k sm ss um us z lo hi xs ys y++[F]):=HFF
   have H8F:Hid (I8 F):=h8
   have HU:Hid (W.cell? (xa.add y)=some (.int .i8 u)):=hu
   have HV:Hid (W.cell? (xb.add y)=some (.int .i8 v)):=hv
   clear hz hz' hu8 hv8 hFe HFF h8 hu hv
   go_wp2
   refine regionC (fun w'=>w'.heap[W.heap.size]? = some (.cells #[U i6 k,U i6 a,U i6 b,U i6 m,U i6 kh,U i6 kw,U i6 sh,U i6 sw,U i6 tp,U i6 lf,U i6 bt,U i6 rt,Sl wa lw wc,Sl ba lb bc,U i6 sm,U i6 ss,U i6 um,U i6 us,U i6 z,U i6 p,U i6 lo,U i6 hi] 55 (0,0))∧w'.cell? (xa.add y)=some (.int .i8 u)∧w'.cell? (xb.add y)=some (.int .i8 v)) (by kernel_rfl) ?_
   obtain⟨wd,hwd⟩:∃ wd,wr.drew=wd:=⟨_,rfl⟩
   have HC:Hid (∀ w',St W w' [(W.heap.size+1+1,#[U i6 H,U i6 V,U i6 C],23),(W.heap.size+1,#[U i6 h,U i6 w,U i6 c],23),(W.heap.size,#[U i6 k,U i6 a,U i6 b,U i6 m,U i6 kh,U i6 kw,U i6 sh,U i6 sw,U i6 tp,U i6 lf,U i6 bt,U i6 rt,Sl wa lw wc,Sl ba lb bc,U i6 sm,U i6 ss,U i6 um,U i6 us,U i6 z,U i6 p,U i6 lo,U i6 hi],55)]→w'.heap[W.heap.size]? = some (.cells #[U i6 k,U i6 a,U i6 b,U i6 m,U i6 kh,U i6 kw,U i6 sh,U i6 sw,U i6 tp,U i6 lf,U i6 bt,U i6 rt,Sl wa lw wc,Sl ba lb bc,U i6 sm,U i6 ss,U i6 um,U i6 us,U i6 z,U i6 p,U i6 lo,U i6 hi] 55 (0,0))∧w'.cell? (xa.add y)=some (.int .i8 u)∧w'.cell? (xb.add y)=some (.int .i8 v)):=fun w' s=>⟨s.h3,(s.below.cell (World.block_lt_of_cell? W _ HU.out)).trans HU.out,(s.below.cell (World.block_lt_of_cell? W _ HV.out)).trans HV.out⟩
   have HD:Hid (Below wr.heap.size wr wd):=by unfold Hid;rw [← hwd];exact (Below.refl _ _).drew
   rw [hwd]
   clear hwd
   refine takeC 0 (v:=v1) rfl rfl (by kernel_rfl) (by kernel_rfl) (by kernel_rfl) (fun _ _ _ h=>h) (fun _=>rfl) rfl (fun w' hw'=>by go_simp) ?_
   refine takeC 1 (v:=.agg #[U i6 k,U i6 a,U i6 b,U i6 m,U i6 kh,U i6 kw,U i6 sh,U i6 sw,U i6 tp,U i6 lf,U i6 bt,U i6 rt,Sl wa lw wc,Sl ba lb bc,U i6 sm,U i6 ss,U i6 um,U i6 us,U i6 z,U i6 p,U i6 lo,U i6 hi]) rfl rfl (by kernel_rfl) (by kernel_rfl) (by kernel_rfl) (fun _ _ _ h=>h) (fun _=>rfl) rfl (fun w' hw'=>run_la 55 (.tmp 5) rfl ⟨W.heap.size,0,none⟩ (by kernel_rfl) [U i6 k,U i6 a,U i6 b,U i6 m,U i6 kh,U i6 kw,U i6 sh,U i6 sw,U i6 tp,U i6 lf,U i6 bt,U i6 rt,Sl wa lw wc,Sl ba lb bc,U i6 sm,U i6 ss,U i6 um,U i6 us,U i6 z,U i6 p,U i6 lo,U i6 hi] _ (lcells hw'.1 (fget [U i6 k,U i6 a,U i6 b,U i6 m,U i6 kh,U i6 kw,U i6 sh,U i6 sw,U i6 tp,U i6 lf,U i6 bt,U i6 rt,Sl wa lw wc,Sl ba lb bc,U i6 sm,U i6 ss,U i6 um,U i6 us,U i6 z,U i6 p,U i6 lo,U i6 hi] [])) Tryz.underlying55 rfl (by kernel_rfl)) ?_
   refine takeC 2 (v:=.slice (some xa) n cap) rfl rfl (by kernel_rfl) (by kernel_rfl) (by kernel_rfl) (fun _ _ _ h=>h) (fun _=>rfl) rfl (fun w' hw'=>by go_simp) ?_
   refine takeC 3 (v:=U i6 (y:Int)) rfl rfl (by kernel_rfl) (by kernel_rfl) (by kernel_rfl) (fun _ _ _ h=>h) (fun _=>rfl) rfl (fun w' hw'=>by go_simp) ?_
   refine takeC 4 (v:=.pointer (some (xa.add y))) rfl rfl (by kernel_rfl) (by kernel_rfl) (by kernel_rfl) (fun _ _ _ h=>h) (fun _=>rfl) rfl (fun w' hw'=>by go_simp) ?_
   refine takeC 5 (v:=.int .i8 u) rfl rfl (by kernel_rfl) (by kernel_rfl) (by kernel_rfl) (fun _ _ _ h=>h) (fun _=>rfl) rfl (fun w' hw'=>by have hc:=hw'.2.1;go_simp) ?_
   refine takeC 6 (v:=.slice (some xb) n capb) rfl rfl (by kernel_rfl) (by kernel_rfl) (by kernel_rfl) (fun _ _ _ h=>h) (fun _=>rfl) rfl (fun w' hw'=>by go_simp) ?_
   refine takeC 7 (v:=U i6 (y:Int)) rfl rfl (by kernel_rfl) (by kernel_rfl) (by kernel_rfl) (fun _ _ _ h=>h) (fun _=>rfl) rfl (fun w' hw'=>by go_simp) ?_
   refine takeC 8 (v:=.pointer (some (xb.add y))) rfl rfl (by kernel_rfl) (by kernel_rfl) (by kernel_rfl) (fun _ _ _ h=>h) (fun _=>rfl) rfl (fun w' hw'=>by go_simp) ?_
   refine takeC 9 (v:=.int .i8 v) rfl rfl (by kernel_rfl) (by kernel_rfl) (by kernel_rfl) (fun _ _ _ h=>h) (fun _=>rfl) rfl (fun w' hw'=>by have hc:=hw'.2.2;go_simp) ?_
   refine stepK 10 (HC.out _ (SR.out.call HD.out)) (by kernel_rfl) rfl rfl 47 #[.agg #[U i6 k,U i6 a,U i6 b,U i6 m,U i6 kh,U i6 kw,U i6 sh,U i6 sw,U i6 tp,U i6 lf,U i6 bt,U i6 rt,Sl wa lw wc,Sl ba lb bc,U i6 sm,U i6 ss,U i6 um,U i6 us,U i6 z,U i6 p,U i6 lo,U i6 hi],.int .i8 u,.int .i8 v] (by kernel_rfl) (HH.out wd) ?_
   rintro e w5 ⟨rfl,hb5⟩
   have HB5:Hid (Below wr.heap.size wr w5):=btr HD.out hb5
   clear hb5
   refine⟨_,rfl,?_⟩
   refine stepR 11 (HC.out _ (SR.out.call HB5.out)) (by kernel_rfl) rfl rfl (.slice (some ⟨w5.heap.size,0,none⟩) 1 1) (w5.alloc (.cells #[.int .i8 F] 72)) (by kernel_rfl) ?_
   have HB6:Hid (Below wr.heap.size wr (w5.alloc (.cells #[.int .i8 F] 72))):=btr HB5.out (bal _ _)
   have hO6:Hid (Own .i8 72 (w5.alloc (.cells #[.int .i8 F] 72)) W.heap.size v1 (eaL k sm ss um us z lo hi xs ys y)):=HO.out.below HB6.out
   have hR6:Hid (IRow .i8 (w5.alloc (.cells #[.int .i8 F] 72)) (some ⟨w5.heap.size,0,none⟩) 1 1 [F]):=row_one .i8 72 w5 F (mk_i8 H8F.out)
   have S6:Hid (St W (w5.alloc (.cells #[.int .i8 F] 72)) [(W.heap.size+1+1,#[U i6 H,U i6 V,U i6 C],23),(W.heap.size+1,#[U i6 h,U i6 w,U i6 c],23),(W.heap.size,#[U i6 k,U i6 a,U i6 b,U i6 m,U i6 kh,U i6 kw,U i6 sh,U i6 sw,U i6 tp,U i6 lf,U i6 bt,U i6 rt,Sl wa lw wc,Sl ba lb bc,U i6 sm,U i6 ss,U i6 um,U i6 us,U i6 z,U i6 p,U i6 lo,U i6 hi],55)]):=SR.out.call HB6.out
   refine stepO kt_i8 12 (HC.out _ S6.out) (by kernel_rfl) rfl rfl (.tmp 54) (.tmp 65) rfl W.heap.size v1 _ [F] (by kernel_rfl) hO6.out ⟨w5.heap.size,0,none⟩ 1 1 (by kernel_rfl) hR6.out (by rw [eaL_len];simp;omega) S6.out.size ?_
   intro v7 w7 own7 gr7
   have S7:Hid (St W w7 [(W.heap.size+1+1,#[U i6 H,U i6 V,U i6 C],23),(W.heap.size+1,#[U i6 h,U i6 w,U i6 c],23),(W.heap.size,#[U i6 k,U i6 a,U i6 b,U i6 m,U i6 kh,U i6 kw,U i6 sh,U i6 sw,U i6 tp,U i6 lf,U i6 bt,U i6 rt,Sl wa lw wc,Sl ba lb bc,U i6 sm,U i6 ss,U i6 um,U i6 us,U i6 z,U i6 p,U i6 lo,U i6 hi],55)]):=S6.out.grow hO6.out gr7 (Nat.le_refl _) (by simp)
   have O7:Hid (Own .i8 72 w7 W.heap.size v7 (eaL k sm ss um us z lo hi xs ys (y+1))):=by rw [HFS.out];exact own7
   clear own7 gr7
   refine stepR 13 (HC.out _ S7.out) (by kernel_rfl) rfl rfl v7 w7 (by kernel_rfl) ?_
   refine doneC (HC.out _ S7.out) (by kernel_rfl) ?_ _
   clear HC
   go_wp2
   go_roundw
   case rel=>exact⟨y+1,_,rfl,by omega,by go_num,O7.out,S7.out⟩
   case measure=>simp [intOf];omega
  ·obtain rfl:y=n:=by omega
   go_wp2
   go_ret
   exact⟨⟨_,rfl,HO.out⟩,SR.out.below⟩
theorem list_i {f:Nat→Int} {xs:List Int} {g:Int→Int} {n:Nat} (hn:xs.length=n) (h:∀ i,i<n→f i=g (xs.getD i 0)):(List.range n).map f=xs.map g:=by
 apply List.ext_getElem?
 intro i
 simp only [List.getElem?_map]
 by_cases q:i<n
 ·rw [List.getElem?_range q,List.getElem?_eq_getElem (show i<xs.length by omega)]
  simp only [Option.map_some]
  rw [h i q,List.getD_eq_getElem?_getD,List.getElem?_eq_getElem (show i<xs.length by omega)];rfl
 ·rw [List.getElem?_eq_none (by simp;omega),List.getElem?_eq_none (by omega)];rfl
theorem make_any (k a b m kh kw sh sw tp lf bt rt:Int) (wa:Option Addr) (lw wc:Nat) (ba:Option Addr) (lb bc:Nat) (sm ss um us z p lo hi h w c H V C:Int) (W:World) (s:Opd k b m kh kw sh sw tp lf bt rt lw lb sm ss um us z p lo hi h w c H V C) (zs bs:List Int) (hZ:IRow .i16 W wa lw wc zs) (hB:IRow .i32 W ba lb bc bs) (ad:Option Addr) (n cap:Nat) (xs:List Int) (hX:IRow .i8 W ad n cap xs) (hn:(n:Int)=h*w*c) (bd:Option Addr) (capb:Nat) (ys:List Int) (hY:IRow .i8 W bd n capb ys) (y9:List Int) (hy9:k=6→y9=ys) :
  Calls Tryz.prog 22 #[.agg #[U i6 k,U i6 a,U i6 b,U i6 m,U i6 kh,U i6 kw,U i6 sh,U i6 sw,U i6 tp,U i6 lf,U i6 bt,U i6 rt,Sl wa lw wc,Sl ba lb bc,U i6 sm,U i6 ss,U i6 um,U i6 us,U i6 z,U i6 p,U i6 lo,U i6 hi],.agg #[U i6 h,U i6 w,U i6 c],.agg #[U i6 H,U i6 V,U i6 C],Sl ad n cap,Sl bd n capb] W fun e w'=>(∃ v,e=.returned v∧Own .i8 72 w' W.heap.size v (teL k kh kw sh sw tp lf bt rt sm ss um us z p lo hi h w c H V C zs bs xs y9))∧Below W.heap.size W w':=by
 have hk:=s.hk
 have hp8:I8 p:=by have:=s.rz;unfold rzB vlB at this;simp at this;exact⟨this.2.1,this.2.2⟩
 have hBb:=(vS_bd s.hB).2
 have hAb:=(vS_bd s.hA).2
 have hxl:=hX.1
 have hyl:=hY.1
 by_cases k4:k≤4
 ·have hl:(suL k kh kw sh sw tp lf bt rt h w c C p zs bs xs (H*V*C).toNat).length≤16384:=by rw [suL_len];omega
  have:=make_s k a b m kh kw sh sw tp lf bt rt wa lw wc ba lb bc sm ss um us z p lo hi h w c H V C W (s.si k4) ad n cap bd n capb (suL k kh kw sh sw tp lf bt rt h w c C p zs bs xs (H*V*C).toNat) hl (suL_bd (s.si k4) hZ.2.2.2.1 hB.2.2.2.1 hp8 hX.i8 _) (fun w' hb=>rsums_any k a b m kh kw sh sw tp lf bt rt wa lw wc ba lb bc sm ss um us z p lo hi h w c H V C w' (s.si k4) zs bs (hZ.below hb) (hB.below hb) ad n cap xs (hX.below hb) hn hp8)
  have e:(suL k kh kw sh sw tp lf bt rt h w c C p zs bs xs (H*V*C).toNat).map (fun t=>hoV k sm ss z lo hi t (stR k kh kw h w c))=teL k kh kw sh sw tp lf bt rt sm ss um us z p lo hi h w c H V C zs bs xs y9:=by
   unfold teL vaL fiL
   by_cases k3:k≤3
   ·rw [if_pos k3]
    unfold apL
    rw [List.map_map]
    refine List.map_congr_left fun t _=>?_
    unfold hoV
    rw [if_neg (by omega)];rfl
   ·obtain rfl:k=4:=by omega
    rw [if_neg (by decide),if_pos rfl]
    unfold meL
    rw [List.map_map]
    refine List.map_congr_left fun t _=>?_
    have hoz:=of_decide_eq_true s.oz
    have hz0:=(hoz.2.2.2.1 (.inl rfl)).2.2
    unfold hoV
    rw [if_pos rfl,hz0];rfl
  rw [e] at this
  exact this
 ·by_cases k5:k=5
  ·subst k5
   have hou:=s.ou (by decide)
   have hoz:=of_decide_eq_true s.oz
   obtain⟨rfl,rfl,rfl,rfl⟩:=hoz.2.2.2.2.2.2 (.inr rfl)
   have hz0:=(hoz.2.2.2.1 (.inr (.inl rfl))).2.2
   rcases ouR_cases h w c kh kw sh sw 0 0 0 0 with ⟨e,he,h2⟩ | ⟨rr,qq,he,hf⟩
   ·rw [he] at hou
    simp only [Prod.mk.injEq] at hou
    omega
   ·have hou':=hou
    rw [he] at hou
    simp only [Prod.mk.injEq,and_true] at hou
    obtain⟨rfl,rfl⟩:=hou
    obtain⟨-,⟨i1,i2,i3,i4,-⟩,-,-,g1,g2⟩:=hf
    have:=make_g 5 a b m kh kw sh sw 0 0 0 0 wa lw wc ba lb bc sm ss um us z p lo hi h w c rr qq C W rfl ad n cap bd n capb _ (fun w' hb=>rgreat_any a b m kh kw sh sw wa lw wc ba lb bc sm ss um us z p lo hi h w c rr qq C w' ad n cap xs (hX.below hb) hn s.hA s.hB hou' i1 i2 i3 i4 (by omega) (by omega) (s.c3 (by decide)))
    have e:fiL (grL kh kw sh sw w c qq C xs (rr*qq*C).toNat) 0 lo hi=teL 5 kh kw sh sw 0 0 0 0 sm ss um us z p lo hi h w c rr qq C zs bs xs y9:=by
     unfold teL vaL
     rw [if_neg (by decide),if_neg (by decide),if_pos rfl,hz0]
    rw [e] at this
    exact this
  ·have:=make_e k a b m kh kw sh sw tp lf bt rt wa lw wc ba lb bc sm ss um us z p lo hi h w c H V C W (by omega) ad n cap xs hX (by omega) bd capb ys hY
   have e:eaL k sm ss um us z lo hi xs ys n=teL k kh kw sh sw tp lf bt rt sm ss um us z p lo hi h w c H V C zs bs xs y9:=by
    unfold teL vaL
    rw [if_neg (by omega),if_neg (by omega),if_neg k5]
    by_cases k6:k=6
    ·rw [if_pos k6,hy9 k6]
     unfold eaL fiL adL apL
     rw [List.map_map,List.length_map,hxl]
     refine List.map_congr_left fun i hi=>?_
     have hi':i<n:=by simpa using hi
     unfold eaV
     rw [if_pos k6]
     simp [List.getD,show i<xs.length by omega,show i<ys.length by omega]
    ·rw [if_neg k6]
     unfold eaL
     by_cases k7:k=7
     ·rw [if_pos k7]
      unfold fiL apL
      rw [List.map_map]
      refine list_i hxl fun i hi=>?_
      unfold eaV
      rw [if_neg k6,if_neg (by omega)];rfl
     ·rw [if_neg k7]
      unfold fiL
      refine list_i hxl fun i hi=>?_
      unfold eaV
      rw [if_neg k6,if_pos (by omega)]
   rw [e] at this
   exact this
theorem rwr_any (c0 c1 c2 c3 c5 c6 c7 c8:Value) (n:Int) (b:Bool) (W0 W:World) (B:Nat) (l:List (Nat×Array Value×TypeId)) (s:St W0 W ((B,#[c0,c1,c2,c3,U i6 n,c5,c6,c7,c8],114) :: l)) (hl:∀ x∈l,x.1≠B) (hn:-1000000000000000000≤n∧n≤1000000000000000000) :
  Calls Tryz.prog 78 #[.pointer (some ⟨B,0,none⟩),.bool (!b)] W fun e w'=>(∃ v,e=.returned v)∧St W0 w' ((B,#[c0,c1,c2,c3,U i6 (n+bb b),c5,c6,c7,c8],114) :: l):=by
 cases b with
 | true =>
  simp only [bb,if_true,Int.add_zero,Bool.not_true]
  go_enter Tryz.func78,Tryz.ntmps78
  go_wp2
  go_end0
  exact⟨⟨_,rfl⟩,s⟩
 | false =>
  simp only [bb,Bool.false_eq_true,if_false,Bool.not_false]
  have HS:Hid (St W0 _ _):=s.set hl (i:=4) (v:=U i6 (n+1))
  simp only [List.setIfInBounds_toArray,List.set_cons_succ,List.set_cons_zero] at HS
  obtain⟨c1,f1,z1,-⟩:=s.rules
  clear s
  go_enter Tryz.func78,Tryz.ntmps78
  go_wp2
  go_end0
  exact⟨⟨_,rfl⟩,HS.out⟩
theorem bw_eq (N x:Int):bb (fitsN N x)=bw N x:=rfl
theorem rtm_16 (m a m2 a2 n lo hi lo2 hi2 x y:Int) (W0 W:World) (B:Nat) (l:List (Nat×Array Value×TypeId)) (s:St W0 W ((B,#[U i6 m,U i6 a,U i6 m2,U i6 a2,U i6 n,U i6 lo,U i6 hi,U i6 lo2,U i6 hi2],114) :: l)) (hl:∀ x∈l,x.1≠B)
  (hm:0≤m∧m≤BD) (hm2:0≤m2∧m2≤BD) (hn:0≤n∧n≤4*BD) (ha:-2147483648≤x∧x≤2147483647) (hb:-2147483648≤y∧y≤2147483647) :
  Calls Tryz.prog 51 #[.pointer (some ⟨B,0,none⟩),U i6 16,U i6 x,U i6 y] W fun e w'=>e=.returned (U i6 (wrapN 32768 (x*y)))∧St W0 w' ((B,#[U i6 (m+1),U i6 a,U i6 (m2),U i6 a2,U i6 (n+bw 32768 (x*y)),U i6 lo,U i6 hi,U i6 lo2,U i6 hi2],114) :: l):=by
 unfold BD at hm hm2 hn
 have HF:Hid (∀ w,_):=fun w=>refmul_16 x y w ha hb
 rw [← bw_eq]
 generalize x*y=p at HF ⊢
 have HN:Hid (∀ w2,St W0 w2 ((B,#[U i6 m,U i6 a,U i6 m2,U i6 a2,U i6 n,U i6 lo,U i6 hi,U i6 lo2,U i6 hi2],114) :: l)→_):=fun w2 s2=>rwr_any (U i6 m) (U i6 a) (U i6 m2) (U i6 a2) (U i6 lo) (U i6 hi) (U i6 lo2) (U i6 hi2) n (fitsN 32768 p) W0 w2 B l s2 hl (by omega)
 generalize n+bb (fitsN 32768 p)=n' at HN ⊢
 generalize wrapN 32768 p=V at HF ⊢
 generalize fitsN 32768 p=bo at HF HN ⊢
 have HS:Hid (St W0 W _):=s
 clear s
 go_enter Tryz.func51,Tryz.ntmps51
 go_wp2_with fail
 refine (HF.out _).mono ?_
 rintro e w' ⟨rfl,rfl⟩
 go_wp2_with fail
 refine (HN.out _ HS.out).mono ?_
 rintro e w2 ⟨⟨v,rfl⟩,s2⟩
 clear HN HS HF
 obtain⟨c1,f1,z1,-⟩:=s2.rules
 have s3:=s2.set hl (i:=0) (v:=U i6 (m+1))
 simp only [List.setIfInBounds_toArray,List.set_cons_zero] at s3
 have HS3:Hid (St W0 _ _):=s3
 clear s2 s3
 go_wp2
 go_ret
 exact⟨rfl,HS3.out⟩
theorem rtm_32 (m a m2 a2 n lo hi lo2 hi2 x y:Int) (W0 W:World) (B:Nat) (l:List (Nat×Array Value×TypeId)) (s:St W0 W ((B,#[U i6 m,U i6 a,U i6 m2,U i6 a2,U i6 n,U i6 lo,U i6 hi,U i6 lo2,U i6 hi2],114) :: l)) (hl:∀ x∈l,x.1≠B)
  (hm:0≤m∧m≤BD) (hm2:0≤m2∧m2≤BD) (hn:0≤n∧n≤4*BD) (ha:-2147483648≤x∧x≤2147483647) (hb:-2147483648≤y∧y≤2147483647) :
  Calls Tryz.prog 51 #[.pointer (some ⟨B,0,none⟩),U i6 32,U i6 x,U i6 y] W fun e w'=>e=.returned (U i6 (wrapN 2147483648 (x*y)))∧St W0 w' ((B,#[U i6 (m),U i6 a,U i6 (m2+1),U i6 a2,U i6 (n+bw 2147483648 (x*y)),U i6 lo,U i6 hi,U i6 lo2,U i6 hi2],114) :: l):=by
 unfold BD at hm hm2 hn
 have HF:Hid (∀ w,_):=fun w=>refmul_32 x y w ha hb
 rw [← bw_eq]
 generalize x*y=p at HF ⊢
 have HN:Hid (∀ w2,St W0 w2 ((B,#[U i6 m,U i6 a,U i6 m2,U i6 a2,U i6 n,U i6 lo,U i6 hi,U i6 lo2,U i6 hi2],114) :: l)→_):=fun w2 s2=>rwr_any (U i6 m) (U i6 a) (U i6 m2) (U i6 a2) (U i6 lo) (U i6 hi) (U i6 lo2) (U i6 hi2) n (fitsN 2147483648 p) W0 w2 B l s2 hl (by omega)
 generalize n+bb (fitsN 2147483648 p)=n' at HN ⊢
 generalize wrapN 2147483648 p=V at HF ⊢
 generalize fitsN 2147483648 p=bo at HF HN ⊢
 have HS:Hid (St W0 W _):=s
 clear s
 go_enter Tryz.func51,Tryz.ntmps51
 go_wp2_with fail
 refine (HF.out _).mono ?_
 rintro e w' ⟨rfl,rfl⟩
 go_wp2_with fail
 refine (HN.out _ HS.out).mono ?_
 rintro e w2 ⟨⟨v,rfl⟩,s2⟩
 clear HN HS HF
 obtain⟨c1,f1,z1,-⟩:=s2.rules
 have s3:=s2.set hl (i:=2) (v:=U i6 (m2+1))
 simp only [List.setIfInBounds_toArray,List.set_cons_succ,List.set_cons_zero] at s3
 have HS3:Hid (St W0 _ _):=s3
 clear s2 s3
 go_wp2
 go_ret
 exact⟨rfl,HS3.out⟩
theorem xmn_same (a:Int):xmn a a=a:=by unfold xmn; split<;>rfl
theorem xmx_same (a:Int):xmx a a=a:=by unfold xmx; split<;>rfl
def nlo (a lo V:Int):Int:=if a=0 then V else xmn lo V
def nhi (a hi V:Int):Int:=if a=0 then V else xmx hi V
theorem rpl_16 (m a m2 a2 n lo hi lo2 hi2 x y:Int) (W0 W:World) (B:Nat) (l:List (Nat×Array Value×TypeId)) (s:St W0 W ((B,#[U i6 m,U i6 a,U i6 m2,U i6 a2,U i6 n,U i6 lo,U i6 hi,U i6 lo2,U i6 hi2],114) :: l)) (hl:∀ x∈l,x.1≠B)
  (hm:0≤a∧a≤BD) (hm2:0≤a2∧a2≤BD) (hn:0≤n∧n≤4*BD) (ha:-2147483648≤x∧x≤2147483647) (hb:-2147483648≤y∧y≤2147483647) :
  Calls Tryz.prog 50 #[.pointer (some ⟨B,0,none⟩),U i6 16,U i6 x,U i6 y] W fun e w'=>e=.returned (U i6 (wrapN 32768 (x+y)))∧St W0 w' ((B,#[U i6 m,U i6 (a+1),U i6 m2,U i6 (a2),U i6 (n+bw 32768 (x+y)),U i6 (nlo a lo <| wrapN 32768 <| x+y),U i6 (nhi a hi <| wrapN 32768 <| x+y),U i6 (lo2),U i6 (hi2)],114) :: l):=by
 unfold BD at hm hm2 hn
 have HF:Hid (∀ w,_):=fun w=>refadd_16 x y w ha hb
 rw [← bw_eq]
 generalize x+y=p at HF ⊢
 have HN:Hid (∀ w2,St W0 w2 ((B,#[U i6 m,U i6 a,U i6 m2,U i6 a2,U i6 n,U i6 lo,U i6 hi,U i6 lo2,U i6 hi2],114) :: l)→_):=fun w2 s2=>rwr_any (U i6 m) (U i6 a) (U i6 m2) (U i6 a2) (U i6 lo) (U i6 hi) (U i6 lo2) (U i6 hi2) n (fitsN 32768 p) W0 w2 B l s2 hl (by omega)
 generalize n+bb (fitsN 32768 p)=n' at HN ⊢
 generalize wrapN 32768 p=V at HF ⊢
 generalize fitsN 32768 p=bo at HF HN ⊢
 have HS:Hid (St W0 W _):=s
 clear s
 by_cases h0:a=0
 ·subst h0
  simp only [nlo,nhi,if_true]
  have q1:=min2 V V V (xmn_same V)
  have q2:=max2b V V V (xmx_same V)
  go_enter Tryz.func50,Tryz.ntmps50
  go_wp2_with fail
  refine (HF.out _).mono ?_
  rintro e w' ⟨rfl,rfl⟩
  go_wp2_with fail
  refine (HN.out _ HS.out).mono ?_
  rintro e w2 ⟨⟨v,rfl⟩,s2⟩
  clear HN HS HF
  obtain⟨c1,f1,z1,-⟩:=s2.rules
  have s3:=((((s2.set hl (i:=5) (v:=U i6 V)).set hl (i:=6) (v:=U i6 V)).set hl (i:=1) (v:=U i6 1)).set hl (i:=5) (v:=U i6 V)).set hl (i:=6) (v:=U i6 V)
  simp only [List.setIfInBounds_toArray,List.set_cons_succ,List.set_cons_zero] at s3
  have HS3:Hid (St W0 _ _):=s3
  clear s2 s3
  go_wp2
  go_ret
  exact⟨rfl,HS3.out⟩
 ·simp only [nlo,nhi,h0,if_false]
  obtain⟨L,hL⟩:∃ L,xmn lo V=L:=⟨_,rfl⟩
  obtain⟨H,hH⟩:∃ H,xmx hi V=H:=⟨_,rfl⟩
  have q1:=min2 lo V L hL
  have q2:=max2b hi V H hH
  rw [hL,hH]
  clear hL hH
  go_enter Tryz.func50,Tryz.ntmps50
  go_wp2_with fail
  refine (HF.out _).mono ?_
  rintro e w' ⟨rfl,rfl⟩
  go_wp2_with fail
  refine (HN.out _ HS.out).mono ?_
  rintro e w2 ⟨⟨v,rfl⟩,s2⟩
  clear HN HS HF
  obtain⟨c1,f1,z1,-⟩:=s2.rules
  have s3:=((s2.set hl (i:=1) (v:=U i6 (a+1))).set hl (i:=5) (v:=U i6 L)).set hl (i:=6) (v:=U i6 H)
  simp only [List.setIfInBounds_toArray,List.set_cons_succ,List.set_cons_zero] at s3
  have HS3:Hid (St W0 _ _):=s3
  clear s2 s3
  go_wp2
  go_ret
  exact⟨rfl,HS3.out⟩
theorem rpl_32 (m a m2 a2 n lo hi lo2 hi2 x y:Int) (W0 W:World) (B:Nat) (l:List (Nat×Array Value×TypeId)) (s:St W0 W ((B,#[U i6 m,U i6 a,U i6 m2,U i6 a2,U i6 n,U i6 lo,U i6 hi,U i6 lo2,U i6 hi2],114) :: l)) (hl:∀ x∈l,x.1≠B)
  (hm:0≤a∧a≤BD) (hm2:0≤a2∧a2≤BD) (hn:0≤n∧n≤4*BD) (ha:-2147483648≤x∧x≤2147483647) (hb:-2147483648≤y∧y≤2147483647) :
  Calls Tryz.prog 50 #[.pointer (some ⟨B,0,none⟩),U i6 32,U i6 x,U i6 y] W fun e w'=>e=.returned (U i6 (wrapN 2147483648 (x+y)))∧St W0 w' ((B,#[U i6 m,U i6 (a),U i6 m2,U i6 (a2+1),U i6 (n+bw 2147483648 (x+y)),U i6 (lo),U i6 (hi),U i6 (nlo a2 lo2 <| wrapN 2147483648 <| x+y),U i6 (nhi a2 hi2 <| wrapN 2147483648 <| x+y)],114) :: l):=by
 unfold BD at hm hm2 hn
 have HF:Hid (∀ w,_):=fun w=>refadd_32 x y w ha hb
 rw [← bw_eq]
 generalize x+y=p at HF ⊢
 have HN:Hid (∀ w2,St W0 w2 ((B,#[U i6 m,U i6 a,U i6 m2,U i6 a2,U i6 n,U i6 lo,U i6 hi,U i6 lo2,U i6 hi2],114) :: l)→_):=fun w2 s2=>rwr_any (U i6 m) (U i6 a) (U i6 m2) (U i6 a2) (U i6 lo) (U i6 hi) (U i6 lo2) (U i6 hi2) n (fitsN 2147483648 p) W0 w2 B l s2 hl (by omega)
 generalize n+bb (fitsN 2147483648 p)=n' at HN ⊢
 generalize wrapN 2147483648 p=V at HF ⊢
 generalize fitsN 2147483648 p=bo at HF HN ⊢
 have HS:Hid (St W0 W _):=s
 clear s
 by_cases h0:a2=0
 ·subst h0
  simp only [nlo,nhi,if_true]
  have q1:=min2 V V V (xmn_same V)
  have q2:=max2b V V V (xmx_same V)
  go_enter Tryz.func50,Tryz.ntmps50
  go_wp2_with fail
  refine (HF.out _).mono ?_
  rintro e w' ⟨rfl,rfl⟩
  go_wp2_with fail
  refine (HN.out _ HS.out).mono ?_
  rintro e w2 ⟨⟨v,rfl⟩,s2⟩
  clear HN HS HF
  obtain⟨c1,f1,z1,-⟩:=s2.rules
  have s3:=((((s2.set hl (i:=7) (v:=U i6 V)).set hl (i:=8) (v:=U i6 V)).set hl (i:=3) (v:=U i6 1)).set hl (i:=7) (v:=U i6 V)).set hl (i:=8) (v:=U i6 V)
  simp only [List.setIfInBounds_toArray,List.set_cons_succ,List.set_cons_zero] at s3
  have HS3:Hid (St W0 _ _):=s3
  clear s2 s3
  go_wp2
  go_ret
  exact⟨rfl,HS3.out⟩
 ·simp only [nlo,nhi,h0,if_false]
  obtain⟨L,hL⟩:∃ L,xmn lo2 V=L:=⟨_,rfl⟩
  obtain⟨H,hH⟩:∃ H,xmx hi2 V=H:=⟨_,rfl⟩
  have q1:=min2 lo2 V L hL
  have q2:=max2b hi2 V H hH
  rw [hL,hH]
  clear hL hH
  go_enter Tryz.func50,Tryz.ntmps50
  go_wp2_with fail
  refine (HF.out _).mono ?_
  rintro e w' ⟨rfl,rfl⟩
  go_wp2_with fail
  refine (HN.out _ HS.out).mono ?_
  rintro e w2 ⟨⟨v,rfl⟩,s2⟩
  clear HN HS HF
  obtain⟨c1,f1,z1,-⟩:=s2.rules
  have s3:=((s2.set hl (i:=3) (v:=U i6 (a2+1))).set hl (i:=7) (v:=U i6 L)).set hl (i:=8) (v:=U i6 H)
  simp only [List.setIfInBounds_toArray,List.set_cons_succ,List.set_cons_zero] at s3
  have HS3:Hid (St W0 _ _):=s3
  clear s2 s3
  go_wp2
  go_ret
  exact⟨rfl,HS3.out⟩
theorem Ty.ok.mu {N n:Int} {t:Ty} (h:t.ok n) (p:Int):(t.mu N p).ok (n+1):=by
 obtain⟨h1,h2,h3,h4,h5⟩:=h
 have b:=bw_bd N p
 exact⟨by simp only [Ty.mu];omega,by simp only [Ty.mu];omega,by simp only [Ty.mu];omega,h4,h5⟩
theorem rtmT_16 (s l:Ty) (x y:Int) (W0 W:World) (B:Nat) (L:List (Nat×Array Value×TypeId)) (st:St W0 W ((B,trk s l,114) :: L)) (hL:∀ x∈L,x.1≠B) (hs:s.ok BD) (hl:l.ok BD) (ha:-2147483648≤x∧x≤2147483647) (hb:-2147483648≤y∧y≤2147483647) :
  Calls Tryz.prog 51 #[.pointer (some ⟨B,0,none⟩),U i6 16,U i6 x,U i6 y] W fun e w'=>e=.returned (U i6 (wrapN 32768 (x*y)))∧St W0 w' ((B,trk (s.mu 32768 <| x*y) (l),114) :: L):=by
 obtain⟨h1,h2,-⟩:=hs
 obtain⟨g1,g2,-⟩:=hl
 refine (rtm_16 s.m s.a l.m l.a (s.w+l.w) s.l s.h l.l l.h x y W0 W B L st hL h1 g1 (by omega) ha hb).mono ?_
 rintro e w' ⟨rfl,h⟩
 refine⟨rfl,?_⟩
 have e1:s.w+l.w+bw 32768 (x*y)=s.w+bw 32768 (x*y)+l.w:=by omega
 have e2:s.w+l.w+bw 32768 (x*y)=s.w+(l.w+bw 32768 (x*y)):=by omega
 first
 | (rw [e1] at h;exact h)
 | (rw [e2] at h;exact h)
theorem rplT_16 (s l:Ty) (x y:Int) (W0 W:World) (B:Nat) (L:List (Nat×Array Value×TypeId)) (st:St W0 W ((B,trk s l,114) :: L)) (hL:∀ x∈L,x.1≠B) (hs:s.ok BD) (hl:l.ok BD) (ha:-2147483648≤x∧x≤2147483647) (hb:-2147483648≤y∧y≤2147483647) :
  Calls Tryz.prog 50 #[.pointer (some ⟨B,0,none⟩),U i6 16,U i6 x,U i6 y] W fun e w'=>e=.returned (U i6 (wrapN 32768 (x+y)))∧St W0 w' ((B,trk (s.ad 32768 <| x+y) (l),114) :: L):=by
 obtain⟨h1,h2,h3,-⟩:=hs
 obtain⟨g1,g2,g3,-⟩:=hl
 refine (rpl_16 s.m s.a l.m l.a (s.w+l.w) s.l s.h l.l l.h x y W0 W B L st hL h3 g3 (by omega) ha hb).mono ?_
 rintro e w' ⟨rfl,h⟩
 refine⟨rfl,?_⟩
 have e1:s.w+l.w+bw 32768 (x+y)=s.w+bw 32768 (x+y)+l.w:=by omega
 have e2:s.w+l.w+bw 32768 (x+y)=s.w+(l.w+bw 32768 (x+y)):=by omega
 first
 | (rw [e1] at h;exact h)
 | (rw [e2] at h;exact h)
theorem rtmT_32 (s l:Ty) (x y:Int) (W0 W:World) (B:Nat) (L:List (Nat×Array Value×TypeId)) (st:St W0 W ((B,trk s l,114) :: L)) (hL:∀ x∈L,x.1≠B) (hs:s.ok BD) (hl:l.ok BD) (ha:-2147483648≤x∧x≤2147483647) (hb:-2147483648≤y∧y≤2147483647) :
  Calls Tryz.prog 51 #[.pointer (some ⟨B,0,none⟩),U i6 32,U i6 x,U i6 y] W fun e w'=>e=.returned (U i6 (wrapN 2147483648 (x*y)))∧St W0 w' ((B,trk (s) (l.mu 2147483648 <| x*y),114) :: L):=by
 obtain⟨h1,h2,-⟩:=hs
 obtain⟨g1,g2,-⟩:=hl
 refine (rtm_32 s.m s.a l.m l.a (s.w+l.w) s.l s.h l.l l.h x y W0 W B L st hL h1 g1 (by omega) ha hb).mono ?_
 rintro e w' ⟨rfl,h⟩
 refine⟨rfl,?_⟩
 have e1:s.w+l.w+bw 2147483648 (x*y)=s.w+bw 2147483648 (x*y)+l.w:=by omega
 have e2:s.w+l.w+bw 2147483648 (x*y)=s.w+(l.w+bw 2147483648 (x*y)):=by omega
 first
 | (rw [e1] at h;exact h)
 | (rw [e2] at h;exact h)
theorem rplT_32 (s l:Ty) (x y:Int) (W0 W:World) (B:Nat) (L:List (Nat×Array Value×TypeId)) (st:St W0 W ((B,trk s l,114) :: L)) (hL:∀ x∈L,x.1≠B) (hs:s.ok BD) (hl:l.ok BD) (ha:-2147483648≤x∧x≤2147483647) (hb:-2147483648≤y∧y≤2147483647) :
  Calls Tryz.prog 50 #[.pointer (some ⟨B,0,none⟩),U i6 32,U i6 x,U i6 y] W fun e w'=>e=.returned (U i6 (wrapN 2147483648 (x+y)))∧St W0 w' ((B,trk (s) (l.ad 2147483648 <| x+y),114) :: L):=by
 obtain⟨h1,h2,h3,-⟩:=hs
 obtain⟨g1,g2,g3,-⟩:=hl
 refine (rpl_32 s.m s.a l.m l.a (s.w+l.w) s.l s.h l.l l.h x y W0 W B L st hL h3 g3 (by omega) ha hb).mono ?_
 rintro e w' ⟨rfl,h⟩
 refine⟨rfl,?_⟩
 have e1:s.w+l.w+bw 2147483648 (x+y)=s.w+bw 2147483648 (x+y)+l.w:=by omega
 have e2:s.w+l.w+bw 2147483648 (x+y)=s.w+(l.w+bw 2147483648 (x+y)):=by omega
 first
 | (rw [e1] at h;exact h)
 | (rw [e2] at h;exact h)
theorem rdot_32 (d N:Nat) (wa xa:Option Addr) (cw cx:Nat) (zs ys:List Int) (bi:Int) (W:World) (hN:N≤140737488355328) (hw:IRow .i64 W wa N cw zs) (hx:IRow .i64 W xa N cx ys)
  (hz:∀ z∈zs,-32768≤z∧z≤32767) (hy:∀ z∈ys,-128≤z∧z≤127) (hd:1≤d∧d≤N) (hb:-2147483648≤bi∧bi≤2147483647) (F:Ty×Int) (hF:gaT 2147483648 Ty.z bi (pz zs ys)=F) :
  Calls Tryz.prog 25 #[Sl wa N cw,Sl xa N cx,U i6 32,U i6 (d:Int),U i6 bi] W fun e w'=>e=.returned (.tuple #[U i6 F.2,.agg (trk Ty.z F.1)])∧Below W.heap.size W w':=by
 have hcw:=hw.2.1
 have hmw:=hw.2.2.1
 have hcx:=hx.2.1
 have hmx:=hx.2.2.1
 unfold maxLen at hmw hmx
 have hlz:Hid (zs.length=N):=hw.1
 have hly:Hid (ys.length=N):=hx.1
 have s0:=((St.start W).new (c:=#[U i6 0,U i6 0,U i6 0,U i6 0,U i6 0,U i6 0,U i6 0,U i6 0,U i6 0]) (t:=32)).new (c:=trk Ty.z Ty.z) (t:=114)
 simp only [World.size_alloc] at s0
 have HS:Hid (St W _ _):=s0
 have HF:Hid (gaT 2147483648 Ty.z bi (pz zs ys)=F):=hF
 clear s0 hF
 go_enter Tryz.func25,Tryz.ntmps25
 go_wp2
 go_loopw [13,14,19] (fun v p i wr=>∃ (k:Nat) (r:Int) (t:Ty),k≤N∧i=U i6 k∧v=U i6 r∧p=U i6 0∧(-2147483648≤r∧r≤2147483647)∧t.ok k∧St W wr [(W.heap.size+1,trk Ty.z t,114),(W.heap.size,#[U i6 0,U i6 0,U i6 0,U i6 0,U i6 0,U i6 0,U i6 0,U i6 0,U i6 0],32)]∧gaT 2147483648 t r ((pz zs ys).drop k)=F) (fun _ _ i _=>N-(intOf i).toNat)
 case atStart=>exact⟨0,bi,Ty.z,Nat.zero_le _,rfl,rfl,rfl,hb,Ty.ok_z,HS.out,HF.out⟩
 case round =>
  obtain⟨k,r,t,hk,rfl,rfl,rfl,hrb,htk,sk,hgk⟩:=hrel
  by_cases hlt:k<N
  ·obtain⟨x,c,rfl,hc,hwf,hmem,hdr⟩:=(hw.below sk.below).at hlt
   obtain⟨y,c',rfl,hc2,hwf2,hmem2,hdr2⟩:=(hx.below sk.below).at hlt
   have hcb:=hz c (List.mem_of_getElem? hmem)
   have hcb2:=hy c' (List.mem_of_getElem? hmem2)
   have HP:Hid ((pz zs ys).drop k=c*c' :: (pz zs ys).drop (k+1)):=pz_at hdr hdr2
   rw [HP.out] at hgk
   have HG:Hid (gaT 2147483648 (t.ma 2147483648 r (c*c')) (wrapN 2147483648 (r+wrapN 2147483648 (c*c'))) ((pz zs ys).drop (k+1))=F):=hgk
   have HTM:Hid ((t.ma 2147483648 r (c*c')).ok (k+1)):=htk.ma (by omega) _ _
   have hV:=wrapN_bd (N:=2147483648) (by omega) (c*c')
   have hV2:=wrapN_bd (N:=2147483648) (by omega) (r+wrapN 2147483648 (c*c'))
   have HV:Hid (-2147483648≤wrapN 2147483648 (r+wrapN 2147483648 (c*c'))∧wrapN 2147483648 (r+wrapN 2147483648 (c*c'))≤2147483647):=by unfold Hid;omega
   have hne:∀ x∈([(W.heap.size,#[U i6 0,U i6 0,U i6 0,U i6 0,U i6 0,U i6 0,U i6 0,U i6 0,U i6 0],32)]:List (Nat×Array Value×TypeId)),x.1≠W.heap.size+1:=by intro x hx;simp only [List.mem_singleton] at hx;subst hx;simp only;omega
   have HM:Hid (∀ w2,St W w2 [(W.heap.size+1,trk Ty.z t,114),(W.heap.size,#[U i6 0,U i6 0,U i6 0,U i6 0,U i6 0,U i6 0,U i6 0,U i6 0,U i6 0],32)]→_):=fun w2 s2=>rtmT_32 Ty.z t c c' W w2 _ _ s2 hne (Ty.ok_z.mono (by unfold BD;omega)) (htk.mono (by unfold BD;omega)) (by omega) (by omega)
   have HA:Hid (∀ w2,St W w2 [(W.heap.size+1,trk Ty.z (t.mu 2147483648 (c*c')),114),(W.heap.size,#[U i6 0,U i6 0,U i6 0,U i6 0,U i6 0,U i6 0,U i6 0,U i6 0,U i6 0],32)]→_):=fun w2 s2=>rplT_32 Ty.z (t.mu 2147483648 (c*c')) r (wrapN 2147483648 (c*c')) W w2 _ _ s2 hne (Ty.ok_z.mono (by unfold BD;omega)) ((htk.mu (c*c')).mono (by unfold BD;omega)) hrb (by omega)
   have HSK:Hid (St W wr _):=sk
   clear hV hV2 HP hwf hwf2 hdr hdr2 hgk htk hmem hmem2 hne sk
   go_upto_region 8 with fail
   go_cut [13] from 24 to 34 (fun v13 wx=>v13=U i6 (wrapN 2147483648 (r+wrapN 2147483648 (c*c')))∧St W wx [(W.heap.size+1,trk Ty.z (t.ma 2147483648 r (c*c')),114),(W.heap.size,#[U i6 0,U i6 0,U i6 0,U i6 0,U i6 0,U i6 0,U i6 0,U i6 0,U i6 0],32)])
   case first =>
    go_region_with (first | (go_at_call 51;refine (HM.out _ (St.drew HSK.out)).mono ?_;rintro e w2 ⟨rfl,s2⟩) | (go_at_call 50;refine (HA.out _ s2).mono ?_;rintro e w3 ⟨rfl,s3⟩))
    all_goals (go_wp2_with fail;go_meet;case rel=>exact⟨rfl,s3⟩)
   case rest =>
    obtain⟨rfl,s3⟩:=hcut
    clear HM HA
    go_wp2
    go_roundw
    case rel=>exact⟨k+1,_,_,by omega,by go_num,rfl,rfl,HV.out,by have:=HTM.out;simpa using this,s3,HG.out⟩
    case measure=>simp [intOf];omega
  ·have hT:(pz zs ys).drop k=[]:=List.drop_of_length_le (by rw [pz_len (by rw [hlz.out,hly.out]),hlz.out];omega)
   rw [hT] at hgk
   have HG:Hid ((t,r)=F):=hgk
   clear hT hgk
   have hF2:=HG.out
   obtain⟨F1,F2⟩:=F
   cases hF2
   obtain⟨m,wq,a,lo,hi⟩:=t
   simp only [trk,Ty.z,Int.zero_add] at sk
   obtain⟨c1,f1,z1,c2,f2,z2,-⟩:=sk.rules
   have s4:=(sk.up1.down.set9 (U i6 0) (U i6 0) (U i6 m) (U i6 a) (U i6 wq) (U i6 0) (U i6 0) (U i6 lo) (U i6 hi) (fun x hx=>by cases hx)).drew
   have HS6:Hid (Below W.heap.size W _):=s4.below
   obtain⟨c6,-⟩:=s4.rules
   have HC6:Hid (∀ i,_):=c6
   clear s4 c6
   go_upto_region 14 with fail
   go_region
   go_wp2
   exact bodyPost_ret (v:=.tuple #[U i6 r,.agg #[U i6 0,U i6 0,U i6 m,U i6 a,U i6 wq,U i6 0,U i6 0,U i6 lo,U i6 hi]]) (by have c6:=HC6.out;simp [results,Tryz.results25,go_sem,c6]) rfl ⟨by simp [trk,Ty.z],HS6.out⟩
end Go.Proofs.YtehofmkpgopmpaaGreat
