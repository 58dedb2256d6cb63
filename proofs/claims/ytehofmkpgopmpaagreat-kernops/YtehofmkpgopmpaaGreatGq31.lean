/- What the document's Op of layer 21 returns of an op that reduces. -/
import Derived.Test.YtehofmkpgopmpaaGreatGq21
import Derived.Test.YtehofmkpgopmpaaGreatGq27
import Derived.Test.YtehofmkpgopmpaaGreatGq29
import Derived.Test.YtehofmkpgopmpaaGreatGq30
import Derived.Deep.DeepCutAuto
namespace Go.Proofs.YtehofmkpgopmpaaGreat.Kr
open Go.Value renaming int → U, slice → Sl
open Go.IntKind renaming i64 → i6
set_option maxRecDepth 100000
set_option maxHeartbeats 16000000
open Go.ChangeShapes Go.WideShapes Go.ChangeAt Go.RowKit
set_option linter.unusedVariables false
theorem rop_r (h0 w0 c0 lo0 hi0 ot:Int) (x:Addr) (on oc:Nat) (k a b m kh kw sh sw tp lf bt rt:Int) (wa:Option Addr) (lw cw:Nat) (ba:Option Addr) (lb bc:Nat) (sm ss um us z p lo hi h w c H V C:Int) (zs bs:List Int) (i ja:Nat) (RL:List (Int×Int×Int)) (W:World)
  (hS:∀ W',Below W.heap.size W W'→Calls Tryz.prog 15 #[.agg #[U i6 h0,U i6 w0,U i6 c0,U i6 lo0,U i6 hi0,Sl (some x) on oc,U i6 ot]] W' fun e w'=>∃ v wk,e=.returned (.tuple #[v,U i6 wk,.agg #[U i6 0,U i6 0,U i6 0]])∧OSh w' W'.heap.size v RL∧Below W'.heap.size W' w')
  (hRl:RL.length=on+1) (hoc:on≤oc) (hom:oc≤9223372036854775807) (ho64:on≤64) (hA:RL.getD ja (0,0,0)=(h,w,c)) (hB:RL.getD (i+1) (0,0,0)=(H,V,C)) (hil:i<on) (hja:ja≤i) (ha:a=(ja:Int))
  (hop:∀ q v,[U i6 k,U i6 a,U i6 b,U i6 m,U i6 kh,U i6 kw,U i6 sh,U i6 sw,U i6 tp,U i6 lf,U i6 bt,U i6 rt,Sl wa lw cw,Sl ba lb bc,U i6 sm,U i6 ss,U i6 um,U i6 us,U i6 z,U i6 p,U i6 lo,U i6 hi][q]? = some v→W.cell? ((x.add (i*22)).add q)=some v) (s:Opd k b m kh kw sh sw tp lf bt rt lw lb sm ss um us z p lo hi h w c H V C) (hk:k≤4) (hZ:IRow .i16 W wa lw cw zs) (hBs:IRow .i32 W ba lb bc bs)
  (pa:Option Addr) (pl pc:Nat) (PS:List Pl) (hPS:ERow 6 pcs W pa pl pc PS) (hok:Pok (stR k kh kw h w c) C PS) (ad:Option Addr) (n cap:Nat) (xs:List Int) (hX:IRow .i8 W ad n cap xs) (hn:(n:Int)=h*w*c) (bd:Option Addr) (nb capb:Nat) :
  Calls Tryz.prog 9 #[.agg #[U i6 h0,U i6 w0,U i6 c0,U i6 lo0,U i6 hi0,Sl (some x) on oc,U i6 ot],U i6 ((i:Int)+1),Sl pa pl pc,Sl ad n cap,Sl bd nb capb] W fun e w'=>(∃ v,e=.returned (.tuple #[v,.agg (dsT k kh kw sh sw tp lf bt rt h w c C p zs bs xs PS (H*V*C).toNat).cs])∧Own .i8 72 w' W.heap.size v ((dsL k kh kw sh sw tp lf bt rt h w c C p zs bs xs PS (H*V*C).toNat).map fun t=>hoV k sm ss z lo hi t (stR k kh kw h w c)))∧Below W.heap.size W w':=by
 subst ha
 have hp8:I8 p:=by have:=s.rz;unfold rzB vlB at this;simp at this;exact⟨this.2.1,this.2.2⟩
 have hsit:=s.si hk
 have hk8:=s.hk
 have hrd:rdB k=true:=decide_eq_true ⟨hk8.1,hk⟩
 have n1:=hsit.2.2.2.2.2.2.2.2.1
 have n2:=hsit.2.2.2.2.2.2.2.2.2
 have HS:Hid (∀ W',Below W.heap.size W W'→_):=hS
 have HOP:Hid (∀ q v,[U i6 k,U i6 (ja:Int),U i6 b,U i6 m,U i6 kh,U i6 kw,U i6 sh,U i6 sw,U i6 tp,U i6 lf,U i6 bt,U i6 rt,Sl wa lw cw,Sl ba lb bc,U i6 sm,U i6 ss,U i6 um,U i6 us,U i6 z,U i6 p,U i6 lo,U i6 hi][q]? = some v→W.cell? ((x.add (i*22)).add q)=some v):=hop
 have HPo:Hid (∀ W',Calls Tryz.prog 23 #[.agg #[U i6 k,U i6 (ja:Int),U i6 b,U i6 m,U i6 kh,U i6 kw,U i6 sh,U i6 sw,U i6 tp,U i6 lf,U i6 bt,U i6 rt,Sl wa lw cw,Sl ba lb bc,U i6 sm,U i6 ss,U i6 um,U i6 us,U i6 z,U i6 p,U i6 lo,U i6 hi,U i6 h,U i6 w,U i6 c,U i6 H,U i6 V,U i6 C]] W' fun e w'=>e=.returned (U i6 (H*V))∧Below W'.heap.size W' w'):=fun W'=>rpos_any k ja b m kh kw sh sw tp lf bt rt wa lw cw ba lb bc sm ss um us z p lo hi h w c H V C W' s.hB
 have HTe:Hid (∀ (w':World),Below W.heap.size W w'→∀ (ch at':Int),(1≤ch∧ch≤C)→(0≤at'∧at'<H*V)→Calls Tryz.prog 24 #[.agg #[U i6 k,U i6 (ja:Int),U i6 b,U i6 m,U i6 kh,U i6 kw,U i6 sh,U i6 sw,U i6 tp,U i6 lf,U i6 bt,U i6 rt,Sl wa lw cw,Sl ba lb bc,U i6 sm,U i6 ss,U i6 um,U i6 us,U i6 z,U i6 p,U i6 lo,U i6 hi,U i6 h,U i6 w,U i6 c,U i6 H,U i6 V,U i6 C],U i6 ch,U i6 at'] w' fun e w''=>(∃ v,e=.returned v∧OTm w'' w'.heap.size v (siL k kh kw sh sw tp lf bt rt h w c ch at' zs))∧Below w'.heap.size w' w'') :=
  fun w' hb ch at' hch hat=>rterms_any k ja b m kh kw sh sw tp lf bt rt wa lw cw ba lb bc sm ss um us z p lo hi h w c H V C w' zs (hZ.below hb) hsit ch at' hch hat
 have HBi:Hid (∀ (w':World),Below W.heap.size W w'→∀ (ch:Int),(1≤ch∧ch≤C)→Calls Tryz.prog 26 #[.agg #[U i6 k,U i6 (ja:Int),U i6 b,U i6 m,U i6 kh,U i6 kw,U i6 sh,U i6 sw,U i6 tp,U i6 lf,U i6 bt,U i6 rt,Sl wa lw cw,Sl ba lb bc,U i6 sm,U i6 ss,U i6 um,U i6 us,U i6 z,U i6 p,U i6 lo,U i6 hi,U i6 h,U i6 w,U i6 c,U i6 H,U i6 V,U i6 C],U i6 ch] w' fun e w''=>e=.returned (U i6 (biA k ch bs))∧Below w'.heap.size w' w'') :=
  fun w' hb ch hch=>rbias_any k ja b m kh kw sh sw tp lf bt rt wa lw cw ba lb bc sm ss um us z p lo hi h w c H V C w' bs (hBs.below hb) hsit ch hch
 have hTLn:∀ ch at',(siL k kh kw sh sw tp lf bt rt h w c ch at' zs).length=(stR k kh kw h w c).toNat:=fun ch at'=>by unfold siL;rw [tmL_len]
 have hTfa:∀ ch at',(1≤ch∧ch≤C)→∀ t∈siL k kh kw sh sw tp lf bt rt h w c ch at' zs,(-32768≤t.1∧t.1≤32767)∧(t.2 = -1∨(0≤t.2∧t.2<(n:Int))):=fun ch at' hch=>by rw [hn];exact (siL_facts hsit hZ.2.2.2.1 hch at').2
 obtain⟨LN,hLN⟩:∃ LN:Nat,stR k kh kw h w c=(LN:Int):=⟨(stR k kh kw h w c).toNat,by omega⟩
 have HLe:Hid (∀ W',Calls Tryz.prog 28 #[.agg #[U i6 k,U i6 (ja:Int),U i6 b,U i6 m,U i6 kh,U i6 kw,U i6 sh,U i6 sw,U i6 tp,U i6 lf,U i6 bt,U i6 rt,Sl wa lw cw,Sl ba lb bc,U i6 sm,U i6 ss,U i6 um,U i6 us,U i6 z,U i6 p,U i6 lo,U i6 hi,U i6 h,U i6 w,U i6 c,U i6 H,U i6 V,U i6 C]] W' fun e w'=>e=.returned (U i6 (LN:Int))∧Below W'.heap.size W' w'):=fun W'=>by rw [← hLN];exact rlen_any k ja b m kh kw sh sw tp lf bt rt wa lw cw ba lb bc sm ss um us z p lo hi h w c H V C W' hsit
 rw [hLN] at n1 n2 hTLn hok ⊢
 simp only [Int.toNat_natCast] at hTLn
 have HHo:Hid (∀ (W':World) (t:Int),(-2147483648≤t∧t≤2147483647)→Calls Tryz.prog 27 #[.agg #[U i6 k,U i6 (ja:Int),U i6 b,U i6 m,U i6 kh,U i6 kw,U i6 sh,U i6 sw,U i6 tp,U i6 lf,U i6 bt,U i6 rt,Sl wa lw cw,Sl ba lb bc,U i6 sm,U i6 ss,U i6 um,U i6 us,U i6 z,U i6 p,U i6 lo,U i6 hi],U i6 t,U i6 (LN:Int)] W' fun e w'=>e=.returned (.int .i8 (hoV k sm ss z lo hi t (LN:Int)))∧Below W'.heap.size W' w') :=
  fun W' t ht=>home_any k ja b m kh kw sh sw tp lf bt rt wa lw cw ba lb bc sm ss um us z p lo hi t LN W' (by unfold I64;omega) (by unfold I64;omega)
 have H8:Hid (∀ t,I8 (hoV k sm ss z lo hi t (LN:Int))):=fun t=>by unfold hoV; split<;>exact fiV_i8
 have HDt:Hid (∀ (w':World) (ch at':Int) (i:Nat) (q:Pl),(1≤ch∧ch≤C)→ch=(i:Int)+1→PS[i]? = some q→∀ (va vb:Option Addr) (ca cb:Nat),IRow .i64 w' va LN ca ((siL k kh kw sh sw tp lf bt rt h w c ch at' zs).map Prod.fst)→IRow .i64 w' vb LN cb ((siL k kh kw sh sw tp lf bt rt h w c ch at' zs).map (nmT p xs)) →
   Calls Tryz.prog 25 #[Sl va LN ca,Sl vb LN cb,U i6 q.1,U i6 q.2.1,U i6 (biA k ch bs)] w' fun e w''=>e=.returned (.tuple #[U i6 (dsF k kh kw sh sw tp lf bt rt h w c C p zs bs xs PS ch at').2.2,.agg (Tr.of (dsF k kh kw sh sw tp lf bt rt h w c C p zs bs xs PS ch at').1 (dsF k kh kw sh sw tp lf bt rt h w c C p zs bs xs PS ch at').2.1).cs])∧Below w'.heap.size w' w'') :=
  fun w' ch at' i q hch hi hq va vb ca cb hP hQ=>by
   have hil:i<PS.length:=(List.getElem?_eq_some_iff.1 hq).1
   have hgd:PS.getD i (0,0,0,0,0,0)=q:=by rw [List.getD_eq_getElem?_getD,hq];rfl
   have hpc:pcA PS ch=q:=by unfold pcA;rw [hi,show ((i:Int)+1-1).toNat=i by omega,hgd]
   have hE:=hok.2 i hil
   rw [hgd] at hE
   refine rdot_ok LN va vb ca cb _ _ q.1 q.2.1 (biA k ch bs) w' (by omega) hP hQ (fun v hv=>?_) (fun v hv=>?_) (rfE_of (by omega) hE) (biA_bd hBs.2.2.2.1) _ ?_
   ·obtain⟨t,ht,rfl⟩:=List.mem_map.1 hv
    exact (hTfa ch at' hch t ht).1
   ·obtain⟨t,ht,rfl⟩:=List.mem_map.1 hv
    exact nmT_i8 hp8 hX.i8 t
   ·rw [pz_sm];unfold dsF;rw [hpc]
 have HFb:Hid (∀ ch at':Int,(1≤ch∧ch≤C)→((dsF k kh kw sh sw tp lf bt rt h w c C p zs bs xs PS ch at').1.ok 512∧(dsF k kh kw sh sw tp lf bt rt h w c C p zs bs xs PS ch at').2.1.ok 512)∧(-2147483648≤(dsF k kh kw sh sw tp lf bt rt h w c C p zs bs xs PS ch at').2.2∧(dsF k kh kw sh sw tp lf bt rt h w c C p zs bs xs PS ch at').2.2≤2147483647)):=fun ch at' hch=>dsF_ok hsit hZ.2.2.2.1 hBs.2.2.2.1 hch at'
 have HTb:Hid (∀ j:Nat,(dsT k kh kw sh sw tp lf bt rt h w c C p zs bs xs PS j).ok (512*j)):=fun j=>dsT_ok hsit hZ.2.2.2.1 hBs.2.2.2.1 j
 have HTL:Hid (∀ ch at',(siL k kh kw sh sw tp lf bt rt h w c ch at' zs).length=LN):=hTLn
 have HTF:Hid (∀ ch at',(1≤ch∧ch≤C)→∀ t∈siL k kh kw sh sw tp lf bt rt h w c ch at' zs,(-32768≤t.1∧t.1≤32767)∧(t.2 = -1∨(0≤t.2∧t.2<(n:Int)))):=hTfa
 have HPS:Hid (ERow 6 pcs W pa pl pc PS):=hPS
 have HX:Hid (IRow .i8 W ad n cap xs):=hX
 have hpl:(pl:Int)=C:=by rw [← hPS.1];exact hok.1
 have hpc:=hPS.2.1
 have hpm:=hPS.2.2.1
 have hxc:=hX.2.1
 have hxm:=hX.2.2.1
 obtain⟨hH,hV,hC,-⟩:=vS_yes s.hB
 have p3:=vS_bd s.hB
 unfold maxLen at hpm hxm
 have HRl:Hid (RL.length=on+1):=hRl
 have HA9:Hid (RL.getD ja (0,0,0)=(h,w,c)):=hA
 clear hS hop hZ hBs hPS hok hX hTLn hTfa hsit s hLN hRl hA hn
 obtain⟨CN,rfl⟩:∃ CN:Nat,C=(CN:Int):=⟨C.toNat,by omega⟩
 obtain rfl:pl=CN:=by omega
 have HB9:Hid (RL.getD (i+1) (0,0,0)=(H,V,(pl:Int))):=hB
 obtain⟨PP,hPP⟩:∃ P:Nat,H*V=(P:Int):=⟨(H*V).toNat,by omega⟩
 rw [hPP] at HPo HTe p3 ⊢
 obtain⟨N,hN⟩:∃ N:Nat,(PP:Int)*(pl:Int)=(N:Int):=⟨PP*pl,by rw [Int.natCast_mul]⟩
 have HNN:Hid (PP*pl=N):=by
  have:((PP*pl:Nat):Int)=(N:Int):=by rw [Int.natCast_mul];exact hN
  unfold Hid;omega
 rw [hN] at p3 ⊢
 rw [Int.toNat_natCast]
 clear hN hpl hB
 have s0:=((St.start W).new (c:=#[U i6 h0,U i6 w0,U i6 c0,U i6 lo0,U i6 hi0,Sl (some x) on oc,U i6 ot]) (t:=26)).new (c:=Tr.z.cs) (t:=32)
 simp only [World.size_alloc] at s0
 have S0:Hid (St W _ [(W.heap.size+1,Tr.z.cs,32),(W.heap.size,#[U i6 h0,U i6 w0,U i6 c0,U i6 lo0,U i6 hi0,Sl (some x) on oc,U i6 ot],26)]):=s0
 clear s0
 go_enter Tryz.func9,Tryz.ntmps9
 go_wp2_with fail
 refine Calls.mono (HS.out _ S0.out.below) ?_
 rintro e w1 ⟨v,wk,rfl,hSh,hb⟩
 obtain⟨gs,caps,rfl,hcap,hcapm,hsh⟩:=osh9 hSh HRl.out
 have hsA:=hsh ja (by omega) h w c HA9.out
 have hsB:=hsh (i+1) (by omega) H V pl HB9.out
 have HSA:Hid (∀ w',Below w1.heap.size w1 w'→∀ j u,[Value.int .i64 h,U i6 w,U i6 c][j]? = some u→w'.cell? ((⟨gs,ja*3,none⟩:Addr).add j)=some u):=fun w' hb j u hj=>(hb.cell (World.block_lt_of_cell? w1 _ (hsA j u hj))).trans (hsA j u hj)
 have HSB:Hid (∀ w',Below w1.heap.size w1 w'→∀ j u,[Value.int .i64 H,U i6 V,U i6 (pl:Int)][j]? = some u→w'.cell? ((⟨gs,(i+1)*3,none⟩:Addr).add j)=some u):=fun w' hb j u hj=>(hb.cell (World.block_lt_of_cell? w1 _ (hsB j u hj))).trans (hsB j u hj)
 have S1:Hid (St W w1 [(W.heap.size+1,Tr.z.cs,32),(W.heap.size,#[U i6 h0,U i6 w0,U i6 c0,U i6 lo0,U i6 hi0,Sl (some x) on oc,U i6 ot],26)]):=S0.out.call hb
 clear hb hSh hsh HS S0 hsA hsB
 obtain⟨q1,g1,y1,q2,g2,y2,-⟩:=S1.out.rules
 go_upto_region 2 with fail
 have s2:=S1.out.new (c:=#[U i6 0,U i6 0,U i6 0]) (t:=35)
 have hb2:=bal w1 (.cells #[U i6 0,U i6 0,U i6 0] 35)
 obtain⟨fb,hfb⟩:∃ fb,w1.heap.size=fb:=⟨_,rfl⟩
 obtain⟨w2,hw2⟩:∃ w2,w1.alloc (.cells #[U i6 0,U i6 0,U i6 0] 35)=w2:=⟨_,rfl⟩
 rw [hw2,hfb] at s2
 rw [hw2] at hb2
 rw [hw2,hfb]
 have S2:Hid (St W w2 ((fb,#[U i6 0,U i6 0,U i6 0],35) :: [(W.heap.size+1,Tr.z.cs,32),(W.heap.size,#[U i6 h0,U i6 w0,U i6 c0,U i6 lo0,U i6 hi0,Sl (some x) on oc,U i6 ot],26)])):=s2
 have HB12:Hid (Below w1.heap.size w1 w2):=hb2
 clear hw2 hfb s2 hb2 S1 q1 g1 y1 q2 g2 y2
 obtain⟨q0,g0,y0,q1,g1,y1,q2,g2,y2,-⟩:=S2.out.rules
 have hcel:Hid (∀ q v,[U i6 k,U i6 (ja:Int),U i6 b,U i6 m,U i6 kh,U i6 kw,U i6 sh,U i6 sw,U i6 tp,U i6 lf,U i6 bt,U i6 rt,Sl wa lw cw,Sl ba lb bc,U i6 sm,U i6 ss,U i6 um,U i6 us,U i6 z,U i6 p,U i6 lo,U i6 hi][q]? = some v→w2.cell? ((x.add (i*22)).add q)=some v):=fun q v hq=>(S2.out.below.cell (World.block_lt_of_cell? W _ (HOP.out q v hq))).trans (HOP.out q v hq)
 go_upto_region 3 with (first
  | (refine wpList_load_any rfl 55 (.tmp 38) rfl _ rfl [U i6 k,U i6 (ja:Int),U i6 b,U i6 m,U i6 kh,U i6 kw,U i6 sh,U i6 sw,U i6 tp,U i6 lf,U i6 bt,U i6 rt,Sl wa lw cw,Sl ba lb bc,U i6 sm,U i6 ss,U i6 um,U i6 us,U i6 z,U i6 p,U i6 lo,U i6 hi] _ hcel.out Tryz.underlying55 rfl (by kernel_rfl) ?_)
  | (refine wpList_st_new rfl 55 (.tmp 15) (.tmp 39) rfl w2 #[U i6 0,U i6 0,U i6 0,U i6 0,U i6 0,U i6 0,U i6 0,U i6 0,U i6 0,U i6 0,U i6 0,U i6 0,Sl none 0 0,Sl none 0 0,U i6 0,U i6 0,U i6 0,U i6 0,U i6 0,U i6 0,U i6 0,U i6 0] #[U i6 k,U i6 (ja:Int),U i6 b,U i6 m,U i6 kh,U i6 kw,U i6 sh,U i6 sw,U i6 tp,U i6 lf,U i6 bt,U i6 rt,Sl wa lw cw,Sl ba lb bc,U i6 sm,U i6 ss,U i6 um,U i6 us,U i6 z,U i6 p,U i6 lo,U i6 hi] rfl rfl (by kernel_rfl) rfl (by simp [Value.oneCell']) ?_))
 have s3:=S2.out.new (c:=#[U i6 k,U i6 (ja:Int),U i6 b,U i6 m,U i6 kh,U i6 kw,U i6 sh,U i6 sw,U i6 tp,U i6 lf,U i6 bt,U i6 rt,Sl wa lw cw,Sl ba lb bc,U i6 sm,U i6 ss,U i6 um,U i6 us,U i6 z,U i6 p,U i6 lo,U i6 hi]) (t:=55)
 have hb3:=bal w2 (.cells #[U i6 k,U i6 (ja:Int),U i6 b,U i6 m,U i6 kh,U i6 kw,U i6 sh,U i6 sw,U i6 tp,U i6 lf,U i6 bt,U i6 rt,Sl wa lw cw,Sl ba lb bc,U i6 sm,U i6 ss,U i6 um,U i6 us,U i6 z,U i6 p,U i6 lo,U i6 hi] 55)
 obtain⟨ob,hob⟩:∃ ob,w2.heap.size=ob:=⟨_,rfl⟩
 obtain⟨w3,hw3⟩:∃ w3,w2.alloc (.cells #[U i6 k,U i6 (ja:Int),U i6 b,U i6 m,U i6 kh,U i6 kw,U i6 sh,U i6 sw,U i6 tp,U i6 lf,U i6 bt,U i6 rt,Sl wa lw cw,Sl ba lb bc,U i6 sm,U i6 ss,U i6 um,U i6 us,U i6 z,U i6 p,U i6 lo,U i6 hi] 55)=w3:=⟨_,rfl⟩
 rw [hw3,hob] at s3
 rw [hw3] at hb3
 rw [hw3,hob]
 have S3:Hid (St W w3 ((ob,#[U i6 k,U i6 (ja:Int),U i6 b,U i6 m,U i6 kh,U i6 kw,U i6 sh,U i6 sw,U i6 tp,U i6 lf,U i6 bt,U i6 rt,Sl wa lw cw,Sl ba lb bc,U i6 sm,U i6 ss,U i6 um,U i6 us,U i6 z,U i6 p,U i6 lo,U i6 hi],55) :: (W.heap.size+1,Tr.z.cs,32) :: [])):=s3.sub (by simp)
 have HSA3:Hid (∀ w',Below w3.heap.size w3 w'→∀ j u,[Value.int .i64 h,U i6 w,U i6 c][j]? = some u→w'.cell? ((⟨gs,ja*3,none⟩:Addr).add j)=some u):=fun w' q=>HSA.out w' (btr (btr HB12.out hb3) q)
 have HSB3:Hid (∀ w',Below w3.heap.size w3 w'→∀ j u,[Value.int .i64 H,U i6 V,U i6 (pl:Int)][j]? = some u→w'.cell? ((⟨gs,(i+1)*3,none⟩:Addr).add j)=some u):=fun w' q=>HSB.out w' (btr (btr HB12.out hb3) q)
 clear hw3 hob s3 hb3 q0 g0 y0 q1 g1 y1 q2 g2 y2 hcel HOP HSA HSB HB12 S2
 rw [put_none9]
 obtain⟨c1,f1,z1,c2,f2,z2,-⟩:=S3.out.rules
 go_wp2_with fail
 refine (rred_any _ _).mono ?_
 rintro e w4 ⟨rfl,hw4⟩
 have hw4':=hw4.symm
 subst hw4'
 clear hw4
 rw [hrd]
 clear c1 f1 z1 c2 f2 z2
 go_upto_region 7 with fail
 refine regionC (fun w'=>Below w3.heap.size w3 w') (by kernel_rfl) ?_
 obtain⟨wd,hwd⟩:∃ wd,w3.drew=wd:=⟨_,rfl⟩
 have HD:Hid (Below w3.heap.size w3 wd):=by unfold Hid;rw [← hwd];exact (Below.refl _ _).drew
 rw [hwd]
 clear hwd
 have G2:Hid (∀ w',Below w3.heap.size w3 w'→w'.heap[ob]? = some (.cells #[U i6 k,U i6 (ja:Int),U i6 b,U i6 m,U i6 kh,U i6 kw,U i6 sh,U i6 sw,U i6 tp,U i6 lf,U i6 bt,U i6 rt,Sl wa lw cw,Sl ba lb bc,U i6 sm,U i6 ss,U i6 um,U i6 us,U i6 z,U i6 p,U i6 lo,U i6 hi] 55 (0,0))):=fun w' q=>(S3.out.call q).h1
 refine takeC 0 (v:=.agg #[U i6 k,U i6 (ja:Int),U i6 b,U i6 m,U i6 kh,U i6 kw,U i6 sh,U i6 sw,U i6 tp,U i6 lf,U i6 bt,U i6 rt,Sl wa lw cw,Sl ba lb bc,U i6 sm,U i6 ss,U i6 um,U i6 us,U i6 z,U i6 p,U i6 lo,U i6 hi]) rfl rfl (by kernel_rfl) (by kernel_rfl) (by kernel_rfl) (fun _ _ _ h=>h) (fun _=>rfl) rfl (fun w' hw'=>run_la 55 (.tmp 15) rfl ⟨ob,0,none⟩ (by kernel_rfl) [U i6 k,U i6 (ja:Int),U i6 b,U i6 m,U i6 kh,U i6 kw,U i6 sh,U i6 sw,U i6 tp,U i6 lf,U i6 bt,U i6 rt,Sl wa lw cw,Sl ba lb bc,U i6 sm,U i6 ss,U i6 um,U i6 us,U i6 z,U i6 p,U i6 lo,U i6 hi] _ (lcells (G2.out w' hw') (fget [U i6 k,U i6 (ja:Int),U i6 b,U i6 m,U i6 kh,U i6 kw,U i6 sh,U i6 sw,U i6 tp,U i6 lf,U i6 bt,U i6 rt,Sl wa lw cw,Sl ba lb bc,U i6 sm,U i6 ss,U i6 um,U i6 us,U i6 z,U i6 p,U i6 lo,U i6 hi] [])) Tryz.underlying55 rfl (by kernel_rfl)) ?_
 refine takeC 1 (v:=.slice (some ⟨gs,0,none⟩) (on+1) caps) rfl rfl (by kernel_rfl) (by kernel_rfl) (by kernel_rfl) (fun _ _ _ h=>h) (fun _=>rfl) rfl (fun w' hw'=>by go_simp) ?_
 refine takeC 2 (v:=.pointer (some ⟨ob,1,none⟩)) rfl rfl (by kernel_rfl) (by kernel_rfl) (by kernel_rfl) (fun _ _ _ h=>h) (fun _=>rfl) rfl (fun w' hw'=>by go_simp) ?_
 refine takeC 3 (v:=U i6 (ja:Int)) rfl rfl (by kernel_rfl) (by kernel_rfl) (by kernel_rfl) (fun _ _ _ h=>h) (fun _=>rfl) rfl (fun w' hw'=>by have hc:=(cells_at (G2.out w' hw')).1 1;go_simp) ?_
 refine takeC 4 (v:=.pointer (some ⟨gs,ja*3,none⟩)) rfl rfl (by kernel_rfl) (by kernel_rfl) (by kernel_rfl) (fun _ _ _ h=>h) (fun _=>rfl) rfl (fun w' hw'=>by go_simp;try omega) ?_
 refine takeC 5 (v:=.agg #[U i6 h,U i6 w,U i6 c]) rfl rfl (by kernel_rfl) (by kernel_rfl) (by kernel_rfl) (fun _ _ _ h=>h) (fun _=>rfl) rfl (fun w' hw'=>run_la 23 (.tmp 66) rfl ⟨gs,ja*3,none⟩ (by kernel_rfl) [U i6 h,U i6 w,U i6 c] _ (HSA3.out w' hw') Tryz.underlying23 rfl (by kernel_rfl)) ?_
 refine takeC 6 (v:=.slice (some ⟨gs,0,none⟩) (on+1) caps) rfl rfl (by kernel_rfl) (by kernel_rfl) (by kernel_rfl) (fun _ _ _ h=>h) (fun _=>rfl) rfl (fun w' hw'=>by go_simp) ?_
 refine takeC 7 (v:=U i6 ((i:Int)+1)) rfl rfl (by kernel_rfl) (by kernel_rfl) (by kernel_rfl) (fun _ _ _ h=>h) (fun _=>rfl) rfl (fun w' hw'=>by go_simp) ?_
 refine takeC 8 (v:=.pointer (some ⟨gs,(i+1)*3,none⟩)) rfl rfl (by kernel_rfl) (by kernel_rfl) (by kernel_rfl) (fun _ _ _ h=>h) (fun _=>rfl) rfl (fun w' hw'=>by go_simp;try omega) ?_
 refine takeC 9 (v:=.agg #[U i6 H,U i6 V,U i6 (pl:Int)]) rfl rfl (by kernel_rfl) (by kernel_rfl) (by kernel_rfl) (fun _ _ _ h=>h) (fun _=>rfl) rfl (fun w' hw'=>run_la 23 (.tmp 70) rfl ⟨gs,(i+1)*3,none⟩ (by kernel_rfl) [U i6 H,U i6 V,U i6 (pl:Int)] _ (HSB3.out w' hw') Tryz.underlying23 rfl (by kernel_rfl)) ?_
 refine takeC 10 (v:=.agg #[U i6 k,U i6 (ja:Int),U i6 b,U i6 m,U i6 kh,U i6 kw,U i6 sh,U i6 sw,U i6 tp,U i6 lf,U i6 bt,U i6 rt,Sl wa lw cw,Sl ba lb bc,U i6 sm,U i6 ss,U i6 um,U i6 us,U i6 z,U i6 p,U i6 lo,U i6 hi,U i6 h,U i6 w,U i6 c,U i6 H,U i6 V,U i6 (pl:Int)]) rfl rfl (by kernel_rfl) (by kernel_rfl) (by kernel_rfl) (fun _ _ _ h=>h) (fun _=>rfl) rfl (fun w' hw'=>by kernel_rfl) ?_
 refine stepR 11 HD.out (by kernel_rfl) rfl rfl (.pointer (some ⟨wd.heap.size,0,none⟩)) (wd.alloc (.cells #[U i6 0,U i6 0,U i6 0,U i6 0,U i6 0,U i6 0,U i6 0,U i6 0,U i6 0,U i6 0,U i6 0,U i6 0,Sl none 0 0,Sl none 0 0,U i6 0,U i6 0,U i6 0,U i6 0,U i6 0,U i6 0,U i6 0,U i6 0,U i6 0,U i6 0,U i6 0,U i6 0,U i6 0,U i6 0] 76)) (by kernel_rfl) ?_
 have HD1:Hid (Below w3.heap.size w3 (wd.alloc (.cells #[U i6 0,U i6 0,U i6 0,U i6 0,U i6 0,U i6 0,U i6 0,U i6 0,U i6 0,U i6 0,U i6 0,U i6 0,Sl none 0 0,Sl none 0 0,U i6 0,U i6 0,U i6 0,U i6 0,U i6 0,U i6 0,U i6 0,U i6 0,U i6 0,U i6 0,U i6 0,U i6 0,U i6 0,U i6 0] 76))):=btr HD.out (bal _ _)
 refine stepS 12 HD1.out (by kernel_rfl) rfl rfl 76 (.tmp 16) (.tmp 72) rfl wd.heap.size #[U i6 k,U i6 (ja:Int),U i6 b,U i6 m,U i6 kh,U i6 kw,U i6 sh,U i6 sw,U i6 tp,U i6 lf,U i6 bt,U i6 rt,Sl wa lw cw,Sl ba lb bc,U i6 sm,U i6 ss,U i6 um,U i6 us,U i6 z,U i6 p,U i6 lo,U i6 hi,U i6 h,U i6 w,U i6 c,U i6 H,U i6 V,U i6 (pl:Int)] (by kernel_rfl) (by kernel_rfl) 76 #[U i6 0,U i6 0,U i6 0,U i6 0,U i6 0,U i6 0,U i6 0,U i6 0,U i6 0,U i6 0,U i6 0,U i6 0,Sl none 0 0,Sl none 0 0,U i6 0,U i6 0,U i6 0,U i6 0,U i6 0,U i6 0,U i6 0,U i6 0,U i6 0,U i6 0,U i6 0,U i6 0,U i6 0,U i6 0] (heap_alloc_new _ _) (by kernel_rfl) rfl (by simp [Value.oneCell']) ?_
 have s5:=((S3.out.call HD.out).new (c:=#[U i6 0,U i6 0,U i6 0,U i6 0,U i6 0,U i6 0,U i6 0,U i6 0,U i6 0,U i6 0,U i6 0,U i6 0,Sl none 0 0,Sl none 0 0,U i6 0,U i6 0,U i6 0,U i6 0,U i6 0,U i6 0,U i6 0,U i6 0,U i6 0,U i6 0,U i6 0,U i6 0,U i6 0,U i6 0]) (t:=76)).row #[U i6 k,U i6 (ja:Int),U i6 b,U i6 m,U i6 kh,U i6 kw,U i6 sh,U i6 sw,U i6 tp,U i6 lf,U i6 bt,U i6 rt,Sl wa lw cw,Sl ba lb bc,U i6 sm,U i6 ss,U i6 um,U i6 us,U i6 z,U i6 p,U i6 lo,U i6 hi,U i6 h,U i6 w,U i6 c,U i6 H,U i6 V,U i6 (pl:Int)] (by
  intro y hy
  have:=lt_of_heap ((S3.out.call HD.out).2 y hy).1
  omega)
 obtain⟨sb,hsb⟩:∃ sb,wd.heap.size=sb:=⟨_,rfl⟩
 obtain⟨w5,hw5⟩:∃ w5,(wd.alloc (.cells #[U i6 0,U i6 0,U i6 0,U i6 0,U i6 0,U i6 0,U i6 0,U i6 0,U i6 0,U i6 0,U i6 0,U i6 0,Sl none 0 0,Sl none 0 0,U i6 0,U i6 0,U i6 0,U i6 0,U i6 0,U i6 0,U i6 0,U i6 0,U i6 0,U i6 0,U i6 0,U i6 0,U i6 0,U i6 0] 76)).setRow sb #[U i6 k,U i6 (ja:Int),U i6 b,U i6 m,U i6 kh,U i6 kw,U i6 sh,U i6 sw,U i6 tp,U i6 lf,U i6 bt,U i6 rt,Sl wa lw cw,Sl ba lb bc,U i6 sm,U i6 ss,U i6 um,U i6 us,U i6 z,U i6 p,U i6 lo,U i6 hi,U i6 h,U i6 w,U i6 c,U i6 H,U i6 V,U i6 (pl:Int)]=w5:=⟨_,rfl⟩
 rw [hsb,hw5] at s5
 rw [hsb,hw5]
 have S5:Hid (St W w5 ((sb,#[U i6 k,U i6 (ja:Int),U i6 b,U i6 m,U i6 kh,U i6 kw,U i6 sh,U i6 sw,U i6 tp,U i6 lf,U i6 bt,U i6 rt,Sl wa lw cw,Sl ba lb bc,U i6 sm,U i6 ss,U i6 um,U i6 us,U i6 z,U i6 p,U i6 lo,U i6 hi,U i6 h,U i6 w,U i6 c,U i6 H,U i6 V,U i6 (pl:Int)],76) :: (ob,#[U i6 k,U i6 (ja:Int),U i6 b,U i6 m,U i6 kh,U i6 kw,U i6 sh,U i6 sw,U i6 tp,U i6 lf,U i6 bt,U i6 rt,Sl wa lw cw,Sl ba lb bc,U i6 sm,U i6 ss,U i6 um,U i6 us,U i6 z,U i6 p,U i6 lo,U i6 hi],55) :: (W.heap.size+1,Tr.z.cs,32) :: [])):=s5
 refine doneC (?_:Below w3.heap.size w3 w5) (by kernel_rfl) ?_ _
 ·rw [← hw5];exact below_setRow HD1.out (by rw [← hsb];exact HD.out.size) _
 clear HD HD1 hsb hw5 s5 G2 HSA3 HSB3 S3
 clear HA9 HB9 HRl
 go_wp2_with fail
 obtain⟨kb,hkb⟩:∃ kb,w5.heap.size=kb:=⟨_,rfl⟩
 obtain⟨w6,hw6⟩:∃ w6,w5.alloc (.cells #[U i6 0,U i6 0,U i6 0,U i6 0,U i6 0,U i6 0,U i6 0,U i6 0,U i6 0] 32)=w6:=⟨_,rfl⟩
 have s6:=S5.out.new (c:=#[U i6 0,U i6 0,U i6 0,U i6 0,U i6 0,U i6 0,U i6 0,U i6 0,U i6 0]) (t:=32)
 have hks:=lt_of_heap S5.out.h1
 have hko:=lt_of_heap S5.out.h2
 have hkW:=lt_of_heap S5.out.h3
 rw [hkb] at hks hko hkW
 rw [hkb,hw6] at s6
 rw [hkb,hw6]
 have S6:Hid (St W w6 ((kb,Tr.z.cs,32) :: [(sb,#[U i6 k,U i6 (ja:Int),U i6 b,U i6 m,U i6 kh,U i6 kw,U i6 sh,U i6 sw,U i6 tp,U i6 lf,U i6 bt,U i6 rt,Sl wa lw cw,Sl ba lb bc,U i6 sm,U i6 ss,U i6 um,U i6 us,U i6 z,U i6 p,U i6 lo,U i6 hi,U i6 h,U i6 w,U i6 c,U i6 H,U i6 V,U i6 (pl:Int)],76),(ob,#[U i6 k,U i6 (ja:Int),U i6 b,U i6 m,U i6 kh,U i6 kw,U i6 sh,U i6 sw,U i6 tp,U i6 lf,U i6 bt,U i6 rt,Sl wa lw cw,Sl ba lb bc,U i6 sm,U i6 ss,U i6 um,U i6 us,U i6 z,U i6 p,U i6 lo,U i6 hi],55),(W.heap.size+1,Tr.z.cs,32)])):=s6
 clear hkb hw6 s6 S5
 have Ho0:Hid (Own .i8 72 w6 W.heap.size (.slice none 0 0) []):=own_none _ _ _ _
 go_loopw [17,19] (fun v j wr=>∃ (y:Nat) (v1:Value),v1=v∧y≤PP∧j=U i6 y∧Own .i8 72 wr W.heap.size v ((dsL k kh kw sh sw tp lf bt rt h w c (pl:Int) p zs bs xs PS (y*pl)).map (fun t=>hoV k sm ss z lo hi t (LN:Int)))∧St W wr ((kb,(dsT k kh kw sh sw tp lf bt rt h w c (pl:Int) p zs bs xs PS (y*pl)).cs,32) :: [(sb,#[U i6 k,U i6 (ja:Int),U i6 b,U i6 m,U i6 kh,U i6 kw,U i6 sh,U i6 sw,U i6 tp,U i6 lf,U i6 bt,U i6 rt,Sl wa lw cw,Sl ba lb bc,U i6 sm,U i6 ss,U i6 um,U i6 us,U i6 z,U i6 p,U i6 lo,U i6 hi,U i6 h,U i6 w,U i6 c,U i6 H,U i6 V,U i6 (pl:Int)],76),(ob,#[U i6 k,U i6 (ja:Int),U i6 b,U i6 m,U i6 kh,U i6 kw,U i6 sh,U i6 sw,U i6 tp,U i6 lf,U i6 bt,U i6 rt,Sl wa lw cw,Sl ba lb bc,U i6 sm,U i6 ss,U i6 um,U i6 us,U i6 z,U i6 p,U i6 lo,U i6 hi],55),(W.heap.size+1,Tr.z.cs,32)])) (fun _ j _=>PP-(intOf j).toNat)
 case atStart=>exact⟨0,_,rfl,Nat.zero_le _,rfl,by simpa [dsL] using Ho0.out,by simpa [dsT] using S6.out⟩
 case round =>
  obtain⟨y,v1,rfl,hy,rfl,hO,sr⟩:=hrel
  clear S6 Ho0
  have HO:Hid (Own .i8 72 wr W.heap.size v1 ((dsL k kh kw sh sw tp lf bt rt h w c (pl:Int) p zs bs xs PS (y*pl)).map (fun t=>hoV k sm ss z lo hi t (LN:Int)))):=hO
  have SR:Hid (St W wr ((kb,(dsT k kh kw sh sw tp lf bt rt h w c (pl:Int) p zs bs xs PS (y*pl)).cs,32) :: [(sb,#[U i6 k,U i6 (ja:Int),U i6 b,U i6 m,U i6 kh,U i6 kw,U i6 sh,U i6 sw,U i6 tp,U i6 lf,U i6 bt,U i6 rt,Sl wa lw cw,Sl ba lb bc,U i6 sm,U i6 ss,U i6 um,U i6 us,U i6 z,U i6 p,U i6 lo,U i6 hi,U i6 h,U i6 w,U i6 c,U i6 H,U i6 V,U i6 (pl:Int)],76),(ob,#[U i6 k,U i6 (ja:Int),U i6 b,U i6 m,U i6 kh,U i6 kw,U i6 sh,U i6 sw,U i6 tp,U i6 lf,U i6 bt,U i6 rt,Sl wa lw cw,Sl ba lb bc,U i6 sm,U i6 ss,U i6 um,U i6 us,U i6 z,U i6 p,U i6 lo,U i6 hi],55),(W.heap.size+1,Tr.z.cs,32)])):=sr
  clear hO sr
  go_wp2_with (refine wpList_load_row rfl 76 (.tmp 16) rfl sb rfl 76 _ (0,0) _ SR.out.h2 Tryz.underlying76 rfl (by kernel_rfl) ?_)
  refine Calls.mono (HPo.out _) ?_
  rintro e w7 ⟨rfl,hb7⟩
  have S7:Hid (St W w7 ((kb,(dsT k kh kw sh sw tp lf bt rt h w c (pl:Int) p zs bs xs PS (y*pl)).cs,32) :: [(sb,#[U i6 k,U i6 (ja:Int),U i6 b,U i6 m,U i6 kh,U i6 kw,U i6 sh,U i6 sw,U i6 tp,U i6 lf,U i6 bt,U i6 rt,Sl wa lw cw,Sl ba lb bc,U i6 sm,U i6 ss,U i6 um,U i6 us,U i6 z,U i6 p,U i6 lo,U i6 hi,U i6 h,U i6 w,U i6 c,U i6 H,U i6 V,U i6 (pl:Int)],76),(ob,#[U i6 k,U i6 (ja:Int),U i6 b,U i6 m,U i6 kh,U i6 kw,U i6 sh,U i6 sw,U i6 tp,U i6 lf,U i6 bt,U i6 rt,Sl wa lw cw,Sl ba lb bc,U i6 sm,U i6 ss,U i6 um,U i6 us,U i6 z,U i6 p,U i6 lo,U i6 hi],55),(W.heap.size+1,Tr.z.cs,32)])):=SR.out.call hb7
  have O7:Hid (Own .i8 72 w7 W.heap.size v1 ((dsL k kh kw sh sw tp lf bt rt h w c (pl:Int) p zs bs xs PS (y*pl)).map (fun t=>hoV k sm ss z lo hi t (LN:Int)))):=HO.out.below hb7
  clear hb7 SR HO
  by_cases hlt:y<PP
  ·go_wp2
   go_loopw [17,20] (fun v j wr=>∃ (d:Nat) (v2:Value),v2=v∧d≤pl∧j=U i6 ((d:Int)+1)∧Own .i8 72 wr W.heap.size v ((dsL k kh kw sh sw tp lf bt rt h w c (pl:Int) p zs bs xs PS (y*pl+d)).map (fun t=>hoV k sm ss z lo hi t (LN:Int)))∧St W wr ((kb,(dsT k kh kw sh sw tp lf bt rt h w c (pl:Int) p zs bs xs PS (y*pl+d)).cs,32) :: [(sb,#[U i6 k,U i6 (ja:Int),U i6 b,U i6 m,U i6 kh,U i6 kw,U i6 sh,U i6 sw,U i6 tp,U i6 lf,U i6 bt,U i6 rt,Sl wa lw cw,Sl ba lb bc,U i6 sm,U i6 ss,U i6 um,U i6 us,U i6 z,U i6 p,U i6 lo,U i6 hi,U i6 h,U i6 w,U i6 c,U i6 H,U i6 V,U i6 (pl:Int)],76),(ob,#[U i6 k,U i6 (ja:Int),U i6 b,U i6 m,U i6 kh,U i6 kw,U i6 sh,U i6 sw,U i6 tp,U i6 lf,U i6 bt,U i6 rt,Sl wa lw cw,Sl ba lb bc,U i6 sm,U i6 ss,U i6 um,U i6 us,U i6 z,U i6 p,U i6 lo,U i6 hi],55),(W.heap.size+1,Tr.z.cs,32)])) (fun _ j _=>pl+1-(intOf j).toNat)
   case atStart=>exact⟨0,_,rfl,Nat.zero_le _,rfl,O7.out,S7.out⟩
   case round =>
    clear O7 S7
    obtain⟨d,v2,rfl,hd,rfl,hO,sr⟩:=hrel
    have HO:Hid (Own .i8 72 wr W.heap.size v2 ((dsL k kh kw sh sw tp lf bt rt h w c (pl:Int) p zs bs xs PS (y*pl+d)).map (fun t=>hoV k sm ss z lo hi t (LN:Int)))):=hO
    clear hO
    by_cases hltd:d<pl
    ·
     have hch:1≤(d:Int)+1∧(d:Int)+1≤(pl:Int):=by omega
     obtain⟨xp,q,rfl,hq,-,hcq⟩:=(HPS.out.below sr.below).at hltd
     have hcq':Hid (∀ w',Below wr.heap.size wr w'→∀ j v,(pcs q)[j]? = some v→w'.cell? ((xp.add (d*6)).add j)=some v):=fun w' hb j v hj=>(hb.cell (World.block_lt_of_cell? wr _ (hcq j v hj))).trans (hcq j v hj)
     have HS:=dsL_succ k kh kw sh sw tp lf bt rt h w c (pl:Int) p zs bs xs PS (y*pl+d)
     have HT:=dsT_succ k kh kw sh sw tp lf bt rt h w c (pl:Int) p zs bs xs PS (y*pl+d)
     obtain⟨e1,e2⟩:=divmod_at (C:=(pl:Int)) (q:=y) (d:=d) (by omega)
     rw [Int.natCast_add,Int.natCast_mul,e1,e2] at HS HT
     obtain⟨⟨b1,b2⟩,b3⟩:=HFb.out ((d:Int)+1) (y:Int) hch
     have hok0:=HTb.out (y*pl+d)
     have hkk:=Tr.ok_of b1 b2
     have HLn:Hid (y*pl+d+1≤16384):=by
      unfold Hid
      have q1:(y+1)*pl≤PP*pl:=Nat.mul_le_mul_right _ hlt
      rw [HNN.out,Nat.add_mul] at q1
      omega
     have HC1:Hid (∀ (w':World),Below W.heap.size W w'→_):=fun w' hb=>HTe.out w' hb ((d:Int)+1) y hch ⟨by omega,by omega⟩
     have HC2:Hid (∀ (w':World),Below W.heap.size W w'→_):=fun w' hb=>HBi.out w' hb ((d:Int)+1) hch
     have HC3:Hid (∀ (w':World) (va vb:Option Addr) (ca cb:Nat) (h1:IRow .i64 w' va LN ca _) (h2:IRow .i64 w' vb LN cb _),_):=fun w' va vb ca cb h1 h2=>HDt.out w' ((d:Int)+1) y d q hch rfl hq va vb ca cb h1 h2
     have hTL2:=HTL.out ((d:Int)+1) y
     have hTF2:=HTF.out ((d:Int)+1) y hch
     obtain⟨F,hF⟩:∃ F,dsF k kh kw sh sw tp lf bt rt h w c (pl:Int) p zs bs xs PS ((d:Int)+1) (y:Int)=F:=⟨_,rfl⟩
     obtain⟨TL,hTL⟩:∃ TL,siL k kh kw sh sw tp lf bt rt h w c ((d:Int)+1) (y:Int) zs=TL:=⟨_,rfl⟩
     obtain⟨bi,hbie⟩:∃ bi,biA k ((d:Int)+1) bs=bi:=⟨_,rfl⟩
     rw [hF] at HS HT HC3 b3 hkk
     rw [hTL] at HC1 HC3 hTL2 hTF2
     rw [hbie] at HC2 HC3
     clear hF hTL hbie b1 b2 e1 e2
     obtain⟨F0,F1,R⟩:=F
     obtain⟨p1,p2,p3,p4,p5,p6⟩:=q
     simp only [pcs] at HS HT HC3 b3 hkk hcq'
     obtain⟨T0,hT0⟩:∃ T0,dsT k kh kw sh sw tp lf bt rt h w c (pl:Int) p zs bs xs PS (y*pl+d)=T0:=⟨_,rfl⟩
     obtain⟨TK,hTK⟩:∃ TK,Tr.of F0 F1=TK:=⟨_,rfl⟩
     obtain⟨T1,hT1⟩:∃ T1,T0.jn TK=T1:=⟨_,rfl⟩
     rw [hT0] at HT hok0 sr
     rw [hTK] at HT hkk HC3
     rw [hT1] at HT
     have HJ:Hid (∀ W,Calls Tryz.prog 29 #[.agg T0.cs,.agg TK.cs] W fun e w'=>e=.returned (.agg T1.cs)∧Below W.heap.size W w'):=fun W=>by
      have hl:=HLn.out
      rw [← hT1]
      exact rjoin_tr T0 TK W (hok0.mono (by unfold TB;omega)) (hkk.mono (by unfold TB;omega))
     have HTT:Hid ((dsT k kh kw sh sw tp lf bt rt h w c (pl:Int) p zs bs xs PS (y*pl+d+1)).cs=T1.cs):=congrArg Tr.cs HT
     obtain⟨F8,hF8⟩:∃ F8,hoV k sm ss z lo hi R (LN:Int)=F8:=⟨_,rfl⟩
     have h8:=H8.out R
     have HH:Hid (∀ W',_):=fun W'=>HHo.out W' R b3
     have HSS:Hid ((dsL k kh kw sh sw tp lf bt rt h w c (pl:Int) p zs bs xs PS (y*pl+d+1)).map (fun t=>hoV k sm ss z lo hi t (LN:Int))=(dsL k kh kw sh sw tp lf bt rt h w c (pl:Int) p zs bs xs PS (y*pl+d)).map (fun t=>hoV k sm ss z lo hi t (LN:Int))++[F8]):=by
      unfold Hid
      rw [HS,List.map_append]
      simp only [List.map_cons,List.map_nil,hF8]
     rw [hF8] at h8 HH
     have H8F:Hid (I8 F8):=h8
     have HTF2:Hid (∀ t∈TL,(-32768≤t.1∧t.1≤32767)∧(t.2 = -1∨(0≤t.2∧t.2<(n:Int)))):=hTF2
     have HTL2:Hid (TL.length=LN):=hTL2
     have SR:Hid (St W wr ((kb,T0.cs,32) :: [(sb,#[U i6 k,U i6 (ja:Int),U i6 b,U i6 m,U i6 kh,U i6 kw,U i6 sh,U i6 sw,U i6 tp,U i6 lf,U i6 bt,U i6 rt,Sl wa lw cw,Sl ba lb bc,U i6 sm,U i6 ss,U i6 um,U i6 us,U i6 z,U i6 p,U i6 lo,U i6 hi,U i6 h,U i6 w,U i6 c,U i6 H,U i6 V,U i6 (pl:Int)],76),(ob,#[U i6 k,U i6 (ja:Int),U i6 b,U i6 m,U i6 kh,U i6 kw,U i6 sh,U i6 sw,U i6 tp,U i6 lf,U i6 bt,U i6 rt,Sl wa lw cw,Sl ba lb bc,U i6 sm,U i6 ss,U i6 um,U i6 us,U i6 z,U i6 p,U i6 lo,U i6 hi],55),(W.heap.size+1,Tr.z.cs,32)])):=sr
     clear hT0 hTK hT1 HT HS hok0 hkk hcq hq h8 hF8 hTF2 hTL2 sr HPo HTe HBi HDt HFb HTb HTL HTF HHo H8
     obtain⟨D,hD⟩:∃ D:Int,(d:Int)+1=D:=⟨_,rfl⟩
     rw [hD] at HC1 HC2 hch ⊢
     have HD1:Hid ((d:Int)+1=D):=hD
     clear hD
     obtain⟨c1,f1,z1,c2,f2,z2,-⟩:=SR.out.rules
     go_upto_region 17 with fail
     clear c1 f1 z1 c2 f2 z2
     go_wp2_with (refine wpList_load_row rfl 76 (.tmp 16) rfl sb rfl 76 _ (0,0) _ SR.out.h2 Tryz.underlying76 rfl (by kernel_rfl) ?_)
     refine Calls.mono (HC1.out _ SR.out.below) ?_
     rintro e w8 ⟨⟨v,rfl,hOT⟩,hb8⟩
     have S8:Hid (St W w8 ((kb,T0.cs,32) :: [(sb,#[U i6 k,U i6 (ja:Int),U i6 b,U i6 m,U i6 kh,U i6 kw,U i6 sh,U i6 sw,U i6 tp,U i6 lf,U i6 bt,U i6 rt,Sl wa lw cw,Sl ba lb bc,U i6 sm,U i6 ss,U i6 um,U i6 us,U i6 z,U i6 p,U i6 lo,U i6 hi,U i6 h,U i6 w,U i6 c,U i6 H,U i6 V,U i6 (pl:Int)],76),(ob,#[U i6 k,U i6 (ja:Int),U i6 b,U i6 m,U i6 kh,U i6 kw,U i6 sh,U i6 sw,U i6 tp,U i6 lf,U i6 bt,U i6 rt,Sl wa lw cw,Sl ba lb bc,U i6 sm,U i6 ss,U i6 um,U i6 us,U i6 z,U i6 p,U i6 lo,U i6 hi],55),(W.heap.size+1,Tr.z.cs,32)])):=SR.out.call hb8
     have O8:Hid (Own .i8 72 w8 W.heap.size v2 ((dsL k kh kw sh sw tp lf bt rt h w c (pl:Int) p zs bs xs PS (y*pl+d)).map (fun t=>hoV k sm ss z lo hi t (LN:Int)))):=HO.out.below hb8
     have HCQ:Hid (∀ w',Below w8.heap.size w8 w'→∀ j v,[U i6 p1,U i6 p2,U i6 p3,U i6 p4,U i6 p5,U i6 p6][j]? = some v→w'.cell? ((xp.add (d*6)).add j)=some v):=fun w' q=>hcq'.out w' (btr hb8 q)
     obtain⟨va,vc,hve,u1,u2,u3⟩:=hOT.tv
     subst hve
     unfold maxLen at u2
     rw [HTL2.out] at u1 u3 ⊢
     have HVT:Hid (0<LN→_):=u3
     clear hb8 hOT SR HO hcq' HC1 u3
     go_wp2
     have o81:Hid (Own .i64 2 w8 w8.heap.size (.slice none 0 0) []):=own_none _ _ _ _
     go_loopw [21,22,91] (fun va' vb' j wr=>∃ (y:Nat) (u1 u2:Value),u1=va'∧u2=vb'∧y≤LN∧j=U i6 y∧Own .i64 2 wr w8.heap.size va' ((TL.take y).map Prod.fst)∧Own .i64 2 wr w8.heap.size vb' ((TL.take y).map (nmT p xs))∧Apart va' vb'∧Below w8.heap.size w8 wr) (fun _ _ j _=>LN-(intOf j).toNat)
     case atStart=>exact⟨0,_,_,rfl,rfl,Nat.zero_le _,rfl,by simpa using o81.out,by simpa using o81.out,fun b e=>by simp [Value.ownBlock] at e,Below.refl _ _⟩
     case round =>
      obtain⟨tt,va',vb',rfl,rfl,hyt,rfl,hA1,hA2,hAp,hbr⟩:=hrel
      have HA1:Hid (Own .i64 2 wr w8.heap.size va' ((TL.take tt).map Prod.fst)):=hA1
      have HA2:Hid (Own .i64 2 wr w8.heap.size vb' ((TL.take tt).map (nmT p xs))):=hA2
      have HAP:Hid (Apart va' vb'):=hAp
      have HBR:Hid (Below w8.heap.size w8 wr):=hbr
      clear hA1 hA2 hAp o81
      by_cases hlt2:tt<LN
      ·obtain⟨gt,rfl,hc⟩:=HVT.out (by omega)
       obtain⟨q1,q2⟩:=TV.at hc (show tt<TL.length by rw [HTL2.out];exact hlt2)
       obtain⟨A1,A2,hA⟩:∃ A1 A2,TL.getD tt (0,0)=(A1,A2):=⟨_,_,rfl⟩
       rw [hA] at q1 q2
       simp only at q1 q2
       have hgl:TL[tt]? = some (A1,A2):=by rw [← hA,List.getD_eq_getElem?_getD,List.getElem?_eq_getElem (by rw [HTL2.out];exact hlt2)];rfl
       obtain⟨⟨aw1,aw2⟩,hat⟩:=HTF2.out _ (List.mem_of_getElem? hgl)
       simp only at aw1 aw2 hat
       have HT1:Hid ((TL.take (tt+1)).map Prod.fst=(TL.take tt).map Prod.fst++[A1]):=by unfold Hid;rw [List.take_add_one,hgl,List.map_append];rfl
       have HT2:Hid ((TL.take (tt+1)).map (nmT p xs)=(TL.take tt).map (nmT p xs)++[nmT p xs (A1,A2)]):=by unfold Hid;rw [List.take_add_one,hgl,List.map_append];rfl
       have hl1:Hid (((TL.take tt).map Prod.fst).length≤512):=by unfold Hid;rw [List.length_map,List.length_take];have:=HTL2.out;omega
       have hl2:Hid (((TL.take tt).map (nmT p xs)).length≤512):=by unfold Hid;rw [List.length_map,List.length_take];have:=HTL2.out;omega
       have p1':=(hbr.cell (World.block_lt_of_cell? w8 _ q1)).trans q1
       have p2':=(hbr.cell (World.block_lt_of_cell? w8 _ q2)).trans q2
       clear hc hA q1 q2 hbr hgl
       go_upto_region 20 with fail
       clear p1' p2'
       have s9:=(S8.out.call HBR.out).new (c:=#[U i6 A1,U i6 A2]) (t:=82)
       have hb9:=btr HBR.out (bal wr (.cells #[U i6 A1,U i6 A2] 82))
       have hA9:Hid (Own .i64 2 (wr.alloc (.cells #[U i6 A1,U i6 A2] 82)) w8.heap.size va' ((TL.take tt).map Prod.fst)):=HA1.out.alloc _
       have hB9:Hid (Own .i64 2 (wr.alloc (.cells #[U i6 A1,U i6 A2] 82)) w8.heap.size vb' ((TL.take tt).map (nmT p xs))):=HA2.out.alloc _
       obtain⟨tb,htb⟩:∃ tb,wr.heap.size=tb:=⟨_,rfl⟩
       obtain⟨w9,hw9⟩:∃ w9,wr.alloc (.cells #[U i6 A1,U i6 A2] 82)=w9:=⟨_,rfl⟩
       rw [hw9,htb] at s9
       rw [hw9] at hb9 hA9 hB9
       rw [hw9,htb]
       have S9:Hid (St W w9 ((tb,#[U i6 A1,U i6 A2],82) :: (kb,T0.cs,32) :: [(sb,#[U i6 k,U i6 (ja:Int),U i6 b,U i6 m,U i6 kh,U i6 kw,U i6 sh,U i6 sw,U i6 tp,U i6 lf,U i6 bt,U i6 rt,Sl wa lw cw,Sl ba lb bc,U i6 sm,U i6 ss,U i6 um,U i6 us,U i6 z,U i6 p,U i6 lo,U i6 hi,U i6 h,U i6 w,U i6 c,U i6 H,U i6 V,U i6 (pl:Int)],76),(ob,#[U i6 k,U i6 (ja:Int),U i6 b,U i6 m,U i6 kh,U i6 kw,U i6 sh,U i6 sw,U i6 tp,U i6 lf,U i6 bt,U i6 rt,Sl wa lw cw,Sl ba lb bc,U i6 sm,U i6 ss,U i6 um,U i6 us,U i6 z,U i6 p,U i6 lo,U i6 hi],55),(W.heap.size+1,Tr.z.cs,32)])):=s9
       have B9:Hid (Below w8.heap.size w8 w9):=hb9
       have hWb:W.heap.size≤w8.heap.size:=S8.out.size
       clear s9 hb9 hw9 htb HA1 HA2 HBR
       obtain⟨c1,f1,z1,-⟩:=S9.out.rules
       have R9:Hid (IRow .i64 (w9.alloc (.cells #[U i6 A1] 2)) (some ⟨w9.heap.size,0,none⟩) 1 1 [A1]):=row_one .i64 2 w9 A1 (mk_i64 (by omega))
       go_upto_region 21 with (at_builtin;refine wpList_app9 kt_i64 rfl (.tmp 95) (.tmp 98) rfl w8.heap.size va' _ [A1] rfl (hA9.out.alloc _) ⟨w9.heap.size,0,none⟩ 1 1 rfl R9.out (by decide) (by have:=hl1.out;omega) (Nat.le_trans B9.out.size (bal _ _).size) ?_;intro va2 w10 own10 or10 gr10;have S10:Hid (St W w10 ((tb,#[U i6 A1,U i6 A2],82) :: (kb,T0.cs,32) :: [(sb,#[U i6 k,U i6 (ja:Int),U i6 b,U i6 m,U i6 kh,U i6 kw,U i6 sh,U i6 sw,U i6 tp,U i6 lf,U i6 bt,U i6 rt,Sl wa lw cw,Sl ba lb bc,U i6 sm,U i6 ss,U i6 um,U i6 us,U i6 z,U i6 p,U i6 lo,U i6 hi,U i6 h,U i6 w,U i6 c,U i6 H,U i6 V,U i6 (pl:Int)],76),(ob,#[U i6 k,U i6 (ja:Int),U i6 b,U i6 m,U i6 kh,U i6 kw,U i6 sh,U i6 sw,U i6 tp,U i6 lf,U i6 bt,U i6 rt,Sl wa lw cw,Sl ba lb bc,U i6 sm,U i6 ss,U i6 um,U i6 us,U i6 z,U i6 p,U i6 lo,U i6 hi],55),(W.heap.size+1,Tr.z.cs,32)])):=(S9.out.skip _).grow (hA9.out.alloc _) gr10 hWb (by simp);have A10:Hid (Own .i64 2 w10 w8.heap.size va2 ((TL.take (tt+1)).map Prod.fst)):=(by rw [HT1.out];exact own10);have B10:Hid (Below w8.heap.size w8 w10):=(hA9.out.alloc _).bel (btr B9.out (bal _ _)) gr10 (Nat.le_refl _) (Nat.le_trans B9.out.size (bal _ _).size);have V10:Hid (Own .i64 2 w10 w8.heap.size vb' ((TL.take tt).map (nmT p xs))):=own_apart (hB9.out.alloc _) gr10 HAP.out;have P10:Hid (Apart va2 vb'):=apart_grown HAP.out (hB9.out.alloc _) or10;clear own10 or10 gr10 c1 f1 z1)
       clear hA9 hB9 HAP R9 S9 B9 hl1 HT1
       obtain⟨c1,f1,z1,c2,f2,z2,c3,f3,z3,c4,f4,z4,-⟩:=S10.out.rules
       by_cases neg:A2<0
       ·have HE:Hid (nmT p xs (A1,A2)=p):=if_pos neg
        have R10:Hid (IRow .i64 (w10.alloc (.cells #[U i6 p] 2)) (some ⟨w10.heap.size,0,none⟩) 1 1 [p]):=row_one .i64 2 w10 p (mk_i64 (by unfold I8 at hp8;omega))
        clear hat
        go_wp2_with (at_builtin;refine wpList_app9 kt_i64 rfl (.tmp 103) (.tmp 106) rfl w8.heap.size vb' _ [p] rfl (V10.out.alloc _) ⟨w10.heap.size,0,none⟩ 1 1 rfl R10.out (by decide) (by have:=hl2.out;omega) (Nat.le_trans B10.out.size (bal _ _).size) ?_;intro vb2 w11 own11 or11 gr11;have A11:Hid (Own .i64 2 w11 w8.heap.size va2 ((TL.take (tt+1)).map Prod.fst)):=own_apart (A10.out.alloc _) gr11 P10.out.symm;have V11:Hid (Own .i64 2 w11 w8.heap.size vb2 ((TL.take (tt+1)).map (nmT p xs))):=(by rw [HT2.out,HE.out];exact own11);have B11:Hid (Below w8.heap.size w8 w11):=(V10.out.alloc _).bel (btr B10.out (bal _ _)) gr11 (Nat.le_refl _) (Nat.le_trans B10.out.size (bal _ _).size);have P11:Hid (Apart va2 vb2):=(apart_grown P10.out.symm (A10.out.alloc _) or11).symm;clear own11 or11 gr11 c1 f1 z1 c2 f2 z2 c3 f3 z3 c4 f4 z4)
        go_roundw
        case rel=>exact⟨tt+1,_,_,rfl,rfl,by omega,by go_num,A11.out,V11.out,P11.out,B11.out⟩
        case measure=>simp [intOf];omega
       ·obtain⟨j,rfl⟩:∃ j:Nat,A2=(j:Int):=⟨A2.toNat,by omega⟩
        have hj:j<n:=by omega
        obtain⟨xa,u,rfl,hu,hw8,hz,-⟩:=(HX.out.below S10.out.below).at hj
        obtain⟨ub1,ub2⟩:=wf_i8 hw8
        have HE:Hid (nmT p xs (A1,(j:Int))=u):=by unfold Hid nmT;simp only;rw [if_neg neg,Int.toNat_natCast,List.getD_eq_getElem?_getD,hz];rfl
        have R10:Hid (IRow .i64 (w10.alloc (.cells #[U i6 u] 2)) (some ⟨w10.heap.size,0,none⟩) 1 1 [u]):=row_one .i64 2 w10 u (mk_i64 (by omega))
        have hwu:IntKind.i64.wrap u=u:=w64 (by omega)
        clear hat hz hw8
        go_wp2_with (at_builtin;refine wpList_app9 kt_i64 rfl (.tmp 108) (.tmp 115) rfl w8.heap.size vb' _ [u] rfl (V10.out.alloc _) ⟨w10.heap.size,0,none⟩ 1 1 rfl R10.out (by decide) (by have:=hl2.out;omega) (Nat.le_trans B10.out.size (bal _ _).size) ?_;intro vb2 w11 own11 or11 gr11;have A11:Hid (Own .i64 2 w11 w8.heap.size va2 ((TL.take (tt+1)).map Prod.fst)):=own_apart (A10.out.alloc _) gr11 P10.out.symm;have V11:Hid (Own .i64 2 w11 w8.heap.size vb2 ((TL.take (tt+1)).map (nmT p xs))):=(by rw [HT2.out,HE.out];exact own11);have B11:Hid (Below w8.heap.size w8 w11):=(V10.out.alloc _).bel (btr B10.out (bal _ _)) gr11 (Nat.le_refl _) (Nat.le_trans B10.out.size (bal _ _).size);have P11:Hid (Apart va2 vb2):=(apart_grown P10.out.symm (A10.out.alloc _) or11).symm;clear own11 or11 gr11 c1 f1 z1 c2 f2 z2 c3 f3 z3 c4 f4 z4)
        go_roundw
        case rel=>exact⟨tt+1,_,_,rfl,rfl,by omega,by go_num,A11.out,V11.out,P11.out,B11.out⟩
        case measure=>simp [intOf];omega
      ·obtain rfl:LN=tt:=by omega
       have e1:TL.take LN=TL:=by rw [← HTL2.out,List.take_length]
       have q1:=HA1.out
       have q2:=HA2.out
       rw [e1] at q1 q2
       obtain⟨wsa,wsc,rfl,wsr,-⟩:=q1.row
       obtain⟨xsa,xsc,rfl,xsr,-⟩:=q2.row
       rw [List.length_map,HTL2.out] at wsr
       rw [List.length_map,HTL2.out] at xsr
       rw [List.length_map,List.length_map,HTL2.out]
       have WS:Hid (IRow .i64 wr wsa LN wsc (TL.map Prod.fst)):=wsr
       have XS:Hid (IRow .i64 wr xsa LN xsc (TL.map (nmT p xs))):=xsr
       have S12:Hid (St W wr ((kb,T0.cs,32) :: [(sb,#[U i6 k,U i6 (ja:Int),U i6 b,U i6 m,U i6 kh,U i6 kw,U i6 sh,U i6 sw,U i6 tp,U i6 lf,U i6 bt,U i6 rt,Sl wa lw cw,Sl ba lb bc,U i6 sm,U i6 ss,U i6 um,U i6 us,U i6 z,U i6 p,U i6 lo,U i6 hi,U i6 h,U i6 w,U i6 c,U i6 H,U i6 V,U i6 (pl:Int)],76),(ob,#[U i6 k,U i6 (ja:Int),U i6 b,U i6 m,U i6 kh,U i6 kw,U i6 sh,U i6 sw,U i6 tp,U i6 lf,U i6 bt,U i6 rt,Sl wa lw cw,Sl ba lb bc,U i6 sm,U i6 ss,U i6 um,U i6 us,U i6 z,U i6 p,U i6 lo,U i6 hi],55),(W.heap.size+1,Tr.z.cs,32)])):=S8.out.call HBR.out
       have O12:Hid (Own .i8 72 wr W.heap.size v2 ((dsL k kh kw sh sw tp lf bt rt h w c (pl:Int) p zs bs xs PS (y*pl+d)).map (fun t=>hoV k sm ss z lo hi t (LN:Int)))):=O8.out.below HBR.out
       have hcell:Hid (∀ j v,[U i6 p1,U i6 p2,U i6 p3,U i6 p4,U i6 p5,U i6 p6][j]? = some v→wr.cell? ((xp.add (d*6)).add j)=some v):=fun j v hj=>HCQ.out _ HBR.out j v hj
       clear e1 q1 q2 wsr xsr HA1 HA2 HAP HBR HVT S8 O8 HCQ hyt hlt2 HTF2 hbr
       have hdd:D-1=(d:Int):=by have:=HD1.out;omega
       go_upto_region 26 with (first
        | (refine wpList_load_any rfl 63 (.tmp 121) rfl _ rfl [U i6 p1,U i6 p2,U i6 p3,U i6 p4,U i6 p5,U i6 p6] _ hcell.out Tryz.underlying63 rfl (by kernel_rfl) ?_)
        | (refine wpList_st_new rfl 63 (.tmp 25) (.tmp 122) rfl wr _ #[U i6 p1,U i6 p2,U i6 p3,U i6 p4,U i6 p5,U i6 p6] rfl rfl (by kernel_rfl) rfl (by simp [Value.oneCell']) ?_))
       have s13:=S12.out.new (c:=#[U i6 p1,U i6 p2,U i6 p3,U i6 p4,U i6 p5,U i6 p6]) (t:=63)
       have hb13:=bal wr (.cells #[U i6 p1,U i6 p2,U i6 p3,U i6 p4,U i6 p5,U i6 p6] 63)
       obtain⟨pb,hpb⟩:∃ pb,wr.heap.size=pb:=⟨_,rfl⟩
       obtain⟨w13,hw13⟩:∃ w13,wr.alloc (.cells #[U i6 p1,U i6 p2,U i6 p3,U i6 p4,U i6 p5,U i6 p6] 63)=w13:=⟨_,rfl⟩
       rw [hw13,hpb] at s13
       rw [hw13] at hb13
       rw [hw13,hpb]
       have S13:Hid (St W w13 ((pb,#[U i6 p1,U i6 p2,U i6 p3,U i6 p4,U i6 p5,U i6 p6],63) :: (kb,T0.cs,32) :: [(sb,#[U i6 k,U i6 (ja:Int),U i6 b,U i6 m,U i6 kh,U i6 kw,U i6 sh,U i6 sw,U i6 tp,U i6 lf,U i6 bt,U i6 rt,Sl wa lw cw,Sl ba lb bc,U i6 sm,U i6 ss,U i6 um,U i6 us,U i6 z,U i6 p,U i6 lo,U i6 hi,U i6 h,U i6 w,U i6 c,U i6 H,U i6 V,U i6 (pl:Int)],76),(ob,#[U i6 k,U i6 (ja:Int),U i6 b,U i6 m,U i6 kh,U i6 kw,U i6 sh,U i6 sw,U i6 tp,U i6 lf,U i6 bt,U i6 rt,Sl wa lw cw,Sl ba lb bc,U i6 sm,U i6 ss,U i6 um,U i6 us,U i6 z,U i6 p,U i6 lo,U i6 hi],55),(W.heap.size+1,Tr.z.cs,32)])):=s13
       have O13:Hid (Own .i8 72 w13 W.heap.size v2 ((dsL k kh kw sh sw tp lf bt rt h w c (pl:Int) p zs bs xs PS (y*pl+d)).map (fun t=>hoV k sm ss z lo hi t (LN:Int)))):=O12.out.below hb13
       have WX:Hid (∀ w',Below w13.heap.size w13 w'→IRow .i64 w' wsa LN wsc (TL.map Prod.fst)∧IRow .i64 w' xsa LN xsc (TL.map (nmT p xs))):=fun w' q=>⟨WS.out.below (btr hb13 q),XS.out.below (btr hb13 q)⟩
       clear s13 hb13 hpb hw13 S12 O12 WS XS hcell hdd
       rw [put_none9]
       go_cut [26,27] from 123 to 135 (fun s9 t9 wx=>∃ q:Nat,s9=U i6 R∧t9=.pointer (some ⟨q,0,none⟩)∧Below w13.heap.size w13 wx∧w13.heap.size≤q∧wx.heap[q]? = some (.cells TK.cs 32 (0,0)))
       case first =>
        refine regionC (fun w'=>Below w13.heap.size w13 w') (by kernel_rfl) ?_
        obtain⟨wd,hwd⟩:∃ wd,w13.drew=wd:=⟨_,rfl⟩
        have HD:Hid (Below w13.heap.size w13 wd):=by unfold Hid;rw [← hwd];exact (Below.refl _ _).drew
        rw [hwd]
        clear hwd
        have G1:Hid (∀ w',Below w13.heap.size w13 w'→w'.heap[pb]? = some (.cells #[U i6 p1,U i6 p2,U i6 p3,U i6 p4,U i6 p5,U i6 p6] 63 (0,0))):=fun w' q=>(S13.out.call q).h1
        have G2:Hid (∀ w',Below w13.heap.size w13 w'→w'.heap[sb]? = some (.cells #[U i6 k,U i6 (ja:Int),U i6 b,U i6 m,U i6 kh,U i6 kw,U i6 sh,U i6 sw,U i6 tp,U i6 lf,U i6 bt,U i6 rt,Sl wa lw cw,Sl ba lb bc,U i6 sm,U i6 ss,U i6 um,U i6 us,U i6 z,U i6 p,U i6 lo,U i6 hi,U i6 h,U i6 w,U i6 c,U i6 H,U i6 V,U i6 (pl:Int)] 76 (0,0))):=fun w' q=>(S13.out.call q).h3
        have HC2':Hid (∀ w',Below w13.heap.size w13 w'→_):=fun w' q=>HC2.out w' (S13.out.call q).below
        have HC3':Hid (∀ w' (q:Below w13.heap.size w13 w'),_):=fun w' q=>HC3.out w' wsa xsa wsc xsc (WX.out w' q).1 (WX.out w' q).2
        refine takeC 0 (v:=.slice wsa LN wsc) rfl rfl (by kernel_rfl) (by kernel_rfl) (by kernel_rfl) (fun _ _ _ h=>h) (fun _=>rfl) rfl (fun w' hw'=>by go_simp) ?_
        refine takeC 1 (v:=.slice xsa LN xsc) rfl rfl (by kernel_rfl) (by kernel_rfl) (by kernel_rfl) (fun _ _ _ h=>h) (fun _=>rfl) rfl (fun w' hw'=>by go_simp) ?_
        refine takeC 2 (v:=.pointer (some ⟨pb,0,none⟩)) rfl rfl (by kernel_rfl) (by kernel_rfl) (by kernel_rfl) (fun _ _ _ h=>h) (fun _=>rfl) rfl (fun w' hw'=>by go_simp) ?_
        refine takeC 3 (v:=U i6 p1) rfl rfl (by kernel_rfl) (by kernel_rfl) (by kernel_rfl) (fun _ _ _ h=>h) (fun _=>rfl) rfl (fun w' hw'=>by have hc:=(cells_at (G1.out w' hw')).1 0;go_simp) ?_
        refine takeC 4 (v:=.pointer (some ⟨pb,1,none⟩)) rfl rfl (by kernel_rfl) (by kernel_rfl) (by kernel_rfl) (fun _ _ _ h=>h) (fun _=>rfl) rfl (fun w' hw'=>by go_simp) ?_
        refine takeC 5 (v:=U i6 p2) rfl rfl (by kernel_rfl) (by kernel_rfl) (by kernel_rfl) (fun _ _ _ h=>h) (fun _=>rfl) rfl (fun w' hw'=>by have hc:=(cells_at (G1.out w' hw')).1 1;go_simp) ?_
        refine takeC 6 (v:=.agg #[U i6 k,U i6 (ja:Int),U i6 b,U i6 m,U i6 kh,U i6 kw,U i6 sh,U i6 sw,U i6 tp,U i6 lf,U i6 bt,U i6 rt,Sl wa lw cw,Sl ba lb bc,U i6 sm,U i6 ss,U i6 um,U i6 us,U i6 z,U i6 p,U i6 lo,U i6 hi,U i6 h,U i6 w,U i6 c,U i6 H,U i6 V,U i6 (pl:Int)]) rfl rfl (by kernel_rfl) (by kernel_rfl) (by kernel_rfl) (fun _ _ _ h=>h) (fun _=>rfl) rfl (fun w' hw'=>run_la 76 (.tmp 16) rfl ⟨sb,0,none⟩ (by kernel_rfl) [U i6 k,U i6 (ja:Int),U i6 b,U i6 m,U i6 kh,U i6 kw,U i6 sh,U i6 sw,U i6 tp,U i6 lf,U i6 bt,U i6 rt,Sl wa lw cw,Sl ba lb bc,U i6 sm,U i6 ss,U i6 um,U i6 us,U i6 z,U i6 p,U i6 lo,U i6 hi,U i6 h,U i6 w,U i6 c,U i6 H,U i6 V,U i6 (pl:Int)] _ (lcells (G2.out w' hw') (fget [U i6 k,U i6 (ja:Int),U i6 b,U i6 m,U i6 kh,U i6 kw,U i6 sh,U i6 sw,U i6 tp,U i6 lf,U i6 bt,U i6 rt,Sl wa lw cw,Sl ba lb bc,U i6 sm,U i6 ss,U i6 um,U i6 us,U i6 z,U i6 p,U i6 lo,U i6 hi,U i6 h,U i6 w,U i6 c,U i6 H,U i6 V,U i6 (pl:Int)] [])) Tryz.underlying76 rfl (by kernel_rfl)) ?_
        refine takeC 7 (v:=U i6 D) rfl rfl (by kernel_rfl) (by kernel_rfl) (by kernel_rfl) (fun _ _ _ h=>h) (fun _=>rfl) rfl (fun w' hw'=>by go_simp) ?_
        refine twoC 8 13 HD.out (by kernel_rfl) ?_ ?_
        ·refine opK rfl rfl 26 #[.agg #[U i6 k,U i6 (ja:Int),U i6 b,U i6 m,U i6 kh,U i6 kw,U i6 sh,U i6 sw,U i6 tp,U i6 lf,U i6 bt,U i6 rt,Sl wa lw cw,Sl ba lb bc,U i6 sm,U i6 ss,U i6 um,U i6 us,U i6 z,U i6 p,U i6 lo,U i6 hi,U i6 h,U i6 w,U i6 c,U i6 H,U i6 V,U i6 (pl:Int)],U i6 D] (by kernel_rfl) (HC2'.out _ HD.out) ?_
         rintro e wz1 ⟨rfl,hbz⟩
         have HB1:Hid (Below w13.heap.size w13 (wz1)):=btr HD.out hbz
         clear hbz
         refine⟨_,rfl,?_⟩
         refine twoC 9 13 HB1.out (by kernel_rfl) ?_ ?_
         ·refine opK rfl rfl 25 #[Sl wsa LN wsc,Sl xsa LN xsc,U i6 p1,U i6 p2,U i6 bi] (by kernel_rfl) (HC3'.out _ HB1.out) ?_
          rintro e wz2 ⟨rfl,hbz⟩
          have HB2:Hid (Below w13.heap.size w13 (wz2)):=btr HB1.out hbz
          clear hbz
          refine⟨_,rfl,?_⟩
          refine takeC 10 (v:=.tuple #[U i6 R,.agg TK.cs]) rfl rfl (by kernel_rfl) (by kernel_rfl) (by kernel_rfl) (fun _ _ _ h=>h) (fun _=>rfl) rfl (fun w' hw'=>by kernel_rfl) ?_
          refine takeC 11 (v:=U i6 R) rfl rfl (by kernel_rfl) (by kernel_rfl) (by kernel_rfl) (fun _ _ _ h=>h) (fun _=>rfl) rfl (fun w' hw'=>by kernel_rfl) ?_
          refine takeC 12 (v:=.agg TK.cs) rfl rfl (by kernel_rfl) (by kernel_rfl) (by kernel_rfl) (fun _ _ _ h=>h) (fun _=>rfl) rfl (fun w' hw'=>by kernel_rfl) ?_
          refine stepR 13 HB2.out (by kernel_rfl) rfl rfl (.pointer (some ⟨(wz2).heap.size,0,none⟩)) ((wz2).alloc (.cells Tr.z.cs 32)) (by kernel_rfl) ?_
          have HB3:Hid (Below w13.heap.size w13 ((wz2).alloc (.cells Tr.z.cs 32))):=btr HB2.out (bal _ _)
          have G3:Hid (((wz2).alloc (.cells Tr.z.cs 32)).heap[(wz2).heap.size]? = some (.cells Tr.z.cs 32 (0,0))):=heap_alloc_new _ _
          refine stepR 14 HB3.out (by kernel_rfl) rfl rfl (U i6 R) ((wz2).alloc (.cells Tr.z.cs 32)) (by kernel_rfl) ?_
          refine stepS 15 HB3.out (by kernel_rfl) rfl rfl 32 (.tmp 27) (.tmp 135) rfl ((wz2).heap.size) TK.cs (by kernel_rfl) (by kernel_rfl) 32 Tr.z.cs G3.out (by kernel_rfl) rfl (by kernel_rfl) ?_
          have HS1:Hid (Below w13.heap.size w13 (((wz2).alloc (.cells Tr.z.cs 32)).setRow ((wz2).heap.size) TK.cs)):=below_setRow HB3.out HB2.out.size _
          have GS1:Hid ((((wz2).alloc (.cells Tr.z.cs 32)).setRow ((wz2).heap.size) TK.cs).heap[(wz2).heap.size]? = some (.cells TK.cs 32 (0,0))):=setRow_heap _ _ _ _ _ _ G3.out
          refine doneC HS1.out (by kernel_rfl) ?_ _
          refine (show ∀ a' w',Met _ a' w'→_ from by assumption) _ _ ?_
          refine Met.intro ?_
          go_step
          exact⟨U i6 R,.pointer (some ⟨(wz2).heap.size,0,none⟩),.tuple #[U i6 R,.agg TK.cs],Sl wsa LN wsc,Sl xsa LN xsc,.pointer (some ⟨pb,0,none⟩),U i6 p1,.pointer (some ⟨pb,1,none⟩),U i6 p2,.agg #[U i6 k,U i6 (ja:Int),U i6 b,U i6 m,U i6 kh,U i6 kw,U i6 sh,U i6 sw,U i6 tp,U i6 lf,U i6 bt,U i6 rt,Sl wa lw cw,Sl ba lb bc,U i6 sm,U i6 ss,U i6 um,U i6 us,U i6 z,U i6 p,U i6 lo,U i6 hi,U i6 h,U i6 w,U i6 c,U i6 H,U i6 V,U i6 (pl:Int)],U i6 D,U i6 bi,.tuple #[U i6 R,.agg TK.cs],U i6 R,.agg TK.cs,⟨(wz2).heap.size,rfl,rfl,HS1.out,HB2.out.size,GS1.out⟩,by kernel_rfl⟩
         ·refine opR rfl rfl (.pointer (some ⟨(wz1).heap.size,0,none⟩)) ((wz1).alloc (.cells Tr.z.cs 32)) (by kernel_rfl) ?_
          have HB4:Hid (Below w13.heap.size w13 ((wz1).alloc (.cells Tr.z.cs 32))):=btr HB1.out (bal _ _)
          have G4:Hid (((wz1).alloc (.cells Tr.z.cs 32)).heap[(wz1).heap.size]? = some (.cells Tr.z.cs 32 (0,0))):=heap_alloc_new _ _
          refine stepK 9 HB4.out (by kernel_rfl) rfl rfl 25 #[Sl wsa LN wsc,Sl xsa LN xsc,U i6 p1,U i6 p2,U i6 bi] (by kernel_rfl) (HC3'.out _ HB4.out) ?_
          rintro e wz5 ⟨rfl,hbz⟩
          have HB5:Hid (Below w13.heap.size w13 (wz5)):=btr HB4.out hbz
          have G5:Hid (wz5.heap[(wz1).heap.size]? = some (.cells Tr.z.cs 32 (0,0))):=(hbz.block _ (lt_of_heap G4.out)).trans G4.out
          clear hbz
          refine⟨_,rfl,?_⟩
          refine takeC 10 (v:=.tuple #[U i6 R,.agg TK.cs]) rfl rfl (by kernel_rfl) (by kernel_rfl) (by kernel_rfl) (fun _ _ _ h=>h) (fun _=>rfl) rfl (fun w' hw'=>by kernel_rfl) ?_
          refine takeC 11 (v:=U i6 R) rfl rfl (by kernel_rfl) (by kernel_rfl) (by kernel_rfl) (fun _ _ _ h=>h) (fun _=>rfl) rfl (fun w' hw'=>by kernel_rfl) ?_
          refine takeC 12 (v:=.agg TK.cs) rfl rfl (by kernel_rfl) (by kernel_rfl) (by kernel_rfl) (fun _ _ _ h=>h) (fun _=>rfl) rfl (fun w' hw'=>by kernel_rfl) ?_
          refine stepR 14 HB5.out (by kernel_rfl) rfl rfl (U i6 R) (wz5) (by kernel_rfl) ?_
          refine stepS 15 HB5.out (by kernel_rfl) rfl rfl 32 (.tmp 27) (.tmp 135) rfl ((wz1).heap.size) TK.cs (by kernel_rfl) (by kernel_rfl) 32 Tr.z.cs G5.out (by kernel_rfl) rfl (by kernel_rfl) ?_
          have HS1:Hid (Below w13.heap.size w13 ((wz5).setRow ((wz1).heap.size) TK.cs)):=below_setRow HB5.out HB1.out.size _
          have GS1:Hid (((wz5).setRow ((wz1).heap.size) TK.cs).heap[(wz1).heap.size]? = some (.cells TK.cs 32 (0,0))):=setRow_heap _ _ _ _ _ _ G5.out
          refine doneC HS1.out (by kernel_rfl) ?_ _
          refine (show ∀ a' w',Met _ a' w'→_ from by assumption) _ _ ?_
          refine Met.intro ?_
          go_step
          exact⟨U i6 R,.pointer (some ⟨(wz1).heap.size,0,none⟩),.tuple #[U i6 R,.agg TK.cs],Sl wsa LN wsc,Sl xsa LN xsc,.pointer (some ⟨pb,0,none⟩),U i6 p1,.pointer (some ⟨pb,1,none⟩),U i6 p2,.agg #[U i6 k,U i6 (ja:Int),U i6 b,U i6 m,U i6 kh,U i6 kw,U i6 sh,U i6 sw,U i6 tp,U i6 lf,U i6 bt,U i6 rt,Sl wa lw cw,Sl ba lb bc,U i6 sm,U i6 ss,U i6 um,U i6 us,U i6 z,U i6 p,U i6 lo,U i6 hi,U i6 h,U i6 w,U i6 c,U i6 H,U i6 V,U i6 (pl:Int)],U i6 D,U i6 bi,.tuple #[U i6 R,.agg TK.cs],U i6 R,.agg TK.cs,⟨(wz1).heap.size,rfl,rfl,HS1.out,HB1.out.size,GS1.out⟩,by kernel_rfl⟩
        ·refine opR rfl rfl (.pointer (some ⟨(wd).heap.size,0,none⟩)) ((wd).alloc (.cells Tr.z.cs 32)) (by kernel_rfl) ?_
         have HB6:Hid (Below w13.heap.size w13 ((wd).alloc (.cells Tr.z.cs 32))):=btr HD.out (bal _ _)
         have G6:Hid (((wd).alloc (.cells Tr.z.cs 32)).heap[(wd).heap.size]? = some (.cells Tr.z.cs 32 (0,0))):=heap_alloc_new _ _
         refine stepK 8 HB6.out (by kernel_rfl) rfl rfl 26 #[.agg #[U i6 k,U i6 (ja:Int),U i6 b,U i6 m,U i6 kh,U i6 kw,U i6 sh,U i6 sw,U i6 tp,U i6 lf,U i6 bt,U i6 rt,Sl wa lw cw,Sl ba lb bc,U i6 sm,U i6 ss,U i6 um,U i6 us,U i6 z,U i6 p,U i6 lo,U i6 hi,U i6 h,U i6 w,U i6 c,U i6 H,U i6 V,U i6 (pl:Int)],U i6 D] (by kernel_rfl) (HC2'.out _ HB6.out) ?_
         rintro e wz7 ⟨rfl,hbz⟩
         have HB7:Hid (Below w13.heap.size w13 (wz7)):=btr HB6.out hbz
         have G7:Hid (wz7.heap[(wd).heap.size]? = some (.cells Tr.z.cs 32 (0,0))):=(hbz.block _ (lt_of_heap G6.out)).trans G6.out
         clear hbz
         refine⟨_,rfl,?_⟩
         refine stepK 9 HB7.out (by kernel_rfl) rfl rfl 25 #[Sl wsa LN wsc,Sl xsa LN xsc,U i6 p1,U i6 p2,U i6 bi] (by kernel_rfl) (HC3'.out _ HB7.out) ?_
         rintro e wz8 ⟨rfl,hbz⟩
         have HB8:Hid (Below w13.heap.size w13 (wz8)):=btr HB7.out hbz
         have G8:Hid (wz8.heap[(wd).heap.size]? = some (.cells Tr.z.cs 32 (0,0))):=(hbz.block _ (lt_of_heap G7.out)).trans G7.out
         clear hbz
         refine⟨_,rfl,?_⟩
         refine takeC 10 (v:=.tuple #[U i6 R,.agg TK.cs]) rfl rfl (by kernel_rfl) (by kernel_rfl) (by kernel_rfl) (fun _ _ _ h=>h) (fun _=>rfl) rfl (fun w' hw'=>by kernel_rfl) ?_
         refine takeC 11 (v:=U i6 R) rfl rfl (by kernel_rfl) (by kernel_rfl) (by kernel_rfl) (fun _ _ _ h=>h) (fun _=>rfl) rfl (fun w' hw'=>by kernel_rfl) ?_
         refine takeC 12 (v:=.agg TK.cs) rfl rfl (by kernel_rfl) (by kernel_rfl) (by kernel_rfl) (fun _ _ _ h=>h) (fun _=>rfl) rfl (fun w' hw'=>by kernel_rfl) ?_
         refine stepR 14 HB8.out (by kernel_rfl) rfl rfl (U i6 R) (wz8) (by kernel_rfl) ?_
         refine stepS 15 HB8.out (by kernel_rfl) rfl rfl 32 (.tmp 27) (.tmp 135) rfl ((wd).heap.size) TK.cs (by kernel_rfl) (by kernel_rfl) 32 Tr.z.cs G8.out (by kernel_rfl) rfl (by kernel_rfl) ?_
         have HS1:Hid (Below w13.heap.size w13 ((wz8).setRow ((wd).heap.size) TK.cs)):=below_setRow HB8.out HD.out.size _
         have GS1:Hid (((wz8).setRow ((wd).heap.size) TK.cs).heap[(wd).heap.size]? = some (.cells TK.cs 32 (0,0))):=setRow_heap _ _ _ _ _ _ G8.out
         refine doneC HS1.out (by kernel_rfl) ?_ _
         refine (show ∀ a' w',Met _ a' w'→_ from by assumption) _ _ ?_
         refine Met.intro ?_
         go_step
         exact⟨U i6 R,.pointer (some ⟨(wd).heap.size,0,none⟩),.tuple #[U i6 R,.agg TK.cs],Sl wsa LN wsc,Sl xsa LN xsc,.pointer (some ⟨pb,0,none⟩),U i6 p1,.pointer (some ⟨pb,1,none⟩),U i6 p2,.agg #[U i6 k,U i6 (ja:Int),U i6 b,U i6 m,U i6 kh,U i6 kw,U i6 sh,U i6 sw,U i6 tp,U i6 lf,U i6 bt,U i6 rt,Sl wa lw cw,Sl ba lb bc,U i6 sm,U i6 ss,U i6 um,U i6 us,U i6 z,U i6 p,U i6 lo,U i6 hi,U i6 h,U i6 w,U i6 c,U i6 H,U i6 V,U i6 (pl:Int)],U i6 D,U i6 bi,.tuple #[U i6 R,.agg TK.cs],U i6 R,.agg TK.cs,⟨(wd).heap.size,rfl,rfl,HS1.out,HD.out.size,GS1.out⟩,by kernel_rfl⟩
       case rest =>
       obtain⟨tq,rfl,rfl,hbx,hqb,htq⟩:=hcut
       have hWtq:W.heap.size≤tq:=Nat.le_trans S13.out.size hqb
       have S14:Hid (St W wc ((kb,T0.cs,32) :: [(sb,#[U i6 k,U i6 (ja:Int),U i6 b,U i6 m,U i6 kh,U i6 kw,U i6 sh,U i6 sw,U i6 tp,U i6 lf,U i6 bt,U i6 rt,Sl wa lw cw,Sl ba lb bc,U i6 sm,U i6 ss,U i6 um,U i6 us,U i6 z,U i6 p,U i6 lo,U i6 hi,U i6 h,U i6 w,U i6 c,U i6 H,U i6 V,U i6 (pl:Int)],76),(ob,#[U i6 k,U i6 (ja:Int),U i6 b,U i6 m,U i6 kh,U i6 kw,U i6 sh,U i6 sw,U i6 tp,U i6 lf,U i6 bt,U i6 rt,Sl wa lw cw,Sl ba lb bc,U i6 sm,U i6 ss,U i6 um,U i6 us,U i6 z,U i6 p,U i6 lo,U i6 hi],55),(W.heap.size+1,Tr.z.cs,32)])):=(S13.out.call hbx).tail
       have O14:Hid (Own .i8 72 wc W.heap.size v2 ((dsL k kh kw sh sw tp lf bt rt h w c (pl:Int) p zs bs xs PS (y*pl+d)).map (fun t=>hoV k sm ss z lo hi t (LN:Int)))):=O13.out.below hbx
       have HTQ:Hid (wc.heap[tq]? = some (.cells TK.cs 32 (0,0))):=htq
       clear hbx htq S13 O13 WX HC2 HC3
       go_wp2_with fail
       go_cut [17] from 136 to 143 (fun v9 wx=>Own .i8 72 wx W.heap.size v9 ((dsL k kh kw sh sw tp lf bt rt h w c (pl:Int) p zs bs xs PS (y*pl+d+1)).map (fun t=>hoV k sm ss z lo hi t (LN:Int)))∧St W wx ((tq,TK.cs,32) :: (kb,T0.cs,32) :: [(sb,#[U i6 k,U i6 (ja:Int),U i6 b,U i6 m,U i6 kh,U i6 kw,U i6 sh,U i6 sw,U i6 tp,U i6 lf,U i6 bt,U i6 rt,Sl wa lw cw,Sl ba lb bc,U i6 sm,U i6 ss,U i6 um,U i6 us,U i6 z,U i6 p,U i6 lo,U i6 hi,U i6 h,U i6 w,U i6 c,U i6 H,U i6 V,U i6 (pl:Int)],76),(ob,#[U i6 k,U i6 (ja:Int),U i6 b,U i6 m,U i6 kh,U i6 kw,U i6 sh,U i6 sw,U i6 tp,U i6 lf,U i6 bt,U i6 rt,Sl wa lw cw,Sl ba lb bc,U i6 sm,U i6 ss,U i6 um,U i6 us,U i6 z,U i6 p,U i6 lo,U i6 hi],55),(W.heap.size+1,Tr.z.cs,32)]))
       case first =>
        refine regionC (fun w'=>w'.heap[ob]? = some (.cells #[U i6 k,U i6 (ja:Int),U i6 b,U i6 m,U i6 kh,U i6 kw,U i6 sh,U i6 sw,U i6 tp,U i6 lf,U i6 bt,U i6 rt,Sl wa lw cw,Sl ba lb bc,U i6 sm,U i6 ss,U i6 um,U i6 us,U i6 z,U i6 p,U i6 lo,U i6 hi] 55 (0,0))∧w'.heap[sb]? = some (.cells #[U i6 k,U i6 (ja:Int),U i6 b,U i6 m,U i6 kh,U i6 kw,U i6 sh,U i6 sw,U i6 tp,U i6 lf,U i6 bt,U i6 rt,Sl wa lw cw,Sl ba lb bc,U i6 sm,U i6 ss,U i6 um,U i6 us,U i6 z,U i6 p,U i6 lo,U i6 hi,U i6 h,U i6 w,U i6 c,U i6 H,U i6 V,U i6 (pl:Int)] 76 (0,0))) (by kernel_rfl) ?_
        obtain⟨wd,hwd⟩:∃ wd,wc.drew=wd:=⟨_,rfl⟩
        have HC:Hid (∀ w',Below wc.heap.size wc w'→w'.heap[ob]? = some (.cells #[U i6 k,U i6 (ja:Int),U i6 b,U i6 m,U i6 kh,U i6 kw,U i6 sh,U i6 sw,U i6 tp,U i6 lf,U i6 bt,U i6 rt,Sl wa lw cw,Sl ba lb bc,U i6 sm,U i6 ss,U i6 um,U i6 us,U i6 z,U i6 p,U i6 lo,U i6 hi] 55 (0,0))∧w'.heap[sb]? = some (.cells #[U i6 k,U i6 (ja:Int),U i6 b,U i6 m,U i6 kh,U i6 kw,U i6 sh,U i6 sw,U i6 tp,U i6 lf,U i6 bt,U i6 rt,Sl wa lw cw,Sl ba lb bc,U i6 sm,U i6 ss,U i6 um,U i6 us,U i6 z,U i6 p,U i6 lo,U i6 hi,U i6 h,U i6 w,U i6 c,U i6 H,U i6 V,U i6 (pl:Int)] 76 (0,0))):=fun w' hb=>⟨(S14.out.call hb).h3,(S14.out.call hb).h2⟩
        have HD:Hid (Below wc.heap.size wc wd):=by unfold Hid;rw [← hwd];exact (Below.refl _ _).drew
        rw [hwd]
        clear hwd
        refine takeC 0 (v:=v2) rfl rfl (by kernel_rfl) (by kernel_rfl) (by kernel_rfl) (fun _ _ _ h=>h) (fun _=>rfl) rfl (fun w' hw'=>by go_simp) ?_
        refine takeC 1 (v:=.agg #[U i6 k,U i6 (ja:Int),U i6 b,U i6 m,U i6 kh,U i6 kw,U i6 sh,U i6 sw,U i6 tp,U i6 lf,U i6 bt,U i6 rt,Sl wa lw cw,Sl ba lb bc,U i6 sm,U i6 ss,U i6 um,U i6 us,U i6 z,U i6 p,U i6 lo,U i6 hi]) rfl rfl (by kernel_rfl) (by kernel_rfl) (by kernel_rfl) (fun _ _ _ h=>h) (fun _=>rfl) rfl (fun w' hw'=>run_la 55 (.tmp 15) rfl ⟨ob,0,none⟩ (by kernel_rfl) [U i6 k,U i6 (ja:Int),U i6 b,U i6 m,U i6 kh,U i6 kw,U i6 sh,U i6 sw,U i6 tp,U i6 lf,U i6 bt,U i6 rt,Sl wa lw cw,Sl ba lb bc,U i6 sm,U i6 ss,U i6 um,U i6 us,U i6 z,U i6 p,U i6 lo,U i6 hi] _ (lcells hw'.1 (fget [U i6 k,U i6 (ja:Int),U i6 b,U i6 m,U i6 kh,U i6 kw,U i6 sh,U i6 sw,U i6 tp,U i6 lf,U i6 bt,U i6 rt,Sl wa lw cw,Sl ba lb bc,U i6 sm,U i6 ss,U i6 um,U i6 us,U i6 z,U i6 p,U i6 lo,U i6 hi] [])) Tryz.underlying55 rfl (by kernel_rfl)) ?_
        refine takeC 2 (v:=U i6 R) rfl rfl (by kernel_rfl) (by kernel_rfl) (by kernel_rfl) (fun _ _ _ h=>h) (fun _=>rfl) rfl (fun w' hw'=>by go_simp) ?_
        refine takeC 3 (v:=.agg #[U i6 k,U i6 (ja:Int),U i6 b,U i6 m,U i6 kh,U i6 kw,U i6 sh,U i6 sw,U i6 tp,U i6 lf,U i6 bt,U i6 rt,Sl wa lw cw,Sl ba lb bc,U i6 sm,U i6 ss,U i6 um,U i6 us,U i6 z,U i6 p,U i6 lo,U i6 hi,U i6 h,U i6 w,U i6 c,U i6 H,U i6 V,U i6 (pl:Int)]) rfl rfl (by kernel_rfl) (by kernel_rfl) (by kernel_rfl) (fun _ _ _ h=>h) (fun _=>rfl) rfl (fun w' hw'=>run_la 76 (.tmp 16) rfl ⟨sb,0,none⟩ (by kernel_rfl) [U i6 k,U i6 (ja:Int),U i6 b,U i6 m,U i6 kh,U i6 kw,U i6 sh,U i6 sw,U i6 tp,U i6 lf,U i6 bt,U i6 rt,Sl wa lw cw,Sl ba lb bc,U i6 sm,U i6 ss,U i6 um,U i6 us,U i6 z,U i6 p,U i6 lo,U i6 hi,U i6 h,U i6 w,U i6 c,U i6 H,U i6 V,U i6 (pl:Int)] _ (lcells hw'.2 (fget [U i6 k,U i6 (ja:Int),U i6 b,U i6 m,U i6 kh,U i6 kw,U i6 sh,U i6 sw,U i6 tp,U i6 lf,U i6 bt,U i6 rt,Sl wa lw cw,Sl ba lb bc,U i6 sm,U i6 ss,U i6 um,U i6 us,U i6 z,U i6 p,U i6 lo,U i6 hi,U i6 h,U i6 w,U i6 c,U i6 H,U i6 V,U i6 (pl:Int)] [])) Tryz.underlying76 rfl (by kernel_rfl)) ?_
        refine stepK 4 (HC.out _ HD.out) (by kernel_rfl) rfl rfl 28 #[.agg #[U i6 k,U i6 (ja:Int),U i6 b,U i6 m,U i6 kh,U i6 kw,U i6 sh,U i6 sw,U i6 tp,U i6 lf,U i6 bt,U i6 rt,Sl wa lw cw,Sl ba lb bc,U i6 sm,U i6 ss,U i6 um,U i6 us,U i6 z,U i6 p,U i6 lo,U i6 hi,U i6 h,U i6 w,U i6 c,U i6 H,U i6 V,U i6 (pl:Int)]] (by kernel_rfl) (HLe.out wd) ?_
        rintro e w15 ⟨rfl,hb15⟩
        have HB15:Hid (Below wc.heap.size wc w15):=btr HD.out hb15
        clear hb15
        refine⟨_,rfl,?_⟩
        refine stepK 5 (HC.out _ HB15.out) (by kernel_rfl) rfl rfl 27 #[.agg #[U i6 k,U i6 (ja:Int),U i6 b,U i6 m,U i6 kh,U i6 kw,U i6 sh,U i6 sw,U i6 tp,U i6 lf,U i6 bt,U i6 rt,Sl wa lw cw,Sl ba lb bc,U i6 sm,U i6 ss,U i6 um,U i6 us,U i6 z,U i6 p,U i6 lo,U i6 hi],U i6 R,U i6 (LN:Int)] (by kernel_rfl) (HH.out w15) ?_
        rintro e w16 ⟨rfl,hb16⟩
        have HB16:Hid (Below wc.heap.size wc w16):=btr HB15.out hb16
        clear hb16
        refine⟨_,rfl,?_⟩
        refine stepR 6 (HC.out _ HB16.out) (by kernel_rfl) rfl rfl (.slice (some ⟨w16.heap.size,0,none⟩) 1 1) (w16.alloc (.cells #[.int .i8 F8] 72)) (by kernel_rfl) ?_
        have HB17:Hid (Below wc.heap.size wc (w16.alloc (.cells #[.int .i8 F8] 72))):=btr HB16.out (bal _ _)
        have hO17:Hid (Own .i8 72 (w16.alloc (.cells #[.int .i8 F8] 72)) W.heap.size v2 ((dsL k kh kw sh sw tp lf bt rt h w c (pl:Int) p zs bs xs PS (y*pl+d)).map (fun t=>hoV k sm ss z lo hi t (LN:Int)))):=O14.out.below HB17.out
        have hR17:Hid (IRow .i8 (w16.alloc (.cells #[.int .i8 F8] 72)) (some ⟨w16.heap.size,0,none⟩) 1 1 [F8]):=row_one .i8 72 w16 F8 (mk_i8 H8F.out)
        have S17:Hid (St W (w16.alloc (.cells #[.int .i8 F8] 72)) ((tq,TK.cs,32) :: (kb,T0.cs,32) :: [(sb,#[U i6 k,U i6 (ja:Int),U i6 b,U i6 m,U i6 kh,U i6 kw,U i6 sh,U i6 sw,U i6 tp,U i6 lf,U i6 bt,U i6 rt,Sl wa lw cw,Sl ba lb bc,U i6 sm,U i6 ss,U i6 um,U i6 us,U i6 z,U i6 p,U i6 lo,U i6 hi,U i6 h,U i6 w,U i6 c,U i6 H,U i6 V,U i6 (pl:Int)],76),(ob,#[U i6 k,U i6 (ja:Int),U i6 b,U i6 m,U i6 kh,U i6 kw,U i6 sh,U i6 sw,U i6 tp,U i6 lf,U i6 bt,U i6 rt,Sl wa lw cw,Sl ba lb bc,U i6 sm,U i6 ss,U i6 um,U i6 us,U i6 z,U i6 p,U i6 lo,U i6 hi],55),(W.heap.size+1,Tr.z.cs,32)])):=St.ad (S14.out.call HB17.out) ((HB17.out.block _ (lt_of_heap HTQ.out)).trans HTQ.out) hWtq
        refine stepO kt_i8 7 (HC.out _ HB17.out) (by kernel_rfl) rfl rfl (.tmp 136) (.tmp 142) rfl W.heap.size v2 _ [F8] (by kernel_rfl) hO17.out ⟨w16.heap.size,0,none⟩ 1 1 (by kernel_rfl) hR17.out (by rw [List.length_map,dsL_len];have:=HLn.out;simp;omega) S17.out.size ?_
        intro v18 w18 own18 gr18
        have S18:Hid (St W w18 ((tq,TK.cs,32) :: (kb,T0.cs,32) :: [(sb,#[U i6 k,U i6 (ja:Int),U i6 b,U i6 m,U i6 kh,U i6 kw,U i6 sh,U i6 sw,U i6 tp,U i6 lf,U i6 bt,U i6 rt,Sl wa lw cw,Sl ba lb bc,U i6 sm,U i6 ss,U i6 um,U i6 us,U i6 z,U i6 p,U i6 lo,U i6 hi,U i6 h,U i6 w,U i6 c,U i6 H,U i6 V,U i6 (pl:Int)],76),(ob,#[U i6 k,U i6 (ja:Int),U i6 b,U i6 m,U i6 kh,U i6 kw,U i6 sh,U i6 sw,U i6 tp,U i6 lf,U i6 bt,U i6 rt,Sl wa lw cw,Sl ba lb bc,U i6 sm,U i6 ss,U i6 um,U i6 us,U i6 z,U i6 p,U i6 lo,U i6 hi],55),(W.heap.size+1,Tr.z.cs,32)])):=S17.out.grow hO17.out gr18 (Nat.le_refl _) (by simp)
        have O18:Hid (Own .i8 72 w18 W.heap.size v18 ((dsL k kh kw sh sw tp lf bt rt h w c (pl:Int) p zs bs xs PS (y*pl+d+1)).map (fun t=>hoV k sm ss z lo hi t (LN:Int)))):=by unfold Hid;rw [HSS.out];exact own18
        clear own18 gr18 HC HD HB15 HB16 HB17 hO17 hR17 S17
        refine stepR 8 ⟨S18.out.h4,S18.out.h3⟩ (by kernel_rfl) rfl rfl v18 w18 (by kernel_rfl) ?_
        refine doneC ⟨S18.out.h4,S18.out.h3⟩ (by kernel_rfl) ?_ _
        refine (show ∀ a' w',Met _ a' w'→_ from by assumption) _ _ ?_
        refine Met.intro ?_
        go_step
        exact⟨v18,v2,.agg #[U i6 k,U i6 (ja:Int),U i6 b,U i6 m,U i6 kh,U i6 kw,U i6 sh,U i6 sw,U i6 tp,U i6 lf,U i6 bt,U i6 rt,Sl wa lw cw,Sl ba lb bc,U i6 sm,U i6 ss,U i6 um,U i6 us,U i6 z,U i6 p,U i6 lo,U i6 hi],U i6 R,.agg #[U i6 k,U i6 (ja:Int),U i6 b,U i6 m,U i6 kh,U i6 kw,U i6 sh,U i6 sw,U i6 tp,U i6 lf,U i6 bt,U i6 rt,Sl wa lw cw,Sl ba lb bc,U i6 sm,U i6 ss,U i6 um,U i6 us,U i6 z,U i6 p,U i6 lo,U i6 hi,U i6 h,U i6 w,U i6 c,U i6 H,U i6 V,U i6 (pl:Int)],U i6 (LN:Int),.int .i8 F8,Sl (some ⟨w16.heap.size,0,none⟩) 1 1,v18,⟨O18.out,S18.out⟩,by kernel_rfl⟩
       case rest =>
       obtain⟨ho18,hs18⟩:=hcut
       obtain⟨w18,rfl⟩:∃ w',w'=wc:=⟨_,rfl⟩
       obtain⟨v18,rfl⟩:∃ v',v'=u17:=⟨_,rfl⟩
       clear S14 O14 HTQ HH H8F HLe
       obtain⟨a1,a2,a3,a4,a5,a6,a7,a8,a9⟩:=T0
       obtain⟨k1,k2,k3,k4,k5,k6,k7,k8,k9⟩:=TK
       obtain⟨j1,j2,j3,j4,j5,j6,j7,j8,j9⟩:=T1
       have O18:Hid (Own .i8 72 w18 W.heap.size v18 ((dsL k kh kw sh sw tp lf bt rt h w c (pl:Int) p zs bs xs PS (y*pl+d+1)).map (fun t=>hoV k sm ss z lo hi t (LN:Int)))):=ho18
       have S18:Hid (St W w18 ((tq,#[U i6 k1,U i6 k2,U i6 k3,U i6 k4,U i6 k5,U i6 k6,U i6 k7,U i6 k8,U i6 k9],32) :: (kb,#[U i6 a1,U i6 a2,U i6 a3,U i6 a4,U i6 a5,U i6 a6,U i6 a7,U i6 a8,U i6 a9],32) :: [(sb,#[U i6 k,U i6 (ja:Int),U i6 b,U i6 m,U i6 kh,U i6 kw,U i6 sh,U i6 sw,U i6 tp,U i6 lf,U i6 bt,U i6 rt,Sl wa lw cw,Sl ba lb bc,U i6 sm,U i6 ss,U i6 um,U i6 us,U i6 z,U i6 p,U i6 lo,U i6 hi,U i6 h,U i6 w,U i6 c,U i6 H,U i6 V,U i6 (pl:Int)],76),(ob,#[U i6 k,U i6 (ja:Int),U i6 b,U i6 m,U i6 kh,U i6 kw,U i6 sh,U i6 sw,U i6 tp,U i6 lf,U i6 bt,U i6 rt,Sl wa lw cw,Sl ba lb bc,U i6 sm,U i6 ss,U i6 um,U i6 us,U i6 z,U i6 p,U i6 lo,U i6 hi],55),(W.heap.size+1,Tr.z.cs,32)])):=hs18
       have HJ9:Hid (∀ W,Calls Tryz.prog 29 #[.agg #[U i6 a1,U i6 a2,U i6 a3,U i6 a4,U i6 a5,U i6 a6,U i6 a7,U i6 a8,U i6 a9],.agg #[U i6 k1,U i6 k2,U i6 k3,U i6 k4,U i6 k5,U i6 k6,U i6 k7,U i6 k8,U i6 k9]] W fun e w'=>e=.returned (.agg #[U i6 j1,U i6 j2,U i6 j3,U i6 j4,U i6 j5,U i6 j6,U i6 j7,U i6 j8,U i6 j9])∧Below W.heap.size W w'):=HJ.out
       have HT9:Hid ((dsT k kh kw sh sw tp lf bt rt h w c (pl:Int) p zs bs xs PS (y*pl+d+1)).cs=#[U i6 j1,U i6 j2,U i6 j3,U i6 j4,U i6 j5,U i6 j6,U i6 j7,U i6 j8,U i6 j9]):=HTT.out
       clear ho18 hs18 HJ HTT
       go_upto_region 28 with fail
       go_wp2_with (first
        | (refine wpList_load_row rfl 32 (.tmp 18) rfl kb rfl 32 _ (0,0) _ S18.out.h2 Tryz.underlying32 rfl (by kernel_rfl) ?_)
        | (refine wpList_load_row rfl 32 (.tmp 27) rfl tq rfl 32 _ (0,0) _ S18.out.h1 Tryz.underlying32 rfl (by kernel_rfl) ?_))
       refine Calls.mono (HJ9.out _) ?_
       rintro e w19 ⟨rfl,hb19⟩
       have S19:Hid (St W w19 ((kb,#[U i6 a1,U i6 a2,U i6 a3,U i6 a4,U i6 a5,U i6 a6,U i6 a7,U i6 a8,U i6 a9],32) :: [(sb,#[U i6 k,U i6 (ja:Int),U i6 b,U i6 m,U i6 kh,U i6 kw,U i6 sh,U i6 sw,U i6 tp,U i6 lf,U i6 bt,U i6 rt,Sl wa lw cw,Sl ba lb bc,U i6 sm,U i6 ss,U i6 um,U i6 us,U i6 z,U i6 p,U i6 lo,U i6 hi,U i6 h,U i6 w,U i6 c,U i6 H,U i6 V,U i6 (pl:Int)],76),(ob,#[U i6 k,U i6 (ja:Int),U i6 b,U i6 m,U i6 kh,U i6 kw,U i6 sh,U i6 sw,U i6 tp,U i6 lf,U i6 bt,U i6 rt,Sl wa lw cw,Sl ba lb bc,U i6 sm,U i6 ss,U i6 um,U i6 us,U i6 z,U i6 p,U i6 lo,U i6 hi],55),(W.heap.size+1,Tr.z.cs,32)])):=(S18.out.call hb19).tail
       have O19:Hid (Own .i8 72 w19 W.heap.size v18 ((dsL k kh kw sh sw tp lf bt rt h w c (pl:Int) p zs bs xs PS (y*pl+d+1)).map (fun t=>hoV k sm ss z lo hi t (LN:Int)))):=O18.out.below hb19
       clear hb19 S18 O18 HJ9
       have S20:Hid (St W (w19.setRow kb #[U i6 j1,U i6 j2,U i6 j3,U i6 j4,U i6 j5,U i6 j6,U i6 j7,U i6 j8,U i6 j9]) ((kb,#[U i6 j1,U i6 j2,U i6 j3,U i6 j4,U i6 j5,U i6 j6,U i6 j7,U i6 j8,U i6 j9],32) :: [(sb,#[U i6 k,U i6 (ja:Int),U i6 b,U i6 m,U i6 kh,U i6 kw,U i6 sh,U i6 sw,U i6 tp,U i6 lf,U i6 bt,U i6 rt,Sl wa lw cw,Sl ba lb bc,U i6 sm,U i6 ss,U i6 um,U i6 us,U i6 z,U i6 p,U i6 lo,U i6 hi,U i6 h,U i6 w,U i6 c,U i6 H,U i6 V,U i6 (pl:Int)],76),(ob,#[U i6 k,U i6 (ja:Int),U i6 b,U i6 m,U i6 kh,U i6 kw,U i6 sh,U i6 sw,U i6 tp,U i6 lf,U i6 bt,U i6 rt,Sl wa lw cw,Sl ba lb bc,U i6 sm,U i6 ss,U i6 um,U i6 us,U i6 z,U i6 p,U i6 lo,U i6 hi],55),(W.heap.size+1,Tr.z.cs,32)])):=S19.out.row #[U i6 j1,U i6 j2,U i6 j3,U i6 j4,U i6 j5,U i6 j6,U i6 j7,U i6 j8,U i6 j9] (by
        intro z hz
        simp only [List.mem_cons,List.not_mem_nil,or_false] at hz
        rcases hz with rfl | rfl | rfl<;>simp only<;>omega)
       have O20:Hid (Own .i8 72 (w19.setRow kb #[U i6 j1,U i6 j2,U i6 j3,U i6 j4,U i6 j5,U i6 j6,U i6 j7,U i6 j8,U i6 j9]) W.heap.size v18 ((dsL k kh kw sh sw tp lf bt rt h w c (pl:Int) p zs bs xs PS (y*pl+d+1)).map (fun t=>hoV k sm ss z lo hi t (LN:Int)))):=Own.grown O19.out (grown_setRow w19 kb #[U i6 j1,U i6 j2,U i6 j3,U i6 j4,U i6 j5,U i6 j6,U i6 j7,U i6 j8,U i6 j9]) (fun b hb c' e=>by
        cases hb
        rw [S19.out.h1] at e
        simp only [Option.some.injEq,Obj.cells.injEq] at e
        exact absurd e.2.1 (by decide))
       go_wp2_with (refine wpList_store_row rfl 32 (.tmp 18) (.tmp 146) rfl kb #[U i6 j1,U i6 j2,U i6 j3,U i6 j4,U i6 j5,U i6 j6,U i6 j7,U i6 j8,U i6 j9] rfl rfl 32 #[U i6 a1,U i6 a2,U i6 a3,U i6 a4,U i6 a5,U i6 a6,U i6 a7,U i6 a8,U i6 a9] S19.out.h1 (by kernel_rfl) rfl (by simp [Value.oneCell']) ?_)
       rw [← HT9.out] at S20
       clear S19 O19
       go_roundw
       case rel=>exact⟨d+1,_,rfl,by omega,by rw [← HD1.out];go_num,O20.out,by rw [← HT9.out];exact S20.out⟩
       case measure=>have:=HD1.out;simp [intOf];omega
    ·obtain rfl:d=pl:=by omega
     have e:(y+1)*d=y*d+d:=by rw [Nat.add_mul,Nat.one_mul]
     rw [← e] at sr
     have HO2:Hid (Own .i8 72 wr W.heap.size v2 ((dsL k kh kw sh sw tp lf bt rt h w c (d:Int) p zs bs xs PS ((y+1)*d)).map (fun t=>hoV k sm ss z lo hi t (LN:Int)))):=by unfold Hid;rw [e];exact HO.out
     have SR:Hid (St W wr _):=sr
     obtain⟨c1,f1,z1,c2,f2,z2,-⟩:=sr.rules
     clear HO sr e
     go_wp2
     go_roundw
     case rel=>exact⟨y+1,_,rfl,by omega,by go_num,HO2.out,SR.out⟩
     case measure=>simp [intOf];omega
  ·obtain rfl:y=PP:=by omega
   have HO2:Hid (Own .i8 72 w7 W.heap.size v1 ((dsL k kh kw sh sw tp lf bt rt h w c (pl:Int) p zs bs xs PS N).map (fun t=>hoV k sm ss z lo hi t (LN:Int)))):=by rw [← HNN.out];exact O7.out
   have S8:Hid (St W w7 ((kb,(dsT k kh kw sh sw tp lf bt rt h w c (pl:Int) p zs bs xs PS N).cs,32) :: [(sb,#[U i6 k,U i6 (ja:Int),U i6 b,U i6 m,U i6 kh,U i6 kw,U i6 sh,U i6 sw,U i6 tp,U i6 lf,U i6 bt,U i6 rt,Sl wa lw cw,Sl ba lb bc,U i6 sm,U i6 ss,U i6 um,U i6 us,U i6 z,U i6 p,U i6 lo,U i6 hi,U i6 h,U i6 w,U i6 c,U i6 H,U i6 V,U i6 (pl:Int)],76),(ob,#[U i6 k,U i6 (ja:Int),U i6 b,U i6 m,U i6 kh,U i6 kw,U i6 sh,U i6 sw,U i6 tp,U i6 lf,U i6 bt,U i6 rt,Sl wa lw cw,Sl ba lb bc,U i6 sm,U i6 ss,U i6 um,U i6 us,U i6 z,U i6 p,U i6 lo,U i6 hi],55),(W.heap.size+1,Tr.z.cs,32)])):=by rw [← HNN.out];exact S7.out
   clear O7 S7
   obtain⟨T0,hT0⟩:∃ T0,dsT k kh kw sh sw tp lf bt rt h w c (pl:Int) p zs bs xs PS N=T0:=⟨_,rfl⟩
   rw [hT0] at S8
   have HT0:Hid (dsT k kh kw sh sw tp lf bt rt h w c (pl:Int) p zs bs xs PS N=T0):=hT0
   clear hT0
   obtain⟨a1,a2,a3,a4,a5,a6,a7,a8,a9⟩:=T0
   have S9:Hid (St W w7 ((kb,#[U i6 a1,U i6 a2,U i6 a3,U i6 a4,U i6 a5,U i6 a6,U i6 a7,U i6 a8,U i6 a9],32) :: [(sb,#[U i6 k,U i6 (ja:Int),U i6 b,U i6 m,U i6 kh,U i6 kw,U i6 sh,U i6 sw,U i6 tp,U i6 lf,U i6 bt,U i6 rt,Sl wa lw cw,Sl ba lb bc,U i6 sm,U i6 ss,U i6 um,U i6 us,U i6 z,U i6 p,U i6 lo,U i6 hi,U i6 h,U i6 w,U i6 c,U i6 H,U i6 V,U i6 (pl:Int)],76),(ob,#[U i6 k,U i6 (ja:Int),U i6 b,U i6 m,U i6 kh,U i6 kw,U i6 sh,U i6 sw,U i6 tp,U i6 lf,U i6 bt,U i6 rt,Sl wa lw cw,Sl ba lb bc,U i6 sm,U i6 ss,U i6 um,U i6 us,U i6 z,U i6 p,U i6 lo,U i6 hi],55),(W.heap.size+1,Tr.z.cs,32)])):=S8.out
   clear S8
   go_wp2_with fail
   refine regionC (fun w'=>w'.heap[kb]? = some (.cells #[U i6 a1,U i6 a2,U i6 a3,U i6 a4,U i6 a5,U i6 a6,U i6 a7,U i6 a8,U i6 a9] 32 (0,0))) (by kernel_rfl) ?_
   obtain⟨wd,hwd⟩:∃ wd,w7.drew=wd:=⟨_,rfl⟩
   have HD:Hid (Below w7.heap.size w7 wd):=by unfold Hid;rw [← hwd];exact (Below.refl _ _).drew
   rw [hwd]
   clear hwd
   have SD:=S9.out.call HD.out
   have G1:Hid (wd.heap[kb]? = some (.cells #[U i6 a1,U i6 a2,U i6 a3,U i6 a4,U i6 a5,U i6 a6,U i6 a7,U i6 a8,U i6 a9] 32 (0,0))):=SD.h1
   refine takeC 0 (v:=v1) rfl rfl (by kernel_rfl) (by kernel_rfl) (by kernel_rfl) (fun _ _ _ h=>h) (fun _=>rfl) rfl (fun w' hw'=>by go_simp) ?_
   refine takeC 1 (v:=.agg #[U i6 a1,U i6 a2,U i6 a3,U i6 a4,U i6 a5,U i6 a6,U i6 a7,U i6 a8,U i6 a9]) rfl rfl (by kernel_rfl) (by kernel_rfl) (by kernel_rfl) (fun _ _ _ h=>h) (fun _=>rfl) rfl (fun w' hw'=>run_la 32 (.tmp 18) rfl ⟨kb,0,none⟩ (by kernel_rfl) [U i6 a1,U i6 a2,U i6 a3,U i6 a4,U i6 a5,U i6 a6,U i6 a7,U i6 a8,U i6 a9] _ (lcells hw' (fget [U i6 a1,U i6 a2,U i6 a3,U i6 a4,U i6 a5,U i6 a6,U i6 a7,U i6 a8,U i6 a9] [])) Tryz.underlying32 rfl (by kernel_rfl)) ?_
   refine stepR 2 G1.out (by kernel_rfl) rfl rfl v1 wd (by kernel_rfl) ?_
   refine stepS 3 G1.out (by kernel_rfl) rfl rfl 32 (.tmp 11) (.tmp 148) rfl (W.heap.size+1) #[U i6 a1,U i6 a2,U i6 a3,U i6 a4,U i6 a5,U i6 a6,U i6 a7,U i6 a8,U i6 a9] (by kernel_rfl) (by kernel_rfl) 32 Tr.z.cs SD.h4 (by kernel_rfl) rfl (by simp [Value.oneCell']) ?_
   have OD:Own .i8 72 wd W.heap.size v1 ((dsL k kh kw sh sw tp lf bt rt h w c (pl:Int) p zs bs xs PS N).map (fun t=>hoV k sm ss z lo hi t (LN:Int))):=HO2.out.below HD.out
   have O9:Hid (Own .i8 72 (wd.setRow (W.heap.size+1) #[U i6 a1,U i6 a2,U i6 a3,U i6 a4,U i6 a5,U i6 a6,U i6 a7,U i6 a8,U i6 a9]) W.heap.size v1 ((dsL k kh kw sh sw tp lf bt rt h w c (pl:Int) p zs bs xs PS N).map (fun t=>hoV k sm ss z lo hi t (LN:Int)))):=OD.grown (grown_setRow wd (W.heap.size+1) #[U i6 a1,U i6 a2,U i6 a3,U i6 a4,U i6 a5,U i6 a6,U i6 a7,U i6 a8,U i6 a9]) (fun b hb c' e=>by
    cases hb
    rw [SD.h4] at e
    simp only [Option.some.injEq,Obj.cells.injEq] at e
    exact absurd e.2.1 (by decide))
   have B9:Hid (Below W.heap.size W (wd.setRow (W.heap.size+1) #[U i6 a1,U i6 a2,U i6 a3,U i6 a4,U i6 a5,U i6 a6,U i6 a7,U i6 a8,U i6 a9])):=below_setRow SD.below (by omega) _
   have c6:=(cells_at (setRow_heap wd (W.heap.size+1) _ #[U i6 a1,U i6 a2,U i6 a3,U i6 a4,U i6 a5,U i6 a6,U i6 a7,U i6 a8,U i6 a9] _ _ SD.h4)).1
   have HC6:Hid (∀ i,_):=c6
   refine doneC ((setRow_other _ _ _ _ (show kb≠W.heap.size+1 by omega)).trans G1.out) (by kernel_rfl) ?_ _
   clear G1 SD OD S9 HO2 c6
   go_wp2
   exact bodyPost_ret (v:=.tuple #[v1,.agg #[U i6 a1,U i6 a2,U i6 a3,U i6 a4,U i6 a5,U i6 a6,U i6 a7,U i6 a8,U i6 a9]]) (by have c6:=HC6.out;simp [results,Tryz.results9,go_sem,c6]) rfl ⟨⟨v1,by rw [HT0.out];rfl,O9.out⟩,B9.out⟩
end Go.Proofs.YtehofmkpgopmpaaGreat.Kr
