/- What the document's Op of layer 21 returns of an op that doesn't reduce. 'append' to an empty slice of a slice that came in, told as a run; a region is gone on with out of a fact on its rest. Plans side by side: what 'same' of law 21 returns of equal ones. The law's own model and fixed answers of layer 21. What Same of package cert returns. What Same of package cert and Same of its document return. The walk of KernMemory. -/
import Derived.Test.YtehofmkpgopmpaaGreatGq13
import Derived.Test.YtehofmkpgopmpaaGreatGq20
import Derived.Test.YtehofmkpgopmpaaGreatGq21
import Derived.Test.YtehofmkpgopmpaaGreatGq25
import Derived.Test.YtehofmkpgopmpaaGreatGq26
import Derived.Test.YtehofmkpgopmpaaGreatGq27
import Derived.Test.YtehofmkpgopmpaaGreatGq29
import Derived.Deep.DeepCutAuto
namespace Go.Proofs.YtehofmkpgopmpaaGreat.Kr
open Go.Value renaming int → U, slice → Sl
open Go.IntKind renaming i64 → i6
set_option maxRecDepth 100000
set_option maxHeartbeats 16000000
open Go.ChangeShapes Go.WideShapes Go.ChangeAt Go.RowKit
set_option linter.unusedVariables false
theorem cell_setRow (w:World) (g:Nat) (cs:Array Value) (a:Addr) (h:a.block≠g):(w.setRow g cs).cell? a=w.cell? a:=by
 unfold World.cell?
 rw [setRow_other _ _ _ _ h]
theorem rop_n (h0 w0 c0 lo0 hi0 ot:Int) (x:Addr) (on oc:Nat) (k a b m kh kw sh sw tp lf bt rt:Int) (wa:Option Addr) (lw cw:Nat) (ba:Option Addr) (lb bc:Nat) (sm ss um us z p lo hi h w c H V C:Int) (zs bs:List Int) (i ja:Nat) (RL:List (Int×Int×Int)) (W:World)
  (hS:∀ W',Below W.heap.size W W'→Calls Tryz.prog 15 #[.agg #[U i6 h0,U i6 w0,U i6 c0,U i6 lo0,U i6 hi0,Sl (some x) on oc,U i6 ot]] W' fun e w'=>∃ v wk,e=.returned (.tuple #[v,U i6 wk,.agg #[U i6 0,U i6 0,U i6 0]])∧OSh w' W'.heap.size v RL∧Below W'.heap.size W' w')
  (hRl:RL.length=on+1) (hoc:on≤oc) (hom:oc≤9223372036854775807) (ho64:on≤64) (hA:RL.getD ja (0,0,0)=(h,w,c)) (hB:RL.getD (i+1) (0,0,0)=(H,V,C)) (hil:i<on) (hja:ja≤i) (ha:a=(ja:Int))
  (hop:∀ q v,[U i6 k,U i6 a,U i6 b,U i6 m,U i6 kh,U i6 kw,U i6 sh,U i6 sw,U i6 tp,U i6 lf,U i6 bt,U i6 rt,Sl wa lw cw,Sl ba lb bc,U i6 sm,U i6 ss,U i6 um,U i6 us,U i6 z,U i6 p,U i6 lo,U i6 hi][q]? = some v→W.cell? ((x.add (i*22)).add q)=some v) (s:Opd k b m kh kw sh sw tp lf bt rt lw lb sm ss um us z p lo hi h w c H V C) (hk:4<k) (hZ:IRow .i16 W wa lw cw zs) (hBs:IRow .i32 W ba lb bc bs)
  (pa:Option Addr) (pl pc:Nat) (ad:Option Addr) (n cap:Nat) (xs:List Int) (hX:IRow .i8 W ad n cap xs) (hn:(n:Int)=h*w*c) (bd:Option Addr) (nb capb:Nat) (ys:List Int) (hY:IRow .i8 W bd nb capb ys) (h6:k=6→nb=n) :
  Calls Tryz.prog 9 #[.agg #[U i6 h0,U i6 w0,U i6 c0,U i6 lo0,U i6 hi0,Sl (some x) on oc,U i6 ot],U i6 ((i:Int)+1),Sl pa pl pc,Sl ad n cap,Sl bd nb capb] W fun e w'=>(∃ v,e=.returned (.tuple #[v,.agg #[U i6 0,U i6 0,U i6 0,U i6 0,U i6 0,U i6 0,U i6 0,U i6 0,U i6 0]])∧Own .i8 72 w' W.heap.size v (teL k kh kw sh sw tp lf bt rt sm ss um us z p lo hi h w c H V C zs bs xs ys))∧Below W.heap.size W w':=by
 subst ha
 have hk8:=s.hk
 have hrd:rdB k=false:=decide_eq_false (fun q=>by omega)
 have HS:Hid (∀ W',Below W.heap.size W W'→_):=hS
 have HOP:Hid (∀ q v,[U i6 k,U i6 (ja:Int),U i6 b,U i6 m,U i6 kh,U i6 kw,U i6 sh,U i6 sw,U i6 tp,U i6 lf,U i6 bt,U i6 rt,Sl wa lw cw,Sl ba lb bc,U i6 sm,U i6 ss,U i6 um,U i6 us,U i6 z,U i6 p,U i6 lo,U i6 hi][q]? = some v→W.cell? ((x.add (i*22)).add q)=some v):=hop
 have HMk:Hid (∀ (w':World),Below W.heap.size W w'→∀ (b':Option Addr) (cb':Nat) (ys':List Int),IRow .i8 w' b' n cb' ys'→(k=6→ys=ys')→Calls Tryz.prog 22 #[.agg #[U i6 k,U i6 (ja:Int),U i6 b,U i6 m,U i6 kh,U i6 kw,U i6 sh,U i6 sw,U i6 tp,U i6 lf,U i6 bt,U i6 rt,Sl wa lw cw,Sl ba lb bc,U i6 sm,U i6 ss,U i6 um,U i6 us,U i6 z,U i6 p,U i6 lo,U i6 hi],.agg #[U i6 h,U i6 w,U i6 c],.agg #[U i6 H,U i6 V,U i6 C],Sl ad n cap,Sl b' n cb'] w' fun e w''=>(∃ v,e=.returned v∧Own .i8 72 w'' w'.heap.size v (teL k kh kw sh sw tp lf bt rt sm ss um us z p lo hi h w c H V C zs bs xs ys))∧Below w'.heap.size w' w'') :=
  fun w' hb b' cb' ys' hY' h9=>make_any k ja b m kh kw sh sw tp lf bt rt wa lw cw ba lb bc sm ss um us z p lo hi h w c H V C w' s zs bs (hZ.below hb) (hBs.below hb) ad n cap xs (hX.below hb) hn b' cb' ys' hY' ys h9
 have HX:Hid (IRow .i8 W ad n cap xs):=hX
 have HY:Hid (IRow .i8 W bd nb capb ys):=hY
 have HRl:Hid (RL.length=on+1):=hRl
 have HA9:Hid (RL.getD ja (0,0,0)=(h,w,c)):=hA
 have HB9:Hid (RL.getD (i+1) (0,0,0)=(H,V,C)):=hB
 clear hS hop hZ hBs hX hn s hRl hA hB hY
 obtain⟨TE,hTE⟩:∃ TE,teL k kh kw sh sw tp lf bt rt sm ss um us z p lo hi h w c H V C zs bs xs ys=TE:=⟨_,rfl⟩
 rw [hTE] at HMk ⊢
 clear hTE
 have s0:=((St.start W).new (c:=#[U i6 h0,U i6 w0,U i6 c0,U i6 lo0,U i6 hi0,Sl (some x) on oc,U i6 ot]) (t:=26)).new (c:=#[U i6 0,U i6 0,U i6 0,U i6 0,U i6 0,U i6 0,U i6 0,U i6 0,U i6 0]) (t:=32)
 simp only [World.size_alloc] at s0
 have S0:Hid (St W _ [(W.heap.size+1,#[U i6 0,U i6 0,U i6 0,U i6 0,U i6 0,U i6 0,U i6 0,U i6 0,U i6 0],32),(W.heap.size,#[U i6 h0,U i6 w0,U i6 c0,U i6 lo0,U i6 hi0,Sl (some x) on oc,U i6 ot],26)]):=s0
 clear s0
 go_enter Tryz.func9,Tryz.ntmps9
 go_wp2_with fail
 refine Calls.mono (HS.out _ S0.out.below) ?_
 rintro e w1 ⟨v,wk,rfl,hSh,hb⟩
 have hlt9:=hSh.lt
 obtain⟨gs,caps,rfl,hcap,hcapm,hsh⟩:=osh9 hSh HRl.out
 have hgW:gs≠W.heap.size+1:=by
  have h1:=hlt9 gs rfl
  have h2:=lt_of_heap S0.out.h1
  omega
 have hsA:=hsh ja (by omega) h w c HA9.out
 have hsB:=hsh (i+1) (by omega) H V C HB9.out
 have HSA:Hid (∀ w',Below w1.heap.size w1 w'→∀ j u,[Value.int .i64 h,U i6 w,U i6 c][j]? = some u→w'.cell? ((⟨gs,ja*3,none⟩:Addr).add j)=some u):=fun w' hb j u hj=>(hb.cell (World.block_lt_of_cell? w1 _ (hsA j u hj))).trans (hsA j u hj)
 have HSB:Hid (∀ w',Below w1.heap.size w1 w'→∀ j u,[Value.int .i64 H,U i6 V,U i6 C][j]? = some u→w'.cell? ((⟨gs,(i+1)*3,none⟩:Addr).add j)=some u):=fun w' hb j u hj=>(hb.cell (World.block_lt_of_cell? w1 _ (hsB j u hj))).trans (hsB j u hj)
 have S1:Hid (St W w1 [(W.heap.size+1,#[U i6 0,U i6 0,U i6 0,U i6 0,U i6 0,U i6 0,U i6 0,U i6 0,U i6 0],32),(W.heap.size,#[U i6 h0,U i6 w0,U i6 c0,U i6 lo0,U i6 hi0,Sl (some x) on oc,U i6 ot],26)]):=S0.out.call hb
 clear hb hSh hsh HS S0 hsA hsB hlt9
 obtain⟨q1,g1,y1,q2,g2,y2,-⟩:=S1.out.rules
 go_upto_region 2 with fail
 have s2:=S1.out.new (c:=#[U i6 0,U i6 0,U i6 0]) (t:=35)
 have hb2:=bal w1 (.cells #[U i6 0,U i6 0,U i6 0] 35)
 obtain⟨fb,hfb⟩:∃ fb,w1.heap.size=fb:=⟨_,rfl⟩
 obtain⟨w2,hw2⟩:∃ w2,w1.alloc (.cells #[U i6 0,U i6 0,U i6 0] 35)=w2:=⟨_,rfl⟩
 rw [hw2,hfb] at s2
 rw [hw2] at hb2
 rw [hw2,hfb]
 have S2:Hid (St W w2 ((fb,#[U i6 0,U i6 0,U i6 0],35) :: [(W.heap.size+1,#[U i6 0,U i6 0,U i6 0,U i6 0,U i6 0,U i6 0,U i6 0,U i6 0,U i6 0],32),(W.heap.size,#[U i6 h0,U i6 w0,U i6 c0,U i6 lo0,U i6 hi0,Sl (some x) on oc,U i6 ot],26)])):=s2
 have HB12:Hid (Below w1.heap.size w1 w2):=hb2
 clear hw2 hfb s2 hb2 S1 q1 g1 y1 q2 g2 y2
 obtain⟨q0,g0,y0,q1,g1,y1,q2,g2,y2,-⟩:=S2.out.rules
 have hcel:Hid (∀ q v,[U i6 k,U i6 (ja:Int),U i6 b,U i6 m,U i6 kh,U i6 kw,U i6 sh,U i6 sw,U i6 tp,U i6 lf,U i6 bt,U i6 rt,Sl wa lw cw,Sl ba lb bc,U i6 sm,U i6 ss,U i6 um,U i6 us,U i6 z,U i6 p,U i6 lo,U i6 hi][q]? = some v→w2.cell? ((x.add (i*22)).add q)=some v):=fun q v hq=>(S2.out.below.cell (World.block_lt_of_cell? W _ (HOP.out q v hq))).trans (HOP.out q v hq)
 go_upto_region 3 with (first
  | (refine wpList_load_any rfl 55 (.tmp 38) rfl _ rfl [U i6 k,U i6 (ja:Int),U i6 b,U i6 m,U i6 kh,U i6 kw,U i6 sh,U i6 sw,U i6 tp,U i6 lf,U i6 bt,U i6 rt,Sl wa lw cw,Sl ba lb bc,U i6 sm,U i6 ss,U i6 um,U i6 us,U i6 z,U i6 p,U i6 lo,U i6 hi] _ hcel.out Tryz.underlying55 rfl (by kernel_rfl) ?_)
  | (refine wpList_st_new rfl 55 (.tmp 15) (.tmp 39) rfl w2 #[U i6 0,U i6 0,U i6 0,U i6 0,U i6 0,U i6 0,U i6 0,U i6 0,U i6 0,U i6 0,U i6 0,U i6 0,Sl none 0 0,Sl none 0 0,U i6 0,U i6 0,U i6 0,U i6 0,U i6 0,U i6 0,U i6 0,U i6 0] #[U i6 k,U i6 (ja:Int),U i6 b,U i6 m,U i6 kh,U i6 kw,U i6 sh,U i6 sw,U i6 tp,U i6 lf,U i6 bt,U i6 rt,Sl wa lw cw,Sl ba lb bc,U i6 sm,U i6 ss,U i6 um,U i6 us,U i6 z,U i6 p,U i6 lo,U i6 hi] rfl rfl (by kernel_rfl) rfl (by simp [Value.oneCell']) ?_))
 have hoW:=lt_of_heap S2.out.h2
 have s3:=S2.out.new (c:=#[U i6 k,U i6 (ja:Int),U i6 b,U i6 m,U i6 kh,U i6 kw,U i6 sh,U i6 sw,U i6 tp,U i6 lf,U i6 bt,U i6 rt,Sl wa lw cw,Sl ba lb bc,U i6 sm,U i6 ss,U i6 um,U i6 us,U i6 z,U i6 p,U i6 lo,U i6 hi]) (t:=55)
 have hb3:=bal w2 (.cells #[U i6 k,U i6 (ja:Int),U i6 b,U i6 m,U i6 kh,U i6 kw,U i6 sh,U i6 sw,U i6 tp,U i6 lf,U i6 bt,U i6 rt,Sl wa lw cw,Sl ba lb bc,U i6 sm,U i6 ss,U i6 um,U i6 us,U i6 z,U i6 p,U i6 lo,U i6 hi] 55)
 obtain⟨ob,hob⟩:∃ ob,w2.heap.size=ob:=⟨_,rfl⟩
 obtain⟨w3,hw3⟩:∃ w3,w2.alloc (.cells #[U i6 k,U i6 (ja:Int),U i6 b,U i6 m,U i6 kh,U i6 kw,U i6 sh,U i6 sw,U i6 tp,U i6 lf,U i6 bt,U i6 rt,Sl wa lw cw,Sl ba lb bc,U i6 sm,U i6 ss,U i6 um,U i6 us,U i6 z,U i6 p,U i6 lo,U i6 hi] 55)=w3:=⟨_,rfl⟩
 rw [hob] at hoW
 rw [hw3,hob] at s3
 rw [hw3] at hb3
 rw [hw3,hob]
 have S3:Hid (St W w3 ((ob,#[U i6 k,U i6 (ja:Int),U i6 b,U i6 m,U i6 kh,U i6 kw,U i6 sh,U i6 sw,U i6 tp,U i6 lf,U i6 bt,U i6 rt,Sl wa lw cw,Sl ba lb bc,U i6 sm,U i6 ss,U i6 um,U i6 us,U i6 z,U i6 p,U i6 lo,U i6 hi],55) :: (W.heap.size+1,#[U i6 0,U i6 0,U i6 0,U i6 0,U i6 0,U i6 0,U i6 0,U i6 0,U i6 0],32) :: [])):=s3.sub (by simp)
 have HSA3:Hid (∀ w',Below w3.heap.size w3 w'→∀ j u,[Value.int .i64 h,U i6 w,U i6 c][j]? = some u→w'.cell? ((⟨gs,ja*3,none⟩:Addr).add j)=some u):=fun w' q=>HSA.out w' (btr (btr HB12.out hb3) q)
 have HSB3:Hid (∀ w',Below w3.heap.size w3 w'→∀ j u,[Value.int .i64 H,U i6 V,U i6 C][j]? = some u→w'.cell? ((⟨gs,(i+1)*3,none⟩:Addr).add j)=some u):=fun w' q=>HSB.out w' (btr (btr HB12.out hb3) q)
 clear hw3 hob s3 hb3 q0 g0 y0 q1 g1 y1 q2 g2 y2 hcel HOP HSA HSB HB12 S2 HA9 HB9 HRl
 rw [put_none9]
 obtain⟨c1,f1,z1,c2,f2,z2,-⟩:=S3.out.rules
 go_wp2_with fail
 refine (rred_any _ _).mono ?_
 rintro e w4 ⟨rfl,hw4⟩
 have hw4':=hw4.symm
 subst hw4'
 clear hw4
 rw [hrd]
 by_cases k6:k=6
 ·obtain rfl:n=nb:=(h6 k6).symm
  have hk6:(k == 6)=true:=by simp [k6]
  go_upto_region 6 with fail
  clear c1 f1 z1 c2 f2 z2
  go_cut [10] from 48 to 61 (fun v9 wx=>Own .i8 72 wx W.heap.size v9 TE∧Below W.heap.size W wx∧wx.heap[W.heap.size+1]? = some (.cells #[U i6 0,U i6 0,U i6 0,U i6 0,U i6 0,U i6 0,U i6 0,U i6 0,U i6 0] 32 (0,0)))
  case first =>
   refine regionC (fun w'=>w'.heap[ob]? = some (.cells #[U i6 k,U i6 (ja:Int),U i6 b,U i6 m,U i6 kh,U i6 kw,U i6 sh,U i6 sw,U i6 tp,U i6 lf,U i6 bt,U i6 rt,Sl wa lw cw,Sl ba lb bc,U i6 sm,U i6 ss,U i6 um,U i6 us,U i6 z,U i6 p,U i6 lo,U i6 hi] 55 (0,0))∧(∀ j u,[Value.int .i64 h,U i6 w,U i6 c][j]? = some u→w'.cell? ((⟨gs,ja*3,none⟩:Addr).add j)=some u)∧∀ j u,[Value.int .i64 H,U i6 V,U i6 C][j]? = some u→w'.cell? ((⟨gs,(i+1)*3,none⟩:Addr).add j)=some u) (by kernel_rfl) ?_
   obtain⟨wd,hwd⟩:∃ wd,w3.drew=wd:=⟨_,rfl⟩
   have HD:Hid (Below w3.heap.size w3 wd):=by unfold Hid;rw [← hwd];exact (Below.refl _ _).drew
   rw [hwd]
   clear hwd
   have HC:Hid (∀ w',Below w3.heap.size w3 w'→w'.heap[ob]? = some (.cells #[U i6 k,U i6 (ja:Int),U i6 b,U i6 m,U i6 kh,U i6 kw,U i6 sh,U i6 sw,U i6 tp,U i6 lf,U i6 bt,U i6 rt,Sl wa lw cw,Sl ba lb bc,U i6 sm,U i6 ss,U i6 um,U i6 us,U i6 z,U i6 p,U i6 lo,U i6 hi] 55 (0,0))∧(∀ j u,[Value.int .i64 h,U i6 w,U i6 c][j]? = some u→w'.cell? ((⟨gs,ja*3,none⟩:Addr).add j)=some u)∧∀ j u,[Value.int .i64 H,U i6 V,U i6 C][j]? = some u→w'.cell? ((⟨gs,(i+1)*3,none⟩:Addr).add j)=some u):=fun w' q=>⟨(S3.out.call q).h1,HSA3.out w' q,HSB3.out w' q⟩
   refine takeC 0 (v:=.agg #[U i6 k,U i6 (ja:Int),U i6 b,U i6 m,U i6 kh,U i6 kw,U i6 sh,U i6 sw,U i6 tp,U i6 lf,U i6 bt,U i6 rt,Sl wa lw cw,Sl ba lb bc,U i6 sm,U i6 ss,U i6 um,U i6 us,U i6 z,U i6 p,U i6 lo,U i6 hi]) rfl rfl (by kernel_rfl) (by kernel_rfl) (by kernel_rfl) (fun _ _ _ h=>h) (fun _=>rfl) rfl (fun w' hw'=>run_la 55 (.tmp 15) rfl ⟨ob,0,none⟩ (by kernel_rfl) [U i6 k,U i6 (ja:Int),U i6 b,U i6 m,U i6 kh,U i6 kw,U i6 sh,U i6 sw,U i6 tp,U i6 lf,U i6 bt,U i6 rt,Sl wa lw cw,Sl ba lb bc,U i6 sm,U i6 ss,U i6 um,U i6 us,U i6 z,U i6 p,U i6 lo,U i6 hi] _ (lcells hw'.1 (fget [U i6 k,U i6 (ja:Int),U i6 b,U i6 m,U i6 kh,U i6 kw,U i6 sh,U i6 sw,U i6 tp,U i6 lf,U i6 bt,U i6 rt,Sl wa lw cw,Sl ba lb bc,U i6 sm,U i6 ss,U i6 um,U i6 us,U i6 z,U i6 p,U i6 lo,U i6 hi] [])) Tryz.underlying55 rfl (by kernel_rfl)) ?_
   refine takeC 1 (v:=.slice (some ⟨gs,0,none⟩) (on+1) caps) rfl rfl (by kernel_rfl) (by kernel_rfl) (by kernel_rfl) (fun _ _ _ h=>h) (fun _=>rfl) rfl (fun w' hw'=>by go_simp) ?_
   refine takeC 2 (v:=.pointer (some ⟨ob,1,none⟩)) rfl rfl (by kernel_rfl) (by kernel_rfl) (by kernel_rfl) (fun _ _ _ h=>h) (fun _=>rfl) rfl (fun w' hw'=>by go_simp) ?_
   refine takeC 3 (v:=U i6 (ja:Int)) rfl rfl (by kernel_rfl) (by kernel_rfl) (by kernel_rfl) (fun _ _ _ h=>h) (fun _=>rfl) rfl (fun w' hw'=>by have hc:=(cells_at hw'.1).1 1;go_simp) ?_
   refine takeC 4 (v:=.pointer (some ⟨gs,ja*3,none⟩)) rfl rfl (by kernel_rfl) (by kernel_rfl) (by kernel_rfl) (fun _ _ _ h=>h) (fun _=>rfl) rfl (fun w' hw'=>by go_simp;try omega) ?_
   refine takeC 5 (v:=.agg #[U i6 h,U i6 w,U i6 c]) rfl rfl (by kernel_rfl) (by kernel_rfl) (by kernel_rfl) (fun _ _ _ h=>h) (fun _=>rfl) rfl (fun w' hw'=>run_la 23 (.tmp 52) rfl ⟨gs,ja*3,none⟩ (by kernel_rfl) [U i6 h,U i6 w,U i6 c] _ hw'.2.1 Tryz.underlying23 rfl (by kernel_rfl)) ?_
   refine takeC 6 (v:=.slice (some ⟨gs,0,none⟩) (on+1) caps) rfl rfl (by kernel_rfl) (by kernel_rfl) (by kernel_rfl) (fun _ _ _ h=>h) (fun _=>rfl) rfl (fun w' hw'=>by go_simp) ?_
   refine takeC 7 (v:=U i6 ((i:Int)+1)) rfl rfl (by kernel_rfl) (by kernel_rfl) (by kernel_rfl) (fun _ _ _ h=>h) (fun _=>rfl) rfl (fun w' hw'=>by go_simp) ?_
   refine takeC 8 (v:=.pointer (some ⟨gs,(i+1)*3,none⟩)) rfl rfl (by kernel_rfl) (by kernel_rfl) (by kernel_rfl) (fun _ _ _ h=>h) (fun _=>rfl) rfl (fun w' hw'=>by go_simp;try omega) ?_
   refine takeC 9 (v:=.agg #[U i6 H,U i6 V,U i6 C]) rfl rfl (by kernel_rfl) (by kernel_rfl) (by kernel_rfl) (fun _ _ _ h=>h) (fun _=>rfl) rfl (fun w' hw'=>run_la 23 (.tmp 56) rfl ⟨gs,(i+1)*3,none⟩ (by kernel_rfl) [U i6 H,U i6 V,U i6 C] _ hw'.2.2 Tryz.underlying23 rfl (by kernel_rfl)) ?_
   refine takeC 10 (v:=.slice ad n cap) rfl rfl (by kernel_rfl) (by kernel_rfl) (by kernel_rfl) (fun _ _ _ h=>h) (fun _=>rfl) rfl (fun w' hw'=>by go_simp) ?_
   refine takeC 11 (v:=.slice bd n capb) rfl rfl (by kernel_rfl) (by kernel_rfl) (by kernel_rfl) (fun _ _ _ h=>h) (fun _=>rfl) rfl (fun w' hw'=>by go_simp) ?_
   refine takeC 13 (v:=.agg #[U i6 0,U i6 0,U i6 0,U i6 0,U i6 0,U i6 0,U i6 0,U i6 0,U i6 0]) rfl rfl (by kernel_rfl) (by kernel_rfl) (by kernel_rfl) (fun _ _ _ h=>h) (fun _=>rfl) rfl (fun w' hw'=>by kernel_rfl) ?_
   refine stepK 12 (HC.out _ HD.out) (by kernel_rfl) rfl rfl 22 #[.agg #[U i6 k,U i6 (ja:Int),U i6 b,U i6 m,U i6 kh,U i6 kw,U i6 sh,U i6 sw,U i6 tp,U i6 lf,U i6 bt,U i6 rt,Sl wa lw cw,Sl ba lb bc,U i6 sm,U i6 ss,U i6 um,U i6 us,U i6 z,U i6 p,U i6 lo,U i6 hi],.agg #[U i6 h,U i6 w,U i6 c],.agg #[U i6 H,U i6 V,U i6 C],Sl ad n cap,Sl bd n capb] (by kernel_rfl) (HMk.out wd (S3.out.call HD.out).below bd capb ys (HY.out.below (S3.out.call HD.out).below) (fun _=>rfl)) ?_
   rintro e w5 ⟨⟨v5,rfl,ho5⟩,hb5⟩
   have HD5:Hid (Below w3.heap.size w3 w5):=btr HD.out hb5
   have S5:Hid (St W w5 ((ob,#[U i6 k,U i6 (ja:Int),U i6 b,U i6 m,U i6 kh,U i6 kw,U i6 sh,U i6 sw,U i6 tp,U i6 lf,U i6 bt,U i6 rt,Sl wa lw cw,Sl ba lb bc,U i6 sm,U i6 ss,U i6 um,U i6 us,U i6 z,U i6 p,U i6 lo,U i6 hi],55) :: (W.heap.size+1,#[U i6 0,U i6 0,U i6 0,U i6 0,U i6 0,U i6 0,U i6 0,U i6 0,U i6 0],32) :: [])):=S3.out.call HD5.out
   have O5:Hid (Own .i8 72 w5 W.heap.size v5 TE):=ho5.base (S3.out.call HD.out).size
   clear hb5 ho5
   refine⟨_,rfl,?_⟩
   refine stepR 14 (HC.out _ HD5.out) (by kernel_rfl) rfl rfl v5 w5 (by kernel_rfl) ?_
   refine stepS 15 (HC.out _ HD5.out) (by kernel_rfl) rfl rfl 32 (.tmp 11) (.tmp 61) rfl (W.heap.size+1) #[U i6 0,U i6 0,U i6 0,U i6 0,U i6 0,U i6 0,U i6 0,U i6 0,U i6 0] (by kernel_rfl) (by kernel_rfl) 32 #[U i6 0,U i6 0,U i6 0,U i6 0,U i6 0,U i6 0,U i6 0,U i6 0,U i6 0] S5.out.h2 (by kernel_rfl) rfl (by simp [Value.oneCell']) ?_
   have O9:Hid (Own .i8 72 (w5.setRow (W.heap.size+1) #[U i6 0,U i6 0,U i6 0,U i6 0,U i6 0,U i6 0,U i6 0,U i6 0,U i6 0]) W.heap.size v5 TE):=Own.grown O5.out (grown_setRow w5 (W.heap.size+1) #[U i6 0,U i6 0,U i6 0,U i6 0,U i6 0,U i6 0,U i6 0,U i6 0,U i6 0]) (fun b hb c' e=>by
    cases hb
    rw [S5.out.h2] at e
    simp only [Option.some.injEq,Obj.cells.injEq] at e
    exact absurd e.2.1 (by decide))
   have B9:Hid (Below W.heap.size W (w5.setRow (W.heap.size+1) #[U i6 0,U i6 0,U i6 0,U i6 0,U i6 0,U i6 0,U i6 0,U i6 0,U i6 0])):=below_setRow S5.out.below (by omega) _
   refine doneC (?_) (by kernel_rfl) ?_ _
   ·have g5:=HC.out w5 HD5.out
    exact⟨(setRow_other _ _ _ _ (show ob≠W.heap.size+1 by omega)).trans g5.1,fun j u hj=>(cell_setRow _ _ _ _ (by rw [Addr.add_lit];exact hgW)).trans (g5.2.1 j u hj),fun j u hj=>(cell_setRow _ _ _ _ (by rw [Addr.add_lit];exact hgW)).trans (g5.2.2 j u hj)⟩
   refine (show ∀ a' w',Met _ a' w'→_ from by assumption) _ _ ?_
   refine Met.intro ?_
   go_step
   exact⟨v5,.agg #[U i6 k,U i6 (ja:Int),U i6 b,U i6 m,U i6 kh,U i6 kw,U i6 sh,U i6 sw,U i6 tp,U i6 lf,U i6 bt,U i6 rt,Sl wa lw cw,Sl ba lb bc,U i6 sm,U i6 ss,U i6 um,U i6 us,U i6 z,U i6 p,U i6 lo,U i6 hi],Sl (some ⟨gs,0,none⟩) (on+1) caps,.pointer (some ⟨ob,1,none⟩),U i6 (ja:Int),.pointer (some ⟨gs,ja*3,none⟩),.agg #[U i6 h,U i6 w,U i6 c],Sl (some ⟨gs,0,none⟩) (on+1) caps,U i6 ((i:Int)+1),.pointer (some ⟨gs,(i+1)*3,none⟩),.agg #[U i6 H,U i6 V,U i6 C],Sl ad n cap,Sl bd n capb,v5,.agg #[U i6 0,U i6 0,U i6 0,U i6 0,U i6 0,U i6 0,U i6 0,U i6 0,U i6 0],⟨O9.out,B9.out,setRow_heap w5 (W.heap.size+1) _ #[U i6 0,U i6 0,U i6 0,U i6 0,U i6 0,U i6 0,U i6 0,U i6 0,U i6 0] _ _ S5.out.h2⟩,by kernel_rfl⟩
  case rest =>
  obtain⟨ho9,hb9,hz9⟩:=hcut
  obtain⟨w9,rfl⟩:∃ w',w'=wc:=⟨_,rfl⟩
  obtain⟨v9,rfl⟩:∃ v',v'=u10:=⟨_,rfl⟩
  have O9:Hid (Own .i8 72 w9 W.heap.size v9 TE):=ho9
  have B9:Hid (Below W.heap.size W w9):=hb9
  have HC6:Hid (∀ i,w9.cell? ⟨W.heap.size+1,i,none⟩=(#[U i6 0,U i6 0,U i6 0,U i6 0,U i6 0,U i6 0,U i6 0,U i6 0,U i6 0])[i]?):=(cells_at hz9).1
  clear ho9 hb9 hz9 S3 HSA3 HSB3 HMk HX HY
  go_wp2
  exact bodyPost_ret (v:=.tuple #[v9,.agg #[U i6 0,U i6 0,U i6 0,U i6 0,U i6 0,U i6 0,U i6 0,U i6 0,U i6 0]]) (by have c6:=HC6.out;simp [results,Tryz.results9,go_sem,c6]) rfl ⟨⟨v9,rfl,O9.out⟩,B9.out⟩
 ·have hk6:(k == 6)=false:=by simp [k6]
  go_upto_region 6 with fail
  clear c1 f1 z1 c2 f2 z2
  go_cut [10] from 48 to 61 (fun v9 wx=>Own .i8 72 wx W.heap.size v9 TE∧Below W.heap.size W wx∧wx.heap[W.heap.size+1]? = some (.cells #[U i6 0,U i6 0,U i6 0,U i6 0,U i6 0,U i6 0,U i6 0,U i6 0,U i6 0] 32 (0,0)))
  case first =>
   refine regionC (fun w'=>w'.heap[ob]? = some (.cells #[U i6 k,U i6 (ja:Int),U i6 b,U i6 m,U i6 kh,U i6 kw,U i6 sh,U i6 sw,U i6 tp,U i6 lf,U i6 bt,U i6 rt,Sl wa lw cw,Sl ba lb bc,U i6 sm,U i6 ss,U i6 um,U i6 us,U i6 z,U i6 p,U i6 lo,U i6 hi] 55 (0,0))∧(∀ j u,[Value.int .i64 h,U i6 w,U i6 c][j]? = some u→w'.cell? ((⟨gs,ja*3,none⟩:Addr).add j)=some u)∧∀ j u,[Value.int .i64 H,U i6 V,U i6 C][j]? = some u→w'.cell? ((⟨gs,(i+1)*3,none⟩:Addr).add j)=some u) (by kernel_rfl) ?_
   obtain⟨wd,hwd⟩:∃ wd,w3.drew=wd:=⟨_,rfl⟩
   have HD:Hid (Below w3.heap.size w3 wd):=by unfold Hid;rw [← hwd];exact (Below.refl _ _).drew
   rw [hwd]
   clear hwd
   have HC:Hid (∀ w',Below w3.heap.size w3 w'→w'.heap[ob]? = some (.cells #[U i6 k,U i6 (ja:Int),U i6 b,U i6 m,U i6 kh,U i6 kw,U i6 sh,U i6 sw,U i6 tp,U i6 lf,U i6 bt,U i6 rt,Sl wa lw cw,Sl ba lb bc,U i6 sm,U i6 ss,U i6 um,U i6 us,U i6 z,U i6 p,U i6 lo,U i6 hi] 55 (0,0))∧(∀ j u,[Value.int .i64 h,U i6 w,U i6 c][j]? = some u→w'.cell? ((⟨gs,ja*3,none⟩:Addr).add j)=some u)∧∀ j u,[Value.int .i64 H,U i6 V,U i6 C][j]? = some u→w'.cell? ((⟨gs,(i+1)*3,none⟩:Addr).add j)=some u):=fun w' q=>⟨(S3.out.call q).h1,HSA3.out w' q,HSB3.out w' q⟩
   refine takeC 0 (v:=.agg #[U i6 k,U i6 (ja:Int),U i6 b,U i6 m,U i6 kh,U i6 kw,U i6 sh,U i6 sw,U i6 tp,U i6 lf,U i6 bt,U i6 rt,Sl wa lw cw,Sl ba lb bc,U i6 sm,U i6 ss,U i6 um,U i6 us,U i6 z,U i6 p,U i6 lo,U i6 hi]) rfl rfl (by kernel_rfl) (by kernel_rfl) (by kernel_rfl) (fun _ _ _ h=>h) (fun _=>rfl) rfl (fun w' hw'=>run_la 55 (.tmp 15) rfl ⟨ob,0,none⟩ (by kernel_rfl) [U i6 k,U i6 (ja:Int),U i6 b,U i6 m,U i6 kh,U i6 kw,U i6 sh,U i6 sw,U i6 tp,U i6 lf,U i6 bt,U i6 rt,Sl wa lw cw,Sl ba lb bc,U i6 sm,U i6 ss,U i6 um,U i6 us,U i6 z,U i6 p,U i6 lo,U i6 hi] _ (lcells hw'.1 (fget [U i6 k,U i6 (ja:Int),U i6 b,U i6 m,U i6 kh,U i6 kw,U i6 sh,U i6 sw,U i6 tp,U i6 lf,U i6 bt,U i6 rt,Sl wa lw cw,Sl ba lb bc,U i6 sm,U i6 ss,U i6 um,U i6 us,U i6 z,U i6 p,U i6 lo,U i6 hi] [])) Tryz.underlying55 rfl (by kernel_rfl)) ?_
   refine takeC 1 (v:=.slice (some ⟨gs,0,none⟩) (on+1) caps) rfl rfl (by kernel_rfl) (by kernel_rfl) (by kernel_rfl) (fun _ _ _ h=>h) (fun _=>rfl) rfl (fun w' hw'=>by go_simp) ?_
   refine takeC 2 (v:=.pointer (some ⟨ob,1,none⟩)) rfl rfl (by kernel_rfl) (by kernel_rfl) (by kernel_rfl) (fun _ _ _ h=>h) (fun _=>rfl) rfl (fun w' hw'=>by go_simp) ?_
   refine takeC 3 (v:=U i6 (ja:Int)) rfl rfl (by kernel_rfl) (by kernel_rfl) (by kernel_rfl) (fun _ _ _ h=>h) (fun _=>rfl) rfl (fun w' hw'=>by have hc:=(cells_at hw'.1).1 1;go_simp) ?_
   refine takeC 4 (v:=.pointer (some ⟨gs,ja*3,none⟩)) rfl rfl (by kernel_rfl) (by kernel_rfl) (by kernel_rfl) (fun _ _ _ h=>h) (fun _=>rfl) rfl (fun w' hw'=>by go_simp;try omega) ?_
   refine takeC 5 (v:=.agg #[U i6 h,U i6 w,U i6 c]) rfl rfl (by kernel_rfl) (by kernel_rfl) (by kernel_rfl) (fun _ _ _ h=>h) (fun _=>rfl) rfl (fun w' hw'=>run_la 23 (.tmp 52) rfl ⟨gs,ja*3,none⟩ (by kernel_rfl) [U i6 h,U i6 w,U i6 c] _ hw'.2.1 Tryz.underlying23 rfl (by kernel_rfl)) ?_
   refine takeC 6 (v:=.slice (some ⟨gs,0,none⟩) (on+1) caps) rfl rfl (by kernel_rfl) (by kernel_rfl) (by kernel_rfl) (fun _ _ _ h=>h) (fun _=>rfl) rfl (fun w' hw'=>by go_simp) ?_
   refine takeC 7 (v:=U i6 ((i:Int)+1)) rfl rfl (by kernel_rfl) (by kernel_rfl) (by kernel_rfl) (fun _ _ _ h=>h) (fun _=>rfl) rfl (fun w' hw'=>by go_simp) ?_
   refine takeC 8 (v:=.pointer (some ⟨gs,(i+1)*3,none⟩)) rfl rfl (by kernel_rfl) (by kernel_rfl) (by kernel_rfl) (fun _ _ _ h=>h) (fun _=>rfl) rfl (fun w' hw'=>by go_simp;try omega) ?_
   refine takeC 9 (v:=.agg #[U i6 H,U i6 V,U i6 C]) rfl rfl (by kernel_rfl) (by kernel_rfl) (by kernel_rfl) (fun _ _ _ h=>h) (fun _=>rfl) rfl (fun w' hw'=>run_la 23 (.tmp 56) rfl ⟨gs,(i+1)*3,none⟩ (by kernel_rfl) [U i6 H,U i6 V,U i6 C] _ hw'.2.2 Tryz.underlying23 rfl (by kernel_rfl)) ?_
   refine takeC 10 (v:=.slice ad n cap) rfl rfl (by kernel_rfl) (by kernel_rfl) (by kernel_rfl) (fun _ _ _ h=>h) (fun _=>rfl) rfl (fun w' hw'=>by go_simp) ?_
   refine takeC 11 (v:=.slice ad n cap) rfl rfl (by kernel_rfl) (by kernel_rfl) (by kernel_rfl) (fun _ _ _ h=>h) (fun _=>rfl) rfl (fun w' hw'=>by go_simp) ?_
   refine takeC 13 (v:=.agg #[U i6 0,U i6 0,U i6 0,U i6 0,U i6 0,U i6 0,U i6 0,U i6 0,U i6 0]) rfl rfl (by kernel_rfl) (by kernel_rfl) (by kernel_rfl) (fun _ _ _ h=>h) (fun _=>rfl) rfl (fun w' hw'=>by kernel_rfl) ?_
   refine stepK 12 (HC.out _ HD.out) (by kernel_rfl) rfl rfl 22 #[.agg #[U i6 k,U i6 (ja:Int),U i6 b,U i6 m,U i6 kh,U i6 kw,U i6 sh,U i6 sw,U i6 tp,U i6 lf,U i6 bt,U i6 rt,Sl wa lw cw,Sl ba lb bc,U i6 sm,U i6 ss,U i6 um,U i6 us,U i6 z,U i6 p,U i6 lo,U i6 hi],.agg #[U i6 h,U i6 w,U i6 c],.agg #[U i6 H,U i6 V,U i6 C],Sl ad n cap,Sl ad n cap] (by kernel_rfl) (HMk.out wd (S3.out.call HD.out).below ad cap xs (HX.out.below (S3.out.call HD.out).below) (fun q=>absurd q k6)) ?_
   rintro e w5 ⟨⟨v5,rfl,ho5⟩,hb5⟩
   have HD5:Hid (Below w3.heap.size w3 w5):=btr HD.out hb5
   have S5:Hid (St W w5 ((ob,#[U i6 k,U i6 (ja:Int),U i6 b,U i6 m,U i6 kh,U i6 kw,U i6 sh,U i6 sw,U i6 tp,U i6 lf,U i6 bt,U i6 rt,Sl wa lw cw,Sl ba lb bc,U i6 sm,U i6 ss,U i6 um,U i6 us,U i6 z,U i6 p,U i6 lo,U i6 hi],55) :: (W.heap.size+1,#[U i6 0,U i6 0,U i6 0,U i6 0,U i6 0,U i6 0,U i6 0,U i6 0,U i6 0],32) :: [])):=S3.out.call HD5.out
   have O5:Hid (Own .i8 72 w5 W.heap.size v5 TE):=ho5.base (S3.out.call HD.out).size
   clear hb5 ho5
   refine⟨_,rfl,?_⟩
   refine stepR 14 (HC.out _ HD5.out) (by kernel_rfl) rfl rfl v5 w5 (by kernel_rfl) ?_
   refine stepS 15 (HC.out _ HD5.out) (by kernel_rfl) rfl rfl 32 (.tmp 11) (.tmp 61) rfl (W.heap.size+1) #[U i6 0,U i6 0,U i6 0,U i6 0,U i6 0,U i6 0,U i6 0,U i6 0,U i6 0] (by kernel_rfl) (by kernel_rfl) 32 #[U i6 0,U i6 0,U i6 0,U i6 0,U i6 0,U i6 0,U i6 0,U i6 0,U i6 0] S5.out.h2 (by kernel_rfl) rfl (by simp [Value.oneCell']) ?_
   have O9:Hid (Own .i8 72 (w5.setRow (W.heap.size+1) #[U i6 0,U i6 0,U i6 0,U i6 0,U i6 0,U i6 0,U i6 0,U i6 0,U i6 0]) W.heap.size v5 TE):=Own.grown O5.out (grown_setRow w5 (W.heap.size+1) #[U i6 0,U i6 0,U i6 0,U i6 0,U i6 0,U i6 0,U i6 0,U i6 0,U i6 0]) (fun b hb c' e=>by
    cases hb
    rw [S5.out.h2] at e
    simp only [Option.some.injEq,Obj.cells.injEq] at e
    exact absurd e.2.1 (by decide))
   have B9:Hid (Below W.heap.size W (w5.setRow (W.heap.size+1) #[U i6 0,U i6 0,U i6 0,U i6 0,U i6 0,U i6 0,U i6 0,U i6 0,U i6 0])):=below_setRow S5.out.below (by omega) _
   refine doneC (?_) (by kernel_rfl) ?_ _
   ·have g5:=HC.out w5 HD5.out
    exact⟨(setRow_other _ _ _ _ (show ob≠W.heap.size+1 by omega)).trans g5.1,fun j u hj=>(cell_setRow _ _ _ _ (by rw [Addr.add_lit];exact hgW)).trans (g5.2.1 j u hj),fun j u hj=>(cell_setRow _ _ _ _ (by rw [Addr.add_lit];exact hgW)).trans (g5.2.2 j u hj)⟩
   refine (show ∀ a' w',Met _ a' w'→_ from by assumption) _ _ ?_
   refine Met.intro ?_
   go_step
   exact⟨v5,.agg #[U i6 k,U i6 (ja:Int),U i6 b,U i6 m,U i6 kh,U i6 kw,U i6 sh,U i6 sw,U i6 tp,U i6 lf,U i6 bt,U i6 rt,Sl wa lw cw,Sl ba lb bc,U i6 sm,U i6 ss,U i6 um,U i6 us,U i6 z,U i6 p,U i6 lo,U i6 hi],Sl (some ⟨gs,0,none⟩) (on+1) caps,.pointer (some ⟨ob,1,none⟩),U i6 (ja:Int),.pointer (some ⟨gs,ja*3,none⟩),.agg #[U i6 h,U i6 w,U i6 c],Sl (some ⟨gs,0,none⟩) (on+1) caps,U i6 ((i:Int)+1),.pointer (some ⟨gs,(i+1)*3,none⟩),.agg #[U i6 H,U i6 V,U i6 C],Sl ad n cap,Sl ad n cap,v5,.agg #[U i6 0,U i6 0,U i6 0,U i6 0,U i6 0,U i6 0,U i6 0,U i6 0,U i6 0],⟨O9.out,B9.out,setRow_heap w5 (W.heap.size+1) _ #[U i6 0,U i6 0,U i6 0,U i6 0,U i6 0,U i6 0,U i6 0,U i6 0,U i6 0] _ _ S5.out.h2⟩,by kernel_rfl⟩
  case rest =>
  obtain⟨ho9,hb9,hz9⟩:=hcut
  obtain⟨w9,rfl⟩:∃ w',w'=wc:=⟨_,rfl⟩
  obtain⟨v9,rfl⟩:∃ v',v'=u10:=⟨_,rfl⟩
  have O9:Hid (Own .i8 72 w9 W.heap.size v9 TE):=ho9
  have B9:Hid (Below W.heap.size W w9):=hb9
  have HC6:Hid (∀ i,w9.cell? ⟨W.heap.size+1,i,none⟩=(#[U i6 0,U i6 0,U i6 0,U i6 0,U i6 0,U i6 0,U i6 0,U i6 0,U i6 0])[i]?):=(cells_at hz9).1
  clear ho9 hb9 hz9 S3 HSA3 HSB3 HMk HX HY
  go_wp2
  exact bodyPost_ret (v:=.tuple #[v9,.agg #[U i6 0,U i6 0,U i6 0,U i6 0,U i6 0,U i6 0,U i6 0,U i6 0,U i6 0]]) (by have c6:=HC6.out;simp [results,Tryz.results9,go_sem,c6]) rfl ⟨⟨v9,rfl,O9.out⟩,B9.out⟩
theorem run_apE {nc by8:Nat} {T S:TypeId} {zv:Value} (hu:Tryz.prog.underlying S=some (.slice T)) (hin:(Tryz.prog.info? T).map (fun i=>(i.zero,i.size,i.bytes))=some (some zv,nc,by8)) (hzs:zv.cells.size=nc) (hnc:0<nc) (hby:1≤by8)
  {w:World} {o:Oper} {a:Act} (s x:Operand) (ho:o.op=.call { callee:=.builtin .append,args:=#[s,x],argTypes:=#[S,S] })
  (base g:Nat) (hs:a.eval s=.slice (some ⟨g,0,none⟩) 0 0) (hown:w.ownsRow base T nc (.slice (some ⟨g,0,none⟩) 0 0) 0 []) (ao:Option Addr) (m c:Nat) (news:List Value) (hx:a.eval x=.slice ao m c) (hl:news.length=m*nc) (hmc:m≤c) (hnone:ao=none→c=0)
  (hc:∀ b,ao=some b→∀ j u,news[j]? = some u→w.cell? (b.add j)=some u) (h1:∀ u∈news,u.oneCell'=true) (hlen:m*by8≤140737488351232) (hbase:base≤w.heap.size) :
  ∃ v' w',(execOp a.eval o).run Tryz.prog w=.ok (.value v') w'∧w'.ownsRow base T nc v' m news∧(v'.ownBlock=some g∨∀ b,v'.ownBlock=some b→w.heap.size≤b)∧w.grownBy w' (some g):=by
 obtain⟨i0,hi,hz0,hz1,hz2⟩:=info_parts hin
 have hm2:m≤140737488351232:=Nat.le_trans (Nat.le_mul_of_pos_right m (by omega)) hlen
 have hnil:m=0→news=[]:=fun q=>List.eq_nil_of_length_eq_zero (by rw [hl,q,Nat.zero_mul])
 cases ao with
 | none =>
  obtain rfl:c=0:=hnone rfl
  obtain rfl:m=0:=by omega
  obtain rfl:=hnil rfl
  have hrun:=run_append_owned_none (P:=Tryz.prog) (w:=w) base S o.type T i0 nc hu hi _ 0 [] hown
  refine⟨_,w,?_,hown,.inl rfl,World.grownBy.refl _ _⟩
  simp [execOp,ho,resolve,invoke,builtin,hs,hx,hrun,Result.andThen]
 | some ad =>
  by_cases h0:m=0
  ·subst h0
   obtain rfl:=hnil rfl
   obtain⟨w',hrun,r1,r2⟩:=run_append_fits (P:=Tryz.prog) w base S o.type T i0 nc hu hi hz1 g 0 0 [] hown ad 0 c [] (by simp) (fun j u q=>by simp at q) (fun u q=>by cases q) (Nat.le_refl _)
   refine⟨_,w',?_,r1,.inl rfl,r2⟩
   simp [execOp,ho,resolve,invoke,builtin,hs,hx,hrun,Result.andThen]
  ·obtain⟨v',w',hrun,r1,r2⟩:=run_append_arg_grows (P:=Tryz.prog) w S o.type T i0 zv nc by8 hu hi hz0 hz1 hz2 hzs hnc ⟨g,0,none⟩ 0 0 [] (by simp) (fun j u q=>by simp at q) ad m c news hl (hc ad rfl) (by omega) (by unfold maxLen;omega) (by rw [Nat.zero_add];omega)
   rw [Nat.zero_add,List.nil_append] at r1
   refine⟨v',w',?_,⟨r1.1,?_⟩,.inr fun b e=>(World.ownsRow.lt r1 b e).1,⟨r2.os,r2.tape,r2.output,r2.size,fun i hi' _=>r2.block i hi' (by simp)⟩⟩
   ·simp [execOp,ho,resolve,invoke,builtin,hs,hx,hrun,Result.andThen]
   ·rcases r1.2 with q | ⟨f,cap,cur,q1,q2,q3⟩
    ·exact .inl q
    ·exact .inr ⟨f,cap,cur,q1,Nat.le_trans hbase q2,q3⟩
theorem owns_apart {w w':World} {base nc n g:Nat} {T:TypeId} {v:Value} {xs:List Value} (h:w.ownsRow base T nc v n xs) (q:w.grownBy w' (some g)) (hg:v.ownBlock≠some g):w'.ownsRow base T nc v n xs:=by
 refine World.ownsRow.kept h q ?_
 cases e:v.ownBlock with
 | none=>exact .inl rfl
 | some b=>exact .inr fun x=>hg (by rw [e,x])
theorem viaC {P:Program} {md:Region.Mode} {ops:Array Oper} {C:World→Prop} {Q:Exit→Act→World→Prop} {f:Nat} {l:Array Bool} {a:Act} {w:World} (R:(Nat→Array Bool→Act→World→Prop)→Act→Prop)
  (h1:R (wpAnyC Fence.wide 3 P md ops C Q) a) (h2:R (wpAnyC Fence.wide 3 P md ops C Q) a→wpAnyC Fence.wide 3 P md ops C Q f l a w):wpAnyC Fence.wide 3 P md ops C Q f l a w:=h2 h1
theorem wpC_conv {P:Program} {md:Region.Mode} {ops:Array Oper} {C:World→Prop} {Q:Exit→Act→World→Prop} {f:Nat} {l l':Array Bool} {a a':Act} {w:World} (hl:l=l') (ha:a=a') (h:wpAnyC Fence.wide 3 P md ops C Q f l' a' w):wpAnyC Fence.wide 3 P md ops C Q f l a w:=by
 subst hl;subst ha;exact h
theorem act_eqS {Q:Act→World→Prop} {a b:Act} {w:World} (h:a=b) (k:Q b w):Q a w:=by
 subst h;exact k
theorem neCh (p1 p2 p3 p4 p5 p6:Int):∀ W,(binOp .neq 63 (.agg #[U i6 p1,U i6 p2,U i6 p3,U i6 p4,U i6 p5,U i6 p6]) (.agg #[U i6 p1,U i6 p2,U i6 p3,U i6 p4,U i6 p5,U i6 p6])).run Tryz.prog W=.ok (.bool false) W:=by
 intro W;simp [go_sem]
theorem samec_b (a1 a2:Option Addr) (n c1 c2:Nat) (PS:List Pl) (W:World) (h1:ERow 6 pcs W a1 n c1 PS) (h2:ERow 6 pcs W a2 n c2 PS) :
  Calls Tryz.prog 7 #[Sl a1 n c1,Sl a2 n c2] W fun e w'=>e=.returned (.bool true)∧Below W.heap.size W w':=by
 have H1:Hid (ERow 6 pcs W a1 n c1 PS):=h1
 have H2:Hid (ERow 6 pcs W a2 n c2 PS):=h2
 have g1:=h1.2.1
 have g2:=h1.2.2.1
 have g3:=h2.2.1
 have g4:=h2.2.2.1
 unfold maxLen at g2 g4
 clear h1 h2
 go_enter Tryz.func7,Tryz.ntmps7
 go_wp2
 go_loopw [13] (fun i wr=>∃ y:Nat,y≤n∧i=U i6 y∧Below W.heap.size W wr) (fun i _=>n-(intOf i).toNat)
 case atStart=>exact⟨0,Nat.zero_le _,rfl,Below.refl _ _⟩
 case round =>
  obtain⟨y,hy,rfl,hb⟩:=hrel
  have HB:Hid (Below W.heap.size W wr):=hb
  clear hb
  by_cases hlt:y<n
  ·obtain⟨x1,⟨p1,p2,p3,p4,p5,p6⟩,rfl,hq,-,k1⟩:=H1.out.at hlt
   obtain⟨x2,q',rfl,hq',-,k2⟩:=H2.out.at hlt
   obtain rfl:(p1,p2,p3,p4,p5,p6)=q':=by rw [hq] at hq';exact Option.some.inj hq'
   have K1:Hid (∀ w',Below wr.heap.size wr w'→∀ j v,[U i6 p1,U i6 p2,U i6 p3,U i6 p4,U i6 p5,U i6 p6][j]? = some v→w'.cell? ((x1.add (y*6)).add j)=some v):=fun w' hb j v hj=>((btr HB.out hb).cell (World.block_lt_of_cell? W _ (k1 j v hj))).trans (k1 j v hj)
   have K2:Hid (∀ w',Below wr.heap.size wr w'→∀ j v,[U i6 p1,U i6 p2,U i6 p3,U i6 p4,U i6 p5,U i6 p6][j]? = some v→w'.cell? ((x2.add (y*6)).add j)=some v):=fun w' hb j v hj=>((btr HB.out hb).cell (World.block_lt_of_cell? W _ (k2 j v hj))).trans (k2 j v hj)
   have qn:=neCh p1 p2 p3 p4 p5 p6
   clear hq hq' k1 k2 H1 H2
   go_wp2
   refine regionC (fun w'=>Below wr.heap.size wr w') (by kernel_rfl) ?_
   obtain⟨wd,hwd⟩:∃ wd,wr.drew=wd:=⟨_,rfl⟩
   have HD:Hid (Below wr.heap.size wr wd):=by unfold Hid;rw [← hwd];exact (Below.refl _ _).drew
   rw [hwd]
   clear hwd
   refine takeC 0 (v:=.slice (some x1) n c1) rfl rfl (by kernel_rfl) (by kernel_rfl) (by kernel_rfl) (fun _ _ _ h=>h) (fun _=>rfl) rfl (fun w' hw'=>by go_simp) ?_
   refine takeC 1 (v:=U i6 (y:Int)) rfl rfl (by kernel_rfl) (by kernel_rfl) (by kernel_rfl) (fun _ _ _ h=>h) (fun _=>rfl) rfl (fun w' hw'=>by go_simp) ?_
   refine takeC 2 (v:=.pointer (some (x1.add (y*6)))) rfl rfl (by kernel_rfl) (by kernel_rfl) (by kernel_rfl) (fun _ _ _ h=>h) (fun _=>rfl) rfl (fun w' hw'=>by go_simp) ?_
   refine takeC 3 (v:=.agg #[U i6 p1,U i6 p2,U i6 p3,U i6 p4,U i6 p5,U i6 p6]) rfl rfl (by kernel_rfl) (by kernel_rfl) (by kernel_rfl) (fun _ _ _ h=>h) (fun _=>rfl) rfl (fun w' hw'=>run_la 63 (.tmp 18) rfl _ (by kernel_rfl) [U i6 p1,U i6 p2,U i6 p3,U i6 p4,U i6 p5,U i6 p6] _ (K1.out w' hw') Tryz.underlying63 rfl (by kernel_rfl)) ?_
   refine takeC 4 (v:=.slice (some x2) n c2) rfl rfl (by kernel_rfl) (by kernel_rfl) (by kernel_rfl) (fun _ _ _ h=>h) (fun _=>rfl) rfl (fun w' hw'=>by go_simp) ?_
   refine takeC 5 (v:=U i6 (y:Int)) rfl rfl (by kernel_rfl) (by kernel_rfl) (by kernel_rfl) (fun _ _ _ h=>h) (fun _=>rfl) rfl (fun w' hw'=>by go_simp) ?_
   refine takeC 6 (v:=.pointer (some (x2.add (y*6)))) rfl rfl (by kernel_rfl) (by kernel_rfl) (by kernel_rfl) (fun _ _ _ h=>h) (fun _=>rfl) rfl (fun w' hw'=>by go_simp) ?_
   refine takeC 7 (v:=.agg #[U i6 p1,U i6 p2,U i6 p3,U i6 p4,U i6 p5,U i6 p6]) rfl rfl (by kernel_rfl) (by kernel_rfl) (by kernel_rfl) (fun _ _ _ h=>h) (fun _=>rfl) rfl (fun w' hw'=>run_la 63 (.tmp 22) rfl _ (by kernel_rfl) [U i6 p1,U i6 p2,U i6 p3,U i6 p4,U i6 p5,U i6 p6] _ (K2.out w' hw') Tryz.underlying63 rfl (by kernel_rfl)) ?_
   refine takeC 8 (v:=.bool false) rfl rfl (by kernel_rfl) (by kernel_rfl) (by kernel_rfl) (fun _ _ _ h=>h) (fun _=>rfl) rfl (fun w' hw'=>by go_simp) ?_
   refine doneC HD.out (by kernel_rfl) ?_ _
   have HB2:Hid (Below W.heap.size W wd):=btr HB.out HD.out
   clear K1 K2 HD HB qn
   refine act_eqS (b:={ tmps:=#[Sl (some x1) n c1,Sl (some x2) n c2,undef,undef,u4,U i6 (y:Int),Sl (some x1) n c1,U i6 (n:Int),Sl (some x2) n c2,U i6 (n:Int),.bool false,Sl (some x1) n c1,U i6 (n:Int),U i6 (y:Int),.bool true,U i6 (y:Int),Sl (some x1) n c1,U i6 (y:Int),.pointer (some (x1.add (y*6))),.agg #[U i6 p1,U i6 p2,U i6 p3,U i6 p4,U i6 p5,U i6 p6],Sl (some x2) n c2,U i6 (y:Int),.pointer (some (x2.add (y*6))),.agg #[U i6 p1,U i6 p2,U i6 p3,U i6 p4,U i6 p5,U i6 p6],.bool false,u25],defers:=[] }) (by kernel_rfl) ?_
   go_wp2
   go_roundw
   case rel=>exact⟨y+1,by omega,by go_num,HB2.out⟩
   case measure=>simp [intOf];omega
  ·obtain rfl:y=n:=by omega
   go_wp2
   go_ret
   exact⟨rfl,HB.out⟩
def twO (_:Nat) (j:Nat):Int:=[1,0,0,1,0,0,0,0,0,0,0,0,2,1,1,9,0,0,0,0,-128,127].getD j 0
def twZ (_:Nat):List Int:=[200,200]
def twB (_:Nat):List Int:=[0]
theorem tw_0:gtR twO 1 1 2 0 127 1 1=(0,0,[(1,1,2),(1,1,1)],2):=by decide
theorem tw_lrow {w:World} {g p q:Nat} (h:w.heap[g]? = some (.cells #[U i6 1,U i6 0,U i6 0,U i6 1,U i6 0,U i6 0,U i6 0,U i6 0,U i6 0,U i6 0,U i6 0,U i6 0,Sl (some ⟨p,0,none⟩) 2 2,Sl (some ⟨q,0,none⟩) 1 1,U i6 1,U i6 9,U i6 0,U i6 0,U i6 0,U i6 0,U i6 (-128),U i6 127] 55 (0,0))) (hp:w.heap[p]? = some (.cells #[.int .i16 200,.int .i16 200] 106 (0,0))) (hq:w.heap[q]? = some (.cells #[.int .i32 0] 21 (0,0))):LRow w (some ⟨g,0,none⟩) 1 1 twO twZ twB:=by
 refine⟨Nat.le_refl _,by unfold maxLen;omega,fun h=>(by cases h),fun x hx i hi=>?_⟩
 cases hx
 obtain rfl:i=0:=by omega
 refine⟨some ⟨p,0,none⟩,2,2,some ⟨q,0,none⟩,1,1,rfl,rfl,fun j v hj=>?_,irow_blk [200,200] hp (fun z hz=>?_) (by simp),irow_blk [0] hq (fun z hz=>?_) (by simp),by omega,by omega⟩
 ·rw [Nat.zero_mul,Addr.add_lit,Addr.add_lit,(cells_at h).1,← hj]
  simp [opl,twO]
 ·simp only [List.mem_cons,List.not_mem_nil,or_false] at hz
  rcases hz with rfl | rfl<;>rfl
 ·simp only [List.mem_cons,List.not_mem_nil,or_false] at hz
  subst hz;rfl
theorem two_any (W:World) :
  Calls Tryz.prog 20 #[] W fun e w'=>∃ g:Nat,e=.returned (.agg #[U i6 1,U i6 1,U i6 2,U i6 0,U i6 127,Sl (some ⟨g,0,none⟩) 1 1,U i6 1])∧LRow w' (some ⟨g,0,none⟩) 1 1 twO twZ twB∧Below W.heap.size W w':=by
 go_enter Tryz.func20,Tryz.ntmps20
 go_wp2
 have s1:=(((St.start W).new (c:=#[U i6 1,U i6 1,U i6 2,U i6 0,U i6 127,Sl (some ⟨W.heap.size+1+1+1,0,none⟩) 1 1,U i6 1]) (t:=26)).new (c:=#[.int .i16 200,.int .i16 200]) (t:=106)).new (c:=#[.int .i32 0]) (t:=21)
 simp only [World.size_alloc] at s1
 have s2:=s1.new (c:=#[U i6 1,U i6 0,U i6 0,U i6 1,U i6 0,U i6 0,U i6 0,U i6 0,U i6 0,U i6 0,U i6 0,U i6 0,Sl (some ⟨W.heap.size+1,0,none⟩) 2 2,Sl (some ⟨W.heap.size+1+1,0,none⟩) 1 1,U i6 1,U i6 9,U i6 0,U i6 0,U i6 0,U i6 0,U i6 (-128),U i6 127]) (t:=55)
 simp only [World.size_alloc] at s2
 exact bodyPost_ret (v:=.agg #[U i6 1,U i6 1,U i6 2,U i6 0,U i6 127,Sl (some ⟨W.heap.size+1+1+1,0,none⟩) 1 1,U i6 1]) (by simp [results,Tryz.results20,go_sem]) rfl ⟨W.heap.size+1+1+1,rfl,tw_lrow (p:=W.heap.size+1) (q:=W.heap.size+1+1) s2.h1 s2.h3 s2.h2,s2.below⟩
theorem erow_one {w:World} {B:Nat} {q:Pl} (h:w.heap[B]? = some (.cells (pcs q).toArray 63 (0,0))):ERow 6 pcs w (some ⟨B,0,none⟩) 1 1 [q]:=by
 refine⟨rfl,Nat.le_refl _,by unfold maxLen;omega,fun e=>(by cases e),fun x hx i p hp j v hv=>?_⟩
 cases hx
 have hi:i<1:=(List.getElem?_eq_some_iff.1 hp).1
 obtain rfl:i=0:=by omega
 simp only [List.getElem?_cons_zero,Option.some.injEq] at hp
 subst hp
 rw [Nat.zero_mul,Addr.add_lit,Addr.add_lit,(cells_at h).1]
 simpa using hv
theorem fx_e1:oLn twO [(1,1,2),(1,1,1)] 0 2 1 0 [(16,1,0,0,0,0)]=(0,0,0):=by decide
theorem fx_e2:oLn twO [(1,1,2),(1,1,1)] 0 2 1 0 [(16,2,0,0,0,0)]=(0,0,0):=by decide
theorem fx_e3:oLn twO [(1,1,2),(1,1,1)] 0 2 0 0 []=(70,1,0):=by decide
theorem fx_n1:oNm (twO 0) (([(1,1,2),(1,1,1)]:List (Int×Int×Int)).getD (twO 0 1).toNat (0,0,0)) (([(1,1,2),(1,1,1)]:List (Int×Int×Int)).getD (0+1) (0,0,0)) (twZ 0) (twB 0) [127,127] [] [(16,1,0,0,0,0)]=[99]:=by kernel_rfl
theorem fx_n2:oNm (twO 0) (([(1,1,2),(1,1,1)]:List (Int×Int×Int)).getD (twO 0 1).toNat (0,0,0)) (([(1,1,2),(1,1,1)]:List (Int×Int×Int)).getD (0+1) (0,0,0)) (twZ 0) (twB 0) [127,127] [] [(16,2,0,0,0,0)]=[-29]:=by kernel_rfl
theorem fx_t1:(oTk (twO 0) (([(1,1,2),(1,1,1)]:List (Int×Int×Int)).getD (twO 0 1).toNat (0,0,0)) (([(1,1,2),(1,1,1)]:List (Int×Int×Int)).getD (0+1) (0,0,0)) (twZ 0) (twB 0) [127,127] [(16,1,0,0,0,0)]).cs=#[U i6 2,U i6 2,U i6 0,U i6 2,U i6 0,U i6 25400,U i6 25400,U i6 25400,U i6 50800]:=by kernel_rfl
theorem fx_t2:(oTk (twO 0) (([(1,1,2),(1,1,1)]:List (Int×Int×Int)).getD (twO 0 1).toNat (0,0,0)) (([(1,1,2),(1,1,1)]:List (Int×Int×Int)).getD (0+1) (0,0,0)) (twZ 0) (twB 0) [127,127] [(16,2,0,0,0,0)]).cs=#[U i6 2,U i6 2,U i6 0,U i6 1,U i6 1,U i6 (-14736),U i6 25400,U i6 (-14736),U i6 (-14736)]:=by kernel_rfl
theorem op_fx1 (w:World) (g:Nat) (hL:LRow w (some ⟨g,0,none⟩) 1 1 twO twZ twB) (B D:Nat) (hb:w.heap[B]? = some (.cells #[U i6 16,U i6 1,U i6 0,U i6 0,U i6 0,U i6 0] 63 (0,0))) (hd:w.heap[D]? = some (.cells #[.int .i8 127,.int .i8 127] 72 (0,0))) :
  Calls Tryz.prog 4 #[.agg #[U i6 1,U i6 1,U i6 2,U i6 0,U i6 127,Sl (some ⟨g,0,none⟩) 1 1,U i6 1],U i6 1,Sl (some ⟨B,0,none⟩) 1 1,Sl (some ⟨D,0,none⟩) 2 2,Sl none 0 0] w fun e w'=>(∃ v,e=.returned (.tuple #[v,.agg #[U i6 2,U i6 2,U i6 0,U i6 2,U i6 0,U i6 25400,U i6 25400,U i6 25400,U i6 50800],.agg #[U i6 0,U i6 0,U i6 0]])∧Own .i8 72 w' w.heap.size v [99])∧Below w.heap.size w w':=by
 refine (op_i 1 1 2 0 127 1 (some ⟨g,0,none⟩) 1 1 twO twZ twB w hL 1 _ 1 1 [(16,1,0,0,0,0)] _ 2 2 [127,127] none 0 0 [] (erow_one hb) (irow_blk [127,127] hd (fun z hz=>?_) (by simp)) (irow_nil _ _) _ _ tw_0 0 (by omega) rfl 0 0 0 fx_e1).mono ?_
 ·simp only [List.mem_cons,List.not_mem_nil,or_false] at hz
  rcases hz with rfl | rfl<;>rfl
 ·rintro e w' ⟨⟨v,T,rfl,h⟩,hb2⟩
  rcases h with ⟨h0,-⟩ | ⟨-,hO,rfl⟩
  ·exact absurd rfl h0
  ·rw [fx_n1] at hO
   rw [fx_t1]
   exact⟨⟨v,rfl,hO⟩,hb2⟩
theorem op_fx2 (w:World) (g:Nat) (hL:LRow w (some ⟨g,0,none⟩) 1 1 twO twZ twB) (B D:Nat) (hb:w.heap[B]? = some (.cells #[U i6 16,U i6 2,U i6 0,U i6 0,U i6 0,U i6 0] 63 (0,0))) (hd:w.heap[D]? = some (.cells #[.int .i8 127,.int .i8 127] 72 (0,0))) :
  Calls Tryz.prog 4 #[.agg #[U i6 1,U i6 1,U i6 2,U i6 0,U i6 127,Sl (some ⟨g,0,none⟩) 1 1,U i6 1],U i6 1,Sl (some ⟨B,0,none⟩) 1 1,Sl (some ⟨D,0,none⟩) 2 2,Sl none 0 0] w fun e w'=>(∃ v,e=.returned (.tuple #[v,.agg #[U i6 2,U i6 2,U i6 0,U i6 1,U i6 1,U i6 (-14736),U i6 25400,U i6 (-14736),U i6 (-14736)],.agg #[U i6 0,U i6 0,U i6 0]])∧Own .i8 72 w' w.heap.size v [-29])∧Below w.heap.size w w':=by
 refine (op_i 1 1 2 0 127 1 (some ⟨g,0,none⟩) 1 1 twO twZ twB w hL 1 _ 1 1 [(16,2,0,0,0,0)] _ 2 2 [127,127] none 0 0 [] (erow_one hb) (irow_blk [127,127] hd (fun z hz=>?_) (by simp)) (irow_nil _ _) _ _ tw_0 0 (by omega) rfl 0 0 0 fx_e2).mono ?_
 ·simp only [List.mem_cons,List.not_mem_nil,or_false] at hz
  rcases hz with rfl | rfl<;>rfl
 ·rintro e w' ⟨⟨v,T,rfl,h⟩,hb2⟩
  rcases h with ⟨h0,-⟩ | ⟨-,hO,rfl⟩
  ·exact absurd rfl h0
  ·rw [fx_n2] at hO
   rw [fx_t2]
   exact⟨⟨v,rfl,hO⟩,hb2⟩
theorem op_fx3 (w:World) (g:Nat) (hL:LRow w (some ⟨g,0,none⟩) 1 1 twO twZ twB) (D:Nat) (hd:w.heap[D]? = some (.cells #[.int .i8 127,.int .i8 127] 72 (0,0))) :
  Calls Tryz.prog 4 #[.agg #[U i6 1,U i6 1,U i6 2,U i6 0,U i6 127,Sl (some ⟨g,0,none⟩) 1 1,U i6 1],U i6 1,Sl none 0 0,Sl (some ⟨D,0,none⟩) 2 2,Sl none 0 0] w fun e w'=>e=.returned (.tuple #[Sl none 0 0,.agg #[U i6 0,U i6 0,U i6 0,U i6 0,U i6 0,U i6 0,U i6 0,U i6 0,U i6 0],.agg #[U i6 70,U i6 1,U i6 0]])∧Below w.heap.size w w':=by
 refine (op_i 1 1 2 0 127 1 (some ⟨g,0,none⟩) 1 1 twO twZ twB w hL 1 _ 0 0 [] _ 2 2 [127,127] none 0 0 [] (erow_nil _ _ _) (irow_blk [127,127] hd (fun z hz=>?_) (by simp)) (irow_nil _ _) _ _ tw_0 0 (by omega) rfl 70 1 0 fx_e3).mono ?_
 ·simp only [List.mem_cons,List.not_mem_nil,or_false] at hz
  rcases hz with rfl | rfl<;>rfl
 ·rintro e w' ⟨⟨v,T,rfl,h⟩,hb2⟩
  rcases h with ⟨-,rfl,rfl⟩ | ⟨h0,-⟩
  ·exact⟨rfl,hb2⟩
  ·cases h0
theorem fixed_any (W:World):Calls Tryz.prog 6 #[] W fun e w'=>e=.returned (.bool true)∧Below W.heap.size W w':=by
 have HF1:Hid (∀ w g hL B D hb hd,_):=op_fx1
 have HF2:Hid (∀ w g hL B D hb hd,_):=op_fx2
 have HF3:Hid (∀ w g hL D hd,_):=op_fx3
 have HTW:Hid (∀ W,_):=two_any
 go_enter Tryz.func6,Tryz.ntmps6
 go_wp2_with fail
 refine (HTW.out _).mono ?_
 rintro e w1 ⟨g,rfl,hL,b1⟩
 have s1:=(((St.start W).call b1).new (c:=#[U i6 16,U i6 1,U i6 0,U i6 0,U i6 0,U i6 0]) (t:=63)).new (c:=#[.int .i8 127,.int .i8 127]) (t:=72)
 simp only [World.size_alloc] at s1
 have L1:Hid (LRow ((w1.alloc (.cells #[U i6 16,U i6 1,U i6 0,U i6 0,U i6 0,U i6 0] 63)).alloc (.cells #[.int .i8 127,.int .i8 127] 72)) (some ⟨g,0,none⟩) 1 1 twO twZ twB):=(hL.below (bal _ _)).below (bal _ _)
 have S1:Hid (St W _ _):=s1
 clear s1 hL b1
 go_wp2_with fail
 refine (HF1.out _ g L1.out (w1.heap.size) (w1.heap.size+1) S1.out.h2 S1.out.h1).mono ?_
 rintro e w2 ⟨⟨v,rfl,hO⟩,b2⟩
 obtain⟨va,vc,rfl,hrow,-⟩:=hO.row
 obtain⟨xa,u,rfl,hu,-,huz,-⟩:=hrow.at (show 0 < [(99:Int)].length by decide)
 simp only [List.getElem?_cons_zero,Option.some.injEq] at huz
 subst huz
 have s2:=(((S1.out.call b2).sub (l':=[]) (by simp)).new (c:=#[U i6 2,U i6 2,U i6 0,U i6 2,U i6 0,U i6 25400,U i6 25400,U i6 25400,U i6 50800]) (t:=32)).new (c:=#[U i6 0,U i6 0,U i6 0]) (t:=35)
 simp only [World.size_alloc] at s2
 have hc2:((w2.alloc (.cells #[U i6 2,U i6 2,U i6 0,U i6 2,U i6 0,U i6 25400,U i6 25400,U i6 25400,U i6 50800] 32)).alloc (.cells #[U i6 0,U i6 0,U i6 0] 35)).cell? xa=some (.int .i8 99):=by
  have h0:w2.cell? xa=some (.int .i8 99):=by rwa [Addr.add_zero'] at hu
  exact ((bt (bal w2 _) (bal _ _)).cell (World.block_lt_of_cell? w2 _ h0)).trans h0
 clear hO hrow hu b2 L1 S1
 go_upto_region 2 with fail
 obtain⟨t1,ht1⟩:∃ t1,w2.heap.size=t1:=⟨_,rfl⟩
 obtain⟨w3,hw3⟩:∃ w3,(w2.alloc (.cells #[U i6 2,U i6 2,U i6 0,U i6 2,U i6 0,U i6 25400,U i6 25400,U i6 25400,U i6 50800] 32)).alloc (.cells #[U i6 0,U i6 0,U i6 0] 35)=w3:=⟨_,rfl⟩
 rw [hw3,ht1] at s2
 rw [hw3] at hc2
 rw [hw3,ht1]
 have S3:Hid (St W w3 [(t1+1,#[U i6 0,U i6 0,U i6 0],35),(t1,#[U i6 2,U i6 2,U i6 0,U i6 2,U i6 0,U i6 25400,U i6 25400,U i6 25400,U i6 50800],32)]):=s2
 have C3:Hid (w3.cell? xa=some (.int .i8 99)):=hc2
 clear hw3 ht1 s2 hc2
 go_wp2_with fail
 refine (HTW.out _).mono ?_
 rintro e w4 ⟨g4,rfl,hL,b4⟩
 have s4:=((S3.out.call b4).new (c:=#[U i6 16,U i6 2,U i6 0,U i6 0,U i6 0,U i6 0]) (t:=63)).new (c:=#[.int .i8 127,.int .i8 127]) (t:=72)
 simp only [World.size_alloc] at s4
 have L4:Hid (LRow ((w4.alloc (.cells #[U i6 16,U i6 2,U i6 0,U i6 0,U i6 0,U i6 0] 63)).alloc (.cells #[.int .i8 127,.int .i8 127] 72)) (some ⟨g4,0,none⟩) 1 1 twO twZ twB):=(hL.below (bal _ _)).below (bal _ _)
 have S4:Hid (St W _ _):=s4
 have C4:Hid (((w4.alloc (.cells #[U i6 16,U i6 2,U i6 0,U i6 0,U i6 0,U i6 0] 63)).alloc (.cells #[.int .i8 127,.int .i8 127] 72)).cell? xa=some (.int .i8 99)):=((bt b4 (bt (bal w4 _) (bal _ _))).cell (World.block_lt_of_cell? w3 _ C3.out)).trans C3.out
 clear s4 hL b4 S3 C3
 go_wp2_with fail
 refine (HF2.out _ g4 L4.out (w4.heap.size) (w4.heap.size+1) S4.out.h2 S4.out.h1).mono ?_
 rintro e w5 ⟨⟨v,rfl,hO⟩,b5⟩
 obtain⟨vb,vd,rfl,hrow,-⟩:=hO.row
 obtain⟨xb,u,rfl,hu,-,huz,-⟩:=hrow.at (show 0 < [(-29:Int)].length by decide)
 simp only [List.getElem?_cons_zero,Option.some.injEq] at huz
 subst huz
 have s5:=(((S4.out.call b5).sub (l':=[(t1+1,#[U i6 0,U i6 0,U i6 0],35),(t1,#[U i6 2,U i6 2,U i6 0,U i6 2,U i6 0,U i6 25400,U i6 25400,U i6 25400,U i6 50800],32)]) (by simp)).new (c:=#[U i6 2,U i6 2,U i6 0,U i6 1,U i6 1,U i6 (-14736),U i6 25400,U i6 (-14736),U i6 (-14736)]) (t:=32)).new (c:=#[U i6 0,U i6 0,U i6 0]) (t:=35)
 simp only [World.size_alloc] at s5
 have bw:Below w5.heap.size w5 ((w5.alloc (.cells #[U i6 2,U i6 2,U i6 0,U i6 1,U i6 1,U i6 (-14736),U i6 25400,U i6 (-14736),U i6 (-14736)] 32)).alloc (.cells #[U i6 0,U i6 0,U i6 0] 35)):=bt (bal w5 _) (bal _ _)
 have hb5:((w5.alloc (.cells #[U i6 2,U i6 2,U i6 0,U i6 1,U i6 1,U i6 (-14736),U i6 25400,U i6 (-14736),U i6 (-14736)] 32)).alloc (.cells #[U i6 0,U i6 0,U i6 0] 35)).cell? xb=some (.int .i8 (-29)):=by
  have h0:w5.cell? xb=some (.int .i8 (-29)):=by rwa [Addr.add_zero'] at hu
  exact (bw.cell (World.block_lt_of_cell? w5 _ h0)).trans h0
 have hc5:((w5.alloc (.cells #[U i6 2,U i6 2,U i6 0,U i6 1,U i6 1,U i6 (-14736),U i6 25400,U i6 (-14736),U i6 (-14736)] 32)).alloc (.cells #[U i6 0,U i6 0,U i6 0] 35)).cell? xa=some (.int .i8 99):=((bt b5 bw).cell (World.block_lt_of_cell? _ _ C4.out)).trans C4.out
 clear hO hrow hu b5 L4 S4 C4 bw
 go_upto_region 3 with fail
 obtain⟨t2,ht2⟩:∃ t2,w5.heap.size=t2:=⟨_,rfl⟩
 obtain⟨w6,hw6⟩:∃ w6,(w5.alloc (.cells #[U i6 2,U i6 2,U i6 0,U i6 1,U i6 1,U i6 (-14736),U i6 25400,U i6 (-14736),U i6 (-14736)] 32)).alloc (.cells #[U i6 0,U i6 0,U i6 0] 35)=w6:=⟨_,rfl⟩
 rw [hw6,ht2] at s5
 rw [hw6] at hb5 hc5
 rw [hw6,ht2]
 have S6:Hid (St W w6 [(t2+1,#[U i6 0,U i6 0,U i6 0],35),(t2,#[U i6 2,U i6 2,U i6 0,U i6 1,U i6 1,U i6 (-14736),U i6 25400,U i6 (-14736),U i6 (-14736)],32),(t1+1,#[U i6 0,U i6 0,U i6 0],35),(t1,#[U i6 2,U i6 2,U i6 0,U i6 2,U i6 0,U i6 25400,U i6 25400,U i6 25400,U i6 50800],32)]):=s5
 have C6:Hid (w6.cell? xa=some (.int .i8 99)):=hc5
 have B6:Hid (w6.cell? xb=some (.int .i8 (-29))):=hb5
 clear hw6 ht2 s5 hc5 hb5
 go_wp2_with fail
 refine (HTW.out _).mono ?_
 rintro e w7 ⟨g7,rfl,hL,b7⟩
 have L7:Hid (LRow (w7.alloc (.cells #[.int .i8 127,.int .i8 127] 72)) (some ⟨g7,0,none⟩) 1 1 twO twZ twB):=hL.below (bal _ _)
 have S7:Hid (St W w7 _):=S6.out.call b7
 have hb67:=b7
 clear hL b7
 go_wp2_with fail
 refine (HF3.out _ g7 L7.out (w7.heap.size) (heap_alloc_new w7 _)).mono ?_
 rintro e w8 ⟨rfl,b8⟩
 have bw:Below w6.heap.size w6 ((w8.alloc (.cells #[U i6 0,U i6 0,U i6 0,U i6 0,U i6 0,U i6 0,U i6 0,U i6 0,U i6 0] 32)).alloc (.cells #[U i6 70,U i6 1,U i6 0] 35)):=bt hb67 (bt (bal w7 (.cells #[.int .i8 127,.int .i8 127] 72)) (bt b8 (bt (bal w8 _) (bal _ _))))
 have s9:=S6.out.call bw
 have hn9:=heap_alloc_new (w8.alloc (.cells #[U i6 0,U i6 0,U i6 0,U i6 0,U i6 0,U i6 0,U i6 0,U i6 0,U i6 0] 32)) (.cells #[U i6 70,U i6 1,U i6 0] 35)
 simp only [World.size_alloc] at hn9
 have hc9:=(bw.cell (World.block_lt_of_cell? _ _ C6.out)).trans C6.out
 have hb9:=(bw.cell (World.block_lt_of_cell? _ _ B6.out)).trans B6.out
 clear b8 hb67 L7 S7 S6 C6 B6 bw
 go_upto_region 4 with fail
 obtain⟨t3,ht3⟩:∃ t3,w8.heap.size=t3:=⟨_,rfl⟩
 obtain⟨w9,hw9⟩:∃ w9,(w8.alloc (.cells #[U i6 0,U i6 0,U i6 0,U i6 0,U i6 0,U i6 0,U i6 0,U i6 0,U i6 0] 32)).alloc (.cells #[U i6 70,U i6 1,U i6 0] 35)=w9:=⟨_,rfl⟩
 rw [hw9] at s9 hc9 hb9
 rw [hw9,ht3] at hn9
 rw [hw9,ht3]
 clear hw9 ht3
 have D9:Hid (Below W.heap.size W w9):=s9.below
 obtain⟨q1,g1,y1,q2,g2,y2,q3,g3,y3,q4,g4',y4,-⟩:=s9.rules
 obtain⟨q5,g5,y5⟩:=cells_at hn9
 have e1:=eqFt 0 0 0 0 0 0 true (by decide)
 have e2:=eqFt 70 1 0 70 1 0 true (by decide)
 clear s9 hn9
 go_wp2
 go_ret
 exact⟨rfl,D9.out⟩
end Go.Proofs.YtehofmkpgopmpaaGreat.Kr
namespace Go.Proofs.YtehofmkpgopmpaaGreat
open Go.Value renaming int → U, slice → Sl
open Go.IntKind renaming i64 → i6
set_option maxRecDepth 100000
set_option maxHeartbeats 16000000
open Go.ChangeShapes Go.WideShapes Go.ChangeAt Go.RowKit
set_option linter.unusedVariables false
end Go.Proofs.YtehofmkpgopmpaaGreat
namespace Go.Proofs.YtehofmkpgopmpaaGreat.Kr
open Go.Value renaming int → U, slice → Sl
open Go.IntKind renaming i64 → i6
set_option maxRecDepth 100000
set_option maxHeartbeats 16000000
open Go.ChangeShapes Go.WideShapes Go.ChangeAt Go.RowKit
set_option linter.unusedVariables false
theorem threeC {P:Program} {ops:Array Oper} {md:Region.Mode} {C:World→Prop} {Q:Exit→Act→World→Prop} (i j k:Nat) {fuel:Nat} {listed:Array Bool} {a:Act} {w:World} (hC:C w) (hr:Region.ready md ops listed=[i,j,k])
  (h1:wpOpIn Fence.wide 3 P ops Q i (wpAnyC Fence.wide 3 P md ops C Q fuel (listed.setIfInBounds i true)) a w)
  (h2:wpOpIn Fence.wide 3 P ops Q j (wpAnyC Fence.wide 3 P md ops C Q fuel (listed.setIfInBounds j true)) a w)
  (h3:wpOpIn Fence.wide 3 P ops Q k (wpAnyC Fence.wide 3 P md ops C Q fuel (listed.setIfInBounds k true)) a w):wpAnyC Fence.wide 3 P md ops C Q (fuel+1) listed a w :=
 ⟨hC,fun h0=>(by rw [hr] at h0;cases h0),fun m hm=>by
  rw [hr] at hm
  simp only [List.mem_cons,List.not_mem_nil,or_false] at hm
  rcases hm with rfl | rfl | rfl
  ·exact h1
  ·exact h2
  ·exact h3⟩
end Go.Proofs.YtehofmkpgopmpaaGreat.Kr
