/- What the document's Check of layer 21 returns. What the small functions of package kern return: places, widened, scaled, means, added (made by tools/gen/Kr.py). What alone of package kern returns: a model of one op (made by tools/gen/Kr.py). What Length, Channels and Positions of package terms return. -/
import Derived.Test.YtehofmkpgopmpaaGreatGq13
import Derived.Test.YtehofmkpgopmpaaGreatGq15
import Derived.Test.YtehofmkpgopmpaaGreatGq20
namespace Go.Proofs.YtehofmkpgopmpaaGreat.Kr
open Go.Value renaming int → U, slice → Sl
open Go.IntKind renaming i64 → i6
set_option maxRecDepth 100000
set_option maxHeartbeats 16000000
open Go.ChangeShapes Go.WideShapes Go.ChangeAt Go.RowKit
set_option linter.unusedVariables false
theorem put_none9 (a:Act) (v:Value):a.put none v=a:=rfl
theorem osh9 {w:World} {base:Nat} {v:Value} {L:List (Int×Int×Int)} {n:Nat} (hs:OSh w base v L) (hn:L.length=n+1):∃ g cap,v=.slice (some ⟨g,0,none⟩) (n+1) cap∧n+1≤cap∧cap≤9223372036854775807∧∀ i,i<n+1→∀ A B C,L.getD i (0,0,0)=(A,B,C)→∀ j u,[Value.int .i64 A,U i6 B,U i6 C][j]? = some u→w.cell? ((⟨g,i*3,none⟩:Addr).add j)=some u:=by
 obtain⟨g,cap,cur,q1,q2,q3,q4,q5⟩:=hs.cu (by omega)
 unfold maxLen at q5
 refine⟨g,cap,by rw [q1,hn],by rw [← hn];exact q4.2.1,by omega,fun i hi A B C e j u hj=>?_⟩
 obtain⟨b1,b2,b3⟩:=q4.at (show i<L.length by omega)
 rw [e] at b1 b2 b3
 simp only at b1 b2 b3
 rw [Addr.add_lit,(cells_at q3).1]
 match j,hj with
 | 0,hj=>simp only [List.getElem?_cons_zero] at hj;rw [← hj];exact b1
 | 1,hj=>simp only [List.getElem?_cons_succ,List.getElem?_cons_zero] at hj;rw [← hj];exact b2
 | 2,hj=>simp only [List.getElem?_cons_succ,List.getElem?_cons_zero] at hj;rw [← hj];exact b3
 | j+3,hj=>simp at hj
theorem rsize_any (h w c:Int) (W:World) (g:vS h w c=true) :
  Calls Tryz.prog 16 #[.agg #[U i6 h,U i6 w,U i6 c]] W fun e w'=>e=.returned (U i6 (h*w*c))∧Below W.heap.size W w':=by
 have p3:=vS_bd g
 clear g
 go_enter Tryz.func16,Tryz.ntmps16
 go_wp2
 go_ret
 exact⟨rfl,bal _ _⟩
theorem rck_w (h0 w0 c0 lo0 hi0 ot:Int) (x:Addr) (on oc:Nat) (k a b m kh kw sh sw tp lf bt rt:Int) (wa:Option Addr) (lw cw:Nat) (ba:Option Addr) (lb bc:Nat) (sm ss um us z p lo hi h w c H V C:Int) (i ja jb:Nat) (RL:List (Int×Int×Int)) (W:World)
  (hS:∀ W',Below W.heap.size W W'→Calls Tryz.prog 15 #[.agg #[U i6 h0,U i6 w0,U i6 c0,U i6 lo0,U i6 hi0,Sl (some x) on oc,U i6 ot]] W' fun e w'=>∃ v wk,e=.returned (.tuple #[v,U i6 wk,.agg #[U i6 0,U i6 0,U i6 0]])∧OSh w' W'.heap.size v RL∧Below W'.heap.size W' w')
  (hCn:∀ W',Below W.heap.size W W'→Calls Tryz.prog 17 #[.agg #[U i6 h0,U i6 w0,U i6 c0,U i6 lo0,U i6 hi0,Sl (some x) on oc,U i6 ot],U i6 ((i:Int)+1)] W' fun e w'=>e=.returned (U i6 (if k≤4 then C else 0))∧Below W'.heap.size W' w')
  (hRl:RL.length=on+1) (ho64:on≤64) (hoc:on≤oc) (hom:oc≤9223372036854775807) (hA:RL.getD ja (0,0,0)=(h,w,c)) (hB6:k=6→RL.getD jb (0,0,0)=(h,w,c)) (hil:i<on) (hja:ja≤i) (hjb:jb≤i) (ha:a=(ja:Int)) (hb:b=(jb:Int))
  (hop:∀ q v,[U i6 k,U i6 a,U i6 b,U i6 m,U i6 kh,U i6 kw,U i6 sh,U i6 sw,U i6 tp,U i6 lf,U i6 bt,U i6 rt,Sl wa lw cw,Sl ba lb bc,U i6 sm,U i6 ss,U i6 um,U i6 us,U i6 z,U i6 p,U i6 lo,U i6 hi][q]? = some v→W.cell? ((x.add (i*22)).add q)=some v) (s:Opd k b m kh kw sh sw tp lf bt rt lw lb sm ss um us z p lo hi h w c H V C)
  (pa:Option Addr) (pl pc:Nat) (PS:List Pl) (hPS:ERow 6 pcs W pa pl pc PS) (ad:Option Addr) (n cap:Nat) (hncap:n≤9223372036854775807) (bd:Option Addr) (nb capb:Nat) (hnbcap:nb≤9223372036854775807)
  (E1 E2 E3:Int) (hE:lnE k h w c C (stR k kh kw h w c) ((i:Int)+1) n pl nb PS=(E1,E2,E3)) :
  Calls Tryz.prog 5 #[.agg #[U i6 h0,U i6 w0,U i6 c0,U i6 lo0,U i6 hi0,Sl (some x) on oc,U i6 ot],U i6 ((i:Int)+1),Sl pa pl pc,Sl ad n cap,Sl bd nb capb] W fun e w'=>e=.returned (.agg #[U i6 E1,U i6 E2,U i6 E3])∧Below W.heap.size W w':=by
 subst ha hb
 have s0:=((St.start W).new (c:=#[U i6 h0,U i6 w0,U i6 c0,U i6 lo0,U i6 hi0,Sl (some x) on oc,U i6 ot]) (t:=26)).new (c:=#[U i6 0,U i6 0,U i6 0]) (t:=35)
 simp only [World.size_alloc] at s0
 have HS:Hid (∀ W',Below W.heap.size W W'→_):=hS
 have HCN:Hid (∀ W',Below W.heap.size W W'→_):=hCn
 have HOP:Hid (∀ q v,[U i6 k,U i6 (ja:Int),U i6 (jb:Int),U i6 m,U i6 kh,U i6 kw,U i6 sh,U i6 sw,U i6 tp,U i6 lf,U i6 bt,U i6 rt,Sl wa lw cw,Sl ba lb bc,U i6 sm,U i6 ss,U i6 um,U i6 us,U i6 z,U i6 p,U i6 lo,U i6 hi][q]? = some v→W.cell? ((x.add (i*22)).add q)=some v):=hop
 have hvA:=s.hA
 have HSz:Hid (∀ W,Calls Tryz.prog 16 #[.agg #[U i6 h,U i6 w,U i6 c]] W fun e w'=>e=.returned (U i6 (h*w*c))∧Below W.heap.size W w'):=fun W=>rsize_any h w c W hvA
 have hk8:=s.hk
 have HLn:Hid (k≤4→∀ W,_):=fun h4 W=>length_any k ja jb m kh kw sh sw tp lf bt rt wa lw cw ba lb bc sm ss um us z p lo hi h w c W (decide_eq_true ⟨hk8.1,h4⟩) hvA (fun q=>(s.si h4).2.2.2.2.2.1 q.1)
 have hR1:k≤4→1≤stR k kh kw h w c:=fun h4=>(s.si h4).2.2.2.2.2.2.2.2.1
 have HR1:Hid (k≤4→1≤stR k kh kw h w c):=hR1
 have HPS:Hid (ERow 6 pcs W pa pl pc PS):=hPS
 have hpc:=hPS.2.1
 have hpm:=hPS.2.2.1
 unfold maxLen at hpm
 obtain⟨LL,hLL⟩:∃ LL,stR k kh kw h w c=LL:=⟨_,rfl⟩
 obtain⟨NN,hNN⟩:∃ NN,h*w*c=NN:=⟨_,rfl⟩
 obtain⟨Y,hY⟩:∃ Y,(if k≤4 then C else 0)=Y:=⟨_,rfl⟩
 unfold lnE at hE
 rw [hY,hNN,hLL] at hE
 rw [hNN] at HSz
 rw [hLL] at HLn HR1
 rw [hY] at HCN
 have HY:Hid ((if k≤4 then C else 0)=Y):=hY
 have HE:Hid (_=(E1,E2,E3)):=hE
 have HRl:Hid (RL.length=on+1):=hRl
 have HA9:Hid (RL.getD ja (0,0,0)=(h,w,c)):=hA
 have HB9:Hid (k=6→RL.getD jb (0,0,0)=(h,w,c)):=hB6
 clear hS hCn hop hE s hPS hvA hR1 hRl hA hB6 hLL hNN hY
 go_enter Tryz.func5,Tryz.ntmps5
 go_wp2_with fail
 refine Calls.mono (HS.out _ s0.below) ?_
 rintro e w1 ⟨v,wk,rfl,hSh,hb⟩
 obtain⟨gs,caps,rfl,hcap,hcapm,hsh⟩:=osh9 hSh HRl.out
 have s1:=(s0.call hb).new (c:=#[U i6 0,U i6 0,U i6 0]) (t:=35)
 have hsA:=hsh ja (by omega) h w c HA9.out
 have HSA:Hid (∀ w',Below w1.heap.size w1 w'→∀ j u,[Value.int .i64 h,U i6 w,U i6 c][j]? = some u→w'.cell? ((⟨gs,ja*3,none⟩:Addr).add j)=some u):=fun w' hb j u hj=>(hb.cell (World.block_lt_of_cell? w1 _ (hsA j u hj))).trans (hsA j u hj)
 have HSB:Hid (k=6→∀ w',Below w1.heap.size w1 w'→∀ j u,[Value.int .i64 h,U i6 w,U i6 c][j]? = some u→w'.cell? ((⟨gs,jb*3,none⟩:Addr).add j)=some u):=fun q w' hb j u hj=>(hb.cell (World.block_lt_of_cell? w1 _ (hsh jb (by omega) h w c (HB9.out q) j u hj))).trans (hsh jb (by omega) h w c (HB9.out q) j u hj)
 obtain⟨q1,g1,y1,q2,g2,y2,-⟩:=(s0.call hb).rules
 have hfm:=y1
 clear hb hSh hsh HS s0 hsA
 go_upto_region 2 with fail
 have hb12:=bal w1 (.cells #[U i6 0,U i6 0,U i6 0] 35)
 obtain⟨fb,hfb⟩:∃ fb,w1.heap.size=fb:=⟨_,rfl⟩
 obtain⟨w2,hw2⟩:∃ w2,w1.alloc (.cells #[U i6 0,U i6 0,U i6 0] 35)=w2:=⟨_,rfl⟩
 rw [hw2,hfb] at s1
 rw [hw2] at hb12
 rw [hfb] at hfm
 rw [hw2,hfb]
 have S2:Hid (St W w2 ((fb,#[U i6 0,U i6 0,U i6 0],35) :: [(W.heap.size+1,#[U i6 0,U i6 0,U i6 0],35),(W.heap.size,#[U i6 h0,U i6 w0,U i6 c0,U i6 lo0,U i6 hi0,Sl (some x) on oc,U i6 ot],26)])):=s1
 have HB12:Hid (Below w1.heap.size w1 w2):=hb12
 clear hw2 q1 g1 y1 q2 g2 y2 hb12 hfb
 obtain⟨q0,g0,y0,q1,g1,y1,q2,g2,y2,-⟩:=s1.rules
 clear s1
 go_upto_region 6 with fail
 have hcel:Hid (∀ q v,[U i6 k,U i6 (ja:Int),U i6 (jb:Int),U i6 m,U i6 kh,U i6 kw,U i6 sh,U i6 sw,U i6 tp,U i6 lf,U i6 bt,U i6 rt,Sl wa lw cw,Sl ba lb bc,U i6 sm,U i6 ss,U i6 um,U i6 us,U i6 z,U i6 p,U i6 lo,U i6 hi][q]? = some v→w2.cell? ((x.add (i*22)).add q)=some v):=fun q v hq=>(S2.out.below.cell (World.block_lt_of_cell? W _ (HOP.out q v hq))).trans (HOP.out q v hq)
 go_upto_region 7 with (first
  | (refine wpList_load_any rfl 55 (.tmp 42) rfl _ rfl [U i6 k,U i6 (ja:Int),U i6 (jb:Int),U i6 m,U i6 kh,U i6 kw,U i6 sh,U i6 sw,U i6 tp,U i6 lf,U i6 bt,U i6 rt,Sl wa lw cw,Sl ba lb bc,U i6 sm,U i6 ss,U i6 um,U i6 us,U i6 z,U i6 p,U i6 lo,U i6 hi] _ hcel.out Tryz.underlying55 rfl (by kernel_rfl) ?_)
  | (refine wpList_st_new rfl 55 (.tmp 14) (.tmp 43) rfl w2 #[U i6 0,U i6 0,U i6 0,U i6 0,U i6 0,U i6 0,U i6 0,U i6 0,U i6 0,U i6 0,U i6 0,U i6 0,Sl none 0 0,Sl none 0 0,U i6 0,U i6 0,U i6 0,U i6 0,U i6 0,U i6 0,U i6 0,U i6 0] #[U i6 k,U i6 (ja:Int),U i6 (jb:Int),U i6 m,U i6 kh,U i6 kw,U i6 sh,U i6 sw,U i6 tp,U i6 lf,U i6 bt,U i6 rt,Sl wa lw cw,Sl ba lb bc,U i6 sm,U i6 ss,U i6 um,U i6 us,U i6 z,U i6 p,U i6 lo,U i6 hi] rfl rfl (by kernel_rfl) rfl (by simp [Value.oneCell']) ?_))
 obtain⟨ob,hob⟩:∃ ob,w2.heap.size=ob:=⟨_,rfl⟩
 obtain⟨w3,hw3⟩:∃ w3,w2.alloc (.cells #[U i6 k,U i6 (ja:Int),U i6 (jb:Int),U i6 m,U i6 kh,U i6 kw,U i6 sh,U i6 sw,U i6 tp,U i6 lf,U i6 bt,U i6 rt,Sl wa lw cw,Sl ba lb bc,U i6 sm,U i6 ss,U i6 um,U i6 us,U i6 z,U i6 p,U i6 lo,U i6 hi] 55)=w3:=⟨_,rfl⟩
 have s3:=S2.out.new (c:=#[U i6 k,U i6 (ja:Int),U i6 (jb:Int),U i6 m,U i6 kh,U i6 kw,U i6 sh,U i6 sw,U i6 tp,U i6 lf,U i6 bt,U i6 rt,Sl wa lw cw,Sl ba lb bc,U i6 sm,U i6 ss,U i6 um,U i6 us,U i6 z,U i6 p,U i6 lo,U i6 hi]) (t:=55)
 have hb3:=bal w2 (.cells #[U i6 k,U i6 (ja:Int),U i6 (jb:Int),U i6 m,U i6 kh,U i6 kw,U i6 sh,U i6 sw,U i6 tp,U i6 lf,U i6 bt,U i6 rt,Sl wa lw cw,Sl ba lb bc,U i6 sm,U i6 ss,U i6 um,U i6 us,U i6 z,U i6 p,U i6 lo,U i6 hi] 55)
 rw [hw3,hob] at s3
 rw [hw3] at hb3
 rw [hw3,hob]
 have S3:Hid (St W w3 ((ob,#[U i6 k,U i6 (ja:Int),U i6 (jb:Int),U i6 m,U i6 kh,U i6 kw,U i6 sh,U i6 sw,U i6 tp,U i6 lf,U i6 bt,U i6 rt,Sl wa lw cw,Sl ba lb bc,U i6 sm,U i6 ss,U i6 um,U i6 us,U i6 z,U i6 p,U i6 lo,U i6 hi],55) :: (fb,#[U i6 0,U i6 0,U i6 0],35) :: [(W.heap.size+1,#[U i6 0,U i6 0,U i6 0],35),(W.heap.size,#[U i6 h0,U i6 w0,U i6 c0,U i6 lo0,U i6 hi0,Sl (some x) on oc,U i6 ot],26)])):=s3
 have HSA3:Hid (∀ w',Below w3.heap.size w3 w'→∀ j u,[Value.int .i64 h,U i6 w,U i6 c][j]? = some u→w'.cell? ((⟨gs,ja*3,none⟩:Addr).add j)=some u):=fun w' q=>HSA.out w' (btr (btr HB12.out hb3) q)
 have HSB3:Hid (k=6→∀ w',Below w3.heap.size w3 w'→∀ j u,[Value.int .i64 h,U i6 w,U i6 c][j]? = some u→w'.cell? ((⟨gs,jb*3,none⟩:Addr).add j)=some u):=fun k6 w' q=>HSB.out k6 w' (btr (btr HB12.out hb3) q)
 clear hw3 hob s3 hb3 q0 g0 y0 q1 g1 y1 q2 g2 y2 hcel HOP HSA HSB HB12 S2
 obtain⟨c1,f1,z1,c2,f2,z2,c3,f3,z3,c4,f4,z4,-⟩:=S3.out.rules
 rw [put_none9]
 go_cut [76] from 44 to 76 (fun x wx=>x=.bool (decide ((n:Int)≠NN∨(k=6∧(nb:Int)≠NN)∨(pl:Int)≠Y))∧Below w3.heap.size w3 wx)
 case first =>
  go_wp2_with (refine wpList_load_any rfl 23 (.tmp 49) rfl _ rfl [U i6 h,U i6 w,U i6 c] _ (HSA3.out _ (Below.refl _ _)) Tryz.underlying23 rfl (by kernel_rfl) ?_)
  refine (HSz.out _).mono ?_
  rintro e w4 ⟨rfl,hb4⟩
  have S4:Hid (St W w4 ((ob,#[U i6 k,U i6 (ja:Int),U i6 (jb:Int),U i6 m,U i6 kh,U i6 kw,U i6 sh,U i6 sw,U i6 tp,U i6 lf,U i6 bt,U i6 rt,Sl wa lw cw,Sl ba lb bc,U i6 sm,U i6 ss,U i6 um,U i6 us,U i6 z,U i6 p,U i6 lo,U i6 hi],55) :: (fb,#[U i6 0,U i6 0,U i6 0],35) :: [(W.heap.size+1,#[U i6 0,U i6 0,U i6 0],35),(W.heap.size,#[U i6 h0,U i6 w0,U i6 c0,U i6 lo0,U i6 hi0,Sl (some x) on oc,U i6 ot],26)])):=S3.out.call hb4
  have B4:Hid (Below w3.heap.size w3 w4):=hb4
  clear hb4 S3 c1 f1 z1 c2 f2 z2 c3 f3 z3 c4 f4 z4
  obtain⟨c1,f1,z1,c2,f2,z2,c3,f3,z3,c4,f4,z4,-⟩:=S4.out.rules
  by_cases g1:(n:Int)=NN
  ·subst g1
   by_cases k6:k=6
   ·subst k6
    have b0:w4.cell? ⟨gs,jb*3,none⟩=some (U i6 h):=by have:=HSB3.out rfl _ B4.out 0 _ rfl;rwa [Addr.add_lit,Nat.add_zero] at this
    have b1:w4.cell? ⟨gs,jb*3+1,none⟩=some (U i6 w):=by have:=HSB3.out rfl _ B4.out 1 _ rfl;rwa [Addr.add_lit] at this
    have b2:w4.cell? ⟨gs,jb*3+2,none⟩=some (U i6 c):=by have:=HSB3.out rfl _ B4.out 2 _ rfl;rwa [Addr.add_lit] at this
    go_wp2_with fail
    refine (HSz.out _).mono ?_
    rintro e w5 ⟨rfl,hb5⟩
    have S5:Hid (St W w5 ((ob,#[U i6 6,U i6 (ja:Int),U i6 (jb:Int),U i6 m,U i6 kh,U i6 kw,U i6 sh,U i6 sw,U i6 tp,U i6 lf,U i6 bt,U i6 rt,Sl wa lw cw,Sl ba lb bc,U i6 sm,U i6 ss,U i6 um,U i6 us,U i6 z,U i6 p,U i6 lo,U i6 hi],55) :: (fb,#[U i6 0,U i6 0,U i6 0],35) :: [(W.heap.size+1,#[U i6 0,U i6 0,U i6 0],35),(W.heap.size,#[U i6 h0,U i6 w0,U i6 c0,U i6 lo0,U i6 hi0,Sl (some x) on oc,U i6 ot],26)])):=S4.out.call hb5
    have B5:Hid (Below w3.heap.size w3 w5):=btr B4.out hb5
    clear hb5 S4 B4 c1 f1 z1 c2 f2 z2 c3 f3 z3 c4 f4 z4 b0 b1 b2
    obtain⟨c1,f1,z1,c2,f2,z2,c3,f3,z3,c4,f4,z4,-⟩:=S5.out.rules
    by_cases g3:(nb:Int)=(n:Int)
    ·have g3':((nb:Int) != (n:Int))=false:=by simp [g3]
     go_wp2_with fail
     refine (HCN.out _ S5.out.below).mono ?_
     rintro e w6 ⟨rfl,hb6⟩
     have B6:Hid (Below w3.heap.size w3 w6):=btr B5.out hb6
     clear hb6 S5 B5 c1 f1 z1 c2 f2 z2 c3 f3 z3 c4 f4 z4
     go_wp2
     go_meet
     exact⟨by simp [g3]; by_cases q:(pl:Int)=Y<;>simp [q],B6.out⟩
    ·have g3':((nb:Int) != (n:Int))=true:=by simp [g3]
     go_wp2
     go_meet
     exact⟨by simp [g3],B5.out⟩
   ·have g2:(k == 6)=false:=by simp [k6]
    go_wp2_with fail
    refine (HCN.out _ S4.out.below).mono ?_
    rintro e w6 ⟨rfl,hb6⟩
    have B6:Hid (Below w3.heap.size w3 w6):=btr B4.out hb6
    clear hb6 S4 B4 c1 f1 z1 c2 f2 z2 c3 f3 z3 c4 f4 z4
    go_wp2
    go_meet
    exact⟨by simp [k6]; by_cases q:(pl:Int)=Y<;>simp [q],B6.out⟩
  ·have g4:((n:Int) == NN)=false:=by simpa using g1
   go_wp2
   go_meet
   exact⟨by simp [g1],B4.out⟩
 case rest =>
 obtain⟨rfl,hbx⟩:=hcut
 obtain⟨w4,rfl⟩:∃ w',w'=wc:=⟨_,rfl⟩
 have S4:Hid (St W w4 ((ob,#[U i6 k,U i6 (ja:Int),U i6 (jb:Int),U i6 m,U i6 kh,U i6 kw,U i6 sh,U i6 sw,U i6 tp,U i6 lf,U i6 bt,U i6 rt,Sl wa lw cw,Sl ba lb bc,U i6 sm,U i6 ss,U i6 um,U i6 us,U i6 z,U i6 p,U i6 lo,U i6 hi],55) :: (fb,#[U i6 0,U i6 0,U i6 0],35) :: [(W.heap.size+1,#[U i6 0,U i6 0,U i6 0],35),(W.heap.size,#[U i6 h0,U i6 w0,U i6 c0,U i6 lo0,U i6 hi0,Sl (some x) on oc,U i6 ot],26)])):=S3.out.call hbx
 have HSA4:Hid (∀ w',Below w4.heap.size w4 w'→∀ j u,[Value.int .i64 h,U i6 w,U i6 c][j]? = some u→w'.cell? ((⟨gs,ja*3,none⟩:Addr).add j)=some u):=fun w' q=>HSA3.out w' (btr hbx q)
 clear S3 HSA3 HSB3 hbx c1 f1 z1 c2 f2 z2 c3 f3 z3 c4 f4 z4 HCN HSz
 have hWW:W.heap.size≤W.heap.size+1:=by omega
 by_cases bad:(n:Int)≠NN∨(k=6∧(nb:Int)≠NN)∨(pl:Int)≠Y
 ·have hb1:decide ((n:Int)≠NN∨(k=6∧(nb:Int)≠NN)∨(pl:Int)≠Y)=true:=decide_eq_true bad
  have e:=HE.out
  have bad2:(n:Int)≠NN∨(pl:Int)≠Y∨(k=6∧(nb:Int)≠NN):=by
   rcases bad with q | q | q
   ·exact .inl q
   ·exact .inr (.inr q)
   ·exact .inr (.inl q)
  rw [if_pos bad2] at e
  simp only [Prod.mk.injEq] at e
  obtain⟨rfl,rfl,rfl⟩:=e
  rw [hb1]
  obtain⟨c1,f1,z1,c2,f2,z2,c3,f3,z3,c4,f4,z4,-⟩:=S4.out.rules
  clear bad bad2 hb1 HE HLn HPS HSA4
  go_wp2
  exact bodyPost_ret (v:=.agg #[U i6 70,U i6 ((i:Int)+1),U i6 0]) (by simp [results,Tryz.results5,go_sem, *]) rfl ⟨rfl,set3b S4.out.below (by omega)⟩
 ·have hb1:decide ((n:Int)≠NN∨(k=6∧(nb:Int)≠NN)∨(pl:Int)≠Y)=false:=decide_eq_false bad
  have e:=HE.out
  simp only [not_or,Decidable.not_not,not_and] at bad
  obtain⟨d1,d2,d3⟩:=bad
  rw [if_neg (by
   rintro (q | q | ⟨q1,q2⟩)
   ·exact q d1
   ·exact q d3
   ·exact q2 (d2 q1))] at e
  have HE2:Hid (pfE ((i:Int)+1) LL PS 0=(E1,E2,E3)):=e
  rw [hb1]
  have hk4:pl≠0→k≤4:=fun q=>by
   have:=HY.out
   by_cases q4:k≤4
   ·exact q4
   ·rw [if_neg q4] at this;omega
  clear hb1 e HE d1 d2 d3
  have hpe:pfE ((i:Int)+1) LL (PS.drop 0) 0=(E1,E2,E3):=HE2.out
  go_wp2_with fail
  go_loopw [81] (fun j wr=>∃ y:Nat,y≤pl∧j=U i6 y∧pfE ((i:Int)+1) LL (PS.drop y) y=(E1,E2,E3)∧Below w4.heap.size w4 wr) (fun j _=>pl-(intOf j).toNat)
  case atStart=>exact⟨0,Nat.zero_le _,rfl,hpe,Below.refl _ _⟩
  clear hpe HE2
  obtain⟨y,hy,rfl,hpe,hb⟩:=hrel
  have HB:Hid (Below w4.heap.size w4 wr):=hb
  have SR:Hid (St W wr ((ob,#[U i6 k,U i6 (ja:Int),U i6 (jb:Int),U i6 m,U i6 kh,U i6 kw,U i6 sh,U i6 sw,U i6 tp,U i6 lf,U i6 bt,U i6 rt,Sl wa lw cw,Sl ba lb bc,U i6 sm,U i6 ss,U i6 um,U i6 us,U i6 z,U i6 p,U i6 lo,U i6 hi],55) :: (fb,#[U i6 0,U i6 0,U i6 0],35) :: [(W.heap.size+1,#[U i6 0,U i6 0,U i6 0],35),(W.heap.size,#[U i6 h0,U i6 w0,U i6 c0,U i6 lo0,U i6 hi0,Sl (some x) on oc,U i6 ot],26)])):=S4.out.call hb
  clear hb
  by_cases hlt:y<pl
  ·obtain⟨xp,⟨p1,p2,p3,p4,p5,p6⟩,rfl,hq,hdr,kq⟩:=HPS.out.at hlt
   have h4:=hk4 (by omega)
   rw [hdr] at hpe
   unfold pfE at hpe
   have HLE:=HLn.out h4
   have h1L:=HR1.out h4
   have HDE:Hid (∀ W,_):=fun W=>rdeep_any p1 p2 p3 p4 p5 p6 LL h1L W
   obtain⟨D,hD⟩:∃ D,deE (p1,p2,p3,p4,p5,p6) LL=D:=⟨_,rfl⟩
   rw [hD] at hpe HDE
   have HPE:Hid ((if D≠0 then (D,(i:Int)+1,(y:Int)+1) else pfE ((i:Int)+1) LL (PS.drop (y+1)) (y+1))=(E1,E2,E3)):=hpe
   have HLE2:Hid (∀ W,_):=HLE
   have hcell:Hid (∀ j v,[U i6 p1,U i6 p2,U i6 p3,U i6 p4,U i6 p5,U i6 p6][j]? = some v→wr.cell? ((xp.add (y*6)).add j)=some v):=fun j v hj=>(SR.out.below.cell (World.block_lt_of_cell? W _ (kq j v hj))).trans (kq j v hj)
   clear hpe HLE hD hq hdr kq S4
   obtain⟨c1,f1,z1,c2,f2,z2,c3,f3,z3,c4,f4,z4,-⟩:=SR.out.rules
   go_upto_region 12 with (first
    | (refine wpList_load_any rfl 63 (.tmp 84) rfl _ rfl [U i6 p1,U i6 p2,U i6 p3,U i6 p4,U i6 p5,U i6 p6] _ hcell.out Tryz.underlying63 rfl (by kernel_rfl) ?_)
    | (refine wpList_st_new rfl 63 (.tmp 16) (.tmp 85) rfl wr _ #[U i6 p1,U i6 p2,U i6 p3,U i6 p4,U i6 p5,U i6 p6] rfl rfl (by kernel_rfl) rfl (by simp [Value.oneCell']) ?_))
   have s5:=SR.out.new (c:=#[U i6 p1,U i6 p2,U i6 p3,U i6 p4,U i6 p5,U i6 p6]) (t:=63)
   have hb5:=btr HB.out (bal wr (.cells #[U i6 p1,U i6 p2,U i6 p3,U i6 p4,U i6 p5,U i6 p6] 63))
   obtain⟨pb,hpb⟩:∃ pb,wr.heap.size=pb:=⟨_,rfl⟩
   obtain⟨w5,hw5⟩:∃ w5,wr.alloc (.cells #[U i6 p1,U i6 p2,U i6 p3,U i6 p4,U i6 p5,U i6 p6] 63)=w5:=⟨_,rfl⟩
   rw [hw5,hpb] at s5
   rw [hw5] at hb5
   rw [hw5,hpb]
   have S5:Hid (St W w5 ((pb,#[U i6 p1,U i6 p2,U i6 p3,U i6 p4,U i6 p5,U i6 p6],63) :: (ob,#[U i6 k,U i6 (ja:Int),U i6 (jb:Int),U i6 m,U i6 kh,U i6 kw,U i6 sh,U i6 sw,U i6 tp,U i6 lf,U i6 bt,U i6 rt,Sl wa lw cw,Sl ba lb bc,U i6 sm,U i6 ss,U i6 um,U i6 us,U i6 z,U i6 p,U i6 lo,U i6 hi],55) :: (fb,#[U i6 0,U i6 0,U i6 0],35) :: [(W.heap.size+1,#[U i6 0,U i6 0,U i6 0],35),(W.heap.size,#[U i6 h0,U i6 w0,U i6 c0,U i6 lo0,U i6 hi0,Sl (some x) on oc,U i6 ot],26)])):=s5
   have B5:Hid (Below w4.heap.size w4 w5):=hb5
   clear s5 hb5 hw5 hpb SR HB hcell c1 f1 z1 c2 f2 z2 c3 f3 z3 c4 f4 z4
   refine regionC (fun w'=>Below w5.heap.size w5 w') (by kernel_rfl) ?_
   obtain⟨wd,hwd⟩:∃ wd,w5.drew=wd:=⟨_,rfl⟩
   have HD:Hid (Below w5.heap.size w5 wd):=by unfold Hid;rw [← hwd];exact (Below.refl _ _).drew
   rw [hwd]
   clear hwd
   have G1:Hid (∀ w',Below w5.heap.size w5 w'→w'.heap[pb]? = some (.cells #[U i6 p1,U i6 p2,U i6 p3,U i6 p4,U i6 p5,U i6 p6] 63 (0,0))):=fun w' q=>(S5.out.call q).h1
   have G2:Hid (∀ w',Below w5.heap.size w5 w'→w'.heap[ob]? = some (.cells #[U i6 k,U i6 (ja:Int),U i6 (jb:Int),U i6 m,U i6 kh,U i6 kw,U i6 sh,U i6 sw,U i6 tp,U i6 lf,U i6 bt,U i6 rt,Sl wa lw cw,Sl ba lb bc,U i6 sm,U i6 ss,U i6 um,U i6 us,U i6 z,U i6 p,U i6 lo,U i6 hi] 55 (0,0))):=fun w' q=>(S5.out.call q).h2
   refine takeC 0 (v:=.agg #[U i6 p1,U i6 p2,U i6 p3,U i6 p4,U i6 p5,U i6 p6]) rfl rfl (by kernel_rfl) (by kernel_rfl) (by kernel_rfl) (fun _ _ _ h=>h) (fun _=>rfl) rfl (fun w' hw'=>run_la 63 (.tmp 16) rfl ⟨pb,0,none⟩ (by kernel_rfl) [U i6 p1,U i6 p2,U i6 p3,U i6 p4,U i6 p5,U i6 p6] _ (lcells (G1.out w' hw') (fun q v hq=>by
    rcases q with _ | _ | _ | _ | _ | _ | q<;>simp at hq<;>subst hq<;>rfl)) Tryz.underlying63 rfl (by kernel_rfl)) ?_
   refine takeC 1 (v:=.agg #[U i6 k,U i6 (ja:Int),U i6 (jb:Int),U i6 m,U i6 kh,U i6 kw,U i6 sh,U i6 sw,U i6 tp,U i6 lf,U i6 bt,U i6 rt,Sl wa lw cw,Sl ba lb bc,U i6 sm,U i6 ss,U i6 um,U i6 us,U i6 z,U i6 p,U i6 lo,U i6 hi]) rfl rfl (by kernel_rfl) (by kernel_rfl) (by kernel_rfl) (fun _ _ _ h=>h) (fun _=>rfl) rfl (fun w' hw'=>run_la 55 (.tmp 14) rfl ⟨ob,0,none⟩ (by kernel_rfl) [U i6 k,U i6 (ja:Int),U i6 (jb:Int),U i6 m,U i6 kh,U i6 kw,U i6 sh,U i6 sw,U i6 tp,U i6 lf,U i6 bt,U i6 rt,Sl wa lw cw,Sl ba lb bc,U i6 sm,U i6 ss,U i6 um,U i6 us,U i6 z,U i6 p,U i6 lo,U i6 hi] _ (lcells (G2.out w' hw') (fget [U i6 k,U i6 (ja:Int),U i6 (jb:Int),U i6 m,U i6 kh,U i6 kw,U i6 sh,U i6 sw,U i6 tp,U i6 lf,U i6 bt,U i6 rt,Sl wa lw cw,Sl ba lb bc,U i6 sm,U i6 ss,U i6 um,U i6 us,U i6 z,U i6 p,U i6 lo,U i6 hi] [])) Tryz.underlying55 rfl (by kernel_rfl)) ?_
   refine takeC 2 (v:=.slice (some ⟨gs,0,none⟩) (on+1) caps) rfl rfl (by kernel_rfl) (by kernel_rfl) (by kernel_rfl) (fun _ _ _ h=>h) (fun _=>rfl) rfl (fun w' hw'=>by go_simp) ?_
   refine takeC 3 (v:=.pointer (some ⟨ob,1,none⟩)) rfl rfl (by kernel_rfl) (by kernel_rfl) (by kernel_rfl) (fun _ _ _ h=>h) (fun _=>rfl) rfl (fun w' hw'=>by go_simp) ?_
   refine takeC 4 (v:=U i6 (ja:Int)) rfl rfl (by kernel_rfl) (by kernel_rfl) (by kernel_rfl) (fun _ _ _ h=>h) (fun _=>rfl) rfl (fun w' hw'=>by have hc:=(cells_at (G2.out w' hw')).1 1;go_simp) ?_
   refine takeC 5 (v:=.pointer (some ⟨gs,ja*3,none⟩)) rfl rfl (by kernel_rfl) (by kernel_rfl) (by kernel_rfl) (fun _ _ _ h=>h) (fun _=>rfl) rfl (fun w' hw'=>by go_simp;try omega) ?_
   refine takeC 6 (v:=.agg #[U i6 h,U i6 w,U i6 c]) rfl rfl (by kernel_rfl) (by kernel_rfl) (by kernel_rfl) (fun _ _ _ h=>h) (fun _=>rfl) rfl (fun w' hw'=>run_la 23 (.tmp 91) rfl ⟨gs,ja*3,none⟩ (by kernel_rfl) [U i6 h,U i6 w,U i6 c] _ (HSA4.out w' (btr B5.out hw')) Tryz.underlying23 rfl (by kernel_rfl)) ?_
   refine stepK 7 HD.out (by kernel_rfl) rfl rfl 19 #[.agg #[U i6 k,U i6 (ja:Int),U i6 (jb:Int),U i6 m,U i6 kh,U i6 kw,U i6 sh,U i6 sw,U i6 tp,U i6 lf,U i6 bt,U i6 rt,Sl wa lw cw,Sl ba lb bc,U i6 sm,U i6 ss,U i6 um,U i6 us,U i6 z,U i6 p,U i6 lo,U i6 hi],.agg #[U i6 h,U i6 w,U i6 c]] (by kernel_rfl) (HLE2.out wd) ?_
   rintro e w6 ⟨rfl,hb6⟩
   have HD6:Hid (Below w5.heap.size w5 w6):=btr HD.out hb6
   clear hb6
   refine⟨_,rfl,?_⟩
   refine stepK 8 HD6.out (by kernel_rfl) rfl rfl 18 #[.agg #[U i6 p1,U i6 p2,U i6 p3,U i6 p4,U i6 p5,U i6 p6],U i6 LL] (by kernel_rfl) (HDE.out w6) ?_
   rintro e w7 ⟨rfl,hb7⟩
   have HD7:Hid (Below w5.heap.size w5 w7):=btr HD6.out hb7
   clear hb7
   refine⟨_,rfl,?_⟩
   refine stepR 9 HD7.out (by kernel_rfl) rfl rfl (U i6 D) w7 (by kernel_rfl) ?_
   refine doneC HD7.out (by kernel_rfl) ?_ _
   have S7:Hid (St W w7 ((pb,#[U i6 p1,U i6 p2,U i6 p3,U i6 p4,U i6 p5,U i6 p6],63) :: (ob,#[U i6 k,U i6 (ja:Int),U i6 (jb:Int),U i6 m,U i6 kh,U i6 kw,U i6 sh,U i6 sw,U i6 tp,U i6 lf,U i6 bt,U i6 rt,Sl wa lw cw,Sl ba lb bc,U i6 sm,U i6 ss,U i6 um,U i6 us,U i6 z,U i6 p,U i6 lo,U i6 hi],55) :: (fb,#[U i6 0,U i6 0,U i6 0],35) :: [(W.heap.size+1,#[U i6 0,U i6 0,U i6 0],35),(W.heap.size,#[U i6 h0,U i6 w0,U i6 c0,U i6 lo0,U i6 hi0,Sl (some x) on oc,U i6 ot],26)])):=S5.out.call HD7.out
   have B7:Hid (Below w4.heap.size w4 w7):=btr B5.out HD7.out
   clear HD HD6 HD7 G1 G2 HLE2 HDE S5 B5 HPS HSA4 HLn HR1
   obtain⟨c1,f1,z1,c2,f2,z2,c3,f3,z3,c4,f4,z4,c5,f5,z5,-⟩:=S7.out.rules
   by_cases hd0:D=0
   ·subst hd0
    have e:=HPE.out
    rw [if_neg (by simp)] at e
    have HE3:Hid (_=(E1,E2,E3)):=e
    clear e HPE
    go_wp2
    go_roundw
    case rel=>exact⟨y+1,by omega,by go_num,HE3.out,B7.out⟩
    case measure=>simp [intOf];omega
   ·have e:=HPE.out
    rw [if_pos hd0] at e
    simp only [Prod.mk.injEq] at e
    obtain⟨rfl,rfl,rfl⟩:=e
    have hd1:(D == 0)=false:=by simp [hd0]
    clear HPE
    go_wp2
    exact bodyPost_ret (v:=.agg #[U i6 D,U i6 ((i:Int)+1),U i6 ((y:Int)+1)]) (by simp [results,Tryz.results5,go_sem, *]) rfl ⟨rfl,set3b S7.out.below (by omega)⟩
  ·obtain rfl:y=pl:=by omega
   have hlP:=HPS.out.1
   rw [← hlP,List.drop_length] at hpe
   unfold pfE at hpe
   simp only [Prod.mk.injEq] at hpe
   obtain⟨rfl,rfl,rfl⟩:=hpe
   obtain⟨c1,f1,z1,c2,f2,z2,c3,f3,z3,c4,f4,z4,-⟩:=SR.out.rules
   clear HPS HSA4 HLn HR1 S4 HB hlP
   go_wp2
   exact bodyPost_ret (v:=.agg #[U i6 0,U i6 0,U i6 0]) (by simp [results,Tryz.results5,go_sem, *]) rfl ⟨rfl,set3b SR.out.below (by omega)⟩
theorem places_plain (h w c:Int) (W:World) (g:vS h w c=true) :
  Calls Tryz.prog 12 #[.agg #[U i6 h,U i6 w,U i6 c]] W fun e w'=>e=.returned (U i6 (h*w*c))∧Below W.heap.size W w':=by
 have p3:=vS_bd g
 clear g
 go_enter Tryz.func12,Tryz.ntmps12
 go_wp2
 go_ret
 exact⟨rfl,bal _ _⟩
theorem widened_any (a:Option Addr) (n cap:Nat) (xs:List Int) (W:World) (hX:IRow .i8 W a n cap xs) (hn:n≤1000000) :
  Calls Tryz.prog 34 #[Sl a n cap] W fun e w'=>(∃ v,e=.returned v∧Own .i64 2 w' W.heap.size v xs)∧Below W.heap.size W w':=by
 have hwf:Wf .i64 xs:=fun v hv=>mk_i64 (by have:=hX.i8 v hv;unfold I8 at this;omega)
 have hlen:=hX.1
 have HX:Hid (IRow .i8 W a n cap xs):=hX
 have HL:Hid (xs.length=n):=hlen
 clear hX hlen
 go_enter Tryz.func34,Tryz.ntmps34
 go_wp2_with (at_make;refine wpList_mak kt_i64 rfl _ rfl n _ rfl rfl (by omega) ?_;intro hnew)
 have hB0:Bk .i64 2 _ W.heap.size (fil xs 0):=Bk.new hnew HL.out
 have HB0:Hid (Bk .i64 2 _ W.heap.size (fil xs 0)):=hB0
 clear hnew hB0
 go_loopw [11] (fun i wr=>∃ y:Nat,y≤n∧i=U i6 y∧Bk .i64 2 wr W.heap.size (fil xs y)∧Below W.heap.size W wr) (fun i _=>n-(intOf i).toNat)
 case atStart=>exact⟨0,Nat.zero_le _,rfl,HB0.out,bal _ _⟩
 case round =>
  obtain⟨y,hy,rfl,hB,hb⟩:=hrel
  clear HB0
  by_cases hlt:y<n
  ·obtain⟨x,u,rfl,hu,hw8,hz,-⟩:=(HX.out.below hb).at hlt
   obtain⟨u1,u2⟩:=wf_i8 hw8
   obtain⟨hc,hf,hs⟩:=hB.at (p:=y) (by rw [fil_len _ (by rw [HL.out];omega),HL.out];exact hlt)
   have HS:Hid (Bk .i64 2 (wr.setCell ⟨W.heap.size,y,none⟩ (U i6 u)) W.heap.size (fil xs (y+1))):=by
    have:=hB.set (p:=y) u
    have e:u=xs.getD y 0:=by rw [List.getD_eq_getElem?_getD,hz];rfl
    rw [e,fil_set (by rw [HL.out];exact hlt),← e] at this
    exact this
   clear hB hz hw8
   go_wp2
   go_roundw
   case rel=>exact⟨y+1,by omega,by go_num,HS.out,hb.setCell (p:=⟨W.heap.size,y,none⟩) (Nat.le_refl _) _⟩
   case measure=>simp [intOf];omega
  ·obtain rfl:y=n:=by omega
   have hO:Hid (Own .i64 2 wr W.heap.size (.slice (some ⟨W.heap.size,0,none⟩) y y) xs):=by
    have e:=HL.out
    subst e
    rw [fil_all] at hB
    exact own_full hB hwf (by unfold maxLen;omega) (Nat.le_refl _)
   clear hB
   go_wp2
   go_ret
   exact⟨⟨_,rfl,hO.out⟩,hb⟩
theorem scaled_any (m s:Int) (a:Option Addr) (n cap:Nat) (xs:List Int) (W:World) (hX:IRow .i64 W a n cap xs) (hn:n≤1000000) (hbd:∀ v∈xs,-4294967296≤v∧v≤4294967296) :
  Calls Tryz.prog 36 #[Sl a n cap,.agg #[U i6 m,U i6 s]] W fun e w'=>(∃ v,e=.returned v∧Own .i64 2 w' W.heap.size v (apL xs m s))∧Below W.heap.size W w':=by
 have hwf:Wf .i64 (apL xs m s):=fun u hu=>by
  obtain⟨v,hv,rfl⟩:=List.mem_map.1 hu
  have:=apV_bd (m:=m) (s:=s) (hbd v hv)
  exact mk_i64 (by omega)
 have hlen:=hX.1
 have HX:Hid (IRow .i64 W a n cap xs):=hX
 have HL:Hid ((apL xs m s).length=n):=by unfold Hid apL;rw [List.length_map];exact hlen
 have s0:=(St.start W).new (c:=#[U i6 m,U i6 s]) (t:=53)
 have HM:Hid (∀ y u,xs[y]? = some u→(apL xs m s).getD y 0=Fx.apV u m s):=fun y u h=>map_at h
 clear hX hlen hbd
 obtain⟨ys,hys⟩:∃ ys,apL xs m s=ys:=⟨_,rfl⟩
 rw [hys] at hwf HL HM ⊢
 clear hys
 go_enter Tryz.func36,Tryz.ntmps36
 go_wp2_with (at_make;refine wpList_mak kt_i64 rfl _ rfl n _ rfl rfl (by omega) ?_;intro hnew)
 simp only [World.size_alloc] at hnew
 have HB0:Hid (Bk .i64 2 _ (W.heap.size+1) (fil ys 0)):=Bk.new hnew HL.out
 have HS0:Hid (St W _ _):=s0.skip (.cells (Array.replicate n (Value.int .i64 0)) 2)
 clear hnew s0
 go_loopw [13] (fun i wr=>∃ y:Nat,y≤n∧i=U i6 y∧Bk .i64 2 wr (W.heap.size+1) (fil ys y)∧St W wr [(W.heap.size,#[U i6 m,U i6 s],53)]) (fun i _=>n-(intOf i).toNat)
 case atStart=>exact⟨0,Nat.zero_le _,rfl,HB0.out,HS0.out⟩
 case round =>
  obtain⟨y,hy,rfl,hB,sr⟩:=hrel
  clear HB0 HS0
  obtain⟨c1,f1,z1,-⟩:=sr.rules
  by_cases hlt:y<n
  ·obtain⟨x,u,rfl,hu,-,hz,-⟩:=(HX.out.below sr.below).at hlt
   have HE:Hid (ys.getD y 0=Fx.apV u m s):=HM.out y u hz
   have HB:Hid (Bk .i64 2 wr (W.heap.size+1) (fil ys y)):=hB
   clear hB hz
   go_wp2_with fail
   refine (Fx.apply_any u m s _).mono ?_
   rintro e w3 ⟨rfl,hb3⟩
   have s3:=sr.call hb3
   have hB3:=HB.out.below hb3
   obtain⟨hc,hf,hs⟩:=hB3.at (p:=y) (by rw [fil_len _ (by rw [HL.out];omega),HL.out];exact hlt)
   have HS:Hid (Bk .i64 2 (w3.setCell ⟨W.heap.size+1,y,none⟩ (U i6 (Fx.apV u m s))) (W.heap.size+1) (fil ys (y+1))):=by
    have:=hB3.set (p:=y) (Fx.apV u m s)
    rw [← HE.out,fil_set (by rw [HL.out];exact hlt),HE.out] at this
    exact this
   have S3:Hid (St W w3 _):=s3
   clear hB3 s3 HB hb3 c1 f1 sr
   go_wp2
   go_roundw
   case rel=>exact⟨y+1,by omega,by go_num,HS.out,S3.out.setX (by omega) (by simp)⟩
   case measure=>simp [intOf];omega
  ·obtain rfl:y=n:=by omega
   have hO:Hid (Own .i64 2 wr W.heap.size (.slice (some ⟨W.heap.size+1,0,none⟩) y y) ys):=by
    have e:=HL.out
    subst e
    rw [fil_all] at hB
    exact own_full hB hwf (by unfold maxLen;omega) (by omega)
   have hb:=sr.below
   clear hB sr
   go_wp2
   go_ret
   exact⟨⟨_,rfl,hO.out⟩,hb⟩
theorem means_any (m:Int) (hm:1≤m∧m≤1048576) (a:Option Addr) (n cap:Nat) (xs:List Int) (W:World) (hX:IRow .i64 W a n cap xs) (hn:n≤1000000) (hbd:∀ v∈xs,-4294967296≤v∧v≤4294967296) :
  Calls Tryz.prog 37 #[Sl a n cap,U i6 m] W fun e w'=>(∃ v,e=.returned v∧Own .i64 2 w' W.heap.size v (meL xs m))∧Below W.heap.size W w':=by
 have hwf:Wf .i64 (meL xs m):=fun u hu=>by
  obtain⟨v,hv,rfl⟩:=List.mem_map.1 hu
  have:=me_bd hm.1 (hbd v hv)
  exact mk_i64 (by omega)
 have hlen:=hX.1
 have HX:Hid (IRow .i64 W a n cap xs):=hX
 have HL:Hid ((meL xs m).length=n):=by unfold Hid meL;rw [List.length_map];exact hlen
 have HM:Hid (∀ y u,xs[y]? = some u→(meL xs m).getD y 0=Fx.meV u m):=fun y u h=>map_at h
 clear hX hlen hbd
 obtain⟨ys,hys⟩:∃ ys,meL xs m=ys:=⟨_,rfl⟩
 rw [hys] at hwf HL HM ⊢
 clear hys
 go_enter Tryz.func37,Tryz.ntmps37
 go_wp2_with (at_make;refine wpList_mak kt_i64 rfl _ rfl n _ rfl rfl (by omega) ?_;intro hnew)
 have HB0:Hid (Bk .i64 2 _ W.heap.size (fil ys 0)):=Bk.new hnew HL.out
 clear hnew
 go_loopw [13] (fun i wr=>∃ y:Nat,y≤n∧i=U i6 y∧Bk .i64 2 wr W.heap.size (fil ys y)∧Below W.heap.size W wr) (fun i _=>n-(intOf i).toNat)
 case atStart=>exact⟨0,Nat.zero_le _,rfl,HB0.out,bal _ _⟩
 case round =>
  obtain⟨y,hy,rfl,hB,hb⟩:=hrel
  clear HB0
  by_cases hlt:y<n
  ·obtain⟨x,u,rfl,hu,hw6,hz,-⟩:=(HX.out.below hb).at hlt
   have HE:Hid (ys.getD y 0=Fx.meV u m):=HM.out y u hz
   have HB:Hid (Bk .i64 2 wr W.heap.size (fil ys y)):=hB
   have HU:Hid (I64 u):=I64_of_wf hw6
   clear hB hz hw6
   go_wp2_with fail
   refine (Fx.mean_any u m _ HU.out (by unfold I64;omega)).mono ?_
   rintro e w3 ⟨rfl,hb3⟩
   have hb4:=bt hb hb3
   have hB3:=HB.out.below hb3
   obtain⟨hc,hf,hs⟩:=hB3.at (p:=y) (by rw [fil_len _ (by rw [HL.out];omega),HL.out];exact hlt)
   have HS:Hid (Bk .i64 2 (w3.setCell ⟨W.heap.size,y,none⟩ (U i6 (Fx.meV u m))) W.heap.size (fil ys (y+1))):=by
    have:=hB3.set (p:=y) (Fx.meV u m)
    rw [← HE.out,fil_set (by rw [HL.out];exact hlt),HE.out] at this
    exact this
   clear hB3 HB hb3 hb
   go_wp2
   go_roundw
   case rel=>exact⟨y+1,by omega,by go_num,HS.out,hb4.setCell (p:=⟨W.heap.size,y,none⟩) (Nat.le_refl _) _⟩
   case measure=>simp [intOf];omega
  ·obtain rfl:y=n:=by omega
   have hO:Hid (Own .i64 2 wr W.heap.size (.slice (some ⟨W.heap.size,0,none⟩) y y) ys):=by
    have e:=HL.out
    subst e
    rw [fil_all] at hB
    exact own_full hB hwf (by unfold maxLen;omega) (Nat.le_refl _)
   clear hB
   go_wp2
   go_ret
   exact⟨⟨_,rfl,hO.out⟩,hb⟩
theorem added_any (a b:Option Addr) (n cap cb:Nat) (xs ys:List Int) (W:World) (hX:IRow .i64 W a n cap xs) (hY:IRow .i64 W b n cb ys) (hn:n≤1000000) (hbx:∀ v∈xs,-274877906944≤v∧v≤274877906944) (hby:∀ v∈ys,-274877906944≤v∧v≤274877906944) :
  Calls Tryz.prog 39 #[Sl a n cap,Sl b n cb] W fun e w'=>(∃ v,e=.returned v∧Own .i64 2 w' W.heap.size v (adL xs ys))∧Below W.heap.size W w':=by
 have hlx:=hX.1
 have hly:=hY.1
 have HM:Hid (∀ y u v,xs[y]? = some u→ys[y]? = some v→(adL xs ys).getD y 0=u+v):=fun y u v h g=>by
  have hy:y<xs.length:=(List.getElem?_eq_some_iff.1 h).1
  have e:=(List.getElem?_eq_some_iff.1 h).2
  simp [adL,List.getD,hy,g,e]
 have hwf:Wf .i64 (adL xs ys):=fun u hu=>by
  obtain⟨i,hi,rfl⟩:=List.mem_map.1 hu
  have hi':i<xs.length:=by simpa using hi
  have h1:=hbx _ (getD_mem hi')
  have h2:=hby _ (getD_mem (show i<ys.length by omega))
  exact mk_i64 (by omega)
 have HX:Hid (IRow .i64 W a n cap xs):=hX
 have HY:Hid (IRow .i64 W b n cb ys):=hY
 have HBX:Hid (∀ v∈xs,-274877906944≤v∧v≤274877906944):=hbx
 have HBY:Hid (∀ v∈ys,-274877906944≤v∧v≤274877906944):=hby
 have HL:Hid ((adL xs ys).length=n):=by unfold Hid adL;simpa using hlx
 clear hX hY hbx hby hlx hly
 obtain⟨zs,hzs⟩:∃ zs,adL xs ys=zs:=⟨_,rfl⟩
 rw [hzs] at hwf HL HM ⊢
 clear hzs
 go_enter Tryz.func39,Tryz.ntmps39
 go_wp2_with (at_make;refine wpList_mak kt_i64 rfl _ rfl n _ rfl rfl (by omega) ?_;intro hnew)
 have HB0:Hid (Bk .i64 2 _ W.heap.size (fil zs 0)):=Bk.new hnew HL.out
 clear hnew
 go_loopw [12] (fun i wr=>∃ y:Nat,y≤n∧i=U i6 y∧Bk .i64 2 wr W.heap.size (fil zs y)∧Below W.heap.size W wr) (fun i _=>n-(intOf i).toNat)
 case atStart=>exact⟨0,Nat.zero_le _,rfl,HB0.out,bal _ _⟩
 case round =>
  obtain⟨y,hy,rfl,hB,hb⟩:=hrel
  clear HB0
  by_cases hlt:y<n
  ·obtain⟨x,u,rfl,hu,-,hz,-⟩:=(HX.out.below hb).at hlt
   obtain⟨x',v,rfl,hv,-,hz',-⟩:=(HY.out.below hb).at hlt
   have HE:Hid (zs.getD y 0=u+v):=HM.out y u v hz hz'
   obtain⟨u1,u2⟩:=HBX.out u (List.mem_of_getElem? hz)
   obtain⟨v1,v2⟩:=HBY.out v (List.mem_of_getElem? hz')
   obtain⟨hc,hf,hs⟩:=hB.at (p:=y) (by rw [fil_len _ (by rw [HL.out];omega),HL.out];exact hlt)
   have HS:Hid (∀ m,Bk .i64 2 ((wr.drewN m).setCell ⟨W.heap.size,y,none⟩ (U i6 (u+v))) W.heap.size (fil zs (y+1))):=fun m=>by
    have:=(hB.below (dbel wr m)).set (p:=y) (u+v)
    rw [← HE.out,fil_set (by rw [HL.out];exact hlt),HE.out] at this
    exact this
   have HBb:Hid (Below W.heap.size W wr):=hb
   clear hB hb hz hz'
   go_wp2
   go_region_law (fail)
   all_goals
    go_wp2
    go_roundw
    case rel=>exact⟨y+1,by omega,by go_num,HS.out 1,(bt HBb.out (dbel wr 1)).setCell (p:=⟨W.heap.size,y,none⟩) (Nat.le_refl _) _⟩
    case measure=>simp [intOf];omega
  ·obtain rfl:y=n:=by omega
   have hO:Hid (Own .i64 2 wr W.heap.size (.slice (some ⟨W.heap.size,0,none⟩) y y) zs):=by
    have e:=HL.out
    subst e
    rw [fil_all] at hB
    exact own_full hB hwf (by unfold maxLen;omega) (Nat.le_refl _)
   clear hB
   go_wp2
   go_ret
   exact⟨⟨_,rfl,hO.out⟩,hb⟩
theorem alone_any (k a b m kh kw sh sw tp lf bt rt:Int) (wa:Option Addr) (lw wc:Nat) (ba:Option Addr) (lb bc:Nat) (sm ss um us z p lo hi h w c H V C ln pn:Int) (r:Nat) (W:World) (hr:W.heap[r]? = some (.cells #[U i6 k,U i6 a,U i6 b,U i6 m,U i6 kh,U i6 kw,U i6 sh,U i6 sw,U i6 tp,U i6 lf,U i6 bt,U i6 rt,Sl wa lw wc,Sl ba lb bc,U i6 sm,U i6 ss,U i6 um,U i6 us,U i6 z,U i6 p,U i6 lo,U i6 hi,U i6 h,U i6 w,U i6 c,U i6 H,U i6 V,U i6 C,U i6 ln,U i6 pn] 57 (0,0))) :
  Calls Tryz.prog 33 #[.pointer (some ⟨r,0,none⟩)] W fun e w'=>∃ g,e=.returned (.agg #[U i6 h,U i6 w,U i6 c,U i6 0,U i6 0,Sl (some ⟨g,0,none⟩) 1 1,U i6 0])∧w'.heap[g]? = some (.cells #[U i6 k,U i6 0,U i6 b,U i6 m,U i6 kh,U i6 kw,U i6 sh,U i6 sw,U i6 tp,U i6 lf,U i6 bt,U i6 rt,Sl wa lw wc,Sl ba lb bc,U i6 sm,U i6 ss,U i6 um,U i6 us,U i6 z,U i6 p,U i6 lo,U i6 hi] 55 (0,0))∧W.heap.size≤g∧Below W.heap.size W w':=by
 have hrz:=lt_of_heap hr
 have s0:=(St.start W).new (c:=#[U i6 0,U i6 0,U i6 0,U i6 0,U i6 0,Sl none 0 0,U i6 0]) (t:=26)
 have hr0:=(s0.below.block r hrz).trans hr
 have HL:Hid (∀ q v,[U i6 k,U i6 a,U i6 b,U i6 m,U i6 kh,U i6 kw,U i6 sh,U i6 sw,U i6 tp,U i6 lf,U i6 bt,U i6 rt,Sl wa lw wc,Sl ba lb bc,U i6 sm,U i6 ss,U i6 um,U i6 us,U i6 z,U i6 p,U i6 lo,U i6 hi][q]? = some v→(W.alloc (.cells #[U i6 0,U i6 0,U i6 0,U i6 0,U i6 0,Sl none 0 0,U i6 0] 26)).cell? ((⟨r,0,none⟩:Addr).add q)=some v):=lcells hr0 (fget [U i6 k,U i6 a,U i6 b,U i6 m,U i6 kh,U i6 kw,U i6 sh,U i6 sw,U i6 tp,U i6 lf,U i6 bt,U i6 rt,Sl wa lw wc,Sl ba lb bc,U i6 sm,U i6 ss,U i6 um,U i6 us,U i6 z,U i6 p,U i6 lo,U i6 hi] [U i6 h,U i6 w,U i6 c,U i6 H,U i6 V,U i6 C,U i6 ln,U i6 pn])
 have HR:Hid (W.heap[r]? = some (.cells #[U i6 k,U i6 a,U i6 b,U i6 m,U i6 kh,U i6 kw,U i6 sh,U i6 sw,U i6 tp,U i6 lf,U i6 bt,U i6 rt,Sl wa lw wc,Sl ba lb bc,U i6 sm,U i6 ss,U i6 um,U i6 us,U i6 z,U i6 p,U i6 lo,U i6 hi,U i6 h,U i6 w,U i6 c,U i6 H,U i6 V,U i6 C,U i6 ln,U i6 pn] 57 (0,0))):=hr
 have s1:=s0.new (c:=#[U i6 k,U i6 a,U i6 b,U i6 m,U i6 kh,U i6 kw,U i6 sh,U i6 sw,U i6 tp,U i6 lf,U i6 bt,U i6 rt,Sl wa lw wc,Sl ba lb bc,U i6 sm,U i6 ss,U i6 um,U i6 us,U i6 z,U i6 p,U i6 lo,U i6 hi]) (t:=55)
 simp only [World.size_alloc] at s1
 have S1:Hid (St W _ _):=s1
 clear hr hr0 s0 s1
 go_enter Tryz.func33,Tryz.ntmps33
 go_upto_region 1 with fail
 obtain⟨w0,hw0⟩:∃ w0,W.alloc (.cells #[U i6 0,U i6 0,U i6 0,U i6 0,U i6 0,Sl none 0 0,U i6 0] 26)=w0:=⟨_,rfl⟩
 rw [hw0] at HL S1 ⊢
 have hz0:w0.heap.size=W.heap.size+1:=by rw [← hw0];simp
 rw [← hz0] at S1
 have HZ0:Hid (w0.heap.size=W.heap.size+1):=hz0
 clear hw0 hz0
 obtain⟨vo,hvo⟩:∃ vo,Value.agg #[U i6 k,U i6 a,U i6 b,U i6 m,U i6 kh,U i6 kw,U i6 sh,U i6 sw,U i6 tp,U i6 lf,U i6 bt,U i6 rt,Sl wa lw wc,Sl ba lb bc,U i6 sm,U i6 ss,U i6 um,U i6 us,U i6 z,U i6 p,U i6 lo,U i6 hi]=vo:=⟨_,rfl⟩
 have HVO:Hid (Value.agg #[U i6 k,U i6 a,U i6 b,U i6 m,U i6 kh,U i6 kw,U i6 sh,U i6 sw,U i6 tp,U i6 lf,U i6 bt,U i6 rt,Sl wa lw wc,Sl ba lb bc,U i6 sm,U i6 ss,U i6 um,U i6 us,U i6 z,U i6 p,U i6 lo,U i6 hi]=vo):=hvo
 go_upto_region 2 with ((refine wpList_load_any rfl 55 (.tmp 6) rfl _ rfl [U i6 k,U i6 a,U i6 b,U i6 m,U i6 kh,U i6 kw,U i6 sh,U i6 sw,U i6 tp,U i6 lf,U i6 bt,U i6 rt,Sl wa lw wc,Sl ba lb bc,U i6 sm,U i6 ss,U i6 um,U i6 us,U i6 z,U i6 p,U i6 lo,U i6 hi] _ HL.out Tryz.underlying55 rfl (by kernel_rfl) ?_;(show wpList _ _ _ _ (Act.put _ _ (Value.agg #[U i6 k,U i6 a,U i6 b,U i6 m,U i6 kh,U i6 kw,U i6 sh,U i6 sw,U i6 tp,U i6 lf,U i6 bt,U i6 rt,Sl wa lw wc,Sl ba lb bc,U i6 sm,U i6 ss,U i6 um,U i6 us,U i6 z,U i6 p,U i6 lo,U i6 hi])) _);rw [hvo];clear hvo;refine wpList_run1 rfl (some 3) rfl (.pointer (some ⟨w0.heap.size,0,none⟩)) (w0.alloc (.cells #[U i6 0,U i6 0,U i6 0,U i6 0,U i6 0,U i6 0,U i6 0,U i6 0,U i6 0,U i6 0,U i6 0,U i6 0,Sl none 0 0,Sl none 0 0,U i6 0,U i6 0,U i6 0,U i6 0,U i6 0,U i6 0,U i6 0,U i6 0] 55)) (by kernel_rfl) ?_;refine wpList_st_new rfl 55 (.tmp 3) (.tmp 7) rfl w0 #[U i6 0,U i6 0,U i6 0,U i6 0,U i6 0,U i6 0,U i6 0,U i6 0,U i6 0,U i6 0,U i6 0,U i6 0,Sl none 0 0,Sl none 0 0,U i6 0,U i6 0,U i6 0,U i6 0,U i6 0,U i6 0,U i6 0,U i6 0] #[U i6 k,U i6 a,U i6 b,U i6 m,U i6 kh,U i6 kw,U i6 sh,U i6 sw,U i6 tp,U i6 lf,U i6 bt,U i6 rt,Sl wa lw wc,Sl ba lb bc,U i6 sm,U i6 ss,U i6 um,U i6 us,U i6 z,U i6 p,U i6 lo,U i6 hi] (by kernel_rfl) (Eq.trans (by kernel_rfl:_=vo) HVO.out.symm) (by kernel_rfl) rfl (by simp [Value.oneCell']) ?_;(obtain⟨w1,hw1⟩:∃ w1,w0.alloc (.cells #[U i6 k,U i6 a,U i6 b,U i6 m,U i6 kh,U i6 kw,U i6 sh,U i6 sw,U i6 tp,U i6 lf,U i6 bt,U i6 rt,Sl wa lw wc,Sl ba lb bc,U i6 sm,U i6 ss,U i6 um,U i6 us,U i6 z,U i6 p,U i6 lo,U i6 hi] 55)=w1:=⟨_,rfl⟩);rw [hw1] at S1 ⊢;clear hw1))
 obtain⟨c1,f1,z1,-⟩:=S1.out.rules
 go_upto_region 3 with fail
 have s2:=S1.out.seti (i:=1) (v:=U i6 0) (by simp;have:=HZ0.out;omega) #[U i6 k,U i6 0,U i6 b,U i6 m,U i6 kh,U i6 kw,U i6 sh,U i6 sw,U i6 tp,U i6 lf,U i6 bt,U i6 rt,Sl wa lw wc,Sl ba lb bc,U i6 sm,U i6 ss,U i6 um,U i6 us,U i6 z,U i6 p,U i6 lo,U i6 hi] (by kernel_rfl)
 obtain⟨w2,hw2⟩:∃ w2,w1.setCell ⟨w0.heap.size,1,none⟩ (U i6 0)=w2:=⟨_,rfl⟩
 rw [hw2] at s2 ⊢
 have S2:Hid (St W w2 _):=s2
 have hG1:=s2.h1
 have hG2:=s2.h2
 have hG3:=(s2.below.block r hrz).trans HR.out
 clear hw2 S1 c1 f1 s2 HL
 refine regionC (fun w'=>w'.heap[r]? = some (.cells #[U i6 k,U i6 a,U i6 b,U i6 m,U i6 kh,U i6 kw,U i6 sh,U i6 sw,U i6 tp,U i6 lf,U i6 bt,U i6 rt,Sl wa lw wc,Sl ba lb bc,U i6 sm,U i6 ss,U i6 um,U i6 us,U i6 z,U i6 p,U i6 lo,U i6 hi,U i6 h,U i6 w,U i6 c,U i6 H,U i6 V,U i6 C,U i6 ln,U i6 pn] 57 (0,0))∧w'.heap[w0.heap.size]? = some (.cells #[U i6 k,U i6 0,U i6 b,U i6 m,U i6 kh,U i6 kw,U i6 sh,U i6 sw,U i6 tp,U i6 lf,U i6 bt,U i6 rt,Sl wa lw wc,Sl ba lb bc,U i6 sm,U i6 ss,U i6 um,U i6 us,U i6 z,U i6 p,U i6 lo,U i6 hi] 55 (0,0))) (by kernel_rfl) ?_
 obtain⟨wd,hwd⟩:∃ wd,w2.drew=wd:=⟨_,rfl⟩
 have HD:Hid (wd.heap[r]? = some (.cells #[U i6 k,U i6 a,U i6 b,U i6 m,U i6 kh,U i6 kw,U i6 sh,U i6 sw,U i6 tp,U i6 lf,U i6 bt,U i6 rt,Sl wa lw wc,Sl ba lb bc,U i6 sm,U i6 ss,U i6 um,U i6 us,U i6 z,U i6 p,U i6 lo,U i6 hi,U i6 h,U i6 w,U i6 c,U i6 H,U i6 V,U i6 C,U i6 ln,U i6 pn] 57 (0,0))∧wd.heap[w0.heap.size]? = some (.cells #[U i6 k,U i6 0,U i6 b,U i6 m,U i6 kh,U i6 kw,U i6 sh,U i6 sw,U i6 tp,U i6 lf,U i6 bt,U i6 rt,Sl wa lw wc,Sl ba lb bc,U i6 sm,U i6 ss,U i6 um,U i6 us,U i6 z,U i6 p,U i6 lo,U i6 hi] 55 (0,0))):=by unfold Hid;rw [← hwd];exact⟨hG3,hG1⟩
 have s3:=S2.out.drew
 rw [hwd] at s3 ⊢
 have S3:Hid (St W wd _):=s3
 clear hwd S2 hG1 hG2 hG3 s3
 refine takeC 0 (v:=.pointer (some ⟨r,0,none⟩)) rfl rfl (by kernel_rfl) (by kernel_rfl) (by kernel_rfl) (fun _ _ _ h=>h) (fun _=>rfl) rfl (fun w' hw'=>by go_simp) ?_
 refine takeC 1 (v:=.pointer (some ⟨r,0,none⟩)) rfl rfl (by kernel_rfl) (by kernel_rfl) (by kernel_rfl) (fun _ _ _ h=>h) (fun _=>rfl) rfl (fun w' hw'=>by go_simp) ?_
 refine takeC 2 (v:=.pointer (some ⟨r,22,none⟩)) rfl rfl (by kernel_rfl) (by kernel_rfl) (by kernel_rfl) (fun _ _ _ h=>h) (fun _=>rfl) rfl (fun w' hw'=>by go_simp) ?_
 refine takeC 3 (v:=.agg #[U i6 h,U i6 w,U i6 c]) rfl rfl (by kernel_rfl) (by kernel_rfl) (by kernel_rfl) (fun _ _ _ h=>h) (fun _=>rfl) rfl (fun w' hw'=>run_la 23 (.tmp 11) rfl ⟨r,22,none⟩ (by kernel_rfl) [U i6 h,U i6 w,U i6 c] _ (three_at hw'.1 rfl rfl rfl) Tryz.underlying23 rfl (by kernel_rfl)) ?_
 refine takeC 4 (v:=.agg #[U i6 k,U i6 0,U i6 b,U i6 m,U i6 kh,U i6 kw,U i6 sh,U i6 sw,U i6 tp,U i6 lf,U i6 bt,U i6 rt,Sl wa lw wc,Sl ba lb bc,U i6 sm,U i6 ss,U i6 um,U i6 us,U i6 z,U i6 p,U i6 lo,U i6 hi]) rfl rfl (by kernel_rfl) (by kernel_rfl) (by kernel_rfl) (fun _ _ _ h=>h) (fun _=>rfl) rfl (fun w' hw'=>run_la 55 (.tmp 3) rfl ⟨w0.heap.size,0,none⟩ (by kernel_rfl) [U i6 k,U i6 0,U i6 b,U i6 m,U i6 kh,U i6 kw,U i6 sh,U i6 sw,U i6 tp,U i6 lf,U i6 bt,U i6 rt,Sl wa lw wc,Sl ba lb bc,U i6 sm,U i6 ss,U i6 um,U i6 us,U i6 z,U i6 p,U i6 lo,U i6 hi] _ (lcells hw'.2 (fget [U i6 k,U i6 0,U i6 b,U i6 m,U i6 kh,U i6 kw,U i6 sh,U i6 sw,U i6 tp,U i6 lf,U i6 bt,U i6 rt,Sl wa lw wc,Sl ba lb bc,U i6 sm,U i6 ss,U i6 um,U i6 us,U i6 z,U i6 p,U i6 lo,U i6 hi] [])) Tryz.underlying55 rfl (by kernel_rfl)) ?_
 refine stepR 5 HD.out (by kernel_rfl) rfl rfl (.slice (some ⟨wd.heap.size,0,none⟩) 1 1) (wd.alloc (.cells #[U i6 k,U i6 0,U i6 b,U i6 m,U i6 kh,U i6 kw,U i6 sh,U i6 sw,U i6 tp,U i6 lf,U i6 bt,U i6 rt,Sl wa lw wc,Sl ba lb bc,U i6 sm,U i6 ss,U i6 um,U i6 us,U i6 z,U i6 p,U i6 lo,U i6 hi] 55)) (by kernel_rfl) ?_
 have HA:Hid ((wd.alloc (.cells #[U i6 k,U i6 0,U i6 b,U i6 m,U i6 kh,U i6 kw,U i6 sh,U i6 sw,U i6 tp,U i6 lf,U i6 bt,U i6 rt,Sl wa lw wc,Sl ba lb bc,U i6 sm,U i6 ss,U i6 um,U i6 us,U i6 z,U i6 p,U i6 lo,U i6 hi] 55)).heap[r]? = some (.cells #[U i6 k,U i6 a,U i6 b,U i6 m,U i6 kh,U i6 kw,U i6 sh,U i6 sw,U i6 tp,U i6 lf,U i6 bt,U i6 rt,Sl wa lw wc,Sl ba lb bc,U i6 sm,U i6 ss,U i6 um,U i6 us,U i6 z,U i6 p,U i6 lo,U i6 hi,U i6 h,U i6 w,U i6 c,U i6 H,U i6 V,U i6 C,U i6 ln,U i6 pn] 57 (0,0))∧(wd.alloc (.cells #[U i6 k,U i6 0,U i6 b,U i6 m,U i6 kh,U i6 kw,U i6 sh,U i6 sw,U i6 tp,U i6 lf,U i6 bt,U i6 rt,Sl wa lw wc,Sl ba lb bc,U i6 sm,U i6 ss,U i6 um,U i6 us,U i6 z,U i6 p,U i6 lo,U i6 hi] 55)).heap[w0.heap.size]? = some (.cells #[U i6 k,U i6 0,U i6 b,U i6 m,U i6 kh,U i6 kw,U i6 sh,U i6 sw,U i6 tp,U i6 lf,U i6 bt,U i6 rt,Sl wa lw wc,Sl ba lb bc,U i6 sm,U i6 ss,U i6 um,U i6 us,U i6 z,U i6 p,U i6 lo,U i6 hi] 55 (0,0))):=⟨(heap_alloc_old wd _ (lt_of_heap HD.out.1)).trans HD.out.1,(heap_alloc_old wd _ (lt_of_heap HD.out.2)).trans HD.out.2⟩
 have s4:=S3.out.new (c:=#[U i6 k,U i6 0,U i6 b,U i6 m,U i6 kh,U i6 kw,U i6 sh,U i6 sw,U i6 tp,U i6 lf,U i6 bt,U i6 rt,Sl wa lw wc,Sl ba lb bc,U i6 sm,U i6 ss,U i6 um,U i6 us,U i6 z,U i6 p,U i6 lo,U i6 hi]) (t:=55)
 have hwz:Hid (W.heap.size≤wd.heap.size):=S3.out.size
 obtain⟨w4,hw4⟩:∃ w4,wd.alloc (.cells #[U i6 k,U i6 0,U i6 b,U i6 m,U i6 kh,U i6 kw,U i6 sh,U i6 sw,U i6 tp,U i6 lf,U i6 bt,U i6 rt,Sl wa lw wc,Sl ba lb bc,U i6 sm,U i6 ss,U i6 um,U i6 us,U i6 z,U i6 p,U i6 lo,U i6 hi] 55)=w4:=⟨_,rfl⟩
 rw [hw4] at HA s4 ⊢
 have S4:Hid (St W w4 _):=s4
 clear hw4 s4 S3 HD
 obtain⟨g,hg⟩:∃ g,wd.heap.size=g:=⟨_,rfl⟩
 rw [hg] at S4 hwz ⊢
 clear hg
 refine takeC 6 (v:=.agg #[U i6 h,U i6 w,U i6 c,U i6 0,U i6 0,Sl (some ⟨g,0,none⟩) 1 1,U i6 0]) rfl rfl (by kernel_rfl) (by kernel_rfl) (by kernel_rfl) (fun _ _ _ h=>h) (fun _=>rfl) rfl (fun w' hw'=>by kernel_rfl) ?_
 have HS3:Hid (w4.heap[W.heap.size]? = some (.cells #[U i6 0,U i6 0,U i6 0,U i6 0,U i6 0,Sl none 0 0,U i6 0] 26 (0,0))):=S4.out.h3
 refine stepS 7 HA.out (by kernel_rfl) rfl rfl 26 (.tmp 2) (.tmp 15) rfl W.heap.size #[U i6 h,U i6 w,U i6 c,U i6 0,U i6 0,Sl (some ⟨g,0,none⟩) 1 1,U i6 0] (by kernel_rfl) (by kernel_rfl) 26 #[U i6 0,U i6 0,U i6 0,U i6 0,U i6 0,Sl none 0 0,U i6 0] HS3.out (by kernel_rfl) rfl (by simp [Value.oneCell']) ?_
 have hZ':=setRow_heap w4 W.heap.size #[U i6 0,U i6 0,U i6 0,U i6 0,U i6 0,Sl none 0 0,U i6 0] #[U i6 h,U i6 w,U i6 c,U i6 0,U i6 0,Sl (some ⟨g,0,none⟩) 1 1,U i6 0] 26 (0,0) HS3.out
 have hn1:g≠W.heap.size:=fun e=>by have h1:=S4.out.h1;rw [e,HS3.out] at h1;simp at h1
 have hn2:w0.heap.size≠W.heap.size:=by have:=HZ0.out;omega
 have hn3:r≠W.heap.size:=by omega
 have hO':Hid ((w4.setRow W.heap.size #[U i6 h,U i6 w,U i6 c,U i6 0,U i6 0,Sl (some ⟨g,0,none⟩) 1 1,U i6 0]).heap[g]? = some (.cells #[U i6 k,U i6 0,U i6 b,U i6 m,U i6 kh,U i6 kw,U i6 sh,U i6 sw,U i6 tp,U i6 lf,U i6 bt,U i6 rt,Sl wa lw wc,Sl ba lb bc,U i6 sm,U i6 ss,U i6 um,U i6 us,U i6 z,U i6 p,U i6 lo,U i6 hi] 55 (0,0))):=(setRow_other _ _ _ _ hn1).trans S4.out.h1
 have hB':Hid (Below W.heap.size W (w4.setRow W.heap.size #[U i6 h,U i6 w,U i6 c,U i6 0,U i6 0,Sl (some ⟨g,0,none⟩) 1 1,U i6 0])):=below_setRow S4.out.below (Nat.le_refl _) #[U i6 h,U i6 w,U i6 c,U i6 0,U i6 0,Sl (some ⟨g,0,none⟩) 1 1,U i6 0]
 have hC':(w4.setRow W.heap.size #[U i6 h,U i6 w,U i6 c,U i6 0,U i6 0,Sl (some ⟨g,0,none⟩) 1 1,U i6 0]).heap[r]? = some (.cells #[U i6 k,U i6 a,U i6 b,U i6 m,U i6 kh,U i6 kw,U i6 sh,U i6 sw,U i6 tp,U i6 lf,U i6 bt,U i6 rt,Sl wa lw wc,Sl ba lb bc,U i6 sm,U i6 ss,U i6 um,U i6 us,U i6 z,U i6 p,U i6 lo,U i6 hi,U i6 h,U i6 w,U i6 c,U i6 H,U i6 V,U i6 C,U i6 ln,U i6 pn] 57 (0,0))∧(w4.setRow W.heap.size #[U i6 h,U i6 w,U i6 c,U i6 0,U i6 0,Sl (some ⟨g,0,none⟩) 1 1,U i6 0]).heap[w0.heap.size]? = some (.cells #[U i6 k,U i6 0,U i6 b,U i6 m,U i6 kh,U i6 kw,U i6 sh,U i6 sw,U i6 tp,U i6 lf,U i6 bt,U i6 rt,Sl wa lw wc,Sl ba lb bc,U i6 sm,U i6 ss,U i6 um,U i6 us,U i6 z,U i6 p,U i6 lo,U i6 hi] 55 (0,0)):=⟨(setRow_other _ _ _ _ hn3).trans HA.out.1,(setRow_other _ _ _ _ hn2).trans HA.out.2⟩
 obtain⟨w5,hw5⟩:∃ w5,w4.setRow W.heap.size #[U i6 h,U i6 w,U i6 c,U i6 0,U i6 0,Sl (some ⟨g,0,none⟩) 1 1,U i6 0]=w5:=⟨_,rfl⟩
 rw [hw5] at hZ' hO' hB' hC' ⊢
 clear hw5 S4 HS3 HA
 refine doneC hC' (by kernel_rfl) ?_ _
 obtain⟨c1,f1,z5⟩:=cells_at hZ'
 clear hC' hZ'
 go_wp2
 exact bodyPost_ret (v:=.agg #[U i6 h,U i6 w,U i6 c,U i6 0,U i6 0,Sl (some ⟨g,0,none⟩) 1 1,U i6 0]) (by simp [results,Tryz.results33,go_sem, *]) rfl ⟨g,rfl,hO'.out,hwz.out,hB'.out⟩
end Go.Proofs.YtehofmkpgopmpaaGreat.Kr
namespace Go.Proofs.YtehofmkpgopmpaaGreat
open Go.Value renaming int → U, slice → Sl
open Go.IntKind renaming i64 → i6
set_option maxRecDepth 100000
set_option maxHeartbeats 16000000
open Go.ChangeShapes Go.WideShapes Go.ChangeAt Go.RowKit
set_option linter.unusedVariables false
theorem lenT_ok (h w c lo hi ot:Int) (oa:Option Addr) (on oc:Nat) (O:Nat→Nat→Int) (Z B:Nat→List Int) (W:World) (hL:LRow W oa on oc O Z B) (RL:List (Int×Int×Int)) (Rw:Int) (hR:gtR O h w c lo hi ot on=(0,0,RL,Rw)) (i:Nat) (x:Addr) (wa:Option Addr) (lw cw:Nat) (ba:Option Addr) (lb cb:Nat) (x0 y0 z0 H V C:Int) (hF:Fnd W oa on O Z B RL i x wa lw cw ba lb cb x0 y0 z0 H V C) :
  Calls Tryz.prog 32 #[.agg #[U i6 h,U i6 w,U i6 c,U i6 lo,U i6 hi,Sl oa on oc,U i6 ot],U i6 ((i:Int)+1)] W fun e w'=>e=.returned (.tuple #[U i6 (stR (O i 0) (O i 4) (O i 5) x0 y0 z0),U i6 0])∧Below W.heap.size W w':=by
 have s0:=(St.start W).new (c:=#[U i6 h,U i6 w,U i6 c,U i6 lo,U i6 hi,Sl oa on oc,U i6 ot]) (t:=26)
 have hSit:Hid (Sit (O i 0) (O i 4) (O i 5) (O i 6) (O i 7) (O i 8) (O i 9) (O i 10) (O i 11) x0 y0 z0 H V C lw lb):=hF.2.2.2.2.2.2.2.2.2.1
 have hK:Hid (∀ W',Below W.heap.size W W'→_):=fun W' hb=>find_ok h w c lo hi ot oa on oc O Z B W' (hL.below hb) RL Rw hR i x wa lw cw ba lb cb x0 y0 z0 H V C (hF.below hb)
 clear hF hR hL
 go_enter Tryz.func32,Tryz.ntmps32
 go_wp2_with fail
 refine (hK.out _ s0.below).mono ?_
 rintro e w1 ⟨rfl,hb⟩
 have s1:=(s0.call hb).new (c:=#[U i6 (O i 0),U i6 (O i 1),U i6 (O i 2),U i6 (O i 3),U i6 (O i 4),U i6 (O i 5),U i6 (O i 6),U i6 (O i 7),U i6 (O i 8),U i6 (O i 9),U i6 (O i 10),U i6 (O i 11),Sl wa lw cw,Sl ba lb cb,U i6 (O i 14),U i6 (O i 15),U i6 (O i 16),U i6 (O i 17),U i6 (O i 18),U i6 (O i 19),U i6 (O i 20),U i6 (O i 21),U i6 x0,U i6 y0,U i6 z0,U i6 H,U i6 V,U i6 C]) (t:=125)
 clear hb
 go_wp2_with (refine wpList_st_new rfl 125 (.tmp 6) (.tmp 12) rfl w1 _ #[U i6 (O i 0),U i6 (O i 1),U i6 (O i 2),U i6 (O i 3),U i6 (O i 4),U i6 (O i 5),U i6 (O i 6),U i6 (O i 7),U i6 (O i 8),U i6 (O i 9),U i6 (O i 10),U i6 (O i 11),Sl wa lw cw,Sl ba lb cb,U i6 (O i 14),U i6 (O i 15),U i6 (O i 16),U i6 (O i 17),U i6 (O i 18),U i6 (O i 19),U i6 (O i 20),U i6 (O i 21),U i6 x0,U i6 y0,U i6 z0,U i6 H,U i6 V,U i6 C] rfl rfl (by kernel_rfl) rfl (by simp [Value.oneCell']) ?_)
 refine (tlen_any (O i 0) (O i 1) (O i 2) (O i 3) (O i 4) (O i 5) (O i 6) (O i 7) (O i 8) (O i 9) (O i 10) (O i 11) wa lw cw ba lb cb (O i 14) (O i 15) (O i 16) (O i 17) (O i 18) (O i 19) (O i 20) (O i 21) x0 y0 z0 H V C _ _ (heap_alloc_new w1 _) hSit.out).mono ?_
 rintro e w2 ⟨rfl,hw2⟩
 have hb2:Hid (Below W.heap.size W w2):=by first | (obtain⟨n,rfl⟩:=hw2;exact bt s1.below (dbel _ n)) | (subst hw2;exact s1.below)
 clear hw2
 go_wp2
 go_ret2
 exact⟨rfl,hb2.out⟩
end Go.Proofs.YtehofmkpgopmpaaGreat
