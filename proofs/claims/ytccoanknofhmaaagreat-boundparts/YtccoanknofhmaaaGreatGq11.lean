/- stepsOfOne and numbers of package model: what each returns. -/
import Derived.Test.YtccoanknofhmaaaGreatGq09
namespace Go.Proofs.YtccoanknofhmaaaGreat
open Go.Value renaming int → U, slice → Sl
open Go.IntKind renaming i64 → i6
set_option maxRecDepth 100000
set_option maxHeartbeats 16000000
open Go.ChangeShapes Go.WideShapes Go.ChangeAt Go.RowKit
set_option linter.unusedVariables false
theorem vS_bd {h w c:Int} (g:vS h w c=true):(1≤h*w∧h*w≤1048576)∧(1≤h*w*c∧h*w*c≤16384):=by
 obtain⟨h1,h2,h3,h4⟩:=vS_yes g
 obtain⟨p1,p2⟩:=mul_bd h1.1 h1.2 h2.1 h2.2
 obtain⟨q1,q2⟩:=mul_bd p1 p2 h3.1 h3.2
 exact⟨⟨p1,by omega⟩,q1,h4⟩
theorem steps_any (k a b m kh kw sh sw tp lf bt rt:Int) (wa:Option Addr) (lw wc:Nat) (ba:Option Addr) (lb bc:Nat) (sm ss um us z p lo hi:Int) (h w c:Int) (W:World) (hk:1≤k∧k≤8) (g:vS h w c=true) (hw:2≤k∧k≤5→(1≤kh∧kh≤32)∧(1≤kw∧kw≤32)) :
  Calls Tryz.prog 84 #[.agg #[U i6 k,U i6 a,U i6 b,U i6 m,U i6 kh,U i6 kw,U i6 sh,U i6 sw,U i6 tp,U i6 lf,U i6 bt,U i6 rt,Sl wa lw wc,Sl ba lb bc,U i6 sm,U i6 ss,U i6 um,U i6 us,U i6 z,U i6 p,U i6 lo,U i6 hi],.agg #[U i6 h,U i6 w,U i6 c]] W fun e w'=>e=.returned (U i6 (stR k kh kw h w c))∧Below W.heap.size W w':=by
 have hb:Below W.heap.size W ((W.alloc (.cells #[U i6 k,U i6 a,U i6 b,U i6 m,U i6 kh,U i6 kw,U i6 sh,U i6 sw,U i6 tp,U i6 lf,U i6 bt,U i6 rt,Sl wa lw wc,Sl ba lb bc,U i6 sm,U i6 ss,U i6 um,U i6 us,U i6 z,U i6 p,U i6 lo,U i6 hi] 42)).alloc (.cells #[U i6 h,U i6 w,U i6 c] 23)):=(St.start W).new.new.below
 rcases eight hk with rfl | rfl | rfl | rfl | rfl | rfl | rfl | rfl
 ·rw [show stR 1 kh kw h w c=h*w*c from rfl]
  obtain⟨⟨p1,p2⟩,q1,q2⟩:=vS_bd g
  clear g hw hk
  obtain⟨p',hp⟩:∃ p',h*w=p':=⟨_,rfl⟩
  rw [hp] at p1 p2 q1 q2 ⊢
  go_enter Tryz.func84,Tryz.ntmps84
  go_wp2
  go_ret
  exact⟨rfl,hb⟩
 ·rw [show stR 2 kh kw h w c=kh*kw*c from rfl]
  obtain⟨hw1,hw2⟩:=hw (by decide)
  obtain⟨-,-,c1,-⟩:=vS_yes g
  obtain⟨p1,p2⟩:=mul_bd hw1.1 hw1.2 hw2.1 hw2.2
  obtain⟨q1,q2⟩:=mul_bd p1 p2 c1.1 c1.2
  clear g hw hk
  obtain⟨p',hp⟩:∃ p',kh*kw=p':=⟨_,rfl⟩
  rw [hp] at p1 p2 q1 q2 ⊢
  go_enter Tryz.func84,Tryz.ntmps84
  go_wp2
  go_ret
  exact⟨rfl,hb⟩
 ·rw [show stR 3 kh kw h w c=kh*kw from rfl]
  obtain⟨hw1,hw2⟩:=hw (by decide)
  obtain⟨p1,p2⟩:=mul_bd hw1.1 hw1.2 hw2.1 hw2.2
  clear g hw hk
  go_enter Tryz.func84,Tryz.ntmps84
  go_wp2
  go_ret
  exact⟨rfl,hb⟩
 ·rw [show stR 4 kh kw h w c=kh*kw from rfl]
  obtain⟨hw1,hw2⟩:=hw (by decide)
  obtain⟨p1,p2⟩:=mul_bd hw1.1 hw1.2 hw2.1 hw2.2
  clear g hw hk
  go_enter Tryz.func84,Tryz.ntmps84
  go_wp2
  go_ret
  exact⟨rfl,hb⟩
 ·rw [show stR 5 kh kw h w c=kh*kw from rfl]
  obtain⟨hw1,hw2⟩:=hw (by decide)
  obtain⟨p1,p2⟩:=mul_bd hw1.1 hw1.2 hw2.1 hw2.2
  clear g hw hk
  go_enter Tryz.func84,Tryz.ntmps84
  go_wp2
  go_ret
  exact⟨rfl,hb⟩
 ·rw [show stR 6 kh kw h w c=1 from rfl]
  clear g hw hk
  go_enter Tryz.func84,Tryz.ntmps84
  go_wp2
  go_ret
  exact⟨rfl,hb⟩
 ·rw [show stR 7 kh kw h w c=1 from rfl]
  clear g hw hk
  go_enter Tryz.func84,Tryz.ntmps84
  go_wp2
  go_ret
  exact⟨rfl,hb⟩
 ·rw [show stR 8 kh kw h w c=1 from rfl]
  clear g hw hk
  go_enter Tryz.func84,Tryz.ntmps84
  go_wp2
  go_ret
  exact⟨rfl,hb⟩
theorem leB_1 {k ch n:Int} {lw lb:Nat} (h:¬ (lw:Int)=ch*n) (hk:k≤3):leB k ch n lw lb=false:=decide_eq_false fun q=>h (q hk).1
theorem leB_2 {k ch n:Int} {lw lb:Nat} (h:¬ (lb:Int)=ch) (hk:k≤3):leB k ch n lw lb=false:=decide_eq_false fun q=>h (q hk).2
theorem nu_le {k ch n:Int} {lw lb:Nat} {sm ss um us z p lo hi:Int} (h:leB k ch n lw lb=false):nuE k ch n lw lb sm ss um us z p lo hi=70:=by unfold nuE;rw [if_pos h]
theorem nu_ss {k ch n:Int} {lw lb:Nat} {sm ss um us z p lo hi:Int} (h:leB k ch n lw lb=true) (g:ssB k sm ss um us=false):nuE k ch n lw lb sm ss um us z p lo hi=20:=by unfold nuE;rw [if_neg (by rw [h];decide),if_pos g]
theorem nu_rz {k ch n:Int} {lw lb:Nat} {sm ss um us z p lo hi:Int} (h:leB k ch n lw lb=true) (g:ssB k sm ss um us=true) (f:rzB z p lo hi=false):nuE k ch n lw lb sm ss um us z p lo hi=85:=by unfold nuE;rw [if_neg (by rw [h];decide),if_neg (by rw [g];decide),if_pos f]
theorem nu_ok {k ch n:Int} {lw lb:Nat} {sm ss um us z p lo hi:Int} (h:leB k ch n lw lb=true) (g:ssB k sm ss um us=true) (f:rzB z p lo hi=true):nuE k ch n lw lb sm ss um us z p lo hi=0:=by unfold nuE;rw [if_neg (by rw [h];decide),if_neg (by rw [g];decide),if_neg (by rw [f];decide)]
theorem nu_1l (a b m kh kw sh sw tp lf bt rt:Int) (wa:Option Addr) (lw wc:Nat) (ba:Option Addr) (lb bc:Nat) (sm ss um us z p lo hi:Int) (ch n q:Int) (W:World) (hq:ch*n=q) (hq0:0≤q∧q≤2000000000) (hl:((lw:Int) == q)=false) :
  Calls Tryz.prog 85 #[.agg #[U i6 1,U i6 a,U i6 b,U i6 m,U i6 kh,U i6 kw,U i6 sh,U i6 sw,U i6 tp,U i6 lf,U i6 bt,U i6 rt,Sl wa lw wc,Sl ba lb bc,U i6 sm,U i6 ss,U i6 um,U i6 us,U i6 z,U i6 p,U i6 lo,U i6 hi],U i6 ch,U i6 n] W fun e w'=>e=.returned (U i6 70)∧Below W.heap.size W w':=by
 go_enter Tryz.func85,Tryz.ntmps85
 go_wp2_with fail
 refine (uses_1 _).mono ?_
 rintro e w1 ⟨rfl,hb'⟩
 have s1:=(St.start W).new.call hb'
 clear hb'
 try simp only [World.size_setCell] at s1
 try simp only [World.size_alloc] at s1
 obtain⟨c1,f1,zw1_1,-⟩:=s1.rules
 go_wp2
 go_ret
 exact⟨rfl,s1.new.below⟩
theorem nu_1m (a b m kh kw sh sw tp lf bt rt:Int) (wa:Option Addr) (lw wc:Nat) (ba:Option Addr) (lb bc:Nat) (sm ss um us z p lo hi:Int) (ch n q:Int) (W:World) (hq:ch*n=q) (hq0:0≤q∧q≤2000000000) (hl:(lw:Int)=q) (hl2:((lb:Int) == ch)=false) :
  Calls Tryz.prog 85 #[.agg #[U i6 1,U i6 a,U i6 b,U i6 m,U i6 kh,U i6 kw,U i6 sh,U i6 sw,U i6 tp,U i6 lf,U i6 bt,U i6 rt,Sl wa lw wc,Sl ba lb bc,U i6 sm,U i6 ss,U i6 um,U i6 us,U i6 z,U i6 p,U i6 lo,U i6 hi],U i6 ch,U i6 n] W fun e w'=>e=.returned (U i6 70)∧Below W.heap.size W w':=by
 go_enter Tryz.func85,Tryz.ntmps85
 go_wp2_with fail
 refine (uses_1 _).mono ?_
 rintro e w1 ⟨rfl,hb'⟩
 have s1:=(St.start W).new.call hb'
 clear hb'
 try simp only [World.size_setCell] at s1
 try simp only [World.size_alloc] at s1
 obtain⟨c1,f1,zw1_1,-⟩:=s1.rules
 go_wp2
 go_ret
 exact⟨rfl,s1.new.below⟩
theorem nu_1s (a b m kh kw sh sw tp lf bt rt:Int) (wa:Option Addr) (lw wc:Nat) (ba:Option Addr) (lb bc:Nat) (sm ss um us z p lo hi:Int) (ch n q:Int) (W:World) (hq:ch*n=q) (hq0:0≤q∧q≤2000000000) (hl:(lw:Int)=q) (hl2:(lb:Int)=ch) (ha:scB sm ss=false) :
  Calls Tryz.prog 85 #[.agg #[U i6 1,U i6 a,U i6 b,U i6 m,U i6 kh,U i6 kw,U i6 sh,U i6 sw,U i6 tp,U i6 lf,U i6 bt,U i6 rt,Sl wa lw wc,Sl ba lb bc,U i6 sm,U i6 ss,U i6 um,U i6 us,U i6 z,U i6 p,U i6 lo,U i6 hi],U i6 ch,U i6 n] W fun e w'=>e=.returned (U i6 20)∧Below W.heap.size W w':=by
 go_enter Tryz.func85,Tryz.ntmps85
 go_wp2_with fail
 refine (uses_1 _).mono ?_
 rintro e w1 ⟨rfl,hb'⟩
 have s1:=(St.start W).new.call hb'
 clear hb'
 try simp only [World.size_setCell] at s1
 try simp only [World.size_alloc] at s1
 obtain⟨c1,f1,zw1_1,-⟩:=s1.rules
 go_wp2_with fail
 refine (valid_any _ _ _).mono ?_
 rintro e v0 ⟨rfl,hb'⟩
 have t0:=s1.new.call hb'
 clear hb' c1 f1
 try simp only [World.size_setCell] at t0
 try simp only [World.size_alloc] at t0
 obtain⟨c1,f1,zv0_1,c2,f2,zv0_2,-⟩:=t0.rules
 go_wp2
 go_ret
 exact⟨rfl,t0.below⟩
theorem nu_1r (a b m kh kw sh sw tp lf bt rt:Int) (wa:Option Addr) (lw wc:Nat) (ba:Option Addr) (lb bc:Nat) (sm ss um us z p lo hi:Int) (ch n q:Int) (W:World) (hq:ch*n=q) (hq0:0≤q∧q≤2000000000) (hl:(lw:Int)=q) (hl2:(lb:Int)=ch) (ha:scB sm ss=true) (hr:rgB lo hi=false) :
  Calls Tryz.prog 85 #[.agg #[U i6 1,U i6 a,U i6 b,U i6 m,U i6 kh,U i6 kw,U i6 sh,U i6 sw,U i6 tp,U i6 lf,U i6 bt,U i6 rt,Sl wa lw wc,Sl ba lb bc,U i6 sm,U i6 ss,U i6 um,U i6 us,U i6 z,U i6 p,U i6 lo,U i6 hi],U i6 ch,U i6 n] W fun e w'=>e=.returned (U i6 85)∧Below W.heap.size W w':=by
 go_enter Tryz.func85,Tryz.ntmps85
 go_wp2_with fail
 refine (uses_1 _).mono ?_
 rintro e w1 ⟨rfl,hb'⟩
 have s1:=(St.start W).new.call hb'
 clear hb'
 try simp only [World.size_setCell] at s1
 try simp only [World.size_alloc] at s1
 obtain⟨c1,f1,zw1_1,-⟩:=s1.rules
 go_wp2_with fail
 refine (valid_any _ _ _).mono ?_
 rintro e v0 ⟨rfl,hb'⟩
 have t0:=s1.new.call hb'
 clear hb' c1 f1
 try simp only [World.size_setCell] at t0
 try simp only [World.size_alloc] at t0
 obtain⟨c1,f1,zv0_1,c2,f2,zv0_2,-⟩:=t0.rules
 go_wp2_with fail
 refine (isrange_any _ _ _).mono ?_
 rintro e w' ⟨rfl,rfl⟩
 go_wp2
 go_ret
 exact⟨rfl,t0.below⟩
theorem nu_1z (a b m kh kw sh sw tp lf bt rt:Int) (wa:Option Addr) (lw wc:Nat) (ba:Option Addr) (lb bc:Nat) (sm ss um us z p lo hi:Int) (ch n q:Int) (W:World) (hq:ch*n=q) (hq0:0≤q∧q≤2000000000) (hl:(lw:Int)=q) (hl2:(lb:Int)=ch) (ha:scB sm ss=true) (hr:rgB lo hi=true) (hz:vlB z=false) :
  Calls Tryz.prog 85 #[.agg #[U i6 1,U i6 a,U i6 b,U i6 m,U i6 kh,U i6 kw,U i6 sh,U i6 sw,U i6 tp,U i6 lf,U i6 bt,U i6 rt,Sl wa lw wc,Sl ba lb bc,U i6 sm,U i6 ss,U i6 um,U i6 us,U i6 z,U i6 p,U i6 lo,U i6 hi],U i6 ch,U i6 n] W fun e w'=>e=.returned (U i6 85)∧Below W.heap.size W w':=by
 go_enter Tryz.func85,Tryz.ntmps85
 go_wp2_with fail
 refine (uses_1 _).mono ?_
 rintro e w1 ⟨rfl,hb'⟩
 have s1:=(St.start W).new.call hb'
 clear hb'
 try simp only [World.size_setCell] at s1
 try simp only [World.size_alloc] at s1
 obtain⟨c1,f1,zw1_1,-⟩:=s1.rules
 go_wp2_with fail
 refine (valid_any _ _ _).mono ?_
 rintro e v0 ⟨rfl,hb'⟩
 have t0:=s1.new.call hb'
 clear hb' c1 f1
 try simp only [World.size_setCell] at t0
 try simp only [World.size_alloc] at t0
 obtain⟨c1,f1,zv0_1,c2,f2,zv0_2,-⟩:=t0.rules
 go_wp2_with fail
 refine (isrange_any _ _ _).mono ?_
 rintro e w' ⟨rfl,rfl⟩
 go_wp2_with fail
 refine (isval_any _ _).mono ?_
 rintro e w' ⟨rfl,rfl⟩
 go_wp2
 go_ret
 exact⟨rfl,t0.below⟩
theorem nu_1p (a b m kh kw sh sw tp lf bt rt:Int) (wa:Option Addr) (lw wc:Nat) (ba:Option Addr) (lb bc:Nat) (sm ss um us z p lo hi:Int) (ch n q:Int) (W:World) (hq:ch*n=q) (hq0:0≤q∧q≤2000000000) (hl:(lw:Int)=q) (hl2:(lb:Int)=ch) (ha:scB sm ss=true) (hr:rgB lo hi=true) (hz:vlB z=true) (hp:vlB p=false) :
  Calls Tryz.prog 85 #[.agg #[U i6 1,U i6 a,U i6 b,U i6 m,U i6 kh,U i6 kw,U i6 sh,U i6 sw,U i6 tp,U i6 lf,U i6 bt,U i6 rt,Sl wa lw wc,Sl ba lb bc,U i6 sm,U i6 ss,U i6 um,U i6 us,U i6 z,U i6 p,U i6 lo,U i6 hi],U i6 ch,U i6 n] W fun e w'=>e=.returned (U i6 85)∧Below W.heap.size W w':=by
 go_enter Tryz.func85,Tryz.ntmps85
 go_wp2_with fail
 refine (uses_1 _).mono ?_
 rintro e w1 ⟨rfl,hb'⟩
 have s1:=(St.start W).new.call hb'
 clear hb'
 try simp only [World.size_setCell] at s1
 try simp only [World.size_alloc] at s1
 obtain⟨c1,f1,zw1_1,-⟩:=s1.rules
 go_wp2_with fail
 refine (valid_any _ _ _).mono ?_
 rintro e v0 ⟨rfl,hb'⟩
 have t0:=s1.new.call hb'
 clear hb' c1 f1
 try simp only [World.size_setCell] at t0
 try simp only [World.size_alloc] at t0
 obtain⟨c1,f1,zv0_1,c2,f2,zv0_2,-⟩:=t0.rules
 go_wp2_with fail
 refine (isrange_any _ _ _).mono ?_
 rintro e w' ⟨rfl,rfl⟩
 go_wp2_with fail
 refine (isval_any _ _).mono ?_
 rintro e w' ⟨rfl,rfl⟩
 go_wp2_with fail
 refine (isval_any _ _).mono ?_
 rintro e w' ⟨rfl,rfl⟩
 go_wp2
 go_ret
 exact⟨rfl,t0.below⟩
theorem nu_1 (a b m kh kw sh sw tp lf bt rt:Int) (wa:Option Addr) (lw wc:Nat) (ba:Option Addr) (lb bc:Nat) (sm ss um us z p lo hi:Int) (ch n q:Int) (W:World) (hq:ch*n=q) (hq0:0≤q∧q≤2000000000) (hl:(lw:Int)=q) (hl2:(lb:Int)=ch) (ha:scB sm ss=true) (hr:rgB lo hi=true) (hz:vlB z=true) (hp:vlB p=true) :
  Calls Tryz.prog 85 #[.agg #[U i6 1,U i6 a,U i6 b,U i6 m,U i6 kh,U i6 kw,U i6 sh,U i6 sw,U i6 tp,U i6 lf,U i6 bt,U i6 rt,Sl wa lw wc,Sl ba lb bc,U i6 sm,U i6 ss,U i6 um,U i6 us,U i6 z,U i6 p,U i6 lo,U i6 hi],U i6 ch,U i6 n] W fun e w'=>e=.returned (U i6 0)∧Below W.heap.size W w':=by
 go_enter Tryz.func85,Tryz.ntmps85
 go_wp2_with fail
 refine (uses_1 _).mono ?_
 rintro e w1 ⟨rfl,hb'⟩
 have s1:=(St.start W).new.call hb'
 clear hb'
 try simp only [World.size_setCell] at s1
 try simp only [World.size_alloc] at s1
 obtain⟨c1,f1,zw1_1,-⟩:=s1.rules
 go_wp2_with fail
 refine (valid_any _ _ _).mono ?_
 rintro e v0 ⟨rfl,hb'⟩
 have t0:=s1.new.call hb'
 clear hb' c1 f1
 try simp only [World.size_setCell] at t0
 try simp only [World.size_alloc] at t0
 obtain⟨c1,f1,zv0_1,c2,f2,zv0_2,-⟩:=t0.rules
 go_wp2_with fail
 refine (isrange_any _ _ _).mono ?_
 rintro e w' ⟨rfl,rfl⟩
 go_wp2_with fail
 refine (isval_any _ _).mono ?_
 rintro e w' ⟨rfl,rfl⟩
 go_wp2_with fail
 refine (isval_any _ _).mono ?_
 rintro e w' ⟨rfl,rfl⟩
 go_wp2
 go_ret
 exact⟨rfl,t0.below⟩
theorem nu_2l (a b m kh kw sh sw tp lf bt rt:Int) (wa:Option Addr) (lw wc:Nat) (ba:Option Addr) (lb bc:Nat) (sm ss um us z p lo hi:Int) (ch n q:Int) (W:World) (hq:ch*n=q) (hq0:0≤q∧q≤2000000000) (hl:((lw:Int) == q)=false) :
  Calls Tryz.prog 85 #[.agg #[U i6 2,U i6 a,U i6 b,U i6 m,U i6 kh,U i6 kw,U i6 sh,U i6 sw,U i6 tp,U i6 lf,U i6 bt,U i6 rt,Sl wa lw wc,Sl ba lb bc,U i6 sm,U i6 ss,U i6 um,U i6 us,U i6 z,U i6 p,U i6 lo,U i6 hi],U i6 ch,U i6 n] W fun e w'=>e=.returned (U i6 70)∧Below W.heap.size W w':=by
 go_enter Tryz.func85,Tryz.ntmps85
 go_wp2_with fail
 refine (uses_2 _).mono ?_
 rintro e w1 ⟨rfl,hb'⟩
 have s1:=(St.start W).new.call hb'
 clear hb'
 try simp only [World.size_setCell] at s1
 try simp only [World.size_alloc] at s1
 obtain⟨c1,f1,zw1_1,-⟩:=s1.rules
 go_wp2
 go_ret
 exact⟨rfl,s1.new.below⟩
theorem nu_2m (a b m kh kw sh sw tp lf bt rt:Int) (wa:Option Addr) (lw wc:Nat) (ba:Option Addr) (lb bc:Nat) (sm ss um us z p lo hi:Int) (ch n q:Int) (W:World) (hq:ch*n=q) (hq0:0≤q∧q≤2000000000) (hl:(lw:Int)=q) (hl2:((lb:Int) == ch)=false) :
  Calls Tryz.prog 85 #[.agg #[U i6 2,U i6 a,U i6 b,U i6 m,U i6 kh,U i6 kw,U i6 sh,U i6 sw,U i6 tp,U i6 lf,U i6 bt,U i6 rt,Sl wa lw wc,Sl ba lb bc,U i6 sm,U i6 ss,U i6 um,U i6 us,U i6 z,U i6 p,U i6 lo,U i6 hi],U i6 ch,U i6 n] W fun e w'=>e=.returned (U i6 70)∧Below W.heap.size W w':=by
 go_enter Tryz.func85,Tryz.ntmps85
 go_wp2_with fail
 refine (uses_2 _).mono ?_
 rintro e w1 ⟨rfl,hb'⟩
 have s1:=(St.start W).new.call hb'
 clear hb'
 try simp only [World.size_setCell] at s1
 try simp only [World.size_alloc] at s1
 obtain⟨c1,f1,zw1_1,-⟩:=s1.rules
 go_wp2
 go_ret
 exact⟨rfl,s1.new.below⟩
theorem nu_2s (a b m kh kw sh sw tp lf bt rt:Int) (wa:Option Addr) (lw wc:Nat) (ba:Option Addr) (lb bc:Nat) (sm ss um us z p lo hi:Int) (ch n q:Int) (W:World) (hq:ch*n=q) (hq0:0≤q∧q≤2000000000) (hl:(lw:Int)=q) (hl2:(lb:Int)=ch) (ha:scB sm ss=false) :
  Calls Tryz.prog 85 #[.agg #[U i6 2,U i6 a,U i6 b,U i6 m,U i6 kh,U i6 kw,U i6 sh,U i6 sw,U i6 tp,U i6 lf,U i6 bt,U i6 rt,Sl wa lw wc,Sl ba lb bc,U i6 sm,U i6 ss,U i6 um,U i6 us,U i6 z,U i6 p,U i6 lo,U i6 hi],U i6 ch,U i6 n] W fun e w'=>e=.returned (U i6 20)∧Below W.heap.size W w':=by
 go_enter Tryz.func85,Tryz.ntmps85
 go_wp2_with fail
 refine (uses_2 _).mono ?_
 rintro e w1 ⟨rfl,hb'⟩
 have s1:=(St.start W).new.call hb'
 clear hb'
 try simp only [World.size_setCell] at s1
 try simp only [World.size_alloc] at s1
 obtain⟨c1,f1,zw1_1,-⟩:=s1.rules
 go_wp2_with fail
 refine (valid_any _ _ _).mono ?_
 rintro e v0 ⟨rfl,hb'⟩
 have t0:=s1.new.call hb'
 clear hb' c1 f1
 try simp only [World.size_setCell] at t0
 try simp only [World.size_alloc] at t0
 obtain⟨c1,f1,zv0_1,c2,f2,zv0_2,-⟩:=t0.rules
 go_wp2
 go_ret
 exact⟨rfl,t0.below⟩
theorem nu_2r (a b m kh kw sh sw tp lf bt rt:Int) (wa:Option Addr) (lw wc:Nat) (ba:Option Addr) (lb bc:Nat) (sm ss um us z p lo hi:Int) (ch n q:Int) (W:World) (hq:ch*n=q) (hq0:0≤q∧q≤2000000000) (hl:(lw:Int)=q) (hl2:(lb:Int)=ch) (ha:scB sm ss=true) (hr:rgB lo hi=false) :
  Calls Tryz.prog 85 #[.agg #[U i6 2,U i6 a,U i6 b,U i6 m,U i6 kh,U i6 kw,U i6 sh,U i6 sw,U i6 tp,U i6 lf,U i6 bt,U i6 rt,Sl wa lw wc,Sl ba lb bc,U i6 sm,U i6 ss,U i6 um,U i6 us,U i6 z,U i6 p,U i6 lo,U i6 hi],U i6 ch,U i6 n] W fun e w'=>e=.returned (U i6 85)∧Below W.heap.size W w':=by
 go_enter Tryz.func85,Tryz.ntmps85
 go_wp2_with fail
 refine (uses_2 _).mono ?_
 rintro e w1 ⟨rfl,hb'⟩
 have s1:=(St.start W).new.call hb'
 clear hb'
 try simp only [World.size_setCell] at s1
 try simp only [World.size_alloc] at s1
 obtain⟨c1,f1,zw1_1,-⟩:=s1.rules
 go_wp2_with fail
 refine (valid_any _ _ _).mono ?_
 rintro e v0 ⟨rfl,hb'⟩
 have t0:=s1.new.call hb'
 clear hb' c1 f1
 try simp only [World.size_setCell] at t0
 try simp only [World.size_alloc] at t0
 obtain⟨c1,f1,zv0_1,c2,f2,zv0_2,-⟩:=t0.rules
 go_wp2_with fail
 refine (isrange_any _ _ _).mono ?_
 rintro e w' ⟨rfl,rfl⟩
 go_wp2
 go_ret
 exact⟨rfl,t0.below⟩
theorem nu_2z (a b m kh kw sh sw tp lf bt rt:Int) (wa:Option Addr) (lw wc:Nat) (ba:Option Addr) (lb bc:Nat) (sm ss um us z p lo hi:Int) (ch n q:Int) (W:World) (hq:ch*n=q) (hq0:0≤q∧q≤2000000000) (hl:(lw:Int)=q) (hl2:(lb:Int)=ch) (ha:scB sm ss=true) (hr:rgB lo hi=true) (hz:vlB z=false) :
  Calls Tryz.prog 85 #[.agg #[U i6 2,U i6 a,U i6 b,U i6 m,U i6 kh,U i6 kw,U i6 sh,U i6 sw,U i6 tp,U i6 lf,U i6 bt,U i6 rt,Sl wa lw wc,Sl ba lb bc,U i6 sm,U i6 ss,U i6 um,U i6 us,U i6 z,U i6 p,U i6 lo,U i6 hi],U i6 ch,U i6 n] W fun e w'=>e=.returned (U i6 85)∧Below W.heap.size W w':=by
 go_enter Tryz.func85,Tryz.ntmps85
 go_wp2_with fail
 refine (uses_2 _).mono ?_
 rintro e w1 ⟨rfl,hb'⟩
 have s1:=(St.start W).new.call hb'
 clear hb'
 try simp only [World.size_setCell] at s1
 try simp only [World.size_alloc] at s1
 obtain⟨c1,f1,zw1_1,-⟩:=s1.rules
 go_wp2_with fail
 refine (valid_any _ _ _).mono ?_
 rintro e v0 ⟨rfl,hb'⟩
 have t0:=s1.new.call hb'
 clear hb' c1 f1
 try simp only [World.size_setCell] at t0
 try simp only [World.size_alloc] at t0
 obtain⟨c1,f1,zv0_1,c2,f2,zv0_2,-⟩:=t0.rules
 go_wp2_with fail
 refine (isrange_any _ _ _).mono ?_
 rintro e w' ⟨rfl,rfl⟩
 go_wp2_with fail
 refine (isval_any _ _).mono ?_
 rintro e w' ⟨rfl,rfl⟩
 go_wp2
 go_ret
 exact⟨rfl,t0.below⟩
theorem nu_2p (a b m kh kw sh sw tp lf bt rt:Int) (wa:Option Addr) (lw wc:Nat) (ba:Option Addr) (lb bc:Nat) (sm ss um us z p lo hi:Int) (ch n q:Int) (W:World) (hq:ch*n=q) (hq0:0≤q∧q≤2000000000) (hl:(lw:Int)=q) (hl2:(lb:Int)=ch) (ha:scB sm ss=true) (hr:rgB lo hi=true) (hz:vlB z=true) (hp:vlB p=false) :
  Calls Tryz.prog 85 #[.agg #[U i6 2,U i6 a,U i6 b,U i6 m,U i6 kh,U i6 kw,U i6 sh,U i6 sw,U i6 tp,U i6 lf,U i6 bt,U i6 rt,Sl wa lw wc,Sl ba lb bc,U i6 sm,U i6 ss,U i6 um,U i6 us,U i6 z,U i6 p,U i6 lo,U i6 hi],U i6 ch,U i6 n] W fun e w'=>e=.returned (U i6 85)∧Below W.heap.size W w':=by
 go_enter Tryz.func85,Tryz.ntmps85
 go_wp2_with fail
 refine (uses_2 _).mono ?_
 rintro e w1 ⟨rfl,hb'⟩
 have s1:=(St.start W).new.call hb'
 clear hb'
 try simp only [World.size_setCell] at s1
 try simp only [World.size_alloc] at s1
 obtain⟨c1,f1,zw1_1,-⟩:=s1.rules
 go_wp2_with fail
 refine (valid_any _ _ _).mono ?_
 rintro e v0 ⟨rfl,hb'⟩
 have t0:=s1.new.call hb'
 clear hb' c1 f1
 try simp only [World.size_setCell] at t0
 try simp only [World.size_alloc] at t0
 obtain⟨c1,f1,zv0_1,c2,f2,zv0_2,-⟩:=t0.rules
 go_wp2_with fail
 refine (isrange_any _ _ _).mono ?_
 rintro e w' ⟨rfl,rfl⟩
 go_wp2_with fail
 refine (isval_any _ _).mono ?_
 rintro e w' ⟨rfl,rfl⟩
 go_wp2_with fail
 refine (isval_any _ _).mono ?_
 rintro e w' ⟨rfl,rfl⟩
 go_wp2
 go_ret
 exact⟨rfl,t0.below⟩
theorem nu_2 (a b m kh kw sh sw tp lf bt rt:Int) (wa:Option Addr) (lw wc:Nat) (ba:Option Addr) (lb bc:Nat) (sm ss um us z p lo hi:Int) (ch n q:Int) (W:World) (hq:ch*n=q) (hq0:0≤q∧q≤2000000000) (hl:(lw:Int)=q) (hl2:(lb:Int)=ch) (ha:scB sm ss=true) (hr:rgB lo hi=true) (hz:vlB z=true) (hp:vlB p=true) :
  Calls Tryz.prog 85 #[.agg #[U i6 2,U i6 a,U i6 b,U i6 m,U i6 kh,U i6 kw,U i6 sh,U i6 sw,U i6 tp,U i6 lf,U i6 bt,U i6 rt,Sl wa lw wc,Sl ba lb bc,U i6 sm,U i6 ss,U i6 um,U i6 us,U i6 z,U i6 p,U i6 lo,U i6 hi],U i6 ch,U i6 n] W fun e w'=>e=.returned (U i6 0)∧Below W.heap.size W w':=by
 go_enter Tryz.func85,Tryz.ntmps85
 go_wp2_with fail
 refine (uses_2 _).mono ?_
 rintro e w1 ⟨rfl,hb'⟩
 have s1:=(St.start W).new.call hb'
 clear hb'
 try simp only [World.size_setCell] at s1
 try simp only [World.size_alloc] at s1
 obtain⟨c1,f1,zw1_1,-⟩:=s1.rules
 go_wp2_with fail
 refine (valid_any _ _ _).mono ?_
 rintro e v0 ⟨rfl,hb'⟩
 have t0:=s1.new.call hb'
 clear hb' c1 f1
 try simp only [World.size_setCell] at t0
 try simp only [World.size_alloc] at t0
 obtain⟨c1,f1,zv0_1,c2,f2,zv0_2,-⟩:=t0.rules
 go_wp2_with fail
 refine (isrange_any _ _ _).mono ?_
 rintro e w' ⟨rfl,rfl⟩
 go_wp2_with fail
 refine (isval_any _ _).mono ?_
 rintro e w' ⟨rfl,rfl⟩
 go_wp2_with fail
 refine (isval_any _ _).mono ?_
 rintro e w' ⟨rfl,rfl⟩
 go_wp2
 go_ret
 exact⟨rfl,t0.below⟩
theorem nu_3l (a b m kh kw sh sw tp lf bt rt:Int) (wa:Option Addr) (lw wc:Nat) (ba:Option Addr) (lb bc:Nat) (sm ss um us z p lo hi:Int) (ch n q:Int) (W:World) (hq:ch*n=q) (hq0:0≤q∧q≤2000000000) (hl:((lw:Int) == q)=false) :
  Calls Tryz.prog 85 #[.agg #[U i6 3,U i6 a,U i6 b,U i6 m,U i6 kh,U i6 kw,U i6 sh,U i6 sw,U i6 tp,U i6 lf,U i6 bt,U i6 rt,Sl wa lw wc,Sl ba lb bc,U i6 sm,U i6 ss,U i6 um,U i6 us,U i6 z,U i6 p,U i6 lo,U i6 hi],U i6 ch,U i6 n] W fun e w'=>e=.returned (U i6 70)∧Below W.heap.size W w':=by
 go_enter Tryz.func85,Tryz.ntmps85
 go_wp2_with fail
 refine (uses_3 _).mono ?_
 rintro e w1 ⟨rfl,hb'⟩
 have s1:=(St.start W).new.call hb'
 clear hb'
 try simp only [World.size_setCell] at s1
 try simp only [World.size_alloc] at s1
 obtain⟨c1,f1,zw1_1,-⟩:=s1.rules
 go_wp2
 go_ret
 exact⟨rfl,s1.new.below⟩
theorem nu_3m (a b m kh kw sh sw tp lf bt rt:Int) (wa:Option Addr) (lw wc:Nat) (ba:Option Addr) (lb bc:Nat) (sm ss um us z p lo hi:Int) (ch n q:Int) (W:World) (hq:ch*n=q) (hq0:0≤q∧q≤2000000000) (hl:(lw:Int)=q) (hl2:((lb:Int) == ch)=false) :
  Calls Tryz.prog 85 #[.agg #[U i6 3,U i6 a,U i6 b,U i6 m,U i6 kh,U i6 kw,U i6 sh,U i6 sw,U i6 tp,U i6 lf,U i6 bt,U i6 rt,Sl wa lw wc,Sl ba lb bc,U i6 sm,U i6 ss,U i6 um,U i6 us,U i6 z,U i6 p,U i6 lo,U i6 hi],U i6 ch,U i6 n] W fun e w'=>e=.returned (U i6 70)∧Below W.heap.size W w':=by
 go_enter Tryz.func85,Tryz.ntmps85
 go_wp2_with fail
 refine (uses_3 _).mono ?_
 rintro e w1 ⟨rfl,hb'⟩
 have s1:=(St.start W).new.call hb'
 clear hb'
 try simp only [World.size_setCell] at s1
 try simp only [World.size_alloc] at s1
 obtain⟨c1,f1,zw1_1,-⟩:=s1.rules
 go_wp2
 go_ret
 exact⟨rfl,s1.new.below⟩
theorem nu_3s (a b m kh kw sh sw tp lf bt rt:Int) (wa:Option Addr) (lw wc:Nat) (ba:Option Addr) (lb bc:Nat) (sm ss um us z p lo hi:Int) (ch n q:Int) (W:World) (hq:ch*n=q) (hq0:0≤q∧q≤2000000000) (hl:(lw:Int)=q) (hl2:(lb:Int)=ch) (ha:scB sm ss=false) :
  Calls Tryz.prog 85 #[.agg #[U i6 3,U i6 a,U i6 b,U i6 m,U i6 kh,U i6 kw,U i6 sh,U i6 sw,U i6 tp,U i6 lf,U i6 bt,U i6 rt,Sl wa lw wc,Sl ba lb bc,U i6 sm,U i6 ss,U i6 um,U i6 us,U i6 z,U i6 p,U i6 lo,U i6 hi],U i6 ch,U i6 n] W fun e w'=>e=.returned (U i6 20)∧Below W.heap.size W w':=by
 go_enter Tryz.func85,Tryz.ntmps85
 go_wp2_with fail
 refine (uses_3 _).mono ?_
 rintro e w1 ⟨rfl,hb'⟩
 have s1:=(St.start W).new.call hb'
 clear hb'
 try simp only [World.size_setCell] at s1
 try simp only [World.size_alloc] at s1
 obtain⟨c1,f1,zw1_1,-⟩:=s1.rules
 go_wp2_with fail
 refine (valid_any _ _ _).mono ?_
 rintro e v0 ⟨rfl,hb'⟩
 have t0:=s1.new.call hb'
 clear hb' c1 f1
 try simp only [World.size_setCell] at t0
 try simp only [World.size_alloc] at t0
 obtain⟨c1,f1,zv0_1,c2,f2,zv0_2,-⟩:=t0.rules
 go_wp2
 go_ret
 exact⟨rfl,t0.below⟩
theorem nu_3r (a b m kh kw sh sw tp lf bt rt:Int) (wa:Option Addr) (lw wc:Nat) (ba:Option Addr) (lb bc:Nat) (sm ss um us z p lo hi:Int) (ch n q:Int) (W:World) (hq:ch*n=q) (hq0:0≤q∧q≤2000000000) (hl:(lw:Int)=q) (hl2:(lb:Int)=ch) (ha:scB sm ss=true) (hr:rgB lo hi=false) :
  Calls Tryz.prog 85 #[.agg #[U i6 3,U i6 a,U i6 b,U i6 m,U i6 kh,U i6 kw,U i6 sh,U i6 sw,U i6 tp,U i6 lf,U i6 bt,U i6 rt,Sl wa lw wc,Sl ba lb bc,U i6 sm,U i6 ss,U i6 um,U i6 us,U i6 z,U i6 p,U i6 lo,U i6 hi],U i6 ch,U i6 n] W fun e w'=>e=.returned (U i6 85)∧Below W.heap.size W w':=by
 go_enter Tryz.func85,Tryz.ntmps85
 go_wp2_with fail
 refine (uses_3 _).mono ?_
 rintro e w1 ⟨rfl,hb'⟩
 have s1:=(St.start W).new.call hb'
 clear hb'
 try simp only [World.size_setCell] at s1
 try simp only [World.size_alloc] at s1
 obtain⟨c1,f1,zw1_1,-⟩:=s1.rules
 go_wp2_with fail
 refine (valid_any _ _ _).mono ?_
 rintro e v0 ⟨rfl,hb'⟩
 have t0:=s1.new.call hb'
 clear hb' c1 f1
 try simp only [World.size_setCell] at t0
 try simp only [World.size_alloc] at t0
 obtain⟨c1,f1,zv0_1,c2,f2,zv0_2,-⟩:=t0.rules
 go_wp2_with fail
 refine (isrange_any _ _ _).mono ?_
 rintro e w' ⟨rfl,rfl⟩
 go_wp2
 go_ret
 exact⟨rfl,t0.below⟩
theorem nu_3z (a b m kh kw sh sw tp lf bt rt:Int) (wa:Option Addr) (lw wc:Nat) (ba:Option Addr) (lb bc:Nat) (sm ss um us z p lo hi:Int) (ch n q:Int) (W:World) (hq:ch*n=q) (hq0:0≤q∧q≤2000000000) (hl:(lw:Int)=q) (hl2:(lb:Int)=ch) (ha:scB sm ss=true) (hr:rgB lo hi=true) (hz:vlB z=false) :
  Calls Tryz.prog 85 #[.agg #[U i6 3,U i6 a,U i6 b,U i6 m,U i6 kh,U i6 kw,U i6 sh,U i6 sw,U i6 tp,U i6 lf,U i6 bt,U i6 rt,Sl wa lw wc,Sl ba lb bc,U i6 sm,U i6 ss,U i6 um,U i6 us,U i6 z,U i6 p,U i6 lo,U i6 hi],U i6 ch,U i6 n] W fun e w'=>e=.returned (U i6 85)∧Below W.heap.size W w':=by
 go_enter Tryz.func85,Tryz.ntmps85
 go_wp2_with fail
 refine (uses_3 _).mono ?_
 rintro e w1 ⟨rfl,hb'⟩
 have s1:=(St.start W).new.call hb'
 clear hb'
 try simp only [World.size_setCell] at s1
 try simp only [World.size_alloc] at s1
 obtain⟨c1,f1,zw1_1,-⟩:=s1.rules
 go_wp2_with fail
 refine (valid_any _ _ _).mono ?_
 rintro e v0 ⟨rfl,hb'⟩
 have t0:=s1.new.call hb'
 clear hb' c1 f1
 try simp only [World.size_setCell] at t0
 try simp only [World.size_alloc] at t0
 obtain⟨c1,f1,zv0_1,c2,f2,zv0_2,-⟩:=t0.rules
 go_wp2_with fail
 refine (isrange_any _ _ _).mono ?_
 rintro e w' ⟨rfl,rfl⟩
 go_wp2_with fail
 refine (isval_any _ _).mono ?_
 rintro e w' ⟨rfl,rfl⟩
 go_wp2
 go_ret
 exact⟨rfl,t0.below⟩
theorem nu_3p (a b m kh kw sh sw tp lf bt rt:Int) (wa:Option Addr) (lw wc:Nat) (ba:Option Addr) (lb bc:Nat) (sm ss um us z p lo hi:Int) (ch n q:Int) (W:World) (hq:ch*n=q) (hq0:0≤q∧q≤2000000000) (hl:(lw:Int)=q) (hl2:(lb:Int)=ch) (ha:scB sm ss=true) (hr:rgB lo hi=true) (hz:vlB z=true) (hp:vlB p=false) :
  Calls Tryz.prog 85 #[.agg #[U i6 3,U i6 a,U i6 b,U i6 m,U i6 kh,U i6 kw,U i6 sh,U i6 sw,U i6 tp,U i6 lf,U i6 bt,U i6 rt,Sl wa lw wc,Sl ba lb bc,U i6 sm,U i6 ss,U i6 um,U i6 us,U i6 z,U i6 p,U i6 lo,U i6 hi],U i6 ch,U i6 n] W fun e w'=>e=.returned (U i6 85)∧Below W.heap.size W w':=by
 go_enter Tryz.func85,Tryz.ntmps85
 go_wp2_with fail
 refine (uses_3 _).mono ?_
 rintro e w1 ⟨rfl,hb'⟩
 have s1:=(St.start W).new.call hb'
 clear hb'
 try simp only [World.size_setCell] at s1
 try simp only [World.size_alloc] at s1
 obtain⟨c1,f1,zw1_1,-⟩:=s1.rules
 go_wp2_with fail
 refine (valid_any _ _ _).mono ?_
 rintro e v0 ⟨rfl,hb'⟩
 have t0:=s1.new.call hb'
 clear hb' c1 f1
 try simp only [World.size_setCell] at t0
 try simp only [World.size_alloc] at t0
 obtain⟨c1,f1,zv0_1,c2,f2,zv0_2,-⟩:=t0.rules
 go_wp2_with fail
 refine (isrange_any _ _ _).mono ?_
 rintro e w' ⟨rfl,rfl⟩
 go_wp2_with fail
 refine (isval_any _ _).mono ?_
 rintro e w' ⟨rfl,rfl⟩
 go_wp2_with fail
 refine (isval_any _ _).mono ?_
 rintro e w' ⟨rfl,rfl⟩
 go_wp2
 go_ret
 exact⟨rfl,t0.below⟩
theorem nu_3 (a b m kh kw sh sw tp lf bt rt:Int) (wa:Option Addr) (lw wc:Nat) (ba:Option Addr) (lb bc:Nat) (sm ss um us z p lo hi:Int) (ch n q:Int) (W:World) (hq:ch*n=q) (hq0:0≤q∧q≤2000000000) (hl:(lw:Int)=q) (hl2:(lb:Int)=ch) (ha:scB sm ss=true) (hr:rgB lo hi=true) (hz:vlB z=true) (hp:vlB p=true) :
  Calls Tryz.prog 85 #[.agg #[U i6 3,U i6 a,U i6 b,U i6 m,U i6 kh,U i6 kw,U i6 sh,U i6 sw,U i6 tp,U i6 lf,U i6 bt,U i6 rt,Sl wa lw wc,Sl ba lb bc,U i6 sm,U i6 ss,U i6 um,U i6 us,U i6 z,U i6 p,U i6 lo,U i6 hi],U i6 ch,U i6 n] W fun e w'=>e=.returned (U i6 0)∧Below W.heap.size W w':=by
 go_enter Tryz.func85,Tryz.ntmps85
 go_wp2_with fail
 refine (uses_3 _).mono ?_
 rintro e w1 ⟨rfl,hb'⟩
 have s1:=(St.start W).new.call hb'
 clear hb'
 try simp only [World.size_setCell] at s1
 try simp only [World.size_alloc] at s1
 obtain⟨c1,f1,zw1_1,-⟩:=s1.rules
 go_wp2_with fail
 refine (valid_any _ _ _).mono ?_
 rintro e v0 ⟨rfl,hb'⟩
 have t0:=s1.new.call hb'
 clear hb' c1 f1
 try simp only [World.size_setCell] at t0
 try simp only [World.size_alloc] at t0
 obtain⟨c1,f1,zv0_1,c2,f2,zv0_2,-⟩:=t0.rules
 go_wp2_with fail
 refine (isrange_any _ _ _).mono ?_
 rintro e w' ⟨rfl,rfl⟩
 go_wp2_with fail
 refine (isval_any _ _).mono ?_
 rintro e w' ⟨rfl,rfl⟩
 go_wp2_with fail
 refine (isval_any _ _).mono ?_
 rintro e w' ⟨rfl,rfl⟩
 go_wp2
 go_ret
 exact⟨rfl,t0.below⟩
theorem nu_4r (a b m kh kw sh sw tp lf bt rt:Int) (wa:Option Addr) (lw wc:Nat) (ba:Option Addr) (lb bc:Nat) (sm ss um us z p lo hi:Int) (ch n q:Int) (W:World) (hq:ch*n=q) (hq0:0≤q∧q≤2000000000) (hr:rgB lo hi=false) :
  Calls Tryz.prog 85 #[.agg #[U i6 4,U i6 a,U i6 b,U i6 m,U i6 kh,U i6 kw,U i6 sh,U i6 sw,U i6 tp,U i6 lf,U i6 bt,U i6 rt,Sl wa lw wc,Sl ba lb bc,U i6 sm,U i6 ss,U i6 um,U i6 us,U i6 z,U i6 p,U i6 lo,U i6 hi],U i6 ch,U i6 n] W fun e w'=>e=.returned (U i6 85)∧Below W.heap.size W w':=by
 go_enter Tryz.func85,Tryz.ntmps85
 go_wp2_with fail
 refine (uses_4 _).mono ?_
 rintro e w1 ⟨rfl,hb'⟩
 have s1:=(St.start W).new.call hb'
 clear hb'
 try simp only [World.size_setCell] at s1
 try simp only [World.size_alloc] at s1
 obtain⟨c1,f1,zw1_1,-⟩:=s1.rules
 go_wp2_with fail
 refine (isrange_any _ _ _).mono ?_
 rintro e w' ⟨rfl,rfl⟩
 go_wp2
 go_ret
 exact⟨rfl,s1.new.below⟩
theorem nu_4z (a b m kh kw sh sw tp lf bt rt:Int) (wa:Option Addr) (lw wc:Nat) (ba:Option Addr) (lb bc:Nat) (sm ss um us z p lo hi:Int) (ch n q:Int) (W:World) (hq:ch*n=q) (hq0:0≤q∧q≤2000000000) (hr:rgB lo hi=true) (hz:vlB z=false) :
  Calls Tryz.prog 85 #[.agg #[U i6 4,U i6 a,U i6 b,U i6 m,U i6 kh,U i6 kw,U i6 sh,U i6 sw,U i6 tp,U i6 lf,U i6 bt,U i6 rt,Sl wa lw wc,Sl ba lb bc,U i6 sm,U i6 ss,U i6 um,U i6 us,U i6 z,U i6 p,U i6 lo,U i6 hi],U i6 ch,U i6 n] W fun e w'=>e=.returned (U i6 85)∧Below W.heap.size W w':=by
 go_enter Tryz.func85,Tryz.ntmps85
 go_wp2_with fail
 refine (uses_4 _).mono ?_
 rintro e w1 ⟨rfl,hb'⟩
 have s1:=(St.start W).new.call hb'
 clear hb'
 try simp only [World.size_setCell] at s1
 try simp only [World.size_alloc] at s1
 obtain⟨c1,f1,zw1_1,-⟩:=s1.rules
 go_wp2_with fail
 refine (isrange_any _ _ _).mono ?_
 rintro e w' ⟨rfl,rfl⟩
 go_wp2_with fail
 refine (isval_any _ _).mono ?_
 rintro e w' ⟨rfl,rfl⟩
 go_wp2
 go_ret
 exact⟨rfl,s1.new.below⟩
theorem nu_4p (a b m kh kw sh sw tp lf bt rt:Int) (wa:Option Addr) (lw wc:Nat) (ba:Option Addr) (lb bc:Nat) (sm ss um us z p lo hi:Int) (ch n q:Int) (W:World) (hq:ch*n=q) (hq0:0≤q∧q≤2000000000) (hr:rgB lo hi=true) (hz:vlB z=true) (hp:vlB p=false) :
  Calls Tryz.prog 85 #[.agg #[U i6 4,U i6 a,U i6 b,U i6 m,U i6 kh,U i6 kw,U i6 sh,U i6 sw,U i6 tp,U i6 lf,U i6 bt,U i6 rt,Sl wa lw wc,Sl ba lb bc,U i6 sm,U i6 ss,U i6 um,U i6 us,U i6 z,U i6 p,U i6 lo,U i6 hi],U i6 ch,U i6 n] W fun e w'=>e=.returned (U i6 85)∧Below W.heap.size W w':=by
 go_enter Tryz.func85,Tryz.ntmps85
 go_wp2_with fail
 refine (uses_4 _).mono ?_
 rintro e w1 ⟨rfl,hb'⟩
 have s1:=(St.start W).new.call hb'
 clear hb'
 try simp only [World.size_setCell] at s1
 try simp only [World.size_alloc] at s1
 obtain⟨c1,f1,zw1_1,-⟩:=s1.rules
 go_wp2_with fail
 refine (isrange_any _ _ _).mono ?_
 rintro e w' ⟨rfl,rfl⟩
 go_wp2_with fail
 refine (isval_any _ _).mono ?_
 rintro e w' ⟨rfl,rfl⟩
 go_wp2_with fail
 refine (isval_any _ _).mono ?_
 rintro e w' ⟨rfl,rfl⟩
 go_wp2
 go_ret
 exact⟨rfl,s1.new.below⟩
theorem nu_4 (a b m kh kw sh sw tp lf bt rt:Int) (wa:Option Addr) (lw wc:Nat) (ba:Option Addr) (lb bc:Nat) (sm ss um us z p lo hi:Int) (ch n q:Int) (W:World) (hq:ch*n=q) (hq0:0≤q∧q≤2000000000) (hr:rgB lo hi=true) (hz:vlB z=true) (hp:vlB p=true) :
  Calls Tryz.prog 85 #[.agg #[U i6 4,U i6 a,U i6 b,U i6 m,U i6 kh,U i6 kw,U i6 sh,U i6 sw,U i6 tp,U i6 lf,U i6 bt,U i6 rt,Sl wa lw wc,Sl ba lb bc,U i6 sm,U i6 ss,U i6 um,U i6 us,U i6 z,U i6 p,U i6 lo,U i6 hi],U i6 ch,U i6 n] W fun e w'=>e=.returned (U i6 0)∧Below W.heap.size W w':=by
 go_enter Tryz.func85,Tryz.ntmps85
 go_wp2_with fail
 refine (uses_4 _).mono ?_
 rintro e w1 ⟨rfl,hb'⟩
 have s1:=(St.start W).new.call hb'
 clear hb'
 try simp only [World.size_setCell] at s1
 try simp only [World.size_alloc] at s1
 obtain⟨c1,f1,zw1_1,-⟩:=s1.rules
 go_wp2_with fail
 refine (isrange_any _ _ _).mono ?_
 rintro e w' ⟨rfl,rfl⟩
 go_wp2_with fail
 refine (isval_any _ _).mono ?_
 rintro e w' ⟨rfl,rfl⟩
 go_wp2_with fail
 refine (isval_any _ _).mono ?_
 rintro e w' ⟨rfl,rfl⟩
 go_wp2
 go_ret
 exact⟨rfl,s1.new.below⟩
theorem nu_5r (a b m kh kw sh sw tp lf bt rt:Int) (wa:Option Addr) (lw wc:Nat) (ba:Option Addr) (lb bc:Nat) (sm ss um us z p lo hi:Int) (ch n q:Int) (W:World) (hq:ch*n=q) (hq0:0≤q∧q≤2000000000) (hr:rgB lo hi=false) :
  Calls Tryz.prog 85 #[.agg #[U i6 5,U i6 a,U i6 b,U i6 m,U i6 kh,U i6 kw,U i6 sh,U i6 sw,U i6 tp,U i6 lf,U i6 bt,U i6 rt,Sl wa lw wc,Sl ba lb bc,U i6 sm,U i6 ss,U i6 um,U i6 us,U i6 z,U i6 p,U i6 lo,U i6 hi],U i6 ch,U i6 n] W fun e w'=>e=.returned (U i6 85)∧Below W.heap.size W w':=by
 go_enter Tryz.func85,Tryz.ntmps85
 go_wp2_with fail
 refine (uses_5 _).mono ?_
 rintro e w1 ⟨rfl,hb'⟩
 have s1:=(St.start W).new.call hb'
 clear hb'
 try simp only [World.size_setCell] at s1
 try simp only [World.size_alloc] at s1
 obtain⟨c1,f1,zw1_1,-⟩:=s1.rules
 go_wp2_with fail
 refine (isrange_any _ _ _).mono ?_
 rintro e w' ⟨rfl,rfl⟩
 go_wp2
 go_ret
 exact⟨rfl,s1.new.below⟩
theorem nu_5z (a b m kh kw sh sw tp lf bt rt:Int) (wa:Option Addr) (lw wc:Nat) (ba:Option Addr) (lb bc:Nat) (sm ss um us z p lo hi:Int) (ch n q:Int) (W:World) (hq:ch*n=q) (hq0:0≤q∧q≤2000000000) (hr:rgB lo hi=true) (hz:vlB z=false) :
  Calls Tryz.prog 85 #[.agg #[U i6 5,U i6 a,U i6 b,U i6 m,U i6 kh,U i6 kw,U i6 sh,U i6 sw,U i6 tp,U i6 lf,U i6 bt,U i6 rt,Sl wa lw wc,Sl ba lb bc,U i6 sm,U i6 ss,U i6 um,U i6 us,U i6 z,U i6 p,U i6 lo,U i6 hi],U i6 ch,U i6 n] W fun e w'=>e=.returned (U i6 85)∧Below W.heap.size W w':=by
 go_enter Tryz.func85,Tryz.ntmps85
 go_wp2_with fail
 refine (uses_5 _).mono ?_
 rintro e w1 ⟨rfl,hb'⟩
 have s1:=(St.start W).new.call hb'
 clear hb'
 try simp only [World.size_setCell] at s1
 try simp only [World.size_alloc] at s1
 obtain⟨c1,f1,zw1_1,-⟩:=s1.rules
 go_wp2_with fail
 refine (isrange_any _ _ _).mono ?_
 rintro e w' ⟨rfl,rfl⟩
 go_wp2_with fail
 refine (isval_any _ _).mono ?_
 rintro e w' ⟨rfl,rfl⟩
 go_wp2
 go_ret
 exact⟨rfl,s1.new.below⟩
theorem nu_5p (a b m kh kw sh sw tp lf bt rt:Int) (wa:Option Addr) (lw wc:Nat) (ba:Option Addr) (lb bc:Nat) (sm ss um us z p lo hi:Int) (ch n q:Int) (W:World) (hq:ch*n=q) (hq0:0≤q∧q≤2000000000) (hr:rgB lo hi=true) (hz:vlB z=true) (hp:vlB p=false) :
  Calls Tryz.prog 85 #[.agg #[U i6 5,U i6 a,U i6 b,U i6 m,U i6 kh,U i6 kw,U i6 sh,U i6 sw,U i6 tp,U i6 lf,U i6 bt,U i6 rt,Sl wa lw wc,Sl ba lb bc,U i6 sm,U i6 ss,U i6 um,U i6 us,U i6 z,U i6 p,U i6 lo,U i6 hi],U i6 ch,U i6 n] W fun e w'=>e=.returned (U i6 85)∧Below W.heap.size W w':=by
 go_enter Tryz.func85,Tryz.ntmps85
 go_wp2_with fail
 refine (uses_5 _).mono ?_
 rintro e w1 ⟨rfl,hb'⟩
 have s1:=(St.start W).new.call hb'
 clear hb'
 try simp only [World.size_setCell] at s1
 try simp only [World.size_alloc] at s1
 obtain⟨c1,f1,zw1_1,-⟩:=s1.rules
 go_wp2_with fail
 refine (isrange_any _ _ _).mono ?_
 rintro e w' ⟨rfl,rfl⟩
 go_wp2_with fail
 refine (isval_any _ _).mono ?_
 rintro e w' ⟨rfl,rfl⟩
 go_wp2_with fail
 refine (isval_any _ _).mono ?_
 rintro e w' ⟨rfl,rfl⟩
 go_wp2
 go_ret
 exact⟨rfl,s1.new.below⟩
theorem nu_5 (a b m kh kw sh sw tp lf bt rt:Int) (wa:Option Addr) (lw wc:Nat) (ba:Option Addr) (lb bc:Nat) (sm ss um us z p lo hi:Int) (ch n q:Int) (W:World) (hq:ch*n=q) (hq0:0≤q∧q≤2000000000) (hr:rgB lo hi=true) (hz:vlB z=true) (hp:vlB p=true) :
  Calls Tryz.prog 85 #[.agg #[U i6 5,U i6 a,U i6 b,U i6 m,U i6 kh,U i6 kw,U i6 sh,U i6 sw,U i6 tp,U i6 lf,U i6 bt,U i6 rt,Sl wa lw wc,Sl ba lb bc,U i6 sm,U i6 ss,U i6 um,U i6 us,U i6 z,U i6 p,U i6 lo,U i6 hi],U i6 ch,U i6 n] W fun e w'=>e=.returned (U i6 0)∧Below W.heap.size W w':=by
 go_enter Tryz.func85,Tryz.ntmps85
 go_wp2_with fail
 refine (uses_5 _).mono ?_
 rintro e w1 ⟨rfl,hb'⟩
 have s1:=(St.start W).new.call hb'
 clear hb'
 try simp only [World.size_setCell] at s1
 try simp only [World.size_alloc] at s1
 obtain⟨c1,f1,zw1_1,-⟩:=s1.rules
 go_wp2_with fail
 refine (isrange_any _ _ _).mono ?_
 rintro e w' ⟨rfl,rfl⟩
 go_wp2_with fail
 refine (isval_any _ _).mono ?_
 rintro e w' ⟨rfl,rfl⟩
 go_wp2_with fail
 refine (isval_any _ _).mono ?_
 rintro e w' ⟨rfl,rfl⟩
 go_wp2
 go_ret
 exact⟨rfl,s1.new.below⟩
theorem nu_6s (a b m kh kw sh sw tp lf bt rt:Int) (wa:Option Addr) (lw wc:Nat) (ba:Option Addr) (lb bc:Nat) (sm ss um us z p lo hi:Int) (ch n q:Int) (W:World) (hq:ch*n=q) (hq0:0≤q∧q≤2000000000) (ha:scB sm ss=false) :
  Calls Tryz.prog 85 #[.agg #[U i6 6,U i6 a,U i6 b,U i6 m,U i6 kh,U i6 kw,U i6 sh,U i6 sw,U i6 tp,U i6 lf,U i6 bt,U i6 rt,Sl wa lw wc,Sl ba lb bc,U i6 sm,U i6 ss,U i6 um,U i6 us,U i6 z,U i6 p,U i6 lo,U i6 hi],U i6 ch,U i6 n] W fun e w'=>e=.returned (U i6 20)∧Below W.heap.size W w':=by
 go_enter Tryz.func85,Tryz.ntmps85
 go_wp2_with fail
 refine (uses_6 _).mono ?_
 rintro e w1 ⟨rfl,hb'⟩
 have s1:=(St.start W).new.call hb'
 clear hb'
 try simp only [World.size_setCell] at s1
 try simp only [World.size_alloc] at s1
 obtain⟨c1,f1,zw1_1,-⟩:=s1.rules
 go_wp2_with fail
 refine (valid_any _ _ _).mono ?_
 rintro e v0 ⟨rfl,hb'⟩
 have t0:=s1.new.call hb'
 clear hb' c1 f1
 try simp only [World.size_setCell] at t0
 try simp only [World.size_alloc] at t0
 obtain⟨c1,f1,zv0_1,c2,f2,zv0_2,-⟩:=t0.rules
 go_wp2
 go_ret
 exact⟨rfl,t0.below⟩
theorem nu_6t (a b m kh kw sh sw tp lf bt rt:Int) (wa:Option Addr) (lw wc:Nat) (ba:Option Addr) (lb bc:Nat) (sm ss um us z p lo hi:Int) (ch n q:Int) (W:World) (hq:ch*n=q) (hq0:0≤q∧q≤2000000000) (ha:scB sm ss=true) (hb:scB um us=false) :
  Calls Tryz.prog 85 #[.agg #[U i6 6,U i6 a,U i6 b,U i6 m,U i6 kh,U i6 kw,U i6 sh,U i6 sw,U i6 tp,U i6 lf,U i6 bt,U i6 rt,Sl wa lw wc,Sl ba lb bc,U i6 sm,U i6 ss,U i6 um,U i6 us,U i6 z,U i6 p,U i6 lo,U i6 hi],U i6 ch,U i6 n] W fun e w'=>e=.returned (U i6 20)∧Below W.heap.size W w':=by
 go_enter Tryz.func85,Tryz.ntmps85
 go_wp2_with fail
 refine (uses_6 _).mono ?_
 rintro e w1 ⟨rfl,hb'⟩
 have s1:=(St.start W).new.call hb'
 clear hb'
 try simp only [World.size_setCell] at s1
 try simp only [World.size_alloc] at s1
 obtain⟨c1,f1,zw1_1,-⟩:=s1.rules
 go_wp2_with fail
 refine (valid_any _ _ _).mono ?_
 rintro e v0 ⟨rfl,hb'⟩
 have t0:=s1.new.call hb'
 clear hb' c1 f1
 try simp only [World.size_setCell] at t0
 try simp only [World.size_alloc] at t0
 obtain⟨c1,f1,zv0_1,c2,f2,zv0_2,-⟩:=t0.rules
 go_wp2_with fail
 refine (valid_any _ _ _).mono ?_
 rintro e v1 ⟨rfl,hb'⟩
 have t1:=t0.call hb'
 clear hb' c1 f1 c2 f2
 try simp only [World.size_setCell] at t1
 try simp only [World.size_alloc] at t1
 obtain⟨c1,f1,zv1_1,c2,f2,zv1_2,-⟩:=t1.rules
 go_wp2
 go_ret
 exact⟨rfl,t1.below⟩
theorem nu_6r (a b m kh kw sh sw tp lf bt rt:Int) (wa:Option Addr) (lw wc:Nat) (ba:Option Addr) (lb bc:Nat) (sm ss um us z p lo hi:Int) (ch n q:Int) (W:World) (hq:ch*n=q) (hq0:0≤q∧q≤2000000000) (ha:scB sm ss=true) (hb:scB um us=true) (hr:rgB lo hi=false) :
  Calls Tryz.prog 85 #[.agg #[U i6 6,U i6 a,U i6 b,U i6 m,U i6 kh,U i6 kw,U i6 sh,U i6 sw,U i6 tp,U i6 lf,U i6 bt,U i6 rt,Sl wa lw wc,Sl ba lb bc,U i6 sm,U i6 ss,U i6 um,U i6 us,U i6 z,U i6 p,U i6 lo,U i6 hi],U i6 ch,U i6 n] W fun e w'=>e=.returned (U i6 85)∧Below W.heap.size W w':=by
 go_enter Tryz.func85,Tryz.ntmps85
 go_wp2_with fail
 refine (uses_6 _).mono ?_
 rintro e w1 ⟨rfl,hb'⟩
 have s1:=(St.start W).new.call hb'
 clear hb'
 try simp only [World.size_setCell] at s1
 try simp only [World.size_alloc] at s1
 obtain⟨c1,f1,zw1_1,-⟩:=s1.rules
 go_wp2_with fail
 refine (valid_any _ _ _).mono ?_
 rintro e v0 ⟨rfl,hb'⟩
 have t0:=s1.new.call hb'
 clear hb' c1 f1
 try simp only [World.size_setCell] at t0
 try simp only [World.size_alloc] at t0
 obtain⟨c1,f1,zv0_1,c2,f2,zv0_2,-⟩:=t0.rules
 go_wp2_with fail
 refine (valid_any _ _ _).mono ?_
 rintro e v1 ⟨rfl,hb'⟩
 have t1:=t0.call hb'
 clear hb' c1 f1 c2 f2
 try simp only [World.size_setCell] at t1
 try simp only [World.size_alloc] at t1
 obtain⟨c1,f1,zv1_1,c2,f2,zv1_2,-⟩:=t1.rules
 go_wp2_with fail
 refine (isrange_any _ _ _).mono ?_
 rintro e w' ⟨rfl,rfl⟩
 go_wp2
 go_ret
 exact⟨rfl,t1.below⟩
theorem nu_6z (a b m kh kw sh sw tp lf bt rt:Int) (wa:Option Addr) (lw wc:Nat) (ba:Option Addr) (lb bc:Nat) (sm ss um us z p lo hi:Int) (ch n q:Int) (W:World) (hq:ch*n=q) (hq0:0≤q∧q≤2000000000) (ha:scB sm ss=true) (hb:scB um us=true) (hr:rgB lo hi=true) (hz:vlB z=false) :
  Calls Tryz.prog 85 #[.agg #[U i6 6,U i6 a,U i6 b,U i6 m,U i6 kh,U i6 kw,U i6 sh,U i6 sw,U i6 tp,U i6 lf,U i6 bt,U i6 rt,Sl wa lw wc,Sl ba lb bc,U i6 sm,U i6 ss,U i6 um,U i6 us,U i6 z,U i6 p,U i6 lo,U i6 hi],U i6 ch,U i6 n] W fun e w'=>e=.returned (U i6 85)∧Below W.heap.size W w':=by
 go_enter Tryz.func85,Tryz.ntmps85
 go_wp2_with fail
 refine (uses_6 _).mono ?_
 rintro e w1 ⟨rfl,hb'⟩
 have s1:=(St.start W).new.call hb'
 clear hb'
 try simp only [World.size_setCell] at s1
 try simp only [World.size_alloc] at s1
 obtain⟨c1,f1,zw1_1,-⟩:=s1.rules
 go_wp2_with fail
 refine (valid_any _ _ _).mono ?_
 rintro e v0 ⟨rfl,hb'⟩
 have t0:=s1.new.call hb'
 clear hb' c1 f1
 try simp only [World.size_setCell] at t0
 try simp only [World.size_alloc] at t0
 obtain⟨c1,f1,zv0_1,c2,f2,zv0_2,-⟩:=t0.rules
 go_wp2_with fail
 refine (valid_any _ _ _).mono ?_
 rintro e v1 ⟨rfl,hb'⟩
 have t1:=t0.call hb'
 clear hb' c1 f1 c2 f2
 try simp only [World.size_setCell] at t1
 try simp only [World.size_alloc] at t1
 obtain⟨c1,f1,zv1_1,c2,f2,zv1_2,-⟩:=t1.rules
 go_wp2_with fail
 refine (isrange_any _ _ _).mono ?_
 rintro e w' ⟨rfl,rfl⟩
 go_wp2_with fail
 refine (isval_any _ _).mono ?_
 rintro e w' ⟨rfl,rfl⟩
 go_wp2
 go_ret
 exact⟨rfl,t1.below⟩
theorem nu_6p (a b m kh kw sh sw tp lf bt rt:Int) (wa:Option Addr) (lw wc:Nat) (ba:Option Addr) (lb bc:Nat) (sm ss um us z p lo hi:Int) (ch n q:Int) (W:World) (hq:ch*n=q) (hq0:0≤q∧q≤2000000000) (ha:scB sm ss=true) (hb:scB um us=true) (hr:rgB lo hi=true) (hz:vlB z=true) (hp:vlB p=false) :
  Calls Tryz.prog 85 #[.agg #[U i6 6,U i6 a,U i6 b,U i6 m,U i6 kh,U i6 kw,U i6 sh,U i6 sw,U i6 tp,U i6 lf,U i6 bt,U i6 rt,Sl wa lw wc,Sl ba lb bc,U i6 sm,U i6 ss,U i6 um,U i6 us,U i6 z,U i6 p,U i6 lo,U i6 hi],U i6 ch,U i6 n] W fun e w'=>e=.returned (U i6 85)∧Below W.heap.size W w':=by
 go_enter Tryz.func85,Tryz.ntmps85
 go_wp2_with fail
 refine (uses_6 _).mono ?_
 rintro e w1 ⟨rfl,hb'⟩
 have s1:=(St.start W).new.call hb'
 clear hb'
 try simp only [World.size_setCell] at s1
 try simp only [World.size_alloc] at s1
 obtain⟨c1,f1,zw1_1,-⟩:=s1.rules
 go_wp2_with fail
 refine (valid_any _ _ _).mono ?_
 rintro e v0 ⟨rfl,hb'⟩
 have t0:=s1.new.call hb'
 clear hb' c1 f1
 try simp only [World.size_setCell] at t0
 try simp only [World.size_alloc] at t0
 obtain⟨c1,f1,zv0_1,c2,f2,zv0_2,-⟩:=t0.rules
 go_wp2_with fail
 refine (valid_any _ _ _).mono ?_
 rintro e v1 ⟨rfl,hb'⟩
 have t1:=t0.call hb'
 clear hb' c1 f1 c2 f2
 try simp only [World.size_setCell] at t1
 try simp only [World.size_alloc] at t1
 obtain⟨c1,f1,zv1_1,c2,f2,zv1_2,-⟩:=t1.rules
 go_wp2_with fail
 refine (isrange_any _ _ _).mono ?_
 rintro e w' ⟨rfl,rfl⟩
 go_wp2_with fail
 refine (isval_any _ _).mono ?_
 rintro e w' ⟨rfl,rfl⟩
 go_wp2_with fail
 refine (isval_any _ _).mono ?_
 rintro e w' ⟨rfl,rfl⟩
 go_wp2
 go_ret
 exact⟨rfl,t1.below⟩
theorem nu_6 (a b m kh kw sh sw tp lf bt rt:Int) (wa:Option Addr) (lw wc:Nat) (ba:Option Addr) (lb bc:Nat) (sm ss um us z p lo hi:Int) (ch n q:Int) (W:World) (hq:ch*n=q) (hq0:0≤q∧q≤2000000000) (ha:scB sm ss=true) (hb:scB um us=true) (hr:rgB lo hi=true) (hz:vlB z=true) (hp:vlB p=true) :
  Calls Tryz.prog 85 #[.agg #[U i6 6,U i6 a,U i6 b,U i6 m,U i6 kh,U i6 kw,U i6 sh,U i6 sw,U i6 tp,U i6 lf,U i6 bt,U i6 rt,Sl wa lw wc,Sl ba lb bc,U i6 sm,U i6 ss,U i6 um,U i6 us,U i6 z,U i6 p,U i6 lo,U i6 hi],U i6 ch,U i6 n] W fun e w'=>e=.returned (U i6 0)∧Below W.heap.size W w':=by
 go_enter Tryz.func85,Tryz.ntmps85
 go_wp2_with fail
 refine (uses_6 _).mono ?_
 rintro e w1 ⟨rfl,hb'⟩
 have s1:=(St.start W).new.call hb'
 clear hb'
 try simp only [World.size_setCell] at s1
 try simp only [World.size_alloc] at s1
 obtain⟨c1,f1,zw1_1,-⟩:=s1.rules
 go_wp2_with fail
 refine (valid_any _ _ _).mono ?_
 rintro e v0 ⟨rfl,hb'⟩
 have t0:=s1.new.call hb'
 clear hb' c1 f1
 try simp only [World.size_setCell] at t0
 try simp only [World.size_alloc] at t0
 obtain⟨c1,f1,zv0_1,c2,f2,zv0_2,-⟩:=t0.rules
 go_wp2_with fail
 refine (valid_any _ _ _).mono ?_
 rintro e v1 ⟨rfl,hb'⟩
 have t1:=t0.call hb'
 clear hb' c1 f1 c2 f2
 try simp only [World.size_setCell] at t1
 try simp only [World.size_alloc] at t1
 obtain⟨c1,f1,zv1_1,c2,f2,zv1_2,-⟩:=t1.rules
 go_wp2_with fail
 refine (isrange_any _ _ _).mono ?_
 rintro e w' ⟨rfl,rfl⟩
 go_wp2_with fail
 refine (isval_any _ _).mono ?_
 rintro e w' ⟨rfl,rfl⟩
 go_wp2_with fail
 refine (isval_any _ _).mono ?_
 rintro e w' ⟨rfl,rfl⟩
 go_wp2
 go_ret
 exact⟨rfl,t1.below⟩
theorem nu_7s (a b m kh kw sh sw tp lf bt rt:Int) (wa:Option Addr) (lw wc:Nat) (ba:Option Addr) (lb bc:Nat) (sm ss um us z p lo hi:Int) (ch n q:Int) (W:World) (hq:ch*n=q) (hq0:0≤q∧q≤2000000000) (ha:scB sm ss=false) :
  Calls Tryz.prog 85 #[.agg #[U i6 7,U i6 a,U i6 b,U i6 m,U i6 kh,U i6 kw,U i6 sh,U i6 sw,U i6 tp,U i6 lf,U i6 bt,U i6 rt,Sl wa lw wc,Sl ba lb bc,U i6 sm,U i6 ss,U i6 um,U i6 us,U i6 z,U i6 p,U i6 lo,U i6 hi],U i6 ch,U i6 n] W fun e w'=>e=.returned (U i6 20)∧Below W.heap.size W w':=by
 go_enter Tryz.func85,Tryz.ntmps85
 go_wp2_with fail
 refine (uses_7 _).mono ?_
 rintro e w1 ⟨rfl,hb'⟩
 have s1:=(St.start W).new.call hb'
 clear hb'
 try simp only [World.size_setCell] at s1
 try simp only [World.size_alloc] at s1
 obtain⟨c1,f1,zw1_1,-⟩:=s1.rules
 go_wp2_with fail
 refine (valid_any _ _ _).mono ?_
 rintro e v0 ⟨rfl,hb'⟩
 have t0:=s1.new.call hb'
 clear hb' c1 f1
 try simp only [World.size_setCell] at t0
 try simp only [World.size_alloc] at t0
 obtain⟨c1,f1,zv0_1,c2,f2,zv0_2,-⟩:=t0.rules
 go_wp2
 go_ret
 exact⟨rfl,t0.below⟩
theorem nu_7r (a b m kh kw sh sw tp lf bt rt:Int) (wa:Option Addr) (lw wc:Nat) (ba:Option Addr) (lb bc:Nat) (sm ss um us z p lo hi:Int) (ch n q:Int) (W:World) (hq:ch*n=q) (hq0:0≤q∧q≤2000000000) (ha:scB sm ss=true) (hr:rgB lo hi=false) :
  Calls Tryz.prog 85 #[.agg #[U i6 7,U i6 a,U i6 b,U i6 m,U i6 kh,U i6 kw,U i6 sh,U i6 sw,U i6 tp,U i6 lf,U i6 bt,U i6 rt,Sl wa lw wc,Sl ba lb bc,U i6 sm,U i6 ss,U i6 um,U i6 us,U i6 z,U i6 p,U i6 lo,U i6 hi],U i6 ch,U i6 n] W fun e w'=>e=.returned (U i6 85)∧Below W.heap.size W w':=by
 go_enter Tryz.func85,Tryz.ntmps85
 go_wp2_with fail
 refine (uses_7 _).mono ?_
 rintro e w1 ⟨rfl,hb'⟩
 have s1:=(St.start W).new.call hb'
 clear hb'
 try simp only [World.size_setCell] at s1
 try simp only [World.size_alloc] at s1
 obtain⟨c1,f1,zw1_1,-⟩:=s1.rules
 go_wp2_with fail
 refine (valid_any _ _ _).mono ?_
 rintro e v0 ⟨rfl,hb'⟩
 have t0:=s1.new.call hb'
 clear hb' c1 f1
 try simp only [World.size_setCell] at t0
 try simp only [World.size_alloc] at t0
 obtain⟨c1,f1,zv0_1,c2,f2,zv0_2,-⟩:=t0.rules
 go_wp2_with fail
 refine (isrange_any _ _ _).mono ?_
 rintro e w' ⟨rfl,rfl⟩
 go_wp2
 go_ret
 exact⟨rfl,t0.below⟩
theorem nu_7z (a b m kh kw sh sw tp lf bt rt:Int) (wa:Option Addr) (lw wc:Nat) (ba:Option Addr) (lb bc:Nat) (sm ss um us z p lo hi:Int) (ch n q:Int) (W:World) (hq:ch*n=q) (hq0:0≤q∧q≤2000000000) (ha:scB sm ss=true) (hr:rgB lo hi=true) (hz:vlB z=false) :
  Calls Tryz.prog 85 #[.agg #[U i6 7,U i6 a,U i6 b,U i6 m,U i6 kh,U i6 kw,U i6 sh,U i6 sw,U i6 tp,U i6 lf,U i6 bt,U i6 rt,Sl wa lw wc,Sl ba lb bc,U i6 sm,U i6 ss,U i6 um,U i6 us,U i6 z,U i6 p,U i6 lo,U i6 hi],U i6 ch,U i6 n] W fun e w'=>e=.returned (U i6 85)∧Below W.heap.size W w':=by
 go_enter Tryz.func85,Tryz.ntmps85
 go_wp2_with fail
 refine (uses_7 _).mono ?_
 rintro e w1 ⟨rfl,hb'⟩
 have s1:=(St.start W).new.call hb'
 clear hb'
 try simp only [World.size_setCell] at s1
 try simp only [World.size_alloc] at s1
 obtain⟨c1,f1,zw1_1,-⟩:=s1.rules
 go_wp2_with fail
 refine (valid_any _ _ _).mono ?_
 rintro e v0 ⟨rfl,hb'⟩
 have t0:=s1.new.call hb'
 clear hb' c1 f1
 try simp only [World.size_setCell] at t0
 try simp only [World.size_alloc] at t0
 obtain⟨c1,f1,zv0_1,c2,f2,zv0_2,-⟩:=t0.rules
 go_wp2_with fail
 refine (isrange_any _ _ _).mono ?_
 rintro e w' ⟨rfl,rfl⟩
 go_wp2_with fail
 refine (isval_any _ _).mono ?_
 rintro e w' ⟨rfl,rfl⟩
 go_wp2
 go_ret
 exact⟨rfl,t0.below⟩
theorem nu_7p (a b m kh kw sh sw tp lf bt rt:Int) (wa:Option Addr) (lw wc:Nat) (ba:Option Addr) (lb bc:Nat) (sm ss um us z p lo hi:Int) (ch n q:Int) (W:World) (hq:ch*n=q) (hq0:0≤q∧q≤2000000000) (ha:scB sm ss=true) (hr:rgB lo hi=true) (hz:vlB z=true) (hp:vlB p=false) :
  Calls Tryz.prog 85 #[.agg #[U i6 7,U i6 a,U i6 b,U i6 m,U i6 kh,U i6 kw,U i6 sh,U i6 sw,U i6 tp,U i6 lf,U i6 bt,U i6 rt,Sl wa lw wc,Sl ba lb bc,U i6 sm,U i6 ss,U i6 um,U i6 us,U i6 z,U i6 p,U i6 lo,U i6 hi],U i6 ch,U i6 n] W fun e w'=>e=.returned (U i6 85)∧Below W.heap.size W w':=by
 go_enter Tryz.func85,Tryz.ntmps85
 go_wp2_with fail
 refine (uses_7 _).mono ?_
 rintro e w1 ⟨rfl,hb'⟩
 have s1:=(St.start W).new.call hb'
 clear hb'
 try simp only [World.size_setCell] at s1
 try simp only [World.size_alloc] at s1
 obtain⟨c1,f1,zw1_1,-⟩:=s1.rules
 go_wp2_with fail
 refine (valid_any _ _ _).mono ?_
 rintro e v0 ⟨rfl,hb'⟩
 have t0:=s1.new.call hb'
 clear hb' c1 f1
 try simp only [World.size_setCell] at t0
 try simp only [World.size_alloc] at t0
 obtain⟨c1,f1,zv0_1,c2,f2,zv0_2,-⟩:=t0.rules
 go_wp2_with fail
 refine (isrange_any _ _ _).mono ?_
 rintro e w' ⟨rfl,rfl⟩
 go_wp2_with fail
 refine (isval_any _ _).mono ?_
 rintro e w' ⟨rfl,rfl⟩
 go_wp2_with fail
 refine (isval_any _ _).mono ?_
 rintro e w' ⟨rfl,rfl⟩
 go_wp2
 go_ret
 exact⟨rfl,t0.below⟩
theorem nu_7 (a b m kh kw sh sw tp lf bt rt:Int) (wa:Option Addr) (lw wc:Nat) (ba:Option Addr) (lb bc:Nat) (sm ss um us z p lo hi:Int) (ch n q:Int) (W:World) (hq:ch*n=q) (hq0:0≤q∧q≤2000000000) (ha:scB sm ss=true) (hr:rgB lo hi=true) (hz:vlB z=true) (hp:vlB p=true) :
  Calls Tryz.prog 85 #[.agg #[U i6 7,U i6 a,U i6 b,U i6 m,U i6 kh,U i6 kw,U i6 sh,U i6 sw,U i6 tp,U i6 lf,U i6 bt,U i6 rt,Sl wa lw wc,Sl ba lb bc,U i6 sm,U i6 ss,U i6 um,U i6 us,U i6 z,U i6 p,U i6 lo,U i6 hi],U i6 ch,U i6 n] W fun e w'=>e=.returned (U i6 0)∧Below W.heap.size W w':=by
 go_enter Tryz.func85,Tryz.ntmps85
 go_wp2_with fail
 refine (uses_7 _).mono ?_
 rintro e w1 ⟨rfl,hb'⟩
 have s1:=(St.start W).new.call hb'
 clear hb'
 try simp only [World.size_setCell] at s1
 try simp only [World.size_alloc] at s1
 obtain⟨c1,f1,zw1_1,-⟩:=s1.rules
 go_wp2_with fail
 refine (valid_any _ _ _).mono ?_
 rintro e v0 ⟨rfl,hb'⟩
 have t0:=s1.new.call hb'
 clear hb' c1 f1
 try simp only [World.size_setCell] at t0
 try simp only [World.size_alloc] at t0
 obtain⟨c1,f1,zv0_1,c2,f2,zv0_2,-⟩:=t0.rules
 go_wp2_with fail
 refine (isrange_any _ _ _).mono ?_
 rintro e w' ⟨rfl,rfl⟩
 go_wp2_with fail
 refine (isval_any _ _).mono ?_
 rintro e w' ⟨rfl,rfl⟩
 go_wp2_with fail
 refine (isval_any _ _).mono ?_
 rintro e w' ⟨rfl,rfl⟩
 go_wp2
 go_ret
 exact⟨rfl,t0.below⟩
theorem nu_8r (a b m kh kw sh sw tp lf bt rt:Int) (wa:Option Addr) (lw wc:Nat) (ba:Option Addr) (lb bc:Nat) (sm ss um us z p lo hi:Int) (ch n q:Int) (W:World) (hq:ch*n=q) (hq0:0≤q∧q≤2000000000) (hr:rgB lo hi=false) :
  Calls Tryz.prog 85 #[.agg #[U i6 8,U i6 a,U i6 b,U i6 m,U i6 kh,U i6 kw,U i6 sh,U i6 sw,U i6 tp,U i6 lf,U i6 bt,U i6 rt,Sl wa lw wc,Sl ba lb bc,U i6 sm,U i6 ss,U i6 um,U i6 us,U i6 z,U i6 p,U i6 lo,U i6 hi],U i6 ch,U i6 n] W fun e w'=>e=.returned (U i6 85)∧Below W.heap.size W w':=by
 go_enter Tryz.func85,Tryz.ntmps85
 go_wp2_with fail
 refine (uses_8 _).mono ?_
 rintro e w1 ⟨rfl,hb'⟩
 have s1:=(St.start W).new.call hb'
 clear hb'
 try simp only [World.size_setCell] at s1
 try simp only [World.size_alloc] at s1
 obtain⟨c1,f1,zw1_1,-⟩:=s1.rules
 go_wp2_with fail
 refine (isrange_any _ _ _).mono ?_
 rintro e w' ⟨rfl,rfl⟩
 go_wp2
 go_ret
 exact⟨rfl,s1.new.below⟩
theorem nu_8z (a b m kh kw sh sw tp lf bt rt:Int) (wa:Option Addr) (lw wc:Nat) (ba:Option Addr) (lb bc:Nat) (sm ss um us z p lo hi:Int) (ch n q:Int) (W:World) (hq:ch*n=q) (hq0:0≤q∧q≤2000000000) (hr:rgB lo hi=true) (hz:vlB z=false) :
  Calls Tryz.prog 85 #[.agg #[U i6 8,U i6 a,U i6 b,U i6 m,U i6 kh,U i6 kw,U i6 sh,U i6 sw,U i6 tp,U i6 lf,U i6 bt,U i6 rt,Sl wa lw wc,Sl ba lb bc,U i6 sm,U i6 ss,U i6 um,U i6 us,U i6 z,U i6 p,U i6 lo,U i6 hi],U i6 ch,U i6 n] W fun e w'=>e=.returned (U i6 85)∧Below W.heap.size W w':=by
 go_enter Tryz.func85,Tryz.ntmps85
 go_wp2_with fail
 refine (uses_8 _).mono ?_
 rintro e w1 ⟨rfl,hb'⟩
 have s1:=(St.start W).new.call hb'
 clear hb'
 try simp only [World.size_setCell] at s1
 try simp only [World.size_alloc] at s1
 obtain⟨c1,f1,zw1_1,-⟩:=s1.rules
 go_wp2_with fail
 refine (isrange_any _ _ _).mono ?_
 rintro e w' ⟨rfl,rfl⟩
 go_wp2_with fail
 refine (isval_any _ _).mono ?_
 rintro e w' ⟨rfl,rfl⟩
 go_wp2
 go_ret
 exact⟨rfl,s1.new.below⟩
theorem nu_8p (a b m kh kw sh sw tp lf bt rt:Int) (wa:Option Addr) (lw wc:Nat) (ba:Option Addr) (lb bc:Nat) (sm ss um us z p lo hi:Int) (ch n q:Int) (W:World) (hq:ch*n=q) (hq0:0≤q∧q≤2000000000) (hr:rgB lo hi=true) (hz:vlB z=true) (hp:vlB p=false) :
  Calls Tryz.prog 85 #[.agg #[U i6 8,U i6 a,U i6 b,U i6 m,U i6 kh,U i6 kw,U i6 sh,U i6 sw,U i6 tp,U i6 lf,U i6 bt,U i6 rt,Sl wa lw wc,Sl ba lb bc,U i6 sm,U i6 ss,U i6 um,U i6 us,U i6 z,U i6 p,U i6 lo,U i6 hi],U i6 ch,U i6 n] W fun e w'=>e=.returned (U i6 85)∧Below W.heap.size W w':=by
 go_enter Tryz.func85,Tryz.ntmps85
 go_wp2_with fail
 refine (uses_8 _).mono ?_
 rintro e w1 ⟨rfl,hb'⟩
 have s1:=(St.start W).new.call hb'
 clear hb'
 try simp only [World.size_setCell] at s1
 try simp only [World.size_alloc] at s1
 obtain⟨c1,f1,zw1_1,-⟩:=s1.rules
 go_wp2_with fail
 refine (isrange_any _ _ _).mono ?_
 rintro e w' ⟨rfl,rfl⟩
 go_wp2_with fail
 refine (isval_any _ _).mono ?_
 rintro e w' ⟨rfl,rfl⟩
 go_wp2_with fail
 refine (isval_any _ _).mono ?_
 rintro e w' ⟨rfl,rfl⟩
 go_wp2
 go_ret
 exact⟨rfl,s1.new.below⟩
theorem nu_8 (a b m kh kw sh sw tp lf bt rt:Int) (wa:Option Addr) (lw wc:Nat) (ba:Option Addr) (lb bc:Nat) (sm ss um us z p lo hi:Int) (ch n q:Int) (W:World) (hq:ch*n=q) (hq0:0≤q∧q≤2000000000) (hr:rgB lo hi=true) (hz:vlB z=true) (hp:vlB p=true) :
  Calls Tryz.prog 85 #[.agg #[U i6 8,U i6 a,U i6 b,U i6 m,U i6 kh,U i6 kw,U i6 sh,U i6 sw,U i6 tp,U i6 lf,U i6 bt,U i6 rt,Sl wa lw wc,Sl ba lb bc,U i6 sm,U i6 ss,U i6 um,U i6 us,U i6 z,U i6 p,U i6 lo,U i6 hi],U i6 ch,U i6 n] W fun e w'=>e=.returned (U i6 0)∧Below W.heap.size W w':=by
 go_enter Tryz.func85,Tryz.ntmps85
 go_wp2_with fail
 refine (uses_8 _).mono ?_
 rintro e w1 ⟨rfl,hb'⟩
 have s1:=(St.start W).new.call hb'
 clear hb'
 try simp only [World.size_setCell] at s1
 try simp only [World.size_alloc] at s1
 obtain⟨c1,f1,zw1_1,-⟩:=s1.rules
 go_wp2_with fail
 refine (isrange_any _ _ _).mono ?_
 rintro e w' ⟨rfl,rfl⟩
 go_wp2_with fail
 refine (isval_any _ _).mono ?_
 rintro e w' ⟨rfl,rfl⟩
 go_wp2_with fail
 refine (isval_any _ _).mono ?_
 rintro e w' ⟨rfl,rfl⟩
 go_wp2
 go_ret
 exact⟨rfl,s1.new.below⟩
theorem nuE_0 {k ch n:Int} {lw lb:Nat} {sm ss um us z p lo hi:Int} (h:nuE k ch n lw lb sm ss um us z p lo hi=0):leB k ch n lw lb=true∧ssB k sm ss um us=true∧rzB z p lo hi=true:=by
 unfold nuE at h
 cases h1:leB k ch n lw lb with
 | false=>rw [h1,if_pos rfl] at h;cases h
 | true =>
  cases h2:ssB k sm ss um us with
  | false=>rw [h1,h2,if_neg (by decide),if_pos rfl] at h;cases h
  | true =>
   cases h3:rzB z p lo hi with
   | false=>rw [h1,h2,h3,if_neg (by decide),if_neg (by decide),if_pos rfl] at h;cases h
   | true=>exact⟨rfl,rfl,rfl⟩
theorem numbers_any (k a b m kh kw sh sw tp lf bt rt:Int) (wa:Option Addr) (lw wc:Nat) (ba:Option Addr) (lb bc:Nat) (sm ss um us z p lo hi:Int) (ch n:Int) (W:World) (hk:1≤k∧k≤8) (hq0:0≤ch*n∧ch*n≤2000000000) :
  Calls Tryz.prog 85 #[.agg #[U i6 k,U i6 a,U i6 b,U i6 m,U i6 kh,U i6 kw,U i6 sh,U i6 sw,U i6 tp,U i6 lf,U i6 bt,U i6 rt,Sl wa lw wc,Sl ba lb bc,U i6 sm,U i6 ss,U i6 um,U i6 us,U i6 z,U i6 p,U i6 lo,U i6 hi],U i6 ch,U i6 n] W fun e w'=>e=.returned (U i6 (nuE k ch n lw lb sm ss um us z p lo hi))∧Below W.heap.size W w':=by
 rcases eight hk with rfl | rfl | rfl | rfl | rfl | rfl | rfl | rfl
 ·by_cases hl:(lw:Int)=ch*n
  rotate_left
  ·rw [nu_le (leB_1 hl (by decide))];exact nu_1l a b m kh kw sh sw tp lf bt rt wa lw wc ba lb bc sm ss um us z p lo hi ch n _ W rfl hq0 (by simpa using hl)
  by_cases hl2:(lb:Int)=ch
  rotate_left
  ·rw [nu_le (leB_2 hl2 (by decide))];exact nu_1m a b m kh kw sh sw tp lf bt rt wa lw wc ba lb bc sm ss um us z p lo hi ch n _ W rfl hq0 hl (by simpa using hl2)
  have H1:leB 1 ch n lw lb=true:=decide_eq_true fun _=>⟨hl,hl2⟩
  cases ha:scB sm ss with
  | false=>rw [nu_ss H1 (by unfold ssB;rw [ha];rfl)];exact nu_1s a b m kh kw sh sw tp lf bt rt wa lw wc ba lb bc sm ss um us z p lo hi ch n _ W rfl hq0 hl hl2 ha
  | true =>
  have H2:ssB 1 sm ss um us=true:=by unfold ssB;rw [ha];rfl
  cases hr:rgB lo hi with
  | false=>rw [nu_rz H1 H2 (by unfold rzB;simp [hr])];exact nu_1r a b m kh kw sh sw tp lf bt rt wa lw wc ba lb bc sm ss um us z p lo hi ch n _ W rfl hq0 hl hl2 ha hr
  | true =>
  cases hz:vlB z with
  | false=>rw [nu_rz H1 H2 (by unfold rzB;simp [hz])];exact nu_1z a b m kh kw sh sw tp lf bt rt wa lw wc ba lb bc sm ss um us z p lo hi ch n _ W rfl hq0 hl hl2 ha hr hz
  | true =>
  cases hp:vlB p with
  | false=>rw [nu_rz H1 H2 (by unfold rzB;simp [hp])];exact nu_1p a b m kh kw sh sw tp lf bt rt wa lw wc ba lb bc sm ss um us z p lo hi ch n _ W rfl hq0 hl hl2 ha hr hz hp
  | true =>
  rw [nu_ok H1 H2 (by unfold rzB;simp [hr,hz,hp])];exact nu_1 a b m kh kw sh sw tp lf bt rt wa lw wc ba lb bc sm ss um us z p lo hi ch n _ W rfl hq0 hl hl2 ha hr hz hp
 ·by_cases hl:(lw:Int)=ch*n
  rotate_left
  ·rw [nu_le (leB_1 hl (by decide))];exact nu_2l a b m kh kw sh sw tp lf bt rt wa lw wc ba lb bc sm ss um us z p lo hi ch n _ W rfl hq0 (by simpa using hl)
  by_cases hl2:(lb:Int)=ch
  rotate_left
  ·rw [nu_le (leB_2 hl2 (by decide))];exact nu_2m a b m kh kw sh sw tp lf bt rt wa lw wc ba lb bc sm ss um us z p lo hi ch n _ W rfl hq0 hl (by simpa using hl2)
  have H1:leB 2 ch n lw lb=true:=decide_eq_true fun _=>⟨hl,hl2⟩
  cases ha:scB sm ss with
  | false=>rw [nu_ss H1 (by unfold ssB;rw [ha];rfl)];exact nu_2s a b m kh kw sh sw tp lf bt rt wa lw wc ba lb bc sm ss um us z p lo hi ch n _ W rfl hq0 hl hl2 ha
  | true =>
  have H2:ssB 2 sm ss um us=true:=by unfold ssB;rw [ha];rfl
  cases hr:rgB lo hi with
  | false=>rw [nu_rz H1 H2 (by unfold rzB;simp [hr])];exact nu_2r a b m kh kw sh sw tp lf bt rt wa lw wc ba lb bc sm ss um us z p lo hi ch n _ W rfl hq0 hl hl2 ha hr
  | true =>
  cases hz:vlB z with
  | false=>rw [nu_rz H1 H2 (by unfold rzB;simp [hz])];exact nu_2z a b m kh kw sh sw tp lf bt rt wa lw wc ba lb bc sm ss um us z p lo hi ch n _ W rfl hq0 hl hl2 ha hr hz
  | true =>
  cases hp:vlB p with
  | false=>rw [nu_rz H1 H2 (by unfold rzB;simp [hp])];exact nu_2p a b m kh kw sh sw tp lf bt rt wa lw wc ba lb bc sm ss um us z p lo hi ch n _ W rfl hq0 hl hl2 ha hr hz hp
  | true =>
  rw [nu_ok H1 H2 (by unfold rzB;simp [hr,hz,hp])];exact nu_2 a b m kh kw sh sw tp lf bt rt wa lw wc ba lb bc sm ss um us z p lo hi ch n _ W rfl hq0 hl hl2 ha hr hz hp
 ·by_cases hl:(lw:Int)=ch*n
  rotate_left
  ·rw [nu_le (leB_1 hl (by decide))];exact nu_3l a b m kh kw sh sw tp lf bt rt wa lw wc ba lb bc sm ss um us z p lo hi ch n _ W rfl hq0 (by simpa using hl)
  by_cases hl2:(lb:Int)=ch
  rotate_left
  ·rw [nu_le (leB_2 hl2 (by decide))];exact nu_3m a b m kh kw sh sw tp lf bt rt wa lw wc ba lb bc sm ss um us z p lo hi ch n _ W rfl hq0 hl (by simpa using hl2)
  have H1:leB 3 ch n lw lb=true:=decide_eq_true fun _=>⟨hl,hl2⟩
  cases ha:scB sm ss with
  | false=>rw [nu_ss H1 (by unfold ssB;rw [ha];rfl)];exact nu_3s a b m kh kw sh sw tp lf bt rt wa lw wc ba lb bc sm ss um us z p lo hi ch n _ W rfl hq0 hl hl2 ha
  | true =>
  have H2:ssB 3 sm ss um us=true:=by unfold ssB;rw [ha];rfl
  cases hr:rgB lo hi with
  | false=>rw [nu_rz H1 H2 (by unfold rzB;simp [hr])];exact nu_3r a b m kh kw sh sw tp lf bt rt wa lw wc ba lb bc sm ss um us z p lo hi ch n _ W rfl hq0 hl hl2 ha hr
  | true =>
  cases hz:vlB z with
  | false=>rw [nu_rz H1 H2 (by unfold rzB;simp [hz])];exact nu_3z a b m kh kw sh sw tp lf bt rt wa lw wc ba lb bc sm ss um us z p lo hi ch n _ W rfl hq0 hl hl2 ha hr hz
  | true =>
  cases hp:vlB p with
  | false=>rw [nu_rz H1 H2 (by unfold rzB;simp [hp])];exact nu_3p a b m kh kw sh sw tp lf bt rt wa lw wc ba lb bc sm ss um us z p lo hi ch n _ W rfl hq0 hl hl2 ha hr hz hp
  | true =>
  rw [nu_ok H1 H2 (by unfold rzB;simp [hr,hz,hp])];exact nu_3 a b m kh kw sh sw tp lf bt rt wa lw wc ba lb bc sm ss um us z p lo hi ch n _ W rfl hq0 hl hl2 ha hr hz hp
 ·have H1:leB 4 ch n lw lb=true:=decide_eq_true fun h=>absurd h (by decide)
  have H2:ssB 4 sm ss um us=true:=by unfold ssB;rfl
  cases hr:rgB lo hi with
  | false=>rw [nu_rz H1 H2 (by unfold rzB;simp [hr])];exact nu_4r a b m kh kw sh sw tp lf bt rt wa lw wc ba lb bc sm ss um us z p lo hi ch n _ W rfl hq0 hr
  | true =>
  cases hz:vlB z with
  | false=>rw [nu_rz H1 H2 (by unfold rzB;simp [hz])];exact nu_4z a b m kh kw sh sw tp lf bt rt wa lw wc ba lb bc sm ss um us z p lo hi ch n _ W rfl hq0 hr hz
  | true =>
  cases hp:vlB p with
  | false=>rw [nu_rz H1 H2 (by unfold rzB;simp [hp])];exact nu_4p a b m kh kw sh sw tp lf bt rt wa lw wc ba lb bc sm ss um us z p lo hi ch n _ W rfl hq0 hr hz hp
  | true =>
  rw [nu_ok H1 H2 (by unfold rzB;simp [hr,hz,hp])];exact nu_4 a b m kh kw sh sw tp lf bt rt wa lw wc ba lb bc sm ss um us z p lo hi ch n _ W rfl hq0 hr hz hp
 ·have H1:leB 5 ch n lw lb=true:=decide_eq_true fun h=>absurd h (by decide)
  have H2:ssB 5 sm ss um us=true:=by unfold ssB;rfl
  cases hr:rgB lo hi with
  | false=>rw [nu_rz H1 H2 (by unfold rzB;simp [hr])];exact nu_5r a b m kh kw sh sw tp lf bt rt wa lw wc ba lb bc sm ss um us z p lo hi ch n _ W rfl hq0 hr
  | true =>
  cases hz:vlB z with
  | false=>rw [nu_rz H1 H2 (by unfold rzB;simp [hz])];exact nu_5z a b m kh kw sh sw tp lf bt rt wa lw wc ba lb bc sm ss um us z p lo hi ch n _ W rfl hq0 hr hz
  | true =>
  cases hp:vlB p with
  | false=>rw [nu_rz H1 H2 (by unfold rzB;simp [hp])];exact nu_5p a b m kh kw sh sw tp lf bt rt wa lw wc ba lb bc sm ss um us z p lo hi ch n _ W rfl hq0 hr hz hp
  | true =>
  rw [nu_ok H1 H2 (by unfold rzB;simp [hr,hz,hp])];exact nu_5 a b m kh kw sh sw tp lf bt rt wa lw wc ba lb bc sm ss um us z p lo hi ch n _ W rfl hq0 hr hz hp
 ·have H1:leB 6 ch n lw lb=true:=decide_eq_true fun h=>absurd h (by decide)
  cases ha:scB sm ss with
  | false=>rw [nu_ss H1 (by unfold ssB;rw [ha];rfl)];exact nu_6s a b m kh kw sh sw tp lf bt rt wa lw wc ba lb bc sm ss um us z p lo hi ch n _ W rfl hq0 ha
  | true =>
  cases hb:scB um us with
  | false=>rw [nu_ss H1 (by unfold ssB;rw [ha,hb];rfl)];exact nu_6t a b m kh kw sh sw tp lf bt rt wa lw wc ba lb bc sm ss um us z p lo hi ch n _ W rfl hq0 ha hb
  | true =>
  have H2:ssB 6 sm ss um us=true:=by unfold ssB;rw [ha,hb];rfl
  cases hr:rgB lo hi with
  | false=>rw [nu_rz H1 H2 (by unfold rzB;simp [hr])];exact nu_6r a b m kh kw sh sw tp lf bt rt wa lw wc ba lb bc sm ss um us z p lo hi ch n _ W rfl hq0 ha hb hr
  | true =>
  cases hz:vlB z with
  | false=>rw [nu_rz H1 H2 (by unfold rzB;simp [hz])];exact nu_6z a b m kh kw sh sw tp lf bt rt wa lw wc ba lb bc sm ss um us z p lo hi ch n _ W rfl hq0 ha hb hr hz
  | true =>
  cases hp:vlB p with
  | false=>rw [nu_rz H1 H2 (by unfold rzB;simp [hp])];exact nu_6p a b m kh kw sh sw tp lf bt rt wa lw wc ba lb bc sm ss um us z p lo hi ch n _ W rfl hq0 ha hb hr hz hp
  | true =>
  rw [nu_ok H1 H2 (by unfold rzB;simp [hr,hz,hp])];exact nu_6 a b m kh kw sh sw tp lf bt rt wa lw wc ba lb bc sm ss um us z p lo hi ch n _ W rfl hq0 ha hb hr hz hp
 ·have H1:leB 7 ch n lw lb=true:=decide_eq_true fun h=>absurd h (by decide)
  cases ha:scB sm ss with
  | false=>rw [nu_ss H1 (by unfold ssB;rw [ha];rfl)];exact nu_7s a b m kh kw sh sw tp lf bt rt wa lw wc ba lb bc sm ss um us z p lo hi ch n _ W rfl hq0 ha
  | true =>
  have H2:ssB 7 sm ss um us=true:=by unfold ssB;rw [ha];rfl
  cases hr:rgB lo hi with
  | false=>rw [nu_rz H1 H2 (by unfold rzB;simp [hr])];exact nu_7r a b m kh kw sh sw tp lf bt rt wa lw wc ba lb bc sm ss um us z p lo hi ch n _ W rfl hq0 ha hr
  | true =>
  cases hz:vlB z with
  | false=>rw [nu_rz H1 H2 (by unfold rzB;simp [hz])];exact nu_7z a b m kh kw sh sw tp lf bt rt wa lw wc ba lb bc sm ss um us z p lo hi ch n _ W rfl hq0 ha hr hz
  | true =>
  cases hp:vlB p with
  | false=>rw [nu_rz H1 H2 (by unfold rzB;simp [hp])];exact nu_7p a b m kh kw sh sw tp lf bt rt wa lw wc ba lb bc sm ss um us z p lo hi ch n _ W rfl hq0 ha hr hz hp
  | true =>
  rw [nu_ok H1 H2 (by unfold rzB;simp [hr,hz,hp])];exact nu_7 a b m kh kw sh sw tp lf bt rt wa lw wc ba lb bc sm ss um us z p lo hi ch n _ W rfl hq0 ha hr hz hp
 ·have H1:leB 8 ch n lw lb=true:=decide_eq_true fun h=>absurd h (by decide)
  have H2:ssB 8 sm ss um us=true:=by unfold ssB;rfl
  cases hr:rgB lo hi with
  | false=>rw [nu_rz H1 H2 (by unfold rzB;simp [hr])];exact nu_8r a b m kh kw sh sw tp lf bt rt wa lw wc ba lb bc sm ss um us z p lo hi ch n _ W rfl hq0 hr
  | true =>
  cases hz:vlB z with
  | false=>rw [nu_rz H1 H2 (by unfold rzB;simp [hz])];exact nu_8z a b m kh kw sh sw tp lf bt rt wa lw wc ba lb bc sm ss um us z p lo hi ch n _ W rfl hq0 hr hz
  | true =>
  cases hp:vlB p with
  | false=>rw [nu_rz H1 H2 (by unfold rzB;simp [hp])];exact nu_8p a b m kh kw sh sw tp lf bt rt wa lw wc ba lb bc sm ss um us z p lo hi ch n _ W rfl hq0 hr hz hp
  | true =>
  rw [nu_ok H1 H2 (by unfold rzB;simp [hr,hz,hp])];exact nu_8 a b m kh kw sh sw tp lf bt rt wa lw wc ba lb bc sm ss um us z p lo hi ch n _ W rfl hq0 hr hz hp
end Go.Proofs.YtccoanknofhmaaaGreat
