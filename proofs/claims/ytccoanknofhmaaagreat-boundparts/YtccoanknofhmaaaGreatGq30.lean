/- The walks of BoundTotals, BoundRuns, BoundParts. BoundTotals, BoundRuns, BoundParts. -/
import Derived.Test.YtccoanknofhmaaaGreatGq29
namespace Go.Proofs.YtccoanknofhmaaaGreat
open Go.Value renaming int → U, slice → Sl
open Go.IntKind renaming i64 → i6
set_option maxRecDepth 100000
set_option maxHeartbeats 16000000
open Go.ChangeShapes Go.WideShapes Go.ChangeAt Go.RowKit
set_option linter.unusedVariables false
theorem totals_e (h w c lo hi:Int) (oa:Option Addr) (on oc:Nat) (ot op ch slo shi dp at':Int) (ad:Option Addr) (n cap:Nat) (W:World) (k a b m kh kw sh sw tp lf bt rt:Int) (wa:Option Addr) (lw wc:Nat) (ba:Option Addr) (lb bc:Nat) (sm ss um us z p l2 h2 x0 y0 z0 H V C:Int) (E:Int) (hE:E≠0) (HT:Hid (∀ W',Below W.heap.size W W'→Calls Tryz.prog 6 #[.agg #[U i6 h,U i6 w,U i6 c,U i6 lo,U i6 hi,Sl oa on oc,U i6 ot],U i6 op,U i6 ch,.agg #[U i6 slo,U i6 shi]] W' fun e w'=>e=.returned (.tuple #[.agg #[U i6 0,U i6 0],U i6 E])∧Below W'.heap.size W' w')) (HP:Hid (∀ W',Below W.heap.size W W'→Calls Tryz.prog 7 #[.agg #[U i6 h,U i6 w,U i6 c,U i6 lo,U i6 hi,Sl oa on oc,U i6 ot],U i6 op,U i6 ch,.agg #[U i6 slo,U i6 shi]] W' fun e w'=>e=.returned (.tuple #[.agg #[U i6 0,U i6 0],U i6 E])∧Below W'.heap.size W' w')) (HF:Hid (∀ W',Below W.heap.size W W'→Calls Tryz.prog 8 #[.agg #[U i6 h,U i6 w,U i6 c,U i6 lo,U i6 hi,Sl oa on oc,U i6 ot],U i6 op,U i6 ch,.agg #[U i6 slo,U i6 shi]] W' fun e w'=>e=.returned (.tuple #[.agg #[U i6 k,U i6 a,U i6 b,U i6 m,U i6 kh,U i6 kw,U i6 sh,U i6 sw,U i6 tp,U i6 lf,U i6 bt,U i6 rt,Sl wa lw wc,Sl ba lb bc,U i6 sm,U i6 ss,U i6 um,U i6 us,U i6 z,U i6 p,U i6 l2,U i6 h2,U i6 x0,U i6 y0,U i6 z0,U i6 H,U i6 V,U i6 C],U i6 E])∧Below W'.heap.size W' w')) :
  Calls Tryz.prog 3 #[.agg #[U i6 h,U i6 w,U i6 c,U i6 lo,U i6 hi,Sl oa on oc,U i6 ot,U i6 op,U i6 ch,U i6 slo,U i6 shi,U i6 dp,U i6 at',Sl ad n cap]] W fun e w'=>e=.returned (.bool true)∧Below W.heap.size W w':=by
 have s0:=(St.start W).new (c:=#[U i6 h,U i6 w,U i6 c,U i6 lo,U i6 hi,Sl oa on oc,U i6 ot,U i6 op,U i6 ch,U i6 slo,U i6 shi,U i6 dp,U i6 at',Sl ad n cap]) (t:=31)
 have hE':(E == 0)=false:=by simp [hE]
 have q1:=beqS 28 rfl 0 0 0 0 true (by decide)
 obtain⟨c1,f1,z1,-⟩:=s0.rules
 go_enter Tryz.func3,Tryz.ntmps3
 go_wp2_with fail
 refine Calls.mono (HT.out _ s0.below) ?_
 rintro e w1 ⟨rfl,hb⟩
 have s1:=(s0.call hb).new (c:=#[U i6 0,U i6 0]) (t:=28)
 clear hb s0 HT c1 f1 z1
 obtain⟨c1,f1,z1,c2,f2,z2,-⟩:=s1.rules
 go_wp2_with fail
 refine Calls.mono (HP.out _ s1.below) ?_
 rintro e w2 ⟨rfl,hb⟩
 have s2:=(s1.call hb).new (c:=#[U i6 0,U i6 0]) (t:=28)
 clear hb s1 HP c1 f1 z1 c2 f2 z2
 obtain⟨c1,f1,z1,c2,f2,z2,c3,f3,z3,-⟩:=s2.rules
 go_wp2_with fail
 refine Calls.mono (HF.out _ s2.below) ?_
 rintro e w3 ⟨rfl,hb⟩
 have s3:=(s2.call hb).new (c:=#[U i6 k,U i6 a,U i6 b,U i6 m,U i6 kh,U i6 kw,U i6 sh,U i6 sw,U i6 tp,U i6 lf,U i6 bt,U i6 rt,Sl wa lw wc,Sl ba lb bc,U i6 sm,U i6 ss,U i6 um,U i6 us,U i6 z,U i6 p,U i6 l2,U i6 h2,U i6 x0,U i6 y0,U i6 z0,U i6 H,U i6 V,U i6 C]) (t:=44)
 clear hb s2 HF c1 f1 z1 c2 f2 z2 c3 f3 z3
 go_wp2_with (refine wpList_st_new rfl 44 (.tmp 7) (.tmp 43) rfl w3 _ #[U i6 k,U i6 a,U i6 b,U i6 m,U i6 kh,U i6 kw,U i6 sh,U i6 sw,U i6 tp,U i6 lf,U i6 bt,U i6 rt,Sl wa lw wc,Sl ba lb bc,U i6 sm,U i6 ss,U i6 um,U i6 us,U i6 z,U i6 p,U i6 l2,U i6 h2,U i6 x0,U i6 y0,U i6 z0,U i6 H,U i6 V,U i6 C] rfl rfl (by kernel_rfl) rfl (by simp [Value.oneCell']) ?_)
 refine (fixed13_any _).mono ?_
 rintro e w4 ⟨rfl,hb⟩
 have s4:=s3.call hb
 clear hb s3
 obtain⟨-,-,-,c2,f2,z2,c3,f3,z3,-⟩:=s4.rules
 go_wp2
 go_ret
 exact⟨rfl,s4.below⟩
theorem totals_w (h w c lo hi:Int) (oa:Option Addr) (on oc:Nat) (ot op ch slo shi dp at':Int) (ad:Option Addr) (n cap:Nat) (W:World) (k a b m kh kw sh sw tp lf bt rt:Int) (wa:Option Addr) (lw wc:Nat) (ba:Option Addr) (lb bc:Nat) (sm ss um us z p l2 h2 x0 y0 z0 H V C:Int) (T1 T2 Q1 Q2:Int) (HT:Hid (∀ W',Below W.heap.size W W'→Calls Tryz.prog 6 #[.agg #[U i6 h,U i6 w,U i6 c,U i6 lo,U i6 hi,Sl oa on oc,U i6 ot],U i6 op,U i6 ch,.agg #[U i6 slo,U i6 shi]] W' fun e w'=>e=.returned (.tuple #[.agg #[U i6 T1,U i6 T2],U i6 0])∧Below W'.heap.size W' w')) (HP:Hid (∀ W',Below W.heap.size W W'→Calls Tryz.prog 7 #[.agg #[U i6 h,U i6 w,U i6 c,U i6 lo,U i6 hi,Sl oa on oc,U i6 ot],U i6 op,U i6 ch,.agg #[U i6 slo,U i6 shi]] W' fun e w'=>e=.returned (.tuple #[.agg #[U i6 Q1,U i6 Q2],U i6 0])∧Below W'.heap.size W' w')) (HF:Hid (∀ W',Below W.heap.size W W'→Calls Tryz.prog 8 #[.agg #[U i6 h,U i6 w,U i6 c,U i6 lo,U i6 hi,Sl oa on oc,U i6 ot],U i6 op,U i6 ch,.agg #[U i6 slo,U i6 shi]] W' fun e w'=>e=.returned (.tuple #[.agg #[U i6 k,U i6 a,U i6 b,U i6 m,U i6 kh,U i6 kw,U i6 sh,U i6 sw,U i6 tp,U i6 lf,U i6 bt,U i6 rt,Sl wa lw wc,Sl ba lb bc,U i6 sm,U i6 ss,U i6 um,U i6 us,U i6 z,U i6 p,U i6 l2,U i6 h2,U i6 x0,U i6 y0,U i6 z0,U i6 H,U i6 V,U i6 C],U i6 0])∧Below W'.heap.size W' w')) (HD:Hid (∀ W',Below W.heap.size W W'→Calls Tryz.prog 10 #[.agg #[U i6 k,U i6 a,U i6 b,U i6 m,U i6 kh,U i6 kw,U i6 sh,U i6 sw,U i6 tp,U i6 lf,U i6 bt,U i6 rt,Sl wa lw wc,Sl ba lb bc,U i6 sm,U i6 ss,U i6 um,U i6 us,U i6 z,U i6 p,U i6 l2,U i6 h2,U i6 x0,U i6 y0,U i6 z0,U i6 H,U i6 V,U i6 C],U i6 ch,.agg #[U i6 slo,U i6 shi]] W' fun e w'=>e=.returned (.agg #[U i6 T1,U i6 T2])∧Below W'.heap.size W' w')) (HE:Hid (∀ W',Below W.heap.size W W'→Calls Tryz.prog 11 #[.agg #[U i6 k,U i6 a,U i6 b,U i6 m,U i6 kh,U i6 kw,U i6 sh,U i6 sw,U i6 tp,U i6 lf,U i6 bt,U i6 rt,Sl wa lw wc,Sl ba lb bc,U i6 sm,U i6 ss,U i6 um,U i6 us,U i6 z,U i6 p,U i6 l2,U i6 h2,U i6 x0,U i6 y0,U i6 z0,U i6 H,U i6 V,U i6 C],U i6 ch,.agg #[U i6 slo,U i6 shi]] W' fun e w'=>e=.returned (.agg #[U i6 Q1,U i6 Q2])∧Below W'.heap.size W' w')) :
  Calls Tryz.prog 3 #[.agg #[U i6 h,U i6 w,U i6 c,U i6 lo,U i6 hi,Sl oa on oc,U i6 ot,U i6 op,U i6 ch,U i6 slo,U i6 shi,U i6 dp,U i6 at',Sl ad n cap]] W fun e w'=>e=.returned (.bool true)∧Below W.heap.size W w':=by
 have q1:=beqS 28 rfl T1 T2 T1 T2 true (by simp)
 have q2:=beqS 28 rfl Q1 Q2 Q1 Q2 true (by simp)
 have s0:=(St.start W).new (c:=#[U i6 h,U i6 w,U i6 c,U i6 lo,U i6 hi,Sl oa on oc,U i6 ot,U i6 op,U i6 ch,U i6 slo,U i6 shi,U i6 dp,U i6 at',Sl ad n cap]) (t:=31)
 obtain⟨c1,f1,z1,-⟩:=s0.rules
 go_enter Tryz.func3,Tryz.ntmps3
 go_wp2_with fail
 refine Calls.mono (HT.out _ s0.below) ?_
 rintro e w1 ⟨rfl,hb⟩
 have s1:=(s0.call hb).new (c:=#[U i6 T1,U i6 T2]) (t:=28)
 clear hb s0 HT c1 f1 z1
 obtain⟨c1,f1,z1,c2,f2,z2,-⟩:=s1.rules
 go_wp2_with fail
 refine Calls.mono (HP.out _ s1.below) ?_
 rintro e w2 ⟨rfl,hb⟩
 have s2:=(s1.call hb).new (c:=#[U i6 Q1,U i6 Q2]) (t:=28)
 clear hb s1 HP c1 f1 z1 c2 f2 z2
 obtain⟨c1,f1,z1,c2,f2,z2,c3,f3,z3,-⟩:=s2.rules
 go_wp2_with fail
 refine Calls.mono (HF.out _ s2.below) ?_
 rintro e w9 ⟨rfl,hb⟩
 have s9:=(s2.call hb).new (c:=#[U i6 k,U i6 a,U i6 b,U i6 m,U i6 kh,U i6 kw,U i6 sh,U i6 sw,U i6 tp,U i6 lf,U i6 bt,U i6 rt,Sl wa lw wc,Sl ba lb bc,U i6 sm,U i6 ss,U i6 um,U i6 us,U i6 z,U i6 p,U i6 l2,U i6 h2,U i6 x0,U i6 y0,U i6 z0,U i6 H,U i6 V,U i6 C]) (t:=44)
 clear hb s2 HF c1 f1 z1 c2 f2 z2 c3 f3 z3
 go_wp2_with (refine wpList_st_new rfl 44 (.tmp 7) (.tmp 43) rfl w9 _ #[U i6 k,U i6 a,U i6 b,U i6 m,U i6 kh,U i6 kw,U i6 sh,U i6 sw,U i6 tp,U i6 lf,U i6 bt,U i6 rt,Sl wa lw wc,Sl ba lb bc,U i6 sm,U i6 ss,U i6 um,U i6 us,U i6 z,U i6 p,U i6 l2,U i6 h2,U i6 x0,U i6 y0,U i6 z0,U i6 H,U i6 V,U i6 C] rfl rfl (by kernel_rfl) rfl (by simp [Value.oneCell']) ?_)
 refine (fixed13_any _).mono ?_
 rintro e w10 ⟨rfl,hb⟩
 have s10:=s9.call hb
 clear hb s9
 go_wp2_with fail
 obtain⟨c1,g1,c2,g2,c3,g3,c4,g4,-⟩:=rulesQ_st s10
 have hne:=Nonempty.intro (Wd.mk _ s10)
 refine region_held s10 (by kernel_rfl) (by kernel_rfl) ?_
 repeat (first
  | (go_big_quiet_want;refine quiet_ld 44 (.tmp 7) rfl _ rfl 44 _ _ (Wd.hp List.mem_cons_self) Tryz.underlying44 rfl (by kernel_rfl) rfl ?_;go_simp;go_big_quiet_on)
  | (go_big_quiet_step ((go_at_call 10;exact held_of (HD.out _ (Wd.h _).below))))
  | (go_big_quiet_step ((go_at_call 11;exact held_of (HE.out _ (Wd.h _).below)))))
 refine wpQuiet_nil ?_
 intro _ hw'
 obtain⟨nq,rfl⟩:=hw'
 have s12:=nq.h
 obtain⟨w12,hw12⟩:∃ w,nq.w=w:=⟨_,rfl⟩
 rw [hw12] at s12 ⊢
 clear c1 g1 c2 g2 c3 g3 c4 g4 hne s10 hw12
 go_wp2
 go_ret
 exact⟨rfl,s12.below⟩
theorem runs_e (h w c lo hi:Int) (oa:Option Addr) (on oc:Nat) (ot op ch slo shi dp at':Int) (ad:Option Addr) (n cap:Nat) (W:World) (k a b m kh kw sh sw tp lf bt rt:Int) (wa:Option Addr) (lw wc:Nat) (ba:Option Addr) (lb bc:Nat) (sm ss um us z p l2 h2 x0 y0 z0 H V C:Int) (E:Int) (hE:E≠0) (HT:Hid (∀ W',Below W.heap.size W W'→Calls Tryz.prog 12 #[.agg #[U i6 h,U i6 w,U i6 c,U i6 lo,U i6 hi,Sl oa on oc,U i6 ot],U i6 op,U i6 ch,.agg #[U i6 slo,U i6 shi]] W' fun e w'=>e=.returned (.tuple #[.agg #[U i6 0,U i6 0],U i6 E])∧Below W'.heap.size W' w')) (HF:Hid (∀ W',Below W.heap.size W W'→Calls Tryz.prog 8 #[.agg #[U i6 h,U i6 w,U i6 c,U i6 lo,U i6 hi,Sl oa on oc,U i6 ot],U i6 op,U i6 ch,.agg #[U i6 slo,U i6 shi]] W' fun e w'=>e=.returned (.tuple #[.agg #[U i6 k,U i6 a,U i6 b,U i6 m,U i6 kh,U i6 kw,U i6 sh,U i6 sw,U i6 tp,U i6 lf,U i6 bt,U i6 rt,Sl wa lw wc,Sl ba lb bc,U i6 sm,U i6 ss,U i6 um,U i6 us,U i6 z,U i6 p,U i6 l2,U i6 h2,U i6 x0,U i6 y0,U i6 z0,U i6 H,U i6 V,U i6 C],U i6 E])∧Below W'.heap.size W' w')) :
  Calls Tryz.prog 4 #[.agg #[U i6 h,U i6 w,U i6 c,U i6 lo,U i6 hi,Sl oa on oc,U i6 ot,U i6 op,U i6 ch,U i6 slo,U i6 shi,U i6 dp,U i6 at',Sl ad n cap]] W fun e w'=>e=.returned (.bool true)∧Below W.heap.size W w':=by
 have hE':(E == 0)=false:=by simp [hE]
 have q1:=beqS 28 rfl 0 0 0 0 true (by decide)
 have s0:=(St.start W).new (c:=#[U i6 h,U i6 w,U i6 c,U i6 lo,U i6 hi,Sl oa on oc,U i6 ot,U i6 op,U i6 ch,U i6 slo,U i6 shi,U i6 dp,U i6 at',Sl ad n cap]) (t:=31)
 obtain⟨c1,f1,z1,-⟩:=s0.rules
 go_enter Tryz.func4,Tryz.ntmps4
 go_wp2_with fail
 refine Calls.mono (HT.out _ s0.below) ?_
 rintro e w1 ⟨rfl,hb⟩
 have s1:=(s0.call hb).new (c:=#[U i6 0,U i6 0]) (t:=28)
 clear hb s0 HT c1 f1 z1
 obtain⟨c1,f1,z1,c2,f2,z2,-⟩:=s1.rules
 go_wp2_with fail
 refine Calls.mono (HF.out _ s1.below) ?_
 rintro e w9 ⟨rfl,hb⟩
 have s9:=(s1.call hb).new (c:=#[U i6 k,U i6 a,U i6 b,U i6 m,U i6 kh,U i6 kw,U i6 sh,U i6 sw,U i6 tp,U i6 lf,U i6 bt,U i6 rt,Sl wa lw wc,Sl ba lb bc,U i6 sm,U i6 ss,U i6 um,U i6 us,U i6 z,U i6 p,U i6 l2,U i6 h2,U i6 x0,U i6 y0,U i6 z0,U i6 H,U i6 V,U i6 C]) (t:=44)
 clear hb s1 HF c1 f1 z1 c2 f2 z2
 go_wp2_with (refine wpList_st_new rfl 44 (.tmp 5) (.tmp 29) rfl w9 _ #[U i6 k,U i6 a,U i6 b,U i6 m,U i6 kh,U i6 kw,U i6 sh,U i6 sw,U i6 tp,U i6 lf,U i6 bt,U i6 rt,Sl wa lw wc,Sl ba lb bc,U i6 sm,U i6 ss,U i6 um,U i6 us,U i6 z,U i6 p,U i6 l2,U i6 h2,U i6 x0,U i6 y0,U i6 z0,U i6 H,U i6 V,U i6 C] rfl rfl (by kernel_rfl) rfl (by simp [Value.oneCell']) ?_)
 refine (fixed13_any _).mono ?_
 rintro e w10 ⟨rfl,hb⟩
 have s10:=s9.call hb
 clear hb s9
 obtain⟨-,-,-,c2,f2,z2,-⟩:=s10.rules
 go_wp2
 go_ret
 exact⟨rfl,s10.below⟩
theorem runs_w (h w c lo hi:Int) (oa:Option Addr) (on oc:Nat) (ot op ch slo shi dp at':Int) (ad:Option Addr) (n cap:Nat) (W:World) (k a b m kh kw sh sw tp lf bt rt:Int) (wa:Option Addr) (lw wc:Nat) (ba:Option Addr) (lb bc:Nat) (sm ss um us z p l2 h2 x0 y0 z0 H V C:Int) (T1 T2:Int) (HT:Hid (∀ W',Below W.heap.size W W'→Calls Tryz.prog 12 #[.agg #[U i6 h,U i6 w,U i6 c,U i6 lo,U i6 hi,Sl oa on oc,U i6 ot],U i6 op,U i6 ch,.agg #[U i6 slo,U i6 shi]] W' fun e w'=>e=.returned (.tuple #[.agg #[U i6 T1,U i6 T2],U i6 0])∧Below W'.heap.size W' w')) (HF:Hid (∀ W',Below W.heap.size W W'→Calls Tryz.prog 8 #[.agg #[U i6 h,U i6 w,U i6 c,U i6 lo,U i6 hi,Sl oa on oc,U i6 ot],U i6 op,U i6 ch,.agg #[U i6 slo,U i6 shi]] W' fun e w'=>e=.returned (.tuple #[.agg #[U i6 k,U i6 a,U i6 b,U i6 m,U i6 kh,U i6 kw,U i6 sh,U i6 sw,U i6 tp,U i6 lf,U i6 bt,U i6 rt,Sl wa lw wc,Sl ba lb bc,U i6 sm,U i6 ss,U i6 um,U i6 us,U i6 z,U i6 p,U i6 l2,U i6 h2,U i6 x0,U i6 y0,U i6 z0,U i6 H,U i6 V,U i6 C],U i6 0])∧Below W'.heap.size W' w')) (HD:Hid (∀ W',Below W.heap.size W W'→Calls Tryz.prog 13 #[.agg #[U i6 k,U i6 a,U i6 b,U i6 m,U i6 kh,U i6 kw,U i6 sh,U i6 sw,U i6 tp,U i6 lf,U i6 bt,U i6 rt,Sl wa lw wc,Sl ba lb bc,U i6 sm,U i6 ss,U i6 um,U i6 us,U i6 z,U i6 p,U i6 l2,U i6 h2,U i6 x0,U i6 y0,U i6 z0,U i6 H,U i6 V,U i6 C],U i6 ch,.agg #[U i6 slo,U i6 shi]] W' fun e w'=>e=.returned (.agg #[U i6 T1,U i6 T2])∧Below W'.heap.size W' w')) :
  Calls Tryz.prog 4 #[.agg #[U i6 h,U i6 w,U i6 c,U i6 lo,U i6 hi,Sl oa on oc,U i6 ot,U i6 op,U i6 ch,U i6 slo,U i6 shi,U i6 dp,U i6 at',Sl ad n cap]] W fun e w'=>e=.returned (.bool true)∧Below W.heap.size W w':=by
 have q1:=beqS 28 rfl T1 T2 T1 T2 true (by simp)
 have s0:=(St.start W).new (c:=#[U i6 h,U i6 w,U i6 c,U i6 lo,U i6 hi,Sl oa on oc,U i6 ot,U i6 op,U i6 ch,U i6 slo,U i6 shi,U i6 dp,U i6 at',Sl ad n cap]) (t:=31)
 obtain⟨c1,f1,z1,-⟩:=s0.rules
 go_enter Tryz.func4,Tryz.ntmps4
 go_wp2_with fail
 refine Calls.mono (HT.out _ s0.below) ?_
 rintro e w1 ⟨rfl,hb⟩
 have s1:=(s0.call hb).new (c:=#[U i6 T1,U i6 T2]) (t:=28)
 clear hb s0 HT c1 f1 z1
 obtain⟨c1,f1,z1,c2,f2,z2,-⟩:=s1.rules
 go_wp2_with fail
 refine Calls.mono (HF.out _ s1.below) ?_
 rintro e w9 ⟨rfl,hb⟩
 have s9:=(s1.call hb).new (c:=#[U i6 k,U i6 a,U i6 b,U i6 m,U i6 kh,U i6 kw,U i6 sh,U i6 sw,U i6 tp,U i6 lf,U i6 bt,U i6 rt,Sl wa lw wc,Sl ba lb bc,U i6 sm,U i6 ss,U i6 um,U i6 us,U i6 z,U i6 p,U i6 l2,U i6 h2,U i6 x0,U i6 y0,U i6 z0,U i6 H,U i6 V,U i6 C]) (t:=44)
 clear hb s1 HF c1 f1 z1 c2 f2 z2
 go_wp2_with (refine wpList_st_new rfl 44 (.tmp 5) (.tmp 29) rfl w9 _ #[U i6 k,U i6 a,U i6 b,U i6 m,U i6 kh,U i6 kw,U i6 sh,U i6 sw,U i6 tp,U i6 lf,U i6 bt,U i6 rt,Sl wa lw wc,Sl ba lb bc,U i6 sm,U i6 ss,U i6 um,U i6 us,U i6 z,U i6 p,U i6 l2,U i6 h2,U i6 x0,U i6 y0,U i6 z0,U i6 H,U i6 V,U i6 C] rfl rfl (by kernel_rfl) rfl (by simp [Value.oneCell']) ?_)
 refine (fixed13_any _).mono ?_
 rintro e w10 ⟨rfl,hb⟩
 have s10:=s9.call hb
 clear hb s9
 go_wp2_with fail
 obtain⟨c1,g1,c2,g2,c3,g3,-⟩:=rulesQ_st s10
 have hne:=Nonempty.intro (Wd.mk _ s10)
 refine region_held s10 (by kernel_rfl) (by kernel_rfl) ?_
 repeat (first
  | (go_big_quiet_want;refine quiet_ld 44 (.tmp 5) rfl _ rfl 44 _ _ (Wd.hp List.mem_cons_self) Tryz.underlying44 rfl (by kernel_rfl) rfl ?_;go_simp;go_big_quiet_on)
  | (go_big_quiet_step ((go_at_call 13;exact held_of (HD.out _ (Wd.h _).below)))))
 refine wpQuiet_nil ?_
 intro _ hw'
 obtain⟨nq,rfl⟩:=hw'
 have s11:=nq.h
 obtain⟨w11,hw11⟩:∃ w,nq.w=w:=⟨_,rfl⟩
 rw [hw11] at s11 ⊢
 clear c1 g1 c2 g2 c3 g3 hne s10 hw11
 go_wp2
 go_ret
 exact⟨rfl,s11.below⟩
theorem parts_e (h w c lo hi:Int) (oa:Option Addr) (on oc:Nat) (ot op ch slo shi dp at':Int) (ad:Option Addr) (n cap:Nat) (W:World) (k a b m kh kw sh sw tp lf bt rt:Int) (wa:Option Addr) (lw wc:Nat) (ba:Option Addr) (lb bc:Nat) (sm ss um us z p l2 h2 x0 y0 z0 H V C:Int) (E:Int) (hE:E≠0) (HT:Hid (∀ W',Below W.heap.size W W'→Calls Tryz.prog 14 #[.agg #[U i6 h,U i6 w,U i6 c,U i6 lo,U i6 hi,Sl oa on oc,U i6 ot],U i6 op,U i6 ch,.agg #[U i6 slo,U i6 shi],U i6 dp] W' fun e w'=>e=.returned (.tuple #[.agg #[U i6 0,U i6 0],U i6 E])∧Below W'.heap.size W' w')) (HF:Hid (∀ W',Below W.heap.size W W'→Calls Tryz.prog 8 #[.agg #[U i6 h,U i6 w,U i6 c,U i6 lo,U i6 hi,Sl oa on oc,U i6 ot],U i6 op,U i6 ch,.agg #[U i6 slo,U i6 shi]] W' fun e w'=>e=.returned (.tuple #[.agg #[U i6 k,U i6 a,U i6 b,U i6 m,U i6 kh,U i6 kw,U i6 sh,U i6 sw,U i6 tp,U i6 lf,U i6 bt,U i6 rt,Sl wa lw wc,Sl ba lb bc,U i6 sm,U i6 ss,U i6 um,U i6 us,U i6 z,U i6 p,U i6 l2,U i6 h2,U i6 x0,U i6 y0,U i6 z0,U i6 H,U i6 V,U i6 C],U i6 E])∧Below W'.heap.size W' w')) :
  Calls Tryz.prog 5 #[.agg #[U i6 h,U i6 w,U i6 c,U i6 lo,U i6 hi,Sl oa on oc,U i6 ot,U i6 op,U i6 ch,U i6 slo,U i6 shi,U i6 dp,U i6 at',Sl ad n cap]] W fun e w'=>e=.returned (.bool true)∧Below W.heap.size W w':=by
 have hE':(E == 0)=false:=by simp [hE]
 have q1:=beqS 28 rfl 0 0 0 0 true (by decide)
 have s0:=(St.start W).new (c:=#[U i6 h,U i6 w,U i6 c,U i6 lo,U i6 hi,Sl oa on oc,U i6 ot,U i6 op,U i6 ch,U i6 slo,U i6 shi,U i6 dp,U i6 at',Sl ad n cap]) (t:=31)
 obtain⟨c1,f1,z1,-⟩:=s0.rules
 go_enter Tryz.func5,Tryz.ntmps5
 go_wp2_with fail
 refine Calls.mono (HT.out _ s0.below) ?_
 rintro e w1 ⟨rfl,hb⟩
 have s1:=(s0.call hb).new (c:=#[U i6 0,U i6 0]) (t:=28)
 clear hb s0 HT c1 f1 z1
 obtain⟨c1,f1,z1,c2,f2,z2,-⟩:=s1.rules
 go_wp2_with fail
 refine Calls.mono (HF.out _ s1.below) ?_
 rintro e w9 ⟨rfl,hb⟩
 have s9:=(s1.call hb).new (c:=#[U i6 k,U i6 a,U i6 b,U i6 m,U i6 kh,U i6 kw,U i6 sh,U i6 sw,U i6 tp,U i6 lf,U i6 bt,U i6 rt,Sl wa lw wc,Sl ba lb bc,U i6 sm,U i6 ss,U i6 um,U i6 us,U i6 z,U i6 p,U i6 l2,U i6 h2,U i6 x0,U i6 y0,U i6 z0,U i6 H,U i6 V,U i6 C]) (t:=44)
 clear hb s1 HF c1 f1 z1 c2 f2 z2
 go_wp2_with (refine wpList_st_new rfl 44 (.tmp 5) (.tmp 31) rfl w9 _ #[U i6 k,U i6 a,U i6 b,U i6 m,U i6 kh,U i6 kw,U i6 sh,U i6 sw,U i6 tp,U i6 lf,U i6 bt,U i6 rt,Sl wa lw wc,Sl ba lb bc,U i6 sm,U i6 ss,U i6 um,U i6 us,U i6 z,U i6 p,U i6 l2,U i6 h2,U i6 x0,U i6 y0,U i6 z0,U i6 H,U i6 V,U i6 C] rfl rfl (by kernel_rfl) rfl (by simp [Value.oneCell']) ?_)
 obtain⟨c1,g1,c2,g2,c3,g3,-⟩:=rulesQ_st s9
 have hne:=Nonempty.intro (Wd.mk _ s9)
 refine region_held s9 (by kernel_rfl) (by kernel_rfl) ?_
 repeat (first
  | (go_big_quiet_want;refine quiet_ld 44 (.tmp 5) rfl _ rfl 44 _ _ (Wd.hp List.mem_cons_self) Tryz.underlying44 rfl (by kernel_rfl) rfl ?_;go_simp;go_big_quiet_on)
  | (go_big_quiet_step (fail)))
 refine wpQuiet_nil ?_
 intro _ hw'
 obtain⟨nq,rfl⟩:=hw'
 have s8:=nq.h
 obtain⟨w8,hw8⟩:∃ w,nq.w=w:=⟨_,rfl⟩
 rw [hw8] at s8 ⊢
 clear c1 g1 c2 g2 c3 g3 hne s9 hw8
 go_wp2_with fail
 refine (fixed13_any _).mono ?_
 rintro e w10 ⟨rfl,hb⟩
 have s10:=s8.call hb
 clear hb s8
 obtain⟨-,-,-,c2,f2,z2,-⟩:=s10.rules
 go_wp2
 go_ret
 exact⟨rfl,s10.below⟩
theorem parts_0 (h w c lo hi:Int) (oa:Option Addr) (on oc:Nat) (ot op ch slo shi dp at':Int) (ad:Option Addr) (n cap:Nat) (W:World) (k a b m kh kw sh sw tp lf bt rt:Int) (wa:Option Addr) (lw wc:Nat) (ba:Option Addr) (lb bc:Nat) (sm ss um us z p l2 h2 x0 y0 z0 H V C:Int) (hd:dp<1) (HT:Hid (∀ W',Below W.heap.size W W'→Calls Tryz.prog 14 #[.agg #[U i6 h,U i6 w,U i6 c,U i6 lo,U i6 hi,Sl oa on oc,U i6 ot],U i6 op,U i6 ch,.agg #[U i6 slo,U i6 shi],U i6 dp] W' fun e w'=>e=.returned (.tuple #[.agg #[U i6 0,U i6 0],U i6 151])∧Below W'.heap.size W' w')) (HF:Hid (∀ W',Below W.heap.size W W'→Calls Tryz.prog 8 #[.agg #[U i6 h,U i6 w,U i6 c,U i6 lo,U i6 hi,Sl oa on oc,U i6 ot],U i6 op,U i6 ch,.agg #[U i6 slo,U i6 shi]] W' fun e w'=>e=.returned (.tuple #[.agg #[U i6 k,U i6 a,U i6 b,U i6 m,U i6 kh,U i6 kw,U i6 sh,U i6 sw,U i6 tp,U i6 lf,U i6 bt,U i6 rt,Sl wa lw wc,Sl ba lb bc,U i6 sm,U i6 ss,U i6 um,U i6 us,U i6 z,U i6 p,U i6 l2,U i6 h2,U i6 x0,U i6 y0,U i6 z0,U i6 H,U i6 V,U i6 C],U i6 0])∧Below W'.heap.size W' w')) :
  Calls Tryz.prog 5 #[.agg #[U i6 h,U i6 w,U i6 c,U i6 lo,U i6 hi,Sl oa on oc,U i6 ot,U i6 op,U i6 ch,U i6 slo,U i6 shi,U i6 dp,U i6 at',Sl ad n cap]] W fun e w'=>e=.returned (.bool true)∧Below W.heap.size W w':=by
 have q1:=beqS 28 rfl 0 0 0 0 true (by decide)
 have s0:=(St.start W).new (c:=#[U i6 h,U i6 w,U i6 c,U i6 lo,U i6 hi,Sl oa on oc,U i6 ot,U i6 op,U i6 ch,U i6 slo,U i6 shi,U i6 dp,U i6 at',Sl ad n cap]) (t:=31)
 obtain⟨c1,f1,z1,-⟩:=s0.rules
 go_enter Tryz.func5,Tryz.ntmps5
 go_wp2_with fail
 refine Calls.mono (HT.out _ s0.below) ?_
 rintro e w1 ⟨rfl,hb⟩
 have s1:=(s0.call hb).new (c:=#[U i6 0,U i6 0]) (t:=28)
 clear hb s0 HT c1 f1 z1
 obtain⟨c1,f1,z1,c2,f2,z2,-⟩:=s1.rules
 go_wp2_with fail
 refine Calls.mono (HF.out _ s1.below) ?_
 rintro e w9 ⟨rfl,hb⟩
 have s9:=(s1.call hb).new (c:=#[U i6 k,U i6 a,U i6 b,U i6 m,U i6 kh,U i6 kw,U i6 sh,U i6 sw,U i6 tp,U i6 lf,U i6 bt,U i6 rt,Sl wa lw wc,Sl ba lb bc,U i6 sm,U i6 ss,U i6 um,U i6 us,U i6 z,U i6 p,U i6 l2,U i6 h2,U i6 x0,U i6 y0,U i6 z0,U i6 H,U i6 V,U i6 C]) (t:=44)
 clear hb s1 HF c1 f1 z1 c2 f2 z2
 have hdt:decide (dp<1)=true:=decide_eq_true hd
 go_wp2_with (refine wpList_st_new rfl 44 (.tmp 5) (.tmp 31) rfl w9 _ #[U i6 k,U i6 a,U i6 b,U i6 m,U i6 kh,U i6 kw,U i6 sh,U i6 sw,U i6 tp,U i6 lf,U i6 bt,U i6 rt,Sl wa lw wc,Sl ba lb bc,U i6 sm,U i6 ss,U i6 um,U i6 us,U i6 z,U i6 p,U i6 l2,U i6 h2,U i6 x0,U i6 y0,U i6 z0,U i6 H,U i6 V,U i6 C] rfl rfl (by kernel_rfl) rfl (by simp [Value.oneCell']) ?_)
 obtain⟨c1,g1,c2,g2,c3,g3,-⟩:=rulesQ_st s9
 have hne:=Nonempty.intro (Wd.mk _ s9)
 refine region_held s9 (by kernel_rfl) (by kernel_rfl) ?_
 repeat (first
  | (go_big_quiet_want;refine quiet_ld 44 (.tmp 5) rfl _ rfl 44 _ _ (Wd.hp List.mem_cons_self) Tryz.underlying44 rfl (by kernel_rfl) rfl ?_;go_simp;go_big_quiet_on)
  | (go_big_quiet_step (fail)))
 refine wpQuiet_nil ?_
 intro _ hw'
 obtain⟨nq,rfl⟩:=hw'
 have s8:=nq.h
 obtain⟨w8,hw8⟩:∃ w,nq.w=w:=⟨_,rfl⟩
 rw [hw8] at s8 ⊢
 clear c1 g1 c2 g2 c3 g3 hne s9 hw8
 go_wp2_with fail
 refine (fixed13_any _).mono ?_
 rintro e w10 ⟨rfl,hb⟩
 have s10:=s8.call hb
 clear hb s8
 obtain⟨-,-,-,c2,f2,z2,-⟩:=s10.rules
 go_wp2
 go_ret
 exact⟨rfl,s10.below⟩
theorem parts_n (h w c lo hi:Int) (oa:Option Addr) (on oc:Nat) (ot op ch slo shi dp at':Int) (ad:Option Addr) (n cap:Nat) (W:World) (k a b m kh kw sh sw tp lf bt rt:Int) (wa:Option Addr) (lw wc:Nat) (ba:Option Addr) (lb bc:Nat) (sm ss um us z p l2 h2 x0 y0 z0 H V C:Int) (N:Int) (hd:¬ dp<1) (hn:N<dp) (HT:Hid (∀ W',Below W.heap.size W W'→Calls Tryz.prog 14 #[.agg #[U i6 h,U i6 w,U i6 c,U i6 lo,U i6 hi,Sl oa on oc,U i6 ot],U i6 op,U i6 ch,.agg #[U i6 slo,U i6 shi],U i6 dp] W' fun e w'=>e=.returned (.tuple #[.agg #[U i6 0,U i6 0],U i6 151])∧Below W'.heap.size W' w')) (HF:Hid (∀ W',Below W.heap.size W W'→Calls Tryz.prog 8 #[.agg #[U i6 h,U i6 w,U i6 c,U i6 lo,U i6 hi,Sl oa on oc,U i6 ot],U i6 op,U i6 ch,.agg #[U i6 slo,U i6 shi]] W' fun e w'=>e=.returned (.tuple #[.agg #[U i6 k,U i6 a,U i6 b,U i6 m,U i6 kh,U i6 kw,U i6 sh,U i6 sw,U i6 tp,U i6 lf,U i6 bt,U i6 rt,Sl wa lw wc,Sl ba lb bc,U i6 sm,U i6 ss,U i6 um,U i6 us,U i6 z,U i6 p,U i6 l2,U i6 h2,U i6 x0,U i6 y0,U i6 z0,U i6 H,U i6 V,U i6 C],U i6 0])∧Below W'.heap.size W' w')) (HN:Hid (∀ W',Below W.heap.size W W'→Calls Tryz.prog 15 #[.agg #[U i6 k,U i6 a,U i6 b,U i6 m,U i6 kh,U i6 kw,U i6 sh,U i6 sw,U i6 tp,U i6 lf,U i6 bt,U i6 rt,Sl wa lw wc,Sl ba lb bc,U i6 sm,U i6 ss,U i6 um,U i6 us,U i6 z,U i6 p,U i6 l2,U i6 h2,U i6 x0,U i6 y0,U i6 z0,U i6 H,U i6 V,U i6 C]] W' fun e w'=>e=.returned (U i6 N)∧Below W'.heap.size W' w')) :
  Calls Tryz.prog 5 #[.agg #[U i6 h,U i6 w,U i6 c,U i6 lo,U i6 hi,Sl oa on oc,U i6 ot,U i6 op,U i6 ch,U i6 slo,U i6 shi,U i6 dp,U i6 at',Sl ad n cap]] W fun e w'=>e=.returned (.bool true)∧Below W.heap.size W w':=by
 have hdn:decide (dp<1)=false:=decide_eq_false hd
 have hnt:decide (N<dp)=true:=decide_eq_true hn
 have q1:=beqS 28 rfl 0 0 0 0 true (by decide)
 have s0:=(St.start W).new (c:=#[U i6 h,U i6 w,U i6 c,U i6 lo,U i6 hi,Sl oa on oc,U i6 ot,U i6 op,U i6 ch,U i6 slo,U i6 shi,U i6 dp,U i6 at',Sl ad n cap]) (t:=31)
 obtain⟨c1,f1,z1,-⟩:=s0.rules
 go_enter Tryz.func5,Tryz.ntmps5
 go_wp2_with fail
 refine Calls.mono (HT.out _ s0.below) ?_
 rintro e w1 ⟨rfl,hb⟩
 have s1:=(s0.call hb).new (c:=#[U i6 0,U i6 0]) (t:=28)
 clear hb s0 HT c1 f1 z1
 obtain⟨c1,f1,z1,c2,f2,z2,-⟩:=s1.rules
 go_wp2_with fail
 refine Calls.mono (HF.out _ s1.below) ?_
 rintro e w9 ⟨rfl,hb⟩
 have s9:=(s1.call hb).new (c:=#[U i6 k,U i6 a,U i6 b,U i6 m,U i6 kh,U i6 kw,U i6 sh,U i6 sw,U i6 tp,U i6 lf,U i6 bt,U i6 rt,Sl wa lw wc,Sl ba lb bc,U i6 sm,U i6 ss,U i6 um,U i6 us,U i6 z,U i6 p,U i6 l2,U i6 h2,U i6 x0,U i6 y0,U i6 z0,U i6 H,U i6 V,U i6 C]) (t:=44)
 clear hb s1 HF c1 f1 z1 c2 f2 z2
 go_wp2_with (refine wpList_st_new rfl 44 (.tmp 5) (.tmp 31) rfl w9 _ #[U i6 k,U i6 a,U i6 b,U i6 m,U i6 kh,U i6 kw,U i6 sh,U i6 sw,U i6 tp,U i6 lf,U i6 bt,U i6 rt,Sl wa lw wc,Sl ba lb bc,U i6 sm,U i6 ss,U i6 um,U i6 us,U i6 z,U i6 p,U i6 l2,U i6 h2,U i6 x0,U i6 y0,U i6 z0,U i6 H,U i6 V,U i6 C] rfl rfl (by kernel_rfl) rfl (by simp [Value.oneCell']) ?_)
 obtain⟨c1,g1,c2,g2,c3,g3,-⟩:=rulesQ_st s9
 have hne:=Nonempty.intro (Wd.mk _ s9)
 refine region_held s9 (by kernel_rfl) (by kernel_rfl) ?_
 repeat (first
  | (go_big_quiet_want;refine quiet_ld 44 (.tmp 5) rfl _ rfl 44 _ _ (Wd.hp List.mem_cons_self) Tryz.underlying44 rfl (by kernel_rfl) rfl ?_;go_simp;go_big_quiet_on)
  | (go_big_quiet_step ((go_at_call 15;exact held_of (HN.out _ (Wd.h _).below)))))
 refine wpQuiet_nil ?_
 intro _ hw'
 obtain⟨nq,rfl⟩:=hw'
 have s8:=nq.h
 obtain⟨w8,hw8⟩:∃ w,nq.w=w:=⟨_,rfl⟩
 rw [hw8] at s8 ⊢
 clear c1 g1 c2 g2 c3 g3 hne s9 hw8
 go_wp2_with fail
 refine (fixed13_any _).mono ?_
 rintro e w10 ⟨rfl,hb⟩
 have s10:=s8.call hb
 clear hb s8
 obtain⟨-,-,-,c2,f2,z2,-⟩:=s10.rules
 go_wp2
 go_ret
 exact⟨rfl,s10.below⟩
theorem parts_w (h w c lo hi:Int) (oa:Option Addr) (on oc:Nat) (ot op ch slo shi dp at':Int) (ad:Option Addr) (n cap:Nat) (W:World) (k a b m kh kw sh sw tp lf bt rt:Int) (wa:Option Addr) (lw wc:Nat) (ba:Option Addr) (lb bc:Nat) (sm ss um us z p l2 h2 x0 y0 z0 H V C:Int) (T1 T2 N:Int) (hd:¬ dp<1) (hn:¬ N<dp) (HT:Hid (∀ W',Below W.heap.size W W'→Calls Tryz.prog 14 #[.agg #[U i6 h,U i6 w,U i6 c,U i6 lo,U i6 hi,Sl oa on oc,U i6 ot],U i6 op,U i6 ch,.agg #[U i6 slo,U i6 shi],U i6 dp] W' fun e w'=>e=.returned (.tuple #[.agg #[U i6 T1,U i6 T2],U i6 0])∧Below W'.heap.size W' w')) (HF:Hid (∀ W',Below W.heap.size W W'→Calls Tryz.prog 8 #[.agg #[U i6 h,U i6 w,U i6 c,U i6 lo,U i6 hi,Sl oa on oc,U i6 ot],U i6 op,U i6 ch,.agg #[U i6 slo,U i6 shi]] W' fun e w'=>e=.returned (.tuple #[.agg #[U i6 k,U i6 a,U i6 b,U i6 m,U i6 kh,U i6 kw,U i6 sh,U i6 sw,U i6 tp,U i6 lf,U i6 bt,U i6 rt,Sl wa lw wc,Sl ba lb bc,U i6 sm,U i6 ss,U i6 um,U i6 us,U i6 z,U i6 p,U i6 l2,U i6 h2,U i6 x0,U i6 y0,U i6 z0,U i6 H,U i6 V,U i6 C],U i6 0])∧Below W'.heap.size W' w')) (HN:Hid (∀ W',Below W.heap.size W W'→Calls Tryz.prog 15 #[.agg #[U i6 k,U i6 a,U i6 b,U i6 m,U i6 kh,U i6 kw,U i6 sh,U i6 sw,U i6 tp,U i6 lf,U i6 bt,U i6 rt,Sl wa lw wc,Sl ba lb bc,U i6 sm,U i6 ss,U i6 um,U i6 us,U i6 z,U i6 p,U i6 l2,U i6 h2,U i6 x0,U i6 y0,U i6 z0,U i6 H,U i6 V,U i6 C]] W' fun e w'=>e=.returned (U i6 N)∧Below W'.heap.size W' w')) (HD:Hid (∀ W',Below W.heap.size W W'→Calls Tryz.prog 16 #[.agg #[U i6 k,U i6 a,U i6 b,U i6 m,U i6 kh,U i6 kw,U i6 sh,U i6 sw,U i6 tp,U i6 lf,U i6 bt,U i6 rt,Sl wa lw wc,Sl ba lb bc,U i6 sm,U i6 ss,U i6 um,U i6 us,U i6 z,U i6 p,U i6 l2,U i6 h2,U i6 x0,U i6 y0,U i6 z0,U i6 H,U i6 V,U i6 C],U i6 ch,.agg #[U i6 slo,U i6 shi],U i6 dp] W' fun e w'=>e=.returned (.agg #[U i6 T1,U i6 T2])∧Below W'.heap.size W' w')) :
  Calls Tryz.prog 5 #[.agg #[U i6 h,U i6 w,U i6 c,U i6 lo,U i6 hi,Sl oa on oc,U i6 ot,U i6 op,U i6 ch,U i6 slo,U i6 shi,U i6 dp,U i6 at',Sl ad n cap]] W fun e w'=>e=.returned (.bool true)∧Below W.heap.size W w':=by
 have hdn:decide (dp<1)=false:=decide_eq_false hd
 have hnf:decide (N<dp)=false:=decide_eq_false hn
 have q1:=beqS 28 rfl T1 T2 T1 T2 true (by simp)
 have s0:=(St.start W).new (c:=#[U i6 h,U i6 w,U i6 c,U i6 lo,U i6 hi,Sl oa on oc,U i6 ot,U i6 op,U i6 ch,U i6 slo,U i6 shi,U i6 dp,U i6 at',Sl ad n cap]) (t:=31)
 obtain⟨c1,f1,z1,-⟩:=s0.rules
 go_enter Tryz.func5,Tryz.ntmps5
 go_wp2_with fail
 refine Calls.mono (HT.out _ s0.below) ?_
 rintro e w1 ⟨rfl,hb⟩
 have s1:=(s0.call hb).new (c:=#[U i6 T1,U i6 T2]) (t:=28)
 clear hb s0 HT c1 f1 z1
 obtain⟨c1,f1,z1,c2,f2,z2,-⟩:=s1.rules
 go_wp2_with fail
 refine Calls.mono (HF.out _ s1.below) ?_
 rintro e w9 ⟨rfl,hb⟩
 have s9:=(s1.call hb).new (c:=#[U i6 k,U i6 a,U i6 b,U i6 m,U i6 kh,U i6 kw,U i6 sh,U i6 sw,U i6 tp,U i6 lf,U i6 bt,U i6 rt,Sl wa lw wc,Sl ba lb bc,U i6 sm,U i6 ss,U i6 um,U i6 us,U i6 z,U i6 p,U i6 l2,U i6 h2,U i6 x0,U i6 y0,U i6 z0,U i6 H,U i6 V,U i6 C]) (t:=44)
 clear hb s1 HF c1 f1 z1 c2 f2 z2
 go_wp2_with (refine wpList_st_new rfl 44 (.tmp 5) (.tmp 31) rfl w9 _ #[U i6 k,U i6 a,U i6 b,U i6 m,U i6 kh,U i6 kw,U i6 sh,U i6 sw,U i6 tp,U i6 lf,U i6 bt,U i6 rt,Sl wa lw wc,Sl ba lb bc,U i6 sm,U i6 ss,U i6 um,U i6 us,U i6 z,U i6 p,U i6 l2,U i6 h2,U i6 x0,U i6 y0,U i6 z0,U i6 H,U i6 V,U i6 C] rfl rfl (by kernel_rfl) rfl (by simp [Value.oneCell']) ?_)
 obtain⟨c1,g1,c2,g2,c3,g3,-⟩:=rulesQ_st s9
 have hne:=Nonempty.intro (Wd.mk _ s9)
 refine region_held s9 (by kernel_rfl) (by kernel_rfl) ?_
 repeat (first
  | (go_big_quiet_want;refine quiet_ld 44 (.tmp 5) rfl _ rfl 44 _ _ (Wd.hp List.mem_cons_self) Tryz.underlying44 rfl (by kernel_rfl) rfl ?_;go_simp;go_big_quiet_on)
  | (go_big_quiet_step ((go_at_call 15;exact held_of (HN.out _ (Wd.h _).below)))))
 refine wpQuiet_nil ?_
 intro _ hw'
 obtain⟨nq,rfl⟩:=hw'
 have s8:=nq.h
 obtain⟨w8,hw8⟩:∃ w,nq.w=w:=⟨_,rfl⟩
 rw [hw8] at s8 ⊢
 clear c1 g1 c2 g2 c3 g3 hne s9 hw8
 go_wp2_with fail
 refine (fixed13_any _).mono ?_
 rintro e w10 ⟨rfl,hb⟩
 have s10:=s8.call hb
 clear hb s8
 go_wp2_with fail
 obtain⟨c1,g1,c2,g2,c3,g3,-⟩:=rulesQ_st s10
 have hne:=Nonempty.intro (Wd.mk _ s10)
 refine region_held s10 (by kernel_rfl) (by kernel_rfl) ?_
 repeat (first
  | (go_big_quiet_want;refine quiet_ld 44 (.tmp 5) rfl _ rfl 44 _ _ (Wd.hp List.mem_cons_self) Tryz.underlying44 rfl (by kernel_rfl) rfl ?_;go_simp;go_big_quiet_on)
  | (go_big_quiet_step ((go_at_call 16;exact held_of (HD.out _ (Wd.h _).below)))))
 refine wpQuiet_nil ?_
 intro _ hw'
 obtain⟨nq,rfl⟩:=hw'
 have s11:=nq.h
 obtain⟨w11,hw11⟩:∃ w,nq.w=w:=⟨_,rfl⟩
 rw [hw11] at s11 ⊢
 clear c1 g1 c2 g2 c3 g3 hne s10 hw11
 go_wp2
 go_ret
 exact⟨rfl,s11.below⟩
theorem spS_t {slo shi:Int} (h:vbB slo shi=true) (r:Int×Int):spR slo shi r=(r.1,r.2,0):=if_pos h
theorem spS_f {slo shi:Int} (h:vbB slo shi=false) (r:Int×Int):spR slo shi r=(0,0,30):=if_neg (by rw [h];decide)
theorem spE_f {slo shi:Int} (h:vbB slo shi=false) (dp:Int) (N:Nat) (r:Int×Int):spD slo shi dp N r=(0,0,30):=if_neg (by rw [h];decide)
theorem spE_n {slo shi:Int} (h:vbB slo shi=true) {dp:Int} {N:Nat} (hd:¬ (1≤dp∧dp≤(N:Int))) (r:Int×Int):spD slo shi dp N r=(0,0,151):=by unfold spD;rw [if_pos h,if_neg hd]
theorem spE_t {slo shi:Int} (h:vbB slo shi=true) {dp:Int} {N:Nat} (hd:1≤dp∧dp≤(N:Int)) (r:Int×Int):spD slo shi dp N r=(r.1,r.2,0):=by unfold spD;rw [if_pos h,if_pos hd]
theorem boundTotals_walk (h w c lo hi:Int) (oa:Option Addr) (on oc:Nat) (ot op ch slo shi dp at':Int) (ad:Option Addr) (n cap:Nat) (xs:List Int) (W:World) (_:(Lit.int .i64 h).wf=true) (_:(Lit.int .i64 w).wf=true) (_:(Lit.int .i64 c).wf=true) (_:(Lit.int .i64 lo).wf=true) (_:(Lit.int .i64 hi).wf=true) (wo:ORow 22 (OpIn W) W oa on oc) (hr:on*208≤140737488351232) (_:(Lit.int .i64 ot).wf=true) (_:(Lit.int .i64 op).wf=true) (_:(Lit.int .i64 ch).wf=true) (_:(Lit.int .i64 slo).wf=true) (_:(Lit.int .i64 shi).wf=true) (_:(Lit.int .i64 dp).wf=true) (_:(Lit.int .i64 at').wf=true) (hX:IRow .i8 W ad n cap xs) (hrx:n*1≤140737488351232):Calls Tryz.prog 3 #[.agg #[U i6 h,U i6 w,U i6 c,U i6 lo,U i6 hi,Sl oa on oc,U i6 ot,U i6 op,U i6 ch,U i6 slo,U i6 shi,U i6 dp,U i6 at',Sl ad n cap]] W fun e w'=>e=.returned (.bool true)∧Below W.heap.size W w':=by
 obtain⟨O,Z,B,hL⟩:=lrow_of wo
 have hon:on≤1000000000000:=by omega
 rcases rask h w c lo hi ot oa on oc O Z B W hL hon op ch with ⟨E,hE,h1,h2⟩ | ⟨RL,Rw,hR,i,x,wa,lw,cw,ba,lb,cb,x0,y0,z0,H,V,C,rfl,hF,hch⟩
 ·exact totals_e h w c lo hi oa on oc ot op ch slo shi dp at' ad n cap W 0 0 0 0 0 0 0 0 0 0 0 0 none 0 0 none 0 0 0 0 0 0 0 0 0 0 0 0 0 0 0 0 E hE (fun W' hb=>btot_bad h w c lo hi ot op ch oa on oc W' slo shi E hE (fun W'' hb'=>h1 W'' (hb.trans (hb'.mono hb.size)))) (fun W' hb=>bprd_bad h w c lo hi ot op ch oa on oc W' slo shi E hE (fun W'' hb'=>h1 W'' (hb.trans (hb'.mono hb.size)))) (fun W' hb=>rfi13_e 0 0 0 0 0 0 0 0 0 0 0 0 none 0 0 none 0 0 0 0 0 0 0 0 0 0 0 0 0 0 0 0 h w c lo hi ot oa on oc W' op ch slo shi E hE (fun W'' hb'=>h2 W'' (hb.trans (hb'.mono hb.size))))
 cases hs:vbB slo shi with
 | false=>exact totals_e h w c lo hi oa on oc ot ((i:Int)+1) ch slo shi dp at' ad n cap W (O i 0) (O i 1) (O i 2) (O i 3) (O i 4) (O i 5) (O i 6) (O i 7) (O i 8) (O i 9) (O i 10) (O i 11) wa lw cw ba lb cb (O i 14) (O i 15) (O i 16) (O i 17) (O i 18) (O i 19) (O i 20) (O i 21) x0 y0 z0 H V C 30 (by decide) (fun W' hb=>by have q:=btot_ok h w c lo hi ot oa on oc O Z B W' (hL.below hb) ch RL Rw hR i x wa lw cw ba lb cb x0 y0 z0 H V C (hF.below hb) hch slo shi;rw [spS_f hs] at q;exact q) (fun W' hb=>by have q:=bprd_ok h w c lo hi ot oa on oc O Z B W' (hL.below hb) ch RL Rw hR i x wa lw cw ba lb cb x0 y0 z0 H V C (hF.below hb) hch slo shi;rw [spS_f hs] at q;exact q) (fun W' hb=>rfi13_no (O i 0) (O i 1) (O i 2) (O i 3) (O i 4) (O i 5) (O i 6) (O i 7) (O i 8) (O i 9) (O i 10) (O i 11) wa lw cw ba lb cb (O i 14) (O i 15) (O i 16) (O i 17) (O i 18) (O i 19) (O i 20) (O i 21) x0 y0 z0 H V C h w c lo hi ot oa on oc W' _ ch slo shi hs (fun W'' hb'=>rfc_ok h w c lo hi ot oa on oc O Z B W hL hon ch RL Rw hR i x wa lw cw ba lb cb x0 y0 z0 H V C hF hch W'' (hb.trans (hb'.mono hb.size))))
 | true =>
  have hv:=vbB_yes hs
  exact totals_w h w c lo hi oa on oc ot ((i:Int)+1) ch slo shi dp at' ad n cap W (O i 0) (O i 1) (O i 2) (O i 3) (O i 4) (O i 5) (O i 6) (O i 7) (O i 8) (O i 9) (O i 10) (O i 11) wa lw cw ba lb cb (O i 14) (O i 15) (O i 16) (O i 17) (O i 18) (O i 19) (O i 20) (O i 21) x0 y0 z0 H V C _ _ _ _ (fun W' hb=>by have q:=btot_ok h w c lo hi ot oa on oc O Z B W' (hL.below hb) ch RL Rw hR i x wa lw cw ba lb cb x0 y0 z0 H V C (hF.below hb) hch slo shi;rw [spS_t hs] at q;exact q) (fun W' hb=>by have q:=bprd_ok h w c lo hi ot oa on oc O Z B W' (hL.below hb) ch RL Rw hR i x wa lw cw ba lb cb x0 y0 z0 H V C (hF.below hb) hch slo shi;rw [spS_t hs] at q;exact q) (fun W' hb=>rfi13_ok (O i 0) (O i 1) (O i 2) (O i 3) (O i 4) (O i 5) (O i 6) (O i 7) (O i 8) (O i 9) (O i 10) (O i 11) wa lw cw ba lb cb (O i 14) (O i 15) (O i 16) (O i 17) (O i 18) (O i 19) (O i 20) (O i 21) x0 y0 z0 H V C h w c lo hi ot oa on oc W' _ ch slo shi hs (fun W'' hb'=>rfc_ok h w c lo hi ot oa on oc O Z B W hL hon ch RL Rw hR i x wa lw cw ba lb cb x0 y0 z0 H V C hF hch W'' (hb.trans (hb'.mono hb.size)))) (dto_ok h w c lo hi ot oa on oc O Z B W hL ch RL Rw hR i x wa lw cw ba lb cb x0 y0 z0 H V C hF hch slo shi hv) (dpr_ok h w c lo hi ot oa on oc O Z B W hL ch RL Rw hR i x wa lw cw ba lb cb x0 y0 z0 H V C hF hch slo shi hv)
theorem boundRuns_walk (h w c lo hi:Int) (oa:Option Addr) (on oc:Nat) (ot op ch slo shi dp at':Int) (ad:Option Addr) (n cap:Nat) (xs:List Int) (W:World) (_:(Lit.int .i64 h).wf=true) (_:(Lit.int .i64 w).wf=true) (_:(Lit.int .i64 c).wf=true) (_:(Lit.int .i64 lo).wf=true) (_:(Lit.int .i64 hi).wf=true) (wo:ORow 22 (OpIn W) W oa on oc) (hr:on*208≤140737488351232) (_:(Lit.int .i64 ot).wf=true) (_:(Lit.int .i64 op).wf=true) (_:(Lit.int .i64 ch).wf=true) (_:(Lit.int .i64 slo).wf=true) (_:(Lit.int .i64 shi).wf=true) (_:(Lit.int .i64 dp).wf=true) (_:(Lit.int .i64 at').wf=true) (hX:IRow .i8 W ad n cap xs) (hrx:n*1≤140737488351232):Calls Tryz.prog 4 #[.agg #[U i6 h,U i6 w,U i6 c,U i6 lo,U i6 hi,Sl oa on oc,U i6 ot,U i6 op,U i6 ch,U i6 slo,U i6 shi,U i6 dp,U i6 at',Sl ad n cap]] W fun e w'=>e=.returned (.bool true)∧Below W.heap.size W w':=by
 obtain⟨O,Z,B,hL⟩:=lrow_of wo
 have hon:on≤1000000000000:=by omega
 rcases rask h w c lo hi ot oa on oc O Z B W hL hon op ch with ⟨E,hE,h1,h2⟩ | ⟨RL,Rw,hR,i,x,wa,lw,cw,ba,lb,cb,x0,y0,z0,H,V,C,rfl,hF,hch⟩
 ·exact runs_e h w c lo hi oa on oc ot op ch slo shi dp at' ad n cap W 0 0 0 0 0 0 0 0 0 0 0 0 none 0 0 none 0 0 0 0 0 0 0 0 0 0 0 0 0 0 0 0 E hE (fun W' hb=>brun_bad h w c lo hi ot op ch oa on oc W' slo shi E hE (fun W'' hb'=>h1 W'' (hb.trans (hb'.mono hb.size)))) (fun W' hb=>rfi13_e 0 0 0 0 0 0 0 0 0 0 0 0 none 0 0 none 0 0 0 0 0 0 0 0 0 0 0 0 0 0 0 0 h w c lo hi ot oa on oc W' op ch slo shi E hE (fun W'' hb'=>h2 W'' (hb.trans (hb'.mono hb.size))))
 cases hs:vbB slo shi with
 | false=>exact runs_e h w c lo hi oa on oc ot ((i:Int)+1) ch slo shi dp at' ad n cap W (O i 0) (O i 1) (O i 2) (O i 3) (O i 4) (O i 5) (O i 6) (O i 7) (O i 8) (O i 9) (O i 10) (O i 11) wa lw cw ba lb cb (O i 14) (O i 15) (O i 16) (O i 17) (O i 18) (O i 19) (O i 20) (O i 21) x0 y0 z0 H V C 30 (by decide) (fun W' hb=>by have q:=brun_ok h w c lo hi ot oa on oc O Z B W' (hL.below hb) ch RL Rw hR i x wa lw cw ba lb cb x0 y0 z0 H V C (hF.below hb) hch slo shi;rw [spS_f hs] at q;exact q) (fun W' hb=>rfi13_no (O i 0) (O i 1) (O i 2) (O i 3) (O i 4) (O i 5) (O i 6) (O i 7) (O i 8) (O i 9) (O i 10) (O i 11) wa lw cw ba lb cb (O i 14) (O i 15) (O i 16) (O i 17) (O i 18) (O i 19) (O i 20) (O i 21) x0 y0 z0 H V C h w c lo hi ot oa on oc W' _ ch slo shi hs (fun W'' hb'=>rfc_ok h w c lo hi ot oa on oc O Z B W hL hon ch RL Rw hR i x wa lw cw ba lb cb x0 y0 z0 H V C hF hch W'' (hb.trans (hb'.mono hb.size))))
 | true =>
  have hv:=vbB_yes hs
  exact runs_w h w c lo hi oa on oc ot ((i:Int)+1) ch slo shi dp at' ad n cap W (O i 0) (O i 1) (O i 2) (O i 3) (O i 4) (O i 5) (O i 6) (O i 7) (O i 8) (O i 9) (O i 10) (O i 11) wa lw cw ba lb cb (O i 14) (O i 15) (O i 16) (O i 17) (O i 18) (O i 19) (O i 20) (O i 21) x0 y0 z0 H V C _ _ (fun W' hb=>by have q:=brun_ok h w c lo hi ot oa on oc O Z B W' (hL.below hb) ch RL Rw hR i x wa lw cw ba lb cb x0 y0 z0 H V C (hF.below hb) hch slo shi;rw [spS_t hs] at q;exact q) (fun W' hb=>rfi13_ok (O i 0) (O i 1) (O i 2) (O i 3) (O i 4) (O i 5) (O i 6) (O i 7) (O i 8) (O i 9) (O i 10) (O i 11) wa lw cw ba lb cb (O i 14) (O i 15) (O i 16) (O i 17) (O i 18) (O i 19) (O i 20) (O i 21) x0 y0 z0 H V C h w c lo hi ot oa on oc W' _ ch slo shi hs (fun W'' hb'=>rfc_ok h w c lo hi ot oa on oc O Z B W hL hon ch RL Rw hR i x wa lw cw ba lb cb x0 y0 z0 H V C hF hch W'' (hb.trans (hb'.mono hb.size)))) (dru_ok h w c lo hi ot oa on oc O Z B W hL ch RL Rw hR i x wa lw cw ba lb cb x0 y0 z0 H V C hF hch slo shi hv)
theorem boundParts_walk (h w c lo hi:Int) (oa:Option Addr) (on oc:Nat) (ot op ch slo shi dp at':Int) (ad:Option Addr) (n cap:Nat) (xs:List Int) (W:World) (_:(Lit.int .i64 h).wf=true) (_:(Lit.int .i64 w).wf=true) (_:(Lit.int .i64 c).wf=true) (_:(Lit.int .i64 lo).wf=true) (_:(Lit.int .i64 hi).wf=true) (wo:ORow 22 (OpIn W) W oa on oc) (hr:on*208≤140737488351232) (_:(Lit.int .i64 ot).wf=true) (_:(Lit.int .i64 op).wf=true) (_:(Lit.int .i64 ch).wf=true) (_:(Lit.int .i64 slo).wf=true) (_:(Lit.int .i64 shi).wf=true) (_:(Lit.int .i64 dp).wf=true) (_:(Lit.int .i64 at').wf=true) (hX:IRow .i8 W ad n cap xs) (hrx:n*1≤140737488351232):Calls Tryz.prog 5 #[.agg #[U i6 h,U i6 w,U i6 c,U i6 lo,U i6 hi,Sl oa on oc,U i6 ot,U i6 op,U i6 ch,U i6 slo,U i6 shi,U i6 dp,U i6 at',Sl ad n cap]] W fun e w'=>e=.returned (.bool true)∧Below W.heap.size W w':=by
 obtain⟨O,Z,B,hL⟩:=lrow_of wo
 have hon:on≤1000000000000:=by omega
 rcases rask h w c lo hi ot oa on oc O Z B W hL hon op ch with ⟨E,hE,h1,h2⟩ | ⟨RL,Rw,hR,i,x,wa,lw,cw,ba,lb,cb,x0,y0,z0,H,V,C,rfl,hF,hch⟩
 ·exact parts_e h w c lo hi oa on oc ot op ch slo shi dp at' ad n cap W 0 0 0 0 0 0 0 0 0 0 0 0 none 0 0 none 0 0 0 0 0 0 0 0 0 0 0 0 0 0 0 0 E hE (fun W' hb=>bprt_bad h w c lo hi ot op ch oa on oc W' slo shi dp E hE (fun W'' hb'=>h1 W'' (hb.trans (hb'.mono hb.size)))) (fun W' hb=>rfi13_e 0 0 0 0 0 0 0 0 0 0 0 0 none 0 0 none 0 0 0 0 0 0 0 0 0 0 0 0 0 0 0 0 h w c lo hi ot oa on oc W' op ch slo shi E hE (fun W'' hb'=>h2 W'' (hb.trans (hb'.mono hb.size))))
 obtain⟨N,hN⟩:∃ N,(siL (O i 0) (O i 4) (O i 5) (O i 6) (O i 7) (O i 8) (O i 9) (O i 10) (O i 11) x0 y0 z0 ch 0 (Z i)).length=N:=⟨_,rfl⟩
 cases hs:vbB slo shi with
 | false=>exact parts_e h w c lo hi oa on oc ot ((i:Int)+1) ch slo shi dp at' ad n cap W (O i 0) (O i 1) (O i 2) (O i 3) (O i 4) (O i 5) (O i 6) (O i 7) (O i 8) (O i 9) (O i 10) (O i 11) wa lw cw ba lb cb (O i 14) (O i 15) (O i 16) (O i 17) (O i 18) (O i 19) (O i 20) (O i 21) x0 y0 z0 H V C 30 (by decide) (fun W' hb=>by have q:=bprt_ok h w c lo hi ot oa on oc O Z B W' (hL.below hb) ch RL Rw hR i x wa lw cw ba lb cb x0 y0 z0 H V C (hF.below hb) hch slo shi dp N hN;rw [spE_f hs] at q;exact q) (fun W' hb=>rfi13_no (O i 0) (O i 1) (O i 2) (O i 3) (O i 4) (O i 5) (O i 6) (O i 7) (O i 8) (O i 9) (O i 10) (O i 11) wa lw cw ba lb cb (O i 14) (O i 15) (O i 16) (O i 17) (O i 18) (O i 19) (O i 20) (O i 21) x0 y0 z0 H V C h w c lo hi ot oa on oc W' _ ch slo shi hs (fun W'' hb'=>rfc_ok h w c lo hi ot oa on oc O Z B W hL hon ch RL Rw hR i x wa lw cw ba lb cb x0 y0 z0 H V C hF hch W'' (hb.trans (hb'.mono hb.size))))
 | true =>
  have hv:=vbB_yes hs
  have hN5:N≤512:=by rw [← hN];exact slen RL Rw hR i x wa lw cw ba lb cb x0 y0 z0 H V C hF hch
  have hLn:=dle_ok h w c lo hi ot oa on oc O Z B W hL ch RL Rw hR i x wa lw cw ba lb cb x0 y0 z0 H V C hF hch
  rw [hN] at hLn
  by_cases hd:dp<1
  ·have hd2:¬ (1≤dp∧dp≤(N:Int)):=by omega
   exact parts_0 h w c lo hi oa on oc ot ((i:Int)+1) ch slo shi dp at' ad n cap W (O i 0) (O i 1) (O i 2) (O i 3) (O i 4) (O i 5) (O i 6) (O i 7) (O i 8) (O i 9) (O i 10) (O i 11) wa lw cw ba lb cb (O i 14) (O i 15) (O i 16) (O i 17) (O i 18) (O i 19) (O i 20) (O i 21) x0 y0 z0 H V C hd (fun W' hb=>by have q:=bprt_ok h w c lo hi ot oa on oc O Z B W' (hL.below hb) ch RL Rw hR i x wa lw cw ba lb cb x0 y0 z0 H V C (hF.below hb) hch slo shi dp N hN;rw [spE_n hs hd2] at q;exact q) (fun W' hb=>rfi13_ok (O i 0) (O i 1) (O i 2) (O i 3) (O i 4) (O i 5) (O i 6) (O i 7) (O i 8) (O i 9) (O i 10) (O i 11) wa lw cw ba lb cb (O i 14) (O i 15) (O i 16) (O i 17) (O i 18) (O i 19) (O i 20) (O i 21) x0 y0 z0 H V C h w c lo hi ot oa on oc W' _ ch slo shi hs (fun W'' hb'=>rfc_ok h w c lo hi ot oa on oc O Z B W hL hon ch RL Rw hR i x wa lw cw ba lb cb x0 y0 z0 H V C hF hch W'' (hb.trans (hb'.mono hb.size))))
  ·by_cases hn:(N:Int)<dp
   ·have hd2:¬ (1≤dp∧dp≤(N:Int)):=by omega
    exact parts_n h w c lo hi oa on oc ot ((i:Int)+1) ch slo shi dp at' ad n cap W (O i 0) (O i 1) (O i 2) (O i 3) (O i 4) (O i 5) (O i 6) (O i 7) (O i 8) (O i 9) (O i 10) (O i 11) wa lw cw ba lb cb (O i 14) (O i 15) (O i 16) (O i 17) (O i 18) (O i 19) (O i 20) (O i 21) x0 y0 z0 H V C (N:Int) hd hn (fun W' hb=>by have q:=bprt_ok h w c lo hi ot oa on oc O Z B W' (hL.below hb) ch RL Rw hR i x wa lw cw ba lb cb x0 y0 z0 H V C (hF.below hb) hch slo shi dp N hN;rw [spE_n hs hd2] at q;exact q) (fun W' hb=>rfi13_ok (O i 0) (O i 1) (O i 2) (O i 3) (O i 4) (O i 5) (O i 6) (O i 7) (O i 8) (O i 9) (O i 10) (O i 11) wa lw cw ba lb cb (O i 14) (O i 15) (O i 16) (O i 17) (O i 18) (O i 19) (O i 20) (O i 21) x0 y0 z0 H V C h w c lo hi ot oa on oc W' _ ch slo shi hs (fun W'' hb'=>rfc_ok h w c lo hi ot oa on oc O Z B W hL hon ch RL Rw hR i x wa lw cw ba lb cb x0 y0 z0 H V C hF hch W'' (hb.trans (hb'.mono hb.size)))) hLn
   ·have hd2:1≤dp∧dp≤(N:Int):=by omega
    have hdd:=dpa_ok h w c lo hi ot oa on oc O Z B W hL ch RL Rw hR i x wa lw cw ba lb cb x0 y0 z0 H V C hF hch slo shi hv dp.toNat (by omega) (by omega)
    rw [Int.toNat_of_nonneg (by omega)] at hdd
    exact parts_w h w c lo hi oa on oc ot ((i:Int)+1) ch slo shi dp at' ad n cap W (O i 0) (O i 1) (O i 2) (O i 3) (O i 4) (O i 5) (O i 6) (O i 7) (O i 8) (O i 9) (O i 10) (O i 11) wa lw cw ba lb cb (O i 14) (O i 15) (O i 16) (O i 17) (O i 18) (O i 19) (O i 20) (O i 21) x0 y0 z0 H V C _ _ (N:Int) hd hn (fun W' hb=>by have q:=bprt_ok h w c lo hi ot oa on oc O Z B W' (hL.below hb) ch RL Rw hR i x wa lw cw ba lb cb x0 y0 z0 H V C (hF.below hb) hch slo shi dp N hN;rw [spE_t hs hd2] at q;exact q) (fun W' hb=>rfi13_ok (O i 0) (O i 1) (O i 2) (O i 3) (O i 4) (O i 5) (O i 6) (O i 7) (O i 8) (O i 9) (O i 10) (O i 11) wa lw cw ba lb cb (O i 14) (O i 15) (O i 16) (O i 17) (O i 18) (O i 19) (O i 20) (O i 21) x0 y0 z0 H V C h w c lo hi ot oa on oc W' _ ch slo shi hs (fun W'' hb'=>rfc_ok h w c lo hi ot oa on oc O Z B W hL hon ch RL Rw hR i x wa lw cw ba lb cb x0 y0 z0 H V C hF hch W'' (hb.trans (hb'.mono hb.size)))) hLn hdd
end Go.Proofs.YtccoanknofhmaaaGreat
