/- The walks of WitnessEnds and WitnessBreaks, over what their calls return. The walks of WitnessBreaks, over what its calls return. What the document's Safe, Most and Choose of layer 18 return. WitnessEnds and WitnessBreaks. -/
import Derived.Test.YtgjcjhnnopandaaGreatGq28
import Derived.Test.YtgjcjhnnopandaaGreatGq34
namespace Go.Proofs.YtgjcjhnnopandaaGreat
open Go.Value renaming int → U, slice → Sl
open Go.IntKind renaming i64 → i6
set_option maxRecDepth 100000
set_option maxHeartbeats 16000000
open Go.ChangeShapes Go.WideShapes Go.ChangeAt Go.RowKit
set_option linter.unusedVariables false
theorem wends_e (h w c lo hi:Int) (oa:Option Addr) (on oc:Nat) (ot op ch slo shi dp:Int) (W:World) (k a b m kh kw sh sw tp lf bt rt:Int) (wa:Option Addr) (lw wc:Nat) (ba:Option Addr) (lb bc:Nat) (sm ss um us z p l2 h2 x0 y0 z0 H V C:Int) (E:Int) (hE:E≠0)
  (HLo:Hid (∀ W',Below W.heap.size W W'→Calls Tryz.prog 5 #[.agg #[U i6 h,U i6 w,U i6 c,U i6 lo,U i6 hi,Sl oa on oc,U i6 ot],U i6 op,U i6 ch,.agg #[U i6 slo,U i6 shi]] W' fun e w'=>e=.returned (.tuple #[.agg #[U i6 0,Sl none 0 0],U i6 E])∧Below W'.heap.size W' w'))
  (HHi:Hid (∀ W',Below W.heap.size W W'→Calls Tryz.prog 6 #[.agg #[U i6 h,U i6 w,U i6 c,U i6 lo,U i6 hi,Sl oa on oc,U i6 ot],U i6 op,U i6 ch,.agg #[U i6 slo,U i6 shi]] W' fun e w'=>e=.returned (.tuple #[.agg #[U i6 0,Sl none 0 0],U i6 E])∧Below W'.heap.size W' w'))
  (HF:Hid (∀ W',Below W.heap.size W W'→Calls Tryz.prog 7 #[.agg #[U i6 h,U i6 w,U i6 c,U i6 lo,U i6 hi,Sl oa on oc,U i6 ot],U i6 op,U i6 ch,.agg #[U i6 slo,U i6 shi]] W' fun e w'=>e=.returned (.tuple #[.agg #[U i6 k,U i6 a,U i6 b,U i6 m,U i6 kh,U i6 kw,U i6 sh,U i6 sw,U i6 tp,U i6 lf,U i6 bt,U i6 rt,Sl wa lw wc,Sl ba lb bc,U i6 sm,U i6 ss,U i6 um,U i6 us,U i6 z,U i6 p,U i6 l2,U i6 h2,U i6 x0,U i6 y0,U i6 z0,U i6 H,U i6 V,U i6 C],U i6 E])∧Below W'.heap.size W' w')) :
  Calls Tryz.prog 3 #[.agg #[U i6 h,U i6 w,U i6 c,U i6 lo,U i6 hi,Sl oa on oc,U i6 ot,U i6 op,U i6 ch,U i6 slo,U i6 shi,U i6 dp]] W fun e w'=>e=.returned (.bool true)∧Below W.heap.size W w':=by
 have s0:=(St.start W).new (c:=#[U i6 h,U i6 w,U i6 c,U i6 lo,U i6 hi,Sl oa on oc,U i6 ot,U i6 op,U i6 ch,U i6 slo,U i6 shi,U i6 dp]) (t:=30)
 have hE2:(E == 0)=false:=by simp [hE]
 have hE3:(E != 0)=true:=by simp [hE]
 obtain⟨c1,f1,z1,-⟩:=s0.rules
 go_enter Tryz.func3,Tryz.ntmps3
 go_wp2_with fail
 refine Calls.mono (HLo.out _ s0.below) ?_
 rintro e w2 ⟨rfl,hb⟩
 have S2:Hid (St W (w2.alloc (.cells #[U i6 0,Sl none 0 0] 33)) _):=(s0.call hb).new (c:=#[U i6 0,Sl none 0 0]) (t:=33)
 clear hb s0 HLo c1 f1 z1
 go_upto_region 2 with fail
 obtain⟨w3,hw3⟩:∃ w3,w2.alloc (.cells #[U i6 0,Sl none 0 0] 33)=w3:=⟨_,rfl⟩
 obtain⟨B1,hB1⟩:∃ B,w2.heap.size=B:=⟨_,rfl⟩
 rw [hw3,hB1] at S2
 rw [hw3,hB1]
 clear hw3 hB1
 obtain⟨-,-,-,c1,f1,z1,-⟩:=S2.out.rules
 go_wp2_with fail
 refine Calls.mono (HHi.out _ S2.out.below) ?_
 rintro e w4 ⟨rfl,hb⟩
 have S4:Hid (St W (w4.alloc (.cells #[U i6 0,Sl none 0 0] 33)) _):=(S2.out.call hb).new (c:=#[U i6 0,Sl none 0 0]) (t:=33)
 clear hb S2 HHi c1 f1 z1
 go_upto_region 3 with fail
 obtain⟨w5,hw5⟩:∃ w5,w4.alloc (.cells #[U i6 0,Sl none 0 0] 33)=w5:=⟨_,rfl⟩
 obtain⟨B2,hB2⟩:∃ B,w4.heap.size=B:=⟨_,rfl⟩
 rw [hw5,hB2] at S4
 rw [hw5,hB2]
 clear hw5 hB2
 obtain⟨-,-,-,-,-,-,c1,f1,z1,-⟩:=S4.out.rules
 go_wp2_with fail
 refine Calls.mono (HF.out _ S4.out.below) ?_
 rintro e w6 ⟨rfl,hb⟩
 have S6:Hid (St W (w6.alloc (.cells #[U i6 k,U i6 a,U i6 b,U i6 m,U i6 kh,U i6 kw,U i6 sh,U i6 sw,U i6 tp,U i6 lf,U i6 bt,U i6 rt,Sl wa lw wc,Sl ba lb bc,U i6 sm,U i6 ss,U i6 um,U i6 us,U i6 z,U i6 p,U i6 l2,U i6 h2,U i6 x0,U i6 y0,U i6 z0,U i6 H,U i6 V,U i6 C] 46)) _):=(S4.out.call hb).skip (.cells #[U i6 k,U i6 a,U i6 b,U i6 m,U i6 kh,U i6 kw,U i6 sh,U i6 sw,U i6 tp,U i6 lf,U i6 bt,U i6 rt,Sl wa lw wc,Sl ba lb bc,U i6 sm,U i6 ss,U i6 um,U i6 us,U i6 z,U i6 p,U i6 l2,U i6 h2,U i6 x0,U i6 y0,U i6 z0,U i6 H,U i6 V,U i6 C] 46)
 clear hb S4 HF c1 f1 z1
 go_upto_region 4 with (refine wpList_st_new rfl 46 (.tmp 7) (.tmp 44) rfl w6 _ #[U i6 k,U i6 a,U i6 b,U i6 m,U i6 kh,U i6 kw,U i6 sh,U i6 sw,U i6 tp,U i6 lf,U i6 bt,U i6 rt,Sl wa lw wc,Sl ba lb bc,U i6 sm,U i6 ss,U i6 um,U i6 us,U i6 z,U i6 p,U i6 l2,U i6 h2,U i6 x0,U i6 y0,U i6 z0,U i6 H,U i6 V,U i6 C] rfl rfl (by kernel_rfl) rfl (by simp [Value.oneCell']) ?_)
 obtain⟨w7,hw7⟩:∃ w7,w6.alloc (.cells #[U i6 k,U i6 a,U i6 b,U i6 m,U i6 kh,U i6 kw,U i6 sh,U i6 sw,U i6 tp,U i6 lf,U i6 bt,U i6 rt,Sl wa lw wc,Sl ba lb bc,U i6 sm,U i6 ss,U i6 um,U i6 us,U i6 z,U i6 p,U i6 l2,U i6 h2,U i6 x0,U i6 y0,U i6 z0,U i6 H,U i6 V,U i6 C] 46)=w7:=⟨_,rfl⟩
 obtain⟨B3,hB3⟩:∃ B,w6.heap.size=B:=⟨_,rfl⟩
 rw [hw7] at S6 ⊢
 rw [hB3]
 clear hw7 hB3
 go_wp2_with fail
 refine (fixed23_any _).mono ?_
 rintro e w8 ⟨rfl,hb⟩
 have S8:Hid (St W w8 _):=S6.out.call hb
 clear hb S6
 obtain⟨c2,f2,z2,c1,f1,z1,-⟩:=S8.out.rules
 go_wp2
 go_ret
 exact⟨rfl,S8.out.below⟩
theorem wends_w (h w c lo hi:Int) (oa:Option Addr) (on oc:Nat) (ot op ch slo shi dp:Int) (W:World) (k a b m kh kw sh sw tp lf bt rt:Int) (wa:Option Addr) (lw wc:Nat) (ba:Option Addr) (lb bc:Nat) (sm ss um us z p l2 h2 x0 y0 z0 H V C:Int) (T1 T2:Int) (P1 P2:Nat→List Int→Prop)
  (HLo:Hid (∀ W',Below W.heap.size W W'→Calls Tryz.prog 5 #[.agg #[U i6 h,U i6 w,U i6 c,U i6 lo,U i6 hi,Sl oa on oc,U i6 ot],U i6 op,U i6 ch,.agg #[U i6 slo,U i6 shi]] W' fun e w'=>(∃ r A v',P1 r A∧e=.returned (.tuple #[.agg #[U i6 (r:Int),v'],U i6 0])∧Own .i8 71 w' W'.heap.size v' A)∧Below W'.heap.size W' w'))
  (HHi:Hid (∀ W',Below W.heap.size W W'→Calls Tryz.prog 6 #[.agg #[U i6 h,U i6 w,U i6 c,U i6 lo,U i6 hi,Sl oa on oc,U i6 ot],U i6 op,U i6 ch,.agg #[U i6 slo,U i6 shi]] W' fun e w'=>(∃ r A v',P2 r A∧e=.returned (.tuple #[.agg #[U i6 (r:Int),v'],U i6 0])∧Own .i8 71 w' W'.heap.size v' A)∧Below W'.heap.size W' w'))
  (HF:Hid (∀ W',Below W.heap.size W W'→Calls Tryz.prog 7 #[.agg #[U i6 h,U i6 w,U i6 c,U i6 lo,U i6 hi,Sl oa on oc,U i6 ot],U i6 op,U i6 ch,.agg #[U i6 slo,U i6 shi]] W' fun e w'=>e=.returned (.tuple #[.agg #[U i6 k,U i6 a,U i6 b,U i6 m,U i6 kh,U i6 kw,U i6 sh,U i6 sw,U i6 tp,U i6 lf,U i6 bt,U i6 rt,Sl wa lw wc,Sl ba lb bc,U i6 sm,U i6 ss,U i6 um,U i6 us,U i6 z,U i6 p,U i6 l2,U i6 h2,U i6 x0,U i6 y0,U i6 z0,U i6 H,U i6 V,U i6 C],U i6 0])∧Below W'.heap.size W' w'))
  (HT:Hid (∀ W',Below W.heap.size W W'→Calls Tryz.prog 9 #[.agg #[U i6 k,U i6 a,U i6 b,U i6 m,U i6 kh,U i6 kw,U i6 sh,U i6 sw,U i6 tp,U i6 lf,U i6 bt,U i6 rt,Sl wa lw wc,Sl ba lb bc,U i6 sm,U i6 ss,U i6 um,U i6 us,U i6 z,U i6 p,U i6 l2,U i6 h2,U i6 x0,U i6 y0,U i6 z0,U i6 H,U i6 V,U i6 C],U i6 ch,.agg #[U i6 slo,U i6 shi]] W' fun e w'=>e=.returned (.agg #[U i6 T1,U i6 T2])∧Below W'.heap.size W' w'))
  (HR1:Hid (∀ W' (r:Nat) A a9 l9 c9,Below W.heap.size W W'→P1 r A→IRow .i8 W' a9 l9 c9 A→Calls Tryz.prog 10 #[.agg #[U i6 k,U i6 a,U i6 b,U i6 m,U i6 kh,U i6 kw,U i6 sh,U i6 sw,U i6 tp,U i6 lf,U i6 bt,U i6 rt,Sl wa lw wc,Sl ba lb bc,U i6 sm,U i6 ss,U i6 um,U i6 us,U i6 z,U i6 p,U i6 l2,U i6 h2,U i6 x0,U i6 y0,U i6 z0,U i6 H,U i6 V,U i6 C],U i6 ch,.agg #[U i6 slo,U i6 shi],.agg #[U i6 (r:Int),Sl a9 l9 c9],U i6 T1] W' fun e w'=>e=.returned (.bool true)∧Below W'.heap.size W' w'))
  (HR2:Hid (∀ W' (r:Nat) A a9 l9 c9,Below W.heap.size W W'→P2 r A→IRow .i8 W' a9 l9 c9 A→Calls Tryz.prog 10 #[.agg #[U i6 k,U i6 a,U i6 b,U i6 m,U i6 kh,U i6 kw,U i6 sh,U i6 sw,U i6 tp,U i6 lf,U i6 bt,U i6 rt,Sl wa lw wc,Sl ba lb bc,U i6 sm,U i6 ss,U i6 um,U i6 us,U i6 z,U i6 p,U i6 l2,U i6 h2,U i6 x0,U i6 y0,U i6 z0,U i6 H,U i6 V,U i6 C],U i6 ch,.agg #[U i6 slo,U i6 shi],.agg #[U i6 (r:Int),Sl a9 l9 c9],U i6 T2] W' fun e w'=>e=.returned (.bool true)∧Below W'.heap.size W' w')) :
  Calls Tryz.prog 3 #[.agg #[U i6 h,U i6 w,U i6 c,U i6 lo,U i6 hi,Sl oa on oc,U i6 ot,U i6 op,U i6 ch,U i6 slo,U i6 shi,U i6 dp]] W fun e w'=>e=.returned (.bool true)∧Below W.heap.size W w':=by
 have s0:=(St.start W).new (c:=#[U i6 h,U i6 w,U i6 c,U i6 lo,U i6 hi,Sl oa on oc,U i6 ot,U i6 op,U i6 ch,U i6 slo,U i6 shi,U i6 dp]) (t:=30)
 obtain⟨c1,f1,z1,-⟩:=s0.rules
 go_enter Tryz.func3,Tryz.ntmps3
 go_wp2_with fail
 refine Calls.mono (HLo.out _ s0.below) ?_
 rintro e w2 ⟨⟨r,A,v',hp,rfl,hO⟩,hb⟩
 obtain⟨a9,c9,rfl,hI,-⟩:=hO.row
 obtain⟨l9,hl9⟩:∃ l,A.length=l:=⟨_,rfl⟩
 rw [hl9] at hI ⊢
 have S2:Hid (St W (w2.alloc (.cells #[U i6 (r:Int),Sl a9 l9 c9] 33)) _):=(s0.call hb).new (c:=#[U i6 (r:Int),Sl a9 l9 c9]) (t:=33)
 have HI2:Hid (IRow .i8 (w2.alloc (.cells #[U i6 (r:Int),Sl a9 l9 c9] 33)) a9 l9 c9 A):=hI.below (bal _ _)
 have HP1:Hid (P1 r A):=hp
 clear hb s0 HLo c1 f1 z1 hp hO hI hl9
 go_upto_region 2 with fail
 obtain⟨w3,hw3⟩:∃ w3,w2.alloc (.cells #[U i6 (r:Int),Sl a9 l9 c9] 33)=w3:=⟨_,rfl⟩
 obtain⟨B1,hB1⟩:∃ B,w2.heap.size=B:=⟨_,rfl⟩
 rw [hw3,hB1] at S2
 rw [hw3] at HI2
 rw [hw3,hB1]
 clear hw3 hB1
 obtain⟨-,-,-,c1,f1,z1,-⟩:=S2.out.rules
 go_wp2_with fail
 refine Calls.mono (HHi.out _ S2.out.below) ?_
 rintro e w4 ⟨⟨s,A',v',hp,rfl,hO⟩,hb⟩
 obtain⟨a8,c8,rfl,hI,-⟩:=hO.row
 obtain⟨l8,hl8⟩:∃ l,A'.length=l:=⟨_,rfl⟩
 rw [hl8] at hI ⊢
 have S4:Hid (St W (w4.alloc (.cells #[U i6 (s:Int),Sl a8 l8 c8] 33)) _):=(S2.out.call hb).new (c:=#[U i6 (s:Int),Sl a8 l8 c8]) (t:=33)
 have HI4:Hid (IRow .i8 (w4.alloc (.cells #[U i6 (s:Int),Sl a8 l8 c8] 33)) a9 l9 c9 A):=(HI2.out.below hb).below (bal _ _)
 have HJ4:Hid (IRow .i8 (w4.alloc (.cells #[U i6 (s:Int),Sl a8 l8 c8] 33)) a8 l8 c8 A'):=hI.below (bal _ _)
 have HP2:Hid (P2 s A'):=hp
 clear hb S2 HHi c1 f1 z1 hp hO hI hl8 HI2
 go_upto_region 3 with fail
 obtain⟨w5,hw5⟩:∃ w5,w4.alloc (.cells #[U i6 (s:Int),Sl a8 l8 c8] 33)=w5:=⟨_,rfl⟩
 obtain⟨B2,hB2⟩:∃ B,w4.heap.size=B:=⟨_,rfl⟩
 rw [hw5,hB2] at S4
 rw [hw5] at HI4 HJ4
 rw [hw5,hB2]
 clear hw5 hB2
 obtain⟨-,-,-,-,-,-,c1,f1,z1,-⟩:=S4.out.rules
 go_wp2_with fail
 refine Calls.mono (HF.out _ S4.out.below) ?_
 rintro e w6 ⟨rfl,hb⟩
 have S6:Hid (St W (w6.alloc (.cells #[U i6 k,U i6 a,U i6 b,U i6 m,U i6 kh,U i6 kw,U i6 sh,U i6 sw,U i6 tp,U i6 lf,U i6 bt,U i6 rt,Sl wa lw wc,Sl ba lb bc,U i6 sm,U i6 ss,U i6 um,U i6 us,U i6 z,U i6 p,U i6 l2,U i6 h2,U i6 x0,U i6 y0,U i6 z0,U i6 H,U i6 V,U i6 C] 46)) _):=(S4.out.call hb).new (c:=#[U i6 k,U i6 a,U i6 b,U i6 m,U i6 kh,U i6 kw,U i6 sh,U i6 sw,U i6 tp,U i6 lf,U i6 bt,U i6 rt,Sl wa lw wc,Sl ba lb bc,U i6 sm,U i6 ss,U i6 um,U i6 us,U i6 z,U i6 p,U i6 l2,U i6 h2,U i6 x0,U i6 y0,U i6 z0,U i6 H,U i6 V,U i6 C]) (t:=46)
 have HI6:Hid (IRow .i8 (w6.alloc (.cells #[U i6 k,U i6 a,U i6 b,U i6 m,U i6 kh,U i6 kw,U i6 sh,U i6 sw,U i6 tp,U i6 lf,U i6 bt,U i6 rt,Sl wa lw wc,Sl ba lb bc,U i6 sm,U i6 ss,U i6 um,U i6 us,U i6 z,U i6 p,U i6 l2,U i6 h2,U i6 x0,U i6 y0,U i6 z0,U i6 H,U i6 V,U i6 C] 46)) a9 l9 c9 A):=(HI4.out.below hb).below (bal _ _)
 have HJ6:Hid (IRow .i8 (w6.alloc (.cells #[U i6 k,U i6 a,U i6 b,U i6 m,U i6 kh,U i6 kw,U i6 sh,U i6 sw,U i6 tp,U i6 lf,U i6 bt,U i6 rt,Sl wa lw wc,Sl ba lb bc,U i6 sm,U i6 ss,U i6 um,U i6 us,U i6 z,U i6 p,U i6 l2,U i6 h2,U i6 x0,U i6 y0,U i6 z0,U i6 H,U i6 V,U i6 C] 46)) a8 l8 c8 A'):=(HJ4.out.below hb).below (bal _ _)
 clear hb S4 HF c1 f1 z1 HI4 HJ4
 go_upto_region 4 with (refine wpList_st_new rfl 46 (.tmp 7) (.tmp 44) rfl w6 _ #[U i6 k,U i6 a,U i6 b,U i6 m,U i6 kh,U i6 kw,U i6 sh,U i6 sw,U i6 tp,U i6 lf,U i6 bt,U i6 rt,Sl wa lw wc,Sl ba lb bc,U i6 sm,U i6 ss,U i6 um,U i6 us,U i6 z,U i6 p,U i6 l2,U i6 h2,U i6 x0,U i6 y0,U i6 z0,U i6 H,U i6 V,U i6 C] rfl rfl (by kernel_rfl) rfl (by simp [Value.oneCell']) ?_)
 obtain⟨w7,hw7⟩:∃ w7,w6.alloc (.cells #[U i6 k,U i6 a,U i6 b,U i6 m,U i6 kh,U i6 kw,U i6 sh,U i6 sw,U i6 tp,U i6 lf,U i6 bt,U i6 rt,Sl wa lw wc,Sl ba lb bc,U i6 sm,U i6 ss,U i6 um,U i6 us,U i6 z,U i6 p,U i6 l2,U i6 h2,U i6 x0,U i6 y0,U i6 z0,U i6 H,U i6 V,U i6 C] 46)=w7:=⟨_,rfl⟩
 obtain⟨B3,hB3⟩:∃ B,w6.heap.size=B:=⟨_,rfl⟩
 rw [hw7,hB3] at S6
 rw [hw7] at HI6 HJ6
 rw [hw7,hB3]
 clear hw7 hB3
 go_wp2_with fail
 refine (fixed23_any _).mono ?_
 rintro e w8 ⟨rfl,hb⟩
 have S8:Hid (St W w8 _):=S6.out.call hb
 have HI8:Hid (IRow .i8 w8 a9 l9 c9 A):=HI6.out.below hb
 have HJ8:Hid (IRow .i8 w8 a8 l8 c8 A'):=HJ6.out.below hb
 clear hb S6 HI6 HJ6
 obtain⟨-,-,-,c3,f3,z3,c2,f2,z2,c1,f1,z1,-⟩:=S8.out.rules
 have hrc:=S8.out.h1
 go_wp2_with (refine wpList_load_row rfl 46 (.tmp 7) rfl _ rfl 46 _ (0,0) _ hrc Tryz.underlying46 rfl (by kernel_rfl) ?_)
 refine Calls.mono (HT.out _ S8.out.below) ?_
 rintro e w9 ⟨rfl,hb⟩
 have S9:Hid (St W (w9.alloc (.cells #[U i6 T1,U i6 T2] 28)) _):=(S8.out.call hb).new (c:=#[U i6 T1,U i6 T2]) (t:=28)
 have HI9:Hid (IRow .i8 (w9.alloc (.cells #[U i6 T1,U i6 T2] 28)) a9 l9 c9 A):=(HI8.out.below hb).below (bal _ _)
 have HJ9:Hid (IRow .i8 (w9.alloc (.cells #[U i6 T1,U i6 T2] 28)) a8 l8 c8 A'):=(HJ8.out.below hb).below (bal _ _)
 clear hb S8 HI8 HJ8 HT c3 f3 z3 c2 f2 z2 c1 f1 z1 hrc
 go_upto_region 9 with fail
 obtain⟨wA,hwA⟩:∃ wA,w9.alloc (.cells #[U i6 T1,U i6 T2] 28)=wA:=⟨_,rfl⟩
 obtain⟨B4,hB4⟩:∃ B,w9.heap.size=B:=⟨_,rfl⟩
 rw [hwA,hB4] at S9
 rw [hwA] at HI9 HJ9
 rw [hwA,hB4]
 clear hwA hB4
 obtain⟨c4,f4,z4,-,-,-,c3,f3,z3,c2,f2,z2,c1,f1,z1,-⟩:=S9.out.rules
 have hrc:=S9.out.h2
 go_wp2_with (refine wpList_load_row rfl 46 (.tmp 7) rfl _ rfl 46 _ (0,0) _ hrc Tryz.underlying46 rfl (by kernel_rfl) ?_)
 refine Calls.mono (HR1.out _ r A a9 l9 c9 S9.out.below HP1.out HI9.out) ?_
 rintro e wB ⟨rfl,hb⟩
 have SB:Hid (St W wB _):=S9.out.call hb
 have HJB:Hid (IRow .i8 wB a8 l8 c8 A'):=HJ9.out.below hb
 clear hb S9 HI9 HJ9 c4 f4 z4 c3 f3 z3 c2 f2 z2 c1 f1 z1 hrc
 obtain⟨c4,f4,z4,-,-,-,c3,f3,z3,c2,f2,z2,c1,f1,z1,-⟩:=SB.out.rules
 have hrc:=SB.out.h2
 go_wp2_with (refine wpList_load_row_g (by rfl) 46 (.tmp 7) rfl _ rfl 46 _ (0,0) _ hrc Tryz.underlying46 rfl (by kernel_rfl) ?_)
 refine Calls.mono (HR2.out _ s A' a8 l8 c8 SB.out.below HP2.out HJB.out) ?_
 rintro e wC ⟨rfl,hb⟩
 have SC:Hid (St W wC _):=SB.out.call hb
 clear hb SB HJB c4 f4 z4 c3 f3 z3 c2 f2 z2 c1 f1 z1 hrc
 go_wp2
 go_ret
 exact⟨rfl,SC.out.below⟩
theorem wbreaks_e (h w c lo hi:Int) (oa:Option Addr) (on oc:Nat) (ot op ch slo shi dp:Int) (W:World) (k a b m kh kw sh sw tp lf bt rt:Int) (wa:Option Addr) (lw wc:Nat) (ba:Option Addr) (lb bc:Nat) (sm ss um us z p l2 h2 x0 y0 z0 H V C:Int) (E:Int) (hE:E≠0)
  (HBr:Hid (∀ W',Below W.heap.size W W'→Calls Tryz.prog 11 #[.agg #[U i6 h,U i6 w,U i6 c,U i6 lo,U i6 hi,Sl oa on oc,U i6 ot],U i6 op,U i6 ch,.agg #[U i6 slo,U i6 shi],U i6 dp] W' fun e w'=>e=.returned (.tuple #[.agg #[U i6 0,U i6 0,U i6 0,Sl none 0 0],.bool false,U i6 E])∧Below W'.heap.size W' w'))
  (HF:Hid (∀ W',Below W.heap.size W W'→Calls Tryz.prog 7 #[.agg #[U i6 h,U i6 w,U i6 c,U i6 lo,U i6 hi,Sl oa on oc,U i6 ot],U i6 op,U i6 ch,.agg #[U i6 slo,U i6 shi]] W' fun e w'=>e=.returned (.tuple #[.agg #[U i6 k,U i6 a,U i6 b,U i6 m,U i6 kh,U i6 kw,U i6 sh,U i6 sw,U i6 tp,U i6 lf,U i6 bt,U i6 rt,Sl wa lw wc,Sl ba lb bc,U i6 sm,U i6 ss,U i6 um,U i6 us,U i6 z,U i6 p,U i6 l2,U i6 h2,U i6 x0,U i6 y0,U i6 z0,U i6 H,U i6 V,U i6 C],U i6 E])∧Below W'.heap.size W' w')) :
  Calls Tryz.prog 4 #[.agg #[U i6 h,U i6 w,U i6 c,U i6 lo,U i6 hi,Sl oa on oc,U i6 ot,U i6 op,U i6 ch,U i6 slo,U i6 shi,U i6 dp]] W fun e w'=>e=.returned (.bool true)∧Below W.heap.size W w':=by
 have hE2:(E == 0)=false:=by simp [hE]
 have hE3:(E != 0)=true:=by simp [hE]
 have s0:=(St.start W).new (c:=#[U i6 h,U i6 w,U i6 c,U i6 lo,U i6 hi,Sl oa on oc,U i6 ot,U i6 op,U i6 ch,U i6 slo,U i6 shi,U i6 dp]) (t:=30)
 obtain⟨c1,f1,z1,-⟩:=s0.rules
 go_enter Tryz.func4,Tryz.ntmps4
 go_wp2_with fail
 refine Calls.mono (HBr.out _ s0.below) ?_
 rintro e w2 ⟨rfl,hb⟩
 have S2:Hid (St W (w2.alloc (.cells #[U i6 0,U i6 0,U i6 0,Sl none 0 0] 54)) _):=(s0.call hb).new (c:=#[U i6 0,U i6 0,U i6 0,Sl none 0 0]) (t:=54)
 clear hb s0 HBr c1 f1 z1
 go_upto_region 2 with fail
 obtain⟨w3,hw3⟩:∃ w3,w2.alloc (.cells #[U i6 0,U i6 0,U i6 0,Sl none 0 0] 54)=w3:=⟨_,rfl⟩
 obtain⟨B1,hB1⟩:∃ B,w2.heap.size=B:=⟨_,rfl⟩
 rw [hw3,hB1] at S2
 rw [hw3,hB1]
 clear hw3 hB1
 obtain⟨-,-,-,c1,f1,z1,-⟩:=S2.out.rules
 go_wp2_with fail
 refine Calls.mono (HF.out _ S2.out.below) ?_
 rintro e w4 ⟨rfl,hb⟩
 have S4:Hid (St W (w4.alloc (.cells #[U i6 k,U i6 a,U i6 b,U i6 m,U i6 kh,U i6 kw,U i6 sh,U i6 sw,U i6 tp,U i6 lf,U i6 bt,U i6 rt,Sl wa lw wc,Sl ba lb bc,U i6 sm,U i6 ss,U i6 um,U i6 us,U i6 z,U i6 p,U i6 l2,U i6 h2,U i6 x0,U i6 y0,U i6 z0,U i6 H,U i6 V,U i6 C] 46)) _):=(S2.out.call hb).new (c:=#[U i6 k,U i6 a,U i6 b,U i6 m,U i6 kh,U i6 kw,U i6 sh,U i6 sw,U i6 tp,U i6 lf,U i6 bt,U i6 rt,Sl wa lw wc,Sl ba lb bc,U i6 sm,U i6 ss,U i6 um,U i6 us,U i6 z,U i6 p,U i6 l2,U i6 h2,U i6 x0,U i6 y0,U i6 z0,U i6 H,U i6 V,U i6 C]) (t:=46)
 clear hb S2 HF c1 f1 z1
 go_upto_region 3 with (refine wpList_st_new rfl 46 (.tmp 6) (.tmp 34) rfl w4 _ #[U i6 k,U i6 a,U i6 b,U i6 m,U i6 kh,U i6 kw,U i6 sh,U i6 sw,U i6 tp,U i6 lf,U i6 bt,U i6 rt,Sl wa lw wc,Sl ba lb bc,U i6 sm,U i6 ss,U i6 um,U i6 us,U i6 z,U i6 p,U i6 l2,U i6 h2,U i6 x0,U i6 y0,U i6 z0,U i6 H,U i6 V,U i6 C] rfl rfl (by kernel_rfl) rfl (by simp [Value.oneCell']) ?_)
 obtain⟨w5,hw5⟩:∃ w5,w4.alloc (.cells #[U i6 k,U i6 a,U i6 b,U i6 m,U i6 kh,U i6 kw,U i6 sh,U i6 sw,U i6 tp,U i6 lf,U i6 bt,U i6 rt,Sl wa lw wc,Sl ba lb bc,U i6 sm,U i6 ss,U i6 um,U i6 us,U i6 z,U i6 p,U i6 l2,U i6 h2,U i6 x0,U i6 y0,U i6 z0,U i6 H,U i6 V,U i6 C] 46)=w5:=⟨_,rfl⟩
 obtain⟨B2,hB2⟩:∃ B,w4.heap.size=B:=⟨_,rfl⟩
 rw [hw5,hB2] at S4
 rw [hw5,hB2]
 clear hw5 hB2
 have s9:=S4.out
 obtain⟨c1,g1,c2,g2,c3,g3,-⟩:=rulesQ_st s9
 have hne:=Nonempty.intro (Wd.mk _ s9)
 refine region_held s9 (by kernel_rfl) (by kernel_rfl) ?_
 repeat (first
  | (go_big_quiet_want;refine quiet_ld 46 (.tmp 6) rfl _ rfl 46 _ _ (Wd.hp List.mem_cons_self) Tryz.underlying46 rfl (by kernel_rfl) rfl ?_;go_simp;go_big_quiet_on)
  | (go_big_quiet_step (fail)))
 refine wpQuiet_nil ?_
 intro _ hw'
 obtain⟨nq,rfl⟩:=hw'
 have b8:=nq.h
 obtain⟨w8,hw8⟩:∃ w,nq.w=w:=⟨_,rfl⟩
 rw [hw8] at b8 ⊢
 have S8:Hid (St W w8 _):=b8
 clear c1 g1 c2 g2 c3 g3 hne s9 hw8 b8 S4
 obtain⟨c3,f3,z3,c2,f2,z2,c1,f1,z1,-⟩:=S8.out.rules
 go_wp2_with fail
 refine (fixed23_any _).mono ?_
 rintro e w9 ⟨rfl,hb⟩
 have S9:Hid (St W w9 _):=S8.out.call hb
 clear hb S8 c3 f3 z3 c2 f2 z2 c1 f1 z1
 obtain⟨-,-,-,c2,f2,z2,c1,f1,z1,-⟩:=S9.out.rules
 go_wp2
 go_ret
 exact⟨rfl,S9.out.below⟩
theorem wbreaks_0 (h w c lo hi:Int) (oa:Option Addr) (on oc:Nat) (ot op ch slo shi dp:Int) (W:World) (k a b m kh kw sh sw tp lf bt rt:Int) (wa:Option Addr) (lw wc:Nat) (ba:Option Addr) (lb bc:Nat) (sm ss um us z p l2 h2 x0 y0 z0 H V C:Int) (hd:dp<1)
  (HBr:Hid (∀ W',Below W.heap.size W W'→Calls Tryz.prog 11 #[.agg #[U i6 h,U i6 w,U i6 c,U i6 lo,U i6 hi,Sl oa on oc,U i6 ot],U i6 op,U i6 ch,.agg #[U i6 slo,U i6 shi],U i6 dp] W' fun e w'=>e=.returned (.tuple #[.agg #[U i6 0,U i6 0,U i6 0,Sl none 0 0],.bool false,U i6 151])∧Below W'.heap.size W' w'))
  (HF:Hid (∀ W',Below W.heap.size W W'→Calls Tryz.prog 7 #[.agg #[U i6 h,U i6 w,U i6 c,U i6 lo,U i6 hi,Sl oa on oc,U i6 ot],U i6 op,U i6 ch,.agg #[U i6 slo,U i6 shi]] W' fun e w'=>e=.returned (.tuple #[.agg #[U i6 k,U i6 a,U i6 b,U i6 m,U i6 kh,U i6 kw,U i6 sh,U i6 sw,U i6 tp,U i6 lf,U i6 bt,U i6 rt,Sl wa lw wc,Sl ba lb bc,U i6 sm,U i6 ss,U i6 um,U i6 us,U i6 z,U i6 p,U i6 l2,U i6 h2,U i6 x0,U i6 y0,U i6 z0,U i6 H,U i6 V,U i6 C],U i6 0])∧Below W'.heap.size W' w')) :
  Calls Tryz.prog 4 #[.agg #[U i6 h,U i6 w,U i6 c,U i6 lo,U i6 hi,Sl oa on oc,U i6 ot,U i6 op,U i6 ch,U i6 slo,U i6 shi,U i6 dp]] W fun e w'=>e=.returned (.bool true)∧Below W.heap.size W w':=by
 have hdt:decide (dp<1)=true:=decide_eq_true hd
 have s0:=(St.start W).new (c:=#[U i6 h,U i6 w,U i6 c,U i6 lo,U i6 hi,Sl oa on oc,U i6 ot,U i6 op,U i6 ch,U i6 slo,U i6 shi,U i6 dp]) (t:=30)
 obtain⟨c1,f1,z1,-⟩:=s0.rules
 go_enter Tryz.func4,Tryz.ntmps4
 go_wp2_with fail
 refine Calls.mono (HBr.out _ s0.below) ?_
 rintro e w2 ⟨rfl,hb⟩
 have S2:Hid (St W (w2.alloc (.cells #[U i6 0,U i6 0,U i6 0,Sl none 0 0] 54)) _):=(s0.call hb).new (c:=#[U i6 0,U i6 0,U i6 0,Sl none 0 0]) (t:=54)
 clear hb s0 HBr c1 f1 z1
 go_upto_region 2 with fail
 obtain⟨w3,hw3⟩:∃ w3,w2.alloc (.cells #[U i6 0,U i6 0,U i6 0,Sl none 0 0] 54)=w3:=⟨_,rfl⟩
 obtain⟨B1,hB1⟩:∃ B,w2.heap.size=B:=⟨_,rfl⟩
 rw [hw3,hB1] at S2
 rw [hw3,hB1]
 clear hw3 hB1
 obtain⟨-,-,-,c1,f1,z1,-⟩:=S2.out.rules
 go_wp2_with fail
 refine Calls.mono (HF.out _ S2.out.below) ?_
 rintro e w4 ⟨rfl,hb⟩
 have S4:Hid (St W (w4.alloc (.cells #[U i6 k,U i6 a,U i6 b,U i6 m,U i6 kh,U i6 kw,U i6 sh,U i6 sw,U i6 tp,U i6 lf,U i6 bt,U i6 rt,Sl wa lw wc,Sl ba lb bc,U i6 sm,U i6 ss,U i6 um,U i6 us,U i6 z,U i6 p,U i6 l2,U i6 h2,U i6 x0,U i6 y0,U i6 z0,U i6 H,U i6 V,U i6 C] 46)) _):=(S2.out.call hb).new (c:=#[U i6 k,U i6 a,U i6 b,U i6 m,U i6 kh,U i6 kw,U i6 sh,U i6 sw,U i6 tp,U i6 lf,U i6 bt,U i6 rt,Sl wa lw wc,Sl ba lb bc,U i6 sm,U i6 ss,U i6 um,U i6 us,U i6 z,U i6 p,U i6 l2,U i6 h2,U i6 x0,U i6 y0,U i6 z0,U i6 H,U i6 V,U i6 C]) (t:=46)
 clear hb S2 HF c1 f1 z1
 go_upto_region 3 with (refine wpList_st_new rfl 46 (.tmp 6) (.tmp 34) rfl w4 _ #[U i6 k,U i6 a,U i6 b,U i6 m,U i6 kh,U i6 kw,U i6 sh,U i6 sw,U i6 tp,U i6 lf,U i6 bt,U i6 rt,Sl wa lw wc,Sl ba lb bc,U i6 sm,U i6 ss,U i6 um,U i6 us,U i6 z,U i6 p,U i6 l2,U i6 h2,U i6 x0,U i6 y0,U i6 z0,U i6 H,U i6 V,U i6 C] rfl rfl (by kernel_rfl) rfl (by simp [Value.oneCell']) ?_)
 obtain⟨w5,hw5⟩:∃ w5,w4.alloc (.cells #[U i6 k,U i6 a,U i6 b,U i6 m,U i6 kh,U i6 kw,U i6 sh,U i6 sw,U i6 tp,U i6 lf,U i6 bt,U i6 rt,Sl wa lw wc,Sl ba lb bc,U i6 sm,U i6 ss,U i6 um,U i6 us,U i6 z,U i6 p,U i6 l2,U i6 h2,U i6 x0,U i6 y0,U i6 z0,U i6 H,U i6 V,U i6 C] 46)=w5:=⟨_,rfl⟩
 obtain⟨B2,hB2⟩:∃ B,w4.heap.size=B:=⟨_,rfl⟩
 rw [hw5,hB2] at S4
 rw [hw5,hB2]
 clear hw5 hB2
 have s9:=S4.out
 obtain⟨c1,g1,c2,g2,c3,g3,-⟩:=rulesQ_st s9
 have hne:=Nonempty.intro (Wd.mk _ s9)
 refine region_held s9 (by kernel_rfl) (by kernel_rfl) ?_
 repeat (first
  | (go_big_quiet_want;refine quiet_ld 46 (.tmp 6) rfl _ rfl 46 _ _ (Wd.hp List.mem_cons_self) Tryz.underlying46 rfl (by kernel_rfl) rfl ?_;go_simp;go_big_quiet_on)
  | (go_big_quiet_step (fail)))
 refine wpQuiet_nil ?_
 intro _ hw'
 obtain⟨nq,rfl⟩:=hw'
 have b8:=nq.h
 obtain⟨w8,hw8⟩:∃ w,nq.w=w:=⟨_,rfl⟩
 rw [hw8] at b8 ⊢
 have S8:Hid (St W w8 _):=b8
 clear c1 g1 c2 g2 c3 g3 hne s9 hw8 b8 S4
 obtain⟨c3,f3,z3,c2,f2,z2,c1,f1,z1,-⟩:=S8.out.rules
 go_wp2_with fail
 refine (fixed23_any _).mono ?_
 rintro e w9 ⟨rfl,hb⟩
 have S9:Hid (St W w9 _):=S8.out.call hb
 clear hb S8 c3 f3 z3 c2 f2 z2 c1 f1 z1
 obtain⟨-,-,-,c2,f2,z2,c1,f1,z1,-⟩:=S9.out.rules
 go_wp2
 go_ret
 exact⟨rfl,S9.out.below⟩
theorem wbreaks_n (h w c lo hi:Int) (oa:Option Addr) (on oc:Nat) (ot op ch slo shi dp:Int) (W:World) (k a b m kh kw sh sw tp lf bt rt:Int) (wa:Option Addr) (lw wc:Nat) (ba:Option Addr) (lb bc:Nat) (sm ss um us z p l2 h2 x0 y0 z0 H V C:Int) (N:Int) (hd:¬ dp<1) (hn:N<dp)
  (HBr:Hid (∀ W',Below W.heap.size W W'→Calls Tryz.prog 11 #[.agg #[U i6 h,U i6 w,U i6 c,U i6 lo,U i6 hi,Sl oa on oc,U i6 ot],U i6 op,U i6 ch,.agg #[U i6 slo,U i6 shi],U i6 dp] W' fun e w'=>e=.returned (.tuple #[.agg #[U i6 0,U i6 0,U i6 0,Sl none 0 0],.bool false,U i6 151])∧Below W'.heap.size W' w'))
  (HF:Hid (∀ W',Below W.heap.size W W'→Calls Tryz.prog 7 #[.agg #[U i6 h,U i6 w,U i6 c,U i6 lo,U i6 hi,Sl oa on oc,U i6 ot],U i6 op,U i6 ch,.agg #[U i6 slo,U i6 shi]] W' fun e w'=>e=.returned (.tuple #[.agg #[U i6 k,U i6 a,U i6 b,U i6 m,U i6 kh,U i6 kw,U i6 sh,U i6 sw,U i6 tp,U i6 lf,U i6 bt,U i6 rt,Sl wa lw wc,Sl ba lb bc,U i6 sm,U i6 ss,U i6 um,U i6 us,U i6 z,U i6 p,U i6 l2,U i6 h2,U i6 x0,U i6 y0,U i6 z0,U i6 H,U i6 V,U i6 C],U i6 0])∧Below W'.heap.size W' w'))
  (HN:Hid (∀ W',Below W.heap.size W W'→Calls Tryz.prog 12 #[.agg #[U i6 k,U i6 a,U i6 b,U i6 m,U i6 kh,U i6 kw,U i6 sh,U i6 sw,U i6 tp,U i6 lf,U i6 bt,U i6 rt,Sl wa lw wc,Sl ba lb bc,U i6 sm,U i6 ss,U i6 um,U i6 us,U i6 z,U i6 p,U i6 l2,U i6 h2,U i6 x0,U i6 y0,U i6 z0,U i6 H,U i6 V,U i6 C]] W' fun e w'=>e=.returned (U i6 N)∧Below W'.heap.size W' w')) :
  Calls Tryz.prog 4 #[.agg #[U i6 h,U i6 w,U i6 c,U i6 lo,U i6 hi,Sl oa on oc,U i6 ot,U i6 op,U i6 ch,U i6 slo,U i6 shi,U i6 dp]] W fun e w'=>e=.returned (.bool true)∧Below W.heap.size W w':=by
 have hdt:decide (dp<1)=false:=decide_eq_false hd
 have hnt:decide (N<dp)=true:=decide_eq_true hn
 have s0:=(St.start W).new (c:=#[U i6 h,U i6 w,U i6 c,U i6 lo,U i6 hi,Sl oa on oc,U i6 ot,U i6 op,U i6 ch,U i6 slo,U i6 shi,U i6 dp]) (t:=30)
 obtain⟨c1,f1,z1,-⟩:=s0.rules
 go_enter Tryz.func4,Tryz.ntmps4
 go_wp2_with fail
 refine Calls.mono (HBr.out _ s0.below) ?_
 rintro e w2 ⟨rfl,hb⟩
 have S2:Hid (St W (w2.alloc (.cells #[U i6 0,U i6 0,U i6 0,Sl none 0 0] 54)) _):=(s0.call hb).new (c:=#[U i6 0,U i6 0,U i6 0,Sl none 0 0]) (t:=54)
 clear hb s0 HBr c1 f1 z1
 go_upto_region 2 with fail
 obtain⟨w3,hw3⟩:∃ w3,w2.alloc (.cells #[U i6 0,U i6 0,U i6 0,Sl none 0 0] 54)=w3:=⟨_,rfl⟩
 obtain⟨B1,hB1⟩:∃ B,w2.heap.size=B:=⟨_,rfl⟩
 rw [hw3,hB1] at S2
 rw [hw3,hB1]
 clear hw3 hB1
 obtain⟨-,-,-,c1,f1,z1,-⟩:=S2.out.rules
 go_wp2_with fail
 refine Calls.mono (HF.out _ S2.out.below) ?_
 rintro e w4 ⟨rfl,hb⟩
 have S4:Hid (St W (w4.alloc (.cells #[U i6 k,U i6 a,U i6 b,U i6 m,U i6 kh,U i6 kw,U i6 sh,U i6 sw,U i6 tp,U i6 lf,U i6 bt,U i6 rt,Sl wa lw wc,Sl ba lb bc,U i6 sm,U i6 ss,U i6 um,U i6 us,U i6 z,U i6 p,U i6 l2,U i6 h2,U i6 x0,U i6 y0,U i6 z0,U i6 H,U i6 V,U i6 C] 46)) _):=(S2.out.call hb).new (c:=#[U i6 k,U i6 a,U i6 b,U i6 m,U i6 kh,U i6 kw,U i6 sh,U i6 sw,U i6 tp,U i6 lf,U i6 bt,U i6 rt,Sl wa lw wc,Sl ba lb bc,U i6 sm,U i6 ss,U i6 um,U i6 us,U i6 z,U i6 p,U i6 l2,U i6 h2,U i6 x0,U i6 y0,U i6 z0,U i6 H,U i6 V,U i6 C]) (t:=46)
 clear hb S2 HF c1 f1 z1
 go_upto_region 3 with (refine wpList_st_new rfl 46 (.tmp 6) (.tmp 34) rfl w4 _ #[U i6 k,U i6 a,U i6 b,U i6 m,U i6 kh,U i6 kw,U i6 sh,U i6 sw,U i6 tp,U i6 lf,U i6 bt,U i6 rt,Sl wa lw wc,Sl ba lb bc,U i6 sm,U i6 ss,U i6 um,U i6 us,U i6 z,U i6 p,U i6 l2,U i6 h2,U i6 x0,U i6 y0,U i6 z0,U i6 H,U i6 V,U i6 C] rfl rfl (by kernel_rfl) rfl (by simp [Value.oneCell']) ?_)
 obtain⟨w5,hw5⟩:∃ w5,w4.alloc (.cells #[U i6 k,U i6 a,U i6 b,U i6 m,U i6 kh,U i6 kw,U i6 sh,U i6 sw,U i6 tp,U i6 lf,U i6 bt,U i6 rt,Sl wa lw wc,Sl ba lb bc,U i6 sm,U i6 ss,U i6 um,U i6 us,U i6 z,U i6 p,U i6 l2,U i6 h2,U i6 x0,U i6 y0,U i6 z0,U i6 H,U i6 V,U i6 C] 46)=w5:=⟨_,rfl⟩
 obtain⟨B2,hB2⟩:∃ B,w4.heap.size=B:=⟨_,rfl⟩
 rw [hw5,hB2] at S4
 rw [hw5,hB2]
 clear hw5 hB2
 have s9:=S4.out
 obtain⟨c1,g1,c2,g2,c3,g3,-⟩:=rulesQ_st s9
 have hne:=Nonempty.intro (Wd.mk _ s9)
 refine region_held s9 (by kernel_rfl) (by kernel_rfl) ?_
 repeat (first
  | (go_big_quiet_want;refine quiet_ld 46 (.tmp 6) rfl _ rfl 46 _ _ (Wd.hp List.mem_cons_self) Tryz.underlying46 rfl (by kernel_rfl) rfl ?_;go_simp;go_big_quiet_on)
  | (go_big_quiet_step ((go_at_call 12;exact held_of (HN.out _ (Wd.h _).below)))))
 refine wpQuiet_nil ?_
 intro _ hw'
 obtain⟨nq,rfl⟩:=hw'
 have b8:=nq.h
 obtain⟨w8,hw8⟩:∃ w,nq.w=w:=⟨_,rfl⟩
 rw [hw8] at b8 ⊢
 have S8:Hid (St W w8 _):=b8
 clear c1 g1 c2 g2 c3 g3 hne s9 hw8 b8 S4
 obtain⟨c3,f3,z3,c2,f2,z2,c1,f1,z1,-⟩:=S8.out.rules
 go_wp2_with fail
 refine (fixed23_any _).mono ?_
 rintro e w9 ⟨rfl,hb⟩
 have S9:Hid (St W w9 _):=S8.out.call hb
 clear hb S8 c3 f3 z3 c2 f2 z2 c1 f1 z1
 obtain⟨-,-,-,c2,f2,z2,c1,f1,z1,-⟩:=S9.out.rules
 go_wp2
 go_ret
 exact⟨rfl,S9.out.below⟩
theorem wbreaks_s (h w c lo hi:Int) (oa:Option Addr) (on oc:Nat) (ot op ch slo shi dp:Int) (W:World) (k a b m kh kw sh sw tp lf bt rt:Int) (wa:Option Addr) (lw wc:Nat) (ba:Option Addr) (lb bc:Nat) (sm ss um us z p l2 h2 x0 y0 z0 H V C:Int) (N:Int) (hd:¬ dp<1) (hn:¬ N<dp)
  (HBr:Hid (∀ W',Below W.heap.size W W'→Calls Tryz.prog 11 #[.agg #[U i6 h,U i6 w,U i6 c,U i6 lo,U i6 hi,Sl oa on oc,U i6 ot],U i6 op,U i6 ch,.agg #[U i6 slo,U i6 shi],U i6 dp] W' fun e w'=>e=.returned (.tuple #[.agg #[U i6 0,U i6 0,U i6 0,Sl none 0 0],.bool false,U i6 0])∧Below W'.heap.size W' w'))
  (HF:Hid (∀ W',Below W.heap.size W W'→Calls Tryz.prog 7 #[.agg #[U i6 h,U i6 w,U i6 c,U i6 lo,U i6 hi,Sl oa on oc,U i6 ot],U i6 op,U i6 ch,.agg #[U i6 slo,U i6 shi]] W' fun e w'=>e=.returned (.tuple #[.agg #[U i6 k,U i6 a,U i6 b,U i6 m,U i6 kh,U i6 kw,U i6 sh,U i6 sw,U i6 tp,U i6 lf,U i6 bt,U i6 rt,Sl wa lw wc,Sl ba lb bc,U i6 sm,U i6 ss,U i6 um,U i6 us,U i6 z,U i6 p,U i6 l2,U i6 h2,U i6 x0,U i6 y0,U i6 z0,U i6 H,U i6 V,U i6 C],U i6 0])∧Below W'.heap.size W' w'))
  (HN:Hid (∀ W',Below W.heap.size W W'→Calls Tryz.prog 12 #[.agg #[U i6 k,U i6 a,U i6 b,U i6 m,U i6 kh,U i6 kw,U i6 sh,U i6 sw,U i6 tp,U i6 lf,U i6 bt,U i6 rt,Sl wa lw wc,Sl ba lb bc,U i6 sm,U i6 ss,U i6 um,U i6 us,U i6 z,U i6 p,U i6 l2,U i6 h2,U i6 x0,U i6 y0,U i6 z0,U i6 H,U i6 V,U i6 C]] W' fun e w'=>e=.returned (U i6 N)∧Below W'.heap.size W' w'))
  (HSf:Hid (∀ W',Below W.heap.size W W'→Calls Tryz.prog 13 #[.agg #[U i6 k,U i6 a,U i6 b,U i6 m,U i6 kh,U i6 kw,U i6 sh,U i6 sw,U i6 tp,U i6 lf,U i6 bt,U i6 rt,Sl wa lw wc,Sl ba lb bc,U i6 sm,U i6 ss,U i6 um,U i6 us,U i6 z,U i6 p,U i6 l2,U i6 h2,U i6 x0,U i6 y0,U i6 z0,U i6 H,U i6 V,U i6 C],U i6 ch,.agg #[U i6 slo,U i6 shi],U i6 dp] W' fun e w'=>e=.returned (.bool true)∧Below W'.heap.size W' w')) :
  Calls Tryz.prog 4 #[.agg #[U i6 h,U i6 w,U i6 c,U i6 lo,U i6 hi,Sl oa on oc,U i6 ot,U i6 op,U i6 ch,U i6 slo,U i6 shi,U i6 dp]] W fun e w'=>e=.returned (.bool true)∧Below W.heap.size W w':=by
 have hdt:decide (dp<1)=false:=decide_eq_false hd
 have hnt:decide (N<dp)=false:=decide_eq_false hn
 have s0:=(St.start W).new (c:=#[U i6 h,U i6 w,U i6 c,U i6 lo,U i6 hi,Sl oa on oc,U i6 ot,U i6 op,U i6 ch,U i6 slo,U i6 shi,U i6 dp]) (t:=30)
 obtain⟨c1,f1,z1,-⟩:=s0.rules
 go_enter Tryz.func4,Tryz.ntmps4
 go_wp2_with fail
 refine Calls.mono (HBr.out _ s0.below) ?_
 rintro e w2 ⟨rfl,hb⟩
 have S2:Hid (St W (w2.alloc (.cells #[U i6 0,U i6 0,U i6 0,Sl none 0 0] 54)) _):=(s0.call hb).new (c:=#[U i6 0,U i6 0,U i6 0,Sl none 0 0]) (t:=54)
 clear hb s0 HBr c1 f1 z1
 go_upto_region 2 with fail
 obtain⟨w3,hw3⟩:∃ w3,w2.alloc (.cells #[U i6 0,U i6 0,U i6 0,Sl none 0 0] 54)=w3:=⟨_,rfl⟩
 obtain⟨B1,hB1⟩:∃ B,w2.heap.size=B:=⟨_,rfl⟩
 rw [hw3,hB1] at S2
 rw [hw3,hB1]
 clear hw3 hB1
 obtain⟨-,-,-,c1,f1,z1,-⟩:=S2.out.rules
 go_wp2_with fail
 refine Calls.mono (HF.out _ S2.out.below) ?_
 rintro e w4 ⟨rfl,hb⟩
 have S4:Hid (St W (w4.alloc (.cells #[U i6 k,U i6 a,U i6 b,U i6 m,U i6 kh,U i6 kw,U i6 sh,U i6 sw,U i6 tp,U i6 lf,U i6 bt,U i6 rt,Sl wa lw wc,Sl ba lb bc,U i6 sm,U i6 ss,U i6 um,U i6 us,U i6 z,U i6 p,U i6 l2,U i6 h2,U i6 x0,U i6 y0,U i6 z0,U i6 H,U i6 V,U i6 C] 46)) _):=(S2.out.call hb).new (c:=#[U i6 k,U i6 a,U i6 b,U i6 m,U i6 kh,U i6 kw,U i6 sh,U i6 sw,U i6 tp,U i6 lf,U i6 bt,U i6 rt,Sl wa lw wc,Sl ba lb bc,U i6 sm,U i6 ss,U i6 um,U i6 us,U i6 z,U i6 p,U i6 l2,U i6 h2,U i6 x0,U i6 y0,U i6 z0,U i6 H,U i6 V,U i6 C]) (t:=46)
 clear hb S2 HF c1 f1 z1
 go_upto_region 3 with (refine wpList_st_new rfl 46 (.tmp 6) (.tmp 34) rfl w4 _ #[U i6 k,U i6 a,U i6 b,U i6 m,U i6 kh,U i6 kw,U i6 sh,U i6 sw,U i6 tp,U i6 lf,U i6 bt,U i6 rt,Sl wa lw wc,Sl ba lb bc,U i6 sm,U i6 ss,U i6 um,U i6 us,U i6 z,U i6 p,U i6 l2,U i6 h2,U i6 x0,U i6 y0,U i6 z0,U i6 H,U i6 V,U i6 C] rfl rfl (by kernel_rfl) rfl (by simp [Value.oneCell']) ?_)
 obtain⟨w5,hw5⟩:∃ w5,w4.alloc (.cells #[U i6 k,U i6 a,U i6 b,U i6 m,U i6 kh,U i6 kw,U i6 sh,U i6 sw,U i6 tp,U i6 lf,U i6 bt,U i6 rt,Sl wa lw wc,Sl ba lb bc,U i6 sm,U i6 ss,U i6 um,U i6 us,U i6 z,U i6 p,U i6 l2,U i6 h2,U i6 x0,U i6 y0,U i6 z0,U i6 H,U i6 V,U i6 C] 46)=w5:=⟨_,rfl⟩
 obtain⟨B2,hB2⟩:∃ B,w4.heap.size=B:=⟨_,rfl⟩
 rw [hw5,hB2] at S4
 rw [hw5,hB2]
 clear hw5 hB2
 have s9:=S4.out
 obtain⟨c1,g1,c2,g2,c3,g3,-⟩:=rulesQ_st s9
 have hne:=Nonempty.intro (Wd.mk _ s9)
 refine region_held s9 (by kernel_rfl) (by kernel_rfl) ?_
 repeat (first
  | (go_big_quiet_want;refine quiet_ld 46 (.tmp 6) rfl _ rfl 46 _ _ (Wd.hp List.mem_cons_self) Tryz.underlying46 rfl (by kernel_rfl) rfl ?_;go_simp;go_big_quiet_on)
  | (go_big_quiet_step ((go_at_call 12;exact held_of (HN.out _ (Wd.h _).below)))))
 refine wpQuiet_nil ?_
 intro _ hw'
 obtain⟨nq,rfl⟩:=hw'
 have b8:=nq.h
 obtain⟨w8,hw8⟩:∃ w,nq.w=w:=⟨_,rfl⟩
 rw [hw8] at b8 ⊢
 have S8:Hid (St W w8 _):=b8
 clear c1 g1 c2 g2 c3 g3 hne s9 hw8 b8 S4
 obtain⟨c3,f3,z3,c2,f2,z2,c1,f1,z1,-⟩:=S8.out.rules
 go_wp2_with fail
 refine (fixed23_any _).mono ?_
 rintro e w9 ⟨rfl,hb⟩
 have S9:Hid (St W w9 _):=S8.out.call hb
 clear hb S8 c3 f3 z3 c2 f2 z2 c1 f1 z1
 obtain⟨-,-,-,c2,f2,z2,c1,f1,z1,-⟩:=S9.out.rules
 have hrc:=S9.out.h1
 go_wp2_with (refine wpList_load_row_g (by rfl) 46 (.tmp 6) rfl _ rfl 46 _ (0,0) _ hrc Tryz.underlying46 rfl (by kernel_rfl) ?_)
 refine Calls.mono (HSf.out _ S9.out.below) ?_
 rintro e wA ⟨rfl,hb⟩
 have SA:Hid (St W wA _):=S9.out.call hb
 clear hb S9 c2 f2 z2 c1 f1 z1 hrc
 go_wp2
 go_ret
 exact⟨rfl,SA.out.below⟩
theorem wbreaks_w (h w c lo hi:Int) (oa:Option Addr) (on oc:Nat) (ot op ch slo shi dp:Int) (W:World) (k a b m kh kw sh sw tp lf bt rt:Int) (wa:Option Addr) (lw wc:Nat) (ba:Option Addr) (lb bc:Nat) (sm ss um us z p l2 h2 x0 y0 z0 H V C:Int) (N:Int) (PK:Nat→Nat→Nat→List Int→Prop) (hd:¬ dp<1) (hn:¬ N<dp)
  (HBr:Hid (∀ W',Below W.heap.size W W'→Calls Tryz.prog 11 #[.agg #[U i6 h,U i6 w,U i6 c,U i6 lo,U i6 hi,Sl oa on oc,U i6 ot],U i6 op,U i6 ch,.agg #[U i6 slo,U i6 shi],U i6 dp] W' fun e w'=>(∃ (r f g:Nat) (A:List Int) (v':Value),PK r f g A∧e=.returned (.tuple #[.agg #[U i6 (r:Int),U i6 (f:Int),U i6 (g:Int),v'],.bool true,U i6 0])∧Own .i8 71 w' W'.heap.size v' A)∧Below W'.heap.size W' w'))
  (HF:Hid (∀ W',Below W.heap.size W W'→Calls Tryz.prog 7 #[.agg #[U i6 h,U i6 w,U i6 c,U i6 lo,U i6 hi,Sl oa on oc,U i6 ot],U i6 op,U i6 ch,.agg #[U i6 slo,U i6 shi]] W' fun e w'=>e=.returned (.tuple #[.agg #[U i6 k,U i6 a,U i6 b,U i6 m,U i6 kh,U i6 kw,U i6 sh,U i6 sw,U i6 tp,U i6 lf,U i6 bt,U i6 rt,Sl wa lw wc,Sl ba lb bc,U i6 sm,U i6 ss,U i6 um,U i6 us,U i6 z,U i6 p,U i6 l2,U i6 h2,U i6 x0,U i6 y0,U i6 z0,U i6 H,U i6 V,U i6 C],U i6 0])∧Below W'.heap.size W' w'))
  (HN:Hid (∀ W',Below W.heap.size W W'→Calls Tryz.prog 12 #[.agg #[U i6 k,U i6 a,U i6 b,U i6 m,U i6 kh,U i6 kw,U i6 sh,U i6 sw,U i6 tp,U i6 lf,U i6 bt,U i6 rt,Sl wa lw wc,Sl ba lb bc,U i6 sm,U i6 ss,U i6 um,U i6 us,U i6 z,U i6 p,U i6 l2,U i6 h2,U i6 x0,U i6 y0,U i6 z0,U i6 H,U i6 V,U i6 C]] W' fun e w'=>e=.returned (U i6 N)∧Below W'.heap.size W' w'))
  (HSf:Hid (∀ W',Below W.heap.size W W'→Calls Tryz.prog 13 #[.agg #[U i6 k,U i6 a,U i6 b,U i6 m,U i6 kh,U i6 kw,U i6 sh,U i6 sw,U i6 tp,U i6 lf,U i6 bt,U i6 rt,Sl wa lw wc,Sl ba lb bc,U i6 sm,U i6 ss,U i6 um,U i6 us,U i6 z,U i6 p,U i6 l2,U i6 h2,U i6 x0,U i6 y0,U i6 z0,U i6 H,U i6 V,U i6 C],U i6 ch,.agg #[U i6 slo,U i6 shi],U i6 dp] W' fun e w'=>e=.returned (.bool false)∧Below W'.heap.size W' w'))
  (HLk:Hid (∀ W' (r f g:Nat) A a9 l9 c9,Below W.heap.size W W'→PK r f g A→IRow .i8 W' a9 l9 c9 A→Calls Tryz.prog 14 #[.agg #[U i6 k,U i6 a,U i6 b,U i6 m,U i6 kh,U i6 kw,U i6 sh,U i6 sw,U i6 tp,U i6 lf,U i6 bt,U i6 rt,Sl wa lw wc,Sl ba lb bc,U i6 sm,U i6 ss,U i6 um,U i6 us,U i6 z,U i6 p,U i6 l2,U i6 h2,U i6 x0,U i6 y0,U i6 z0,U i6 H,U i6 V,U i6 C],U i6 ch,.agg #[U i6 slo,U i6 shi],.agg #[U i6 (r:Int),U i6 (f:Int),U i6 (g:Int),Sl a9 l9 c9],U i6 dp] W' fun e w'=>e=.returned (.bool true)∧Below W'.heap.size W' w')) :
  Calls Tryz.prog 4 #[.agg #[U i6 h,U i6 w,U i6 c,U i6 lo,U i6 hi,Sl oa on oc,U i6 ot,U i6 op,U i6 ch,U i6 slo,U i6 shi,U i6 dp]] W fun e w'=>e=.returned (.bool true)∧Below W.heap.size W w':=by
 have hdt:decide (dp<1)=false:=decide_eq_false hd
 have hnt:decide (N<dp)=false:=decide_eq_false hn
 have s0:=(St.start W).new (c:=#[U i6 h,U i6 w,U i6 c,U i6 lo,U i6 hi,Sl oa on oc,U i6 ot,U i6 op,U i6 ch,U i6 slo,U i6 shi,U i6 dp]) (t:=30)
 obtain⟨c1,f1,z1,-⟩:=s0.rules
 go_enter Tryz.func4,Tryz.ntmps4
 go_wp2_with fail
 refine Calls.mono (HBr.out _ s0.below) ?_
 rintro e w2 ⟨⟨r,f,g,A,v',hp,rfl,hO⟩,hb⟩
 obtain⟨a9,c9,rfl,hI,-⟩:=hO.row
 obtain⟨l9,hl9⟩:∃ l,A.length=l:=⟨_,rfl⟩
 rw [hl9] at hI ⊢
 have S2:Hid (St W (w2.alloc (.cells #[U i6 (r:Int),U i6 (f:Int),U i6 (g:Int),Sl a9 l9 c9] 54)) _):=(s0.call hb).new (c:=#[U i6 (r:Int),U i6 (f:Int),U i6 (g:Int),Sl a9 l9 c9]) (t:=54)
 have HI2:Hid (IRow .i8 (w2.alloc (.cells #[U i6 (r:Int),U i6 (f:Int),U i6 (g:Int),Sl a9 l9 c9] 54)) a9 l9 c9 A):=hI.below (bal _ _)
 have HPK:Hid (PK r f g A):=hp
 clear hb s0 HBr c1 f1 z1 hp hO hI hl9
 go_upto_region 2 with fail
 obtain⟨w3,hw3⟩:∃ w3,w2.alloc (.cells #[U i6 (r:Int),U i6 (f:Int),U i6 (g:Int),Sl a9 l9 c9] 54)=w3:=⟨_,rfl⟩
 obtain⟨B1,hB1⟩:∃ B,w2.heap.size=B:=⟨_,rfl⟩
 rw [hw3,hB1] at S2
 rw [hw3] at HI2
 rw [hw3,hB1]
 clear hw3 hB1
 obtain⟨-,-,-,c1,f1,z1,-⟩:=S2.out.rules
 go_wp2_with fail
 refine Calls.mono (HF.out _ S2.out.below) ?_
 rintro e w4 ⟨rfl,hb⟩
 have S4:Hid (St W (w4.alloc (.cells #[U i6 k,U i6 a,U i6 b,U i6 m,U i6 kh,U i6 kw,U i6 sh,U i6 sw,U i6 tp,U i6 lf,U i6 bt,U i6 rt,Sl wa lw wc,Sl ba lb bc,U i6 sm,U i6 ss,U i6 um,U i6 us,U i6 z,U i6 p,U i6 l2,U i6 h2,U i6 x0,U i6 y0,U i6 z0,U i6 H,U i6 V,U i6 C] 46)) _):=(S2.out.call hb).new (c:=#[U i6 k,U i6 a,U i6 b,U i6 m,U i6 kh,U i6 kw,U i6 sh,U i6 sw,U i6 tp,U i6 lf,U i6 bt,U i6 rt,Sl wa lw wc,Sl ba lb bc,U i6 sm,U i6 ss,U i6 um,U i6 us,U i6 z,U i6 p,U i6 l2,U i6 h2,U i6 x0,U i6 y0,U i6 z0,U i6 H,U i6 V,U i6 C]) (t:=46)
 have HI4:Hid (IRow .i8 (w4.alloc (.cells #[U i6 k,U i6 a,U i6 b,U i6 m,U i6 kh,U i6 kw,U i6 sh,U i6 sw,U i6 tp,U i6 lf,U i6 bt,U i6 rt,Sl wa lw wc,Sl ba lb bc,U i6 sm,U i6 ss,U i6 um,U i6 us,U i6 z,U i6 p,U i6 l2,U i6 h2,U i6 x0,U i6 y0,U i6 z0,U i6 H,U i6 V,U i6 C] 46)) a9 l9 c9 A):=(HI2.out.below hb).below (bal _ _)
 clear hb S2 HF c1 f1 z1 HI2
 go_upto_region 3 with (refine wpList_st_new rfl 46 (.tmp 6) (.tmp 34) rfl w4 _ #[U i6 k,U i6 a,U i6 b,U i6 m,U i6 kh,U i6 kw,U i6 sh,U i6 sw,U i6 tp,U i6 lf,U i6 bt,U i6 rt,Sl wa lw wc,Sl ba lb bc,U i6 sm,U i6 ss,U i6 um,U i6 us,U i6 z,U i6 p,U i6 l2,U i6 h2,U i6 x0,U i6 y0,U i6 z0,U i6 H,U i6 V,U i6 C] rfl rfl (by kernel_rfl) rfl (by simp [Value.oneCell']) ?_)
 obtain⟨w5,hw5⟩:∃ w5,w4.alloc (.cells #[U i6 k,U i6 a,U i6 b,U i6 m,U i6 kh,U i6 kw,U i6 sh,U i6 sw,U i6 tp,U i6 lf,U i6 bt,U i6 rt,Sl wa lw wc,Sl ba lb bc,U i6 sm,U i6 ss,U i6 um,U i6 us,U i6 z,U i6 p,U i6 l2,U i6 h2,U i6 x0,U i6 y0,U i6 z0,U i6 H,U i6 V,U i6 C] 46)=w5:=⟨_,rfl⟩
 obtain⟨B2,hB2⟩:∃ B,w4.heap.size=B:=⟨_,rfl⟩
 rw [hw5,hB2] at S4
 rw [hw5] at HI4
 rw [hw5,hB2]
 clear hw5 hB2
 have s9:=St.start w5
 obtain⟨c1,g1,c2,g2,c3,g3,-⟩:=S4.out.rulesM
 have hne:=Nonempty.intro (Wd.mk _ s9)
 have hCr:Hid (∀ wz,(∃ n:Wd w5 [],wz=n.w)→∀ j v,[U i6 k,U i6 a,U i6 b,U i6 m,U i6 kh,U i6 kw,U i6 sh,U i6 sw,U i6 tp,U i6 lf,U i6 bt,U i6 rt,Sl wa lw wc,Sl ba lb bc,U i6 sm,U i6 ss,U i6 um,U i6 us,U i6 z,U i6 p,U i6 l2,U i6 h2,U i6 x0,U i6 y0,U i6 z0,U i6 H,U i6 V,U i6 C][j]? = some v→wz.cell? ((⟨B2,0,none⟩:Addr).add j)=some v):=wd_cells (ecells (cs:=[U i6 k,U i6 a,U i6 b,U i6 m,U i6 kh,U i6 kw,U i6 sh,U i6 sw,U i6 tp,U i6 lf,U i6 bt,U i6 rt,Sl wa lw wc,Sl ba lb bc,U i6 sm,U i6 ss,U i6 um,U i6 us,U i6 z,U i6 p,U i6 l2,U i6 h2,U i6 x0,U i6 y0,U i6 z0,U i6 H,U i6 V,U i6 C]) S4.out.h1)
 have HN5:Hid (∀ W',Below w5.heap.size w5 W'→_):=fun W' hb=>HN.out W' (S4.out.below.trans (hb.mono S4.out.size))
 refine region_held s9 (by kernel_rfl) (by kernel_rfl) ?_
 repeat (first
  | (go_big_quiet_want;refine quiet_la 46 (.tmp 6) rfl _ rfl [U i6 k,U i6 a,U i6 b,U i6 m,U i6 kh,U i6 kw,U i6 sh,U i6 sw,U i6 tp,U i6 lf,U i6 bt,U i6 rt,Sl wa lw wc,Sl ba lb bc,U i6 sm,U i6 ss,U i6 um,U i6 us,U i6 z,U i6 p,U i6 l2,U i6 h2,U i6 x0,U i6 y0,U i6 z0,U i6 H,U i6 V,U i6 C] _ hCr.out Tryz.underlying46 rfl (by kernel_rfl) rfl ?_;go_simp;go_big_quiet_on)
  | (go_big_quiet_step ((go_at_call 12;exact held_of (HN5.out _ (Wd.h _).below)))))
 refine wpQuiet_nil ?_
 intro _ hw'
 obtain⟨nq,rfl⟩:=hw'
 have b8:=nq.h
 obtain⟨w8,hw8⟩:∃ w,nq.w=w:=⟨_,rfl⟩
 rw [hw8] at b8 ⊢
 have S8:Hid (St W w8 _):=S4.out.call b8.below
 have HI8:Hid (IRow .i8 w8 a9 l9 c9 A):=HI4.out.below b8.below
 clear c1 g1 c2 g2 c3 g3 hne s9 hw8 b8 S4 hCr HN5 HI4
 obtain⟨c3,f3,z3,c2,f2,z2,c1,f1,z1,-⟩:=S8.out.rules
 go_wp2_with fail
 refine (fixed23_any _).mono ?_
 rintro e w9 ⟨rfl,hb⟩
 have S9:Hid (St W w9 _):=S8.out.call hb
 have HI9:Hid (IRow .i8 w9 a9 l9 c9 A):=HI8.out.below hb
 clear hb S8 c3 f3 z3 c2 f2 z2 c1 f1 z1
 obtain⟨-,-,-,c2,f2,z2,c1,f1,z1,-⟩:=S9.out.rules
 have hrc:=S9.out.h1
 go_wp2_with (refine wpList_load_row_g (by rfl) 46 (.tmp 6) rfl _ rfl 46 _ (0,0) _ hrc Tryz.underlying46 rfl (by kernel_rfl) ?_)
 refine Calls.mono (HSf.out _ S9.out.below) ?_
 rintro e wA ⟨rfl,hb⟩
 have SA:Hid (St W wA _):=S9.out.call hb
 have HIA:Hid (IRow .i8 wA a9 l9 c9 A):=HI9.out.below hb
 clear hb S9 c2 f2 z2 c1 f1 z1 hrc
 obtain⟨-,-,-,c2,f2,z2,c1,f1,z1,-⟩:=SA.out.rules
 have hrc:=SA.out.h1
 go_wp2_with (refine wpList_load_row_g (by rfl) 46 (.tmp 6) rfl _ rfl 46 _ (0,0) _ hrc Tryz.underlying46 rfl (by kernel_rfl) ?_)
 refine Calls.mono (HLk.out _ r f g A a9 l9 c9 SA.out.below HPK.out HIA.out) ?_
 rintro e wB ⟨rfl,hb⟩
 have SB:Hid (St W wB _):=SA.out.call hb
 clear hb SA HIA c2 f2 z2 c1 f1 z1 hrc
 go_wp2
 go_ret
 exact⟨rfl,SB.out.below⟩
theorem rsfe_any (k a b m kh kw sh sw tp lf bt rt:Int) (wa:Option Addr) (lw wc:Nat) (ba:Option Addr) (lb bc:Nat) (sm ss um us z p lo hi h w c H V C:Int) (W:World) (ch slo shi:Int) (R:Nat→List (Int×Int)) (M:Nat) (hM:M≤10000000) (hM0:0<M) (h00:0<(R 0).length) (hR:∀ j,Rb (R j)∧(R j).length≤512) (hRw:∀ W',Below W.heap.size W W'→Calls Tryz.prog 22 #[.agg #[U i6 k,U i6 a,U i6 b,U i6 m,U i6 kh,U i6 kw,U i6 sh,U i6 sw,U i6 tp,U i6 lf,U i6 bt,U i6 rt,Sl wa lw wc,Sl ba lb bc,U i6 sm,U i6 ss,U i6 um,U i6 us,U i6 z,U i6 p,U i6 lo,U i6 hi,U i6 h,U i6 w,U i6 c,U i6 H,U i6 V,U i6 C],U i6 ch,.agg #[U i6 slo,U i6 shi]] W' fun e w'=>(∃ v,e=.returned v∧RwO w' W'.heap.size v R M)∧Below W'.heap.size W' w') (d:Nat) (hd:0<d) (hd2:d≤512) :
  Calls Tryz.prog 13 #[.agg #[U i6 k,U i6 a,U i6 b,U i6 m,U i6 kh,U i6 kw,U i6 sh,U i6 sw,U i6 tp,U i6 lf,U i6 bt,U i6 rt,Sl wa lw wc,Sl ba lb bc,U i6 sm,U i6 ss,U i6 um,U i6 us,U i6 z,U i6 p,U i6 lo,U i6 hi,U i6 h,U i6 w,U i6 c,U i6 H,U i6 V,U i6 C],U i6 ch,.agg #[U i6 slo,U i6 shi],U i6 (d:Int)] W fun e w'=>e=.returned (.bool (w16 (hbD d R M)))∧Below W.heap.size W w':=by
 have HRw:Hid (∀ W',Below W.heap.size W W'→_):=hRw
 have HS:Hid (∀ (lo':Nat) (v:Value) (us':List Value) (W':World),RwU W' lo' v R M us'→_):=fun lo' v us' W' q=>rsaf_any lo' v R M us' W' q hM hM0 hR h00 d hd hd2
 obtain⟨X,hX⟩:∃ X,w16 (hbD d R M)=X:=⟨_,rfl⟩
 rw [hX] at HS ⊢
 have s0:=((St.start W).new (c:=#[U i6 k,U i6 a,U i6 b,U i6 m,U i6 kh,U i6 kw,U i6 sh,U i6 sw,U i6 tp,U i6 lf,U i6 bt,U i6 rt,Sl wa lw wc,Sl ba lb bc,U i6 sm,U i6 ss,U i6 um,U i6 us,U i6 z,U i6 p,U i6 lo,U i6 hi,U i6 h,U i6 w,U i6 c,U i6 H,U i6 V,U i6 C]) (t:=46)).new (c:=#[U i6 slo,U i6 shi]) (t:=28)
 simp only [World.size_alloc] at s0
 have S0:Hid (St W _ _):=s0
 clear hRw hR s0 hX hM hM0 h00
 go_enter Tryz.func13,Tryz.ntmps13
 have h3:=S0.out.h2
 go_wp2_with (refine wpList_load_row rfl 46 (.tmp 4) rfl W.heap.size rfl 46 _ (0,0) _ h3 Tryz.underlying46 rfl (by kernel_rfl) ?_)
 refine Calls.mono (HRw.out _ S0.out.below) ?_
 rintro e w5 ⟨⟨v,rfl,us',hus⟩,hb5⟩
 have S5:Hid (St W w5 _):=S0.out.call hb5
 have HU:Hid (RwU w5 _ v R M us'):=hus
 clear hus hb5 S0 h3 HRw
 go_wp2_with fail
 refine Calls.mono (HS.out _ _ _ _ HU.out) ?_
 rintro e w6 ⟨rfl,hb6⟩
 have HB:Hid (Below W.heap.size W w6):=(S5.out.call hb6).below
 clear hb6 S5 HU HS
 go_wp2
 go_ret
 exact⟨rfl,HB.out⟩
theorem enL_cut (lo hi p:Int) (TL:List (Int×Int)) (f k:Nat):enL lo hi p ((TL.drop f).take k)=((enL lo hi p TL).drop f).take k:=by
 unfold enL
 rw [List.map_take,List.map_drop]
theorem witnessEnds_walk (h w c lo hi:Int) (oa:Option Addr) (on oc:Nat) (ot op ch slo shi dp:Int) (W:World) (_:(Lit.int .i64 h).wf=true) (_:(Lit.int .i64 w).wf=true) (_:(Lit.int .i64 c).wf=true) (_:(Lit.int .i64 lo).wf=true) (_:(Lit.int .i64 hi).wf=true) (wo:ORow 22 (OpIn W) W oa on oc) (hr:on*208≤140737488351232) (_:(Lit.int .i64 ot).wf=true) (_:(Lit.int .i64 op).wf=true) (_:(Lit.int .i64 ch).wf=true) (_:(Lit.int .i64 slo).wf=true) (_:(Lit.int .i64 shi).wf=true) (_:(Lit.int .i64 dp).wf=true):Calls Tryz.prog 3 #[.agg #[U i6 h,U i6 w,U i6 c,U i6 lo,U i6 hi,Sl oa on oc,U i6 ot,U i6 op,U i6 ch,U i6 slo,U i6 shi,U i6 dp]] W fun e w'=>e=.returned (.bool true)∧Below W.heap.size W w':=by
 obtain⟨O,Z,B,hL⟩:=lrow_of wo
 have hon:on≤1000000000000:=by omega
 rcases rask h w c lo hi ot oa on oc O Z B W hL hon op ch with ⟨E,hE,h1,h2⟩ | ⟨RL,Rw,hR,i,x,wa,lw,cw,ba,lb,cb,x0,y0,z0,H,V,C,rfl,hF,hch⟩
 ·exact wends_e h w c lo hi oa on oc ot op ch slo shi dp W 0 0 0 0 0 0 0 0 0 0 0 0 none 0 0 none 0 0 0 0 0 0 0 0 0 0 0 0 0 0 0 0 E hE (fun W' hb=>wlo_bad h w c lo hi ot op ch oa on oc W' slo shi E hE (fun W2 hb2=>h1 W2 (hb.trans (hb2.mono hb.size)))) (fun W' hb=>who_bad h w c lo hi ot op ch oa on oc W' slo shi E hE (fun W2 hb2=>h1 W2 (hb.trans (hb2.mono hb.size)))) (fun W' hb=>rfi13_e 0 0 0 0 0 0 0 0 0 0 0 0 none 0 0 none 0 0 0 0 0 0 0 0 0 0 0 0 0 0 0 0 h w c lo hi ot oa on oc W' op ch slo shi E hE (fun W'' hb'=>h2 W'' (hb.trans (hb'.mono hb.size))))
 cases hs:vbB slo shi with
 | false=>exact wends_e h w c lo hi oa on oc ot ((i:Int)+1) ch slo shi dp W (O i 0) (O i 1) (O i 2) (O i 3) (O i 4) (O i 5) (O i 6) (O i 7) (O i 8) (O i 9) (O i 10) (O i 11) wa lw cw ba lb cb (O i 14) (O i 15) (O i 16) (O i 17) (O i 18) (O i 19) (O i 20) (O i 21) x0 y0 z0 H V C 30 (by decide) (fun W' hb=>wlo_30 h w c lo hi ot oa on oc O Z B W' (hL.below hb) ch RL Rw hR i x wa lw cw ba lb cb x0 y0 z0 H V C (hF.below hb) hch slo shi hs) (fun W' hb=>who_30 h w c lo hi ot oa on oc O Z B W' (hL.below hb) ch RL Rw hR i x wa lw cw ba lb cb x0 y0 z0 H V C (hF.below hb) hch slo shi hs) (fun W' hb=>rfi13_no (O i 0) (O i 1) (O i 2) (O i 3) (O i 4) (O i 5) (O i 6) (O i 7) (O i 8) (O i 9) (O i 10) (O i 11) wa lw cw ba lb cb (O i 14) (O i 15) (O i 16) (O i 17) (O i 18) (O i 19) (O i 20) (O i 21) x0 y0 z0 H V C h w c lo hi ot oa on oc W' _ ch slo shi hs (fun W'' hb'=>rfc_ok h w c lo hi ot oa on oc O Z B W hL hon ch RL Rw hR i x wa lw cw ba lb cb x0 y0 z0 H V C hF hch W'' (hb.trans (hb'.mono hb.size))))
 | true =>
  have hv:=vbB_yes hs
  obtain⟨f1,f2,f3,f4,f5,f6,f7,f8,f9,f10⟩:=wfacts h w c lo hi ot oa on oc O Z B W hL ch RL Rw hR i x wa lw cw ba lb cb x0 y0 z0 H V C hF hch
  obtain⟨hopd,hk4,-,-,hp,hbi,hHV⟩:=bfacts hL RL Rw hR i x wa lw cw ba lb cb x0 y0 z0 H V C hF hch
  have hSit:=hF.2.2.2.2.2.2.2.2.2.1
  have key:∀ (u:Bool) (W':World) (r:Nat) (A:List Int) (a9:Option Addr) (l9 c9:Nat),Below W.heap.size W W'→WOk (H*V).toNat (x0*y0*z0).toNat (stR (O i 0) (O i 4) (O i 5) x0 y0 z0).toNat slo shi (O i 19) (biA (O i 0) ch (B i)) u (fun r=>siL (O i 0) (O i 4) (O i 5) (O i 6) (O i 7) (O i 8) (O i 9) (O i 10) (O i 11) x0 y0 z0 ch (r:Int) (Z i)) r A→IRow .i8 W' a9 l9 c9 A→Calls Tryz.prog 10 #[.agg #[U i6 (O i 0),U i6 (O i 1),U i6 (O i 2),U i6 (O i 3),U i6 (O i 4),U i6 (O i 5),U i6 (O i 6),U i6 (O i 7),U i6 (O i 8),U i6 (O i 9),U i6 (O i 10),U i6 (O i 11),Sl wa lw cw,Sl ba lb cb,U i6 (O i 14),U i6 (O i 15),U i6 (O i 16),U i6 (O i 17),U i6 (O i 18),U i6 (O i 19),U i6 (O i 20),U i6 (O i 21),U i6 x0,U i6 y0,U i6 z0,U i6 H,U i6 V,U i6 C],U i6 ch,.agg #[U i6 slo,U i6 shi],.agg #[U i6 (r:Int),Sl a9 l9 c9],U i6 (enB u (hbT (biA (O i 0) ch (B i)) (fun (j:Nat)=>enL slo shi (O i 19) (siL (O i 0) (O i 4) (O i 5) (O i 6) (O i 7) (O i 8) (O i 9) (O i 10) (O i 11) x0 y0 z0 ch (j:Int) (Z i))) (H*V).toNat))] W' fun e w'=>e=.returned (.bool true)∧Below W'.heap.size W' w':=fun u W' r A a9 l9 c9 hb hP hI=>by
   obtain⟨g1,g2,g3⟩:=hP
   have hl:l9=(x0*y0*z0).toNat:=by rw [← hI.1];exact g3.len
   have hn:(l9:Int)=x0*y0*z0:=by rw [hl];exact f2.symm
   refine rrea_any (O i 0) (O i 1) (O i 2) (O i 3) (O i 4) (O i 5) (O i 6) (O i 7) (O i 8) (O i 9) (O i 10) (O i 11) wa lw cw ba lb cb (O i 14) (O i 15) (O i 16) (O i 17) (O i 18) (O i 19) (O i 20) (O i 21) x0 y0 z0 H V C slo shi ch _ (H*V) r W' a9 l9 c9 (by omega) (fun W''=>rpos_any (O i 0) (O i 1) (O i 2) (O i 3) (O i 4) (O i 5) (O i 6) (O i 7) (O i 8) (O i 9) (O i 10) (O i 11) wa lw cw ba lb cb (O i 14) (O i 15) (O i 16) (O i 17) (O i 18) (O i 19) (O i 20) (O i 21) x0 y0 z0 H V C W'' hSit.2.2.1) (fun W'' hb'=>rnum_any (O i 0) (O i 1) (O i 2) (O i 3) (O i 4) (O i 5) (O i 6) (O i 7) (O i 8) (O i 9) (O i 10) (O i 11) wa lw cw ba lb cb (O i 14) (O i 15) (O i 16) (O i 17) (O i 18) (O i 19) (O i 20) (O i 21) x0 y0 z0 H V C slo shi W'' a9 l9 c9 A (hI.below hb') hSit.2.1 hn g3.val) (fun W'' hb'=>?_)
   have hF'':=hF.below (hb.trans (hb'.mono hb.size))
   have q:=rsum_any (O i 0) (O i 1) (O i 2) (O i 3) (O i 4) (O i 5) (O i 6) (O i 7) (O i 8) (O i 9) (O i 10) (O i 11) wa lw cw ba lb cb (O i 14) (O i 15) (O i 16) (O i 17) (O i 18) (O i 19) (O i 20) (O i 21) x0 y0 z0 H V C W'' hSit (Z i) (B i) hF''.2.2.2.2.2.1 hF''.2.2.2.2.2.2.1 a9 l9 c9 A (hI.below hb') hn hp ch (r:Int) hch ⟨by omega,by omega⟩
   have e:suA (O i 0) (O i 4) (O i 5) (O i 6) (O i 7) (O i 8) (O i 9) (O i 10) (O i 11) x0 y0 z0 (O i 19) (Z i) (B i) A ch (r:Int)=enB u (hbT (biA (O i 0) ch (B i)) (fun (j:Nat)=>enL slo shi (O i 19) (siL (O i 0) (O i 4) (O i 5) (O i 6) (O i 7) (O i 8) (O i 9) (O i 10) (O i 11) x0 y0 z0 ch (j:Int) (Z i))) (H*V).toNat):=by
    rw [← f7 r] at g3
    rw [← g2]
    exact g3.sum _
   rw [e] at q
   exact q
  exact wends_w h w c lo hi oa on oc ot ((i:Int)+1) ch slo shi dp W (O i 0) (O i 1) (O i 2) (O i 3) (O i 4) (O i 5) (O i 6) (O i 7) (O i 8) (O i 9) (O i 10) (O i 11) wa lw cw ba lb cb (O i 14) (O i 15) (O i 16) (O i 17) (O i 18) (O i 19) (O i 20) (O i 21) x0 y0 z0 H V C _ _ _ _ (fun W' hb=>wlo_ok h w c lo hi ot oa on oc O Z B W' (hL.below hb) ch RL Rw hR i x wa lw cw ba lb cb x0 y0 z0 H V C (hF.below hb) hch slo shi hs) (fun W' hb=>who_ok h w c lo hi ot oa on oc O Z B W' (hL.below hb) ch RL Rw hR i x wa lw cw ba lb cb x0 y0 z0 H V C (hF.below hb) hch slo shi hs) (fun W' hb=>rfi13_ok (O i 0) (O i 1) (O i 2) (O i 3) (O i 4) (O i 5) (O i 6) (O i 7) (O i 8) (O i 9) (O i 10) (O i 11) wa lw cw ba lb cb (O i 14) (O i 15) (O i 16) (O i 17) (O i 18) (O i 19) (O i 20) (O i 21) x0 y0 z0 H V C h w c lo hi ot oa on oc W' _ ch slo shi hs (fun W'' hb'=>rfc_ok h w c lo hi ot oa on oc O Z B W hL hon ch RL Rw hR i x wa lw cw ba lb cb x0 y0 z0 H V C hF hch W'' (hb.trans (hb'.mono hb.size)))) (dto_ok h w c lo hi ot oa on oc O Z B W hL ch RL Rw hR i x wa lw cw ba lb cb x0 y0 z0 H V C hF hch slo shi hv) (key false) (key true)
theorem witnessBreaks_walk (h w c lo hi:Int) (oa:Option Addr) (on oc:Nat) (ot op ch slo shi dp:Int) (W:World) (_:(Lit.int .i64 h).wf=true) (_:(Lit.int .i64 w).wf=true) (_:(Lit.int .i64 c).wf=true) (_:(Lit.int .i64 lo).wf=true) (_:(Lit.int .i64 hi).wf=true) (wo:ORow 22 (OpIn W) W oa on oc) (hr:on*208≤140737488351232) (_:(Lit.int .i64 ot).wf=true) (_:(Lit.int .i64 op).wf=true) (_:(Lit.int .i64 ch).wf=true) (_:(Lit.int .i64 slo).wf=true) (_:(Lit.int .i64 shi).wf=true) (_:(Lit.int .i64 dp).wf=true):Calls Tryz.prog 4 #[.agg #[U i6 h,U i6 w,U i6 c,U i6 lo,U i6 hi,Sl oa on oc,U i6 ot,U i6 op,U i6 ch,U i6 slo,U i6 shi,U i6 dp]] W fun e w'=>e=.returned (.bool true)∧Below W.heap.size W w':=by
 obtain⟨O,Z,B,hL⟩:=lrow_of wo
 have hon:on≤1000000000000:=by omega
 rcases rask h w c lo hi ot oa on oc O Z B W hL hon op ch with ⟨E,hE,h1,h2⟩ | ⟨RL,Rw,hR,i,x,wa,lw,cw,ba,lb,cb,x0,y0,z0,H,V,C,rfl,hF,hch⟩
 ·exact wbreaks_e h w c lo hi oa on oc ot op ch slo shi dp W 0 0 0 0 0 0 0 0 0 0 0 0 none 0 0 none 0 0 0 0 0 0 0 0 0 0 0 0 0 0 0 0 E hE (fun W' hb=>wbr_bad h w c lo hi ot op ch oa on oc W' slo shi dp E hE (fun W2 hb2=>h1 W2 (hb.trans (hb2.mono hb.size)))) (fun W' hb=>rfi13_e 0 0 0 0 0 0 0 0 0 0 0 0 none 0 0 none 0 0 0 0 0 0 0 0 0 0 0 0 0 0 0 0 h w c lo hi ot oa on oc W' op ch slo shi E hE (fun W'' hb'=>h2 W'' (hb.trans (hb'.mono hb.size))))
 obtain⟨N,hN⟩:∃ N,(siL (O i 0) (O i 4) (O i 5) (O i 6) (O i 7) (O i 8) (O i 9) (O i 10) (O i 11) x0 y0 z0 ch 0 (Z i)).length=N:=⟨_,rfl⟩
 cases hs:vbB slo shi with
 | false=>exact wbreaks_e h w c lo hi oa on oc ot ((i:Int)+1) ch slo shi dp W (O i 0) (O i 1) (O i 2) (O i 3) (O i 4) (O i 5) (O i 6) (O i 7) (O i 8) (O i 9) (O i 10) (O i 11) wa lw cw ba lb cb (O i 14) (O i 15) (O i 16) (O i 17) (O i 18) (O i 19) (O i 20) (O i 21) x0 y0 z0 H V C 30 (by decide) (fun W' hb=>wbr_no h w c lo hi ot oa on oc O Z B W' (hL.below hb) ch RL Rw hR i x wa lw cw ba lb cb x0 y0 z0 H V C (hF.below hb) hch slo shi dp N hN false 30 (saR_f hs _) (.inl (by decide))) (fun W' hb=>rfi13_no (O i 0) (O i 1) (O i 2) (O i 3) (O i 4) (O i 5) (O i 6) (O i 7) (O i 8) (O i 9) (O i 10) (O i 11) wa lw cw ba lb cb (O i 14) (O i 15) (O i 16) (O i 17) (O i 18) (O i 19) (O i 20) (O i 21) x0 y0 z0 H V C h w c lo hi ot oa on oc W' _ ch slo shi hs (fun W'' hb'=>rfc_ok h w c lo hi ot oa on oc O Z B W hL hon ch RL Rw hR i x wa lw cw ba lb cb x0 y0 z0 H V C hF hch W'' (hb.trans (hb'.mono hb.size))))
 | true =>
  have hv:=vbB_yes hs
  obtain⟨f1,f2,f3,f4,f5,f6,f7,f8,f9,f10⟩:=wfacts h w c lo hi ot oa on oc O Z B W hL ch RL Rw hR i x wa lw cw ba lb cb x0 y0 z0 H V C hF hch
  obtain⟨hopd,hk4,-,-,hp,hbi,hHV⟩:=bfacts hL RL Rw hR i x wa lw cw ba lb cb x0 y0 z0 H V C hF hch
  have hSit:=hF.2.2.2.2.2.2.2.2.2.1
  have hz:=hF.2.2.2.2.2.1.2.2.2.1
  obtain⟨e1,e2,e3⟩:=op_len RL Rw hR i x wa lw cw ba lb cb x0 y0 z0 H V C hF hch N hN
  have hLn:=dle_ok h w c lo hi ot oa on oc O Z B W hL ch RL Rw hR i x wa lw cw ba lb cb x0 y0 z0 H V C hF hch
  rw [hN] at hLn
  have hM0:0<(H*V).toNat:=by omega
  have hM:(H*V).toNat≤10000000:=by omega
  have hrf:=fun (j:Nat)=>row_facts hSit hz hch hv hp (j:Int)
  have hRw:=rrw_ok h w c lo hi ot oa on oc O Z B W hL ch RL Rw hR i x wa lw cw ba lb cb x0 y0 z0 H V C hF hch slo shi hv
  by_cases hd:dp<1
  ·exact wbreaks_0 h w c lo hi oa on oc ot ((i:Int)+1) ch slo shi dp W (O i 0) (O i 1) (O i 2) (O i 3) (O i 4) (O i 5) (O i 6) (O i 7) (O i 8) (O i 9) (O i 10) (O i 11) wa lw cw ba lb cb (O i 14) (O i 15) (O i 16) (O i 17) (O i 18) (O i 19) (O i 20) (O i 21) x0 y0 z0 H V C hd (fun W' hb=>wbr_no h w c lo hi ot oa on oc O Z B W' (hL.below hb) ch RL Rw hR i x wa lw cw ba lb cb x0 y0 z0 H V C (hF.below hb) hch slo shi dp N hN false 151 (saR_d hs (by omega) _) (.inl (by decide))) (fun W' hb=>rfi13_ok (O i 0) (O i 1) (O i 2) (O i 3) (O i 4) (O i 5) (O i 6) (O i 7) (O i 8) (O i 9) (O i 10) (O i 11) wa lw cw ba lb cb (O i 14) (O i 15) (O i 16) (O i 17) (O i 18) (O i 19) (O i 20) (O i 21) x0 y0 z0 H V C h w c lo hi ot oa on oc W' _ ch slo shi hs (fun W'' hb'=>rfc_ok h w c lo hi ot oa on oc O Z B W hL hon ch RL Rw hR i x wa lw cw ba lb cb x0 y0 z0 H V C hF hch W'' (hb.trans (hb'.mono hb.size))))
  by_cases hn:(N:Int)<dp
  ·exact wbreaks_n h w c lo hi oa on oc ot ((i:Int)+1) ch slo shi dp W (O i 0) (O i 1) (O i 2) (O i 3) (O i 4) (O i 5) (O i 6) (O i 7) (O i 8) (O i 9) (O i 10) (O i 11) wa lw cw ba lb cb (O i 14) (O i 15) (O i 16) (O i 17) (O i 18) (O i 19) (O i 20) (O i 21) x0 y0 z0 H V C (N:Int) hd hn (fun W' hb=>wbr_no h w c lo hi ot oa on oc O Z B W' (hL.below hb) ch RL Rw hR i x wa lw cw ba lb cb x0 y0 z0 H V C (hF.below hb) hch slo shi dp N hN false 151 (saR_d hs (by omega) _) (.inl (by decide))) (fun W' hb=>rfi13_ok (O i 0) (O i 1) (O i 2) (O i 3) (O i 4) (O i 5) (O i 6) (O i 7) (O i 8) (O i 9) (O i 10) (O i 11) wa lw cw ba lb cb (O i 14) (O i 15) (O i 16) (O i 17) (O i 18) (O i 19) (O i 20) (O i 21) x0 y0 z0 H V C h w c lo hi ot oa on oc W' _ ch slo shi hs (fun W'' hb'=>rfc_ok h w c lo hi ot oa on oc O Z B W hL hon ch RL Rw hR i x wa lw cw ba lb cb x0 y0 z0 H V C hF hch W'' (hb.trans (hb'.mono hb.size)))) hLn
  have hD:∀ W',Below W.heap.size W W'→Calls Tryz.prog 13 #[.agg #[U i6 (O i 0),U i6 (O i 1),U i6 (O i 2),U i6 (O i 3),U i6 (O i 4),U i6 (O i 5),U i6 (O i 6),U i6 (O i 7),U i6 (O i 8),U i6 (O i 9),U i6 (O i 10),U i6 (O i 11),Sl wa lw cw,Sl ba lb cb,U i6 (O i 14),U i6 (O i 15),U i6 (O i 16),U i6 (O i 17),U i6 (O i 18),U i6 (O i 19),U i6 (O i 20),U i6 (O i 21),U i6 x0,U i6 y0,U i6 z0,U i6 H,U i6 V,U i6 C],U i6 ch,.agg #[U i6 slo,U i6 shi],U i6 dp] W' fun e w'=>e=.returned (.bool (w16 (hbD dp.toNat (fun (j:Nat)=>enL slo shi (O i 19) (siL (O i 0) (O i 4) (O i 5) (O i 6) (O i 7) (O i 8) (O i 9) (O i 10) (O i 11) x0 y0 z0 ch (j:Int) (Z i))) (H*V).toNat)))∧Below W'.heap.size W' w':=fun W' hb=>by
   have q:=rsfe_any (O i 0) (O i 1) (O i 2) (O i 3) (O i 4) (O i 5) (O i 6) (O i 7) (O i 8) (O i 9) (O i 10) (O i 11) wa lw cw ba lb cb (O i 14) (O i 15) (O i 16) (O i 17) (O i 18) (O i 19) (O i 20) (O i 21) x0 y0 z0 H V C W' ch slo shi (fun (j:Nat)=>enL slo shi (O i 19) (siL (O i 0) (O i 4) (O i 5) (O i 6) (O i 7) (O i 8) (O i 9) (O i 10) (O i 11) x0 y0 z0 ch (j:Int) (Z i))) (H*V).toNat hM hM0 (hrf 0).2.1 (fun j=>⟨(hrf j).1,(hrf j).2.2⟩) (fun W2 hb2=>hRw W2 (hb.trans (hb2.mono hb.size))) dp.toNat (by omega) (by omega)
   rw [Int.toNat_of_nonneg (by omega)] at q
   exact q
  cases hw:w16 (hbD dp.toNat (fun (j:Nat)=>enL slo shi (O i 19) (siL (O i 0) (O i 4) (O i 5) (O i 6) (O i 7) (O i 8) (O i 9) (O i 10) (O i 11) x0 y0 z0 ch (j:Int) (Z i))) (H*V).toNat) with
  | true =>
   rw [hw] at hD
   exact wbreaks_s h w c lo hi oa on oc ot ((i:Int)+1) ch slo shi dp W (O i 0) (O i 1) (O i 2) (O i 3) (O i 4) (O i 5) (O i 6) (O i 7) (O i 8) (O i 9) (O i 10) (O i 11) wa lw cw ba lb cb (O i 14) (O i 15) (O i 16) (O i 17) (O i 18) (O i 19) (O i 20) (O i 21) x0 y0 z0 H V C (N:Int) hd hn (fun W' hb=>wbr_no h w c lo hi ot oa on oc O Z B W' (hL.below hb) ch RL Rw hR i x wa lw cw ba lb cb x0 y0 z0 H V C (hF.below hb) hch slo shi dp N hN true 0 (by rw [saR_t hs ⟨by omega,by omega⟩,hw]) (.inr rfl)) (fun W' hb=>rfi13_ok (O i 0) (O i 1) (O i 2) (O i 3) (O i 4) (O i 5) (O i 6) (O i 7) (O i 8) (O i 9) (O i 10) (O i 11) wa lw cw ba lb cb (O i 14) (O i 15) (O i 16) (O i 17) (O i 18) (O i 19) (O i 20) (O i 21) x0 y0 z0 H V C h w c lo hi ot oa on oc W' _ ch slo shi hs (fun W'' hb'=>rfc_ok h w c lo hi ot oa on oc O Z B W hL hon ch RL Rw hR i x wa lw cw ba lb cb x0 y0 z0 H V C hF hch W'' (hb.trans (hb'.mono hb.size)))) hLn hD
  | false =>
   rw [hw] at hD
   obtain⟨d,rfl⟩:∃ d:Nat,dp=(d:Int):=⟨dp.toNat,by omega⟩
   rw [Int.toNat_natCast] at hw
   have hST:(stR (O i 0) (O i 4) (O i 5) x0 y0 z0).toNat=N:=by omega
   refine wbreaks_w h w c lo hi oa on oc ot ((i:Int)+1) ch slo shi (d:Int) W (O i 0) (O i 1) (O i 2) (O i 3) (O i 4) (O i 5) (O i 6) (O i 7) (O i 8) (O i 9) (O i 10) (O i 11) wa lw cw ba lb cb (O i 14) (O i 15) (O i 16) (O i 17) (O i 18) (O i 19) (O i 20) (O i 21) x0 y0 z0 H V C (N:Int) (LOk (H*V).toNat (x0*y0*z0).toNat d slo shi (O i 19) (fun r=>siL (O i 0) (O i 4) (O i 5) (O i 6) (O i 7) (O i 8) (O i 9) (O i 10) (O i 11) x0 y0 z0 ch (r:Int) (Z i))) hd hn (fun W' hb=>wbr_yes h w c lo hi ot oa on oc O Z B W' (hL.below hb) ch RL Rw hR i x wa lw cw ba lb cb x0 y0 z0 H V C (hF.below hb) hch slo shi d N hN hs ⟨by omega,by omega⟩ hw) (fun W' hb=>rfi13_ok (O i 0) (O i 1) (O i 2) (O i 3) (O i 4) (O i 5) (O i 6) (O i 7) (O i 8) (O i 9) (O i 10) (O i 11) wa lw cw ba lb cb (O i 14) (O i 15) (O i 16) (O i 17) (O i 18) (O i 19) (O i 20) (O i 21) x0 y0 z0 H V C h w c lo hi ot oa on oc W' _ ch slo shi hs (fun W'' hb'=>rfc_ok h w c lo hi ot oa on oc O Z B W hL hon ch RL Rw hR i x wa lw cw ba lb cb x0 y0 z0 H V C hF hch W'' (hb.trans (hb'.mono hb.size)))) hLn hD (fun W' r f g A a9 l9 c9 hb hP hI=>?_)
   obtain⟨g1,u,⟨b1,b2,b3,b4⟩,g3⟩:=hP
   have hl:l9=(x0*y0*z0).toNat:=by rw [← hI.1];exact g3.len
   have hnn:(l9:Int)=x0*y0*z0:=by rw [hl];exact f2.symm
   have hSM:(siL (O i 0) (O i 4) (O i 5) (O i 6) (O i 7) (O i 8) (O i 9) (O i 10) (O i 11) x0 y0 z0 ch (r:Int) (Z i)).length=N:=by rw [f7 r,hST]
   rw [enL_len,hSM] at b2
   have hX:(((siL (O i 0) (O i 4) (O i 5) (O i 6) (O i 7) (O i 8) (O i 9) (O i 10) (O i 11) x0 y0 z0 ch (r:Int) (Z i)).drop f).take (g-f)).length=g-f:=cutT hSM b2
   have hsum:smV (O i 19) A (((siL (O i 0) (O i 4) (O i 5) (O i 6) (O i 7) (O i 8) (O i 9) (O i 10) (O i 11) x0 y0 z0 ch (r:Int) (Z i)).drop f).take (g-f))=enB u (suS (0,0) (((enL slo shi (O i 19) (siL (O i 0) (O i 4) (O i 5) (O i 6) (O i 7) (O i 8) (O i 9) (O i 10) (O i 11) x0 y0 z0 ch (r:Int) (Z i))).drop f).take (g-f))):=by
    have g4:=g3
    rw [show (g-f)=(((siL (O i 0) (O i 4) (O i 5) (O i 6) (O i 7) (O i 8) (O i 9) (O i 10) (O i 11) x0 y0 z0 ch (r:Int) (Z i)).drop f).take (g-f)).length from hX.symm] at g4
    rw [hX] at g4
    have:=(show Dr (x0*y0*z0).toNat slo shi (O i 19) u (((siL (O i 0) (O i 4) (O i 5) (O i 6) (O i 7) (O i 8) (O i 9) (O i 10) (O i 11) x0 y0 z0 ch (r:Int) (Z i)).drop f).take (g-f)) (((siL (O i 0) (O i 4) (O i 5) (O i 6) (O i 7) (O i 8) (O i 9) (O i 10) (O i 11) x0 y0 z0 ch (r:Int) (Z i)).drop f).take (g-f)).length A by rw [hX];exact g3).sum 0
    rw [enL_cut,Int.zero_add] at this
    exact this
   have ht:=fun t ht=>f9 r t ht
   refine rleak_any (O i 0) (O i 1) (O i 2) (O i 3) (O i 4) (O i 5) (O i 6) (O i 7) (O i 8) (O i 9) (O i 10) (O i 11) wa lw cw ba lb cb (O i 14) (O i 15) (O i 16) (O i 17) (O i 18) (O i 19) (O i 20) (O i 21) x0 y0 z0 H V C slo shi ch (H*V) r f g d N (siL (O i 0) (O i 4) (O i 5) (O i 6) (O i 7) (O i 8) (O i 9) (O i 10) (O i 11) x0 y0 z0 ch (r:Int) (Z i)) W' a9 l9 c9 A (by omega) hSM (by omega) b1 b2 (by omega) (by omega) b3 hp (fun v hv'=>(by have:=g3.val v hv';unfold I8;omega)) (f9 r) (by rw [hsum];exact b4) (fun W''=>rpos_any (O i 0) (O i 1) (O i 2) (O i 3) (O i 4) (O i 5) (O i 6) (O i 7) (O i 8) (O i 9) (O i 10) (O i 11) wa lw cw ba lb cb (O i 14) (O i 15) (O i 16) (O i 17) (O i 18) (O i 19) (O i 20) (O i 21) x0 y0 z0 H V C W'' hSit.2.2.1) (fun W''=>?_)
    (fun W'' hb'=>rnum_any (O i 0) (O i 1) (O i 2) (O i 3) (O i 4) (O i 5) (O i 6) (O i 7) (O i 8) (O i 9) (O i 10) (O i 11) wa lw cw ba lb cb (O i 14) (O i 15) (O i 16) (O i 17) (O i 18) (O i 19) (O i 20) (O i 21) x0 y0 z0 H V C slo shi W'' a9 l9 c9 A (hI.below hb') hSit.2.1 hnn g3.val) (fun W'' hb'=>rterms_any (O i 0) (O i 1) (O i 2) (O i 3) (O i 4) (O i 5) (O i 6) (O i 7) (O i 8) (O i 9) (O i 10) (O i 11) wa lw cw ba lb cb (O i 14) (O i 15) (O i 16) (O i 17) (O i 18) (O i 19) (O i 20) (O i 21) x0 y0 z0 H V C W'' (Z i) ((hF.below (hb.trans (hb'.mono hb.size))).2.2.2.2.2.1) hSit ch (r:Int) hch ⟨by omega,by omega⟩) (fun W'' t1 t2 hb' hm=>?_)
   ·have:=rlen_any (O i 0) (O i 1) (O i 2) (O i 3) (O i 4) (O i 5) (O i 6) (O i 7) (O i 8) (O i 9) (O i 10) (O i 11) wa lw cw ba lb cb (O i 14) (O i 15) (O i 16) (O i 17) (O i 18) (O i 19) (O i 20) (O i 21) x0 y0 z0 H V C W'' hSit
    rw [e1] at this
    exact this
   ·have h2:=((siL_facts hSit hz hch (r:Int)).2 _ hm)
    exact rvalue_any (O i 0) (O i 1) (O i 2) (O i 3) (O i 4) (O i 5) (O i 6) (O i 7) (O i 8) (O i 9) (O i 10) (O i 11) wa lw cw ba lb cb (O i 14) (O i 15) (O i 16) (O i 17) (O i 18) (O i 19) (O i 20) (O i 21) x0 y0 z0 H V C t1 t2 W'' a9 l9 c9 A (hI.below hb') hp h2.1 (by rw [hnn];exact h2.2)
end Go.Proofs.YtgjcjhnnopandaaGreat
