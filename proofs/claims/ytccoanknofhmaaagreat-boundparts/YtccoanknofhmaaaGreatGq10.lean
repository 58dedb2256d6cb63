/- makes of package model: what it returns, kind by kind. -/
import Derived.Test.YtccoanknofhmaaaGreatGq09
namespace Go.Proofs.YtccoanknofhmaaaGreat
open Go.Value renaming int → U, slice → Sl
open Go.IntKind renaming i64 → i6
set_option maxRecDepth 100000
set_option maxHeartbeats 16000000
open Go.ChangeShapes Go.WideShapes Go.ChangeAt Go.RowKit
set_option linter.unusedVariables false
theorem al2b {w0 w:World} (h:Below w0.heap.size w0 w) (o o':Obj):Below w0.heap.size w0 ((w.alloc o).alloc o'):=bt (bt h (bal _ _)) (bal _ _)
theorem makes_6 (a b m kh kw sh sw tp lf bt rt:Int) (wa:Option Addr) (lw wc:Nat) (ba:Option Addr) (lb bc:Nat) (sm ss um us z p lo hi:Int) (h w c:Int) (W:World) (g:vS h w c=true) :
  Calls Tryz.prog 83 #[.agg #[U i6 6,U i6 a,U i6 b,U i6 m,U i6 kh,U i6 kw,U i6 sh,U i6 sw,U i6 tp,U i6 lf,U i6 bt,U i6 rt,Sl wa lw wc,Sl ba lb bc,U i6 sm,U i6 ss,U i6 um,U i6 us,U i6 z,U i6 p,U i6 lo,U i6 hi],.agg #[U i6 h,U i6 w,U i6 c]] W fun e w'=>e=.returned (.tuple #[.agg #[U i6 h,U i6 w,U i6 c],U i6 0])∧Below W.heap.size W w':=by
 have HE:Hid (elR h w c=(h*w*c,0)):=elR_ok g
 obtain⟨q,hq⟩:∃ q,h*w*c=q:=⟨_,rfl⟩
 rw [hq] at HE
 clear hq g
 go_enter Tryz.func83,Tryz.ntmps83
 go_wp2_with fail
 refine (uses_6 _).mono ?_
 rintro e w1 ⟨rfl,hb'⟩
 have s1:=(St.start W).new.new.new.call hb'
 clear hb'
 try simp only [World.size_setCell] at s1
 try simp only [World.size_alloc] at s1
 obtain⟨c1,f1,zw1_1,c2,f2,zw1_2,c3,f3,zw1_3,-⟩:=s1.rules
 go_wp2_with fail
 refine (selems_any _ _ _ _).mono ?_
 rintro e w2 ⟨rfl,hb'⟩
 have s2:=s1.new.new.call hb'
 clear hb' c1 f1 c2 f2 c3 f3
 try simp only [World.size_setCell] at s2
 try simp only [World.size_alloc] at s2
 obtain⟨c1,f1,zw2_1,c2,f2,zw2_2,c3,f3,zw2_3,c4,f4,zw2_4,c5,f5,zw2_5,-⟩:=s2.rules
 rw [HE.out]
 go_wp2
 exact bodyPost_ret (v:=.tuple #[.agg #[U i6 h,U i6 w,U i6 c],U i6 0]) (by simp [results,Tryz.results83,go_sem, *]) rfl ⟨rfl,set3b s2.below (by omega)⟩
theorem makes_7 (a b m kh kw sh sw tp lf bt rt:Int) (wa:Option Addr) (lw wc:Nat) (ba:Option Addr) (lb bc:Nat) (sm ss um us z p lo hi:Int) (h w c:Int) (W:World) (g:vS h w c=true) :
  Calls Tryz.prog 83 #[.agg #[U i6 7,U i6 a,U i6 b,U i6 m,U i6 kh,U i6 kw,U i6 sh,U i6 sw,U i6 tp,U i6 lf,U i6 bt,U i6 rt,Sl wa lw wc,Sl ba lb bc,U i6 sm,U i6 ss,U i6 um,U i6 us,U i6 z,U i6 p,U i6 lo,U i6 hi],.agg #[U i6 h,U i6 w,U i6 c]] W fun e w'=>e=.returned (.tuple #[.agg #[U i6 h,U i6 w,U i6 c],U i6 0])∧Below W.heap.size W w':=by
 have HE:Hid (elR h w c=(h*w*c,0)):=elR_ok g
 obtain⟨q,hq⟩:∃ q,h*w*c=q:=⟨_,rfl⟩
 rw [hq] at HE
 clear hq g
 go_enter Tryz.func83,Tryz.ntmps83
 go_wp2_with fail
 refine (uses_7 _).mono ?_
 rintro e w1 ⟨rfl,hb'⟩
 have s1:=(St.start W).new.new.new.call hb'
 clear hb'
 try simp only [World.size_setCell] at s1
 try simp only [World.size_alloc] at s1
 obtain⟨c1,f1,zw1_1,c2,f2,zw1_2,c3,f3,zw1_3,-⟩:=s1.rules
 go_wp2_with fail
 refine (selems_any _ _ _ _).mono ?_
 rintro e w2 ⟨rfl,hb'⟩
 have s2:=s1.new.new.call hb'
 clear hb' c1 f1 c2 f2 c3 f3
 try simp only [World.size_setCell] at s2
 try simp only [World.size_alloc] at s2
 obtain⟨c1,f1,zw2_1,c2,f2,zw2_2,c3,f3,zw2_3,c4,f4,zw2_4,c5,f5,zw2_5,-⟩:=s2.rules
 rw [HE.out]
 go_wp2
 exact bodyPost_ret (v:=.tuple #[.agg #[U i6 h,U i6 w,U i6 c],U i6 0]) (by simp [results,Tryz.results83,go_sem, *]) rfl ⟨rfl,set3b s2.below (by omega)⟩
theorem makes_8 (a b m kh kw sh sw tp lf bt rt:Int) (wa:Option Addr) (lw wc:Nat) (ba:Option Addr) (lb bc:Nat) (sm ss um us z p lo hi:Int) (h w c:Int) (W:World) (g:vS h w c=true) :
  Calls Tryz.prog 83 #[.agg #[U i6 8,U i6 a,U i6 b,U i6 m,U i6 kh,U i6 kw,U i6 sh,U i6 sw,U i6 tp,U i6 lf,U i6 bt,U i6 rt,Sl wa lw wc,Sl ba lb bc,U i6 sm,U i6 ss,U i6 um,U i6 us,U i6 z,U i6 p,U i6 lo,U i6 hi],.agg #[U i6 h,U i6 w,U i6 c]] W fun e w'=>e=.returned (.tuple #[.agg #[U i6 h,U i6 w,U i6 c],U i6 0])∧Below W.heap.size W w':=by
 have HE:Hid (elR h w c=(h*w*c,0)):=elR_ok g
 obtain⟨q,hq⟩:∃ q,h*w*c=q:=⟨_,rfl⟩
 rw [hq] at HE
 clear hq g
 go_enter Tryz.func83,Tryz.ntmps83
 go_wp2_with fail
 refine (uses_8 _).mono ?_
 rintro e w1 ⟨rfl,hb'⟩
 have s1:=(St.start W).new.new.new.call hb'
 clear hb'
 try simp only [World.size_setCell] at s1
 try simp only [World.size_alloc] at s1
 obtain⟨c1,f1,zw1_1,c2,f2,zw1_2,c3,f3,zw1_3,-⟩:=s1.rules
 go_wp2_with fail
 refine (selems_any _ _ _ _).mono ?_
 rintro e w2 ⟨rfl,hb'⟩
 have s2:=s1.new.new.call hb'
 clear hb' c1 f1 c2 f2 c3 f3
 try simp only [World.size_setCell] at s2
 try simp only [World.size_alloc] at s2
 obtain⟨c1,f1,zw2_1,c2,f2,zw2_2,c3,f3,zw2_3,c4,f4,zw2_4,c5,f5,zw2_5,-⟩:=s2.rules
 rw [HE.out]
 go_wp2
 exact bodyPost_ret (v:=.tuple #[.agg #[U i6 h,U i6 w,U i6 c],U i6 0]) (by simp [results,Tryz.results83,go_sem, *]) rfl ⟨rfl,set3b s2.below (by omega)⟩
theorem makes_1a (a b m kh kw sh sw tp lf bt rt:Int) (wa:Option Addr) (lw wc:Nat) (ba:Option Addr) (lb bc:Nat) (sm ss um us z p lo hi:Int) (h w c:Int) (W:World) (hm:m<1) :
  Calls Tryz.prog 83 #[.agg #[U i6 1,U i6 a,U i6 b,U i6 m,U i6 kh,U i6 kw,U i6 sh,U i6 sw,U i6 tp,U i6 lf,U i6 bt,U i6 rt,Sl wa lw wc,Sl ba lb bc,U i6 sm,U i6 ss,U i6 um,U i6 us,U i6 z,U i6 p,U i6 lo,U i6 hi],.agg #[U i6 h,U i6 w,U i6 c]] W fun e w'=>e=.returned (.tuple #[.agg #[U i6 0,U i6 0,U i6 0],U i6 2])∧Below W.heap.size W w':=by
 go_enter Tryz.func83,Tryz.ntmps83
 go_wp2_with fail
 refine (uses_1 _).mono ?_
 rintro e w1 ⟨rfl,hb'⟩
 have s1:=(St.start W).new.new.new.call hb'
 clear hb'
 try simp only [World.size_setCell] at s1
 try simp only [World.size_alloc] at s1
 obtain⟨c1,f1,zw1_1,c2,f2,zw1_2,c3,f3,zw1_3,-⟩:=s1.rules
 go_wp2
 exact bodyPost_ret (v:=.tuple #[.agg #[U i6 0,U i6 0,U i6 0],U i6 2]) (by simp [results,Tryz.results83,go_sem, *]) rfl ⟨rfl,al2b (set3b s1.below (by omega)) _ _⟩
theorem makes_1b (a b m kh kw sh sw tp lf bt rt:Int) (wa:Option Addr) (lw wc:Nat) (ba:Option Addr) (lb bc:Nat) (sm ss um us z p lo hi:Int) (h w c:Int) (W:World) (hm:¬ m<1∧1024<m) :
  Calls Tryz.prog 83 #[.agg #[U i6 1,U i6 a,U i6 b,U i6 m,U i6 kh,U i6 kw,U i6 sh,U i6 sw,U i6 tp,U i6 lf,U i6 bt,U i6 rt,Sl wa lw wc,Sl ba lb bc,U i6 sm,U i6 ss,U i6 um,U i6 us,U i6 z,U i6 p,U i6 lo,U i6 hi],.agg #[U i6 h,U i6 w,U i6 c]] W fun e w'=>e=.returned (.tuple #[.agg #[U i6 0,U i6 0,U i6 0],U i6 2])∧Below W.heap.size W w':=by
 go_enter Tryz.func83,Tryz.ntmps83
 go_wp2_with fail
 refine (uses_1 _).mono ?_
 rintro e w1 ⟨rfl,hb'⟩
 have s1:=(St.start W).new.new.new.call hb'
 clear hb'
 try simp only [World.size_setCell] at s1
 try simp only [World.size_alloc] at s1
 obtain⟨c1,f1,zw1_1,c2,f2,zw1_2,c3,f3,zw1_3,-⟩:=s1.rules
 go_wp2
 exact bodyPost_ret (v:=.tuple #[.agg #[U i6 0,U i6 0,U i6 0],U i6 2]) (by simp [results,Tryz.results83,go_sem, *]) rfl ⟨rfl,al2b (set3b s1.below (by omega)) _ _⟩
theorem makes_2a (a b m kh kw sh sw tp lf bt rt:Int) (wa:Option Addr) (lw wc:Nat) (ba:Option Addr) (lb bc:Nat) (sm ss um us z p lo hi:Int) (h w c:Int) (W:World) (hm:m<1) :
  Calls Tryz.prog 83 #[.agg #[U i6 2,U i6 a,U i6 b,U i6 m,U i6 kh,U i6 kw,U i6 sh,U i6 sw,U i6 tp,U i6 lf,U i6 bt,U i6 rt,Sl wa lw wc,Sl ba lb bc,U i6 sm,U i6 ss,U i6 um,U i6 us,U i6 z,U i6 p,U i6 lo,U i6 hi],.agg #[U i6 h,U i6 w,U i6 c]] W fun e w'=>e=.returned (.tuple #[.agg #[U i6 0,U i6 0,U i6 0],U i6 2])∧Below W.heap.size W w':=by
 go_enter Tryz.func83,Tryz.ntmps83
 go_wp2_with fail
 refine (uses_2 _).mono ?_
 rintro e w1 ⟨rfl,hb'⟩
 have s1:=(St.start W).new.new.new.call hb'
 clear hb'
 try simp only [World.size_setCell] at s1
 try simp only [World.size_alloc] at s1
 obtain⟨c1,f1,zw1_1,c2,f2,zw1_2,c3,f3,zw1_3,-⟩:=s1.rules
 go_wp2
 exact bodyPost_ret (v:=.tuple #[.agg #[U i6 0,U i6 0,U i6 0],U i6 2]) (by simp [results,Tryz.results83,go_sem, *]) rfl ⟨rfl,al2b (set3b s1.below (by omega)) _ _⟩
theorem makes_2b (a b m kh kw sh sw tp lf bt rt:Int) (wa:Option Addr) (lw wc:Nat) (ba:Option Addr) (lb bc:Nat) (sm ss um us z p lo hi:Int) (h w c:Int) (W:World) (hm:¬ m<1∧1024<m) :
  Calls Tryz.prog 83 #[.agg #[U i6 2,U i6 a,U i6 b,U i6 m,U i6 kh,U i6 kw,U i6 sh,U i6 sw,U i6 tp,U i6 lf,U i6 bt,U i6 rt,Sl wa lw wc,Sl ba lb bc,U i6 sm,U i6 ss,U i6 um,U i6 us,U i6 z,U i6 p,U i6 lo,U i6 hi],.agg #[U i6 h,U i6 w,U i6 c]] W fun e w'=>e=.returned (.tuple #[.agg #[U i6 0,U i6 0,U i6 0],U i6 2])∧Below W.heap.size W w':=by
 go_enter Tryz.func83,Tryz.ntmps83
 go_wp2_with fail
 refine (uses_2 _).mono ?_
 rintro e w1 ⟨rfl,hb'⟩
 have s1:=(St.start W).new.new.new.call hb'
 clear hb'
 try simp only [World.size_setCell] at s1
 try simp only [World.size_alloc] at s1
 obtain⟨c1,f1,zw1_1,c2,f2,zw1_2,c3,f3,zw1_3,-⟩:=s1.rules
 go_wp2
 exact bodyPost_ret (v:=.tuple #[.agg #[U i6 0,U i6 0,U i6 0],U i6 2]) (by simp [results,Tryz.results83,go_sem, *]) rfl ⟨rfl,al2b (set3b s1.below (by omega)) _ _⟩
theorem makes_1 (a b m kh kw sh sw tp lf bt rt:Int) (wa:Option Addr) (lw wc:Nat) (ba:Option Addr) (lb bc:Nat) (sm ss um us z p lo hi:Int) (h w c:Int) (W:World) (hm:¬ m<1∧¬ 1024<m) :
  Calls Tryz.prog 83 #[.agg #[U i6 1,U i6 a,U i6 b,U i6 m,U i6 kh,U i6 kw,U i6 sh,U i6 sw,U i6 tp,U i6 lf,U i6 bt,U i6 rt,Sl wa lw wc,Sl ba lb bc,U i6 sm,U i6 ss,U i6 um,U i6 us,U i6 z,U i6 p,U i6 lo,U i6 hi],.agg #[U i6 h,U i6 w,U i6 c]] W fun e w'=>e=.returned (.tuple #[.agg #[U i6 1,U i6 1,U i6 m],U i6 0])∧Below W.heap.size W w':=by
 have HE:Hid (elR 1 1 m=(1*1*m,0)):=elR_ok (vS_mk (by omega))
 go_enter Tryz.func83,Tryz.ntmps83
 go_wp2_with fail
 refine (uses_1 _).mono ?_
 rintro e w1 ⟨rfl,hb'⟩
 have s1:=(St.start W).new.new.new.call hb'
 clear hb'
 try simp only [World.size_setCell] at s1
 try simp only [World.size_alloc] at s1
 obtain⟨c1,f1,zw1_1,c2,f2,zw1_2,c3,f3,zw1_3,-⟩:=s1.rules
 go_wp2_with fail
 refine (selems_any _ _ _ _).mono ?_
 rintro e w2 ⟨rfl,hb'⟩
 have s2:=s1.new.new.call hb'
 clear hb' c1 f1 c2 f2 c3 f3
 try simp only [World.size_setCell] at s2
 try simp only [World.size_alloc] at s2
 obtain⟨c1,f1,zw2_1,c2,f2,zw2_2,c3,f3,zw2_3,c4,f4,zw2_4,c5,f5,zw2_5,-⟩:=s2.rules
 rw [HE.out]
 go_wp2
 exact bodyPost_ret (v:=.tuple #[.agg #[U i6 1,U i6 1,U i6 m],U i6 0]) (by simp [results,Tryz.results83,go_sem, *]) rfl ⟨rfl,set3b s2.below (by omega)⟩
theorem makes_2w (a b m kh kw sh sw tp lf bt rt:Int) (wa:Option Addr) (lw wc:Nat) (ba:Option Addr) (lb bc:Nat) (sm ss um us z p lo hi:Int) (h w c x:Int) (W:World) (hm:¬ m<1∧¬ 1024<m) (ho:ouR h w c kh kw sh sw tp lf bt rt=(0,0,x)) (hx:x≠0) :
  Calls Tryz.prog 83 #[.agg #[U i6 2,U i6 a,U i6 b,U i6 m,U i6 kh,U i6 kw,U i6 sh,U i6 sw,U i6 tp,U i6 lf,U i6 bt,U i6 rt,Sl wa lw wc,Sl ba lb bc,U i6 sm,U i6 ss,U i6 um,U i6 us,U i6 z,U i6 p,U i6 lo,U i6 hi],.agg #[U i6 h,U i6 w,U i6 c]] W fun e w'=>e=.returned (.tuple #[.agg #[U i6 0,U i6 0,U i6 0],U i6 x])∧Below W.heap.size W w':=by
 have HO:Hid (ouR h w c kh kw sh sw tp lf bt rt=(0,0,x)):=ho
 clear ho
 go_enter Tryz.func83,Tryz.ntmps83
 go_wp2_with fail
 refine (uses_2 _).mono ?_
 rintro e w1 ⟨rfl,hb'⟩
 have s1:=(St.start W).new.new.new.call hb'
 clear hb'
 try simp only [World.size_setCell] at s1
 try simp only [World.size_alloc] at s1
 obtain⟨c1,f1,zw1_1,c2,f2,zw1_2,c3,f3,zw1_3,-⟩:=s1.rules
 go_wp2_with fail
 refine (out_any _ _ _ _ _ _ _ _ _ _ _ _).mono ?_
 rintro e w2 ⟨rfl,hb'⟩
 have s2:=s1.new.new.call hb'
 clear hb' c1 f1 c2 f2 c3 f3
 try simp only [World.size_setCell] at s2
 try simp only [World.size_alloc] at s2
 obtain⟨c1,f1,zw2_1,c2,f2,zw2_2,c3,f3,zw2_3,c4,f4,zw2_4,c5,f5,zw2_5,-⟩:=s2.rules
 rw [HO.out]
 go_wp2
 exact bodyPost_ret (v:=.tuple #[.agg #[U i6 0,U i6 0,U i6 0],U i6 x]) (by simp [results,Tryz.results83,go_sem, *]) rfl ⟨rfl,set3b s2.below (by omega)⟩
theorem makes_2v (a b m kh kw sh sw tp lf bt rt:Int) (wa:Option Addr) (lw wc:Nat) (ba:Option Addr) (lb bc:Nat) (sm ss um us z p lo hi:Int) (h w c r q:Int) (W:World) (hm:¬ m<1∧¬ 1024<m) (ho:ouR h w c kh kw sh sw tp lf bt rt=(r,q,0)) (hv:vS r q m=false) :
  Calls Tryz.prog 83 #[.agg #[U i6 2,U i6 a,U i6 b,U i6 m,U i6 kh,U i6 kw,U i6 sh,U i6 sw,U i6 tp,U i6 lf,U i6 bt,U i6 rt,Sl wa lw wc,Sl ba lb bc,U i6 sm,U i6 ss,U i6 um,U i6 us,U i6 z,U i6 p,U i6 lo,U i6 hi],.agg #[U i6 h,U i6 w,U i6 c]] W fun e w'=>e=.returned (.tuple #[.agg #[U i6 0,U i6 0,U i6 0],U i6 50])∧Below W.heap.size W w':=by
 have HO:Hid (ouR h w c kh kw sh sw tp lf bt rt=(r,q,0)):=ho
 have HE:Hid (elR r q m=(0,50)):=elR_no hv
 clear ho hv
 go_enter Tryz.func83,Tryz.ntmps83
 go_wp2_with fail
 refine (uses_2 _).mono ?_
 rintro e w1 ⟨rfl,hb'⟩
 have s1:=(St.start W).new.new.new.call hb'
 clear hb'
 try simp only [World.size_setCell] at s1
 try simp only [World.size_alloc] at s1
 obtain⟨c1,f1,zw1_1,c2,f2,zw1_2,c3,f3,zw1_3,-⟩:=s1.rules
 go_wp2_with fail
 refine (out_any _ _ _ _ _ _ _ _ _ _ _ _).mono ?_
 rintro e w2 ⟨rfl,hb'⟩
 have s2:=s1.new.new.call hb'
 clear hb' c1 f1 c2 f2 c3 f3
 try simp only [World.size_setCell] at s2
 try simp only [World.size_alloc] at s2
 obtain⟨c1,f1,zw2_1,c2,f2,zw2_2,c3,f3,zw2_3,c4,f4,zw2_4,c5,f5,zw2_5,-⟩:=s2.rules
 rw [HO.out]
 go_wp2_with fail
 refine (selems_any _ _ _ _).mono ?_
 rintro e w3 ⟨rfl,hb'⟩
 have s3:=(s2.set01 (by simp;omega)).call hb'
 clear hb' c1 f1 c2 f2 c3 f3 c4 f4 c5 f5
 try simp only [World.size_setCell] at s3
 try simp only [World.size_alloc] at s3
 obtain⟨c1,f1,zw3_1,c2,f2,zw3_2,c3,f3,zw3_3,c4,f4,zw3_4,c5,f5,zw3_5,-⟩:=s3.rules
 rw [HE.out]
 go_wp2
 exact bodyPost_ret (v:=.tuple #[.agg #[U i6 0,U i6 0,U i6 0],U i6 50]) (by simp [results,Tryz.results83,go_sem, *]) rfl ⟨rfl,set3b s3.below (by omega)⟩
theorem makes_2 (a b m kh kw sh sw tp lf bt rt:Int) (wa:Option Addr) (lw wc:Nat) (ba:Option Addr) (lb bc:Nat) (sm ss um us z p lo hi:Int) (h w c r q:Int) (W:World) (hm:¬ m<1∧¬ 1024<m) (ho:ouR h w c kh kw sh sw tp lf bt rt=(r,q,0)) (hv:vS r q m=true) :
  Calls Tryz.prog 83 #[.agg #[U i6 2,U i6 a,U i6 b,U i6 m,U i6 kh,U i6 kw,U i6 sh,U i6 sw,U i6 tp,U i6 lf,U i6 bt,U i6 rt,Sl wa lw wc,Sl ba lb bc,U i6 sm,U i6 ss,U i6 um,U i6 us,U i6 z,U i6 p,U i6 lo,U i6 hi],.agg #[U i6 h,U i6 w,U i6 c]] W fun e w'=>e=.returned (.tuple #[.agg #[U i6 r,U i6 q,U i6 m],U i6 0])∧Below W.heap.size W w':=by
 have HO:Hid (ouR h w c kh kw sh sw tp lf bt rt=(r,q,0)):=ho
 have HE:Hid (elR r q m=(r*q*m,0)):=elR_ok hv
 obtain⟨y,hy⟩:∃ y,r*q*m=y:=⟨_,rfl⟩
 rw [hy] at HE
 clear ho hv hy
 go_enter Tryz.func83,Tryz.ntmps83
 go_wp2_with fail
 refine (uses_2 _).mono ?_
 rintro e w1 ⟨rfl,hb'⟩
 have s1:=(St.start W).new.new.new.call hb'
 clear hb'
 try simp only [World.size_setCell] at s1
 try simp only [World.size_alloc] at s1
 obtain⟨c1,f1,zw1_1,c2,f2,zw1_2,c3,f3,zw1_3,-⟩:=s1.rules
 go_wp2_with fail
 refine (out_any _ _ _ _ _ _ _ _ _ _ _ _).mono ?_
 rintro e w2 ⟨rfl,hb'⟩
 have s2:=s1.new.new.call hb'
 clear hb' c1 f1 c2 f2 c3 f3
 try simp only [World.size_setCell] at s2
 try simp only [World.size_alloc] at s2
 obtain⟨c1,f1,zw2_1,c2,f2,zw2_2,c3,f3,zw2_3,c4,f4,zw2_4,c5,f5,zw2_5,-⟩:=s2.rules
 rw [HO.out]
 go_wp2_with fail
 refine (selems_any _ _ _ _).mono ?_
 rintro e w3 ⟨rfl,hb'⟩
 have s3:=(s2.set01 (by simp;omega)).call hb'
 clear hb' c1 f1 c2 f2 c3 f3 c4 f4 c5 f5
 try simp only [World.size_setCell] at s3
 try simp only [World.size_alloc] at s3
 obtain⟨c1,f1,zw3_1,c2,f2,zw3_2,c3,f3,zw3_3,c4,f4,zw3_4,c5,f5,zw3_5,-⟩:=s3.rules
 rw [HE.out]
 go_wp2
 exact bodyPost_ret (v:=.tuple #[.agg #[U i6 r,U i6 q,U i6 m],U i6 0]) (by simp [results,Tryz.results83,go_sem, *]) rfl ⟨rfl,set3b s3.below (by omega)⟩
theorem makes_3w (a b m kh kw sh sw tp lf bt rt:Int) (wa:Option Addr) (lw wc:Nat) (ba:Option Addr) (lb bc:Nat) (sm ss um us z p lo hi:Int) (h w c x:Int) (W:World) (hm:True) (ho:ouR h w c kh kw sh sw tp lf bt rt=(0,0,x)) (hx:x≠0) :
  Calls Tryz.prog 83 #[.agg #[U i6 3,U i6 a,U i6 b,U i6 m,U i6 kh,U i6 kw,U i6 sh,U i6 sw,U i6 tp,U i6 lf,U i6 bt,U i6 rt,Sl wa lw wc,Sl ba lb bc,U i6 sm,U i6 ss,U i6 um,U i6 us,U i6 z,U i6 p,U i6 lo,U i6 hi],.agg #[U i6 h,U i6 w,U i6 c]] W fun e w'=>e=.returned (.tuple #[.agg #[U i6 0,U i6 0,U i6 0],U i6 x])∧Below W.heap.size W w':=by
 have HO:Hid (ouR h w c kh kw sh sw tp lf bt rt=(0,0,x)):=ho
 clear ho
 go_enter Tryz.func83,Tryz.ntmps83
 go_wp2_with fail
 refine (uses_3 _).mono ?_
 rintro e w1 ⟨rfl,hb'⟩
 have s1:=(St.start W).new.new.new.call hb'
 clear hb'
 try simp only [World.size_setCell] at s1
 try simp only [World.size_alloc] at s1
 obtain⟨c1,f1,zw1_1,c2,f2,zw1_2,c3,f3,zw1_3,-⟩:=s1.rules
 go_wp2_with fail
 refine (out_any _ _ _ _ _ _ _ _ _ _ _ _).mono ?_
 rintro e w2 ⟨rfl,hb'⟩
 have s2:=s1.new.new.call hb'
 clear hb' c1 f1 c2 f2 c3 f3
 try simp only [World.size_setCell] at s2
 try simp only [World.size_alloc] at s2
 obtain⟨c1,f1,zw2_1,c2,f2,zw2_2,c3,f3,zw2_3,c4,f4,zw2_4,c5,f5,zw2_5,-⟩:=s2.rules
 rw [HO.out]
 go_wp2
 exact bodyPost_ret (v:=.tuple #[.agg #[U i6 0,U i6 0,U i6 0],U i6 x]) (by simp [results,Tryz.results83,go_sem, *]) rfl ⟨rfl,set3b s2.below (by omega)⟩
theorem makes_3v (a b m kh kw sh sw tp lf bt rt:Int) (wa:Option Addr) (lw wc:Nat) (ba:Option Addr) (lb bc:Nat) (sm ss um us z p lo hi:Int) (h w c r q:Int) (W:World) (hm:True) (ho:ouR h w c kh kw sh sw tp lf bt rt=(r,q,0)) (hv:vS r q c=false) :
  Calls Tryz.prog 83 #[.agg #[U i6 3,U i6 a,U i6 b,U i6 m,U i6 kh,U i6 kw,U i6 sh,U i6 sw,U i6 tp,U i6 lf,U i6 bt,U i6 rt,Sl wa lw wc,Sl ba lb bc,U i6 sm,U i6 ss,U i6 um,U i6 us,U i6 z,U i6 p,U i6 lo,U i6 hi],.agg #[U i6 h,U i6 w,U i6 c]] W fun e w'=>e=.returned (.tuple #[.agg #[U i6 0,U i6 0,U i6 0],U i6 50])∧Below W.heap.size W w':=by
 have HO:Hid (ouR h w c kh kw sh sw tp lf bt rt=(r,q,0)):=ho
 have HE:Hid (elR r q c=(0,50)):=elR_no hv
 clear ho hv
 go_enter Tryz.func83,Tryz.ntmps83
 go_wp2_with fail
 refine (uses_3 _).mono ?_
 rintro e w1 ⟨rfl,hb'⟩
 have s1:=(St.start W).new.new.new.call hb'
 clear hb'
 try simp only [World.size_setCell] at s1
 try simp only [World.size_alloc] at s1
 obtain⟨c1,f1,zw1_1,c2,f2,zw1_2,c3,f3,zw1_3,-⟩:=s1.rules
 go_wp2_with fail
 refine (out_any _ _ _ _ _ _ _ _ _ _ _ _).mono ?_
 rintro e w2 ⟨rfl,hb'⟩
 have s2:=s1.new.new.call hb'
 clear hb' c1 f1 c2 f2 c3 f3
 try simp only [World.size_setCell] at s2
 try simp only [World.size_alloc] at s2
 obtain⟨c1,f1,zw2_1,c2,f2,zw2_2,c3,f3,zw2_3,c4,f4,zw2_4,c5,f5,zw2_5,-⟩:=s2.rules
 rw [HO.out]
 go_wp2_with fail
 refine (selems_any _ _ _ _).mono ?_
 rintro e w3 ⟨rfl,hb'⟩
 have s3:=(s2.set01 (by simp;omega)).call hb'
 clear hb' c1 f1 c2 f2 c3 f3 c4 f4 c5 f5
 try simp only [World.size_setCell] at s3
 try simp only [World.size_alloc] at s3
 obtain⟨c1,f1,zw3_1,c2,f2,zw3_2,c3,f3,zw3_3,c4,f4,zw3_4,c5,f5,zw3_5,-⟩:=s3.rules
 rw [HE.out]
 go_wp2
 exact bodyPost_ret (v:=.tuple #[.agg #[U i6 0,U i6 0,U i6 0],U i6 50]) (by simp [results,Tryz.results83,go_sem, *]) rfl ⟨rfl,set3b s3.below (by omega)⟩
theorem makes_3 (a b m kh kw sh sw tp lf bt rt:Int) (wa:Option Addr) (lw wc:Nat) (ba:Option Addr) (lb bc:Nat) (sm ss um us z p lo hi:Int) (h w c r q:Int) (W:World) (hm:True) (ho:ouR h w c kh kw sh sw tp lf bt rt=(r,q,0)) (hv:vS r q c=true) :
  Calls Tryz.prog 83 #[.agg #[U i6 3,U i6 a,U i6 b,U i6 m,U i6 kh,U i6 kw,U i6 sh,U i6 sw,U i6 tp,U i6 lf,U i6 bt,U i6 rt,Sl wa lw wc,Sl ba lb bc,U i6 sm,U i6 ss,U i6 um,U i6 us,U i6 z,U i6 p,U i6 lo,U i6 hi],.agg #[U i6 h,U i6 w,U i6 c]] W fun e w'=>e=.returned (.tuple #[.agg #[U i6 r,U i6 q,U i6 c],U i6 0])∧Below W.heap.size W w':=by
 have HO:Hid (ouR h w c kh kw sh sw tp lf bt rt=(r,q,0)):=ho
 have HE:Hid (elR r q c=(r*q*c,0)):=elR_ok hv
 obtain⟨y,hy⟩:∃ y,r*q*c=y:=⟨_,rfl⟩
 rw [hy] at HE
 clear ho hv hy
 go_enter Tryz.func83,Tryz.ntmps83
 go_wp2_with fail
 refine (uses_3 _).mono ?_
 rintro e w1 ⟨rfl,hb'⟩
 have s1:=(St.start W).new.new.new.call hb'
 clear hb'
 try simp only [World.size_setCell] at s1
 try simp only [World.size_alloc] at s1
 obtain⟨c1,f1,zw1_1,c2,f2,zw1_2,c3,f3,zw1_3,-⟩:=s1.rules
 go_wp2_with fail
 refine (out_any _ _ _ _ _ _ _ _ _ _ _ _).mono ?_
 rintro e w2 ⟨rfl,hb'⟩
 have s2:=s1.new.new.call hb'
 clear hb' c1 f1 c2 f2 c3 f3
 try simp only [World.size_setCell] at s2
 try simp only [World.size_alloc] at s2
 obtain⟨c1,f1,zw2_1,c2,f2,zw2_2,c3,f3,zw2_3,c4,f4,zw2_4,c5,f5,zw2_5,-⟩:=s2.rules
 rw [HO.out]
 go_wp2_with fail
 refine (selems_any _ _ _ _).mono ?_
 rintro e w3 ⟨rfl,hb'⟩
 have s3:=(s2.set01 (by simp;omega)).call hb'
 clear hb' c1 f1 c2 f2 c3 f3 c4 f4 c5 f5
 try simp only [World.size_setCell] at s3
 try simp only [World.size_alloc] at s3
 obtain⟨c1,f1,zw3_1,c2,f2,zw3_2,c3,f3,zw3_3,c4,f4,zw3_4,c5,f5,zw3_5,-⟩:=s3.rules
 rw [HE.out]
 go_wp2
 exact bodyPost_ret (v:=.tuple #[.agg #[U i6 r,U i6 q,U i6 c],U i6 0]) (by simp [results,Tryz.results83,go_sem, *]) rfl ⟨rfl,set3b s3.below (by omega)⟩
theorem makes_4w (a b m kh kw sh sw tp lf bt rt:Int) (wa:Option Addr) (lw wc:Nat) (ba:Option Addr) (lb bc:Nat) (sm ss um us z p lo hi:Int) (h w c x:Int) (W:World) (hm:True) (ho:ouR h w c kh kw sh sw tp lf bt rt=(0,0,x)) (hx:x≠0) :
  Calls Tryz.prog 83 #[.agg #[U i6 4,U i6 a,U i6 b,U i6 m,U i6 kh,U i6 kw,U i6 sh,U i6 sw,U i6 tp,U i6 lf,U i6 bt,U i6 rt,Sl wa lw wc,Sl ba lb bc,U i6 sm,U i6 ss,U i6 um,U i6 us,U i6 z,U i6 p,U i6 lo,U i6 hi],.agg #[U i6 h,U i6 w,U i6 c]] W fun e w'=>e=.returned (.tuple #[.agg #[U i6 0,U i6 0,U i6 0],U i6 x])∧Below W.heap.size W w':=by
 have HO:Hid (ouR h w c kh kw sh sw tp lf bt rt=(0,0,x)):=ho
 clear ho
 go_enter Tryz.func83,Tryz.ntmps83
 go_wp2_with fail
 refine (uses_4 _).mono ?_
 rintro e w1 ⟨rfl,hb'⟩
 have s1:=(St.start W).new.new.new.call hb'
 clear hb'
 try simp only [World.size_setCell] at s1
 try simp only [World.size_alloc] at s1
 obtain⟨c1,f1,zw1_1,c2,f2,zw1_2,c3,f3,zw1_3,-⟩:=s1.rules
 go_wp2_with fail
 refine (out_any _ _ _ _ _ _ _ _ _ _ _ _).mono ?_
 rintro e w2 ⟨rfl,hb'⟩
 have s2:=s1.new.new.call hb'
 clear hb' c1 f1 c2 f2 c3 f3
 try simp only [World.size_setCell] at s2
 try simp only [World.size_alloc] at s2
 obtain⟨c1,f1,zw2_1,c2,f2,zw2_2,c3,f3,zw2_3,c4,f4,zw2_4,c5,f5,zw2_5,-⟩:=s2.rules
 rw [HO.out]
 go_wp2
 exact bodyPost_ret (v:=.tuple #[.agg #[U i6 0,U i6 0,U i6 0],U i6 x]) (by simp [results,Tryz.results83,go_sem, *]) rfl ⟨rfl,set3b s2.below (by omega)⟩
theorem makes_4v (a b m kh kw sh sw tp lf bt rt:Int) (wa:Option Addr) (lw wc:Nat) (ba:Option Addr) (lb bc:Nat) (sm ss um us z p lo hi:Int) (h w c r q:Int) (W:World) (hm:True) (ho:ouR h w c kh kw sh sw tp lf bt rt=(r,q,0)) (hv:vS r q c=false) :
  Calls Tryz.prog 83 #[.agg #[U i6 4,U i6 a,U i6 b,U i6 m,U i6 kh,U i6 kw,U i6 sh,U i6 sw,U i6 tp,U i6 lf,U i6 bt,U i6 rt,Sl wa lw wc,Sl ba lb bc,U i6 sm,U i6 ss,U i6 um,U i6 us,U i6 z,U i6 p,U i6 lo,U i6 hi],.agg #[U i6 h,U i6 w,U i6 c]] W fun e w'=>e=.returned (.tuple #[.agg #[U i6 0,U i6 0,U i6 0],U i6 50])∧Below W.heap.size W w':=by
 have HO:Hid (ouR h w c kh kw sh sw tp lf bt rt=(r,q,0)):=ho
 have HE:Hid (elR r q c=(0,50)):=elR_no hv
 clear ho hv
 go_enter Tryz.func83,Tryz.ntmps83
 go_wp2_with fail
 refine (uses_4 _).mono ?_
 rintro e w1 ⟨rfl,hb'⟩
 have s1:=(St.start W).new.new.new.call hb'
 clear hb'
 try simp only [World.size_setCell] at s1
 try simp only [World.size_alloc] at s1
 obtain⟨c1,f1,zw1_1,c2,f2,zw1_2,c3,f3,zw1_3,-⟩:=s1.rules
 go_wp2_with fail
 refine (out_any _ _ _ _ _ _ _ _ _ _ _ _).mono ?_
 rintro e w2 ⟨rfl,hb'⟩
 have s2:=s1.new.new.call hb'
 clear hb' c1 f1 c2 f2 c3 f3
 try simp only [World.size_setCell] at s2
 try simp only [World.size_alloc] at s2
 obtain⟨c1,f1,zw2_1,c2,f2,zw2_2,c3,f3,zw2_3,c4,f4,zw2_4,c5,f5,zw2_5,-⟩:=s2.rules
 rw [HO.out]
 go_wp2_with fail
 refine (selems_any _ _ _ _).mono ?_
 rintro e w3 ⟨rfl,hb'⟩
 have s3:=(s2.set01 (by simp;omega)).call hb'
 clear hb' c1 f1 c2 f2 c3 f3 c4 f4 c5 f5
 try simp only [World.size_setCell] at s3
 try simp only [World.size_alloc] at s3
 obtain⟨c1,f1,zw3_1,c2,f2,zw3_2,c3,f3,zw3_3,c4,f4,zw3_4,c5,f5,zw3_5,-⟩:=s3.rules
 rw [HE.out]
 go_wp2
 exact bodyPost_ret (v:=.tuple #[.agg #[U i6 0,U i6 0,U i6 0],U i6 50]) (by simp [results,Tryz.results83,go_sem, *]) rfl ⟨rfl,set3b s3.below (by omega)⟩
theorem makes_4 (a b m kh kw sh sw tp lf bt rt:Int) (wa:Option Addr) (lw wc:Nat) (ba:Option Addr) (lb bc:Nat) (sm ss um us z p lo hi:Int) (h w c r q:Int) (W:World) (hm:True) (ho:ouR h w c kh kw sh sw tp lf bt rt=(r,q,0)) (hv:vS r q c=true) :
  Calls Tryz.prog 83 #[.agg #[U i6 4,U i6 a,U i6 b,U i6 m,U i6 kh,U i6 kw,U i6 sh,U i6 sw,U i6 tp,U i6 lf,U i6 bt,U i6 rt,Sl wa lw wc,Sl ba lb bc,U i6 sm,U i6 ss,U i6 um,U i6 us,U i6 z,U i6 p,U i6 lo,U i6 hi],.agg #[U i6 h,U i6 w,U i6 c]] W fun e w'=>e=.returned (.tuple #[.agg #[U i6 r,U i6 q,U i6 c],U i6 0])∧Below W.heap.size W w':=by
 have HO:Hid (ouR h w c kh kw sh sw tp lf bt rt=(r,q,0)):=ho
 have HE:Hid (elR r q c=(r*q*c,0)):=elR_ok hv
 obtain⟨y,hy⟩:∃ y,r*q*c=y:=⟨_,rfl⟩
 rw [hy] at HE
 clear ho hv hy
 go_enter Tryz.func83,Tryz.ntmps83
 go_wp2_with fail
 refine (uses_4 _).mono ?_
 rintro e w1 ⟨rfl,hb'⟩
 have s1:=(St.start W).new.new.new.call hb'
 clear hb'
 try simp only [World.size_setCell] at s1
 try simp only [World.size_alloc] at s1
 obtain⟨c1,f1,zw1_1,c2,f2,zw1_2,c3,f3,zw1_3,-⟩:=s1.rules
 go_wp2_with fail
 refine (out_any _ _ _ _ _ _ _ _ _ _ _ _).mono ?_
 rintro e w2 ⟨rfl,hb'⟩
 have s2:=s1.new.new.call hb'
 clear hb' c1 f1 c2 f2 c3 f3
 try simp only [World.size_setCell] at s2
 try simp only [World.size_alloc] at s2
 obtain⟨c1,f1,zw2_1,c2,f2,zw2_2,c3,f3,zw2_3,c4,f4,zw2_4,c5,f5,zw2_5,-⟩:=s2.rules
 rw [HO.out]
 go_wp2_with fail
 refine (selems_any _ _ _ _).mono ?_
 rintro e w3 ⟨rfl,hb'⟩
 have s3:=(s2.set01 (by simp;omega)).call hb'
 clear hb' c1 f1 c2 f2 c3 f3 c4 f4 c5 f5
 try simp only [World.size_setCell] at s3
 try simp only [World.size_alloc] at s3
 obtain⟨c1,f1,zw3_1,c2,f2,zw3_2,c3,f3,zw3_3,c4,f4,zw3_4,c5,f5,zw3_5,-⟩:=s3.rules
 rw [HE.out]
 go_wp2
 exact bodyPost_ret (v:=.tuple #[.agg #[U i6 r,U i6 q,U i6 c],U i6 0]) (by simp [results,Tryz.results83,go_sem, *]) rfl ⟨rfl,set3b s3.below (by omega)⟩
theorem makes_5w (a b m kh kw sh sw tp lf bt rt:Int) (wa:Option Addr) (lw wc:Nat) (ba:Option Addr) (lb bc:Nat) (sm ss um us z p lo hi:Int) (h w c x:Int) (W:World) (hm:True) (ho:ouR h w c kh kw sh sw tp lf bt rt=(0,0,x)) (hx:x≠0) :
  Calls Tryz.prog 83 #[.agg #[U i6 5,U i6 a,U i6 b,U i6 m,U i6 kh,U i6 kw,U i6 sh,U i6 sw,U i6 tp,U i6 lf,U i6 bt,U i6 rt,Sl wa lw wc,Sl ba lb bc,U i6 sm,U i6 ss,U i6 um,U i6 us,U i6 z,U i6 p,U i6 lo,U i6 hi],.agg #[U i6 h,U i6 w,U i6 c]] W fun e w'=>e=.returned (.tuple #[.agg #[U i6 0,U i6 0,U i6 0],U i6 x])∧Below W.heap.size W w':=by
 have HO:Hid (ouR h w c kh kw sh sw tp lf bt rt=(0,0,x)):=ho
 clear ho
 go_enter Tryz.func83,Tryz.ntmps83
 go_wp2_with fail
 refine (uses_5 _).mono ?_
 rintro e w1 ⟨rfl,hb'⟩
 have s1:=(St.start W).new.new.new.call hb'
 clear hb'
 try simp only [World.size_setCell] at s1
 try simp only [World.size_alloc] at s1
 obtain⟨c1,f1,zw1_1,c2,f2,zw1_2,c3,f3,zw1_3,-⟩:=s1.rules
 go_wp2_with fail
 refine (out_any _ _ _ _ _ _ _ _ _ _ _ _).mono ?_
 rintro e w2 ⟨rfl,hb'⟩
 have s2:=s1.new.new.call hb'
 clear hb' c1 f1 c2 f2 c3 f3
 try simp only [World.size_setCell] at s2
 try simp only [World.size_alloc] at s2
 obtain⟨c1,f1,zw2_1,c2,f2,zw2_2,c3,f3,zw2_3,c4,f4,zw2_4,c5,f5,zw2_5,-⟩:=s2.rules
 rw [HO.out]
 go_wp2
 exact bodyPost_ret (v:=.tuple #[.agg #[U i6 0,U i6 0,U i6 0],U i6 x]) (by simp [results,Tryz.results83,go_sem, *]) rfl ⟨rfl,set3b s2.below (by omega)⟩
theorem makes_5v (a b m kh kw sh sw tp lf bt rt:Int) (wa:Option Addr) (lw wc:Nat) (ba:Option Addr) (lb bc:Nat) (sm ss um us z p lo hi:Int) (h w c r q:Int) (W:World) (hm:True) (ho:ouR h w c kh kw sh sw tp lf bt rt=(r,q,0)) (hv:vS r q c=false) :
  Calls Tryz.prog 83 #[.agg #[U i6 5,U i6 a,U i6 b,U i6 m,U i6 kh,U i6 kw,U i6 sh,U i6 sw,U i6 tp,U i6 lf,U i6 bt,U i6 rt,Sl wa lw wc,Sl ba lb bc,U i6 sm,U i6 ss,U i6 um,U i6 us,U i6 z,U i6 p,U i6 lo,U i6 hi],.agg #[U i6 h,U i6 w,U i6 c]] W fun e w'=>e=.returned (.tuple #[.agg #[U i6 0,U i6 0,U i6 0],U i6 50])∧Below W.heap.size W w':=by
 have HO:Hid (ouR h w c kh kw sh sw tp lf bt rt=(r,q,0)):=ho
 have HE:Hid (elR r q c=(0,50)):=elR_no hv
 clear ho hv
 go_enter Tryz.func83,Tryz.ntmps83
 go_wp2_with fail
 refine (uses_5 _).mono ?_
 rintro e w1 ⟨rfl,hb'⟩
 have s1:=(St.start W).new.new.new.call hb'
 clear hb'
 try simp only [World.size_setCell] at s1
 try simp only [World.size_alloc] at s1
 obtain⟨c1,f1,zw1_1,c2,f2,zw1_2,c3,f3,zw1_3,-⟩:=s1.rules
 go_wp2_with fail
 refine (out_any _ _ _ _ _ _ _ _ _ _ _ _).mono ?_
 rintro e w2 ⟨rfl,hb'⟩
 have s2:=s1.new.new.call hb'
 clear hb' c1 f1 c2 f2 c3 f3
 try simp only [World.size_setCell] at s2
 try simp only [World.size_alloc] at s2
 obtain⟨c1,f1,zw2_1,c2,f2,zw2_2,c3,f3,zw2_3,c4,f4,zw2_4,c5,f5,zw2_5,-⟩:=s2.rules
 rw [HO.out]
 go_wp2_with fail
 refine (selems_any _ _ _ _).mono ?_
 rintro e w3 ⟨rfl,hb'⟩
 have s3:=(s2.set01 (by simp;omega)).call hb'
 clear hb' c1 f1 c2 f2 c3 f3 c4 f4 c5 f5
 try simp only [World.size_setCell] at s3
 try simp only [World.size_alloc] at s3
 obtain⟨c1,f1,zw3_1,c2,f2,zw3_2,c3,f3,zw3_3,c4,f4,zw3_4,c5,f5,zw3_5,-⟩:=s3.rules
 rw [HE.out]
 go_wp2
 exact bodyPost_ret (v:=.tuple #[.agg #[U i6 0,U i6 0,U i6 0],U i6 50]) (by simp [results,Tryz.results83,go_sem, *]) rfl ⟨rfl,set3b s3.below (by omega)⟩
theorem makes_5 (a b m kh kw sh sw tp lf bt rt:Int) (wa:Option Addr) (lw wc:Nat) (ba:Option Addr) (lb bc:Nat) (sm ss um us z p lo hi:Int) (h w c r q:Int) (W:World) (hm:True) (ho:ouR h w c kh kw sh sw tp lf bt rt=(r,q,0)) (hv:vS r q c=true) :
  Calls Tryz.prog 83 #[.agg #[U i6 5,U i6 a,U i6 b,U i6 m,U i6 kh,U i6 kw,U i6 sh,U i6 sw,U i6 tp,U i6 lf,U i6 bt,U i6 rt,Sl wa lw wc,Sl ba lb bc,U i6 sm,U i6 ss,U i6 um,U i6 us,U i6 z,U i6 p,U i6 lo,U i6 hi],.agg #[U i6 h,U i6 w,U i6 c]] W fun e w'=>e=.returned (.tuple #[.agg #[U i6 r,U i6 q,U i6 c],U i6 0])∧Below W.heap.size W w':=by
 have HO:Hid (ouR h w c kh kw sh sw tp lf bt rt=(r,q,0)):=ho
 have HE:Hid (elR r q c=(r*q*c,0)):=elR_ok hv
 obtain⟨y,hy⟩:∃ y,r*q*c=y:=⟨_,rfl⟩
 rw [hy] at HE
 clear ho hv hy
 go_enter Tryz.func83,Tryz.ntmps83
 go_wp2_with fail
 refine (uses_5 _).mono ?_
 rintro e w1 ⟨rfl,hb'⟩
 have s1:=(St.start W).new.new.new.call hb'
 clear hb'
 try simp only [World.size_setCell] at s1
 try simp only [World.size_alloc] at s1
 obtain⟨c1,f1,zw1_1,c2,f2,zw1_2,c3,f3,zw1_3,-⟩:=s1.rules
 go_wp2_with fail
 refine (out_any _ _ _ _ _ _ _ _ _ _ _ _).mono ?_
 rintro e w2 ⟨rfl,hb'⟩
 have s2:=s1.new.new.call hb'
 clear hb' c1 f1 c2 f2 c3 f3
 try simp only [World.size_setCell] at s2
 try simp only [World.size_alloc] at s2
 obtain⟨c1,f1,zw2_1,c2,f2,zw2_2,c3,f3,zw2_3,c4,f4,zw2_4,c5,f5,zw2_5,-⟩:=s2.rules
 rw [HO.out]
 go_wp2_with fail
 refine (selems_any _ _ _ _).mono ?_
 rintro e w3 ⟨rfl,hb'⟩
 have s3:=(s2.set01 (by simp;omega)).call hb'
 clear hb' c1 f1 c2 f2 c3 f3 c4 f4 c5 f5
 try simp only [World.size_setCell] at s3
 try simp only [World.size_alloc] at s3
 obtain⟨c1,f1,zw3_1,c2,f2,zw3_2,c3,f3,zw3_3,c4,f4,zw3_4,c5,f5,zw3_5,-⟩:=s3.rules
 rw [HE.out]
 go_wp2
 exact bodyPost_ret (v:=.tuple #[.agg #[U i6 r,U i6 q,U i6 c],U i6 0]) (by simp [results,Tryz.results83,go_sem, *]) rfl ⟨rfl,set3b s3.below (by omega)⟩
theorem makes_any (k a b m kh kw sh sw tp lf bt rt:Int) (wa:Option Addr) (lw wc:Nat) (ba:Option Addr) (lb bc:Nat) (sm ss um us z p lo hi:Int) (h w c:Int) (W:World) (hk:1≤k∧k≤8) (g:vS h w c=true) :
  Calls Tryz.prog 83 #[.agg #[U i6 k,U i6 a,U i6 b,U i6 m,U i6 kh,U i6 kw,U i6 sh,U i6 sw,U i6 tp,U i6 lf,U i6 bt,U i6 rt,Sl wa lw wc,Sl ba lb bc,U i6 sm,U i6 ss,U i6 um,U i6 us,U i6 z,U i6 p,U i6 lo,U i6 hi],.agg #[U i6 h,U i6 w,U i6 c]] W fun e w'=>e=.returned (.tuple #[.agg #[U i6 (mkO k m kh kw sh sw tp lf bt rt h w c).1,U i6 (mkO k m kh kw sh sw tp lf bt rt h w c).2.1,U i6 (mkO k m kh kw sh sw tp lf bt rt h w c).2.2],U i6 (mkE k m kh kw sh sw tp lf bt rt h w c)])∧Below W.heap.size W w':=by
 by_cases hM:mkM k m=false
 ·have e:=mkE_M (kh:=kh) (kw:=kw) (sh:=sh) (sw:=sw) (tp:=tp) (lf:=lf) (bt:=bt) (rt:=rt) (h:=h) (w:=w) (c:=c) hM
  rw [mkO_no e (by decide),e]
  unfold mkM at hM
  have hM':¬ (k≤2→1≤m∧m≤1024):=of_decide_eq_false hM
  have hk2:k≤2:=Decidable.byContradiction fun q=>hM' fun q'=>absurd q' q
  by_cases h1:m<1
  ·rcases (show k=1∨k=2 by omega) with rfl | rfl
   ·exact makes_1a a b m kh kw sh sw tp lf bt rt wa lw wc ba lb bc sm ss um us z p lo hi h w c W h1
   ·exact makes_2a a b m kh kw sh sw tp lf bt rt wa lw wc ba lb bc sm ss um us z p lo hi h w c W h1
  ·have h2:1024<m:=Decidable.byContradiction fun q=>hM' fun _=>by omega
   rcases (show k=1∨k=2 by omega) with rfl | rfl
   ·exact makes_1b a b m kh kw sh sw tp lf bt rt wa lw wc ba lb bc sm ss um us z p lo hi h w c W ⟨h1,h2⟩
   ·exact makes_2b a b m kh kw sh sw tp lf bt rt wa lw wc ba lb bc sm ss um us z p lo hi h w c W ⟨h1,h2⟩
 ·have hM1:mkM k m=true:=by simpa using hM
  have hM':k≤2→1≤m∧m≤1024:=of_decide_eq_true hM1
  rcases eight hk with rfl | rfl | rfl | rfl | rfl | rfl | rfl | rfl
  ·have e:=mkE_0 (h:=h) (w:=w) (c:=c) (kh:=kh) (kw:=kw) (sh:=sh) (sw:=sw) (tp:=tp) (lf:=lf) (bt:=bt) (rt:=rt) hM1 rfl (show vS3 (1,1,m)=true from vS_mk (by have:=hM' (by decide);simp only;omega))
   rw [mkO_ok e,e]
   exact makes_1 a b m kh kw sh sw tp lf bt rt wa lw wc ba lb bc sm ss um us z p lo hi h w c W (by have:=hM' (by decide);omega)
  ·rcases ouR_cases h w c kh kw sh sw tp lf bt rt with ⟨x,ho,hx⟩ | ⟨r,q,ho,-⟩
   ·have hx':x≠0:=by omega
    have e:=mkE_W (h:=h) (w:=w) (c:=c) hM1 (show mkW 2 kh kw sh sw tp lf bt rt h w c=x by unfold mkW;rw [if_pos (by decide),ho]) hx'
    rw [mkO_no e hx',e]
    exact makes_2w a b m kh kw sh sw tp lf bt rt wa lw wc ba lb bc sm ss um us z p lo hi h w c x W (by first | trivial | (have:=hM' (by decide);omega)) ho hx'
   ·have hw0:mkW 2 kh kw sh sw tp lf bt rt h w c=0:=by unfold mkW;rw [if_pos (by decide),ho]
    have hs:mkS 2 m kh kw sh sw tp lf bt rt h w c=(r,q,m):=by unfold mkS;rw [ho];rfl
    cases hv:vS r q m with
    | false =>
     have e:=mkE_V (h:=h) (w:=w) (c:=c) hM1 hw0 (by rw [hs];exact hv)
     rw [mkO_no e (by decide),e]
     exact makes_2v a b m kh kw sh sw tp lf bt rt wa lw wc ba lb bc sm ss um us z p lo hi h w c r q W (by first | trivial | (have:=hM' (by decide);omega)) ho hv
    | true =>
     have e:=mkE_0 (h:=h) (w:=w) (c:=c) hM1 hw0 (by rw [hs];exact hv)
     rw [mkO_ok e,e,hs]
     exact makes_2 a b m kh kw sh sw tp lf bt rt wa lw wc ba lb bc sm ss um us z p lo hi h w c r q W (by first | trivial | (have:=hM' (by decide);omega)) ho hv
  ·rcases ouR_cases h w c kh kw sh sw tp lf bt rt with ⟨x,ho,hx⟩ | ⟨r,q,ho,-⟩
   ·have hx':x≠0:=by omega
    have e:=mkE_W (h:=h) (w:=w) (c:=c) hM1 (show mkW 3 kh kw sh sw tp lf bt rt h w c=x by unfold mkW;rw [if_pos (by decide),ho]) hx'
    rw [mkO_no e hx',e]
    exact makes_3w a b m kh kw sh sw tp lf bt rt wa lw wc ba lb bc sm ss um us z p lo hi h w c x W (by first | trivial | (have:=hM' (by decide);omega)) ho hx'
   ·have hw0:mkW 3 kh kw sh sw tp lf bt rt h w c=0:=by unfold mkW;rw [if_pos (by decide),ho]
    have hs:mkS 3 m kh kw sh sw tp lf bt rt h w c=(r,q,c):=by unfold mkS;rw [ho];rfl
    cases hv:vS r q c with
    | false =>
     have e:=mkE_V (h:=h) (w:=w) (c:=c) hM1 hw0 (by rw [hs];exact hv)
     rw [mkO_no e (by decide),e]
     exact makes_3v a b m kh kw sh sw tp lf bt rt wa lw wc ba lb bc sm ss um us z p lo hi h w c r q W (by first | trivial | (have:=hM' (by decide);omega)) ho hv
    | true =>
     have e:=mkE_0 (h:=h) (w:=w) (c:=c) hM1 hw0 (by rw [hs];exact hv)
     rw [mkO_ok e,e,hs]
     exact makes_3 a b m kh kw sh sw tp lf bt rt wa lw wc ba lb bc sm ss um us z p lo hi h w c r q W (by first | trivial | (have:=hM' (by decide);omega)) ho hv
  ·rcases ouR_cases h w c kh kw sh sw tp lf bt rt with ⟨x,ho,hx⟩ | ⟨r,q,ho,-⟩
   ·have hx':x≠0:=by omega
    have e:=mkE_W (h:=h) (w:=w) (c:=c) hM1 (show mkW 4 kh kw sh sw tp lf bt rt h w c=x by unfold mkW;rw [if_pos (by decide),ho]) hx'
    rw [mkO_no e hx',e]
    exact makes_4w a b m kh kw sh sw tp lf bt rt wa lw wc ba lb bc sm ss um us z p lo hi h w c x W (by first | trivial | (have:=hM' (by decide);omega)) ho hx'
   ·have hw0:mkW 4 kh kw sh sw tp lf bt rt h w c=0:=by unfold mkW;rw [if_pos (by decide),ho]
    have hs:mkS 4 m kh kw sh sw tp lf bt rt h w c=(r,q,c):=by unfold mkS;rw [ho];rfl
    cases hv:vS r q c with
    | false =>
     have e:=mkE_V (h:=h) (w:=w) (c:=c) hM1 hw0 (by rw [hs];exact hv)
     rw [mkO_no e (by decide),e]
     exact makes_4v a b m kh kw sh sw tp lf bt rt wa lw wc ba lb bc sm ss um us z p lo hi h w c r q W (by first | trivial | (have:=hM' (by decide);omega)) ho hv
    | true =>
     have e:=mkE_0 (h:=h) (w:=w) (c:=c) hM1 hw0 (by rw [hs];exact hv)
     rw [mkO_ok e,e,hs]
     exact makes_4 a b m kh kw sh sw tp lf bt rt wa lw wc ba lb bc sm ss um us z p lo hi h w c r q W (by first | trivial | (have:=hM' (by decide);omega)) ho hv
  ·rcases ouR_cases h w c kh kw sh sw tp lf bt rt with ⟨x,ho,hx⟩ | ⟨r,q,ho,-⟩
   ·have hx':x≠0:=by omega
    have e:=mkE_W (h:=h) (w:=w) (c:=c) hM1 (show mkW 5 kh kw sh sw tp lf bt rt h w c=x by unfold mkW;rw [if_pos (by decide),ho]) hx'
    rw [mkO_no e hx',e]
    exact makes_5w a b m kh kw sh sw tp lf bt rt wa lw wc ba lb bc sm ss um us z p lo hi h w c x W (by first | trivial | (have:=hM' (by decide);omega)) ho hx'
   ·have hw0:mkW 5 kh kw sh sw tp lf bt rt h w c=0:=by unfold mkW;rw [if_pos (by decide),ho]
    have hs:mkS 5 m kh kw sh sw tp lf bt rt h w c=(r,q,c):=by unfold mkS;rw [ho];rfl
    cases hv:vS r q c with
    | false =>
     have e:=mkE_V (h:=h) (w:=w) (c:=c) hM1 hw0 (by rw [hs];exact hv)
     rw [mkO_no e (by decide),e]
     exact makes_5v a b m kh kw sh sw tp lf bt rt wa lw wc ba lb bc sm ss um us z p lo hi h w c r q W (by first | trivial | (have:=hM' (by decide);omega)) ho hv
    | true =>
     have e:=mkE_0 (h:=h) (w:=w) (c:=c) hM1 hw0 (by rw [hs];exact hv)
     rw [mkO_ok e,e,hs]
     exact makes_5 a b m kh kw sh sw tp lf bt rt wa lw wc ba lb bc sm ss um us z p lo hi h w c r q W (by first | trivial | (have:=hM' (by decide);omega)) ho hv
  ·have e:=mkE_0 (h:=h) (w:=w) (c:=c) (kh:=kh) (kw:=kw) (sh:=sh) (sw:=sw) (tp:=tp) (lf:=lf) (bt:=bt) (rt:=rt) hM1 rfl (show vS3 (h,w,c)=true from g)
   rw [mkO_ok e,e]
   exact makes_6 a b m kh kw sh sw tp lf bt rt wa lw wc ba lb bc sm ss um us z p lo hi h w c W g
  ·have e:=mkE_0 (h:=h) (w:=w) (c:=c) (kh:=kh) (kw:=kw) (sh:=sh) (sw:=sw) (tp:=tp) (lf:=lf) (bt:=bt) (rt:=rt) hM1 rfl (show vS3 (h,w,c)=true from g)
   rw [mkO_ok e,e]
   exact makes_7 a b m kh kw sh sw tp lf bt rt wa lw wc ba lb bc sm ss um us z p lo hi h w c W g
  ·have e:=mkE_0 (h:=h) (w:=w) (c:=c) (kh:=kh) (kw:=kw) (sh:=sh) (sw:=sw) (tp:=tp) (lf:=lf) (bt:=bt) (rt:=rt) hM1 rfl (show vS3 (h,w,c)=true from g)
   rw [mkO_ok e,e]
   exact makes_8 a b m kh kw sh sw tp lf bt rt wa lw wc ba lb bc sm ss um us z p lo hi h w c W g
end Go.Proofs.YtccoanknofhmaaaGreat
