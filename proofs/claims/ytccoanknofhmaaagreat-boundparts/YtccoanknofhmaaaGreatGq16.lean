/- The document's Makes, Length, Lists and Labour of layer 8: what each returns. -/
import Derived.Test.YtccoanknofhmaaaGreatGq11
import Derived.Test.YtccoanknofhmaaaGreatGq12
namespace Go.Proofs.YtccoanknofhmaaaGreat
open Go.Value renaming int → U, slice → Sl
open Go.IntKind renaming i64 → i6
set_option maxRecDepth 100000
set_option maxHeartbeats 16000000
open Go.ChangeShapes Go.WideShapes Go.ChangeAt Go.RowKit
set_option linter.unusedVariables false
theorem length_1 (a b m kh kw sh sw tp lf bt rt:Int) (wa:Option Addr) (lw wc:Nat) (ba:Option Addr) (lb bc:Nat) (sm ss um us z p lo hi:Int) (h w c:Int) (W:World) (g:vS h w c=true) (hw:(1:Int)≠1→(1≤kh∧kh≤32)∧(1≤kw∧kw≤32)) :
  Calls Tryz.prog 35 #[.agg #[U i6 1,U i6 a,U i6 b,U i6 m,U i6 kh,U i6 kw,U i6 sh,U i6 sw,U i6 tp,U i6 lf,U i6 bt,U i6 rt,Sl wa lw wc,Sl ba lb bc,U i6 sm,U i6 ss,U i6 um,U i6 us,U i6 z,U i6 p,U i6 lo,U i6 hi],.agg #[U i6 h,U i6 w,U i6 c]] W fun e w'=>e=.returned (U i6 (stR 1 kh kw h w c))∧Below W.heap.size W w':=by
 have hb:Below W.heap.size W ((W.alloc (.cells #[U i6 1,U i6 a,U i6 b,U i6 m,U i6 kh,U i6 kw,U i6 sh,U i6 sw,U i6 tp,U i6 lf,U i6 bt,U i6 rt,Sl wa lw wc,Sl ba lb bc,U i6 sm,U i6 ss,U i6 um,U i6 us,U i6 z,U i6 p,U i6 lo,U i6 hi] 42)).alloc (.cells #[U i6 h,U i6 w,U i6 c] 23)):=(St.start W).new.new.below
 have p3:(1≤h*w∧h*w≤1048576)∧(1≤h*w*c∧h*w*c≤16384):=vS_bd g
 have c1:=(vS_yes g).2.2.1
 have hp:(1:Int)≠1→(1≤kh*kw∧kh*kw≤1024)∧(1≤kh*kw*c∧kh*kw*c≤1048576):=fun q=>by
  obtain⟨hw1,hw2⟩:=hw q
  obtain⟨p1,p2⟩:=mul_bd hw1.1 hw1.2 hw2.1 hw2.2
  obtain⟨q1,q2⟩:=mul_bd p1 p2 c1.1 c1.2
  exact⟨⟨p1,by omega⟩,q1,by omega⟩
 rw [show stR 1 kh kw h w c=(if (1:Int)=1 then h*w*c else if (1:Int)=2 then kh*kw*c else kh*kw) from rfl]
 simp at hp ⊢
 obtain⟨p',ep⟩:∃ p',h*w=p':=⟨_,rfl⟩
 obtain⟨q',eq⟩:∃ q',kh*kw=q':=⟨_,rfl⟩
 rw [ep] at p3
 try rw [eq] at hp
 try rw [ep]
 try rw [eq]
 clear g hw c1
 go_enter Tryz.func35,Tryz.ntmps35
 go_wp2
 go_ret
 exact⟨rfl,hb⟩
theorem length_2 (a b m kh kw sh sw tp lf bt rt:Int) (wa:Option Addr) (lw wc:Nat) (ba:Option Addr) (lb bc:Nat) (sm ss um us z p lo hi:Int) (h w c:Int) (W:World) (g:vS h w c=true) (hw:(2:Int)≠1→(1≤kh∧kh≤32)∧(1≤kw∧kw≤32)) :
  Calls Tryz.prog 35 #[.agg #[U i6 2,U i6 a,U i6 b,U i6 m,U i6 kh,U i6 kw,U i6 sh,U i6 sw,U i6 tp,U i6 lf,U i6 bt,U i6 rt,Sl wa lw wc,Sl ba lb bc,U i6 sm,U i6 ss,U i6 um,U i6 us,U i6 z,U i6 p,U i6 lo,U i6 hi],.agg #[U i6 h,U i6 w,U i6 c]] W fun e w'=>e=.returned (U i6 (stR 2 kh kw h w c))∧Below W.heap.size W w':=by
 have hb:Below W.heap.size W ((W.alloc (.cells #[U i6 2,U i6 a,U i6 b,U i6 m,U i6 kh,U i6 kw,U i6 sh,U i6 sw,U i6 tp,U i6 lf,U i6 bt,U i6 rt,Sl wa lw wc,Sl ba lb bc,U i6 sm,U i6 ss,U i6 um,U i6 us,U i6 z,U i6 p,U i6 lo,U i6 hi] 42)).alloc (.cells #[U i6 h,U i6 w,U i6 c] 23)):=(St.start W).new.new.below
 have p3:(1≤h*w∧h*w≤1048576)∧(1≤h*w*c∧h*w*c≤16384):=vS_bd g
 have c1:=(vS_yes g).2.2.1
 have hp:(2:Int)≠1→(1≤kh*kw∧kh*kw≤1024)∧(1≤kh*kw*c∧kh*kw*c≤1048576):=fun q=>by
  obtain⟨hw1,hw2⟩:=hw q
  obtain⟨p1,p2⟩:=mul_bd hw1.1 hw1.2 hw2.1 hw2.2
  obtain⟨q1,q2⟩:=mul_bd p1 p2 c1.1 c1.2
  exact⟨⟨p1,by omega⟩,q1,by omega⟩
 rw [show stR 2 kh kw h w c=(if (2:Int)=1 then h*w*c else if (2:Int)=2 then kh*kw*c else kh*kw) from rfl]
 simp at hp ⊢
 obtain⟨p',ep⟩:∃ p',h*w=p':=⟨_,rfl⟩
 obtain⟨q',eq⟩:∃ q',kh*kw=q':=⟨_,rfl⟩
 rw [ep] at p3
 try rw [eq] at hp
 try rw [ep]
 try rw [eq]
 clear g hw c1
 go_enter Tryz.func35,Tryz.ntmps35
 go_wp2
 go_ret
 exact⟨rfl,hb⟩
theorem length_3 (a b m kh kw sh sw tp lf bt rt:Int) (wa:Option Addr) (lw wc:Nat) (ba:Option Addr) (lb bc:Nat) (sm ss um us z p lo hi:Int) (h w c:Int) (W:World) (g:vS h w c=true) (hw:(3:Int)≠1→(1≤kh∧kh≤32)∧(1≤kw∧kw≤32)) :
  Calls Tryz.prog 35 #[.agg #[U i6 3,U i6 a,U i6 b,U i6 m,U i6 kh,U i6 kw,U i6 sh,U i6 sw,U i6 tp,U i6 lf,U i6 bt,U i6 rt,Sl wa lw wc,Sl ba lb bc,U i6 sm,U i6 ss,U i6 um,U i6 us,U i6 z,U i6 p,U i6 lo,U i6 hi],.agg #[U i6 h,U i6 w,U i6 c]] W fun e w'=>e=.returned (U i6 (stR 3 kh kw h w c))∧Below W.heap.size W w':=by
 have hb:Below W.heap.size W ((W.alloc (.cells #[U i6 3,U i6 a,U i6 b,U i6 m,U i6 kh,U i6 kw,U i6 sh,U i6 sw,U i6 tp,U i6 lf,U i6 bt,U i6 rt,Sl wa lw wc,Sl ba lb bc,U i6 sm,U i6 ss,U i6 um,U i6 us,U i6 z,U i6 p,U i6 lo,U i6 hi] 42)).alloc (.cells #[U i6 h,U i6 w,U i6 c] 23)):=(St.start W).new.new.below
 have p3:(1≤h*w∧h*w≤1048576)∧(1≤h*w*c∧h*w*c≤16384):=vS_bd g
 have c1:=(vS_yes g).2.2.1
 have hp:(3:Int)≠1→(1≤kh*kw∧kh*kw≤1024)∧(1≤kh*kw*c∧kh*kw*c≤1048576):=fun q=>by
  obtain⟨hw1,hw2⟩:=hw q
  obtain⟨p1,p2⟩:=mul_bd hw1.1 hw1.2 hw2.1 hw2.2
  obtain⟨q1,q2⟩:=mul_bd p1 p2 c1.1 c1.2
  exact⟨⟨p1,by omega⟩,q1,by omega⟩
 rw [show stR 3 kh kw h w c=(if (3:Int)=1 then h*w*c else if (3:Int)=2 then kh*kw*c else kh*kw) from rfl]
 simp at hp ⊢
 obtain⟨p',ep⟩:∃ p',h*w=p':=⟨_,rfl⟩
 obtain⟨q',eq⟩:∃ q',kh*kw=q':=⟨_,rfl⟩
 rw [ep] at p3
 try rw [eq] at hp
 try rw [ep]
 try rw [eq]
 clear g hw c1
 go_enter Tryz.func35,Tryz.ntmps35
 go_wp2
 go_ret
 exact⟨rfl,hb⟩
theorem length_4 (a b m kh kw sh sw tp lf bt rt:Int) (wa:Option Addr) (lw wc:Nat) (ba:Option Addr) (lb bc:Nat) (sm ss um us z p lo hi:Int) (h w c:Int) (W:World) (g:vS h w c=true) (hw:(4:Int)≠1→(1≤kh∧kh≤32)∧(1≤kw∧kw≤32)) :
  Calls Tryz.prog 35 #[.agg #[U i6 4,U i6 a,U i6 b,U i6 m,U i6 kh,U i6 kw,U i6 sh,U i6 sw,U i6 tp,U i6 lf,U i6 bt,U i6 rt,Sl wa lw wc,Sl ba lb bc,U i6 sm,U i6 ss,U i6 um,U i6 us,U i6 z,U i6 p,U i6 lo,U i6 hi],.agg #[U i6 h,U i6 w,U i6 c]] W fun e w'=>e=.returned (U i6 (stR 4 kh kw h w c))∧Below W.heap.size W w':=by
 have hb:Below W.heap.size W ((W.alloc (.cells #[U i6 4,U i6 a,U i6 b,U i6 m,U i6 kh,U i6 kw,U i6 sh,U i6 sw,U i6 tp,U i6 lf,U i6 bt,U i6 rt,Sl wa lw wc,Sl ba lb bc,U i6 sm,U i6 ss,U i6 um,U i6 us,U i6 z,U i6 p,U i6 lo,U i6 hi] 42)).alloc (.cells #[U i6 h,U i6 w,U i6 c] 23)):=(St.start W).new.new.below
 have p3:(1≤h*w∧h*w≤1048576)∧(1≤h*w*c∧h*w*c≤16384):=vS_bd g
 have c1:=(vS_yes g).2.2.1
 have hp:(4:Int)≠1→(1≤kh*kw∧kh*kw≤1024)∧(1≤kh*kw*c∧kh*kw*c≤1048576):=fun q=>by
  obtain⟨hw1,hw2⟩:=hw q
  obtain⟨p1,p2⟩:=mul_bd hw1.1 hw1.2 hw2.1 hw2.2
  obtain⟨q1,q2⟩:=mul_bd p1 p2 c1.1 c1.2
  exact⟨⟨p1,by omega⟩,q1,by omega⟩
 rw [show stR 4 kh kw h w c=(if (4:Int)=1 then h*w*c else if (4:Int)=2 then kh*kw*c else kh*kw) from rfl]
 simp at hp ⊢
 obtain⟨p',ep⟩:∃ p',h*w=p':=⟨_,rfl⟩
 obtain⟨q',eq⟩:∃ q',kh*kw=q':=⟨_,rfl⟩
 rw [ep] at p3
 try rw [eq] at hp
 try rw [ep]
 try rw [eq]
 clear g hw c1
 go_enter Tryz.func35,Tryz.ntmps35
 go_wp2
 go_ret
 exact⟨rfl,hb⟩
theorem length_any (k a b m kh kw sh sw tp lf bt rt:Int) (wa:Option Addr) (lw wc:Nat) (ba:Option Addr) (lb bc:Nat) (sm ss um us z p lo hi:Int) (h w c:Int) (W:World) (hk:rdB k=true) (g:vS h w c=true) (hw:2≤k∧k≤5→(1≤kh∧kh≤32)∧(1≤kw∧kw≤32)) :
  Calls Tryz.prog 35 #[.agg #[U i6 k,U i6 a,U i6 b,U i6 m,U i6 kh,U i6 kw,U i6 sh,U i6 sw,U i6 tp,U i6 lf,U i6 bt,U i6 rt,Sl wa lw wc,Sl ba lb bc,U i6 sm,U i6 ss,U i6 um,U i6 us,U i6 z,U i6 p,U i6 lo,U i6 hi],.agg #[U i6 h,U i6 w,U i6 c]] W fun e w'=>e=.returned (U i6 (stR k kh kw h w c))∧Below W.heap.size W w':=by
 have hk':1≤k∧k≤4:=of_decide_eq_true hk
 rcases (show k=1∨k=2∨k=3∨k=4 by omega) with rfl | rfl | rfl | rfl
 ·exact length_1 a b m kh kw sh sw tp lf bt rt wa lw wc ba lb bc sm ss um us z p lo hi h w c W g (fun q=>hw (by omega))
 ·exact length_2 a b m kh kw sh sw tp lf bt rt wa lw wc ba lb bc sm ss um us z p lo hi h w c W g (fun q=>hw (by omega))
 ·exact length_3 a b m kh kw sh sw tp lf bt rt wa lw wc ba lb bc sm ss um us z p lo hi h w c W g (fun q=>hw (by omega))
 ·exact length_4 a b m kh kw sh sw tp lf bt rt wa lw wc ba lb bc sm ss um us z p lo hi h w c W g (fun q=>hw (by omega))
theorem set33b {w0 w:World} {B N M:Nat} {a b x c d e:Value} (h:Below B w0 w) (hN:B≤N) (hM:B≤M):Below B w0 ((((((w.setCell ⟨N,0,none⟩ a).setCell ⟨N,1,none⟩ b).setCell ⟨N,2,none⟩ x).setCell ⟨M,0,none⟩ c).setCell ⟨M,1,none⟩ d).setCell ⟨M,2,none⟩ e) :=
 set3b (set3b h hN) hM
theorem set23b {w0 w:World} {B N M:Nat} {a b c d e:Value} (h:Below B w0 w) (hN:B≤N) (hM:B≤M):Below B w0 (((((w.setCell ⟨N,0,none⟩ a).setCell ⟨N,1,none⟩ b).setCell ⟨M,0,none⟩ c).setCell ⟨M,1,none⟩ d).setCell ⟨M,2,none⟩ e) :=
 set3b ((h.setCell (p:=⟨N,0,none⟩) hN a).setCell (p:=⟨N,1,none⟩) hN b) hM
def rmO (k m kh kw sh sw tp lf bt rt h w c:Int):Int×Int×Int:=if mkW k kh kw sh sw tp lf bt rt h w c=0 then mkS k m kh kw sh sw tp lf bt rt h w c else (0,0,0)
theorem rmk_6 (a b m kh kw sh sw tp lf bt rt:Int) (wa:Option Addr) (lw wc:Nat) (ba:Option Addr) (lb bc:Nat) (sm ss um us z p lo hi:Int) (h w c:Int) (W:World) :
  Calls Tryz.prog 92 #[.agg #[U i6 6,U i6 a,U i6 b,U i6 m,U i6 kh,U i6 kw,U i6 sh,U i6 sw,U i6 tp,U i6 lf,U i6 bt,U i6 rt,Sl wa lw wc,Sl ba lb bc,U i6 sm,U i6 ss,U i6 um,U i6 us,U i6 z,U i6 p,U i6 lo,U i6 hi],.agg #[U i6 h,U i6 w,U i6 c]] W fun e w'=>e=.returned (.tuple #[.agg #[U i6 h,U i6 w,U i6 c],U i6 0])∧Below W.heap.size W w':=by
 go_enter Tryz.func92,Tryz.ntmps92
 go_wp2_with fail
 refine (slid_any _ _).mono ?_
 rintro e w' ⟨rfl,rfl⟩
 go_wp2
 exact bodyPost_ret (v:=.tuple #[.agg #[U i6 h,U i6 w,U i6 c],U i6 0]) (by simp [results,Tryz.results92,go_sem, *]) rfl ⟨rfl,(St.start W).new.new.new.new.below⟩
theorem rmk_7 (a b m kh kw sh sw tp lf bt rt:Int) (wa:Option Addr) (lw wc:Nat) (ba:Option Addr) (lb bc:Nat) (sm ss um us z p lo hi:Int) (h w c:Int) (W:World) :
  Calls Tryz.prog 92 #[.agg #[U i6 7,U i6 a,U i6 b,U i6 m,U i6 kh,U i6 kw,U i6 sh,U i6 sw,U i6 tp,U i6 lf,U i6 bt,U i6 rt,Sl wa lw wc,Sl ba lb bc,U i6 sm,U i6 ss,U i6 um,U i6 us,U i6 z,U i6 p,U i6 lo,U i6 hi],.agg #[U i6 h,U i6 w,U i6 c]] W fun e w'=>e=.returned (.tuple #[.agg #[U i6 h,U i6 w,U i6 c],U i6 0])∧Below W.heap.size W w':=by
 go_enter Tryz.func92,Tryz.ntmps92
 go_wp2_with fail
 refine (slid_any _ _).mono ?_
 rintro e w' ⟨rfl,rfl⟩
 go_wp2
 exact bodyPost_ret (v:=.tuple #[.agg #[U i6 h,U i6 w,U i6 c],U i6 0]) (by simp [results,Tryz.results92,go_sem, *]) rfl ⟨rfl,(St.start W).new.new.new.new.below⟩
theorem rmk_8 (a b m kh kw sh sw tp lf bt rt:Int) (wa:Option Addr) (lw wc:Nat) (ba:Option Addr) (lb bc:Nat) (sm ss um us z p lo hi:Int) (h w c:Int) (W:World) :
  Calls Tryz.prog 92 #[.agg #[U i6 8,U i6 a,U i6 b,U i6 m,U i6 kh,U i6 kw,U i6 sh,U i6 sw,U i6 tp,U i6 lf,U i6 bt,U i6 rt,Sl wa lw wc,Sl ba lb bc,U i6 sm,U i6 ss,U i6 um,U i6 us,U i6 z,U i6 p,U i6 lo,U i6 hi],.agg #[U i6 h,U i6 w,U i6 c]] W fun e w'=>e=.returned (.tuple #[.agg #[U i6 h,U i6 w,U i6 c],U i6 0])∧Below W.heap.size W w':=by
 go_enter Tryz.func92,Tryz.ntmps92
 go_wp2_with fail
 refine (slid_any _ _).mono ?_
 rintro e w' ⟨rfl,rfl⟩
 go_wp2
 exact bodyPost_ret (v:=.tuple #[.agg #[U i6 h,U i6 w,U i6 c],U i6 0]) (by simp [results,Tryz.results92,go_sem, *]) rfl ⟨rfl,(St.start W).new.new.new.new.below⟩
theorem rmk_1 (a b m kh kw sh sw tp lf bt rt:Int) (wa:Option Addr) (lw wc:Nat) (ba:Option Addr) (lb bc:Nat) (sm ss um us z p lo hi:Int) (h w c:Int) (W:World) :
  Calls Tryz.prog 92 #[.agg #[U i6 1,U i6 a,U i6 b,U i6 m,U i6 kh,U i6 kw,U i6 sh,U i6 sw,U i6 tp,U i6 lf,U i6 bt,U i6 rt,Sl wa lw wc,Sl ba lb bc,U i6 sm,U i6 ss,U i6 um,U i6 us,U i6 z,U i6 p,U i6 lo,U i6 hi],.agg #[U i6 h,U i6 w,U i6 c]] W fun e w'=>e=.returned (.tuple #[.agg #[U i6 1,U i6 1,U i6 m],U i6 0])∧Below W.heap.size W w':=by
 go_enter Tryz.func92,Tryz.ntmps92
 go_wp2_with fail
 refine (slid_any _ _).mono ?_
 rintro e w' ⟨rfl,rfl⟩
 go_wp2
 exact bodyPost_ret (v:=.tuple #[.agg #[U i6 1,U i6 1,U i6 m],U i6 0]) (by simp [results,Tryz.results92,go_sem, *]) rfl ⟨rfl,(St.start W).new.new.new.new.below⟩
theorem rmk_2w (a b m kh kw sh sw tp lf bt rt:Int) (wa:Option Addr) (lw wc:Nat) (ba:Option Addr) (lb bc:Nat) (sm ss um us z p lo hi:Int) (h w c x:Int) (W:World) (ho:ouR h w c kh kw sh sw tp lf bt rt=(0,0,x)) (hx:x≠0) :
  Calls Tryz.prog 92 #[.agg #[U i6 2,U i6 a,U i6 b,U i6 m,U i6 kh,U i6 kw,U i6 sh,U i6 sw,U i6 tp,U i6 lf,U i6 bt,U i6 rt,Sl wa lw wc,Sl ba lb bc,U i6 sm,U i6 ss,U i6 um,U i6 us,U i6 z,U i6 p,U i6 lo,U i6 hi],.agg #[U i6 h,U i6 w,U i6 c]] W fun e w'=>e=.returned (.tuple #[.agg #[U i6 0,U i6 0,U i6 0],U i6 x])∧Below W.heap.size W w':=by
 have HO:Hid (ouR h w c kh kw sh sw tp lf bt rt=(0,0,x)):=ho
 clear ho
 go_enter Tryz.func92,Tryz.ntmps92
 go_wp2_with fail
 refine (slid_any _ _).mono ?_
 rintro e w' ⟨rfl,rfl⟩
 go_wp2_with fail
 refine (rout_any _ _ _ _ _ _ _ _ _ _ _ _).mono ?_
 rintro e w1 ⟨rfl,hb'⟩
 have s1:=(St.start W).new.new.new.new.call hb'
 clear hb'
 try simp only [World.size_setCell] at s1
 try simp only [World.size_alloc] at s1
 obtain⟨c1,f1,zw1_1,c2,f2,zw1_2,c3,f3,zw1_3,c4,f4,zw1_4,-⟩:=s1.rules
 rw [HO.out]
 go_wp2
 exact bodyPost_ret (v:=.tuple #[.agg #[U i6 0,U i6 0,U i6 0],U i6 x]) (by simp [results,Tryz.results92,go_sem, *]) rfl ⟨rfl,set3b s1.below (by omega)⟩
theorem rmk_2 (a b m kh kw sh sw tp lf bt rt:Int) (wa:Option Addr) (lw wc:Nat) (ba:Option Addr) (lb bc:Nat) (sm ss um us z p lo hi:Int) (h w c r q:Int) (W:World) (ho:ouR h w c kh kw sh sw tp lf bt rt=(r,q,0)) :
  Calls Tryz.prog 92 #[.agg #[U i6 2,U i6 a,U i6 b,U i6 m,U i6 kh,U i6 kw,U i6 sh,U i6 sw,U i6 tp,U i6 lf,U i6 bt,U i6 rt,Sl wa lw wc,Sl ba lb bc,U i6 sm,U i6 ss,U i6 um,U i6 us,U i6 z,U i6 p,U i6 lo,U i6 hi],.agg #[U i6 h,U i6 w,U i6 c]] W fun e w'=>e=.returned (.tuple #[.agg #[U i6 r,U i6 q,U i6 m],U i6 0])∧Below W.heap.size W w':=by
 have HO:Hid (ouR h w c kh kw sh sw tp lf bt rt=(r,q,0)):=ho
 clear ho
 go_enter Tryz.func92,Tryz.ntmps92
 go_wp2_with fail
 refine (slid_any _ _).mono ?_
 rintro e w' ⟨rfl,rfl⟩
 go_wp2_with fail
 refine (rout_any _ _ _ _ _ _ _ _ _ _ _ _).mono ?_
 rintro e w1 ⟨rfl,hb'⟩
 have s1:=(St.start W).new.new.new.new.call hb'
 clear hb'
 try simp only [World.size_setCell] at s1
 try simp only [World.size_alloc] at s1
 obtain⟨c1,f1,zw1_1,c2,f2,zw1_2,c3,f3,zw1_3,c4,f4,zw1_4,-⟩:=s1.rules
 rw [HO.out]
 go_wp2
 exact bodyPost_ret (v:=.tuple #[.agg #[U i6 r,U i6 q,U i6 m],U i6 0]) (by simp [results,Tryz.results92,go_sem, *]) rfl ⟨rfl,set33b s1.below (by omega) (by omega)⟩
theorem rmk_3w (a b m kh kw sh sw tp lf bt rt:Int) (wa:Option Addr) (lw wc:Nat) (ba:Option Addr) (lb bc:Nat) (sm ss um us z p lo hi:Int) (h w c x:Int) (W:World) (ho:ouR h w c kh kw sh sw tp lf bt rt=(0,0,x)) (hx:x≠0) :
  Calls Tryz.prog 92 #[.agg #[U i6 3,U i6 a,U i6 b,U i6 m,U i6 kh,U i6 kw,U i6 sh,U i6 sw,U i6 tp,U i6 lf,U i6 bt,U i6 rt,Sl wa lw wc,Sl ba lb bc,U i6 sm,U i6 ss,U i6 um,U i6 us,U i6 z,U i6 p,U i6 lo,U i6 hi],.agg #[U i6 h,U i6 w,U i6 c]] W fun e w'=>e=.returned (.tuple #[.agg #[U i6 0,U i6 0,U i6 0],U i6 x])∧Below W.heap.size W w':=by
 have HO:Hid (ouR h w c kh kw sh sw tp lf bt rt=(0,0,x)):=ho
 clear ho
 go_enter Tryz.func92,Tryz.ntmps92
 go_wp2_with fail
 refine (slid_any _ _).mono ?_
 rintro e w' ⟨rfl,rfl⟩
 go_wp2_with fail
 refine (rout_any _ _ _ _ _ _ _ _ _ _ _ _).mono ?_
 rintro e w1 ⟨rfl,hb'⟩
 have s1:=(St.start W).new.new.new.new.call hb'
 clear hb'
 try simp only [World.size_setCell] at s1
 try simp only [World.size_alloc] at s1
 obtain⟨c1,f1,zw1_1,c2,f2,zw1_2,c3,f3,zw1_3,c4,f4,zw1_4,-⟩:=s1.rules
 rw [HO.out]
 go_wp2
 exact bodyPost_ret (v:=.tuple #[.agg #[U i6 0,U i6 0,U i6 0],U i6 x]) (by simp [results,Tryz.results92,go_sem, *]) rfl ⟨rfl,set3b s1.below (by omega)⟩
theorem rmk_3 (a b m kh kw sh sw tp lf bt rt:Int) (wa:Option Addr) (lw wc:Nat) (ba:Option Addr) (lb bc:Nat) (sm ss um us z p lo hi:Int) (h w c r q:Int) (W:World) (ho:ouR h w c kh kw sh sw tp lf bt rt=(r,q,0)) :
  Calls Tryz.prog 92 #[.agg #[U i6 3,U i6 a,U i6 b,U i6 m,U i6 kh,U i6 kw,U i6 sh,U i6 sw,U i6 tp,U i6 lf,U i6 bt,U i6 rt,Sl wa lw wc,Sl ba lb bc,U i6 sm,U i6 ss,U i6 um,U i6 us,U i6 z,U i6 p,U i6 lo,U i6 hi],.agg #[U i6 h,U i6 w,U i6 c]] W fun e w'=>e=.returned (.tuple #[.agg #[U i6 r,U i6 q,U i6 c],U i6 0])∧Below W.heap.size W w':=by
 have HO:Hid (ouR h w c kh kw sh sw tp lf bt rt=(r,q,0)):=ho
 clear ho
 go_enter Tryz.func92,Tryz.ntmps92
 go_wp2_with fail
 refine (slid_any _ _).mono ?_
 rintro e w' ⟨rfl,rfl⟩
 go_wp2_with fail
 refine (rout_any _ _ _ _ _ _ _ _ _ _ _ _).mono ?_
 rintro e w1 ⟨rfl,hb'⟩
 have s1:=(St.start W).new.new.new.new.call hb'
 clear hb'
 try simp only [World.size_setCell] at s1
 try simp only [World.size_alloc] at s1
 obtain⟨c1,f1,zw1_1,c2,f2,zw1_2,c3,f3,zw1_3,c4,f4,zw1_4,-⟩:=s1.rules
 rw [HO.out]
 go_wp2
 exact bodyPost_ret (v:=.tuple #[.agg #[U i6 r,U i6 q,U i6 c],U i6 0]) (by simp [results,Tryz.results92,go_sem, *]) rfl ⟨rfl,set23b s1.below (by omega) (by omega)⟩
theorem rmk_4w (a b m kh kw sh sw tp lf bt rt:Int) (wa:Option Addr) (lw wc:Nat) (ba:Option Addr) (lb bc:Nat) (sm ss um us z p lo hi:Int) (h w c x:Int) (W:World) (ho:ouR h w c kh kw sh sw tp lf bt rt=(0,0,x)) (hx:x≠0) :
  Calls Tryz.prog 92 #[.agg #[U i6 4,U i6 a,U i6 b,U i6 m,U i6 kh,U i6 kw,U i6 sh,U i6 sw,U i6 tp,U i6 lf,U i6 bt,U i6 rt,Sl wa lw wc,Sl ba lb bc,U i6 sm,U i6 ss,U i6 um,U i6 us,U i6 z,U i6 p,U i6 lo,U i6 hi],.agg #[U i6 h,U i6 w,U i6 c]] W fun e w'=>e=.returned (.tuple #[.agg #[U i6 0,U i6 0,U i6 0],U i6 x])∧Below W.heap.size W w':=by
 have HO:Hid (ouR h w c kh kw sh sw tp lf bt rt=(0,0,x)):=ho
 clear ho
 go_enter Tryz.func92,Tryz.ntmps92
 go_wp2_with fail
 refine (slid_any _ _).mono ?_
 rintro e w' ⟨rfl,rfl⟩
 go_wp2_with fail
 refine (rout_any _ _ _ _ _ _ _ _ _ _ _ _).mono ?_
 rintro e w1 ⟨rfl,hb'⟩
 have s1:=(St.start W).new.new.new.new.call hb'
 clear hb'
 try simp only [World.size_setCell] at s1
 try simp only [World.size_alloc] at s1
 obtain⟨c1,f1,zw1_1,c2,f2,zw1_2,c3,f3,zw1_3,c4,f4,zw1_4,-⟩:=s1.rules
 rw [HO.out]
 go_wp2
 exact bodyPost_ret (v:=.tuple #[.agg #[U i6 0,U i6 0,U i6 0],U i6 x]) (by simp [results,Tryz.results92,go_sem, *]) rfl ⟨rfl,set3b s1.below (by omega)⟩
theorem rmk_4 (a b m kh kw sh sw tp lf bt rt:Int) (wa:Option Addr) (lw wc:Nat) (ba:Option Addr) (lb bc:Nat) (sm ss um us z p lo hi:Int) (h w c r q:Int) (W:World) (ho:ouR h w c kh kw sh sw tp lf bt rt=(r,q,0)) :
  Calls Tryz.prog 92 #[.agg #[U i6 4,U i6 a,U i6 b,U i6 m,U i6 kh,U i6 kw,U i6 sh,U i6 sw,U i6 tp,U i6 lf,U i6 bt,U i6 rt,Sl wa lw wc,Sl ba lb bc,U i6 sm,U i6 ss,U i6 um,U i6 us,U i6 z,U i6 p,U i6 lo,U i6 hi],.agg #[U i6 h,U i6 w,U i6 c]] W fun e w'=>e=.returned (.tuple #[.agg #[U i6 r,U i6 q,U i6 c],U i6 0])∧Below W.heap.size W w':=by
 have HO:Hid (ouR h w c kh kw sh sw tp lf bt rt=(r,q,0)):=ho
 clear ho
 go_enter Tryz.func92,Tryz.ntmps92
 go_wp2_with fail
 refine (slid_any _ _).mono ?_
 rintro e w' ⟨rfl,rfl⟩
 go_wp2_with fail
 refine (rout_any _ _ _ _ _ _ _ _ _ _ _ _).mono ?_
 rintro e w1 ⟨rfl,hb'⟩
 have s1:=(St.start W).new.new.new.new.call hb'
 clear hb'
 try simp only [World.size_setCell] at s1
 try simp only [World.size_alloc] at s1
 obtain⟨c1,f1,zw1_1,c2,f2,zw1_2,c3,f3,zw1_3,c4,f4,zw1_4,-⟩:=s1.rules
 rw [HO.out]
 go_wp2
 exact bodyPost_ret (v:=.tuple #[.agg #[U i6 r,U i6 q,U i6 c],U i6 0]) (by simp [results,Tryz.results92,go_sem, *]) rfl ⟨rfl,set23b s1.below (by omega) (by omega)⟩
theorem rmk_5w (a b m kh kw sh sw tp lf bt rt:Int) (wa:Option Addr) (lw wc:Nat) (ba:Option Addr) (lb bc:Nat) (sm ss um us z p lo hi:Int) (h w c x:Int) (W:World) (ho:ouR h w c kh kw sh sw tp lf bt rt=(0,0,x)) (hx:x≠0) :
  Calls Tryz.prog 92 #[.agg #[U i6 5,U i6 a,U i6 b,U i6 m,U i6 kh,U i6 kw,U i6 sh,U i6 sw,U i6 tp,U i6 lf,U i6 bt,U i6 rt,Sl wa lw wc,Sl ba lb bc,U i6 sm,U i6 ss,U i6 um,U i6 us,U i6 z,U i6 p,U i6 lo,U i6 hi],.agg #[U i6 h,U i6 w,U i6 c]] W fun e w'=>e=.returned (.tuple #[.agg #[U i6 0,U i6 0,U i6 0],U i6 x])∧Below W.heap.size W w':=by
 have HO:Hid (ouR h w c kh kw sh sw tp lf bt rt=(0,0,x)):=ho
 clear ho
 go_enter Tryz.func92,Tryz.ntmps92
 go_wp2_with fail
 refine (slid_any _ _).mono ?_
 rintro e w' ⟨rfl,rfl⟩
 go_wp2_with fail
 refine (rout_any _ _ _ _ _ _ _ _ _ _ _ _).mono ?_
 rintro e w1 ⟨rfl,hb'⟩
 have s1:=(St.start W).new.new.new.new.call hb'
 clear hb'
 try simp only [World.size_setCell] at s1
 try simp only [World.size_alloc] at s1
 obtain⟨c1,f1,zw1_1,c2,f2,zw1_2,c3,f3,zw1_3,c4,f4,zw1_4,-⟩:=s1.rules
 rw [HO.out]
 go_wp2
 exact bodyPost_ret (v:=.tuple #[.agg #[U i6 0,U i6 0,U i6 0],U i6 x]) (by simp [results,Tryz.results92,go_sem, *]) rfl ⟨rfl,set3b s1.below (by omega)⟩
theorem rmk_5 (a b m kh kw sh sw tp lf bt rt:Int) (wa:Option Addr) (lw wc:Nat) (ba:Option Addr) (lb bc:Nat) (sm ss um us z p lo hi:Int) (h w c r q:Int) (W:World) (ho:ouR h w c kh kw sh sw tp lf bt rt=(r,q,0)) :
  Calls Tryz.prog 92 #[.agg #[U i6 5,U i6 a,U i6 b,U i6 m,U i6 kh,U i6 kw,U i6 sh,U i6 sw,U i6 tp,U i6 lf,U i6 bt,U i6 rt,Sl wa lw wc,Sl ba lb bc,U i6 sm,U i6 ss,U i6 um,U i6 us,U i6 z,U i6 p,U i6 lo,U i6 hi],.agg #[U i6 h,U i6 w,U i6 c]] W fun e w'=>e=.returned (.tuple #[.agg #[U i6 r,U i6 q,U i6 c],U i6 0])∧Below W.heap.size W w':=by
 have HO:Hid (ouR h w c kh kw sh sw tp lf bt rt=(r,q,0)):=ho
 clear ho
 go_enter Tryz.func92,Tryz.ntmps92
 go_wp2_with fail
 refine (slid_any _ _).mono ?_
 rintro e w' ⟨rfl,rfl⟩
 go_wp2_with fail
 refine (rout_any _ _ _ _ _ _ _ _ _ _ _ _).mono ?_
 rintro e w1 ⟨rfl,hb'⟩
 have s1:=(St.start W).new.new.new.new.call hb'
 clear hb'
 try simp only [World.size_setCell] at s1
 try simp only [World.size_alloc] at s1
 obtain⟨c1,f1,zw1_1,c2,f2,zw1_2,c3,f3,zw1_3,c4,f4,zw1_4,-⟩:=s1.rules
 rw [HO.out]
 go_wp2
 exact bodyPost_ret (v:=.tuple #[.agg #[U i6 r,U i6 q,U i6 c],U i6 0]) (by simp [results,Tryz.results92,go_sem, *]) rfl ⟨rfl,set23b s1.below (by omega) (by omega)⟩
theorem rmk_any (k a b m kh kw sh sw tp lf bt rt:Int) (wa:Option Addr) (lw wc:Nat) (ba:Option Addr) (lb bc:Nat) (sm ss um us z p lo hi:Int) (h w c:Int) (W:World) (hk:1≤k∧k≤8) :
  Calls Tryz.prog 92 #[.agg #[U i6 k,U i6 a,U i6 b,U i6 m,U i6 kh,U i6 kw,U i6 sh,U i6 sw,U i6 tp,U i6 lf,U i6 bt,U i6 rt,Sl wa lw wc,Sl ba lb bc,U i6 sm,U i6 ss,U i6 um,U i6 us,U i6 z,U i6 p,U i6 lo,U i6 hi],.agg #[U i6 h,U i6 w,U i6 c]] W fun e w'=>e=.returned (.tuple #[.agg #[U i6 (rmO k m kh kw sh sw tp lf bt rt h w c).1,U i6 (rmO k m kh kw sh sw tp lf bt rt h w c).2.1,U i6 (rmO k m kh kw sh sw tp lf bt rt h w c).2.2],U i6 (mkW k kh kw sh sw tp lf bt rt h w c)])∧Below W.heap.size W w':=by
 rcases eight hk with rfl | rfl | rfl | rfl | rfl | rfl | rfl | rfl
 ·exact rmk_1 a b m kh kw sh sw tp lf bt rt wa lw wc ba lb bc sm ss um us z p lo hi h w c W
 ·rcases ouR_cases h w c kh kw sh sw tp lf bt rt with ⟨x,ho,hx⟩ | ⟨r,q,ho,-⟩
  ·have hx':x≠0:=by omega
   have hw:mkW 2 kh kw sh sw tp lf bt rt h w c=x:=by unfold mkW;rw [if_pos (by decide),ho]
   have ho':rmO 2 m kh kw sh sw tp lf bt rt h w c=(0,0,0):=by unfold rmO;rw [hw,if_neg hx']
   rw [ho',hw]
   exact rmk_2w a b m kh kw sh sw tp lf bt rt wa lw wc ba lb bc sm ss um us z p lo hi h w c x W ho hx'
  ·have hw:mkW 2 kh kw sh sw tp lf bt rt h w c=0:=by unfold mkW;rw [if_pos (by decide),ho]
   have ho':rmO 2 m kh kw sh sw tp lf bt rt h w c=(r,q,m):=by unfold rmO;rw [hw,if_pos rfl];unfold mkS;rw [ho];rfl
   rw [ho',hw]
   exact rmk_2 a b m kh kw sh sw tp lf bt rt wa lw wc ba lb bc sm ss um us z p lo hi h w c r q W ho
 ·rcases ouR_cases h w c kh kw sh sw tp lf bt rt with ⟨x,ho,hx⟩ | ⟨r,q,ho,-⟩
  ·have hx':x≠0:=by omega
   have hw:mkW 3 kh kw sh sw tp lf bt rt h w c=x:=by unfold mkW;rw [if_pos (by decide),ho]
   have ho':rmO 3 m kh kw sh sw tp lf bt rt h w c=(0,0,0):=by unfold rmO;rw [hw,if_neg hx']
   rw [ho',hw]
   exact rmk_3w a b m kh kw sh sw tp lf bt rt wa lw wc ba lb bc sm ss um us z p lo hi h w c x W ho hx'
  ·have hw:mkW 3 kh kw sh sw tp lf bt rt h w c=0:=by unfold mkW;rw [if_pos (by decide),ho]
   have ho':rmO 3 m kh kw sh sw tp lf bt rt h w c=(r,q,c):=by unfold rmO;rw [hw,if_pos rfl];unfold mkS;rw [ho];rfl
   rw [ho',hw]
   exact rmk_3 a b m kh kw sh sw tp lf bt rt wa lw wc ba lb bc sm ss um us z p lo hi h w c r q W ho
 ·rcases ouR_cases h w c kh kw sh sw tp lf bt rt with ⟨x,ho,hx⟩ | ⟨r,q,ho,-⟩
  ·have hx':x≠0:=by omega
   have hw:mkW 4 kh kw sh sw tp lf bt rt h w c=x:=by unfold mkW;rw [if_pos (by decide),ho]
   have ho':rmO 4 m kh kw sh sw tp lf bt rt h w c=(0,0,0):=by unfold rmO;rw [hw,if_neg hx']
   rw [ho',hw]
   exact rmk_4w a b m kh kw sh sw tp lf bt rt wa lw wc ba lb bc sm ss um us z p lo hi h w c x W ho hx'
  ·have hw:mkW 4 kh kw sh sw tp lf bt rt h w c=0:=by unfold mkW;rw [if_pos (by decide),ho]
   have ho':rmO 4 m kh kw sh sw tp lf bt rt h w c=(r,q,c):=by unfold rmO;rw [hw,if_pos rfl];unfold mkS;rw [ho];rfl
   rw [ho',hw]
   exact rmk_4 a b m kh kw sh sw tp lf bt rt wa lw wc ba lb bc sm ss um us z p lo hi h w c r q W ho
 ·rcases ouR_cases h w c kh kw sh sw tp lf bt rt with ⟨x,ho,hx⟩ | ⟨r,q,ho,-⟩
  ·have hx':x≠0:=by omega
   have hw:mkW 5 kh kw sh sw tp lf bt rt h w c=x:=by unfold mkW;rw [if_pos (by decide),ho]
   have ho':rmO 5 m kh kw sh sw tp lf bt rt h w c=(0,0,0):=by unfold rmO;rw [hw,if_neg hx']
   rw [ho',hw]
   exact rmk_5w a b m kh kw sh sw tp lf bt rt wa lw wc ba lb bc sm ss um us z p lo hi h w c x W ho hx'
  ·have hw:mkW 5 kh kw sh sw tp lf bt rt h w c=0:=by unfold mkW;rw [if_pos (by decide),ho]
   have ho':rmO 5 m kh kw sh sw tp lf bt rt h w c=(r,q,c):=by unfold rmO;rw [hw,if_pos rfl];unfold mkS;rw [ho];rfl
   rw [ho',hw]
   exact rmk_5 a b m kh kw sh sw tp lf bt rt wa lw wc ba lb bc sm ss um us z p lo hi h w c r q W ho
 ·exact rmk_6 a b m kh kw sh sw tp lf bt rt wa lw wc ba lb bc sm ss um us z p lo hi h w c W
 ·exact rmk_7 a b m kh kw sh sw tp lf bt rt wa lw wc ba lb bc sm ss um us z p lo hi h w c W
 ·exact rmk_8 a b m kh kw sh sw tp lf bt rt wa lw wc ba lb bc sm ss um us z p lo hi h w c W
def liW (k m c st:Int):Int:=if k≤2 then m*st else if k=3 then c*st else 0
def liB (k m c:Int):Int:=if k≤2 then m else if k=3 then c else 0
theorem lists_1 (a b m kh kw sh sw tp lf bt rt:Int) (wa:Option Addr) (lw wc:Nat) (ba:Option Addr) (lb bc:Nat) (sm ss um us z p lo hi:Int) (h w c st:Int) (W:World) (g:vS h w c=true) (hw:(2:Int)≤1∧(1:Int)≤5→(1≤kh∧kh≤32)∧(1≤kw∧kw≤32)) (hs:stR 1 kh kw h w c=st) (hs0:1≤st∧st≤1048576) (hm:1≤m∧m≤1024) :
  Calls Tryz.prog 93 #[.agg #[U i6 1,U i6 a,U i6 b,U i6 m,U i6 kh,U i6 kw,U i6 sh,U i6 sw,U i6 tp,U i6 lf,U i6 bt,U i6 rt,Sl wa lw wc,Sl ba lb bc,U i6 sm,U i6 ss,U i6 um,U i6 us,U i6 z,U i6 p,U i6 lo,U i6 hi],.agg #[U i6 h,U i6 w,U i6 c]] W fun e w'=>e=.returned (.tuple #[U i6 (m*st),U i6 m])∧Below W.heap.size W w':=by
 have hL:Hid (∀ W,Calls Tryz.prog 35 #[.agg #[U i6 1,U i6 a,U i6 b,U i6 m,U i6 kh,U i6 kw,U i6 sh,U i6 sw,U i6 tp,U i6 lf,U i6 bt,U i6 rt,Sl wa lw wc,Sl ba lb bc,U i6 sm,U i6 ss,U i6 um,U i6 us,U i6 z,U i6 p,U i6 lo,U i6 hi],.agg #[U i6 h,U i6 w,U i6 c]] W fun e w'=>e=.returned (U i6 st)∧Below W.heap.size W w'):=fun W=>by rw [← hs];exact length_any 1 a b m kh kw sh sw tp lf bt rt wa lw wc ba lb bc sm ss um us z p lo hi h w c W rfl g hw
 obtain⟨q1,q2⟩:=mul_bd hm.1 hm.2 hs0.1 hs0.2
 clear hs g hw
 have s0:=((St.start W).new (c:=#[U i6 1,U i6 a,U i6 b,U i6 m,U i6 kh,U i6 kw,U i6 sh,U i6 sw,U i6 tp,U i6 lf,U i6 bt,U i6 rt,Sl wa lw wc,Sl ba lb bc,U i6 sm,U i6 ss,U i6 um,U i6 us,U i6 z,U i6 p,U i6 lo,U i6 hi]) (t:=42)).new (c:=#[U i6 h,U i6 w,U i6 c]) (t:=23)
 simp only [World.size_alloc] at s0
 go_enter Tryz.func93,Tryz.ntmps93
 go_upto_region 4 with fail
 obtain⟨c1,g1,c2,g2,-⟩:=rulesQ_st s0
 have hne:=Nonempty.intro (Wd.mk _ s0)
 refine region_held s0 (by kernel_rfl) (by kernel_rfl) ?_
 go_big_quiet_step (fail)
 go_big_quiet_step (fail)
 go_big_quiet_want
 refine quiet_ld 42 (.tmp 2) rfl _ rfl 42 _ _ (Wd.hp (List.mem_cons_of_mem _ List.mem_cons_self)) Tryz.underlying42 rfl (by kernel_rfl) rfl ?_
 go_simp
 go_big_quiet_on
 repeat (go_big_quiet_step ((go_at_call 35;exact held_of (hL.out _))))
 refine wpQuiet_nil ?_
 intro _ hw'
 obtain⟨nq,rfl⟩:=hw'
 go_wp2
 exact bodyPost_ret (v:=.tuple #[U i6 (m*st),U i6 m]) (by simp [results,Tryz.results93,go_sem, *]) rfl ⟨rfl,nq.h.below⟩
theorem lists_2 (a b m kh kw sh sw tp lf bt rt:Int) (wa:Option Addr) (lw wc:Nat) (ba:Option Addr) (lb bc:Nat) (sm ss um us z p lo hi:Int) (h w c st:Int) (W:World) (g:vS h w c=true) (hw:(2:Int)≤2∧(2:Int)≤5→(1≤kh∧kh≤32)∧(1≤kw∧kw≤32)) (hs:stR 2 kh kw h w c=st) (hs0:1≤st∧st≤1048576) (hm:1≤m∧m≤1024) :
  Calls Tryz.prog 93 #[.agg #[U i6 2,U i6 a,U i6 b,U i6 m,U i6 kh,U i6 kw,U i6 sh,U i6 sw,U i6 tp,U i6 lf,U i6 bt,U i6 rt,Sl wa lw wc,Sl ba lb bc,U i6 sm,U i6 ss,U i6 um,U i6 us,U i6 z,U i6 p,U i6 lo,U i6 hi],.agg #[U i6 h,U i6 w,U i6 c]] W fun e w'=>e=.returned (.tuple #[U i6 (m*st),U i6 m])∧Below W.heap.size W w':=by
 have hL:Hid (∀ W,Calls Tryz.prog 35 #[.agg #[U i6 2,U i6 a,U i6 b,U i6 m,U i6 kh,U i6 kw,U i6 sh,U i6 sw,U i6 tp,U i6 lf,U i6 bt,U i6 rt,Sl wa lw wc,Sl ba lb bc,U i6 sm,U i6 ss,U i6 um,U i6 us,U i6 z,U i6 p,U i6 lo,U i6 hi],.agg #[U i6 h,U i6 w,U i6 c]] W fun e w'=>e=.returned (U i6 st)∧Below W.heap.size W w'):=fun W=>by rw [← hs];exact length_any 2 a b m kh kw sh sw tp lf bt rt wa lw wc ba lb bc sm ss um us z p lo hi h w c W rfl g hw
 obtain⟨q1,q2⟩:=mul_bd hm.1 hm.2 hs0.1 hs0.2
 clear hs g hw
 have s0:=((St.start W).new (c:=#[U i6 2,U i6 a,U i6 b,U i6 m,U i6 kh,U i6 kw,U i6 sh,U i6 sw,U i6 tp,U i6 lf,U i6 bt,U i6 rt,Sl wa lw wc,Sl ba lb bc,U i6 sm,U i6 ss,U i6 um,U i6 us,U i6 z,U i6 p,U i6 lo,U i6 hi]) (t:=42)).new (c:=#[U i6 h,U i6 w,U i6 c]) (t:=23)
 simp only [World.size_alloc] at s0
 go_enter Tryz.func93,Tryz.ntmps93
 go_upto_region 4 with fail
 obtain⟨c1,g1,c2,g2,-⟩:=rulesQ_st s0
 have hne:=Nonempty.intro (Wd.mk _ s0)
 refine region_held s0 (by kernel_rfl) (by kernel_rfl) ?_
 go_big_quiet_step (fail)
 go_big_quiet_step (fail)
 go_big_quiet_want
 refine quiet_ld 42 (.tmp 2) rfl _ rfl 42 _ _ (Wd.hp (List.mem_cons_of_mem _ List.mem_cons_self)) Tryz.underlying42 rfl (by kernel_rfl) rfl ?_
 go_simp
 go_big_quiet_on
 repeat (go_big_quiet_step ((go_at_call 35;exact held_of (hL.out _))))
 refine wpQuiet_nil ?_
 intro _ hw'
 obtain⟨nq,rfl⟩:=hw'
 go_wp2
 exact bodyPost_ret (v:=.tuple #[U i6 (m*st),U i6 m]) (by simp [results,Tryz.results93,go_sem, *]) rfl ⟨rfl,nq.h.below⟩
theorem lists_3 (a b m kh kw sh sw tp lf bt rt:Int) (wa:Option Addr) (lw wc:Nat) (ba:Option Addr) (lb bc:Nat) (sm ss um us z p lo hi:Int) (h w c st:Int) (W:World) (g:vS h w c=true) (hw:(2:Int)≤3∧(3:Int)≤5→(1≤kh∧kh≤32)∧(1≤kw∧kw≤32)) (hs:stR 3 kh kw h w c=st) (hs0:1≤st∧st≤1048576) (hm:1≤c∧c≤1024) :
  Calls Tryz.prog 93 #[.agg #[U i6 3,U i6 a,U i6 b,U i6 m,U i6 kh,U i6 kw,U i6 sh,U i6 sw,U i6 tp,U i6 lf,U i6 bt,U i6 rt,Sl wa lw wc,Sl ba lb bc,U i6 sm,U i6 ss,U i6 um,U i6 us,U i6 z,U i6 p,U i6 lo,U i6 hi],.agg #[U i6 h,U i6 w,U i6 c]] W fun e w'=>e=.returned (.tuple #[U i6 (c*st),U i6 c])∧Below W.heap.size W w':=by
 have hL:Hid (∀ W,Calls Tryz.prog 35 #[.agg #[U i6 3,U i6 a,U i6 b,U i6 m,U i6 kh,U i6 kw,U i6 sh,U i6 sw,U i6 tp,U i6 lf,U i6 bt,U i6 rt,Sl wa lw wc,Sl ba lb bc,U i6 sm,U i6 ss,U i6 um,U i6 us,U i6 z,U i6 p,U i6 lo,U i6 hi],.agg #[U i6 h,U i6 w,U i6 c]] W fun e w'=>e=.returned (U i6 st)∧Below W.heap.size W w'):=fun W=>by rw [← hs];exact length_any 3 a b m kh kw sh sw tp lf bt rt wa lw wc ba lb bc sm ss um us z p lo hi h w c W rfl g hw
 obtain⟨q1,q2⟩:=mul_bd hm.1 hm.2 hs0.1 hs0.2
 clear hs g hw
 have s0:=((St.start W).new (c:=#[U i6 3,U i6 a,U i6 b,U i6 m,U i6 kh,U i6 kw,U i6 sh,U i6 sw,U i6 tp,U i6 lf,U i6 bt,U i6 rt,Sl wa lw wc,Sl ba lb bc,U i6 sm,U i6 ss,U i6 um,U i6 us,U i6 z,U i6 p,U i6 lo,U i6 hi]) (t:=42)).new (c:=#[U i6 h,U i6 w,U i6 c]) (t:=23)
 simp only [World.size_alloc] at s0
 go_enter Tryz.func93,Tryz.ntmps93
 go_upto_region 6 with fail
 obtain⟨c1,g1,c2,g2,-⟩:=rulesQ_st s0
 have hne:=Nonempty.intro (Wd.mk _ s0)
 refine region_held s0 (by kernel_rfl) (by kernel_rfl) ?_
 go_big_quiet_step (fail)
 go_big_quiet_step (fail)
 go_big_quiet_want
 refine quiet_ld 42 (.tmp 2) rfl _ rfl 42 _ _ (Wd.hp (List.mem_cons_of_mem _ List.mem_cons_self)) Tryz.underlying42 rfl (by kernel_rfl) rfl ?_
 go_simp
 go_big_quiet_on
 repeat (go_big_quiet_step ((go_at_call 35;exact held_of (hL.out _))))
 refine wpQuiet_nil ?_
 intro _ hw'
 obtain⟨nq,rfl⟩:=hw'
 go_wp2
 exact bodyPost_ret (v:=.tuple #[U i6 (c*st),U i6 c]) (by simp [results,Tryz.results93,go_sem, *]) rfl ⟨rfl,nq.h.below⟩
theorem lists_0 (k a b m kh kw sh sw tp lf bt rt:Int) (wa:Option Addr) (lw wc:Nat) (ba:Option Addr) (lb bc:Nat) (sm ss um us z p lo hi:Int) (h w c:Int) (W:World) (hk:4≤k) :
  Calls Tryz.prog 93 #[.agg #[U i6 k,U i6 a,U i6 b,U i6 m,U i6 kh,U i6 kw,U i6 sh,U i6 sw,U i6 tp,U i6 lf,U i6 bt,U i6 rt,Sl wa lw wc,Sl ba lb bc,U i6 sm,U i6 ss,U i6 um,U i6 us,U i6 z,U i6 p,U i6 lo,U i6 hi],.agg #[U i6 h,U i6 w,U i6 c]] W fun e w'=>e=.returned (.tuple #[U i6 0,U i6 0])∧Below W.heap.size W w':=by
 have e1:(k == 1)=false:=by simp;omega
 have e2:(k == 2)=false:=by simp;omega
 have e3:(k == 3)=false:=by simp;omega
 go_enter Tryz.func93,Tryz.ntmps93
 go_wp2
 exact bodyPost_ret (v:=.tuple #[U i6 0,U i6 0]) (by simp [results,Tryz.results93,go_sem, *]) rfl ⟨rfl,(St.start W).new.new.below⟩
theorem lists_any (k a b m kh kw sh sw tp lf bt rt:Int) (wa:Option Addr) (lw wc:Nat) (ba:Option Addr) (lb bc:Nat) (sm ss um us z p lo hi:Int) (h w c st:Int) (W:World) (hk:1≤k∧k≤8) (g:vS h w c=true) (hw:2≤k∧k≤5→(1≤kh∧kh≤32)∧(1≤kw∧kw≤32)) (hs:stR k kh kw h w c=st) (hs0:1≤st∧st≤1048576) (hm:k≤2→1≤m∧m≤1024) :
  Calls Tryz.prog 93 #[.agg #[U i6 k,U i6 a,U i6 b,U i6 m,U i6 kh,U i6 kw,U i6 sh,U i6 sw,U i6 tp,U i6 lf,U i6 bt,U i6 rt,Sl wa lw wc,Sl ba lb bc,U i6 sm,U i6 ss,U i6 um,U i6 us,U i6 z,U i6 p,U i6 lo,U i6 hi],.agg #[U i6 h,U i6 w,U i6 c]] W fun e w'=>e=.returned (.tuple #[U i6 (liW k m c st),U i6 (liB k m c)])∧Below W.heap.size W w':=by
 by_cases k4:4≤k
 ·have e1:liW k m c st=0:=by unfold liW;rw [if_neg (by omega),if_neg (by omega)]
  have e2:liB k m c=0:=by unfold liB;rw [if_neg (by omega),if_neg (by omega)]
  rw [e1,e2]
  exact lists_0 k a b m kh kw sh sw tp lf bt rt wa lw wc ba lb bc sm ss um us z p lo hi h w c W k4
 ·rcases (show k=1∨k=2∨k=3 by omega) with rfl | rfl | rfl
  ·exact lists_1 a b m kh kw sh sw tp lf bt rt wa lw wc ba lb bc sm ss um us z p lo hi h w c st W g hw hs hs0 (hm (by decide))
  ·exact lists_2 a b m kh kw sh sw tp lf bt rt wa lw wc ba lb bc sm ss um us z p lo hi h w c st W g hw hs hs0 (hm (by decide))
  ·exact lists_3 a b m kh kw sh sw tp lf bt rt wa lw wc ba lb bc sm ss um us z p lo hi h w c st W g hw hs hs0 (vS_yes g).2.2.1
theorem labour_r (k a b m kh kw sh sw tp lf bt rt:Int) (wa:Option Addr) (lw wc:Nat) (ba:Option Addr) (lb bc:Nat) (sm ss um us z p lo hi:Int) (h w c H V C n st:Int) (W:World) (hk:rdB k=true) (g:vS h w c=true) (hw:2≤k∧k≤5→(1≤kh∧kh≤32)∧(1≤kw∧kw≤32)) (hs:stR k kh kw h w c=st) (hs0:1≤st∧st≤1048576) (hg:vS H V C=true) (hn:H*V*C=n) :
  Calls Tryz.prog 78 #[.agg #[U i6 k,U i6 a,U i6 b,U i6 m,U i6 kh,U i6 kw,U i6 sh,U i6 sw,U i6 tp,U i6 lf,U i6 bt,U i6 rt,Sl wa lw wc,Sl ba lb bc,U i6 sm,U i6 ss,U i6 um,U i6 us,U i6 z,U i6 p,U i6 lo,U i6 hi],.agg #[U i6 h,U i6 w,U i6 c],.agg #[U i6 H,U i6 V,U i6 C]] W fun e w'=>e=.returned (U i6 (n*st))∧Below W.heap.size W w':=by
 have hL:Hid (∀ W,Calls Tryz.prog 35 #[.agg #[U i6 k,U i6 a,U i6 b,U i6 m,U i6 kh,U i6 kw,U i6 sh,U i6 sw,U i6 tp,U i6 lf,U i6 bt,U i6 rt,Sl wa lw wc,Sl ba lb bc,U i6 sm,U i6 ss,U i6 um,U i6 us,U i6 z,U i6 p,U i6 lo,U i6 hi],.agg #[U i6 h,U i6 w,U i6 c]] W fun e w'=>e=.returned (U i6 st)∧Below W.heap.size W w'):=fun W=>by rw [← hs];exact length_any k a b m kh kw sh sw tp lf bt rt wa lw wc ba lb bc sm ss um us z p lo hi h w c W hk g hw
 obtain⟨⟨p1,p2⟩,p3,p4⟩:=vS_bd hg
 obtain⟨hv,eh⟩:∃ hv,H*V=hv:=⟨_,rfl⟩
 rw [eh] at p1 p2 p3 p4 hn
 rw [hn] at p3 p4
 obtain⟨q1,q2⟩:=mul_bd p3 p4 hs0.1 hs0.2
 clear hs g hw hg
 go_enter Tryz.func78,Tryz.ntmps78
 have s0:=(((St.start W).new (c:=#[U i6 k,U i6 a,U i6 b,U i6 m,U i6 kh,U i6 kw,U i6 sh,U i6 sw,U i6 tp,U i6 lf,U i6 bt,U i6 rt,Sl wa lw wc,Sl ba lb bc,U i6 sm,U i6 ss,U i6 um,U i6 us,U i6 z,U i6 p,U i6 lo,U i6 hi]) (t:=42)).new (c:=#[U i6 h,U i6 w,U i6 c]) (t:=23)).new (c:=#[U i6 H,U i6 V,U i6 C]) (t:=23)
 simp only [World.size_alloc] at s0
 go_wp2_with fail
 refine (rred_any _ _).mono ?_
 rintro e w' ⟨rfl,rfl⟩
 go_wp2_with (refine wpList_load_row rfl 42 (.tmp 3) rfl _ rfl 42 _ (0,0) _ s0.h3 Tryz.underlying42 rfl (by kernel_rfl) ?_)
 refine (hL.out _).mono ?_
 rintro e w' ⟨rfl,hb⟩
 have s1:=s0.call hb
 clear hb
 go_wp2
 go_ret
 exact⟨rfl,s1.below⟩
theorem labour_5 (a b m kh kw sh sw tp lf bt rt:Int) (wa:Option Addr) (lw wc:Nat) (ba:Option Addr) (lb bc:Nat) (sm ss um us z p lo hi:Int) (h w c H V C n:Int) (W:World) (hw:(1≤kh∧kh≤32)∧(1≤kw∧kw≤32)) (hg:vS H V C=true) (hn:H*V*C=n) :
  Calls Tryz.prog 78 #[.agg #[U i6 5,U i6 a,U i6 b,U i6 m,U i6 kh,U i6 kw,U i6 sh,U i6 sw,U i6 tp,U i6 lf,U i6 bt,U i6 rt,Sl wa lw wc,Sl ba lb bc,U i6 sm,U i6 ss,U i6 um,U i6 us,U i6 z,U i6 p,U i6 lo,U i6 hi],.agg #[U i6 h,U i6 w,U i6 c],.agg #[U i6 H,U i6 V,U i6 C]] W fun e w'=>e=.returned (U i6 (n*kh*kw))∧Below W.heap.size W w':=by
 obtain⟨⟨p1,p2⟩,p3,p4⟩:=vS_bd hg
 obtain⟨hv,eh⟩:∃ hv,H*V=hv:=⟨_,rfl⟩
 rw [eh] at p1 p2 p3 p4 hn
 rw [hn] at p3 p4
 obtain⟨q1,q2⟩:=mul_bd p3 p4 hw.1.1 hw.1.2
 obtain⟨q3,q4⟩:=mul_bd q1 q2 hw.2.1 hw.2.2
 obtain⟨nk,ek⟩:∃ nk,n*kh=nk:=⟨_,rfl⟩
 rw [ek] at q1 q2 q3 q4 ⊢
 clear hg
 go_enter Tryz.func78,Tryz.ntmps78
 go_wp2_with fail
 refine (rred_any _ _).mono ?_
 rintro e w' ⟨rfl,rfl⟩
 go_wp2
 go_ret
 exact⟨rfl,(St.start W).new.new.new.below⟩
theorem labour_6 (k a b m kh kw sh sw tp lf bt rt:Int) (wa:Option Addr) (lw wc:Nat) (ba:Option Addr) (lb bc:Nat) (sm ss um us z p lo hi:Int) (h w c H V C n:Int) (W:World) (hk:6≤k∧k≤8) (hg:vS H V C=true) (hn:H*V*C=n) :
  Calls Tryz.prog 78 #[.agg #[U i6 k,U i6 a,U i6 b,U i6 m,U i6 kh,U i6 kw,U i6 sh,U i6 sw,U i6 tp,U i6 lf,U i6 bt,U i6 rt,Sl wa lw wc,Sl ba lb bc,U i6 sm,U i6 ss,U i6 um,U i6 us,U i6 z,U i6 p,U i6 lo,U i6 hi],.agg #[U i6 h,U i6 w,U i6 c],.agg #[U i6 H,U i6 V,U i6 C]] W fun e w'=>e=.returned (U i6 n)∧Below W.heap.size W w':=by
 obtain⟨⟨p1,p2⟩,p3,p4⟩:=vS_bd hg
 obtain⟨hv,eh⟩:∃ hv,H*V=hv:=⟨_,rfl⟩
 rw [eh] at p1 p2 p3 p4 hn
 rw [hn] at p3 p4
 have e1:rdB k=false:=decide_eq_false (by omega)
 have e2:(k == 5)=false:=by simp;omega
 clear hg hk
 go_enter Tryz.func78,Tryz.ntmps78
 go_wp2_with fail
 refine (rred_any _ _).mono ?_
 rintro e w' ⟨rfl,rfl⟩
 go_wp2
 go_ret
 exact⟨rfl,(St.start W).new.new.new.below⟩
theorem labour_any (k a b m kh kw sh sw tp lf bt rt:Int) (wa:Option Addr) (lw wc:Nat) (ba:Option Addr) (lb bc:Nat) (sm ss um us z p lo hi:Int) (h w c H V C st:Int) (W:World) (hk:1≤k∧k≤8) (g:vS h w c=true) (hw:2≤k∧k≤5→(1≤kh∧kh≤32)∧(1≤kw∧kw≤32)) (hs:stR k kh kw h w c=st) (hs0:1≤st∧st≤1048576) (hg:vS H V C=true) :
  Calls Tryz.prog 78 #[.agg #[U i6 k,U i6 a,U i6 b,U i6 m,U i6 kh,U i6 kw,U i6 sh,U i6 sw,U i6 tp,U i6 lf,U i6 bt,U i6 rt,Sl wa lw wc,Sl ba lb bc,U i6 sm,U i6 ss,U i6 um,U i6 us,U i6 z,U i6 p,U i6 lo,U i6 hi],.agg #[U i6 h,U i6 w,U i6 c],.agg #[U i6 H,U i6 V,U i6 C]] W fun e w'=>e=.returned (U i6 (H*V*C*st))∧Below W.heap.size W w':=by
 by_cases k4:k≤4
 ·exact labour_r k a b m kh kw sh sw tp lf bt rt wa lw wc ba lb bc sm ss um us z p lo hi h w c H V C _ st W (decide_eq_true (by omega)) g hw hs hs0 hg rfl
 ·by_cases k5:k=5
  ·subst k5
   have e:st=kh*kw:=by rw [← hs];rfl
   rw [e,← Int.mul_assoc]
   exact labour_5 a b m kh kw sh sw tp lf bt rt wa lw wc ba lb bc sm ss um us z p lo hi h w c H V C _ W (hw (by decide)) hg rfl
  ·have e:st=1:=by rw [← hs];unfold stR;rw [if_neg (by omega),if_neg (by omega),if_neg (by omega)]
   rw [e,Int.mul_one]
   exact labour_6 k a b m kh kw sh sw tp lf bt rt wa lw wc ba lb bc sm ss um us z p lo hi h w c H V C _ W (by omega) hg rfl
end Go.Proofs.YtccoanknofhmaaaGreat
