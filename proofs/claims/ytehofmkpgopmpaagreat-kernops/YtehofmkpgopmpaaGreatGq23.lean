/- What finished and done of package kern return: what an op makes, with the Track of its sums. -/
import Derived.Test.YtehofmkpgopmpaaGreatGq22
namespace Go.Proofs.YtehofmkpgopmpaaGreat.Kr
open Go.Value renaming int → U, slice → Sl
open Go.IntKind renaming i64 → i6
set_option maxRecDepth 100000
set_option maxHeartbeats 16000000
open Go.ChangeShapes Go.WideShapes Go.ChangeAt Go.RowKit
set_option linter.unusedVariables false
theorem finished_any (k a b m kh kw sh sw tp lf bt rt:Int) (wa:Option Addr) (lw cw:Nat) (ba:Option Addr) (lb bc:Nat) (sm ss um us z p lo hi h w c H V C ln pn:Int) (r:Nat) (W:World) (hr:W.heap[r]? = some (.cells #[U i6 k,U i6 a,U i6 b,U i6 m,U i6 kh,U i6 kw,U i6 sh,U i6 sw,U i6 tp,U i6 lf,U i6 bt,U i6 rt,Sl wa lw cw,Sl ba lb bc,U i6 sm,U i6 ss,U i6 um,U i6 us,U i6 z,U i6 p,U i6 lo,U i6 hi,U i6 h,U i6 w,U i6 c,U i6 H,U i6 V,U i6 C,U i6 ln,U i6 pn] 57 (0,0))) (va:Option Addr) (N vc:Nat) (VS:List Int) (hl:N≤1000000) (hV:IRow .i64 W va N vc VS) :
  Calls Tryz.prog 40 #[.pointer (some ⟨r,0,none⟩),Sl va N vc] W fun e w'=>(∃ v,e=.returned v∧Own .i8 72 w' W.heap.size v (fiL VS z lo hi))∧Below W.heap.size W w':=by
 have hrz:=lt_of_heap hr
 have HR:Hid (W.heap[r]? = some (.cells #[U i6 k,U i6 a,U i6 b,U i6 m,U i6 kh,U i6 kw,U i6 sh,U i6 sw,U i6 tp,U i6 lf,U i6 bt,U i6 rt,Sl wa lw cw,Sl ba lb bc,U i6 sm,U i6 ss,U i6 um,U i6 us,U i6 z,U i6 p,U i6 lo,U i6 hi,U i6 h,U i6 w,U i6 c,U i6 H,U i6 V,U i6 C,U i6 ln,U i6 pn] 57 (0,0))):=hr
 have hwf:Wf .i8 (fiL VS z lo hi):=fun v hv=>mk_i8 (fiL_i8 _ _ _ _ v hv)
 have HM:Hid (∀ y u,VS[y]? = some u→(fiL VS z lo hi).getD y 0=Fx.fiV u z lo hi):=fun y u h=>map_at h
 have hN:=hV.1
 have HL:Hid ((fiL VS z lo hi).length=N):=by unfold Hid fiL;rw [List.length_map];exact hN
 have HRw:Hid (IRow .i64 W va N vc VS):=hV
 clear hr hN hV
 obtain⟨ys,hys⟩:∃ ys,fiL VS z lo hi=ys:=⟨_,rfl⟩
 rw [hys] at hwf HL HM ⊢
 clear hys
 go_enter Tryz.func40,Tryz.ntmps40
 go_wp2_with (at_make;refine wpList_mak kt_i8 rfl _ rfl N _ rfl rfl (by omega) ?_;intro hnew)
 have HB0:Hid (Bk .i8 72 _ W.heap.size (fil ys 0)):=Bk.new hnew HL.out
 have HB1:Hid (Below W.heap.size W _):=bal W (.cells (Array.replicate N (Value.int .i8 0)) 72)
 clear hnew
 go_loopw [15] (fun i wr=>∃ y:Nat,y≤N∧i=U i6 y∧Bk .i8 72 wr W.heap.size (fil ys y)∧Below W.heap.size W wr) (fun i _=>N-(intOf i).toNat)
 case atStart=>exact⟨0,Nat.zero_le _,rfl,HB0.out,HB1.out⟩
 case round =>
  obtain⟨y,hy,rfl,hB,hb⟩:=hrel
  clear HB0 HB1
  by_cases hlt:y<N
  ·obtain⟨x,u,rfl,hu,-,hz,-⟩:=(HRw.out.below hb).at hlt
   have HE:Hid (ys.getD y 0=Fx.fiV u z lo hi):=HM.out y u hz
   have h8:=fiV_i8 (v:=u) (z:=z) (lo:=lo) (hi:=hi)
   have hF:Hid (∀ q,Calls Tryz.prog 68 #[U i6 u,U i6 z,U i6 lo,U i6 hi] (wr.drewN q) fun e w'=>e=.returned (.tuple #[U i6 (Fx.fiV u z lo hi),U i6 (Fx.fiE z lo hi)])∧∃ m,w'=(wr.drewN q).drewN m):=fun q=>(Fx.finish_any u z lo hi _).mono fun e w' ⟨h1,h2⟩=>⟨h1,0,h2⟩
   obtain⟨F,hFe⟩:∃ F,Fx.fiV u z lo hi=F:=⟨_,rfl⟩
   obtain⟨E,hEe⟩:∃ E,Fx.fiE z lo hi=E:=⟨_,rfl⟩
   rw [hFe] at HE h8 hF
   rw [hEe] at hF
   obtain⟨g1,g2⟩:=h8
   have hw8:IntKind.i8.wrap F=F:=by simp [IntKind.wrap,IntKind.bits,IntKind.signed];omega
   have HB:Hid (Bk .i8 72 wr W.heap.size (fil ys y)):=hB
   obtain⟨c1,f1,z1⟩:=cells_at ((hb.block r hrz).trans HR.out)
   clear hB hz hFe hEe
   go_wp2
   go_quiet ((go_at_call 68;exact Calls.quiet_of (hF.out _)))
   have hB3:=HB.out.below (dbel wr nq)
   obtain⟨hc,hf,hs⟩:=hB3.at (p:=y) (by rw [fil_len _ (by rw [HL.out];omega),HL.out];exact hlt)
   have HS:Hid (Bk .i8 72 ((wr.drewN nq).setCell ⟨W.heap.size,y,none⟩ (.int .i8 F)) W.heap.size (fil ys (y+1))):=by
    have:=hB3.set (p:=y) F
    rw [← HE.out,fil_set (by rw [HL.out];exact hlt),HE.out] at this
    exact this
   have Hbb:Hid (Below W.heap.size W (wr.drewN nq)):=btr hb (dbel wr nq)
   clear hB3 HB hF hb c1 f1
   go_wp2
   go_roundw
   case rel=>exact⟨y+1,by omega,by go_num,HS.out,Hbb.out.setCell (p:=⟨W.heap.size,y,none⟩) (Nat.le_refl _) _⟩
   case measure=>simp [intOf];omega
  ·obtain rfl:y=N:=by omega
   have hO:Hid (Own .i8 72 wr W.heap.size (.slice (some ⟨W.heap.size,0,none⟩) y y) ys):=by
    have e:=HL.out
    subst e
    rw [fil_all] at hB
    exact own_full hB hwf (by unfold maxLen;omega) (Nat.le_refl _)
   have Hbb:Hid (Below W.heap.size W wr):=hb
   clear hB hb
   go_wp2
   go_ret
   exact⟨⟨_,rfl,hO.out⟩,Hbb.out⟩
theorem two_at {w:World} {g n:Nat} {cur:Array Value} {T:TypeId} {x y:Value} (h:w.heap[g]? = some (.cells cur T (0,0))) (h0:cur[n]? = some x) (h1:cur[n+1]? = some y):∀ q v,[x,y][q]? = some v→w.cell? ((⟨g,n,none⟩:Addr).add q)=some v:=by
 intro q v hq
 rw [Addr.add_lit,(cells_at h).1]
 match q,hq with
 | 0,hq=>rw [Nat.add_zero,h0];exact hq
 | 1,hq=>rw [h1];exact hq
 | q+2,hq=>simp at hq
theorem act_eq {Q:Act→World→Prop} {a b:Act} {w:World} (h:a=b) (k:Q b w):Q a w:=by
 rw [h]
 exact k
theorem tr_z {a1 a2 a3 a4 a5 a6 a7 a8 a9:Int} (h:(⟨a1,a2,a3,a4,a5,a6,a7,a8,a9⟩:Tr)=Tr.z):a1=0∧a2=0∧a3=0∧a4=0∧a5=0∧a6=0∧a7=0∧a8=0∧a9=0:=by
 unfold Tr.z at h
 simpa only [Tr.mk.injEq] using h
theorem done_v (k a b m kh kw sh sw tp lf bt rt:Int) (wa:Option Addr) (lw cw:Nat) (ba:Option Addr) (lb bc:Nat) (sm ss um us z p lo hi h w c H V C ln pn:Int) (r:Nat) (W:World) (hr:W.heap[r]? = some (.cells #[U i6 k,U i6 a,U i6 b,U i6 m,U i6 kh,U i6 kw,U i6 sh,U i6 sw,U i6 tp,U i6 lf,U i6 bt,U i6 rt,Sl wa lw cw,Sl ba lb bc,U i6 sm,U i6 ss,U i6 um,U i6 us,U i6 z,U i6 p,U i6 lo,U i6 hi,U i6 h,U i6 w,U i6 c,U i6 H,U i6 V,U i6 C,U i6 ln,U i6 pn] 57 (0,0))) (hk:1≤k∧k≤8) (pa:Option Addr) (pl pc:Nat) (ad:Option Addr) (n cap:Nat) (xs:List Int) (hX:IRow .i8 W ad n cap xs) (hn:n≤1000000) (bd:Option Addr) (nb capb:Nat) (ys:List Int) (hY:IRow .i8 W bd nb capb ys) (hnb:k=6→nb=n) (SS GS:List Int) (TT:Tr)
  (hS:k≤4→∀ (w':World),Below W.heap.size W w'→Calls Tryz.prog 35 #[.pointer (some ⟨r,0,none⟩),Sl pa pl pc,Sl ad n cap] w' fun e w''=>(∃ v,e=.returned (.tuple #[v,.agg TT.cs])∧Own .i64 2 w'' w'.heap.size v SS)∧Below w'.heap.size w' w'')
  (hG:k=5→∀ (w':World),Below W.heap.size W w'→Calls Tryz.prog 38 #[.pointer (some ⟨r,0,none⟩),Sl ad n cap] w' fun e w''=>(∃ v,e=.returned v∧Own .i64 2 w'' w'.heap.size v GS)∧Below w'.heap.size w' w'')
  (hl:SS.length≤1000000) (hbd:∀ v∈SS,-4294967296≤v∧v≤4294967296) (hlm:k=4→1≤ln∧ln≤1048576) (hTT:5≤k→TT=Tr.z) (VS:List Int)
  (hVS:VS=if k≤3 then apL SS sm ss else if k=4 then meL SS ln else if k=5 then GS else if k=6 then adL (apL xs sm ss) (apL ys um us) else if k=7 then apL xs sm ss else xs) (hVl:VS.length≤1000000) :
  Calls Tryz.prog 14 #[.pointer (some ⟨r,0,none⟩),Sl pa pl pc,Sl ad n cap,Sl bd nb capb] W fun e w'=>(∃ v,e=.returned (.tuple #[v,.agg TT.cs])∧Own .i8 72 w' W.heap.size v (fiL VS z lo hi))∧Below W.heap.size W w':=by
 have hrz:=lt_of_heap hr
 have HR:Hid (W.heap[r]? = some (.cells #[U i6 k,U i6 a,U i6 b,U i6 m,U i6 kh,U i6 kw,U i6 sh,U i6 sw,U i6 tp,U i6 lf,U i6 bt,U i6 rt,Sl wa lw cw,Sl ba lb bc,U i6 sm,U i6 ss,U i6 um,U i6 us,U i6 z,U i6 p,U i6 lo,U i6 hi,U i6 h,U i6 w,U i6 c,U i6 H,U i6 V,U i6 C,U i6 ln,U i6 pn] 57 (0,0))):=hr
 have HX:Hid (IRow .i8 W ad n cap xs):=hX
 have HY:Hid (IRow .i8 W bd nb capb ys):=hY
 have HW:Hid (∀ w',Below W.heap.size W w'→_):=fun w' hb=>widened_any ad n cap xs w' (hX.below hb) hn
 have hx8:=hX.i8
 have hy8:=hY.i8
 have HX8:Hid (∀ v∈xs,I8 v):=hx8
 have HY8:Hid (∀ v∈ys,I8 v):=hy8
 have HLX:Hid (xs.length=n):=hX.1
 have HLY:Hid (ys.length=nb):=hY.1
 have HS:Hid (k≤4→_):=hS
 have HG:Hid (k=5→_):=hG
 have HB:Hid (∀ v∈SS,-4294967296≤v∧v≤4294967296):=hbd
 have HL:Hid (SS.length≤1000000):=hl
 have HVL:Hid (VS.length≤1000000):=hVl
 have HLM:Hid (k=4→1≤ln∧ln≤1048576):=hlm
 have HTT:Hid (5≤k→TT=Tr.z):=hTT
 have HVS:Hid (VS=_):=hVS
 have HNB:Hid (k=6→nb=n):=hnb
 have HF:Hid (∀ (w':World),Below W.heap.size W w'→∀ (va:Option Addr) (vc:Nat),IRow .i64 w' va VS.length vc VS→_):=fun w' hb va vc hv=>finished_any k a b m kh kw sh sw tp lf bt rt wa lw cw ba lb bc sm ss um us z p lo hi h w c H V C ln pn r w' ((hb.block r hrz).trans hr) va VS.length vc VS hVl hv
 clear hr hX hY hS hG hbd hl hx8 hy8 hVS hVl hlm hTT hnb
 obtain⟨a1,a2,a3,a4,a5,a6,a7,a8,a9⟩:=TT
 simp only [Tr.cs] at HS ⊢
 have s0:=(St.start W).new (c:=#[U i6 0,U i6 0,U i6 0,U i6 0,U i6 0,U i6 0,U i6 0,U i6 0,U i6 0]) (t:=32)
 have S0:Hid (St W _ [(W.heap.size,#[U i6 0,U i6 0,U i6 0,U i6 0,U i6 0,U i6 0,U i6 0,U i6 0,U i6 0],32)]):=s0
 clear s0
 go_enter Tryz.func14,Tryz.ntmps14
 go_wp2_with fail
 refine (HW.out _ S0.out.below).mono ?_
 rintro e w1 ⟨⟨v1,rfl,hO⟩,hb1⟩
 have s1:=(S0.out.call hb1).new (c:=#[U i6 0,U i6 0,U i6 0,U i6 0,U i6 0,U i6 0,U i6 0,U i6 0,U i6 0]) (t:=32)
 have O1:Hid (Own .i64 2 (w1.alloc (.cells #[U i6 0,U i6 0,U i6 0,U i6 0,U i6 0,U i6 0,U i6 0,U i6 0,U i6 0] 32)) W.heap.size v1 xs):=(hO.base S0.out.size).alloc _
 have hWt:=lt_of_heap (S0.out.call hb1).h1
 clear hO hb1 S0 HW
 go_upto_region 2 with fail
 obtain⟨tb,htb⟩:∃ tb,w1.heap.size=tb:=⟨_,rfl⟩
 obtain⟨w2,hw2⟩:∃ w2,w1.alloc (.cells #[U i6 0,U i6 0,U i6 0,U i6 0,U i6 0,U i6 0,U i6 0,U i6 0,U i6 0] 32)=w2:=⟨_,rfl⟩
 rw [hw2,htb] at s1
 rw [htb] at hWt
 rw [hw2] at O1
 rw [hw2,htb]
 have S2:Hid (St W w2 [(tb,#[U i6 0,U i6 0,U i6 0,U i6 0,U i6 0,U i6 0,U i6 0,U i6 0,U i6 0],32),(W.heap.size,#[U i6 0,U i6 0,U i6 0,U i6 0,U i6 0,U i6 0,U i6 0,U i6 0,U i6 0],32)]):=s1
 clear hw2 htb s1
 obtain⟨c1,f1,z1⟩:=cells_at ((S2.out.below.block r hrz).trans HR.out)
 have hrt:r≠tb:=by omega
 --WALK
 rcases (show k=1∨k=2∨k=3∨k=4∨k=5∨k=6∨k=7∨k=8 by omega) with rfl | rfl | rfl | rfl | rfl | rfl | rfl | rfl
 ·have e:=HVS.out
  rw [if_pos (by decide)] at e
  have HS':Hid (∀ (w':World),Below W.heap.size W w'→_):=HS.out (by decide)
  clear HS HG HTT HLM HNB HVS HY HY8 HLY O1
  go_wp2_with fail
  refine (HS'.out _ S2.out.below).mono ?_
  rintro e w3 ⟨⟨v3,rfl,hO3⟩,hb3⟩
  have s4:=(S2.out.call hb3).set9 (U i6 a1) (U i6 a2) (U i6 a3) (U i6 a4) (U i6 a5) (U i6 a6) (U i6 a7) (U i6 a8) (U i6 a9) (by simp only [List.mem_singleton];rintro x rfl;simp only;omega)
  have hne:=own_ne hO3.1 (S2.out.call hb3).h1 (by decide)
  have o4:=own_mv (hO3.base S2.out.size) ((Mv.refl w3 tb tb).set9 (U i6 a1) (U i6 a2) (U i6 a3) (U i6 a4) (U i6 a5) (U i6 a6) (U i6 a7) (U i6 a8) (U i6 a9)) hne hne
  obtain⟨c3,f3,z3,-⟩:=(S2.out.call hb3).rules
  clear hb3 hne hO3 c1 f1 z1
  go_upto_region 11 with fail
  obtain⟨w4,hw4⟩:∃ w4,(((((((((w3.setCell ⟨tb,0,none⟩ (U i6 a1)).setCell ⟨tb,1,none⟩ (U i6 a2)).setCell ⟨tb,2,none⟩ (U i6 a3)).setCell ⟨tb,3,none⟩ (U i6 a4)).setCell ⟨tb,4,none⟩ (U i6 a5)).setCell ⟨tb,5,none⟩ (U i6 a6)).setCell ⟨tb,6,none⟩ (U i6 a7)).setCell ⟨tb,7,none⟩ (U i6 a8)).setCell ⟨tb,8,none⟩ (U i6 a9))=w4:=⟨_,rfl⟩
  rw [hw4] at s4 o4 ⊢
  obtain⟨va,vc,rfl,hrow,-⟩:=o4.row
  have HRw:Hid (IRow .i64 w4 va SS.length vc SS):=hrow
  have S4:Hid (St W w4 [(tb,#[U i6 a1,U i6 a2,U i6 a3,U i6 a4,U i6 a5,U i6 a6,U i6 a7,U i6 a8,U i6 a9],32),(W.heap.size,#[U i6 0,U i6 0,U i6 0,U i6 0,U i6 0,U i6 0,U i6 0,U i6 0,U i6 0],32)]):=s4
  clear hw4 s4 o4 hrow S2 HS' c3 f3 z3
  obtain⟨c1,f1,z1⟩:=cells_at ((S4.out.below.block r hrz).trans HR.out)
  go_wp2_with fail
  refine (scaled_any sm ss va SS.length vc SS _ HRw.out HL.out HB.out).mono ?_
  rintro e' w5 ⟨⟨v5,rfl,hO5⟩,hb5⟩
  have S5:Hid (St W w5 [(tb,#[U i6 a1,U i6 a2,U i6 a3,U i6 a4,U i6 a5,U i6 a6,U i6 a7,U i6 a8,U i6 a9],32),(W.heap.size,#[U i6 0,U i6 0,U i6 0,U i6 0,U i6 0,U i6 0,U i6 0,U i6 0,U i6 0],32)]):=S4.out.call hb5
  have O5:Hid (Own .i64 2 w5 W.heap.size v5 VS):=by rw [e];exact hO5.base S4.out.size
  clear hO5 hb5 S4 HRw c1 f1 z1 e
  obtain⟨ve,vf,rfl,hrow,-⟩:=O5.out.row
  have HRw5:Hid (IRow .i64 w5 ve VS.length vf VS):=hrow
  clear hrow O5
  obtain⟨c1,f1,z1,c2,f2,z2,-⟩:=S5.out.rules
  go_wp2
  go_region_law (first
   | (go_simp;go_at_call 40
      refine (HF.out _ (S5.out.drew).below ve vf (HRw5.out.below (Below.refl _ _).drew)).mono ?_
      rintro e w6 ⟨⟨v6,rfl,hO6⟩,hb6⟩
      have S6:Hid (St W w6 [(tb,#[U i6 a1,U i6 a2,U i6 a3,U i6 a4,U i6 a5,U i6 a6,U i6 a7,U i6 a8,U i6 a9],32),(W.heap.size,#[U i6 0,U i6 0,U i6 0,U i6 0,U i6 0,U i6 0,U i6 0,U i6 0,U i6 0],32)]):=S5.out.drew.call hb6
      have O6:Hid (Own .i8 72 w6 W.heap.size v6 (fiL VS z lo hi)):=hO6.base S5.out.size
      clear hO6 hb6 c1 f1 z1 c2 f2 z2
      obtain⟨c1,f1,z1,c2,f2,z2,-⟩:=S6.out.rules))
  all_goals
   have s7:=(S6.out.tail.set9 (U i6 a1) (U i6 a2) (U i6 a3) (U i6 a4) (U i6 a5) (U i6 a6) (U i6 a7) (U i6 a8) (U i6 a9) (fun x hx=>by cases hx)).below
   have hne:=own_ne O6.out.1 S6.out.h2 (by decide)
   have o7:=own_mv O6.out ((Mv.refl w6 W.heap.size W.heap.size).set9 (U i6 a1) (U i6 a2) (U i6 a3) (U i6 a4) (U i6 a5) (U i6 a6) (U i6 a7) (U i6 a8) (U i6 a9)) hne hne
   have c7:=((St.rules (S6.out.tail.set9 (U i6 a1) (U i6 a2) (U i6 a3) (U i6 a4) (U i6 a5) (U i6 a6) (U i6 a7) (U i6 a8) (U i6 a9) (fun x hx=>by cases hx)))).1
   obtain⟨w7,hw7⟩:∃ w7,(((((((((w6.setCell ⟨W.heap.size,0,none⟩ (U i6 a1)).setCell ⟨W.heap.size,1,none⟩ (U i6 a2)).setCell ⟨W.heap.size,2,none⟩ (U i6 a3)).setCell ⟨W.heap.size,3,none⟩ (U i6 a4)).setCell ⟨W.heap.size,4,none⟩ (U i6 a5)).setCell ⟨W.heap.size,5,none⟩ (U i6 a6)).setCell ⟨W.heap.size,6,none⟩ (U i6 a7)).setCell ⟨W.heap.size,7,none⟩ (U i6 a8)).setCell ⟨W.heap.size,8,none⟩ (U i6 a9))=w7:=⟨_,rfl⟩
   rw [hw7] at s7 o7 c7 ⊢
   have HC7:Hid (∀ i,_):=c7
   have O7:Hid (Own .i8 72 w7 W.heap.size v6 (fiL VS z lo hi)):=o7
   have S7:Hid (Below W.heap.size W w7):=s7
   clear hw7 s7 o7 c7 hne c1 f1 z1 c2 f2 z2 S6 O6 S5 HRw5
   go_wp2
   exact bodyPost_ret (v:=.tuple #[v6,.agg #[U i6 a1,U i6 a2,U i6 a3,U i6 a4,U i6 a5,U i6 a6,U i6 a7,U i6 a8,U i6 a9]]) (by have c6:=HC7.out;simp [results,Tryz.results14,go_sem,c6]) rfl ⟨⟨v6,rfl,O7.out⟩,S7.out⟩
 ·have e:=HVS.out
  rw [if_pos (by decide)] at e
  have HS':Hid (∀ (w':World),Below W.heap.size W w'→_):=HS.out (by decide)
  clear HS HG HTT HLM HNB HVS HY HY8 HLY O1
  go_wp2_with fail
  refine (HS'.out _ S2.out.below).mono ?_
  rintro e w3 ⟨⟨v3,rfl,hO3⟩,hb3⟩
  have s4:=(S2.out.call hb3).set9 (U i6 a1) (U i6 a2) (U i6 a3) (U i6 a4) (U i6 a5) (U i6 a6) (U i6 a7) (U i6 a8) (U i6 a9) (by simp only [List.mem_singleton];rintro x rfl;simp only;omega)
  have hne:=own_ne hO3.1 (S2.out.call hb3).h1 (by decide)
  have o4:=own_mv (hO3.base S2.out.size) ((Mv.refl w3 tb tb).set9 (U i6 a1) (U i6 a2) (U i6 a3) (U i6 a4) (U i6 a5) (U i6 a6) (U i6 a7) (U i6 a8) (U i6 a9)) hne hne
  obtain⟨c3,f3,z3,-⟩:=(S2.out.call hb3).rules
  clear hb3 hne hO3 c1 f1 z1
  go_upto_region 11 with fail
  obtain⟨w4,hw4⟩:∃ w4,(((((((((w3.setCell ⟨tb,0,none⟩ (U i6 a1)).setCell ⟨tb,1,none⟩ (U i6 a2)).setCell ⟨tb,2,none⟩ (U i6 a3)).setCell ⟨tb,3,none⟩ (U i6 a4)).setCell ⟨tb,4,none⟩ (U i6 a5)).setCell ⟨tb,5,none⟩ (U i6 a6)).setCell ⟨tb,6,none⟩ (U i6 a7)).setCell ⟨tb,7,none⟩ (U i6 a8)).setCell ⟨tb,8,none⟩ (U i6 a9))=w4:=⟨_,rfl⟩
  rw [hw4] at s4 o4 ⊢
  obtain⟨va,vc,rfl,hrow,-⟩:=o4.row
  have HRw:Hid (IRow .i64 w4 va SS.length vc SS):=hrow
  have S4:Hid (St W w4 [(tb,#[U i6 a1,U i6 a2,U i6 a3,U i6 a4,U i6 a5,U i6 a6,U i6 a7,U i6 a8,U i6 a9],32),(W.heap.size,#[U i6 0,U i6 0,U i6 0,U i6 0,U i6 0,U i6 0,U i6 0,U i6 0,U i6 0],32)]):=s4
  clear hw4 s4 o4 hrow S2 HS' c3 f3 z3
  obtain⟨c1,f1,z1⟩:=cells_at ((S4.out.below.block r hrz).trans HR.out)
  go_wp2_with fail
  refine (scaled_any sm ss va SS.length vc SS _ HRw.out HL.out HB.out).mono ?_
  rintro e' w5 ⟨⟨v5,rfl,hO5⟩,hb5⟩
  have S5:Hid (St W w5 [(tb,#[U i6 a1,U i6 a2,U i6 a3,U i6 a4,U i6 a5,U i6 a6,U i6 a7,U i6 a8,U i6 a9],32),(W.heap.size,#[U i6 0,U i6 0,U i6 0,U i6 0,U i6 0,U i6 0,U i6 0,U i6 0,U i6 0],32)]):=S4.out.call hb5
  have O5:Hid (Own .i64 2 w5 W.heap.size v5 VS):=by rw [e];exact hO5.base S4.out.size
  clear hO5 hb5 S4 HRw c1 f1 z1 e
  obtain⟨ve,vf,rfl,hrow,-⟩:=O5.out.row
  have HRw5:Hid (IRow .i64 w5 ve VS.length vf VS):=hrow
  clear hrow O5
  obtain⟨c1,f1,z1,c2,f2,z2,-⟩:=S5.out.rules
  go_wp2
  go_region_law (first
   | (go_simp;go_at_call 40
      refine (HF.out _ (S5.out.drew).below ve vf (HRw5.out.below (Below.refl _ _).drew)).mono ?_
      rintro e w6 ⟨⟨v6,rfl,hO6⟩,hb6⟩
      have S6:Hid (St W w6 [(tb,#[U i6 a1,U i6 a2,U i6 a3,U i6 a4,U i6 a5,U i6 a6,U i6 a7,U i6 a8,U i6 a9],32),(W.heap.size,#[U i6 0,U i6 0,U i6 0,U i6 0,U i6 0,U i6 0,U i6 0,U i6 0,U i6 0],32)]):=S5.out.drew.call hb6
      have O6:Hid (Own .i8 72 w6 W.heap.size v6 (fiL VS z lo hi)):=hO6.base S5.out.size
      clear hO6 hb6 c1 f1 z1 c2 f2 z2
      obtain⟨c1,f1,z1,c2,f2,z2,-⟩:=S6.out.rules))
  all_goals
   have s7:=(S6.out.tail.set9 (U i6 a1) (U i6 a2) (U i6 a3) (U i6 a4) (U i6 a5) (U i6 a6) (U i6 a7) (U i6 a8) (U i6 a9) (fun x hx=>by cases hx)).below
   have hne:=own_ne O6.out.1 S6.out.h2 (by decide)
   have o7:=own_mv O6.out ((Mv.refl w6 W.heap.size W.heap.size).set9 (U i6 a1) (U i6 a2) (U i6 a3) (U i6 a4) (U i6 a5) (U i6 a6) (U i6 a7) (U i6 a8) (U i6 a9)) hne hne
   have c7:=((St.rules (S6.out.tail.set9 (U i6 a1) (U i6 a2) (U i6 a3) (U i6 a4) (U i6 a5) (U i6 a6) (U i6 a7) (U i6 a8) (U i6 a9) (fun x hx=>by cases hx)))).1
   obtain⟨w7,hw7⟩:∃ w7,(((((((((w6.setCell ⟨W.heap.size,0,none⟩ (U i6 a1)).setCell ⟨W.heap.size,1,none⟩ (U i6 a2)).setCell ⟨W.heap.size,2,none⟩ (U i6 a3)).setCell ⟨W.heap.size,3,none⟩ (U i6 a4)).setCell ⟨W.heap.size,4,none⟩ (U i6 a5)).setCell ⟨W.heap.size,5,none⟩ (U i6 a6)).setCell ⟨W.heap.size,6,none⟩ (U i6 a7)).setCell ⟨W.heap.size,7,none⟩ (U i6 a8)).setCell ⟨W.heap.size,8,none⟩ (U i6 a9))=w7:=⟨_,rfl⟩
   rw [hw7] at s7 o7 c7 ⊢
   have HC7:Hid (∀ i,_):=c7
   have O7:Hid (Own .i8 72 w7 W.heap.size v6 (fiL VS z lo hi)):=o7
   have S7:Hid (Below W.heap.size W w7):=s7
   clear hw7 s7 o7 c7 hne c1 f1 z1 c2 f2 z2 S6 O6 S5 HRw5
   go_wp2
   exact bodyPost_ret (v:=.tuple #[v6,.agg #[U i6 a1,U i6 a2,U i6 a3,U i6 a4,U i6 a5,U i6 a6,U i6 a7,U i6 a8,U i6 a9]]) (by have c6:=HC7.out;simp [results,Tryz.results14,go_sem,c6]) rfl ⟨⟨v6,rfl,O7.out⟩,S7.out⟩
 ·have e:=HVS.out
  rw [if_pos (by decide)] at e
  have HS':Hid (∀ (w':World),Below W.heap.size W w'→_):=HS.out (by decide)
  clear HS HG HTT HLM HNB HVS HY HY8 HLY O1
  go_wp2_with fail
  refine (HS'.out _ S2.out.below).mono ?_
  rintro e w3 ⟨⟨v3,rfl,hO3⟩,hb3⟩
  have s4:=(S2.out.call hb3).set9 (U i6 a1) (U i6 a2) (U i6 a3) (U i6 a4) (U i6 a5) (U i6 a6) (U i6 a7) (U i6 a8) (U i6 a9) (by simp only [List.mem_singleton];rintro x rfl;simp only;omega)
  have hne:=own_ne hO3.1 (S2.out.call hb3).h1 (by decide)
  have o4:=own_mv (hO3.base S2.out.size) ((Mv.refl w3 tb tb).set9 (U i6 a1) (U i6 a2) (U i6 a3) (U i6 a4) (U i6 a5) (U i6 a6) (U i6 a7) (U i6 a8) (U i6 a9)) hne hne
  obtain⟨c3,f3,z3,-⟩:=(S2.out.call hb3).rules
  clear hb3 hne hO3 c1 f1 z1
  go_upto_region 11 with fail
  obtain⟨w4,hw4⟩:∃ w4,(((((((((w3.setCell ⟨tb,0,none⟩ (U i6 a1)).setCell ⟨tb,1,none⟩ (U i6 a2)).setCell ⟨tb,2,none⟩ (U i6 a3)).setCell ⟨tb,3,none⟩ (U i6 a4)).setCell ⟨tb,4,none⟩ (U i6 a5)).setCell ⟨tb,5,none⟩ (U i6 a6)).setCell ⟨tb,6,none⟩ (U i6 a7)).setCell ⟨tb,7,none⟩ (U i6 a8)).setCell ⟨tb,8,none⟩ (U i6 a9))=w4:=⟨_,rfl⟩
  rw [hw4] at s4 o4 ⊢
  obtain⟨va,vc,rfl,hrow,-⟩:=o4.row
  have HRw:Hid (IRow .i64 w4 va SS.length vc SS):=hrow
  have S4:Hid (St W w4 [(tb,#[U i6 a1,U i6 a2,U i6 a3,U i6 a4,U i6 a5,U i6 a6,U i6 a7,U i6 a8,U i6 a9],32),(W.heap.size,#[U i6 0,U i6 0,U i6 0,U i6 0,U i6 0,U i6 0,U i6 0,U i6 0,U i6 0],32)]):=s4
  clear hw4 s4 o4 hrow S2 HS' c3 f3 z3
  obtain⟨c1,f1,z1⟩:=cells_at ((S4.out.below.block r hrz).trans HR.out)
  go_wp2_with fail
  refine (scaled_any sm ss va SS.length vc SS _ HRw.out HL.out HB.out).mono ?_
  rintro e' w5 ⟨⟨v5,rfl,hO5⟩,hb5⟩
  have S5:Hid (St W w5 [(tb,#[U i6 a1,U i6 a2,U i6 a3,U i6 a4,U i6 a5,U i6 a6,U i6 a7,U i6 a8,U i6 a9],32),(W.heap.size,#[U i6 0,U i6 0,U i6 0,U i6 0,U i6 0,U i6 0,U i6 0,U i6 0,U i6 0],32)]):=S4.out.call hb5
  have O5:Hid (Own .i64 2 w5 W.heap.size v5 VS):=by rw [e];exact hO5.base S4.out.size
  clear hO5 hb5 S4 HRw c1 f1 z1 e
  obtain⟨ve,vf,rfl,hrow,-⟩:=O5.out.row
  have HRw5:Hid (IRow .i64 w5 ve VS.length vf VS):=hrow
  clear hrow O5
  obtain⟨c1,f1,z1,c2,f2,z2,-⟩:=S5.out.rules
  go_wp2
  go_region_law (first
   | (go_simp;go_at_call 40
      refine (HF.out _ (S5.out.drew).below ve vf (HRw5.out.below (Below.refl _ _).drew)).mono ?_
      rintro e w6 ⟨⟨v6,rfl,hO6⟩,hb6⟩
      have S6:Hid (St W w6 [(tb,#[U i6 a1,U i6 a2,U i6 a3,U i6 a4,U i6 a5,U i6 a6,U i6 a7,U i6 a8,U i6 a9],32),(W.heap.size,#[U i6 0,U i6 0,U i6 0,U i6 0,U i6 0,U i6 0,U i6 0,U i6 0,U i6 0],32)]):=S5.out.drew.call hb6
      have O6:Hid (Own .i8 72 w6 W.heap.size v6 (fiL VS z lo hi)):=hO6.base S5.out.size
      clear hO6 hb6 c1 f1 z1 c2 f2 z2
      obtain⟨c1,f1,z1,c2,f2,z2,-⟩:=S6.out.rules))
  all_goals
   have s7:=(S6.out.tail.set9 (U i6 a1) (U i6 a2) (U i6 a3) (U i6 a4) (U i6 a5) (U i6 a6) (U i6 a7) (U i6 a8) (U i6 a9) (fun x hx=>by cases hx)).below
   have hne:=own_ne O6.out.1 S6.out.h2 (by decide)
   have o7:=own_mv O6.out ((Mv.refl w6 W.heap.size W.heap.size).set9 (U i6 a1) (U i6 a2) (U i6 a3) (U i6 a4) (U i6 a5) (U i6 a6) (U i6 a7) (U i6 a8) (U i6 a9)) hne hne
   have c7:=((St.rules (S6.out.tail.set9 (U i6 a1) (U i6 a2) (U i6 a3) (U i6 a4) (U i6 a5) (U i6 a6) (U i6 a7) (U i6 a8) (U i6 a9) (fun x hx=>by cases hx)))).1
   obtain⟨w7,hw7⟩:∃ w7,(((((((((w6.setCell ⟨W.heap.size,0,none⟩ (U i6 a1)).setCell ⟨W.heap.size,1,none⟩ (U i6 a2)).setCell ⟨W.heap.size,2,none⟩ (U i6 a3)).setCell ⟨W.heap.size,3,none⟩ (U i6 a4)).setCell ⟨W.heap.size,4,none⟩ (U i6 a5)).setCell ⟨W.heap.size,5,none⟩ (U i6 a6)).setCell ⟨W.heap.size,6,none⟩ (U i6 a7)).setCell ⟨W.heap.size,7,none⟩ (U i6 a8)).setCell ⟨W.heap.size,8,none⟩ (U i6 a9))=w7:=⟨_,rfl⟩
   rw [hw7] at s7 o7 c7 ⊢
   have HC7:Hid (∀ i,_):=c7
   have O7:Hid (Own .i8 72 w7 W.heap.size v6 (fiL VS z lo hi)):=o7
   have S7:Hid (Below W.heap.size W w7):=s7
   clear hw7 s7 o7 c7 hne c1 f1 z1 c2 f2 z2 S6 O6 S5 HRw5
   go_wp2
   exact bodyPost_ret (v:=.tuple #[v6,.agg #[U i6 a1,U i6 a2,U i6 a3,U i6 a4,U i6 a5,U i6 a6,U i6 a7,U i6 a8,U i6 a9]]) (by have c6:=HC7.out;simp [results,Tryz.results14,go_sem,c6]) rfl ⟨⟨v6,rfl,O7.out⟩,S7.out⟩
 ·have e:=HVS.out
  rw [if_neg (by decide),if_pos (by decide)] at e
  have hlm:=HLM.out rfl
  have HS':Hid (∀ (w':World),Below W.heap.size W w'→_):=HS.out (by decide)
  clear HS HG HTT HLM HNB HVS HY HY8 HLY O1
  go_wp2_with fail
  refine (HS'.out _ S2.out.below).mono ?_
  rintro e w3 ⟨⟨v3,rfl,hO3⟩,hb3⟩
  have s4:=(S2.out.call hb3).set9 (U i6 a1) (U i6 a2) (U i6 a3) (U i6 a4) (U i6 a5) (U i6 a6) (U i6 a7) (U i6 a8) (U i6 a9) (by simp only [List.mem_singleton];rintro x rfl;simp only;omega)
  have hne:=own_ne hO3.1 (S2.out.call hb3).h1 (by decide)
  have o4:=own_mv (hO3.base S2.out.size) ((Mv.refl w3 tb tb).set9 (U i6 a1) (U i6 a2) (U i6 a3) (U i6 a4) (U i6 a5) (U i6 a6) (U i6 a7) (U i6 a8) (U i6 a9)) hne hne
  obtain⟨c3,f3,z3,-⟩:=(S2.out.call hb3).rules
  clear hb3 hne hO3 c1 f1 z1
  go_upto_region 13 with fail
  obtain⟨w4,hw4⟩:∃ w4,(((((((((w3.setCell ⟨tb,0,none⟩ (U i6 a1)).setCell ⟨tb,1,none⟩ (U i6 a2)).setCell ⟨tb,2,none⟩ (U i6 a3)).setCell ⟨tb,3,none⟩ (U i6 a4)).setCell ⟨tb,4,none⟩ (U i6 a5)).setCell ⟨tb,5,none⟩ (U i6 a6)).setCell ⟨tb,6,none⟩ (U i6 a7)).setCell ⟨tb,7,none⟩ (U i6 a8)).setCell ⟨tb,8,none⟩ (U i6 a9))=w4:=⟨_,rfl⟩
  rw [hw4] at s4 o4 ⊢
  obtain⟨va,vc,rfl,hrow,-⟩:=o4.row
  have HRw:Hid (IRow .i64 w4 va SS.length vc SS):=hrow
  have S4:Hid (St W w4 [(tb,#[U i6 a1,U i6 a2,U i6 a3,U i6 a4,U i6 a5,U i6 a6,U i6 a7,U i6 a8,U i6 a9],32),(W.heap.size,#[U i6 0,U i6 0,U i6 0,U i6 0,U i6 0,U i6 0,U i6 0,U i6 0,U i6 0],32)]):=s4
  clear hw4 s4 o4 hrow S2 HS' c3 f3 z3
  obtain⟨c1,f1,z1⟩:=cells_at ((S4.out.below.block r hrz).trans HR.out)
  go_wp2_with fail
  refine (means_any ln hlm va SS.length vc SS _ HRw.out HL.out HB.out).mono ?_
  rintro e' w5 ⟨⟨v5,rfl,hO5⟩,hb5⟩
  have S5:Hid (St W w5 [(tb,#[U i6 a1,U i6 a2,U i6 a3,U i6 a4,U i6 a5,U i6 a6,U i6 a7,U i6 a8,U i6 a9],32),(W.heap.size,#[U i6 0,U i6 0,U i6 0,U i6 0,U i6 0,U i6 0,U i6 0,U i6 0,U i6 0],32)]):=S4.out.call hb5
  have O5:Hid (Own .i64 2 w5 W.heap.size v5 VS):=by rw [e];exact hO5.base S4.out.size
  clear hO5 hb5 S4 HRw c1 f1 z1 e
  obtain⟨ve,vf,rfl,hrow,-⟩:=O5.out.row
  have HRw5:Hid (IRow .i64 w5 ve VS.length vf VS):=hrow
  clear hrow O5
  obtain⟨c1,f1,z1,c2,f2,z2,-⟩:=S5.out.rules
  go_wp2
  go_region_law (first
   | (go_simp;go_at_call 40
      refine (HF.out _ (S5.out.drew).below ve vf (HRw5.out.below (Below.refl _ _).drew)).mono ?_
      rintro e w6 ⟨⟨v6,rfl,hO6⟩,hb6⟩
      have S6:Hid (St W w6 [(tb,#[U i6 a1,U i6 a2,U i6 a3,U i6 a4,U i6 a5,U i6 a6,U i6 a7,U i6 a8,U i6 a9],32),(W.heap.size,#[U i6 0,U i6 0,U i6 0,U i6 0,U i6 0,U i6 0,U i6 0,U i6 0,U i6 0],32)]):=S5.out.drew.call hb6
      have O6:Hid (Own .i8 72 w6 W.heap.size v6 (fiL VS z lo hi)):=hO6.base S5.out.size
      clear hO6 hb6 c1 f1 z1 c2 f2 z2
      obtain⟨c1,f1,z1,c2,f2,z2,-⟩:=S6.out.rules))
  all_goals
   have s7:=(S6.out.tail.set9 (U i6 a1) (U i6 a2) (U i6 a3) (U i6 a4) (U i6 a5) (U i6 a6) (U i6 a7) (U i6 a8) (U i6 a9) (fun x hx=>by cases hx)).below
   have hne:=own_ne O6.out.1 S6.out.h2 (by decide)
   have o7:=own_mv O6.out ((Mv.refl w6 W.heap.size W.heap.size).set9 (U i6 a1) (U i6 a2) (U i6 a3) (U i6 a4) (U i6 a5) (U i6 a6) (U i6 a7) (U i6 a8) (U i6 a9)) hne hne
   have c7:=((St.rules (S6.out.tail.set9 (U i6 a1) (U i6 a2) (U i6 a3) (U i6 a4) (U i6 a5) (U i6 a6) (U i6 a7) (U i6 a8) (U i6 a9) (fun x hx=>by cases hx)))).1
   obtain⟨w7,hw7⟩:∃ w7,(((((((((w6.setCell ⟨W.heap.size,0,none⟩ (U i6 a1)).setCell ⟨W.heap.size,1,none⟩ (U i6 a2)).setCell ⟨W.heap.size,2,none⟩ (U i6 a3)).setCell ⟨W.heap.size,3,none⟩ (U i6 a4)).setCell ⟨W.heap.size,4,none⟩ (U i6 a5)).setCell ⟨W.heap.size,5,none⟩ (U i6 a6)).setCell ⟨W.heap.size,6,none⟩ (U i6 a7)).setCell ⟨W.heap.size,7,none⟩ (U i6 a8)).setCell ⟨W.heap.size,8,none⟩ (U i6 a9))=w7:=⟨_,rfl⟩
   rw [hw7] at s7 o7 c7 ⊢
   have HC7:Hid (∀ i,_):=c7
   have O7:Hid (Own .i8 72 w7 W.heap.size v6 (fiL VS z lo hi)):=o7
   have S7:Hid (Below W.heap.size W w7):=s7
   clear hw7 s7 o7 c7 hne c1 f1 z1 c2 f2 z2 S6 O6 S5 HRw5
   go_wp2
   exact bodyPost_ret (v:=.tuple #[v6,.agg #[U i6 a1,U i6 a2,U i6 a3,U i6 a4,U i6 a5,U i6 a6,U i6 a7,U i6 a8,U i6 a9]]) (by have c6:=HC7.out;simp [results,Tryz.results14,go_sem,c6]) rfl ⟨⟨v6,rfl,O7.out⟩,S7.out⟩
 ·have e:=HVS.out
  rw [if_neg (by decide),if_neg (by decide),if_pos (by decide)] at e
  obtain⟨rfl,rfl,rfl,rfl,rfl,rfl,rfl,rfl,rfl⟩:=tr_z (HTT.out (by decide))
  have HG':Hid (∀ (w':World),Below W.heap.size W w'→_):=HG.out rfl
  clear HS HG HTT HLM HNB HVS HY HY8 HLY O1
  go_wp2_with fail
  refine (HG'.out _ S2.out.below).mono ?_
  rintro e' w5 ⟨⟨v5,rfl,hO5⟩,hb5⟩
  have S5:Hid (St W w5 [(tb,#[U i6 0,U i6 0,U i6 0,U i6 0,U i6 0,U i6 0,U i6 0,U i6 0,U i6 0],32),(W.heap.size,#[U i6 0,U i6 0,U i6 0,U i6 0,U i6 0,U i6 0,U i6 0,U i6 0,U i6 0],32)]):=S2.out.call hb5
  have O5:Hid (Own .i64 2 w5 W.heap.size v5 VS):=by rw [e];exact hO5.base S2.out.size
  clear hO5 hb5 S2 c1 f1 z1 HG' e
  obtain⟨ve,vf,rfl,hrow,-⟩:=O5.out.row
  have HRw5:Hid (IRow .i64 w5 ve VS.length vf VS):=hrow
  clear hrow O5
  obtain⟨c1,f1,z1,c2,f2,z2,-⟩:=S5.out.rules
  go_wp2
  go_region_law (first
   | (go_simp;go_at_call 40
      refine (HF.out _ (S5.out.drew).below ve vf (HRw5.out.below (Below.refl _ _).drew)).mono ?_
      rintro e w6 ⟨⟨v6,rfl,hO6⟩,hb6⟩
      have S6:Hid (St W w6 [(tb,#[U i6 0,U i6 0,U i6 0,U i6 0,U i6 0,U i6 0,U i6 0,U i6 0,U i6 0],32),(W.heap.size,#[U i6 0,U i6 0,U i6 0,U i6 0,U i6 0,U i6 0,U i6 0,U i6 0,U i6 0],32)]):=S5.out.drew.call hb6
      have O6:Hid (Own .i8 72 w6 W.heap.size v6 (fiL VS z lo hi)):=hO6.base S5.out.size
      clear hO6 hb6 c1 f1 z1 c2 f2 z2
      obtain⟨c1,f1,z1,c2,f2,z2,-⟩:=S6.out.rules))
  all_goals
   have s7:=(S6.out.tail.set9 (U i6 0) (U i6 0) (U i6 0) (U i6 0) (U i6 0) (U i6 0) (U i6 0) (U i6 0) (U i6 0) (fun x hx=>by cases hx)).below
   have hne:=own_ne O6.out.1 S6.out.h2 (by decide)
   have o7:=own_mv O6.out ((Mv.refl w6 W.heap.size W.heap.size).set9 (U i6 0) (U i6 0) (U i6 0) (U i6 0) (U i6 0) (U i6 0) (U i6 0) (U i6 0) (U i6 0)) hne hne
   have c7:=((St.rules (S6.out.tail.set9 (U i6 0) (U i6 0) (U i6 0) (U i6 0) (U i6 0) (U i6 0) (U i6 0) (U i6 0) (U i6 0) (fun x hx=>by cases hx)))).1
   obtain⟨w7,hw7⟩:∃ w7,(((((((((w6.setCell ⟨W.heap.size,0,none⟩ (U i6 0)).setCell ⟨W.heap.size,1,none⟩ (U i6 0)).setCell ⟨W.heap.size,2,none⟩ (U i6 0)).setCell ⟨W.heap.size,3,none⟩ (U i6 0)).setCell ⟨W.heap.size,4,none⟩ (U i6 0)).setCell ⟨W.heap.size,5,none⟩ (U i6 0)).setCell ⟨W.heap.size,6,none⟩ (U i6 0)).setCell ⟨W.heap.size,7,none⟩ (U i6 0)).setCell ⟨W.heap.size,8,none⟩ (U i6 0))=w7:=⟨_,rfl⟩
   rw [hw7] at s7 o7 c7 ⊢
   have HC7:Hid (∀ i,_):=c7
   have O7:Hid (Own .i8 72 w7 W.heap.size v6 (fiL VS z lo hi)):=o7
   have S7:Hid (Below W.heap.size W w7):=s7
   clear hw7 s7 o7 c7 hne c1 f1 z1 c2 f2 z2 S6 O6 S5 HRw5
   go_wp2
   exact bodyPost_ret (v:=.tuple #[v6,.agg #[U i6 0,U i6 0,U i6 0,U i6 0,U i6 0,U i6 0,U i6 0,U i6 0,U i6 0]]) (by have c6:=HC7.out;simp [results,Tryz.results14,go_sem,c6]) rfl ⟨⟨v6,rfl,O7.out⟩,S7.out⟩
 ·have e:=HVS.out
  rw [if_neg (by decide),if_neg (by decide),if_neg (by decide),if_pos (by decide)] at e
  obtain⟨rfl,rfl,rfl,rfl,rfl,rfl,rfl,rfl,rfl⟩:=tr_z (HTT.out (by decide))
  obtain rfl:=HNB.out rfl
  clear HS HG HTT HLM HNB HVS
  obtain⟨va,vc,rfl,hrow,-⟩:=O1.out.row
  have HRw:Hid (IRow .i64 w2 va xs.length vc xs):=hrow
  clear hrow
  have eX:(apL xs sm ss).length=nb:=by unfold apL;rw [List.length_map];exact HLX.out
  have eY:(apL ys um us).length=nb:=by unfold apL;rw [List.length_map];exact HLY.out
  have hn9:xs.length≤1000000:=by rw [HLX.out];exact hn
  have hbx:∀ v∈xs,-4294967296≤v∧v≤4294967296:=fun v hv=>by have:=HX8.out v hv;unfold I8 at this;omega
  have hby:∀ v∈ys,-4294967296≤v∧v≤4294967296:=fun v hv=>by have:=HY8.out v hv;unfold I8 at this;omega
  have HC1:Hid (∀ w,_):=fun w=>scaled_any sm ss va xs.length vc xs w
  have HC2:Hid (∀ w,_):=fun w=>widened_any bd nb capb ys w
  have HBX:Hid (∀ v∈xs,-4294967296≤v∧v≤4294967296):=hbx
  have HBY:Hid (∀ v∈ys,-4294967296≤v∧v≤4294967296):=hby
  have HAX:Hid (∀ v∈apL xs sm ss,-274877906944≤v∧v≤274877906944):=fun v hv=>by obtain⟨u,hu,rfl⟩:=List.mem_map.1 hv;exact apV_i8 (HX8.out u hu)
  have HAY:Hid (∀ v∈apL ys um us,-274877906944≤v∧v≤274877906944):=fun v hv=>by obtain⟨u,hu,rfl⟩:=List.mem_map.1 hv;exact apV_i8 (HY8.out u hu)
  have HN9:Hid (xs.length≤1000000):=hn9
  have HNY:Hid (ys.length≤1000000):=by unfold Hid;rw [HLY.out];exact hn
  have HEX:Hid ((apL xs sm ss).length=nb):=eX
  have HEY:Hid ((apL ys um us).length=nb):=eY
  clear hbx hby eX eY hn9
  go_upto_region 15 with fail
  refine regionC (fun w'=>Below W.heap.size W w') (by kernel_rfl) ?_
  have S2d:Hid (St W w2.drew [(tb,#[U i6 0,U i6 0,U i6 0,U i6 0,U i6 0,U i6 0,U i6 0,U i6 0,U i6 0],32),(W.heap.size,#[U i6 0,U i6 0,U i6 0,U i6 0,U i6 0,U i6 0,U i6 0,U i6 0,U i6 0],32)]):=S2.out.drew
  have HRd:Hid (IRow .i64 w2.drew va xs.length vc xs):=HRw.out.below (Below.refl _ _).drew
  obtain⟨wd,hwd⟩:∃ wd,w2.drew=wd:=⟨_,rfl⟩
  rw [hwd] at S2d HRd ⊢
  clear hwd S2 O1 HRw c1 f1 z1
  refine takeC 0 (v:=.slice va xs.length vc) rfl rfl (by kernel_rfl) (by kernel_rfl) (by kernel_rfl) (fun _ _ _ h=>h) (fun _=>rfl) rfl (fun w' hw'=>by go_simp) ?_
  refine takeC 1 (v:=.pointer (some ⟨r,0,none⟩)) rfl rfl (by kernel_rfl) (by kernel_rfl) (by kernel_rfl) (fun _ _ _ h=>h) (fun _=>rfl) rfl (fun w' hw'=>by go_simp) ?_
  refine takeC 2 (v:=.pointer (some ⟨r,0,none⟩)) rfl rfl (by kernel_rfl) (by kernel_rfl) (by kernel_rfl) (fun _ _ _ h=>h) (fun _=>rfl) rfl (fun w' hw'=>by go_simp) ?_
  refine takeC 3 (v:=.pointer (some ⟨r,0,none⟩)) rfl rfl (by kernel_rfl) (by kernel_rfl) (by kernel_rfl) (fun _ _ _ h=>h) (fun _=>rfl) rfl (fun w' hw'=>by go_simp) ?_
  refine takeC 4 (v:=.pointer (some ⟨r,14,none⟩)) rfl rfl (by kernel_rfl) (by kernel_rfl) (by kernel_rfl) (fun _ _ _ h=>h) (fun _=>rfl) rfl (fun w' hw'=>by go_simp) ?_
  refine takeC 5 (v:=.agg #[U i6 sm,U i6 ss]) rfl rfl (by kernel_rfl) (by kernel_rfl) (by kernel_rfl) (fun _ _ _ h=>h) (fun _=>rfl) rfl (fun w' hw'=>run_la 53 (.tmp 66) rfl ⟨r,14,none⟩ (by kernel_rfl) [U i6 sm,U i6 ss] _ (Kr.two_at ((hw'.block _ hrz).trans HR.out) rfl rfl) Tryz.underlying53 rfl (by kernel_rfl)) ?_
  refine takeC 7 (v:=.slice bd nb capb) rfl rfl (by kernel_rfl) (by kernel_rfl) (by kernel_rfl) (fun _ _ _ h=>h) (fun _=>rfl) rfl (fun w' hw'=>by go_simp) ?_
  refine takeC 9 (v:=.pointer (some ⟨r,0,none⟩)) rfl rfl (by kernel_rfl) (by kernel_rfl) (by kernel_rfl) (fun _ _ _ h=>h) (fun _=>rfl) rfl (fun w' hw'=>by go_simp) ?_
  refine takeC 10 (v:=.pointer (some ⟨r,0,none⟩)) rfl rfl (by kernel_rfl) (by kernel_rfl) (by kernel_rfl) (fun _ _ _ h=>h) (fun _=>rfl) rfl (fun w' hw'=>by go_simp) ?_
  refine takeC 11 (v:=.pointer (some ⟨r,0,none⟩)) rfl rfl (by kernel_rfl) (by kernel_rfl) (by kernel_rfl) (fun _ _ _ h=>h) (fun _=>rfl) rfl (fun w' hw'=>by go_simp) ?_
  refine takeC 12 (v:=.pointer (some ⟨r,16,none⟩)) rfl rfl (by kernel_rfl) (by kernel_rfl) (by kernel_rfl) (fun _ _ _ h=>h) (fun _=>rfl) rfl (fun w' hw'=>by go_simp) ?_
  refine takeC 13 (v:=.agg #[U i6 um,U i6 us]) rfl rfl (by kernel_rfl) (by kernel_rfl) (by kernel_rfl) (fun _ _ _ h=>h) (fun _=>rfl) rfl (fun w' hw'=>run_la 53 (.tmp 74) rfl ⟨r,16,none⟩ (by kernel_rfl) [U i6 um,U i6 us] _ (Kr.two_at ((hw'.block _ hrz).trans HR.out) rfl rfl) Tryz.underlying53 rfl (by kernel_rfl)) ?_
  refine stepK 6 S2d.out.below (by kernel_rfl) rfl rfl 36 #[Sl va xs.length vc,.agg #[U i6 sm,U i6 ss]] (by kernel_rfl) (scaled_any sm ss va xs.length vc xs wd HRd.out HN9.out HBX.out) ?_
  rintro e' w3 ⟨⟨v3,rfl,hO3⟩,hb3⟩
  have S3:Hid (St W w3 [(tb,#[U i6 0,U i6 0,U i6 0,U i6 0,U i6 0,U i6 0,U i6 0,U i6 0,U i6 0],32),(W.heap.size,#[U i6 0,U i6 0,U i6 0,U i6 0,U i6 0,U i6 0,U i6 0,U i6 0,U i6 0],32)]):=S2d.out.call hb3
  have O3:Hid (Own .i64 2 w3 W.heap.size v3 (apL xs sm ss)):=hO3.base S2d.out.size
  clear hO3 hb3 S2d HRd
  refine⟨_,rfl,?_⟩
  refine stepK 8 S3.out.below (by kernel_rfl) rfl rfl 34 #[Sl bd nb capb] (by kernel_rfl) (widened_any bd nb capb ys w3 (HY.out.below S3.out.below) hn) ?_
  rintro e' w4 ⟨⟨v4,rfl,hO4⟩,hb4⟩
  have S4:Hid (St W w4 [(tb,#[U i6 0,U i6 0,U i6 0,U i6 0,U i6 0,U i6 0,U i6 0,U i6 0,U i6 0],32),(W.heap.size,#[U i6 0,U i6 0,U i6 0,U i6 0,U i6 0,U i6 0,U i6 0,U i6 0,U i6 0],32)]):=S3.out.call hb4
  have O4:Hid (Own .i64 2 w4 W.heap.size v3 (apL xs sm ss)):=O3.out.below hb4
  obtain⟨vb,vd,rfl,hrow,-⟩:=hO4.row
  have HR4:Hid (IRow .i64 w4 vb ys.length vd ys):=hrow
  clear hO4 hb4 hrow S3 O3
  refine⟨_,rfl,?_⟩
  refine stepK 14 S4.out.below (by kernel_rfl) rfl rfl 36 #[Sl vb ys.length vd,.agg #[U i6 um,U i6 us]] (by kernel_rfl) (scaled_any um us vb ys.length vd ys w4 HR4.out HNY.out HBY.out) ?_
  rintro e' w8 ⟨⟨v8,rfl,hO8⟩,hb8⟩
  have S8:Hid (St W w8 [(tb,#[U i6 0,U i6 0,U i6 0,U i6 0,U i6 0,U i6 0,U i6 0,U i6 0,U i6 0],32),(W.heap.size,#[U i6 0,U i6 0,U i6 0,U i6 0,U i6 0,U i6 0,U i6 0,U i6 0,U i6 0],32)]):=S4.out.call hb8
  obtain⟨vg,vh,rfl,hrow,-⟩:=hO8.row
  have HR5:Hid (IRow .i64 w8 vg nb vh (apL ys um us)):=by rw [← HEY.out];exact hrow
  obtain⟨vk,vl,rfl,hrow2,-⟩:=(O4.out.below hb8).row
  have HR6:Hid (IRow .i64 w8 vk nb vl (apL xs sm ss)):=by rw [← HEX.out];exact hrow2
  clear hO8 hb8 hrow hrow2 S4 O4 HR4
  refine⟨_,rfl,?_⟩
  rw [HEX.out,HEY.out]
  refine stepK 15 S8.out.below (by kernel_rfl) rfl rfl 39 #[Sl vk nb vl,Sl vg nb vh] (by kernel_rfl) (added_any vk vg nb vl vh (apL xs sm ss) (apL ys um us) w8 HR6.out HR5.out hn HAX.out HAY.out) ?_
  rintro e' w5 ⟨⟨v5,rfl,hO5⟩,hb5⟩
  have S5:Hid (St W w5 [(tb,#[U i6 0,U i6 0,U i6 0,U i6 0,U i6 0,U i6 0,U i6 0,U i6 0,U i6 0],32),(W.heap.size,#[U i6 0,U i6 0,U i6 0,U i6 0,U i6 0,U i6 0,U i6 0,U i6 0,U i6 0],32)]):=S8.out.call hb5
  have O5:Hid (Own .i64 2 w5 W.heap.size v5 VS):=by rw [e];exact hO5.base S8.out.size
  clear hO5 hb5 S8 HR5 HR6 e HC1 HC2 HBX HBY HAX HAY HN9 HNY HEX HEY
  refine⟨_,rfl,?_⟩
  refine stepR 16 S5.out.below (by kernel_rfl) rfl rfl v5 w5 (by kernel_rfl) ?_
  refine doneC S5.out.below (by kernel_rfl) ?_ _
  refine act_eq (b:={ tmps:=#[.pointer (some ⟨r,0,none⟩),Sl pa pl pc,Sl ad nb cap,Sl bd nb capb,undef,undef,undef,undef,Sl none 0 0,.pointer (some ⟨W.heap.size,0,none⟩),v5,.pointer (some ⟨tb,0,none⟩),Sl ad nb cap,Sl va xs.length vc,.agg #[U i6 0,U i6 0,U i6 0,U i6 0,U i6 0,U i6 0,U i6 0,U i6 0,U i6 0],.pointer (some ⟨r,0,none⟩),.pointer (some ⟨r,0,none⟩),.pointer (some ⟨r,0,none⟩),.pointer (some ⟨r,0,none⟩),U i6 6,.bool false,.bool false,.bool false,.bool false,.bool false,.bool false,.bool false,.bool false,.bool false,.bool false,.bool true,.bool true,undef,undef,undef,undef,undef,undef,undef,undef,undef,undef,undef,undef,undef,undef,undef,undef,undef,undef,undef,undef,undef,undef,undef,undef,undef,undef,undef,undef,undef,undef,Sl va xs.length vc,.pointer (some ⟨r,0,none⟩),.pointer (some ⟨r,0,none⟩),.pointer (some ⟨r,0,none⟩),.pointer (some ⟨r,14,none⟩),.agg #[U i6 sm,U i6 ss],Sl vk nb vl,Sl bd nb capb,Sl vb ys.length vd,.pointer (some ⟨r,0,none⟩),.pointer (some ⟨r,0,none⟩),.pointer (some ⟨r,0,none⟩),.pointer (some ⟨r,16,none⟩),.agg #[U i6 um,U i6 us],Sl vg nb vh,v5,undef,undef,undef,undef],defers:=[] }) (by kernel_rfl) ?_
  obtain⟨ve,vf,rfl,hrow,-⟩:=O5.out.row
  have HRw5:Hid (IRow .i64 w5 ve VS.length vf VS):=hrow
  clear hrow O5
  obtain⟨c1,f1,z1,c2,f2,z2,-⟩:=S5.out.rules
  go_wp2
  go_region_law (first
   | (go_simp;go_at_call 40
      refine (HF.out _ (S5.out.drew).below ve vf (HRw5.out.below (Below.refl _ _).drew)).mono ?_
      rintro e w6 ⟨⟨v6,rfl,hO6⟩,hb6⟩
      have S6:Hid (St W w6 [(tb,#[U i6 0,U i6 0,U i6 0,U i6 0,U i6 0,U i6 0,U i6 0,U i6 0,U i6 0],32),(W.heap.size,#[U i6 0,U i6 0,U i6 0,U i6 0,U i6 0,U i6 0,U i6 0,U i6 0,U i6 0],32)]):=S5.out.drew.call hb6
      have O6:Hid (Own .i8 72 w6 W.heap.size v6 (fiL VS z lo hi)):=hO6.base S5.out.size
      clear hO6 hb6 c1 f1 z1 c2 f2 z2
      obtain⟨c1,f1,z1,c2,f2,z2,-⟩:=S6.out.rules))
  all_goals
   have s7:=(S6.out.tail.set9 (U i6 0) (U i6 0) (U i6 0) (U i6 0) (U i6 0) (U i6 0) (U i6 0) (U i6 0) (U i6 0) (fun x hx=>by cases hx)).below
   have hne:=own_ne O6.out.1 S6.out.h2 (by decide)
   have o7:=own_mv O6.out ((Mv.refl w6 W.heap.size W.heap.size).set9 (U i6 0) (U i6 0) (U i6 0) (U i6 0) (U i6 0) (U i6 0) (U i6 0) (U i6 0) (U i6 0)) hne hne
   have c7:=((St.rules (S6.out.tail.set9 (U i6 0) (U i6 0) (U i6 0) (U i6 0) (U i6 0) (U i6 0) (U i6 0) (U i6 0) (U i6 0) (fun x hx=>by cases hx)))).1
   obtain⟨w7,hw7⟩:∃ w7,(((((((((w6.setCell ⟨W.heap.size,0,none⟩ (U i6 0)).setCell ⟨W.heap.size,1,none⟩ (U i6 0)).setCell ⟨W.heap.size,2,none⟩ (U i6 0)).setCell ⟨W.heap.size,3,none⟩ (U i6 0)).setCell ⟨W.heap.size,4,none⟩ (U i6 0)).setCell ⟨W.heap.size,5,none⟩ (U i6 0)).setCell ⟨W.heap.size,6,none⟩ (U i6 0)).setCell ⟨W.heap.size,7,none⟩ (U i6 0)).setCell ⟨W.heap.size,8,none⟩ (U i6 0))=w7:=⟨_,rfl⟩
   rw [hw7] at s7 o7 c7 ⊢
   have HC7:Hid (∀ i,_):=c7
   have O7:Hid (Own .i8 72 w7 W.heap.size v6 (fiL VS z lo hi)):=o7
   have S7:Hid (Below W.heap.size W w7):=s7
   clear hw7 s7 o7 c7 hne c1 f1 z1 c2 f2 z2 S6 O6 S5 HRw5
   go_wp2
   exact bodyPost_ret (v:=.tuple #[v6,.agg #[U i6 0,U i6 0,U i6 0,U i6 0,U i6 0,U i6 0,U i6 0,U i6 0,U i6 0]]) (by have c6:=HC7.out;simp [results,Tryz.results14,go_sem,c6]) rfl ⟨⟨v6,rfl,O7.out⟩,S7.out⟩
 ·have e:=HVS.out
  rw [if_neg (by decide),if_neg (by decide),if_neg (by decide),if_neg (by decide),if_pos (by decide)] at e
  obtain⟨rfl,rfl,rfl,rfl,rfl,rfl,rfl,rfl,rfl⟩:=tr_z (HTT.out (by decide))
  obtain⟨va,vc,rfl,hrow,-⟩:=O1.out.row
  have HRw:Hid (IRow .i64 w2 va xs.length vc xs):=hrow
  clear hrow HS HG HTT HLM HNB HVS HY HY8 HLY O1
  go_wp2_with fail
  refine (scaled_any sm ss va xs.length vc xs _ HRw.out (by rw [HLX.out];exact hn) (fun v hv=>by have:=HX8.out v hv;unfold I8 at this;omega)).mono ?_
  rintro e' w5 ⟨⟨v5,rfl,hO5⟩,hb5⟩
  have S5:Hid (St W w5 [(tb,#[U i6 0,U i6 0,U i6 0,U i6 0,U i6 0,U i6 0,U i6 0,U i6 0,U i6 0],32),(W.heap.size,#[U i6 0,U i6 0,U i6 0,U i6 0,U i6 0,U i6 0,U i6 0,U i6 0,U i6 0],32)]):=S2.out.call hb5
  have O5:Hid (Own .i64 2 w5 W.heap.size v5 VS):=by rw [e];exact hO5.base S2.out.size
  clear hO5 hb5 S2 HRw c1 f1 z1 e
  obtain⟨ve,vf,rfl,hrow,-⟩:=O5.out.row
  have HRw5:Hid (IRow .i64 w5 ve VS.length vf VS):=hrow
  clear hrow O5
  obtain⟨c1,f1,z1,c2,f2,z2,-⟩:=S5.out.rules
  go_wp2
  go_region_law (first
   | (go_simp;go_at_call 40
      refine (HF.out _ (S5.out.drew).below ve vf (HRw5.out.below (Below.refl _ _).drew)).mono ?_
      rintro e w6 ⟨⟨v6,rfl,hO6⟩,hb6⟩
      have S6:Hid (St W w6 [(tb,#[U i6 0,U i6 0,U i6 0,U i6 0,U i6 0,U i6 0,U i6 0,U i6 0,U i6 0],32),(W.heap.size,#[U i6 0,U i6 0,U i6 0,U i6 0,U i6 0,U i6 0,U i6 0,U i6 0,U i6 0],32)]):=S5.out.drew.call hb6
      have O6:Hid (Own .i8 72 w6 W.heap.size v6 (fiL VS z lo hi)):=hO6.base S5.out.size
      clear hO6 hb6 c1 f1 z1 c2 f2 z2
      obtain⟨c1,f1,z1,c2,f2,z2,-⟩:=S6.out.rules))
  all_goals
   have s7:=(S6.out.tail.set9 (U i6 0) (U i6 0) (U i6 0) (U i6 0) (U i6 0) (U i6 0) (U i6 0) (U i6 0) (U i6 0) (fun x hx=>by cases hx)).below
   have hne:=own_ne O6.out.1 S6.out.h2 (by decide)
   have o7:=own_mv O6.out ((Mv.refl w6 W.heap.size W.heap.size).set9 (U i6 0) (U i6 0) (U i6 0) (U i6 0) (U i6 0) (U i6 0) (U i6 0) (U i6 0) (U i6 0)) hne hne
   have c7:=((St.rules (S6.out.tail.set9 (U i6 0) (U i6 0) (U i6 0) (U i6 0) (U i6 0) (U i6 0) (U i6 0) (U i6 0) (U i6 0) (fun x hx=>by cases hx)))).1
   obtain⟨w7,hw7⟩:∃ w7,(((((((((w6.setCell ⟨W.heap.size,0,none⟩ (U i6 0)).setCell ⟨W.heap.size,1,none⟩ (U i6 0)).setCell ⟨W.heap.size,2,none⟩ (U i6 0)).setCell ⟨W.heap.size,3,none⟩ (U i6 0)).setCell ⟨W.heap.size,4,none⟩ (U i6 0)).setCell ⟨W.heap.size,5,none⟩ (U i6 0)).setCell ⟨W.heap.size,6,none⟩ (U i6 0)).setCell ⟨W.heap.size,7,none⟩ (U i6 0)).setCell ⟨W.heap.size,8,none⟩ (U i6 0))=w7:=⟨_,rfl⟩
   rw [hw7] at s7 o7 c7 ⊢
   have HC7:Hid (∀ i,_):=c7
   have O7:Hid (Own .i8 72 w7 W.heap.size v6 (fiL VS z lo hi)):=o7
   have S7:Hid (Below W.heap.size W w7):=s7
   clear hw7 s7 o7 c7 hne c1 f1 z1 c2 f2 z2 S6 O6 S5 HRw5
   go_wp2
   exact bodyPost_ret (v:=.tuple #[v6,.agg #[U i6 0,U i6 0,U i6 0,U i6 0,U i6 0,U i6 0,U i6 0,U i6 0,U i6 0]]) (by have c6:=HC7.out;simp [results,Tryz.results14,go_sem,c6]) rfl ⟨⟨v6,rfl,O7.out⟩,S7.out⟩
 ·have e:=HVS.out
  rw [if_neg (by decide),if_neg (by decide),if_neg (by decide),if_neg (by decide),if_neg (by decide)] at e
  obtain⟨rfl,rfl,rfl,rfl,rfl,rfl,rfl,rfl,rfl⟩:=tr_z (HTT.out (by decide))
  obtain⟨w5,hw5⟩:∃ w5,w2=w5:=⟨_,rfl⟩
  have S5:Hid (St W w5 [(tb,#[U i6 0,U i6 0,U i6 0,U i6 0,U i6 0,U i6 0,U i6 0,U i6 0,U i6 0],32),(W.heap.size,#[U i6 0,U i6 0,U i6 0,U i6 0,U i6 0,U i6 0,U i6 0,U i6 0,U i6 0],32)]):=by rw [← hw5];exact S2.out
  have O5:Hid (Own .i64 2 w5 W.heap.size v1 VS):=by rw [← hw5,e];exact O1.out
  clear HS HG HTT HLM HNB HVS HY HY8 HLY e
  subst hw5
  clear S2 O1 c1 f1 z1
  obtain⟨c0,f0,z0⟩:=cells_at ((S5.out.below.block r hrz).trans HR.out)
  obtain⟨ve,vf,rfl,hrow,-⟩:=O5.out.row
  have HRw2:Hid (IRow .i64 w2 ve VS.length vf VS):=hrow
  clear hrow O5
  obtain⟨c1,f1,z1,c2,f2,z2,-⟩:=S5.out.rules
  go_wp2
  clear c0 f0 z0
  go_region_law (first
   | (go_simp;go_at_call 40
      refine (HF.out _ (S5.out.drew).below ve vf (HRw2.out.below (Below.refl _ _).drew)).mono ?_
      rintro e w6 ⟨⟨v6,rfl,hO6⟩,hb6⟩
      have S6:Hid (St W w6 [(tb,#[U i6 0,U i6 0,U i6 0,U i6 0,U i6 0,U i6 0,U i6 0,U i6 0,U i6 0],32),(W.heap.size,#[U i6 0,U i6 0,U i6 0,U i6 0,U i6 0,U i6 0,U i6 0,U i6 0,U i6 0],32)]):=S5.out.drew.call hb6
      have O6:Hid (Own .i8 72 w6 W.heap.size v6 (fiL VS z lo hi)):=hO6.base S5.out.size
      clear hO6 hb6 c1 f1 z1 c2 f2 z2
      obtain⟨c1,f1,z1,c2,f2,z2,-⟩:=S6.out.rules))
  all_goals
   have s7:=(S6.out.tail.set9 (U i6 0) (U i6 0) (U i6 0) (U i6 0) (U i6 0) (U i6 0) (U i6 0) (U i6 0) (U i6 0) (fun x hx=>by cases hx)).below
   have hne:=own_ne O6.out.1 S6.out.h2 (by decide)
   have o7:=own_mv O6.out ((Mv.refl w6 W.heap.size W.heap.size).set9 (U i6 0) (U i6 0) (U i6 0) (U i6 0) (U i6 0) (U i6 0) (U i6 0) (U i6 0) (U i6 0)) hne hne
   have c7:=((St.rules (S6.out.tail.set9 (U i6 0) (U i6 0) (U i6 0) (U i6 0) (U i6 0) (U i6 0) (U i6 0) (U i6 0) (U i6 0) (fun x hx=>by cases hx)))).1
   obtain⟨w7,hw7⟩:∃ w7,(((((((((w6.setCell ⟨W.heap.size,0,none⟩ (U i6 0)).setCell ⟨W.heap.size,1,none⟩ (U i6 0)).setCell ⟨W.heap.size,2,none⟩ (U i6 0)).setCell ⟨W.heap.size,3,none⟩ (U i6 0)).setCell ⟨W.heap.size,4,none⟩ (U i6 0)).setCell ⟨W.heap.size,5,none⟩ (U i6 0)).setCell ⟨W.heap.size,6,none⟩ (U i6 0)).setCell ⟨W.heap.size,7,none⟩ (U i6 0)).setCell ⟨W.heap.size,8,none⟩ (U i6 0))=w7:=⟨_,rfl⟩
   rw [hw7] at s7 o7 c7 ⊢
   have HC7:Hid (∀ i,_):=c7
   have O7:Hid (Own .i8 72 w7 W.heap.size v6 (fiL VS z lo hi)):=o7
   have S7:Hid (Below W.heap.size W w7):=s7
   clear hw7 s7 o7 c7 hne c1 f1 z1 c2 f2 z2 S6 O6 S5 HRw2
   go_wp2
   exact bodyPost_ret (v:=.tuple #[v6,.agg #[U i6 0,U i6 0,U i6 0,U i6 0,U i6 0,U i6 0,U i6 0,U i6 0,U i6 0]]) (by have c6:=HC7.out;simp [results,Tryz.results14,go_sem,c6]) rfl ⟨⟨v6,rfl,O7.out⟩,S7.out⟩
end Go.Proofs.YtehofmkpgopmpaaGreat.Kr
