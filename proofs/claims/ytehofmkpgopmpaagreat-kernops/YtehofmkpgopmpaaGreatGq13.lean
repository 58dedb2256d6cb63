/- What lane's trackOf and Dot return. What lane's Join and the document's return. Certificates in plain numbers: their form, what their plans cost. Lists of flat structs, and of lists of them, in memory. Plain numbers of layer 21: Tracks joined, sums in registers and what their Tracks come to; what an op makes of them; the first fault. What the small functions of package plain return: places, isInput, widened, scaled, means, added. What the small functions of package terms return: how many terms, channels and positions an op has; its bias; a weight; the channels that are read; a place. The iterator of Taps: called with whatever round, it gives each tap in its order, till it is told to stop. The iterator of Positions: called with whatever round, it gives each position's row and column in their order, till it is told to stop. -/
import Derived.Test.YtehofmkpgopmpaaGreatGq01
import Derived.Test.YtehofmkpgopmpaaGreatGq02
import Derived.Test.YtehofmkpgopmpaaGreatGq08
import Derived.Test.YtehofmkpgopmpaaGreatGq11
import Derived.Test.YtehofmkpgopmpaaGreatGq12
import Derived.BigQuiet
import Derived.LoopN
import Derived.Deep.DeepCutAuto
import Derived.RangeFuncNested
import Derived.RangeFuncBound
import Derived.RangeFuncCalls
import Derived.RangeFuncLeaves
import Derived.Shelf.Abstract
import Derived.Shelf.RegionOpen
import Derived.WalkKit
import Derived.OwnWalkIn
import Derived.TacticsInMore
import Derived.LoopNIn
import Derived.LoopIn
namespace Go.Proofs.YtehofmkpgopmpaaGreat
open Go.Value renaming int → U, slice → Sl
open Go.IntKind renaming i64 → i6
set_option maxRecDepth 100000
set_option maxHeartbeats 16000000
open Go.ChangeShapes Go.WideShapes Go.ChangeAt Go.RowKit
set_option linter.unusedVariables false
def trk (s l:Ty):Array Value:=#[U i6 s.m,U i6 s.a,U i6 l.m,U i6 l.a,U i6 (s.w+l.w),U i6 s.l,U i6 s.h,U i6 l.l,U i6 l.h]
def tr0:Array Value:=#[U i6 0,U i6 0,U i6 0,U i6 0,U i6 0,U i6 0,U i6 0,U i6 0,U i6 0]
theorem ltr_any (s l:Ty) (W:World) (hs:s.ok BD) (hl:l.ok BD) :
  Calls Tryz.prog 97 #[.agg s.cs,.agg l.cs] W fun e w'=>e=.returned (.agg (trk s l))∧Below W.heap.size W w':=by
 obtain⟨-,h1,-⟩:=hs
 obtain⟨-,h2,-⟩:=hl
 obtain⟨m,w,a,lo,hi⟩:=s
 obtain⟨m2,w2,a2,lo2,hi2⟩:=l
 unfold BD at h1 h2
 simp only at h1 h2
 have s0:=((St.start W).new (c:=(⟨m,w,a,lo,hi⟩:Ty).cs) (t:=166)).new (c:=(⟨m2,w2,a2,lo2,hi2⟩:Ty).cs) (t:=166) |>.new (c:=trk ⟨m,w,a,lo,hi⟩ ⟨m2,w2,a2,lo2,hi2⟩) (t:=32)
 simp only [Ty.cs,trk] at s0 ⊢
 have HS:Hid (Below W.heap.size W _):=s0.below
 clear s0
 go_enter Tryz.func97,Tryz.ntmps97
 go_wp2
 exact bodyPost_ret (v:=.agg #[U i6 m,U i6 a,U i6 m2,U i6 a2,U i6 (w+w2),U i6 lo,U i6 hi,U i6 lo2,U i6 hi2]) (by simp [results,Tryz.results97,go_sem]) rfl ⟨rfl,HS.out⟩
theorem St.set9 {w0 w:World} {B:Nat} {t:TypeId} {l:List (Nat×Array Value×TypeId)} {a0 a1 a2 a3 a4 a5 a6 a7 a8:Value} (v0 v1 v2 v3 v4 v5 v6 v7 v8:Value) (h:St w0 w ((B,#[a0,a1,a2,a3,a4,a5,a6,a7,a8],t) :: l)) (hl:∀ x∈l,x.1≠B) :
  St w0 (((((((((w.setCell ⟨B,0,none⟩ v0).setCell ⟨B,1,none⟩ v1).setCell ⟨B,2,none⟩ v2).setCell ⟨B,3,none⟩ v3).setCell ⟨B,4,none⟩ v4).setCell ⟨B,5,none⟩ v5).setCell ⟨B,6,none⟩ v6).setCell ⟨B,7,none⟩ v7).setCell ⟨B,8,none⟩ v8) ((B,#[v0,v1,v2,v3,v4,v5,v6,v7,v8],t) :: l):=by
 have h0:=h.set hl (i:=0) (v:=v0)
 simp only [List.setIfInBounds_toArray,List.set_cons_zero] at h0
 have h1:=h0.set hl (i:=1) (v:=v1)
 simp only [List.setIfInBounds_toArray,List.set_cons_zero,List.set_cons_succ] at h1
 have h2:=h1.set hl (i:=2) (v:=v2)
 simp only [List.setIfInBounds_toArray,List.set_cons_zero,List.set_cons_succ] at h2
 have h3:=h2.set hl (i:=3) (v:=v3)
 simp only [List.setIfInBounds_toArray,List.set_cons_zero,List.set_cons_succ] at h3
 have h4:=h3.set hl (i:=4) (v:=v4)
 simp only [List.setIfInBounds_toArray,List.set_cons_zero,List.set_cons_succ] at h4
 have h5:=h4.set hl (i:=5) (v:=v5)
 simp only [List.setIfInBounds_toArray,List.set_cons_zero,List.set_cons_succ] at h5
 have h6:=h5.set hl (i:=6) (v:=v6)
 simp only [List.setIfInBounds_toArray,List.set_cons_zero,List.set_cons_succ] at h6
 have h7:=h6.set hl (i:=7) (v:=v7)
 simp only [List.setIfInBounds_toArray,List.set_cons_zero,List.set_cons_succ] at h7
 have h8:=h7.set hl (i:=8) (v:=v8)
 simp only [List.setIfInBounds_toArray,List.set_cons_zero,List.set_cons_succ] at h8
 exact h8
theorem St.down {w0 w:World} {x:Nat×Array Value×TypeId} {l:List (Nat×Array Value×TypeId)} (h:St w0 w (x :: l)):St w0 w [x]:=h.sub fun z hz=>by simp only [List.mem_singleton] at hz;rw [hz];exact List.mem_cons_self
def dtR (wd dp b:Int) (ps:List Int):Ty×Ty×Int:=if wd=32 then (Ty.z,gaT 2147483648 Ty.z b ps) else elT dp.toNat 0 Ty.z Ty.z b 0 ps
theorem ldot_ok (wa xa:Option Addr) (n cw cx:Nat) (wd dp bi:Int) (zs ys:List Int) (W:World) (hN:n≤140737488355328) (hw:IRow .i16 W wa n cw zs) (hx:IRow .i8 W xa n cx ys) (hE:rfE n n wd dp=0) (hb:-2147483648≤bi∧bi≤2147483647) (F:Ty×Ty×Int) (hF:dtR wd dp bi (pz zs ys)=F) :
  Calls Tryz.prog 63 #[Sl wa n cw,Sl xa n cx,U i6 wd,U i6 dp,.int .i32 bi] W fun e w'=>e=.returned (.tuple #[.int .i32 F.2.2,.agg (trk F.1 F.2.1),U i6 0])∧Below W.heap.size W w':=by
 have hc1:=hw.2.1
 have hc2:=hx.2.1
 have hm1:=hw.2.2.1
 have hm2:=hx.2.2.1
 unfold maxLen at hm1 hm2
 have HR:Hid (∀ w,_):=fun w=>lref_any n n wd dp w (by omega) 0 hE
 have hpl:(pz zs ys).length=n:=by rw [pz_len (by rw [hw.1,hx.1])];exact hw.1
 have s0:=(((St.start W).new (c:=#[U i6 0,U i6 0,U i6 0,U i6 0,U i6 0,U i6 0,U i6 0,U i6 0,U i6 0]) (t:=32)).new (c:=Ty.z.cs) (t:=166)).new (c:=Ty.z.cs) (t:=166)
 simp only [World.size_alloc] at s0
 simp only [Ty.z,Ty.cs] at s0
 have HS:Hid (St W _ _):=s0
 have HT:Hid (F.1.ok BD∧F.2.1.ok BD):=by
  unfold Hid BD
  unfold dtR at hF
  by_cases h32:wd=32
  ·rw [if_pos h32] at hF
   have:=gaT_ok (N:=2147483648) (by omega) (pz zs ys) Ty.z bi 0 Ty.ok_z (by omega)
   rw [← hF]
   exact⟨Ty.ok_z.mono (by omega),this.1.mono (by rw [hpl];omega)⟩
  ·rw [if_neg h32] at hF
   have:=elT_ok (d:=dp.toNat) (pz zs ys) 0 Ty.z Ty.z bi 0 0 Ty.ok_z Ty.ok_z (by omega)
   rw [← hF]
   exact⟨this.1.mono (by rw [hpl];omega),this.2.1.mono (by rw [hpl];omega)⟩
 clear s0
 have hE2:(wd=16∨wd=32)∧1≤dp∧dp≤n:=by
  unfold rfE at hE
  split at hE
  ·cases hE
  ·split at hE
   ·cases hE
   ·split at hE
    ·cases hE
    ·omega
 by_cases h32:wd=32
 ·unfold dtR at hF
  rw [if_pos h32] at hF
  subst h32
  have HG:Hid (∀ W' B l,St W W' ((B,Ty.z.cs,166) :: l)→(∀ x∈l,x.1≠B)→_):=fun W' B l hs hl=>lga_i32 Ty.z bi 0 wa xa n cw cx zs ys W W' B l hs hl Ty.ok_z (by omega) (by omega) hw hx _ rfl
  obtain⟨F0,F1,F2⟩:=F
  simp only [Prod.mk.injEq] at hF
  obtain⟨hF0,hF1⟩:=hF
  rw [hF1] at HG
  simp only at HG HT ⊢
  have HL:Hid (∀ w,_):=fun w=>ltr_any F0 F1 w HT.out.1 HT.out.2
  subst hF0
  clear hF1 hE hE2 hpl hw hx
  go_enter Tryz.func63,Tryz.ntmps63
  go_wp2_with fail
  refine (HR.out _).mono ?_
  rintro e w' ⟨rfl,rfl⟩
  go_wp2_with fail
  refine (HG.out _ _ _ HS.out (by intro x hx; simp only [List.mem_cons,List.not_mem_nil,or_false] at hx; rcases hx with rfl | rfl<;>simp only<;>omega)).mono ?_
  rintro e w4 ⟨rfl,s4⟩
  clear HG HS HR HT
  obtain⟨m,w,a,lo,hi⟩:=F1
  simp only [Ty.cs,Ty.z,trk] at s4 HL ⊢
  obtain⟨c1,f1,z1,c2,f2,z2,c3,f3,z3,-⟩:=s4.rules
  have HS4:Hid (St W w4 _):=s4
  clear s4
  go_wp2_with fail
  refine (HL.out _).mono ?_
  rintro e w5 ⟨rfl,hb5⟩
  have s5:=(HS4.out.call hb5).up2
  clear c1 f1 z1 c2 f2 z2 c3 f3 z3 hb5
  obtain⟨c1,f1,z1,-⟩:=s5.rules
  have s6:=s5.down.set9 (U i6 0) (U i6 0) (U i6 m) (U i6 a) (U i6 w) (U i6 0) (U i6 0) (U i6 lo) (U i6 hi) (fun x hx=>by cases hx)
  obtain⟨c6,-⟩:=s6.rules
  have HS6:Hid (Below W.heap.size W _):=s6.below
  have HC6:Hid (∀ i,_):=c6
  clear s5 s6 c6
  go_wp2
  exact bodyPost_ret (v:=.tuple #[.int .i32 F2,.agg #[U i6 0,U i6 0,U i6 m,U i6 a,U i6 w,U i6 0,U i6 0,U i6 lo,U i6 hi],U i6 0]) (by have c6:=HC6.out;simp [results,Tryz.results63,go_sem,c6]) rfl ⟨by simp [trk,Ty.z],HS6.out⟩
 ·unfold dtR at hF
  rw [if_neg h32] at hF
  obtain rfl:wd=16:=by omega
  obtain⟨d,rfl⟩:∃ d:Nat,dp=(d:Int):=⟨dp.toNat,by omega⟩
  rw [Int.toNat_natCast] at hF
  have HG:Hid (∀ W' B C l,B≠C→St W W' ((B,Ty.z.cs,166) :: (C,Ty.z.cs,166) :: l)→(∀ x∈l,x.1≠B)→(∀ x∈l,x.1≠C)→_):=fun W' B C l hbc hs hl hl2=>lsp_any d n Ty.z Ty.z bi wa xa cw cx zs ys W W' B C l hbc hs hl hl2 Ty.ok_z Ty.ok_z (by omega) (by omega) hN hw hx F hF
  obtain⟨F0,F1,F2⟩:=F
  simp only at HG HT ⊢
  have HL:Hid (∀ w,_):=fun w=>ltr_any F0 F1 w HT.out.1 HT.out.2
  have hw2:-1000000000000000000≤F0.w+F1.w∧F0.w+F1.w≤1000000000000000000:=by
   have:=HT.out
   obtain⟨⟨-,g1,-⟩,⟨-,g2,-⟩⟩:=this
   unfold BD at g1 g2
   omega
  clear hF hE hE2 hpl hw hx h32
  go_enter Tryz.func63,Tryz.ntmps63
  go_wp2_with fail
  refine (HR.out _).mono ?_
  rintro e w' ⟨rfl,rfl⟩
  go_wp2_with fail
  refine (HG.out _ _ _ _ (by omega) HS.out.up1 (by intro x hx;simp only [List.mem_cons,List.not_mem_nil,or_false] at hx;rcases hx with rfl;simp only;omega) (by intro x hx;simp only [List.mem_cons,List.not_mem_nil,or_false] at hx;rcases hx with rfl;simp only;omega)).mono ?_
  rintro e w4 ⟨rfl,s4⟩
  clear HG HS HR HT
  obtain⟨m,w,a,lo,hi⟩:=F1
  obtain⟨m0,w0,a0,lo0,hi0⟩:=F0
  simp only [Ty.cs,trk] at s4 HL hw2 ⊢
  obtain⟨c1,f1,z1,c2,f2,z2,c3,f3,z3,-⟩:=s4.rules
  have HS4:Hid (St W w4 _):=s4
  clear s4
  go_wp2_with fail
  refine (HL.out _).mono ?_
  rintro e w5 ⟨rfl,hb5⟩
  have s5:=(HS4.out.call hb5).up2
  clear c1 f1 z1 c2 f2 z2 c3 f3 z3 hb5
  obtain⟨c1,f1,z1,-⟩:=s5.rules
  have s6:=s5.down.set9 (U i6 m0) (U i6 a0) (U i6 m) (U i6 a) (U i6 (w0+w)) (U i6 lo0) (U i6 hi0) (U i6 lo) (U i6 hi) (fun x hx=>by cases hx)
  obtain⟨c6,-⟩:=s6.rules
  have HS6:Hid (Below W.heap.size W _):=s6.below
  have HC6:Hid (∀ i,_):=c6
  clear s5 s6 c6
  go_wp2
  exact bodyPost_ret (v:=.tuple #[.int .i32 F2,.agg #[U i6 m0,U i6 a0,U i6 m,U i6 a,U i6 (w0+w),U i6 lo0,U i6 hi0,U i6 lo,U i6 hi],U i6 0]) (by have c6:=HC6.out;simp [results,Tryz.results63,go_sem,c6]) rfl ⟨by simp [trk],HS6.out⟩
def I6 (x:Int):Prop:=-9223372036854775808≤x∧x≤9223372036854775807
theorem jn_sum {a b:Int×Int×Int} (h:I6 a.1) (g:I6 b.1):(jn a b).1=wrap64 (a.1+b.1):=by
 unfold I6 at h g
 unfold jn
 by_cases ha:a.1=0
 ·rw [if_pos ha]
  by_cases hb:b.1=0
  ·rw [if_pos hb,ha,hb];unfold wrap64;simp
  ·rw [if_neg hb,ha];unfold wrap64;omega
 ·rw [if_neg ha]
  by_cases hb:b.1=0
  ·rw [if_pos hb,hb];unfold wrap64;omega
  ·rw [if_neg hb]
def loE (m a n b:Int):Int:=if m=0 then (if n=0 then 0 else b) else if n=0 then a else xmn a b
def hiE (m a n b:Int):Int:=if m=0 then (if n=0 then 0 else b) else if n=0 then a else xmx a b
theorem jn_lo (m a c n b d:Int):(jn (m,a,c) (n,b,d)).2.1=loE m a n b:=by
 unfold jn loE
 repeat' split
 all_goals rfl
theorem jn_hi (m a c n b d:Int):(jn (m,a,c) (n,b,d)).2.2=hiE m c n d:=by
 unfold jn hiE
 repeat' split
 all_goals rfl
theorem lo_hi {m a n b:Int} (h:¬ (m≠0∧n≠0)):loE m a n b=hiE m a n b:=by
 unfold loE hiE
 split
 ·rfl
 ·split
  ·rfl
  ·exact absurd ⟨by assumption,by assumption⟩ h
theorem rlow_any (m a n b L:Int) (w:World) (hL:loE m a n b=L):Calls Tryz.prog 55 #[U i6 m,U i6 a,U i6 n,U i6 b] w fun e w'=>e=.returned (U i6 L)∧w'=w:=by
 unfold loE at hL
 by_cases hm:m=0
 ·rw [if_pos hm] at hL
  by_cases hn:n=0
  ·rw [if_pos hn] at hL
   subst hm hn hL
   go_enter Tryz.func55,Tryz.ntmps55
   go_wp2
   go_ret
   exact⟨rfl,rfl⟩
  ·rw [if_neg hn] at hL
   subst hm hL
   go_enter Tryz.func55,Tryz.ntmps55
   go_wp2
   go_ret
   exact⟨rfl,rfl⟩
 ·rw [if_neg hm] at hL
  by_cases hn:n=0
  ·rw [if_pos hn] at hL
   subst hn hL
   go_enter Tryz.func55,Tryz.ntmps55
   go_wp2
   go_ret
   exact⟨rfl,rfl⟩
  ·rw [if_neg hn] at hL
   have e1:(m != 0)=true:=by simp [hm]
   have e2:(n != 0)=true:=by simp [hn]
   have q:=min2 a b L hL
   clear hL
   go_enter Tryz.func55,Tryz.ntmps55
   go_wp2
   go_ret
   exact⟨rfl,rfl⟩
theorem rhigh_any (m a n b L:Int) (w:World) (hL:hiE m a n b=L):Calls Tryz.prog 56 #[U i6 m,U i6 a,U i6 n,U i6 b] w fun e w'=>e=.returned (U i6 L)∧w'=w:=by
 by_cases hm:m≠0∧n≠0
 ·unfold hiE at hL
  rw [if_neg hm.1,if_neg hm.2] at hL
  have e1:(m != 0)=true:=by simp [hm.1]
  have e2:(n != 0)=true:=by simp [hm.2]
  have e3:=hm.1
  have e4:=hm.2
  have q:=max2b a b L hL
  clear hL hm
  go_enter Tryz.func56,Tryz.ntmps56
  go_wp2
  go_ret
  exact⟨rfl,rfl⟩
 ·have HL:Hid (∀ w,_):=fun w=>rlow_any m a n b L w (by rw [← hL];exact lo_hi hm)
  clear hL
  by_cases h1:m=0
  ·subst h1
   clear hm
   go_enter Tryz.func56,Tryz.ntmps56
   go_wp2_with fail
   refine (HL.out _).mono ?_
   rintro e w' ⟨rfl,rfl⟩
   go_wp2
   go_ret
   exact⟨rfl,rfl⟩
  ·obtain rfl:n=0:=by omega
   clear hm
   have e1:(m != 0)=true:=by simp [h1]
   go_enter Tryz.func56,Tryz.ntmps56
   go_wp2_with fail
   refine (HL.out _).mono ?_
   rintro e w' ⟨rfl,rfl⟩
   go_wp2
   go_ret
   exact⟨rfl,rfl⟩
theorem ljoin_any (a1 a2 a3 a4 a5 a6 a7 a8 a9 b1 b2 b3 b4 b5 b6 b7 b8 b9 j1 j2 j3 j4 j5 j6 j7 j8 j9:Int) (W:World)
  (h1:wrap64 (a1+b1)=j1) (h3:wrap64 (a3+b3)=j3) (h5:wrap64 (a5+b5)=j5) (h2:jn (a2,a6,a7) (b2,b6,b7)=(j2,j6,j7)) (h4:jn (a4,a8,a9) (b4,b8,b9)=(j4,j8,j9)) :
  Calls Tryz.prog 64 #[.agg #[U i6 a1,U i6 a2,U i6 a3,U i6 a4,U i6 a5,U i6 a6,U i6 a7,U i6 a8,U i6 a9],.agg #[U i6 b1,U i6 b2,U i6 b3,U i6 b4,U i6 b5,U i6 b6,U i6 b7,U i6 b8,U i6 b9]] W fun e w'=>e=.returned (.agg #[U i6 j1,U i6 j2,U i6 j3,U i6 j4,U i6 j5,U i6 j6,U i6 j7,U i6 j8,U i6 j9])∧Below W.heap.size W w':=by
 have H2:Hid (∀ w,_):=fun w=>joined_any a2 a6 a7 b2 b6 b7 j2 j6 j7 w h2
 have H4:Hid (∀ w,_):=fun w=>joined_any a4 a8 a9 b4 b8 b9 j4 j8 j9 w h4
 clear h2 h4
 have s0:=(((St.start W).new (c:=#[U i6 a1,U i6 a2,U i6 a3,U i6 a4,U i6 a5,U i6 a6,U i6 a7,U i6 a8,U i6 a9]) (t:=32)).new (c:=#[U i6 b1,U i6 b2,U i6 b3,U i6 b4,U i6 b5,U i6 b6,U i6 b7,U i6 b8,U i6 b9]) (t:=32)).new (c:=#[U i6 0,U i6 0,U i6 0,U i6 0,U i6 0,U i6 0,U i6 0,U i6 0,U i6 0]) (t:=32)
 simp only [World.size_alloc] at s0
 obtain⟨c1,f1,z1,c2,f2,z2,c3,f3,z3,-⟩:=s0.rules
 go_enter Tryz.func64,Tryz.ntmps64
 go_wp2_with fail
 refine (H2.out _).mono ?_
 rintro e w1 ⟨rfl,hb⟩
 have s1:=(s0.call hb).new (c:=#[U i6 j2,U i6 j6,U i6 j7]) (t:=164)
 clear hb s0 H2 c1 f1 z1 c2 f2 z2 c3 f3 z3
 obtain⟨c1,f1,z1,c2,f2,z2,c3,f3,z3,c4,f4,z4,-⟩:=s1.rules
 go_wp2_with fail
 refine (H4.out _).mono ?_
 rintro e w2 ⟨rfl,hb⟩
 have s2:=(s1.call hb).new (c:=#[U i6 j4,U i6 j8,U i6 j9]) (t:=164)
 clear hb s1 H4 c1 f1 z1 c2 f2 z2 c3 f3 z3 c4 f4 z4
 obtain⟨c1,f1,z1,c2,f2,z2,c3,f3,z3,c4,f4,z4,c5,f5,z5,-⟩:=s2.rules
 have s3:=(s2.sub (l':=[(W.heap.size+1+1,#[U i6 0,U i6 0,U i6 0,U i6 0,U i6 0,U i6 0,U i6 0,U i6 0,U i6 0],32)]) (fun x hx=>by simp only [List.mem_singleton] at hx;subst hx;simp)).set9 (U i6 j1) (U i6 j2) (U i6 j3) (U i6 j4) (U i6 j5) (U i6 j6) (U i6 j7) (U i6 j8) (U i6 j9) (fun x hx=>by cases hx)
 have HS:Hid (Below W.heap.size W _):=s3.below
 obtain⟨c6,-⟩:=s3.rules
 have HC:Hid (∀ i,_):=c6
 clear s2 s3 c6
 subst h1 h3 h5
 go_wp2
 exact bodyPost_ret (v:=.agg #[U i6 (wrap64 (a1+b1)),U i6 j2,U i6 (wrap64 (a3+b3)),U i6 j4,U i6 (wrap64 (a5+b5)),U i6 j6,U i6 j7,U i6 j8,U i6 j9]) (by have c6:=HC.out;simp [results,Tryz.results64,go_sem,c6]) rfl ⟨rfl,HS.out⟩
theorem rjoin_any (a1 a2 a3 a4 a5 a6 a7 a8 a9 b1 b2 b3 b4 b5 b6 b7 b8 b9 j1 j2 j3 j4 j5 j6 j7 j8 j9:Int) (W:World)
  (h1:wrap64 (a1+b1)=j1) (h3:wrap64 (a3+b3)=j3) (h5:wrap64 (a5+b5)=j5) (h2:wrap64 (a2+b2)=j2) (h4:wrap64 (a4+b4)=j4)
  (h6:loE a2 a6 b2 b6=j6) (h7:hiE a2 a7 b2 b7=j7) (h8:loE a4 a8 b4 b8=j8) (h9:hiE a4 a9 b4 b9=j9) :
  Calls Tryz.prog 29 #[.agg #[U i6 a1,U i6 a2,U i6 a3,U i6 a4,U i6 a5,U i6 a6,U i6 a7,U i6 a8,U i6 a9],.agg #[U i6 b1,U i6 b2,U i6 b3,U i6 b4,U i6 b5,U i6 b6,U i6 b7,U i6 b8,U i6 b9]] W fun e w'=>e=.returned (.agg #[U i6 j1,U i6 j2,U i6 j3,U i6 j4,U i6 j5,U i6 j6,U i6 j7,U i6 j8,U i6 j9])∧Below W.heap.size W w':=by
 have H6:Hid (∀ w,_):=fun w=>rlow_any a2 a6 b2 b6 j6 w h6
 have H7:Hid (∀ w,_):=fun w=>rhigh_any a2 a7 b2 b7 j7 w h7
 have H8:Hid (∀ w,_):=fun w=>rlow_any a4 a8 b4 b8 j8 w h8
 have H9:Hid (∀ w,_):=fun w=>rhigh_any a4 a9 b4 b9 j9 w h9
 clear h6 h7 h8 h9
 have s0:=(((St.start W).new (c:=#[U i6 a1,U i6 a2,U i6 a3,U i6 a4,U i6 a5,U i6 a6,U i6 a7,U i6 a8,U i6 a9]) (t:=32)).new (c:=#[U i6 b1,U i6 b2,U i6 b3,U i6 b4,U i6 b5,U i6 b6,U i6 b7,U i6 b8,U i6 b9]) (t:=32)).new (c:=#[U i6 0,U i6 0,U i6 0,U i6 0,U i6 0,U i6 0,U i6 0,U i6 0,U i6 0]) (t:=32)
 simp only [World.size_alloc] at s0
 have s1:=s0.new (c:=#[U i6 (wrap64 (a1+b1)),U i6 (wrap64 (a2+b2)),U i6 (wrap64 (a3+b3)),U i6 (wrap64 (a4+b4)),U i6 (wrap64 (a5+b5)),U i6 0,U i6 0,U i6 0,U i6 0]) (t:=32)
 simp only [World.size_alloc] at s1
 obtain⟨c1,f1,z1,c2,f2,z2,c3,f3,z3,c4,f4,z4,-⟩:=s1.rules
 clear c1 f1 z1
 clear s0
 go_enter Tryz.func29,Tryz.ntmps29
 go_wp2_with fail
 refine (H6.out _).mono ?_
 rintro e w1 ⟨rfl,rfl⟩
 go_wp2_with fail
 refine (H7.out _).mono ?_
 rintro e w1 ⟨rfl,rfl⟩
 go_wp2_with fail
 refine (H8.out _).mono ?_
 rintro e w1 ⟨rfl,rfl⟩
 go_wp2_with fail
 refine (H9.out _).mono ?_
 rintro e w1 ⟨rfl,rfl⟩
 clear c2 f2 z2 H6 H7 H8 H9
 have HS:Hid (Below W.heap.size W ((((W.alloc (.cells #[U i6 a1,U i6 a2,U i6 a3,U i6 a4,U i6 a5,U i6 a6,U i6 a7,U i6 a8,U i6 a9] 32)).alloc (.cells #[U i6 b1,U i6 b2,U i6 b3,U i6 b4,U i6 b5,U i6 b6,U i6 b7,U i6 b8,U i6 b9] 32)).alloc (.cells #[U i6 j1,U i6 j2,U i6 j3,U i6 j4,U i6 j5,U i6 j6,U i6 j7,U i6 j8,U i6 j9] 32)).alloc (.cells #[U i6 j1,U i6 j2,U i6 j3,U i6 j4,U i6 j5,U i6 j6,U i6 j7,U i6 j8,U i6 j9] 32))):=((((St.start W).new (c:=#[U i6 a1,U i6 a2,U i6 a3,U i6 a4,U i6 a5,U i6 a6,U i6 a7,U i6 a8,U i6 a9]) (t:=32)).new (c:=#[U i6 b1,U i6 b2,U i6 b3,U i6 b4,U i6 b5,U i6 b6,U i6 b7,U i6 b8,U i6 b9]) (t:=32)).new (c:=#[U i6 j1,U i6 j2,U i6 j3,U i6 j4,U i6 j5,U i6 j6,U i6 j7,U i6 j8,U i6 j9]) (t:=32)).new (c:=#[U i6 j1,U i6 j2,U i6 j3,U i6 j4,U i6 j5,U i6 j6,U i6 j7,U i6 j8,U i6 j9]) (t:=32) |>.below
 go_wp2
 exact bodyPost_ret (v:=.agg #[U i6 j1,U i6 j2,U i6 j3,U i6 j4,U i6 j5,U i6 j6,U i6 j7,U i6 j8,U i6 j9]) (by simp [results,Tryz.results29,go_sem]) rfl ⟨rfl,HS.out⟩
abbrev Pl:=Int×Int×Int×Int×Int×Int
def cvB (s:Int×Int):Bool:=decide (-128≤s.1∧s.1≤s.2∧s.2≤127)
def pvB (p:Pl):Bool:=decide (p.2.2.1≤p.2.2.2.1∧p.2.2.2.2.1≤p.2.2.2.2.2)
def raE:List (Int×Int)→Nat→Int×Int×Int
 | [],_=>(0,0,0)
 | s :: r,i=>if cvB s=true then raE r (i+1) else (30,(i:Int),0)
def plE (op:Int):List Pl→Nat→Int×Int×Int
 | [],_=>(0,0,0)
 | p :: r,k=>if pvB p=true then plE op r (k+1) else (30,op,(k:Int)+1)
def liE (n op:Int) (l:List Pl):Int×Int×Int:=if (l.length:Int)=n then plE op l 0 else (70,op,0)
def psE (N:Nat→Int):List (List Pl)→Nat→Int×Int×Int
 | [],_=>(0,0,0)
 | l :: r,i=>if (liE (N i) ((i:Int)+1) l).1=0 then psE N r (i+1) else liE (N i) ((i:Int)+1) l
def foE (e t:Int) (on:Nat) (N:Nat→Int) (R:List (Int×Int)) (P:List (List Pl)):Int×Int×Int :=
 if e≠0 then (e,t,0) else if ¬ (R.length=on+1∧P.length=on) then (70,0,0) else if (raE R 0).1≠0 then raE R 0 else psE N P 0
abbrev T4:=Int×Int×Int×Int
def bkV (n d:Int):Int:=1+(n-1) / d
def deE (p:Pl) (n:Int):Int:=if p.1=16 then (if 1≤p.2.1∧p.2.1≤n then 0 else 151) else if p.1=32 then (if p.2.1=n then 0 else 151) else 150
def coS (p:Pl) (n:Int):T4:=if p.1=16 then (n,n,0,bkV n p.2.1) else (0,0,n,n)
def adT (t s:T4) (q:Int):T4:=(t.1+s.1*q,t.2.1+s.2.1*q,t.2.2.1+s.2.2.1*q,t.2.2.2+s.2.2.2*q)
def coL (op n q:Int):List Pl→Nat→T4→T4×Int×Int×Int
 | [],_,t=>(t,0,0,0)
 | p :: r,k,t=>if deE p n=0 then coL op n q r (k+1) (adT t (coS p n) q) else ((0,0,0,0),deE p n,op,(k:Int)+1)
def coP (N Q:Nat→Int):List (List Pl)→Nat→T4→T4×Int×Int×Int
 | [],_,t=>(t,0,0,0)
 | l :: r,i,t=>if (coL ((i:Int)+1) (N i) (Q i) l 0 t).2.1=0 then coP N Q r (i+1) (coL ((i:Int)+1) (N i) (Q i) l 0 t).1 else coL ((i:Int)+1) (N i) (Q i) l 0 t
def csE (f:Int×Int×Int) (N Q:Nat→Int) (P:List (List Pl)):T4×Int×Int×Int:=if f.1≠0 then ((0,0,0,0),f) else coP N Q P 0 (0,0,0,0)
theorem bkV_bd {n d:Int} (h:1≤d∧d≤n):1≤bkV n d∧bkV n d≤n:=by
 unfold bkV
 have h1:0≤(n-1) / d:=Int.ediv_nonneg (by omega) (by omega)
 have h2:(n-1) / d≤n-1:=Int.ediv_le_self _ (by omega)
 omega
theorem deE_16 {p:Pl} {n:Int} (h:p.1=16) (h0:deE p n=0):1≤p.2.1∧p.2.1≤n:=by
 unfold deE at h0
 rw [if_pos h] at h0
 by_cases g:1≤p.2.1∧p.2.1≤n
 ·exact g
 ·rw [if_neg g] at h0;cases h0
theorem coS_bd {p:Pl} {n:Int} (hn:0≤n) (h0:deE p n=0):(0≤(coS p n).1∧(coS p n).1≤n)∧(0≤(coS p n).2.1∧(coS p n).2.1≤n)∧(0≤(coS p n).2.2.1∧(coS p n).2.2.1≤n)∧(0≤(coS p n).2.2.2∧(coS p n).2.2.2≤n):=by
 unfold coS
 by_cases h:p.1=16
 ·have:=bkV_bd (deE_16 h h0)
  rw [if_pos h]
  exact⟨⟨hn,Int.le_refl _⟩,⟨hn,Int.le_refl _⟩,⟨Int.le_refl _,hn⟩,⟨by simp only;omega,this.2⟩⟩
 ·rw [if_neg h]
  exact⟨⟨Int.le_refl _,hn⟩,⟨Int.le_refl _,hn⟩,⟨hn,Int.le_refl _⟩,⟨hn,Int.le_refl _⟩⟩
def Tb (t:T4) (b:Int):Prop:=(0≤t.1∧t.1≤b)∧(0≤t.2.1∧t.2.1≤b)∧(0≤t.2.2.1∧t.2.2.1≤b)∧(0≤t.2.2.2∧t.2.2.2≤b)
theorem mulbd {x n q:Int} (hx:0≤x∧x≤n) (hq:0≤q):0≤x*q∧x*q≤n*q:=⟨Int.mul_nonneg hx.1 hq,Int.mul_le_mul_of_nonneg_right hx.2 hq⟩
theorem Tb.add {t:T4} {b:Int} {p:Pl} {n q:Int} (h:Tb t b) (hn:0≤n) (hq:0≤q) (h0:deE p n=0):Tb (adT t (coS p n) q) (b+n*q):=by
 obtain⟨c1,c2,c3,c4⟩:=coS_bd hn h0
 have d1:=mulbd c1 hq
 have d2:=mulbd c2 hq
 have d3:=mulbd c3 hq
 have d4:=mulbd c4 hq
 unfold Tb at h ⊢
 unfold adT
 simp only
 omega
def scs (s:Int×Int):List Value:=[U i6 s.1,U i6 s.2]
def pcs (p:Pl):List Value:=[U i6 p.1,U i6 p.2.1,U i6 p.2.2.1,U i6 p.2.2.2.1,U i6 p.2.2.2.2.1,U i6 p.2.2.2.2.2]
def ERow {α:Type} (nc:Nat) (E:α→List Value) (w:World) (a:Option Addr) (len cap:Nat) (xs:List α):Prop :=
 xs.length=len∧len≤cap∧cap≤maxLen∧(a=none→cap=0)∧∀ x,a=some x→∀ i p,xs[i]? = some p→∀ j v,(E p)[j]? = some v→w.cell? ((x.add (i*nc)).add j)=some v
theorem ERow.below {α:Type} {nc:Nat} {E:α→List Value} {w w':World} {a:Option Addr} {len cap:Nat} {xs:List α} (h:ERow nc E w a len cap xs) (g:Below w.heap.size w w'):ERow nc E w' a len cap xs :=
 ⟨h.1,h.2.1,h.2.2.1,h.2.2.2.1,fun x hx i p hp j v hv=>(g.cell (World.block_lt_of_cell? w _ (h.2.2.2.2 x hx i p hp j v hv))).trans (h.2.2.2.2 x hx i p hp j v hv)⟩
theorem ERow.at {α:Type} {nc:Nat} {E:α→List Value} {w:World} {a:Option Addr} {len cap:Nat} {xs:List α} (h:ERow nc E w a len cap xs) {i:Nat} (hi:i<len) :
  ∃ x p,a=some x∧xs[i]? = some p∧xs.drop i=p :: xs.drop (i+1)∧∀ j v,(E p)[j]? = some v→w.cell? ((x.add (i*nc)).add j)=some v:=by
 obtain⟨h1,h2,h3,h4,h5⟩:=h
 have hi':i<xs.length:=by omega
 cases a with
 | none=>have:=h4 rfl;omega
 | some x=>exact⟨x,xs[i],rfl,List.getElem?_eq_getElem hi',List.drop_eq_getElem_cons hi',h5 x rfl i _ (List.getElem?_eq_getElem hi')⟩
theorem erow_nil {α:Type} (nc:Nat) (E:α→List Value) (w:World):ERow nc E w none 0 0 ([]:List α):=⟨rfl,Nat.le_refl _,by unfold maxLen;omega,fun _=>rfl,fun x h=>by cases h⟩
def QRow (w:World) (a:Option Addr) (len cap:Nat) (P:List (List Pl)):Prop :=
 P.length=len∧len≤cap∧cap≤maxLen∧(a=none→cap=0)∧∀ x,a=some x→∀ i l,P[i]? = some l→∃ ca cc,w.cell? (x.add i)=some (.slice ca l.length cc)∧ERow 6 pcs w ca l.length cc l∧l.length*48≤140737488351232
theorem QRow.below {w w':World} {a:Option Addr} {len cap:Nat} {P:List (List Pl)} (h:QRow w a len cap P) (g:Below w.heap.size w w'):QRow w' a len cap P :=
 ⟨h.1,h.2.1,h.2.2.1,h.2.2.2.1,fun x hx i l hl=>by
  obtain⟨ca,cc,h1,h2,h3⟩:=h.2.2.2.2 x hx i l hl
  exact⟨ca,cc,(g.cell (World.block_lt_of_cell? w _ h1)).trans h1,h2.below g,h3⟩⟩
theorem QRow.at {w:World} {a:Option Addr} {len cap:Nat} {P:List (List Pl)} (h:QRow w a len cap P) {i:Nat} (hi:i<len) :
  ∃ x l ca cc,a=some x∧P[i]? = some l∧P.drop i=l :: P.drop (i+1)∧w.cell? (x.add i)=some (.slice ca l.length cc)∧ERow 6 pcs w ca l.length cc l∧l.length*48≤140737488351232:=by
 obtain⟨h1,h2,h3,h4,h5⟩:=h
 have hi':i<P.length:=by omega
 cases a with
 | none=>have:=h4 rfl;omega
 | some x =>
  obtain⟨ca,cc,g⟩:=h5 x rfl i _ (List.getElem?_eq_getElem hi')
  exact⟨x,P[i],ca,cc,rfl,List.getElem?_eq_getElem hi',List.drop_eq_getElem_cons hi',g⟩
end Go.Proofs.YtehofmkpgopmpaaGreat
namespace Go.Proofs.YtehofmkpgopmpaaGreat.Kr
open Go.Value renaming int → U, slice → Sl
open Go.IntKind renaming i64 → i6
set_option maxRecDepth 100000
set_option maxHeartbeats 16000000
open Go.ChangeShapes Go.WideShapes Go.ChangeAt Go.RowKit
set_option linter.unusedVariables false
structure Tr where
 m:Int
 a:Int
 m2:Int
 a2:Int
 w:Int
 l:Int
 h:Int
 l2:Int
 h2:Int
def Tr.cs (t:Tr):Array Value:=#[U i6 t.m,U i6 t.a,U i6 t.m2,U i6 t.a2,U i6 t.w,U i6 t.l,U i6 t.h,U i6 t.l2,U i6 t.h2]
def Tr.z:Tr:=⟨0,0,0,0,0,0,0,0,0⟩
def Tr.of (s l:Ty):Tr:=⟨s.m,s.a,l.m,l.a,s.w+l.w,s.l,s.h,l.l,l.h⟩
def Tr.jn (s t:Tr):Tr:=⟨s.m+t.m,s.a+t.a,s.m2+t.m2,s.a2+t.a2,s.w+t.w,loE s.a s.l t.a t.l,hiE s.a s.h t.a t.h,loE s.a2 s.l2 t.a2 t.l2,hiE s.a2 s.h2 t.a2 t.h2⟩
def Tr.ok (n:Int) (t:Tr):Prop:=(0≤t.m∧t.m≤n)∧(0≤t.a∧t.a≤n)∧(0≤t.m2∧t.m2≤n)∧(0≤t.a2∧t.a2≤n)∧(0≤t.w∧t.w≤4*n)
theorem Tr.ok_z:Tr.z.ok 0:=by unfold Tr.ok Tr.z;simp only;omega
theorem Tr.ok.jn {n k:Int} {s t:Tr} (h:s.ok n) (g:t.ok k):(s.jn t).ok (n+k):=by
 unfold Tr.ok at h g ⊢
 unfold Tr.jn
 simp only
 omega
theorem Tr.ok.mono {n k:Int} {t:Tr} (h:t.ok n) (g:n≤k):t.ok k:=by unfold Tr.ok at h ⊢;omega
theorem Tr.ok_of {n:Int} {s l:Ty} (h:s.ok n) (g:l.ok n):(Tr.of s l).ok n:=by
 unfold Ty.ok at h g
 unfold Tr.ok Tr.of
 simp only
 omega
theorem w64_in {x:Int} (h:-9223372036854775808≤x∧x≤9223372036854775807):wrap64 x=x:=by unfold wrap64;omega
def TB:Int:=1000000000000
theorem jn3 {a l h b l' h':Int} (ha:0≤a∧a≤TB) (hb:0≤b∧b≤TB):jn (a,l,h) (b,l',h')=(a+b,loE a l b l',hiE a h b h'):=by
 unfold TB at ha hb
 have h1:=jn_sum (a:=(a,l,h)) (b:=(b,l',h')) (by unfold I6;simp only;omega) (by unfold I6;simp only;omega)
 simp only at h1
 rw [w64_in (by omega)] at h1
 exact Prod.ext h1 (Prod.ext (jn_lo _ _ _ _ _ _) (jn_hi _ _ _ _ _ _))
theorem ljoin_tr (s t:Tr) (W:World) (hs:s.ok TB) (ht:t.ok TB) :
  Calls Tryz.prog 64 #[.agg s.cs,.agg t.cs] W fun e w'=>e=.returned (.agg (s.jn t).cs)∧Below W.heap.size W w':=by
 obtain⟨a1,a2,a3,a4,a5⟩:=hs
 obtain⟨b1,b2,b3,b4,b5⟩:=ht
 have h2:=jn3 (l:=s.l) (h:=s.h) (l':=t.l) (h':=t.h) a2 b2
 have h4:=jn3 (l:=s.l2) (h:=s.h2) (l':=t.l2) (h':=t.h2) a4 b4
 unfold TB at *
 exact ljoin_any s.m s.a s.m2 s.a2 s.w s.l s.h s.l2 s.h2 t.m t.a t.m2 t.a2 t.w t.l t.h t.l2 t.h2 _ _ _ _ _ _ _ _ _ W (w64_in (by omega)) (w64_in (by omega)) (w64_in (by omega)) h2 h4
theorem rjoin_tr (s t:Tr) (W:World) (hs:s.ok TB) (ht:t.ok TB) :
  Calls Tryz.prog 29 #[.agg s.cs,.agg t.cs] W fun e w'=>e=.returned (.agg (s.jn t).cs)∧Below W.heap.size W w':=by
 obtain⟨a1,a2,a3,a4,a5⟩:=hs
 obtain⟨b1,b2,b3,b4,b5⟩:=ht
 unfold TB at *
 exact rjoin_any s.m s.a s.m2 s.a2 s.w s.l s.h s.l2 s.h2 t.m t.a t.m2 t.a2 t.w t.l t.h t.l2 t.h2 _ _ _ _ _ _ _ _ _ W (w64_in (by omega)) (w64_in (by omega)) (w64_in (by omega)) (w64_in (by omega)) (w64_in (by omega)) rfl rfl rfl rfl
def nmT (p:Int) (x:List Int) (t:Int×Int):Int:=if t.2<0 then p else x.getD t.2.toNat 0
theorem pz_sm (p:Int) (x:List Int):∀ l:List (Int×Int),pz (l.map Prod.fst) (l.map (nmT p x))=l.map (smT p x)
 | []=>rfl
 | t :: l=>by
  have:=pz_sm p x l
  unfold pz at this ⊢
  simp only [List.map_cons,List.zipWith_cons_cons,this]
  rfl
theorem nmT_i8 {p:Int} {x:List Int} (hp:I8 p) (hx:∀ v∈x,I8 v) (t:Int×Int):I8 (nmT p x t):=by
 unfold nmT
 split
 ·exact hp
 ·exact getD_i8 hx _
def pcA (P:List Pl) (ch:Int):Pl:=P.getD (ch-1).toNat (0,0,0,0,0,0)
def dsF (k kh kw sh sw tp lf bt rt h w c C p:Int) (zs bs x:List Int) (P:List Pl) (ch at':Int):Ty×Ty×Int:=dtR (pcA P ch).1 (pcA P ch).2.1 (biA k ch bs) ((siL k kh kw sh sw tp lf bt rt h w c ch at' zs).map (smT p x))
def dsL (k kh kw sh sw tp lf bt rt h w c C p:Int) (zs bs x:List Int) (P:List Pl) (n:Nat):List Int:=(List.range n).map fun (j:Nat)=>(dsF k kh kw sh sw tp lf bt rt h w c C p zs bs x P ((j:Int) % C+1) ((j:Int) / C)).2.2
def dsT (k kh kw sh sw tp lf bt rt h w c C p:Int) (zs bs x:List Int) (P:List Pl):Nat→Tr
 | 0=>Tr.z
 | n+1=>(dsT k kh kw sh sw tp lf bt rt h w c C p zs bs x P n).jn (Tr.of (dsF k kh kw sh sw tp lf bt rt h w c C p zs bs x P ((n:Int) % C+1) ((n:Int) / C)).1 (dsF k kh kw sh sw tp lf bt rt h w c C p zs bs x P ((n:Int) % C+1) ((n:Int) / C)).2.1)
theorem dsL_len (k kh kw sh sw tp lf bt rt h w c C p:Int) (zs bs x:List Int) (P:List Pl) (n:Nat):(dsL k kh kw sh sw tp lf bt rt h w c C p zs bs x P n).length=n:=by simp [dsL]
theorem dsL_succ (k kh kw sh sw tp lf bt rt h w c C p:Int) (zs bs x:List Int) (P:List Pl) (n:Nat):dsL k kh kw sh sw tp lf bt rt h w c C p zs bs x P (n+1)=dsL k kh kw sh sw tp lf bt rt h w c C p zs bs x P n++[(dsF k kh kw sh sw tp lf bt rt h w c C p zs bs x P ((n:Int) % C+1) ((n:Int) / C)).2.2]:=by simp [dsL,List.range_succ]
theorem dsT_succ (k kh kw sh sw tp lf bt rt h w c C p:Int) (zs bs x:List Int) (P:List Pl) (n:Nat):dsT k kh kw sh sw tp lf bt rt h w c C p zs bs x P (n+1)=(dsT k kh kw sh sw tp lf bt rt h w c C p zs bs x P n).jn (Tr.of (dsF k kh kw sh sw tp lf bt rt h w c C p zs bs x P ((n:Int) % C+1) ((n:Int) / C)).1 (dsF k kh kw sh sw tp lf bt rt h w c C p zs bs x P ((n:Int) % C+1) ((n:Int) / C)).2.1):=rfl
def Pok (N C:Int) (P:List Pl):Prop:=(P.length:Int)=C∧∀ i:Nat,i<P.length→deE (P.getD i (0,0,0,0,0,0)) N=0
theorem rfE_of {p:Pl} {N:Nat} (hN:1≤N) (h:deE p N=0):rfE N N p.1 p.2.1=0:=by
 unfold deE at h
 unfold rfE
 rw [if_neg (by omega)]
 split at h
 ·rename_i q
  rw [if_neg (by omega)]
  split at h
  ·rw [if_neg (by omega)]
  ·cases h
 ·split at h
  ·rename_i q
   rw [if_neg (by omega)]
   split at h
   ·rw [if_neg (by omega)]
   ·cases h
  ·cases h
theorem dtR_ok {n:Nat} {wd dp bi:Int} (ps:List Int) (hb:-2147483648≤bi∧bi≤2147483647):((dtR wd dp bi ps).1.ok ps.length∧(dtR wd dp bi ps).2.1.ok ps.length)∧(-2147483648≤(dtR wd dp bi ps).2.2∧(dtR wd dp bi ps).2.2≤2147483647):=by
 unfold dtR
 split
 ·have h1:=gaT_ok (N:=2147483648) (by omega) ps Ty.z bi 0 Ty.ok_z (by omega)
  simp only
  exact⟨⟨Ty.ok_z.mono (by omega),h1.1.mono (by omega)⟩,by omega⟩
 ·have:=elT_ok (d:=dp.toNat) ps 0 Ty.z Ty.z bi 0 0 Ty.ok_z Ty.ok_z hb
  exact⟨⟨this.1.mono (by omega),this.2.1.mono (by omega)⟩,this.2.2⟩
theorem dsF_ok {k kh kw sh sw tp lf bt rt h w c H V C p:Int} {lw lb:Nat} (s:Sit k kh kw sh sw tp lf bt rt h w c H V C lw lb) {zs bs x:List Int} {P:List Pl} (hz:∀ v∈zs,(Lit.int .i16 v).wf=true) (hb:∀ v∈bs,(Lit.int .i32 v).wf=true) {ch:Int} (hch:1≤ch∧ch≤C) (at':Int) :
  ((dsF k kh kw sh sw tp lf bt rt h w c C p zs bs x P ch at').1.ok 512∧(dsF k kh kw sh sw tp lf bt rt h w c C p zs bs x P ch at').2.1.ok 512)∧(-2147483648≤(dsF k kh kw sh sw tp lf bt rt h w c C p zs bs x P ch at').2.2∧(dsF k kh kw sh sw tp lf bt rt h w c C p zs bs x P ch at').2.2≤2147483647):=by
 obtain⟨h1,-⟩:=siL_facts s hz hch at'
 have h2:=dtR_ok (n:=0) (wd:=(pcA P ch).1) (dp:=(pcA P ch).2.1) (bi:=biA k ch bs) ((siL k kh kw sh sw tp lf bt rt h w c ch at' zs).map (smT p x)) (biA_bd hb)
 rw [List.length_map] at h2
 exact⟨⟨h2.1.1.mono (by omega),h2.1.2.mono (by omega)⟩,h2.2⟩
theorem dsT_ok {k kh kw sh sw tp lf bt rt h w c H V C p:Int} {lw lb:Nat} (s:Sit k kh kw sh sw tp lf bt rt h w c H V C lw lb) {zs bs x:List Int} {P:List Pl} (hz:∀ v∈zs,(Lit.int .i16 v).wf=true) (hb:∀ v∈bs,(Lit.int .i32 v).wf=true) :
  ∀ n:Nat,(dsT k kh kw sh sw tp lf bt rt h w c C p zs bs x P n).ok (512*n)
 | 0=>Tr.ok_z.mono (by omega)
 | n+1=>by
  have hC:=(vS_yes s.2.2.1).2.2.1
  have e1:=Int.emod_nonneg (n:Int) (show C≠0 by omega)
  have e2:=Int.emod_lt_of_pos (n:Int) (show 0<C by omega)
  have h1:=dsF_ok (p:=p) (x:=x) (P:=P) s hz hb (ch:=(n:Int) % C+1) ⟨by omega,by omega⟩ ((n:Int) / C)
  exact ((dsT_ok s hz hb n).jn (Tr.ok_of h1.1.1 h1.1.2)).mono (by omega)
theorem dsL_bd {k kh kw sh sw tp lf bt rt h w c H V C p:Int} {lw lb:Nat} (s:Sit k kh kw sh sw tp lf bt rt h w c H V C lw lb) {zs bs x:List Int} {P:List Pl} (hz:∀ v∈zs,(Lit.int .i16 v).wf=true) (hb:∀ v∈bs,(Lit.int .i32 v).wf=true) (n:Nat) :
  ∀ v∈dsL k kh kw sh sw tp lf bt rt h w c C p zs bs x P n,-2147483648≤v∧v≤2147483647:=fun v hv=>by
 have hC:=(vS_yes s.2.2.1).2.2.1
 obtain⟨j,-,rfl⟩:=List.mem_map.1 hv
 have e1:=Int.emod_nonneg (j:Int) (show C≠0 by omega)
 have e2:=Int.emod_lt_of_pos (j:Int) (show 0<C by omega)
 exact (dsF_ok s hz hb ⟨by omega,by omega⟩ _).2
def vaK (k kh kw sh sw sm ss um us w c V C len:Int) (n:Nat) (SS x y:List Int):List Int :=
 if k≤3 then apL SS sm ss
 else if k=4 then meL SS len
 else if k=5 then grL kh kw sh sw w c V C x n
 else if k=6 then adL (apL x sm ss) (apL y um us)
 else if k=7 then apL x sm ss
 else x
def pfE (op n:Int):List Pl→Nat→Int×Int×Int
 | [],_=>(0,0,0)
 | p :: l,i=>if deE p n≠0 then (deE p n,op,(i:Int)+1) else pfE op n l (i+1)
theorem pfE_0 {op n:Int}:∀ (l:List Pl) (i:Nat),(pfE op n l i).1=0→pfE op n l i=(0,0,0)∧∀ j,j<l.length→deE (l.getD j (0,0,0,0,0,0)) n=0
 | [],_,_=>⟨rfl,fun j hj=>by simp at hj⟩
 | p :: l,i,h=>by
  unfold pfE at h ⊢
  by_cases q:deE p n≠0
  ·rw [if_pos q] at h;exact absurd h q
  ·rw [if_neg q] at h ⊢
   obtain⟨g1,g2⟩:=pfE_0 l (i+1) h
   refine⟨g1,fun j hj=>?_⟩
   cases j with
   | zero=>exact Decidable.not_not.1 q
   | succ j=>simpa [List.getD] using g2 j (by simpa using hj)
def lnE (k h w c C len op:Int) (n pl nb:Nat) (PS:List Pl):Int×Int×Int :=
 if (n:Int)≠h*w*c∨(pl:Int)≠(if k≤4 then C else 0)∨(k=6∧(nb:Int)≠h*w*c) then (70,op,0) else pfE op len PS 0
end Go.Proofs.YtehofmkpgopmpaaGreat.Kr
namespace Go.Proofs.YtehofmkpgopmpaaGreat
open Go.Value renaming int → U, slice → Sl
open Go.IntKind renaming i64 → i6
set_option maxRecDepth 100000
set_option maxHeartbeats 16000000
open Go.ChangeShapes Go.WideShapes Go.ChangeAt Go.RowKit
set_option linter.unusedVariables false
theorem btr {a b c:World} (h:Below a.heap.size a b) (k:Below b.heap.size b c):Below a.heap.size a c:=bt h k
theorem IRow.i8 {w:World} {a:Option Addr} {n c:Nat} {xs:List Int} (h:IRow .i8 w a n c xs):∀ v∈xs,I8 v:=fun v hv=>wf_i8 (h.2.2.2.1 v hv)
theorem getD_mem {xs:List Int} {i:Nat} (h:i<xs.length):xs.getD i 0∈xs:=by rw [List.getD_eq_getElem?_getD,List.getElem?_eq_getElem h];exact List.getElem_mem h
def fil (ys:List Int) (y:Nat):List Int:=ys.take y++List.replicate (ys.length-y) 0
theorem fil_len (ys:List Int) {y:Nat} (h:y≤ys.length):(fil ys y).length=ys.length:=by simp [fil];omega
theorem fil_0 (ys:List Int):fil ys 0=List.replicate ys.length 0:=by simp [fil]
theorem fil_all (ys:List Int):fil ys ys.length=ys:=by simp [fil]
theorem fil_set {ys:List Int} {y:Nat} (h:y<ys.length):(fil ys y).set y (ys.getD y 0)=fil ys (y+1):=by
 unfold fil
 apply List.ext_getElem?
 intro j
 have hl:(ys.take y).length=y:=by rw [List.length_take];omega
 have hl2:(ys.take (y+1)).length=y+1:=by rw [List.length_take];omega
 by_cases q:j=y
 ·subst q
  rw [List.getElem?_set_self (by simp;omega),List.getElem?_append_left (by omega),List.getElem?_take,if_pos (by omega),List.getD_eq_getElem?_getD,List.getElem?_eq_getElem h]
  rfl
 ·rw [List.getElem?_set_ne (by omega)]
  by_cases q2:j<y
  ·rw [List.getElem?_append_left (by omega),List.getElem?_append_left (by omega),List.getElem?_take,List.getElem?_take,if_pos q2,if_pos (by omega)]
  ·rw [List.getElem?_append_right (by omega),List.getElem?_append_right (by omega),hl,hl2]
   simp only [List.getElem?_replicate]
   by_cases q3:j<ys.length
   ·rw [if_pos (by omega),if_pos (by omega)]
   ·rw [if_neg (by omega),if_neg (by omega)]
def Bk (k:IntKind) (T:TypeId) (w:World) (g:Nat) (zs:List Int):Prop:=w.heap[g]? = some (.cells (zs.map (Value.int k)).toArray T (0,0))
theorem Bk.at {k:IntKind} {T:TypeId} {w:World} {g p:Nat} {zs:List Int} (h:Bk k T w g zs) (hp:p<zs.length):w.cell? ⟨g,p,none⟩=some (.int k (zs.getD p 0))∧(∀ i,w.frozen? ⟨g,i,none⟩=false)∧g<w.heap.size:=by
 have:=cells_at h
 exact⟨by rw [this.1];simp [List.getD,hp],this.2⟩
theorem Bk.set {k:IntKind} {T:TypeId} {w:World} {g p:Nat} {zs:List Int} (z:Int) (h:Bk k T w g zs):Bk k T (w.setCell ⟨g,p,none⟩ (.int k z)) g (zs.set p z):=by
 have:=heap_setCell_at (i:=p) (v:=.int k z) h
 unfold Bk
 rw [this]
 simp [List.map_set]
theorem Bk.below {k:IntKind} {T:TypeId} {w w':World} {g:Nat} {zs:List Int} (h:Bk k T w g zs) (q:Below w.heap.size w w'):Bk k T w' g zs:=(q.block g (lt_of_heap h)).trans h
theorem Bk.new {k:IntKind} {T:TypeId} {w:World} {g n:Nat} {zs:List Int} (h:w.heap[g]? = some (.cells (Array.replicate n (Value.int k 0)) T (0,0))) (hn:zs.length=n):Bk k T w g (fil zs 0):=by
 unfold Bk
 rw [h,fil_0,hn]
 simp
theorem St.setX {w0 w:World} {l:List (Nat×Array Value×TypeId)} {B i:Nat} {v:Value} (h:St w0 w l) (hB:w0.heap.size≤B) (hl:∀ x∈l,x.1≠B):St w0 (w.setCell ⟨B,i,none⟩ v) l :=
 ⟨h.1.setCell (p:=⟨B,i,none⟩) hB v,fun x hx=>⟨by rw [Below.heap_setCell _ _ _ _ (hl x hx)];exact (h.2 x hx).1,(h.2 x hx).2⟩⟩
theorem map_at {xs:List Int} {f:Int→Int} {y:Nat} {u:Int} (h:xs[y]? = some u):(xs.map f).getD y 0=f u:=by rw [List.getD_eq_getElem?_getD,List.getElem?_map,h];rfl
theorem me_bd {v n:Int} (hn:1≤n) (hv:-4294967296≤v∧v≤4294967296):-4294967296≤Fx.meV v n∧Fx.meV v n≤4294967296:=by
 unfold Fx.meV
 rw [if_neg (by omega)]
 exact rq_le hn hv
def inB (h w c lo hi:Int) (xs:List Int):Bool:=decide ((xs.length:Int)=h*w*c∧∀ v∈xs,lo≤v∧v≤hi)
theorem Sit.win {k kh kw sh sw tp lf bt rt h w c H V C:Int} {lw lb:Nat} (s:Sit k kh kw sh sw tp lf bt rt h w c H V C lw lb) (q:k≠1):(1≤kh∧kh≤32)∧(1≤kw∧kw≤32):=s.2.2.2.2.2.1 (by have:=s.1;omega)
theorem tlen_1 (a b m kh kw sh sw tp lf bt rt:Int) (wa:Option Addr) (lw wc:Nat) (ba:Option Addr) (lb bc:Nat) (sm ss um us z p lo hi h w c H V C:Int) (r:Nat) (W:World) (hr:W.heap[r]? = some (.cells #[U i6 1,U i6 a,U i6 b,U i6 m,U i6 kh,U i6 kw,U i6 sh,U i6 sw,U i6 tp,U i6 lf,U i6 bt,U i6 rt,Sl wa lw wc,Sl ba lb bc,U i6 sm,U i6 ss,U i6 um,U i6 us,U i6 z,U i6 p,U i6 lo,U i6 hi,U i6 h,U i6 w,U i6 c,U i6 H,U i6 V,U i6 C] 125 (0,0))) (g:vS h w c=true) (hw:(1:Int)≠1→(1≤kh∧kh≤32)∧(1≤kw∧kw≤32)) :
  Calls Tryz.prog 60 #[.pointer (some ⟨r,0,none⟩)] W fun e w'=>e=.returned (U i6 (stR 1 kh kw h w c))∧∃ n,w'=W.drewN n:=by
 have p3:(1≤h*w∧h*w≤1048576)∧(1≤h*w*c∧h*w*c≤16384):=vS_bd g
 have c1:=(vS_yes g).2.2.1
 have hp:(1:Int)≠1→(1≤kh*kw∧kh*kw≤1024)∧(1≤kh*kw*c∧kh*kw*c≤1048576):=fun q=>by
  obtain⟨hw1,hw2⟩:=hw q
  obtain⟨p1,p2⟩:=mul_bd hw1.1 hw1.2 hw2.1 hw2.2
  obtain⟨q1,q2⟩:=mul_bd p1 p2 c1.1 c1.2
  exact⟨⟨p1,by omega⟩,q1,by omega⟩
 rw [show stR 1 kh kw h w c=(if (1:Int)=1 then h*w*c else if (1:Int)=2 then kh*kw*c else kh*kw) from rfl]
 simp at hp ⊢
 obtain⟨p',ep⟩:∃ p',h*w=p':=⟨_,rfl⟩
 obtain⟨q',eq⟩:∃ q',kh*kw=q':=⟨_,rfl⟩
 rw [ep] at p3
 try rw [eq] at hp
 try rw [ep]
 try rw [eq]
 obtain⟨y1,y2,y3⟩:=cells_at hr
 clear g hw c1 hr
 go_enter Tryz.func60,Tryz.ntmps60
 go_wp2
 go_quiet (fail)
 go_wp2
 go_ret
 exact⟨rfl,_,rfl⟩
theorem tlen_2 (a b m kh kw sh sw tp lf bt rt:Int) (wa:Option Addr) (lw wc:Nat) (ba:Option Addr) (lb bc:Nat) (sm ss um us z p lo hi h w c H V C:Int) (r:Nat) (W:World) (hr:W.heap[r]? = some (.cells #[U i6 2,U i6 a,U i6 b,U i6 m,U i6 kh,U i6 kw,U i6 sh,U i6 sw,U i6 tp,U i6 lf,U i6 bt,U i6 rt,Sl wa lw wc,Sl ba lb bc,U i6 sm,U i6 ss,U i6 um,U i6 us,U i6 z,U i6 p,U i6 lo,U i6 hi,U i6 h,U i6 w,U i6 c,U i6 H,U i6 V,U i6 C] 125 (0,0))) (g:vS h w c=true) (hw:(2:Int)≠1→(1≤kh∧kh≤32)∧(1≤kw∧kw≤32)) :
  Calls Tryz.prog 60 #[.pointer (some ⟨r,0,none⟩)] W fun e w'=>e=.returned (U i6 (stR 2 kh kw h w c))∧∃ n,w'=W.drewN n:=by
 have p3:(1≤h*w∧h*w≤1048576)∧(1≤h*w*c∧h*w*c≤16384):=vS_bd g
 have c1:=(vS_yes g).2.2.1
 have hp:(2:Int)≠1→(1≤kh*kw∧kh*kw≤1024)∧(1≤kh*kw*c∧kh*kw*c≤1048576):=fun q=>by
  obtain⟨hw1,hw2⟩:=hw q
  obtain⟨p1,p2⟩:=mul_bd hw1.1 hw1.2 hw2.1 hw2.2
  obtain⟨q1,q2⟩:=mul_bd p1 p2 c1.1 c1.2
  exact⟨⟨p1,by omega⟩,q1,by omega⟩
 rw [show stR 2 kh kw h w c=(if (2:Int)=1 then h*w*c else if (2:Int)=2 then kh*kw*c else kh*kw) from rfl]
 simp at hp ⊢
 obtain⟨p',ep⟩:∃ p',h*w=p':=⟨_,rfl⟩
 obtain⟨q',eq⟩:∃ q',kh*kw=q':=⟨_,rfl⟩
 rw [ep] at p3
 try rw [eq] at hp
 try rw [ep]
 try rw [eq]
 obtain⟨y1,y2,y3⟩:=cells_at hr
 clear g hw c1 hr
 go_enter Tryz.func60,Tryz.ntmps60
 go_wp2
 go_quiet (fail)
 go_wp2
 go_ret
 exact⟨rfl,_,rfl⟩
theorem tlen_3 (a b m kh kw sh sw tp lf bt rt:Int) (wa:Option Addr) (lw wc:Nat) (ba:Option Addr) (lb bc:Nat) (sm ss um us z p lo hi h w c H V C:Int) (r:Nat) (W:World) (hr:W.heap[r]? = some (.cells #[U i6 3,U i6 a,U i6 b,U i6 m,U i6 kh,U i6 kw,U i6 sh,U i6 sw,U i6 tp,U i6 lf,U i6 bt,U i6 rt,Sl wa lw wc,Sl ba lb bc,U i6 sm,U i6 ss,U i6 um,U i6 us,U i6 z,U i6 p,U i6 lo,U i6 hi,U i6 h,U i6 w,U i6 c,U i6 H,U i6 V,U i6 C] 125 (0,0))) (g:vS h w c=true) (hw:(3:Int)≠1→(1≤kh∧kh≤32)∧(1≤kw∧kw≤32)) :
  Calls Tryz.prog 60 #[.pointer (some ⟨r,0,none⟩)] W fun e w'=>e=.returned (U i6 (stR 3 kh kw h w c))∧∃ n,w'=W.drewN n:=by
 have p3:(1≤h*w∧h*w≤1048576)∧(1≤h*w*c∧h*w*c≤16384):=vS_bd g
 have c1:=(vS_yes g).2.2.1
 have hp:(3:Int)≠1→(1≤kh*kw∧kh*kw≤1024)∧(1≤kh*kw*c∧kh*kw*c≤1048576):=fun q=>by
  obtain⟨hw1,hw2⟩:=hw q
  obtain⟨p1,p2⟩:=mul_bd hw1.1 hw1.2 hw2.1 hw2.2
  obtain⟨q1,q2⟩:=mul_bd p1 p2 c1.1 c1.2
  exact⟨⟨p1,by omega⟩,q1,by omega⟩
 rw [show stR 3 kh kw h w c=(if (3:Int)=1 then h*w*c else if (3:Int)=2 then kh*kw*c else kh*kw) from rfl]
 simp at hp ⊢
 obtain⟨p',ep⟩:∃ p',h*w=p':=⟨_,rfl⟩
 obtain⟨q',eq⟩:∃ q',kh*kw=q':=⟨_,rfl⟩
 rw [ep] at p3
 try rw [eq] at hp
 try rw [ep]
 try rw [eq]
 obtain⟨y1,y2,y3⟩:=cells_at hr
 clear g hw c1 hr
 go_enter Tryz.func60,Tryz.ntmps60
 go_wp2
 go_quiet (fail)
 go_wp2
 go_ret
 exact⟨rfl,_,rfl⟩
theorem tlen_4 (a b m kh kw sh sw tp lf bt rt:Int) (wa:Option Addr) (lw wc:Nat) (ba:Option Addr) (lb bc:Nat) (sm ss um us z p lo hi h w c H V C:Int) (r:Nat) (W:World) (hr:W.heap[r]? = some (.cells #[U i6 4,U i6 a,U i6 b,U i6 m,U i6 kh,U i6 kw,U i6 sh,U i6 sw,U i6 tp,U i6 lf,U i6 bt,U i6 rt,Sl wa lw wc,Sl ba lb bc,U i6 sm,U i6 ss,U i6 um,U i6 us,U i6 z,U i6 p,U i6 lo,U i6 hi,U i6 h,U i6 w,U i6 c,U i6 H,U i6 V,U i6 C] 125 (0,0))) (g:vS h w c=true) (hw:(4:Int)≠1→(1≤kh∧kh≤32)∧(1≤kw∧kw≤32)) :
  Calls Tryz.prog 60 #[.pointer (some ⟨r,0,none⟩)] W fun e w'=>e=.returned (U i6 (stR 4 kh kw h w c))∧∃ n,w'=W.drewN n:=by
 have p3:(1≤h*w∧h*w≤1048576)∧(1≤h*w*c∧h*w*c≤16384):=vS_bd g
 have c1:=(vS_yes g).2.2.1
 have hp:(4:Int)≠1→(1≤kh*kw∧kh*kw≤1024)∧(1≤kh*kw*c∧kh*kw*c≤1048576):=fun q=>by
  obtain⟨hw1,hw2⟩:=hw q
  obtain⟨p1,p2⟩:=mul_bd hw1.1 hw1.2 hw2.1 hw2.2
  obtain⟨q1,q2⟩:=mul_bd p1 p2 c1.1 c1.2
  exact⟨⟨p1,by omega⟩,q1,by omega⟩
 rw [show stR 4 kh kw h w c=(if (4:Int)=1 then h*w*c else if (4:Int)=2 then kh*kw*c else kh*kw) from rfl]
 simp at hp ⊢
 obtain⟨p',ep⟩:∃ p',h*w=p':=⟨_,rfl⟩
 obtain⟨q',eq⟩:∃ q',kh*kw=q':=⟨_,rfl⟩
 rw [ep] at p3
 try rw [eq] at hp
 try rw [ep]
 try rw [eq]
 obtain⟨y1,y2,y3⟩:=cells_at hr
 clear g hw c1 hr
 go_enter Tryz.func60,Tryz.ntmps60
 go_wp2
 go_quiet (fail)
 go_wp2
 go_ret
 exact⟨rfl,_,rfl⟩
theorem tlen_any (k a b m kh kw sh sw tp lf bt rt:Int) (wa:Option Addr) (lw wc:Nat) (ba:Option Addr) (lb bc:Nat) (sm ss um us z p lo hi h w c H V C:Int) (r:Nat) (W:World) (hr:W.heap[r]? = some (.cells #[U i6 k,U i6 a,U i6 b,U i6 m,U i6 kh,U i6 kw,U i6 sh,U i6 sw,U i6 tp,U i6 lf,U i6 bt,U i6 rt,Sl wa lw wc,Sl ba lb bc,U i6 sm,U i6 ss,U i6 um,U i6 us,U i6 z,U i6 p,U i6 lo,U i6 hi,U i6 h,U i6 w,U i6 c,U i6 H,U i6 V,U i6 C] 125 (0,0))) (s:Sit k kh kw sh sw tp lf bt rt h w c H V C lw lb) :
  Calls Tryz.prog 60 #[.pointer (some ⟨r,0,none⟩)] W fun e w'=>e=.returned (U i6 (stR k kh kw h w c))∧∃ n,w'=W.drewN n:=by
 have hk:=s.1
 have g:=s.2.1
 have hw:=s.win
 rcases (show k=1∨k=2∨k=3∨k=4 by omega) with rfl | rfl | rfl | rfl
 ·exact tlen_1 a b m kh kw sh sw tp lf bt rt wa lw wc ba lb bc sm ss um us z p lo hi h w c H V C r W hr g hw
 ·exact tlen_2 a b m kh kw sh sw tp lf bt rt wa lw wc ba lb bc sm ss um us z p lo hi h w c H V C r W hr g hw
 ·exact tlen_3 a b m kh kw sh sw tp lf bt rt wa lw wc ba lb bc sm ss um us z p lo hi h w c H V C r W hr g hw
 ·exact tlen_4 a b m kh kw sh sw tp lf bt rt wa lw wc ba lb bc sm ss um us z p lo hi h w c H V C r W hr g hw
theorem tchan_any (k a b m kh kw sh sw tp lf bt rt:Int) (wa:Option Addr) (lw wc:Nat) (ba:Option Addr) (lb bc:Nat) (sm ss um us z p lo hi h w c H V C:Int) (r:Nat) (W:World) (hr:W.heap[r]? = some (.cells #[U i6 k,U i6 a,U i6 b,U i6 m,U i6 kh,U i6 kw,U i6 sh,U i6 sw,U i6 tp,U i6 lf,U i6 bt,U i6 rt,Sl wa lw wc,Sl ba lb bc,U i6 sm,U i6 ss,U i6 um,U i6 us,U i6 z,U i6 p,U i6 lo,U i6 hi,U i6 h,U i6 w,U i6 c,U i6 H,U i6 V,U i6 C] 125 (0,0))) :
  Calls Tryz.prog 90 #[.pointer (some ⟨r,0,none⟩)] W fun e w'=>e=.returned (U i6 C)∧w'=W:=by
 obtain⟨y1,y2,y3⟩:=cells_at hr
 clear hr
 go_enter Tryz.func90,Tryz.ntmps90
 go_wp2
 go_ret
 exact⟨rfl,rfl⟩
theorem tpos_any (k a b m kh kw sh sw tp lf bt rt:Int) (wa:Option Addr) (lw wc:Nat) (ba:Option Addr) (lb bc:Nat) (sm ss um us z p lo hi h w c H V C:Int) (r:Nat) (W:World) (hr:W.heap[r]? = some (.cells #[U i6 k,U i6 a,U i6 b,U i6 m,U i6 kh,U i6 kw,U i6 sh,U i6 sw,U i6 tp,U i6 lf,U i6 bt,U i6 rt,Sl wa lw wc,Sl ba lb bc,U i6 sm,U i6 ss,U i6 um,U i6 us,U i6 z,U i6 p,U i6 lo,U i6 hi,U i6 h,U i6 w,U i6 c,U i6 H,U i6 V,U i6 C] 125 (0,0))) (g:vS H V C=true) :
  Calls Tryz.prog 91 #[.pointer (some ⟨r,0,none⟩)] W fun e w'=>e=.returned (U i6 (H*V))∧∃ n,w'=W.drewN n:=by
 obtain⟨y1,y2,y3⟩:=cells_at hr
 have p3:=vS_bd g
 clear hr g
 go_enter Tryz.func91,Tryz.ntmps91
 go_wp2
 go_quiet (fail)
 go_wp2
 go_ret
 exact⟨rfl,_,rfl⟩
theorem tbias_any (k a b m kh kw sh sw tp lf bt rt:Int) (wa:Option Addr) (lw wc:Nat) (ba:Option Addr) (lb bc:Nat) (sm ss um us z p lo hi h w c H V C:Int) (r:Nat) (W:World) (hr:W.heap[r]? = some (.cells #[U i6 k,U i6 a,U i6 b,U i6 m,U i6 kh,U i6 kw,U i6 sh,U i6 sw,U i6 tp,U i6 lf,U i6 bt,U i6 rt,Sl wa lw wc,Sl ba lb bc,U i6 sm,U i6 ss,U i6 um,U i6 us,U i6 z,U i6 p,U i6 lo,U i6 hi,U i6 h,U i6 w,U i6 c,U i6 H,U i6 V,U i6 C] 125 (0,0))) (bs:List Int) (hB:IRow .i32 W ba lb bc bs) (s:Sit k kh kw sh sw tp lf bt rt h w c H V C lw lb) (ch:Int) (hc:1≤ch∧ch≤C) :
  Calls Tryz.prog 93 #[.pointer (some ⟨r,0,none⟩),U i6 ch] W fun e w'=>e=.returned (U i6 (biA k ch bs))∧w'=W:=by
 obtain⟨y1,y2,y3⟩:=cells_at hr
 obtain⟨hk,-,hv,-,-,-,hl,-⟩:=s
 have hC:=(vS_yes hv).2.2.1
 clear hr
 by_cases k4:k=4
 ·subst k4
  rw [show biA 4 ch bs=0 from if_pos rfl]
  go_enter Tryz.func93,Tryz.ntmps93
  go_wp2
  go_ret
  exact⟨rfl,rfl⟩
 ·rw [show biA k ch bs=bs.getD (ch-1).toNat 0 from if_neg k4]
  have hl2:=(hl (by omega)).2
  obtain⟨n,rfl⟩:∃ n:Nat,ch=(n:Int)+1:=⟨(ch-1).toNat,by omega⟩
  have hm:=hB.2.2.1
  have hcc:=hB.2.1
  unfold maxLen at hm
  obtain⟨x,u,rfl,hu,hwf,hz,-⟩:=hB.at (show n<lb by omega)
  obtain⟨u1,u2⟩:=wf_i32 hwf
  have e:bs.getD ((n:Int)+1-1).toNat 0=u:=by rw [show ((n:Int)+1-1).toNat=n by omega,List.getD_eq_getElem?_getD,hz];rfl
  rw [e]
  have k4':(k == 4)=false:=by simp [k4]
  clear e hz hwf hB hl
  go_enter Tryz.func93,Tryz.ntmps93
  go_wp2
  go_ret
  exact⟨rfl,rfl⟩
theorem twei_any (k a b m kh kw sh sw tp lf bt rt:Int) (wa:Option Addr) (lw wc:Nat) (ba:Option Addr) (lb bc:Nat) (sm ss um us z p lo hi h w c H V C:Int) (r:Nat) (W:World) (hr:W.heap[r]? = some (.cells #[U i6 k,U i6 a,U i6 b,U i6 m,U i6 kh,U i6 kw,U i6 sh,U i6 sw,U i6 tp,U i6 lf,U i6 bt,U i6 rt,Sl wa lw wc,Sl ba lb bc,U i6 sm,U i6 ss,U i6 um,U i6 us,U i6 z,U i6 p,U i6 lo,U i6 hi,U i6 h,U i6 w,U i6 c,U i6 H,U i6 V,U i6 C] 125 (0,0))) (zs:List Int) (hZ:IRow .i16 W wa lw wc zs) (s:Sit k kh kw sh sw tp lf bt rt h w c H V C lw lb) (ch:Int) (hc:1≤ch∧ch≤C) (i:Nat) (hi0:(i:Int)<stR k kh kw h w c) :
  Calls Tryz.prog 117 #[.pointer (some ⟨r,0,none⟩),U i6 ch,U i6 i] W fun e w'=>e=.returned (U i6 (wgA k ch (stR k kh kw h w c) zs i))∧∃ n,w'=W.drewN n:=by
 have hL:Hid (∀ n,Calls Tryz.prog 60 #[.pointer (some ⟨r,0,none⟩)] (W.drewN n) fun e w'=>e=.returned (U i6 (stR k kh kw h w c))∧∃ m,w'=(W.drewN n).drewN m):=fun n=>tlen_any k a b m kh kw sh sw tp lf bt rt wa lw wc ba lb bc sm ss um us z p lo hi h w c H V C r (W.drewN n) hr s
 obtain⟨y1,y2,y3⟩:=cells_at hr
 obtain⟨hk,-,hv,-,-,-,hl,-,hst0,hst1⟩:=s
 have hC:=(vS_yes hv).2.2.1
 obtain⟨st,hst⟩:∃ st,stR k kh kw h w c=st:=⟨_,rfl⟩
 rw [hst] at hL hl hst0 hst1 hi0 ⊢
 clear hr hst hv
 by_cases k4:k=4
 ·subst k4
  rw [show wgA 4 ch st zs i=1 from if_pos rfl]
  go_enter Tryz.func117,Tryz.ntmps117
  go_wp2
  go_ret
  exact⟨rfl,0,rfl⟩
 ·rw [show wgA k ch st zs i=zs.getD ((ch-1)*st+i).toNat 0 from if_neg k4]
  have hl2:=(hl (by omega)).1
  obtain⟨d,rfl⟩:∃ d:Nat,ch=(d:Int)+1:=⟨(ch-1).toNat,by omega⟩
  have hm:=hZ.2.2.1
  have hcc:=hZ.2.1
  unfold maxLen at hm
  have p1:0≤(d:Int)*st:=Int.mul_nonneg (by omega) (by omega)
  have p2:(d:Int)*st+st≤C*st:=by
   have:=Int.mul_le_mul_of_nonneg_right (show (d:Int)+1≤C by omega) (show 0≤st by omega)
   rwa [Int.add_mul,Int.one_mul] at this
  obtain⟨p',ep⟩:∃ p',(d:Int)*st=p':=⟨_,rfl⟩
  rw [show (d:Int)+1-1=d by omega,ep]
  rw [ep] at p1 p2
  rw [← hl2] at p2
  obtain⟨N,eN⟩:∃ N:Nat,p'+(i:Int)=(N:Int):=⟨(p'+i).toNat,by omega⟩
  rw [eN]
  have hN:N<lw:=by omega
  obtain⟨x,u,rfl,hu,hwf,hz,-⟩:=hZ.at hN
  obtain⟨u1,u2⟩:=wf_i16 hwf
  have e:zs.getD ((N:Int)).toNat 0=u:=by rw [Int.toNat_natCast,List.getD_eq_getElem?_getD,hz];rfl
  rw [e]
  have k4':(k == 4)=false:=by simp [k4]
  have hd1:(d:Int)+1≤1024:=by omega
  have hi2:(i:Int)≤512:=by omega
  clear e hz hwf hZ hl hl2 hC hc
  go_enter Tryz.func117,Tryz.ntmps117
  go_wp2
  go_quiet ((go_at_call 60;exact Calls.quiet_of (hL.out _)))
  go_wp2
  go_ret
  exact⟨rfl,_,rfl⟩
def chF (k ch:Int):Int:=if k=2 then 0 else ch-1
def chB (k c ch:Int):Int:=if k=2 then c else ch
theorem tread_any (k a b m kh kw sh sw tp lf bt rt:Int) (wa:Option Addr) (lw wc:Nat) (ba:Option Addr) (lb bc:Nat) (sm ss um us z p lo hi h w c H V C:Int) (r:Nat) (W:World) (hr:W.heap[r]? = some (.cells #[U i6 k,U i6 a,U i6 b,U i6 m,U i6 kh,U i6 kw,U i6 sh,U i6 sw,U i6 tp,U i6 lf,U i6 bt,U i6 rt,Sl wa lw wc,Sl ba lb bc,U i6 sm,U i6 ss,U i6 um,U i6 us,U i6 z,U i6 p,U i6 lo,U i6 hi,U i6 h,U i6 w,U i6 c,U i6 H,U i6 V,U i6 C] 125 (0,0))) (ch:Int) (hc:1≤ch∧ch≤1024) :
  Calls Tryz.prog 118 #[.pointer (some ⟨r,0,none⟩),U i6 ch] W fun e w'=>e=.returned (.tuple #[U i6 (chF k ch),U i6 (chB k c ch)])∧∃ n,w'=W.drewN n:=by
 obtain⟨y1,y2,y3⟩:=cells_at hr
 clear hr
 by_cases k2:k=2
 ·subst k2
  rw [show chF 2 ch=0 from if_pos rfl,show chB 2 c ch=c from if_pos rfl]
  go_enter Tryz.func118,Tryz.ntmps118
  go_wp2
  go_quiet (fail)
  go_wp2
  go_ret2
  exact⟨rfl,_,rfl⟩
 ·rw [show chF k ch=ch-1 from if_neg k2,show chB k c ch=ch from if_neg k2]
  have k2':(k == 2)=false:=by simp [k2]
  go_enter Tryz.func118,Tryz.ntmps118
  go_wp2
  go_ret2
  exact⟨rfl,0,rfl⟩
open Go.ChangeShapes Go.WideShapes Go.ChangeAt Go.RowKit Go.Shelf
attribute [local go_sem] Oper.semAt_some
def Kept (l:List Nat) (W W':World):Prop:=∀ b∈l,∀ c t,W.heap[b]? = some (.cells c t (0,0))→W'.heap[b]? = some (.cells c t (0,0))
theorem Kept.refl (l:List Nat) (W:World):Kept l W W:=fun _ _ _ _ h=>h
theorem Kept.trans {l:List Nat} {A B C:World} (h:Kept l A B) (k:Kept l B C):Kept l A C:=fun b hb c t hc=>k b hb c t (h b hb c t hc)
theorem Kept.put {l:List Nat} (W:World) (i:Nat) (o o':Obj) (h:W.heap[i]? = some o) (ho:o.isCells=false):Kept l W (W.putObj i o'):=fun b _ _ _ hc=>by
 by_cases e:b=i
 ·subst e;rw [h] at hc;cases hc;cases ho
 ·rw [World.putObj_heap_other e];exact hc
theorem Kept.below {l:List Nat} {W W':World} (h:Below W.heap.size W W'):Kept l W W':=fun b _ _ _ hc=>(h.block b (lt_of_heap hc)).trans hc
theorem Kept.grown {l:List Nat} {W W':World} {g:Option Nat} (h:W.grownBy W' g) (hg:∀ b,g=some b→b ∉ l):Kept l W W':=fun b hb _ _ hc=>(h.block b (lt_of_heap hc) (fun e=>hg b e.symm hb)).trans hc
def Wn (W:World):Type:=Subtype fun w:World=>Below W.heap.size W w
def Wn.w {W:World} (n:Wn W):World:=n.1
theorem Wn.h {W:World} (n:Wn W):Below W.heap.size W n.w:=n.2
def Wn.mk {W:World} (w:World) (h:Below W.heap.size W w):Wn W:=Subtype.mk w h
theorem Wn.rule {W:World} {B:Nat} {c:Array Value} {t:TypeId} (h:W.heap[B]? = some (.cells c t (0,0))):∀ (n:Wn W) (i:Nat),n.w.cell? ⟨B,i,none⟩=c[i]?:=fun n i=>by
 have h0:n.w.heap[B]? = some (.cells c t (0,0)):=(n.h.block B (lt_of_heap h)).trans h
 simp [World.cell?,h0]
theorem wn_call {f:FuncId} {args:Array Value} {W:World} {n:Wn W} {m:Nat} {v:Value}
  (h:Calls Tryz.prog f args n.w fun e w'=>e=.returned v∧Below n.w.heap.size n.w w'):CallsIn Fence.wide m Tryz.prog f args n.w fun e w''=>e=.returned v∧∃ k:Wn W,w''=k.w :=
 callsIn_wide.2 (h.mono fun _ _ ⟨he,hb⟩=>⟨he,Wn.mk _ (n.h.trans (hb.mono n.h.size)),rfl⟩)
theorem grownBy_of_below {W W':World} (k:Below W.heap.size W W'):W.grownBy W' none:=⟨k.os,k.tape,k.output,k.size,fun i hi _=>k.block i hi⟩
theorem abides_below {β:Type} {B:Nat} {J:β→World→Prop} (hJ:AbidesFrom B J) {s:β} {W W':World} (h:J s W) (k:Below W.heap.size W W'):J s W' :=
 hJ s W W' none h (grownBy_of_below k) (fun r e=>by cases e)
theorem taps1_in (m:Nat) (l B1 B2 B3 B4 B5:Nat) (h w c kh kw sh sw tp lf bt rt t u:Int) (N:Nat) (J Jx:List (Int×Int)→World→Prop) (W:World)
  (hC:N=0∨Cor h w kh kw t u∧N=(kh*kw).toNat)
  (hJ:AbidesFrom W.heap.size J)
  (hY:∀ pre x W1,J pre W1→pre.length<N→YieldAt Fence.wide (m-1) Tryz.prog l #[U i6 x.1,U i6 x.2] W1 fun e W' =>
    (e=.returned (.bool true)∧J (pre++[x]) W'∧Kept [B2,B3,B4,B5] W1 W')∨(e=.returned (.bool false)∧Jx (pre++[x]) W'))
  (c1:W.heap[B1]? = some (.cells #[U i6 N] 3 (0,0))) (c2:W.heap[B2]? = some (.cells #[U i6 h,U i6 w,U i6 c] 23 (0,0))) (c3:W.heap[B3]? = some (.cells #[U i6 t] 3 (0,0)))
  (c4:W.heap[B4]? = some (.cells #[U i6 kh,U i6 kw,U i6 sh,U i6 sw,U i6 tp,U i6 lf,U i6 bt,U i6 rt] 49 (0,0))) (c5:W.heap[B5]? = some (.cells #[U i6 u] 3 (0,0))) (h0:J [] W) :
  CallsIn Fence.wide m Tryz.prog 130 #[.func (.yield l) #[] #[],.pointer (some ⟨B1,0,none⟩),.pointer (some ⟨B2,0,none⟩),.pointer (some ⟨B3,0,none⟩),.pointer (some ⟨B4,0,none⟩),.pointer (some ⟨B5,0,none⟩)] W fun e W'=>(∃ v,e=.returned v) ∧
   ((∃ ys,ys=tapL h w kw t u N∧J ys W')∨(∃ pre,(∃ k,k≤N∧pre=tapL h w kw t u k)∧Jx pre W')):=by
 have r1:W.cell? ⟨B1,0,none⟩=some (U i6 N):=by simp [World.cell?,c1]
 refine callsIn_of_wp Tryz.func130 rfl trivial ?_ rfl
 simp only [Tryz.ntmps130,List.size_toArray,List.length_cons,List.length_nil,Nat.reduceAdd,Nat.reduceSub,Array.replicate_succ,Array.replicate_zero,List.push_toArray,List.append_toArray,List.nil_append,List.cons_append]
 gi_wp2
 gi_loopw [9] (fun i wr=>∃ k:Nat,k≤N∧i=U i6 k∧J (tapL h w kw t u k) wr∧Kept [B2,B3,B4,B5] W wr)
  (fun i _=>N-(intOf i).toNat)
 case atStart=>exact⟨0,Nat.zero_le _,rfl,h0,Kept.refl _ _⟩
 case round =>
  obtain⟨k,hk,rfl,hJs,hkp⟩:=hrel
  by_cases hlt:k<N
  ·rcases hC with rfl | ⟨⟨h1,w1,q9,k1,k2,t1,u1⟩,hN⟩
   ·omega
   have d2:=hkp B2 (by simp) _ _ c2
   have d3:=hkp B3 (by simp) _ _ c3
   have d4:=hkp B4 (by simp) _ _ c4
   have d5:=hkp B5 (by simp) _ _ c5
   have e2:=Wn.rule d2
   have e3:=Wn.rule d3
   have e4:=Wn.rule d4
   have e5:=Wn.rule d5
   have p1:=Int.ediv_nonneg (show (0:Int)≤k by omega) (show 0≤kw by omega)
   have p3:=Int.mul_nonneg (show 0≤kh by omega) (show 0≤kw by omega)
   have p2:(k:Int) / kw<kh:=Int.ediv_lt_of_lt_mul (by omega) (by omega)
   have p4:=Int.emod_nonneg (k:Int) (show kw≠0 by omega)
   have p5:=Int.emod_lt_of_pos (k:Int) (show 0<kw by omega)
   have t6:=td (c:=kw) (show (0:Int)≤k by omega)
   have t7:=tm (c:=kw) (show (0:Int)≤k by omega)
   obtain⟨d,hd⟩:∃ d,(k:Int) / kw=d:=⟨_,rfl⟩
   obtain⟨e,he⟩:∃ e,(k:Int) % kw=e:=⟨_,rfl⟩
   have HT:Hid (tap h w kw t u k=((k:Int),plc h w (t+d) (u+e))):=by unfold Hid tap;rw [hd,he]
   rw [hd] at p1 p2 t6
   rw [he] at p4 p5 t7
   have kw0:¬ kw=0:=by omega
   have kN:N≤1024:=by
    have:=Int.mul_le_mul k1.2 k2.2 (by omega) (by omega)
    omega
   have HN:Hid (N=(kh*kw).toNat):=hN
   clear hd he hN p3
   have hfn:∀ f,Fence.wide.fn f:=fun _=>trivial
   have hdp:Fence.wide.depth=none:=rfl
   have hne:Nonempty (Wn wr):=⟨Wn.mk wr (Below.refl _ _)⟩
   gi_wp2
   refine region_tail_at 16 (C:=fun w'=>∃ n:Wn wr,w'=n.w) rfl rfl (by kernel_rfl) (by kernel_rfl) ⟨Wn.mk _ (Below.refl _ _).drew,rfl⟩ ?_
   simp only [List.take_succ_cons,List.take_zero,List.drop_succ_cons,List.drop_zero]
   repeat (gi_big_quiet_step (exact wn_call (place_any _ _ _ _ _ _ (by omega) (by omega) h1 w1)))
   refine wpQuietIn_nil ?_
   rintro _ ⟨n,rfl⟩
   obtain⟨fn,tmps,assign,body,hy,hR⟩:=hY (tapL h w kw t u k) (tap h w kw t u k) n.w (abides_below hJ hJs n.h) (by rw [tapL_len];exact hlt)
   rw [← tapL_succ] at hR
   rw [HT.out] at hy
   dsimp only at hy
   gi_wp2
   refine hR.mono ?_
   rintro e W3 (⟨rfl,hJ3,hk3⟩ | ⟨rfl,hJx3⟩)
   ·gi_wp2
    go_roundw
    case rel=>exact⟨k+1,by omega,by simp,hJ3,(hkp.trans (Kept.below n.h)).trans hk3⟩
    case measure=>simp [intOf];omega
   ·gi_wp2
    refine bodyPost_ret (results_none rfl _ _ _) rfl ?_
    exact⟨⟨_,rfl⟩,.inr ⟨_,⟨k+1,by omega,rfl⟩,hJx3⟩⟩
  ·obtain rfl:k=N:=by omega
   gi_wp2
   go_end0
   exact⟨⟨_,rfl⟩,.inl ⟨_,rfl,hJs⟩⟩
attribute [local go_sem] Oper.semAt_some
theorem spot_at {q y x:Nat} (hx:x<q):(((y*q+x:Nat):Int) / (q:Int),((y*q+x:Nat):Int) % (q:Int))=((y:Int),(x:Int)):=by
 have e1:((y*q+x:Nat):Int) / (q:Int)=y:=by
  rw [← Int.natCast_ediv]
  congr 1
  rw [Nat.mul_comm,Nat.mul_add_div (by omega),Nat.div_eq_of_lt hx,Nat.add_zero]
 have e2:((y*q+x:Nat):Int) % (q:Int)=x:=by
  rw [← Int.natCast_emod]
  congr 1
  rw [Nat.mul_comm,Nat.mul_add_mod,Nat.mod_eq_of_lt hx]
 rw [e1,e2]
end Go.Proofs.YtehofmkpgopmpaaGreat
