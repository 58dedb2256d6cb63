/- The document's one of layer 8, its form being right: what it returns. -/
import Derived.Test.YtccoanknofhmaaaGreatGq09
import Derived.Test.YtccoanknofhmaaaGreatGq18
namespace Go.Proofs.YtccoanknofhmaaaGreat
open Go.Value renaming int → U, slice → Sl
open Go.IntKind renaming i64 → i6
set_option maxRecDepth 100000
set_option maxHeartbeats 16000000
open Go.ChangeShapes Go.WideShapes Go.ChangeAt Go.RowKit
set_option linter.unusedVariables false
theorem le_li {k b m kh kw sh sw tp lf bt rt h w c st C sm ss um us z p:Int} {lw lb:Nat} (hk:1≤k∧k≤8) (hC:(mkS k m kh kw sh sw tp lf bt rt h w c).2.2=C) (hoz:ozB k b m kh kw sh sw tp lf bt rt lw lb sm ss um us z p=true):decide ((lw:Int)=liW k m c st∧(lb:Int)=liB k m c)=leB k C st lw lb:=by
 have ho:=of_decide_eq_true hoz
 by_cases k2:k≤2
 ·have e:C=m:=by
   rw [← hC]
   unfold mkS
   rcases (show k=1∨k=2 by omega) with rfl | rfl<;>rfl
  unfold liW liB leB
  rw [if_pos k2,if_pos k2,e]
  simp [show k≤3 by omega]
 ·by_cases k3:k=3
  ·subst k3
   have e:C=c:=by rw [← hC];rfl
   unfold liW liB leB
   rw [e]
   simp
  ·have h0:=ho.2.2.1 (by omega)
   unfold liW liB leB
   rw [if_neg k2,if_neg k3,if_neg k2,if_neg k3]
   simp [h0,show ¬ k≤3 by omega]
theorem mm2 {α:Type} {a b:α} {l:List α}:∀ x∈l,x∈a :: b :: l:=fun x hx=>List.mem_cons_of_mem _ (List.mem_cons_of_mem _ hx)
theorem mm4 {α:Type} {a b c d:α} {l:List α}:∀ x∈l,x∈a :: b :: c :: d :: l:=fun x hx=>mm2 x (mm2 x hx)
theorem onz {k m kh kw sh sw tp lf bt rt E:Int} {s:Int×Int×Int} (h:E≠0):Ending.returned (.tuple #[.agg #[U i6 0,U i6 0,U i6 0],U i6 E])=.returned (.tuple #[.agg #[U i6 (onS k m kh kw sh sw tp lf bt rt E s).1,U i6 (onS k m kh kw sh sw tp lf bt rt E s).2.1,U i6 (onS k m kh kw sh sw tp lf bt rt E s).2.2],U i6 E]):=by rw [onS_no h]
theorem rmO_of {k m kh kw sh sw tp lf bt rt h w c:Int} (q:mkW k kh kw sh sw tp lf bt rt h w c=0):rmO k m kh kw sh sw tp lf bt rt h w c=mkS k m kh kw sh sw tp lf bt rt h w c:=if_pos q
theorem one_g (k b m kh kw sh sw tp lf bt rt:Int) (wa:Option Addr) (lw cw:Nat) (ba:Option Addr) (lb cb:Nat) (sm ss um us z p lo hi:Int) (i:Nat) (W0 W:World) (g cap n:Nat) (cur:Array Value) (L:List (Int×Int×Int)) (l:List (Nat×Array Value×TypeId)) (hn:L.length=n)
  (s:St W0 W ((g,cur,23) :: l)) (hf:fmE k i b n (ozB k b m kh kw sh sw tp lf bt rt lw lb sm ss um us z p)=0) (hn65:n≤65) (hCu:Cu cur cap L) (hcap:cap≤maxLen) (hvs:∀ s∈L,vS3 s=true) (hl:lw+lb≤1000000000000000) (E:Int) (hE:opE k i b m kh kw sh sw tp lf bt rt lw lb sm ss um us z p lo hi L=E) :
  Calls Tryz.prog 77 #[.agg #[U i6 k,U i6 (i:Int),U i6 b,U i6 m,U i6 kh,U i6 kw,U i6 sh,U i6 sw,U i6 tp,U i6 lf,U i6 bt,U i6 rt,Sl wa lw cw,Sl ba lb cb,U i6 sm,U i6 ss,U i6 um,U i6 us,U i6 z,U i6 p,U i6 lo,U i6 hi],U i6 (n:Int),Sl (some ⟨g,0,none⟩) n cap] W fun e w'=>e=.returned (.tuple #[.agg #[U i6 (onS k m kh kw sh sw tp lf bt rt E (ShA L i)).1,U i6 (onS k m kh kw sh sw tp lf bt rt E (ShA L i)).2.1,U i6 (onS k m kh kw sh sw tp lf bt rt E (ShA L i)).2.2],U i6 E])∧St W0 w' ((g,cur,23) :: l):=by
 obtain⟨hk,⟨ha0,han⟩,hb6,hoz⟩:=fmE_0 hf
 have hlt:=s.lt
 have hsz:=s.size
 have hg:=hlt _ List.mem_cons_self
 have hnc:=hCu.2.1
 unfold maxLen at hcap
 have s1:=(s.new (c:=#[U i6 k,U i6 (i:Int),U i6 b,U i6 m,U i6 kh,U i6 kw,U i6 sh,U i6 sw,U i6 tp,U i6 lf,U i6 bt,U i6 rt,Sl wa lw cw,Sl ba lb cb,U i6 sm,U i6 ss,U i6 um,U i6 us,U i6 z,U i6 p,U i6 lo,U i6 hi]) (t:=42)).new (c:=#[U i6 0,U i6 0,U i6 0]) (t:=23)
 simp only [World.size_alloc] at s1
 have HF:Hid (fmE k i b L.length (ozB k b m kh kw sh sw tp lf bt rt lw lb sm ss um us z p)=0):=by rw [hn];exact hf
 have HE:Hid (opE k i b m kh kw sh sw tp lf bt rt lw lb sm ss um us z p lo hi L=E):=hE
 have hO:Hid (∀ (w:World) l0,St W0 w l0→(∀ x∈(g,cur,23) :: l,x∈l0)→∀ u v y,St W0 (((w.setCell ⟨W.heap.size+1,0,none⟩ u).setCell ⟨W.heap.size+1,1,none⟩ v).setCell ⟨W.heap.size+1,2,none⟩ y) ((g,cur,23) :: l)):=fun w l0 hw hs u v y=>hw.out3 hs (by omega) (fun q hq=>by have:=hlt q hq;omega)
 have hSp:Hid (∀ W,Calls Tryz.prog 91 #[.agg #[U i6 k,U i6 (i:Int),U i6 b,U i6 m,U i6 kh,U i6 kw,U i6 sh,U i6 sw,U i6 tp,U i6 lf,U i6 bt,U i6 rt,Sl wa lw cw,Sl ba lb cb,U i6 sm,U i6 ss,U i6 um,U i6 us,U i6 z,U i6 p,U i6 lo,U i6 hi]] W fun e w'=>e=.returned (.bool true)∧Below W.heap.size W w'):=fun W=>by rw [← hoz];exact spare_any k i b m kh kw sh sw tp lf bt rt wa lw cw ba lb cb sm ss um us z p lo hi W hk hl
 obtain⟨h,w,c,hA⟩:∃ h w c,ShA L i=(h,w,c):=⟨_,_,_,rfl⟩
 have hcur:cur[i*3]? = some (U i6 h)∧cur[i*3+1]? = some (U i6 w)∧cur[i*3+2]? = some (U i6 c):=by
  have:=hCu.at (i:=i) (by omega)
  unfold ShA at hA
  rw [Int.toNat_natCast] at hA
  rw [hA] at this
  exact this
 obtain⟨u1,u2,u3⟩:=hcur
 have hgv:vS h w c=true:=by have q:=hvs _ (ShA_mem (L:=L) (i:=i) (by omega));rw [hA] at q;exact q
 have k1:¬ k<1:=by omega
 have k8:¬ 8<k:=by omega
 have a0:¬ (i:Int)<0:=by omega
 have an:¬ (n:Int)≤(i:Int):=by omega
 have HA:Hid (ShA L i=(h,w,c)):=hA
 have HK:Hid (1≤k∧k≤8):=hk
 have HO:Hid (ozB k b m kh kw sh sw tp lf bt rt lw lb sm ss um us z p=true):=hoz
 have HC:Hid (Cu cur cap L):=hCu
 have HN:Hid (L.length=n):=hn
 clear hf hE hlt hA hoz hCu hn hvs
 go_enter Tryz.func77,Tryz.ntmps77
 go_upto_region 1 with fail
 obtain⟨wv,hwv⟩:∃ wv,(W.alloc (.cells #[U i6 k,U i6 (i:Int),U i6 b,U i6 m,U i6 kh,U i6 kw,U i6 sh,U i6 sw,U i6 tp,U i6 lf,U i6 bt,U i6 rt,Sl wa lw cw,Sl ba lb cb,U i6 sm,U i6 ss,U i6 um,U i6 us,U i6 z,U i6 p,U i6 lo,U i6 hi] 42)).alloc (.cells #[U i6 0,U i6 0,U i6 0] 23)=wv:=⟨_,rfl⟩
 rw [hwv] at s1 ⊢
 clear hwv s
 obtain⟨c1,f1,z1,c2,f2,z2,c3,f3,z3,-⟩:=s1.rules
 go_upto_region 3 with fail
 go_cut [46] (fun x wx=>x=.bool false∧wx=wv)
 case first =>
  as_aux_lemma =>
   by_cases k6:k=6
   ·subst k6
    have b0:¬ b<0:=by have:=hb6 rfl;omega
    have bn:¬ (n:Int)≤b:=by have:=hb6 rfl;omega
    go_wp2_with fail
    go_meet
    exact⟨rfl,rfl⟩
   ·have k6':(k == 6)=false:=by simpa using k6
    go_wp2_with fail
    go_meet
    exact⟨rfl,rfl⟩
 case rest =>
 obtain⟨rfl,rfl⟩:=hcut
 obtain⟨wo1,rfl⟩:∃ wo,wo=wc:=⟨_,rfl⟩
 go_upto_region 5 with fail
 go_wp2_with ((refine wpList_load_row rfl 42 (.tmp 3) rfl _ rfl 42 _ (0,0) _ s1.h2 Tryz.underlying42 rfl (by kernel_rfl) ?_))
 refine (hSp.out _).mono ?_
 rintro e w2 ⟨rfl,hb'⟩
 have s2:=s1.call hb'
 clear hb' c1 f1 c2 f2 c3 f3 hSp s1
 obtain⟨c1,f1,zw1,c2,f2,zw2,c3,f3,zw3,-⟩:=s2.rules
 go_upto_region 7 with fail
 obtain⟨mm,hmm⟩:∃ mm,mkM k m=mm:=⟨_,rfl⟩
 go_cut [64] (fun x wx=>x=.bool (!mm)∧wx=w2)
 case first =>
  as_aux_lemma =>
   unfold mkM at hmm
   by_cases k2:k≤2
   ·by_cases m1:m<1
    ·obtain rfl:=df hmm (fun q=>by have:=q k2;omega)
     go_wp2_with fail
     go_meet
     exact⟨rfl,rfl⟩
    ·by_cases m2:1024<m
     ·obtain rfl:=df hmm (fun q=>by have:=q k2;omega)
      go_wp2_with fail
      go_meet
      exact⟨by simp,rfl⟩
     ·obtain rfl:=dt hmm (fun q=>by omega)
      go_wp2_with fail
      go_meet
      exact⟨by first | rfl | (simp;done) | (simp;omega),rfl⟩
   ·obtain rfl:=dt hmm (fun q=>by omega)
    go_wp2_with fail
    go_meet
    exact⟨rfl,rfl⟩
 case rest =>
 obtain⟨rfl,rfl⟩:=hcut
 obtain⟨wo2,rfl⟩:∃ wo,wo=wc:=⟨_,rfl⟩
 cases mm with
 | false =>
  as_aux_lemma =>
   have e2:E=2:=HE.out.symm.trans (op_2 HF HA.out (mkE_M hmm) (by decide))
   subst e2
   go_wp2
   exact bodyPost_ret (v:=.tuple #[.agg #[U i6 0,U i6 0,U i6 0],U i6 2]) (by simp [results,Tryz.results77,go_sem, *]) rfl ⟨onz (by decide),hO.out _ _ s2 mm2 _ _ _⟩
 | true =>
 have hM':k≤2→1≤m∧m≤1024:=of_decide_eq_true hmm
 have b1:(0:Int)≤(i:Int):=by omega
 have b2:(i:Int)<(n:Int):=by omega
 have b3:i<n:=by omega
 go_upto_region 9 with fail
 go_upto_region 10 with fail
 have s3:=s2.new (c:=#[U i6 h,U i6 w,U i6 c]) (t:=23)
 obtain⟨w3,hw3⟩:∃ w3,wo2.alloc (.cells #[U i6 h,U i6 w,U i6 c] 23)=w3:=⟨_,rfl⟩
 rw [hw3] at s3 ⊢
 clear hw3 c1 f1 c2 f2 c3 f3
 obtain⟨c1,f1,zx1,c2,f2,zx2,c3,f3,zx3,c4,f4,zx4,-⟩:=s3.rules
 obtain⟨y,hy⟩:∃ y,mkW k kh kw sh sw tp lf bt rt h w c=y:=⟨_,rfl⟩
 obtain⟨H,V,C,hR⟩:∃ H V C,rmO k m kh kw sh sw tp lf bt rt h w c=(H,V,C):=⟨_,_,_,rfl⟩
 have hMk:Hid (∀ W,Calls Tryz.prog 92 #[.agg #[U i6 k,U i6 (i:Int),U i6 b,U i6 m,U i6 kh,U i6 kw,U i6 sh,U i6 sw,U i6 tp,U i6 lf,U i6 bt,U i6 rt,Sl wa lw cw,Sl ba lb cb,U i6 sm,U i6 ss,U i6 um,U i6 us,U i6 z,U i6 p,U i6 lo,U i6 hi],.agg #[U i6 h,U i6 w,U i6 c]] W fun e w'=>e=.returned (.tuple #[.agg #[U i6 H,U i6 V,U i6 C],U i6 y])∧Below W.heap.size W w'):=fun W=>by
  have:=rmk_any k i b m kh kw sh sw tp lf bt rt wa lw cw ba lb cb sm ss um us z p lo hi h w c W HK.out
  rw [hR,hy] at this
  exact this
 go_wp2_with ((refine wpList_load_row rfl 42 (.tmp 3) rfl _ rfl 42 _ (0,0) _ s3.h3 Tryz.underlying42 rfl (by kernel_rfl) ?_))
 refine (hMk.out _).mono ?_
 rintro e w4 ⟨rfl,hb'⟩
 have s4:=s3.call hb'
 clear hb' c1 f1 c2 f2 c3 f3 c4 f4 hMk
 go_upto_region 11 with fail
 have s5:=s4.new (c:=#[U i6 H,U i6 V,U i6 C]) (t:=23)
 obtain⟨w5,hw5⟩:∃ w5,w4.alloc (.cells #[U i6 H,U i6 V,U i6 C] 23)=w5:=⟨_,rfl⟩
 rw [hw5] at s5 ⊢
 clear hw5 s3 s4
 obtain⟨c1,f1,zy1,c2,f2,zy2,c3,f3,zy3,c4,f4,zy4,c5,f5,zy5,-⟩:=s5.rules
 by_cases hy0:y=0
 rotate_left
 ·have e2:E=y:=HE.out.symm.trans (op_2 HF HA.out (mkE_W hmm hy hy0) hy0)
  subst e2
  have hy0':Hid (E≠0):=hy0
  go_wp2
  exact bodyPost_ret (v:=.tuple #[.agg #[U i6 0,U i6 0,U i6 0],U i6 E]) (by simp [results,Tryz.results77,go_sem, *]) rfl ⟨onz hy0'.out,hO.out _ _ s5 mm4 _ _ _⟩
 subst hy0
 rw [rmO_of hy] at hR
 go_upto_region 13 with fail
 obtain⟨nb,hnb⟩:∃ nb,decide (k=6∧ShA L i≠ShA L b)=nb:=⟨_,rfl⟩
 obtain⟨vb,hvb⟩:∃ vb,vS H V C=vb:=⟨_,rfl⟩
 have hVd:Hid (∀ W,Calls Tryz.prog 75 #[.agg #[U i6 H,U i6 V,U i6 C]] W fun e w'=>e=.returned (.bool vb)∧Below W.heap.size W w'):=fun W=>by rw [← hvb];exact rvalid_any H V C W
 clear c1 f1 c2 f2 c3 f3 c4 f4 c5 f5
 go_cut [97] (fun x wx=>x=.bool (nb || !vb)∧St W0 wx ((w4.heap.size,#[U i6 H,U i6 V,U i6 C],23) :: (wo2.heap.size,#[U i6 h,U i6 w,U i6 c],23) :: (W.heap.size+1,#[U i6 0,U i6 0,U i6 0],23) :: (W.heap.size,#[U i6 k,U i6 (i:Int),U i6 b,U i6 m,U i6 kh,U i6 kw,U i6 sh,U i6 sw,U i6 tp,U i6 lf,U i6 bt,U i6 rt,Sl wa lw cw,Sl ba lb cb,U i6 sm,U i6 ss,U i6 um,U i6 us,U i6 z,U i6 p,U i6 lo,U i6 hi],42) :: (g,cur,23) :: l))
 case first =>
  as_aux_lemma =>
   by_cases k6:k=6
   ·subst k6
    obtain⟨j,rfl⟩:=Int.eq_ofNat_of_zero_le (hb6 rfl).1
    have hj:j<n:=by have:=(hb6 rfl).2;omega
    have bj1:(0:Int)≤(j:Int):=by omega
    have bj2:(j:Int)<(n:Int):=by omega
    obtain⟨h',v',c',hB'⟩:∃ h' v' c',ShA L j=(h',v',c'):=⟨_,_,_,rfl⟩
    have hcur2:cur[j*3]? = some (U i6 h')∧cur[j*3+1]? = some (U i6 v')∧cur[j*3+2]? = some (U i6 c'):=by
     have:=HC.out.at (i:=j) (by have:=HN.out;omega)
     unfold ShA at hB'
     rw [Int.toNat_natCast] at hB'
     rw [hB'] at this
     exact this
    obtain⟨r1,r2,r3⟩:=hcur2
    obtain⟨eb,heb⟩:∃ eb,decide (h'=h∧v'=w∧c'=c)=eb:=⟨_,rfl⟩
    have qn:=ne3 23 rfl h' v' c' h w c eb heb
    have hnb':nb = !eb:=by
     rw [← hnb,← heb,HA.out,hB',Bool.eq_iff_iff]
     simp
     omega
    clear hnb heb hB'
    subst hnb'
    obtain⟨q1,y1,q2,y2,q3,y3,q4,y4,q5,y5,-⟩:=rulesQ_st s5
    have hne:=Nonempty.intro (Wd.mk _ s5)
    cases eb with
    | true =>
     refine region_held s5 (by kernel_rfl) (by kernel_rfl) ?_
     repeat (go_big_quiet_step ((go_at_call 75;exact held_of (hVd.out _))))
     refine wpQuiet_nil ?_
     intro _ hw'
     obtain⟨nq,rfl⟩:=hw'
     refine (show ∀ a' w',Met _ a' w'→_ from by assumption) _ _ ?_
     go_meet
     exact⟨rfl,nq.h⟩
    | false =>
     refine region_held s5 (by kernel_rfl) (by kernel_rfl) ?_
     repeat (go_big_quiet_step (fail))
     refine wpQuiet_nil ?_
     intro _ hw'
     obtain⟨nq,rfl⟩:=hw'
     refine (show ∀ a' w',Met _ a' w'→_ from by assumption) _ _ ?_
     go_meet
     exact⟨rfl,nq.h⟩
   ·have k6':(k == 6)=false:=by simpa using k6
    have hnb':nb=false:=by rw [← hnb];exact decide_eq_false (fun q=>k6 q.1)
    clear hnb
    subst hnb'
    obtain⟨q1,y1,q2,y2,q3,y3,q4,y4,q5,y5,-⟩:=rulesQ_st s5
    have hne:=Nonempty.intro (Wd.mk _ s5)
    refine region_held s5 (by kernel_rfl) (by kernel_rfl) ?_
    repeat (go_big_quiet_step ((go_at_call 75;exact held_of (hVd.out _))))
    refine wpQuiet_nil ?_
    intro _ hw'
    obtain⟨nq,rfl⟩:=hw'
    refine (show ∀ a' w',Met _ a' w'→_ from by assumption) _ _ ?_
    go_meet
    exact⟨by simp,nq.h⟩
 case rest =>
 obtain⟨rfl,s6⟩:=hcut
 obtain⟨wo3,rfl⟩:∃ wo,wo=wc:=⟨_,rfl⟩
 clear s5 hVd
 obtain⟨c1,f1,zz1,c2,f2,zz2,c3,f3,zz3,c4,f4,zz4,c5,f5,zz5,-⟩:=s6.rules
 cases vb with
 | false =>
  as_aux_lemma =>
   have e2:E=50:=HE.out.symm.trans (op_2 HF HA.out (mkE_V hmm hy (by rw [hR];exact hvb)) (by decide))
   subst e2
   simp only [Bool.not_false,Bool.or_true]
   go_wp2
   exact bodyPost_ret (v:=.tuple #[.agg #[U i6 0,U i6 0,U i6 0],U i6 50]) (by simp [results,Tryz.results77,go_sem, *]) rfl ⟨onz (by decide),hO.out _ _ s6 mm4 _ _ _⟩
 | true =>
 have hx:mkE k m kh kw sh sw tp lf bt rt h w c=0:=mkE_0 hmm hy (by rw [hR];exact hvb)
 cases nb with
 | true =>
  as_aux_lemma =>
   have e2:E=50:=HE.out.symm.trans (op_3 HF HA.out hx (of_decide_eq_true hnb))
   subst e2
   simp only [Bool.true_or]
   go_wp2
   exact bodyPost_ret (v:=.tuple #[.agg #[U i6 0,U i6 0,U i6 0],U i6 50]) (by simp [results,Tryz.results77,go_sem, *]) rfl ⟨onz (by decide),hO.out _ _ s6 mm4 _ _ _⟩
 | false =>
 simp only [Bool.not_true,Bool.or_false]
 obtain⟨st,hst⟩:∃ st,stR k kh kw h w c=st:=⟨_,rfl⟩
 obtain⟨st1,st2⟩:1≤st∧st≤1048576:=by rw [← hst];exact stR_bd HK.out hgv (mkE_win hx)
 have hLe:Hid (rdB k=true→∀ W,Calls Tryz.prog 35 #[.agg #[U i6 k,U i6 (i:Int),U i6 b,U i6 m,U i6 kh,U i6 kw,U i6 sh,U i6 sw,U i6 tp,U i6 lf,U i6 bt,U i6 rt,Sl wa lw cw,Sl ba lb cb,U i6 sm,U i6 ss,U i6 um,U i6 us,U i6 z,U i6 p,U i6 lo,U i6 hi],.agg #[U i6 h,U i6 w,U i6 c]] W fun e w'=>e=.returned (U i6 st)∧Below W.heap.size W w'):=fun hr W=>by rw [← hst];exact length_any k i b m kh kw sh sw tp lf bt rt wa lw cw ba lb cb sm ss um us z p lo hi h w c W hr hgv (mkE_win hx)
 go_upto_region 15 with fail
 obtain⟨rb,hrb⟩:∃ rb,decide (rdB k=true∧512<st)=rb:=⟨_,rfl⟩
 go_cut [107] (fun x wx=>x=.bool rb∧St W0 wx ((w4.heap.size,#[U i6 H,U i6 V,U i6 C],23) :: (wo2.heap.size,#[U i6 h,U i6 w,U i6 c],23) :: (W.heap.size+1,#[U i6 0,U i6 0,U i6 0],23) :: (W.heap.size,#[U i6 k,U i6 (i:Int),U i6 b,U i6 m,U i6 kh,U i6 kw,U i6 sh,U i6 sw,U i6 tp,U i6 lf,U i6 bt,U i6 rt,Sl wa lw cw,Sl ba lb cb,U i6 sm,U i6 ss,U i6 um,U i6 us,U i6 z,U i6 p,U i6 lo,U i6 hi],42) :: (g,cur,23) :: l))
 case first =>
  as_aux_lemma =>
   cases hr:rdB k with
   | false =>
    obtain rfl:=df hrb (fun q=>by rw [hr] at q;cases q.1)
    go_wp2_with fail
    refine (rred_any _ _).mono ?_
    rintro e w' ⟨rfl,rfl⟩
    rw [hr]
    go_wp2_with fail
    go_meet
    exact⟨rfl,s6⟩
   | true =>
    obtain rfl:rb=decide (512<st):=by rw [← hrb];simp [hr]
    go_wp2_with fail
    refine (rred_any _ _).mono ?_
    rintro e w' ⟨rfl,rfl⟩
    rw [hr]
    go_wp2_with (refine wpList_load_row_g (by rfl) 42 (.tmp 3) rfl _ rfl 42 _ (0,0) _ s6.h4 Tryz.underlying42 rfl (by kernel_rfl) ?_)
    refine (hLe.out hr _).mono ?_
    rintro e w6 ⟨rfl,hb'⟩
    have s7:=s6.call hb'
    clear hb'
    go_wp2_with fail
    go_meet
    exact⟨rfl,s7⟩
 case rest =>
 obtain⟨rfl,s7⟩:=hcut
 obtain⟨wo4,rfl⟩:∃ wo,wo=wc:=⟨_,rfl⟩
 clear c1 f1 c2 f2 c3 f3 c4 f4 c5 f5 s6 hLe
 obtain⟨c1,f1,za1,c2,f2,za2,c3,f3,za3,c4,f4,za4,c5,f5,za5,-⟩:=s7.rules
 have hnn:=of_decide_eq_false hnb
 cases rb with
 | true =>
  as_aux_lemma =>
   have e2:E=84:=HE.out.symm.trans (op_4 HF HA.out hx hnn hst (of_decide_eq_true hrb))
   subst e2
   go_wp2
   exact bodyPost_ret (v:=.tuple #[.agg #[U i6 0,U i6 0,U i6 0],U i6 84]) (by simp [results,Tryz.results77,go_sem, *]) rfl ⟨onz (by decide),hO.out _ _ s7 mm4 _ _ _⟩
 | false =>
 have hC3:(mkS k m kh kw sh sw tp lf bt rt h w c).2.2=C:=by rw [hR]
 have hNu:Hid (E=nuE k C st lw lb sm ss um us z p lo hi):=HE.out.symm.trans (op_n HF HA.out hx hC3 hnn hst (of_decide_eq_false hrb))
 obtain⟨X,hX⟩:∃ X,liW k m c st=X:=⟨_,rfl⟩
 obtain⟨Y,hY⟩:∃ Y,liB k m c=Y:=⟨_,rfl⟩
 have hLi:Hid (∀ W,Calls Tryz.prog 93 #[.agg #[U i6 k,U i6 (i:Int),U i6 b,U i6 m,U i6 kh,U i6 kw,U i6 sh,U i6 sw,U i6 tp,U i6 lf,U i6 bt,U i6 rt,Sl wa lw cw,Sl ba lb cb,U i6 sm,U i6 ss,U i6 um,U i6 us,U i6 z,U i6 p,U i6 lo,U i6 hi],.agg #[U i6 h,U i6 w,U i6 c]] W fun e w'=>e=.returned (.tuple #[U i6 X,U i6 Y])∧Below W.heap.size W w'):=fun W=>by rw [← hX,← hY];exact lists_any k i b m kh kw sh sw tp lf bt rt wa lw cw ba lb cb sm ss um us z p lo hi h w c st W HK.out hgv (mkE_win hx) hst ⟨st1,st2⟩ hM'
 have hle:=le_li (b:=b) (st:=st) (lw:=lw) (lb:=lb) (sm:=sm) (ss:=ss) (um:=um) (us:=us) (z:=z) (p:=p) HK.out hC3 HO.out
 rw [hX,hY] at hle
 clear hX hY
 go_upto_region 17 with fail
 go_wp2_with ((refine wpList_load_row rfl 42 (.tmp 3) rfl _ rfl 42 _ (0,0) _ s7.h4 Tryz.underlying42 rfl (by kernel_rfl) ?_))
 refine (hLi.out _).mono ?_
 rintro e w8 ⟨rfl,hb'⟩
 have s8:=s7.call hb'
 clear hb' c1 f1 c2 f2 c3 f3 c4 f4 c5 f5 s7 hLi
 obtain⟨c1,f1,zb1,c2,f2,zb2,c3,f3,zb3,c4,f4,zb4,c5,f5,zb5,-⟩:=s8.rules
 go_upto_region 18 with fail
 obtain⟨lq,hlq⟩:∃ lq,leB k C st lw lb=lq:=⟨_,rfl⟩
 rw [hlq] at hle
 go_cut [126] (fun x wx=>x=.bool (!lq)∧wx=w8)
 case first =>
  as_aux_lemma =>
   by_cases lx:(lw:Int)=X
   ·by_cases ly:(lb:Int)=Y
    ·obtain rfl:=dt hle ⟨lx,ly⟩
     subst lx ly
     go_wp2_with fail
     go_meet
     exact⟨by first | rfl | (simp;done),rfl⟩
    ·obtain rfl:=df hle (fun q=>ly q.2)
     have ly':((lb:Int) == Y)=false:=by simpa using ly
     subst lx
     go_wp2_with fail
     go_meet
     exact⟨by first | rfl | (simp;done) | (simp [ly];done) | simp [bne,ly'],rfl⟩
   ·obtain rfl:=df hle (fun q=>lx q.1)
    have lx':((lw:Int) == X)=false:=by simpa using lx
    go_wp2_with fail
    go_meet
    exact⟨by first | rfl | (simp;done) | (simp [lx];done) | simp [bne,lx'],rfl⟩
 case rest =>
 obtain⟨rfl,rfl⟩:=hcut
 obtain⟨wo5,rfl⟩:∃ wo,wo=wc:=⟨_,rfl⟩
 clear hle
 cases lq with
 | false =>
  as_aux_lemma =>
   have e2:E=70:=by rw [hNu.out];unfold nuE;rw [if_pos hlq]
   subst e2
   go_wp2
   exact bodyPost_ret (v:=.tuple #[.agg #[U i6 0,U i6 0,U i6 0],U i6 70]) (by simp [results,Tryz.results77,go_sem, *]) rfl ⟨onz (by decide),hO.out _ _ s8 mm4 _ _ _⟩
 | true =>
 go_upto_region 20 with fail
 obtain⟨sq,hsq⟩:∃ sq,ssB k sm ss um us=sq:=⟨_,rfl⟩
 go_cut [155] (fun x wx=>x=.bool (!sq)∧wx=wo5)
 case first =>
  as_aux_lemma =>
   unfold ssB at hsq
   cases hs1:scK k with
   | false =>
    have k6:k≠6:=fun e=>by subst e;cases hs1
    have k6':(k == 6)=false:=by simpa using k6
    obtain rfl:sq=true:=by rw [← hsq,hs1,k6'];rfl
    go_wp2_with fail
    refine (scal_any _ _).mono ?_
    rintro e w' ⟨rfl,rfl⟩
    rw [hs1]
    go_wp2_with fail
    go_meet
    exact⟨by first | rfl | simp,rfl⟩
   | true =>
    cases hs2:scB sm ss with
    | false =>
     obtain rfl:sq=false:=by rw [← hsq,hs1,hs2];rfl
     go_wp2_with fail
     refine (scal_any _ _).mono ?_
     rintro e w' ⟨rfl,rfl⟩
     rw [hs1]
     go_wp2_with fail
     refine (refvalid_any _ _ _).mono ?_
     rintro e w' ⟨rfl,rfl⟩
     rw [hs2]
     go_wp2_with fail
     go_meet
     exact⟨by first | rfl | simp,rfl⟩
    | true =>
     by_cases k6:k=6
     ·subst k6
      obtain rfl:sq=scB um us:=by rw [← hsq,hs1,hs2];simp
      go_wp2_with fail
      refine (scal_any _ _).mono ?_
      rintro e w' ⟨rfl,rfl⟩
      rw [hs1]
      go_wp2_with fail
      refine (refvalid_any _ _ _).mono ?_
      rintro e w' ⟨rfl,rfl⟩
      rw [hs2]
      go_wp2_with fail
      refine (refvalid_any _ _ _).mono ?_
      rintro e w' ⟨rfl,rfl⟩
      go_wp2_with fail
      go_meet
      exact⟨by first | rfl | simp,rfl⟩
     ·have k6':(k == 6)=false:=by simpa using k6
      obtain rfl:sq=true:=by rw [← hsq,hs1,hs2,k6'];rfl
      go_wp2_with fail
      refine (scal_any _ _).mono ?_
      rintro e w' ⟨rfl,rfl⟩
      rw [hs1]
      go_wp2_with fail
      refine (refvalid_any _ _ _).mono ?_
      rintro e w' ⟨rfl,rfl⟩
      rw [hs2]
      go_wp2_with fail
      go_meet
      exact⟨by first | rfl | simp,rfl⟩
 case rest =>
 obtain⟨rfl,rfl⟩:=hcut
 obtain⟨wo6,rfl⟩:∃ wo,wo=wc:=⟨_,rfl⟩
 cases sq with
 | false =>
  as_aux_lemma =>
   have e2:E=20:=by rw [hNu.out];unfold nuE;rw [if_neg (by rw [hlq];decide),if_pos hsq]
   subst e2
   go_wp2
   exact bodyPost_ret (v:=.tuple #[.agg #[U i6 0,U i6 0,U i6 0],U i6 20]) (by simp [results,Tryz.results77,go_sem, *]) rfl ⟨onz (by decide),hO.out _ _ s8 mm4 _ _ _⟩
 | true =>
 go_upto_region 22 with fail
 obtain⟨rq,hrq⟩:∃ rq,rzB z p lo hi=rq:=⟨_,rfl⟩
 go_cut [185] (fun x wx=>x=.bool (!rq)∧wx=wo6)
 case first =>
  as_aux_lemma =>
   unfold rzB rgB at hrq
   cases v1:vlB lo with
   | false =>
    obtain rfl:rq=false:=by rw [← hrq,v1];rfl
    go_wp2_with fail
    refine (rval_any _ _).mono ?_
    rintro e w' ⟨rfl,rfl⟩
    rw [v1]
    go_wp2_with fail
    go_meet
    exact⟨by first | rfl | simp,rfl⟩
   | true =>
    cases v2:vlB hi with
    | false =>
     obtain rfl:rq=false:=by rw [← hrq,v1,v2];rfl
     go_wp2_with fail
     refine (rval_any _ _).mono ?_
     rintro e w' ⟨rfl,rfl⟩
     rw [v1]
     go_wp2_with fail
     refine (rval_any _ _).mono ?_
     rintro e w' ⟨rfl,rfl⟩
     rw [v2]
     go_wp2_with fail
     go_meet
     exact⟨by first | rfl | simp,rfl⟩
    | true =>
     by_cases v3:hi<lo
     ·obtain rfl:rq=false:=by rw [← hrq,v1,v2,decide_eq_false (show ¬ lo≤hi by omega)];rfl
      go_wp2_with fail
      refine (rval_any _ _).mono ?_
      rintro e w' ⟨rfl,rfl⟩
      rw [v1]
      go_wp2_with fail
      refine (rval_any _ _).mono ?_
      rintro e w' ⟨rfl,rfl⟩
      rw [v2]
      go_wp2_with fail
      go_meet
      exact⟨by first | rfl | simp,rfl⟩
     ·cases v4:vlB z with
      | false =>
       obtain rfl:rq=false:=by rw [← hrq,v1,v2,v4];simp
       go_wp2_with fail
       refine (rval_any _ _).mono ?_
       rintro e w' ⟨rfl,rfl⟩
       rw [v1]
       go_wp2_with fail
       refine (rval_any _ _).mono ?_
       rintro e w' ⟨rfl,rfl⟩
       rw [v2]
       go_wp2_with fail
       refine (rval_any _ _).mono ?_
       rintro e w' ⟨rfl,rfl⟩
       rw [v4]
       go_wp2_with fail
       go_meet
       exact⟨by first | rfl | simp,rfl⟩
      | true =>
       obtain rfl:rq=vlB p:=by rw [← hrq,v1,v2,v4,decide_eq_true (show lo≤hi by omega)];simp
       go_wp2_with fail
       refine (rval_any _ _).mono ?_
       rintro e w' ⟨rfl,rfl⟩
       rw [v1]
       go_wp2_with fail
       refine (rval_any _ _).mono ?_
       rintro e w' ⟨rfl,rfl⟩
       rw [v2]
       go_wp2_with fail
       refine (rval_any _ _).mono ?_
       rintro e w' ⟨rfl,rfl⟩
       rw [v4]
       go_wp2_with fail
       refine (rval_any _ _).mono ?_
       rintro e w' ⟨rfl,rfl⟩
       go_wp2_with fail
       go_meet
       exact⟨by first | rfl | (simp;intro q;omega),rfl⟩
 case rest =>
 obtain⟨rfl,rfl⟩:=hcut
 obtain⟨wo7,rfl⟩:∃ wo,wo=wc:=⟨_,rfl⟩
 cases rq with
 | false =>
  as_aux_lemma =>
   have e2:E=85:=by rw [hNu.out];unfold nuE;rw [if_neg (by rw [hlq];decide),if_neg (by rw [hsq];decide),if_pos hrq]
   subst e2
   go_wp2
   exact bodyPost_ret (v:=.tuple #[.agg #[U i6 0,U i6 0,U i6 0],U i6 85]) (by simp [results,Tryz.results77,go_sem, *]) rfl ⟨onz (by decide),hO.out _ _ s8 mm4 _ _ _⟩
 | true =>
 have e2:E=0:=by rw [hNu.out];unfold nuE;rw [if_neg (by rw [hlq];decide),if_neg (by rw [hsq];decide),if_neg (by rw [hrq];decide)]
 subst e2
 have hon:Hid (onS k m kh kw sh sw tp lf bt rt 0 (ShA L i)=(H,V,C)):=by unfold Hid onS mk3;rw [if_pos rfl,HA.out];exact hR
 go_wp2
 exact bodyPost_ret (v:=.tuple #[.agg #[U i6 H,U i6 V,U i6 C],U i6 0]) (by simp [results,Tryz.results77,go_sem, *]) rfl ⟨by rw [hon.out],hO.out _ _ s8 mm4 _ _ _⟩
end Go.Proofs.YtccoanknofhmaaaGreat
