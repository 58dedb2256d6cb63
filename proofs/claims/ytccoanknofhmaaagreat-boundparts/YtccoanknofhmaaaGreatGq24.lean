/- What the closures of Total, Run, Product and Part of package bound take of a row of ends. What the closure of Part of package bound takes of a row of ends: block by block. What is known of what the four calls of package bound take. An op alone, in plain numbers: whatever its kind is, the model of it and of the tensor that it reads is well-formed. What Total, Run, Part and Product of package bound return. The walks of Total, Run, Part and Product of package bound. What Total, Run, Part and Product answer of a model: the error, or the hull. -/
import Derived.Test.YtccoanknofhmaaaGreatGq14
import Derived.Test.YtccoanknofhmaaaGreatGq15
import Derived.Test.YtccoanknofhmaaaGreatGq23
import Derived.Deep.RegionWith
import Derived.Deep.DeepCutAuto
namespace Go.Proofs.YtccoanknofhmaaaGreat
open Go.Value renaming int → U, slice → Sl
open Go.IntKind renaming i64 → i6
set_option maxRecDepth 100000
set_option maxHeartbeats 16000000
open Go.ChangeShapes Go.WideShapes Go.ChangeAt Go.RowKit Go.Shelf
set_option linter.unusedVariables false
attribute [local go_sem] Oper.semAt_some
theorem vd_bi {bi:Int} (h:-2147483648≤bi∧bi≤2147483647):Vd 4294967296 (bi,bi):=by unfold Vd;simp only;omega
theorem app_vd {L M:List (Int×Int)} (h:∀ y∈L,Vd 10000000000 y) (g:∀ y∈M,Vd 10000000000 y):∀ y∈L++M,Vd 10000000000 y:=fun y hy=>by
 rcases List.mem_append.1 hy with q | q
 ·exact h y q
 ·exact g y q
theorem getD_vd {E:List (Int×Int)} (hE:Rb E) {k:Nat} (hk:k<E.length):Vd 10000000000 (E.getD k (0,0)):=by
 rw [List.getD_eq_getElem?_getD,List.getElem?_eq_getElem hk]
 exact hE.vd _ (List.getElem_mem _)
theorem ruT_vd {E:List (Int×Int)} {s:Int×Int} (hE:Rb E) (hl:E.length≤512) (h:Vd 4294967296 s) (k:Nat):∀ x∈ruT s E k,Vd 10000000000 x:=fun x hx=>by
 unfold ruT at hx
 obtain⟨j,-,rfl⟩:=List.mem_map.1 hx
 exact suS_vd (hE.take j) (by rw [List.length_take];omega) h
theorem cprd_any (W:World) (v:Value) (E L:List (Int×Int)) (nb b:Nat) (hE:Rb E) (h0:0<E.length) (hl:E.length≤512) (hv:SpV W v E) (hn:Nb nb v) (hb:b+1≤nb) (hT:Tk W b L) (hL:∀ y∈L,Vd 10000000000 y) :
  Calls Tryz.prog 23 #[v,fTk b] W fun e w'=>(∃ u,e=.returned u)∧Tk w' b (L++E)∧Tch b W w':=by
 obtain⟨va,vc,rfl,h2,h3,h4⟩:=hv
 obtain⟨N,hN⟩:∃ N,E.length=N:=⟨_,rfl⟩
 have HB:Hid (∀ (k:Nat) (x:Int×Int) (w:World),Tk w b (L++E.take k)→Vd 10000000000 x→_):=fun k x w t hx=>btake_any b x (L++E.take k) w t (app_vd hL fun y hy=>hE.vd y (List.mem_of_mem_take hy)) hx
 have HV:Hid (∀ k,k<N→Vd 10000000000 (E.getD k (0,0))):=fun k hk=>getD_vd hE (by omega)
 have HN:Hid (E.length=N):=hN
 have HT:Hid (Tk W b L):=hT
 have HNb:Hid (Nb nb (.slice va N vc)):=by rw [← hN];exact hn
 rw [hN] at h2 h4 hl ⊢
 have H4:Hid (0<N→_):=h4
 unfold maxLen at h3
 clear h4 hN hE hn hT hL h0
 unfold fTk
 go_enter Tryz.func23,Tryz.ntmps23
 go_wp2
 go_loopw [8] (fun i wr=>∃ k:Nat,k≤N∧i=U i6 k∧Tk wr b (L++E.take k)∧Tch b W wr) (fun i _=>N-(intOf i).toNat)
 case atStart=>exact⟨0,Nat.zero_le _,rfl,by simpa using HT.out,Tch.refl _ _⟩
 case round =>
  obtain⟨k,hk,rfl,tk,tc⟩:=hrel
  by_cases hlt:k<N
  ·obtain⟨g,o,rfl,hc⟩:=H4.out (by omega)
   have hkE:k<E.length:=by rw [HN.out];exact hlt
   obtain⟨q1,q2⟩:=SpV.at hc hkE
   have hg:nb≤g:=HNb.out ⟨g,o,none⟩ _ _ rfl
   have hve:=HV.out k hlt
   obtain⟨e1,e2,he⟩:∃ e1 e2,E.getD k (0,0)=(e1,e2):=⟨_,_,rfl⟩
   have HS:Hid (L++E.take (k+1)=(L++E.take k)++[(e1,e2)]):=by unfold Hid;rw [take_snoc hkE he,List.append_assoc]
   rw [he] at q1 q2 hve
   simp only at q1 q2
   have p1:=tc.cell q1 (by omega)
   have p2:=tc.cell q2 (by omega)
   have HC:Hid (Calls _ _ _ _ _):=HB.out k (e1,e2) _ (tk.below (bal wr (.cells #[U i6 e1,U i6 e2] 28))) hve
   have TC:Hid (Tch b W (wr.alloc (.cells #[U i6 e1,U i6 e2] 28))):=tc.bel (bal _ _)
   clear q1 q2 hc he hve H4 HV HB tk tc HT hkE
   go_wp2_with fail
   refine HC.out.mono ?_
   rintro e w3 ⟨⟨u,rfl⟩,tk3,tc3⟩
   have T3:Hid (Tk w3 b _):=tk3
   have C3:Hid (Tch b W w3):=TC.out.trans tc3
   clear tk3 tc3 HC TC p1 p2
   go_wp2
   go_roundw
   case rel=>exact⟨k+1,by omega,by go_num,by rw [HS.out];exact T3.out,C3.out⟩
   case measure=>simp [intOf];omega
  ·obtain rfl:k=N:=by omega
   have T3:Hid (Tk wr b (L++E)):=by rw [List.take_of_length_le (by rw [HN.out];exact Nat.le_refl _)] at tk;exact tk
   have C3:Hid (Tch b W wr):=tc
   clear tk tc H4
   go_wp2
   go_end0
   exact⟨⟨_,rfl⟩,T3.out,C3.out⟩
theorem ctot_any (ch n:Int) (fa:Option Addr) (fl fc:Nat) (bi slo shi p h w c:Int) (g0:Nat) (q:Nat) (W:World) (hq:W.heap[q]? = some (.cells #[U i6 ch,U i6 n,Sl fa fl fc,U i6 bi,U i6 slo,U i6 shi,U i6 p,U i6 p,U i6 h,U i6 w,U i6 c,U i6 0,U i6 0,Sl (some ⟨g0,0,none⟩) 1 1,U i6 0] 55 (0,0))) (hbi:-2147483648≤bi∧bi≤2147483647) (v:Value) (E L:List (Int×Int)) (nb b:Nat) (hE:Rb E) (h0:0<E.length) (hl:E.length≤512) (hv:SpV W v E) (hn:Nb nb v) (hb:b+1≤nb) (hT:Tk W b L) (hL:∀ y∈L,Vd 10000000000 y) :
  Calls Tryz.prog 19 #[v,fTk b,.pointer (some ⟨q,0,none⟩)] W fun e w'=>(∃ u,e=.returned u)∧Tk w' b (L++[suS (bi,bi) E])∧Tch b W w':=by
 obtain⟨y1,y2,y3⟩:=cells_at hq
 obtain⟨va,vc,rfl,h2,h3,h4⟩:=hv
 obtain⟨N,hN⟩:∃ N,E.length=N:=⟨_,rfl⟩
 have HB:Hid (∀ (x:Int×Int) (w:World),Tk w b L→Vd 10000000000 x→_):=fun x w t hx=>btake_any b x L w t hL hx
 have HV:Hid (∀ k,k<N→Vd 10000000000 (E.getD k (0,0))):=fun k hk=>getD_vd hE (by omega)
 have HW:Hid (∀ k,k≤N→Vd 10000000000 (suS (bi,bi) (E.take k))):=fun k hk=>suS_vd (hE.take k) (by rw [List.length_take];omega) (vd_bi hbi)
 have HN:Hid (E.length=N):=hN
 have HT:Hid (Tk W b L):=hT
 have hbz:=hT.lt
 rw [hN] at h2 h4 hl ⊢
 have H4:Hid (0<N→_):=h4
 unfold maxLen at h3
 clear h4 hN hE hn hT hL h0 hbi hq
 unfold fTk
 go_enter Tryz.func19,Tryz.ntmps19
 go_wp2_with fail
 refine (bone_any _ _).mono ?_
 rintro e w1 ⟨rfl,hb1⟩
 have s1:=((St.start W).call hb1).new (c:=#[U i6 bi,U i6 bi]) (t:=28)
 have hz1w:=hb1.size
 obtain⟨B,hB⟩:∃ B,w1.heap.size=B:=⟨_,rfl⟩
 rw [hB] at s1 hz1w
 go_upto_region 1 with fail
 obtain⟨w2,hw2⟩:∃ w2,w1.alloc (.cells #[U i6 bi,U i6 bi] 28)=w2:=⟨_,rfl⟩
 rw [hw2] at s1 ⊢
 have S1:Hid (St W w2 [(B,#[U i6 bi,U i6 bi],28)]):=s1
 clear hw2 s1 y1 y2 y3 hb1
 clear hB
 go_wp2
 go_loopw [13] (fun i wr=>∃ k:Nat,k≤N∧i=U i6 k∧St W wr [(B,#[U i6 (suS (bi,bi) (E.take k)).1,U i6 (suS (bi,bi) (E.take k)).2],28)]) (fun i _=>N-(intOf i).toNat)
 case atStart=>exact⟨0,Nat.zero_le _,rfl,S1.out⟩
 case round =>
  obtain⟨k,hk,rfl,s⟩:=hrel
  clear S1
  have hzr:=s.size
  by_cases hlt:k<N
  ·obtain⟨g,o,rfl,hc⟩:=H4.out (by omega)
   have hkE:k<E.length:=by rw [HN.out];exact hlt
   obtain⟨q1,q2⟩:=SpV.at hc hkE
   have hve:=HV.out k hlt
   have hvs:=HW.out k hk
   obtain⟨e1,e2,he⟩:∃ e1 e2,E.getD k (0,0)=(e1,e2):=⟨_,_,rfl⟩
   obtain⟨m1,m2,hm⟩:∃ m1 m2,suS (bi,bi) (E.take k)=(m1,m2):=⟨_,_,rfl⟩
   have HS:Hid (suS (bi,bi) (E.take (k+1))=(m1+e1,m2+e2)):=by unfold Hid;rw [suS_take _ hkE he,hm];rfl
   rw [he] at q1 q2 hve
   rw [hm] at s hvs
   simp only at q1 q2 s
   have HP:Hid (∀ w,_):=fun w=>bplus_ok (m1,m2) (e1,e2) w hvs hve
   have p1:=(s.below.cell (World.block_lt_of_cell? W _ q1)).trans q1
   have p2:=(s.below.cell (World.block_lt_of_cell? W _ q2)).trans q2
   have S:Hid (St W wr [(B,#[U i6 m1,U i6 m2],28)]):=s
   obtain⟨c1,f1,z1,-⟩:=s.rules
   clear q1 q2 hc he hm hve hvs s H4 HV HB HT hkE
   go_wp2_with fail
   refine (HP.out _).mono ?_
   rintro e w3 ⟨rfl,hb3⟩
   have s3:=(S.out.skip (.cells #[U i6 e1,U i6 e2] 28)).call hb3
   have S4:Hid (St W _ _):=s3.set2 (u:=U i6 (m1+e1)) (v:=U i6 (m2+e2)) (by simp)
   clear c1 f1 z1 p1 p2 S hb3
   obtain⟨c1,f1,z1,-⟩:=s3.rules
   clear s3
   simp only [plS]
   go_wp2
   go_roundw
   case rel=>exact⟨k+1,by omega,by go_num,by rw [HS.out];exact S4.out⟩
   case measure=>simp [intOf];omega
  ·obtain rfl:k=N:=by omega
   have hvs:=HW.out k (Nat.le_refl _)
   rw [List.take_of_length_le (by rw [HN.out];exact Nat.le_refl _)] at s hvs
   obtain⟨m1,m2,hm⟩:∃ m1 m2,suS (bi,bi) E=(m1,m2):=⟨_,_,rfl⟩
   have HM:Hid (suS (bi,bi) E=(m1,m2)):=hm
   rw [hm] at s hvs
   simp only at s
   obtain⟨c1,f1,z1,-⟩:=s.rules
   have HC:Hid (Calls _ _ _ _ _):=HB.out (m1,m2) wr (HT.out.below s.below) hvs
   have TC:Hid (Tch b W wr):=Tch.of s.below
   clear hm hvs s H4 HV HB HT HW
   go_wp2_with fail
   refine HC.out.mono ?_
   rintro e w3 ⟨⟨u,rfl⟩,tk3,tc3⟩
   have T3:Hid (Tk w3 b (L++[suS (bi,bi) E])):=by unfold Hid;rw [HM.out];exact tk3
   have C3:Hid (Tch b W w3):=TC.out.trans tc3
   clear tk3 tc3 HC TC c1 f1 z1
   go_wp2
   go_end0
   exact⟨⟨_,rfl⟩,T3.out,C3.out⟩
theorem crun_any (ch n:Int) (fa:Option Addr) (fl fc:Nat) (bi slo shi p h w c:Int) (g0:Nat) (q:Nat) (W:World) (hq:W.heap[q]? = some (.cells #[U i6 ch,U i6 n,Sl fa fl fc,U i6 bi,U i6 slo,U i6 shi,U i6 p,U i6 p,U i6 h,U i6 w,U i6 c,U i6 0,U i6 0,Sl (some ⟨g0,0,none⟩) 1 1,U i6 0] 55 (0,0))) (hbi:-2147483648≤bi∧bi≤2147483647) (v:Value) (E L:List (Int×Int)) (nb b:Nat) (hE:Rb E) (h0:0<E.length) (hl:E.length≤512) (hv:SpV W v E) (hn:Nb nb v) (hb:b+1≤nb) (hT:Tk W b L) (hL:∀ y∈L,Vd 10000000000 y) :
  Calls Tryz.prog 31 #[v,fTk b,.pointer (some ⟨q,0,none⟩)] W fun e w'=>(∃ u,e=.returned u)∧Tk w' b (L++ruL (bi,bi) E)∧Tch b W w':=by
 obtain⟨y1,y2,y3⟩:=cells_at hq
 obtain⟨va,vc,rfl,h2,h3,h4⟩:=hv
 obtain⟨N,hN⟩:∃ N,E.length=N:=⟨_,rfl⟩
 have HB0:Hid (∀ (x:Int×Int) (w:World),Tk w b L→Vd 10000000000 x→_):=fun x w t hx=>btake_any b x L w t hL hx
 have HB:Hid (∀ (k:Nat) (x:Int×Int) (w:World),Tk w b (L++ruT (bi,bi) E k)→Vd 10000000000 x→_):=fun k x w t hx=>btake_any b x _ w t (app_vd hL (ruT_vd hE hl (vd_bi hbi) k)) hx
 have HV:Hid (∀ k,k<N→Vd 10000000000 (E.getD k (0,0))):=fun k hk=>getD_vd hE (by omega)
 have HW:Hid (∀ k,k≤N→Vd 10000000000 (suS (bi,bi) (E.take k))):=fun k hk=>suS_vd (hE.take k) (by rw [List.length_take];omega) (vd_bi hbi)
 have hvb:Vd 10000000000 (bi,bi):=by unfold Vd;simp only;omega
 have HN:Hid (E.length=N):=hN
 have HA:Hid (ruT (bi,bi) E N=ruL (bi,bi) E):=by rw [← hN];exact ruT_all _ _
 have H0:Hid (ruT (bi,bi) E 0=[(bi,bi)]):=ruT_0 _ _
 have HT:Hid (Tk W b L):=hT
 have hbz:=hT.lt
 have HNb:Hid (Nb nb (.slice va N vc)):=by rw [← hN];exact hn
 rw [hN] at h2 h4 hl ⊢
 have H4:Hid (0<N→_):=h4
 unfold maxLen at h3
 clear h4 hN hE hn hT hL h0 hbi hq
 unfold fTk
 go_enter Tryz.func31,Tryz.ntmps31
 go_wp2_with fail
 refine (bone_any _ _).mono ?_
 rintro e w1 ⟨rfl,hb1⟩
 have s1:=((SB.start b W).call hb1).new (c:=#[U i6 bi,U i6 bi]) (t:=28)
 have t1:=(HT.out.below hb1).below (bal w1 (.cells #[U i6 bi,U i6 bi] 28))
 have hz1w:=hb1.size
 obtain⟨B,hB⟩:∃ B,w1.heap.size=B:=⟨_,rfl⟩
 rw [hB] at s1 hz1w
 go_upto_region 1 with fail
 obtain⟨w2,hw2⟩:∃ w2,w1.alloc (.cells #[U i6 bi,U i6 bi] 28)=w2:=⟨_,rfl⟩
 rw [hw2] at s1 t1 ⊢
 have S1:Hid (SB b W w2 [(B,#[U i6 bi,U i6 bi],28)]):=s1
 have HC:Hid (Calls _ _ _ _ _):=HB0.out (bi,bi) w2 t1 hvb
 obtain⟨c1,f1,z1,-⟩:=s1.rules
 clear hw2 s1 y1 y2 y3 hb1 hB t1 HB0 HT hvb
 go_wp2_with fail
 refine HC.out.mono ?_
 rintro e w3 ⟨⟨u,rfl⟩,tk3,tc3⟩
 have S3:Hid (SB b W w3 [(B,#[U i6 bi,U i6 bi],28)]):=S1.out.take tc3 hbz
 have T3:Hid (Tk w3 b (L++ruT (bi,bi) E 0)):=by unfold Hid;rw [H0.out];exact tk3
 clear tk3 tc3 HC S1 c1 f1 z1
 go_wp2
 go_loopw [16] (fun i wr=>∃ k:Nat,k≤N∧i=U i6 k∧SB b W wr [(B,#[U i6 (suS (bi,bi) (E.take k)).1,U i6 (suS (bi,bi) (E.take k)).2],28)]∧Tk wr b (L++ruT (bi,bi) E k)) (fun i _=>N-(intOf i).toNat)
 case atStart=>exact⟨0,Nat.zero_le _,rfl,S3.out,T3.out⟩
 case round =>
  obtain⟨k,hk,rfl,s,tk⟩:=hrel
  clear S3 T3
  have hzr:=s.size
  by_cases hlt:k<N
  ·obtain⟨g,o,rfl,hc⟩:=H4.out (by omega)
   have hkE:k<E.length:=by rw [HN.out];exact hlt
   obtain⟨q1,q2⟩:=SpV.at hc hkE
   have hg:nb≤g:=HNb.out ⟨g,o,none⟩ _ _ rfl
   have hve:=HV.out k hlt
   have hvs:=HW.out k hk
   have hvn:=HW.out (k+1) hlt
   obtain⟨e1,e2,he⟩:∃ e1 e2,E.getD k (0,0)=(e1,e2):=⟨_,_,rfl⟩
   obtain⟨m1,m2,hm⟩:∃ m1 m2,suS (bi,bi) (E.take k)=(m1,m2):=⟨_,_,rfl⟩
   have HS:Hid (suS (bi,bi) (E.take (k+1))=(m1+e1,m2+e2)):=by unfold Hid;rw [suS_take _ hkE he,hm];rfl
   have HR:Hid (L++ruT (bi,bi) E (k+1)=(L++ruT (bi,bi) E k)++[(m1+e1,m2+e2)]):=by unfold Hid;rw [ruT_succ,HS.out,List.append_assoc]
   rw [he] at q1 q2 hve
   rw [hm] at s hvs
   rw [HS.out] at hvn
   simp only at q1 q2 s
   have HP:Hid (∀ w,_):=fun w=>bplus_ok (m1,m2) (e1,e2) w hvs hve
   have HBk:Hid (∀ w,Tk w b (L++ruT (bi,bi) E k)→_):=fun w t=>HB.out k (m1+e1,m2+e2) w t hvn
   have p1:=s.1.cell q1 (by omega)
   have p2:=s.1.cell q2 (by omega)
   have S:Hid (SB b W wr [(B,#[U i6 m1,U i6 m2],28)]):=s
   have TK:Hid (Tk wr b (L++ruT (bi,bi) E k)):=tk
   obtain⟨c1,f1,z1,-⟩:=s.rules
   clear q1 q2 hc he hm hve hvs hvn s tk H4 HV HB hkE
   go_wp2_with fail
   refine (HP.out _).mono ?_
   rintro e w3 ⟨rfl,hb3⟩
   have s3:=(S.out.skip (.cells #[U i6 e1,U i6 e2] 28)).call hb3
   have t3:=(TK.out.below (bal wr (.cells #[U i6 e1,U i6 e2] 28))).below hb3
   have s4:=s3.set2 (u:=U i6 (m1+e1)) (v:=U i6 (m2+e2)) (by simp)
   have t4:=(t3.set (B:=B) (i:=0) (v:=U i6 (m1+e1)) (by omega)).set (B:=B) (i:=1) (v:=U i6 (m2+e2)) (by omega)
   have S4:Hid (SB b W _ _):=s4
   have HC:Hid (Calls _ _ _ _ _):=HBk.out _ t4
   clear c1 f1 z1 p1 p2 S hb3 t3 t4 TK HBk
   obtain⟨c1,f1,z1,-⟩:=s3.rules
   clear s3 s4
   simp only [plS]
   go_wp2_with fail
   refine HC.out.mono ?_
   rintro e w5 ⟨⟨u,rfl⟩,tk5,tc5⟩
   have S5:Hid (SB b W w5 _):=S4.out.take tc5 hbz
   have T5:Hid (Tk w5 b _):=tk5
   clear tk5 tc5 HC S4 c1 f1 z1
   go_wp2
   go_roundw
   case rel=>exact⟨k+1,by omega,by go_num,by rw [HS.out];exact S5.out,by rw [HR.out];exact T5.out⟩
   case measure=>simp [intOf];omega
  ·obtain rfl:k=N:=by omega
   have T3:Hid (Tk wr b (L++ruL (bi,bi) E)):=by unfold Hid;rw [← HA.out];exact tk
   have C3:Hid (Tch b W wr):=s.1
   clear tk s H4
   go_wp2
   go_end0
   exact⟨⟨_,rfl⟩,T3.out,C3.out⟩
attribute [local go_sem] Oper.semAt_some
def inT (C:List (Int×Int)) (n:Nat):List (Int×Int):=(List.range n).flatMap fun i=>[suS (0,0) (C.take (i+1)),C.getD i (0,0)]
theorem inT_succ (C:List (Int×Int)) (n:Nat):inT C (n+1)=inT C n++[suS (0,0) (C.take (n+1)),C.getD n (0,0)]:=by unfold inT;rw [List.range_succ,List.flatMap_append];simp
theorem mem_inT {C:List (Int×Int)} {x:Int×Int}:x∈inT C C.length ↔ x∈(ruL (0,0) C).tail∨x∈C:=by
 unfold inT
 simp only [List.mem_flatMap,List.mem_range,List.mem_cons,List.not_mem_nil,or_false]
 rw [mem_ruL_tail]
 constructor
 ·rintro⟨i,hi,rfl | rfl⟩
  ·exact .inl ⟨i+1,by omega,by omega,rfl⟩
  ·refine .inr ?_
   rw [List.getD_eq_getElem?_getD,List.getElem?_eq_getElem hi]
   exact List.getElem_mem _
 ·rintro (⟨j,h0,h1,rfl⟩ | h)
  ·exact⟨j-1,by omega,.inl (by rw [show j-1+1=j by omega])⟩
  ·obtain⟨i,hi,rfl⟩:=List.getElem_of_mem h
   exact⟨i,hi,.inr (by rw [List.getD_eq_getElem?_getD,List.getElem?_eq_getElem hi];rfl)⟩
def itT (d:Nat) (E:List (Int×Int)) (k:Nat):List (Int×Int):=(List.range k).flatMap fun j=>inT (chk d E j) (chk d E j).length
theorem itT_succ (d:Nat) (E:List (Int×Int)) (k:Nat):itT d E (k+1)=itT d E k++inT (chk d E k) (chk d E k).length:=by unfold itT;rw [List.range_succ,List.flatMap_append];simp
def itL (d:Nat) (E:List (Int×Int)):List (Int×Int):=itT d E (chN d E.length)
theorem mem_chk {d:Nat} {E:List (Int×Int)} {x:Int×Int} (hd:0<d):x∈E ↔ ∃ k,k<chN d E.length∧x∈chk d E k:=by
 constructor
 ·intro h
  obtain⟨i,hi,rfl⟩:=List.getElem_of_mem h
  have hm:=Nat.mod_lt i hd
  have hdm:=Nat.div_add_mod i d
  rw [Nat.mul_comm] at hdm
  refine⟨i / d,(chN_lt hd).2 (by omega),?_⟩
  refine List.mem_of_getElem? (i:=i % d) ?_
  unfold chk
  rw [List.getElem?_take,if_pos hm,List.getElem?_drop,hdm,List.getElem?_eq_getElem hi]
 ·rintro⟨k,-,h⟩
  exact List.mem_of_mem_drop (List.mem_of_mem_take h)
theorem mem_itL {d:Nat} {E:List (Int×Int)} {x:Int×Int} (hd:0<d):x∈itL d E ↔ x∈paL d E++E:=by
 rw [List.mem_append,mem_chk (x:=x) (E:=E) hd]
 unfold itL itT paL paT
 simp only [List.mem_flatMap,List.mem_range,mem_inT]
 constructor
 ·rintro⟨k,hk,h | h⟩
  ·exact .inl ⟨k,hk,h⟩
  ·exact .inr ⟨k,hk,h⟩
 ·rintro (⟨k,hk,h⟩ | ⟨k,hk,h⟩)
  ·exact⟨k,hk,.inl h⟩
  ·exact⟨k,hk,.inr h⟩
theorem chk_rb {d k:Nat} {E:List (Int×Int)} (h:Rb E):Rb (chk d E k):=(h.drop _).take _
theorem inT_vd {C:List (Int×Int)} (hC:Rb C) (hl:C.length≤512) (n:Nat) (hn:n≤C.length):∀ x∈inT C n,Vd 10000000000 x:=fun x hx=>by
 unfold inT at hx
 simp only [List.mem_flatMap,List.mem_range,List.mem_cons,List.not_mem_nil,or_false] at hx
 obtain⟨i,hi,rfl | rfl⟩:=hx
 ·exact suS_vd (hC.take _) (by rw [List.length_take];omega) (by unfold Vd;simp)
 ·exact getD_vd hC (by omega)
theorem itT_vd {d:Nat} {E:List (Int×Int)} (hE:Rb E) (hl:E.length≤512) (k:Nat):∀ x∈itT d E k,Vd 10000000000 x:=fun x hx=>by
 unfold itT at hx
 obtain⟨j,-,h⟩:=List.mem_flatMap.1 hx
 exact inT_vd (chk_rb hE) (by rw [chk_len];omega) _ (Nat.le_refl _) x h
theorem SB.turn {b:Nat} {w0 w w':World} {l:List (Nat×Array Value×TypeId)} {row:Option Nat} (h:SB b w0 w l) (g:w.grownBy w' row) (hr:∀ r,row=some r→w0.heap.size≤r∧∀ x∈l,x.1≠r):SB b w0 w' l :=
 ⟨⟨g.os.trans h.1.1,g.tape.trans h.1.2.1,g.output.trans h.1.2.2.1,Nat.le_trans h.1.size g.size,fun i hi h1=>(g.block i (Nat.lt_of_lt_of_le hi h.1.size) (fun e=>by have:=(hr i e.symm).1;omega)).trans (h.1.2.2.2.2 i hi h1)⟩,fun x hx=>⟨(g.block x.1 (lt_of_heap (h.2 x hx).1) (fun e=>(hr x.1 e.symm).2 x hx rfl)).trans (h.2 x hx).1,(h.2 x hx).2⟩⟩
theorem SB.sub {b:Nat} {w0 w:World} {l l':List (Nat×Array Value×TypeId)} (h:SB b w0 w l) (hs:∀ x∈l',x∈l):SB b w0 w l':=⟨h.1,fun x hx=>h.2 x (hs x hx)⟩
theorem SB.up1 {b:Nat} {w0 w:World} {x y:Nat×Array Value×TypeId} {l:List (Nat×Array Value×TypeId)} (h:SB b w0 w (x :: y :: l)):SB b w0 w (y :: x :: l) :=
 h.sub fun z hz=>by simp only [List.mem_cons] at *; rcases hz with h | h | h<;>simp [h]
theorem cprt_any (W:World) (d q:Nat) (hq:W.heap[q]? = some (.cells #[U i6 (d:Int)] 3 (0,0))) (hd:0<d) (hd2:d≤512) (v:Value) (E L:List (Int×Int)) (nb b:Nat) (hE:Rb E) (h0:0<E.length) (hl:E.length≤512) (hv:SpV W v E) (hn:Nb nb v) (hb:b+1≤nb) (hT:Tk W b L) (hL:∀ y∈L,Vd 10000000000 y) :
  Calls Tryz.prog 33 #[v,fTk b,.pointer (some ⟨q,0,none⟩)] W fun e w'=>(∃ u,e=.returned u)∧Tk w' b (L++itL d E)∧Tch b W w':=by
 have hbz:=hT.lt
 have s0:=(St.start W).new (c:=#[fTk b]) (t:=60)
 have HT:Hid (Tk W b L):=hT
 have HCh:Hid (∀ W1,Below W.heap.size W W1→_):=fun W1 hw=>chunk_any 0 nb d v E W1 (hv.below hw) hn hd hd2 hl (Nat.zero_le _)
 have HBk:Hid (∀ (k j:Nat) (x:Int×Int) (w:World),j≤(chk d E k).length→Tk w b (L++itT d E k++inT (chk d E k) j)→Vd 10000000000 x→_):=fun k j x w hj t hx=>btake_any b x _ w t (app_vd (app_vd hL (itT_vd hE hl k)) (inT_vd (chk_rb hE) (by rw [chk_len];omega) j hj)) hx
 have HBl:Hid (∀ (k j:Nat) (x y:Int×Int) (w:World),j≤(chk d E k).length→Vd 10000000000 y→Tk w b (L++itT d E k++inT (chk d E k) j++[y])→Vd 10000000000 x→_):=fun k j x y w hj hy t hx=>btake_any b x _ w t (app_vd (app_vd (app_vd hL (itT_vd hE hl k)) (inT_vd (chk_rb hE) (by rw [chk_len];omega) j hj)) (fun z hz=>by simp at hz;subst hz;exact hy)) hx
 have HCv:Hid (∀ k j,j<(chk d E k).length→Vd 10000000000 ((chk d E k).getD j (0,0))):=fun k j hj=>getD_vd (chk_rb hE) hj
 have HCs:Hid (∀ k j,Vd 10000000000 (suS (0,0) ((chk d E k).take j))):=fun k j=>suS_vd ((chk_rb hE).take j) (by rw [List.length_take,chk_len];omega) (by unfold Vd;simp)
 have HCl:Hid (∀ k,(chk d E k).length≤512):=fun k=>by rw [chk_len];omega
 have HV:Hid (SpV W v E∧Nb nb v):=⟨hv,hn⟩
 have HSv:Hid (∀ W',Tch b W W'→SpV W' v E):=fun W' h=>hv.tch hn hb h
 obtain⟨y1,y2,y3⟩:=cells_at hq
 obtain⟨va,vc,hve,-⟩:=id hv
 clear hv hE hn hT hL
 rw [hve] at HCh HSv ⊢
 have HVe:Hid (v=_):=hve
 clear hve
 unfold fTk at s0 ⊢
 have hfn:∀ f,Fence.wide.fn f:=fun _=>trivial
 have hdp:Fence.wide.depth=none:=rfl
 refine (callsIn_wide (n:=3)).1 ?_
 refine callsIn_of_wp_marks Tryz.func33 rfl trivial ?_ rfl
 simp only [Tryz.ntmps33,List.size_toArray,List.length_cons,List.length_nil,Nat.reduceAdd,Nat.reduceSub,Array.replicate_succ,Array.replicate_zero,List.push_toArray,List.append_toArray,List.nil_append,List.cons_append]
 refine wpIn_wide.2 ?_
 go_wp2_with fail
 refine (HCh.out _ s0.below).mono ?_
 rintro e w5 ⟨⟨lb,rfl,hsq⟩,hb5,hz5⟩
 simp only [World.size_alloc] at hsq hz5
 have HT5:Hid (Tk w5 b L):=(HT.out.below (bal W (.cells #[.pointer (some ⟨b,0,none⟩)] 60))).below hb5
 have HS5:Hid (SB b W w5 [(W.heap.size,#[.pointer (some ⟨b,0,none⟩)],60)]):=SB.of (s0.call hb5)
 have HSQ:Hid (Sq _ _ _ _ w5 _ _ _):=hsq
 clear hsq s0 hb5 HCh y1 y2 y3 HT
 go_wp2
 refine (wpIn_wide (n:=5)).1 ?_
 refine range_sq HSQ.out rfl rfl (by omega) (Nat.zero_le _)
  (fun k W'=>SB b W W' [(W.heap.size,#[.pointer (some ⟨b,0,none⟩)],60)]∧Tk W' b (L++itT d E k)∧w5.heap.size≤W'.heap.size)
  ?own (fun k W' h=>HSv.out W' h.1.1) ⟨HS5.out,by simpa [itT] using HT5.out,Nat.le_refl _⟩ ?a₁ ?assign ?body ?done
 case own =>
  rintro k A B row ⟨h1,h2,h3⟩ hg hr
  have hz:=HS5.out.size
  have hz5:=lt_of_heap HS5.out.h1
  exact⟨h1.turn hg (fun r e=>⟨by have:=hr r e;omega,fun x hx=>by obtain rfl:x=_:=List.mem_singleton.1 hx;have:=hr r e;simp only;omega⟩),h2.turn hg (fun r e=>by have:=hr r e;omega),Nat.le_trans h3 hg.size⟩
 case assign =>
  intro l x W' K hK
  gi_wp2
  exact hK
 case done =>
  rintro D W' hD ⟨h1,h2,h3⟩ hK
  have hz:=HS5.out.size
  have HF:Hid (Tk (W'.putObj D (.deferred none)) b (L++itL d E)):=h2.turn (grownBy_putObj' _ D (.deferred none)) (fun r e=>by cases e;omega)
  have HG:Hid (Tch b W (W'.putObj D (.deferred none))):=(h1.turn (grownBy_putObj' _ D (.deferred none)) (fun r e=>by cases e;exact⟨by omega,fun x hx=>by obtain rfl:x=_:=List.mem_singleton.1 hx;have:=lt_of_heap HS5.out.h1;simp only;omega⟩)).1
  clear h1 h2
  go_wp2
  refine⟨by simp,.inl ⟨_,_,rfl,run_takeDeferred hK,?_⟩⟩
  exact⟨.tuple #[],by simp [results,Tryz.f33,go_sem],⟨_,rfl⟩,HF.out,HG.out⟩
 case body =>
  rintro l k x W' ⟨h1,h2,h3⟩ hk hx hxn
  obtain⟨xa,xc,hxe,-,x3,x4⟩:=hx
  subst hxe
  have HA:Hid _:=HBk.out k
  have HBb:Hid _:=HBl.out k
  have HV1:Hid _:=HCv.out k
  have HV2:Hid _:=HCs.out k
  have hM1:=HCl.out k
  have HI:Hid _:=itT_succ d E k
  obtain⟨C,hC⟩:∃ C,chk d E k=C:=⟨_,rfl⟩
  obtain⟨M,hM⟩:∃ M,C.length=M:=⟨_,rfl⟩
  rw [hC] at HA HBb HV1 HV2 hM1 HI x4 hxn ⊢
  rw [hM] at HA HBb HV1 hM1 HI x4 hxn ⊢
  have X4:Hid (0<M→_):=x4
  have HXn:Hid (Nb nb (.slice xa M xc)):=hxn
  have HM:Hid (C.length=M):=hM
  have HS0:Hid (SB b W W' [(W.heap.size,#[.pointer (some ⟨b,0,none⟩)],60)]):=h1
  have HT0:Hid (Tk W' b (L++itT d E k)):=h2
  have hz:=HS5.out.size
  obtain⟨c1,f1,z1,-⟩:=h1.rules
  unfold maxLen at x3
  have s1:=h1.new (c:=#[U i6 0,U i6 0]) (t:=28)
  have t1:=h2.below (bal W' (.cells #[U i6 0,U i6 0] 28))
  have k1:Hid (Tch b W' _):=Tch.of (bal W' (.cells #[U i6 0,U i6 0] 28))
  have S1:Hid (SB b W _ _):=s1
  have T1:Hid (Tk _ b _):=t1
  clear h1 h2 s1 t1 x4 hxn hC hM HSQ HS5 HT5 HBk HBl HCv HCs HCl HS0 HT0
  gi_wp2
  gi_loopw [15] (fun i wr=>∃ j:Nat,j≤M∧i=U i6 j∧SB b W wr [(W'.heap.size,#[U i6 (suS (0,0) (C.take j)).1,U i6 (suS (0,0) (C.take j)).2],28),(W.heap.size,#[.pointer (some ⟨b,0,none⟩)],60)]∧Tk wr b (L++itT d E k++inT C j)∧Tch b W' wr) (fun i _=>M-(intOf i).toNat)
  case atStart=>exact⟨0,Nat.zero_le _,rfl,S1.out,by simpa [inT] using T1.out,k1.out⟩
  case round =>
   obtain⟨j,hj,rfl,s,tk,tc⟩:=hrel
   clear S1 T1 k1 c1 f1 z1
   have hzr:=tc.size
   by_cases hlt:j<M
   ·obtain⟨g,o,rfl,hc⟩:=X4.out (by omega)
    have hjC:j<C.length:=by rw [HM.out];exact hlt
    obtain⟨q1,q2⟩:=SpV.at hc hjC
    have hg:nb≤g:=HXn.out ⟨g,o,none⟩ _ _ rfl
    have hve:=HV1.out j hlt
    have hvs:=HV2.out j
    have hvn:=HV2.out (j+1)
    obtain⟨e1,e2,he⟩:∃ e1 e2,C.getD j (0,0)=(e1,e2):=⟨_,_,rfl⟩
    obtain⟨m1,m2,hm⟩:∃ m1 m2,suS (0,0) (C.take j)=(m1,m2):=⟨_,_,rfl⟩
    have HS:Hid (suS (0,0) (C.take (j+1))=(m1+e1,m2+e2)):=by unfold Hid;rw [suS_take _ hjC he,hm];rfl
    have HR:Hid (L++itT d E k++inT C (j+1)=(L++itT d E k++inT C j++[(m1+e1,m2+e2)])++[(e1,e2)]):=by unfold Hid;rw [inT_succ,HS.out,he];simp
    rw [he] at q1 q2 hve
    rw [hm] at s hvs
    rw [HS.out] at hvn
    simp only at q1 q2 s
    have HP:Hid (∀ w,_):=fun w=>bplus_ok (m1,m2) (e1,e2) w hvs hve
    have HA1:Hid (∀ w,Tk w b (L++itT d E k++inT C j)→_):=fun w t=>HA.out j (m1+e1,m2+e2) w hj t hvn
    have HA2:Hid (∀ w,Tk w b (L++itT d E k++inT C j++[(m1+e1,m2+e2)])→_):=fun w t=>HBb.out j (e1,e2) (m1+e1,m2+e2) w hj hvn t hve
    have p1:=tc.cell q1 (by omega)
    have p2:=tc.cell q2 (by omega)
    have S:Hid (SB b W wr [(W'.heap.size,#[U i6 m1,U i6 m2],28),(W.heap.size,#[.pointer (some ⟨b,0,none⟩)],60)]):=s
    have TK:Hid (Tk wr b (L++itT d E k++inT C j)):=tk
    obtain⟨c1,f1,z1,c2,f2,z2,-⟩:=s.rules
    clear q1 q2 hc he hm hve hvs hvn s tk X4 HA HBb HV1 HV2 hjC
    gi_wp2_with fail
    refine (CallsIn.inRound l (callsIn_wide.2 (HP.out _))).mono ?_
    rintro e w3 ⟨rfl,hb3⟩
    have s3:=(S.out.new (c:=#[U i6 e1,U i6 e2]) (t:=28)).call hb3
    have t3:=(TK.out.below (bal wr (.cells #[U i6 e1,U i6 e2] 28))).below hb3
    have s4:=s3.up1.set2 (u:=U i6 (m1+e1)) (v:=U i6 (m2+e2)) (by simp;omega)
    have t4:=(t3.set (B:=W'.heap.size) (i:=0) (v:=U i6 (m1+e1)) (by omega)).set (B:=W'.heap.size) (i:=1) (v:=U i6 (m2+e2)) (by omega)
    have k4:=((tc.bel (bal wr (.cells #[U i6 e1,U i6 e2] 28))).bel hb3).set (B:=W'.heap.size) (i:=0) (v:=U i6 (m1+e1)) (.inr (Nat.le_refl _)) |>.set (B:=W'.heap.size) (i:=1) (v:=U i6 (m2+e2)) (.inr (Nat.le_refl _))
    have S4:Hid (SB b W _ _):=s4
    have K4:Hid (Tch b W' _):=k4
    have HC:Hid (Calls _ _ _ _ _):=HA1.out _ t4
    clear c1 f1 z1 c2 f2 z2 p1 p2 S hb3 t3 t4 TK HA1 tc k4
    obtain⟨c1,f1,z1,c2,f2,z2,c3,f3,z3,-⟩:=s3.rules
    clear s3 s4
    simp only [plS]
    gi_wp2_with fail
    refine (CallsIn.inRound l (callsIn_wide.2 HC.out)).mono ?_
    rintro e w5' ⟨⟨u,rfl⟩,tk5,tc5⟩
    have s5:=S4.out.take tc5 hbz
    have S5:Hid (SB b W w5' _):=s5
    have K5:Hid (Tch b W' w5'):=K4.out.trans tc5
    have HC2:Hid (Calls _ _ _ _ _):=HA2.out w5' tk5
    clear c1 f1 z1 c2 f2 z2 c3 f3 z3 HC S4 K4 tk5 tc5 HA2
    obtain⟨c1,f1,z1,c2,f2,z2,c3,f3,z3,-⟩:=s5.rules
    clear s5
    gi_wp2_with fail
    refine (CallsIn.inRound l (callsIn_wide.2 HC2.out)).mono ?_
    rintro e w7 ⟨⟨u,rfl⟩,tk7,tc7⟩
    have S7:Hid (SB b W w7 [(W'.heap.size,#[U i6 (m1+e1),U i6 (m2+e2)],28),(W.heap.size,#[.pointer (some ⟨b,0,none⟩)],60)]):=(S5.out.take tc7 hbz).sub fun x hx=>by
     simp only [List.mem_cons,List.not_mem_nil,or_false] at hx ⊢
     rcases hx with h | h
     ·exact .inl h
     ·exact .inr (.inr h)
    have K7:Hid (Tch b W' w7):=K5.out.trans tc7
    have T7:Hid (Tk w7 b _):=tk7
    clear c1 f1 z1 c2 f2 z2 c3 f3 z3 HC2 S5 K5 tk7 tc7
    gi_wp2
    go_roundw
    case rel=>exact⟨j+1,by omega,by go_num,by rw [HS.out];exact S7.out,by rw [HR.out];exact T7.out,K7.out⟩
    case measure=>simp [intOf];omega
   ·obtain rfl:j=M:=by omega
    have SF:Hid (SB b W wr [(W.heap.size,#[.pointer (some ⟨b,0,none⟩)],60)]):=s.tail
    have TF:Hid (Tk wr b (L++itT d E (k+1))):=by unfold Hid;rw [HI.out,← List.append_assoc];exact tk
    have KF:Hid (Tch b W' wr):=tc
    clear s tk tc X4
    gi_wp2
    exact⟨KF.out.from (by omega),KF.out.kps (Nat.zero_le _) (Nat.zero_le _) (by simp;omega),KF.out.kx (fun a n c e=>by have:=HXn.out a n c e;omega),SF.out,TF.out,by omega⟩
theorem ftot {bi:Int} (hbi:-2147483648≤bi∧bi≤2147483647) {E:List (Int×Int)} (hE:Rb E) (hl:E.length≤512):∀ x∈[suS (bi,bi) E],Vd 10000000000 x :=
 fun x hx=>by simp at hx;subst hx;exact suS_vd hE hl (vd_bi hbi)
theorem frun {bi:Int} (hbi:-2147483648≤bi∧bi≤2147483647) {E:List (Int×Int)} (hE:Rb E) (hl:E.length≤512):∀ x∈ruL (bi,bi) E,Vd 10000000000 x:=ruL_vd hE hl (vd_bi hbi)
theorem fprt {d:Nat} {E:List (Int×Int)} (hE:Rb E) (hl:E.length≤512):∀ x∈itL d E,Vd 10000000000 x:=itT_vd hE hl _
theorem piT_it {d:Nat} (hd:0<d) (R:Nat→List (Int×Int)) (N:Nat) (hN:0<N) (hR:0<(R 0).length):huA (piT (fun E=>paL d E++E) R N)=huA (piT (fun E=>itL d E) R N):=by
 refine huA_eq ?_ fun x=>?_
 ·intro h
  cases e:R 0 with
  | nil=>rw [e] at hR;cases hR
  | cons y l =>
   have:y∈piT (fun E=>paL d E++E) R N:=mem_piT.2 ⟨0,hN,List.mem_append.2 (.inr (by rw [e];exact List.mem_cons_self))⟩
   rw [h] at this
   cases this
 ·rw [mem_piT,mem_piT]
  constructor
  ·rintro⟨k,hk,h⟩;exact⟨k,hk,(mem_itL hd).2 h⟩
  ·rintro⟨k,hk,h⟩;exact⟨k,hk,(mem_itL hd).1 h⟩
open Go.ChangeShapes Go.WideShapes Go.ChangeAt Go.RowKit
theorem op_al {k a b m kh kw sh sw tp lf bt rt:Int} {lw lb:Nat} {sm ss um us z p lo hi:Int} {wk:Int} {L:List (Int×Int×Int)} (hx:tkE k a b m kh kw sh sw tp lf bt rt lw lb sm ss um us z p lo hi L wk=0) (hwk:0≤wk) (hv:∀ s∈L,vS3 s=true) {h w c:Int} (hA:ShA L a=(h,w,c)) :
  tkE k 0 0 m kh kw sh sw tp lf bt rt lw lb sm ss um us z p lo hi [(h,w,c)] 0=0:=by
 obtain⟨-,-,t3,⟨a0,a1⟩,hk,t6⟩:=tk_0 hx hv
 have h1:opE k a b m kh kw sh sw tp lf bt rt lw lb sm ss um us z p lo hi L=0:=by
  unfold tkE at hx
  by_cases q:opE k a b m kh kw sh sw tp lf bt rt lw lb sm ss um us z p lo hi L≠0
  ·rw [if_pos q] at hx;exact hx
  ·exact Decidable.not_not.1 q
 rw [hA] at t6 t3
 unfold opE at h1
 rw [hA] at h1
 by_cases q1:fmE k a b L.length (ozB k b m kh kw sh sw tp lf bt rt lw lb sm ss um us z p)≠0
 ·rw [if_pos q1] at h1;exact absurd h1 q1
 rw [if_neg q1] at h1
 obtain⟨-,-,-,hoz⟩:=fmE_0 (Decidable.not_not.1 q1)
 simp only at h1 t6
 rw [t6,if_neg (by decide)] at h1
 by_cases q3:k=6∧(h,w,c)≠ShA L b
 ·rw [if_pos q3] at h1;cases h1
 rw [if_neg q3] at h1
 by_cases q2:rdB k=true∧512<st3 k kh kw (h,w,c)
 ·rw [if_pos q2] at h1;cases h1
 rw [if_neg q2] at h1
 have hoz0:ozB k 0 m kh kw sh sw tp lf bt rt lw lb sm ss um us z p=true:=by
  have:=of_decide_eq_true hoz
  refine decide_eq_true ⟨fun q=>⟨rfl,(this.1 q).2⟩,this.2⟩
 have e:ShA [(h,w,c)] 0=(h,w,c):=rfl
 have hf:fmE k 0 0 (([(h,w,c)]:List (Int×Int×Int)).length:Int) (ozB k 0 m kh kw sh sw tp lf bt rt lw lb sm ss um us z p)=0:=by
  unfold fmE
  rw [if_neg (by omega),if_neg (by simp),if_neg (by simp),hoz0,if_neg (by decide)]
 have ho:opE k 0 0 m kh kw sh sw tp lf bt rt lw lb sm ss um us z p lo hi [(h,w,c)]=0:=by
  unfold opE
  rw [e]
  simp only
  rw [hf,if_neg (by decide),t6,if_neg (by decide),if_neg (by simp),if_neg q2]
  exact h1
 unfold tkE
 rw [ho,if_neg (by decide),e,if_neg (by omega)]
theorem al_of {O:Nat→Nat→Int} {h w c lo hi ot t wk:Int} {on:Nat} {L:List (Int×Int×Int)} (q:gtR O h w c lo hi ot on=(0,t,L,wk)) {i:Nat} (hi0:i<on) :
  (0≤O i 1∧O i 1≤(i:Int))∧∀ x y v,L.getD (O i 1).toNat (0,0,0)=(x,y,v)→∃ Ra RL Rw,gtR (fun _=>oL (O i 0) 0 0 (O i 3) (O i 4) (O i 5) (O i 6) (O i 7) (O i 8) (O i 9) (O i 10) (O i 11) (O i 12) (O i 13) (O i 14) (O i 15) (O i 16) (O i 17) (O i 18) (O i 19) (O i 20) (O i 21)) x y v 0 0 0 1=(0,Ra,RL,Rw):=by
 obtain⟨hx,rfl,q2⟩:=gtR_st q
 clear q
 have q:=q2
 have hv:vS3 (h,w,c)=true:=(ouE_0 hx).1
 obtain⟨wi,g1,-⟩:=stG_pre hv on L wk q (i+1) (by omega)
 obtain⟨L0,wk0,h0,hx0,hL,-⟩:=stG_step g1
 obtain⟨w2,g2,g3,-⟩:=stG_pre hv on L wk q i (by omega)
 rw [g2] at h0
 simp only [Prod.mk.injEq,true_and] at h0
 obtain⟨rfl,rfl⟩:=h0
 obtain⟨i1,i2,-⟩:=stG_inv hv i _ _ g2
 obtain⟨-,-,-,⟨a0,a1⟩,-,-⟩:=tk_0 hx0 i2
 obtain⟨j,hj⟩:=Int.eq_ofNat_of_zero_le a0
 have a1':=a1
 rw [hj] at a1
 refine⟨⟨a0,by rw [i1] at a1';omega⟩,fun x y v hA=>?_⟩
 have e1:ShA (L.take (i+1)) (j:Int)=ShA L (j:Int):=ShA_take (by omega)
 have hA':ShA (L.take (i+1)) (O i 1)=(x,y,v):=by rw [hj,e1];unfold ShA;rw [← hj];exact hA
 have hal:=op_al hx0 g3 i2 hA'
 have hvA:vS x y v=true:=by
  have:=i2 _ (ShA_mem (L:=L.take (i+1)) (show j<(L.take (i+1)).length by omega))
  rw [hj] at hA'
  rw [hA'] at this
  exact this
 have hou:ouE x y v 0 0 0 1=0:=by
  unfold ouE
  rw [hvA,if_neg (by decide),show rgB 0 0=true by decide,if_neg (by decide),if_neg (by decide),if_neg (by decide)]
 have hT:oT (oL (O i 0) 0 0 (O i 3) (O i 4) (O i 5) (O i 6) (O i 7) (O i 8) (O i 9) (O i 10) (O i 11) (O i 12) (O i 13) (O i 14) (O i 15) (O i 16) (O i 17) (O i 18) (O i 19) (O i 20) (O i 21)) [(x,y,v)] 0=0:=hal
 rw [gtR_of hou,stG_ok (i:=0) (L:=[(x,y,v)]) (wk:=0) rfl hT]
 exact⟨_,_,_,rfl⟩
def hbT (bi:Int) (R:Nat→List (Int×Int)) (N:Nat):Int×Int:=huA (piT (fun E=>[suS (bi,bi) E]) R N)
def hbR (bi:Int) (R:Nat→List (Int×Int)) (N:Nat):Int×Int:=huA (piT (fun E=>ruL (bi,bi) E) R N)
def hbP (R:Nat→List (Int×Int)) (N:Nat):Int×Int:=huA (piT (fun E=>E) R N)
def hbD (d:Nat) (R:Nat→List (Int×Int)) (N:Nat):Int×Int:=huA (piT (fun E=>paL d E++E) R N)
theorem bfacts {h w c lo hi ot ch:Int} {oa:Option Addr} {on oc:Nat} {O:Nat→Nat→Int} {Z B:Nat→List Int} {W:World} (hL:LRow W oa on oc O Z B) (RL:List (Int×Int×Int)) (Rw:Int) (hR:gtR O h w c lo hi ot on=(0,0,RL,Rw)) (i:Nat) (x:Addr) (wa:Option Addr) (lw cw:Nat) (ba:Option Addr) (lb cb:Nat) (x0 y0 z0 H V C:Int) (hF:Fnd W oa on O Z B RL i x wa lw cw ba lb cb x0 y0 z0 H V C) (hch:1≤ch∧ch≤C) :
  Opd (O i 0) (O i 2) (O i 3) (O i 4) (O i 5) (O i 6) (O i 7) (O i 8) (O i 9) (O i 10) (O i 11) lw lb (O i 14) (O i 15) (O i 16) (O i 17) (O i 18) (O i 19) (O i 20) (O i 21) x0 y0 z0 H V C∧O i 0≤4∧lw*2≤140737488351232∧lb*4≤140737488351232∧(-128≤O i 19∧O i 19≤127)∧(-2147483648≤biA (O i 0) ch (B i)∧biA (O i 0) ch (B i)≤2147483647)∧(1≤H*V∧H*V≤1048576):=by
 have hSit:=hF.2.2.2.2.2.2.2.2.2.1
 have hb:=hF.2.2.2.2.2.2.1.2.2.2.1
 obtain⟨ja,jb,e1,hja,e3,hjb,hO⟩:=opd_of hR hF.1
 have hopd:=(hO x0 y0 z0 H V C (by rw [← hF.2.2.2.2.2.2.2.1,e1,Int.toNat_natCast]) hF.2.2.2.2.2.2.2.2.1).1
 rw [hF.2.2.1,hF.2.2.2.1,Int.toNat_natCast,Int.toNat_natCast] at hopd
 obtain⟨wa',lw',cw',ba',lb',cb',e12,e13,-,-,-,q1,q2⟩:=hL.2.2.2 x hF.2.1 i hF.1
 have e4:lw'=lw:=by have:=hF.2.2.1;omega
 have e5:lb'=lb:=by have:=hF.2.2.2.1;omega
 subst e4 e5
 have hv:=vS_bd hSit.2.2.1
 have hrz:=hopd.rz
 unfold rzB vlB at hrz;simp at hrz
 exact⟨hopd,hSit.1.2,q1,q2,⟨hrz.2.1,hrz.2.2⟩,biA_bd hb,hv.1⟩
theorem bopd {h w c lo hi ot ch:Int} {oa:Option Addr} {on oc:Nat} {O:Nat→Nat→Int} {Z B:Nat→List Int} {W:World} (hL:LRow W oa on oc O Z B) (RL:List (Int×Int×Int)) (Rw:Int) (hR:gtR O h w c lo hi ot on=(0,0,RL,Rw)) (i:Nat) (x:Addr) (wa:Option Addr) (lw cw:Nat) (ba:Option Addr) (lb cb:Nat) (x0 y0 z0 H V C:Int) (hF:Fnd W oa on O Z B RL i x wa lw cw ba lb cb x0 y0 z0 H V C) (hch:1≤ch∧ch≤C) :
  Opd (O i 0) 0 (O i 3) (O i 4) (O i 5) (O i 6) (O i 7) (O i 8) (O i 9) (O i 10) (O i 11) lw lb (O i 14) (O i 15) (O i 16) (O i 17) (O i 18) (O i 19) (O i 20) (O i 21) x0 y0 z0 H V C:=by
 obtain⟨s,hk,-⟩:=bfacts hL RL Rw hR i x wa lw cw ba lb cb x0 y0 z0 H V C hF hch
 have h0:O i 2=0:=((of_decide_eq_true s.oz).1 (by omega)).1
 rw [h0] at s
 exact s
theorem bfind_m (h w c lo hi ot:Int) (oa:Option Addr) (on oc:Nat) (O:Nat→Nat→Int) (Z B:Nat→List Int) (W:World) (hL:LRow W oa on oc O Z B) (ch:Int) (RL:List (Int×Int×Int)) (Rw:Int) (hR:gtR O h w c lo hi ot on=(0,0,RL,Rw)) (i:Nat) (x:Addr) (wa:Option Addr) (lw cw:Nat) (ba:Option Addr) (lb cb:Nat) (x0 y0 z0 H V C:Int) (hF:Fnd W oa on O Z B RL i x wa lw cw ba lb cb x0 y0 z0 H V C) (hch:1≤ch∧ch≤C) (slo shi:Int) (N:Nat) (hN:(siL (O i 0) (O i 4) (O i 5) (O i 6) (O i 7) (O i 8) (O i 9) (O i 10) (O i 11) x0 y0 z0 ch 0 (Z i)).length=N) (bi:Int) (hbi:biA (O i 0) ch (B i)=bi):∀ W',Below W.heap.size W W'→Calls Tryz.prog 17 #[.agg #[U i6 h,U i6 w,U i6 c,U i6 lo,U i6 hi,Sl oa on oc,U i6 ot],U i6 ((i:Int)+1),U i6 ch,.agg #[U i6 slo,U i6 shi]] W' fun e w'=>((vbB slo shi=false∧e=.returned (.tuple #[.agg #[U i6 0,U i6 0,Sl none 0 0,U i6 0,U i6 0,U i6 0,U i6 0,U i6 0,U i6 0,U i6 0,U i6 0,U i6 0,U i6 0,Sl none 0 0,U i6 0],U i6 30]))∨(vbB slo shi=true∧∃ (g0:Nat) (fa:Option Addr) (fc:Nat),e=.returned (.tuple #[.agg #[U i6 ch,U i6 (H*V),Sl fa N fc,U i6 bi,U i6 slo,U i6 shi,U i6 (O i 19),U i6 (O i 19),U i6 x0,U i6 y0,U i6 z0,U i6 0,U i6 0,Sl (some ⟨g0,0,none⟩) 1 1,U i6 0],U i6 0])∧w'.heap[g0]? = some (.cells #[U i6 (O i 0),U i6 0,U i6 0,U i6 (O i 3),U i6 (O i 4),U i6 (O i 5),U i6 (O i 6),U i6 (O i 7),U i6 (O i 8),U i6 (O i 9),U i6 (O i 10),U i6 (O i 11),Sl wa lw cw,Sl ba lb cb,U i6 (O i 14),U i6 (O i 15),U i6 (O i 16),U i6 (O i 17),U i6 (O i 18),U i6 (O i 19),U i6 (O i 20),U i6 (O i 21)] 42 (0,0))∧W'.heap.size≤g0∧TV w' (.slice fa N fc) (siL (O i 0) (O i 4) (O i 5) (O i 6) (O i 7) (O i 8) (O i 9) (O i 10) (O i 11) x0 y0 z0 ch 0 (Z i))∧∀ a,fa=some a→a.block<w'.heap.size))∧Below W'.heap.size W' w':=fun W' hb=>by
 obtain⟨-,hk,q1,q2,-,-,hv⟩:=bfacts hL RL Rw hR i x wa lw cw ba lb cb x0 y0 z0 H V C hF hch
 have s:=bopd hL RL Rw hR i x wa lw cw ba lb cb x0 y0 z0 H V C hF hch
 subst hbi
 have hF':=hF.below hb
 obtain⟨h1,rfl,h3,h4,h5,h6,h7,h8,h9,h10,h11,h12⟩:=hF'
 refine (bfind_r h w c lo hi ot ch x on oc i O W' (hL.below hb).m h1 wa lw cw ba lb cb h5 Rw RL hR h11.1 h11.2 x0 y0 z0 H V C h8 h9 ⟨by omega,by omega⟩ slo shi (biA (O i 0) ch (B i)) 0 (siL (O i 0) (O i 4) (O i 5) (O i 6) (O i 7) (O i 8) (O i 9) (O i 10) (O i 11) x0 y0 z0 ch 0 (Z i)) N hN
  (fun W'' g0 hb' _ hg=>bof1 (O i 0) (O i 1) 0 (O i 3) (O i 4) (O i 5) (O i 6) (O i 7) (O i 8) (O i 9) (O i 10) (O i 11) wa lw cw ba lb cb (O i 14) (O i 15) (O i 16) (O i 17) (O i 18) (O i 19) (O i 20) (O i 21) x0 y0 z0 H V C s hk (Z i) (B i) W'' (h6.below hb') (h7.below hb') q1 q2 g0 hg ch 0 hch ⟨by omega,by omega⟩)).mono ?_
 rintro e w' ⟨hh,hb2⟩
 refine⟨?_,hb2⟩
 rcases hh with ⟨q,-⟩ | ⟨-,q⟩ | ⟨-,q⟩
 ·exact absurd rfl q
 ·exact .inl q
 ·exact .inr q
theorem bhull_m (h w c lo hi ot:Int) (oa:Option Addr) (on oc:Nat) (O:Nat→Nat→Int) (Z B:Nat→List Int) (W:World) (hL:LRow W oa on oc O Z B) (ch:Int) (RL:List (Int×Int×Int)) (Rw:Int) (hR:gtR O h w c lo hi ot on=(0,0,RL,Rw)) (i:Nat) (x:Addr) (wa:Option Addr) (lw cw:Nat) (ba:Option Addr) (lb cb:Nat) (x0 y0 z0 H V C:Int) (hF:Fnd W oa on O Z B RL i x wa lw cw ba lb cb x0 y0 z0 H V C) (hch:1≤ch∧ch≤C) (slo shi:Int) (hs:vbB slo shi=true) (N:Nat) (bi:Int) (W':World) (hb:Below W.heap.size W W') (g0 q:Nat) (fa:Option Addr) (fc:Nat) (hg:W'.heap[g0]? = some (.cells #[U i6 (O i 0),U i6 0,U i6 0,U i6 (O i 3),U i6 (O i 4),U i6 (O i 5),U i6 (O i 6),U i6 (O i 7),U i6 (O i 8),U i6 (O i 9),U i6 (O i 10),U i6 (O i 11),Sl wa lw cw,Sl ba lb cb,U i6 (O i 14),U i6 (O i 15),U i6 (O i 16),U i6 (O i 17),U i6 (O i 18),U i6 (O i 19),U i6 (O i 20),U i6 (O i 21)] 42 (0,0))) (hq:W'.heap[q]? = some (.cells #[U i6 ch,U i6 (H*V),Sl fa N fc,U i6 bi,U i6 slo,U i6 shi,U i6 (O i 19),U i6 (O i 19),U i6 x0,U i6 y0,U i6 z0,U i6 0,U i6 0,Sl (some ⟨g0,0,none⟩) 1 1,U i6 0] 55 (0,0))) (hF0:TV W' (.slice fa N fc) (siL (O i 0) (O i 4) (O i 5) (O i 6) (O i 7) (O i 8) (O i 9) (O i 10) (O i 11) x0 y0 z0 ch 0 (Z i))) (hfa:∀ a,fa=some a→a.block<W'.heap.size)
  (F:List (Int×Int)→List (Int×Int)) (gf:Nat) (cl:Array Value) (eg:∀ args w,(callFunc gf args).run Tryz.prog w=.ok (.enter gf args) w)
  (hP:Pik W' gf cl F)
  (hFF:∀ E,Rb E→0<E.length→E.length≤512→∀ x∈F E,Vd 10000000000 x) :
  Calls Tryz.prog 18 #[.pointer (some ⟨q,0,none⟩),.func (.func gf) #[] cl] W' fun e w'=>e=.returned (.agg #[U i6 (huA (piT F (fun (j:Nat)=>enL slo shi (O i 19) (siL (O i 0) (O i 4) (O i 5) (O i 6) (O i 7) (O i 8) (O i 9) (O i 10) (O i 11) x0 y0 z0 ch (j:Int) (Z i))) (H*V).toNat)).1,U i6 (huA (piT F (fun (j:Nat)=>enL slo shi (O i 19) (siL (O i 0) (O i 4) (O i 5) (O i 6) (O i 7) (O i 8) (O i 9) (O i 10) (O i 11) x0 y0 z0 ch (j:Int) (Z i))) (H*V).toNat)).2])∧Below W'.heap.size W' w':=by
 obtain⟨-,hk,q1,q2,hp,-,-⟩:=bfacts hL RL Rw hR i x wa lw cw ba lb cb x0 y0 z0 H V C hF hch
 have s:=bopd hL RL Rw hR i x wa lw cw ba lb cb x0 y0 z0 H V C hF hch
 have hF':=hF.below hb
 exact bhull_of (O i 0) (O i 1) 0 (O i 3) (O i 4) (O i 5) (O i 6) (O i 7) (O i 8) (O i 9) (O i 10) (O i 11) wa lw cw ba lb cb (O i 14) (O i 15) (O i 16) (O i 17) (O i 18) (O i 19) (O i 20) (O i 21) x0 y0 z0 H V C s hk (Z i) (B i) W' hF'.2.2.2.2.2.1 hF'.2.2.2.2.2.2.1 q1 q2 g0 hg ch hch fa N fc bi slo shi hF0 hfa (vbB_yes hs) hp q hq F gf cl eg hP hFF
theorem balone {k m kh kw sh sw tp lf bt rt:Int} {wa:Option Addr} {lw wc:Nat} {ba:Option Addr} {lb bc:Nat} {sm ss um us z p lo hi:Int} {W:World} {zs bs:List Int} (hZ:IRow .i16 W wa lw wc zs) (hB:IRow .i32 W ba lb bc bs) (hlw:lw*2≤140737488351232) (hlb:lb*4≤140737488351232) {g:Nat} (hg:W.heap[g]? = some (.cells #[U i6 k,U i6 0,U i6 0,U i6 m,U i6 kh,U i6 kw,U i6 sh,U i6 sw,U i6 tp,U i6 lf,U i6 bt,U i6 rt,Sl wa lw wc,Sl ba lb bc,U i6 sm,U i6 ss,U i6 um,U i6 us,U i6 z,U i6 p,U i6 lo,U i6 hi] 42 (0,0))) :
  LRow W (some ⟨g,0,none⟩) 1 1 (fun _=>oL k 0 0 m kh kw sh sw tp lf bt rt (lw:Int) (lb:Int) sm ss um us z p lo hi) (fun _=>zs) (fun _=>bs):=by
 have hcell:∀ q v,[Value.int .i64 k,U i6 0,U i6 0,U i6 m,U i6 kh,U i6 kw,U i6 sh,U i6 sw,U i6 tp,U i6 lf,U i6 bt,U i6 rt,Sl wa lw wc,Sl ba lb bc,U i6 sm,U i6 ss,U i6 um,U i6 us,U i6 z,U i6 p,U i6 lo,U i6 hi][q]? = some v→W.cell? ((⟨g,0,none⟩:Addr).add q)=some v:=blcells hg (fun q v hq=>by simpa using hq)
 have e0:((⟨g,0,none⟩:Addr).add (0*22))=⟨g,0,none⟩:=by rw [Addr.add_lit]
 refine⟨Nat.le_refl _,by unfold maxLen;omega,(fun h=>by cases h),fun x hx i hi=>?_⟩
 cases hx
 obtain rfl:i=0:=by omega
 rw [e0]
 exact⟨wa,lw,wc,ba,lb,bc,rfl,rfl,hcell,hZ,hB,hlw,hlb⟩
theorem btot_e (h w c lo hi ot op ch:Int) (oa:Option Addr) (on oc:Nat) (W:World) (slo shi:Int) (E:Int) (hE:E≠0) (hFd:∀ W',Below W.heap.size W W'→Calls Tryz.prog 17 #[.agg #[U i6 h,U i6 w,U i6 c,U i6 lo,U i6 hi,Sl oa on oc,U i6 ot],U i6 op,U i6 ch,.agg #[U i6 slo,U i6 shi]] W' fun e w'=>e=.returned (.tuple #[.agg #[U i6 0,U i6 0,Sl none 0 0,U i6 0,U i6 0,U i6 0,U i6 0,U i6 0,U i6 0,U i6 0,U i6 0,U i6 0,U i6 0,Sl none 0 0,U i6 0],U i6 E])∧Below W'.heap.size W' w'):Calls Tryz.prog 6 #[.agg #[U i6 h,U i6 w,U i6 c,U i6 lo,U i6 hi,Sl oa on oc,U i6 ot],U i6 op,U i6 ch,.agg #[U i6 slo,U i6 shi]] W fun e w'=>e=.returned (.tuple #[.agg #[U i6 0,U i6 0],U i6 E])∧Below W.heap.size W w':=by
 have HF:Hid (∀ W',Below W.heap.size W W'→_):=hFd
 have hE':(E == 0)=false:=by simp [hE]
 have s0:=(((St.start W).new (c:=#[U i6 h,U i6 w,U i6 c,U i6 lo,U i6 hi,Sl oa on oc,U i6 ot]) (t:=26)).new (c:=#[U i6 slo,U i6 shi]) (t:=28)).new (c:=#[U i6 0,U i6 0]) (t:=28)
 simp only [World.size_alloc] at s0
 clear hFd
 go_enter Tryz.func6,Tryz.ntmps6
 go_wp2_with fail
 refine (HF.out _ s0.below).mono ?_
 rintro e w1 ⟨rfl,hb⟩
 have s1:=(s0.call hb).new (c:=#[U i6 0,U i6 0,Sl none 0 0,U i6 0,U i6 0,U i6 0,U i6 0,U i6 0,U i6 0,U i6 0,U i6 0,U i6 0,U i6 0,Sl none 0 0,U i6 0]) (t:=55)
 have S1:Hid (St W _ _):=s1
 clear hb s0 HF
 go_upto_region 2 with (refine wpList_st_new rfl 55 (.tmp 10) (.tmp 18) rfl w1 _ #[U i6 0,U i6 0,Sl none 0 0,U i6 0,U i6 0,U i6 0,U i6 0,U i6 0,U i6 0,U i6 0,U i6 0,U i6 0,U i6 0,Sl none 0 0,U i6 0] rfl rfl (by kernel_rfl) rfl (by simp [Value.oneCell']) ?_)
 obtain⟨w2,hw2⟩:∃ w2,w1.alloc (.cells #[U i6 0,U i6 0,Sl none 0 0,U i6 0,U i6 0,U i6 0,U i6 0,U i6 0,U i6 0,U i6 0,U i6 0,U i6 0,U i6 0,Sl none 0 0,U i6 0] 55)=w2:=⟨_,rfl⟩
 rw [hw2] at s1 S1 ⊢
 obtain⟨-,-,-,c1,f1,z1,-⟩:=s1.rules
 have HB:Hid (Below W.heap.size W _):=s1.tail.out2 (i:=0) (j:=1) (u:=U i6 0) (v:=U i6 0)
 clear s1 hw2
 go_wp2
 exact bodyPost_ret (v:=.tuple #[.agg #[U i6 0,U i6 0],U i6 E]) (by simp [results,Tryz.results6,go_sem,c1]) rfl ⟨rfl,HB.out⟩
theorem btot_w (h w c lo hi ot op ch:Int) (oa:Option Addr) (on oc:Nat) (W:World) (slo shi:Int) (n bi p x0 y0 z0:Int) (N:Nat) (hN:N≤512) (op0:Array Value) (TL:List (Int×Int)) (X Y:Int) (hFd:∀ W',Below W.heap.size W W'→Calls Tryz.prog 17 #[.agg #[U i6 h,U i6 w,U i6 c,U i6 lo,U i6 hi,Sl oa on oc,U i6 ot],U i6 op,U i6 ch,.agg #[U i6 slo,U i6 shi]] W' fun e w'=>(∃ (g0:Nat) (fa:Option Addr) (fc:Nat),e=.returned (.tuple #[.agg #[U i6 ch,U i6 n,Sl fa N fc,U i6 bi,U i6 slo,U i6 shi,U i6 p,U i6 p,U i6 x0,U i6 y0,U i6 z0,U i6 0,U i6 0,Sl (some ⟨g0,0,none⟩) 1 1,U i6 0],U i6 0])∧w'.heap[g0]? = some (.cells op0 42 (0,0))∧W'.heap.size≤g0∧TV w' (.slice fa N fc) TL∧∀ a,fa=some a→a.block<w'.heap.size)∧Below W'.heap.size W' w') (gf:Nat)
  (hgf:gf=19)
  (hHl:∀ W' (g0 q:Nat) (fa:Option Addr) (fc:Nat),Below W.heap.size W W'→W'.heap[g0]? = some (.cells op0 42 (0,0))→W'.heap[q]? = some (.cells #[U i6 ch,U i6 n,Sl fa N fc,U i6 bi,U i6 slo,U i6 shi,U i6 p,U i6 p,U i6 x0,U i6 y0,U i6 z0,U i6 0,U i6 0,Sl (some ⟨g0,0,none⟩) 1 1,U i6 0] 55 (0,0))→TV W' (.slice fa N fc) TL→(∀ a,fa=some a→a.block<W'.heap.size)→Calls Tryz.prog 18 #[.pointer (some ⟨q,0,none⟩),.func (.func gf) #[] #[.pointer (some ⟨q,0,none⟩)]] W' fun e w'=>e=.returned (.agg #[U i6 X,U i6 Y])∧Below W'.heap.size W' w') :
  Calls Tryz.prog 6 #[.agg #[U i6 h,U i6 w,U i6 c,U i6 lo,U i6 hi,Sl oa on oc,U i6 ot],U i6 op,U i6 ch,.agg #[U i6 slo,U i6 shi]] W fun e w'=>e=.returned (.tuple #[.agg #[U i6 X,U i6 Y],U i6 0])∧Below W.heap.size W w':=by
 have hmf:∀ (fn:Fn) (first cap:Array Value) (w:World),(Instr.makeFunc fn first cap).run Tryz.prog w=.ok (.func fn first cap) w:=fun _ _ _ _=>rfl
 have HF:Hid (∀ W',Below W.heap.size W W'→_):=hFd
 have HH:Hid (∀ W' (g0 q:Nat) (fa:Option Addr) (fc:Nat),Below W.heap.size W W'→W'.heap[g0]? = some (.cells op0 42 (0,0))→W'.heap[q]? = some (.cells #[U i6 ch,U i6 n,Sl fa N fc,U i6 bi,U i6 slo,U i6 shi,U i6 p,U i6 p,U i6 x0,U i6 y0,U i6 z0,U i6 0,U i6 0,Sl (some ⟨g0,0,none⟩) 1 1,U i6 0] 55 (0,0))→TV W' (.slice fa N fc) TL→(∀ a,fa=some a→a.block<W'.heap.size)→_):=hHl
 rw [hgf] at HH
 have s0:=(((St.start W).new (c:=#[U i6 h,U i6 w,U i6 c,U i6 lo,U i6 hi,Sl oa on oc,U i6 ot]) (t:=26)).new (c:=#[U i6 slo,U i6 shi]) (t:=28)).new (c:=#[U i6 0,U i6 0]) (t:=28)
 simp only [World.size_alloc] at s0
 clear hFd hHl hgf
 go_enter Tryz.func6,Tryz.ntmps6
 go_wp2_with fail
 refine (HF.out _ s0.below).mono ?_
 rintro e w1 ⟨⟨g0,fa,fc,rfl,hg0,-,hTv,hfb⟩,hb⟩
 have s1:=(s0.call hb).new (c:=#[U i6 ch,U i6 n,Sl fa N fc,U i6 bi,U i6 slo,U i6 shi,U i6 p,U i6 p,U i6 x0,U i6 y0,U i6 z0,U i6 0,U i6 0,Sl (some ⟨g0,0,none⟩) 1 1,U i6 0]) (t:=55)
 have S1:Hid (St W _ _):=s1
 have hg1:Hid ((w1.alloc (.cells #[U i6 ch,U i6 n,Sl fa N fc,U i6 bi,U i6 slo,U i6 shi,U i6 p,U i6 p,U i6 x0,U i6 y0,U i6 z0,U i6 0,U i6 0,Sl (some ⟨g0,0,none⟩) 1 1,U i6 0] 55)).heap[g0]? = some (.cells op0 42 (0,0))):=(heap_alloc_old w1 _ (lt_of_heap hg0)).trans hg0
 have hT1:Hid (TV (w1.alloc (.cells #[U i6 ch,U i6 n,Sl fa N fc,U i6 bi,U i6 slo,U i6 shi,U i6 p,U i6 p,U i6 x0,U i6 y0,U i6 z0,U i6 0,U i6 0,Sl (some ⟨g0,0,none⟩) 1 1,U i6 0] 55)) (.slice fa N fc) TL):=hTv.below (bal _ _)
 have hf1:Hid (∀ a,fa=some a→a.block<(w1.alloc (.cells #[U i6 ch,U i6 n,Sl fa N fc,U i6 bi,U i6 slo,U i6 shi,U i6 p,U i6 p,U i6 x0,U i6 y0,U i6 z0,U i6 0,U i6 0,Sl (some ⟨g0,0,none⟩) 1 1,U i6 0] 55)).heap.size):=fun a e=>by have:=hfb a e;simp;omega
 clear hb s0 HF hg0 hTv hfb
 go_upto_region 2 with (refine wpList_st_new rfl 55 (.tmp 10) (.tmp 18) rfl w1 _ #[U i6 ch,U i6 n,Sl fa N fc,U i6 bi,U i6 slo,U i6 shi,U i6 p,U i6 p,U i6 x0,U i6 y0,U i6 z0,U i6 0,U i6 0,Sl (some ⟨g0,0,none⟩) 1 1,U i6 0] rfl rfl (by kernel_rfl) rfl (by simp [Value.oneCell']) ?_)
 obtain⟨q,hq⟩:∃ q,w1.heap.size=q:=⟨_,rfl⟩
 obtain⟨w2,hw2⟩:∃ w2,w1.alloc (.cells #[U i6 ch,U i6 n,Sl fa N fc,U i6 bi,U i6 slo,U i6 shi,U i6 p,U i6 p,U i6 x0,U i6 y0,U i6 z0,U i6 0,U i6 0,Sl (some ⟨g0,0,none⟩) 1 1,U i6 0] 55)=w2:=⟨_,rfl⟩
 rw [hw2] at S1 hg1 hT1 hf1 ⊢
 rw [hq] at S1 ⊢
 clear s1 hw2 hq
 have HC:Hid _:=HH.out w2 g0 q fa fc S1.out.below hg1.out S1.out.h1 hT1.out hf1.out
 clear HH hg1 hT1 hf1
 go_wp2_with fail
 refine Calls.mono HC.out ?_
 rintro e w3 ⟨rfl,hb⟩
 have s3:=S1.out.call hb
 obtain⟨-,-,-,c1,f1,z1,-⟩:=s3.rules
 have HB:Hid (Below W.heap.size W _):=s3.tail.out2 (i:=0) (j:=1) (u:=U i6 X) (v:=U i6 Y)
 clear s3 hb S1
 go_wp2
 exact bodyPost_ret (v:=.tuple #[.agg #[U i6 X,U i6 Y],U i6 0]) (by simp [results,Tryz.results6,go_sem,c1]) rfl ⟨rfl,HB.out⟩
theorem brun_e (h w c lo hi ot op ch:Int) (oa:Option Addr) (on oc:Nat) (W:World) (slo shi:Int) (E:Int) (hE:E≠0) (hFd:∀ W',Below W.heap.size W W'→Calls Tryz.prog 17 #[.agg #[U i6 h,U i6 w,U i6 c,U i6 lo,U i6 hi,Sl oa on oc,U i6 ot],U i6 op,U i6 ch,.agg #[U i6 slo,U i6 shi]] W' fun e w'=>e=.returned (.tuple #[.agg #[U i6 0,U i6 0,Sl none 0 0,U i6 0,U i6 0,U i6 0,U i6 0,U i6 0,U i6 0,U i6 0,U i6 0,U i6 0,U i6 0,Sl none 0 0,U i6 0],U i6 E])∧Below W'.heap.size W' w'):Calls Tryz.prog 12 #[.agg #[U i6 h,U i6 w,U i6 c,U i6 lo,U i6 hi,Sl oa on oc,U i6 ot],U i6 op,U i6 ch,.agg #[U i6 slo,U i6 shi]] W fun e w'=>e=.returned (.tuple #[.agg #[U i6 0,U i6 0],U i6 E])∧Below W.heap.size W w':=by
 have HF:Hid (∀ W',Below W.heap.size W W'→_):=hFd
 have hE':(E == 0)=false:=by simp [hE]
 have s0:=(((St.start W).new (c:=#[U i6 h,U i6 w,U i6 c,U i6 lo,U i6 hi,Sl oa on oc,U i6 ot]) (t:=26)).new (c:=#[U i6 slo,U i6 shi]) (t:=28)).new (c:=#[U i6 0,U i6 0]) (t:=28)
 simp only [World.size_alloc] at s0
 clear hFd
 go_enter Tryz.func12,Tryz.ntmps12
 go_wp2_with fail
 refine (HF.out _ s0.below).mono ?_
 rintro e w1 ⟨rfl,hb⟩
 have s1:=(s0.call hb).new (c:=#[U i6 0,U i6 0,Sl none 0 0,U i6 0,U i6 0,U i6 0,U i6 0,U i6 0,U i6 0,U i6 0,U i6 0,U i6 0,U i6 0,Sl none 0 0,U i6 0]) (t:=55)
 have S1:Hid (St W _ _):=s1
 clear hb s0 HF
 go_upto_region 2 with (refine wpList_st_new rfl 55 (.tmp 10) (.tmp 18) rfl w1 _ #[U i6 0,U i6 0,Sl none 0 0,U i6 0,U i6 0,U i6 0,U i6 0,U i6 0,U i6 0,U i6 0,U i6 0,U i6 0,U i6 0,Sl none 0 0,U i6 0] rfl rfl (by kernel_rfl) rfl (by simp [Value.oneCell']) ?_)
 obtain⟨w2,hw2⟩:∃ w2,w1.alloc (.cells #[U i6 0,U i6 0,Sl none 0 0,U i6 0,U i6 0,U i6 0,U i6 0,U i6 0,U i6 0,U i6 0,U i6 0,U i6 0,U i6 0,Sl none 0 0,U i6 0] 55)=w2:=⟨_,rfl⟩
 rw [hw2] at s1 S1 ⊢
 obtain⟨-,-,-,c1,f1,z1,-⟩:=s1.rules
 have HB:Hid (Below W.heap.size W _):=s1.tail.out2 (i:=0) (j:=1) (u:=U i6 0) (v:=U i6 0)
 clear s1 hw2
 go_wp2
 exact bodyPost_ret (v:=.tuple #[.agg #[U i6 0,U i6 0],U i6 E]) (by simp [results,Tryz.results12,go_sem,c1]) rfl ⟨rfl,HB.out⟩
theorem brun_w (h w c lo hi ot op ch:Int) (oa:Option Addr) (on oc:Nat) (W:World) (slo shi:Int) (n bi p x0 y0 z0:Int) (N:Nat) (hN:N≤512) (op0:Array Value) (TL:List (Int×Int)) (X Y:Int) (hFd:∀ W',Below W.heap.size W W'→Calls Tryz.prog 17 #[.agg #[U i6 h,U i6 w,U i6 c,U i6 lo,U i6 hi,Sl oa on oc,U i6 ot],U i6 op,U i6 ch,.agg #[U i6 slo,U i6 shi]] W' fun e w'=>(∃ (g0:Nat) (fa:Option Addr) (fc:Nat),e=.returned (.tuple #[.agg #[U i6 ch,U i6 n,Sl fa N fc,U i6 bi,U i6 slo,U i6 shi,U i6 p,U i6 p,U i6 x0,U i6 y0,U i6 z0,U i6 0,U i6 0,Sl (some ⟨g0,0,none⟩) 1 1,U i6 0],U i6 0])∧w'.heap[g0]? = some (.cells op0 42 (0,0))∧W'.heap.size≤g0∧TV w' (.slice fa N fc) TL∧∀ a,fa=some a→a.block<w'.heap.size)∧Below W'.heap.size W' w') (gf:Nat)
  (hgf:gf=31)
  (hHl:∀ W' (g0 q:Nat) (fa:Option Addr) (fc:Nat),Below W.heap.size W W'→W'.heap[g0]? = some (.cells op0 42 (0,0))→W'.heap[q]? = some (.cells #[U i6 ch,U i6 n,Sl fa N fc,U i6 bi,U i6 slo,U i6 shi,U i6 p,U i6 p,U i6 x0,U i6 y0,U i6 z0,U i6 0,U i6 0,Sl (some ⟨g0,0,none⟩) 1 1,U i6 0] 55 (0,0))→TV W' (.slice fa N fc) TL→(∀ a,fa=some a→a.block<W'.heap.size)→Calls Tryz.prog 18 #[.pointer (some ⟨q,0,none⟩),.func (.func gf) #[] #[.pointer (some ⟨q,0,none⟩)]] W' fun e w'=>e=.returned (.agg #[U i6 X,U i6 Y])∧Below W'.heap.size W' w') :
  Calls Tryz.prog 12 #[.agg #[U i6 h,U i6 w,U i6 c,U i6 lo,U i6 hi,Sl oa on oc,U i6 ot],U i6 op,U i6 ch,.agg #[U i6 slo,U i6 shi]] W fun e w'=>e=.returned (.tuple #[.agg #[U i6 X,U i6 Y],U i6 0])∧Below W.heap.size W w':=by
 have hmf:∀ (fn:Fn) (first cap:Array Value) (w:World),(Instr.makeFunc fn first cap).run Tryz.prog w=.ok (.func fn first cap) w:=fun _ _ _ _=>rfl
 have HF:Hid (∀ W',Below W.heap.size W W'→_):=hFd
 have HH:Hid (∀ W' (g0 q:Nat) (fa:Option Addr) (fc:Nat),Below W.heap.size W W'→W'.heap[g0]? = some (.cells op0 42 (0,0))→W'.heap[q]? = some (.cells #[U i6 ch,U i6 n,Sl fa N fc,U i6 bi,U i6 slo,U i6 shi,U i6 p,U i6 p,U i6 x0,U i6 y0,U i6 z0,U i6 0,U i6 0,Sl (some ⟨g0,0,none⟩) 1 1,U i6 0] 55 (0,0))→TV W' (.slice fa N fc) TL→(∀ a,fa=some a→a.block<W'.heap.size)→_):=hHl
 rw [hgf] at HH
 have s0:=(((St.start W).new (c:=#[U i6 h,U i6 w,U i6 c,U i6 lo,U i6 hi,Sl oa on oc,U i6 ot]) (t:=26)).new (c:=#[U i6 slo,U i6 shi]) (t:=28)).new (c:=#[U i6 0,U i6 0]) (t:=28)
 simp only [World.size_alloc] at s0
 clear hFd hHl hgf
 go_enter Tryz.func12,Tryz.ntmps12
 go_wp2_with fail
 refine (HF.out _ s0.below).mono ?_
 rintro e w1 ⟨⟨g0,fa,fc,rfl,hg0,-,hTv,hfb⟩,hb⟩
 have s1:=(s0.call hb).new (c:=#[U i6 ch,U i6 n,Sl fa N fc,U i6 bi,U i6 slo,U i6 shi,U i6 p,U i6 p,U i6 x0,U i6 y0,U i6 z0,U i6 0,U i6 0,Sl (some ⟨g0,0,none⟩) 1 1,U i6 0]) (t:=55)
 have S1:Hid (St W _ _):=s1
 have hg1:Hid ((w1.alloc (.cells #[U i6 ch,U i6 n,Sl fa N fc,U i6 bi,U i6 slo,U i6 shi,U i6 p,U i6 p,U i6 x0,U i6 y0,U i6 z0,U i6 0,U i6 0,Sl (some ⟨g0,0,none⟩) 1 1,U i6 0] 55)).heap[g0]? = some (.cells op0 42 (0,0))):=(heap_alloc_old w1 _ (lt_of_heap hg0)).trans hg0
 have hT1:Hid (TV (w1.alloc (.cells #[U i6 ch,U i6 n,Sl fa N fc,U i6 bi,U i6 slo,U i6 shi,U i6 p,U i6 p,U i6 x0,U i6 y0,U i6 z0,U i6 0,U i6 0,Sl (some ⟨g0,0,none⟩) 1 1,U i6 0] 55)) (.slice fa N fc) TL):=hTv.below (bal _ _)
 have hf1:Hid (∀ a,fa=some a→a.block<(w1.alloc (.cells #[U i6 ch,U i6 n,Sl fa N fc,U i6 bi,U i6 slo,U i6 shi,U i6 p,U i6 p,U i6 x0,U i6 y0,U i6 z0,U i6 0,U i6 0,Sl (some ⟨g0,0,none⟩) 1 1,U i6 0] 55)).heap.size):=fun a e=>by have:=hfb a e;simp;omega
 clear hb s0 HF hg0 hTv hfb
 go_upto_region 2 with (refine wpList_st_new rfl 55 (.tmp 10) (.tmp 18) rfl w1 _ #[U i6 ch,U i6 n,Sl fa N fc,U i6 bi,U i6 slo,U i6 shi,U i6 p,U i6 p,U i6 x0,U i6 y0,U i6 z0,U i6 0,U i6 0,Sl (some ⟨g0,0,none⟩) 1 1,U i6 0] rfl rfl (by kernel_rfl) rfl (by simp [Value.oneCell']) ?_)
 obtain⟨q,hq⟩:∃ q,w1.heap.size=q:=⟨_,rfl⟩
 obtain⟨w2,hw2⟩:∃ w2,w1.alloc (.cells #[U i6 ch,U i6 n,Sl fa N fc,U i6 bi,U i6 slo,U i6 shi,U i6 p,U i6 p,U i6 x0,U i6 y0,U i6 z0,U i6 0,U i6 0,Sl (some ⟨g0,0,none⟩) 1 1,U i6 0] 55)=w2:=⟨_,rfl⟩
 rw [hw2] at S1 hg1 hT1 hf1 ⊢
 rw [hq] at S1 ⊢
 clear s1 hw2 hq
 have HC:Hid _:=HH.out w2 g0 q fa fc S1.out.below hg1.out S1.out.h1 hT1.out hf1.out
 clear HH hg1 hT1 hf1
 go_wp2_with fail
 refine Calls.mono HC.out ?_
 rintro e w3 ⟨rfl,hb⟩
 have s3:=S1.out.call hb
 obtain⟨-,-,-,c1,f1,z1,-⟩:=s3.rules
 have HB:Hid (Below W.heap.size W _):=s3.tail.out2 (i:=0) (j:=1) (u:=U i6 X) (v:=U i6 Y)
 clear s3 hb S1
 go_wp2
 exact bodyPost_ret (v:=.tuple #[.agg #[U i6 X,U i6 Y],U i6 0]) (by simp [results,Tryz.results12,go_sem,c1]) rfl ⟨rfl,HB.out⟩
theorem bprd_e (h w c lo hi ot op ch:Int) (oa:Option Addr) (on oc:Nat) (W:World) (slo shi:Int) (E:Int) (hE:E≠0) (hFd:∀ W',Below W.heap.size W W'→Calls Tryz.prog 17 #[.agg #[U i6 h,U i6 w,U i6 c,U i6 lo,U i6 hi,Sl oa on oc,U i6 ot],U i6 op,U i6 ch,.agg #[U i6 slo,U i6 shi]] W' fun e w'=>e=.returned (.tuple #[.agg #[U i6 0,U i6 0,Sl none 0 0,U i6 0,U i6 0,U i6 0,U i6 0,U i6 0,U i6 0,U i6 0,U i6 0,U i6 0,U i6 0,Sl none 0 0,U i6 0],U i6 E])∧Below W'.heap.size W' w'):Calls Tryz.prog 7 #[.agg #[U i6 h,U i6 w,U i6 c,U i6 lo,U i6 hi,Sl oa on oc,U i6 ot],U i6 op,U i6 ch,.agg #[U i6 slo,U i6 shi]] W fun e w'=>e=.returned (.tuple #[.agg #[U i6 0,U i6 0],U i6 E])∧Below W.heap.size W w':=by
 have HF:Hid (∀ W',Below W.heap.size W W'→_):=hFd
 have hE':(E == 0)=false:=by simp [hE]
 have s0:=(((St.start W).new (c:=#[U i6 h,U i6 w,U i6 c,U i6 lo,U i6 hi,Sl oa on oc,U i6 ot]) (t:=26)).new (c:=#[U i6 slo,U i6 shi]) (t:=28)).new (c:=#[U i6 0,U i6 0]) (t:=28)
 simp only [World.size_alloc] at s0
 clear hFd
 go_enter Tryz.func7,Tryz.ntmps7
 go_wp2_with fail
 refine (HF.out _ s0.below).mono ?_
 rintro e w1 ⟨rfl,hb⟩
 have s1:=(s0.call hb).new (c:=#[U i6 0,U i6 0,Sl none 0 0,U i6 0,U i6 0,U i6 0,U i6 0,U i6 0,U i6 0,U i6 0,U i6 0,U i6 0,U i6 0,Sl none 0 0,U i6 0]) (t:=55)
 have S1:Hid (St W _ _):=s1
 clear hb s0 HF
 go_upto_region 2 with (refine wpList_st_new rfl 55 (.tmp 10) (.tmp 18) rfl w1 _ #[U i6 0,U i6 0,Sl none 0 0,U i6 0,U i6 0,U i6 0,U i6 0,U i6 0,U i6 0,U i6 0,U i6 0,U i6 0,U i6 0,Sl none 0 0,U i6 0] rfl rfl (by kernel_rfl) rfl (by simp [Value.oneCell']) ?_)
 obtain⟨w2,hw2⟩:∃ w2,w1.alloc (.cells #[U i6 0,U i6 0,Sl none 0 0,U i6 0,U i6 0,U i6 0,U i6 0,U i6 0,U i6 0,U i6 0,U i6 0,U i6 0,U i6 0,Sl none 0 0,U i6 0] 55)=w2:=⟨_,rfl⟩
 rw [hw2] at s1 S1 ⊢
 obtain⟨-,-,-,c1,f1,z1,-⟩:=s1.rules
 have HB:Hid (Below W.heap.size W _):=s1.tail.out2 (i:=0) (j:=1) (u:=U i6 0) (v:=U i6 0)
 clear s1 hw2
 go_wp2
 exact bodyPost_ret (v:=.tuple #[.agg #[U i6 0,U i6 0],U i6 E]) (by simp [results,Tryz.results7,go_sem,c1]) rfl ⟨rfl,HB.out⟩
theorem bprd_w (h w c lo hi ot op ch:Int) (oa:Option Addr) (on oc:Nat) (W:World) (slo shi:Int) (n bi p x0 y0 z0:Int) (N:Nat) (hN:N≤512) (op0:Array Value) (TL:List (Int×Int)) (X Y:Int) (hFd:∀ W',Below W.heap.size W W'→Calls Tryz.prog 17 #[.agg #[U i6 h,U i6 w,U i6 c,U i6 lo,U i6 hi,Sl oa on oc,U i6 ot],U i6 op,U i6 ch,.agg #[U i6 slo,U i6 shi]] W' fun e w'=>(∃ (g0:Nat) (fa:Option Addr) (fc:Nat),e=.returned (.tuple #[.agg #[U i6 ch,U i6 n,Sl fa N fc,U i6 bi,U i6 slo,U i6 shi,U i6 p,U i6 p,U i6 x0,U i6 y0,U i6 z0,U i6 0,U i6 0,Sl (some ⟨g0,0,none⟩) 1 1,U i6 0],U i6 0])∧w'.heap[g0]? = some (.cells op0 42 (0,0))∧W'.heap.size≤g0∧TV w' (.slice fa N fc) TL∧∀ a,fa=some a→a.block<w'.heap.size)∧Below W'.heap.size W' w') (gf:Nat)
  (hgf:gf=23)
  (hHl:∀ W' (g0 q:Nat) (fa:Option Addr) (fc:Nat),Below W.heap.size W W'→W'.heap[g0]? = some (.cells op0 42 (0,0))→W'.heap[q]? = some (.cells #[U i6 ch,U i6 n,Sl fa N fc,U i6 bi,U i6 slo,U i6 shi,U i6 p,U i6 p,U i6 x0,U i6 y0,U i6 z0,U i6 0,U i6 0,Sl (some ⟨g0,0,none⟩) 1 1,U i6 0] 55 (0,0))→TV W' (.slice fa N fc) TL→(∀ a,fa=some a→a.block<W'.heap.size)→Calls Tryz.prog 18 #[.pointer (some ⟨q,0,none⟩),.func (.func gf) #[] #[]] W' fun e w'=>e=.returned (.agg #[U i6 X,U i6 Y])∧Below W'.heap.size W' w') :
  Calls Tryz.prog 7 #[.agg #[U i6 h,U i6 w,U i6 c,U i6 lo,U i6 hi,Sl oa on oc,U i6 ot],U i6 op,U i6 ch,.agg #[U i6 slo,U i6 shi]] W fun e w'=>e=.returned (.tuple #[.agg #[U i6 X,U i6 Y],U i6 0])∧Below W.heap.size W w':=by
 have hmf:∀ (fn:Fn) (first cap:Array Value) (w:World),(Instr.makeFunc fn first cap).run Tryz.prog w=.ok (.func fn first cap) w:=fun _ _ _ _=>rfl
 have HF:Hid (∀ W',Below W.heap.size W W'→_):=hFd
 have HH:Hid (∀ W' (g0 q:Nat) (fa:Option Addr) (fc:Nat),Below W.heap.size W W'→W'.heap[g0]? = some (.cells op0 42 (0,0))→W'.heap[q]? = some (.cells #[U i6 ch,U i6 n,Sl fa N fc,U i6 bi,U i6 slo,U i6 shi,U i6 p,U i6 p,U i6 x0,U i6 y0,U i6 z0,U i6 0,U i6 0,Sl (some ⟨g0,0,none⟩) 1 1,U i6 0] 55 (0,0))→TV W' (.slice fa N fc) TL→(∀ a,fa=some a→a.block<W'.heap.size)→_):=hHl
 rw [hgf] at HH
 have s0:=(((St.start W).new (c:=#[U i6 h,U i6 w,U i6 c,U i6 lo,U i6 hi,Sl oa on oc,U i6 ot]) (t:=26)).new (c:=#[U i6 slo,U i6 shi]) (t:=28)).new (c:=#[U i6 0,U i6 0]) (t:=28)
 simp only [World.size_alloc] at s0
 clear hFd hHl hgf
 go_enter Tryz.func7,Tryz.ntmps7
 go_wp2_with fail
 refine (HF.out _ s0.below).mono ?_
 rintro e w1 ⟨⟨g0,fa,fc,rfl,hg0,-,hTv,hfb⟩,hb⟩
 have s1:=(s0.call hb).new (c:=#[U i6 ch,U i6 n,Sl fa N fc,U i6 bi,U i6 slo,U i6 shi,U i6 p,U i6 p,U i6 x0,U i6 y0,U i6 z0,U i6 0,U i6 0,Sl (some ⟨g0,0,none⟩) 1 1,U i6 0]) (t:=55)
 have S1:Hid (St W _ _):=s1
 have hg1:Hid ((w1.alloc (.cells #[U i6 ch,U i6 n,Sl fa N fc,U i6 bi,U i6 slo,U i6 shi,U i6 p,U i6 p,U i6 x0,U i6 y0,U i6 z0,U i6 0,U i6 0,Sl (some ⟨g0,0,none⟩) 1 1,U i6 0] 55)).heap[g0]? = some (.cells op0 42 (0,0))):=(heap_alloc_old w1 _ (lt_of_heap hg0)).trans hg0
 have hT1:Hid (TV (w1.alloc (.cells #[U i6 ch,U i6 n,Sl fa N fc,U i6 bi,U i6 slo,U i6 shi,U i6 p,U i6 p,U i6 x0,U i6 y0,U i6 z0,U i6 0,U i6 0,Sl (some ⟨g0,0,none⟩) 1 1,U i6 0] 55)) (.slice fa N fc) TL):=hTv.below (bal _ _)
 have hf1:Hid (∀ a,fa=some a→a.block<(w1.alloc (.cells #[U i6 ch,U i6 n,Sl fa N fc,U i6 bi,U i6 slo,U i6 shi,U i6 p,U i6 p,U i6 x0,U i6 y0,U i6 z0,U i6 0,U i6 0,Sl (some ⟨g0,0,none⟩) 1 1,U i6 0] 55)).heap.size):=fun a e=>by have:=hfb a e;simp;omega
 clear hb s0 HF hg0 hTv hfb
 go_upto_region 2 with (refine wpList_st_new rfl 55 (.tmp 10) (.tmp 18) rfl w1 _ #[U i6 ch,U i6 n,Sl fa N fc,U i6 bi,U i6 slo,U i6 shi,U i6 p,U i6 p,U i6 x0,U i6 y0,U i6 z0,U i6 0,U i6 0,Sl (some ⟨g0,0,none⟩) 1 1,U i6 0] rfl rfl (by kernel_rfl) rfl (by simp [Value.oneCell']) ?_)
 obtain⟨q,hq⟩:∃ q,w1.heap.size=q:=⟨_,rfl⟩
 obtain⟨w2,hw2⟩:∃ w2,w1.alloc (.cells #[U i6 ch,U i6 n,Sl fa N fc,U i6 bi,U i6 slo,U i6 shi,U i6 p,U i6 p,U i6 x0,U i6 y0,U i6 z0,U i6 0,U i6 0,Sl (some ⟨g0,0,none⟩) 1 1,U i6 0] 55)=w2:=⟨_,rfl⟩
 rw [hw2] at S1 hg1 hT1 hf1 ⊢
 rw [hq] at S1 ⊢
 clear s1 hw2 hq
 have HC:Hid _:=HH.out w2 g0 q fa fc S1.out.below hg1.out S1.out.h1 hT1.out hf1.out
 clear HH hg1 hT1 hf1
 go_wp2_with fail
 refine Calls.mono HC.out ?_
 rintro e w3 ⟨rfl,hb⟩
 have s3:=S1.out.call hb
 obtain⟨-,-,-,c1,f1,z1,-⟩:=s3.rules
 have HB:Hid (Below W.heap.size W _):=s3.tail.out2 (i:=0) (j:=1) (u:=U i6 X) (v:=U i6 Y)
 clear s3 hb S1
 go_wp2
 exact bodyPost_ret (v:=.tuple #[.agg #[U i6 X,U i6 Y],U i6 0]) (by simp [results,Tryz.results7,go_sem,c1]) rfl ⟨rfl,HB.out⟩
theorem bprt_e (h w c lo hi ot op ch:Int) (oa:Option Addr) (on oc:Nat) (W:World) (slo shi:Int) (dp:Int) (E:Int) (hE:E≠0) (hFd:∀ W',Below W.heap.size W W'→Calls Tryz.prog 17 #[.agg #[U i6 h,U i6 w,U i6 c,U i6 lo,U i6 hi,Sl oa on oc,U i6 ot],U i6 op,U i6 ch,.agg #[U i6 slo,U i6 shi]] W' fun e w'=>e=.returned (.tuple #[.agg #[U i6 0,U i6 0,Sl none 0 0,U i6 0,U i6 0,U i6 0,U i6 0,U i6 0,U i6 0,U i6 0,U i6 0,U i6 0,U i6 0,Sl none 0 0,U i6 0],U i6 E])∧Below W'.heap.size W' w'):Calls Tryz.prog 14 #[.agg #[U i6 h,U i6 w,U i6 c,U i6 lo,U i6 hi,Sl oa on oc,U i6 ot],U i6 op,U i6 ch,.agg #[U i6 slo,U i6 shi],U i6 dp] W fun e w'=>e=.returned (.tuple #[.agg #[U i6 0,U i6 0],U i6 E])∧Below W.heap.size W w':=by
 have HF:Hid (∀ W',Below W.heap.size W W'→_):=hFd
 have hE':(E == 0)=false:=by simp [hE]
 have s0:=((((St.start W).new (c:=#[U i6 h,U i6 w,U i6 c,U i6 lo,U i6 hi,Sl oa on oc,U i6 ot]) (t:=26)).new (c:=#[U i6 slo,U i6 shi]) (t:=28)).new (c:=#[U i6 dp]) (t:=3)).new (c:=#[U i6 0,U i6 0]) (t:=28)
 simp only [World.size_alloc] at s0
 clear hFd
 go_enter Tryz.func14,Tryz.ntmps14
 go_wp2_with fail
 refine (HF.out _ s0.below).mono ?_
 rintro e w1 ⟨rfl,hb⟩
 have s1:=(s0.call hb).new (c:=#[U i6 0,U i6 0,Sl none 0 0,U i6 0,U i6 0,U i6 0,U i6 0,U i6 0,U i6 0,U i6 0,U i6 0,U i6 0,U i6 0,Sl none 0 0,U i6 0]) (t:=55)
 clear hb s0 HF
 go_upto_region 2 with (refine wpList_st_new rfl 55 (.tmp 12) (.tmp 20) rfl w1 _ #[U i6 0,U i6 0,Sl none 0 0,U i6 0,U i6 0,U i6 0,U i6 0,U i6 0,U i6 0,U i6 0,U i6 0,U i6 0,U i6 0,Sl none 0 0,U i6 0] rfl rfl (by kernel_rfl) rfl (by simp [Value.oneCell']) ?_)
 obtain⟨w2,hw2⟩:∃ w2,w1.alloc (.cells #[U i6 0,U i6 0,Sl none 0 0,U i6 0,U i6 0,U i6 0,U i6 0,U i6 0,U i6 0,U i6 0,U i6 0,U i6 0,U i6 0,Sl none 0 0,U i6 0] 55)=w2:=⟨_,rfl⟩
 rw [hw2] at s1 ⊢
 obtain⟨-,-,-,c1,f1,z1,-⟩:=s1.rules
 have HB:Hid (Below W.heap.size W _):=s1.tail.out2 (i:=0) (j:=1) (u:=U i6 0) (v:=U i6 0)
 clear s1 hw2
 go_wp2
 exact bodyPost_ret (v:=.tuple #[.agg #[U i6 0,U i6 0],U i6 E]) (by simp [results,Tryz.results14,go_sem,c1]) rfl ⟨rfl,HB.out⟩
theorem bprt_d (h w c lo hi ot op ch:Int) (oa:Option Addr) (on oc:Nat) (W:World) (slo shi:Int) (dp:Int) (n bi p x0 y0 z0:Int) (N:Nat) (hN:N≤512) (op0:Array Value) (TL:List (Int×Int)) (X Y:Int) (hFd:∀ W',Below W.heap.size W W'→Calls Tryz.prog 17 #[.agg #[U i6 h,U i6 w,U i6 c,U i6 lo,U i6 hi,Sl oa on oc,U i6 ot],U i6 op,U i6 ch,.agg #[U i6 slo,U i6 shi]] W' fun e w'=>(∃ (g0:Nat) (fa:Option Addr) (fc:Nat),e=.returned (.tuple #[.agg #[U i6 ch,U i6 n,Sl fa N fc,U i6 bi,U i6 slo,U i6 shi,U i6 p,U i6 p,U i6 x0,U i6 y0,U i6 z0,U i6 0,U i6 0,Sl (some ⟨g0,0,none⟩) 1 1,U i6 0],U i6 0])∧w'.heap[g0]? = some (.cells op0 42 (0,0))∧W'.heap.size≤g0∧TV w' (.slice fa N fc) TL∧∀ a,fa=some a→a.block<w'.heap.size)∧Below W'.heap.size W' w') (hd:¬ (1≤dp∧dp≤(N:Int))):Calls Tryz.prog 14 #[.agg #[U i6 h,U i6 w,U i6 c,U i6 lo,U i6 hi,Sl oa on oc,U i6 ot],U i6 op,U i6 ch,.agg #[U i6 slo,U i6 shi],U i6 dp] W fun e w'=>e=.returned (.tuple #[.agg #[U i6 0,U i6 0],U i6 151])∧Below W.heap.size W w':=by
 have HF:Hid (∀ W',Below W.heap.size W W'→_):=hFd
 have s0:=((((St.start W).new (c:=#[U i6 h,U i6 w,U i6 c,U i6 lo,U i6 hi,Sl oa on oc,U i6 ot]) (t:=26)).new (c:=#[U i6 slo,U i6 shi]) (t:=28)).new (c:=#[U i6 dp]) (t:=3)).new (c:=#[U i6 0,U i6 0]) (t:=28)
 simp only [World.size_alloc] at s0
 clear hFd
 by_cases d1:dp<1
 ·clear hd
  go_enter Tryz.func14,Tryz.ntmps14
  go_wp2_with fail
  refine (HF.out _ s0.below).mono ?_
  rintro e w1 ⟨⟨g0,fa,fc,rfl,-,-,-,-⟩,hb⟩
  have s1:=(s0.call hb).new (c:=#[U i6 ch,U i6 n,Sl fa N fc,U i6 bi,U i6 slo,U i6 shi,U i6 p,U i6 p,U i6 x0,U i6 y0,U i6 z0,U i6 0,U i6 0,Sl (some ⟨g0,0,none⟩) 1 1,U i6 0]) (t:=55)
  clear hb s0 HF
  go_upto_region 2 with (refine wpList_st_new rfl 55 (.tmp 12) (.tmp 20) rfl w1 _ #[U i6 ch,U i6 n,Sl fa N fc,U i6 bi,U i6 slo,U i6 shi,U i6 p,U i6 p,U i6 x0,U i6 y0,U i6 z0,U i6 0,U i6 0,Sl (some ⟨g0,0,none⟩) 1 1,U i6 0] rfl rfl (by kernel_rfl) rfl (by simp [Value.oneCell']) ?_)
  obtain⟨q,hq⟩:∃ q,w1.heap.size=q:=⟨_,rfl⟩
  obtain⟨w2,hw2⟩:∃ w2,w1.alloc (.cells #[U i6 ch,U i6 n,Sl fa N fc,U i6 bi,U i6 slo,U i6 shi,U i6 p,U i6 p,U i6 x0,U i6 y0,U i6 z0,U i6 0,U i6 0,Sl (some ⟨g0,0,none⟩) 1 1,U i6 0] 55)=w2:=⟨_,rfl⟩
  rw [hw2] at s1 ⊢
  rw [hq] at s1 ⊢
  have S1:Hid (St W w2 _):=s1
  clear hw2 hq s1
  obtain⟨c1,f1,z1,c2,f2,z2,c3,f3,z3,-⟩:=S1.out.rules
  go_upto_region 4 with fail
  go_cut [32] from 26 to 31 (fun v wx=>v=.bool true∧∃ j,wx=w2.drewN j)
  case first =>
   go_quiet (fail)
   go_wp2
   go_meet
   case rel=>exact⟨rfl,_,rfl⟩
  case rest =>
   obtain⟨rfl,j,rfl⟩:=hcut
   clear c1 f1 z1 c2 f2 z2 c3 f3 z3
   have s5:=S1.out.call (dbel w2 j)
   obtain⟨wd,hwd⟩:∃ wd,w2.drewN j=wd:=⟨_,rfl⟩
   rw [hwd] at s5 ⊢
   obtain⟨-,-,-,c1,f1,z1,-⟩:=s5.rules
   have HB:Hid (Below W.heap.size W _):=s5.tail.out2 (i:=0) (j:=1) (u:=U i6 0) (v:=U i6 0)
   clear s5 S1 hwd
   go_wp2
   exact bodyPost_ret (v:=.tuple #[.agg #[U i6 0,U i6 0],U i6 151]) (by simp [results,Tryz.results14,go_sem,c1]) rfl ⟨rfl,HB.out⟩
 ·have d2:(N:Int)<dp:=by omega
  clear hd
  go_enter Tryz.func14,Tryz.ntmps14
  go_wp2_with fail
  refine (HF.out _ s0.below).mono ?_
  rintro e w1 ⟨⟨g0,fa,fc,rfl,-,-,-,-⟩,hb⟩
  have s1:=(s0.call hb).new (c:=#[U i6 ch,U i6 n,Sl fa N fc,U i6 bi,U i6 slo,U i6 shi,U i6 p,U i6 p,U i6 x0,U i6 y0,U i6 z0,U i6 0,U i6 0,Sl (some ⟨g0,0,none⟩) 1 1,U i6 0]) (t:=55)
  clear hb s0 HF
  go_upto_region 2 with (refine wpList_st_new rfl 55 (.tmp 12) (.tmp 20) rfl w1 _ #[U i6 ch,U i6 n,Sl fa N fc,U i6 bi,U i6 slo,U i6 shi,U i6 p,U i6 p,U i6 x0,U i6 y0,U i6 z0,U i6 0,U i6 0,Sl (some ⟨g0,0,none⟩) 1 1,U i6 0] rfl rfl (by kernel_rfl) rfl (by simp [Value.oneCell']) ?_)
  obtain⟨q,hq⟩:∃ q,w1.heap.size=q:=⟨_,rfl⟩
  obtain⟨w2,hw2⟩:∃ w2,w1.alloc (.cells #[U i6 ch,U i6 n,Sl fa N fc,U i6 bi,U i6 slo,U i6 shi,U i6 p,U i6 p,U i6 x0,U i6 y0,U i6 z0,U i6 0,U i6 0,Sl (some ⟨g0,0,none⟩) 1 1,U i6 0] 55)=w2:=⟨_,rfl⟩
  rw [hw2] at s1 ⊢
  rw [hq] at s1 ⊢
  have S1:Hid (St W w2 _):=s1
  clear hw2 hq s1
  have HLN:Hid (∀ j,Calls Tryz.prog 32 _ (w2.drewN j) _):=fun j=>blen_any ch n fa N fc bi slo shi p x0 y0 z0 g0 q (w2.drewN j) (S1.out.call (dbel w2 j)).h1
  obtain⟨c1,f1,z1,c2,f2,z2,c3,f3,z3,-⟩:=S1.out.rules
  go_upto_region 4 with fail
  go_cut [32] from 26 to 31 (fun v wx=>v=.bool true∧∃ j,wx=w2.drewN j)
  case first =>
   go_quiet ((go_at_call 32;exact Calls.quiet_of_same (HLN.out _)))
   go_wp2
   go_meet
   case rel=>exact⟨rfl,_,rfl⟩
  case rest =>
   obtain⟨rfl,j,rfl⟩:=hcut
   clear c1 f1 z1 c2 f2 z2 c3 f3 z3 HLN
   have s5:=S1.out.call (dbel w2 j)
   obtain⟨wd,hwd⟩:∃ wd,w2.drewN j=wd:=⟨_,rfl⟩
   rw [hwd] at s5 ⊢
   obtain⟨-,-,-,c1,f1,z1,-⟩:=s5.rules
   have HB:Hid (Below W.heap.size W _):=s5.tail.out2 (i:=0) (j:=1) (u:=U i6 0) (v:=U i6 0)
   clear s5 S1 hwd
   go_wp2
   exact bodyPost_ret (v:=.tuple #[.agg #[U i6 0,U i6 0],U i6 151]) (by simp [results,Tryz.results14,go_sem,c1]) rfl ⟨rfl,HB.out⟩
theorem bprt_w (h w c lo hi ot op ch:Int) (oa:Option Addr) (on oc:Nat) (W:World) (slo shi:Int) (d:Nat) (n bi p x0 y0 z0:Int) (N:Nat) (hN:N≤512) (op0:Array Value) (TL:List (Int×Int)) (X Y:Int) (hFd:∀ W',Below W.heap.size W W'→Calls Tryz.prog 17 #[.agg #[U i6 h,U i6 w,U i6 c,U i6 lo,U i6 hi,Sl oa on oc,U i6 ot],U i6 op,U i6 ch,.agg #[U i6 slo,U i6 shi]] W' fun e w'=>(∃ (g0:Nat) (fa:Option Addr) (fc:Nat),e=.returned (.tuple #[.agg #[U i6 ch,U i6 n,Sl fa N fc,U i6 bi,U i6 slo,U i6 shi,U i6 p,U i6 p,U i6 x0,U i6 y0,U i6 z0,U i6 0,U i6 0,Sl (some ⟨g0,0,none⟩) 1 1,U i6 0],U i6 0])∧w'.heap[g0]? = some (.cells op0 42 (0,0))∧W'.heap.size≤g0∧TV w' (.slice fa N fc) TL∧∀ a,fa=some a→a.block<w'.heap.size)∧Below W'.heap.size W' w') (hd:1≤d∧d≤N)
  (hHl:∀ W' (g0 q r:Nat) (fa:Option Addr) (fc:Nat),Below W.heap.size W W'→W'.heap[g0]? = some (.cells op0 42 (0,0))→W'.heap[q]? = some (.cells #[U i6 ch,U i6 n,Sl fa N fc,U i6 bi,U i6 slo,U i6 shi,U i6 p,U i6 p,U i6 x0,U i6 y0,U i6 z0,U i6 0,U i6 0,Sl (some ⟨g0,0,none⟩) 1 1,U i6 0] 55 (0,0))→W'.heap[r]? = some (.cells #[U i6 (d:Int)] 3 (0,0))→TV W' (.slice fa N fc) TL→(∀ a,fa=some a→a.block<W'.heap.size)→Calls Tryz.prog 18 #[.pointer (some ⟨q,0,none⟩),.func (.func 33) #[] #[.pointer (some ⟨r,0,none⟩)]] W' fun e w'=>e=.returned (.agg #[U i6 X,U i6 Y])∧Below W'.heap.size W' w') :
  Calls Tryz.prog 14 #[.agg #[U i6 h,U i6 w,U i6 c,U i6 lo,U i6 hi,Sl oa on oc,U i6 ot],U i6 op,U i6 ch,.agg #[U i6 slo,U i6 shi],U i6 (d:Int)] W fun e w'=>e=.returned (.tuple #[.agg #[U i6 X,U i6 Y],U i6 0])∧Below W.heap.size W w':=by
 have hmf:∀ (fn:Fn) (first cap:Array Value) (w:World),(Instr.makeFunc fn first cap).run Tryz.prog w=.ok (.func fn first cap) w:=fun _ _ _ _=>rfl
 have HF:Hid (∀ W',Below W.heap.size W W'→_):=hFd
 have HH:Hid (∀ W' (g0 q r:Nat) (fa:Option Addr) (fc:Nat),Below W.heap.size W W'→W'.heap[g0]? = some (.cells op0 42 (0,0))→W'.heap[q]? = some (.cells #[U i6 ch,U i6 n,Sl fa N fc,U i6 bi,U i6 slo,U i6 shi,U i6 p,U i6 p,U i6 x0,U i6 y0,U i6 z0,U i6 0,U i6 0,Sl (some ⟨g0,0,none⟩) 1 1,U i6 0] 55 (0,0))→W'.heap[r]? = some (.cells #[U i6 (d:Int)] 3 (0,0))→TV W' (.slice fa N fc) TL→(∀ a,fa=some a→a.block<W'.heap.size)→_):=hHl
 obtain⟨d1,d2⟩:=hd
 have d3:decide ((d:Int)<1)=false:=by simp;omega
 have d4:decide (N<d)=false:=by simp;omega
 have s0:=((((St.start W).new (c:=#[U i6 h,U i6 w,U i6 c,U i6 lo,U i6 hi,Sl oa on oc,U i6 ot]) (t:=26)).new (c:=#[U i6 slo,U i6 shi]) (t:=28)).new (c:=#[U i6 (d:Int)]) (t:=3)).new (c:=#[U i6 0,U i6 0]) (t:=28)
 simp only [World.size_alloc] at s0
 clear hFd hHl
 go_enter Tryz.func14,Tryz.ntmps14
 go_wp2_with fail
 refine (HF.out _ s0.below).mono ?_
 rintro e w1 ⟨⟨g0,fa,fc,rfl,hg0,-,hTv,hfb⟩,hb⟩
 have s1:=(s0.call hb).new (c:=#[U i6 ch,U i6 n,Sl fa N fc,U i6 bi,U i6 slo,U i6 shi,U i6 p,U i6 p,U i6 x0,U i6 y0,U i6 z0,U i6 0,U i6 0,Sl (some ⟨g0,0,none⟩) 1 1,U i6 0]) (t:=55)
 have S1:Hid (St W _ _):=s1
 have hg1:Hid ((w1.alloc (.cells #[U i6 ch,U i6 n,Sl fa N fc,U i6 bi,U i6 slo,U i6 shi,U i6 p,U i6 p,U i6 x0,U i6 y0,U i6 z0,U i6 0,U i6 0,Sl (some ⟨g0,0,none⟩) 1 1,U i6 0] 55)).heap[g0]? = some (.cells op0 42 (0,0))):=(heap_alloc_old w1 _ (lt_of_heap hg0)).trans hg0
 have hT1:Hid (TV (w1.alloc (.cells #[U i6 ch,U i6 n,Sl fa N fc,U i6 bi,U i6 slo,U i6 shi,U i6 p,U i6 p,U i6 x0,U i6 y0,U i6 z0,U i6 0,U i6 0,Sl (some ⟨g0,0,none⟩) 1 1,U i6 0] 55)) (.slice fa N fc) TL):=hTv.below (bal _ _)
 have hf1:Hid (∀ a,fa=some a→a.block<(w1.alloc (.cells #[U i6 ch,U i6 n,Sl fa N fc,U i6 bi,U i6 slo,U i6 shi,U i6 p,U i6 p,U i6 x0,U i6 y0,U i6 z0,U i6 0,U i6 0,Sl (some ⟨g0,0,none⟩) 1 1,U i6 0] 55)).heap.size):=fun a e=>by have:=hfb a e;simp;omega
 clear hb s0 HF hg0 hTv hfb
 go_upto_region 2 with (refine wpList_st_new rfl 55 (.tmp 12) (.tmp 20) rfl w1 _ #[U i6 ch,U i6 n,Sl fa N fc,U i6 bi,U i6 slo,U i6 shi,U i6 p,U i6 p,U i6 x0,U i6 y0,U i6 z0,U i6 0,U i6 0,Sl (some ⟨g0,0,none⟩) 1 1,U i6 0] rfl rfl (by kernel_rfl) rfl (by simp [Value.oneCell']) ?_)
 obtain⟨q,hq⟩:∃ q,w1.heap.size=q:=⟨_,rfl⟩
 obtain⟨w2,hw2⟩:∃ w2,w1.alloc (.cells #[U i6 ch,U i6 n,Sl fa N fc,U i6 bi,U i6 slo,U i6 shi,U i6 p,U i6 p,U i6 x0,U i6 y0,U i6 z0,U i6 0,U i6 0,Sl (some ⟨g0,0,none⟩) 1 1,U i6 0] 55)=w2:=⟨_,rfl⟩
 rw [hw2] at S1 hg1 hT1 hf1 ⊢
 rw [hq] at S1 ⊢
 clear s1 hw2 hq
 have HLN:Hid (∀ j,Calls Tryz.prog 32 _ (w2.drewN j) _):=fun j=>blen_any ch n fa N fc bi slo shi p x0 y0 z0 g0 q (w2.drewN j) (S1.out.call (dbel w2 j)).h1
 have HC:Hid (∀ j,Calls Tryz.prog 18 _ (w2.drewN j) _):=fun j=>by
  have hdd:Below w2.heap.size w2 (w2.drewN j):=dbel w2 j
  have sd:=S1.out.call hdd
  exact HH.out (w2.drewN j) g0 q (W.heap.size+1+1) fa fc sd.below ((hdd.block g0 (lt_of_heap hg1.out)).trans hg1.out) sd.h1 sd.h3 (hT1.out.below hdd) (fun a e=>Nat.lt_of_lt_of_le (hf1.out a e) hdd.size)
 clear HH hg1 hT1 hf1
 obtain⟨c1,f1,z1,c2,f2,z2,c3,f3,z3,-⟩:=S1.out.rules
 go_upto_region 4 with fail
 go_cut [32] from 26 to 31 (fun v wx=>v=.bool false∧∃ j,wx=w2.drewN j)
 case first =>
  go_quiet ((go_at_call 32;exact Calls.quiet_of_same (HLN.out _)))
  go_wp2
  go_meet
  case rel=>exact⟨rfl,_,rfl⟩
 case rest =>
  obtain⟨rfl,j,rfl⟩:=hcut
  clear c1 f1 z1 c2 f2 z2 c3 f3 z3 HLN
  have HC2:=HC.out j
  clear HC
  go_wp2_with fail
  refine Calls.mono HC2 ?_
  rintro e w3 ⟨rfl,hb⟩
  have s3:=(S1.out.call (dbel w2 j)).call hb
  obtain⟨-,-,-,c1,f1,z1,-⟩:=s3.rules
  have HB:Hid (Below W.heap.size W _):=s3.tail.out2 (i:=0) (j:=1) (u:=U i6 X) (v:=U i6 Y)
  clear s3 hb S1
  go_wp2
  exact bodyPost_ret (v:=.tuple #[.agg #[U i6 X,U i6 Y],U i6 0]) (by simp [results,Tryz.results14,go_sem,c1]) rfl ⟨rfl,HB.out⟩
theorem bfind_p (h w c lo hi ot:Int) (oa:Option Addr) (on oc:Nat) (O:Nat→Nat→Int) (Z B:Nat→List Int) (W:World) (hL:LRow W oa on oc O Z B) (ch:Int) (RL:List (Int×Int×Int)) (Rw:Int) (hR:gtR O h w c lo hi ot on=(0,0,RL,Rw)) (i:Nat) (x:Addr) (wa:Option Addr) (lw cw:Nat) (ba:Option Addr) (lb cb:Nat) (x0 y0 z0 H V C:Int) (hF:Fnd W oa on O Z B RL i x wa lw cw ba lb cb x0 y0 z0 H V C) (hch:¬ (1≤ch∧ch≤C)) (slo shi:Int) :
  Calls Tryz.prog 17 #[.agg #[U i6 h,U i6 w,U i6 c,U i6 lo,U i6 hi,Sl oa on oc,U i6 ot],U i6 ((i:Int)+1),U i6 ch,.agg #[U i6 slo,U i6 shi]] W fun e w'=>e=.returned (.tuple #[.agg #[U i6 0,U i6 0,Sl none 0 0,U i6 0,U i6 0,U i6 0,U i6 0,U i6 0,U i6 0,U i6 0,U i6 0,U i6 0,U i6 0,Sl none 0 0,U i6 0],U i6 3])∧Below W.heap.size W w':=by
 have hSit:=hF.2.2.2.2.2.2.2.2.2.1
 have hvC:=vS_yes hSit.2.2.1
 obtain⟨-,hk,q1,q2,-,-,hv⟩:=bfacts (ch:=1) hL RL Rw hR i x wa lw cw ba lb cb x0 y0 z0 H V C hF ⟨by omega,by have:=hvC.2.2.1;omega⟩
 have s:=bopd (ch:=1) hL RL Rw hR i x wa lw cw ba lb cb x0 y0 z0 H V C hF ⟨by omega,by have:=hvC.2.2.1;omega⟩
 obtain⟨h1,rfl,h3,h4,h5,h6,h7,h8,h9,h10,h11,h12⟩:=hF
 obtain⟨Rw',hR'⟩:=alone_g (a:=0) s hk
 refine (bfind_r h w c lo hi ot ch x on oc i O W hL.m h1 wa lw cw ba lb cb h5 Rw RL hR h11.1 h11.2 x0 y0 z0 H V C h8 h9 ⟨by omega,by omega⟩ slo shi 0 3 [] 0 rfl (fun W' g0 hb' _ hg=>?_)).mono ?_
 ·have hL':=balone (h6.below hb') (h7.below hb') q1 q2 hg
  have hF':Fnd W' (some ⟨g0,0,none⟩) 1 (fun _=>oL (O i 0) 0 0 (O i 3) (O i 4) (O i 5) (O i 6) (O i 7) (O i 8) (O i 9) (O i 10) (O i 11) (lw:Int) (lb:Int) (O i 14) (O i 15) (O i 16) (O i 17) (O i 18) (O i 19) (O i 20) (O i 21)) (fun _=>Z i) (fun _=>B i) [(x0,y0,z0),(H,V,C)] 0 ⟨g0,0,none⟩ wa lw cw ba lb cb x0 y0 z0 H V C:=by
   have hcell:∀ q v,[U i6 (O i 0),U i6 0,U i6 0,U i6 (O i 3),U i6 (O i 4),U i6 (O i 5),U i6 (O i 6),U i6 (O i 7),U i6 (O i 8),U i6 (O i 9),U i6 (O i 10),U i6 (O i 11),Sl wa lw cw,Sl ba lb cb,U i6 (O i 14),U i6 (O i 15),U i6 (O i 16),U i6 (O i 17),U i6 (O i 18),U i6 (O i 19),U i6 (O i 20),U i6 (O i 21)][q]? = some v→W'.cell? ((⟨g0,0,none⟩:Addr).add q)=some v:=blcells hg (fun q v hq=>by simpa using hq)
   refine⟨by omega,rfl,rfl,rfl,fun q v hq=>?_,h6.below hb',h7.below hb',rfl,rfl,s.si hk,⟨Int.le_refl _,Int.le_refl _⟩,h12⟩
   have e0:((⟨g0,0,none⟩:Addr).add (0*22))=⟨g0,0,none⟩:=by rw [Addr.add_lit]
   rw [e0]
   exact hcell q v hq
  refine (of_place x0 y0 z0 0 0 0 (some ⟨g0,0,none⟩) 1 1 _ _ _ W' hL' ch 0 [(x0,y0,z0),(H,V,C)] Rw' hR' 0 ⟨g0,0,none⟩ wa lw cw ba lb cb x0 y0 z0 H V C hF' (fun q=>hch q.1)).mono ?_
  rintro e w' ⟨rfl,hb2⟩
  exact⟨⟨_,rfl,OTm.nil _ _⟩,hb2⟩
 ·rintro e w' ⟨hh,hb2⟩
  refine⟨?_,hb2⟩
  rcases hh with ⟨-,q⟩ | ⟨q,-⟩ | ⟨q,-⟩
  ·exact q
  ·cases q
  ·cases q
theorem bfind_k (h w c lo hi ot:Int) (oa:Option Addr) (on oc:Nat) (O:Nat→Nat→Int) (Z B:Nat→List Int) (W:World) (hL:LRow W oa on oc O Z B) (ch:Int) (RL:List (Int×Int×Int)) (Rw:Int) (hR:gtR O h w c lo hi ot on=(0,0,RL,Rw)) (i:Nat) (hi0:i<on) (hk:rdB (O i 0)=false) (slo shi:Int) :
  Calls Tryz.prog 17 #[.agg #[U i6 h,U i6 w,U i6 c,U i6 lo,U i6 hi,Sl oa on oc,U i6 ot],U i6 ((i:Int)+1),U i6 ch,.agg #[U i6 slo,U i6 shi]] W fun e w'=>e=.returned (.tuple #[.agg #[U i6 0,U i6 0,Sl none 0 0,U i6 0,U i6 0,U i6 0,U i6 0,U i6 0,U i6 0,U i6 0,U i6 0,U i6 0,U i6 0,Sl none 0 0,U i6 0],U i6 81])∧Below W.heap.size W w':=by
 obtain⟨x,rfl⟩:∃ x,oa=some x:=by
  cases oa with
  | none=>have:=hL.2.2.1 rfl;have:=hL.1;omega
  | some x=>exact⟨x,rfl⟩
 obtain⟨wa,lw,cw,ba,lb,cb,e12,e13,hc,hZ,hB,q1,q2⟩:=hL.2.2.2 x rfl i hi0
 obtain⟨⟨j0,j1⟩,hal⟩:=al_of hR hi0
 obtain⟨x0,y0,z0,hA⟩:∃ x0 y0 z0,RL.getD (O i 1).toNat (0,0,0)=(x0,y0,z0):=⟨_,_,_,rfl⟩
 obtain⟨H,V,C,hHV⟩:∃ H V C,RL.getD (i+1) (0,0,0)=(H,V,C):=⟨_,_,_,rfl⟩
 obtain⟨Ra,RL',Rw',hR'⟩:=hal x0 y0 z0 hA
 obtain⟨ja,jb,e1,-,-,-,hopd⟩:=opd_of hR hi0
 have hvb:=vS_bd (hopd x0 y0 z0 H V C (by rw [← hA,e1,Int.toNat_natCast]) hHV).1.hB
 rw [e12,e13] at hR'
 refine (bfind_r h w c lo hi ot ch x on oc i O W hL.m hi0 wa lw cw ba lb cb hc Rw RL hR j0 j1 x0 y0 z0 H V C hA hHV ⟨by omega,by omega⟩ slo shi 0 81 [] 0 rfl (fun W' g0 hb' _ hg=>?_)).mono ?_
 ·have hL':=balone (hZ.below hb') (hB.below hb') q1 q2 hg
  have hfe:fiE (fun _=>oL (O i 0) 0 0 (O i 3) (O i 4) (O i 5) (O i 6) (O i 7) (O i 8) (O i 9) (O i 10) (O i 11) (lw:Int) (lb:Int) (O i 14) (O i 15) (O i 16) (O i 17) (O i 18) (O i 19) (O i 20) (O i 21)) x0 y0 z0 0 0 0 1 (((0:Nat):Int)+1)=81:=fiE_81 (by rw [hR']) (by omega) hk
  refine (of_bad x0 y0 z0 0 0 0 (some ⟨g0,0,none⟩) 1 1 _ _ _ W' hL' 1 ch 0 81 hfe (by decide)).mono ?_
  rintro e w' ⟨rfl,hb2⟩
  exact⟨⟨_,rfl,OTm.nil _ _⟩,hb2⟩
 ·rintro e w' ⟨hh,hb2⟩
  refine⟨?_,hb2⟩
  rcases hh with ⟨-,q⟩ | ⟨q,-⟩ | ⟨q,-⟩
  ·exact q
  ·cases q
  ·cases q
theorem bofe_p (h w c lo hi ot:Int) (oa:Option Addr) (on oc:Nat) (O:Nat→Nat→Int) (Z B:Nat→List Int) (W:World) (hL:LRow W oa on oc O Z B) (ch:Int) (RL:List (Int×Int×Int)) (Rw:Int) (hR:gtR O h w c lo hi ot on=(0,0,RL,Rw)) (i:Nat) (x:Addr) (wa:Option Addr) (lw cw:Nat) (ba:Option Addr) (lb cb:Nat) (x0 y0 z0 H V C:Int) (hF:Fnd W oa on O Z B RL i x wa lw cw ba lb cb x0 y0 z0 H V C) (hch:¬ (1≤ch∧ch≤C)) (op E:Int) (hop:op=(i:Int)+1) (hE3:E=3):(∀ W',Below W.heap.size W W'→(Calls Tryz.prog 37 #[.agg #[U i6 h,U i6 w,U i6 c,U i6 lo,U i6 hi,Sl oa on oc,U i6 ot],U i6 op,U i6 ch,U i6 0] W' fun e w'=>e=.returned (.tuple #[Sl none 0 0,U i6 0,U i6 E])∧Below W'.heap.size W' w')∧∀ slo shi:Int,Calls Tryz.prog 17 #[.agg #[U i6 h,U i6 w,U i6 c,U i6 lo,U i6 hi,Sl oa on oc,U i6 ot],U i6 op,U i6 ch,.agg #[U i6 slo,U i6 shi]] W' fun e w'=>e=.returned (.tuple #[.agg #[U i6 0,U i6 0,Sl none 0 0,U i6 0,U i6 0,U i6 0,U i6 0,U i6 0,U i6 0,U i6 0,U i6 0,U i6 0,U i6 0,Sl none 0 0,U i6 0],U i6 E])∧Below W'.heap.size W' w'):=by
 subst hop hE3
 exact fun W' hb=>⟨of_place h w c lo hi ot oa on oc O Z B W' (hL.below hb) ch 0 RL Rw hR i x wa lw cw ba lb cb x0 y0 z0 H V C (hF.below hb) (fun q=>hch q.1),fun slo shi=>bfind_p h w c lo hi ot oa on oc O Z B W' (hL.below hb) ch RL Rw hR i x wa lw cw ba lb cb x0 y0 z0 H V C (hF.below hb) hch slo shi⟩
theorem bofe_e (h w c lo hi ot:Int) (oa:Option Addr) (on oc:Nat) (O:Nat→Nat→Int) (Z B:Nat→List Int) (W:World) (hL:LRow W oa on oc O Z B) (op ch E:Int) (hf:fiE O h w c lo hi ot on op=E) (hE:E≠0):(∀ W',Below W.heap.size W W'→(Calls Tryz.prog 37 #[.agg #[U i6 h,U i6 w,U i6 c,U i6 lo,U i6 hi,Sl oa on oc,U i6 ot],U i6 op,U i6 ch,U i6 0] W' fun e w'=>e=.returned (.tuple #[Sl none 0 0,U i6 0,U i6 E])∧Below W'.heap.size W' w')∧∀ slo shi:Int,Calls Tryz.prog 17 #[.agg #[U i6 h,U i6 w,U i6 c,U i6 lo,U i6 hi,Sl oa on oc,U i6 ot],U i6 op,U i6 ch,.agg #[U i6 slo,U i6 shi]] W' fun e w'=>e=.returned (.tuple #[.agg #[U i6 0,U i6 0,Sl none 0 0,U i6 0,U i6 0,U i6 0,U i6 0,U i6 0,U i6 0,U i6 0,U i6 0,U i6 0,U i6 0,Sl none 0 0,U i6 0],U i6 E])∧Below W'.heap.size W' w'):=by
 refine fun W' hb=>⟨of_bad h w c lo hi ot oa on oc O Z B W' (hL.below hb) op ch 0 E hf hE,fun slo shi=>?_⟩
 obtain⟨Re,Ra,RL,Rw,hR⟩:∃ Re Ra RL Rw,gtR O h w c lo hi ot on=(Re,Ra,RL,Rw):=⟨_,_,_,_,rfl⟩
 by_cases h1:Re=0
 ·subst h1
  obtain⟨-,rfl,-⟩:=gtR_st hR
  by_cases h2:1≤op∧op≤(on:Int)
  ·obtain⟨i,hii⟩:=Int.eq_ofNat_of_zero_le (show 0≤op-1 by omega)
   obtain rfl:op=(i:Int)+1:=by omega
   have h3:rdB (O i 0)=false:=by
    cases q:rdB (O i 0) with
    | false=>rfl
    | true =>
     refine absurd ?_ hE
     rw [← hf]
     unfold fiE
     rw [hR]
     simp only
     rw [if_neg (by decide),if_neg (by simpa using h2),show ((i:Int)+1-1).toNat=i by omega,q,if_neg (by decide)]
   have hE81:E=81:=by rw [← hf];exact fiE_81 (by rw [hR]) (by omega) h3
   subst hE81
   exact bfind_k h w c lo hi ot oa on oc O Z B W' (hL.below hb) ch RL Rw hR i (by omega) h3 slo shi
  ·have hE3:E=3:=by rw [← hf];exact fiE_3 (by rw [hR]) h2
   subst hE3
   exact bfind_b h w c lo hi ot op ch oa on oc O W' (hL.below hb).m slo shi _ Rw RL hR h2
 ·have hEe:E=Re:=by rw [← hf];exact fiE_err (by rw [hR]) h1
  subst hEe
  exact bfind_a h w c lo hi ot op ch oa on oc O W' (hL.below hb).m slo shi E Ra Rw RL hR h1
def spR (slo shi:Int) (r:Int×Int):Int×Int×Int:=if vbB slo shi=true then (r.1,r.2,0) else (0,0,30)
def spD (slo shi dp:Int) (N:Nat) (r:Int×Int):Int×Int×Int:=if vbB slo shi=true then (if 1≤dp∧dp≤(N:Int) then (r.1,r.2,0) else (0,0,151)) else (0,0,30)
theorem slen {h w c lo hi ot ch:Int} {oa:Option Addr} {on:Nat} {O:Nat→Nat→Int} {Z B:Nat→List Int} {W:World} (RL:List (Int×Int×Int)) (Rw:Int) (hR:gtR O h w c lo hi ot on=(0,0,RL,Rw)) (i:Nat) (x:Addr) (wa:Option Addr) (lw cw:Nat) (ba:Option Addr) (lb cb:Nat) (x0 y0 z0 H V C:Int) (hF:Fnd W oa on O Z B RL i x wa lw cw ba lb cb x0 y0 z0 H V C) (hch:1≤ch∧ch≤C):(siL (O i 0) (O i 4) (O i 5) (O i 6) (O i 7) (O i 8) (O i 9) (O i 10) (O i 11) x0 y0 z0 ch 0 (Z i)).length≤512:=by
 exact (siL_facts hF.2.2.2.2.2.2.2.2.2.1 hF.2.2.2.2.2.1.2.2.2.1 hch 0).1
theorem bfd_30 (h w c lo hi ot:Int) (oa:Option Addr) (on oc:Nat) (O:Nat→Nat→Int) (Z B:Nat→List Int) (W:World) (hL:LRow W oa on oc O Z B) (ch:Int) (RL:List (Int×Int×Int)) (Rw:Int) (hR:gtR O h w c lo hi ot on=(0,0,RL,Rw)) (i:Nat) (x:Addr) (wa:Option Addr) (lw cw:Nat) (ba:Option Addr) (lb cb:Nat) (x0 y0 z0 H V C:Int) (hF:Fnd W oa on O Z B RL i x wa lw cw ba lb cb x0 y0 z0 H V C) (hch:1≤ch∧ch≤C) (slo shi:Int) (hs:vbB slo shi=false):∀ W',Below W.heap.size W W'→Calls Tryz.prog 17 #[.agg #[U i6 h,U i6 w,U i6 c,U i6 lo,U i6 hi,Sl oa on oc,U i6 ot],U i6 ((i:Int)+1),U i6 ch,.agg #[U i6 slo,U i6 shi]] W' fun e w'=>e=.returned (.tuple #[.agg #[U i6 0,U i6 0,Sl none 0 0,U i6 0,U i6 0,U i6 0,U i6 0,U i6 0,U i6 0,U i6 0,U i6 0,U i6 0,U i6 0,Sl none 0 0,U i6 0],U i6 30])∧Below W'.heap.size W' w':=fun W' hb =>
 (bfind_m h w c lo hi ot oa on oc O Z B W hL ch RL Rw hR i x wa lw cw ba lb cb x0 y0 z0 H V C hF hch slo shi _ rfl _ rfl W' hb).mono fun e w' hh=>by
   refine⟨?_,hh.2⟩
   rcases hh.1 with ⟨-,q⟩ | ⟨q,-⟩
   ·exact q
   ·rw [hs] at q;cases q
theorem bfd_ok (h w c lo hi ot:Int) (oa:Option Addr) (on oc:Nat) (O:Nat→Nat→Int) (Z B:Nat→List Int) (W:World) (hL:LRow W oa on oc O Z B) (ch:Int) (RL:List (Int×Int×Int)) (Rw:Int) (hR:gtR O h w c lo hi ot on=(0,0,RL,Rw)) (i:Nat) (x:Addr) (wa:Option Addr) (lw cw:Nat) (ba:Option Addr) (lb cb:Nat) (x0 y0 z0 H V C:Int) (hF:Fnd W oa on O Z B RL i x wa lw cw ba lb cb x0 y0 z0 H V C) (hch:1≤ch∧ch≤C) (slo shi:Int) (hs:vbB slo shi=true) (N:Nat) (hN:(siL (O i 0) (O i 4) (O i 5) (O i 6) (O i 7) (O i 8) (O i 9) (O i 10) (O i 11) x0 y0 z0 ch 0 (Z i)).length=N) (bi:Int) (hbi:biA (O i 0) ch (B i)=bi):∀ W',Below W.heap.size W W'→Calls Tryz.prog 17 #[.agg #[U i6 h,U i6 w,U i6 c,U i6 lo,U i6 hi,Sl oa on oc,U i6 ot],U i6 ((i:Int)+1),U i6 ch,.agg #[U i6 slo,U i6 shi]] W' fun e w'=>(∃ (g0:Nat) (fa:Option Addr) (fc:Nat),e=.returned (.tuple #[.agg #[U i6 ch,U i6 (H*V),Sl fa N fc,U i6 bi,U i6 slo,U i6 shi,U i6 (O i 19),U i6 (O i 19),U i6 x0,U i6 y0,U i6 z0,U i6 0,U i6 0,Sl (some ⟨g0,0,none⟩) 1 1,U i6 0],U i6 0])∧w'.heap[g0]? = some (.cells #[U i6 (O i 0),U i6 0,U i6 0,U i6 (O i 3),U i6 (O i 4),U i6 (O i 5),U i6 (O i 6),U i6 (O i 7),U i6 (O i 8),U i6 (O i 9),U i6 (O i 10),U i6 (O i 11),Sl wa lw cw,Sl ba lb cb,U i6 (O i 14),U i6 (O i 15),U i6 (O i 16),U i6 (O i 17),U i6 (O i 18),U i6 (O i 19),U i6 (O i 20),U i6 (O i 21)] 42 (0,0))∧W'.heap.size≤g0∧TV w' (.slice fa N fc) (siL (O i 0) (O i 4) (O i 5) (O i 6) (O i 7) (O i 8) (O i 9) (O i 10) (O i 11) x0 y0 z0 ch 0 (Z i))∧∀ a,fa=some a→a.block<w'.heap.size)∧Below W'.heap.size W' w':=fun W' hb =>
 (bfind_m h w c lo hi ot oa on oc O Z B W hL ch RL Rw hR i x wa lw cw ba lb cb x0 y0 z0 H V C hF hch slo shi N hN bi hbi W' hb).mono fun e w' hh=>by
   refine⟨?_,hh.2⟩
   rcases hh.1 with ⟨q,-⟩ | ⟨-,q⟩
   ·rw [hs] at q;cases q
   ·exact q
theorem btot_bad (h w c lo hi ot op ch:Int) (oa:Option Addr) (on oc:Nat) (W:World) (slo shi E:Int) (hE:E≠0) (hO:(∀ W',Below W.heap.size W W'→(Calls Tryz.prog 37 #[.agg #[U i6 h,U i6 w,U i6 c,U i6 lo,U i6 hi,Sl oa on oc,U i6 ot],U i6 op,U i6 ch,U i6 0] W' fun e w'=>e=.returned (.tuple #[Sl none 0 0,U i6 0,U i6 E])∧Below W'.heap.size W' w')∧∀ slo shi:Int,Calls Tryz.prog 17 #[.agg #[U i6 h,U i6 w,U i6 c,U i6 lo,U i6 hi,Sl oa on oc,U i6 ot],U i6 op,U i6 ch,.agg #[U i6 slo,U i6 shi]] W' fun e w'=>e=.returned (.tuple #[.agg #[U i6 0,U i6 0,Sl none 0 0,U i6 0,U i6 0,U i6 0,U i6 0,U i6 0,U i6 0,U i6 0,U i6 0,U i6 0,U i6 0,Sl none 0 0,U i6 0],U i6 E])∧Below W'.heap.size W' w')):Calls Tryz.prog 6 #[.agg #[U i6 h,U i6 w,U i6 c,U i6 lo,U i6 hi,Sl oa on oc,U i6 ot],U i6 op,U i6 ch,.agg #[U i6 slo,U i6 shi]] W fun e w'=>e=.returned (.tuple #[.agg #[U i6 0,U i6 0],U i6 E])∧Below W.heap.size W w' :=
 btot_e h w c lo hi ot op ch oa on oc W slo shi E hE (fun W' hb=>(hO W' hb).2 slo shi)
theorem btot_ok (h w c lo hi ot:Int) (oa:Option Addr) (on oc:Nat) (O:Nat→Nat→Int) (Z B:Nat→List Int) (W:World) (hL:LRow W oa on oc O Z B) (ch:Int) (RL:List (Int×Int×Int)) (Rw:Int) (hR:gtR O h w c lo hi ot on=(0,0,RL,Rw)) (i:Nat) (x:Addr) (wa:Option Addr) (lw cw:Nat) (ba:Option Addr) (lb cb:Nat) (x0 y0 z0 H V C:Int) (hF:Fnd W oa on O Z B RL i x wa lw cw ba lb cb x0 y0 z0 H V C) (hch:1≤ch∧ch≤C) (slo shi:Int):Calls Tryz.prog 6 #[.agg #[U i6 h,U i6 w,U i6 c,U i6 lo,U i6 hi,Sl oa on oc,U i6 ot],U i6 ((i:Int)+1),U i6 ch,.agg #[U i6 slo,U i6 shi]] W fun e w'=>e=.returned (.tuple #[.agg #[U i6 (spR slo shi (hbT (biA (O i 0) ch (B i)) (fun (j:Nat)=>enL slo shi (O i 19) (siL (O i 0) (O i 4) (O i 5) (O i 6) (O i 7) (O i 8) (O i 9) (O i 10) (O i 11) x0 y0 z0 ch (j:Int) (Z i))) (H*V).toNat)).1,U i6 (spR slo shi (hbT (biA (O i 0) ch (B i)) (fun (j:Nat)=>enL slo shi (O i 19) (siL (O i 0) (O i 4) (O i 5) (O i 6) (O i 7) (O i 8) (O i 9) (O i 10) (O i 11) x0 y0 z0 ch (j:Int) (Z i))) (H*V).toNat)).2.1],U i6 (spR slo shi (hbT (biA (O i 0) ch (B i)) (fun (j:Nat)=>enL slo shi (O i 19) (siL (O i 0) (O i 4) (O i 5) (O i 6) (O i 7) (O i 8) (O i 9) (O i 10) (O i 11) x0 y0 z0 ch (j:Int) (Z i))) (H*V).toNat)).2.2])∧Below W.heap.size W w':=by
 unfold spR
 cases hs:vbB slo shi with
 | false =>
  rw [if_neg (by decide)]
  exact btot_e h w c lo hi ot _ ch oa on oc W slo shi 30 (by decide) (bfd_30 h w c lo hi ot oa on oc O Z B W hL ch RL Rw hR i x wa lw cw ba lb cb x0 y0 z0 H V C hF hch slo shi hs)
 | true =>
  rw [if_pos rfl]
  obtain⟨-,-,-,-,-,hbi,-⟩:=bfacts hL RL Rw hR i x wa lw cw ba lb cb x0 y0 z0 H V C hF hch
  obtain⟨N,hN⟩:∃ N,(siL (O i 0) (O i 4) (O i 5) (O i 6) (O i 7) (O i 8) (O i 9) (O i 10) (O i 11) x0 y0 z0 ch 0 (Z i)).length=N:=⟨_,rfl⟩
  refine btot_w h w c lo hi ot _ ch oa on oc W slo shi (H*V) (biA (O i 0) ch (B i)) (O i 19) x0 y0 z0 N (by rw [← hN];exact slen RL Rw hR i x wa lw cw ba lb cb x0 y0 z0 H V C hF hch) #[U i6 (O i 0),U i6 0,U i6 0,U i6 (O i 3),U i6 (O i 4),U i6 (O i 5),U i6 (O i 6),U i6 (O i 7),U i6 (O i 8),U i6 (O i 9),U i6 (O i 10),U i6 (O i 11),Sl wa lw cw,Sl ba lb cb,U i6 (O i 14),U i6 (O i 15),U i6 (O i 16),U i6 (O i 17),U i6 (O i 18),U i6 (O i 19),U i6 (O i 20),U i6 (O i 21)] (siL (O i 0) (O i 4) (O i 5) (O i 6) (O i 7) (O i 8) (O i 9) (O i 10) (O i 11) x0 y0 z0 ch 0 (Z i)) _ _ (bfd_ok h w c lo hi ot oa on oc O Z B W hL ch RL Rw hR i x wa lw cw ba lb cb x0 y0 z0 H V C hF hch slo shi hs N hN _ rfl) 19 rfl (fun W' g0 q fa fc hb hg hq hTv hfa=>?_)
  exact bhull_m h w c lo hi ot oa on oc O Z B W hL ch RL Rw hR i x wa lw cw ba lb cb x0 y0 z0 H V C hF hch slo shi hs N (biA (O i 0) ch (B i)) W' hb g0 q fa fc hg hq hTv hfa (fun E=>[suS (biA (O i 0) ch (B i),biA (O i 0) ch (B i)) E]) 19 #[.pointer (some ⟨q,0,none⟩)] (enters_of Tryz.func19 (by kernel_rfl) rfl) (fun W'' v E L nb b hb' hE h0 hl hv hn hbb hT hL=>ctot_any ch (H*V) fa N fc (biA (O i 0) ch (B i)) slo shi (O i 19) x0 y0 z0 g0 q W'' ((hb'.block q (lt_of_heap hq)).trans hq) hbi v E L nb b hE h0 hl hv hn hbb hT hL) (fun E hE h0 hl=>ftot hbi hE hl)
theorem brun_bad (h w c lo hi ot op ch:Int) (oa:Option Addr) (on oc:Nat) (W:World) (slo shi E:Int) (hE:E≠0) (hO:(∀ W',Below W.heap.size W W'→(Calls Tryz.prog 37 #[.agg #[U i6 h,U i6 w,U i6 c,U i6 lo,U i6 hi,Sl oa on oc,U i6 ot],U i6 op,U i6 ch,U i6 0] W' fun e w'=>e=.returned (.tuple #[Sl none 0 0,U i6 0,U i6 E])∧Below W'.heap.size W' w')∧∀ slo shi:Int,Calls Tryz.prog 17 #[.agg #[U i6 h,U i6 w,U i6 c,U i6 lo,U i6 hi,Sl oa on oc,U i6 ot],U i6 op,U i6 ch,.agg #[U i6 slo,U i6 shi]] W' fun e w'=>e=.returned (.tuple #[.agg #[U i6 0,U i6 0,Sl none 0 0,U i6 0,U i6 0,U i6 0,U i6 0,U i6 0,U i6 0,U i6 0,U i6 0,U i6 0,U i6 0,Sl none 0 0,U i6 0],U i6 E])∧Below W'.heap.size W' w')):Calls Tryz.prog 12 #[.agg #[U i6 h,U i6 w,U i6 c,U i6 lo,U i6 hi,Sl oa on oc,U i6 ot],U i6 op,U i6 ch,.agg #[U i6 slo,U i6 shi]] W fun e w'=>e=.returned (.tuple #[.agg #[U i6 0,U i6 0],U i6 E])∧Below W.heap.size W w' :=
 brun_e h w c lo hi ot op ch oa on oc W slo shi E hE (fun W' hb=>(hO W' hb).2 slo shi)
theorem brun_ok (h w c lo hi ot:Int) (oa:Option Addr) (on oc:Nat) (O:Nat→Nat→Int) (Z B:Nat→List Int) (W:World) (hL:LRow W oa on oc O Z B) (ch:Int) (RL:List (Int×Int×Int)) (Rw:Int) (hR:gtR O h w c lo hi ot on=(0,0,RL,Rw)) (i:Nat) (x:Addr) (wa:Option Addr) (lw cw:Nat) (ba:Option Addr) (lb cb:Nat) (x0 y0 z0 H V C:Int) (hF:Fnd W oa on O Z B RL i x wa lw cw ba lb cb x0 y0 z0 H V C) (hch:1≤ch∧ch≤C) (slo shi:Int):Calls Tryz.prog 12 #[.agg #[U i6 h,U i6 w,U i6 c,U i6 lo,U i6 hi,Sl oa on oc,U i6 ot],U i6 ((i:Int)+1),U i6 ch,.agg #[U i6 slo,U i6 shi]] W fun e w'=>e=.returned (.tuple #[.agg #[U i6 (spR slo shi (hbR (biA (O i 0) ch (B i)) (fun (j:Nat)=>enL slo shi (O i 19) (siL (O i 0) (O i 4) (O i 5) (O i 6) (O i 7) (O i 8) (O i 9) (O i 10) (O i 11) x0 y0 z0 ch (j:Int) (Z i))) (H*V).toNat)).1,U i6 (spR slo shi (hbR (biA (O i 0) ch (B i)) (fun (j:Nat)=>enL slo shi (O i 19) (siL (O i 0) (O i 4) (O i 5) (O i 6) (O i 7) (O i 8) (O i 9) (O i 10) (O i 11) x0 y0 z0 ch (j:Int) (Z i))) (H*V).toNat)).2.1],U i6 (spR slo shi (hbR (biA (O i 0) ch (B i)) (fun (j:Nat)=>enL slo shi (O i 19) (siL (O i 0) (O i 4) (O i 5) (O i 6) (O i 7) (O i 8) (O i 9) (O i 10) (O i 11) x0 y0 z0 ch (j:Int) (Z i))) (H*V).toNat)).2.2])∧Below W.heap.size W w':=by
 unfold spR
 cases hs:vbB slo shi with
 | false =>
  rw [if_neg (by decide)]
  exact brun_e h w c lo hi ot _ ch oa on oc W slo shi 30 (by decide) (bfd_30 h w c lo hi ot oa on oc O Z B W hL ch RL Rw hR i x wa lw cw ba lb cb x0 y0 z0 H V C hF hch slo shi hs)
 | true =>
  rw [if_pos rfl]
  obtain⟨-,-,-,-,-,hbi,-⟩:=bfacts hL RL Rw hR i x wa lw cw ba lb cb x0 y0 z0 H V C hF hch
  obtain⟨N,hN⟩:∃ N,(siL (O i 0) (O i 4) (O i 5) (O i 6) (O i 7) (O i 8) (O i 9) (O i 10) (O i 11) x0 y0 z0 ch 0 (Z i)).length=N:=⟨_,rfl⟩
  refine brun_w h w c lo hi ot _ ch oa on oc W slo shi (H*V) (biA (O i 0) ch (B i)) (O i 19) x0 y0 z0 N (by rw [← hN];exact slen RL Rw hR i x wa lw cw ba lb cb x0 y0 z0 H V C hF hch) #[U i6 (O i 0),U i6 0,U i6 0,U i6 (O i 3),U i6 (O i 4),U i6 (O i 5),U i6 (O i 6),U i6 (O i 7),U i6 (O i 8),U i6 (O i 9),U i6 (O i 10),U i6 (O i 11),Sl wa lw cw,Sl ba lb cb,U i6 (O i 14),U i6 (O i 15),U i6 (O i 16),U i6 (O i 17),U i6 (O i 18),U i6 (O i 19),U i6 (O i 20),U i6 (O i 21)] (siL (O i 0) (O i 4) (O i 5) (O i 6) (O i 7) (O i 8) (O i 9) (O i 10) (O i 11) x0 y0 z0 ch 0 (Z i)) _ _ (bfd_ok h w c lo hi ot oa on oc O Z B W hL ch RL Rw hR i x wa lw cw ba lb cb x0 y0 z0 H V C hF hch slo shi hs N hN _ rfl) 31 rfl (fun W' g0 q fa fc hb hg hq hTv hfa=>?_)
  exact bhull_m h w c lo hi ot oa on oc O Z B W hL ch RL Rw hR i x wa lw cw ba lb cb x0 y0 z0 H V C hF hch slo shi hs N (biA (O i 0) ch (B i)) W' hb g0 q fa fc hg hq hTv hfa (fun E=>ruL (biA (O i 0) ch (B i),biA (O i 0) ch (B i)) E) 31 #[.pointer (some ⟨q,0,none⟩)] (enters_of Tryz.func31 (by kernel_rfl) rfl) (fun W'' v E L nb b hb' hE h0 hl hv hn hbb hT hL=>crun_any ch (H*V) fa N fc (biA (O i 0) ch (B i)) slo shi (O i 19) x0 y0 z0 g0 q W'' ((hb'.block q (lt_of_heap hq)).trans hq) hbi v E L nb b hE h0 hl hv hn hbb hT hL) (fun E hE h0 hl=>frun hbi hE hl)
theorem bprd_bad (h w c lo hi ot op ch:Int) (oa:Option Addr) (on oc:Nat) (W:World) (slo shi E:Int) (hE:E≠0) (hO:(∀ W',Below W.heap.size W W'→(Calls Tryz.prog 37 #[.agg #[U i6 h,U i6 w,U i6 c,U i6 lo,U i6 hi,Sl oa on oc,U i6 ot],U i6 op,U i6 ch,U i6 0] W' fun e w'=>e=.returned (.tuple #[Sl none 0 0,U i6 0,U i6 E])∧Below W'.heap.size W' w')∧∀ slo shi:Int,Calls Tryz.prog 17 #[.agg #[U i6 h,U i6 w,U i6 c,U i6 lo,U i6 hi,Sl oa on oc,U i6 ot],U i6 op,U i6 ch,.agg #[U i6 slo,U i6 shi]] W' fun e w'=>e=.returned (.tuple #[.agg #[U i6 0,U i6 0,Sl none 0 0,U i6 0,U i6 0,U i6 0,U i6 0,U i6 0,U i6 0,U i6 0,U i6 0,U i6 0,U i6 0,Sl none 0 0,U i6 0],U i6 E])∧Below W'.heap.size W' w')):Calls Tryz.prog 7 #[.agg #[U i6 h,U i6 w,U i6 c,U i6 lo,U i6 hi,Sl oa on oc,U i6 ot],U i6 op,U i6 ch,.agg #[U i6 slo,U i6 shi]] W fun e w'=>e=.returned (.tuple #[.agg #[U i6 0,U i6 0],U i6 E])∧Below W.heap.size W w' :=
 bprd_e h w c lo hi ot op ch oa on oc W slo shi E hE (fun W' hb=>(hO W' hb).2 slo shi)
theorem bprd_ok (h w c lo hi ot:Int) (oa:Option Addr) (on oc:Nat) (O:Nat→Nat→Int) (Z B:Nat→List Int) (W:World) (hL:LRow W oa on oc O Z B) (ch:Int) (RL:List (Int×Int×Int)) (Rw:Int) (hR:gtR O h w c lo hi ot on=(0,0,RL,Rw)) (i:Nat) (x:Addr) (wa:Option Addr) (lw cw:Nat) (ba:Option Addr) (lb cb:Nat) (x0 y0 z0 H V C:Int) (hF:Fnd W oa on O Z B RL i x wa lw cw ba lb cb x0 y0 z0 H V C) (hch:1≤ch∧ch≤C) (slo shi:Int):Calls Tryz.prog 7 #[.agg #[U i6 h,U i6 w,U i6 c,U i6 lo,U i6 hi,Sl oa on oc,U i6 ot],U i6 ((i:Int)+1),U i6 ch,.agg #[U i6 slo,U i6 shi]] W fun e w'=>e=.returned (.tuple #[.agg #[U i6 (spR slo shi (hbP (fun (j:Nat)=>enL slo shi (O i 19) (siL (O i 0) (O i 4) (O i 5) (O i 6) (O i 7) (O i 8) (O i 9) (O i 10) (O i 11) x0 y0 z0 ch (j:Int) (Z i))) (H*V).toNat)).1,U i6 (spR slo shi (hbP (fun (j:Nat)=>enL slo shi (O i 19) (siL (O i 0) (O i 4) (O i 5) (O i 6) (O i 7) (O i 8) (O i 9) (O i 10) (O i 11) x0 y0 z0 ch (j:Int) (Z i))) (H*V).toNat)).2.1],U i6 (spR slo shi (hbP (fun (j:Nat)=>enL slo shi (O i 19) (siL (O i 0) (O i 4) (O i 5) (O i 6) (O i 7) (O i 8) (O i 9) (O i 10) (O i 11) x0 y0 z0 ch (j:Int) (Z i))) (H*V).toNat)).2.2])∧Below W.heap.size W w':=by
 unfold spR
 cases hs:vbB slo shi with
 | false =>
  rw [if_neg (by decide)]
  exact bprd_e h w c lo hi ot _ ch oa on oc W slo shi 30 (by decide) (bfd_30 h w c lo hi ot oa on oc O Z B W hL ch RL Rw hR i x wa lw cw ba lb cb x0 y0 z0 H V C hF hch slo shi hs)
 | true =>
  rw [if_pos rfl]
  obtain⟨-,-,-,-,-,hbi,-⟩:=bfacts hL RL Rw hR i x wa lw cw ba lb cb x0 y0 z0 H V C hF hch
  obtain⟨N,hN⟩:∃ N,(siL (O i 0) (O i 4) (O i 5) (O i 6) (O i 7) (O i 8) (O i 9) (O i 10) (O i 11) x0 y0 z0 ch 0 (Z i)).length=N:=⟨_,rfl⟩
  refine bprd_w h w c lo hi ot _ ch oa on oc W slo shi (H*V) (biA (O i 0) ch (B i)) (O i 19) x0 y0 z0 N (by rw [← hN];exact slen RL Rw hR i x wa lw cw ba lb cb x0 y0 z0 H V C hF hch) #[U i6 (O i 0),U i6 0,U i6 0,U i6 (O i 3),U i6 (O i 4),U i6 (O i 5),U i6 (O i 6),U i6 (O i 7),U i6 (O i 8),U i6 (O i 9),U i6 (O i 10),U i6 (O i 11),Sl wa lw cw,Sl ba lb cb,U i6 (O i 14),U i6 (O i 15),U i6 (O i 16),U i6 (O i 17),U i6 (O i 18),U i6 (O i 19),U i6 (O i 20),U i6 (O i 21)] (siL (O i 0) (O i 4) (O i 5) (O i 6) (O i 7) (O i 8) (O i 9) (O i 10) (O i 11) x0 y0 z0 ch 0 (Z i)) _ _ (bfd_ok h w c lo hi ot oa on oc O Z B W hL ch RL Rw hR i x wa lw cw ba lb cb x0 y0 z0 H V C hF hch slo shi hs N hN _ rfl) 23 rfl (fun W' g0 q fa fc hb hg hq hTv hfa=>?_)
  exact bhull_m h w c lo hi ot oa on oc O Z B W hL ch RL Rw hR i x wa lw cw ba lb cb x0 y0 z0 H V C hF hch slo shi hs N (biA (O i 0) ch (B i)) W' hb g0 q fa fc hg hq hTv hfa (fun E=>E) 23 #[] (enters_of Tryz.func23 (by kernel_rfl) rfl) (fun W'' v E L nb b hb' hE h0 hl hv hn hbb hT hL=>cprd_any W'' v E L nb b hE h0 hl hv hn hbb hT hL) (fun E hE h0 hl=>hE.vd)
theorem bprt_bad (h w c lo hi ot op ch:Int) (oa:Option Addr) (on oc:Nat) (W:World) (slo shi dp E:Int) (hE:E≠0) (hO:(∀ W',Below W.heap.size W W'→(Calls Tryz.prog 37 #[.agg #[U i6 h,U i6 w,U i6 c,U i6 lo,U i6 hi,Sl oa on oc,U i6 ot],U i6 op,U i6 ch,U i6 0] W' fun e w'=>e=.returned (.tuple #[Sl none 0 0,U i6 0,U i6 E])∧Below W'.heap.size W' w')∧∀ slo shi:Int,Calls Tryz.prog 17 #[.agg #[U i6 h,U i6 w,U i6 c,U i6 lo,U i6 hi,Sl oa on oc,U i6 ot],U i6 op,U i6 ch,.agg #[U i6 slo,U i6 shi]] W' fun e w'=>e=.returned (.tuple #[.agg #[U i6 0,U i6 0,Sl none 0 0,U i6 0,U i6 0,U i6 0,U i6 0,U i6 0,U i6 0,U i6 0,U i6 0,U i6 0,U i6 0,Sl none 0 0,U i6 0],U i6 E])∧Below W'.heap.size W' w')):Calls Tryz.prog 14 #[.agg #[U i6 h,U i6 w,U i6 c,U i6 lo,U i6 hi,Sl oa on oc,U i6 ot],U i6 op,U i6 ch,.agg #[U i6 slo,U i6 shi],U i6 dp] W fun e w'=>e=.returned (.tuple #[.agg #[U i6 0,U i6 0],U i6 E])∧Below W.heap.size W w' :=
 bprt_e h w c lo hi ot op ch oa on oc W slo shi dp E hE (fun W' hb=>(hO W' hb).2 slo shi)
theorem bprt_ok (h w c lo hi ot:Int) (oa:Option Addr) (on oc:Nat) (O:Nat→Nat→Int) (Z B:Nat→List Int) (W:World) (hL:LRow W oa on oc O Z B) (ch:Int) (RL:List (Int×Int×Int)) (Rw:Int) (hR:gtR O h w c lo hi ot on=(0,0,RL,Rw)) (i:Nat) (x:Addr) (wa:Option Addr) (lw cw:Nat) (ba:Option Addr) (lb cb:Nat) (x0 y0 z0 H V C:Int) (hF:Fnd W oa on O Z B RL i x wa lw cw ba lb cb x0 y0 z0 H V C) (hch:1≤ch∧ch≤C) (slo shi dp:Int) (N:Nat) (hN:(siL (O i 0) (O i 4) (O i 5) (O i 6) (O i 7) (O i 8) (O i 9) (O i 10) (O i 11) x0 y0 z0 ch 0 (Z i)).length=N):Calls Tryz.prog 14 #[.agg #[U i6 h,U i6 w,U i6 c,U i6 lo,U i6 hi,Sl oa on oc,U i6 ot],U i6 ((i:Int)+1),U i6 ch,.agg #[U i6 slo,U i6 shi],U i6 dp] W fun e w'=>e=.returned (.tuple #[.agg #[U i6 (spD slo shi dp N (hbD dp.toNat (fun (j:Nat)=>enL slo shi (O i 19) (siL (O i 0) (O i 4) (O i 5) (O i 6) (O i 7) (O i 8) (O i 9) (O i 10) (O i 11) x0 y0 z0 ch (j:Int) (Z i))) (H*V).toNat)).1,U i6 (spD slo shi dp N (hbD dp.toNat (fun (j:Nat)=>enL slo shi (O i 19) (siL (O i 0) (O i 4) (O i 5) (O i 6) (O i 7) (O i 8) (O i 9) (O i 10) (O i 11) x0 y0 z0 ch (j:Int) (Z i))) (H*V).toNat)).2.1],U i6 (spD slo shi dp N (hbD dp.toNat (fun (j:Nat)=>enL slo shi (O i 19) (siL (O i 0) (O i 4) (O i 5) (O i 6) (O i 7) (O i 8) (O i 9) (O i 10) (O i 11) x0 y0 z0 ch (j:Int) (Z i))) (H*V).toNat)).2.2])∧Below W.heap.size W w':=by
 unfold spD
 have hN5:N≤512:=by rw [← hN];exact slen RL Rw hR i x wa lw cw ba lb cb x0 y0 z0 H V C hF hch
 cases hs:vbB slo shi with
 | false =>
  rw [if_neg (by decide)]
  exact bprt_e h w c lo hi ot _ ch oa on oc W slo shi dp 30 (by decide) (bfd_30 h w c lo hi ot oa on oc O Z B W hL ch RL Rw hR i x wa lw cw ba lb cb x0 y0 z0 H V C hF hch slo shi hs)
 | true =>
  rw [if_pos rfl]
  have hFm:=bfd_ok h w c lo hi ot oa on oc O Z B W hL ch RL Rw hR i x wa lw cw ba lb cb x0 y0 z0 H V C hF hch slo shi hs N hN _ rfl
  by_cases hd:1≤dp∧dp≤(N:Int)
  ·rw [if_pos hd]
   obtain⟨d,rfl⟩:=Int.eq_ofNat_of_zero_le (show 0≤dp by omega)
   rw [Int.toNat_natCast]
   have hbf:=bfacts hL RL Rw hR i x wa lw cw ba lb cb x0 y0 z0 H V C hF hch
   have hrf:=row_facts (hbf.1.si hbf.2.1) hF.2.2.2.2.2.1.2.2.2.1 hch (vbB_yes hs) hbf.2.2.2.2.1 0
   have hpi:=piT_it (show 0<d by omega) (fun (j:Nat)=>enL slo shi (O i 19) (siL (O i 0) (O i 4) (O i 5) (O i 6) (O i 7) (O i 8) (O i 9) (O i 10) (O i 11) x0 y0 z0 ch (j:Int) (Z i))) (H*V).toNat (by omega) hrf.2.1
   unfold hbD
   rw [hpi]
   refine bprt_w h w c lo hi ot _ ch oa on oc W slo shi d (H*V) (biA (O i 0) ch (B i)) (O i 19) x0 y0 z0 N hN5 #[U i6 (O i 0),U i6 0,U i6 0,U i6 (O i 3),U i6 (O i 4),U i6 (O i 5),U i6 (O i 6),U i6 (O i 7),U i6 (O i 8),U i6 (O i 9),U i6 (O i 10),U i6 (O i 11),Sl wa lw cw,Sl ba lb cb,U i6 (O i 14),U i6 (O i 15),U i6 (O i 16),U i6 (O i 17),U i6 (O i 18),U i6 (O i 19),U i6 (O i 20),U i6 (O i 21)] (siL (O i 0) (O i 4) (O i 5) (O i 6) (O i 7) (O i 8) (O i 9) (O i 10) (O i 11) x0 y0 z0 ch 0 (Z i)) _ _ hFm ⟨by omega,by omega⟩ (fun W' g0 q r fa fc hb hg hq hr hTv hfa=>?_)
   exact bhull_m h w c lo hi ot oa on oc O Z B W hL ch RL Rw hR i x wa lw cw ba lb cb x0 y0 z0 H V C hF hch slo shi hs N (biA (O i 0) ch (B i)) W' hb g0 q fa fc hg hq hTv hfa (fun E=>itL d E) 33 #[.pointer (some ⟨r,0,none⟩)] (enters_of Tryz.func33 (by kernel_rfl) rfl) (fun W'' v E L nb b hb' hE h0 hl hv hn hbb hT hL=>cprt_any W'' d r ((hb'.block r (lt_of_heap hr)).trans hr) (by omega) (by omega) v E L nb b hE h0 hl hv hn hbb hT hL) (fun E hE h0 hl=>fprt hE hl)
  ·rw [if_neg hd]
   exact bprt_d h w c lo hi ot _ ch oa on oc W slo shi dp (H*V) (biA (O i 0) ch (B i)) (O i 19) x0 y0 z0 N hN5 #[U i6 (O i 0),U i6 0,U i6 0,U i6 (O i 3),U i6 (O i 4),U i6 (O i 5),U i6 (O i 6),U i6 (O i 7),U i6 (O i 8),U i6 (O i 9),U i6 (O i 10),U i6 (O i 11),Sl wa lw cw,Sl ba lb cb,U i6 (O i 14),U i6 (O i 15),U i6 (O i 16),U i6 (O i 17),U i6 (O i 18),U i6 (O i 19),U i6 (O i 20),U i6 (O i 21)] (siL (O i 0) (O i 4) (O i 5) (O i 6) (O i 7) (O i 8) (O i 9) (O i 10) (O i 11) x0 y0 z0 ch 0 (Z i)) 0 0 hFm hd
end Go.Proofs.YtccoanknofhmaaaGreat
