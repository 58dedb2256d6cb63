/- What the document's Terms returns, of an op with a window. The document's Terms, of whatever kind. What the document's Rows of layer 13 returns. What the document's Total of layer 13 returns. What the document's Run of layer 13 returns. What the document's Part and Product of layer 13 return. -/
import Derived.Test.YtccoanknofhmaaaGreatGq15
import Derived.Test.YtccoanknofhmaaaGreatGq25
import Derived.Test.YtccoanknofhmaaaGreatGq26
namespace Go.Proofs.YtccoanknofhmaaaGreat
open Go.Value renaming int → U, slice → Sl
open Go.IntKind renaming i64 → i6
set_option maxRecDepth 100000
set_option maxHeartbeats 16000000
open Go.ChangeShapes Go.WideShapes Go.ChangeAt Go.RowKit
set_option linter.unusedVariables false
theorem covL_get (h w kw t u:Int) {n i:Nat} (hi:i<n):(Nx.covL h w kw t u n).getD i 0=tpc h w kw t u (i:Int):=by simp [Nx.covL,List.getD,hi,tpc]
theorem otm_other {w:World} {base B i:Nat} {v u:Value} {L:List (Int×Int)} (h:OTm w base v L) (hn:v.ownBlock≠some B):OTm (w.setCell ⟨B,i,none⟩ u) base v L:=by
 refine World.ownsRow.kept h (grown_set w B i u) ?_
 cases e:v.ownBlock with
 | none=>exact .inl rfl
 | some b=>exact .inr (fun q=>hn (by rw [e,q]))
theorem rterms_w (k a b m kh kw sh sw tp lf bt rt:Int) (wa:Option Addr) (lw wc:Nat) (ba:Option Addr) (lb bc:Nat) (sm ss um us z p lo hi h w:Int) (cn:Nat) (H V C:Int) (W:World) (zs:List Int) (hZ:IRow .i16 W wa lw wc zs) (s:Sit k kh kw sh sw tp lf bt rt h w (cn:Int) H V C lw lb) (k1:k≠1) (ch at' t u:Int) (hch:1≤ch∧ch≤C) (hcc:coR h w (cn:Int) kh kw sh sw tp lf bt rt at'=(t,u,0)) (st:Nat) (hst:stR k kh kw h w (cn:Int)=(st:Int)) :
  Calls Tryz.prog 44 #[.agg #[U i6 k,U i6 a,U i6 b,U i6 m,U i6 kh,U i6 kw,U i6 sh,U i6 sw,U i6 tp,U i6 lf,U i6 bt,U i6 rt,Sl wa lw wc,Sl ba lb bc,U i6 sm,U i6 ss,U i6 um,U i6 us,U i6 z,U i6 p,U i6 lo,U i6 hi,U i6 h,U i6 w,U i6 (cn:Int),U i6 H,U i6 V,U i6 C],U i6 ch,U i6 at'] W fun e w'=>(∃ v,e=.returned v∧OTm w' W.heap.size v (tmL k (cn:Int) ch h w kw t u st zs st))∧Below W.heap.size W w':=by
 have hLe:Hid (∀ W',Calls Tryz.prog 15 #[.agg #[U i6 k,U i6 a,U i6 b,U i6 m,U i6 kh,U i6 kw,U i6 sh,U i6 sw,U i6 tp,U i6 lf,U i6 bt,U i6 rt,Sl wa lw wc,Sl ba lb bc,U i6 sm,U i6 ss,U i6 um,U i6 us,U i6 z,U i6 p,U i6 lo,U i6 hi,U i6 h,U i6 w,U i6 (cn:Int),U i6 H,U i6 V,U i6 C]] W' fun e w'=>e=.returned (U i6 st)∧Below W'.heap.size W' w'):=fun W'=>by rw [← hst];exact rlen_any k a b m kh kw sh sw tp lf bt rt wa lw wc ba lb bc sm ss um us z p lo hi h w (cn:Int) H V C W' s
 have hWg:Hid (∀ (w':World) (i:Nat),i<st→Below W.heap.size W w'→Calls Tryz.prog 63 #[.agg #[U i6 k,U i6 a,U i6 b,U i6 m,U i6 kh,U i6 kw,U i6 sh,U i6 sw,U i6 tp,U i6 lf,U i6 bt,U i6 rt,Sl wa lw wc,Sl ba lb bc,U i6 sm,U i6 ss,U i6 um,U i6 us,U i6 z,U i6 p,U i6 lo,U i6 hi,U i6 h,U i6 w,U i6 (cn:Int),U i6 H,U i6 V,U i6 C],U i6 ch,U i6 i] w' fun e w''=>e=.returned (U i6 (wgA k ch st zs i))∧Below w'.heap.size w' w''):=fun w' i hj hb=>by
  have:=rwei_any k a b m kh kw sh sw tp lf bt rt wa lw wc ba lb bc sm ss um us z p lo hi h w (cn:Int) H V C w' zs (hZ.below hb) s ch hch i (by rw [hst];omega)
  rw [hst] at this
  exact this
 have hTp:Hid (∀ W',_):=fun W'=>Nx.rtaps_any h w (cn:Int) kh kw sh sw tp lf bt rt at' t u W' hcc
 have hlen:st≤512:=by have:=s.2.2.2.2.2.2.2.2.2;rw [hst] at this;omega
 obtain⟨hk,hvA,hvB,hou,-,hwn,-,h3c,-⟩:=s
 have hC1:=(vS_yes hvB).2.2.1
 have hcn1:=(vS_yes hvA).2.2.1
 have hd1:=(vS_yes hvA).1
 have hw1:=(vS_yes hvA).2.1
 obtain⟨hk1,hk2⟩:=hwn (by omega)
 have hm:h*w≤16384:=by
  have h4:=(vS_yes hvA).2.2.2
  have p1:=(mul_bd hd1.1 hd1.2 hw1.1 hw1.2).1
  have:=Int.mul_le_mul_of_nonneg_left hcn1.1 (show 0≤h*w by omega)
  omega
 obtain⟨N,hN⟩:∃ N:Nat,kh*kw=(N:Int):=⟨(kh*kw).toNat,by have:=(mul_bd hk1.1 hk1.2 hk2.1 hk2.2).1;omega⟩
 rw [hN,Int.toNat_natCast] at hTp
 have hstN:(k=2→st=N*cn)∧(k≠2→st=N):=by
  unfold stR at hst
  rw [if_neg k1] at hst
  constructor
  ·intro k2
   rw [if_pos k2,hN] at hst
   exact_mod_cast hst.symm
  ·intro k2
   rw [if_neg k2,if_pos (by omega),hN] at hst
   exact_mod_cast hst.symm
 have hN2:N≤1024:=by have:=(mul_bd hk1.1 hk1.2 hk2.1 hk2.2).2;omega
 have HST:Hid ((k=2→st=N*cn)∧(k≠2→st=N)):=hstN
 have hPb:Hid (∀ q:Int,-1≤tpc h w kw t u q∧tpc h w kw t u q≤16384):=fun q=>plc_bd hd1 hw1 hm
 have k1':(k == 1)=false:=by simp [k1]
 clear hst hZ hvA hvB hou hwn h3c hcc hN hm hstN
 have s0:=(St.start W).new (c:=#[U i6 k,U i6 a,U i6 b,U i6 m,U i6 kh,U i6 kw,U i6 sh,U i6 sw,U i6 tp,U i6 lf,U i6 bt,U i6 rt,Sl wa lw wc,Sl ba lb bc,U i6 sm,U i6 ss,U i6 um,U i6 us,U i6 z,U i6 p,U i6 lo,U i6 hi,U i6 h,U i6 w,U i6 (cn:Int),U i6 H,U i6 V,U i6 C]) (t:=44)
 go_enter Tryz.func44,Tryz.ntmps44
 go_wp2_with (refine wpList_load_row rfl 44 (.tmp 3) rfl W.heap.size rfl 44 _ (0,0) _ s0.h1 Tryz.underlying44 rfl (by kernel_rfl) ?_)
 refine (hLe.out _).mono ?_
 rintro e w1 ⟨rfl,hb⟩
 have s1:=s0.call hb
 obtain⟨c1,f1,z1,-⟩:=s1.rules
 clear hb s0
 go_wp2_with fail
 refine (hTp.out _).mono ?_
 rintro e w2 ⟨⟨v,rfl,hOw⟩,hb⟩
 obtain⟨ta,tc,rfl,hrow,-⟩:=hOw.row
 rw [Nx.covL_len] at hrow ⊢
 have hcap:=hrow.2.1
 have hcm:=hrow.2.2.1
 unfold maxLen at hcm
 have Hrow:Hid (Nx.Row w2 ta N tc (Nx.covL h w kw t u N)):=hrow
 have S2:Hid (St W w2 _):=s1.call hb
 clear hb s1 hOw hrow c1 f1 z1
 go_wp2
 go_loopw [7,11] (fun v i wr=>∃ y:Nat,y≤st∧i=U i6 y∧OTm wr w2.heap.size v (tmL k (cn:Int) ch h w kw t u st zs y)∧Below w2.heap.size w2 wr) (fun _ i _=>st-(intOf i).toNat)
 case atStart=>exact⟨0,Nat.zero_le _,rfl,OTm.nil _ _,Below.refl _ _⟩
 case round =>
  obtain⟨y,hy,rfl,hO,hb⟩:=hrel
  have s3:=S2.out.call hb
  obtain⟨va,vc,hve⟩:=hO.slice
  rw [tmL_len] at hve
  subst hve
  have HO:Hid (OTm _ _ _ _):=hO
  have hbz:=hb.size
  have Hb:Hid (Below w2.heap.size w2 wr):=hb
  clear hO
  by_cases hlt:y<st
  ·obtain⟨c1,f1,z1,-⟩:=s3.rules
   by_cases k2:k=2
   ·have hstN:=HST.out.1 k2
    have hcn0:0<cn:=by omega
    obtain⟨Q,hQe⟩:∃ Q,y / cn=Q:=⟨_,rfl⟩
    obtain⟨R,hRe⟩:∃ R,y % cn=R:=⟨_,rfl⟩
    have hQ:Q<N:=by rw [← hQe];exact Nat.div_lt_of_lt_mul (by rw [Nat.mul_comm];omega)
    have hR:R<cn:=by rw [← hRe];exact Nat.mod_lt _ hcn0
    have hq1:Int.tdiv (y:Int) (cn:Int)=(Q:Int):=by rw [← hQe];rfl
    have hq2:Int.tmod (y:Int) (cn:Int)=(R:Int):=by rw [← hRe];rfl
    have HP:Hid (plA k (cn:Int) ch h w kw t u y=cov (cn:Int) (tpc h w kw t u (Q:Int)) (R:Int)):=by unfold Hid plA;rw [if_neg k1,if_pos k2,← hQe,← hRe];rfl
    have hc0:¬ ((cn:Int)=0):=by omega
    have k2':(k == 2)=true:=by simp [k2]
    obtain⟨D,hDe⟩:∃ D:Int,(R:Int)=D:=⟨_,rfl⟩
    have hD:0≤D∧D≤1024:=by omega
    rw [hDe] at hq2 HP
    clear hQe hRe hDe hstN hR HST k2
    go_upto_region 15 with fail
    go_quiet (fail)
    have s4:=s3.call (dbel wr nq)
    have HO4:Hid (OTm _ _ _ _):=HO.out.below (dbel wr nq)
    have Hb4:Hid (Below w2.heap.size w2 _):=Hb.out.trans ((dbel wr nq).mono hbz)
    obtain⟨w4,hw4⟩:∃ w4,wr.drewN nq=w4:=⟨_,rfl⟩
    rw [hw4] at s4 HO4 Hb4 ⊢
    have hbz4:=Hb4.out.size
    clear hw4 c1 f1 z1 hb s3 Hb HO
    obtain⟨P,hPe⟩:∃ P,tpc h w kw t u (Q:Int)=P:=⟨_,rfl⟩
    obtain⟨x,rfl⟩:∃ x,ta=some x:=by
     cases ta with
     | none=>have h1:=Hrow.out.2.2.2.1 rfl;have h2:=Hrow.out.2.1;omega
     | some x=>exact⟨x,rfl⟩
    have hcx0:=Hrow.out.2.2.2.2 x rfl Q hQ
    rw [covL_get _ _ _ _ _ hQ,hPe] at hcx0
    have hxb:x.block<w2.heap.size:=by have:=World.block_lt_of_cell? _ _ hcx0;rwa [add_block] at this
    have hPb1:=hPb.out (Q:Int)
    rw [hPe] at HP hPb1
    obtain⟨WG,hWG⟩:∃ WG,wgA k ch st zs y=WG:=⟨_,rfl⟩
    have hWg1:Hid (∀ (w':World),Below W.heap.size W w'→_):=fun w' hb=>hWg.out w' y hlt hb
    rw [hWG] at hWg1
    have HS:Hid (tmL k (cn:Int) ch h w kw t u st zs (y+1)=tmL k (cn:Int) ch h w kw t u st zs y++[(WG,cov (cn:Int) P D)]):=by unfold Hid;rw [tmL_succ,hWG,HP.out]
    have HLn:Hid ((tmL k (cn:Int) ch h w kw t u st zs y).length+1≤1000000):=by unfold Hid;rw [tmL_len];omega
    clear hPe hWG HP
    have h1:=s4.h1
    go_wp2_with (refine wpList_load_row rfl 44 (.tmp 3) rfl W.heap.size rfl 44 _ (0,0) _ h1 Tryz.underlying44 rfl (by kernel_rfl) ?_)
    refine (hWg1.out _ s4.below).mono ?_
    rintro e w5 ⟨rfl,hb5⟩
    have s5:=(s4.call hb5).new (c:=#[U i6 WG,U i6 (-1)]) (t:=92)
    have HOn:Hid ((Value.slice va y vc).ownBlock≠some w5.heap.size):=fun e=>by have:=(World.ownsRow.lt (HO4.out.below hb5) _ e).2;omega
    have HO5:Hid (OTm _ _ _ _):=(HO4.out.below hb5).below (bal w5 (.cells #[U i6 WG,U i6 (-1)] 92))
    have hz5:w2.heap.size≤w5.heap.size:=Nat.le_trans hbz4 hb5.size
    have B5:Hid (Below w2.heap.size w2 (w5.alloc (.cells #[U i6 WG,U i6 (-1)] 92))):=(Hb4.out.trans (hb5.mono hbz4)).alloc hz5 _
    have hWz:W.heap.size<w2.heap.size:=lt_of_heap S2.out.h1
    obtain⟨w6,hw6⟩:∃ w6,w5.alloc (.cells #[U i6 WG,U i6 (-1)] 92)=w6:=⟨_,rfl⟩
    have hcx:w6.cell? (x.add Q)=some (U i6 P):=by rw [← hw6];exact (B5.out.cell (by rw [add_block];exact hxb)).trans hcx0
    have hz6:Hid (w6.heap.size=w5.heap.size+1):=by unfold Hid;rw [← hw6];simp
    clear hb5 h1 s4 HO4 Hb4 hcx0
    go_upto_region 17 with fail
    rw [hw6] at s5 HO5 B5
    try rw [hw6]
    clear hw6
    have S5:Hid (St W w6 _):=s5
    obtain⟨c1,f1,z1,c2,f2,z2,-⟩:=s5.rules
    clear s5
    by_cases hp:P = -1
    ·subst hp
     have HC:Hid (cov (cn:Int) (-1) D = -1):=if_pos rfl
     rw [HC.out] at HS
     go_wp2_with (at_builtin;refine wpList_apT rfl (.tmp 86) (.tmp 88) rfl w2.heap.size _ _ [(WG,(-1:Int))] rfl (HO5.out.below (bal w6 _)) w6.heap.size 1 1 rfl rfl (term_one w6 _ _) HLn.out (by simp;have:=hz6.out;omega) ?_;intro v7 w7 own7 gr7;have B7:Hid (Below w2.heap.size w2 w7):=(HO5.out.below (bal w6 _)).grow (B5.out.alloc B5.out.size _) gr7 (by simp;have:=hz6.out;omega))
     go_roundw
     case rel=>exact⟨y+1,by omega,by go_num,by rw [HS.out];exact own7,B7.out⟩
     case measure=>simp [intOf];omega
    ·have HC:Hid (cov (cn:Int) P D=P*(cn:Int)+D):=if_neg hp
     rw [HC.out] at HS
     have hp0:0≤P:=by omega
     have m1:0≤P*(cn:Int):=Int.mul_nonneg (by omega) (by omega)
     have m2:P*(cn:Int)≤16384*1024:=Int.mul_le_mul hPb1.2 hcn1.2 (by omega) (by omega)
     obtain⟨PC,hPC⟩:∃ PC,P*(cn:Int)=PC:=⟨_,rfl⟩
     rw [hPC] at m1 m2 HS
     go_upto_region 18 with fail
     have hG:=S5.out.h2
     have hG1:=S5.out.h1
     refine regionC (fun w'=>w'.cell? (x.add Q)=some (U i6 P)∧w'.heap[W.heap.size]? = some (.cells #[U i6 k,U i6 a,U i6 b,U i6 m,U i6 kh,U i6 kw,U i6 sh,U i6 sw,U i6 tp,U i6 lf,U i6 bt,U i6 rt,Sl wa lw wc,Sl ba lb bc,U i6 sm,U i6 ss,U i6 um,U i6 us,U i6 z,U i6 p,U i6 lo,U i6 hi,U i6 h,U i6 w,U i6 (cn:Int),U i6 H,U i6 V,U i6 C] 44 (0,0))) (by kernel_rfl) ?_
     obtain⟨wd,hwd⟩:∃ wd,w6.drew=wd:=⟨_,rfl⟩
     have HCl:Hid (wd.cell? (x.add Q)=some (U i6 P)∧wd.heap[W.heap.size]? = some (.cells #[U i6 k,U i6 a,U i6 b,U i6 m,U i6 kh,U i6 kw,U i6 sh,U i6 sw,U i6 tp,U i6 lf,U i6 bt,U i6 rt,Sl wa lw wc,Sl ba lb bc,U i6 sm,U i6 ss,U i6 um,U i6 us,U i6 z,U i6 p,U i6 lo,U i6 hi,U i6 h,U i6 w,U i6 (cn:Int),U i6 H,U i6 V,U i6 C] 44 (0,0))):=by unfold Hid;rw [← hwd];exact⟨hcx,hG⟩
     have HD:Hid (Below w6.heap.size w6 wd):=by unfold Hid;rw [← hwd];exact (Below.refl _ _).drew
     have hGd:wd.heap[w5.heap.size]? = some (.cells #[U i6 WG,U i6 (-1)] 92 (0,0)):=by rw [← hwd];exact hG1
     rw [hwd]
     clear hwd hG hG1 c1 f1 c2 f2
     refine takeC 0 (v:=.slice (some x) N tc) rfl rfl (by kernel_rfl) (by kernel_rfl) (by kernel_rfl) (fun _ _ _ h=>h) (fun _=>rfl) rfl (fun w' hw'=>by go_simp) ?_
     refine takeC 1 (v:=U i6 (Q:Int)) rfl rfl (by kernel_rfl) (by kernel_rfl) (by kernel_rfl) (fun _ _ _ h=>h) (fun _=>rfl) rfl (fun w' hw'=>by go_simp) ?_
     refine takeC 2 (v:=.pointer (some (x.add Q))) rfl rfl (by kernel_rfl) (by kernel_rfl) (by kernel_rfl) (fun _ _ _ h=>h) (fun _=>rfl) rfl (fun w' hw'=>by go_simp) ?_
     refine takeC 3 (v:=U i6 P) rfl rfl (by kernel_rfl) (by kernel_rfl) (by kernel_rfl) (fun _ _ _ h=>h) (fun _=>rfl) rfl (fun w' hw'=>by have hc:=hw'.1;go_simp) ?_
     refine takeC 4 (v:=.pointer (some ⟨W.heap.size,22,none⟩)) rfl rfl (by kernel_rfl) (by kernel_rfl) (by kernel_rfl) (fun _ _ _ h=>h) (fun _=>rfl) rfl (fun w' hw'=>by go_simp) ?_
     refine takeC 5 (v:=.pointer (some ⟨W.heap.size,24,none⟩)) rfl rfl (by kernel_rfl) (by kernel_rfl) (by kernel_rfl) (fun _ _ _ h=>h) (fun _=>rfl) rfl (fun w' hw'=>by go_simp) ?_
     refine takeC 6 (v:=U i6 (cn:Int)) rfl rfl (by kernel_rfl) (by kernel_rfl) (by kernel_rfl) (fun _ _ _ h=>h) (fun _=>rfl) rfl (fun w' hw'=>by have hc:=(cells_at hw'.2).1 24;go_simp) ?_
     refine takeC 7 (v:=U i6 PC) rfl rfl (by kernel_rfl) (by kernel_rfl) (by kernel_rfl) (fun _ _ _ h=>h) (fun _=>rfl) rfl (fun w' hw'=>by go_simp;try (rw [IntKind.wrap_i64];omega)) ?_
     refine takeC 8 (v:=U i6 D) rfl rfl (by kernel_rfl) (by kernel_rfl) (by kernel_rfl) (fun _ _ _ h=>h) (fun _=>rfl) rfl (fun w' hw'=>by go_simp) ?_
     refine takeC 9 (v:=U i6 (PC+D)) rfl rfl (by kernel_rfl) (by kernel_rfl) (by kernel_rfl) (fun _ _ _ h=>h) (fun _=>rfl) rfl (fun w' hw'=>by go_simp;try (rw [IntKind.wrap_i64];omega)) ?_
     refine takeC 10 (v:=.pointer (some ⟨w5.heap.size,1,none⟩)) rfl rfl (by kernel_rfl) (by kernel_rfl) (by kernel_rfl) (fun _ _ _ h=>h) (fun _=>rfl) rfl (fun w' hw'=>by go_simp) ?_
     have g1:wd.cell? ⟨w5.heap.size,1,none⟩=some (U i6 (-1)):=(cells_at hGd).1 1
     have g2:wd.frozen? ⟨w5.heap.size,1,none⟩=false:=(cells_at hGd).2.1 1
     refine stepC 11 HCl.out (by kernel_rfl) rfl (fun K hK=>step_wp rfl ?_)
     go_simp
     refine hK _ _ ?_
     clear hK K g1 g2
     have hGs:Hid ((wd.setCell ⟨w5.heap.size,1,none⟩ (U i6 (PC+D))).heap[w5.heap.size]? = some (.cells #[U i6 WG,U i6 (PC+D)] 92 (0,0))):=heap_setCell_at hGd
     have hD6:Hid (Below w2.heap.size w2 (wd.setCell ⟨w5.heap.size,1,none⟩ (U i6 (PC+D)))):=(B5.out.trans (HD.out.mono B5.out.size)).setCell (p:=⟨w5.heap.size,1,none⟩) hz5 _
     have HCs:Hid ((wd.setCell ⟨w5.heap.size,1,none⟩ (U i6 (PC+D))).cell? (x.add Q)=some (U i6 P)∧(wd.setCell ⟨w5.heap.size,1,none⟩ (U i6 (PC+D))).heap[W.heap.size]? = some (.cells #[U i6 k,U i6 a,U i6 b,U i6 m,U i6 kh,U i6 kw,U i6 sh,U i6 sw,U i6 tp,U i6 lf,U i6 bt,U i6 rt,Sl wa lw wc,Sl ba lb bc,U i6 sm,U i6 ss,U i6 um,U i6 us,U i6 z,U i6 p,U i6 lo,U i6 hi,U i6 h,U i6 w,U i6 (cn:Int),U i6 H,U i6 V,U i6 C] 44 (0,0))):=by
      refine⟨?_,?_⟩
      ·have hb7:Below w2.heap.size wd (wd.setCell ⟨w5.heap.size,1,none⟩ (U i6 (PC+D))):=(Below.refl _ wd).setCell (p:=⟨w5.heap.size,1,none⟩) hz5 _
       exact (hb7.cell (by rw [add_block];exact hxb)).trans HCl.out.1
      ·rw [Below.heap_setCell _ _ _ _ (show W.heap.size≠w5.heap.size by omega)]
       exact HCl.out.2
     have HO6:Hid (OTm (wd.setCell ⟨w5.heap.size,1,none⟩ (U i6 (PC+D))) w2.heap.size (.slice va y vc) (tmL k (cn:Int) ch h w kw t u st zs y)):=otm_other (HO5.out.below HD.out) HOn.out
     refine doneC HCs.out (by kernel_rfl) ?_ _
     obtain⟨w7,hw7⟩:∃ w7,wd.setCell ⟨w5.heap.size,1,none⟩ (U i6 (PC+D))=w7:=⟨_,rfl⟩
     rw [hw7] at hGs hD6 HO6 ⊢
     have hz7:w5.heap.size<w7.heap.size:=lt_of_heap hGs.out
     obtain⟨c1,f1,z1'⟩:=cells_at hGs.out
     clear hw7 HCs HCl HD hGd hcx
     go_wp2_with (at_builtin;refine wpList_apT rfl (.tmp 86) (.tmp 88) rfl w2.heap.size _ _ [(WG,PC+D)] rfl (HO6.out.below (bal w7 _)) w7.heap.size 1 1 rfl rfl (term_one w7 _ _) HLn.out (by simp;omega) ?_;intro v8 w8 own8 gr8;have B8:Hid (Below w2.heap.size w2 w8):=(HO6.out.below (bal w7 _)).grow (hD6.out.alloc hD6.out.size _) gr8 (by simp;omega))
     go_roundw
     case rel=>exact⟨y+1,by omega,by go_num,by rw [HS.out];exact own8,B8.out⟩
     case measure=>simp [intOf];omega
   ·have hstN:=HST.out.2 k2
    have k2':(k == 2)=false:=by simp [k2]
    have hQ:y<N:=by omega
    obtain⟨D,hDe⟩:∃ D:Int,ch-1=D:=⟨_,rfl⟩
    have hD:0≤D∧D≤1024:=by omega
    have HP:Hid (plA k (cn:Int) ch h w kw t u y=cov (cn:Int) (tpc h w kw t u (y:Int)) D):=by unfold Hid plA;rw [if_neg k1,if_neg k2,hDe]
    clear hstN HST k2
    go_upto_region 16 with fail
    have s4:=s3
    have HO4:Hid (OTm _ _ _ _):=HO.out
    have Hb4:Hid (Below w2.heap.size w2 _):=Hb.out
    have hbz4:=Hb4.out.size
    clear c1 f1 z1 hb s3 Hb HO
    obtain⟨P,hPe⟩:∃ P,tpc h w kw t u (y:Int)=P:=⟨_,rfl⟩
    obtain⟨x,rfl⟩:∃ x,ta=some x:=by
     cases ta with
     | none=>have h1:=Hrow.out.2.2.2.1 rfl;have h2:=Hrow.out.2.1;omega
     | some x=>exact⟨x,rfl⟩
    have hcx0:=Hrow.out.2.2.2.2 x rfl y hQ
    rw [covL_get _ _ _ _ _ hQ,hPe] at hcx0
    have hxb:x.block<w2.heap.size:=by have:=World.block_lt_of_cell? _ _ hcx0;rwa [add_block] at this
    have hPb1:=hPb.out (y:Int)
    rw [hPe] at HP hPb1
    obtain⟨WG,hWG⟩:∃ WG,wgA k ch st zs y=WG:=⟨_,rfl⟩
    have hWg1:Hid (∀ (w':World),Below W.heap.size W w'→_):=fun w' hb=>hWg.out w' y hlt hb
    rw [hWG] at hWg1
    have HS:Hid (tmL k (cn:Int) ch h w kw t u st zs (y+1)=tmL k (cn:Int) ch h w kw t u st zs y++[(WG,cov (cn:Int) P D)]):=by unfold Hid;rw [tmL_succ,hWG,HP.out]
    have HLn:Hid ((tmL k (cn:Int) ch h w kw t u st zs y).length+1≤1000000):=by unfold Hid;rw [tmL_len];omega
    clear hPe hWG HP
    have h1:=s4.h1
    go_wp2_with (refine wpList_load_row rfl 44 (.tmp 3) rfl W.heap.size rfl 44 _ (0,0) _ h1 Tryz.underlying44 rfl (by kernel_rfl) ?_)
    refine (hWg1.out _ s4.below).mono ?_
    rintro e w5 ⟨rfl,hb5⟩
    have s5:=(s4.call hb5).new (c:=#[U i6 WG,U i6 (-1)]) (t:=92)
    have HOn:Hid ((Value.slice va y vc).ownBlock≠some w5.heap.size):=fun e=>by have:=(World.ownsRow.lt (HO4.out.below hb5) _ e).2;omega
    have HO5:Hid (OTm _ _ _ _):=(HO4.out.below hb5).below (bal w5 (.cells #[U i6 WG,U i6 (-1)] 92))
    have hz5:w2.heap.size≤w5.heap.size:=Nat.le_trans hbz4 hb5.size
    have B5:Hid (Below w2.heap.size w2 (w5.alloc (.cells #[U i6 WG,U i6 (-1)] 92))):=(Hb4.out.trans (hb5.mono hbz4)).alloc hz5 _
    have hWz:W.heap.size<w2.heap.size:=lt_of_heap S2.out.h1
    obtain⟨w6,hw6⟩:∃ w6,w5.alloc (.cells #[U i6 WG,U i6 (-1)] 92)=w6:=⟨_,rfl⟩
    have hcx:w6.cell? (x.add y)=some (U i6 P):=by rw [← hw6];exact (B5.out.cell (by rw [add_block];exact hxb)).trans hcx0
    have hz6:Hid (w6.heap.size=w5.heap.size+1):=by unfold Hid;rw [← hw6];simp
    clear hb5 h1 s4 HO4 Hb4 hcx0
    go_upto_region 17 with fail
    rw [hw6] at s5 HO5 B5
    try rw [hw6]
    clear hw6
    have S5:Hid (St W w6 _):=s5
    obtain⟨c1,f1,z1,c2,f2,z2,-⟩:=s5.rules
    clear s5
    by_cases hp:P = -1
    ·subst hp
     have HC:Hid (cov (cn:Int) (-1) D = -1):=if_pos rfl
     rw [HC.out] at HS
     go_wp2_with (at_builtin;refine wpList_apT rfl (.tmp 86) (.tmp 88) rfl w2.heap.size _ _ [(WG,(-1:Int))] rfl (HO5.out.below (bal w6 _)) w6.heap.size 1 1 rfl rfl (term_one w6 _ _) HLn.out (by simp;have:=hz6.out;omega) ?_;intro v7 w7 own7 gr7;have B7:Hid (Below w2.heap.size w2 w7):=(HO5.out.below (bal w6 _)).grow (B5.out.alloc B5.out.size _) gr7 (by simp;have:=hz6.out;omega))
     go_roundw
     case rel=>exact⟨y+1,by omega,by go_num,by rw [HS.out];exact own7,B7.out⟩
     case measure=>simp [intOf];omega
    ·have HC:Hid (cov (cn:Int) P D=P*(cn:Int)+D):=if_neg hp
     rw [HC.out] at HS
     have hp0:0≤P:=by omega
     have m1:0≤P*(cn:Int):=Int.mul_nonneg (by omega) (by omega)
     have m2:P*(cn:Int)≤16384*1024:=Int.mul_le_mul hPb1.2 hcn1.2 (by omega) (by omega)
     obtain⟨PC,hPC⟩:∃ PC,P*(cn:Int)=PC:=⟨_,rfl⟩
     rw [hPC] at m1 m2 HS
     go_upto_region 18 with fail
     have hG:=S5.out.h2
     have hG1:=S5.out.h1
     refine regionC (fun w'=>w'.cell? (x.add y)=some (U i6 P)∧w'.heap[W.heap.size]? = some (.cells #[U i6 k,U i6 a,U i6 b,U i6 m,U i6 kh,U i6 kw,U i6 sh,U i6 sw,U i6 tp,U i6 lf,U i6 bt,U i6 rt,Sl wa lw wc,Sl ba lb bc,U i6 sm,U i6 ss,U i6 um,U i6 us,U i6 z,U i6 p,U i6 lo,U i6 hi,U i6 h,U i6 w,U i6 (cn:Int),U i6 H,U i6 V,U i6 C] 44 (0,0))) (by kernel_rfl) ?_
     obtain⟨wd,hwd⟩:∃ wd,w6.drew=wd:=⟨_,rfl⟩
     have HCl:Hid (wd.cell? (x.add y)=some (U i6 P)∧wd.heap[W.heap.size]? = some (.cells #[U i6 k,U i6 a,U i6 b,U i6 m,U i6 kh,U i6 kw,U i6 sh,U i6 sw,U i6 tp,U i6 lf,U i6 bt,U i6 rt,Sl wa lw wc,Sl ba lb bc,U i6 sm,U i6 ss,U i6 um,U i6 us,U i6 z,U i6 p,U i6 lo,U i6 hi,U i6 h,U i6 w,U i6 (cn:Int),U i6 H,U i6 V,U i6 C] 44 (0,0))):=by unfold Hid;rw [← hwd];exact⟨hcx,hG⟩
     have HD:Hid (Below w6.heap.size w6 wd):=by unfold Hid;rw [← hwd];exact (Below.refl _ _).drew
     have hGd:wd.heap[w5.heap.size]? = some (.cells #[U i6 WG,U i6 (-1)] 92 (0,0)):=by rw [← hwd];exact hG1
     rw [hwd]
     clear hwd hG hG1 c1 f1 c2 f2
     refine takeC 0 (v:=.slice (some x) N tc) rfl rfl (by kernel_rfl) (by kernel_rfl) (by kernel_rfl) (fun _ _ _ h=>h) (fun _=>rfl) rfl (fun w' hw'=>by go_simp) ?_
     refine takeC 1 (v:=U i6 (y:Int)) rfl rfl (by kernel_rfl) (by kernel_rfl) (by kernel_rfl) (fun _ _ _ h=>h) (fun _=>rfl) rfl (fun w' hw'=>by go_simp) ?_
     refine takeC 2 (v:=.pointer (some (x.add y))) rfl rfl (by kernel_rfl) (by kernel_rfl) (by kernel_rfl) (fun _ _ _ h=>h) (fun _=>rfl) rfl (fun w' hw'=>by go_simp) ?_
     refine takeC 3 (v:=U i6 P) rfl rfl (by kernel_rfl) (by kernel_rfl) (by kernel_rfl) (fun _ _ _ h=>h) (fun _=>rfl) rfl (fun w' hw'=>by have hc:=hw'.1;go_simp) ?_
     refine takeC 4 (v:=.pointer (some ⟨W.heap.size,22,none⟩)) rfl rfl (by kernel_rfl) (by kernel_rfl) (by kernel_rfl) (fun _ _ _ h=>h) (fun _=>rfl) rfl (fun w' hw'=>by go_simp) ?_
     refine takeC 5 (v:=.pointer (some ⟨W.heap.size,24,none⟩)) rfl rfl (by kernel_rfl) (by kernel_rfl) (by kernel_rfl) (fun _ _ _ h=>h) (fun _=>rfl) rfl (fun w' hw'=>by go_simp) ?_
     refine takeC 6 (v:=U i6 (cn:Int)) rfl rfl (by kernel_rfl) (by kernel_rfl) (by kernel_rfl) (fun _ _ _ h=>h) (fun _=>rfl) rfl (fun w' hw'=>by have hc:=(cells_at hw'.2).1 24;go_simp) ?_
     refine takeC 7 (v:=U i6 PC) rfl rfl (by kernel_rfl) (by kernel_rfl) (by kernel_rfl) (fun _ _ _ h=>h) (fun _=>rfl) rfl (fun w' hw'=>by go_simp;try (rw [IntKind.wrap_i64];omega)) ?_
     refine takeC 8 (v:=U i6 D) rfl rfl (by kernel_rfl) (by kernel_rfl) (by kernel_rfl) (fun _ _ _ h=>h) (fun _=>rfl) rfl (fun w' hw'=>by go_simp) ?_
     refine takeC 9 (v:=U i6 (PC+D)) rfl rfl (by kernel_rfl) (by kernel_rfl) (by kernel_rfl) (fun _ _ _ h=>h) (fun _=>rfl) rfl (fun w' hw'=>by go_simp;try (rw [IntKind.wrap_i64];omega)) ?_
     refine takeC 10 (v:=.pointer (some ⟨w5.heap.size,1,none⟩)) rfl rfl (by kernel_rfl) (by kernel_rfl) (by kernel_rfl) (fun _ _ _ h=>h) (fun _=>rfl) rfl (fun w' hw'=>by go_simp) ?_
     have g1:wd.cell? ⟨w5.heap.size,1,none⟩=some (U i6 (-1)):=(cells_at hGd).1 1
     have g2:wd.frozen? ⟨w5.heap.size,1,none⟩=false:=(cells_at hGd).2.1 1
     refine stepC 11 HCl.out (by kernel_rfl) rfl (fun K hK=>step_wp rfl ?_)
     go_simp
     refine hK _ _ ?_
     clear hK K g1 g2
     have hGs:Hid ((wd.setCell ⟨w5.heap.size,1,none⟩ (U i6 (PC+D))).heap[w5.heap.size]? = some (.cells #[U i6 WG,U i6 (PC+D)] 92 (0,0))):=heap_setCell_at hGd
     have hD6:Hid (Below w2.heap.size w2 (wd.setCell ⟨w5.heap.size,1,none⟩ (U i6 (PC+D)))):=(B5.out.trans (HD.out.mono B5.out.size)).setCell (p:=⟨w5.heap.size,1,none⟩) hz5 _
     have HCs:Hid ((wd.setCell ⟨w5.heap.size,1,none⟩ (U i6 (PC+D))).cell? (x.add y)=some (U i6 P)∧(wd.setCell ⟨w5.heap.size,1,none⟩ (U i6 (PC+D))).heap[W.heap.size]? = some (.cells #[U i6 k,U i6 a,U i6 b,U i6 m,U i6 kh,U i6 kw,U i6 sh,U i6 sw,U i6 tp,U i6 lf,U i6 bt,U i6 rt,Sl wa lw wc,Sl ba lb bc,U i6 sm,U i6 ss,U i6 um,U i6 us,U i6 z,U i6 p,U i6 lo,U i6 hi,U i6 h,U i6 w,U i6 (cn:Int),U i6 H,U i6 V,U i6 C] 44 (0,0))):=by
      refine⟨?_,?_⟩
      ·have hb7:Below w2.heap.size wd (wd.setCell ⟨w5.heap.size,1,none⟩ (U i6 (PC+D))):=(Below.refl _ wd).setCell (p:=⟨w5.heap.size,1,none⟩) hz5 _
       exact (hb7.cell (by rw [add_block];exact hxb)).trans HCl.out.1
      ·rw [Below.heap_setCell _ _ _ _ (show W.heap.size≠w5.heap.size by omega)]
       exact HCl.out.2
     have HO6:Hid (OTm (wd.setCell ⟨w5.heap.size,1,none⟩ (U i6 (PC+D))) w2.heap.size (.slice va y vc) (tmL k (cn:Int) ch h w kw t u st zs y)):=otm_other (HO5.out.below HD.out) HOn.out
     refine doneC HCs.out (by kernel_rfl) ?_ _
     obtain⟨w7,hw7⟩:∃ w7,wd.setCell ⟨w5.heap.size,1,none⟩ (U i6 (PC+D))=w7:=⟨_,rfl⟩
     rw [hw7] at hGs hD6 HO6 ⊢
     have hz7:w5.heap.size<w7.heap.size:=lt_of_heap hGs.out
     obtain⟨c1,f1,z1'⟩:=cells_at hGs.out
     clear hw7 HCs HCl HD hGd hcx
     go_wp2_with (at_builtin;refine wpList_apT rfl (.tmp 86) (.tmp 88) rfl w2.heap.size _ _ [(WG,PC+D)] rfl (HO6.out.below (bal w7 _)) w7.heap.size 1 1 rfl rfl (term_one w7 _ _) HLn.out (by simp;omega) ?_;intro v8 w8 own8 gr8;have B8:Hid (Below w2.heap.size w2 w8):=(HO6.out.below (bal w7 _)).grow (hD6.out.alloc hD6.out.size _) gr8 (by simp;omega))
     go_roundw
     case rel=>exact⟨y+1,by omega,by go_num,by rw [HS.out];exact own8,B8.out⟩
     case measure=>simp [intOf];omega
  ·obtain rfl:y=st:=by omega
   have hS1:=S2.out.below
   go_wp2
   go_ret
   exact⟨⟨_,rfl,HO.out.base hS1.size⟩,hS1.trans (hb.mono hS1.size)⟩
theorem rterms_any (k a b m kh kw sh sw tp lf bt rt:Int) (wa:Option Addr) (lw wc:Nat) (ba:Option Addr) (lb bc:Nat) (sm ss um us z p lo hi h w c H V C:Int) (W:World) (zs:List Int) (hZ:IRow .i16 W wa lw wc zs) (s:Sit k kh kw sh sw tp lf bt rt h w c H V C lw lb) (ch at':Int) (hch:1≤ch∧ch≤C) (hat:0≤at'∧at'<H*V) :
  Calls Tryz.prog 44 #[.agg #[U i6 k,U i6 a,U i6 b,U i6 m,U i6 kh,U i6 kw,U i6 sh,U i6 sw,U i6 tp,U i6 lf,U i6 bt,U i6 rt,Sl wa lw wc,Sl ba lb bc,U i6 sm,U i6 ss,U i6 um,U i6 us,U i6 z,U i6 p,U i6 lo,U i6 hi,U i6 h,U i6 w,U i6 c,U i6 H,U i6 V,U i6 C],U i6 ch,U i6 at'] W fun e w'=>(∃ v,e=.returned v∧OTm w' W.heap.size v (siL k kh kw sh sw tp lf bt rt h w c ch at' zs))∧Below W.heap.size W w':=by
 obtain⟨st,hst⟩:∃ st:Nat,stR k kh kw h w c=(st:Int):=⟨(stR k kh kw h w c).toNat,by have:=s.2.2.2.2.2.2.2.2.1;omega⟩
 unfold siL
 rw [hst,Int.toNat_natCast]
 by_cases k1:k=1
 ·subst k1
  exact rterms_1 a b m kh kw sh sw tp lf bt rt wa lw wc ba lb bc sm ss um us z p lo hi h w c H V C W zs hZ s ch at' _ _ hch st hst
 ·obtain⟨cn,rfl⟩:∃ cn:Nat,c=(cn:Int):=⟨c.toNat,by have:=(vS_yes s.2.1).2.2.1;omega⟩
  have hou:=s.2.2.2.1 (by have:=s.1;omega)
  have hcc:(coR h w (cn:Int) kh kw sh sw tp lf bt rt at').2.2=0:=by
   unfold coR
   rw [hou]
   simp only
   rw [if_pos trivial,if_pos hat]
  exact rterms_w k a b m kh kw sh sw tp lf bt rt wa lw wc ba lb bc sm ss um us z p lo hi h w cn H V C W zs hZ s k1 ch at' _ _ hch (by rw [← hcc]) st hst
def RwO (w:World) (base:Nat) (v:Value) (R:Nat→List (Int×Int)) (N:Nat):Prop :=
 ∃ us:List Value,us.length=N∧w.ownsRow base 59 1 v N us∧∀ j,j<N→OSp w base (us.getD j undef) (R j)
theorem RwO.nil (w:World) (base:Nat) (R:Nat→List (Int×Int)):RwO w base (.slice none 0 0) R 0:=⟨[],rfl,World.ownsRow_nil _ _ _ _,fun j hj=>by cases hj⟩
theorem RwO.below {w w':World} {base:Nat} {v:Value} {R:Nat→List (Int×Int)} {N:Nat} (h:RwO w base v R N) (g:Below w.heap.size w w'):RwO w' base v R N:=by
 obtain⟨us,h1,h2,h3⟩:=h
 refine⟨us,h1,World.ownsRow.kept h2 (row:=none) ⟨g.os,g.tape,g.output,g.size,fun i hi _=>g.block i hi⟩ ?_,fun j hj=>(h3 j hj).below g⟩
 cases e:v.ownBlock with
 | none=>exact .inl rfl
 | some b=>exact .inr (by simp)
theorem RwO.slice {w:World} {base:Nat} {v:Value} {R:Nat→List (Int×Int)} {N:Nat} (h:RwO w base v R N):∃ a cap,v=.slice a N cap:=by
 obtain⟨us,h1,h2,-⟩:=h
 rcases h2.2 with ⟨rfl,rfl⟩ | ⟨g,cap,_,rfl,_⟩
 ·exact⟨none,0,rfl⟩
 ·exact⟨_,cap,rfl⟩
theorem RwO.base {w:World} {b c:Nat} {v:Value} {R:Nat→List (Int×Int)} {N:Nat} (h:RwO w b v R N) (k:c≤b):RwO w c v R N:=by
 obtain⟨us,h1,h2,h3⟩:=h
 refine⟨us,h1,⟨h2.1,?_⟩,fun j hj=>(h3 j hj).base k⟩
 rcases h2.2 with h | ⟨g,cap,cur,h1,h2,h3⟩
 ·exact .inl h
 ·exact .inr ⟨g,cap,cur,h1,Nat.le_trans k h2,h3⟩
theorem OSp.apart {w w':World} {base b:Nat} {v u:Value} {n:Nat} {xs:List Value} {L:List (Int×Int)} (h:OSp w b u L) (hr:w.ownsRow base 59 1 v n xs) (g:w.grownBy w' v.ownBlock):OSp w' b u L:=by
 refine World.ownsRow.kept h g ?_
 rcases h.2 with ⟨rfl,_⟩ | ⟨q,cap,cur,rfl,_,hq,_⟩
 ·exact .inl rfl
 ·refine .inr fun e=>?_
  rcases hr.2 with ⟨rfl,_⟩ | ⟨r,cap',cur',rfl,_,hr',_⟩
  ·simp [Value.ownBlock] at e
  ·simp [Value.ownBlock] at e
   subst e
   rw [hr'] at hq
   simp at hq
theorem Tryz.infoR:(Tryz.prog.info? 59).map (fun i=>(i.zero,i.size,i.bytes))=some (some (.slice none 0 0),1,24):=by kernel_rfl
theorem wpList_apR {w:World} {ops:Array Oper} {rest:List Oper} {o:Oper} {a:Act} {Q:Exit→Act→World→Prop} (hgd:o.guard=none) (s x:Operand)
  (ho:o.op=.call { callee:=.builtin .append,args:=#[s,x],argTypes:=#[70,70] })
  (base:Nat) (v u:Value) (R:Nat→List (Int×Int)) (k:Nat) (hs:a.eval s=v) (hr:RwO w base v R k) (g:Nat) (hx:a.eval x=.slice (some ⟨g,0,none⟩) 1 1) (hg:w.cell? ⟨g,0,none⟩=some u) (hu:OSp w base u (R k)) (hk:k≤100000000) (hbase:base≤w.heap.size)
  (h:∀ v' w',RwO w' base v' R (k+1)→w.grownBy w' v.ownBlock→(∀ b,v.ownBlock=some b→base≤b)→wpList Tryz.prog ops Q rest (a.put o.dst v') w'):wpList Tryz.prog ops Q (o :: rest) a w:=by
 obtain⟨i0,hi,hz0,hz1,hz2⟩:=info_parts Tryz.infoR
 obtain⟨us,h1,h2,h3⟩:=hr
 obtain⟨ua,uc,hue⟩:=hu.slice
 obtain⟨v',w',r1,r2,r3,-,r5⟩:=run_append_own_at (P:=Tryz.prog) w base 70 o.type 59 i0 (.slice none 0 0) 1 24 Tryz.underlying70 hi hz0 hz1 hz2 rfl (by decide) v k us h2 ⟨g,0,none⟩ 1 1 [u] rfl (fun j y hj=>by
  match j,hj with
  | 0,hj=>simp [Addr.add] at hj ⊢;rw [← hj];exact hg
  | j+1,hj=>simp at hj) (by simp [hue,Value.oneCell']) (by unfold maxLen;omega) (by omega) hbase
 refine wpList_plain hgd fun K hK=>?_
 unfold Oper.wp
 simp [execOp,ho,resolve,invoke,builtin,hs,hx,r1,Result.andThen]
 refine hK _ _ (h v' w' ⟨us++[u],by simp [h1],r2,fun j hj=>?_⟩ r3 (fun b e=>(World.ownsRow.lt h2 b e).1))
 by_cases q:j<k
 ·have e:(us++[u]).getD j undef=us.getD j undef:=by
   simp only [List.getD_eq_getElem?_getD]
   rw [List.getElem?_append_left (by omega)]
  rw [e]
  exact (h3 j q).apart h2 r3
 ·obtain rfl:j=k:=by omega
  have e:(us++[u]).getD j undef=u:=by
   simp only [List.getD_eq_getElem?_getD]
   rw [List.getElem?_append_right (by omega),h1]
   simp
  rw [e]
  exact hu.apart h2 r3
theorem rrows_any (k a b m kh kw sh sw tp lf bt rt:Int) (wa:Option Addr) (lw wc:Nat) (ba:Option Addr) (lb bc:Nat) (sm ss um us z p lo hi h w c H V C:Int) (W:World) (ch slo shi:Int) (R:Nat→List (Int×Int)) (T:Nat→List (Int×Int)) (N:Nat) (hN:N≤10000000) (hR:∀ j,R j=enL slo shi p (T j)) (hT:∀ j,(T j).length≤512∧∀ t∈T j,-32768≤t.1∧t.1≤32767) (hs:-128≤slo∧slo≤shi∧shi≤127) (hp:-128≤p∧p≤127)
  (hPo:∀ W',Calls Tryz.prog 43 #[.agg #[U i6 k,U i6 a,U i6 b,U i6 m,U i6 kh,U i6 kw,U i6 sh,U i6 sw,U i6 tp,U i6 lf,U i6 bt,U i6 rt,Sl wa lw wc,Sl ba lb bc,U i6 sm,U i6 ss,U i6 um,U i6 us,U i6 z,U i6 p,U i6 lo,U i6 hi,U i6 h,U i6 w,U i6 c,U i6 H,U i6 V,U i6 C]] W' fun e w'=>e=.returned (U i6 (N:Int))∧Below W'.heap.size W' w')
  (hTe:∀ W' (j:Nat),Below W.heap.size W W'→j<N→Calls Tryz.prog 44 #[.agg #[U i6 k,U i6 a,U i6 b,U i6 m,U i6 kh,U i6 kw,U i6 sh,U i6 sw,U i6 tp,U i6 lf,U i6 bt,U i6 rt,Sl wa lw wc,Sl ba lb bc,U i6 sm,U i6 ss,U i6 um,U i6 us,U i6 z,U i6 p,U i6 lo,U i6 hi,U i6 h,U i6 w,U i6 c,U i6 H,U i6 V,U i6 C],U i6 ch,U i6 (j:Int)] W' fun e w'=>(∃ v,e=.returned v∧OTm w' W'.heap.size v (T j))∧Below W'.heap.size W' w') :
  Calls Tryz.prog 27 #[.agg #[U i6 k,U i6 a,U i6 b,U i6 m,U i6 kh,U i6 kw,U i6 sh,U i6 sw,U i6 tp,U i6 lf,U i6 bt,U i6 rt,Sl wa lw wc,Sl ba lb bc,U i6 sm,U i6 ss,U i6 um,U i6 us,U i6 z,U i6 p,U i6 lo,U i6 hi,U i6 h,U i6 w,U i6 c,U i6 H,U i6 V,U i6 C],U i6 ch,.agg #[U i6 slo,U i6 shi]] W fun e w'=>(∃ v,e=.returned v∧RwO w' W.heap.size v R N)∧Below W.heap.size W w':=by
 have HP:Hid (∀ W',_):=hPo
 have HT:Hid (∀ W' (j:Nat),Below W.heap.size W W'→j<N→_):=hTe
 have HR:Hid (∀ j,R j=enL slo shi p (T j)):=hR
 have HL:Hid (∀ j,(T j).length≤512∧∀ t∈T j,-32768≤t.1∧t.1≤32767):=hT
 have HE:Hid (∀ (W':World) (t:Int×Int),(-32768≤t.1∧t.1≤32767)→_):=fun W' t ht=>rends_any k a b m kh kw sh sw tp lf bt rt wa lw wc ba lb bc sm ss um us z p lo hi h w c H V C W' t slo shi hs hp ht
 have s0:=((St.start W).new (c:=#[U i6 k,U i6 a,U i6 b,U i6 m,U i6 kh,U i6 kw,U i6 sh,U i6 sw,U i6 tp,U i6 lf,U i6 bt,U i6 rt,Sl wa lw wc,Sl ba lb bc,U i6 sm,U i6 ss,U i6 um,U i6 us,U i6 z,U i6 p,U i6 lo,U i6 hi,U i6 h,U i6 w,U i6 c,U i6 H,U i6 V,U i6 C]) (t:=44)).new (c:=#[U i6 slo,U i6 shi]) (t:=28)
 simp only [World.size_alloc] at s0
 have S0:Hid (St W _ [(W.heap.size+1,#[U i6 slo,U i6 shi],28),(W.heap.size,#[U i6 k,U i6 a,U i6 b,U i6 m,U i6 kh,U i6 kw,U i6 sh,U i6 sw,U i6 tp,U i6 lf,U i6 bt,U i6 rt,Sl wa lw wc,Sl ba lb bc,U i6 sm,U i6 ss,U i6 um,U i6 us,U i6 z,U i6 p,U i6 lo,U i6 hi,U i6 h,U i6 w,U i6 c,U i6 H,U i6 V,U i6 C],44)]):=s0
 clear hPo hTe hR hT hs hp s0
 go_enter Tryz.func27,Tryz.ntmps27
 go_wp2
 obtain⟨w0,hw0⟩:∃ w0,(W.alloc (.cells #[U i6 k,U i6 a,U i6 b,U i6 m,U i6 kh,U i6 kw,U i6 sh,U i6 sw,U i6 tp,U i6 lf,U i6 bt,U i6 rt,Sl wa lw wc,Sl ba lb bc,U i6 sm,U i6 ss,U i6 um,U i6 us,U i6 z,U i6 p,U i6 lo,U i6 hi,U i6 h,U i6 w,U i6 c,U i6 H,U i6 V,U i6 C] 44)).alloc (.cells #[U i6 slo,U i6 shi] 28)=w0:=⟨_,rfl⟩
 rw [hw0] at S0 ⊢
 clear hw0
 go_loopw [7,8] (fun rv i wr=>∃ k':Nat,k'≤N∧i=U i6 k'∧∃ v0,v0=rv∧RwO wr (W.heap.size+1+1) v0 R k'∧St W wr [(W.heap.size+1,#[U i6 slo,U i6 shi],28),(W.heap.size,#[U i6 k,U i6 a,U i6 b,U i6 m,U i6 kh,U i6 kw,U i6 sh,U i6 sw,U i6 tp,U i6 lf,U i6 bt,U i6 rt,Sl wa lw wc,Sl ba lb bc,U i6 sm,U i6 ss,U i6 um,U i6 us,U i6 z,U i6 p,U i6 lo,U i6 hi,U i6 h,U i6 w,U i6 c,U i6 H,U i6 V,U i6 C],44)]) (fun _ i _=>N-(intOf i).toNat)
 case atStart=>exact⟨0,Nat.zero_le _,rfl,_,rfl,RwO.nil _ _ _,S0.out⟩
 case round =>
  obtain⟨y,hy,rfl,v0,rfl,hrw,s⟩:=hrel
  clear S0
  have RO:Hid (RwO wr (W.heap.size+1+1) v0 R y):=hrw
  have S:Hid (St W wr [(W.heap.size+1,#[U i6 slo,U i6 shi],28),(W.heap.size,#[U i6 k,U i6 a,U i6 b,U i6 m,U i6 kh,U i6 kw,U i6 sh,U i6 sw,U i6 tp,U i6 lf,U i6 bt,U i6 rt,Sl wa lw wc,Sl ba lb bc,U i6 sm,U i6 ss,U i6 um,U i6 us,U i6 z,U i6 p,U i6 lo,U i6 hi,U i6 h,U i6 w,U i6 c,U i6 H,U i6 V,U i6 C],44)]):=s
  have hz:=s.size
  clear hrw s
  go_upto_region 3 with fail
  go_wp2_with (refine wpList_load_row rfl 44 (.tmp 3) rfl W.heap.size rfl 44 _ (0,0) _ S.out.h2 Tryz.underlying44 rfl (by kernel_rfl) ?_)
  refine Calls.mono (HP.out _) ?_
  rintro e w1 ⟨rfl,hb1⟩
  have S1:Hid (St W w1 [(W.heap.size+1,#[U i6 slo,U i6 shi],28),(W.heap.size,#[U i6 k,U i6 a,U i6 b,U i6 m,U i6 kh,U i6 kw,U i6 sh,U i6 sw,U i6 tp,U i6 lf,U i6 bt,U i6 rt,Sl wa lw wc,Sl ba lb bc,U i6 sm,U i6 ss,U i6 um,U i6 us,U i6 z,U i6 p,U i6 lo,U i6 hi,U i6 h,U i6 w,U i6 c,U i6 H,U i6 V,U i6 C],44)]):=S.out.call hb1
  have RO1:Hid (RwO w1 (W.heap.size+1+1) v0 R y):=RO.out.below hb1
  clear S RO hb1
  by_cases hlt:y<N
  ·have HTy:Hid (∀ W',Below W.heap.size W W'→_):=fun W' hb=>HT.out W' y hb hlt
   obtain⟨hTl,hTw⟩:=HL.out y
   obtain⟨TL,hTL⟩:∃ TL,T y=TL:=⟨_,rfl⟩
   have HRy:Hid (R y=enL slo shi p TL):=by unfold Hid;rw [HR.out,hTL]
   rw [hTL] at HTy hTl hTw
   have HTw:Hid (∀ t∈TL,-32768≤t.1∧t.1≤32767):=hTw
   obtain⟨M,hM⟩:∃ M,TL.length=M:=⟨_,rfl⟩
   have HM:Hid (TL.length=M):=hM
   have HEL:Hid ((enL slo shi p TL).length=M):=by unfold Hid;rw [enL_len,hM]
   rw [hM] at hTl
   clear hTL hTw hM
   go_upto_region 6 with fail
   go_wp2_with (refine wpList_load_row rfl 44 (.tmp 3) rfl W.heap.size rfl 44 _ (0,0) _ S1.out.h2 Tryz.underlying44 rfl (by kernel_rfl) ?_)
   refine Calls.mono (HTy.out _ S1.out.below) ?_
   rintro e wt ⟨⟨tv,rfl,hot⟩,hbt⟩
   have ST':Hid (St W wt [(W.heap.size+1,#[U i6 slo,U i6 shi],28),(W.heap.size,#[U i6 k,U i6 a,U i6 b,U i6 m,U i6 kh,U i6 kw,U i6 sh,U i6 sw,U i6 tp,U i6 lf,U i6 bt,U i6 rt,Sl wa lw wc,Sl ba lb bc,U i6 sm,U i6 ss,U i6 um,U i6 us,U i6 z,U i6 p,U i6 lo,U i6 hi,U i6 h,U i6 w,U i6 c,U i6 H,U i6 V,U i6 C],44)]):=S1.out.call hbt
   have ROt:Hid (RwO wt (W.heap.size+1+1) v0 R y):=RO1.out.below hbt
   have OT:Hid (TV wt tv TL):=hot.tv
   obtain⟨ta,tc,hte⟩:=hot.slice
   subst hte
   have hzt:=ST'.out.size
   have hzt2:=lt_of_heap ST'.out.h1
   rw [HM.out] at OT ⊢
   clear hot hbt S1 RO1 HTy
   go_wp2
   go_loopw [9,23] (fun rw' i w'=>∃ j:Nat,j≤M∧i=U i6 j∧∃ u0,u0=rw'∧OSp w' wt.heap.size u0 ((enL slo shi p TL).take j)∧Below wt.heap.size wt w') (fun _ i _=>M-(intOf i).toNat)
   case atStart=>exact⟨0,Nat.zero_le _,rfl,_,rfl,by simpa using OSp.nil _ _,Below.refl _ _⟩
   case round =>
    obtain⟨j,hj,rfl,u0,rfl,own,hb⟩:=hrel
    have OW:Hid (OSp wr wt.heap.size u0 ((enL slo shi p TL).take j)):=own
    have BW:Hid (Below wt.heap.size wt wr):=hb
    have SW:Hid (St W wr [(W.heap.size+1,#[U i6 slo,U i6 shi],28),(W.heap.size,#[U i6 k,U i6 a,U i6 b,U i6 m,U i6 kh,U i6 kw,U i6 sh,U i6 sw,U i6 tp,U i6 lf,U i6 bt,U i6 rt,Sl wa lw wc,Sl ba lb bc,U i6 sm,U i6 ss,U i6 um,U i6 us,U i6 z,U i6 p,U i6 lo,U i6 hi,U i6 h,U i6 w,U i6 c,U i6 H,U i6 V,U i6 C],44)]):=ST'.out.call hb
    have hzr:=hb.size
    clear own hb
    by_cases hjl:j<M
    ·obtain⟨ta',tc',e0,-,-,h4⟩:=OT.out
     obtain⟨g,hg,hc⟩:=h4 (by rw [HM.out];omega)
     have e1:ta=some ⟨g,0,none⟩:=by rw [(Value.slice.inj e0).1];exact hg
     subst e1
     obtain⟨q1,q2⟩:=TV.at hc (show j<TL.length by rw [HM.out];exact hjl)
     obtain⟨A1,A2,hA⟩:∃ A1 A2,TL.getD j (0,0)=(A1,A2):=⟨_,_,rfl⟩
     rw [hA] at q1 q2
     simp only at q1 q2
     have hmem:(A1,A2)∈TL:=by
      rw [← hA,List.getD_eq_getElem?_getD,List.getElem?_eq_getElem (by rw [HM.out];exact hjl)]
      exact List.getElem_mem _
     have p1:=(BW.out.cell (World.block_lt_of_cell? wt _ q1)).trans q1
     have p2:=(BW.out.cell (World.block_lt_of_cell? wt _ q2)).trans q2
     have HEn:Hid (∀ W',_):=fun W'=>HE.out W' (A1,A2) (HTw.out _ hmem)
     have HEt:Hid ((enL slo shi p TL).getD j (0,0)=tmE slo shi p (A1,A2)):=by unfold Hid;rw [enL_getD _ _ _ (by rw [HM.out];exact hjl) _ (0,0),hA]
     obtain⟨E1,E2,hE⟩:∃ E1 E2,tmE slo shi p (A1,A2)=(E1,E2):=⟨_,_,rfl⟩
     rw [hE] at HEn HEt
     simp only at HEn
     have HLn:Hid (((enL slo shi p TL).take j).length=j):=by unfold Hid;rw [List.length_take,HEL.out];omega
     have HTk:Hid ((enL slo shi p TL).take (j+1)=(enL slo shi p TL).take j++[(E1,E2)]):=take_snoc (by rw [HEL.out];exact hjl) HEt.out
     clear e0 h4 hg hc q1 q2 hA hmem hE HEt OT
     go_upto_region 9 with fail
     obtain⟨w5,hw5⟩:∃ w5,wr.alloc (.cells #[U i6 A1,U i6 A2] 92)=w5:=⟨_,rfl⟩
     have hb5:Below wr.heap.size wr w5:=by rw [← hw5];exact bal _ _
     have h5:w5.heap[wr.heap.size]? = some (.cells #[U i6 A1,U i6 A2] 92 (0,0)):=by rw [← hw5];exact heap_alloc_new _ _
     rw [hw5]
     have S5:Hid (St W w5 [(W.heap.size+1,#[U i6 slo,U i6 shi],28),(W.heap.size,#[U i6 k,U i6 a,U i6 b,U i6 m,U i6 kh,U i6 kw,U i6 sh,U i6 sw,U i6 tp,U i6 lf,U i6 bt,U i6 rt,Sl wa lw wc,Sl ba lb bc,U i6 sm,U i6 ss,U i6 um,U i6 us,U i6 z,U i6 p,U i6 lo,U i6 hi,U i6 h,U i6 w,U i6 c,U i6 H,U i6 V,U i6 C],44)]):=SW.out.call hb5
     obtain⟨t1,t2,t3⟩:=cells_at h5
     obtain⟨c1,f1,z1,-⟩:=S5.out.rules
     clear hw5 p1 p2 SW h5
     go_wp2_with (refine wpList_load_row rfl 44 (.tmp 3) rfl W.heap.size rfl 44 _ (0,0) _ S5.out.h2 Tryz.underlying44 rfl (by kernel_rfl) ?_)
     refine Calls.mono (HEn.out _) ?_
     rintro e w6 ⟨rfl,hb6⟩
     have O6:Hid (OSp w6 wt.heap.size u0 ((enL slo shi p TL).take j)):=(OW.out.below hb5).below hb6
     have B6:Hid (Below wt.heap.size wt w6):=(BW.out.trans (hb5.mono hzr)).trans (hb6.mono (by have:=hb5.size;omega))
     have hz6:wt.heap.size≤w6.heap.size:=B6.out.size
     clear OW BW S5 hb5 hb6 t1 t2 t3 c1 f1 z1 HEn
     go_wp2_with (at_builtin;refine wpList_apS rfl _ _ rfl wt.heap.size _ ((enL slo shi p TL).take j) [(E1,E2)] rfl (O6.out.below (bal _ _)) (.slice (some ⟨w6.heap.size,0,none⟩) 1 1) rfl (span_one _ _ _) (by simp) (by rw [HLn.out];simp;omega) (by simp;omega) ?_;intro v7 w7 own7 gr7 _;have B7:Hid (Below wt.heap.size wt w7):=(O6.out.below (bal _ _)).grows (B6.out.alloc hz6 _) gr7 (Nat.le_refl _) (by simp;omega);have O7:Hid (OSp w7 wt.heap.size v7 _):=own7;clear own7 gr7)
     go_roundw
     case rel=>exact⟨j+1,by omega,by go_num,_,rfl,by rw [HTk.out];exact O7.out,B7.out⟩
     case measure=>simp [intOf];omega
    ·obtain rfl:j=M:=by omega
     have OU:Hid (OSp wr (W.heap.size+1+1) u0 (R y)):=by
      unfold Hid
      rw [HRy.out]
      have:=OW.out
      rw [List.take_of_length_le (by rw [HEL.out];exact Nat.le_refl _)] at this
      exact this.base (by omega)
     have RW':Hid (RwO wr (W.heap.size+1+1) v0 R y):=ROt.out.below BW.out
     have hcu:Hid ((wr.alloc (.cells #[u0] 59)).cell? ⟨wr.heap.size,0,none⟩=some u0):=cell_box (heap_alloc_new wr _)
     obtain⟨oa,oc',hoe⟩:=OW.out.slice
     rw [List.length_take,HEL.out,Nat.min_self] at hoe
     clear OW ROt OT HTw HE ST' BW
     subst hoe
     go_wp2_with (at_builtin; refine wpList_apR rfl _ _ rfl (W.heap.size+1+1) v0 _ R y rfl (RW'.out.below (bal _ _)) wr.heap.size rfl hcu.out (OU.out.below (bal _ _)) (by omega) (by simp; omega) ?_; intro v7 w7 rw7 gr7 hbl; have S7:Hid (St W w7 [(W.heap.size+1,#[U i6 slo,U i6 shi],28),(W.heap.size,#[U i6 k,U i6 a,U i6 b,U i6 m,U i6 kh,U i6 kw,U i6 sh,U i6 sw,U i6 tp,U i6 lf,U i6 bt,U i6 rt,Sl wa lw wc,Sl ba lb bc,U i6 sm,U i6 ss,U i6 um,U i6 us,U i6 z,U i6 p,U i6 lo,U i6 hi,U i6 h,U i6 w,U i6 c,U i6 H,U i6 V,U i6 C],44)]):=⟨(SW.out.skip _).1.grown gr7 (by simp; omega) (fun b e=>by have:=hbl b e; omega),fun x hx=>⟨(gr7.block x.1 (lt_of_heap ((SW.out.skip _).2 x hx).1) (fun e=>by have:=hbl x.1 e.symm; simp only [List.mem_cons,List.not_mem_nil,or_false] at hx; rcases hx with rfl | rfl<;>simp at this<;>omega)).trans ((SW.out.skip _).2 x hx).1,(SW.out.2 x hx).2⟩⟩; have R7:Hid (RwO w7 (W.heap.size+1+1) v7 R (y+1)):=rw7; clear rw7 gr7 hbl)
     go_roundw
     case rel=>exact⟨y+1,by omega,by go_num,_,rfl,R7.out,S7.out⟩
     case measure=>simp [intOf];omega
  ·obtain rfl:y=N:=by omega
   go_wp2
   go_ret
   exact⟨⟨_,rfl,RO1.out.base (by omega)⟩,S1.out.below⟩
theorem own_mid {w w':World} {lo hi n size:Nat} {e:TypeId} {v:Value} {xs:List Value} (h:w.ownsRow lo e size v n xs) (hm:Mid lo hi w w') (hz:w.heap.size≤hi):w'.ownsRow lo e size v n xs:=by
 refine⟨h.1,?_⟩
 rcases h.2 with q | ⟨g,cap,cur,h1,h2,h3,h4⟩
 ·exact .inl q
 ·exact .inr ⟨g,cap,cur,h1,h2,hm g h2 (Nat.lt_of_lt_of_le (lt_of_heap h3) hz) _ _ h3,h4⟩
def RwU (w:World) (lo:Nat) (v:Value) (R:Nat→List (Int×Int)) (N:Nat) (us:List Value):Prop:=us.length=N∧w.ownsRow lo 59 1 v N us∧∀ j,j<N→OSp w lo (us.getD j undef) (R j)
theorem RwU.mid {w w':World} {lo hi:Nat} {v:Value} {R:Nat→List (Int×Int)} {N:Nat} {us:List Value} (h:RwU w lo v R N us) (hm:Mid lo hi w w') (hz:w.heap.size≤hi):RwU w' lo v R N us :=
 ⟨h.1,own_mid h.2.1 hm hz,fun j hj=>own_mid (h.2.2 j hj) hm hz⟩
theorem RwU.at {w:World} {lo:Nat} {v:Value} {R:Nat→List (Int×Int)} {N:Nat} {us:List Value} (h:RwU w lo v R N us) {k:Nat} (hk:k<N):∃ g cap,v=.slice (some ⟨g,0,none⟩) N cap∧w.cell? ⟨g,k,none⟩=some (us.getD k undef)∧N≤cap∧cap≤maxLen:=by
 obtain⟨h1,h2,h3⟩:=h
 rcases h2.2 with ⟨-,q⟩ | ⟨g,cap,cur,rfl,-,hg,hc,hm,hcs,hcu⟩
 ·omega
 ·refine⟨g,cap,rfl,?_,hc,hm⟩
  rw [(cells_at hg).1]
  have e:(cur.toList.take (N*1))[k]? = us[k]?:=by rw [hcu]
  rw [List.getElem?_take,if_pos (by omega),List.getElem?_eq_getElem (by omega:k<us.length)] at e
  rw [List.getD_eq_getElem?_getD,List.getElem?_eq_getElem (by omega:k<us.length)]
  simpa using e
theorem St.put1 {w0 w w':World} {B:Nat} {c c':Array Value} {t:TypeId} {l:List (Nat×Array Value×TypeId)} (h:St w0 w ((B,c,t) :: l)) (g:w.grownBy w' (some B)) (hB:w'.heap[B]? = some (.cells c' t (0,0))) (hl:∀ x∈l,x.1≠B):St w0 w' ((B,c',t) :: l):=by
 have h0:=(h.2 _ List.mem_cons_self).2
 refine⟨h.1.grown g h.1.size (fun b e=>by cases e;exact h0),fun x hx=>?_⟩
 rcases List.mem_cons.1 hx with rfl | hx
 ·exact⟨hB,h0⟩
 ·have:=h.2 x (List.mem_cons_of_mem _ hx)
  exact⟨(g.block x.1 (lt_of_heap this.1) (fun e=>hl x hx (by simpa using e))).trans this.1,this.2⟩
theorem rtot_any (k a b m kh kw sh sw tp lf bt rt:Int) (wa:Option Addr) (lw wc:Nat) (ba:Option Addr) (lb bc:Nat) (sm ss um us z p lo hi h w c H V C:Int) (W:World) (ch slo shi bi:Int) (R:Nat→List (Int×Int)) (N:Nat) (hN:N≤10000000) (hR:∀ j,Rb (R j)∧(R j).length≤512) (hRw:∀ W',Below W.heap.size W W'→Calls Tryz.prog 27 #[.agg #[U i6 k,U i6 a,U i6 b,U i6 m,U i6 kh,U i6 kw,U i6 sh,U i6 sw,U i6 tp,U i6 lf,U i6 bt,U i6 rt,Sl wa lw wc,Sl ba lb bc,U i6 sm,U i6 ss,U i6 um,U i6 us,U i6 z,U i6 p,U i6 lo,U i6 hi,U i6 h,U i6 w,U i6 c,U i6 H,U i6 V,U i6 C],U i6 ch,.agg #[U i6 slo,U i6 shi]] W' fun e w'=>(∃ v,e=.returned v∧RwO w' W'.heap.size v R N)∧Below W'.heap.size W' w') (hbi:-2147483648≤bi∧bi≤2147483647) (hBg:∀ W',Below W.heap.size W W'→Calls Tryz.prog 28 #[.agg #[U i6 k,U i6 a,U i6 b,U i6 m,U i6 kh,U i6 kw,U i6 sh,U i6 sw,U i6 tp,U i6 lf,U i6 bt,U i6 rt,Sl wa lw wc,Sl ba lb bc,U i6 sm,U i6 ss,U i6 um,U i6 us,U i6 z,U i6 p,U i6 lo,U i6 hi,U i6 h,U i6 w,U i6 c,U i6 H,U i6 V,U i6 C],U i6 ch] W' fun e w'=>e=.returned (.agg #[U i6 bi,U i6 bi])∧Below W'.heap.size W' w') :
  Calls Tryz.prog 10 #[.agg #[U i6 k,U i6 a,U i6 b,U i6 m,U i6 kh,U i6 kw,U i6 sh,U i6 sw,U i6 tp,U i6 lf,U i6 bt,U i6 rt,Sl wa lw wc,Sl ba lb bc,U i6 sm,U i6 ss,U i6 um,U i6 us,U i6 z,U i6 p,U i6 lo,U i6 hi,U i6 h,U i6 w,U i6 c,U i6 H,U i6 V,U i6 C],U i6 ch,.agg #[U i6 slo,U i6 shi]] W fun e w'=>e=.returned (.agg #[U i6 (hbT bi R N).1,U i6 (hbT bi R N).2])∧Below W.heap.size W w':=by
 have HRw:Hid (∀ W',Below W.heap.size W W'→_):=hRw
 have HBg:Hid (∀ W',Below W.heap.size W W'→_):=hBg
 have HV:Hid (∀ k j,Vd 10000000000 (suS (bi,bi) ((R k).take j))):=fun k j=>suS_vd ((hR k).1.take j) (by rw [List.length_take];have:=(hR k).2;omega) (vd_bi hbi)
 have HE:Hid (∀ k j,j<(R k).length→Vd 10000000000 ((R k).getD j (0,0))):=fun k j hj=>by
  rw [List.getD_eq_getElem?_getD,List.getElem?_eq_getElem hj]
  exact (hR k).1.vd _ (List.getElem_mem _)
 have HLn:Hid (∀ k,(R k).length≤512):=fun k=>(hR k).2
 have HPs:Hid (∀ k,piT (fun E=>[suS (bi,bi) E]) R (k+1)=piT (fun E=>[suS (bi,bi) E]) R k++[suS (bi,bi) (R k)]):=fun k=>piT_succ _ R k
 have HRes:Hid (hbT bi R N=huA (piT (fun E=>[suS (bi,bi) E]) R N)):=rfl
 have s0:=((((St.start W).new (c:=#[U i6 k,U i6 a,U i6 b,U i6 m,U i6 kh,U i6 kw,U i6 sh,U i6 sw,U i6 tp,U i6 lf,U i6 bt,U i6 rt,Sl wa lw wc,Sl ba lb bc,U i6 sm,U i6 ss,U i6 um,U i6 us,U i6 z,U i6 p,U i6 lo,U i6 hi,U i6 h,U i6 w,U i6 c,U i6 H,U i6 V,U i6 C]) (t:=44)).new (c:=#[U i6 slo,U i6 shi]) (t:=28)).new (c:=#[U i6 0,U i6 0]) (t:=28)).new (c:=huV []) (t:=69)
 simp only [World.size_alloc] at s0
 have S0:Hid (St W _ ((W.heap.size+1+1+1,huV [],69) :: [(W.heap.size+1+1,#[U i6 0,U i6 0],28),(W.heap.size+1,#[U i6 slo,U i6 shi],28),(W.heap.size,#[U i6 k,U i6 a,U i6 b,U i6 m,U i6 kh,U i6 kw,U i6 sh,U i6 sw,U i6 tp,U i6 lf,U i6 bt,U i6 rt,Sl wa lw wc,Sl ba lb bc,U i6 sm,U i6 ss,U i6 um,U i6 us,U i6 z,U i6 p,U i6 lo,U i6 hi,U i6 h,U i6 w,U i6 c,U i6 H,U i6 V,U i6 C],44)])):=s0
 clear hRw hBg hR hbi s0
 go_enter Tryz.func10,Tryz.ntmps10
 go_upto_region 2 with fail
 rw [← huV_0]
 obtain⟨w4,hw4⟩:∃ w4,(((W.alloc (.cells #[U i6 k,U i6 a,U i6 b,U i6 m,U i6 kh,U i6 kw,U i6 sh,U i6 sw,U i6 tp,U i6 lf,U i6 bt,U i6 rt,Sl wa lw wc,Sl ba lb bc,U i6 sm,U i6 ss,U i6 um,U i6 us,U i6 z,U i6 p,U i6 lo,U i6 hi,U i6 h,U i6 w,U i6 c,U i6 H,U i6 V,U i6 C] 44)).alloc (.cells #[U i6 slo,U i6 shi] 28)).alloc (.cells #[U i6 0,U i6 0] 28)).alloc (.cells (huV []) 69)=w4:=⟨_,rfl⟩
 have hz4:w4.heap.size=W.heap.size+1+1+1+1:=by rw [← hw4];simp
 rw [hw4] at S0 ⊢
 clear hw4
 obtain⟨-,-,-,-,-,-,c3,f3,z3,-⟩:=S0.out.rules
 go_wp2_with (refine wpList_load_row rfl 44 (.tmp 3) rfl W.heap.size rfl 44 _ (0,0) _ S0.out.h4 Tryz.underlying44 rfl (by kernel_rfl) ?_)
 refine Calls.mono (HRw.out _ S0.out.below) ?_
 rintro e w5 ⟨⟨v,rfl,hrw⟩,hb5⟩
 obtain⟨va,vc,hve⟩:=hrw.slice
 obtain⟨us',hus⟩:=hrw
 have RO:Hid (RwU w5 w4.heap.size v R N us'):=hus
 subst hve
 have S5:Hid (St W w5 ((W.heap.size+1+1+1,huV [],69) :: [(W.heap.size+1+1,#[U i6 0,U i6 0],28),(W.heap.size+1,#[U i6 slo,U i6 shi],28),(W.heap.size,#[U i6 k,U i6 a,U i6 b,U i6 m,U i6 kh,U i6 kw,U i6 sh,U i6 sw,U i6 tp,U i6 lf,U i6 bt,U i6 rt,Sl wa lw wc,Sl ba lb bc,U i6 sm,U i6 ss,U i6 um,U i6 us,U i6 z,U i6 p,U i6 lo,U i6 hi,U i6 h,U i6 w,U i6 c,U i6 H,U i6 V,U i6 C],44)])):=S0.out.call hb5
 have hz5:=hb5.size
 obtain⟨lo',hlo⟩:∃ x,w4.heap.size=x:=⟨_,rfl⟩
 obtain⟨hi',hhi⟩:∃ x,w5.heap.size=x:=⟨_,rfl⟩
 have HHi:Hid (w5.heap.size=hi'):=hhi
 rw [hlo] at RO hz4 hz5
 rw [hhi] at hz5
 clear hus hb5 S0 c3 f3 z3 HRw hlo hhi
 go_wp2
 go_loopw [18] (fun i wr=>∃ k':Nat,k'≤N∧i=U i6 k'∧St W wr ((W.heap.size+1+1+1,huV (piT (fun E=>[suS (bi,bi) E]) R k'),69) :: [(W.heap.size+1+1,#[U i6 0,U i6 0],28),(W.heap.size+1,#[U i6 slo,U i6 shi],28),(W.heap.size,#[U i6 k,U i6 a,U i6 b,U i6 m,U i6 kh,U i6 kw,U i6 sh,U i6 sw,U i6 tp,U i6 lf,U i6 bt,U i6 rt,Sl wa lw wc,Sl ba lb bc,U i6 sm,U i6 ss,U i6 um,U i6 us,U i6 z,U i6 p,U i6 lo,U i6 hi,U i6 h,U i6 w,U i6 c,U i6 H,U i6 V,U i6 C],44)])∧Mid lo' hi' w5 wr∧hi'≤wr.heap.size) (fun i _=>N-(intOf i).toNat)
 case atStart=>exact⟨0,Nat.zero_le _,rfl,by simpa [piT] using S5.out,Mid.refl _ _ _,by rw [HHi.out];exact Nat.le_refl _⟩
 case round =>
  obtain⟨y,hy,rfl,s,hm,hz⟩:=hrel
  clear S5
  have S:Hid (St W wr _):=s
  have HMd:Hid (Mid lo' hi' w5 wr):=hm
  by_cases hlt:y<N
  ·obtain⟨g,cap,e0,hcu,hc1,hc2⟩:=(RO.out.mid hm (by rw [HHi.out];exact Nat.le_refl _)).at hlt
   have hou:=(RO.out.mid hm (by rw [HHi.out];exact Nat.le_refl _)).2.2 y hlt
   have HOy:Hid (∀ w',Mid lo' hi' w5 w'→OSp w' lo' (us'.getD y undef) (R y)):=fun w' hm'=>(RO.out.mid hm' (by rw [HHi.out];exact Nat.le_refl _)).2.2 y hlt
   obtain⟨u,hu0⟩:∃ u,us'.getD y undef=u:=⟨_,rfl⟩
   rw [hu0] at hcu hou HOy
   obtain⟨M,hM⟩:∃ M,(R y).length=M:=⟨_,rfl⟩
   have HM:Hid ((R y).length=M):=hM
   obtain⟨ua,uc,hue⟩:=hou.slice
   rw [hM] at hue
   subst hue
   have e1:va=some ⟨g,0,none⟩:=(Value.slice.inj e0).1
   subst e1
   have hM5:M≤512:=by rw [← hM];exact HLn.out y
   clear hou hM s hm hc1 hc2 hu0
   go_upto_region 5 with fail
   go_wp2_with (refine wpList_load_row rfl 44 (.tmp 3) rfl W.heap.size rfl 44 _ (0,0) _ S.out.h4 Tryz.underlying44 rfl (by kernel_rfl) ?_)
   refine Calls.mono (HBg.out _ S.out.below) ?_
   rintro e w6 ⟨rfl,hb6⟩
   have s7:=(S.out.call hb6).new (c:=#[U i6 bi,U i6 bi]) (t:=28)
   have hz6:=hb6.size
   have M7:Mid lo' hi' w5 (w6.alloc (.cells #[U i6 bi,U i6 bi] 28)):=(HMd.out.trans (Mid.later hb6)).trans (Mid.later (bal _ _))
   obtain⟨Bs,hBs⟩:∃ B,w6.heap.size=B:=⟨_,rfl⟩
   obtain⟨w7,hw7⟩:∃ w7,w6.alloc (.cells #[U i6 bi,U i6 bi] 28)=w7:=⟨_,rfl⟩
   go_upto_region 6 with fail
   rw [hw7] at s7 M7
   rw [hBs] at s7 hz6
   have hz7:w7.heap.size=Bs+1:=by rw [← hw7,← hBs];simp
   have S7:Hid (St W w7 ((Bs,#[U i6 bi,U i6 bi],28) :: (W.heap.size+1+1+1,huV (piT (fun E=>[suS (bi,bi) E]) R y),69) :: [(W.heap.size+1+1,#[U i6 0,U i6 0],28),(W.heap.size+1,#[U i6 slo,U i6 shi],28),(W.heap.size,#[U i6 k,U i6 a,U i6 b,U i6 m,U i6 kh,U i6 kw,U i6 sh,U i6 sw,U i6 tp,U i6 lf,U i6 bt,U i6 rt,Sl wa lw wc,Sl ba lb bc,U i6 sm,U i6 ss,U i6 um,U i6 us,U i6 z,U i6 p,U i6 lo,U i6 hi,U i6 h,U i6 w,U i6 c,U i6 H,U i6 V,U i6 C],44)])):=s7
   have HM7:Hid (Mid lo' hi' w5 w7):=M7
   have hBs2:hi'≤Bs:=by omega
   clear hw7 hBs s7 M7 hb6 S HMd hcu
   go_wp2
   go_loopw [27] (fun i w'=>∃ j:Nat,j≤M∧i=U i6 j∧St W w' ((Bs,#[U i6 (suS (bi,bi) ((R y).take j)).1,U i6 (suS (bi,bi) ((R y).take j)).2],28) :: (W.heap.size+1+1+1,huV (piT (fun E=>[suS (bi,bi) E]) R y),69) :: [(W.heap.size+1+1,#[U i6 0,U i6 0],28),(W.heap.size+1,#[U i6 slo,U i6 shi],28),(W.heap.size,#[U i6 k,U i6 a,U i6 b,U i6 m,U i6 kh,U i6 kw,U i6 sh,U i6 sw,U i6 tp,U i6 lf,U i6 bt,U i6 rt,Sl wa lw wc,Sl ba lb bc,U i6 sm,U i6 ss,U i6 um,U i6 us,U i6 z,U i6 p,U i6 lo,U i6 hi,U i6 h,U i6 w,U i6 c,U i6 H,U i6 V,U i6 C],44)])∧Mid lo' hi' w5 w'∧hi'≤w'.heap.size) (fun i _=>M-(intOf i).toNat)
   case atStart=>exact⟨0,Nat.zero_le _,rfl,by simpa [suS] using S7.out,HM7.out,by omega⟩
   case round =>
    obtain⟨j,hj,rfl,s,hm,hz'⟩:=hrel
    clear S7 HM7
    by_cases hjl:j<M
    ·have hsp:=(HOy.out wr hm).sv
     have hjL:j<(R y).length:=by rw [HM.out];exact hjl
     have hve:=HE.out y j hjL
     have hvm:=HV.out y j
     obtain⟨a9,c9,e9,-,-,h9⟩:=hsp
     obtain⟨g9,o9,hg9,hc9⟩:=h9 (by omega)
     have e10:ua=some ⟨g9,o9,none⟩:=by rw [(Value.slice.inj e9).1];exact hg9
     subst e10
     obtain⟨q1,q2⟩:=SpV.at hc9 hjL
     obtain⟨e1,e2,he⟩:∃ e1 e2,(R y).getD j (0,0)=(e1,e2):=⟨_,_,rfl⟩
     obtain⟨m1,m2,hmm⟩:∃ m1 m2,suS (bi,bi) ((R y).take j)=(m1,m2):=⟨_,_,rfl⟩
     have HS:Hid (suS (bi,bi) ((R y).take (j+1))=(m1+e1,m2+e2)):=by unfold Hid;rw [suS_take _ hjL he,hmm];rfl
     rw [he] at q1 q2 hve
     rw [hmm] at s hvm
     simp only at q1 q2 s
     have HP:Hid (∀ w,_):=fun w=>rplus_any (m1,m2) (e1,e2) w hvm hve
     have S:Hid (St W wr _):=s
     have HMd:Hid (Mid lo' hi' w5 wr):=hm
     obtain⟨c1,f1,z1,-⟩:=s.rules
     clear e9 h9 hg9 hc9 he hmm s hm hve hvm
     go_wp2_with fail
     refine Calls.mono (HP.out _) ?_
     rintro e w8 ⟨rfl,hb8⟩
     have hb9:=(bal wr (.cells #[U i6 e1,U i6 e2] 28)).trans (hb8.mono (by simp))
     have s9:=S.out.call hb9
     have z9:=hb9.size
     clear c1 f1 z1 q1 q2
     obtain⟨c1,f1,z1,-⟩:=s9.rules
     have S9:Hid (St W _ _):=s9.set2 (u:=U i6 (m1+e1)) (v:=U i6 (m2+e2)) (by simp;omega)
     have M9:Hid (Mid lo' hi' w5 _):=((HMd.out.trans (Mid.later hb9)).trans (Mid.set _ (B:=Bs) (i:=0) (v:=U i6 (m1+e1)) (.inr hBs2))).trans (Mid.set _ (B:=Bs) (i:=1) (v:=U i6 (m2+e2)) (.inr hBs2))
     simp only [plS]
     clear s9 hb8 hb9 S HMd HP
     go_wp2
     go_roundw
     case rel=>exact⟨j+1,by omega,by go_num,by rw [HS.out];exact S9.out,M9.out,by simp;omega⟩
     case measure=>simp [intOf];omega
    ·obtain rfl:j=M:=by omega
     rw [List.take_of_length_le (by rw [HM.out];exact Nat.le_refl _)] at s
     have hnew:=HPs.out y
     have hlh:∀ x∈((Bs,#[U i6 (suS (bi,bi) (R y)).1,U i6 (suS (bi,bi) (R y)).2],28) :: [(W.heap.size+1+1,#[U i6 0,U i6 0],28),(W.heap.size+1,#[U i6 slo,U i6 shi],28),(W.heap.size,#[U i6 k,U i6 a,U i6 b,U i6 m,U i6 kh,U i6 kw,U i6 sh,U i6 sw,U i6 tp,U i6 lf,U i6 bt,U i6 rt,Sl wa lw wc,Sl ba lb bc,U i6 sm,U i6 ss,U i6 um,U i6 us,U i6 z,U i6 p,U i6 lo,U i6 hi,U i6 h,U i6 w,U i6 c,U i6 H,U i6 V,U i6 C],44)]:List (Nat×Array Value×TypeId)),x.1≠W.heap.size+1+1+1:=by simp;omega
     have HTk:Hid _:=rtake_any (W.heap.size+1+1+1) (piT (fun E=>[suS (bi,bi) E]) R y) (suS (bi,bi) (R y)) wr s.h2
     rw [← hnew] at HTk
     have SS:Hid (St W wr _):=s.up1
     have HMd:Hid (Mid lo' hi' w5 wr):=hm
     obtain⟨q1,q2,hq⟩:∃ q1 q2,suS (bi,bi) (R y)=(q1,q2):=⟨_,_,rfl⟩
     rw [hq] at s HTk SS hlh
     simp only at s HTk SS hlh
     obtain⟨c1,f1,z1,c2,f2,z2,-⟩:=s.rules
     clear s hm hq hnew
     go_wp2_with fail
     refine Calls.mono HTk.out ?_
     rintro e w8 ⟨⟨vv,rfl⟩,gr,hB8⟩
     have S8:Hid (St W w8 _):=(SS.out.put1 gr hB8 hlh).up1.tail
     have M8:Hid (Mid lo' hi' w5 w8):=HMd.out.trans (Mid.grown gr (fun b e=>by cases e;omega))
     have hz8:=gr.size
     clear SS HMd gr hB8 c1 f1 c2 f2 z1 z2 HTk
     go_wp2
     go_roundw
     case rel=>exact⟨y+1,by omega,by go_num,S8.out,M8.out,by omega⟩
     case measure=>simp [intOf];omega
  ·obtain rfl:y=N:=by omega
   obtain⟨c1,f1,z1,c2,f2,z2,-⟩:=s.rules
   have HB:Hid (Below W.heap.size W _):=s.tail.out2 (i:=0) (j:=1) (u:=U i6 (hbT bi R y).1) (v:=U i6 (hbT bi R y).2)
   unfold huV at c1
   rw [← HRes.out] at c1
   obtain⟨m1,m2,hmm⟩:∃ m1 m2,hbT bi R y=(m1,m2):=⟨_,_,rfl⟩
   have HMM:Hid (hbT bi R y=(m1,m2)):=hmm
   rw [hmm] at c1 HB
   simp only at c1 HB
   clear s hm S hmm
   go_wp2
   exact bodyPost_ret (v:=.agg #[U i6 m1,U i6 m2]) (by simp [results,Tryz.results10,go_sem,c2]) rfl ⟨by rw [HMM.out],HB.out⟩
theorem rrun_any (k a b m kh kw sh sw tp lf bt rt:Int) (wa:Option Addr) (lw wc:Nat) (ba:Option Addr) (lb bc:Nat) (sm ss um us z p lo hi h w c H V C:Int) (W:World) (ch slo shi bi:Int) (R:Nat→List (Int×Int)) (N:Nat) (hN:N≤10000000) (hR:∀ j,Rb (R j)∧(R j).length≤512) (hRw:∀ W',Below W.heap.size W W'→Calls Tryz.prog 27 #[.agg #[U i6 k,U i6 a,U i6 b,U i6 m,U i6 kh,U i6 kw,U i6 sh,U i6 sw,U i6 tp,U i6 lf,U i6 bt,U i6 rt,Sl wa lw wc,Sl ba lb bc,U i6 sm,U i6 ss,U i6 um,U i6 us,U i6 z,U i6 p,U i6 lo,U i6 hi,U i6 h,U i6 w,U i6 c,U i6 H,U i6 V,U i6 C],U i6 ch,.agg #[U i6 slo,U i6 shi]] W' fun e w'=>(∃ v,e=.returned v∧RwO w' W'.heap.size v R N)∧Below W'.heap.size W' w') (hbi:-2147483648≤bi∧bi≤2147483647) (hBg:∀ W',Below W.heap.size W W'→Calls Tryz.prog 28 #[.agg #[U i6 k,U i6 a,U i6 b,U i6 m,U i6 kh,U i6 kw,U i6 sh,U i6 sw,U i6 tp,U i6 lf,U i6 bt,U i6 rt,Sl wa lw wc,Sl ba lb bc,U i6 sm,U i6 ss,U i6 um,U i6 us,U i6 z,U i6 p,U i6 lo,U i6 hi,U i6 h,U i6 w,U i6 c,U i6 H,U i6 V,U i6 C],U i6 ch] W' fun e w'=>e=.returned (.agg #[U i6 bi,U i6 bi])∧Below W'.heap.size W' w') :
  Calls Tryz.prog 13 #[.agg #[U i6 k,U i6 a,U i6 b,U i6 m,U i6 kh,U i6 kw,U i6 sh,U i6 sw,U i6 tp,U i6 lf,U i6 bt,U i6 rt,Sl wa lw wc,Sl ba lb bc,U i6 sm,U i6 ss,U i6 um,U i6 us,U i6 z,U i6 p,U i6 lo,U i6 hi,U i6 h,U i6 w,U i6 c,U i6 H,U i6 V,U i6 C],U i6 ch,.agg #[U i6 slo,U i6 shi]] W fun e w'=>e=.returned (.agg #[U i6 (hbR bi R N).1,U i6 (hbR bi R N).2])∧Below W.heap.size W w':=by
 have HRw:Hid (∀ W',Below W.heap.size W W'→_):=hRw
 have HBg:Hid (∀ W',Below W.heap.size W W'→_):=hBg
 have HV:Hid (∀ k j,Vd 10000000000 (suS (bi,bi) ((R k).take j))):=fun k j=>suS_vd ((hR k).1.take j) (by rw [List.length_take];have:=(hR k).2;omega) (vd_bi hbi)
 have HE:Hid (∀ k j,j<(R k).length→Vd 10000000000 ((R k).getD j (0,0))):=fun k j hj=>by
  rw [List.getD_eq_getElem?_getD,List.getElem?_eq_getElem hj]
  exact (hR k).1.vd _ (List.getElem_mem _)
 have HLn:Hid (∀ k,(R k).length≤512):=fun k=>(hR k).2
 have HPs:Hid (∀ k,piT (fun E=>ruL (bi,bi) E) R (k+1)=piT (fun E=>ruL (bi,bi) E) R k++ruL (bi,bi) (R k)):=fun k=>piT_succ _ R k
 have HRes:Hid (hbR bi R N=huA (piT (fun E=>ruL (bi,bi) E) R N)):=rfl
 have s0:=((((St.start W).new (c:=#[U i6 k,U i6 a,U i6 b,U i6 m,U i6 kh,U i6 kw,U i6 sh,U i6 sw,U i6 tp,U i6 lf,U i6 bt,U i6 rt,Sl wa lw wc,Sl ba lb bc,U i6 sm,U i6 ss,U i6 um,U i6 us,U i6 z,U i6 p,U i6 lo,U i6 hi,U i6 h,U i6 w,U i6 c,U i6 H,U i6 V,U i6 C]) (t:=44)).new (c:=#[U i6 slo,U i6 shi]) (t:=28)).new (c:=#[U i6 0,U i6 0]) (t:=28)).new (c:=huV []) (t:=69)
 simp only [World.size_alloc] at s0
 have S0:Hid (St W _ ((W.heap.size+1+1+1,huV [],69) :: [(W.heap.size+1+1,#[U i6 0,U i6 0],28),(W.heap.size+1,#[U i6 slo,U i6 shi],28),(W.heap.size,#[U i6 k,U i6 a,U i6 b,U i6 m,U i6 kh,U i6 kw,U i6 sh,U i6 sw,U i6 tp,U i6 lf,U i6 bt,U i6 rt,Sl wa lw wc,Sl ba lb bc,U i6 sm,U i6 ss,U i6 um,U i6 us,U i6 z,U i6 p,U i6 lo,U i6 hi,U i6 h,U i6 w,U i6 c,U i6 H,U i6 V,U i6 C],44)])):=s0
 clear hRw hBg hR hbi s0
 go_enter Tryz.func13,Tryz.ntmps13
 go_upto_region 2 with fail
 rw [← huV_0]
 obtain⟨w4,hw4⟩:∃ w4,(((W.alloc (.cells #[U i6 k,U i6 a,U i6 b,U i6 m,U i6 kh,U i6 kw,U i6 sh,U i6 sw,U i6 tp,U i6 lf,U i6 bt,U i6 rt,Sl wa lw wc,Sl ba lb bc,U i6 sm,U i6 ss,U i6 um,U i6 us,U i6 z,U i6 p,U i6 lo,U i6 hi,U i6 h,U i6 w,U i6 c,U i6 H,U i6 V,U i6 C] 44)).alloc (.cells #[U i6 slo,U i6 shi] 28)).alloc (.cells #[U i6 0,U i6 0] 28)).alloc (.cells (huV []) 69)=w4:=⟨_,rfl⟩
 have hz4:w4.heap.size=W.heap.size+1+1+1+1:=by rw [← hw4];simp
 rw [hw4] at S0 ⊢
 clear hw4
 obtain⟨-,-,-,-,-,-,c3,f3,z3,-⟩:=S0.out.rules
 go_wp2_with (refine wpList_load_row rfl 44 (.tmp 3) rfl W.heap.size rfl 44 _ (0,0) _ S0.out.h4 Tryz.underlying44 rfl (by kernel_rfl) ?_)
 refine Calls.mono (HRw.out _ S0.out.below) ?_
 rintro e w5 ⟨⟨v,rfl,hrw⟩,hb5⟩
 obtain⟨va,vc,hve⟩:=hrw.slice
 obtain⟨us',hus⟩:=hrw
 have RO:Hid (RwU w5 w4.heap.size v R N us'):=hus
 subst hve
 have S5:Hid (St W w5 ((W.heap.size+1+1+1,huV [],69) :: [(W.heap.size+1+1,#[U i6 0,U i6 0],28),(W.heap.size+1,#[U i6 slo,U i6 shi],28),(W.heap.size,#[U i6 k,U i6 a,U i6 b,U i6 m,U i6 kh,U i6 kw,U i6 sh,U i6 sw,U i6 tp,U i6 lf,U i6 bt,U i6 rt,Sl wa lw wc,Sl ba lb bc,U i6 sm,U i6 ss,U i6 um,U i6 us,U i6 z,U i6 p,U i6 lo,U i6 hi,U i6 h,U i6 w,U i6 c,U i6 H,U i6 V,U i6 C],44)])):=S0.out.call hb5
 have hz5:=hb5.size
 obtain⟨lo',hlo⟩:∃ x,w4.heap.size=x:=⟨_,rfl⟩
 obtain⟨hi',hhi⟩:∃ x,w5.heap.size=x:=⟨_,rfl⟩
 have HHi:Hid (w5.heap.size=hi'):=hhi
 rw [hlo] at RO hz4 hz5
 rw [hhi] at hz5
 clear hus hb5 S0 c3 f3 z3 HRw hlo hhi
 go_wp2
 go_loopw [18] (fun i wr=>∃ k':Nat,k'≤N∧i=U i6 k'∧St W wr ((W.heap.size+1+1+1,huV (piT (fun E=>ruL (bi,bi) E) R k'),69) :: [(W.heap.size+1+1,#[U i6 0,U i6 0],28),(W.heap.size+1,#[U i6 slo,U i6 shi],28),(W.heap.size,#[U i6 k,U i6 a,U i6 b,U i6 m,U i6 kh,U i6 kw,U i6 sh,U i6 sw,U i6 tp,U i6 lf,U i6 bt,U i6 rt,Sl wa lw wc,Sl ba lb bc,U i6 sm,U i6 ss,U i6 um,U i6 us,U i6 z,U i6 p,U i6 lo,U i6 hi,U i6 h,U i6 w,U i6 c,U i6 H,U i6 V,U i6 C],44)])∧Mid lo' hi' w5 wr∧hi'≤wr.heap.size) (fun i _=>N-(intOf i).toNat)
 case atStart=>exact⟨0,Nat.zero_le _,rfl,by simpa [piT] using S5.out,Mid.refl _ _ _,by rw [HHi.out];exact Nat.le_refl _⟩
 case round =>
  obtain⟨y,hy,rfl,s,hm,hz⟩:=hrel
  clear S5
  have S:Hid (St W wr _):=s
  have HMd:Hid (Mid lo' hi' w5 wr):=hm
  by_cases hlt:y<N
  ·obtain⟨g,cap,e0,hcu,hc1,hc2⟩:=(RO.out.mid hm (by rw [HHi.out];exact Nat.le_refl _)).at hlt
   have hou:=(RO.out.mid hm (by rw [HHi.out];exact Nat.le_refl _)).2.2 y hlt
   have HOy:Hid (∀ w',Mid lo' hi' w5 w'→OSp w' lo' (us'.getD y undef) (R y)):=fun w' hm'=>(RO.out.mid hm' (by rw [HHi.out];exact Nat.le_refl _)).2.2 y hlt
   obtain⟨u,hu0⟩:∃ u,us'.getD y undef=u:=⟨_,rfl⟩
   rw [hu0] at hcu hou HOy
   obtain⟨M,hM⟩:∃ M,(R y).length=M:=⟨_,rfl⟩
   have HM:Hid ((R y).length=M):=hM
   obtain⟨ua,uc,hue⟩:=hou.slice
   rw [hM] at hue
   subst hue
   have e1:va=some ⟨g,0,none⟩:=(Value.slice.inj e0).1
   subst e1
   have hM5:M≤512:=by rw [← hM];exact HLn.out y
   clear hou hM s hm hc1 hc2 hu0
   go_upto_region 5 with fail
   go_wp2_with (refine wpList_load_row rfl 44 (.tmp 3) rfl W.heap.size rfl 44 _ (0,0) _ S.out.h4 Tryz.underlying44 rfl (by kernel_rfl) ?_)
   refine Calls.mono (HBg.out _ S.out.below) ?_
   rintro e w6 ⟨rfl,hb6⟩
   have s7:=(S.out.call hb6).new (c:=#[U i6 bi,U i6 bi]) (t:=28)
   have hz6:=hb6.size
   have M7:Mid lo' hi' w5 (w6.alloc (.cells #[U i6 bi,U i6 bi] 28)):=(HMd.out.trans (Mid.later hb6)).trans (Mid.later (bal _ _))
   obtain⟨Bs,hBs⟩:∃ B,w6.heap.size=B:=⟨_,rfl⟩
   obtain⟨w7,hw7⟩:∃ w7,w6.alloc (.cells #[U i6 bi,U i6 bi] 28)=w7:=⟨_,rfl⟩
   go_upto_region 6 with fail
   rw [hw7] at s7 M7
   rw [hBs] at s7 hz6
   have hz7:w7.heap.size=Bs+1:=by rw [← hw7,← hBs];simp
   have hBs2:hi'≤Bs:=by omega
   have HTk0:Hid _:=rtake_any (W.heap.size+1+1+1) (piT (fun E=>ruL (bi,bi) E) R y) (bi,bi) w7 s7.h2
   obtain⟨c1,f1,z1,c2,f2,z2,-⟩:=s7.rules
   have SS7:Hid (St W w7 _):=s7.up1
   have HM7:Hid (Mid lo' hi' w5 w7):=M7
   have hlh7:∀ x∈((Bs,#[U i6 bi,U i6 bi],28) :: [(W.heap.size+1+1,#[U i6 0,U i6 0],28),(W.heap.size+1,#[U i6 slo,U i6 shi],28),(W.heap.size,#[U i6 k,U i6 a,U i6 b,U i6 m,U i6 kh,U i6 kw,U i6 sh,U i6 sw,U i6 tp,U i6 lf,U i6 bt,U i6 rt,Sl wa lw wc,Sl ba lb bc,U i6 sm,U i6 ss,U i6 um,U i6 us,U i6 z,U i6 p,U i6 lo,U i6 hi,U i6 h,U i6 w,U i6 c,U i6 H,U i6 V,U i6 C],44)]:List (Nat×Array Value×TypeId)),x.1≠W.heap.size+1+1+1:=by simp;omega
   clear hw7 hBs s7 M7 hb6 S HMd hcu
   go_wp2_with fail
   refine Calls.mono HTk0.out ?_
   rintro e w8 ⟨⟨vv,rfl⟩,gr,hB8⟩
   have S7:Hid (St W w8 ((Bs,#[U i6 bi,U i6 bi],28) :: (W.heap.size+1+1+1,huV (piT (fun E=>ruL (bi,bi) E) R y++ruT (bi,bi) (R y) 0),69) :: [(W.heap.size+1+1,#[U i6 0,U i6 0],28),(W.heap.size+1,#[U i6 slo,U i6 shi],28),(W.heap.size,#[U i6 k,U i6 a,U i6 b,U i6 m,U i6 kh,U i6 kw,U i6 sh,U i6 sw,U i6 tp,U i6 lf,U i6 bt,U i6 rt,Sl wa lw wc,Sl ba lb bc,U i6 sm,U i6 ss,U i6 um,U i6 us,U i6 z,U i6 p,U i6 lo,U i6 hi,U i6 h,U i6 w,U i6 c,U i6 H,U i6 V,U i6 C],44)])):=by unfold Hid;rw [ruT_0];exact (SS7.out.put1 gr hB8 hlh7).up1
   have HM8:Hid (Mid lo' hi' w5 w8):=HM7.out.trans (Mid.grown gr (fun b e=>by cases e;omega))
   have hz8:=gr.size
   clear SS7 HM7 gr hB8 HTk0 c1 f1 z1 c2 f2 z2 hlh7
   go_wp2
   go_loopw [29] (fun i w'=>∃ j:Nat,j≤M∧i=U i6 j∧St W w' ((Bs,#[U i6 (suS (bi,bi) ((R y).take j)).1,U i6 (suS (bi,bi) ((R y).take j)).2],28) :: (W.heap.size+1+1+1,huV (piT (fun E=>ruL (bi,bi) E) R y++ruT (bi,bi) (R y) j),69) :: [(W.heap.size+1+1,#[U i6 0,U i6 0],28),(W.heap.size+1,#[U i6 slo,U i6 shi],28),(W.heap.size,#[U i6 k,U i6 a,U i6 b,U i6 m,U i6 kh,U i6 kw,U i6 sh,U i6 sw,U i6 tp,U i6 lf,U i6 bt,U i6 rt,Sl wa lw wc,Sl ba lb bc,U i6 sm,U i6 ss,U i6 um,U i6 us,U i6 z,U i6 p,U i6 lo,U i6 hi,U i6 h,U i6 w,U i6 c,U i6 H,U i6 V,U i6 C],44)])∧Mid lo' hi' w5 w'∧hi'≤w'.heap.size) (fun i _=>M-(intOf i).toNat)
   case atStart=>exact⟨0,Nat.zero_le _,rfl,by simpa [suS] using S7.out,HM8.out,by omega⟩
   case round =>
    obtain⟨j,hj,rfl,s,hm,hz'⟩:=hrel
    clear S7 HM8
    by_cases hjl:j<M
    ·have hsp:=(HOy.out wr hm).sv
     have hjL:j<(R y).length:=by rw [HM.out];exact hjl
     have hve:=HE.out y j hjL
     have hvm:=HV.out y j
     obtain⟨a9,c9,e9,-,-,h9⟩:=hsp
     obtain⟨g9,o9,hg9,hc9⟩:=h9 (by omega)
     have e10:ua=some ⟨g9,o9,none⟩:=by rw [(Value.slice.inj e9).1];exact hg9
     subst e10
     obtain⟨q1,q2⟩:=SpV.at hc9 hjL
     obtain⟨e1,e2,he⟩:∃ e1 e2,(R y).getD j (0,0)=(e1,e2):=⟨_,_,rfl⟩
     obtain⟨m1,m2,hmm⟩:∃ m1 m2,suS (bi,bi) ((R y).take j)=(m1,m2):=⟨_,_,rfl⟩
     have HS:Hid (suS (bi,bi) ((R y).take (j+1))=(m1+e1,m2+e2)):=by unfold Hid;rw [suS_take _ hjL he,hmm];rfl
     have HRu:Hid (ruT (bi,bi) (R y) j++[(m1+e1,m2+e2)]=ruT (bi,bi) (R y) (j+1)):=by unfold Hid;rw [ruT_succ,HS.out]
     rw [he] at q1 q2 hve
     rw [hmm] at s hvm
     simp only at q1 q2 s
     have HP:Hid (∀ w,_):=fun w=>rplus_any (m1,m2) (e1,e2) w hvm hve
     have S:Hid (St W wr _):=s
     have HMd:Hid (Mid lo' hi' w5 wr):=hm
     obtain⟨c1,f1,z1,-⟩:=s.rules
     clear e9 h9 hg9 hc9 he hmm s hm hve hvm
     go_wp2_with fail
     refine Calls.mono (HP.out _) ?_
     rintro e w8 ⟨rfl,hb8⟩
     have hb9:=(bal wr (.cells #[U i6 e1,U i6 e2] 28)).trans (hb8.mono (by simp))
     have s9:=S.out.call hb9
     have z9:=hb9.size
     clear c1 f1 z1 q1 q2
     obtain⟨c1,f1,z1,-⟩:=s9.rules
     have S9:Hid (St W _ _):=s9.set2 (u:=U i6 (m1+e1)) (v:=U i6 (m2+e2)) (by simp;omega)
     have M9:Hid (Mid lo' hi' w5 _):=((HMd.out.trans (Mid.later hb9)).trans (Mid.set _ (B:=Bs) (i:=0) (v:=U i6 (m1+e1)) (.inr hBs2))).trans (Mid.set _ (B:=Bs) (i:=1) (v:=U i6 (m2+e2)) (.inr hBs2))
     simp only [plS]
     have hBs3:Bs≠W.heap.size+1+1+1:=by omega
     have HTk:Hid _:=rtake_any (W.heap.size+1+1+1) (piT (fun E=>ruL (bi,bi) E) R y++ruT (bi,bi) (R y) j) (m1+e1,m2+e2) _ S9.out.h2
     rw [List.append_assoc,HRu.out] at HTk
     have hlh:∀ x∈((Bs,#[U i6 (m1+e1),U i6 (m2+e2)],28) :: [(W.heap.size+1+1,#[U i6 0,U i6 0],28),(W.heap.size+1,#[U i6 slo,U i6 shi],28),(W.heap.size,#[U i6 k,U i6 a,U i6 b,U i6 m,U i6 kh,U i6 kw,U i6 sh,U i6 sw,U i6 tp,U i6 lf,U i6 bt,U i6 rt,Sl wa lw wc,Sl ba lb bc,U i6 sm,U i6 ss,U i6 um,U i6 us,U i6 z,U i6 p,U i6 lo,U i6 hi,U i6 h,U i6 w,U i6 c,U i6 H,U i6 V,U i6 C],44)]:List (Nat×Array Value×TypeId)),x.1≠W.heap.size+1+1+1:=by simp;omega
     clear s9 hb8 hb9 S HMd HP
     go_wp2_with fail
     refine Calls.mono HTk.out ?_
     rintro e w10 ⟨⟨vv,rfl⟩,gr,hB8⟩
     have S10:Hid (St W w10 _):=(S9.out.up1.put1 gr hB8 hlh).up1
     have M10:Hid (Mid lo' hi' w5 w10):=M9.out.trans (Mid.grown gr (fun b e=>by cases e;omega))
     have hz10:=gr.size
     simp only [World.size_setCell] at hz10
     clear S9 M9 gr hB8 HTk hlh c1 f1 z1
     go_wp2
     go_roundw
     case rel=>exact⟨j+1,by omega,by go_num,by rw [HS.out];exact S10.out,M10.out,by omega⟩
     case measure=>simp [intOf];omega
    ·obtain rfl:j=M:=by omega
     have e5:ruT (bi,bi) (R y) j=ruL (bi,bi) (R y):=by rw [← HM.out];exact ruT_all _ _
     rw [e5,← HPs.out y] at s
     have S8:Hid (St W wr _):=s.tail
     have M8:Hid (Mid lo' hi' w5 wr):=hm
     clear s hm e5
     go_wp2
     go_roundw
     case rel=>exact⟨y+1,by omega,by go_num,S8.out,M8.out,by omega⟩
     case measure=>simp [intOf];omega
  ·obtain rfl:y=N:=by omega
   obtain⟨c1,f1,z1,c2,f2,z2,-⟩:=s.rules
   have HB:Hid (Below W.heap.size W _):=s.tail.out2 (i:=0) (j:=1) (u:=U i6 (hbR bi R y).1) (v:=U i6 (hbR bi R y).2)
   unfold huV at c1
   rw [← HRes.out] at c1
   obtain⟨m1,m2,hmm⟩:∃ m1 m2,hbR bi R y=(m1,m2):=⟨_,_,rfl⟩
   have HMM:Hid (hbR bi R y=(m1,m2)):=hmm
   rw [hmm] at c1 HB
   simp only at c1 HB
   clear s hm S hmm
   go_wp2
   exact bodyPost_ret (v:=.agg #[U i6 m1,U i6 m2]) (by simp [results,Tryz.results13,go_sem,c2]) rfl ⟨by rw [HMM.out],HB.out⟩
def psT (d:Nat) (E:List (Int×Int)) (j:Nat):Int×Int:=if j=0 then (0,0) else psm d E (j-1)
def paI (d:Nat) (E:List (Int×Int)) (j:Nat):List (Int×Int):=(List.range j).flatMap fun i=>[psm d E i,E.getD i (0,0)]
theorem paI_succ (d:Nat) (E:List (Int×Int)) (j:Nat):paI d E (j+1)=paI d E j++[psm d E j]++[E.getD j (0,0)]:=by unfold paI;rw [List.range_succ,List.flatMap_append];simp
theorem psT_succ (d:Nat) (E:List (Int×Int)) (j:Nat):psT d E (j+1)=psm d E j:=by unfold psT;rw [if_neg (by omega)];rfl
theorem psm_zero {d:Nat} {E:List (Int×Int)} {j:Nat} (hd:0<d) (hj:j<E.length) (h:j % d=0) {e:Int×Int} (he:E.getD j (0,0)=e):psm d E j=plS (0,0) e:=by
 unfold psm
 have e1:j / d*d=j:=by have:=Nat.div_add_mod j d;rw [h,Nat.mul_comm] at this;omega
 rw [e1,h,suS_take (0,0) (d:=(0,0)) (e:=e) (by rw [List.length_drop];omega) (by rw [List.getD_eq_getElem?_getD,List.getElem?_drop,Nat.add_zero,← List.getD_eq_getElem?_getD,he])]
 simp [suS]
theorem psm_more {d:Nat} {E:List (Int×Int)} {j:Nat} (hd:0<d) (hj:j<E.length) (h:j % d≠0) {e:Int×Int} (he:E.getD j (0,0)=e):psm d E j=plS (psT d E j) e:=by
 have h0:j≠0:=fun q=>h (by rw [q];exact Nat.zero_mod d)
 have hm:=Nat.mod_lt j hd
 have hdm:=Nat.div_add_mod j d
 have e1:(j-1) / d=j / d:=by
  have:j-1=d*(j / d)+(j % d-1):=by omega
  rw [this,Nat.mul_add_div hd,Nat.div_eq_of_lt (show j % d-1<d by omega),Nat.add_zero]
 have e2:(j-1) % d+1=j % d:=by
  have:j-1=d*(j / d)+(j % d-1):=by omega
  rw [this,Nat.mul_add_mod,Nat.mod_eq_of_lt (show j % d-1<d by omega)]
  omega
 unfold psT
 rw [if_neg h0]
 unfold psm
 rw [e1,e2]
 rw [Nat.mul_comm] at hdm
 exact suS_take (0,0) (d:=(0,0)) (by rw [List.length_drop];omega) (by rw [List.getD_eq_getElem?_getD,List.getElem?_drop,hdm,← List.getD_eq_getElem?_getD,he])
theorem mem_paI {d:Nat} {E:List (Int×Int)} {x:Int×Int} (hd:0<d):x∈paI d E E.length ↔ x∈paL d E++E:=by
 unfold paI
 rw [List.mem_append,mem_paL hd]
 simp only [List.mem_flatMap,List.mem_range,List.mem_cons,List.not_mem_nil,or_false]
 constructor
 ·rintro⟨i,hi,rfl | rfl⟩
  ·exact .inl ⟨i,hi,rfl⟩
  ·refine .inr ?_
   rw [List.getD_eq_getElem?_getD,List.getElem?_eq_getElem hi]
   exact List.getElem_mem _
 ·rintro (⟨i,hi,rfl⟩ | h)
  ·exact⟨i,hi,.inl rfl⟩
  ·obtain⟨i,hi,rfl⟩:=List.mem_iff_getElem.1 h
   exact⟨i,hi,.inr (by rw [List.getD_eq_getElem?_getD,List.getElem?_eq_getElem hi];rfl)⟩
theorem hbD_eq {d:Nat} (hd:0<d) {R:Nat→List (Int×Int)} {N:Nat} (hN:0<N) (h0:0<(R 0).length):huA (piT (fun E=>paI d E E.length) R N)=hbD d R N:=by
 refine huA_eq (fun e=>?_) fun x=>?_
 ·have:(R 0).getD 0 (0,0)∈piT (fun E=>paI d E E.length) R N:=mem_piT.2 ⟨0,hN,(mem_paI hd).2 (List.mem_append_right _ (by rw [List.getD_eq_getElem?_getD,List.getElem?_eq_getElem h0];exact List.getElem_mem _))⟩
  rw [e] at this;cases this
 ·rw [mem_piT,mem_piT]
  exact⟨fun ⟨k,hk,hx⟩=>⟨k,hk,(mem_paI hd).1 hx⟩,fun ⟨k,hk,hx⟩=>⟨k,hk,(mem_paI hd).2 hx⟩⟩
theorem psT_vd {E:List (Int×Int)} {d:Nat} (hE:Rb E) (hl:E.length≤512) (j:Nat):Vd 10000000000 (psT d E j):=by
 unfold psT
 split
 ·unfold Vd;simp
 ·exact psm_vd hE hl
theorem rprt_any (k a b m kh kw sh sw tp lf bt rt:Int) (wa:Option Addr) (lw wc:Nat) (ba:Option Addr) (lb bc:Nat) (sm ss um us z p lo hi h w c H V C:Int) (W:World) (ch slo shi bi:Int) (R:Nat→List (Int×Int)) (N:Nat) (hN:N≤10000000) (hR:∀ j,Rb (R j)∧(R j).length≤512) (hRw:∀ W',Below W.heap.size W W'→Calls Tryz.prog 27 #[.agg #[U i6 k,U i6 a,U i6 b,U i6 m,U i6 kh,U i6 kw,U i6 sh,U i6 sw,U i6 tp,U i6 lf,U i6 bt,U i6 rt,Sl wa lw wc,Sl ba lb bc,U i6 sm,U i6 ss,U i6 um,U i6 us,U i6 z,U i6 p,U i6 lo,U i6 hi,U i6 h,U i6 w,U i6 c,U i6 H,U i6 V,U i6 C],U i6 ch,.agg #[U i6 slo,U i6 shi]] W' fun e w'=>(∃ v,e=.returned v∧RwO w' W'.heap.size v R N)∧Below W'.heap.size W' w') (d:Nat) (hd:0<d) (hd2:d≤512) (hN0:0<N) (h00:0<(R 0).length) :
  Calls Tryz.prog 16 #[.agg #[U i6 k,U i6 a,U i6 b,U i6 m,U i6 kh,U i6 kw,U i6 sh,U i6 sw,U i6 tp,U i6 lf,U i6 bt,U i6 rt,Sl wa lw wc,Sl ba lb bc,U i6 sm,U i6 ss,U i6 um,U i6 us,U i6 z,U i6 p,U i6 lo,U i6 hi,U i6 h,U i6 w,U i6 c,U i6 H,U i6 V,U i6 C],U i6 ch,.agg #[U i6 slo,U i6 shi],U i6 (d:Int)] W fun e w'=>e=.returned (.agg #[U i6 (hbD d R N).1,U i6 (hbD d R N).2])∧Below W.heap.size W w':=by
 have HRw:Hid (∀ W',Below W.heap.size W W'→_):=hRw
 have HV:Hid (∀ k j,Vd 10000000000 (psT d (R k) j)):=fun k j=>psT_vd (hR k).1 (hR k).2 j
 have HE:Hid (∀ k j,j<(R k).length→Vd 10000000000 ((R k).getD j (0,0))):=fun k j hj=>by
  rw [List.getD_eq_getElem?_getD,List.getElem?_eq_getElem hj]
  exact (hR k).1.vd _ (List.getElem_mem _)
 have HLn:Hid (∀ k,(R k).length≤512):=fun k=>(hR k).2
 have HPs:Hid (∀ k,piT (fun E=>paI d E E.length) R (k+1)=piT (fun E=>paI d E E.length) R k++paI d (R k) (R k).length):=fun k=>piT_succ _ R k
 have HRes:Hid (hbD d R N=huA (piT (fun E=>paI d E E.length) R N)):=(hbD_eq hd hN0 h00).symm
 have s0:=((((St.start W).new (c:=#[U i6 k,U i6 a,U i6 b,U i6 m,U i6 kh,U i6 kw,U i6 sh,U i6 sw,U i6 tp,U i6 lf,U i6 bt,U i6 rt,Sl wa lw wc,Sl ba lb bc,U i6 sm,U i6 ss,U i6 um,U i6 us,U i6 z,U i6 p,U i6 lo,U i6 hi,U i6 h,U i6 w,U i6 c,U i6 H,U i6 V,U i6 C]) (t:=44)).new (c:=#[U i6 slo,U i6 shi]) (t:=28)).new (c:=#[U i6 0,U i6 0]) (t:=28)).new (c:=huV []) (t:=69)
 simp only [World.size_alloc] at s0
 have S0:Hid (St W _ ((W.heap.size+1+1+1,huV [],69) :: [(W.heap.size+1+1,#[U i6 0,U i6 0],28),(W.heap.size+1,#[U i6 slo,U i6 shi],28),(W.heap.size,#[U i6 k,U i6 a,U i6 b,U i6 m,U i6 kh,U i6 kw,U i6 sh,U i6 sw,U i6 tp,U i6 lf,U i6 bt,U i6 rt,Sl wa lw wc,Sl ba lb bc,U i6 sm,U i6 ss,U i6 um,U i6 us,U i6 z,U i6 p,U i6 lo,U i6 hi,U i6 h,U i6 w,U i6 c,U i6 H,U i6 V,U i6 C],44)])):=s0
 clear hRw hR s0 hN0 h00
 go_enter Tryz.func16,Tryz.ntmps16
 go_upto_region 2 with fail
 rw [← huV_0]
 obtain⟨w4,hw4⟩:∃ w4,(((W.alloc (.cells #[U i6 k,U i6 a,U i6 b,U i6 m,U i6 kh,U i6 kw,U i6 sh,U i6 sw,U i6 tp,U i6 lf,U i6 bt,U i6 rt,Sl wa lw wc,Sl ba lb bc,U i6 sm,U i6 ss,U i6 um,U i6 us,U i6 z,U i6 p,U i6 lo,U i6 hi,U i6 h,U i6 w,U i6 c,U i6 H,U i6 V,U i6 C] 44)).alloc (.cells #[U i6 slo,U i6 shi] 28)).alloc (.cells #[U i6 0,U i6 0] 28)).alloc (.cells (huV []) 69)=w4:=⟨_,rfl⟩
 have hz4:w4.heap.size=W.heap.size+1+1+1+1:=by rw [← hw4];simp
 rw [hw4] at S0 ⊢
 clear hw4
 obtain⟨-,-,-,-,-,-,c3,f3,z3,-⟩:=S0.out.rules
 go_wp2_with (refine wpList_load_row rfl 44 (.tmp 4) rfl W.heap.size rfl 44 _ (0,0) _ S0.out.h4 Tryz.underlying44 rfl (by kernel_rfl) ?_)
 refine Calls.mono (HRw.out _ S0.out.below) ?_
 rintro e w5 ⟨⟨v,rfl,hrw⟩,hb5⟩
 obtain⟨va,vc,hve⟩:=hrw.slice
 obtain⟨us',hus⟩:=hrw
 have RO:Hid (RwU w5 w4.heap.size v R N us'):=hus
 subst hve
 have S5:Hid (St W w5 ((W.heap.size+1+1+1,huV [],69) :: [(W.heap.size+1+1,#[U i6 0,U i6 0],28),(W.heap.size+1,#[U i6 slo,U i6 shi],28),(W.heap.size,#[U i6 k,U i6 a,U i6 b,U i6 m,U i6 kh,U i6 kw,U i6 sh,U i6 sw,U i6 tp,U i6 lf,U i6 bt,U i6 rt,Sl wa lw wc,Sl ba lb bc,U i6 sm,U i6 ss,U i6 um,U i6 us,U i6 z,U i6 p,U i6 lo,U i6 hi,U i6 h,U i6 w,U i6 c,U i6 H,U i6 V,U i6 C],44)])):=S0.out.call hb5
 have hz5:=hb5.size
 obtain⟨lo',hlo⟩:∃ x,w4.heap.size=x:=⟨_,rfl⟩
 obtain⟨hi',hhi⟩:∃ x,w5.heap.size=x:=⟨_,rfl⟩
 have HHi:Hid (w5.heap.size=hi'):=hhi
 rw [hlo] at RO hz4 hz5
 rw [hhi] at hz5
 clear hus hb5 S0 c3 f3 z3 HRw hlo hhi
 go_wp2
 go_loopw [20] (fun i wr=>∃ k':Nat,k'≤N∧i=U i6 k'∧St W wr ((W.heap.size+1+1+1,huV (piT (fun E=>paI d E E.length) R k'),69) :: [(W.heap.size+1+1,#[U i6 0,U i6 0],28),(W.heap.size+1,#[U i6 slo,U i6 shi],28),(W.heap.size,#[U i6 k,U i6 a,U i6 b,U i6 m,U i6 kh,U i6 kw,U i6 sh,U i6 sw,U i6 tp,U i6 lf,U i6 bt,U i6 rt,Sl wa lw wc,Sl ba lb bc,U i6 sm,U i6 ss,U i6 um,U i6 us,U i6 z,U i6 p,U i6 lo,U i6 hi,U i6 h,U i6 w,U i6 c,U i6 H,U i6 V,U i6 C],44)])∧Mid lo' hi' w5 wr∧hi'≤wr.heap.size) (fun i _=>N-(intOf i).toNat)
 case atStart=>exact⟨0,Nat.zero_le _,rfl,by simpa [piT] using S5.out,Mid.refl _ _ _,by rw [HHi.out];exact Nat.le_refl _⟩
 case round =>
  obtain⟨y,hy,rfl,s,hm,hz⟩:=hrel
  clear S5
  have S:Hid (St W wr _):=s
  have HMd:Hid (Mid lo' hi' w5 wr):=hm
  by_cases hlt:y<N
  ·obtain⟨g,cap,e0,hcu,hc1,hc2⟩:=(RO.out.mid hm (by rw [HHi.out];exact Nat.le_refl _)).at hlt
   have hou:=(RO.out.mid hm (by rw [HHi.out];exact Nat.le_refl _)).2.2 y hlt
   have HOy:Hid (∀ w',Mid lo' hi' w5 w'→OSp w' lo' (us'.getD y undef) (R y)):=fun w' hm'=>(RO.out.mid hm' (by rw [HHi.out];exact Nat.le_refl _)).2.2 y hlt
   obtain⟨u,hu0⟩:∃ u,us'.getD y undef=u:=⟨_,rfl⟩
   rw [hu0] at hcu hou HOy
   obtain⟨M,hM⟩:∃ M,(R y).length=M:=⟨_,rfl⟩
   have HM:Hid ((R y).length=M):=hM
   obtain⟨ua,uc,hue⟩:=hou.slice
   rw [hM] at hue
   subst hue
   have e1:va=some ⟨g,0,none⟩:=(Value.slice.inj e0).1
   subst e1
   have hM5:M≤512:=by rw [← hM];exact HLn.out y
   clear hou hM s hm hc1 hc2 hu0
   have s7:=S.out.new (c:=#[U i6 0,U i6 0]) (t:=28)
   have M7:Mid lo' hi' w5 (wr.alloc (.cells #[U i6 0,U i6 0] 28)):=HMd.out.trans (Mid.later (bal _ _))
   go_upto_region 6 with fail
   obtain⟨Bs,hBs⟩:∃ B,wr.heap.size=B:=⟨_,rfl⟩
   obtain⟨w7,hw7⟩:∃ w7,wr.alloc (.cells #[U i6 0,U i6 0] 28)=w7:=⟨_,rfl⟩
   rw [hw7] at s7 M7 ⊢
   rw [hBs] at s7 hz ⊢
   have hz7:w7.heap.size=Bs+1:=by rw [← hw7,← hBs];simp
   have S7:Hid (St W w7 ((Bs,#[U i6 0,U i6 0],28) :: (W.heap.size+1+1+1,huV (piT (fun E=>paI d E E.length) R y),69) :: [(W.heap.size+1+1,#[U i6 0,U i6 0],28),(W.heap.size+1,#[U i6 slo,U i6 shi],28),(W.heap.size,#[U i6 k,U i6 a,U i6 b,U i6 m,U i6 kh,U i6 kw,U i6 sh,U i6 sw,U i6 tp,U i6 lf,U i6 bt,U i6 rt,Sl wa lw wc,Sl ba lb bc,U i6 sm,U i6 ss,U i6 um,U i6 us,U i6 z,U i6 p,U i6 lo,U i6 hi,U i6 h,U i6 w,U i6 c,U i6 H,U i6 V,U i6 C],44)])):=s7
   have HM7:Hid (Mid lo' hi' w5 w7):=M7
   clear hw7 hBs s7 M7 S HMd hcu
   go_wp2
   go_loopw [26] (fun i w'=>∃ j:Nat,j≤M∧i=U i6 j∧St W w' ((Bs,#[U i6 (psT d (R y) j).1,U i6 (psT d (R y) j).2],28) :: (W.heap.size+1+1+1,huV (piT (fun E=>paI d E E.length) R y++paI d (R y) j),69) :: [(W.heap.size+1+1,#[U i6 0,U i6 0],28),(W.heap.size+1,#[U i6 slo,U i6 shi],28),(W.heap.size,#[U i6 k,U i6 a,U i6 b,U i6 m,U i6 kh,U i6 kw,U i6 sh,U i6 sw,U i6 tp,U i6 lf,U i6 bt,U i6 rt,Sl wa lw wc,Sl ba lb bc,U i6 sm,U i6 ss,U i6 um,U i6 us,U i6 z,U i6 p,U i6 lo,U i6 hi,U i6 h,U i6 w,U i6 c,U i6 H,U i6 V,U i6 C],44)])∧Mid lo' hi' w5 w'∧hi'≤w'.heap.size) (fun i _=>M-(intOf i).toNat)
   case atStart=>exact⟨0,Nat.zero_le _,rfl,by simpa [psT,paI] using S7.out,HM7.out,by omega⟩
   case round =>
    obtain⟨j,hj,rfl,s,hm,hz'⟩:=hrel
    clear S7 HM7
    by_cases hjl:j<M
    ·have hsp:=(HOy.out wr hm).sv
     have hjL:j<(R y).length:=by rw [HM.out];exact hjl
     have hve:=HE.out y j hjL
     have hvm:=HV.out y j
     obtain⟨a9,c9,e9,-,-,h9⟩:=hsp
     obtain⟨g9,o9,hg9,hc9⟩:=h9 (by omega)
     have e10:ua=some ⟨g9,o9,none⟩:=by rw [(Value.slice.inj e9).1];exact hg9
     subst e10
     obtain⟨q1,q2⟩:=SpV.at hc9 hjL
     obtain⟨e1,e2,he⟩:∃ e1 e2,(R y).getD j (0,0)=(e1,e2):=⟨_,_,rfl⟩
     have HPI:Hid (paI d (R y) (j+1)=paI d (R y) j++[psm d (R y) j]++[(e1,e2)]):=by unfold Hid;rw [paI_succ,he]
     have HPT:Hid (psT d (R y) (j+1)=psm d (R y) j):=psT_succ _ _ _
     have hdm:Int.tmod (j:Int) (d:Int)=((j % d:Nat):Int):=by rw [Int.tmod_eq_emod_of_nonneg (by omega)];rfl
     have hd0:¬ (d:Int)=0:=by omega
     obtain⟨r,hr⟩:∃ r,j % d=r:=⟨_,rfl⟩
     rw [hr] at hdm
     have hrl:r<d:=by rw [← hr];exact Nat.mod_lt _ hd
     have hj5:j<512:=by omega
     have HMd:Hid (Mid lo' hi' w5 wr):=hm
     rw [he] at q1 q2 hve
     simp only at q1 q2
     clear e9 h9 hg9 hc9 hm
     obtain⟨c1,f1,z1,-⟩:=s.rules
     have hb5:=bal wr (.cells #[U i6 e1,U i6 e2] 28)
     have s8:=s.call hb5
     have s8n:=s.new (c:=#[U i6 e1,U i6 e2]) (t:=28)
     have M8:Mid lo' hi' w5 (wr.alloc (.cells #[U i6 e1,U i6 e2] 28)):=HMd.out.trans (Mid.later hb5)
     go_upto_region 9 with fail
     obtain⟨Be,hBe⟩:∃ B,wr.heap.size=B:=⟨_,rfl⟩
     obtain⟨w8,hw8⟩:∃ w8,wr.alloc (.cells #[U i6 e1,U i6 e2] 28)=w8:=⟨_,rfl⟩
     have hBsr:=lt_of_heap s.h1
     rw [hw8] at s8n M8 ⊢
     rw [hBe] at s8n hz' hBsr ⊢
     have hz8:w8.heap.size=Be+1:=by rw [← hw8,← hBe];simp
     have S8:Hid (St W w8 ((Bs,#[U i6 (psT d (R y) j).1,U i6 (psT d (R y) j).2],28) :: (Be,#[U i6 e1,U i6 e2],28) :: (W.heap.size+1+1+1,huV (piT (fun E=>paI d E E.length) R y++paI d (R y) j),69) :: [(W.heap.size+1+1,#[U i6 0,U i6 0],28),(W.heap.size+1,#[U i6 slo,U i6 shi],28),(W.heap.size,#[U i6 k,U i6 a,U i6 b,U i6 m,U i6 kh,U i6 kw,U i6 sh,U i6 sw,U i6 tp,U i6 lf,U i6 bt,U i6 rt,Sl wa lw wc,Sl ba lb bc,U i6 sm,U i6 ss,U i6 um,U i6 us,U i6 z,U i6 p,U i6 lo,U i6 hi,U i6 h,U i6 w,U i6 c,U i6 H,U i6 V,U i6 C],44)])):=s8n.up1
     have HM8:Hid (Mid lo' hi' w5 w8):=M8
     clear hw8 hBe s8n s8 s M8 HMd c1 f1 z1 q1 q2 hb5
     by_cases hr0:r=0
     ·subst hr0
      have hps:psm d (R y) j=(0+e1,0+e2):=psm_zero hd hjL hr he
      obtain⟨m1,hm1⟩:∃ m:Int,m=0:=⟨_,rfl⟩
      obtain⟨m2,hm2⟩:∃ m:Int,m=0:=⟨_,rfl⟩
      have s9:=S8.out.set2 (u:=U i6 0) (v:=U i6 0) (by simp;omega)
      have M9:=(HM8.out.trans (Mid.set _ (B:=Bs) (i:=0) (v:=U i6 0) (.inr hz))).trans (Mid.set _ (B:=Bs) (i:=1) (v:=U i6 0) (.inr hz))
      obtain⟨c1,f1,z1,-⟩:=S8.out.rules
      have hvm:Vd 10000000000 ((m1,m2):Int×Int):=by rw [hm1,hm2];unfold Vd;simp
      clear he hr HV HE
      go_upto_region 11 with fail
      obtain⟨w9,hw9⟩:∃ w9,(w8.setCell ⟨Bs,0,none⟩ (U i6 0)).setCell ⟨Bs,1,none⟩ (U i6 0)=w9:=⟨_,rfl⟩
      have hz9:w9.heap.size=w8.heap.size:=by rw [← hw9];simp
      rw [hw9] at s9 M9 ⊢
      have S9:Hid (St W w9 ((Bs,#[U i6 m1,U i6 m2],28) :: (Be,#[U i6 e1,U i6 e2],28) :: (W.heap.size+1+1+1,huV (piT (fun E=>paI d E E.length) R y++paI d (R y) j),69) :: [(W.heap.size+1+1,#[U i6 0,U i6 0],28),(W.heap.size+1,#[U i6 slo,U i6 shi],28),(W.heap.size,#[U i6 k,U i6 a,U i6 b,U i6 m,U i6 kh,U i6 kw,U i6 sh,U i6 sw,U i6 tp,U i6 lf,U i6 bt,U i6 rt,Sl wa lw wc,Sl ba lb bc,U i6 sm,U i6 ss,U i6 um,U i6 us,U i6 z,U i6 p,U i6 lo,U i6 hi,U i6 h,U i6 w,U i6 c,U i6 H,U i6 V,U i6 C],44)])):=by unfold Hid;rw [hm1,hm2];exact s9
      have HM9:Hid (Mid lo' hi' w5 w9):=M9
      rw [show (0:Int)+e1=m1+e1 by rw [hm1],show (0:Int)+e2=m2+e2 by rw [hm2]] at hps
      clear hw9 s9 M9 S8 HM8 c1 f1 z1 hm1 hm2
      have HP:Hid (∀ w,_):=fun w=>rplus_any (m1,m2) (e1,e2) w hvm hve
      have HTk1:Hid (∀ W':World,W'.heap[W.heap.size+1+1+1]? = some (.cells (huV (piT (fun E=>paI d E E.length) R y++paI d (R y) j)) 69 (0,0))→_):=fun W' hB=>rtake_any (W.heap.size+1+1+1) (piT (fun E=>paI d E E.length) R y++paI d (R y) j) (m1+e1,m2+e2) W' hB
      have HTk2:Hid (∀ W':World,W'.heap[W.heap.size+1+1+1]? = some (.cells (huV (piT (fun E=>paI d E E.length) R y++paI d (R y) j++[(m1+e1,m2+e2)])) 69 (0,0))→_):=fun W' hB=>rtake_any (W.heap.size+1+1+1) (piT (fun E=>paI d E E.length) R y++paI d (R y) j++[(m1+e1,m2+e2)]) (e1,e2) W' hB
      have HFin:Hid (piT (fun E=>paI d E E.length) R y++paI d (R y) j++[(m1+e1,m2+e2)]++[(e1,e2)]=piT (fun E=>paI d E E.length) R y++paI d (R y) (j+1)):=by unfold Hid;rw [HPI.out,hps];simp
      have HPT2:Hid (psT d (R y) (j+1)=(m1+e1,m2+e2)):=by unfold Hid;rw [HPT.out,hps]
      obtain⟨c1,f1,z1,c2,f2,z2,-⟩:=S9.out.rules
      clear hvm hve hps HPI HPT
      go_wp2_with fail
      refine Calls.mono (HP.out _) ?_
      rintro e w10 ⟨rfl,hb10⟩
      have s10:=S9.out.call hb10
      have z10:=hb10.size
      clear c1 f1 z1 c2 f2 z2
      obtain⟨c1,f1,z1,c2,f2,z2,-⟩:=s10.rules
      have S11:Hid (St W _ _):=s10.set2 (u:=U i6 (m1+e1)) (v:=U i6 (m2+e2)) (by simp;omega)
      have M11:Hid (Mid lo' hi' w5 _):=((HM9.out.trans (Mid.later hb10)).trans (Mid.set _ (B:=Bs) (i:=0) (v:=U i6 (m1+e1)) (.inr hz))).trans (Mid.set _ (B:=Bs) (i:=1) (v:=U i6 (m2+e2)) (.inr hz))
      have HTa:Hid _:=HTk1.out _ S11.out.h3
      simp only [plS]
      clear s10 hb10 S9 HM9 HP HTk1
      go_wp2_with fail
      refine Calls.mono HTa.out ?_
      rintro e w12 ⟨⟨vv,rfl⟩,gr,hB12⟩
      have S12:Hid (St W w12 _):=S11.out.up2.put1 gr hB12 (by simp;omega)
      have M12:Hid (Mid lo' hi' w5 w12):=M11.out.trans (Mid.grown gr (fun b e=>by cases e;omega))
      have z12:=gr.size
      simp only [World.size_setCell] at z12
      clear S11 M11 gr hB12 HTa c1 f1 z1 c2 f2 z2
      obtain⟨c0,f0,z0',c1,f1,z1,c2,f2,z2,-⟩:=S12.out.rules
      have HTb:Hid _:=HTk2.out _ S12.out.h1
      rw [HFin.out] at HTb
      clear HTk2 c0 f0
      go_wp2_with fail
      refine Calls.mono HTb.out ?_
      rintro e w13 ⟨⟨vv',rfl⟩,gr,hB13⟩
      have S13:Hid (St W w13 ((Bs,#[U i6 (m1+e1),U i6 (m2+e2)],28) :: (W.heap.size+1+1+1,huV (piT (fun E=>paI d E E.length) R y++paI d (R y) (j+1)),69) :: [(W.heap.size+1+1,#[U i6 0,U i6 0],28),(W.heap.size+1,#[U i6 slo,U i6 shi],28),(W.heap.size,#[U i6 k,U i6 a,U i6 b,U i6 m,U i6 kh,U i6 kw,U i6 sh,U i6 sw,U i6 tp,U i6 lf,U i6 bt,U i6 rt,Sl wa lw wc,Sl ba lb bc,U i6 sm,U i6 ss,U i6 um,U i6 us,U i6 z,U i6 p,U i6 lo,U i6 hi,U i6 h,U i6 w,U i6 c,U i6 H,U i6 V,U i6 C],44)])):=(S12.out.put1 gr hB13 (by simp; omega)).sub (fun x hx=>by simp only [List.mem_cons,List.not_mem_nil,or_false] at hx ⊢; rcases hx with h | h | h | h | h<;>simp [h])
      have M13:Hid (Mid lo' hi' w5 w13):=M12.out.trans (Mid.grown gr (fun b e=>by cases e;omega))
      have z13:=gr.size
      clear S12 M12 gr hB13 HTb c1 f1 z1 c2 f2 z2
      go_wp2
      go_roundw
      case rel=>exact⟨j+1,by omega,by go_num,by rw [HPT2.out];exact S13.out,M13.out,by omega⟩
      case measure=>simp [intOf];omega
     ·have hps0:psm d (R y) j=plS (psT d (R y) j) (e1,e2):=psm_more hd hjL (by rw [hr];exact hr0) he
      obtain⟨m1,m2,hmm⟩:∃ m1 m2,psT d (R y) j=(m1,m2):=⟨_,_,rfl⟩
      have hps:psm d (R y) j=(m1+e1,m2+e2):=by rw [hps0,hmm];rfl
      have hr1:((r:Int) == 0)=false:=by simp;omega
      rw [hmm] at hvm
      have S9:Hid (St W w8 ((Bs,#[U i6 m1,U i6 m2],28) :: (Be,#[U i6 e1,U i6 e2],28) :: (W.heap.size+1+1+1,huV (piT (fun E=>paI d E E.length) R y++paI d (R y) j),69) :: [(W.heap.size+1+1,#[U i6 0,U i6 0],28),(W.heap.size+1,#[U i6 slo,U i6 shi],28),(W.heap.size,#[U i6 k,U i6 a,U i6 b,U i6 m,U i6 kh,U i6 kw,U i6 sh,U i6 sw,U i6 tp,U i6 lf,U i6 bt,U i6 rt,Sl wa lw wc,Sl ba lb bc,U i6 sm,U i6 ss,U i6 um,U i6 us,U i6 z,U i6 p,U i6 lo,U i6 hi,U i6 h,U i6 w,U i6 c,U i6 H,U i6 V,U i6 C],44)])):=by have q:=S8.out;rw [hmm] at q;exact q
      have HM9:Hid (Mid lo' hi' w5 w8):=HM8.out
      clear he hr HV HE hps0 hmm S8 HM8
      go_upto_region 11 with fail
      have HP:Hid (∀ w,_):=fun w=>rplus_any (m1,m2) (e1,e2) w hvm hve
      have HTk1:Hid (∀ W':World,W'.heap[W.heap.size+1+1+1]? = some (.cells (huV (piT (fun E=>paI d E E.length) R y++paI d (R y) j)) 69 (0,0))→_):=fun W' hB=>rtake_any (W.heap.size+1+1+1) (piT (fun E=>paI d E E.length) R y++paI d (R y) j) (m1+e1,m2+e2) W' hB
      have HTk2:Hid (∀ W':World,W'.heap[W.heap.size+1+1+1]? = some (.cells (huV (piT (fun E=>paI d E E.length) R y++paI d (R y) j++[(m1+e1,m2+e2)])) 69 (0,0))→_):=fun W' hB=>rtake_any (W.heap.size+1+1+1) (piT (fun E=>paI d E E.length) R y++paI d (R y) j++[(m1+e1,m2+e2)]) (e1,e2) W' hB
      have HFin:Hid (piT (fun E=>paI d E E.length) R y++paI d (R y) j++[(m1+e1,m2+e2)]++[(e1,e2)]=piT (fun E=>paI d E E.length) R y++paI d (R y) (j+1)):=by unfold Hid;rw [HPI.out,hps];simp
      have HPT2:Hid (psT d (R y) (j+1)=(m1+e1,m2+e2)):=by unfold Hid;rw [HPT.out,hps]
      obtain⟨c1,f1,z1,c2,f2,z2,-⟩:=S9.out.rules
      clear hvm hve hps HPI HPT
      go_wp2_with fail
      refine Calls.mono (HP.out _) ?_
      rintro e w10 ⟨rfl,hb10⟩
      have s10:=S9.out.call hb10
      have z10:=hb10.size
      clear c1 f1 z1 c2 f2 z2
      obtain⟨c1,f1,z1,c2,f2,z2,-⟩:=s10.rules
      have S11:Hid (St W _ _):=s10.set2 (u:=U i6 (m1+e1)) (v:=U i6 (m2+e2)) (by simp;omega)
      have M11:Hid (Mid lo' hi' w5 _):=((HM9.out.trans (Mid.later hb10)).trans (Mid.set _ (B:=Bs) (i:=0) (v:=U i6 (m1+e1)) (.inr hz))).trans (Mid.set _ (B:=Bs) (i:=1) (v:=U i6 (m2+e2)) (.inr hz))
      have HTa:Hid _:=HTk1.out _ S11.out.h3
      simp only [plS]
      clear s10 hb10 S9 HM9 HP HTk1
      go_wp2_with fail
      refine Calls.mono HTa.out ?_
      rintro e w12 ⟨⟨vv,rfl⟩,gr,hB12⟩
      have S12:Hid (St W w12 _):=S11.out.up2.put1 gr hB12 (by simp;omega)
      have M12:Hid (Mid lo' hi' w5 w12):=M11.out.trans (Mid.grown gr (fun b e=>by cases e;omega))
      have z12:=gr.size
      simp only [World.size_setCell] at z12
      clear S11 M11 gr hB12 HTa c1 f1 z1 c2 f2 z2
      obtain⟨c0,f0,z0',c1,f1,z1,c2,f2,z2,-⟩:=S12.out.rules
      have HTb:Hid _:=HTk2.out _ S12.out.h1
      rw [HFin.out] at HTb
      clear HTk2 c0 f0
      go_wp2_with fail
      refine Calls.mono HTb.out ?_
      rintro e w13 ⟨⟨vv',rfl⟩,gr,hB13⟩
      have S13:Hid (St W w13 ((Bs,#[U i6 (m1+e1),U i6 (m2+e2)],28) :: (W.heap.size+1+1+1,huV (piT (fun E=>paI d E E.length) R y++paI d (R y) (j+1)),69) :: [(W.heap.size+1+1,#[U i6 0,U i6 0],28),(W.heap.size+1,#[U i6 slo,U i6 shi],28),(W.heap.size,#[U i6 k,U i6 a,U i6 b,U i6 m,U i6 kh,U i6 kw,U i6 sh,U i6 sw,U i6 tp,U i6 lf,U i6 bt,U i6 rt,Sl wa lw wc,Sl ba lb bc,U i6 sm,U i6 ss,U i6 um,U i6 us,U i6 z,U i6 p,U i6 lo,U i6 hi,U i6 h,U i6 w,U i6 c,U i6 H,U i6 V,U i6 C],44)])):=(S12.out.put1 gr hB13 (by simp; omega)).sub (fun x hx=>by simp only [List.mem_cons,List.not_mem_nil,or_false] at hx ⊢; rcases hx with h | h | h | h | h<;>simp [h])
      have M13:Hid (Mid lo' hi' w5 w13):=M12.out.trans (Mid.grown gr (fun b e=>by cases e;omega))
      have z13:=gr.size
      clear S12 M12 gr hB13 HTb c1 f1 z1 c2 f2 z2
      go_wp2
      go_roundw
      case rel=>exact⟨j+1,by omega,by go_num,by rw [HPT2.out];exact S13.out,M13.out,by omega⟩
      case measure=>simp [intOf];omega
    ·obtain rfl:j=M:=by omega
     have e5:paI d (R y) j=paI d (R y) (R y).length:=by rw [HM.out]
     rw [e5,← HPs.out y] at s
     have S8:Hid (St W wr _):=s.tail
     have M8:Hid (Mid lo' hi' w5 wr):=hm
     clear s hm e5
     go_wp2
     go_roundw
     case rel=>exact⟨y+1,by omega,by go_num,S8.out,M8.out,by omega⟩
     case measure=>simp [intOf];omega
  ·obtain rfl:y=N:=by omega
   obtain⟨c1,f1,z1,c2,f2,z2,-⟩:=s.rules
   have HB:Hid (Below W.heap.size W _):=s.tail.out2 (i:=0) (j:=1) (u:=U i6 (hbD d R y).1) (v:=U i6 (hbD d R y).2)
   unfold huV at c1
   rw [← HRes.out] at c1
   obtain⟨m1,m2,hmm⟩:∃ m1 m2,hbD d R y=(m1,m2):=⟨_,_,rfl⟩
   have HMM:Hid (hbD d R y=(m1,m2)):=hmm
   rw [hmm] at c1 HB
   simp only at c1 HB
   clear s hm S hmm
   go_wp2
   exact bodyPost_ret (v:=.agg #[U i6 m1,U i6 m2]) (by simp [results,Tryz.results16,go_sem,c2]) rfl ⟨by rw [HMM.out],HB.out⟩
end Go.Proofs.YtccoanknofhmaaaGreat
