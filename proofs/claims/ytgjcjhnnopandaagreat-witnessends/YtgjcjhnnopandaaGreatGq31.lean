/- What the document's Terms returns, of an op with a window. The document's Terms, of whatever kind. The document's Value, Sum and Sums of layers 10 and 11. What the document's small functions of layer 13 return: Ends, plus, begin, take. -/
import Derived.Test.YtgjcjhnnopandaaGreatGq14
import Derived.Test.YtgjcjhnnopandaaGreatGq25
import Derived.Test.YtgjcjhnnopandaaGreatGq29
import Derived.Test.YtgjcjhnnopandaaGreatGq30
namespace Go.Proofs.YtgjcjhnnopandaaGreat
open Go.Value renaming int → U, slice → Sl
open Go.IntKind renaming i64 → i6
set_option maxRecDepth 100000
set_option maxHeartbeats 16000000
open Go.ChangeShapes Go.WideShapes Go.ChangeAt Go.RowKit
set_option linter.unusedVariables false
theorem covL_get (h w kw t u:Int) {n i:Nat} (hi:i<n):(Nx.covL h w kw t u n).getD i 0=tpc h w kw t u (i:Int):=by simp [Nx.covL,List.getD,hi,tpc]
theorem otm_other {w:World} {base B i:Nat} {v u:Value} {L:List (Int×Int)} (h:OTm w base v L) (hn:v.ownBlock≠some B):OTm (w.setCell ⟨B,i,none⟩ u) base v L:=by
 refine World.ownsRow.kept h (grown_set w B i u) ?_
 cases e:v.ownBlock with
 | none=>exact .inl rfl
 | some b=>exact .inr (fun q=>hn (by rw [e,q]))
theorem rterms_w (k a b m kh kw sh sw tp lf bt rt:Int) (wa:Option Addr) (lw wc:Nat) (ba:Option Addr) (lb bc:Nat) (sm ss um us z p lo hi h w:Int) (cn:Nat) (H V C:Int) (W:World) (zs:List Int) (hZ:IRow .i16 W wa lw wc zs) (s:Sit k kh kw sh sw tp lf bt rt h w (cn:Int) H V C lw lb) (k1:k≠1) (ch at' t u:Int) (hch:1≤ch∧ch≤C) (hcc:coR h w (cn:Int) kh kw sh sw tp lf bt rt at'=(t,u,0)) (st:Nat) (hst:stR k kh kw h w (cn:Int)=(st:Int)) :
  Calls Tryz.prog 33 #[.agg #[U i6 k,U i6 a,U i6 b,U i6 m,U i6 kh,U i6 kw,U i6 sh,U i6 sw,U i6 tp,U i6 lf,U i6 bt,U i6 rt,Sl wa lw wc,Sl ba lb bc,U i6 sm,U i6 ss,U i6 um,U i6 us,U i6 z,U i6 p,U i6 lo,U i6 hi,U i6 h,U i6 w,U i6 (cn:Int),U i6 H,U i6 V,U i6 C],U i6 ch,U i6 at'] W fun e w'=>(∃ v,e=.returned v∧OTm w' W.heap.size v (tmL k (cn:Int) ch h w kw t u st zs st))∧Below W.heap.size W w':=by
 have hLe:Hid (∀ W',Calls Tryz.prog 12 #[.agg #[U i6 k,U i6 a,U i6 b,U i6 m,U i6 kh,U i6 kw,U i6 sh,U i6 sw,U i6 tp,U i6 lf,U i6 bt,U i6 rt,Sl wa lw wc,Sl ba lb bc,U i6 sm,U i6 ss,U i6 um,U i6 us,U i6 z,U i6 p,U i6 lo,U i6 hi,U i6 h,U i6 w,U i6 (cn:Int),U i6 H,U i6 V,U i6 C]] W' fun e w'=>e=.returned (U i6 st)∧Below W'.heap.size W' w'):=fun W'=>by rw [← hst];exact rlen_any k a b m kh kw sh sw tp lf bt rt wa lw wc ba lb bc sm ss um us z p lo hi h w (cn:Int) H V C W' s
 have hWg:Hid (∀ (w':World) (i:Nat),i<st→Below W.heap.size W w'→Calls Tryz.prog 52 #[.agg #[U i6 k,U i6 a,U i6 b,U i6 m,U i6 kh,U i6 kw,U i6 sh,U i6 sw,U i6 tp,U i6 lf,U i6 bt,U i6 rt,Sl wa lw wc,Sl ba lb bc,U i6 sm,U i6 ss,U i6 um,U i6 us,U i6 z,U i6 p,U i6 lo,U i6 hi,U i6 h,U i6 w,U i6 (cn:Int),U i6 H,U i6 V,U i6 C],U i6 ch,U i6 i] w' fun e w''=>e=.returned (U i6 (wgA k ch st zs i))∧Below w'.heap.size w' w''):=fun w' i hj hb=>by
  have:=rwei_any k a b m kh kw sh sw tp lf bt rt wa lw wc ba lb bc sm ss um us z p lo hi h w (cn:Int) H V C w' zs (hZ.below hb) s ch hch i (by rw [hst];omega)
  rw [hst] at this
  exact this
 have hTp:Hid (∀ W',_):=fun W'=>Nx.rtaps_any h w (cn:Int) kh kw sh sw tp lf bt rt at' t u W' hcc
 have hlen:st≤512:=by have:=s.2.2.2.2.2.2.2.2.2;rw [hst] at this;omega
 obtain⟨hk,hvA,hvB,hou,-,hwn,-,h3c,-⟩:=s
 have hC1:=(vS_yes hvB).2.2.1
 have hcn1:=(vS_yes hvA).2.2.1
 have hd1:=(vS_yes hvA).1
 have hw1:=(vS_yes hvA).2.1
 obtain⟨hk1,hk2⟩:=hwn (by omega)
 have hm:h*w≤16384:=by
  have h4:=(vS_yes hvA).2.2.2
  have p1:=(mul_bd hd1.1 hd1.2 hw1.1 hw1.2).1
  have:=Int.mul_le_mul_of_nonneg_left hcn1.1 (show 0≤h*w by omega)
  omega
 obtain⟨N,hN⟩:∃ N:Nat,kh*kw=(N:Int):=⟨(kh*kw).toNat,by have:=(mul_bd hk1.1 hk1.2 hk2.1 hk2.2).1;omega⟩
 rw [hN,Int.toNat_natCast] at hTp
 have hstN:(k=2→st=N*cn)∧(k≠2→st=N):=by
  unfold stR at hst
  rw [if_neg k1] at hst
  constructor
  ·intro k2
   rw [if_pos k2,hN] at hst
   exact_mod_cast hst.symm
  ·intro k2
   rw [if_neg k2,if_pos (by omega),hN] at hst
   exact_mod_cast hst.symm
 have hN2:N≤1024:=by have:=(mul_bd hk1.1 hk1.2 hk2.1 hk2.2).2;omega
 have HST:Hid ((k=2→st=N*cn)∧(k≠2→st=N)):=hstN
 have hPb:Hid (∀ q:Int,-1≤tpc h w kw t u q∧tpc h w kw t u q≤16384):=fun q=>plc_bd hd1 hw1 hm
 have k1':(k == 1)=false:=by simp [k1]
 clear hst hZ hvA hvB hou hwn h3c hcc hN hm hstN
 have s0:=(St.start W).new (c:=#[U i6 k,U i6 a,U i6 b,U i6 m,U i6 kh,U i6 kw,U i6 sh,U i6 sw,U i6 tp,U i6 lf,U i6 bt,U i6 rt,Sl wa lw wc,Sl ba lb bc,U i6 sm,U i6 ss,U i6 um,U i6 us,U i6 z,U i6 p,U i6 lo,U i6 hi,U i6 h,U i6 w,U i6 (cn:Int),U i6 H,U i6 V,U i6 C]) (t:=46)
 go_enter Tryz.func33,Tryz.ntmps33
 go_wp2_with (refine wpList_load_row rfl 46 (.tmp 3) rfl W.heap.size rfl 46 _ (0,0) _ s0.h1 Tryz.underlying46 rfl (by kernel_rfl) ?_)
 refine (hLe.out _).mono ?_
 rintro e w1 ⟨rfl,hb⟩
 have s1:=s0.call hb
 obtain⟨c1,f1,z1,-⟩:=s1.rules
 clear hb s0
 go_wp2_with fail
 refine (hTp.out _).mono ?_
 rintro e w2 ⟨⟨v,rfl,hOw⟩,hb⟩
 obtain⟨ta,tc,rfl,hrow,-⟩:=hOw.row
 rw [Nx.covL_len] at hrow ⊢
 have hcap:=hrow.2.1
 have hcm:=hrow.2.2.1
 unfold maxLen at hcm
 have Hrow:Hid (Nx.Row w2 ta N tc (Nx.covL h w kw t u N)):=hrow
 have S2:Hid (St W w2 _):=s1.call hb
 clear hb s1 hOw hrow c1 f1 z1
 go_wp2
 go_loopw [7,11] (fun v i wr=>∃ y:Nat,y≤st∧i=U i6 y∧OTm wr w2.heap.size v (tmL k (cn:Int) ch h w kw t u st zs y)∧Below w2.heap.size w2 wr) (fun _ i _=>st-(intOf i).toNat)
 case atStart=>exact⟨0,Nat.zero_le _,rfl,OTm.nil _ _,Below.refl _ _⟩
 case round =>
  obtain⟨y,hy,rfl,hO,hb⟩:=hrel
  have s3:=S2.out.call hb
  obtain⟨va,vc,hve⟩:=hO.slice
  rw [tmL_len] at hve
  subst hve
  have HO:Hid (OTm _ _ _ _):=hO
  have hbz:=hb.size
  have Hb:Hid (Below w2.heap.size w2 wr):=hb
  clear hO
  by_cases hlt:y<st
  ·obtain⟨c1,f1,z1,-⟩:=s3.rules
   by_cases k2:k=2
   ·have hstN:=HST.out.1 k2
    have hcn0:0<cn:=by omega
    obtain⟨Q,hQe⟩:∃ Q,y / cn=Q:=⟨_,rfl⟩
    obtain⟨R,hRe⟩:∃ R,y % cn=R:=⟨_,rfl⟩
    have hQ:Q<N:=by rw [← hQe];exact Nat.div_lt_of_lt_mul (by rw [Nat.mul_comm];omega)
    have hR:R<cn:=by rw [← hRe];exact Nat.mod_lt _ hcn0
    have hq1:Int.tdiv (y:Int) (cn:Int)=(Q:Int):=by rw [← hQe];rfl
    have hq2:Int.tmod (y:Int) (cn:Int)=(R:Int):=by rw [← hRe];rfl
    have HP:Hid (plA k (cn:Int) ch h w kw t u y=cov (cn:Int) (tpc h w kw t u (Q:Int)) (R:Int)):=by unfold Hid plA;rw [if_neg k1,if_pos k2,← hQe,← hRe];rfl
    have hc0:¬ ((cn:Int)=0):=by omega
    have k2':(k == 2)=true:=by simp [k2]
    obtain⟨D,hDe⟩:∃ D:Int,(R:Int)=D:=⟨_,rfl⟩
    have hD:0≤D∧D≤1024:=by omega
    rw [hDe] at hq2 HP
    clear hQe hRe hDe hstN hR HST k2
    go_upto_region 15 with fail
    go_quiet (fail)
    have s4:=s3.call (dbel wr nq)
    have HO4:Hid (OTm _ _ _ _):=HO.out.below (dbel wr nq)
    have Hb4:Hid (Below w2.heap.size w2 _):=Hb.out.trans ((dbel wr nq).mono hbz)
    obtain⟨w4,hw4⟩:∃ w4,wr.drewN nq=w4:=⟨_,rfl⟩
    rw [hw4] at s4 HO4 Hb4 ⊢
    have hbz4:=Hb4.out.size
    clear hw4 c1 f1 z1 hb s3 Hb HO
    obtain⟨P,hPe⟩:∃ P,tpc h w kw t u (Q:Int)=P:=⟨_,rfl⟩
    obtain⟨x,rfl⟩:∃ x,ta=some x:=by
     cases ta with
     | none=>have h1:=Hrow.out.2.2.2.1 rfl;have h2:=Hrow.out.2.1;omega
     | some x=>exact⟨x,rfl⟩
    have hcx0:=Hrow.out.2.2.2.2 x rfl Q hQ
    rw [covL_get _ _ _ _ _ hQ,hPe] at hcx0
    have hxb:x.block<w2.heap.size:=by have:=World.block_lt_of_cell? _ _ hcx0;rwa [add_block] at this
    have hPb1:=hPb.out (Q:Int)
    rw [hPe] at HP hPb1
    obtain⟨WG,hWG⟩:∃ WG,wgA k ch st zs y=WG:=⟨_,rfl⟩
    have hWg1:Hid (∀ (w':World),Below W.heap.size W w'→_):=fun w' hb=>hWg.out w' y hlt hb
    rw [hWG] at hWg1
    have HS:Hid (tmL k (cn:Int) ch h w kw t u st zs (y+1)=tmL k (cn:Int) ch h w kw t u st zs y++[(WG,cov (cn:Int) P D)]):=by unfold Hid;rw [tmL_succ,hWG,HP.out]
    have HLn:Hid ((tmL k (cn:Int) ch h w kw t u st zs y).length+1≤1000000):=by unfold Hid;rw [tmL_len];omega
    clear hPe hWG HP
    have h1:=s4.h1
    go_wp2_with (refine wpList_load_row rfl 46 (.tmp 3) rfl W.heap.size rfl 46 _ (0,0) _ h1 Tryz.underlying46 rfl (by kernel_rfl) ?_)
    refine (hWg1.out _ s4.below).mono ?_
    rintro e w5 ⟨rfl,hb5⟩
    have s5:=(s4.call hb5).new (c:=#[U i6 WG,U i6 (-1)]) (t:=91)
    have HOn:Hid ((Value.slice va y vc).ownBlock≠some w5.heap.size):=fun e=>by have:=(World.ownsRow.lt (HO4.out.below hb5) _ e).2;omega
    have HO5:Hid (OTm _ _ _ _):=(HO4.out.below hb5).below (bal w5 (.cells #[U i6 WG,U i6 (-1)] 91))
    have hz5:w2.heap.size≤w5.heap.size:=Nat.le_trans hbz4 hb5.size
    have B5:Hid (Below w2.heap.size w2 (w5.alloc (.cells #[U i6 WG,U i6 (-1)] 91))):=(Hb4.out.trans (hb5.mono hbz4)).alloc hz5 _
    have hWz:W.heap.size<w2.heap.size:=lt_of_heap S2.out.h1
    obtain⟨w6,hw6⟩:∃ w6,w5.alloc (.cells #[U i6 WG,U i6 (-1)] 91)=w6:=⟨_,rfl⟩
    have hcx:w6.cell? (x.add Q)=some (U i6 P):=by rw [← hw6];exact (B5.out.cell (by rw [add_block];exact hxb)).trans hcx0
    have hz6:Hid (w6.heap.size=w5.heap.size+1):=by unfold Hid;rw [← hw6];simp
    clear hb5 h1 s4 HO4 Hb4 hcx0
    go_upto_region 17 with fail
    rw [hw6] at s5 HO5 B5
    try rw [hw6]
    clear hw6
    have S5:Hid (St W w6 _):=s5
    obtain⟨c1,f1,z1,c2,f2,z2,-⟩:=s5.rules
    clear s5
    by_cases hp:P = -1
    ·subst hp
     have HC:Hid (cov (cn:Int) (-1) D = -1):=if_pos rfl
     rw [HC.out] at HS
     go_wp2_with (at_builtin;refine wpList_apT rfl (.tmp 86) (.tmp 88) rfl w2.heap.size _ _ [(WG,(-1:Int))] rfl (HO5.out.below (bal w6 _)) w6.heap.size 1 1 rfl rfl (term_one w6 _ _) HLn.out (by simp;have:=hz6.out;omega) ?_;intro v7 w7 own7 gr7;have B7:Hid (Below w2.heap.size w2 w7):=(HO5.out.below (bal w6 _)).grow (B5.out.alloc B5.out.size _) gr7 (by simp;have:=hz6.out;omega))
     go_roundw
     case rel=>exact⟨y+1,by omega,by go_num,by rw [HS.out];exact own7,B7.out⟩
     case measure=>simp [intOf];omega
    ·have HC:Hid (cov (cn:Int) P D=P*(cn:Int)+D):=if_neg hp
     rw [HC.out] at HS
     have hp0:0≤P:=by omega
     have m1:0≤P*(cn:Int):=Int.mul_nonneg (by omega) (by omega)
     have m2:P*(cn:Int)≤16384*1024:=Int.mul_le_mul hPb1.2 hcn1.2 (by omega) (by omega)
     obtain⟨PC,hPC⟩:∃ PC,P*(cn:Int)=PC:=⟨_,rfl⟩
     rw [hPC] at m1 m2 HS
     go_upto_region 18 with fail
     have hG:=S5.out.h2
     have hG1:=S5.out.h1
     refine regionC (fun w'=>w'.cell? (x.add Q)=some (U i6 P)∧w'.heap[W.heap.size]? = some (.cells #[U i6 k,U i6 a,U i6 b,U i6 m,U i6 kh,U i6 kw,U i6 sh,U i6 sw,U i6 tp,U i6 lf,U i6 bt,U i6 rt,Sl wa lw wc,Sl ba lb bc,U i6 sm,U i6 ss,U i6 um,U i6 us,U i6 z,U i6 p,U i6 lo,U i6 hi,U i6 h,U i6 w,U i6 (cn:Int),U i6 H,U i6 V,U i6 C] 46 (0,0))) (by kernel_rfl) ?_
     obtain⟨wd,hwd⟩:∃ wd,w6.drew=wd:=⟨_,rfl⟩
     have HCl:Hid (wd.cell? (x.add Q)=some (U i6 P)∧wd.heap[W.heap.size]? = some (.cells #[U i6 k,U i6 a,U i6 b,U i6 m,U i6 kh,U i6 kw,U i6 sh,U i6 sw,U i6 tp,U i6 lf,U i6 bt,U i6 rt,Sl wa lw wc,Sl ba lb bc,U i6 sm,U i6 ss,U i6 um,U i6 us,U i6 z,U i6 p,U i6 lo,U i6 hi,U i6 h,U i6 w,U i6 (cn:Int),U i6 H,U i6 V,U i6 C] 46 (0,0))):=by unfold Hid;rw [← hwd];exact⟨hcx,hG⟩
     have HD:Hid (Below w6.heap.size w6 wd):=by unfold Hid;rw [← hwd];exact (Below.refl _ _).drew
     have hGd:wd.heap[w5.heap.size]? = some (.cells #[U i6 WG,U i6 (-1)] 91 (0,0)):=by rw [← hwd];exact hG1
     rw [hwd]
     clear hwd hG hG1 c1 f1 c2 f2
     refine takeC 0 (v:=.slice (some x) N tc) rfl rfl (by kernel_rfl) (by kernel_rfl) (by kernel_rfl) (fun _ _ _ h=>h) (fun _=>rfl) rfl (fun w' hw'=>by go_simp) ?_
     refine takeC 1 (v:=U i6 (Q:Int)) rfl rfl (by kernel_rfl) (by kernel_rfl) (by kernel_rfl) (fun _ _ _ h=>h) (fun _=>rfl) rfl (fun w' hw'=>by go_simp) ?_
     refine takeC 2 (v:=.pointer (some (x.add Q))) rfl rfl (by kernel_rfl) (by kernel_rfl) (by kernel_rfl) (fun _ _ _ h=>h) (fun _=>rfl) rfl (fun w' hw'=>by go_simp) ?_
     refine takeC 3 (v:=U i6 P) rfl rfl (by kernel_rfl) (by kernel_rfl) (by kernel_rfl) (fun _ _ _ h=>h) (fun _=>rfl) rfl (fun w' hw'=>by have hc:=hw'.1;go_simp) ?_
     refine takeC 4 (v:=.pointer (some ⟨W.heap.size,22,none⟩)) rfl rfl (by kernel_rfl) (by kernel_rfl) (by kernel_rfl) (fun _ _ _ h=>h) (fun _=>rfl) rfl (fun w' hw'=>by go_simp) ?_
     refine takeC 5 (v:=.pointer (some ⟨W.heap.size,24,none⟩)) rfl rfl (by kernel_rfl) (by kernel_rfl) (by kernel_rfl) (fun _ _ _ h=>h) (fun _=>rfl) rfl (fun w' hw'=>by go_simp) ?_
     refine takeC 6 (v:=U i6 (cn:Int)) rfl rfl (by kernel_rfl) (by kernel_rfl) (by kernel_rfl) (fun _ _ _ h=>h) (fun _=>rfl) rfl (fun w' hw'=>by have hc:=(cells_at hw'.2).1 24;go_simp) ?_
     refine takeC 7 (v:=U i6 PC) rfl rfl (by kernel_rfl) (by kernel_rfl) (by kernel_rfl) (fun _ _ _ h=>h) (fun _=>rfl) rfl (fun w' hw'=>by go_simp;try (rw [IntKind.wrap_i64];omega)) ?_
     refine takeC 8 (v:=U i6 D) rfl rfl (by kernel_rfl) (by kernel_rfl) (by kernel_rfl) (fun _ _ _ h=>h) (fun _=>rfl) rfl (fun w' hw'=>by go_simp) ?_
     refine takeC 9 (v:=U i6 (PC+D)) rfl rfl (by kernel_rfl) (by kernel_rfl) (by kernel_rfl) (fun _ _ _ h=>h) (fun _=>rfl) rfl (fun w' hw'=>by go_simp;try (rw [IntKind.wrap_i64];omega)) ?_
     refine takeC 10 (v:=.pointer (some ⟨w5.heap.size,1,none⟩)) rfl rfl (by kernel_rfl) (by kernel_rfl) (by kernel_rfl) (fun _ _ _ h=>h) (fun _=>rfl) rfl (fun w' hw'=>by go_simp) ?_
     have g1:wd.cell? ⟨w5.heap.size,1,none⟩=some (U i6 (-1)):=(cells_at hGd).1 1
     have g2:wd.frozen? ⟨w5.heap.size,1,none⟩=false:=(cells_at hGd).2.1 1
     refine stepC 11 HCl.out (by kernel_rfl) rfl (fun K hK=>step_wp rfl ?_)
     go_simp
     refine hK _ _ ?_
     clear hK K g1 g2
     have hGs:Hid ((wd.setCell ⟨w5.heap.size,1,none⟩ (U i6 (PC+D))).heap[w5.heap.size]? = some (.cells #[U i6 WG,U i6 (PC+D)] 91 (0,0))):=heap_setCell_at hGd
     have hD6:Hid (Below w2.heap.size w2 (wd.setCell ⟨w5.heap.size,1,none⟩ (U i6 (PC+D)))):=(B5.out.trans (HD.out.mono B5.out.size)).setCell (p:=⟨w5.heap.size,1,none⟩) hz5 _
     have HCs:Hid ((wd.setCell ⟨w5.heap.size,1,none⟩ (U i6 (PC+D))).cell? (x.add Q)=some (U i6 P)∧(wd.setCell ⟨w5.heap.size,1,none⟩ (U i6 (PC+D))).heap[W.heap.size]? = some (.cells #[U i6 k,U i6 a,U i6 b,U i6 m,U i6 kh,U i6 kw,U i6 sh,U i6 sw,U i6 tp,U i6 lf,U i6 bt,U i6 rt,Sl wa lw wc,Sl ba lb bc,U i6 sm,U i6 ss,U i6 um,U i6 us,U i6 z,U i6 p,U i6 lo,U i6 hi,U i6 h,U i6 w,U i6 (cn:Int),U i6 H,U i6 V,U i6 C] 46 (0,0))):=by
      refine⟨?_,?_⟩
      ·have hb7:Below w2.heap.size wd (wd.setCell ⟨w5.heap.size,1,none⟩ (U i6 (PC+D))):=(Below.refl _ wd).setCell (p:=⟨w5.heap.size,1,none⟩) hz5 _
       exact (hb7.cell (by rw [add_block];exact hxb)).trans HCl.out.1
      ·rw [Below.heap_setCell _ _ _ _ (show W.heap.size≠w5.heap.size by omega)]
       exact HCl.out.2
     have HO6:Hid (OTm (wd.setCell ⟨w5.heap.size,1,none⟩ (U i6 (PC+D))) w2.heap.size (.slice va y vc) (tmL k (cn:Int) ch h w kw t u st zs y)):=otm_other (HO5.out.below HD.out) HOn.out
     refine doneC HCs.out (by kernel_rfl) ?_ _
     obtain⟨w7,hw7⟩:∃ w7,wd.setCell ⟨w5.heap.size,1,none⟩ (U i6 (PC+D))=w7:=⟨_,rfl⟩
     rw [hw7] at hGs hD6 HO6 ⊢
     have hz7:w5.heap.size<w7.heap.size:=lt_of_heap hGs.out
     obtain⟨c1,f1,z1'⟩:=cells_at hGs.out
     clear hw7 HCs HCl HD hGd hcx
     go_wp2_with (at_builtin;refine wpList_apT rfl (.tmp 86) (.tmp 88) rfl w2.heap.size _ _ [(WG,PC+D)] rfl (HO6.out.below (bal w7 _)) w7.heap.size 1 1 rfl rfl (term_one w7 _ _) HLn.out (by simp;omega) ?_;intro v8 w8 own8 gr8;have B8:Hid (Below w2.heap.size w2 w8):=(HO6.out.below (bal w7 _)).grow (hD6.out.alloc hD6.out.size _) gr8 (by simp;omega))
     go_roundw
     case rel=>exact⟨y+1,by omega,by go_num,by rw [HS.out];exact own8,B8.out⟩
     case measure=>simp [intOf];omega
   ·have hstN:=HST.out.2 k2
    have k2':(k == 2)=false:=by simp [k2]
    have hQ:y<N:=by omega
    obtain⟨D,hDe⟩:∃ D:Int,ch-1=D:=⟨_,rfl⟩
    have hD:0≤D∧D≤1024:=by omega
    have HP:Hid (plA k (cn:Int) ch h w kw t u y=cov (cn:Int) (tpc h w kw t u (y:Int)) D):=by unfold Hid plA;rw [if_neg k1,if_neg k2,hDe]
    clear hstN HST k2
    go_upto_region 16 with fail
    have s4:=s3
    have HO4:Hid (OTm _ _ _ _):=HO.out
    have Hb4:Hid (Below w2.heap.size w2 _):=Hb.out
    have hbz4:=Hb4.out.size
    clear c1 f1 z1 hb s3 Hb HO
    obtain⟨P,hPe⟩:∃ P,tpc h w kw t u (y:Int)=P:=⟨_,rfl⟩
    obtain⟨x,rfl⟩:∃ x,ta=some x:=by
     cases ta with
     | none=>have h1:=Hrow.out.2.2.2.1 rfl;have h2:=Hrow.out.2.1;omega
     | some x=>exact⟨x,rfl⟩
    have hcx0:=Hrow.out.2.2.2.2 x rfl y hQ
    rw [covL_get _ _ _ _ _ hQ,hPe] at hcx0
    have hxb:x.block<w2.heap.size:=by have:=World.block_lt_of_cell? _ _ hcx0;rwa [add_block] at this
    have hPb1:=hPb.out (y:Int)
    rw [hPe] at HP hPb1
    obtain⟨WG,hWG⟩:∃ WG,wgA k ch st zs y=WG:=⟨_,rfl⟩
    have hWg1:Hid (∀ (w':World),Below W.heap.size W w'→_):=fun w' hb=>hWg.out w' y hlt hb
    rw [hWG] at hWg1
    have HS:Hid (tmL k (cn:Int) ch h w kw t u st zs (y+1)=tmL k (cn:Int) ch h w kw t u st zs y++[(WG,cov (cn:Int) P D)]):=by unfold Hid;rw [tmL_succ,hWG,HP.out]
    have HLn:Hid ((tmL k (cn:Int) ch h w kw t u st zs y).length+1≤1000000):=by unfold Hid;rw [tmL_len];omega
    clear hPe hWG HP
    have h1:=s4.h1
    go_wp2_with (refine wpList_load_row rfl 46 (.tmp 3) rfl W.heap.size rfl 46 _ (0,0) _ h1 Tryz.underlying46 rfl (by kernel_rfl) ?_)
    refine (hWg1.out _ s4.below).mono ?_
    rintro e w5 ⟨rfl,hb5⟩
    have s5:=(s4.call hb5).new (c:=#[U i6 WG,U i6 (-1)]) (t:=91)
    have HOn:Hid ((Value.slice va y vc).ownBlock≠some w5.heap.size):=fun e=>by have:=(World.ownsRow.lt (HO4.out.below hb5) _ e).2;omega
    have HO5:Hid (OTm _ _ _ _):=(HO4.out.below hb5).below (bal w5 (.cells #[U i6 WG,U i6 (-1)] 91))
    have hz5:w2.heap.size≤w5.heap.size:=Nat.le_trans hbz4 hb5.size
    have B5:Hid (Below w2.heap.size w2 (w5.alloc (.cells #[U i6 WG,U i6 (-1)] 91))):=(Hb4.out.trans (hb5.mono hbz4)).alloc hz5 _
    have hWz:W.heap.size<w2.heap.size:=lt_of_heap S2.out.h1
    obtain⟨w6,hw6⟩:∃ w6,w5.alloc (.cells #[U i6 WG,U i6 (-1)] 91)=w6:=⟨_,rfl⟩
    have hcx:w6.cell? (x.add y)=some (U i6 P):=by rw [← hw6];exact (B5.out.cell (by rw [add_block];exact hxb)).trans hcx0
    have hz6:Hid (w6.heap.size=w5.heap.size+1):=by unfold Hid;rw [← hw6];simp
    clear hb5 h1 s4 HO4 Hb4 hcx0
    go_upto_region 17 with fail
    rw [hw6] at s5 HO5 B5
    try rw [hw6]
    clear hw6
    have S5:Hid (St W w6 _):=s5
    obtain⟨c1,f1,z1,c2,f2,z2,-⟩:=s5.rules
    clear s5
    by_cases hp:P = -1
    ·subst hp
     have HC:Hid (cov (cn:Int) (-1) D = -1):=if_pos rfl
     rw [HC.out] at HS
     go_wp2_with (at_builtin;refine wpList_apT rfl (.tmp 86) (.tmp 88) rfl w2.heap.size _ _ [(WG,(-1:Int))] rfl (HO5.out.below (bal w6 _)) w6.heap.size 1 1 rfl rfl (term_one w6 _ _) HLn.out (by simp;have:=hz6.out;omega) ?_;intro v7 w7 own7 gr7;have B7:Hid (Below w2.heap.size w2 w7):=(HO5.out.below (bal w6 _)).grow (B5.out.alloc B5.out.size _) gr7 (by simp;have:=hz6.out;omega))
     go_roundw
     case rel=>exact⟨y+1,by omega,by go_num,by rw [HS.out];exact own7,B7.out⟩
     case measure=>simp [intOf];omega
    ·have HC:Hid (cov (cn:Int) P D=P*(cn:Int)+D):=if_neg hp
     rw [HC.out] at HS
     have hp0:0≤P:=by omega
     have m1:0≤P*(cn:Int):=Int.mul_nonneg (by omega) (by omega)
     have m2:P*(cn:Int)≤16384*1024:=Int.mul_le_mul hPb1.2 hcn1.2 (by omega) (by omega)
     obtain⟨PC,hPC⟩:∃ PC,P*(cn:Int)=PC:=⟨_,rfl⟩
     rw [hPC] at m1 m2 HS
     go_upto_region 18 with fail
     have hG:=S5.out.h2
     have hG1:=S5.out.h1
     refine regionC (fun w'=>w'.cell? (x.add y)=some (U i6 P)∧w'.heap[W.heap.size]? = some (.cells #[U i6 k,U i6 a,U i6 b,U i6 m,U i6 kh,U i6 kw,U i6 sh,U i6 sw,U i6 tp,U i6 lf,U i6 bt,U i6 rt,Sl wa lw wc,Sl ba lb bc,U i6 sm,U i6 ss,U i6 um,U i6 us,U i6 z,U i6 p,U i6 lo,U i6 hi,U i6 h,U i6 w,U i6 (cn:Int),U i6 H,U i6 V,U i6 C] 46 (0,0))) (by kernel_rfl) ?_
     obtain⟨wd,hwd⟩:∃ wd,w6.drew=wd:=⟨_,rfl⟩
     have HCl:Hid (wd.cell? (x.add y)=some (U i6 P)∧wd.heap[W.heap.size]? = some (.cells #[U i6 k,U i6 a,U i6 b,U i6 m,U i6 kh,U i6 kw,U i6 sh,U i6 sw,U i6 tp,U i6 lf,U i6 bt,U i6 rt,Sl wa lw wc,Sl ba lb bc,U i6 sm,U i6 ss,U i6 um,U i6 us,U i6 z,U i6 p,U i6 lo,U i6 hi,U i6 h,U i6 w,U i6 (cn:Int),U i6 H,U i6 V,U i6 C] 46 (0,0))):=by unfold Hid;rw [← hwd];exact⟨hcx,hG⟩
     have HD:Hid (Below w6.heap.size w6 wd):=by unfold Hid;rw [← hwd];exact (Below.refl _ _).drew
     have hGd:wd.heap[w5.heap.size]? = some (.cells #[U i6 WG,U i6 (-1)] 91 (0,0)):=by rw [← hwd];exact hG1
     rw [hwd]
     clear hwd hG hG1 c1 f1 c2 f2
     refine takeC 0 (v:=.slice (some x) N tc) rfl rfl (by kernel_rfl) (by kernel_rfl) (by kernel_rfl) (fun _ _ _ h=>h) (fun _=>rfl) rfl (fun w' hw'=>by go_simp) ?_
     refine takeC 1 (v:=U i6 (y:Int)) rfl rfl (by kernel_rfl) (by kernel_rfl) (by kernel_rfl) (fun _ _ _ h=>h) (fun _=>rfl) rfl (fun w' hw'=>by go_simp) ?_
     refine takeC 2 (v:=.pointer (some (x.add y))) rfl rfl (by kernel_rfl) (by kernel_rfl) (by kernel_rfl) (fun _ _ _ h=>h) (fun _=>rfl) rfl (fun w' hw'=>by go_simp) ?_
     refine takeC 3 (v:=U i6 P) rfl rfl (by kernel_rfl) (by kernel_rfl) (by kernel_rfl) (fun _ _ _ h=>h) (fun _=>rfl) rfl (fun w' hw'=>by have hc:=hw'.1;go_simp) ?_
     refine takeC 4 (v:=.pointer (some ⟨W.heap.size,22,none⟩)) rfl rfl (by kernel_rfl) (by kernel_rfl) (by kernel_rfl) (fun _ _ _ h=>h) (fun _=>rfl) rfl (fun w' hw'=>by go_simp) ?_
     refine takeC 5 (v:=.pointer (some ⟨W.heap.size,24,none⟩)) rfl rfl (by kernel_rfl) (by kernel_rfl) (by kernel_rfl) (fun _ _ _ h=>h) (fun _=>rfl) rfl (fun w' hw'=>by go_simp) ?_
     refine takeC 6 (v:=U i6 (cn:Int)) rfl rfl (by kernel_rfl) (by kernel_rfl) (by kernel_rfl) (fun _ _ _ h=>h) (fun _=>rfl) rfl (fun w' hw'=>by have hc:=(cells_at hw'.2).1 24;go_simp) ?_
     refine takeC 7 (v:=U i6 PC) rfl rfl (by kernel_rfl) (by kernel_rfl) (by kernel_rfl) (fun _ _ _ h=>h) (fun _=>rfl) rfl (fun w' hw'=>by go_simp;try (rw [IntKind.wrap_i64];omega)) ?_
     refine takeC 8 (v:=U i6 D) rfl rfl (by kernel_rfl) (by kernel_rfl) (by kernel_rfl) (fun _ _ _ h=>h) (fun _=>rfl) rfl (fun w' hw'=>by go_simp) ?_
     refine takeC 9 (v:=U i6 (PC+D)) rfl rfl (by kernel_rfl) (by kernel_rfl) (by kernel_rfl) (fun _ _ _ h=>h) (fun _=>rfl) rfl (fun w' hw'=>by go_simp;try (rw [IntKind.wrap_i64];omega)) ?_
     refine takeC 10 (v:=.pointer (some ⟨w5.heap.size,1,none⟩)) rfl rfl (by kernel_rfl) (by kernel_rfl) (by kernel_rfl) (fun _ _ _ h=>h) (fun _=>rfl) rfl (fun w' hw'=>by go_simp) ?_
     have g1:wd.cell? ⟨w5.heap.size,1,none⟩=some (U i6 (-1)):=(cells_at hGd).1 1
     have g2:wd.frozen? ⟨w5.heap.size,1,none⟩=false:=(cells_at hGd).2.1 1
     refine stepC 11 HCl.out (by kernel_rfl) rfl (fun K hK=>step_wp rfl ?_)
     go_simp
     refine hK _ _ ?_
     clear hK K g1 g2
     have hGs:Hid ((wd.setCell ⟨w5.heap.size,1,none⟩ (U i6 (PC+D))).heap[w5.heap.size]? = some (.cells #[U i6 WG,U i6 (PC+D)] 91 (0,0))):=heap_setCell_at hGd
     have hD6:Hid (Below w2.heap.size w2 (wd.setCell ⟨w5.heap.size,1,none⟩ (U i6 (PC+D)))):=(B5.out.trans (HD.out.mono B5.out.size)).setCell (p:=⟨w5.heap.size,1,none⟩) hz5 _
     have HCs:Hid ((wd.setCell ⟨w5.heap.size,1,none⟩ (U i6 (PC+D))).cell? (x.add y)=some (U i6 P)∧(wd.setCell ⟨w5.heap.size,1,none⟩ (U i6 (PC+D))).heap[W.heap.size]? = some (.cells #[U i6 k,U i6 a,U i6 b,U i6 m,U i6 kh,U i6 kw,U i6 sh,U i6 sw,U i6 tp,U i6 lf,U i6 bt,U i6 rt,Sl wa lw wc,Sl ba lb bc,U i6 sm,U i6 ss,U i6 um,U i6 us,U i6 z,U i6 p,U i6 lo,U i6 hi,U i6 h,U i6 w,U i6 (cn:Int),U i6 H,U i6 V,U i6 C] 46 (0,0))):=by
      refine⟨?_,?_⟩
      ·have hb7:Below w2.heap.size wd (wd.setCell ⟨w5.heap.size,1,none⟩ (U i6 (PC+D))):=(Below.refl _ wd).setCell (p:=⟨w5.heap.size,1,none⟩) hz5 _
       exact (hb7.cell (by rw [add_block];exact hxb)).trans HCl.out.1
      ·rw [Below.heap_setCell _ _ _ _ (show W.heap.size≠w5.heap.size by omega)]
       exact HCl.out.2
     have HO6:Hid (OTm (wd.setCell ⟨w5.heap.size,1,none⟩ (U i6 (PC+D))) w2.heap.size (.slice va y vc) (tmL k (cn:Int) ch h w kw t u st zs y)):=otm_other (HO5.out.below HD.out) HOn.out
     refine doneC HCs.out (by kernel_rfl) ?_ _
     obtain⟨w7,hw7⟩:∃ w7,wd.setCell ⟨w5.heap.size,1,none⟩ (U i6 (PC+D))=w7:=⟨_,rfl⟩
     rw [hw7] at hGs hD6 HO6 ⊢
     have hz7:w5.heap.size<w7.heap.size:=lt_of_heap hGs.out
     obtain⟨c1,f1,z1'⟩:=cells_at hGs.out
     clear hw7 HCs HCl HD hGd hcx
     go_wp2_with (at_builtin;refine wpList_apT rfl (.tmp 86) (.tmp 88) rfl w2.heap.size _ _ [(WG,PC+D)] rfl (HO6.out.below (bal w7 _)) w7.heap.size 1 1 rfl rfl (term_one w7 _ _) HLn.out (by simp;omega) ?_;intro v8 w8 own8 gr8;have B8:Hid (Below w2.heap.size w2 w8):=(HO6.out.below (bal w7 _)).grow (hD6.out.alloc hD6.out.size _) gr8 (by simp;omega))
     go_roundw
     case rel=>exact⟨y+1,by omega,by go_num,by rw [HS.out];exact own8,B8.out⟩
     case measure=>simp [intOf];omega
  ·obtain rfl:y=st:=by omega
   have hS1:=S2.out.below
   go_wp2
   go_ret
   exact⟨⟨_,rfl,HO.out.base hS1.size⟩,hS1.trans (hb.mono hS1.size)⟩
theorem rterms_any (k a b m kh kw sh sw tp lf bt rt:Int) (wa:Option Addr) (lw wc:Nat) (ba:Option Addr) (lb bc:Nat) (sm ss um us z p lo hi h w c H V C:Int) (W:World) (zs:List Int) (hZ:IRow .i16 W wa lw wc zs) (s:Sit k kh kw sh sw tp lf bt rt h w c H V C lw lb) (ch at':Int) (hch:1≤ch∧ch≤C) (hat:0≤at'∧at'<H*V) :
  Calls Tryz.prog 33 #[.agg #[U i6 k,U i6 a,U i6 b,U i6 m,U i6 kh,U i6 kw,U i6 sh,U i6 sw,U i6 tp,U i6 lf,U i6 bt,U i6 rt,Sl wa lw wc,Sl ba lb bc,U i6 sm,U i6 ss,U i6 um,U i6 us,U i6 z,U i6 p,U i6 lo,U i6 hi,U i6 h,U i6 w,U i6 c,U i6 H,U i6 V,U i6 C],U i6 ch,U i6 at'] W fun e w'=>(∃ v,e=.returned v∧OTm w' W.heap.size v (siL k kh kw sh sw tp lf bt rt h w c ch at' zs))∧Below W.heap.size W w':=by
 obtain⟨st,hst⟩:∃ st:Nat,stR k kh kw h w c=(st:Int):=⟨(stR k kh kw h w c).toNat,by have:=s.2.2.2.2.2.2.2.2.1;omega⟩
 unfold siL
 rw [hst,Int.toNat_natCast]
 by_cases k1:k=1
 ·subst k1
  exact rterms_1 a b m kh kw sh sw tp lf bt rt wa lw wc ba lb bc sm ss um us z p lo hi h w c H V C W zs hZ s ch at' _ _ hch st hst
 ·obtain⟨cn,rfl⟩:∃ cn:Nat,c=(cn:Int):=⟨c.toNat,by have:=(vS_yes s.2.1).2.2.1;omega⟩
  have hou:=s.2.2.2.1 (by have:=s.1;omega)
  have hcc:(coR h w (cn:Int) kh kw sh sw tp lf bt rt at').2.2=0:=by
   unfold coR
   rw [hou]
   simp only
   rw [if_pos trivial,if_pos hat]
  exact rterms_w k a b m kh kw sh sw tp lf bt rt wa lw wc ba lb bc sm ss um us z p lo hi h w cn H V C W zs hZ s k1 ch at' _ _ hch (by rw [← hcc]) st hst
theorem rvalue_any (k a b m kh kw sh sw tp lf bt rt:Int) (wa:Option Addr) (lw wc:Nat) (ba:Option Addr) (lb bc:Nat) (sm ss um us z p lo hi h w c H V C:Int) (A1 A2:Int) (W:World) (ad:Option Addr) (n cap:Nat) (xs:List Int) (hX:IRow .i8 W ad n cap xs) (hp:I8 p) (h1:-32768≤A1∧A1≤32767) (h2:A2 = -1∨(0≤A2∧A2<(n:Int))) :
  Calls Tryz.prog 34 #[.agg #[U i6 k,U i6 a,U i6 b,U i6 m,U i6 kh,U i6 kw,U i6 sh,U i6 sw,U i6 tp,U i6 lf,U i6 bt,U i6 rt,Sl wa lw wc,Sl ba lb bc,U i6 sm,U i6 ss,U i6 um,U i6 us,U i6 z,U i6 p,U i6 lo,U i6 hi,U i6 h,U i6 w,U i6 c,U i6 H,U i6 V,U i6 C],.agg #[U i6 A1,U i6 A2],Sl ad n cap] W fun e w'=>e=.returned (U i6 (smT p xs (A1,A2)))∧Below W.heap.size W w':=by
 have s0:=((St.start W).new (c:=#[U i6 k,U i6 a,U i6 b,U i6 m,U i6 kh,U i6 kw,U i6 sh,U i6 sw,U i6 tp,U i6 lf,U i6 bt,U i6 rt,Sl wa lw wc,Sl ba lb bc,U i6 sm,U i6 ss,U i6 um,U i6 us,U i6 z,U i6 p,U i6 lo,U i6 hi,U i6 h,U i6 w,U i6 c,U i6 H,U i6 V,U i6 C]) (t:=46)).new (c:=#[U i6 A1,U i6 A2]) (t:=91)
 simp only [World.size_alloc] at s0
 obtain⟨c1,f1,z1,c2,f2,z2,-⟩:=s0.rules
 have S0:Hid (St W _ _):=s0
 have hb:=smT_bd (t:=(A1,A2)) hp hX.i8 h1
 by_cases neg:A2<0
 ·have e:Hid (A1*p=smT p xs (A1,A2)):=by unfold Hid smT;rw [if_pos neg]
  rw [← e.out] at hb ⊢
  obtain⟨pp,hpp⟩:∃ pp,A1*p=pp:=⟨_,rfl⟩
  rw [hpp] at hb ⊢
  clear hX h2 e s0
  go_enter Tryz.func34,Tryz.ntmps34
  go_wp2
  go_ret
  exact⟨rfl,S0.out.below⟩
 ·obtain⟨j,rfl⟩:∃ j:Nat,A2=(j:Int):=⟨A2.toNat,by omega⟩
  have hj:j<n:=by omega
  obtain⟨x,u,rfl,hu,hw8,hz,-⟩:=(hX.below S0.out.below).at hj
  obtain⟨u1,u2⟩:=wf_i8 hw8
  have e:Hid (A1*u=smT p xs (A1,(j:Int))):=by unfold Hid smT;simp only;rw [if_neg (by omega),Int.toNat_natCast,List.getD_eq_getElem?_getD,hz];rfl
  rw [← e.out] at hb ⊢
  obtain⟨pp,hpp⟩:∃ pp,A1*u=pp:=⟨_,rfl⟩
  rw [hpp] at hb ⊢
  have hwp:IntKind.i64.wrap pp=pp:=w64 (by omega)
  clear hX h2 e s0 hz hw8
  go_enter Tryz.func34,Tryz.ntmps34
  go_wp2
  go_quiet (fail)
  go_wp2
  go_ret
  exact⟨rfl,btr S0.out.below (dbel _ _)⟩
theorem rsum_any (k a b m kh kw sh sw tp lf bt rt:Int) (wa:Option Addr) (lw wc:Nat) (ba:Option Addr) (lb bc:Nat) (sm ss um us z p lo hi h w c H V C:Int) (W:World) (s:Sit k kh kw sh sw tp lf bt rt h w c H V C lw lb) (zs bs:List Int) (hZ:IRow .i16 W wa lw wc zs) (hB:IRow .i32 W ba lb bc bs) (ad:Option Addr) (n cap:Nat) (xs:List Int) (hX:IRow .i8 W ad n cap xs) (hn:(n:Int)=h*w*c) (hp:I8 p) (ch at':Int) (hch:1≤ch∧ch≤C) (hat:0≤at'∧at'<H*V) :
  Calls Tryz.prog 28 #[.agg #[U i6 k,U i6 a,U i6 b,U i6 m,U i6 kh,U i6 kw,U i6 sh,U i6 sw,U i6 tp,U i6 lf,U i6 bt,U i6 rt,Sl wa lw wc,Sl ba lb bc,U i6 sm,U i6 ss,U i6 um,U i6 us,U i6 z,U i6 p,U i6 lo,U i6 hi,U i6 h,U i6 w,U i6 c,U i6 H,U i6 V,U i6 C],U i6 ch,U i6 at',Sl ad n cap] W fun e w'=>e=.returned (U i6 (suA k kh kw sh sw tp lf bt rt h w c p zs bs xs ch at'))∧Below W.heap.size W w':=by
 have HBi:Hid (∀ (w':World),Below W.heap.size W w'→_):=fun w' hb=>rbias_any k a b m kh kw sh sw tp lf bt rt wa lw wc ba lb bc sm ss um us z p lo hi h w c H V C w' bs (hB.below hb) s ch hch
 have HTe:Hid (∀ (w':World),Below W.heap.size W w'→_):=fun w' hb=>rterms_any k a b m kh kw sh sw tp lf bt rt wa lw wc ba lb bc sm ss um us z p lo hi h w c H V C w' zs (hZ.below hb) s ch at' hch hat
 obtain⟨hl,ht⟩:=siL_facts s hZ.2.2.2.1 hch at'
 have hb0:=biA_bd (k:=k) (ch:=ch) hB.2.2.2.1
 have HVa:Hid (∀ (w':World),Below W.heap.size W w'→∀ A1 A2,(-32768≤A1∧A1≤32767)→(A2 = -1∨(0≤A2∧A2<(n:Int)))→_):=fun w' hb A1 A2 h1 h2=>rvalue_any k a b m kh kw sh sw tp lf bt rt wa lw wc ba lb bc sm ss um us z p lo hi h w c H V C A1 A2 w' ad n cap xs (hX.below hb) hp h1 h2
 unfold suA
 obtain⟨TL,hTL⟩:∃ TL,siL k kh kw sh sw tp lf bt rt h w c ch at' zs=TL:=⟨_,rfl⟩
 obtain⟨bi,hbi⟩:∃ bi,biA k ch bs=bi:=⟨_,rfl⟩
 rw [hTL] at HTe hl ht ⊢
 rw [hbi] at HBi hb0 ⊢
 rw [← hn] at ht
 have HT:Hid (∀ t∈TL,(-32768≤t.1∧t.1≤32767)∧(t.2 = -1∨(0≤t.2∧t.2<(n:Int)))):=ht
 have HX8:Hid (∀ v∈xs,I8 v):=hX.i8
 have HP8:Hid (I8 p):=hp
 have HLn:Hid (TL.length≤512):=hl
 have s0:=(St.start W).new (c:=#[U i6 k,U i6 a,U i6 b,U i6 m,U i6 kh,U i6 kw,U i6 sh,U i6 sw,U i6 tp,U i6 lf,U i6 bt,U i6 rt,Sl wa lw wc,Sl ba lb bc,U i6 sm,U i6 ss,U i6 um,U i6 us,U i6 z,U i6 p,U i6 lo,U i6 hi,U i6 h,U i6 w,U i6 c,U i6 H,U i6 V,U i6 C]) (t:=46)
 have S0:Hid (St W _ _):=s0
 clear hZ hB hX s ht hl hTL hbi hp s0
 go_enter Tryz.func28,Tryz.ntmps28
 go_wp2_with (refine wpList_load_row rfl 46 (.tmp 4) rfl W.heap.size rfl 46 _ (0,0) _ S0.out.h1 Tryz.underlying46 rfl (by kernel_rfl) ?_)
 refine Calls.mono (HBi.out _ S0.out.below) ?_
 rintro e w1 ⟨rfl,hb1⟩
 have S1:Hid (St W w1 _):=S0.out.call hb1
 clear hb1 S0 HBi
 go_wp2_with (refine wpList_load_row rfl 46 (.tmp 4) rfl W.heap.size rfl 46 _ (0,0) _ S1.out.h1 Tryz.underlying46 rfl (by kernel_rfl) ?_)
 refine Calls.mono (HTe.out _ S1.out.below) ?_
 rintro e w2 ⟨⟨v,rfl,hO⟩,hb2⟩
 have S2:Hid (St W w2 _):=S1.out.call hb2
 obtain⟨va,vc,hve,v1,v2,v3⟩:=hO.tv
 subst hve
 unfold maxLen at v2
 obtain⟨N,hN⟩:∃ N,TL.length=N:=⟨_,rfl⟩
 rw [hN] at v1 v3 HLn ⊢
 have HNl:Hid (TL.length=N):=hN
 have HV:Hid (0<N→_):=v3
 clear hb2 hO S1 HTe v3 hN
 go_wp2
 go_loopw [9,20] (fun sm' i wr=>∃ y:Nat,y≤N∧i=U i6 y∧sm'=U i6 (bi+smV p xs (TL.take y))∧Below w2.heap.size w2 wr) (fun _ i _=>N-(intOf i).toNat)
 case atStart=>exact⟨0,Nat.zero_le _,rfl,by simp [smV],Below.refl _ _⟩
 case round =>
  obtain⟨y,hy,rfl,rfl,hb⟩:=hrel
  have SR:Hid (St W wr _):=S2.out.call hb
  by_cases hlt:y<N
  ·obtain⟨g,rfl,hc⟩:=HV.out (by omega)
   obtain⟨q1,q2⟩:=TV.at hc (show y<TL.length by rw [HNl.out];exact hlt)
   obtain⟨A1,A2,hA⟩:∃ A1 A2,TL.getD y (0,0)=(A1,A2):=⟨_,_,rfl⟩
   rw [hA] at q1 q2
   simp only at q1 q2
   have hmem:(A1,A2)∈TL:=by
    rw [← hA,List.getD_eq_getElem?_getD,List.getElem?_eq_getElem (by rw [HNl.out];exact hlt)]
    exact List.getElem_mem _
   obtain⟨hw1,hat2⟩:=HT.out _ hmem
   have hS:=smV_take (p:=p) (x:=xs) (show y<TL.length by rw [HNl.out];exact hlt) hA
   have b1:=smV_bd HP8.out HX8.out (TL.take y) (take_mem (fun t ht=>(HT.out t ht).1) y)
   have b2:=smT_bd HP8.out HX8.out (t:=(A1,A2)) hw1
   have hty:(TL.take y).length≤512:=by rw [List.length_take];have:=HLn.out;omega
   have p1:=(hb.cell (World.block_lt_of_cell? w2 _ q1)).trans q1
   have p2':=(hb.cell (World.block_lt_of_cell? w2 _ q2)).trans q2
   have HC:Hid (∀ (w':World),Below W.heap.size W w'→_):=fun w' hb=>HVa.out w' hb A1 A2 hw1 hat2
   obtain⟨sv,hsv⟩:∃ sv,smV p xs (TL.take y)=sv:=⟨_,rfl⟩
   obtain⟨tv,htv⟩:∃ tv,smT p xs (A1,A2)=tv:=⟨_,rfl⟩
   rw [hsv] at b1 hS ⊢
   rw [htv] at b2 hS HC
   have b1':-2147483648≤sv∧sv≤2147483648:=by omega
   have HS:Hid (smV p xs (TL.take (y+1))=sv+tv):=hS
   have hbox:=heap_alloc_old wr (.cells #[U i6 A1,U i6 A2] 91) (lt_of_heap SR.out.h1)
   rw [SR.out.h1] at hbox
   have Hbox:Hid ((wr.alloc (.cells #[U i6 A1,U i6 A2] 91)).heap[W.heap.size]? = some (.cells #[U i6 k,U i6 a,U i6 b,U i6 m,U i6 kh,U i6 kw,U i6 sh,U i6 sw,U i6 tp,U i6 lf,U i6 bt,U i6 rt,Sl wa lw wc,Sl ba lb bc,U i6 sm,U i6 ss,U i6 um,U i6 us,U i6 z,U i6 p,U i6 lo,U i6 hi,U i6 h,U i6 w,U i6 c,U i6 H,U i6 V,U i6 C] 46 (0,0))):=hbox
   clear hS b1 q1 q2 hsv hmem hc hA HV htv hbox hw1 hat2
   go_wp2_with (refine wpList_load_row rfl 46 (.tmp 4) rfl W.heap.size rfl 46 _ (0,0) _ Hbox.out Tryz.underlying46 rfl (by kernel_rfl) ?_)
   refine Calls.mono (HC.out _ (btr SR.out.below (bal _ _))) ?_
   rintro e w5 ⟨rfl,hb5⟩
   have Hb5:Hid (Below w2.heap.size w2 w5):=btr hb (btr (bal _ _) hb5)
   clear hb5 hb p1 p2' SR Hbox HC
   go_wp2
   go_roundw
   case rel=>exact⟨y+1,by omega,by go_num,by rw [HS.out,Int.add_assoc],Hb5.out⟩
   case measure=>simp [intOf];omega
  ·obtain rfl:y=N:=by omega
   have e:Hid (bi+smV p xs (TL.take y)=bi+smV p xs TL):=by unfold Hid;rw [← HNl.out,List.take_length]
   clear HV
   go_wp2
   go_ret
   exact⟨ret1 e.out,SR.out.below⟩
theorem max2b (x y M:Int) (h:xmx x y=M):∀ (W:World) (ts:Array TypeId) (t:TypeId),(Builtin.max_ ts t #[U i6 x,U i6 y]).run Tryz.prog W=.ok (U i6 M) W:=by
 intro W ts t
 subst h
 simp [Builtin.max_,Builtin.max2,xmx]
 repeat' split
 all_goals first | rfl | omega
theorem ends_in {slo shi k:Int} (hs:slo≤shi):xti slo shi k=(xmn (k*slo) (k*shi),xmx (k*slo) (k*shi)):=by
 unfold xti
 rw [Int.mul_comm k slo,Int.mul_comm k shi]
 by_cases g:k<0
 ·rw [if_pos g]
  have:=Int.mul_le_mul_of_nonpos_right hs (show k≤0 by omega)
  unfold xmn xmx
  refine Prod.ext ?_ ?_<;>simp only<;>split<;>omega
 ·rw [if_neg g]
  have:=Int.mul_le_mul_of_nonneg_right hs (show 0≤k by omega)
  unfold xmn xmx
  refine Prod.ext ?_ ?_<;>simp only<;>split<;>omega
theorem rends_any (k a b m kh kw sh sw tp lf bt rt:Int) (wa:Option Addr) (lw wc:Nat) (ba:Option Addr) (lb bc:Nat) (sm ss um us z p lo hi h w c H V C:Int) (W:World) (t:Int×Int) (slo shi:Int) (hs:-128≤slo∧slo≤shi∧shi≤127) (hp:-128≤p∧p≤127) (ht:-32768≤t.1∧t.1≤32767) :
  Calls Tryz.prog 48 #[.agg #[U i6 k,U i6 a,U i6 b,U i6 m,U i6 kh,U i6 kw,U i6 sh,U i6 sw,U i6 tp,U i6 lf,U i6 bt,U i6 rt,Sl wa lw wc,Sl ba lb bc,U i6 sm,U i6 ss,U i6 um,U i6 us,U i6 z,U i6 p,U i6 lo,U i6 hi,U i6 h,U i6 w,U i6 c,U i6 H,U i6 V,U i6 C],.agg #[U i6 t.1,U i6 t.2],.agg #[U i6 slo,U i6 shi]] W fun e w'=>e=.returned (.agg #[U i6 (tmE slo shi p t).1,U i6 (tmE slo shi p t).2])∧Below W.heap.size W w':=by
 obtain⟨t1,t2⟩:=t
 simp only at ht
 have b1:=prod_bd (a:=slo) (by omega) ht
 have b2:=prod_bd (a:=shi) (by omega) ht
 have b3:=prod_bd hp ht
 rw [Int.mul_comm] at b1 b2 b3
 have HX:Hid (xti slo shi t1=(xmn (t1*slo) (t1*shi),xmx (t1*slo) (t1*shi))):=ends_in hs.2.1
 obtain⟨A,hA⟩:∃ A,t1*slo=A:=⟨_,rfl⟩
 obtain⟨Bb,hBb⟩:∃ B,t1*shi=B:=⟨_,rfl⟩
 obtain⟨Cc,hCc⟩:∃ C,t1*p=C:=⟨_,rfl⟩
 rw [hA] at b1
 rw [hBb] at b2
 rw [hCc] at b3
 rw [hA,hBb] at HX
 have w1:IntKind.i64.wrap A=A:=by rw [IntKind.wrap_i64];omega
 have w2:IntKind.i64.wrap Bb=Bb:=by rw [IntKind.wrap_i64];omega
 have w3:IntKind.i64.wrap Cc=Cc:=by rw [IntKind.wrap_i64];omega
 have s0:=((((St.start W).new (c:=#[U i6 k,U i6 a,U i6 b,U i6 m,U i6 kh,U i6 kw,U i6 sh,U i6 sw,U i6 tp,U i6 lf,U i6 bt,U i6 rt,Sl wa lw wc,Sl ba lb bc,U i6 sm,U i6 ss,U i6 um,U i6 us,U i6 z,U i6 p,U i6 lo,U i6 hi,U i6 h,U i6 w,U i6 c,U i6 H,U i6 V,U i6 C]) (t:=46)).new (c:=#[U i6 t1,U i6 t2]) (t:=91)).new (c:=#[U i6 slo,U i6 shi]) (t:=28)).new (c:=#[U i6 0,U i6 0]) (t:=28)
 simp only [World.size_alloc] at s0
 by_cases neg:t2<0
 ·have HE:Hid (tmE slo shi p (t1,t2)=(Cc,Cc)):=by unfold Hid tmE;rw [if_pos neg];simp only;rw [Int.mul_comm p t1,hCc]
  rw [HE.out]
  have m1:=min2 Cc Cc Cc (by unfold xmn;simp)
  have m2:=max2b Cc Cc Cc (by unfold xmx;simp)
  clear HX HE hs hp ht
  go_enter Tryz.func48,Tryz.ntmps48
  go_upto_region 1 with fail
  obtain⟨w0,hw0⟩:∃ w0,(((W.alloc (.cells #[U i6 k,U i6 a,U i6 b,U i6 m,U i6 kh,U i6 kw,U i6 sh,U i6 sw,U i6 tp,U i6 lf,U i6 bt,U i6 rt,Sl wa lw wc,Sl ba lb bc,U i6 sm,U i6 ss,U i6 um,U i6 us,U i6 z,U i6 p,U i6 lo,U i6 hi,U i6 h,U i6 w,U i6 c,U i6 H,U i6 V,U i6 C] 46)).alloc (.cells #[U i6 t1,U i6 t2] 91)).alloc (.cells #[U i6 slo,U i6 shi] 28)).alloc (.cells #[U i6 0,U i6 0] 28)=w0:=⟨_,rfl⟩
  rw [hw0] at s0 ⊢
  obtain⟨c1,f1,z1,c2,f2,z2,c3,f3,z3,c4,f4,z4,-⟩:=s0.rules
  clear hw0
  go_quiet (fail)
  have S1:Hid (∀ k,Below W.heap.size W _):=fun k=>(s0.call (dbel w0 k)).out2 (i:=0) (j:=1) (u:=U i6 Cc) (v:=U i6 Cc)
  clear s0
  go_wp2
  exact bodyPost_ret (v:=.agg #[U i6 Cc,U i6 Cc]) (by simp [results,Tryz.results48,go_sem,c1]) rfl ⟨rfl,S1.out _⟩
 ·have HE:Hid (tmE slo shi p (t1,t2)=(xmn A Bb,xmx A Bb)):=by unfold Hid tmE;rw [if_neg neg];exact HX.out
  rw [HE.out]
  obtain⟨M1,hM1⟩:∃ M,xmn A Bb=M:=⟨_,rfl⟩
  obtain⟨M2,hM2⟩:∃ M,xmx A Bb=M:=⟨_,rfl⟩
  have m1:=min2 A Bb M1 hM1
  have m2:=max2b A Bb M2 hM2
  rw [hM1,hM2]
  clear HX HE hs hp ht hM1 hM2
  go_enter Tryz.func48,Tryz.ntmps48
  go_upto_region 1 with fail
  obtain⟨w0,hw0⟩:∃ w0,(((W.alloc (.cells #[U i6 k,U i6 a,U i6 b,U i6 m,U i6 kh,U i6 kw,U i6 sh,U i6 sw,U i6 tp,U i6 lf,U i6 bt,U i6 rt,Sl wa lw wc,Sl ba lb bc,U i6 sm,U i6 ss,U i6 um,U i6 us,U i6 z,U i6 p,U i6 lo,U i6 hi,U i6 h,U i6 w,U i6 c,U i6 H,U i6 V,U i6 C] 46)).alloc (.cells #[U i6 t1,U i6 t2] 91)).alloc (.cells #[U i6 slo,U i6 shi] 28)).alloc (.cells #[U i6 0,U i6 0] 28)=w0:=⟨_,rfl⟩
  rw [hw0] at s0 ⊢
  obtain⟨c1,f1,z1,c2,f2,z2,c3,f3,z3,c4,f4,z4,-⟩:=s0.rules
  clear hw0
  go_quiet (fail)
  have S1:Hid (∀ k,Below W.heap.size W _):=fun k=>(s0.call (dbel w0 k)).out2 (i:=0) (j:=1) (u:=U i6 M1) (v:=U i6 M2)
  clear s0
  go_wp2
  exact bodyPost_ret (v:=.agg #[U i6 M1,U i6 M2]) (by simp [results,Tryz.results48,go_sem,c1]) rfl ⟨rfl,S1.out _⟩
theorem rplus_any (a b:Int×Int) (W:World) (ha:Vd 10000000000 a) (hb:Vd 10000000000 b):Calls Tryz.prog 24 #[.agg #[U i6 a.1,U i6 a.2],.agg #[U i6 b.1,U i6 b.2]] W fun e w'=>e=.returned (.agg #[U i6 (plS a b).1,U i6 (plS a b).2])∧Below W.heap.size W w':=by
 obtain⟨a1,a2⟩:=a
 obtain⟨b1,b2⟩:=b
 obtain⟨⟨h1,h2⟩,⟨h3,h4⟩,h5⟩:=ha.sm (by omega)
 obtain⟨⟨g1,g2⟩,⟨g3,g4⟩,g5⟩:=hb.sm (by omega)
 simp only at h1 h2 h3 h4 g1 g2 g3 g4
 clear ha hb h5 g5
 simp only [plS]
 have s0:=((St.start W).new (c:=#[U i6 a1,U i6 a2]) (t:=28)).new (c:=#[U i6 b1,U i6 b2]) (t:=28) |>.new (c:=#[U i6 (a1+b1),U i6 (a2+b2)]) (t:=28)
 go_enter Tryz.func24,Tryz.ntmps24
 go_wp2
 exact bodyPost_ret (v:=.agg #[U i6 (a1+b1),U i6 (a2+b2)]) (by simp [results,Tryz.results24,go_sem]) rfl ⟨rfl,s0.below⟩
theorem rbeg_any (k a b m kh kw sh sw tp lf bt rt:Int) (wa:Option Addr) (lw wc:Nat) (ba:Option Addr) (lb bc:Nat) (sm ss um us z p lo hi h w c H V C:Int) (W:World) (bi ch:Int) (hB:∀ W',Below W.heap.size W W'→Calls Tryz.prog 49 #[.agg #[U i6 k,U i6 a,U i6 b,U i6 m,U i6 kh,U i6 kw,U i6 sh,U i6 sw,U i6 tp,U i6 lf,U i6 bt,U i6 rt,Sl wa lw wc,Sl ba lb bc,U i6 sm,U i6 ss,U i6 um,U i6 us,U i6 z,U i6 p,U i6 lo,U i6 hi,U i6 h,U i6 w,U i6 c,U i6 H,U i6 V,U i6 C],U i6 ch] W' fun e w'=>e=.returned (U i6 bi)∧Below W'.heap.size W' w') :
  Calls Tryz.prog 23 #[.agg #[U i6 k,U i6 a,U i6 b,U i6 m,U i6 kh,U i6 kw,U i6 sh,U i6 sw,U i6 tp,U i6 lf,U i6 bt,U i6 rt,Sl wa lw wc,Sl ba lb bc,U i6 sm,U i6 ss,U i6 um,U i6 us,U i6 z,U i6 p,U i6 lo,U i6 hi,U i6 h,U i6 w,U i6 c,U i6 H,U i6 V,U i6 C],U i6 ch] W fun e w'=>e=.returned (.agg #[U i6 bi,U i6 bi])∧Below W.heap.size W w':=by
 have HB:Hid (∀ W',Below W.heap.size W W'→_):=hB
 have s0:=((St.start W).new (c:=#[U i6 k,U i6 a,U i6 b,U i6 m,U i6 kh,U i6 kw,U i6 sh,U i6 sw,U i6 tp,U i6 lf,U i6 bt,U i6 rt,Sl wa lw wc,Sl ba lb bc,U i6 sm,U i6 ss,U i6 um,U i6 us,U i6 z,U i6 p,U i6 lo,U i6 hi,U i6 h,U i6 w,U i6 c,U i6 H,U i6 V,U i6 C]) (t:=46)).new (c:=#[U i6 0,U i6 0]) (t:=28)
 simp only [World.size_alloc] at s0
 clear hB
 go_enter Tryz.func23,Tryz.ntmps23
 go_upto_region 1 with fail
 obtain⟨w0,hw0⟩:∃ w0,(W.alloc (.cells #[U i6 k,U i6 a,U i6 b,U i6 m,U i6 kh,U i6 kw,U i6 sh,U i6 sw,U i6 tp,U i6 lf,U i6 bt,U i6 rt,Sl wa lw wc,Sl ba lb bc,U i6 sm,U i6 ss,U i6 um,U i6 us,U i6 z,U i6 p,U i6 lo,U i6 hi,U i6 h,U i6 w,U i6 c,U i6 H,U i6 V,U i6 C] 46)).alloc (.cells #[U i6 0,U i6 0] 28)=w0:=⟨_,rfl⟩
 rw [hw0] at s0 ⊢
 clear hw0
 refine regionC (fun w'=>St W w' [(W.heap.size,#[U i6 k,U i6 a,U i6 b,U i6 m,U i6 kh,U i6 kw,U i6 sh,U i6 sw,U i6 tp,U i6 lf,U i6 bt,U i6 rt,Sl wa lw wc,Sl ba lb bc,U i6 sm,U i6 ss,U i6 um,U i6 us,U i6 z,U i6 p,U i6 lo,U i6 hi,U i6 h,U i6 w,U i6 c,U i6 H,U i6 V,U i6 C],46)]) (by kernel_rfl) ?_
 have s1:=s0.drew
 obtain⟨w1,hw1⟩:∃ w1,w0.drew=w1:=⟨_,rfl⟩
 rw [hw1] at s1 ⊢
 clear hw1 s0
 have HLD:Hid (∀ w',St W w' [(W.heap.size,#[U i6 k,U i6 a,U i6 b,U i6 m,U i6 kh,U i6 kw,U i6 sh,U i6 sw,U i6 tp,U i6 lf,U i6 bt,U i6 rt,Sl wa lw wc,Sl ba lb bc,U i6 sm,U i6 ss,U i6 um,U i6 us,U i6 z,U i6 p,U i6 lo,U i6 hi,U i6 h,U i6 w,U i6 c,U i6 H,U i6 V,U i6 C],46)]→∀ (q:Nat) (v:Value),(#[U i6 k,U i6 a,U i6 b,U i6 m,U i6 kh,U i6 kw,U i6 sh,U i6 sw,U i6 tp,U i6 lf,U i6 bt,U i6 rt,Sl wa lw wc,Sl ba lb bc,U i6 sm,U i6 ss,U i6 um,U i6 us,U i6 z,U i6 p,U i6 lo,U i6 hi,U i6 h,U i6 w,U i6 c,U i6 H,U i6 V,U i6 C]).toList[q]? = some v→w'.cell? ((⟨W.heap.size,0,none⟩:Addr).add q)=some v):=fun w' hw' q v hq=>by rw [Addr.add_lit,Nat.zero_add,(cells_at hw'.h1).1];simpa using hq
 refine takeC 0 (v:=.agg #[U i6 k,U i6 a,U i6 b,U i6 m,U i6 kh,U i6 kw,U i6 sh,U i6 sw,U i6 tp,U i6 lf,U i6 bt,U i6 rt,Sl wa lw wc,Sl ba lb bc,U i6 sm,U i6 ss,U i6 um,U i6 us,U i6 z,U i6 p,U i6 lo,U i6 hi,U i6 h,U i6 w,U i6 c,U i6 H,U i6 V,U i6 C]) rfl rfl (by kernel_rfl) (by kernel_rfl) (by kernel_rfl) (fun _ _ _ h=>h) (fun _=>rfl) rfl (fun w' hw'=>run_la 46 (.tmp 2) rfl ⟨W.heap.size,0,none⟩ (by kernel_rfl) (#[U i6 k,U i6 a,U i6 b,U i6 m,U i6 kh,U i6 kw,U i6 sh,U i6 sw,U i6 tp,U i6 lf,U i6 bt,U i6 rt,Sl wa lw wc,Sl ba lb bc,U i6 sm,U i6 ss,U i6 um,U i6 us,U i6 z,U i6 p,U i6 lo,U i6 hi,U i6 h,U i6 w,U i6 c,U i6 H,U i6 V,U i6 C]).toList _ (HLD.out w' hw') Tryz.underlying46 rfl (by kernel_rfl)) ?_
 refine takeC 1 (v:=U i6 ch) rfl rfl (by kernel_rfl) (by kernel_rfl) (by kernel_rfl) (fun _ _ _ h=>h) (fun _=>rfl) rfl (fun w' hw'=>by go_simp) ?_
 refine takeC 3 (v:=.agg #[U i6 k,U i6 a,U i6 b,U i6 m,U i6 kh,U i6 kw,U i6 sh,U i6 sw,U i6 tp,U i6 lf,U i6 bt,U i6 rt,Sl wa lw wc,Sl ba lb bc,U i6 sm,U i6 ss,U i6 um,U i6 us,U i6 z,U i6 p,U i6 lo,U i6 hi,U i6 h,U i6 w,U i6 c,U i6 H,U i6 V,U i6 C]) rfl rfl (by kernel_rfl) (by kernel_rfl) (by kernel_rfl) (fun _ _ _ h=>h) (fun _=>rfl) rfl (fun w' hw'=>run_la 46 (.tmp 2) rfl ⟨W.heap.size,0,none⟩ (by kernel_rfl) (#[U i6 k,U i6 a,U i6 b,U i6 m,U i6 kh,U i6 kw,U i6 sh,U i6 sw,U i6 tp,U i6 lf,U i6 bt,U i6 rt,Sl wa lw wc,Sl ba lb bc,U i6 sm,U i6 ss,U i6 um,U i6 us,U i6 z,U i6 p,U i6 lo,U i6 hi,U i6 h,U i6 w,U i6 c,U i6 H,U i6 V,U i6 C]).toList _ (HLD.out w' hw') Tryz.underlying46 rfl (by kernel_rfl)) ?_
 refine takeC 4 (v:=U i6 ch) rfl rfl (by kernel_rfl) (by kernel_rfl) (by kernel_rfl) (fun _ _ _ h=>h) (fun _=>rfl) rfl (fun w' hw'=>by go_simp) ?_
 refine yK 2 s1.tail (by kernel_rfl) rfl rfl 49 #[.agg #[U i6 k,U i6 a,U i6 b,U i6 m,U i6 kh,U i6 kw,U i6 sh,U i6 sw,U i6 tp,U i6 lf,U i6 bt,U i6 rt,Sl wa lw wc,Sl ba lb bc,U i6 sm,U i6 ss,U i6 um,U i6 us,U i6 z,U i6 p,U i6 lo,U i6 hi,U i6 h,U i6 w,U i6 c,U i6 H,U i6 V,U i6 C],U i6 ch] (by kernel_rfl) (HB.out w1 s1.below) ?_
 rintro e w2 ⟨rfl,hb⟩
 refine⟨_,rfl,?_⟩
 have s2:=s1.call hb
 refine yK 5 s2.tail (by kernel_rfl) rfl rfl 49 #[.agg #[U i6 k,U i6 a,U i6 b,U i6 m,U i6 kh,U i6 kw,U i6 sh,U i6 sw,U i6 tp,U i6 lf,U i6 bt,U i6 rt,Sl wa lw wc,Sl ba lb bc,U i6 sm,U i6 ss,U i6 um,U i6 us,U i6 z,U i6 p,U i6 lo,U i6 hi,U i6 h,U i6 w,U i6 c,U i6 H,U i6 V,U i6 C],U i6 ch] (by kernel_rfl) (HB.out w2 s2.below) ?_
 rintro e w3 ⟨rfl,hb3⟩
 refine⟨_,rfl,?_⟩
 have s3:=s2.call hb3
 refine takeC 6 (v:=.agg #[U i6 bi,U i6 bi]) rfl rfl (by kernel_rfl) (by kernel_rfl) (by kernel_rfl) (fun _ _ _ h=>h) (fun _=>rfl) rfl (fun w' hw'=>by go_simp) ?_
 refine yS 7 s3.tail (by kernel_rfl) rfl rfl 28 (.tmp 4) (.tmp 11) rfl (W.heap.size+1) #[U i6 bi,U i6 bi] (by kernel_rfl) (by kernel_rfl) 28 #[U i6 0,U i6 0] s3.h1 (by kernel_rfl) rfl (by simp [Value.oneCell']) ?_
 have s4:=s3.rowset (c':=#[U i6 bi,U i6 bi]) (by simp)
 obtain⟨w4,hw4⟩:∃ w4,w3.setRow (W.heap.size+1) #[U i6 bi,U i6 bi]=w4:=⟨_,rfl⟩
 rw [hw4] at s4 ⊢
 refine doneC s4.tail (by kernel_rfl) ?_ _
 obtain⟨c1,-⟩:=s4.rules
 have HS:Hid (Below W.heap.size W w4):=s4.below
 clear s1 s2 s3 s4 hw4 hb hb3 HLD
 go_wp2
 exact bodyPost_ret (v:=.agg #[U i6 bi,U i6 bi]) (by simp [results,Tryz.results23,go_sem,c1]) (by kernel_rfl) ⟨rfl,HS.out⟩
theorem gb_first {W w1:World} {B i:Nat} {v:Value} (h:Below W.heap.size W w1):W.grownBy (w1.setCell ⟨B,i,none⟩ v) (some B) :=
 ⟨h.os,h.tape,h.output,by simp;exact h.size,fun k hk hne=>(Below.heap_setCell _ _ _ _ (fun e=>hne (by rw [e]))).trans (h.block k hk)⟩
theorem gb_set {W w1:World} {B i:Nat} {v:Value} (h:W.grownBy w1 (some B)):W.grownBy (w1.setCell ⟨B,i,none⟩ v) (some B) :=
 ⟨h.os,h.tape,h.output,by simp;exact h.size,fun k hk hne=>(Below.heap_setCell _ _ _ _ (fun e=>hne (by rw [e]))).trans (h.block k hk hne)⟩
def huV (L:List (Int×Int)):Array Value:=#[U i6 (huA L).1,U i6 (huA L).2,.bool (!L.isEmpty)]
theorem huV_0:huV []=#[U i6 0,U i6 0,.bool false]:=rfl
theorem huV_first (x:Int×Int):huV [x]=#[U i6 x.1,U i6 x.2,.bool true]:=rfl
theorem huV_more {L:List (Int×Int)} (h:L≠[]) (x:Int×Int):huV (L++[x])=#[U i6 (xmn (huA L).1 x.1),U i6 (xmx (huA L).2 x.2),.bool true]:=by
 unfold huV
 rw [huA_snoc h]
 simp [hul]
theorem rtake_any (B:Nat) (L:List (Int×Int)) (x:Int×Int) (W:World) (hB:W.heap[B]? = some (.cells (huV L) 73 (0,0))) :
  Calls Tryz.prog 25 #[.pointer (some ⟨B,0,none⟩),.agg #[U i6 x.1,U i6 x.2]] W fun e w'=>(∃ v,e=.returned v)∧W.grownBy w' (some B)∧w'.heap[B]? = some (.cells (huV (L++[x])) 73 (0,0)):=by
 obtain⟨x1,x2⟩:=x
 have hz:=lt_of_heap hB
 by_cases hL:L=[]
 ·subst hL
  rw [huV_0] at hB
  rw [List.nil_append,huV_first]
  have hb:=bal W (.cells #[U i6 x1,U i6 x2] 28)
  have h1:=(hb.block B hz).trans hB
  obtain⟨y1,y2,y3⟩:=cells_at hB
  go_enter Tryz.func25,Tryz.ntmps25
  go_upto_region 2 with fail
  have h2:=heap_alloc_new W (.cells #[U i6 x1,U i6 x2] 28)
  obtain⟨w1,hw1⟩:∃ w1,W.alloc (.cells #[U i6 x1,U i6 x2] 28)=w1:=⟨_,rfl⟩
  rw [hw1] at hb h1 h2 ⊢
  clear hw1 y1 y2 y3 hB
  obtain⟨y1,y2,y3⟩:=cells_at h1
  obtain⟨x1',-,-⟩:=cells_at h2
  have HW:Hid ((((w1.setCell ⟨B,0,none⟩ (U i6 x1)).setCell ⟨B,1,none⟩ (U i6 x2)).setCell ⟨B,2,none⟩ (.bool true)).heap[B]? = some (.cells #[U i6 x1,U i6 x2,.bool true] 73 (0,0))):=heap_setCell_at (heap_setCell_at (heap_setCell_at h1))
  have HG:Hid (W.grownBy (((w1.setCell ⟨B,0,none⟩ (U i6 x1)).setCell ⟨B,1,none⟩ (U i6 x2)).setCell ⟨B,2,none⟩ (.bool true)) (some B)):=gb_set (gb_set (gb_first hb))
  clear hb h1 h2
  go_wp2
  refine bodyPost_ret (results_none rfl _ _ _) rfl ?_
  exact⟨⟨_,rfl⟩,HG.out,HW.out⟩
 ·rw [huV_more hL]
  have e0:huV L=#[U i6 (huA L).1,U i6 (huA L).2,.bool true]:=by unfold huV;cases L with
   | nil=>exact absurd rfl hL
   | cons a l=>rfl
  rw [e0] at hB
  obtain⟨m1,m2,hm⟩:∃ m1 m2,huA L=(m1,m2):=⟨_,_,rfl⟩
  rw [hm] at hB ⊢
  simp only at hB ⊢
  clear e0 hm hL
  obtain⟨n1,hn1⟩:∃ n1,xmn m1 x1=n1:=⟨_,rfl⟩
  obtain⟨n2,hn2⟩:∃ n2,xmx m2 x2=n2:=⟨_,rfl⟩
  have q1:=min2 m1 x1 n1 hn1
  have q2:=max2b m2 x2 n2 hn2
  rw [hn1,hn2]
  clear hn1 hn2
  have hb:=bal W (.cells #[U i6 x1,U i6 x2] 28)
  have h1:=(hb.block B hz).trans hB
  have h2:=heap_alloc_new W (.cells #[U i6 x1,U i6 x2] 28)
  have hzB:B<W.heap.size:=hz
  go_enter Tryz.func25,Tryz.ntmps25
  obtain⟨y1,y2,y3⟩:=cells_at hB
  go_upto_region 4 with fail
  obtain⟨w1,hw1⟩:∃ w1,W.alloc (.cells #[U i6 x1,U i6 x2] 28)=w1:=⟨_,rfl⟩
  rw [hw1] at hb h1 h2 ⊢
  clear hw1 y1 y2 y3 hB
  have hfn:∀ f,Fence.wide.fn f:=fun _=>trivial
  have hdp:Fence.wide.depth=none:=rfl
  have hne:Nonempty (Wn w1):=⟨Wn.mk w1 (Below.refl _ _)⟩
  have e1:=Wn.rule h1
  have e2:=Wn.rule h2
  refine (wpIn_wide (n:=3)).1 ?_
  refine region_tail_at 12 (C:=fun w'=>∃ n:Wn w1,w'=n.w) rfl rfl (by kernel_rfl) (by kernel_rfl) ⟨Wn.mk _ (Below.refl _ _).drew,rfl⟩ ?_
  simp only [List.take_succ_cons,List.take_zero,List.drop_succ_cons,List.drop_zero]
  repeat (gi_big_quiet_step (fail))
  refine wpQuietIn_nil ?_
  rintro _ ⟨nn,rfl⟩
  have g1:=(nn.h.block B (lt_of_heap h1)).trans h1
  have g2:=(nn.h.block W.heap.size (lt_of_heap h2)).trans h2
  have hbn:=hb.trans (nn.h.mono hb.size)
  obtain⟨wn,hwn⟩:∃ wn,nn.w=wn:=⟨_,rfl⟩
  rw [hwn] at g1 g2 hbn ⊢
  clear e1 e2 hne h1 h2 hb hwn
  obtain⟨y1,y2,y3⟩:=cells_at g1
  have k1:=heap_setCell_at (i:=0) (v:=U i6 n1) g1
  have k2:(wn.setCell ⟨B,0,none⟩ (U i6 n1)).heap[W.heap.size]? = some (.cells #[U i6 x1,U i6 x2] 28 (0,0)):=(Below.heap_setCell _ _ _ _ (by show W.heap.size≠B;omega)).trans g2
  have HG1:Hid (W.grownBy (wn.setCell ⟨B,0,none⟩ (U i6 n1)) (some B)):=gb_first hbn
  gi_wp2
  obtain⟨w2,hw2⟩:∃ w2,wn.setCell ⟨B,0,none⟩ (U i6 n1)=w2:=⟨_,rfl⟩
  rw [hw2] at k1 k2 HG1 ⊢
  clear hw2 y1 y2 y3 g1 g2 hbn
  have hne:Nonempty (Wn w2):=⟨Wn.mk w2 (Below.refl _ _)⟩
  have e1:=Wn.rule k1
  have e2:=Wn.rule k2
  simp only [List.setIfInBounds_toArray,List.set_cons_zero] at e1 k1
  refine (wpIn_wide (n:=3)).1 ?_
  refine region_tail_at 12 (C:=fun w'=>∃ n:Wn w2,w'=n.w) rfl rfl (by kernel_rfl) (by kernel_rfl) ⟨Wn.mk _ (Below.refl _ _).drew,rfl⟩ ?_
  simp only [List.take_succ_cons,List.take_zero,List.drop_succ_cons,List.drop_zero]
  repeat (gi_big_quiet_step (fail))
  refine wpQuietIn_nil ?_
  rintro _ ⟨nn,rfl⟩
  have g1:=(nn.h.block B (lt_of_heap k1)).trans k1
  have HG2:Hid (W.grownBy (nn.w.setCell ⟨B,1,none⟩ (U i6 n2)) (some B)):=gb_set ⟨nn.h.os.trans HG1.out.os,nn.h.tape.trans HG1.out.tape,nn.h.output.trans HG1.out.output,Nat.le_trans HG1.out.size nn.h.size,fun k hk hne=>(nn.h.block k (Nat.lt_of_lt_of_le hk HG1.out.size)).trans (HG1.out.block k hk hne)⟩
  obtain⟨wn2,hwn2⟩:∃ wn,nn.w=wn:=⟨_,rfl⟩
  rw [hwn2] at g1 HG2 ⊢
  clear e1 e2 hne k1 k2 HG1 hwn2
  obtain⟨y1,y2,y3⟩:=cells_at g1
  have HW:Hid ((wn2.setCell ⟨B,1,none⟩ (U i6 n2)).heap[B]? = some (.cells #[U i6 n1,U i6 n2,.bool true] 73 (0,0))):=heap_setCell_at g1
  clear g1
  gi_wp2
  go_end0
  exact⟨⟨_,rfl⟩,HG2.out,HW.out⟩
end Go.Proofs.YtgjcjhnnopandaaGreat
