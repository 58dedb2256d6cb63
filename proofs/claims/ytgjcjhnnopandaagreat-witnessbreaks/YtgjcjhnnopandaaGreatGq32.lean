/- What the document's Rows of layer 13 returns. What the document's Total of layer 13 returns. What the document's Run of layer 13 returns. What the document's Part and Product of layer 13 return. What the document's Find of layer 10 returns: the op that is asked, with its shapes; the error. -/
import Derived.Test.YtgjcjhnnopandaaGreatGq22
import Derived.Test.YtgjcjhnnopandaaGreatGq31
namespace Go.Proofs.YtgjcjhnnopandaaGreat
open Go.Value renaming int → U, slice → Sl
open Go.IntKind renaming i64 → i6
set_option maxRecDepth 100000
set_option maxHeartbeats 16000000
open Go.ChangeShapes Go.WideShapes Go.ChangeAt Go.RowKit
set_option linter.unusedVariables false
def RwO (w:World) (base:Nat) (v:Value) (R:Nat→List (Int×Int)) (N:Nat):Prop :=
 ∃ us:List Value,us.length=N∧w.ownsRow base 76 1 v N us∧∀ j,j<N→OSp w base (us.getD j undef) (R j)
theorem RwO.nil (w:World) (base:Nat) (R:Nat→List (Int×Int)):RwO w base (.slice none 0 0) R 0:=⟨[],rfl,World.ownsRow_nil _ _ _ _,fun j hj=>by cases hj⟩
theorem RwO.below {w w':World} {base:Nat} {v:Value} {R:Nat→List (Int×Int)} {N:Nat} (h:RwO w base v R N) (g:Below w.heap.size w w'):RwO w' base v R N:=by
 obtain⟨us,h1,h2,h3⟩:=h
 refine⟨us,h1,World.ownsRow.kept h2 (row:=none) ⟨g.os,g.tape,g.output,g.size,fun i hi _=>g.block i hi⟩ ?_,fun j hj=>(h3 j hj).below g⟩
 cases e:v.ownBlock with
 | none=>exact .inl rfl
 | some b=>exact .inr (by simp)
theorem RwO.slice {w:World} {base:Nat} {v:Value} {R:Nat→List (Int×Int)} {N:Nat} (h:RwO w base v R N):∃ a cap,v=.slice a N cap:=by
 obtain⟨us,h1,h2,-⟩:=h
 rcases h2.2 with ⟨rfl,rfl⟩ | ⟨g,cap,_,rfl,_⟩
 ·exact⟨none,0,rfl⟩
 ·exact⟨_,cap,rfl⟩
theorem RwO.base {w:World} {b c:Nat} {v:Value} {R:Nat→List (Int×Int)} {N:Nat} (h:RwO w b v R N) (k:c≤b):RwO w c v R N:=by
 obtain⟨us,h1,h2,h3⟩:=h
 refine⟨us,h1,⟨h2.1,?_⟩,fun j hj=>(h3 j hj).base k⟩
 rcases h2.2 with h | ⟨g,cap,cur,h1,h2,h3⟩
 ·exact .inl h
 ·exact .inr ⟨g,cap,cur,h1,Nat.le_trans k h2,h3⟩
theorem OSp.apart {w w':World} {base b:Nat} {v u:Value} {n:Nat} {xs:List Value} {L:List (Int×Int)} (h:OSp w b u L) (hr:w.ownsRow base 76 1 v n xs) (g:w.grownBy w' v.ownBlock):OSp w' b u L:=by
 refine World.ownsRow.kept h g ?_
 rcases h.2 with ⟨rfl,_⟩ | ⟨q,cap,cur,rfl,_,hq,_⟩
 ·exact .inl rfl
 ·refine .inr fun e=>?_
  rcases hr.2 with ⟨rfl,_⟩ | ⟨r,cap',cur',rfl,_,hr',_⟩
  ·simp [Value.ownBlock] at e
  ·simp [Value.ownBlock] at e
   subst e
   rw [hr'] at hq
   simp at hq
theorem Tryz.infoR:(Tryz.prog.info? 76).map (fun i=>(i.zero,i.size,i.bytes))=some (some (.slice none 0 0),1,24):=by kernel_rfl
theorem wpList_apR {w:World} {ops:Array Oper} {rest:List Oper} {o:Oper} {a:Act} {Q:Exit→Act→World→Prop} (hgd:o.guard=none) (s x:Operand)
  (ho:o.op=.call { callee:=.builtin .append,args:=#[s,x],argTypes:=#[74,74] })
  (base:Nat) (v u:Value) (R:Nat→List (Int×Int)) (k:Nat) (hs:a.eval s=v) (hr:RwO w base v R k) (g:Nat) (hx:a.eval x=.slice (some ⟨g,0,none⟩) 1 1) (hg:w.cell? ⟨g,0,none⟩=some u) (hu:OSp w base u (R k)) (hk:k≤100000000) (hbase:base≤w.heap.size)
  (h:∀ v' w',RwO w' base v' R (k+1)→w.grownBy w' v.ownBlock→(∀ b,v.ownBlock=some b→base≤b)→wpList Tryz.prog ops Q rest (a.put o.dst v') w'):wpList Tryz.prog ops Q (o :: rest) a w:=by
 obtain⟨i0,hi,hz0,hz1,hz2⟩:=info_parts Tryz.infoR
 obtain⟨us,h1,h2,h3⟩:=hr
 obtain⟨ua,uc,hue⟩:=hu.slice
 obtain⟨v',w',r1,r2,r3,-,r5⟩:=run_append_own_at (P:=Tryz.prog) w base 74 o.type 76 i0 (.slice none 0 0) 1 24 Tryz.underlying74 hi hz0 hz1 hz2 rfl (by decide) v k us h2 ⟨g,0,none⟩ 1 1 [u] rfl (fun j y hj=>by
  match j,hj with
  | 0,hj=>simp [Addr.add] at hj ⊢;rw [← hj];exact hg
  | j+1,hj=>simp at hj) (by simp [hue,Value.oneCell']) (by unfold maxLen;omega) (by omega) hbase
 refine wpList_plain hgd fun K hK=>?_
 unfold Oper.wp
 simp [execOp,ho,resolve,invoke,builtin,hs,hx,r1,Result.andThen]
 refine hK _ _ (h v' w' ⟨us++[u],by simp [h1],r2,fun j hj=>?_⟩ r3 (fun b e=>(World.ownsRow.lt h2 b e).1))
 by_cases q:j<k
 ·have e:(us++[u]).getD j undef=us.getD j undef:=by
   simp only [List.getD_eq_getElem?_getD]
   rw [List.getElem?_append_left (by omega)]
  rw [e]
  exact (h3 j q).apart h2 r3
 ·obtain rfl:j=k:=by omega
  have e:(us++[u]).getD j undef=u:=by
   simp only [List.getD_eq_getElem?_getD]
   rw [List.getElem?_append_right (by omega),h1]
   simp
  rw [e]
  exact hu.apart h2 r3
theorem rrows_any (k a b m kh kw sh sw tp lf bt rt:Int) (wa:Option Addr) (lw wc:Nat) (ba:Option Addr) (lb bc:Nat) (sm ss um us z p lo hi h w c H V C:Int) (W:World) (ch slo shi:Int) (R:Nat→List (Int×Int)) (T:Nat→List (Int×Int)) (N:Nat) (hN:N≤10000000) (hR:∀ j,R j=enL slo shi p (T j)) (hT:∀ j,(T j).length≤512∧∀ t∈T j,-32768≤t.1∧t.1≤32767) (hs:-128≤slo∧slo≤shi∧shi≤127) (hp:-128≤p∧p≤127)
  (hPo:∀ W',Calls Tryz.prog 26 #[.agg #[U i6 k,U i6 a,U i6 b,U i6 m,U i6 kh,U i6 kw,U i6 sh,U i6 sw,U i6 tp,U i6 lf,U i6 bt,U i6 rt,Sl wa lw wc,Sl ba lb bc,U i6 sm,U i6 ss,U i6 um,U i6 us,U i6 z,U i6 p,U i6 lo,U i6 hi,U i6 h,U i6 w,U i6 c,U i6 H,U i6 V,U i6 C]] W' fun e w'=>e=.returned (U i6 (N:Int))∧Below W'.heap.size W' w')
  (hTe:∀ W' (j:Nat),Below W.heap.size W W'→j<N→Calls Tryz.prog 33 #[.agg #[U i6 k,U i6 a,U i6 b,U i6 m,U i6 kh,U i6 kw,U i6 sh,U i6 sw,U i6 tp,U i6 lf,U i6 bt,U i6 rt,Sl wa lw wc,Sl ba lb bc,U i6 sm,U i6 ss,U i6 um,U i6 us,U i6 z,U i6 p,U i6 lo,U i6 hi,U i6 h,U i6 w,U i6 c,U i6 H,U i6 V,U i6 C],U i6 ch,U i6 (j:Int)] W' fun e w'=>(∃ v,e=.returned v∧OTm w' W'.heap.size v (T j))∧Below W'.heap.size W' w') :
  Calls Tryz.prog 22 #[.agg #[U i6 k,U i6 a,U i6 b,U i6 m,U i6 kh,U i6 kw,U i6 sh,U i6 sw,U i6 tp,U i6 lf,U i6 bt,U i6 rt,Sl wa lw wc,Sl ba lb bc,U i6 sm,U i6 ss,U i6 um,U i6 us,U i6 z,U i6 p,U i6 lo,U i6 hi,U i6 h,U i6 w,U i6 c,U i6 H,U i6 V,U i6 C],U i6 ch,.agg #[U i6 slo,U i6 shi]] W fun e w'=>(∃ v,e=.returned v∧RwO w' W.heap.size v R N)∧Below W.heap.size W w':=by
 have HP:Hid (∀ W',_):=hPo
 have HT:Hid (∀ W' (j:Nat),Below W.heap.size W W'→j<N→_):=hTe
 have HR:Hid (∀ j,R j=enL slo shi p (T j)):=hR
 have HL:Hid (∀ j,(T j).length≤512∧∀ t∈T j,-32768≤t.1∧t.1≤32767):=hT
 have HE:Hid (∀ (W':World) (t:Int×Int),(-32768≤t.1∧t.1≤32767)→_):=fun W' t ht=>rends_any k a b m kh kw sh sw tp lf bt rt wa lw wc ba lb bc sm ss um us z p lo hi h w c H V C W' t slo shi hs hp ht
 have s0:=((St.start W).new (c:=#[U i6 k,U i6 a,U i6 b,U i6 m,U i6 kh,U i6 kw,U i6 sh,U i6 sw,U i6 tp,U i6 lf,U i6 bt,U i6 rt,Sl wa lw wc,Sl ba lb bc,U i6 sm,U i6 ss,U i6 um,U i6 us,U i6 z,U i6 p,U i6 lo,U i6 hi,U i6 h,U i6 w,U i6 c,U i6 H,U i6 V,U i6 C]) (t:=46)).new (c:=#[U i6 slo,U i6 shi]) (t:=28)
 simp only [World.size_alloc] at s0
 have S0:Hid (St W _ [(W.heap.size+1,#[U i6 slo,U i6 shi],28),(W.heap.size,#[U i6 k,U i6 a,U i6 b,U i6 m,U i6 kh,U i6 kw,U i6 sh,U i6 sw,U i6 tp,U i6 lf,U i6 bt,U i6 rt,Sl wa lw wc,Sl ba lb bc,U i6 sm,U i6 ss,U i6 um,U i6 us,U i6 z,U i6 p,U i6 lo,U i6 hi,U i6 h,U i6 w,U i6 c,U i6 H,U i6 V,U i6 C],46)]):=s0
 clear hPo hTe hR hT hs hp s0
 go_enter Tryz.func22,Tryz.ntmps22
 go_wp2
 obtain⟨w0,hw0⟩:∃ w0,(W.alloc (.cells #[U i6 k,U i6 a,U i6 b,U i6 m,U i6 kh,U i6 kw,U i6 sh,U i6 sw,U i6 tp,U i6 lf,U i6 bt,U i6 rt,Sl wa lw wc,Sl ba lb bc,U i6 sm,U i6 ss,U i6 um,U i6 us,U i6 z,U i6 p,U i6 lo,U i6 hi,U i6 h,U i6 w,U i6 c,U i6 H,U i6 V,U i6 C] 46)).alloc (.cells #[U i6 slo,U i6 shi] 28)=w0:=⟨_,rfl⟩
 rw [hw0] at S0 ⊢
 clear hw0
 go_loopw [7,8] (fun rv i wr=>∃ k':Nat,k'≤N∧i=U i6 k'∧∃ v0,v0=rv∧RwO wr (W.heap.size+1+1) v0 R k'∧St W wr [(W.heap.size+1,#[U i6 slo,U i6 shi],28),(W.heap.size,#[U i6 k,U i6 a,U i6 b,U i6 m,U i6 kh,U i6 kw,U i6 sh,U i6 sw,U i6 tp,U i6 lf,U i6 bt,U i6 rt,Sl wa lw wc,Sl ba lb bc,U i6 sm,U i6 ss,U i6 um,U i6 us,U i6 z,U i6 p,U i6 lo,U i6 hi,U i6 h,U i6 w,U i6 c,U i6 H,U i6 V,U i6 C],46)]) (fun _ i _=>N-(intOf i).toNat)
 case atStart=>exact⟨0,Nat.zero_le _,rfl,_,rfl,RwO.nil _ _ _,S0.out⟩
 case round =>
  obtain⟨y,hy,rfl,v0,rfl,hrw,s⟩:=hrel
  clear S0
  have RO:Hid (RwO wr (W.heap.size+1+1) v0 R y):=hrw
  have S:Hid (St W wr [(W.heap.size+1,#[U i6 slo,U i6 shi],28),(W.heap.size,#[U i6 k,U i6 a,U i6 b,U i6 m,U i6 kh,U i6 kw,U i6 sh,U i6 sw,U i6 tp,U i6 lf,U i6 bt,U i6 rt,Sl wa lw wc,Sl ba lb bc,U i6 sm,U i6 ss,U i6 um,U i6 us,U i6 z,U i6 p,U i6 lo,U i6 hi,U i6 h,U i6 w,U i6 c,U i6 H,U i6 V,U i6 C],46)]):=s
  have hz:=s.size
  clear hrw s
  go_upto_region 3 with fail
  go_wp2_with (refine wpList_load_row rfl 46 (.tmp 3) rfl W.heap.size rfl 46 _ (0,0) _ S.out.h2 Tryz.underlying46 rfl (by kernel_rfl) ?_)
  refine Calls.mono (HP.out _) ?_
  rintro e w1 ⟨rfl,hb1⟩
  have S1:Hid (St W w1 [(W.heap.size+1,#[U i6 slo,U i6 shi],28),(W.heap.size,#[U i6 k,U i6 a,U i6 b,U i6 m,U i6 kh,U i6 kw,U i6 sh,U i6 sw,U i6 tp,U i6 lf,U i6 bt,U i6 rt,Sl wa lw wc,Sl ba lb bc,U i6 sm,U i6 ss,U i6 um,U i6 us,U i6 z,U i6 p,U i6 lo,U i6 hi,U i6 h,U i6 w,U i6 c,U i6 H,U i6 V,U i6 C],46)]):=S.out.call hb1
  have RO1:Hid (RwO w1 (W.heap.size+1+1) v0 R y):=RO.out.below hb1
  clear S RO hb1
  by_cases hlt:y<N
  ·have HTy:Hid (∀ W',Below W.heap.size W W'→_):=fun W' hb=>HT.out W' y hb hlt
   obtain⟨hTl,hTw⟩:=HL.out y
   obtain⟨TL,hTL⟩:∃ TL,T y=TL:=⟨_,rfl⟩
   have HRy:Hid (R y=enL slo shi p TL):=by unfold Hid;rw [HR.out,hTL]
   rw [hTL] at HTy hTl hTw
   have HTw:Hid (∀ t∈TL,-32768≤t.1∧t.1≤32767):=hTw
   obtain⟨M,hM⟩:∃ M,TL.length=M:=⟨_,rfl⟩
   have HM:Hid (TL.length=M):=hM
   have HEL:Hid ((enL slo shi p TL).length=M):=by unfold Hid;rw [enL_len,hM]
   rw [hM] at hTl
   clear hTL hTw hM
   go_upto_region 6 with fail
   go_wp2_with (refine wpList_load_row rfl 46 (.tmp 3) rfl W.heap.size rfl 46 _ (0,0) _ S1.out.h2 Tryz.underlying46 rfl (by kernel_rfl) ?_)
   refine Calls.mono (HTy.out _ S1.out.below) ?_
   rintro e wt ⟨⟨tv,rfl,hot⟩,hbt⟩
   have ST':Hid (St W wt [(W.heap.size+1,#[U i6 slo,U i6 shi],28),(W.heap.size,#[U i6 k,U i6 a,U i6 b,U i6 m,U i6 kh,U i6 kw,U i6 sh,U i6 sw,U i6 tp,U i6 lf,U i6 bt,U i6 rt,Sl wa lw wc,Sl ba lb bc,U i6 sm,U i6 ss,U i6 um,U i6 us,U i6 z,U i6 p,U i6 lo,U i6 hi,U i6 h,U i6 w,U i6 c,U i6 H,U i6 V,U i6 C],46)]):=S1.out.call hbt
   have ROt:Hid (RwO wt (W.heap.size+1+1) v0 R y):=RO1.out.below hbt
   have OT:Hid (TV wt tv TL):=hot.tv
   obtain⟨ta,tc,hte⟩:=hot.slice
   subst hte
   have hzt:=ST'.out.size
   have hzt2:=lt_of_heap ST'.out.h1
   rw [HM.out] at OT ⊢
   clear hot hbt S1 RO1 HTy
   go_wp2
   go_loopw [9,23] (fun rw' i w'=>∃ j:Nat,j≤M∧i=U i6 j∧∃ u0,u0=rw'∧OSp w' wt.heap.size u0 ((enL slo shi p TL).take j)∧Below wt.heap.size wt w') (fun _ i _=>M-(intOf i).toNat)
   case atStart=>exact⟨0,Nat.zero_le _,rfl,_,rfl,by simpa using OSp.nil _ _,Below.refl _ _⟩
   case round =>
    obtain⟨j,hj,rfl,u0,rfl,own,hb⟩:=hrel
    have OW:Hid (OSp wr wt.heap.size u0 ((enL slo shi p TL).take j)):=own
    have BW:Hid (Below wt.heap.size wt wr):=hb
    have SW:Hid (St W wr [(W.heap.size+1,#[U i6 slo,U i6 shi],28),(W.heap.size,#[U i6 k,U i6 a,U i6 b,U i6 m,U i6 kh,U i6 kw,U i6 sh,U i6 sw,U i6 tp,U i6 lf,U i6 bt,U i6 rt,Sl wa lw wc,Sl ba lb bc,U i6 sm,U i6 ss,U i6 um,U i6 us,U i6 z,U i6 p,U i6 lo,U i6 hi,U i6 h,U i6 w,U i6 c,U i6 H,U i6 V,U i6 C],46)]):=ST'.out.call hb
    have hzr:=hb.size
    clear own hb
    by_cases hjl:j<M
    ·obtain⟨ta',tc',e0,-,-,h4⟩:=OT.out
     obtain⟨g,hg,hc⟩:=h4 (by rw [HM.out];omega)
     have e1:ta=some ⟨g,0,none⟩:=by rw [(Value.slice.inj e0).1];exact hg
     subst e1
     obtain⟨q1,q2⟩:=TV.at hc (show j<TL.length by rw [HM.out];exact hjl)
     obtain⟨A1,A2,hA⟩:∃ A1 A2,TL.getD j (0,0)=(A1,A2):=⟨_,_,rfl⟩
     rw [hA] at q1 q2
     simp only at q1 q2
     have hmem:(A1,A2)∈TL:=by
      rw [← hA,List.getD_eq_getElem?_getD,List.getElem?_eq_getElem (by rw [HM.out];exact hjl)]
      exact List.getElem_mem _
     have p1:=(BW.out.cell (World.block_lt_of_cell? wt _ q1)).trans q1
     have p2:=(BW.out.cell (World.block_lt_of_cell? wt _ q2)).trans q2
     have HEn:Hid (∀ W',_):=fun W'=>HE.out W' (A1,A2) (HTw.out _ hmem)
     have HEt:Hid ((enL slo shi p TL).getD j (0,0)=tmE slo shi p (A1,A2)):=by unfold Hid;rw [enL_getD _ _ _ (by rw [HM.out];exact hjl) _ (0,0),hA]
     obtain⟨E1,E2,hE⟩:∃ E1 E2,tmE slo shi p (A1,A2)=(E1,E2):=⟨_,_,rfl⟩
     rw [hE] at HEn HEt
     simp only at HEn
     have HLn:Hid (((enL slo shi p TL).take j).length=j):=by unfold Hid;rw [List.length_take,HEL.out];omega
     have HTk:Hid ((enL slo shi p TL).take (j+1)=(enL slo shi p TL).take j++[(E1,E2)]):=take_snoc (by rw [HEL.out];exact hjl) HEt.out
     clear e0 h4 hg hc q1 q2 hA hmem hE HEt OT
     go_upto_region 9 with fail
     obtain⟨w5,hw5⟩:∃ w5,wr.alloc (.cells #[U i6 A1,U i6 A2] 91)=w5:=⟨_,rfl⟩
     have hb5:Below wr.heap.size wr w5:=by rw [← hw5];exact bal _ _
     have h5:w5.heap[wr.heap.size]? = some (.cells #[U i6 A1,U i6 A2] 91 (0,0)):=by rw [← hw5];exact heap_alloc_new _ _
     rw [hw5]
     have S5:Hid (St W w5 [(W.heap.size+1,#[U i6 slo,U i6 shi],28),(W.heap.size,#[U i6 k,U i6 a,U i6 b,U i6 m,U i6 kh,U i6 kw,U i6 sh,U i6 sw,U i6 tp,U i6 lf,U i6 bt,U i6 rt,Sl wa lw wc,Sl ba lb bc,U i6 sm,U i6 ss,U i6 um,U i6 us,U i6 z,U i6 p,U i6 lo,U i6 hi,U i6 h,U i6 w,U i6 c,U i6 H,U i6 V,U i6 C],46)]):=SW.out.call hb5
     obtain⟨t1,t2,t3⟩:=cells_at h5
     obtain⟨c1,f1,z1,-⟩:=S5.out.rules
     clear hw5 p1 p2 SW h5
     go_wp2_with (refine wpList_load_row rfl 46 (.tmp 3) rfl W.heap.size rfl 46 _ (0,0) _ S5.out.h2 Tryz.underlying46 rfl (by kernel_rfl) ?_)
     refine Calls.mono (HEn.out _) ?_
     rintro e w6 ⟨rfl,hb6⟩
     have O6:Hid (OSp w6 wt.heap.size u0 ((enL slo shi p TL).take j)):=(OW.out.below hb5).below hb6
     have B6:Hid (Below wt.heap.size wt w6):=(BW.out.trans (hb5.mono hzr)).trans (hb6.mono (by have:=hb5.size;omega))
     have hz6:wt.heap.size≤w6.heap.size:=B6.out.size
     clear OW BW S5 hb5 hb6 t1 t2 t3 c1 f1 z1 HEn
     go_wp2_with (at_builtin;refine wpList_apS rfl _ _ rfl wt.heap.size _ ((enL slo shi p TL).take j) [(E1,E2)] rfl (O6.out.below (bal _ _)) (.slice (some ⟨w6.heap.size,0,none⟩) 1 1) rfl (span_one _ _ _) (by simp) (by rw [HLn.out];simp;omega) (by simp;omega) ?_;intro v7 w7 own7 gr7 _;have B7:Hid (Below wt.heap.size wt w7):=(O6.out.below (bal _ _)).grows (B6.out.alloc hz6 _) gr7 (Nat.le_refl _) (by simp;omega);have O7:Hid (OSp w7 wt.heap.size v7 _):=own7;clear own7 gr7)
     go_roundw
     case rel=>exact⟨j+1,by omega,by go_num,_,rfl,by rw [HTk.out];exact O7.out,B7.out⟩
     case measure=>simp [intOf];omega
    ·obtain rfl:j=M:=by omega
     have OU:Hid (OSp wr (W.heap.size+1+1) u0 (R y)):=by
      unfold Hid
      rw [HRy.out]
      have:=OW.out
      rw [List.take_of_length_le (by rw [HEL.out];exact Nat.le_refl _)] at this
      exact this.base (by omega)
     have RW':Hid (RwO wr (W.heap.size+1+1) v0 R y):=ROt.out.below BW.out
     have hcu:Hid ((wr.alloc (.cells #[u0] 76)).cell? ⟨wr.heap.size,0,none⟩=some u0):=cell_box (heap_alloc_new wr _)
     obtain⟨oa,oc',hoe⟩:=OW.out.slice
     rw [List.length_take,HEL.out,Nat.min_self] at hoe
     clear OW ROt OT HTw HE ST' BW
     subst hoe
     go_wp2_with (at_builtin; refine wpList_apR rfl _ _ rfl (W.heap.size+1+1) v0 _ R y rfl (RW'.out.below (bal _ _)) wr.heap.size rfl hcu.out (OU.out.below (bal _ _)) (by omega) (by simp; omega) ?_; intro v7 w7 rw7 gr7 hbl; have S7:Hid (St W w7 [(W.heap.size+1,#[U i6 slo,U i6 shi],28),(W.heap.size,#[U i6 k,U i6 a,U i6 b,U i6 m,U i6 kh,U i6 kw,U i6 sh,U i6 sw,U i6 tp,U i6 lf,U i6 bt,U i6 rt,Sl wa lw wc,Sl ba lb bc,U i6 sm,U i6 ss,U i6 um,U i6 us,U i6 z,U i6 p,U i6 lo,U i6 hi,U i6 h,U i6 w,U i6 c,U i6 H,U i6 V,U i6 C],46)]):=⟨(SW.out.skip _).1.grown gr7 (by simp; omega) (fun b e=>by have:=hbl b e; omega),fun x hx=>⟨(gr7.block x.1 (lt_of_heap ((SW.out.skip _).2 x hx).1) (fun e=>by have:=hbl x.1 e.symm; simp only [List.mem_cons,List.not_mem_nil,or_false] at hx; rcases hx with rfl | rfl<;>simp at this<;>omega)).trans ((SW.out.skip _).2 x hx).1,(SW.out.2 x hx).2⟩⟩; have R7:Hid (RwO w7 (W.heap.size+1+1) v7 R (y+1)):=rw7; clear rw7 gr7 hbl)
     go_roundw
     case rel=>exact⟨y+1,by omega,by go_num,_,rfl,R7.out,S7.out⟩
     case measure=>simp [intOf];omega
  ·obtain rfl:y=N:=by omega
   go_wp2
   go_ret
   exact⟨⟨_,rfl,RO1.out.base (by omega)⟩,S1.out.below⟩
theorem own_mid {w w':World} {lo hi n size:Nat} {e:TypeId} {v:Value} {xs:List Value} (h:w.ownsRow lo e size v n xs) (hm:Mid lo hi w w') (hz:w.heap.size≤hi):w'.ownsRow lo e size v n xs:=by
 refine⟨h.1,?_⟩
 rcases h.2 with q | ⟨g,cap,cur,h1,h2,h3,h4⟩
 ·exact .inl q
 ·exact .inr ⟨g,cap,cur,h1,h2,hm g h2 (Nat.lt_of_lt_of_le (lt_of_heap h3) hz) _ _ h3,h4⟩
def RwU (w:World) (lo:Nat) (v:Value) (R:Nat→List (Int×Int)) (N:Nat) (us:List Value):Prop:=us.length=N∧w.ownsRow lo 76 1 v N us∧∀ j,j<N→OSp w lo (us.getD j undef) (R j)
theorem RwU.mid {w w':World} {lo hi:Nat} {v:Value} {R:Nat→List (Int×Int)} {N:Nat} {us:List Value} (h:RwU w lo v R N us) (hm:Mid lo hi w w') (hz:w.heap.size≤hi):RwU w' lo v R N us :=
 ⟨h.1,own_mid h.2.1 hm hz,fun j hj=>own_mid (h.2.2 j hj) hm hz⟩
theorem RwU.at {w:World} {lo:Nat} {v:Value} {R:Nat→List (Int×Int)} {N:Nat} {us:List Value} (h:RwU w lo v R N us) {k:Nat} (hk:k<N):∃ g cap,v=.slice (some ⟨g,0,none⟩) N cap∧w.cell? ⟨g,k,none⟩=some (us.getD k undef)∧N≤cap∧cap≤maxLen:=by
 obtain⟨h1,h2,h3⟩:=h
 rcases h2.2 with ⟨-,q⟩ | ⟨g,cap,cur,rfl,-,hg,hc,hm,hcs,hcu⟩
 ·omega
 ·refine⟨g,cap,rfl,?_,hc,hm⟩
  rw [(cells_at hg).1]
  have e:(cur.toList.take (N*1))[k]? = us[k]?:=by rw [hcu]
  rw [List.getElem?_take,if_pos (by omega),List.getElem?_eq_getElem (by omega:k<us.length)] at e
  rw [List.getD_eq_getElem?_getD,List.getElem?_eq_getElem (by omega:k<us.length)]
  simpa using e
theorem St.put1 {w0 w w':World} {B:Nat} {c c':Array Value} {t:TypeId} {l:List (Nat×Array Value×TypeId)} (h:St w0 w ((B,c,t) :: l)) (g:w.grownBy w' (some B)) (hB:w'.heap[B]? = some (.cells c' t (0,0))) (hl:∀ x∈l,x.1≠B):St w0 w' ((B,c',t) :: l):=by
 have h0:=(h.2 _ List.mem_cons_self).2
 refine⟨h.1.grown g h.1.size (fun b e=>by cases e;exact h0),fun x hx=>?_⟩
 rcases List.mem_cons.1 hx with rfl | hx
 ·exact⟨hB,h0⟩
 ·have:=h.2 x (List.mem_cons_of_mem _ hx)
  exact⟨(g.block x.1 (lt_of_heap this.1) (fun e=>hl x hx (by simpa using e))).trans this.1,this.2⟩
theorem rtot_any (k a b m kh kw sh sw tp lf bt rt:Int) (wa:Option Addr) (lw wc:Nat) (ba:Option Addr) (lb bc:Nat) (sm ss um us z p lo hi h w c H V C:Int) (W:World) (ch slo shi bi:Int) (R:Nat→List (Int×Int)) (N:Nat) (hN:N≤10000000) (hR:∀ j,Rb (R j)∧(R j).length≤512) (hRw:∀ W',Below W.heap.size W W'→Calls Tryz.prog 22 #[.agg #[U i6 k,U i6 a,U i6 b,U i6 m,U i6 kh,U i6 kw,U i6 sh,U i6 sw,U i6 tp,U i6 lf,U i6 bt,U i6 rt,Sl wa lw wc,Sl ba lb bc,U i6 sm,U i6 ss,U i6 um,U i6 us,U i6 z,U i6 p,U i6 lo,U i6 hi,U i6 h,U i6 w,U i6 c,U i6 H,U i6 V,U i6 C],U i6 ch,.agg #[U i6 slo,U i6 shi]] W' fun e w'=>(∃ v,e=.returned v∧RwO w' W'.heap.size v R N)∧Below W'.heap.size W' w') (hbi:-2147483648≤bi∧bi≤2147483647) (hBg:∀ W',Below W.heap.size W W'→Calls Tryz.prog 23 #[.agg #[U i6 k,U i6 a,U i6 b,U i6 m,U i6 kh,U i6 kw,U i6 sh,U i6 sw,U i6 tp,U i6 lf,U i6 bt,U i6 rt,Sl wa lw wc,Sl ba lb bc,U i6 sm,U i6 ss,U i6 um,U i6 us,U i6 z,U i6 p,U i6 lo,U i6 hi,U i6 h,U i6 w,U i6 c,U i6 H,U i6 V,U i6 C],U i6 ch] W' fun e w'=>e=.returned (.agg #[U i6 bi,U i6 bi])∧Below W'.heap.size W' w') :
  Calls Tryz.prog 9 #[.agg #[U i6 k,U i6 a,U i6 b,U i6 m,U i6 kh,U i6 kw,U i6 sh,U i6 sw,U i6 tp,U i6 lf,U i6 bt,U i6 rt,Sl wa lw wc,Sl ba lb bc,U i6 sm,U i6 ss,U i6 um,U i6 us,U i6 z,U i6 p,U i6 lo,U i6 hi,U i6 h,U i6 w,U i6 c,U i6 H,U i6 V,U i6 C],U i6 ch,.agg #[U i6 slo,U i6 shi]] W fun e w'=>e=.returned (.agg #[U i6 (hbT bi R N).1,U i6 (hbT bi R N).2])∧Below W.heap.size W w':=by
 have HRw:Hid (∀ W',Below W.heap.size W W'→_):=hRw
 have HBg:Hid (∀ W',Below W.heap.size W W'→_):=hBg
 have HV:Hid (∀ k j,Vd 10000000000 (suS (bi,bi) ((R k).take j))):=fun k j=>suS_vd ((hR k).1.take j) (by rw [List.length_take];have:=(hR k).2;omega) (vd_bi hbi)
 have HE:Hid (∀ k j,j<(R k).length→Vd 10000000000 ((R k).getD j (0,0))):=fun k j hj=>by
  rw [List.getD_eq_getElem?_getD,List.getElem?_eq_getElem hj]
  exact (hR k).1.vd _ (List.getElem_mem _)
 have HLn:Hid (∀ k,(R k).length≤512):=fun k=>(hR k).2
 have HPs:Hid (∀ k,piT (fun E=>[suS (bi,bi) E]) R (k+1)=piT (fun E=>[suS (bi,bi) E]) R k++[suS (bi,bi) (R k)]):=fun k=>piT_succ _ R k
 have HRes:Hid (hbT bi R N=huA (piT (fun E=>[suS (bi,bi) E]) R N)):=rfl
 have s0:=((((St.start W).new (c:=#[U i6 k,U i6 a,U i6 b,U i6 m,U i6 kh,U i6 kw,U i6 sh,U i6 sw,U i6 tp,U i6 lf,U i6 bt,U i6 rt,Sl wa lw wc,Sl ba lb bc,U i6 sm,U i6 ss,U i6 um,U i6 us,U i6 z,U i6 p,U i6 lo,U i6 hi,U i6 h,U i6 w,U i6 c,U i6 H,U i6 V,U i6 C]) (t:=46)).new (c:=#[U i6 slo,U i6 shi]) (t:=28)).new (c:=#[U i6 0,U i6 0]) (t:=28)).new (c:=huV []) (t:=73)
 simp only [World.size_alloc] at s0
 have S0:Hid (St W _ ((W.heap.size+1+1+1,huV [],73) :: [(W.heap.size+1+1,#[U i6 0,U i6 0],28),(W.heap.size+1,#[U i6 slo,U i6 shi],28),(W.heap.size,#[U i6 k,U i6 a,U i6 b,U i6 m,U i6 kh,U i6 kw,U i6 sh,U i6 sw,U i6 tp,U i6 lf,U i6 bt,U i6 rt,Sl wa lw wc,Sl ba lb bc,U i6 sm,U i6 ss,U i6 um,U i6 us,U i6 z,U i6 p,U i6 lo,U i6 hi,U i6 h,U i6 w,U i6 c,U i6 H,U i6 V,U i6 C],46)])):=s0
 clear hRw hBg hR hbi s0
 go_enter Tryz.func9,Tryz.ntmps9
 go_upto_region 2 with fail
 rw [← huV_0]
 obtain⟨w4,hw4⟩:∃ w4,(((W.alloc (.cells #[U i6 k,U i6 a,U i6 b,U i6 m,U i6 kh,U i6 kw,U i6 sh,U i6 sw,U i6 tp,U i6 lf,U i6 bt,U i6 rt,Sl wa lw wc,Sl ba lb bc,U i6 sm,U i6 ss,U i6 um,U i6 us,U i6 z,U i6 p,U i6 lo,U i6 hi,U i6 h,U i6 w,U i6 c,U i6 H,U i6 V,U i6 C] 46)).alloc (.cells #[U i6 slo,U i6 shi] 28)).alloc (.cells #[U i6 0,U i6 0] 28)).alloc (.cells (huV []) 73)=w4:=⟨_,rfl⟩
 have hz4:w4.heap.size=W.heap.size+1+1+1+1:=by rw [← hw4];simp
 rw [hw4] at S0 ⊢
 clear hw4
 obtain⟨-,-,-,-,-,-,c3,f3,z3,-⟩:=S0.out.rules
 go_wp2_with (refine wpList_load_row rfl 46 (.tmp 3) rfl W.heap.size rfl 46 _ (0,0) _ S0.out.h4 Tryz.underlying46 rfl (by kernel_rfl) ?_)
 refine Calls.mono (HRw.out _ S0.out.below) ?_
 rintro e w5 ⟨⟨v,rfl,hrw⟩,hb5⟩
 obtain⟨va,vc,hve⟩:=hrw.slice
 obtain⟨us',hus⟩:=hrw
 have RO:Hid (RwU w5 w4.heap.size v R N us'):=hus
 subst hve
 have S5:Hid (St W w5 ((W.heap.size+1+1+1,huV [],73) :: [(W.heap.size+1+1,#[U i6 0,U i6 0],28),(W.heap.size+1,#[U i6 slo,U i6 shi],28),(W.heap.size,#[U i6 k,U i6 a,U i6 b,U i6 m,U i6 kh,U i6 kw,U i6 sh,U i6 sw,U i6 tp,U i6 lf,U i6 bt,U i6 rt,Sl wa lw wc,Sl ba lb bc,U i6 sm,U i6 ss,U i6 um,U i6 us,U i6 z,U i6 p,U i6 lo,U i6 hi,U i6 h,U i6 w,U i6 c,U i6 H,U i6 V,U i6 C],46)])):=S0.out.call hb5
 have hz5:=hb5.size
 obtain⟨lo',hlo⟩:∃ x,w4.heap.size=x:=⟨_,rfl⟩
 obtain⟨hi',hhi⟩:∃ x,w5.heap.size=x:=⟨_,rfl⟩
 have HHi:Hid (w5.heap.size=hi'):=hhi
 rw [hlo] at RO hz4 hz5
 rw [hhi] at hz5
 clear hus hb5 S0 c3 f3 z3 HRw hlo hhi
 go_wp2
 go_loopw [18] (fun i wr=>∃ k':Nat,k'≤N∧i=U i6 k'∧St W wr ((W.heap.size+1+1+1,huV (piT (fun E=>[suS (bi,bi) E]) R k'),73) :: [(W.heap.size+1+1,#[U i6 0,U i6 0],28),(W.heap.size+1,#[U i6 slo,U i6 shi],28),(W.heap.size,#[U i6 k,U i6 a,U i6 b,U i6 m,U i6 kh,U i6 kw,U i6 sh,U i6 sw,U i6 tp,U i6 lf,U i6 bt,U i6 rt,Sl wa lw wc,Sl ba lb bc,U i6 sm,U i6 ss,U i6 um,U i6 us,U i6 z,U i6 p,U i6 lo,U i6 hi,U i6 h,U i6 w,U i6 c,U i6 H,U i6 V,U i6 C],46)])∧Mid lo' hi' w5 wr∧hi'≤wr.heap.size) (fun i _=>N-(intOf i).toNat)
 case atStart=>exact⟨0,Nat.zero_le _,rfl,by simpa [piT] using S5.out,Mid.refl _ _ _,by rw [HHi.out];exact Nat.le_refl _⟩
 case round =>
  obtain⟨y,hy,rfl,s,hm,hz⟩:=hrel
  clear S5
  have S:Hid (St W wr _):=s
  have HMd:Hid (Mid lo' hi' w5 wr):=hm
  by_cases hlt:y<N
  ·obtain⟨g,cap,e0,hcu,hc1,hc2⟩:=(RO.out.mid hm (by rw [HHi.out];exact Nat.le_refl _)).at hlt
   have hou:=(RO.out.mid hm (by rw [HHi.out];exact Nat.le_refl _)).2.2 y hlt
   have HOy:Hid (∀ w',Mid lo' hi' w5 w'→OSp w' lo' (us'.getD y undef) (R y)):=fun w' hm'=>(RO.out.mid hm' (by rw [HHi.out];exact Nat.le_refl _)).2.2 y hlt
   obtain⟨u,hu0⟩:∃ u,us'.getD y undef=u:=⟨_,rfl⟩
   rw [hu0] at hcu hou HOy
   obtain⟨M,hM⟩:∃ M,(R y).length=M:=⟨_,rfl⟩
   have HM:Hid ((R y).length=M):=hM
   obtain⟨ua,uc,hue⟩:=hou.slice
   rw [hM] at hue
   subst hue
   have e1:va=some ⟨g,0,none⟩:=(Value.slice.inj e0).1
   subst e1
   have hM5:M≤512:=by rw [← hM];exact HLn.out y
   clear hou hM s hm hc1 hc2 hu0
   go_upto_region 5 with fail
   go_wp2_with (refine wpList_load_row rfl 46 (.tmp 3) rfl W.heap.size rfl 46 _ (0,0) _ S.out.h4 Tryz.underlying46 rfl (by kernel_rfl) ?_)
   refine Calls.mono (HBg.out _ S.out.below) ?_
   rintro e w6 ⟨rfl,hb6⟩
   have s7:=(S.out.call hb6).new (c:=#[U i6 bi,U i6 bi]) (t:=28)
   have hz6:=hb6.size
   have M7:Mid lo' hi' w5 (w6.alloc (.cells #[U i6 bi,U i6 bi] 28)):=(HMd.out.trans (Mid.later hb6)).trans (Mid.later (bal _ _))
   obtain⟨Bs,hBs⟩:∃ B,w6.heap.size=B:=⟨_,rfl⟩
   obtain⟨w7,hw7⟩:∃ w7,w6.alloc (.cells #[U i6 bi,U i6 bi] 28)=w7:=⟨_,rfl⟩
   go_upto_region 6 with fail
   rw [hw7] at s7 M7
   rw [hBs] at s7 hz6
   have hz7:w7.heap.size=Bs+1:=by rw [← hw7,← hBs];simp
   have S7:Hid (St W w7 ((Bs,#[U i6 bi,U i6 bi],28) :: (W.heap.size+1+1+1,huV (piT (fun E=>[suS (bi,bi) E]) R y),73) :: [(W.heap.size+1+1,#[U i6 0,U i6 0],28),(W.heap.size+1,#[U i6 slo,U i6 shi],28),(W.heap.size,#[U i6 k,U i6 a,U i6 b,U i6 m,U i6 kh,U i6 kw,U i6 sh,U i6 sw,U i6 tp,U i6 lf,U i6 bt,U i6 rt,Sl wa lw wc,Sl ba lb bc,U i6 sm,U i6 ss,U i6 um,U i6 us,U i6 z,U i6 p,U i6 lo,U i6 hi,U i6 h,U i6 w,U i6 c,U i6 H,U i6 V,U i6 C],46)])):=s7
   have HM7:Hid (Mid lo' hi' w5 w7):=M7
   have hBs2:hi'≤Bs:=by omega
   clear hw7 hBs s7 M7 hb6 S HMd hcu
   go_wp2
   go_loopw [27] (fun i w'=>∃ j:Nat,j≤M∧i=U i6 j∧St W w' ((Bs,#[U i6 (suS (bi,bi) ((R y).take j)).1,U i6 (suS (bi,bi) ((R y).take j)).2],28) :: (W.heap.size+1+1+1,huV (piT (fun E=>[suS (bi,bi) E]) R y),73) :: [(W.heap.size+1+1,#[U i6 0,U i6 0],28),(W.heap.size+1,#[U i6 slo,U i6 shi],28),(W.heap.size,#[U i6 k,U i6 a,U i6 b,U i6 m,U i6 kh,U i6 kw,U i6 sh,U i6 sw,U i6 tp,U i6 lf,U i6 bt,U i6 rt,Sl wa lw wc,Sl ba lb bc,U i6 sm,U i6 ss,U i6 um,U i6 us,U i6 z,U i6 p,U i6 lo,U i6 hi,U i6 h,U i6 w,U i6 c,U i6 H,U i6 V,U i6 C],46)])∧Mid lo' hi' w5 w'∧hi'≤w'.heap.size) (fun i _=>M-(intOf i).toNat)
   case atStart=>exact⟨0,Nat.zero_le _,rfl,by simpa [suS] using S7.out,HM7.out,by omega⟩
   case round =>
    obtain⟨j,hj,rfl,s,hm,hz'⟩:=hrel
    clear S7 HM7
    by_cases hjl:j<M
    ·have hsp:=(HOy.out wr hm).sv
     have hjL:j<(R y).length:=by rw [HM.out];exact hjl
     have hve:=HE.out y j hjL
     have hvm:=HV.out y j
     obtain⟨a9,c9,e9,-,-,h9⟩:=hsp
     obtain⟨g9,o9,hg9,hc9⟩:=h9 (by omega)
     have e10:ua=some ⟨g9,o9,none⟩:=by rw [(Value.slice.inj e9).1];exact hg9
     subst e10
     obtain⟨q1,q2⟩:=SpV.at hc9 hjL
     obtain⟨e1,e2,he⟩:∃ e1 e2,(R y).getD j (0,0)=(e1,e2):=⟨_,_,rfl⟩
     obtain⟨m1,m2,hmm⟩:∃ m1 m2,suS (bi,bi) ((R y).take j)=(m1,m2):=⟨_,_,rfl⟩
     have HS:Hid (suS (bi,bi) ((R y).take (j+1))=(m1+e1,m2+e2)):=by unfold Hid;rw [suS_take _ hjL he,hmm];rfl
     rw [he] at q1 q2 hve
     rw [hmm] at s hvm
     simp only at q1 q2 s
     have HP:Hid (∀ w,_):=fun w=>rplus_any (m1,m2) (e1,e2) w hvm hve
     have S:Hid (St W wr _):=s
     have HMd:Hid (Mid lo' hi' w5 wr):=hm
     obtain⟨c1,f1,z1,-⟩:=s.rules
     clear e9 h9 hg9 hc9 he hmm s hm hve hvm
     go_wp2_with fail
     refine Calls.mono (HP.out _) ?_
     rintro e w8 ⟨rfl,hb8⟩
     have hb9:=(bal wr (.cells #[U i6 e1,U i6 e2] 28)).trans (hb8.mono (by simp))
     have s9:=S.out.call hb9
     have z9:=hb9.size
     clear c1 f1 z1 q1 q2
     obtain⟨c1,f1,z1,-⟩:=s9.rules
     have S9:Hid (St W _ _):=s9.set2 (u:=U i6 (m1+e1)) (v:=U i6 (m2+e2)) (by simp;omega)
     have M9:Hid (Mid lo' hi' w5 _):=((HMd.out.trans (Mid.later hb9)).trans (Mid.set _ (B:=Bs) (i:=0) (v:=U i6 (m1+e1)) (.inr hBs2))).trans (Mid.set _ (B:=Bs) (i:=1) (v:=U i6 (m2+e2)) (.inr hBs2))
     simp only [plS]
     clear s9 hb8 hb9 S HMd HP
     go_wp2
     go_roundw
     case rel=>exact⟨j+1,by omega,by go_num,by rw [HS.out];exact S9.out,M9.out,by simp;omega⟩
     case measure=>simp [intOf];omega
    ·obtain rfl:j=M:=by omega
     rw [List.take_of_length_le (by rw [HM.out];exact Nat.le_refl _)] at s
     have hnew:=HPs.out y
     have hlh:∀ x∈((Bs,#[U i6 (suS (bi,bi) (R y)).1,U i6 (suS (bi,bi) (R y)).2],28) :: [(W.heap.size+1+1,#[U i6 0,U i6 0],28),(W.heap.size+1,#[U i6 slo,U i6 shi],28),(W.heap.size,#[U i6 k,U i6 a,U i6 b,U i6 m,U i6 kh,U i6 kw,U i6 sh,U i6 sw,U i6 tp,U i6 lf,U i6 bt,U i6 rt,Sl wa lw wc,Sl ba lb bc,U i6 sm,U i6 ss,U i6 um,U i6 us,U i6 z,U i6 p,U i6 lo,U i6 hi,U i6 h,U i6 w,U i6 c,U i6 H,U i6 V,U i6 C],46)]:List (Nat×Array Value×TypeId)),x.1≠W.heap.size+1+1+1:=by simp;omega
     have HTk:Hid _:=rtake_any (W.heap.size+1+1+1) (piT (fun E=>[suS (bi,bi) E]) R y) (suS (bi,bi) (R y)) wr s.h2
     rw [← hnew] at HTk
     have SS:Hid (St W wr _):=s.up1
     have HMd:Hid (Mid lo' hi' w5 wr):=hm
     obtain⟨q1,q2,hq⟩:∃ q1 q2,suS (bi,bi) (R y)=(q1,q2):=⟨_,_,rfl⟩
     rw [hq] at s HTk SS hlh
     simp only at s HTk SS hlh
     obtain⟨c1,f1,z1,c2,f2,z2,-⟩:=s.rules
     clear s hm hq hnew
     go_wp2_with fail
     refine Calls.mono HTk.out ?_
     rintro e w8 ⟨⟨vv,rfl⟩,gr,hB8⟩
     have S8:Hid (St W w8 _):=(SS.out.put1 gr hB8 hlh).up1.tail
     have M8:Hid (Mid lo' hi' w5 w8):=HMd.out.trans (Mid.grown gr (fun b e=>by cases e;omega))
     have hz8:=gr.size
     clear SS HMd gr hB8 c1 f1 c2 f2 z1 z2 HTk
     go_wp2
     go_roundw
     case rel=>exact⟨y+1,by omega,by go_num,S8.out,M8.out,by omega⟩
     case measure=>simp [intOf];omega
  ·obtain rfl:y=N:=by omega
   obtain⟨c1,f1,z1,c2,f2,z2,-⟩:=s.rules
   have HB:Hid (Below W.heap.size W _):=s.tail.out2 (i:=0) (j:=1) (u:=U i6 (hbT bi R y).1) (v:=U i6 (hbT bi R y).2)
   unfold huV at c1
   rw [← HRes.out] at c1
   obtain⟨m1,m2,hmm⟩:∃ m1 m2,hbT bi R y=(m1,m2):=⟨_,_,rfl⟩
   have HMM:Hid (hbT bi R y=(m1,m2)):=hmm
   rw [hmm] at c1 HB
   simp only at c1 HB
   clear s hm S hmm
   go_wp2
   exact bodyPost_ret (v:=.agg #[U i6 m1,U i6 m2]) (by simp [results,Tryz.results9,go_sem,c2]) rfl ⟨by rw [HMM.out],HB.out⟩
def psT (d:Nat) (E:List (Int×Int)) (j:Nat):Int×Int:=if j=0 then (0,0) else psm d E (j-1)
def paI (d:Nat) (E:List (Int×Int)) (j:Nat):List (Int×Int):=(List.range j).flatMap fun i=>[psm d E i,E.getD i (0,0)]
theorem psT_succ (d:Nat) (E:List (Int×Int)) (j:Nat):psT d E (j+1)=psm d E j:=by unfold psT;rw [if_neg (by omega)];rfl
theorem psm_zero {d:Nat} {E:List (Int×Int)} {j:Nat} (hd:0<d) (hj:j<E.length) (h:j % d=0) {e:Int×Int} (he:E.getD j (0,0)=e):psm d E j=plS (0,0) e:=by
 unfold psm
 have e1:j / d*d=j:=by have:=Nat.div_add_mod j d;rw [h,Nat.mul_comm] at this;omega
 rw [e1,h,suS_take (0,0) (d:=(0,0)) (e:=e) (by rw [List.length_drop];omega) (by rw [List.getD_eq_getElem?_getD,List.getElem?_drop,Nat.add_zero,← List.getD_eq_getElem?_getD,he])]
 simp [suS]
theorem psm_more {d:Nat} {E:List (Int×Int)} {j:Nat} (hd:0<d) (hj:j<E.length) (h:j % d≠0) {e:Int×Int} (he:E.getD j (0,0)=e):psm d E j=plS (psT d E j) e:=by
 have h0:j≠0:=fun q=>h (by rw [q];exact Nat.zero_mod d)
 have hm:=Nat.mod_lt j hd
 have hdm:=Nat.div_add_mod j d
 have e1:(j-1) / d=j / d:=by
  have:j-1=d*(j / d)+(j % d-1):=by omega
  rw [this,Nat.mul_add_div hd,Nat.div_eq_of_lt (show j % d-1<d by omega),Nat.add_zero]
 have e2:(j-1) % d+1=j % d:=by
  have:j-1=d*(j / d)+(j % d-1):=by omega
  rw [this,Nat.mul_add_mod,Nat.mod_eq_of_lt (show j % d-1<d by omega)]
  omega
 unfold psT
 rw [if_neg h0]
 unfold psm
 rw [e1,e2]
 rw [Nat.mul_comm] at hdm
 exact suS_take (0,0) (d:=(0,0)) (by rw [List.length_drop];omega) (by rw [List.getD_eq_getElem?_getD,List.getElem?_drop,hdm,← List.getD_eq_getElem?_getD,he])
theorem psT_vd {E:List (Int×Int)} {d:Nat} (hE:Rb E) (hl:E.length≤512) (j:Nat):Vd 10000000000 (psT d E j):=by
 unfold psT
 split
 ·unfold Vd;simp
 ·exact psm_vd hE hl
theorem rfind_e (h w c lo hi ot op ch:Int) (oa:Option Addr) (on oc:Nat) (O:Nat→Nat→Int) (Z B:Nat→List Int) (W:World) (hM:LRow W oa on oc O Z B) (hon:on≤1000000000000) (Re Ra Rw:Int) (RL:List (Int×Int×Int)) (hR:gtR O h w c lo hi ot on=(Re,Ra,RL,Rw)) (he:Re≠0) :
  Calls Tryz.prog 47 #[.agg #[U i6 h,U i6 w,U i6 c,U i6 lo,U i6 hi,Sl oa on oc,U i6 ot],U i6 op,U i6 ch] W fun e w'=>e=.returned (.tuple #[.agg #[U i6 0,U i6 0,U i6 0,U i6 0,U i6 0,U i6 0,U i6 0,U i6 0,U i6 0,U i6 0,U i6 0,U i6 0,Sl none 0 0,Sl none 0 0,U i6 0,U i6 0,U i6 0,U i6 0,U i6 0,U i6 0,U i6 0,U i6 0,U i6 0,U i6 0,U i6 0,U i6 0,U i6 0,U i6 0],U i6 Re])∧Below W.heap.size W w':=by
 have hS:Hid (∀ W,LRow W oa on oc O Z B→_):=fun W hW=>look_any h w c lo hi ot oa on oc O Z B W hW hon
 rw [hR] at hS
 simp only at hS
 have he':(Re == 0)=false:=by simp [he]
 have hM2:Hid (LRow W oa on oc O Z B):=hM
 clear hR hM
 have s0:=((St.start W).new (c:=#[U i6 h,U i6 w,U i6 c,U i6 lo,U i6 hi,Sl oa on oc,U i6 ot]) (t:=26)).new (c:=#[U i6 0,U i6 0,U i6 0,U i6 0,U i6 0,U i6 0,U i6 0,U i6 0,U i6 0,U i6 0,U i6 0,U i6 0,Sl none 0 0,Sl none 0 0,U i6 0,U i6 0,U i6 0,U i6 0,U i6 0,U i6 0,U i6 0,U i6 0,U i6 0,U i6 0,U i6 0,U i6 0,U i6 0,U i6 0]) (t:=46)
 simp only [World.size_alloc] at s0
 go_enter Tryz.func47,Tryz.ntmps47
 go_wp2_with fail
 refine Calls.mono (hS.out _ (hM2.out.below s0.below)) ?_
 rintro e w1 ⟨v,rfl,hSh,hb⟩
 have s1:=(s0.call hb).new (c:=#[U i6 Re,U i6 Ra,U i6 0]) (t:=123)
 obtain⟨va,vc,rfl⟩:=hSh.slice
 obtain⟨c1,f1,z1,c2,f2,z2,-⟩:=(s0.call hb).rules
 clear hb hSh
 go_wp2
 obtain⟨w2,hw2⟩:∃ w2,w1.alloc (.cells #[U i6 Re,U i6 Ra,U i6 0] 123)=w2:=⟨_,rfl⟩
 rw [hw2] at s1 ⊢
 have hF:=s1.h1
 have hZ:=s1.h2
 have S1:Hid (St W w2 _):=s1
 clear hw2 s0 s1 c1 f1 c2 f2
 refine regionC (fun w'=>w'.heap[w1.heap.size]? = some (.cells #[U i6 Re,U i6 Ra,U i6 0] 123 (0,0))) (by kernel_rfl) ?_
 refine takeC 0 (v:=.agg #[U i6 0,U i6 0,U i6 0,U i6 0,U i6 0,U i6 0,U i6 0,U i6 0,U i6 0,U i6 0,U i6 0,U i6 0,Sl none 0 0,Sl none 0 0,U i6 0,U i6 0,U i6 0,U i6 0,U i6 0,U i6 0,U i6 0,U i6 0,U i6 0,U i6 0,U i6 0,U i6 0,U i6 0,U i6 0]) rfl rfl (by kernel_rfl) (by kernel_rfl) (by kernel_rfl) (fun _ _ _ h=>h) (fun _=>rfl) rfl (fun w' hw'=>by kernel_rfl) ?_
 refine takeC 1 (v:=.pointer (some ⟨w1.heap.size,0,none⟩)) rfl rfl (by kernel_rfl) (by kernel_rfl) (by kernel_rfl) (fun _ _ _ h=>h) (fun _=>rfl) rfl (fun w' hw'=>by go_simp) ?_
 refine takeC 2 (v:=U i6 Re) rfl rfl (by kernel_rfl) (by kernel_rfl) (by kernel_rfl) (fun _ _ _ h=>h) (fun _=>rfl) rfl (fun w' hw'=>by have hc:=(cells_at hw').1 0;go_simp) ?_
 have hne:w1.heap.size≠W.heap.size+1:=by omega
 refine stepC 3 hF (by kernel_rfl) rfl (fun K hK=>step_wp rfl (wp_store_row 46 (.tmp 6) (.tmp 22) rfl (W.heap.size+1) #[U i6 0,U i6 0,U i6 0,U i6 0,U i6 0,U i6 0,U i6 0,U i6 0,U i6 0,U i6 0,U i6 0,U i6 0,Sl none 0 0,Sl none 0 0,U i6 0,U i6 0,U i6 0,U i6 0,U i6 0,U i6 0,U i6 0,U i6 0,U i6 0,U i6 0,U i6 0,U i6 0,U i6 0,U i6 0] rfl rfl 46 #[U i6 0,U i6 0,U i6 0,U i6 0,U i6 0,U i6 0,U i6 0,U i6 0,U i6 0,U i6 0,U i6 0,U i6 0,Sl none 0 0,Sl none 0 0,U i6 0,U i6 0,U i6 0,U i6 0,U i6 0,U i6 0,U i6 0,U i6 0,U i6 0,U i6 0,U i6 0,U i6 0,U i6 0,U i6 0] hZ (by kernel_rfl) rfl (by simp [Value.oneCell']) (hK _ _ ?_)))
 refine takeC 4 (v:=U i6 Re) rfl rfl (by kernel_rfl) (by kernel_rfl) (by kernel_rfl) (fun _ _ _ h=>h) (fun _=>rfl) rfl (fun w' hw'=>by go_simp) ?_
 refine doneC ((setRow_other _ _ _ _ hne).trans hF) (by kernel_rfl) ?_ _
 have hZ':=setRow_heap w2.drew (W.heap.size+1) #[U i6 0,U i6 0,U i6 0,U i6 0,U i6 0,U i6 0,U i6 0,U i6 0,U i6 0,U i6 0,U i6 0,U i6 0,Sl none 0 0,Sl none 0 0,U i6 0,U i6 0,U i6 0,U i6 0,U i6 0,U i6 0,U i6 0,U i6 0,U i6 0,U i6 0,U i6 0,U i6 0,U i6 0,U i6 0] #[U i6 0,U i6 0,U i6 0,U i6 0,U i6 0,U i6 0,U i6 0,U i6 0,U i6 0,U i6 0,U i6 0,U i6 0,Sl none 0 0,Sl none 0 0,U i6 0,U i6 0,U i6 0,U i6 0,U i6 0,U i6 0,U i6 0,U i6 0,U i6 0,U i6 0,U i6 0,U i6 0,U i6 0,U i6 0] 46 (0,0) hZ
 have hB':Hid (Below W.heap.size W (w2.drew.setRow (W.heap.size+1) #[U i6 0,U i6 0,U i6 0,U i6 0,U i6 0,U i6 0,U i6 0,U i6 0,U i6 0,U i6 0,U i6 0,U i6 0,Sl none 0 0,Sl none 0 0,U i6 0,U i6 0,U i6 0,U i6 0,U i6 0,U i6 0,U i6 0,U i6 0,U i6 0,U i6 0,U i6 0,U i6 0,U i6 0,U i6 0])):=below_setRow S1.out.drew.below (by omega) _
 obtain⟨w3,hw3⟩:∃ w3,w2.drew.setRow (W.heap.size+1) #[U i6 0,U i6 0,U i6 0,U i6 0,U i6 0,U i6 0,U i6 0,U i6 0,U i6 0,U i6 0,U i6 0,U i6 0,Sl none 0 0,Sl none 0 0,U i6 0,U i6 0,U i6 0,U i6 0,U i6 0,U i6 0,U i6 0,U i6 0,U i6 0,U i6 0,U i6 0,U i6 0,U i6 0,U i6 0]=w3:=⟨_,rfl⟩
 rw [hw3] at hZ' hB' ⊢
 clear hw3
 go_wp2
 exact bodyPost_ret (results_row_tmp Tryz.results47 _ _ (W.heap.size+1) 46 _ _ (U i6 Re) rfl hZ' Tryz.underlying46 rfl (by kernel_rfl) rfl) rfl ⟨rfl,hB'.out⟩
theorem rfind_3 (h w c lo hi ot op ch:Int) (oa:Option Addr) (on oc:Nat) (O:Nat→Nat→Int) (Z B:Nat→List Int) (W:World) (hM:LRow W oa on oc O Z B) (hon:on≤1000000000000) (Ra Rw:Int) (RL:List (Int×Int×Int)) (hR:gtR O h w c lo hi ot on=(0,Ra,RL,Rw)) (ho:¬ (1≤op∧op≤(on:Int))) :
  Calls Tryz.prog 47 #[.agg #[U i6 h,U i6 w,U i6 c,U i6 lo,U i6 hi,Sl oa on oc,U i6 ot],U i6 op,U i6 ch] W fun e w'=>e=.returned (.tuple #[.agg #[U i6 0,U i6 0,U i6 0,U i6 0,U i6 0,U i6 0,U i6 0,U i6 0,U i6 0,U i6 0,U i6 0,U i6 0,Sl none 0 0,Sl none 0 0,U i6 0,U i6 0,U i6 0,U i6 0,U i6 0,U i6 0,U i6 0,U i6 0,U i6 0,U i6 0,U i6 0,U i6 0,U i6 0,U i6 0],U i6 3])∧Below W.heap.size W w':=by
 have hS:Hid (∀ W,LRow W oa on oc O Z B→_):=fun W hW=>look_any h w c lo hi ot oa on oc O Z B W hW hon
 rw [hR] at hS
 simp only at hS
 have hM2:Hid (LRow W oa on oc O Z B):=hM
 have hocm:=hM.1
 have hocx:=hM.2.1
 unfold maxLen at hocx
 clear hR hM
 have s0:=((St.start W).new (c:=#[U i6 h,U i6 w,U i6 c,U i6 lo,U i6 hi,Sl oa on oc,U i6 ot]) (t:=26)).new (c:=#[U i6 0,U i6 0,U i6 0,U i6 0,U i6 0,U i6 0,U i6 0,U i6 0,U i6 0,U i6 0,U i6 0,U i6 0,Sl none 0 0,Sl none 0 0,U i6 0,U i6 0,U i6 0,U i6 0,U i6 0,U i6 0,U i6 0,U i6 0,U i6 0,U i6 0,U i6 0,U i6 0,U i6 0,U i6 0]) (t:=46)
 simp only [World.size_alloc] at s0
 by_cases ho1:op<1
 ·go_enter Tryz.func47,Tryz.ntmps47
  go_wp2_with fail
  refine Calls.mono (hS.out _ (hM2.out.below s0.below)) ?_
  rintro e w1 ⟨v,rfl,hSh,hb⟩
  have s1:=(s0.call hb).new (c:=#[U i6 0,U i6 Ra,U i6 0]) (t:=123)
  obtain⟨va,vc,rfl⟩:=hSh.slice
  obtain⟨c1,f1,z1,c2,f2,z2,-⟩:=(s0.call hb).rules
  have ho2:op<1∨(on:Int)<op:=by omega
  clear hb hSh ho
  go_wp2_with (refine wpList_store_row rfl 46 (.tmp 6) (.tmp 34) rfl (W.heap.size+1) #[U i6 0,U i6 0,U i6 0,U i6 0,U i6 0,U i6 0,U i6 0,U i6 0,U i6 0,U i6 0,U i6 0,U i6 0,Sl none 0 0,Sl none 0 0,U i6 0,U i6 0,U i6 0,U i6 0,U i6 0,U i6 0,U i6 0,U i6 0,U i6 0,U i6 0,U i6 0,U i6 0,U i6 0,U i6 0] rfl rfl 46 #[U i6 0,U i6 0,U i6 0,U i6 0,U i6 0,U i6 0,U i6 0,U i6 0,U i6 0,U i6 0,U i6 0,U i6 0,Sl none 0 0,Sl none 0 0,U i6 0,U i6 0,U i6 0,U i6 0,U i6 0,U i6 0,U i6 0,U i6 0,U i6 0,U i6 0,U i6 0,U i6 0,U i6 0,U i6 0] s1.h2 (by kernel_rfl) rfl (by simp [Value.oneCell']) ?_;have hZ':=setRow_heap _ (W.heap.size+1) #[U i6 0,U i6 0,U i6 0,U i6 0,U i6 0,U i6 0,U i6 0,U i6 0,U i6 0,U i6 0,U i6 0,U i6 0,Sl none 0 0,Sl none 0 0,U i6 0,U i6 0,U i6 0,U i6 0,U i6 0,U i6 0,U i6 0,U i6 0,U i6 0,U i6 0,U i6 0,U i6 0,U i6 0,U i6 0] #[U i6 0,U i6 0,U i6 0,U i6 0,U i6 0,U i6 0,U i6 0,U i6 0,U i6 0,U i6 0,U i6 0,U i6 0,Sl none 0 0,Sl none 0 0,U i6 0,U i6 0,U i6 0,U i6 0,U i6 0,U i6 0,U i6 0,U i6 0,U i6 0,U i6 0,U i6 0,U i6 0,U i6 0,U i6 0] 46 (0,0) s1.h2;have hB':Hid (Below W.heap.size W (_:World)):=below_setRow s1.below (show W.heap.size≤W.heap.size+1 by omega) #[U i6 0,U i6 0,U i6 0,U i6 0,U i6 0,U i6 0,U i6 0,U i6 0,U i6 0,U i6 0,U i6 0,U i6 0,Sl none 0 0,Sl none 0 0,U i6 0,U i6 0,U i6 0,U i6 0,U i6 0,U i6 0,U i6 0,U i6 0,U i6 0,U i6 0,U i6 0,U i6 0,U i6 0,U i6 0];clear c1 f1 c2 f2;generalize World.setRow _ _ _=w3 at hZ' hB' ⊢)
  exact bodyPost_ret (results_row_tmp Tryz.results47 _ _ (W.heap.size+1) 46 _ _ (U i6 3) rfl hZ' Tryz.underlying46 rfl (by kernel_rfl) rfl) rfl ⟨rfl,hB'.out⟩
 ·go_enter Tryz.func47,Tryz.ntmps47
  go_wp2_with fail
  refine Calls.mono (hS.out _ (hM2.out.below s0.below)) ?_
  rintro e w1 ⟨v,rfl,hSh,hb⟩
  have s1:=(s0.call hb).new (c:=#[U i6 0,U i6 Ra,U i6 0]) (t:=123)
  obtain⟨va,vc,rfl⟩:=hSh.slice
  obtain⟨c1,f1,z1,c2,f2,z2,-⟩:=(s0.call hb).rules
  have ho2:op<1∨(on:Int)<op:=by omega
  clear hb hSh ho
  go_wp2_with (refine wpList_store_row rfl 46 (.tmp 6) (.tmp 34) rfl (W.heap.size+1) #[U i6 0,U i6 0,U i6 0,U i6 0,U i6 0,U i6 0,U i6 0,U i6 0,U i6 0,U i6 0,U i6 0,U i6 0,Sl none 0 0,Sl none 0 0,U i6 0,U i6 0,U i6 0,U i6 0,U i6 0,U i6 0,U i6 0,U i6 0,U i6 0,U i6 0,U i6 0,U i6 0,U i6 0,U i6 0] rfl rfl 46 #[U i6 0,U i6 0,U i6 0,U i6 0,U i6 0,U i6 0,U i6 0,U i6 0,U i6 0,U i6 0,U i6 0,U i6 0,Sl none 0 0,Sl none 0 0,U i6 0,U i6 0,U i6 0,U i6 0,U i6 0,U i6 0,U i6 0,U i6 0,U i6 0,U i6 0,U i6 0,U i6 0,U i6 0,U i6 0] s1.h2 (by kernel_rfl) rfl (by simp [Value.oneCell']) ?_;have hZ':=setRow_heap _ (W.heap.size+1) #[U i6 0,U i6 0,U i6 0,U i6 0,U i6 0,U i6 0,U i6 0,U i6 0,U i6 0,U i6 0,U i6 0,U i6 0,Sl none 0 0,Sl none 0 0,U i6 0,U i6 0,U i6 0,U i6 0,U i6 0,U i6 0,U i6 0,U i6 0,U i6 0,U i6 0,U i6 0,U i6 0,U i6 0,U i6 0] #[U i6 0,U i6 0,U i6 0,U i6 0,U i6 0,U i6 0,U i6 0,U i6 0,U i6 0,U i6 0,U i6 0,U i6 0,Sl none 0 0,Sl none 0 0,U i6 0,U i6 0,U i6 0,U i6 0,U i6 0,U i6 0,U i6 0,U i6 0,U i6 0,U i6 0,U i6 0,U i6 0,U i6 0,U i6 0] 46 (0,0) s1.h2;have hB':Hid (Below W.heap.size W (_:World)):=below_setRow s1.below (show W.heap.size≤W.heap.size+1 by omega) #[U i6 0,U i6 0,U i6 0,U i6 0,U i6 0,U i6 0,U i6 0,U i6 0,U i6 0,U i6 0,U i6 0,U i6 0,Sl none 0 0,Sl none 0 0,U i6 0,U i6 0,U i6 0,U i6 0,U i6 0,U i6 0,U i6 0,U i6 0,U i6 0,U i6 0,U i6 0,U i6 0,U i6 0,U i6 0];clear c1 f1 c2 f2;generalize World.setRow _ _ _=w3 at hZ' hB' ⊢)
  exact bodyPost_ret (results_row_tmp Tryz.results47 _ _ (W.heap.size+1) 46 _ _ (U i6 3) rfl hZ' Tryz.underlying46 rfl (by kernel_rfl) rfl) rfl ⟨rfl,hB'.out⟩
end Go.Proofs.YtgjcjhnnopandaaGreat
