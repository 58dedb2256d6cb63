/- The loops of package witness: a position whose sum comes to an end; the terms with which a register breaks. broken of package witness: the terms with which a register breaks. leak of package witness: the first position, way and terms with which a register breaks, and numbers that break it. What Low, High and Break of package witness return. What Break of package witness returns. Safe, Most and Choose of package depth, of what they ask. -/
import Derived.Test.YtgjcjhnnopandaaGreatGq26
namespace Go.Proofs.YtgjcjhnnopandaaGreat
open Go.Value renaming int → U, slice → Sl
open Go.IntKind renaming i64 → i6
set_option maxRecDepth 100000
set_option maxHeartbeats 16000000
open Go.ChangeShapes Go.WideShapes Go.ChangeAt Go.RowKit
set_option linter.unusedVariables false
theorem Own.setB {k:IntKind} {T:TypeId} {w:World} {base B i:Nat} {v u:Value} {zs:List Int} (h:Own k T w base v zs) (hB:B<base):Own k T (w.setCell ⟨B,i,none⟩ u) base v zs:=by
 refine⟨World.ownsRow.kept h.1 (grown_setB w B i u) ?_,h.2⟩
 cases e:v.ownBlock with
 | none=>exact .inl rfl
 | some b=>exact .inr fun q=>by have:=h.block e;cases q;omega
theorem take_rb {E:List (Int×Int)} (h:Rb E) (k:Nat):Rb (E.take k):=fun e he=>h e (List.mem_of_mem_take he)
theorem enB_vd {M:Int} {e:Int×Int} (h:Vd M e) (u:Bool):-M≤enB u e∧enB u e≤M:=by unfold Vd at h; cases u<;>simp only [enB]<;>simp<;>omega
theorem wrch_any (ch n slo shi x0 y0 z0:Int) (g0:Nat) (k a b m kh kw sh sw tp lf bt rt:Int) (wa:Option Addr) (lw cw:Nat) (ba:Option Addr) (lb cb:Nat) (sm ss um us z p l2 h2:Int) (q:Nat) (W:World) (hq:W.heap[q]? = some (.cells #[U i6 ch,U i6 n,U i6 slo,U i6 shi,U i6 x0,U i6 y0,U i6 z0,U i6 0,U i6 0,Sl (some ⟨g0,0,none⟩) 1 1,U i6 0] 63 (0,0))) (hg:W.heap[g0]? = some (.cells #[U i6 k,U i6 a,U i6 b,U i6 m,U i6 kh,U i6 kw,U i6 sh,U i6 sw,U i6 tp,U i6 lf,U i6 bt,U i6 rt,Sl wa lw cw,Sl ba lb cb,U i6 sm,U i6 ss,U i6 um,U i6 us,U i6 z,U i6 p,U i6 l2,U i6 h2] 44 (0,0))) (N L M:Nat) (TLs:Nat→List (Int×Int)) (bi:Int) (hn:n=(N:Int)) (hN:N≤100000000) (hTl:∀ r,r<N→(TLs r).length=L) (hL5:L≤512) (hTb:∀ r,r<N→∀ t∈TLs r,-32768≤t.1∧t.1≤32767) (hPl:∀ r,r<N→Pli M (TLs r))
  (hxy:0≤x0*y0∧x0*y0≤1048576) (hM:x0*y0*z0=(M:Int)) (hM0:M≤16384) (hs:-128≤slo∧slo≤shi∧shi≤127) (hp:-128≤p∧p≤127) (hbi:-2147483648≤bi∧bi≤2147483647)
  (hE:∀ W' (r:Nat),Below W.heap.size W W'→r<N→Calls Tryz.prog 44 #[.pointer (some ⟨q,0,none⟩),U i6 (r:Int)] W' fun e w'=>(∃ v,e=.returned (.tuple #[v,U i6 bi])∧SpV w' v (TLs r))∧Below W'.heap.size W' w')
  (u:Bool) (en:Int) (hx:∃ r,r<N∧enB u (suS (bi,bi) (enL slo shi p (TLs r)))=en) :
  Calls Tryz.prog 17 #[.pointer (some ⟨q,0,none⟩),U i6 en,.bool u] W fun e w'=>(∃ r A v',r<N∧enB u (suS (bi,bi) (enL slo shi p (TLs r)))=en∧Dr M slo shi p u (TLs r) L A∧e=.returned (.agg #[U i6 (r:Int),v'])∧Own .i8 71 w' W.heap.size v' A)∧Below W.heap.size W w':=by
 have HQ:Hid (W.heap[q]? = some (.cells #[U i6 ch,U i6 n,U i6 slo,U i6 shi,U i6 x0,U i6 y0,U i6 z0,U i6 0,U i6 0,Sl (some ⟨g0,0,none⟩) 1 1,U i6 0] 63 (0,0))):=hq
 have HP:Hid (∀ W' (t:Int×Int),Below W.heap.size W W'→(-32768≤t.1∧t.1≤32767)→_):=fun W' t hb ht=>wprd_any ch n slo shi x0 y0 z0 g0 k a b m kh kw sh sw tp lf bt rt wa lw cw ba lb cb sm ss um us z p l2 h2 q W' ((hb.block q (lt_of_heap hq)).trans hq) ((hb.block g0 (lt_of_heap hg)).trans hg) t u hs hp ht
 have HI:Hid (∀ W' v (r:Nat),Below W.heap.size W W'→r<N→SpV W' v (TLs r)→_):=fun W' v r hb hm hv=>winp_any ch n slo shi x0 y0 z0 g0 k a b m kh kw sh sw tp lf bt rt wa lw cw ba lb cb sm ss um us z p l2 h2 q W' ((hb.block q (lt_of_heap hq)).trans hq) ((hb.block g0 (lt_of_heap hg)).trans hg) v (TLs r) u M L hv (hTl r hm) hL5 hxy hM hM0 hs hp (hPl r hm)
 have HTl:Hid (∀ r,r<N→(TLs r).length=L):=hTl
 have HTb:Hid (∀ r,r<N→∀ t∈TLs r,-32768≤t.1∧t.1≤32767):=hTb
 have HE:Hid (∀ W' (r:Nat),Below W.heap.size W W'→r<N→_):=hE
 have HX:Hid (∃ r,r<N∧enB u (suS (bi,bi) (enL slo shi p (TLs r)))=en):=hx
 have HVd:Hid (∀ r,r<N→∀ k,-10000000000≤enB u (suS (bi,bi) ((enL slo shi p (TLs r)).take k))∧enB u (suS (bi,bi) ((enL slo shi p (TLs r)).take k))≤10000000000):=fun r hm k =>
  enB_vd (suS_vd (take_rb (enL_rb hs hp (hTb r hm)) k) (by rw [List.length_take,enL_len,hTl r hm];omega) (by unfold Vd;simp only;omega)) u
 subst hn
 clear hq hg hTl hTb hPl hE hx hxy hM hM0 hs hp
 have hqz:=lt_of_heap HQ.out
 have s0:=(St.start W).new (c:=#[U i6 0,Sl none 0 0]) (t:=33)
 have S0:Hid (St W _ _):=s0
 clear s0
 go_enter Tryz.func17,Tryz.ntmps17
 go_upto_region 1 with fail
 obtain⟨w0,hw0⟩:∃ w0,W.alloc (.cells #[U i6 0,Sl none 0 0] 33)=w0:=⟨_,rfl⟩
 rw [hw0] at S0 ⊢
 clear hw0
 obtain⟨y1,y2,-⟩:=cells_at ((S0.out.below.block q hqz).trans HQ.out)
 go_wp2
 go_loopw [16] (fun ix wr=>∃ r:Nat,r≤N∧ix=U i6 r∧(∀ j,j<r→enB u (suS (bi,bi) (enL slo shi p (TLs j)))≠en)∧St W wr [(W.heap.size,#[U i6 0,Sl none 0 0],33)]) (fun i _=>N-(intOf i).toNat)
 case atStart=>exact⟨0,Nat.zero_le _,rfl,fun j hj=>absurd hj (Nat.not_lt_zero _),S0.out⟩
 obtain⟨r,hm,rfl,hno,hS⟩:=hrel
 have HNo:Hid (∀ j,j<r→enB u (suS (bi,bi) (enL slo shi p (TLs j)))≠en):=hno
 have Sr:Hid (St W wr _):=hS
 clear hno hS S0 y1 y2
 by_cases hmN:r<N
 rotate_left
 ·obtain⟨j,h1,h2⟩:=HX.out
  exact absurd h2 (HNo.out j (by omega))
 have hmN2:(r:Int)<(N:Int):=by omega
 go_wp2_with fail
 refine Calls.mono (HE.out _ r Sr.out.below hmN) ?_
 rintro e w1 ⟨⟨v,rfl,hOv⟩,hb⟩
 have S1:Hid (St W w1 _):=Sr.out.call hb
 have hOv2:=hOv
 obtain⟨va,vc,rfl,v2,v3,v4⟩:=hOv
 rw [HTl.out r hmN] at v2 v4 hOv2
 unfold maxLen at v3
 have HV:Hid (0<L→_):=v4
 have HSV:Hid (SpV w1 (.slice va L vc) (TLs r)):=hOv2
 rw [HTl.out r hmN]
 clear hb Sr v4 hOv2
 go_wp2
 go_loopw [9,27] (fun sx ix wq=>∃ j:Nat,j≤L∧ix=U i6 j∧sx=U i6 (enB u (suS (bi,bi) ((enL slo shi p (TLs r)).take j)))∧St W wq [(W.heap.size,#[U i6 0,Sl none 0 0],33)]∧Below w1.heap.size w1 wq) (fun _ i _=>L-(intOf i).toNat)
 case atStart=>exact⟨0,Nat.zero_le _,rfl,by rw [List.take_zero];exact (congrArg _ (enB_one u bi)).symm,S1.out,Below.refl _ _⟩
 obtain⟨j,hj,rfl,rfl,hS,hB⟩:=hrel
 have Sk:Hid (St W wr _):=hS
 have BK:Hid (Below w1.heap.size w1 wr):=hB
 clear S1 hS hB
 have hle:=HTl.out r hmN
 by_cases hjL:j<L
 ·have hkl:Hid (j<(TLs r).length):=by unfold Hid;rw [hle];exact hjL
  obtain⟨gt,ot,hvE,hc⟩:=HV.out (by omega)
  subst hvE
  obtain⟨q1,q2⟩:=SpV.at (fun x y h=>(BK.out.cell (World.block_lt_of_cell? w1 _ (hc x y h))).trans (hc x y h)) hkl.out
  obtain⟨ww,hww⟩:∃ x,((TLs r).getD j (0,0)).1=x:=⟨_,rfl⟩
  obtain⟨pp,hpp⟩:∃ x,((TLs r).getD j (0,0)).2=x:=⟨_,rfl⟩
  rw [hww] at q1
  rw [hpp] at q2
  have htb:-32768≤ww∧ww≤32767:=by have:=HTb.out r hmN _ (getD_in hkl.out);rw [hww] at this;exact this
  have hnx:=HVd.out r hmN (j+1)
  have htk:=suS_take (bi,bi) (E:=enL slo shi p (TLs r)) (k:=j) (d:=(0,0)) (by rw [enL_len];exact hkl.out) (enL_getD slo shi p hkl.out (0,0) (0,0))
  rw [show (TLs r).getD j (0,0)=(ww,pp) from Prod.ext hww hpp] at htk
  have hen:=congrArg (enB u) htk
  rw [enB_pl] at hen
  obtain⟨E0,hE0⟩:∃ E0,enB u (suS (bi,bi) ((enL slo shi p (TLs r)).take j))=E0:=⟨_,rfl⟩
  obtain⟨E1,hE1⟩:∃ E1,enB u (suS (bi,bi) ((enL slo shi p (TLs r)).take (j+1)))=E1:=⟨_,rfl⟩
  obtain⟨d,hd⟩:∃ d,enB u (tmE slo shi p (ww,pp))=d:=⟨_,rfl⟩
  have hcu:=HVd.out r hmN j
  rw [hE1] at hnx hen
  rw [hE0] at hcu hen
  rw [hd] at hen
  rw [hE0]
  have HE1:Hid (enB u (suS (bi,bi) ((enL slo shi p (TLs r)).take (j+1)))=E1):=hE1
  have HPc:Hid (∀ W',Below W.heap.size W W'→_):=fun W' hb=>HP.out W' (ww,pp) hb htb
  simp only [hd] at HPc
  have s9:=Sk.out.new (c:=#[U i6 ww,U i6 pp]) (t:=91)
  clear hc hww hpp htk hE0 hE1 hd
  go_upto_region 8 with fail
  obtain⟨w10,hw10⟩:∃ w',wr.alloc (.cells #[U i6 ww,U i6 pp] 91)=w':=⟨_,rfl⟩
  obtain⟨Be,hBe⟩:∃ B,wr.heap.size=B:=⟨_,rfl⟩
  have hb10:Below w1.heap.size w1 w10:=by rw [← hw10];exact BK.out.alloc BK.out.size _
  rw [hw10,hBe] at s9
  rw [hw10,hBe]
  clear hw10 hBe q1 q2 Sk
  have S10:Hid (St W w10 _):=s9
  have B10:Hid (Below w1.heap.size w1 w10):=hb10
  clear s9 hb10
  obtain⟨cx,fx,zx,-⟩:=S10.out.rules
  go_wp2_with fail
  refine Calls.mono (HPc.out _ S10.out.below) ?_
  rintro e w11 ⟨rfl,hb⟩
  have S11:Hid (St W w11 _):=S10.out.call hb
  have B11:Hid (Below w1.heap.size w1 w11):=B10.out.trans (hb.mono B10.out.size)
  clear hb S10 B10 cx fx zx
  go_wp2
  go_roundw
  case rel=>exact⟨j+1,by omega,by go_num,by rw [HE1.out,hen],S11.out.tail,B11.out⟩
  case measure=>simp [intOf];omega
 obtain rfl:L=j:=by omega
 have hfull:(enL slo shi p (TLs r)).take L=enL slo shi p (TLs r):=List.take_of_length_le (by rw [enL_len,hle];exact Nat.le_refl _)
 rw [hfull]
 obtain⟨E0,hE0⟩:∃ E0,enB u (suS (bi,bi) (enL slo shi p (TLs r)))=E0:=⟨_,rfl⟩
 have HE0:Hid (enB u (suS (bi,bi) (enL slo shi p (TLs r)))=E0):=hE0
 rw [hE0]
 clear hE0 hfull hle hjL hj
 by_cases heq:E0=en
 ·subst heq
  have HCI:Hid _:=HI.out wr (.slice va L vc) r Sk.out.below hmN (HSV.out.below BK.out)
  go_wp2_with fail
  refine Calls.mono HCI.out ?_
  rintro e w12 ⟨⟨A,hA,v',rfl,hO⟩,hb⟩
  obtain⟨a9,c9,hv9,-⟩:=hO.row
  rw [hA.len] at hv9
  subst hv9
  have S12:Hid (St W w12 _):=Sk.out.call hb
  have HO:Hid (Own .i8 71 w12 wr.heap.size (.slice a9 M c9) A):=hO
  have HA:Hid (Dr M slo shi p u (TLs r) L A):=hA
  have hz12:=lt_of_heap Sk.out.h1
  clear hb hO hA HCI HI HSV
  obtain⟨c0,f0,z0',-⟩:=S12.out.rules
  have SZ:Hid (St W ((w12.setCell ⟨W.heap.size,0,none⟩ (U i6 (r:Int))).setCell ⟨W.heap.size,1,none⟩ (.slice a9 M c9)) _):=S12.out.set2 (u:=U i6 (r:Int)) (v:=.slice a9 M c9) (by simp)
  go_wp2
  exact bodyPost_ret (v:=.agg #[U i6 (r:Int),Sl a9 M c9]) (by simp [results,Tryz.results17,go_sem, *]) rfl ⟨⟨r,A,_,hmN,HE0.out,HA.out,rfl,(((HO.out.setB hz12).setB hz12).base (Nat.le_of_lt hz12))⟩,SZ.out.below⟩
 ·have heq2:(E0 == en)=false:=by simp [heq]
  have HNoN:Hid (∀ j,j<r+1→enB u (suS (bi,bi) (enL slo shi p (TLs j)))≠en):=fun j hj=>by
   rcases Nat.lt_or_ge j r with h1 | h1
   ·exact HNo.out j h1
   ·obtain rfl:j=r:=by omega
    rw [HE0.out]
    exact heq
  go_wp2
  go_roundw
  case rel=>exact⟨r+1,by omega,by go_num,fun j hj=>HNoN.out j hj,Sk.out⟩
  case measure=>simp [intOf];omega
def frB (d j:Nat):Nat:=if j=0 then 0 else (j-1) / d*d
theorem frB_succ (d j:Nat):frB d (j+1)=j / d*d:=by unfold frB;rw [if_neg (by omega)];rfl
theorem frB_on {d j:Nat} (hd:0<d) (h:¬ j % d=0):frB d j=j / d*d:=by
 have h0:j≠0:=fun q=>h (by rw [q];exact Nat.zero_mod d)
 unfold frB
 rw [if_neg h0]
 have hm:=Nat.mod_lt j hd
 have hdm:=Nat.div_add_mod j d
 have:(j-1) / d=j / d:=by
  have:j-1=d*(j / d)+(j % d-1):=by omega
  rw [this,Nat.mul_add_div hd,Nat.div_eq_of_lt (show j % d-1<d by omega),Nat.add_zero]
 rw [this]
theorem blk_at {d j:Nat} (h:j % d=0):j / d*d=j:=by
 have:=Nat.div_add_mod j d
 rw [h,Nat.mul_comm] at this
 omega
theorem tmod_nat (a b:Nat):(a:Int).tmod (b:Int)=((a % b:Nat):Int):=by
 rw [Int.tmod_eq_emod_of_nonneg (by omega)]
 exact (Int.natCast_emod a b).symm
theorem wbrk_any (ch n slo shi x0 y0 z0:Int) (g0:Nat) (k a b m kh kw sh sw tp lf bt rt:Int) (wa:Option Addr) (lw cw:Nat) (ba:Option Addr) (lb cb:Nat) (sm ss um us z p l2 h2:Int) (q:Nat) (W:World) (hq:W.heap[q]? = some (.cells #[U i6 ch,U i6 n,U i6 slo,U i6 shi,U i6 x0,U i6 y0,U i6 z0,U i6 0,U i6 0,Sl (some ⟨g0,0,none⟩) 1 1,U i6 0] 63 (0,0))) (hg:W.heap[g0]? = some (.cells #[U i6 k,U i6 a,U i6 b,U i6 m,U i6 kh,U i6 kw,U i6 sh,U i6 sw,U i6 tp,U i6 lf,U i6 bt,U i6 rt,Sl wa lw cw,Sl ba lb cb,U i6 sm,U i6 ss,U i6 um,U i6 us,U i6 z,U i6 p,U i6 l2,U i6 h2] 44 (0,0))) (v:Value) (TL:List (Int×Int)) (u:Bool) (d L:Nat) (hv:SpV W v TL) (hL:TL.length=L) (hL5:L≤512) (hTb:∀ t∈TL,-32768≤t.1∧t.1≤32767)
  (hs:-128≤slo∧slo≤shi∧shi≤127) (hp:-128≤p∧p≤127) (hd:0<d) (hd9:d≤9223372036854775807) :
  Calls Tryz.prog 51 #[.pointer (some ⟨q,0,none⟩),v,U i6 (d:Int),.bool u] W fun e w'=>(∃ f g:Nat,e=.returned (.tuple #[U i6 (f:Int),U i6 (g:Int)])∧(Brk d u (enL slo shi p TL) f g∨(f=0∧g=0∧Fts d u (enL slo shi p TL) L)))∧Below W.heap.size W w':=by
 have HP:Hid (∀ W' (t:Int×Int),Below W.heap.size W W'→(-32768≤t.1∧t.1≤32767)→_):=fun W' t hb ht=>wprd_any ch n slo shi x0 y0 z0 g0 k a b m kh kw sh sw tp lf bt rt wa lw cw ba lb cb sm ss um us z p l2 h2 q W' ((hb.block q (lt_of_heap hq)).trans hq) ((hb.block g0 (lt_of_heap hg)).trans hg) t u hs hp ht
 have HJ:Hid (∀ x W,_):=wint_any
 have HTb:Hid (∀ t∈TL,-32768≤t.1∧t.1≤32767):=hTb
 have hrb:=enL_rb hs hp hTb
 have HVd:Hid (∀ k,-10000000000≤enB u (psU d (enL slo shi p TL) k)∧enB u (psU d (enL slo shi p TL) k)≤10000000000):=fun k=>enB_vd (psU_vd hrb (by rw [enL_len];omega) k) u
 have HVe:Hid (∀ k,-10000000000≤enB u (psm d (enL slo shi p TL) k)∧enB u (psm d (enL slo shi p TL) k)≤10000000000):=fun k=>enB_vd (psm_vd hrb (by rw [enL_len];omega)) u
 have HVt:Hid (∀ t∈TL,-10000000000≤enB u (tmE slo shi p t)∧enB u (tmE slo shi p t)≤10000000000):=fun t ht=>enB_vd (hrb.vd _ (List.mem_map_of_mem ht)) u
 have HL:Hid (TL.length=L):=hL
 obtain⟨va,vc,rfl,v2,v3,v4⟩:=hv
 rw [hL] at v2 v4 ⊢
 have HV:Hid (0<L→_):=v4
 unfold maxLen at v3
 have hd0:((d:Int) == 0)=false:=by simp;omega
 have hd1:(d:Int)≠0:=by omega
 clear hq hg hTb hs hp hrb hL v4
 go_enter Tryz.func51,Tryz.ntmps51
 go_wp2
 go_loopw [8,10,16] (fun fx sx ix wr=>∃ j:Nat,j≤L∧ix=U i6 j∧fx=U i6 ((frB d j:Nat):Int)∧sx=U i6 (enB u (psU d (enL slo shi p TL) j))∧Fts d u (enL slo shi p TL) j∧Below W.heap.size W wr) (fun _ _ i _=>L-(intOf i).toNat)
 case atStart=>exact⟨0,Nat.zero_le _,rfl,rfl,by unfold psU;rw [if_pos rfl];exact (congrArg _ (enB_one u 0)).symm,fun k hk=>absurd hk (Nat.not_lt_zero _),Below.refl _ _⟩
 obtain⟨j,hj,rfl,rfl,rfl,hF,hB⟩:=hrel
 have HF:Hid (Fts d u (enL slo shi p TL) j):=hF
 have BK:Hid (Below W.heap.size W wr):=hB
 clear hF hB
 by_cases hjL:¬ j<L
 ·obtain rfl:L=j:=by omega
  go_wp2
  go_ret2
  exact⟨⟨0,0,rfl,.inr ⟨rfl,rfl,HF.out⟩⟩,BK.out⟩
 have hjL:j<L:=by omega
 have hkl:Hid (j<TL.length):=by unfold Hid;rw [HL.out];exact hjL
 obtain⟨gt,ot,hvE,hc⟩:=HV.out (by omega)
 subst hvE
 obtain⟨q1,q2⟩:=SpV.at (fun x y h=>(BK.out.cell (World.block_lt_of_cell? W _ (hc x y h))).trans (hc x y h)) hkl.out
 obtain⟨ww,hww⟩:∃ x,(TL.getD j (0,0)).1=x:=⟨_,rfl⟩
 obtain⟨pp,hpp⟩:∃ x,(TL.getD j (0,0)).2=x:=⟨_,rfl⟩
 rw [hww] at q1
 rw [hpp] at q2
 have hmem:=getD_in hkl.out
 have htE:=enL_getD slo shi p hkl.out (0,0) (0,0)
 rw [show TL.getD j (0,0)=(ww,pp) from Prod.ext hww hpp] at htE hmem
 have htb:-32768≤ww∧ww≤32767:=HTb.out _ hmem
 have hpb:=HVt.out _ hmem
 obtain⟨D,hD⟩:∃ D,enB u (tmE slo shi p (ww,pp))=D:=⟨_,rfl⟩
 have HPc:Hid (∀ W',Below W.heap.size W W'→_):=fun W' hb=>HP.out W' (ww,pp) hb htb
 rw [hD] at hpb
 simp only [hD] at HPc
 have hlE:j<(enL slo shi p TL).length:=by rw [enL_len];exact hkl.out
 have HDe:Hid (enB u ((enL slo shi p TL).getD j (0,0))=D):=by unfold Hid;rw [htE];exact hD
 have h0v:=HVd.out j
 have h1v:=HVe.out j
 obtain⟨P0,hP0⟩:∃ x,enB u (psU d (enL slo shi p TL) j)=x:=⟨_,rfl⟩
 obtain⟨P1,hP1⟩:∃ x,enB u (psm d (enL slo shi p TL) j)=x:=⟨_,rfl⟩
 have HP1:Hid (enB u (psm d (enL slo shi p TL) j)=P1):=hP1
 have HPN:Hid (enB u (psU d (enL slo shi p TL) (j+1))=P1):=by unfold Hid;rw [psU_succ];exact hP1
 have hz:j % d=0→D=P1:=fun h=>by rw [← hP1,psm_0 hd hlE h htE,enB_pl,enB_one,hD];omega
 have ho:¬ j % d=0→P0+D=P1:=fun h=>by rw [← hP1,psm_on hd hlE h htE,enB_pl,hP0,hD]
 rw [hP0] at h0v ⊢
 rw [hP1] at h1v
 have HlE:Hid (j<(enL slo shi p TL).length):=hlE
 have hmd:=tmod_nat j d
 have hml:=Nat.mod_lt j hd
 have HFs:Hid (frB d (j+1)=j / d*d):=frB_succ d j
 have s9:=(St.start wr).new (c:=#[U i6 ww,U i6 pp]) (t:=91)
 clear hc hww hpp hP0 hP1 hD htE hmem hlE
 go_upto_region 5 with fail
 obtain⟨w10,hw10⟩:∃ w',wr.alloc (.cells #[U i6 ww,U i6 pp] 91)=w':=⟨_,rfl⟩
 rw [hw10] at s9 ⊢
 obtain⟨Be,hBe⟩:∃ B,wr.heap.size=B:=⟨_,rfl⟩
 have B10:Hid (Below W.heap.size W w10):=BK.out.trans (s9.below.mono BK.out.size)
 clear BK
 rw [hBe] at s9 ⊢
 have S10:Hid (St wr w10 _):=s9
 clear s9 hw10 q1 q2 hBe
 obtain⟨cx,fx,zx,-⟩:=S10.out.rules
 have e1:((j+1:Nat):Int)=(j:Int)+1:=by omega
 have hjb:(j:Int)+1≤1000:=by omega
 by_cases hjd:j % d=0
 ·have hb0:(((j % d:Nat):Int) == 0)=true:=by simp [hjd]
  have HFr:Hid (j / d*d=j):=blk_at hjd
  have HS:Hid (D=P1):=hz hjd
  have hsb:-10000000000≤D∧D≤10000000000:=by have:=HS.out;omega
  clear hz ho
  go_wp2_with fail
  refine Calls.mono (HPc.out _ B10.out) ?_
  rintro e w11 ⟨rfl,hb⟩
  have B11:Hid (Below W.heap.size W w11):=B10.out.trans (hb.mono B10.out.size)
  clear hb S10 cx fx zx HPc HP
  go_wp2_with fail
  refine (HJ.out D _).mono ?_
  rintro e w12 ⟨rfl,hb⟩
  have B12:Hid (Below W.heap.size W w12):=B11.out.trans (hb.mono B11.out.size)
  clear hb
  obtain⟨c,hc⟩:∃ c,f16 D=c:=⟨_,rfl⟩
  rw [hc]
  cases c with
  | false =>
   have HBr:Hid (Brk d u (enL slo shi p TL) j (j+1)):=brk_one HlE.out (by rw [HDe.out];exact hc)
   go_wp2
   go_ret2
   exact⟨⟨j,j+1,rfl,.inl HBr.out⟩,B12.out⟩
  | true =>
   go_wp2_with fail
   rw [HS.out]
   refine (HJ.out P1 _).mono ?_
   rintro e w13 ⟨rfl,hb⟩
   have B13:Hid (Below W.heap.size W w13):=B12.out.trans (hb.mono B12.out.size)
   clear hb
   obtain⟨c',hc'⟩:∃ c,f16 P1=c:=⟨_,rfl⟩
   rw [hc']
   cases c' with
   | false =>
    have HBr:Hid (Brk d u (enL slo shi p TL) j (j+1)):=by have:=brk_blk (u:=u) hd HlE.out (by rw [HP1.out];exact hc');rw [HFr.out] at this;exact this
    go_wp2
    go_ret2
    exact⟨⟨j,j+1,rfl,.inl HBr.out⟩,B13.out⟩
   | true =>
    have HFn:Hid (Fts d u (enL slo shi p TL) (j+1)):=HF.out.succ (by rw [HDe.out];exact hc) (by rw [HP1.out];exact hc')
    go_wp2
    go_roundw
    case rel=>exact⟨j+1,by omega,by go_num,by rw [HFs.out,HFr.out],by rw [HPN.out],HFn.out,B13.out⟩
    case measure=>simp [intOf];omega
 ·have hb0:(((j % d:Nat):Int) == 0)=false:=by simp;omega
  have HFr:Hid (j / d*d=frB d j):=(frB_on hd hjd).symm
  have HS:Hid (P0+D=P1):=ho hjd
  have hsb:-10000000000≤P0+D∧P0+D≤10000000000:=by have:=HS.out;omega
  clear hz ho
  go_wp2_with fail
  refine Calls.mono (HPc.out _ B10.out) ?_
  rintro e w11 ⟨rfl,hb⟩
  have B11:Hid (Below W.heap.size W w11):=B10.out.trans (hb.mono B10.out.size)
  clear hb S10 cx fx zx HPc HP
  go_wp2_with fail
  refine (HJ.out D _).mono ?_
  rintro e w12 ⟨rfl,hb⟩
  have B12:Hid (Below W.heap.size W w12):=B11.out.trans (hb.mono B11.out.size)
  clear hb
  obtain⟨c,hc⟩:∃ c,f16 D=c:=⟨_,rfl⟩
  rw [hc]
  cases c with
  | false =>
   have HBr:Hid (Brk d u (enL slo shi p TL) j (j+1)):=brk_one HlE.out (by rw [HDe.out];exact hc)
   go_wp2
   go_ret2
   exact⟨⟨j,j+1,rfl,.inl HBr.out⟩,B12.out⟩
  | true =>
   go_wp2_with fail
   rw [HS.out]
   refine (HJ.out P1 _).mono ?_
   rintro e w13 ⟨rfl,hb⟩
   have B13:Hid (Below W.heap.size W w13):=B12.out.trans (hb.mono B12.out.size)
   clear hb
   obtain⟨c',hc'⟩:∃ c,f16 P1=c:=⟨_,rfl⟩
   rw [hc']
   cases c' with
   | false =>
    have HBr:Hid (Brk d u (enL slo shi p TL) (frB d j) (j+1)):=by have:=brk_blk (u:=u) hd HlE.out (by rw [HP1.out];exact hc');rw [HFr.out] at this;exact this
    go_wp2
    go_ret2
    exact⟨⟨(frB d j),j+1,rfl,.inl HBr.out⟩,B13.out⟩
   | true =>
    have HFn:Hid (Fts d u (enL slo shi p TL) (j+1)):=HF.out.succ (by rw [HDe.out];exact hc) (by rw [HP1.out];exact hc')
    go_wp2
    go_roundw
    case rel=>exact⟨j+1,by omega,by go_num,by rw [HFs.out,HFr.out],by rw [HPN.out],HFn.out,B13.out⟩
    case measure=>simp [intOf];omega
theorem cutT {L f g:Nat} {TL:List (Int×Int)} (hL:TL.length=L) (hg:g≤L):((TL.drop f).take (g-f)).length=g-f:=by rw [List.length_take,List.length_drop];omega
theorem SpV.cutT {w:World} {a:Option Addr} {L c f g:Nat} {TL:List (Int×Int)} (h:SpV w (.slice a L c) TL) (hL:TL.length=L) (hfg:f<g) (hg:g≤L):∃ gt ot,a=some ⟨gt,ot,none⟩∧L≤c∧SpV w (.slice (some ⟨gt,ot+f*2,none⟩) (g-f) (c-f)) ((TL.drop f).take (g-f)):=by
 obtain⟨a',c',e,h2,h3,h4⟩:=h
 obtain⟨gt,ot,rfl,hc⟩:=h4 (by omega)
 cases e
 refine⟨gt,ot,rfl,by omega,⟨some ⟨gt,ot+f*2,none⟩,c-f,by rw [Go.Proofs.YtgjcjhnnopandaaGreat.cutT hL hg],by rw [Go.Proofs.YtgjcjhnnopandaaGreat.cutT hL hg];omega,by omega,fun _=>⟨gt,ot+f*2,rfl,fun j u hj=>?_⟩⟩⟩
 have hj2:j<(g-f)*2:=by
  have:=(List.getElem?_eq_some_iff.1 hj).1
  rw [p2_len,Go.Proofs.YtgjcjhnnopandaaGreat.cutT hL hg] at this
  exact this
 rw [p2_take,List.getElem?_take,if_pos hj2,p2_drop,List.getElem?_drop] at hj
 rw [Nat.add_assoc]
 exact hc _ _ hj
theorem wlk_any (ch n slo shi x0 y0 z0:Int) (g0:Nat) (k a b m kh kw sh sw tp lf bt rt:Int) (wa:Option Addr) (lw cw:Nat) (ba:Option Addr) (lb cb:Nat) (sm ss um us z p l2 h2:Int) (q:Nat) (W:World) (hq:W.heap[q]? = some (.cells #[U i6 ch,U i6 n,U i6 slo,U i6 shi,U i6 x0,U i6 y0,U i6 z0,U i6 0,U i6 0,Sl (some ⟨g0,0,none⟩) 1 1,U i6 0] 63 (0,0))) (hg:W.heap[g0]? = some (.cells #[U i6 k,U i6 a,U i6 b,U i6 m,U i6 kh,U i6 kw,U i6 sh,U i6 sw,U i6 tp,U i6 lf,U i6 bt,U i6 rt,Sl wa lw cw,Sl ba lb cb,U i6 sm,U i6 ss,U i6 um,U i6 us,U i6 z,U i6 p,U i6 l2,U i6 h2] 44 (0,0))) (N L M d:Nat) (TLs:Nat→List (Int×Int)) (bi:Int) (hn:n=(N:Int)) (hN:N≤100000000) (hTl:∀ r,r<N→(TLs r).length=L) (hL5:L≤512) (hTb:∀ r,r<N→∀ t∈TLs r,-32768≤t.1∧t.1≤32767) (hPl:∀ r,r<N→Pli M (TLs r))
  (hxy:0≤x0*y0∧x0*y0≤1048576) (hM:x0*y0*z0=(M:Int)) (hM0:M≤16384) (hs:-128≤slo∧slo≤shi∧shi≤127) (hp:-128≤p∧p≤127) (hd:0<d) (hd9:d≤9223372036854775807)
  (hE:∀ W' (r:Nat),Below W.heap.size W W'→r<N→Calls Tryz.prog 44 #[.pointer (some ⟨q,0,none⟩),U i6 (r:Int)] W' fun e w'=>(∃ v,e=.returned (.tuple #[v,U i6 bi])∧SpV w' v (TLs r))∧Below W'.heap.size W' w') :
  Calls Tryz.prog 30 #[.pointer (some ⟨q,0,none⟩),U i6 (d:Int)] W fun e w'=>((∃ (r:Nat) (u:Bool) (f g:Nat) (A:List Int) (v':Value),r<N∧Brk d u (enL slo shi p (TLs r)) f g∧Dr M slo shi p u (((TLs r).drop f).take (g-f)) (g-f) A∧e=.returned (.tuple #[.agg #[U i6 (r:Int),U i6 (f:Int),U i6 (g:Int),v'],.bool true])∧Own .i8 71 w' W.heap.size v' A) ∨
   (e=.returned (.tuple #[.agg #[U i6 0,U i6 0,U i6 0,Sl none 0 0],.bool false])∧∀ (r:Nat),r<N→∀ u:Bool,Fts d u (enL slo shi p (TLs r)) L))∧Below W.heap.size W w':=by
 have HQ:Hid (W.heap[q]? = some (.cells #[U i6 ch,U i6 n,U i6 slo,U i6 shi,U i6 x0,U i6 y0,U i6 z0,U i6 0,U i6 0,Sl (some ⟨g0,0,none⟩) 1 1,U i6 0] 63 (0,0))):=hq
 have HB:Hid (∀ (W':World) (v:Value) (r:Nat) (u:Bool),Below W.heap.size W W'→r<N→SpV W' v (TLs r)→_):=fun W' v r u hb hr hv=>wbrk_any ch n slo shi x0 y0 z0 g0 k a b m kh kw sh sw tp lf bt rt wa lw cw ba lb cb sm ss um us z p l2 h2 q W' ((hb.block q (lt_of_heap hq)).trans hq) ((hb.block g0 (lt_of_heap hg)).trans hg) v (TLs r) u d L hv (hTl r hr) hL5 (hTb r hr) hs hp hd hd9
 have HI:Hid (∀ (W':World) (v:Value) (r:Nat) (u:Bool) (f g:Nat),Below W.heap.size W W'→r<N→g≤L→SpV W' v (((TLs r).drop f).take (g-f))→_):=fun W' v r u f g hb hr hg' hv=>winp_any ch n slo shi x0 y0 z0 g0 k a b m kh kw sh sw tp lf bt rt wa lw cw ba lb cb sm ss um us z p l2 h2 q W' ((hb.block q (lt_of_heap hq)).trans hq) ((hb.block g0 (lt_of_heap hg)).trans hg) v (((TLs r).drop f).take (g-f)) u M (g-f) hv (cutT (hTl r hr) hg') (by omega) hxy hM hM0 hs hp (hPl r hr).cut
 have HTl:Hid (∀ r,r<N→(TLs r).length=L):=hTl
 have HE:Hid (∀ W' (r:Nat),Below W.heap.size W W'→r<N→_):=hE
 have HEl:Hid (∀ r,r<N→(enL slo shi p (TLs r)).length=L):=fun r hr=>by rw [enL_len,hTl r hr]
 subst hn
 clear hq hg hTl hTb hPl hE hxy hM hM0 hs hp
 have hqz:=lt_of_heap HQ.out
 have s0:=(St.start W).new (c:=#[U i6 0,U i6 0,U i6 0,Sl none 0 0]) (t:=54)
 have S0:Hid (St W _ _):=s0
 clear s0
 go_enter Tryz.func30,Tryz.ntmps30
 go_upto_region 1 with fail
 obtain⟨w0,hw0⟩:∃ w0,W.alloc (.cells #[U i6 0,U i6 0,U i6 0,Sl none 0 0] 54)=w0:=⟨_,rfl⟩
 rw [hw0] at S0 ⊢
 clear hw0
 obtain⟨y1,y2,-⟩:=cells_at ((S0.out.below.block q hqz).trans HQ.out)
 go_wp2
 go_loopw [17] (fun ix wr=>∃ r:Nat,r≤N∧ix=U i6 r∧(∀ k:Nat,k<r→∀ u:Bool,Fts d u (enL slo shi p (TLs k)) L)∧St W wr ((W.heap.size,#[U i6 0,U i6 0,U i6 0,Sl none 0 0],54) :: [])) (fun i _=>N-(intOf i).toNat)
 case atStart=>exact⟨0,Nat.zero_le _,rfl,fun j hj=>absurd hj (Nat.not_lt_zero _),S0.out⟩
 obtain⟨r,hr,rfl,hno,hS⟩:=hrel
 have HNo:Hid (∀ k:Nat,k<r→∀ u:Bool,Fts d u (enL slo shi p (TLs k)) L):=hno
 have Sr:Hid (St W wr _):=hS
 clear hno hS S0 y1 y2
 by_cases hrN:r<N
 rotate_left
 ·obtain rfl:N=r:=by omega
  obtain⟨c0,f0,z0',-⟩:=Sr.out.rules
  have SZ:Hid (St W ((((wr.setCell ⟨W.heap.size,0,none⟩ (U i6 0)).setCell ⟨W.heap.size,1,none⟩ (U i6 0)).setCell ⟨W.heap.size,2,none⟩ (U i6 0)).setCell ⟨W.heap.size,3,none⟩ (.slice none 0 0)) _):=(((Sr.out.set (i:=0) (v:=U i6 0) (by simp)).set (i:=1) (v:=U i6 0) (by simp)).set (i:=2) (v:=U i6 0) (by simp)).set (i:=3) (v:=.slice none 0 0) (by simp)
  go_wp2
  exact bodyPost_ret (v:=.tuple #[.agg #[U i6 0,U i6 0,U i6 0,Sl none 0 0],.bool false]) (by simp [results,Tryz.results30,go_sem, *]) rfl ⟨.inr ⟨rfl,HNo.out⟩,SZ.out.below⟩
 have hrN2:(r:Int)<(N:Int):=by omega
 go_wp2_with fail
 refine Calls.mono (HE.out _ r Sr.out.below hrN) ?_
 rintro e w1 ⟨⟨v,rfl,hOv⟩,hb⟩
 have S1:Hid (St W w1 _):=Sr.out.call hb
 obtain⟨va,vc,rfl,-⟩:=id hOv
 have HSV:Hid (SpV w1 (.slice va (TLs r).length vc) (TLs r)):=hOv
 rw [HTl.out r hrN] at HSV ⊢
 clear hb Sr hOv
 have s2:=S1.out.new (c:=#[.bool true,.bool false]) (t:=66)
 go_wp2
 obtain⟨w2,hw2⟩:∃ w2,w1.alloc (.cells #[.bool true,.bool false] 66)=w2:=⟨_,rfl⟩
 obtain⟨Bw,hBw⟩:∃ B,w1.heap.size=B:=⟨_,rfl⟩
 have hb2:Below w1.heap.size w1 w2:=by rw [← hw2];exact bal _ _
 rw [hw2,hBw] at s2
 rw [hw2,hBw]
 have S2:Hid (St W w2 _):=s2
 have B2:Hid (Below w1.heap.size w1 w2):=hb2
 clear s2 S1 hw2 hBw hb2
 go_loopw [28] (fun ix wq=>∃ j:Nat,j≤2∧ix=U i6 j∧(0<j→Fts d true (enL slo shi p (TLs r)) L)∧(1<j→Fts d false (enL slo shi p (TLs r)) L)∧St W wq ((Bw,#[.bool true,.bool false],66) :: (W.heap.size,#[U i6 0,U i6 0,U i6 0,Sl none 0 0],54) :: [])∧Below w1.heap.size w1 wq) (fun i _=>2-(intOf i).toNat)
 case atStart=>exact⟨0,Nat.zero_le _,rfl,fun h=>absurd h (Nat.lt_irrefl _),fun h=>absurd h (by omega),S2.out,B2.out⟩
 obtain⟨j,hj,rfl,hF1,hF2,hS,hB⟩:=hrel
 have HF1:Hid (0<j→Fts d true (enL slo shi p (TLs r)) L):=hF1
 have HF2:Hid (1<j→Fts d false (enL slo shi p (TLs r)) L):=hF2
 have Sk:Hid (St W wr _):=hS
 have BK:Hid (Below w1.heap.size w1 wr):=hB
 clear S2 B2 hF1 hF2 hS hB
 have hEL:=HEl.out r hrN
 have hrs:(r:Int)+1≤100000000:=by omega
 obtain⟨cx,fx,zx,c0,f0,z0',-⟩:=Sk.out.rules
 rcases (show j=0∨j=1∨j=2 by omega) with rfl | rfl | rfl
 rotate_right
 ·have HNN:Hid (∀ k:Nat,k<r+1→∀ u:Bool,Fts d u (enL slo shi p (TLs k)) L):=fun k hk u=>by
   rcases Nat.lt_or_ge k r with h1 | h1
   ·exact HNo.out k h1 u
   ·obtain rfl:k=r:=by omega
    cases u
    ·exact HF2.out (by decide)
    ·exact HF1.out (by decide)
  go_wp2
  go_roundw
  case rel=>exact⟨r+1,by omega,by go_num,HNN.out,Sk.out.tail⟩
  case measure=>simp [intOf];omega
 ·have HCB:Hid _:=HB.out wr (.slice va L vc) r true (BK.out |> fun b=>Sk.out.below) hrN (HSV.out.below BK.out)
  go_wp2_with fail
  refine Calls.mono HCB.out ?_
  rintro e w3 ⟨⟨f,g,rfl,hR⟩,hb⟩
  have S3:Hid (St W w3 _):=Sk.out.call hb
  have B3:Hid (Below w1.heap.size w1 w3):=BK.out.trans (hb.mono BK.out.size)
  clear hb HCB Sk BK cx fx zx c0 f0 z0'
  rcases hR with hR | ⟨rfl,rfl,hR⟩
  ·have HR:Hid (Brk d true (enL slo shi p (TLs r)) f g):=hR
   obtain⟨hfg,hgl,-⟩:=hR
   rw [hEL] at hgl
   have hfg2:(f:Int)<(g:Int):=by omega
   obtain⟨gt,ot,rfl,hLc,hcut⟩:=(HSV.out.below B3.out).cutT (HTl.out r hrN) hfg hgl
   have HCI:Hid _:=HI.out w3 _ r true f g S3.out.below hrN hgl hcut
   go_wp2_with fail
   refine Calls.mono HCI.out ?_
   rintro e w4 ⟨⟨A,hA,v',rfl,hO⟩,hb⟩
   obtain⟨a9,c9,hv9,-⟩:=hO.row
   rw [hA.len] at hv9
   subst hv9
   have S4:Hid (St W w4 ((W.heap.size,#[U i6 0,U i6 0,U i6 0,Sl none 0 0],54) :: [])):=(S3.out.call hb).tail
   have HO:Hid (Own .i8 71 w4 w3.heap.size (.slice a9 M c9) A):=hO
   have HA:Hid (Dr M slo shi p true (((TLs r).drop f).take (g-f)) (g-f) A):=hA
   have hz3:=lt_of_heap S3.out.h2
   clear hb hO hA HCI hcut S3 B3
   obtain⟨c0,f0,z0',-⟩:=S4.out.rules
   have SZ:Hid (St W ((((w4.setCell ⟨W.heap.size,0,none⟩ (U i6 (r:Int))).setCell ⟨W.heap.size,1,none⟩ (U i6 (f:Int))).setCell ⟨W.heap.size,2,none⟩ (U i6 (g:Int))).setCell ⟨W.heap.size,3,none⟩ (.slice a9 M c9)) _):=(((S4.out.set (i:=0) (v:=U i6 (r:Int)) (by simp)).set (i:=1) (v:=U i6 (f:Int)) (by simp)).set (i:=2) (v:=U i6 (g:Int)) (by simp)).set (i:=3) (v:=.slice a9 M c9) (by simp)
   go_wp2
   exact bodyPost_ret (v:=.tuple #[.agg #[U i6 (r:Int),U i6 (f:Int),U i6 (g:Int),Sl a9 M c9],.bool true]) (by simp [results,Tryz.results30,go_sem, *]) rfl ⟨.inl ⟨r,true,f,g,A,_,hrN,HR.out,HA.out,rfl,((((HO.out.setB hz3).setB hz3).setB hz3).setB hz3).base (Nat.le_of_lt hz3)⟩,SZ.out.below⟩
  ·have HFt:Hid (Fts d true (enL slo shi p (TLs r)) L):=hR
   go_wp2
   go_roundw
   case rel=>exact⟨_,by decide,rfl,fun _=>(by first | exact HFt.out | exact HF1.out (by decide)),fun h=>(by first | exact HFt.out | exact absurd h (by decide)),S3.out,B3.out⟩
   case measure=>simp [intOf]
 ·have HCB:Hid _:=HB.out wr (.slice va L vc) r false (BK.out |> fun b=>Sk.out.below) hrN (HSV.out.below BK.out)
  go_wp2_with fail
  refine Calls.mono HCB.out ?_
  rintro e w3 ⟨⟨f,g,rfl,hR⟩,hb⟩
  have S3:Hid (St W w3 _):=Sk.out.call hb
  have B3:Hid (Below w1.heap.size w1 w3):=BK.out.trans (hb.mono BK.out.size)
  clear hb HCB Sk BK cx fx zx c0 f0 z0'
  rcases hR with hR | ⟨rfl,rfl,hR⟩
  ·have HR:Hid (Brk d false (enL slo shi p (TLs r)) f g):=hR
   obtain⟨hfg,hgl,-⟩:=hR
   rw [hEL] at hgl
   have hfg2:(f:Int)<(g:Int):=by omega
   obtain⟨gt,ot,rfl,hLc,hcut⟩:=(HSV.out.below B3.out).cutT (HTl.out r hrN) hfg hgl
   have HCI:Hid _:=HI.out w3 _ r false f g S3.out.below hrN hgl hcut
   go_wp2_with fail
   refine Calls.mono HCI.out ?_
   rintro e w4 ⟨⟨A,hA,v',rfl,hO⟩,hb⟩
   obtain⟨a9,c9,hv9,-⟩:=hO.row
   rw [hA.len] at hv9
   subst hv9
   have S4:Hid (St W w4 ((W.heap.size,#[U i6 0,U i6 0,U i6 0,Sl none 0 0],54) :: [])):=(S3.out.call hb).tail
   have HO:Hid (Own .i8 71 w4 w3.heap.size (.slice a9 M c9) A):=hO
   have HA:Hid (Dr M slo shi p false (((TLs r).drop f).take (g-f)) (g-f) A):=hA
   have hz3:=lt_of_heap S3.out.h2
   clear hb hO hA HCI hcut S3 B3
   obtain⟨c0,f0,z0',-⟩:=S4.out.rules
   have SZ:Hid (St W ((((w4.setCell ⟨W.heap.size,0,none⟩ (U i6 (r:Int))).setCell ⟨W.heap.size,1,none⟩ (U i6 (f:Int))).setCell ⟨W.heap.size,2,none⟩ (U i6 (g:Int))).setCell ⟨W.heap.size,3,none⟩ (.slice a9 M c9)) _):=(((S4.out.set (i:=0) (v:=U i6 (r:Int)) (by simp)).set (i:=1) (v:=U i6 (f:Int)) (by simp)).set (i:=2) (v:=U i6 (g:Int)) (by simp)).set (i:=3) (v:=.slice a9 M c9) (by simp)
   go_wp2
   exact bodyPost_ret (v:=.tuple #[.agg #[U i6 (r:Int),U i6 (f:Int),U i6 (g:Int),Sl a9 M c9],.bool true]) (by simp [results,Tryz.results30,go_sem, *]) rfl ⟨.inl ⟨r,false,f,g,A,_,hrN,HR.out,HA.out,rfl,((((HO.out.setB hz3).setB hz3).setB hz3).setB hz3).base (Nat.le_of_lt hz3)⟩,SZ.out.below⟩
  ·have HFt:Hid (Fts d false (enL slo shi p (TLs r)) L):=hR
   go_wp2
   go_roundw
   case rel=>exact⟨_,by decide,rfl,fun _=>(by first | exact HFt.out | exact HF1.out (by decide)),fun h=>(by first | exact HFt.out | exact absurd h (by decide)),S3.out,B3.out⟩
   case measure=>simp [intOf]
theorem wl_e (h w c lo hi ot op ch slo shi:Int) (oa:Option Addr) (on oc:Nat) (W:World) (T1 T2 E:Int) (hE:E≠0) (HT:Hid (∀ W',Below W.heap.size W W'→Calls Tryz.prog 15 #[.agg #[U i6 h,U i6 w,U i6 c,U i6 lo,U i6 hi,Sl oa on oc,U i6 ot],U i6 op,U i6 ch,.agg #[U i6 slo,U i6 shi]] W' fun e w'=>e=.returned (.tuple #[.agg #[U i6 T1,U i6 T2],U i6 E])∧Below W'.heap.size W' w')) :
  Calls Tryz.prog 5 #[.agg #[U i6 h,U i6 w,U i6 c,U i6 lo,U i6 hi,Sl oa on oc,U i6 ot],U i6 op,U i6 ch,.agg #[U i6 slo,U i6 shi]] W fun e w'=>e=.returned (.tuple #[.agg #[U i6 0,Sl none 0 0],U i6 E])∧Below W.heap.size W w':=by
 have s0:=(((St.start W).new (c:=#[U i6 h,U i6 w,U i6 c,U i6 lo,U i6 hi,Sl oa on oc,U i6 ot]) (t:=26)).new (c:=#[U i6 slo,U i6 shi]) (t:=28)).new (c:=#[U i6 0,Sl none 0 0]) (t:=33)
 simp only [World.size_alloc] at s0
 have S0:Hid (St W _ _):=s0
 have hE':(E == 0)=false:=by simp [hE]
 have hE2:(E != 0)=true:=by simp [hE]
 clear s0
 go_enter Tryz.func5,Tryz.ntmps5
 go_upto_region 1 with fail
 obtain⟨w0,hw0⟩:∃ w0,(((W.alloc (.cells #[U i6 h,U i6 w,U i6 c,U i6 lo,U i6 hi,Sl oa on oc,U i6 ot] 26)).alloc (.cells #[U i6 slo,U i6 shi] 28)).alloc (.cells #[U i6 0,Sl none 0 0] 33))=w0:=⟨_,rfl⟩
 rw [hw0] at S0 ⊢
 clear hw0
 obtain⟨c0,f0,z0',c1,f1,z1,c2,f2,z2,-⟩:=S0.out.rules
 go_wp2_with fail
 refine Calls.mono (HT.out _ S0.out.below) ?_
 rintro e w1 ⟨rfl,hb⟩
 have S1:Hid (St W (w1.alloc (.cells #[U i6 T1,U i6 T2] 28)) _):=(S0.out.call hb).new (c:=#[U i6 T1,U i6 T2]) (t:=28)
 clear hb S0 c0 f0 z0' c1 f1 z1 c2 f2 z2 HT
 go_upto_region 2 with fail
 obtain⟨w2,hw2⟩:∃ w2,w1.alloc (.cells #[U i6 T1,U i6 T2] 28)=w2:=⟨_,rfl⟩
 rw [hw2] at S1 ⊢
 clear hw2
 obtain⟨c3,f3,z3,c0,f0,z0',-⟩:=S1.out.rules
 have SZ:Hid (St W ((w2.setCell ⟨W.heap.size+1+1,0,none⟩ (U i6 0)).setCell ⟨W.heap.size+1+1,1,none⟩ (.slice none 0 0)) _):=S1.out.tail.set2 (u:=U i6 0) (v:=.slice none 0 0) (by simp;omega)
 go_wp2
 exact bodyPost_ret (v:=.tuple #[.agg #[U i6 0,Sl none 0 0],U i6 E]) (by simp [results,Tryz.results5,go_sem, *]) rfl ⟨rfl,SZ.out.below⟩
theorem wl_w (h w c lo hi ot op ch slo shi:Int) (oa:Option Addr) (on oc:Nat) (W:World) (T1 T2 x0 y0 z0 n:Int) (cop:Array Value) (POST:Nat→List Int→Prop) (HT:Hid (∀ W',Below W.heap.size W W'→Calls Tryz.prog 15 #[.agg #[U i6 h,U i6 w,U i6 c,U i6 lo,U i6 hi,Sl oa on oc,U i6 ot],U i6 op,U i6 ch,.agg #[U i6 slo,U i6 shi]] W' fun e w'=>e=.returned (.tuple #[.agg #[U i6 T1,U i6 T2],U i6 0])∧Below W'.heap.size W' w'))
  (HC:Hid (∀ W',Below W.heap.size W W'→Calls Tryz.prog 16 #[.agg #[U i6 h,U i6 w,U i6 c,U i6 lo,U i6 hi,Sl oa on oc,U i6 ot],U i6 op,U i6 ch,.agg #[U i6 slo,U i6 shi]] W' fun e w'=>(∃ g0:Nat,e=.returned (.agg #[U i6 ch,U i6 n,U i6 slo,U i6 shi,U i6 x0,U i6 y0,U i6 z0,U i6 0,U i6 0,Sl (some ⟨g0,0,none⟩) 1 1,U i6 0])∧w'.heap[g0]? = some (.cells cop 44 (0,0))∧W'.heap.size≤g0)∧Below W'.heap.size W' w'))
  (HR:Hid (∀ W' (q g0:Nat),Below W.heap.size W W'→W'.heap[q]? = some (.cells #[U i6 ch,U i6 n,U i6 slo,U i6 shi,U i6 x0,U i6 y0,U i6 z0,U i6 0,U i6 0,Sl (some ⟨g0,0,none⟩) 1 1,U i6 0] 63 (0,0))→W'.heap[g0]? = some (.cells cop 44 (0,0))→Calls Tryz.prog 17 #[.pointer (some ⟨q,0,none⟩),U i6 T1,.bool false] W' fun e w'=>(∃ r A v',POST r A∧e=.returned (.agg #[U i6 (r:Int),v'])∧Own .i8 71 w' W'.heap.size v' A)∧Below W'.heap.size W' w')) :
  Calls Tryz.prog 5 #[.agg #[U i6 h,U i6 w,U i6 c,U i6 lo,U i6 hi,Sl oa on oc,U i6 ot],U i6 op,U i6 ch,.agg #[U i6 slo,U i6 shi]] W fun e w'=>(∃ r A v',POST r A∧e=.returned (.tuple #[.agg #[U i6 (r:Int),v'],U i6 0])∧Own .i8 71 w' W.heap.size v' A)∧Below W.heap.size W w':=by
 have s0:=(((St.start W).new (c:=#[U i6 h,U i6 w,U i6 c,U i6 lo,U i6 hi,Sl oa on oc,U i6 ot]) (t:=26)).new (c:=#[U i6 slo,U i6 shi]) (t:=28)).new (c:=#[U i6 0,Sl none 0 0]) (t:=33)
 simp only [World.size_alloc] at s0
 have S0:Hid (St W _ _):=s0
 clear s0
 go_enter Tryz.func5,Tryz.ntmps5
 go_upto_region 1 with fail
 obtain⟨w0,hw0⟩:∃ w0,(((W.alloc (.cells #[U i6 h,U i6 w,U i6 c,U i6 lo,U i6 hi,Sl oa on oc,U i6 ot] 26)).alloc (.cells #[U i6 slo,U i6 shi] 28)).alloc (.cells #[U i6 0,Sl none 0 0] 33))=w0:=⟨_,rfl⟩
 rw [hw0] at S0 ⊢
 clear hw0
 obtain⟨c0,f0,z0',c1,f1,z1,c2,f2,z2,-⟩:=S0.out.rules
 go_wp2_with fail
 refine Calls.mono (HT.out _ S0.out.below) ?_
 rintro e w1 ⟨rfl,hb⟩
 have S1:Hid (St W (w1.alloc (.cells #[U i6 T1,U i6 T2] 28)) _):=(S0.out.call hb).new (c:=#[U i6 T1,U i6 T2]) (t:=28)
 have hz1:=lt_of_heap (S0.out.call hb).h1
 clear hb S0 c0 f0 z0' c1 f1 z1 c2 f2 z2 HT
 go_upto_region 2 with fail
 obtain⟨w2,hw2⟩:∃ w2,w1.alloc (.cells #[U i6 T1,U i6 T2] 28)=w2:=⟨_,rfl⟩
 obtain⟨B1,hB1⟩:∃ B,w1.heap.size=B:=⟨_,rfl⟩
 rw [hw2,hB1] at S1
 rw [hw2,hB1]
 rw [hB1] at hz1
 clear hw2 hB1
 obtain⟨c3,f3,z3,c0,f0,z0',c1,f1,z1,c2,f2,z2,-⟩:=S1.out.rules
 go_wp2_with fail
 refine Calls.mono (HC.out _ S1.out.below) ?_
 rintro e w3 ⟨⟨g0,rfl,hg0,hgz⟩,hb⟩
 have S3:Hid (St W (w3.alloc (.cells #[U i6 ch,U i6 n,U i6 slo,U i6 shi,U i6 x0,U i6 y0,U i6 z0,U i6 0,U i6 0,Sl (some ⟨g0,0,none⟩) 1 1,U i6 0] 63)) _):=(S1.out.call hb).new (c:=#[U i6 ch,U i6 n,U i6 slo,U i6 shi,U i6 x0,U i6 y0,U i6 z0,U i6 0,U i6 0,Sl (some ⟨g0,0,none⟩) 1 1,U i6 0]) (t:=63)
 have HG:Hid ((w3.alloc (.cells #[U i6 ch,U i6 n,U i6 slo,U i6 shi,U i6 x0,U i6 y0,U i6 z0,U i6 0,U i6 0,Sl (some ⟨g0,0,none⟩) 1 1,U i6 0] 63)).heap[g0]? = some (.cells cop 44 (0,0))):=(heap_alloc_old w3 _ (lt_of_heap hg0)).trans hg0
 have hz3:=lt_of_heap (S1.out.call hb).h1
 clear hb S1 HC hg0 hgz c0 f0 z0' c1 f1 z1 c2 f2 z2 c3 f3 z3
 go_upto_region 5 with (refine wpList_st_new rfl 63 (.tmp 12) (.tmp 29) rfl w3 #[U i6 0,U i6 0,U i6 0,U i6 0,U i6 0,U i6 0,U i6 0,U i6 0,U i6 0,Sl none 0 0,U i6 0] #[U i6 ch,U i6 n,U i6 slo,U i6 shi,U i6 x0,U i6 y0,U i6 z0,U i6 0,U i6 0,Sl (some ⟨g0,0,none⟩) 1 1,U i6 0] rfl rfl (by kernel_rfl) rfl (by simp [Value.oneCell']) ?_)
 obtain⟨w4,hw4⟩:∃ w4,w3.alloc (.cells #[U i6 ch,U i6 n,U i6 slo,U i6 shi,U i6 x0,U i6 y0,U i6 z0,U i6 0,U i6 0,Sl (some ⟨g0,0,none⟩) 1 1,U i6 0] 63)=w4:=⟨_,rfl⟩
 obtain⟨B3,hB3⟩:∃ B,w3.heap.size=B:=⟨_,rfl⟩
 rw [hw4,hB3] at S3
 rw [hw4] at HG
 rw [hw4,hB3]
 rw [hB3] at hz3
 clear hw4 hB3
 have HCR:Hid _:=HR.out w4 B3 g0 S3.out.below S3.out.h1 HG.out
 obtain⟨c4,f4,z4,c3,f3,z3,-⟩:=S3.out.rules
 go_wp2_with fail
 refine Calls.mono HCR.out ?_
 rintro e w5 ⟨⟨r,A,v',hP,rfl,hO⟩,hb⟩
 obtain⟨a9,c9,rfl,-⟩:=hO.row
 have S5:Hid (St W w5 _):=(S3.out.call hb).tail.tail
 have HO:Hid (Own .i8 71 w5 w4.heap.size (.slice a9 A.length c9) A):=hO
 have HPo:Hid (POST r A):=hP
 have hz4:W.heap.size+1+1<w4.heap.size:=by have:=lt_of_heap S3.out.h1;omega
 obtain⟨la,hla⟩:∃ la,A.length=la:=⟨_,rfl⟩
 rw [hla] at HO ⊢
 clear hb hO hP HCR HR S3 HG c4 f4 z4 c3 f3 z3 hla
 obtain⟨c0,f0,z0',-⟩:=S5.out.rules
 have SZ:Hid (St W ((w5.setCell ⟨W.heap.size+1+1,0,none⟩ (U i6 (r:Int))).setCell ⟨W.heap.size+1+1,1,none⟩ (.slice a9 la c9)) _):=S5.out.set2 (u:=U i6 (r:Int)) (v:=.slice a9 la c9) (by simp;omega)
 go_wp2
 exact bodyPost_ret (v:=.tuple #[.agg #[U i6 (r:Int),Sl a9 la c9],U i6 0]) (by simp [results,Tryz.results5,go_sem, *]) rfl ⟨⟨r,A,_,HPo.out,rfl,((HO.out.setB hz4).setB hz4).base (by omega)⟩,SZ.out.below⟩
theorem wh_e (h w c lo hi ot op ch slo shi:Int) (oa:Option Addr) (on oc:Nat) (W:World) (T1 T2 E:Int) (hE:E≠0) (HT:Hid (∀ W',Below W.heap.size W W'→Calls Tryz.prog 15 #[.agg #[U i6 h,U i6 w,U i6 c,U i6 lo,U i6 hi,Sl oa on oc,U i6 ot],U i6 op,U i6 ch,.agg #[U i6 slo,U i6 shi]] W' fun e w'=>e=.returned (.tuple #[.agg #[U i6 T1,U i6 T2],U i6 E])∧Below W'.heap.size W' w')) :
  Calls Tryz.prog 6 #[.agg #[U i6 h,U i6 w,U i6 c,U i6 lo,U i6 hi,Sl oa on oc,U i6 ot],U i6 op,U i6 ch,.agg #[U i6 slo,U i6 shi]] W fun e w'=>e=.returned (.tuple #[.agg #[U i6 0,Sl none 0 0],U i6 E])∧Below W.heap.size W w':=by
 have s0:=(((St.start W).new (c:=#[U i6 h,U i6 w,U i6 c,U i6 lo,U i6 hi,Sl oa on oc,U i6 ot]) (t:=26)).new (c:=#[U i6 slo,U i6 shi]) (t:=28)).new (c:=#[U i6 0,Sl none 0 0]) (t:=33)
 simp only [World.size_alloc] at s0
 have S0:Hid (St W _ _):=s0
 have hE':(E == 0)=false:=by simp [hE]
 have hE2:(E != 0)=true:=by simp [hE]
 clear s0
 go_enter Tryz.func6,Tryz.ntmps6
 go_upto_region 1 with fail
 obtain⟨w0,hw0⟩:∃ w0,(((W.alloc (.cells #[U i6 h,U i6 w,U i6 c,U i6 lo,U i6 hi,Sl oa on oc,U i6 ot] 26)).alloc (.cells #[U i6 slo,U i6 shi] 28)).alloc (.cells #[U i6 0,Sl none 0 0] 33))=w0:=⟨_,rfl⟩
 rw [hw0] at S0 ⊢
 clear hw0
 obtain⟨c0,f0,z0',c1,f1,z1,c2,f2,z2,-⟩:=S0.out.rules
 go_wp2_with fail
 refine Calls.mono (HT.out _ S0.out.below) ?_
 rintro e w1 ⟨rfl,hb⟩
 have S1:Hid (St W (w1.alloc (.cells #[U i6 T1,U i6 T2] 28)) _):=(S0.out.call hb).new (c:=#[U i6 T1,U i6 T2]) (t:=28)
 clear hb S0 c0 f0 z0' c1 f1 z1 c2 f2 z2 HT
 go_upto_region 2 with fail
 obtain⟨w2,hw2⟩:∃ w2,w1.alloc (.cells #[U i6 T1,U i6 T2] 28)=w2:=⟨_,rfl⟩
 rw [hw2] at S1 ⊢
 clear hw2
 obtain⟨c3,f3,z3,c0,f0,z0',-⟩:=S1.out.rules
 have SZ:Hid (St W ((w2.setCell ⟨W.heap.size+1+1,0,none⟩ (U i6 0)).setCell ⟨W.heap.size+1+1,1,none⟩ (.slice none 0 0)) _):=S1.out.tail.set2 (u:=U i6 0) (v:=.slice none 0 0) (by simp;omega)
 go_wp2
 exact bodyPost_ret (v:=.tuple #[.agg #[U i6 0,Sl none 0 0],U i6 E]) (by simp [results,Tryz.results6,go_sem, *]) rfl ⟨rfl,SZ.out.below⟩
theorem wh_w (h w c lo hi ot op ch slo shi:Int) (oa:Option Addr) (on oc:Nat) (W:World) (T1 T2 x0 y0 z0 n:Int) (cop:Array Value) (POST:Nat→List Int→Prop) (HT:Hid (∀ W',Below W.heap.size W W'→Calls Tryz.prog 15 #[.agg #[U i6 h,U i6 w,U i6 c,U i6 lo,U i6 hi,Sl oa on oc,U i6 ot],U i6 op,U i6 ch,.agg #[U i6 slo,U i6 shi]] W' fun e w'=>e=.returned (.tuple #[.agg #[U i6 T1,U i6 T2],U i6 0])∧Below W'.heap.size W' w'))
  (HC:Hid (∀ W',Below W.heap.size W W'→Calls Tryz.prog 16 #[.agg #[U i6 h,U i6 w,U i6 c,U i6 lo,U i6 hi,Sl oa on oc,U i6 ot],U i6 op,U i6 ch,.agg #[U i6 slo,U i6 shi]] W' fun e w'=>(∃ g0:Nat,e=.returned (.agg #[U i6 ch,U i6 n,U i6 slo,U i6 shi,U i6 x0,U i6 y0,U i6 z0,U i6 0,U i6 0,Sl (some ⟨g0,0,none⟩) 1 1,U i6 0])∧w'.heap[g0]? = some (.cells cop 44 (0,0))∧W'.heap.size≤g0)∧Below W'.heap.size W' w'))
  (HR:Hid (∀ W' (q g0:Nat),Below W.heap.size W W'→W'.heap[q]? = some (.cells #[U i6 ch,U i6 n,U i6 slo,U i6 shi,U i6 x0,U i6 y0,U i6 z0,U i6 0,U i6 0,Sl (some ⟨g0,0,none⟩) 1 1,U i6 0] 63 (0,0))→W'.heap[g0]? = some (.cells cop 44 (0,0))→Calls Tryz.prog 17 #[.pointer (some ⟨q,0,none⟩),U i6 T2,.bool true] W' fun e w'=>(∃ r A v',POST r A∧e=.returned (.agg #[U i6 (r:Int),v'])∧Own .i8 71 w' W'.heap.size v' A)∧Below W'.heap.size W' w')) :
  Calls Tryz.prog 6 #[.agg #[U i6 h,U i6 w,U i6 c,U i6 lo,U i6 hi,Sl oa on oc,U i6 ot],U i6 op,U i6 ch,.agg #[U i6 slo,U i6 shi]] W fun e w'=>(∃ r A v',POST r A∧e=.returned (.tuple #[.agg #[U i6 (r:Int),v'],U i6 0])∧Own .i8 71 w' W.heap.size v' A)∧Below W.heap.size W w':=by
 have s0:=(((St.start W).new (c:=#[U i6 h,U i6 w,U i6 c,U i6 lo,U i6 hi,Sl oa on oc,U i6 ot]) (t:=26)).new (c:=#[U i6 slo,U i6 shi]) (t:=28)).new (c:=#[U i6 0,Sl none 0 0]) (t:=33)
 simp only [World.size_alloc] at s0
 have S0:Hid (St W _ _):=s0
 clear s0
 go_enter Tryz.func6,Tryz.ntmps6
 go_upto_region 1 with fail
 obtain⟨w0,hw0⟩:∃ w0,(((W.alloc (.cells #[U i6 h,U i6 w,U i6 c,U i6 lo,U i6 hi,Sl oa on oc,U i6 ot] 26)).alloc (.cells #[U i6 slo,U i6 shi] 28)).alloc (.cells #[U i6 0,Sl none 0 0] 33))=w0:=⟨_,rfl⟩
 rw [hw0] at S0 ⊢
 clear hw0
 obtain⟨c0,f0,z0',c1,f1,z1,c2,f2,z2,-⟩:=S0.out.rules
 go_wp2_with fail
 refine Calls.mono (HT.out _ S0.out.below) ?_
 rintro e w1 ⟨rfl,hb⟩
 have S1:Hid (St W (w1.alloc (.cells #[U i6 T1,U i6 T2] 28)) _):=(S0.out.call hb).new (c:=#[U i6 T1,U i6 T2]) (t:=28)
 have hz1:=lt_of_heap (S0.out.call hb).h1
 clear hb S0 c0 f0 z0' c1 f1 z1 c2 f2 z2 HT
 go_upto_region 2 with fail
 obtain⟨w2,hw2⟩:∃ w2,w1.alloc (.cells #[U i6 T1,U i6 T2] 28)=w2:=⟨_,rfl⟩
 obtain⟨B1,hB1⟩:∃ B,w1.heap.size=B:=⟨_,rfl⟩
 rw [hw2,hB1] at S1
 rw [hw2,hB1]
 rw [hB1] at hz1
 clear hw2 hB1
 obtain⟨c3,f3,z3,c0,f0,z0',c1,f1,z1,c2,f2,z2,-⟩:=S1.out.rules
 go_wp2_with fail
 refine Calls.mono (HC.out _ S1.out.below) ?_
 rintro e w3 ⟨⟨g0,rfl,hg0,hgz⟩,hb⟩
 have S3:Hid (St W (w3.alloc (.cells #[U i6 ch,U i6 n,U i6 slo,U i6 shi,U i6 x0,U i6 y0,U i6 z0,U i6 0,U i6 0,Sl (some ⟨g0,0,none⟩) 1 1,U i6 0] 63)) _):=(S1.out.call hb).new (c:=#[U i6 ch,U i6 n,U i6 slo,U i6 shi,U i6 x0,U i6 y0,U i6 z0,U i6 0,U i6 0,Sl (some ⟨g0,0,none⟩) 1 1,U i6 0]) (t:=63)
 have HG:Hid ((w3.alloc (.cells #[U i6 ch,U i6 n,U i6 slo,U i6 shi,U i6 x0,U i6 y0,U i6 z0,U i6 0,U i6 0,Sl (some ⟨g0,0,none⟩) 1 1,U i6 0] 63)).heap[g0]? = some (.cells cop 44 (0,0))):=(heap_alloc_old w3 _ (lt_of_heap hg0)).trans hg0
 have hz3:=lt_of_heap (S1.out.call hb).h1
 clear hb S1 HC hg0 hgz c0 f0 z0' c1 f1 z1 c2 f2 z2 c3 f3 z3
 go_upto_region 5 with (refine wpList_st_new rfl 63 (.tmp 12) (.tmp 29) rfl w3 #[U i6 0,U i6 0,U i6 0,U i6 0,U i6 0,U i6 0,U i6 0,U i6 0,U i6 0,Sl none 0 0,U i6 0] #[U i6 ch,U i6 n,U i6 slo,U i6 shi,U i6 x0,U i6 y0,U i6 z0,U i6 0,U i6 0,Sl (some ⟨g0,0,none⟩) 1 1,U i6 0] rfl rfl (by kernel_rfl) rfl (by simp [Value.oneCell']) ?_)
 obtain⟨w4,hw4⟩:∃ w4,w3.alloc (.cells #[U i6 ch,U i6 n,U i6 slo,U i6 shi,U i6 x0,U i6 y0,U i6 z0,U i6 0,U i6 0,Sl (some ⟨g0,0,none⟩) 1 1,U i6 0] 63)=w4:=⟨_,rfl⟩
 obtain⟨B3,hB3⟩:∃ B,w3.heap.size=B:=⟨_,rfl⟩
 rw [hw4,hB3] at S3
 rw [hw4] at HG
 rw [hw4,hB3]
 rw [hB3] at hz3
 clear hw4 hB3
 have HCR:Hid _:=HR.out w4 B3 g0 S3.out.below S3.out.h1 HG.out
 obtain⟨c4,f4,z4,c3,f3,z3,-⟩:=S3.out.rules
 go_wp2_with fail
 refine Calls.mono HCR.out ?_
 rintro e w5 ⟨⟨r,A,v',hP,rfl,hO⟩,hb⟩
 obtain⟨a9,c9,rfl,-⟩:=hO.row
 have S5:Hid (St W w5 _):=(S3.out.call hb).tail.tail
 have HO:Hid (Own .i8 71 w5 w4.heap.size (.slice a9 A.length c9) A):=hO
 have HPo:Hid (POST r A):=hP
 have hz4:W.heap.size+1+1<w4.heap.size:=by have:=lt_of_heap S3.out.h1;omega
 obtain⟨la,hla⟩:∃ la,A.length=la:=⟨_,rfl⟩
 rw [hla] at HO ⊢
 clear hb hO hP HCR HR S3 HG c4 f4 z4 c3 f3 z3 hla
 obtain⟨c0,f0,z0',-⟩:=S5.out.rules
 have SZ:Hid (St W ((w5.setCell ⟨W.heap.size+1+1,0,none⟩ (U i6 (r:Int))).setCell ⟨W.heap.size+1+1,1,none⟩ (.slice a9 la c9)) _):=S5.out.set2 (u:=U i6 (r:Int)) (v:=.slice a9 la c9) (by simp;omega)
 go_wp2
 exact bodyPost_ret (v:=.tuple #[.agg #[U i6 (r:Int),Sl a9 la c9],U i6 0]) (by simp [results,Tryz.results6,go_sem, *]) rfl ⟨⟨r,A,_,HPo.out,rfl,((HO.out.setB hz4).setB hz4).base (by omega)⟩,SZ.out.below⟩
theorem wbear_w (h w c lo hi ot op ch slo shi:Int) (oa:Option Addr) (on oc:Nat) (W:World) (dp:Int) (sf:Bool) (E:Int) (HS:∀ W',Below W.heap.size W W'→Calls Tryz.prog 50 #[.agg #[U i6 h,U i6 w,U i6 c,U i6 lo,U i6 hi,Sl oa on oc,U i6 ot],U i6 op,U i6 ch,.agg #[U i6 slo,U i6 shi],U i6 dp] W' fun e w'=>e=.returned (.tuple #[.bool sf,U i6 E])∧Below W'.heap.size W' w') :
  Calls Tryz.prog 29 #[.agg #[U i6 h,U i6 w,U i6 c,U i6 lo,U i6 hi,Sl oa on oc,U i6 ot],U i6 op,U i6 ch,.agg #[U i6 slo,U i6 shi],U i6 dp] W fun e w'=>e=.returned (.tuple #[.bool sf,U i6 E])∧Below W.heap.size W w':=by
 have HS2:Hid (∀ W',Below W.heap.size W W'→_):=HS
 clear HS
 have s0:=((St.start W).new (c:=#[U i6 h,U i6 w,U i6 c,U i6 lo,U i6 hi,Sl oa on oc,U i6 ot]) (t:=26)).new (c:=#[U i6 slo,U i6 shi]) (t:=28)
 simp only [World.size_alloc] at s0
 have S0:Hid (St W _ _):=s0
 clear s0
 go_enter Tryz.func29,Tryz.ntmps29
 go_upto_region 1 with fail
 obtain⟨w0,hw0⟩:∃ w0,((W.alloc (.cells #[U i6 h,U i6 w,U i6 c,U i6 lo,U i6 hi,Sl oa on oc,U i6 ot] 26)).alloc (.cells #[U i6 slo,U i6 shi] 28))=w0:=⟨_,rfl⟩
 rw [hw0] at S0 ⊢
 clear hw0
 obtain⟨c0,f0,z0',c1,f1,z1,-⟩:=S0.out.rules
 go_wp2_with fail
 refine Calls.mono (HS2.out _ S0.out.below) ?_
 rintro e w1 ⟨rfl,hb⟩
 have S1:Hid (St W w1 _):=S0.out.call hb
 clear hb S0 c0 f0 z0' c1 f1 z1 HS2
 go_wp2
 go_ret2
 exact⟨rfl,S1.out.below⟩
/-- An error, or a depth that is safe. -/
theorem wbr_n (h w c lo hi ot op ch slo shi:Int) (oa:Option Addr) (on oc:Nat) (W:World) (dp:Int) (sf:Bool) (E:Int) (hE:E≠0∨sf=true) (HS:∀ W',Below W.heap.size W W'→Calls Tryz.prog 50 #[.agg #[U i6 h,U i6 w,U i6 c,U i6 lo,U i6 hi,Sl oa on oc,U i6 ot],U i6 op,U i6 ch,.agg #[U i6 slo,U i6 shi],U i6 dp] W' fun e w'=>e=.returned (.tuple #[.bool sf,U i6 E])∧Below W'.heap.size W' w') :
  Calls Tryz.prog 11 #[.agg #[U i6 h,U i6 w,U i6 c,U i6 lo,U i6 hi,Sl oa on oc,U i6 ot],U i6 op,U i6 ch,.agg #[U i6 slo,U i6 shi],U i6 dp] W fun e w'=>e=.returned (.tuple #[.agg #[U i6 0,U i6 0,U i6 0,Sl none 0 0],.bool false,U i6 E])∧Below W.heap.size W w':=by
 have HB:Hid (∀ W',Below W.heap.size W W'→_):=fun W' hb=>wbear_w h w c lo hi ot op ch slo shi oa on oc W' dp sf E (fun W'' hb'=>HS W'' (hb.trans (hb'.mono hb.size)))
 clear HS
 have s0:=(((St.start W).new (c:=#[U i6 h,U i6 w,U i6 c,U i6 lo,U i6 hi,Sl oa on oc,U i6 ot]) (t:=26)).new (c:=#[U i6 slo,U i6 shi]) (t:=28)).new (c:=#[U i6 0,U i6 0,U i6 0,Sl none 0 0]) (t:=54)
 simp only [World.size_alloc] at s0
 have S0:Hid (St W _ _):=s0
 clear s0
 go_enter Tryz.func11,Tryz.ntmps11
 go_upto_region 1 with fail
 obtain⟨w0,hw0⟩:∃ w0,(((W.alloc (.cells #[U i6 h,U i6 w,U i6 c,U i6 lo,U i6 hi,Sl oa on oc,U i6 ot] 26)).alloc (.cells #[U i6 slo,U i6 shi] 28)).alloc (.cells #[U i6 0,U i6 0,U i6 0,Sl none 0 0] 54))=w0:=⟨_,rfl⟩
 rw [hw0] at S0 ⊢
 clear hw0
 obtain⟨c0,f0,z0',c1,f1,z1,c2,f2,z2,-⟩:=S0.out.rules
 go_wp2_with fail
 refine Calls.mono (HB.out _ S0.out.below) ?_
 rintro e w1 ⟨rfl,hb⟩
 have S1:Hid (St W w1 _):=S0.out.call hb
 clear hb S0 c0 f0 z0' c1 f1 z1 c2 f2 z2 HB
 obtain⟨c0,f0,z0',-⟩:=S1.out.rules
 have SZ:Hid (St W ((((w1.setCell ⟨W.heap.size+1+1,0,none⟩ (U i6 0)).setCell ⟨W.heap.size+1+1,1,none⟩ (U i6 0)).setCell ⟨W.heap.size+1+1,2,none⟩ (U i6 0)).setCell ⟨W.heap.size+1+1,3,none⟩ (.slice none 0 0)) _):=(((S1.out.set (i:=0) (v:=U i6 0) (by simp;omega)).set (i:=1) (v:=U i6 0) (by simp;omega)).set (i:=2) (v:=U i6 0) (by simp;omega)).set (i:=3) (v:=.slice none 0 0) (by simp;omega)
 by_cases h0:E=0
 ·obtain rfl:sf=true:=by rcases hE with q | q;exact absurd h0 q;exact q
  subst h0
  go_wp2
  exact bodyPost_ret (v:=.tuple #[.agg #[U i6 0,U i6 0,U i6 0,Sl none 0 0],.bool false,U i6 0]) (by simp [results,Tryz.results11,go_sem, *]) rfl ⟨rfl,SZ.out.below⟩
 ·have hE2:(E != 0)=true:=by simp [h0]
  have hE3:(E == 0)=false:=by simp [h0]
  go_wp2
  exact bodyPost_ret (v:=.tuple #[.agg #[U i6 0,U i6 0,U i6 0,Sl none 0 0],.bool false,U i6 E]) (by simp [results,Tryz.results11,go_sem, *]) rfl ⟨rfl,SZ.out.below⟩
theorem wbr_w (h w c lo hi ot op ch slo shi:Int) (oa:Option Addr) (on oc:Nat) (W:World) (dp x0 y0 z0 n:Int) (cop:Array Value) (POST:Nat→Nat→Nat→List Int→Prop) (HS:∀ W',Below W.heap.size W W'→Calls Tryz.prog 50 #[.agg #[U i6 h,U i6 w,U i6 c,U i6 lo,U i6 hi,Sl oa on oc,U i6 ot],U i6 op,U i6 ch,.agg #[U i6 slo,U i6 shi],U i6 dp] W' fun e w'=>e=.returned (.tuple #[.bool false,U i6 0])∧Below W'.heap.size W' w')
  (HC:Hid (∀ W',Below W.heap.size W W'→Calls Tryz.prog 16 #[.agg #[U i6 h,U i6 w,U i6 c,U i6 lo,U i6 hi,Sl oa on oc,U i6 ot],U i6 op,U i6 ch,.agg #[U i6 slo,U i6 shi]] W' fun e w'=>(∃ g0:Nat,e=.returned (.agg #[U i6 ch,U i6 n,U i6 slo,U i6 shi,U i6 x0,U i6 y0,U i6 z0,U i6 0,U i6 0,Sl (some ⟨g0,0,none⟩) 1 1,U i6 0])∧w'.heap[g0]? = some (.cells cop 44 (0,0))∧W'.heap.size≤g0)∧Below W'.heap.size W' w'))
  (HK:Hid (∀ W' (q g0:Nat),Below W.heap.size W W'→W'.heap[q]? = some (.cells #[U i6 ch,U i6 n,U i6 slo,U i6 shi,U i6 x0,U i6 y0,U i6 z0,U i6 0,U i6 0,Sl (some ⟨g0,0,none⟩) 1 1,U i6 0] 63 (0,0))→W'.heap[g0]? = some (.cells cop 44 (0,0))→Calls Tryz.prog 30 #[.pointer (some ⟨q,0,none⟩),U i6 dp] W' fun e w'=>(∃ (r f g:Nat) (A:List Int) (v':Value),POST r f g A∧e=.returned (.tuple #[.agg #[U i6 (r:Int),U i6 (f:Int),U i6 (g:Int),v'],.bool true])∧Own .i8 71 w' W'.heap.size v' A)∧Below W'.heap.size W' w')) :
  Calls Tryz.prog 11 #[.agg #[U i6 h,U i6 w,U i6 c,U i6 lo,U i6 hi,Sl oa on oc,U i6 ot],U i6 op,U i6 ch,.agg #[U i6 slo,U i6 shi],U i6 dp] W fun e w'=>(∃ (r f g:Nat) (A:List Int) (v':Value),POST r f g A∧e=.returned (.tuple #[.agg #[U i6 (r:Int),U i6 (f:Int),U i6 (g:Int),v'],.bool true,U i6 0])∧Own .i8 71 w' W.heap.size v' A)∧Below W.heap.size W w':=by
 have HB:Hid (∀ W',Below W.heap.size W W'→_):=fun W' hb=>wbear_w h w c lo hi ot op ch slo shi oa on oc W' dp false 0 (fun W'' hb'=>HS W'' (hb.trans (hb'.mono hb.size)))
 clear HS
 have s0:=(((St.start W).new (c:=#[U i6 h,U i6 w,U i6 c,U i6 lo,U i6 hi,Sl oa on oc,U i6 ot]) (t:=26)).new (c:=#[U i6 slo,U i6 shi]) (t:=28)).new (c:=#[U i6 0,U i6 0,U i6 0,Sl none 0 0]) (t:=54)
 simp only [World.size_alloc] at s0
 have S0:Hid (St W _ _):=s0
 clear s0
 go_enter Tryz.func11,Tryz.ntmps11
 go_upto_region 1 with fail
 obtain⟨w0,hw0⟩:∃ w0,(((W.alloc (.cells #[U i6 h,U i6 w,U i6 c,U i6 lo,U i6 hi,Sl oa on oc,U i6 ot] 26)).alloc (.cells #[U i6 slo,U i6 shi] 28)).alloc (.cells #[U i6 0,U i6 0,U i6 0,Sl none 0 0] 54))=w0:=⟨_,rfl⟩
 rw [hw0] at S0 ⊢
 clear hw0
 obtain⟨c0,f0,z0',c1,f1,z1,c2,f2,z2,-⟩:=S0.out.rules
 go_wp2_with fail
 refine Calls.mono (HB.out _ S0.out.below) ?_
 rintro e w1 ⟨rfl,hb⟩
 have S1:Hid (St W w1 _):=S0.out.call hb
 have hz1:=lt_of_heap S1.out.h1
 clear hb S0 c0 f0 z0' c1 f1 z1 c2 f2 z2 HB
 obtain⟨c0,f0,z0',c1,f1,z1,c2,f2,z2,-⟩:=S1.out.rules
 go_wp2_with fail
 refine Calls.mono (HC.out _ S1.out.below) ?_
 rintro e w3 ⟨⟨g0,rfl,hg0,hgz⟩,hb⟩
 have S3:Hid (St W (w3.alloc (.cells #[U i6 ch,U i6 n,U i6 slo,U i6 shi,U i6 x0,U i6 y0,U i6 z0,U i6 0,U i6 0,Sl (some ⟨g0,0,none⟩) 1 1,U i6 0] 63)) _):=(S1.out.call hb).new (c:=#[U i6 ch,U i6 n,U i6 slo,U i6 shi,U i6 x0,U i6 y0,U i6 z0,U i6 0,U i6 0,Sl (some ⟨g0,0,none⟩) 1 1,U i6 0]) (t:=63)
 have HG:Hid ((w3.alloc (.cells #[U i6 ch,U i6 n,U i6 slo,U i6 shi,U i6 x0,U i6 y0,U i6 z0,U i6 0,U i6 0,Sl (some ⟨g0,0,none⟩) 1 1,U i6 0] 63)).heap[g0]? = some (.cells cop 44 (0,0))):=(heap_alloc_old w3 _ (lt_of_heap hg0)).trans hg0
 have hz3:=lt_of_heap (S1.out.call hb).h1
 clear hb S1 HC hg0 hgz c0 f0 z0' c1 f1 z1 c2 f2 z2
 go_upto_region 5 with (refine wpList_st_new rfl 63 (.tmp 15) (.tmp 38) rfl w3 #[U i6 0,U i6 0,U i6 0,U i6 0,U i6 0,U i6 0,U i6 0,U i6 0,U i6 0,Sl none 0 0,U i6 0] #[U i6 ch,U i6 n,U i6 slo,U i6 shi,U i6 x0,U i6 y0,U i6 z0,U i6 0,U i6 0,Sl (some ⟨g0,0,none⟩) 1 1,U i6 0] rfl rfl (by kernel_rfl) rfl (by simp [Value.oneCell']) ?_)
 obtain⟨w4,hw4⟩:∃ w4,w3.alloc (.cells #[U i6 ch,U i6 n,U i6 slo,U i6 shi,U i6 x0,U i6 y0,U i6 z0,U i6 0,U i6 0,Sl (some ⟨g0,0,none⟩) 1 1,U i6 0] 63)=w4:=⟨_,rfl⟩
 obtain⟨B3,hB3⟩:∃ B,w3.heap.size=B:=⟨_,rfl⟩
 rw [hw4,hB3] at S3
 rw [hw4] at HG
 rw [hw4,hB3]
 rw [hB3] at hz3
 clear hw4 hB3
 have HCR:Hid _:=HK.out w4 B3 g0 S3.out.below S3.out.h1 HG.out
 go_wp2_with fail
 refine Calls.mono HCR.out ?_
 rintro e w5 ⟨⟨r,f,g,A,v',hP,rfl,hO⟩,hb⟩
 obtain⟨a9,c9,rfl,-⟩:=hO.row
 obtain⟨la,hla⟩:∃ la,A.length=la:=⟨_,rfl⟩
 rw [hla] at hO ⊢
 have S5:Hid (St W (w5.alloc (.cells #[U i6 (r:Int),U i6 (f:Int),U i6 (g:Int),Sl a9 la c9] 54)) _):=(S3.out.call hb).tail.new (c:=#[U i6 (r:Int),U i6 (f:Int),U i6 (g:Int),Sl a9 la c9]) (t:=54)
 have HO:Hid (Own .i8 71 (w5.alloc (.cells #[U i6 (r:Int),U i6 (f:Int),U i6 (g:Int),Sl a9 la c9] 54)) w4.heap.size (.slice a9 la c9) A):=hO.alloc _
 have HPo:Hid (POST r f g A):=hP
 have hz4:W.heap.size+1+1<w4.heap.size:=by have:=lt_of_heap S3.out.h1;omega
 have hz5:=lt_of_heap (S3.out.call hb).tail.h1
 clear hb hO hP HCR HK S3 HG hla
 go_upto_region 6 with fail
 obtain⟨w6,hw6⟩:∃ w6,w5.alloc (.cells #[U i6 (r:Int),U i6 (f:Int),U i6 (g:Int),Sl a9 la c9] 54)=w6:=⟨_,rfl⟩
 obtain⟨B5,hB5⟩:∃ B,w5.heap.size=B:=⟨_,rfl⟩
 rw [hw6,hB5] at S5
 rw [hw6] at HO
 rw [hw6,hB5]
 rw [hB5] at hz5
 clear hw6 hB5
 obtain⟨c5,f5,z5,c0,f0,z0',-⟩:=S5.out.rules
 have SZ:Hid (St W ((((w6.setCell ⟨W.heap.size+1+1,0,none⟩ (U i6 (r:Int))).setCell ⟨W.heap.size+1+1,1,none⟩ (U i6 (f:Int))).setCell ⟨W.heap.size+1+1,2,none⟩ (U i6 (g:Int))).setCell ⟨W.heap.size+1+1,3,none⟩ (.slice a9 la c9)) _):=(((S5.out.tail.set (i:=0) (v:=U i6 (r:Int)) (by simp;omega)).set (i:=1) (v:=U i6 (f:Int)) (by simp;omega)).set (i:=2) (v:=U i6 (g:Int)) (by simp;omega)).set (i:=3) (v:=.slice a9 la c9) (by simp;omega)
 go_wp2
 exact bodyPost_ret (v:=.tuple #[.agg #[U i6 (r:Int),U i6 (f:Int),U i6 (g:Int),Sl a9 la c9],.bool true,U i6 0]) (by simp [results,Tryz.results11,go_sem, *]) rfl ⟨⟨r,f,g,A,_,HPo.out,rfl,((((HO.out.setB hz4).setB hz4).setB hz4).setB hz4).base (by omega)⟩,SZ.out.below⟩
def saB (A B E:Int):Bool:=decide (E=0) && w16 (A,B)
theorem saB_0 (A B:Int):saB A B 0=wiB (-32768) 32767 A B:=by unfold saB w16;simp
theorem saB_e {A B E:Int} (h:E≠0):saB A B E=false:=by unfold saB;simp [h]
theorem dsaf_w (h w c lo hi ot op ch:Int) (oa:Option Addr) (on oc:Nat) (W:World) (slo shi:Int) (dp A B E:Int) (hP:∀ W',Below W.heap.size W W'→Calls Tryz.prog 66 #[.agg #[U i6 h,U i6 w,U i6 c,U i6 lo,U i6 hi,Sl oa on oc,U i6 ot],U i6 op,U i6 ch,.agg #[U i6 slo,U i6 shi],U i6 dp] W' fun e w'=>e=.returned (.tuple #[.agg #[U i6 A,U i6 B],U i6 E])∧Below W'.heap.size W' w') :
  Calls Tryz.prog 50 #[.agg #[U i6 h,U i6 w,U i6 c,U i6 lo,U i6 hi,Sl oa on oc,U i6 ot],U i6 op,U i6 ch,.agg #[U i6 slo,U i6 shi],U i6 dp] W fun e w'=>e=.returned (.tuple #[.bool (saB A B E),U i6 E])∧Below W.heap.size W w':=by
 have HP:Hid (∀ W',Below W.heap.size W W'→_):=hP
 have s0:=((St.start W).new (c:=#[U i6 h,U i6 w,U i6 c,U i6 lo,U i6 hi,Sl oa on oc,U i6 ot]) (t:=26)).new (c:=#[U i6 slo,U i6 shi]) (t:=28)
 simp only [World.size_alloc] at s0
 clear hP
 by_cases h0:E=0
 ·subst h0
  rw [saB_0]
  have HW:Hid (∀ w,_):=fun w=>dwit_any (-32768) 32767 A B w
  have H6:Hid (∀ w,_):=fun w=>d16_any w
  go_enter Tryz.func50,Tryz.ntmps50
  go_wp2_with fail
  refine (HP.out _ s0.below).mono ?_
  rintro e w1 ⟨rfl,hb⟩
  have s1:=(s0.call hb).new (c:=#[U i6 A,U i6 B]) (t:=28)
  clear hb s0 HP
  go_wp2_with fail
  obtain⟨c1,g1,c2,g2,c3,g3,-⟩:=rulesQ_st s1
  have hne:=Nonempty.intro (Wd.mk _ s1)
  refine region_held s1 (by kernel_rfl) (by kernel_rfl) ?_
  repeat (first
   | (go_big_quiet_step ((go_at_call 68;exact held_of (H6.out _))))
   | (go_big_quiet_step ((go_at_call 67;exact held_of (HW.out _)))))
  refine wpQuiet_nil ?_
  intro _ hw'
  obtain⟨nq,rfl⟩:=hw'
  have s8:=nq.h
  obtain⟨w8,hw8⟩:∃ w,nq.w=w:=⟨_,rfl⟩
  rw [hw8] at s8 ⊢
  clear c1 g1 c2 g2 c3 g3 hne s1 hw8
  go_wp2
  exact bodyPost_ret (v:=.tuple #[.bool (wiB (-32768) 32767 A B),U i6 0]) (by simp [results,Tryz.results50,go_sem]) rfl ⟨rfl,s8.below⟩
 ·rw [saB_e h0]
  have hE':(E == 0)=false:=by simp [h0]
  go_enter Tryz.func50,Tryz.ntmps50
  go_wp2_with fail
  refine (HP.out _ s0.below).mono ?_
  rintro e w1 ⟨rfl,hb⟩
  have s1:=(s0.call hb).new (c:=#[U i6 A,U i6 B]) (t:=28)
  clear hb s0 HP
  go_wp2
  exact bodyPost_ret (v:=.tuple #[.bool false,U i6 E]) (by simp [results,Tryz.results50,go_sem]) rfl ⟨rfl,s1.below⟩
end Go.Proofs.YtgjcjhnnopandaaGreat
