/- What greatestUnder and greatest of package plain return. What greatest of package plain returns; lists that grow. What sums of package plain returns: all sums of an op that reduces. What the document's own functions of an op return: Length, Positions, weight, Bias. -/
import Derived.Test.YtgjcjhnnopandaaGreatGq13
import Derived.Test.YtgjcjhnnopandaaGreatGq17
import Derived.Test.YtgjcjhnnopandaaGreatGq22
import Derived.Test.YtgjcjhnnopandaaGreatGq28
import Derived.Deep.RegionLawGrows
namespace Go.Proofs.YtgjcjhnnopandaaGreat
open Go.Value renaming int → U, slice → Sl
open Go.IntKind renaming i64 → i6
set_option maxRecDepth 100000
set_option maxHeartbeats 16000000
open Go.ChangeShapes Go.WideShapes Go.ChangeAt Go.RowKit
set_option linter.unusedVariables false
theorem w64 {x:Int} (h:-9223372036854775808≤x∧x≤9223372036854775807):IntKind.i64.wrap x=x:=by rw [IntKind.wrap_i64];omega
theorem St.ad {w0 w:World} {B:Nat} {c:Array Value} {t:TypeId} {l:List (Nat×Array Value×TypeId)} (h:St w0 w l) (hb:w.heap[B]? = some (.cells c t (0,0))) (hB:w0.heap.size≤B):St w0 w ((B,c,t) :: l) :=
 ⟨h.1,fun x hx=>by
  rcases List.mem_cons.1 hx with rfl | hx
  ·exact⟨hb,hB⟩
  ·exact h.2 x hx⟩
theorem St.grow {w0 w w':World} {k:IntKind} {T:TypeId} {base:Nat} {v:Value} {zs:List Int} {l:List (Nat×Array Value×TypeId)} (h:St w0 w l) (o:Own k T w base v zs) (g:w.grownBy w' v.ownBlock) (hB:w0.heap.size≤base) (hT:∀ x∈l,x.2.2≠T):St w0 w' l :=
 ⟨o.bel h.1 g hB h.1.size,fun x hx=>by
  have hx':=h.2 x hx
  refine⟨?_,hx'.2⟩
  rw [g.block x.1 (lt_of_heap hx'.1) (own_ne o.1 hx'.1 (hT x hx))]
  exact hx'.1⟩
theorem list_cells {w:World} {B:Nat} {cs:Array Value} {T:TypeId} (h:w.heap[B]? = some (.cells cs T (0,0))) {l:List Value} (hl:∀ (q:Nat) (v:Value),l[q]? = some v→cs[q]? = some v):∀ (q:Nat) (v:Value),l[q]? = some v→w.cell? ((⟨B,0,none⟩:Addr).add q)=some v:=fun q v hq=>by
 rw [Addr.add_lit,Nat.zero_add,(cells_at h).1]
 exact hl q v hq
theorem front_get (l r:List Value):∀ (q:Nat) (v:Value),l[q]? = some v→(l++r).toArray[q]? = some v:=fun q v hq=>by
 have:=(List.getElem?_eq_some_iff.1 hq).1
 rw [List.getElem?_toArray,List.getElem?_append_left this]
 exact hq
theorem rlen_any (k a b m kh kw sh sw tp lf bt rt:Int) (wa:Option Addr) (lw wc:Nat) (ba:Option Addr) (lb bc:Nat) (sm ss um us z p lo hi h w c H V C:Int) (W:World) (s:Sit k kh kw sh sw tp lf bt rt h w c H V C lw lb) :
  Calls Tryz.prog 12 #[.agg #[U i6 k,U i6 a,U i6 b,U i6 m,U i6 kh,U i6 kw,U i6 sh,U i6 sw,U i6 tp,U i6 lf,U i6 bt,U i6 rt,Sl wa lw wc,Sl ba lb bc,U i6 sm,U i6 ss,U i6 um,U i6 us,U i6 z,U i6 p,U i6 lo,U i6 hi,U i6 h,U i6 w,U i6 c,U i6 H,U i6 V,U i6 C]] W fun e w'=>e=.returned (U i6 (stR k kh kw h w c))∧Below W.heap.size W w':=by
 have s0:=(St.start W).new (c:=#[U i6 k,U i6 a,U i6 b,U i6 m,U i6 kh,U i6 kw,U i6 sh,U i6 sw,U i6 tp,U i6 lf,U i6 bt,U i6 rt,Sl wa lw wc,Sl ba lb bc,U i6 sm,U i6 ss,U i6 um,U i6 us,U i6 z,U i6 p,U i6 lo,U i6 hi,U i6 h,U i6 w,U i6 c,U i6 H,U i6 V,U i6 C]) (t:=46)
 have hL:Hid (∀ W',_):=fun W'=>length_any k a b m kh kw sh sw tp lf bt rt wa lw wc ba lb bc sm ss um us z p lo hi h w c W' (decide_eq_true s.1) s.2.1 (fun q=>s.2.2.2.2.2.1 (by omega))
 have hC:Hid (∀ q v,[U i6 k,U i6 a,U i6 b,U i6 m,U i6 kh,U i6 kw,U i6 sh,U i6 sw,U i6 tp,U i6 lf,U i6 bt,U i6 rt,Sl wa lw wc,Sl ba lb bc,U i6 sm,U i6 ss,U i6 um,U i6 us,U i6 z,U i6 p,U i6 lo,U i6 hi][q]? = some v→(W.alloc (.cells #[U i6 k,U i6 a,U i6 b,U i6 m,U i6 kh,U i6 kw,U i6 sh,U i6 sw,U i6 tp,U i6 lf,U i6 bt,U i6 rt,Sl wa lw wc,Sl ba lb bc,U i6 sm,U i6 ss,U i6 um,U i6 us,U i6 z,U i6 p,U i6 lo,U i6 hi,U i6 h,U i6 w,U i6 c,U i6 H,U i6 V,U i6 C] 46)).cell? ((⟨W.heap.size,0,none⟩:Addr).add q)=some v):=list_cells (heap_alloc_new W _) (front_get [U i6 k,U i6 a,U i6 b,U i6 m,U i6 kh,U i6 kw,U i6 sh,U i6 sw,U i6 tp,U i6 lf,U i6 bt,U i6 rt,Sl wa lw wc,Sl ba lb bc,U i6 sm,U i6 ss,U i6 um,U i6 us,U i6 z,U i6 p,U i6 lo,U i6 hi] [U i6 h,U i6 w,U i6 c,U i6 H,U i6 V,U i6 C])
 clear s
 go_enter Tryz.func12,Tryz.ntmps12
 go_wp2_with (refine wpList_load_any rfl 44 (.tmp 3) rfl _ rfl [U i6 k,U i6 a,U i6 b,U i6 m,U i6 kh,U i6 kw,U i6 sh,U i6 sw,U i6 tp,U i6 lf,U i6 bt,U i6 rt,Sl wa lw wc,Sl ba lb bc,U i6 sm,U i6 ss,U i6 um,U i6 us,U i6 z,U i6 p,U i6 lo,U i6 hi] _ hC.out Tryz.underlying44 rfl (by kernel_rfl) ?_)
 refine (hL.out _).mono ?_
 rintro e w1 ⟨rfl,hb⟩
 have s1:=s0.call hb
 clear hb
 go_wp2
 go_ret
 exact⟨rfl,s1.below⟩
theorem rpos_any (k a b m kh kw sh sw tp lf bt rt:Int) (wa:Option Addr) (lw wc:Nat) (ba:Option Addr) (lb bc:Nat) (sm ss um us z p lo hi h w c H V C:Int) (W:World) (g:vS H V C=true) :
  Calls Tryz.prog 26 #[.agg #[U i6 k,U i6 a,U i6 b,U i6 m,U i6 kh,U i6 kw,U i6 sh,U i6 sw,U i6 tp,U i6 lf,U i6 bt,U i6 rt,Sl wa lw wc,Sl ba lb bc,U i6 sm,U i6 ss,U i6 um,U i6 us,U i6 z,U i6 p,U i6 lo,U i6 hi,U i6 h,U i6 w,U i6 c,U i6 H,U i6 V,U i6 C]] W fun e w'=>e=.returned (U i6 (H*V))∧Below W.heap.size W w':=by
 have s0:=(St.start W).new (c:=#[U i6 k,U i6 a,U i6 b,U i6 m,U i6 kh,U i6 kw,U i6 sh,U i6 sw,U i6 tp,U i6 lf,U i6 bt,U i6 rt,Sl wa lw wc,Sl ba lb bc,U i6 sm,U i6 ss,U i6 um,U i6 us,U i6 z,U i6 p,U i6 lo,U i6 hi,U i6 h,U i6 w,U i6 c,U i6 H,U i6 V,U i6 C]) (t:=46)
 have p3:=vS_bd g
 clear g
 go_enter Tryz.func26,Tryz.ntmps26
 go_wp2
 go_ret
 exact⟨rfl,s0.below⟩
theorem rbias_any (k a b m kh kw sh sw tp lf bt rt:Int) (wa:Option Addr) (lw wc:Nat) (ba:Option Addr) (lb bc:Nat) (sm ss um us z p lo hi h w c H V C:Int) (W:World) (bs:List Int) (hB:IRow .i32 W ba lb bc bs) (s:Sit k kh kw sh sw tp lf bt rt h w c H V C lw lb) (ch:Int) (hc:1≤ch∧ch≤C) :
  Calls Tryz.prog 49 #[.agg #[U i6 k,U i6 a,U i6 b,U i6 m,U i6 kh,U i6 kw,U i6 sh,U i6 sw,U i6 tp,U i6 lf,U i6 bt,U i6 rt,Sl wa lw wc,Sl ba lb bc,U i6 sm,U i6 ss,U i6 um,U i6 us,U i6 z,U i6 p,U i6 lo,U i6 hi,U i6 h,U i6 w,U i6 c,U i6 H,U i6 V,U i6 C],U i6 ch] W fun e w'=>e=.returned (U i6 (biA k ch bs))∧Below W.heap.size W w':=by
 have s0:=(St.start W).new (c:=#[U i6 k,U i6 a,U i6 b,U i6 m,U i6 kh,U i6 kw,U i6 sh,U i6 sw,U i6 tp,U i6 lf,U i6 bt,U i6 rt,Sl wa lw wc,Sl ba lb bc,U i6 sm,U i6 ss,U i6 um,U i6 us,U i6 z,U i6 p,U i6 lo,U i6 hi,U i6 h,U i6 w,U i6 c,U i6 H,U i6 V,U i6 C]) (t:=46)
 obtain⟨hk,-,hv,-,-,-,hl,-⟩:=s
 have hC:=(vS_yes hv).2.2.1
 by_cases k4:k=4
 ·subst k4
  rw [show biA 4 ch bs=0 from if_pos rfl]
  go_enter Tryz.func49,Tryz.ntmps49
  go_wp2
  go_ret
  exact⟨rfl,s0.below⟩
 ·rw [show biA k ch bs=bs.getD (ch-1).toNat 0 from if_neg k4]
  have hl2:=(hl (by omega)).2
  obtain⟨n,rfl⟩:∃ n:Nat,ch=(n:Int)+1:=⟨(ch-1).toNat,by omega⟩
  have hm:=hB.2.2.1
  have hcc:=hB.2.1
  unfold maxLen at hm
  obtain⟨x,u,rfl,hu,hwf,hz,-⟩:=(hB.below s0.below).at (show n<lb by omega)
  obtain⟨u1,u2⟩:=wf_i32 hwf
  have e:bs.getD ((n:Int)+1-1).toNat 0=u:=by rw [show ((n:Int)+1-1).toNat=n by omega,List.getD_eq_getElem?_getD,hz];rfl
  rw [e]
  have k4':(k == 4)=false:=by simp [k4]
  have HB:Hid (Below W.heap.size W _):=s0.below
  obtain⟨c1,f1,z1,-⟩:=s0.rules
  clear e hz hwf hB hl
  go_enter Tryz.func49,Tryz.ntmps49
  go_wp2
  go_ret
  exact⟨rfl,HB.out⟩
theorem rwei_any (k a b m kh kw sh sw tp lf bt rt:Int) (wa:Option Addr) (lw wc:Nat) (ba:Option Addr) (lb bc:Nat) (sm ss um us z p lo hi h w c H V C:Int) (W:World) (zs:List Int) (hZ:IRow .i16 W wa lw wc zs) (s:Sit k kh kw sh sw tp lf bt rt h w c H V C lw lb) (ch:Int) (hc:1≤ch∧ch≤C) (i:Nat) (hi0:(i:Int)<stR k kh kw h w c) :
  Calls Tryz.prog 52 #[.agg #[U i6 k,U i6 a,U i6 b,U i6 m,U i6 kh,U i6 kw,U i6 sh,U i6 sw,U i6 tp,U i6 lf,U i6 bt,U i6 rt,Sl wa lw wc,Sl ba lb bc,U i6 sm,U i6 ss,U i6 um,U i6 us,U i6 z,U i6 p,U i6 lo,U i6 hi,U i6 h,U i6 w,U i6 c,U i6 H,U i6 V,U i6 C],U i6 ch,U i6 i] W fun e w'=>e=.returned (U i6 (wgA k ch (stR k kh kw h w c) zs i))∧Below W.heap.size W w':=by
 have hL:Hid (∀ W',Calls Tryz.prog 12 #[.agg #[U i6 k,U i6 a,U i6 b,U i6 m,U i6 kh,U i6 kw,U i6 sh,U i6 sw,U i6 tp,U i6 lf,U i6 bt,U i6 rt,Sl wa lw wc,Sl ba lb bc,U i6 sm,U i6 ss,U i6 um,U i6 us,U i6 z,U i6 p,U i6 lo,U i6 hi,U i6 h,U i6 w,U i6 c,U i6 H,U i6 V,U i6 C]] W' fun e w'=>e=.returned (U i6 (stR k kh kw h w c))∧Below W'.heap.size W' w'):=fun W'=>rlen_any k a b m kh kw sh sw tp lf bt rt wa lw wc ba lb bc sm ss um us z p lo hi h w c H V C W' s
 have s0:=(St.start W).new (c:=#[U i6 k,U i6 a,U i6 b,U i6 m,U i6 kh,U i6 kw,U i6 sh,U i6 sw,U i6 tp,U i6 lf,U i6 bt,U i6 rt,Sl wa lw wc,Sl ba lb bc,U i6 sm,U i6 ss,U i6 um,U i6 us,U i6 z,U i6 p,U i6 lo,U i6 hi,U i6 h,U i6 w,U i6 c,U i6 H,U i6 V,U i6 C]) (t:=46)
 obtain⟨hk,-,hv,-,-,-,hl,-,hst0,hst1⟩:=s
 have hC:=(vS_yes hv).2.2.1
 obtain⟨st,hst⟩:∃ st,stR k kh kw h w c=st:=⟨_,rfl⟩
 rw [hst] at hL hl hst0 hst1 hi0 ⊢
 clear hst hv
 by_cases k4:k=4
 ·subst k4
  rw [show wgA 4 ch st zs i=1 from if_pos rfl]
  go_enter Tryz.func52,Tryz.ntmps52
  go_wp2
  go_ret
  exact⟨rfl,s0.below⟩
 ·rw [show wgA k ch st zs i=zs.getD ((ch-1)*st+i).toNat 0 from if_neg k4]
  have hl2:=(hl (by omega)).1
  obtain⟨d,rfl⟩:∃ d:Nat,ch=(d:Int)+1:=⟨(ch-1).toNat,by omega⟩
  have hm:=hZ.2.2.1
  have hcc:=hZ.2.1
  unfold maxLen at hm
  have p1:0≤(d:Int)*st:=Int.mul_nonneg (by omega) (by omega)
  have p2:(d:Int)*st+st≤C*st:=by
   have:=Int.mul_le_mul_of_nonneg_right (show (d:Int)+1≤C by omega) (show 0≤st by omega)
   rwa [Int.add_mul,Int.one_mul] at this
  obtain⟨p',ep⟩:∃ p',(d:Int)*st=p':=⟨_,rfl⟩
  rw [show (d:Int)+1-1=d by omega,ep]
  rw [ep] at p1 p2
  rw [← hl2] at p2
  obtain⟨N,eN⟩:∃ N:Nat,p'+(i:Int)=(N:Int):=⟨(p'+i).toNat,by omega⟩
  rw [eN]
  have hN:N<lw:=by omega
  have hZ2:=hZ.below s0.below
  obtain⟨x,u,rfl,hu,hwf,hz,-⟩:=hZ2.at hN
  obtain⟨u1,u2⟩:=wf_i16 hwf
  have e:zs.getD ((N:Int)).toNat 0=u:=by rw [Int.toNat_natCast,List.getD_eq_getElem?_getD,hz];rfl
  rw [e]
  have k4':(k == 4)=false:=by simp [k4]
  have hd1:(d:Int)+1≤1024:=by omega
  have hi2:(i:Int)≤512:=by omega
  have hNl:(N:Int)<(lw:Int):=by omega
  clear e hz hwf hl hl2 hC hc hZ hZ2
  go_enter Tryz.func52,Tryz.ntmps52
  go_upto_region 3 with fail
  obtain⟨wv,hwv⟩:∃ wv,W.alloc (.cells #[U i6 k,U i6 a,U i6 b,U i6 m,U i6 kh,U i6 kw,U i6 sh,U i6 sw,U i6 tp,U i6 lf,U i6 bt,U i6 rt,Sl (some x) lw wc,Sl ba lb bc,U i6 sm,U i6 ss,U i6 um,U i6 us,U i6 z,U i6 p,U i6 lo,U i6 hi,U i6 h,U i6 w,U i6 c,U i6 H,U i6 V,U i6 C] 46)=wv:=⟨_,rfl⟩
  rw [hwv] at s0 hu ⊢
  have hbel:Hid (Below W.heap.size W wv):=s0.below
  have hG:=s0.h1
  have hGz:=lt_of_heap hG
  have hux:Hid ((x.add N).block<wv.heap.size):=World.block_lt_of_cell? _ _ hu
  clear s0 hwv
  refine regionC (fun w'=>Below wv.heap.size wv w') (by kernel_rfl) ?_
  obtain⟨wd,hwd⟩:∃ wd,wv.drew=wd:=⟨_,rfl⟩
  have HD:Hid (Below wv.heap.size wv wd):=by unfold Hid;rw [← hwd];exact (Below.refl _ _).drew
  rw [hwd]
  clear hwd
  refine takeC 0 (v:=.pointer (some ⟨W.heap.size,0,none⟩)) rfl rfl (by kernel_rfl) (by kernel_rfl) (by kernel_rfl) (fun _ _ _ h=>h) (fun _=>rfl) rfl (fun w' hw'=>by go_simp) ?_
  refine takeC 1 (v:=.pointer (some ⟨W.heap.size,12,none⟩)) rfl rfl (by kernel_rfl) (by kernel_rfl) (by kernel_rfl) (fun _ _ _ h=>h) (fun _=>rfl) rfl (fun w' hw'=>by go_simp) ?_
  refine takeC 2 (v:=.slice (some x) lw wc) rfl rfl (by kernel_rfl) (by kernel_rfl) (by kernel_rfl) (fun _ _ _ h=>h) (fun _=>rfl) rfl (fun w' hw'=>by have hc:=(cells_at ((hw'.block _ hGz).trans hG)).1 12;go_simp) ?_
  refine takeC 3 (v:=U i6 ((d:Int)+1)) rfl rfl (by kernel_rfl) (by kernel_rfl) (by kernel_rfl) (fun _ _ _ h=>h) (fun _=>rfl) rfl (fun w' hw'=>by go_simp) ?_
  refine takeC 4 (v:=U i6 (d:Int)) rfl rfl (by kernel_rfl) (by kernel_rfl) (by kernel_rfl) (fun _ _ _ h=>h) (fun _=>rfl) rfl (fun w' hw'=>by go_simp;rw [IntKind.wrap_i64];omega) ?_
  refine takeC 5 (v:=.agg #[U i6 k,U i6 a,U i6 b,U i6 m,U i6 kh,U i6 kw,U i6 sh,U i6 sw,U i6 tp,U i6 lf,U i6 bt,U i6 rt,Sl (some x) lw wc,Sl ba lb bc,U i6 sm,U i6 ss,U i6 um,U i6 us,U i6 z,U i6 p,U i6 lo,U i6 hi,U i6 h,U i6 w,U i6 c,U i6 H,U i6 V,U i6 C]) rfl rfl (by kernel_rfl) (by kernel_rfl) (by kernel_rfl) (fun _ _ _ h=>h) (fun _=>rfl) rfl (fun w' hw'=>run_la 46 (.tmp 3) rfl ⟨W.heap.size,0,none⟩ (by kernel_rfl) [U i6 k,U i6 a,U i6 b,U i6 m,U i6 kh,U i6 kw,U i6 sh,U i6 sw,U i6 tp,U i6 lf,U i6 bt,U i6 rt,Sl (some x) lw wc,Sl ba lb bc,U i6 sm,U i6 ss,U i6 um,U i6 us,U i6 z,U i6 p,U i6 lo,U i6 hi,U i6 h,U i6 w,U i6 c,U i6 H,U i6 V,U i6 C] _ (list_cells ((hw'.block _ hGz).trans hG) (fun q v hq=>by simpa using hq)) Tryz.underlying46 rfl (by kernel_rfl)) ?_
  refine takeC 8 (v:=U i6 (i:Int)) rfl rfl (by kernel_rfl) (by kernel_rfl) (by kernel_rfl) (fun _ _ _ h=>h) (fun _=>rfl) rfl (fun w' hw'=>by go_simp) ?_
  refine stepC 6 HD.out (by kernel_rfl) rfl (fun K hK=>step_wp rfl ?_)
  go_simp
  refine (hL.out _).mono ?_
  rintro e w3 ⟨rfl,hb3⟩
  refine hK _ _ ?_
  clear hK K
  have H3:Hid (Below wv.heap.size wv w3):=HD.out.trans (hb3.mono HD.out.size)
  clear hb3 HD
  refine takeC 7 (v:=U i6 p') rfl rfl (by kernel_rfl) (by kernel_rfl) (by kernel_rfl) (fun _ _ _ h=>h) (fun _=>rfl) rfl (fun w' hw'=>by go_simp;try (rw [IntKind.wrap_i64];omega)) ?_
  refine takeC 9 (v:=U i6 (N:Int)) rfl rfl (by kernel_rfl) (by kernel_rfl) (by kernel_rfl) (fun _ _ _ h=>h) (fun _=>rfl) rfl (fun w' hw'=>by go_simp;try (rw [IntKind.wrap_i64];omega)) ?_
  refine takeC 10 (v:=.pointer (some (x.add N))) rfl rfl (by kernel_rfl) (by kernel_rfl) (by kernel_rfl) (fun _ _ _ h=>h) (fun _=>rfl) rfl (fun w' hw'=>by go_simp) ?_
  refine takeC 11 (v:=.int .i16 u) rfl rfl (by kernel_rfl) (by kernel_rfl) (by kernel_rfl) (fun _ _ _ h=>h) (fun _=>rfl) rfl (fun w' hw'=>by have hc:=(hw'.cell hux.out).trans hu;go_simp) ?_
  refine takeC 12 (v:=U i6 u) rfl rfl (by kernel_rfl) (by kernel_rfl) (by kernel_rfl) (fun _ _ _ h=>h) (fun _=>rfl) rfl (fun w' hw'=>by go_simp;try (rw [IntKind.wrap_i64];omega)) ?_
  refine takeC 13 (v:=U i6 u) rfl rfl (by kernel_rfl) (by kernel_rfl) (by kernel_rfl) (fun _ _ _ h=>h) (fun _=>rfl) rfl (fun w' hw'=>by go_simp) ?_
  refine doneC H3.out (by kernel_rfl) ?_ _
  go_wp2
  go_ret
  exact⟨rfl,hbel.out.trans (H3.out.mono hbel.out.size)⟩
end Go.Proofs.YtgjcjhnnopandaaGreat
