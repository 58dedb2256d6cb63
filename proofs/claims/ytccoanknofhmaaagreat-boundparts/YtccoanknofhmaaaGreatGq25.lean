/- What the document's own functions of an op return: Length, Positions, weight, Bias. What the document's small functions of layer 13 return: Ends, plus, begin, take. -/
import Derived.Test.YtccoanknofhmaaaGreatGq15
import Derived.Test.YtccoanknofhmaaaGreatGq16
import Derived.Test.YtccoanknofhmaaaGreatGq21
import Derived.Test.YtccoanknofhmaaaGreatGq24
namespace Go.Proofs.YtccoanknofhmaaaGreat
open Go.Value renaming int → U, slice → Sl
open Go.IntKind renaming i64 → i6
set_option maxRecDepth 100000
set_option maxHeartbeats 16000000
open Go.ChangeShapes Go.WideShapes Go.ChangeAt Go.RowKit
set_option linter.unusedVariables false
theorem list_cells {w:World} {B:Nat} {cs:Array Value} {T:TypeId} (h:w.heap[B]? = some (.cells cs T (0,0))) {l:List Value} (hl:∀ (q:Nat) (v:Value),l[q]? = some v→cs[q]? = some v):∀ (q:Nat) (v:Value),l[q]? = some v→w.cell? ((⟨B,0,none⟩:Addr).add q)=some v:=fun q v hq=>by
 rw [Addr.add_lit,Nat.zero_add,(cells_at h).1]
 exact hl q v hq
theorem front_get (l r:List Value):∀ (q:Nat) (v:Value),l[q]? = some v→(l++r).toArray[q]? = some v:=fun q v hq=>by
 have:=(List.getElem?_eq_some_iff.1 hq).1
 rw [List.getElem?_toArray,List.getElem?_append_left this]
 exact hq
theorem rlen_any (k a b m kh kw sh sw tp lf bt rt:Int) (wa:Option Addr) (lw wc:Nat) (ba:Option Addr) (lb bc:Nat) (sm ss um us z p lo hi h w c H V C:Int) (W:World) (s:Sit k kh kw sh sw tp lf bt rt h w c H V C lw lb) :
  Calls Tryz.prog 15 #[.agg #[U i6 k,U i6 a,U i6 b,U i6 m,U i6 kh,U i6 kw,U i6 sh,U i6 sw,U i6 tp,U i6 lf,U i6 bt,U i6 rt,Sl wa lw wc,Sl ba lb bc,U i6 sm,U i6 ss,U i6 um,U i6 us,U i6 z,U i6 p,U i6 lo,U i6 hi,U i6 h,U i6 w,U i6 c,U i6 H,U i6 V,U i6 C]] W fun e w'=>e=.returned (U i6 (stR k kh kw h w c))∧Below W.heap.size W w':=by
 have s0:=(St.start W).new (c:=#[U i6 k,U i6 a,U i6 b,U i6 m,U i6 kh,U i6 kw,U i6 sh,U i6 sw,U i6 tp,U i6 lf,U i6 bt,U i6 rt,Sl wa lw wc,Sl ba lb bc,U i6 sm,U i6 ss,U i6 um,U i6 us,U i6 z,U i6 p,U i6 lo,U i6 hi,U i6 h,U i6 w,U i6 c,U i6 H,U i6 V,U i6 C]) (t:=44)
 have hL:Hid (∀ W',_):=fun W'=>length_any k a b m kh kw sh sw tp lf bt rt wa lw wc ba lb bc sm ss um us z p lo hi h w c W' (decide_eq_true s.1) s.2.1 (fun q=>s.2.2.2.2.2.1 (by omega))
 have hC:Hid (∀ q v,[U i6 k,U i6 a,U i6 b,U i6 m,U i6 kh,U i6 kw,U i6 sh,U i6 sw,U i6 tp,U i6 lf,U i6 bt,U i6 rt,Sl wa lw wc,Sl ba lb bc,U i6 sm,U i6 ss,U i6 um,U i6 us,U i6 z,U i6 p,U i6 lo,U i6 hi][q]? = some v→(W.alloc (.cells #[U i6 k,U i6 a,U i6 b,U i6 m,U i6 kh,U i6 kw,U i6 sh,U i6 sw,U i6 tp,U i6 lf,U i6 bt,U i6 rt,Sl wa lw wc,Sl ba lb bc,U i6 sm,U i6 ss,U i6 um,U i6 us,U i6 z,U i6 p,U i6 lo,U i6 hi,U i6 h,U i6 w,U i6 c,U i6 H,U i6 V,U i6 C] 44)).cell? ((⟨W.heap.size,0,none⟩:Addr).add q)=some v):=list_cells (heap_alloc_new W _) (front_get [U i6 k,U i6 a,U i6 b,U i6 m,U i6 kh,U i6 kw,U i6 sh,U i6 sw,U i6 tp,U i6 lf,U i6 bt,U i6 rt,Sl wa lw wc,Sl ba lb bc,U i6 sm,U i6 ss,U i6 um,U i6 us,U i6 z,U i6 p,U i6 lo,U i6 hi] [U i6 h,U i6 w,U i6 c,U i6 H,U i6 V,U i6 C])
 clear s
 go_enter Tryz.func15,Tryz.ntmps15
 go_wp2_with (refine wpList_load_any rfl 42 (.tmp 3) rfl _ rfl [U i6 k,U i6 a,U i6 b,U i6 m,U i6 kh,U i6 kw,U i6 sh,U i6 sw,U i6 tp,U i6 lf,U i6 bt,U i6 rt,Sl wa lw wc,Sl ba lb bc,U i6 sm,U i6 ss,U i6 um,U i6 us,U i6 z,U i6 p,U i6 lo,U i6 hi] _ hC.out Tryz.underlying42 rfl (by kernel_rfl) ?_)
 refine (hL.out _).mono ?_
 rintro e w1 ⟨rfl,hb⟩
 have s1:=s0.call hb
 clear hb
 go_wp2
 go_ret
 exact⟨rfl,s1.below⟩
theorem rpos_any (k a b m kh kw sh sw tp lf bt rt:Int) (wa:Option Addr) (lw wc:Nat) (ba:Option Addr) (lb bc:Nat) (sm ss um us z p lo hi h w c H V C:Int) (W:World) (g:vS H V C=true) :
  Calls Tryz.prog 43 #[.agg #[U i6 k,U i6 a,U i6 b,U i6 m,U i6 kh,U i6 kw,U i6 sh,U i6 sw,U i6 tp,U i6 lf,U i6 bt,U i6 rt,Sl wa lw wc,Sl ba lb bc,U i6 sm,U i6 ss,U i6 um,U i6 us,U i6 z,U i6 p,U i6 lo,U i6 hi,U i6 h,U i6 w,U i6 c,U i6 H,U i6 V,U i6 C]] W fun e w'=>e=.returned (U i6 (H*V))∧Below W.heap.size W w':=by
 have s0:=(St.start W).new (c:=#[U i6 k,U i6 a,U i6 b,U i6 m,U i6 kh,U i6 kw,U i6 sh,U i6 sw,U i6 tp,U i6 lf,U i6 bt,U i6 rt,Sl wa lw wc,Sl ba lb bc,U i6 sm,U i6 ss,U i6 um,U i6 us,U i6 z,U i6 p,U i6 lo,U i6 hi,U i6 h,U i6 w,U i6 c,U i6 H,U i6 V,U i6 C]) (t:=44)
 have p3:=vS_bd g
 clear g
 go_enter Tryz.func43,Tryz.ntmps43
 go_wp2
 go_ret
 exact⟨rfl,s0.below⟩
theorem rbias_any (k a b m kh kw sh sw tp lf bt rt:Int) (wa:Option Addr) (lw wc:Nat) (ba:Option Addr) (lb bc:Nat) (sm ss um us z p lo hi h w c H V C:Int) (W:World) (bs:List Int) (hB:IRow .i32 W ba lb bc bs) (s:Sit k kh kw sh sw tp lf bt rt h w c H V C lw lb) (ch:Int) (hc:1≤ch∧ch≤C) :
  Calls Tryz.prog 46 #[.agg #[U i6 k,U i6 a,U i6 b,U i6 m,U i6 kh,U i6 kw,U i6 sh,U i6 sw,U i6 tp,U i6 lf,U i6 bt,U i6 rt,Sl wa lw wc,Sl ba lb bc,U i6 sm,U i6 ss,U i6 um,U i6 us,U i6 z,U i6 p,U i6 lo,U i6 hi,U i6 h,U i6 w,U i6 c,U i6 H,U i6 V,U i6 C],U i6 ch] W fun e w'=>e=.returned (U i6 (biA k ch bs))∧Below W.heap.size W w':=by
 have s0:=(St.start W).new (c:=#[U i6 k,U i6 a,U i6 b,U i6 m,U i6 kh,U i6 kw,U i6 sh,U i6 sw,U i6 tp,U i6 lf,U i6 bt,U i6 rt,Sl wa lw wc,Sl ba lb bc,U i6 sm,U i6 ss,U i6 um,U i6 us,U i6 z,U i6 p,U i6 lo,U i6 hi,U i6 h,U i6 w,U i6 c,U i6 H,U i6 V,U i6 C]) (t:=44)
 obtain⟨hk,-,hv,-,-,-,hl,-⟩:=s
 have hC:=(vS_yes hv).2.2.1
 by_cases k4:k=4
 ·subst k4
  rw [show biA 4 ch bs=0 from if_pos rfl]
  go_enter Tryz.func46,Tryz.ntmps46
  go_wp2
  go_ret
  exact⟨rfl,s0.below⟩
 ·rw [show biA k ch bs=bs.getD (ch-1).toNat 0 from if_neg k4]
  have hl2:=(hl (by omega)).2
  obtain⟨n,rfl⟩:∃ n:Nat,ch=(n:Int)+1:=⟨(ch-1).toNat,by omega⟩
  have hm:=hB.2.2.1
  have hcc:=hB.2.1
  unfold maxLen at hm
  obtain⟨x,u,rfl,hu,hwf,hz,-⟩:=(hB.below s0.below).at (show n<lb by omega)
  obtain⟨u1,u2⟩:=wf_i32 hwf
  have e:bs.getD ((n:Int)+1-1).toNat 0=u:=by rw [show ((n:Int)+1-1).toNat=n by omega,List.getD_eq_getElem?_getD,hz];rfl
  rw [e]
  have k4':(k == 4)=false:=by simp [k4]
  have HB:Hid (Below W.heap.size W _):=s0.below
  obtain⟨c1,f1,z1,-⟩:=s0.rules
  clear e hz hwf hB hl
  go_enter Tryz.func46,Tryz.ntmps46
  go_wp2
  go_ret
  exact⟨rfl,HB.out⟩
theorem rwei_any (k a b m kh kw sh sw tp lf bt rt:Int) (wa:Option Addr) (lw wc:Nat) (ba:Option Addr) (lb bc:Nat) (sm ss um us z p lo hi h w c H V C:Int) (W:World) (zs:List Int) (hZ:IRow .i16 W wa lw wc zs) (s:Sit k kh kw sh sw tp lf bt rt h w c H V C lw lb) (ch:Int) (hc:1≤ch∧ch≤C) (i:Nat) (hi0:(i:Int)<stR k kh kw h w c) :
  Calls Tryz.prog 63 #[.agg #[U i6 k,U i6 a,U i6 b,U i6 m,U i6 kh,U i6 kw,U i6 sh,U i6 sw,U i6 tp,U i6 lf,U i6 bt,U i6 rt,Sl wa lw wc,Sl ba lb bc,U i6 sm,U i6 ss,U i6 um,U i6 us,U i6 z,U i6 p,U i6 lo,U i6 hi,U i6 h,U i6 w,U i6 c,U i6 H,U i6 V,U i6 C],U i6 ch,U i6 i] W fun e w'=>e=.returned (U i6 (wgA k ch (stR k kh kw h w c) zs i))∧Below W.heap.size W w':=by
 have hL:Hid (∀ W',Calls Tryz.prog 15 #[.agg #[U i6 k,U i6 a,U i6 b,U i6 m,U i6 kh,U i6 kw,U i6 sh,U i6 sw,U i6 tp,U i6 lf,U i6 bt,U i6 rt,Sl wa lw wc,Sl ba lb bc,U i6 sm,U i6 ss,U i6 um,U i6 us,U i6 z,U i6 p,U i6 lo,U i6 hi,U i6 h,U i6 w,U i6 c,U i6 H,U i6 V,U i6 C]] W' fun e w'=>e=.returned (U i6 (stR k kh kw h w c))∧Below W'.heap.size W' w'):=fun W'=>rlen_any k a b m kh kw sh sw tp lf bt rt wa lw wc ba lb bc sm ss um us z p lo hi h w c H V C W' s
 have s0:=(St.start W).new (c:=#[U i6 k,U i6 a,U i6 b,U i6 m,U i6 kh,U i6 kw,U i6 sh,U i6 sw,U i6 tp,U i6 lf,U i6 bt,U i6 rt,Sl wa lw wc,Sl ba lb bc,U i6 sm,U i6 ss,U i6 um,U i6 us,U i6 z,U i6 p,U i6 lo,U i6 hi,U i6 h,U i6 w,U i6 c,U i6 H,U i6 V,U i6 C]) (t:=44)
 obtain⟨hk,-,hv,-,-,-,hl,-,hst0,hst1⟩:=s
 have hC:=(vS_yes hv).2.2.1
 obtain⟨st,hst⟩:∃ st,stR k kh kw h w c=st:=⟨_,rfl⟩
 rw [hst] at hL hl hst0 hst1 hi0 ⊢
 clear hst hv
 by_cases k4:k=4
 ·subst k4
  rw [show wgA 4 ch st zs i=1 from if_pos rfl]
  go_enter Tryz.func63,Tryz.ntmps63
  go_wp2
  go_ret
  exact⟨rfl,s0.below⟩
 ·rw [show wgA k ch st zs i=zs.getD ((ch-1)*st+i).toNat 0 from if_neg k4]
  have hl2:=(hl (by omega)).1
  obtain⟨d,rfl⟩:∃ d:Nat,ch=(d:Int)+1:=⟨(ch-1).toNat,by omega⟩
  have hm:=hZ.2.2.1
  have hcc:=hZ.2.1
  unfold maxLen at hm
  have p1:0≤(d:Int)*st:=Int.mul_nonneg (by omega) (by omega)
  have p2:(d:Int)*st+st≤C*st:=by
   have:=Int.mul_le_mul_of_nonneg_right (show (d:Int)+1≤C by omega) (show 0≤st by omega)
   rwa [Int.add_mul,Int.one_mul] at this
  obtain⟨p',ep⟩:∃ p',(d:Int)*st=p':=⟨_,rfl⟩
  rw [show (d:Int)+1-1=d by omega,ep]
  rw [ep] at p1 p2
  rw [← hl2] at p2
  obtain⟨N,eN⟩:∃ N:Nat,p'+(i:Int)=(N:Int):=⟨(p'+i).toNat,by omega⟩
  rw [eN]
  have hN:N<lw:=by omega
  have hZ2:=hZ.below s0.below
  obtain⟨x,u,rfl,hu,hwf,hz,-⟩:=hZ2.at hN
  obtain⟨u1,u2⟩:=wf_i16 hwf
  have e:zs.getD ((N:Int)).toNat 0=u:=by rw [Int.toNat_natCast,List.getD_eq_getElem?_getD,hz];rfl
  rw [e]
  have k4':(k == 4)=false:=by simp [k4]
  have hd1:(d:Int)+1≤1024:=by omega
  have hi2:(i:Int)≤512:=by omega
  have hNl:(N:Int)<(lw:Int):=by omega
  clear e hz hwf hl hl2 hC hc hZ hZ2
  go_enter Tryz.func63,Tryz.ntmps63
  go_upto_region 3 with fail
  obtain⟨wv,hwv⟩:∃ wv,W.alloc (.cells #[U i6 k,U i6 a,U i6 b,U i6 m,U i6 kh,U i6 kw,U i6 sh,U i6 sw,U i6 tp,U i6 lf,U i6 bt,U i6 rt,Sl (some x) lw wc,Sl ba lb bc,U i6 sm,U i6 ss,U i6 um,U i6 us,U i6 z,U i6 p,U i6 lo,U i6 hi,U i6 h,U i6 w,U i6 c,U i6 H,U i6 V,U i6 C] 44)=wv:=⟨_,rfl⟩
  rw [hwv] at s0 hu ⊢
  have hbel:Hid (Below W.heap.size W wv):=s0.below
  have hG:=s0.h1
  have hGz:=lt_of_heap hG
  have hux:Hid ((x.add N).block<wv.heap.size):=World.block_lt_of_cell? _ _ hu
  clear s0 hwv
  refine regionC (fun w'=>Below wv.heap.size wv w') (by kernel_rfl) ?_
  obtain⟨wd,hwd⟩:∃ wd,wv.drew=wd:=⟨_,rfl⟩
  have HD:Hid (Below wv.heap.size wv wd):=by unfold Hid;rw [← hwd];exact (Below.refl _ _).drew
  rw [hwd]
  clear hwd
  refine takeC 0 (v:=.pointer (some ⟨W.heap.size,0,none⟩)) rfl rfl (by kernel_rfl) (by kernel_rfl) (by kernel_rfl) (fun _ _ _ h=>h) (fun _=>rfl) rfl (fun w' hw'=>by go_simp) ?_
  refine takeC 1 (v:=.pointer (some ⟨W.heap.size,12,none⟩)) rfl rfl (by kernel_rfl) (by kernel_rfl) (by kernel_rfl) (fun _ _ _ h=>h) (fun _=>rfl) rfl (fun w' hw'=>by go_simp) ?_
  refine takeC 2 (v:=.slice (some x) lw wc) rfl rfl (by kernel_rfl) (by kernel_rfl) (by kernel_rfl) (fun _ _ _ h=>h) (fun _=>rfl) rfl (fun w' hw'=>by have hc:=(cells_at ((hw'.block _ hGz).trans hG)).1 12;go_simp) ?_
  refine takeC 3 (v:=U i6 ((d:Int)+1)) rfl rfl (by kernel_rfl) (by kernel_rfl) (by kernel_rfl) (fun _ _ _ h=>h) (fun _=>rfl) rfl (fun w' hw'=>by go_simp) ?_
  refine takeC 4 (v:=U i6 (d:Int)) rfl rfl (by kernel_rfl) (by kernel_rfl) (by kernel_rfl) (fun _ _ _ h=>h) (fun _=>rfl) rfl (fun w' hw'=>by go_simp;rw [IntKind.wrap_i64];omega) ?_
  refine takeC 5 (v:=.agg #[U i6 k,U i6 a,U i6 b,U i6 m,U i6 kh,U i6 kw,U i6 sh,U i6 sw,U i6 tp,U i6 lf,U i6 bt,U i6 rt,Sl (some x) lw wc,Sl ba lb bc,U i6 sm,U i6 ss,U i6 um,U i6 us,U i6 z,U i6 p,U i6 lo,U i6 hi,U i6 h,U i6 w,U i6 c,U i6 H,U i6 V,U i6 C]) rfl rfl (by kernel_rfl) (by kernel_rfl) (by kernel_rfl) (fun _ _ _ h=>h) (fun _=>rfl) rfl (fun w' hw'=>run_la 44 (.tmp 3) rfl ⟨W.heap.size,0,none⟩ (by kernel_rfl) [U i6 k,U i6 a,U i6 b,U i6 m,U i6 kh,U i6 kw,U i6 sh,U i6 sw,U i6 tp,U i6 lf,U i6 bt,U i6 rt,Sl (some x) lw wc,Sl ba lb bc,U i6 sm,U i6 ss,U i6 um,U i6 us,U i6 z,U i6 p,U i6 lo,U i6 hi,U i6 h,U i6 w,U i6 c,U i6 H,U i6 V,U i6 C] _ (list_cells ((hw'.block _ hGz).trans hG) (fun q v hq=>by simpa using hq)) Tryz.underlying44 rfl (by kernel_rfl)) ?_
  refine takeC 8 (v:=U i6 (i:Int)) rfl rfl (by kernel_rfl) (by kernel_rfl) (by kernel_rfl) (fun _ _ _ h=>h) (fun _=>rfl) rfl (fun w' hw'=>by go_simp) ?_
  refine stepC 6 HD.out (by kernel_rfl) rfl (fun K hK=>step_wp rfl ?_)
  go_simp
  refine (hL.out _).mono ?_
  rintro e w3 ⟨rfl,hb3⟩
  refine hK _ _ ?_
  clear hK K
  have H3:Hid (Below wv.heap.size wv w3):=HD.out.trans (hb3.mono HD.out.size)
  clear hb3 HD
  refine takeC 7 (v:=U i6 p') rfl rfl (by kernel_rfl) (by kernel_rfl) (by kernel_rfl) (fun _ _ _ h=>h) (fun _=>rfl) rfl (fun w' hw'=>by go_simp;try (rw [IntKind.wrap_i64];omega)) ?_
  refine takeC 9 (v:=U i6 (N:Int)) rfl rfl (by kernel_rfl) (by kernel_rfl) (by kernel_rfl) (fun _ _ _ h=>h) (fun _=>rfl) rfl (fun w' hw'=>by go_simp;try (rw [IntKind.wrap_i64];omega)) ?_
  refine takeC 10 (v:=.pointer (some (x.add N))) rfl rfl (by kernel_rfl) (by kernel_rfl) (by kernel_rfl) (fun _ _ _ h=>h) (fun _=>rfl) rfl (fun w' hw'=>by go_simp) ?_
  refine takeC 11 (v:=.int .i16 u) rfl rfl (by kernel_rfl) (by kernel_rfl) (by kernel_rfl) (fun _ _ _ h=>h) (fun _=>rfl) rfl (fun w' hw'=>by have hc:=(hw'.cell hux.out).trans hu;go_simp) ?_
  refine takeC 12 (v:=U i6 u) rfl rfl (by kernel_rfl) (by kernel_rfl) (by kernel_rfl) (fun _ _ _ h=>h) (fun _=>rfl) rfl (fun w' hw'=>by go_simp;try (rw [IntKind.wrap_i64];omega)) ?_
  refine takeC 13 (v:=U i6 u) rfl rfl (by kernel_rfl) (by kernel_rfl) (by kernel_rfl) (fun _ _ _ h=>h) (fun _=>rfl) rfl (fun w' hw'=>by go_simp) ?_
  refine doneC H3.out (by kernel_rfl) ?_ _
  go_wp2
  go_ret
  exact⟨rfl,hbel.out.trans (H3.out.mono hbel.out.size)⟩
theorem max2b (x y M:Int) (h:xmx x y=M):∀ (W:World) (ts:Array TypeId) (t:TypeId),(Builtin.max_ ts t #[U i6 x,U i6 y]).run Tryz.prog W=.ok (U i6 M) W:=by
 intro W ts t
 subst h
 simp [Builtin.max_,Builtin.max2,xmx]
 repeat' split
 all_goals first | rfl | omega
theorem ends_in {slo shi k:Int} (hs:slo≤shi):xti slo shi k=(xmn (k*slo) (k*shi),xmx (k*slo) (k*shi)):=by
 unfold xti
 rw [Int.mul_comm k slo,Int.mul_comm k shi]
 by_cases g:k<0
 ·rw [if_pos g]
  have:=Int.mul_le_mul_of_nonpos_right hs (show k≤0 by omega)
  unfold xmn xmx
  refine Prod.ext ?_ ?_<;>simp only<;>split<;>omega
 ·rw [if_neg g]
  have:=Int.mul_le_mul_of_nonneg_right hs (show 0≤k by omega)
  unfold xmn xmx
  refine Prod.ext ?_ ?_<;>simp only<;>split<;>omega
theorem rends_any (k a b m kh kw sh sw tp lf bt rt:Int) (wa:Option Addr) (lw wc:Nat) (ba:Option Addr) (lb bc:Nat) (sm ss um us z p lo hi h w c H V C:Int) (W:World) (t:Int×Int) (slo shi:Int) (hs:-128≤slo∧slo≤shi∧shi≤127) (hp:-128≤p∧p≤127) (ht:-32768≤t.1∧t.1≤32767) :
  Calls Tryz.prog 45 #[.agg #[U i6 k,U i6 a,U i6 b,U i6 m,U i6 kh,U i6 kw,U i6 sh,U i6 sw,U i6 tp,U i6 lf,U i6 bt,U i6 rt,Sl wa lw wc,Sl ba lb bc,U i6 sm,U i6 ss,U i6 um,U i6 us,U i6 z,U i6 p,U i6 lo,U i6 hi,U i6 h,U i6 w,U i6 c,U i6 H,U i6 V,U i6 C],.agg #[U i6 t.1,U i6 t.2],.agg #[U i6 slo,U i6 shi]] W fun e w'=>e=.returned (.agg #[U i6 (tmE slo shi p t).1,U i6 (tmE slo shi p t).2])∧Below W.heap.size W w':=by
 obtain⟨t1,t2⟩:=t
 simp only at ht
 have b1:=prod_bd (a:=slo) (by omega) ht
 have b2:=prod_bd (a:=shi) (by omega) ht
 have b3:=prod_bd hp ht
 rw [Int.mul_comm] at b1 b2 b3
 have HX:Hid (xti slo shi t1=(xmn (t1*slo) (t1*shi),xmx (t1*slo) (t1*shi))):=ends_in hs.2.1
 obtain⟨A,hA⟩:∃ A,t1*slo=A:=⟨_,rfl⟩
 obtain⟨Bb,hBb⟩:∃ B,t1*shi=B:=⟨_,rfl⟩
 obtain⟨Cc,hCc⟩:∃ C,t1*p=C:=⟨_,rfl⟩
 rw [hA] at b1
 rw [hBb] at b2
 rw [hCc] at b3
 rw [hA,hBb] at HX
 have w1:IntKind.i64.wrap A=A:=by rw [IntKind.wrap_i64];omega
 have w2:IntKind.i64.wrap Bb=Bb:=by rw [IntKind.wrap_i64];omega
 have w3:IntKind.i64.wrap Cc=Cc:=by rw [IntKind.wrap_i64];omega
 have s0:=((((St.start W).new (c:=#[U i6 k,U i6 a,U i6 b,U i6 m,U i6 kh,U i6 kw,U i6 sh,U i6 sw,U i6 tp,U i6 lf,U i6 bt,U i6 rt,Sl wa lw wc,Sl ba lb bc,U i6 sm,U i6 ss,U i6 um,U i6 us,U i6 z,U i6 p,U i6 lo,U i6 hi,U i6 h,U i6 w,U i6 c,U i6 H,U i6 V,U i6 C]) (t:=44)).new (c:=#[U i6 t1,U i6 t2]) (t:=92)).new (c:=#[U i6 slo,U i6 shi]) (t:=28)).new (c:=#[U i6 0,U i6 0]) (t:=28)
 simp only [World.size_alloc] at s0
 by_cases neg:t2<0
 ·have HE:Hid (tmE slo shi p (t1,t2)=(Cc,Cc)):=by unfold Hid tmE;rw [if_pos neg];simp only;rw [Int.mul_comm p t1,hCc]
  rw [HE.out]
  have m1:=min2 Cc Cc Cc (by unfold xmn;simp)
  have m2:=max2b Cc Cc Cc (by unfold xmx;simp)
  clear HX HE hs hp ht
  go_enter Tryz.func45,Tryz.ntmps45
  go_upto_region 1 with fail
  obtain⟨w0,hw0⟩:∃ w0,(((W.alloc (.cells #[U i6 k,U i6 a,U i6 b,U i6 m,U i6 kh,U i6 kw,U i6 sh,U i6 sw,U i6 tp,U i6 lf,U i6 bt,U i6 rt,Sl wa lw wc,Sl ba lb bc,U i6 sm,U i6 ss,U i6 um,U i6 us,U i6 z,U i6 p,U i6 lo,U i6 hi,U i6 h,U i6 w,U i6 c,U i6 H,U i6 V,U i6 C] 44)).alloc (.cells #[U i6 t1,U i6 t2] 92)).alloc (.cells #[U i6 slo,U i6 shi] 28)).alloc (.cells #[U i6 0,U i6 0] 28)=w0:=⟨_,rfl⟩
  rw [hw0] at s0 ⊢
  obtain⟨c1,f1,z1,c2,f2,z2,c3,f3,z3,c4,f4,z4,-⟩:=s0.rules
  clear hw0
  go_quiet (fail)
  have S1:Hid (∀ k,Below W.heap.size W _):=fun k=>(s0.call (dbel w0 k)).out2 (i:=0) (j:=1) (u:=U i6 Cc) (v:=U i6 Cc)
  clear s0
  go_wp2
  exact bodyPost_ret (v:=.agg #[U i6 Cc,U i6 Cc]) (by simp [results,Tryz.results45,go_sem,c1]) rfl ⟨rfl,S1.out _⟩
 ·have HE:Hid (tmE slo shi p (t1,t2)=(xmn A Bb,xmx A Bb)):=by unfold Hid tmE;rw [if_neg neg];exact HX.out
  rw [HE.out]
  obtain⟨M1,hM1⟩:∃ M,xmn A Bb=M:=⟨_,rfl⟩
  obtain⟨M2,hM2⟩:∃ M,xmx A Bb=M:=⟨_,rfl⟩
  have m1:=min2 A Bb M1 hM1
  have m2:=max2b A Bb M2 hM2
  rw [hM1,hM2]
  clear HX HE hs hp ht hM1 hM2
  go_enter Tryz.func45,Tryz.ntmps45
  go_upto_region 1 with fail
  obtain⟨w0,hw0⟩:∃ w0,(((W.alloc (.cells #[U i6 k,U i6 a,U i6 b,U i6 m,U i6 kh,U i6 kw,U i6 sh,U i6 sw,U i6 tp,U i6 lf,U i6 bt,U i6 rt,Sl wa lw wc,Sl ba lb bc,U i6 sm,U i6 ss,U i6 um,U i6 us,U i6 z,U i6 p,U i6 lo,U i6 hi,U i6 h,U i6 w,U i6 c,U i6 H,U i6 V,U i6 C] 44)).alloc (.cells #[U i6 t1,U i6 t2] 92)).alloc (.cells #[U i6 slo,U i6 shi] 28)).alloc (.cells #[U i6 0,U i6 0] 28)=w0:=⟨_,rfl⟩
  rw [hw0] at s0 ⊢
  obtain⟨c1,f1,z1,c2,f2,z2,c3,f3,z3,c4,f4,z4,-⟩:=s0.rules
  clear hw0
  go_quiet (fail)
  have S1:Hid (∀ k,Below W.heap.size W _):=fun k=>(s0.call (dbel w0 k)).out2 (i:=0) (j:=1) (u:=U i6 M1) (v:=U i6 M2)
  clear s0
  go_wp2
  exact bodyPost_ret (v:=.agg #[U i6 M1,U i6 M2]) (by simp [results,Tryz.results45,go_sem,c1]) rfl ⟨rfl,S1.out _⟩
theorem rplus_any (a b:Int×Int) (W:World) (ha:Vd 10000000000 a) (hb:Vd 10000000000 b):Calls Tryz.prog 29 #[.agg #[U i6 a.1,U i6 a.2],.agg #[U i6 b.1,U i6 b.2]] W fun e w'=>e=.returned (.agg #[U i6 (plS a b).1,U i6 (plS a b).2])∧Below W.heap.size W w':=by
 obtain⟨a1,a2⟩:=a
 obtain⟨b1,b2⟩:=b
 obtain⟨⟨h1,h2⟩,⟨h3,h4⟩,h5⟩:=ha.sm (by omega)
 obtain⟨⟨g1,g2⟩,⟨g3,g4⟩,g5⟩:=hb.sm (by omega)
 simp only at h1 h2 h3 h4 g1 g2 g3 g4
 clear ha hb h5 g5
 simp only [plS]
 have s0:=((St.start W).new (c:=#[U i6 a1,U i6 a2]) (t:=28)).new (c:=#[U i6 b1,U i6 b2]) (t:=28) |>.new (c:=#[U i6 (a1+b1),U i6 (a2+b2)]) (t:=28)
 go_enter Tryz.func29,Tryz.ntmps29
 go_wp2
 exact bodyPost_ret (v:=.agg #[U i6 (a1+b1),U i6 (a2+b2)]) (by simp [results,Tryz.results29,go_sem]) rfl ⟨rfl,s0.below⟩
theorem rbeg_any (k a b m kh kw sh sw tp lf bt rt:Int) (wa:Option Addr) (lw wc:Nat) (ba:Option Addr) (lb bc:Nat) (sm ss um us z p lo hi h w c H V C:Int) (W:World) (bi ch:Int) (hB:∀ W',Below W.heap.size W W'→Calls Tryz.prog 46 #[.agg #[U i6 k,U i6 a,U i6 b,U i6 m,U i6 kh,U i6 kw,U i6 sh,U i6 sw,U i6 tp,U i6 lf,U i6 bt,U i6 rt,Sl wa lw wc,Sl ba lb bc,U i6 sm,U i6 ss,U i6 um,U i6 us,U i6 z,U i6 p,U i6 lo,U i6 hi,U i6 h,U i6 w,U i6 c,U i6 H,U i6 V,U i6 C],U i6 ch] W' fun e w'=>e=.returned (U i6 bi)∧Below W'.heap.size W' w') :
  Calls Tryz.prog 28 #[.agg #[U i6 k,U i6 a,U i6 b,U i6 m,U i6 kh,U i6 kw,U i6 sh,U i6 sw,U i6 tp,U i6 lf,U i6 bt,U i6 rt,Sl wa lw wc,Sl ba lb bc,U i6 sm,U i6 ss,U i6 um,U i6 us,U i6 z,U i6 p,U i6 lo,U i6 hi,U i6 h,U i6 w,U i6 c,U i6 H,U i6 V,U i6 C],U i6 ch] W fun e w'=>e=.returned (.agg #[U i6 bi,U i6 bi])∧Below W.heap.size W w':=by
 have HB:Hid (∀ W',Below W.heap.size W W'→_):=hB
 have s0:=((St.start W).new (c:=#[U i6 k,U i6 a,U i6 b,U i6 m,U i6 kh,U i6 kw,U i6 sh,U i6 sw,U i6 tp,U i6 lf,U i6 bt,U i6 rt,Sl wa lw wc,Sl ba lb bc,U i6 sm,U i6 ss,U i6 um,U i6 us,U i6 z,U i6 p,U i6 lo,U i6 hi,U i6 h,U i6 w,U i6 c,U i6 H,U i6 V,U i6 C]) (t:=44)).new (c:=#[U i6 0,U i6 0]) (t:=28)
 simp only [World.size_alloc] at s0
 clear hB
 go_enter Tryz.func28,Tryz.ntmps28
 go_upto_region 1 with fail
 obtain⟨w0,hw0⟩:∃ w0,(W.alloc (.cells #[U i6 k,U i6 a,U i6 b,U i6 m,U i6 kh,U i6 kw,U i6 sh,U i6 sw,U i6 tp,U i6 lf,U i6 bt,U i6 rt,Sl wa lw wc,Sl ba lb bc,U i6 sm,U i6 ss,U i6 um,U i6 us,U i6 z,U i6 p,U i6 lo,U i6 hi,U i6 h,U i6 w,U i6 c,U i6 H,U i6 V,U i6 C] 44)).alloc (.cells #[U i6 0,U i6 0] 28)=w0:=⟨_,rfl⟩
 rw [hw0] at s0 ⊢
 clear hw0
 refine regionC (fun w'=>St W w' [(W.heap.size,#[U i6 k,U i6 a,U i6 b,U i6 m,U i6 kh,U i6 kw,U i6 sh,U i6 sw,U i6 tp,U i6 lf,U i6 bt,U i6 rt,Sl wa lw wc,Sl ba lb bc,U i6 sm,U i6 ss,U i6 um,U i6 us,U i6 z,U i6 p,U i6 lo,U i6 hi,U i6 h,U i6 w,U i6 c,U i6 H,U i6 V,U i6 C],44)]) (by kernel_rfl) ?_
 have s1:=s0.drew
 obtain⟨w1,hw1⟩:∃ w1,w0.drew=w1:=⟨_,rfl⟩
 rw [hw1] at s1 ⊢
 clear hw1 s0
 have HLD:Hid (∀ w',St W w' [(W.heap.size,#[U i6 k,U i6 a,U i6 b,U i6 m,U i6 kh,U i6 kw,U i6 sh,U i6 sw,U i6 tp,U i6 lf,U i6 bt,U i6 rt,Sl wa lw wc,Sl ba lb bc,U i6 sm,U i6 ss,U i6 um,U i6 us,U i6 z,U i6 p,U i6 lo,U i6 hi,U i6 h,U i6 w,U i6 c,U i6 H,U i6 V,U i6 C],44)]→∀ (q:Nat) (v:Value),(#[U i6 k,U i6 a,U i6 b,U i6 m,U i6 kh,U i6 kw,U i6 sh,U i6 sw,U i6 tp,U i6 lf,U i6 bt,U i6 rt,Sl wa lw wc,Sl ba lb bc,U i6 sm,U i6 ss,U i6 um,U i6 us,U i6 z,U i6 p,U i6 lo,U i6 hi,U i6 h,U i6 w,U i6 c,U i6 H,U i6 V,U i6 C]).toList[q]? = some v→w'.cell? ((⟨W.heap.size,0,none⟩:Addr).add q)=some v):=fun w' hw' q v hq=>by rw [Addr.add_lit,Nat.zero_add,(cells_at hw'.h1).1];simpa using hq
 refine takeC 0 (v:=.agg #[U i6 k,U i6 a,U i6 b,U i6 m,U i6 kh,U i6 kw,U i6 sh,U i6 sw,U i6 tp,U i6 lf,U i6 bt,U i6 rt,Sl wa lw wc,Sl ba lb bc,U i6 sm,U i6 ss,U i6 um,U i6 us,U i6 z,U i6 p,U i6 lo,U i6 hi,U i6 h,U i6 w,U i6 c,U i6 H,U i6 V,U i6 C]) rfl rfl (by kernel_rfl) (by kernel_rfl) (by kernel_rfl) (fun _ _ _ h=>h) (fun _=>rfl) rfl (fun w' hw'=>run_la 44 (.tmp 2) rfl ⟨W.heap.size,0,none⟩ (by kernel_rfl) (#[U i6 k,U i6 a,U i6 b,U i6 m,U i6 kh,U i6 kw,U i6 sh,U i6 sw,U i6 tp,U i6 lf,U i6 bt,U i6 rt,Sl wa lw wc,Sl ba lb bc,U i6 sm,U i6 ss,U i6 um,U i6 us,U i6 z,U i6 p,U i6 lo,U i6 hi,U i6 h,U i6 w,U i6 c,U i6 H,U i6 V,U i6 C]).toList _ (HLD.out w' hw') Tryz.underlying44 rfl (by kernel_rfl)) ?_
 refine takeC 1 (v:=U i6 ch) rfl rfl (by kernel_rfl) (by kernel_rfl) (by kernel_rfl) (fun _ _ _ h=>h) (fun _=>rfl) rfl (fun w' hw'=>by go_simp) ?_
 refine takeC 3 (v:=.agg #[U i6 k,U i6 a,U i6 b,U i6 m,U i6 kh,U i6 kw,U i6 sh,U i6 sw,U i6 tp,U i6 lf,U i6 bt,U i6 rt,Sl wa lw wc,Sl ba lb bc,U i6 sm,U i6 ss,U i6 um,U i6 us,U i6 z,U i6 p,U i6 lo,U i6 hi,U i6 h,U i6 w,U i6 c,U i6 H,U i6 V,U i6 C]) rfl rfl (by kernel_rfl) (by kernel_rfl) (by kernel_rfl) (fun _ _ _ h=>h) (fun _=>rfl) rfl (fun w' hw'=>run_la 44 (.tmp 2) rfl ⟨W.heap.size,0,none⟩ (by kernel_rfl) (#[U i6 k,U i6 a,U i6 b,U i6 m,U i6 kh,U i6 kw,U i6 sh,U i6 sw,U i6 tp,U i6 lf,U i6 bt,U i6 rt,Sl wa lw wc,Sl ba lb bc,U i6 sm,U i6 ss,U i6 um,U i6 us,U i6 z,U i6 p,U i6 lo,U i6 hi,U i6 h,U i6 w,U i6 c,U i6 H,U i6 V,U i6 C]).toList _ (HLD.out w' hw') Tryz.underlying44 rfl (by kernel_rfl)) ?_
 refine takeC 4 (v:=U i6 ch) rfl rfl (by kernel_rfl) (by kernel_rfl) (by kernel_rfl) (fun _ _ _ h=>h) (fun _=>rfl) rfl (fun w' hw'=>by go_simp) ?_
 refine yK 2 s1.tail (by kernel_rfl) rfl rfl 46 #[.agg #[U i6 k,U i6 a,U i6 b,U i6 m,U i6 kh,U i6 kw,U i6 sh,U i6 sw,U i6 tp,U i6 lf,U i6 bt,U i6 rt,Sl wa lw wc,Sl ba lb bc,U i6 sm,U i6 ss,U i6 um,U i6 us,U i6 z,U i6 p,U i6 lo,U i6 hi,U i6 h,U i6 w,U i6 c,U i6 H,U i6 V,U i6 C],U i6 ch] (by kernel_rfl) (HB.out w1 s1.below) ?_
 rintro e w2 ⟨rfl,hb⟩
 refine⟨_,rfl,?_⟩
 have s2:=s1.call hb
 refine yK 5 s2.tail (by kernel_rfl) rfl rfl 46 #[.agg #[U i6 k,U i6 a,U i6 b,U i6 m,U i6 kh,U i6 kw,U i6 sh,U i6 sw,U i6 tp,U i6 lf,U i6 bt,U i6 rt,Sl wa lw wc,Sl ba lb bc,U i6 sm,U i6 ss,U i6 um,U i6 us,U i6 z,U i6 p,U i6 lo,U i6 hi,U i6 h,U i6 w,U i6 c,U i6 H,U i6 V,U i6 C],U i6 ch] (by kernel_rfl) (HB.out w2 s2.below) ?_
 rintro e w3 ⟨rfl,hb3⟩
 refine⟨_,rfl,?_⟩
 have s3:=s2.call hb3
 refine takeC 6 (v:=.agg #[U i6 bi,U i6 bi]) rfl rfl (by kernel_rfl) (by kernel_rfl) (by kernel_rfl) (fun _ _ _ h=>h) (fun _=>rfl) rfl (fun w' hw'=>by go_simp) ?_
 refine yS 7 s3.tail (by kernel_rfl) rfl rfl 28 (.tmp 4) (.tmp 11) rfl (W.heap.size+1) #[U i6 bi,U i6 bi] (by kernel_rfl) (by kernel_rfl) 28 #[U i6 0,U i6 0] s3.h1 (by kernel_rfl) rfl (by simp [Value.oneCell']) ?_
 have s4:=s3.rowset (c':=#[U i6 bi,U i6 bi]) (by simp)
 obtain⟨w4,hw4⟩:∃ w4,w3.setRow (W.heap.size+1) #[U i6 bi,U i6 bi]=w4:=⟨_,rfl⟩
 rw [hw4] at s4 ⊢
 refine doneC s4.tail (by kernel_rfl) ?_ _
 obtain⟨c1,-⟩:=s4.rules
 have HS:Hid (Below W.heap.size W w4):=s4.below
 clear s1 s2 s3 s4 hw4 hb hb3 HLD
 go_wp2
 exact bodyPost_ret (v:=.agg #[U i6 bi,U i6 bi]) (by simp [results,Tryz.results28,go_sem,c1]) (by kernel_rfl) ⟨rfl,HS.out⟩
theorem gb_first {W w1:World} {B i:Nat} {v:Value} (h:Below W.heap.size W w1):W.grownBy (w1.setCell ⟨B,i,none⟩ v) (some B) :=
 ⟨h.os,h.tape,h.output,by simp;exact h.size,fun k hk hne=>(Below.heap_setCell _ _ _ _ (fun e=>hne (by rw [e]))).trans (h.block k hk)⟩
theorem gb_set {W w1:World} {B i:Nat} {v:Value} (h:W.grownBy w1 (some B)):W.grownBy (w1.setCell ⟨B,i,none⟩ v) (some B) :=
 ⟨h.os,h.tape,h.output,by simp;exact h.size,fun k hk hne=>(Below.heap_setCell _ _ _ _ (fun e=>hne (by rw [e]))).trans (h.block k hk hne)⟩
def huV (L:List (Int×Int)):Array Value:=#[U i6 (huA L).1,U i6 (huA L).2,.bool (!L.isEmpty)]
theorem huV_0:huV []=#[U i6 0,U i6 0,.bool false]:=rfl
theorem huV_first (x:Int×Int):huV [x]=#[U i6 x.1,U i6 x.2,.bool true]:=rfl
theorem huV_more {L:List (Int×Int)} (h:L≠[]) (x:Int×Int):huV (L++[x])=#[U i6 (xmn (huA L).1 x.1),U i6 (xmx (huA L).2 x.2),.bool true]:=by
 unfold huV
 rw [huA_snoc h]
 simp [hul]
theorem rtake_any (B:Nat) (L:List (Int×Int)) (x:Int×Int) (W:World) (hB:W.heap[B]? = some (.cells (huV L) 69 (0,0))) :
  Calls Tryz.prog 30 #[.pointer (some ⟨B,0,none⟩),.agg #[U i6 x.1,U i6 x.2]] W fun e w'=>(∃ v,e=.returned v)∧W.grownBy w' (some B)∧w'.heap[B]? = some (.cells (huV (L++[x])) 69 (0,0)):=by
 obtain⟨x1,x2⟩:=x
 have hz:=lt_of_heap hB
 by_cases hL:L=[]
 ·subst hL
  rw [huV_0] at hB
  rw [List.nil_append,huV_first]
  have hb:=bal W (.cells #[U i6 x1,U i6 x2] 28)
  have h1:=(hb.block B hz).trans hB
  obtain⟨y1,y2,y3⟩:=cells_at hB
  go_enter Tryz.func30,Tryz.ntmps30
  go_upto_region 2 with fail
  have h2:=heap_alloc_new W (.cells #[U i6 x1,U i6 x2] 28)
  obtain⟨w1,hw1⟩:∃ w1,W.alloc (.cells #[U i6 x1,U i6 x2] 28)=w1:=⟨_,rfl⟩
  rw [hw1] at hb h1 h2 ⊢
  clear hw1 y1 y2 y3 hB
  obtain⟨y1,y2,y3⟩:=cells_at h1
  obtain⟨x1',-,-⟩:=cells_at h2
  have HW:Hid ((((w1.setCell ⟨B,0,none⟩ (U i6 x1)).setCell ⟨B,1,none⟩ (U i6 x2)).setCell ⟨B,2,none⟩ (.bool true)).heap[B]? = some (.cells #[U i6 x1,U i6 x2,.bool true] 69 (0,0))):=heap_setCell_at (heap_setCell_at (heap_setCell_at h1))
  have HG:Hid (W.grownBy (((w1.setCell ⟨B,0,none⟩ (U i6 x1)).setCell ⟨B,1,none⟩ (U i6 x2)).setCell ⟨B,2,none⟩ (.bool true)) (some B)):=gb_set (gb_set (gb_first hb))
  clear hb h1 h2
  go_wp2
  refine bodyPost_ret (results_none rfl _ _ _) rfl ?_
  exact⟨⟨_,rfl⟩,HG.out,HW.out⟩
 ·rw [huV_more hL]
  have e0:huV L=#[U i6 (huA L).1,U i6 (huA L).2,.bool true]:=by unfold huV;cases L with
   | nil=>exact absurd rfl hL
   | cons a l=>rfl
  rw [e0] at hB
  obtain⟨m1,m2,hm⟩:∃ m1 m2,huA L=(m1,m2):=⟨_,_,rfl⟩
  rw [hm] at hB ⊢
  simp only at hB ⊢
  clear e0 hm hL
  obtain⟨n1,hn1⟩:∃ n1,xmn m1 x1=n1:=⟨_,rfl⟩
  obtain⟨n2,hn2⟩:∃ n2,xmx m2 x2=n2:=⟨_,rfl⟩
  have q1:=min2 m1 x1 n1 hn1
  have q2:=max2b m2 x2 n2 hn2
  rw [hn1,hn2]
  clear hn1 hn2
  have hb:=bal W (.cells #[U i6 x1,U i6 x2] 28)
  have h1:=(hb.block B hz).trans hB
  have h2:=heap_alloc_new W (.cells #[U i6 x1,U i6 x2] 28)
  have hzB:B<W.heap.size:=hz
  go_enter Tryz.func30,Tryz.ntmps30
  obtain⟨y1,y2,y3⟩:=cells_at hB
  go_upto_region 4 with fail
  obtain⟨w1,hw1⟩:∃ w1,W.alloc (.cells #[U i6 x1,U i6 x2] 28)=w1:=⟨_,rfl⟩
  rw [hw1] at hb h1 h2 ⊢
  clear hw1 y1 y2 y3 hB
  have hfn:∀ f,Fence.wide.fn f:=fun _=>trivial
  have hdp:Fence.wide.depth=none:=rfl
  have hne:Nonempty (Wn w1):=⟨Wn.mk w1 (Below.refl _ _)⟩
  have e1:=Wn.rule h1
  have e2:=Wn.rule h2
  refine (wpIn_wide (n:=3)).1 ?_
  refine region_tail_at 12 (C:=fun w'=>∃ n:Wn w1,w'=n.w) rfl rfl (by kernel_rfl) (by kernel_rfl) ⟨Wn.mk _ (Below.refl _ _).drew,rfl⟩ ?_
  simp only [List.take_succ_cons,List.take_zero,List.drop_succ_cons,List.drop_zero]
  repeat (gi_big_quiet_step (fail))
  refine wpQuietIn_nil ?_
  rintro _ ⟨nn,rfl⟩
  have g1:=(nn.h.block B (lt_of_heap h1)).trans h1
  have g2:=(nn.h.block W.heap.size (lt_of_heap h2)).trans h2
  have hbn:=hb.trans (nn.h.mono hb.size)
  obtain⟨wn,hwn⟩:∃ wn,nn.w=wn:=⟨_,rfl⟩
  rw [hwn] at g1 g2 hbn ⊢
  clear e1 e2 hne h1 h2 hb hwn
  obtain⟨y1,y2,y3⟩:=cells_at g1
  have k1:=heap_setCell_at (i:=0) (v:=U i6 n1) g1
  have k2:(wn.setCell ⟨B,0,none⟩ (U i6 n1)).heap[W.heap.size]? = some (.cells #[U i6 x1,U i6 x2] 28 (0,0)):=(Below.heap_setCell _ _ _ _ (by show W.heap.size≠B;omega)).trans g2
  have HG1:Hid (W.grownBy (wn.setCell ⟨B,0,none⟩ (U i6 n1)) (some B)):=gb_first hbn
  gi_wp2
  obtain⟨w2,hw2⟩:∃ w2,wn.setCell ⟨B,0,none⟩ (U i6 n1)=w2:=⟨_,rfl⟩
  rw [hw2] at k1 k2 HG1 ⊢
  clear hw2 y1 y2 y3 g1 g2 hbn
  have hne:Nonempty (Wn w2):=⟨Wn.mk w2 (Below.refl _ _)⟩
  have e1:=Wn.rule k1
  have e2:=Wn.rule k2
  simp only [List.setIfInBounds_toArray,List.set_cons_zero] at e1 k1
  refine (wpIn_wide (n:=3)).1 ?_
  refine region_tail_at 12 (C:=fun w'=>∃ n:Wn w2,w'=n.w) rfl rfl (by kernel_rfl) (by kernel_rfl) ⟨Wn.mk _ (Below.refl _ _).drew,rfl⟩ ?_
  simp only [List.take_succ_cons,List.take_zero,List.drop_succ_cons,List.drop_zero]
  repeat (gi_big_quiet_step (fail))
  refine wpQuietIn_nil ?_
  rintro _ ⟨nn,rfl⟩
  have g1:=(nn.h.block B (lt_of_heap k1)).trans k1
  have HG2:Hid (W.grownBy (nn.w.setCell ⟨B,1,none⟩ (U i6 n2)) (some B)):=gb_set ⟨nn.h.os.trans HG1.out.os,nn.h.tape.trans HG1.out.tape,nn.h.output.trans HG1.out.output,Nat.le_trans HG1.out.size nn.h.size,fun k hk hne=>(nn.h.block k (Nat.lt_of_lt_of_le hk HG1.out.size)).trans (HG1.out.block k hk hne)⟩
  obtain⟨wn2,hwn2⟩:∃ wn,nn.w=wn:=⟨_,rfl⟩
  rw [hwn2] at g1 HG2 ⊢
  clear e1 e2 hne k1 k2 HG1 hwn2
  obtain⟨y1,y2,y3⟩:=cells_at g1
  have HW:Hid ((wn2.setCell ⟨B,1,none⟩ (U i6 n2)).heap[B]? = some (.cells #[U i6 n1,U i6 n2,.bool true] 69 (0,0))):=heap_setCell_at g1
  clear g1
  gi_wp2
  go_end0
  exact⟨⟨_,rfl⟩,HG2.out,HW.out⟩
end Go.Proofs.YtccoanknofhmaaaGreat
