/- What alone of package plain returns: a model of one op. What greatestUnder and greatest of package plain return. What greatest of package plain returns; lists that grow. What sums of package plain returns: all sums of an op that reduces. What Totals of package plain returns. The walk of WitnessTotals, over what its calls return. -/
import Derived.Test.YtgjcjhnnopandaaGq08
import Derived.Test.YtgjcjhnnopandaaGq28
import Derived.Deep.RegionLawGrows
namespace Go.Proofs.Ytgjcjhnnopandaa
open Go.Value renaming int → U, slice → Sl
open Go.IntKind renaming i64 → i6
set_option maxRecDepth 100000
set_option maxHeartbeats 16000000
open Go.ChangeShapes Go.WideShapes Go.ChangeAt Go.RowKit
set_option linter.unusedVariables false
theorem lcells {w:World} {B:Nat} {cs:Array Value} {T:TypeId} (h:w.heap[B]? = some (.cells cs T (0,0))) {l:List Value} (hl:∀ (q:Nat) (v:Value),l[q]? = some v→cs[q]? = some v):∀ (q:Nat) (v:Value),l[q]? = some v→w.cell? ((⟨B,0,none⟩:Addr).add q)=some v:=fun q v hq=>by
 rw [Addr.add_lit,Nat.zero_add,(cells_at h).1]
 exact hl q v hq
theorem fget (l r:List Value):∀ (q:Nat) (v:Value),l[q]? = some v→(l++r).toArray[q]? = some v:=fun q v hq=>by
 have:=(List.getElem?_eq_some_iff.1 hq).1
 rw [List.getElem?_toArray,List.getElem?_append_left this]
 exact hq
theorem wpList_run1 {P:Program} {ops:Array Oper} {rest:List Oper} {o:Oper} {a:Act} {w:World} {Q:Exit→Act→World→Prop} (hg:o.guard=none) (dst:Option Tmp) (hdst:o.dst=dst)
  (v:Value) (w':World) (hrun:(execOp a.eval o).run P w=.ok (.value v) w') (h:wpList P ops Q rest (a.put dst v) w'):wpList P ops Q (o :: rest) a w:=by
 subst hdst
 refine wpList_plain hg fun K hK=>?_
 unfold Oper.wp
 rw [hrun,Oper.upon_value]
 exact hK _ _ h
theorem wp_run1 {P:Program} {o:Oper} {a:Act} {w w':World} {v:Value} {K:Act→World→Prop} {Q:Exit→Act→World→Prop} (hrun:(execOp a.eval o).run P w=.ok (.value v) w') (h:K (a.put o.dst v) w'):o.wp P a w K Q:=by
 unfold Oper.wp
 rw [hrun,Oper.upon_value]
 exact h
theorem stepW {P:Program} {ops:Array Oper} {md:Region.Mode} {C:World→Prop} {Q:Exit→Act→World→Prop} (i:Nat) {o:Oper} {fuel:Nat} {listed:Array Bool} {a:Act} {w:World} (hC:C w) (hr:Region.ready md ops listed=[i]) (ho:ops[i]? = some o) (hg:o.guard=none)
  (h:∀ K:Act→World→Prop,(∀ a w,wpAnyC Fence.wide 3 P md ops C Q fuel (listed.setIfInBounds i true) a w→K a w)→o.wp P a w K Q):wpAnyC Fence.wide 3 P md ops C Q (fuel+1) listed a w :=
 stepC i hC hr ho fun K hK=>step_wp hg (h K hK)
theorem stepR {P:Program} {ops:Array Oper} {md:Region.Mode} {C:World→Prop} {Q:Exit→Act→World→Prop} (i:Nat) {o:Oper} {fuel:Nat} {listed:Array Bool} {a:Act} {w:World} (hC:C w) (hr:Region.ready md ops listed=[i]) (ho:ops[i]? = some o) (hg:o.guard=none)
  (v:Value) (w':World) (hrun:(execOp a.eval o).run P w=.ok (.value v) w') (h:wpAnyC Fence.wide 3 P md ops C Q fuel (listed.setIfInBounds i true) (a.put o.dst v) w'):wpAnyC Fence.wide 3 P md ops C Q (fuel+1) listed a w :=
 stepW i hC hr ho hg fun K hK=>wp_run1 hrun (hK _ _ h)
theorem stepS {P:Program} {ops:Array Oper} {md:Region.Mode} {C:World→Prop} {Q:Exit→Act→World→Prop} (i:Nat) {o:Oper} {fuel:Nat} {listed:Array Bool} {a:Act} {w:World} (hC:C w) (hr:Region.ready md ops listed=[i]) (ho:ops[i]? = some o) (hg:o.guard=none)
  (ty:TypeId) (x y:Operand) (hop:o.op=.store ty x y) (g:Nat) (cells:Array Value) (hx:a.eval x=.pointer (some ⟨g,0,none⟩)) (hy:a.eval y=.agg cells) (t:TypeId) (old:Array Value) (hh:w.heap[g]? = some (.cells old t (0,0))) (hi:(P.info? ty).map (·.size)=some cells.size) (hold:old.size=cells.size) (h1:cells.all (·.oneCell')=true)
  (h:wpAnyC Fence.wide 3 P md ops C Q fuel (listed.setIfInBounds i true) (a.put o.dst undef) (w.setRow g cells)):wpAnyC Fence.wide 3 P md ops C Q (fuel+1) listed a w :=
 stepW i hC hr ho hg fun K hK=>wp_store_row ty x y hop g cells hx hy t old hh hi hold h1 (hK _ _ h)
theorem alone_any (k a b m kh kw sh sw tp lf bt rt:Int) (wa:Option Addr) (lw wc:Nat) (ba:Option Addr) (lb bc:Nat) (sm ss um us z p lo hi h w c H V C:Int) (r:Nat) (W:World) (hr:W.heap[r]? = some (.cells #[U i6 k,U i6 a,U i6 b,U i6 m,U i6 kh,U i6 kw,U i6 sh,U i6 sw,U i6 tp,U i6 lf,U i6 bt,U i6 rt,Sl wa lw wc,Sl ba lb bc,U i6 sm,U i6 ss,U i6 um,U i6 us,U i6 z,U i6 p,U i6 lo,U i6 hi,U i6 h,U i6 w,U i6 c,U i6 H,U i6 V,U i6 C] 85 (0,0))) :
  Calls Try.prog 52 #[.pointer (some ⟨r,0,none⟩)] W fun e w'=>∃ g,e=.returned (.agg #[U i6 h,U i6 w,U i6 c,U i6 0,U i6 0,Sl (some ⟨g,0,none⟩) 1 1,U i6 0])∧w'.heap[g]? = some (.cells #[U i6 k,U i6 0,U i6 b,U i6 m,U i6 kh,U i6 kw,U i6 sh,U i6 sw,U i6 tp,U i6 lf,U i6 bt,U i6 rt,Sl wa lw wc,Sl ba lb bc,U i6 sm,U i6 ss,U i6 um,U i6 us,U i6 z,U i6 p,U i6 lo,U i6 hi] 83 (0,0))∧W.heap.size≤g∧Below W.heap.size W w':=by
 have hrz:=lt_of_heap hr
 have s0:=(St.start W).new (c:=#[U i6 0,U i6 0,U i6 0,U i6 0,U i6 0,Sl none 0 0,U i6 0]) (t:=26)
 have hr0:=(s0.below.block r hrz).trans hr
 have HL:Hid (∀ q v,[U i6 k,U i6 a,U i6 b,U i6 m,U i6 kh,U i6 kw,U i6 sh,U i6 sw,U i6 tp,U i6 lf,U i6 bt,U i6 rt,Sl wa lw wc,Sl ba lb bc,U i6 sm,U i6 ss,U i6 um,U i6 us,U i6 z,U i6 p,U i6 lo,U i6 hi][q]? = some v→(W.alloc (.cells #[U i6 0,U i6 0,U i6 0,U i6 0,U i6 0,Sl none 0 0,U i6 0] 26)).cell? ((⟨r,0,none⟩:Addr).add q)=some v):=lcells hr0 (fget [U i6 k,U i6 a,U i6 b,U i6 m,U i6 kh,U i6 kw,U i6 sh,U i6 sw,U i6 tp,U i6 lf,U i6 bt,U i6 rt,Sl wa lw wc,Sl ba lb bc,U i6 sm,U i6 ss,U i6 um,U i6 us,U i6 z,U i6 p,U i6 lo,U i6 hi] [U i6 h,U i6 w,U i6 c,U i6 H,U i6 V,U i6 C])
 have HR:Hid (W.heap[r]? = some (.cells #[U i6 k,U i6 a,U i6 b,U i6 m,U i6 kh,U i6 kw,U i6 sh,U i6 sw,U i6 tp,U i6 lf,U i6 bt,U i6 rt,Sl wa lw wc,Sl ba lb bc,U i6 sm,U i6 ss,U i6 um,U i6 us,U i6 z,U i6 p,U i6 lo,U i6 hi,U i6 h,U i6 w,U i6 c,U i6 H,U i6 V,U i6 C] 85 (0,0))):=hr
 have s1:=s0.new (c:=#[U i6 k,U i6 a,U i6 b,U i6 m,U i6 kh,U i6 kw,U i6 sh,U i6 sw,U i6 tp,U i6 lf,U i6 bt,U i6 rt,Sl wa lw wc,Sl ba lb bc,U i6 sm,U i6 ss,U i6 um,U i6 us,U i6 z,U i6 p,U i6 lo,U i6 hi]) (t:=83)
 simp only [World.size_alloc] at s1
 have S1:Hid (St W _ _):=s1
 clear hr hr0 s0 s1
 go_enter Try.func52,Try.ntmps52
 go_upto_region 1 with fail
 obtain⟨w0,hw0⟩:∃ w0,W.alloc (.cells #[U i6 0,U i6 0,U i6 0,U i6 0,U i6 0,Sl none 0 0,U i6 0] 26)=w0:=⟨_,rfl⟩
 rw [hw0] at HL S1 ⊢
 have hz0:w0.heap.size=W.heap.size+1:=by rw [← hw0];simp
 rw [← hz0] at S1
 have HZ0:Hid (w0.heap.size=W.heap.size+1):=hz0
 clear hw0 hz0
 obtain⟨vo,hvo⟩:∃ vo,Value.agg #[U i6 k,U i6 a,U i6 b,U i6 m,U i6 kh,U i6 kw,U i6 sh,U i6 sw,U i6 tp,U i6 lf,U i6 bt,U i6 rt,Sl wa lw wc,Sl ba lb bc,U i6 sm,U i6 ss,U i6 um,U i6 us,U i6 z,U i6 p,U i6 lo,U i6 hi]=vo:=⟨_,rfl⟩
 have HVO:Hid (Value.agg #[U i6 k,U i6 a,U i6 b,U i6 m,U i6 kh,U i6 kw,U i6 sh,U i6 sw,U i6 tp,U i6 lf,U i6 bt,U i6 rt,Sl wa lw wc,Sl ba lb bc,U i6 sm,U i6 ss,U i6 um,U i6 us,U i6 z,U i6 p,U i6 lo,U i6 hi]=vo):=hvo
 go_upto_region 2 with ((refine wpList_load_any rfl 83 (.tmp 6) rfl _ rfl [U i6 k,U i6 a,U i6 b,U i6 m,U i6 kh,U i6 kw,U i6 sh,U i6 sw,U i6 tp,U i6 lf,U i6 bt,U i6 rt,Sl wa lw wc,Sl ba lb bc,U i6 sm,U i6 ss,U i6 um,U i6 us,U i6 z,U i6 p,U i6 lo,U i6 hi] _ HL.out Try.underlying83 rfl (by kernel_rfl) ?_;(show wpList _ _ _ _ (Act.put _ _ (Value.agg #[U i6 k,U i6 a,U i6 b,U i6 m,U i6 kh,U i6 kw,U i6 sh,U i6 sw,U i6 tp,U i6 lf,U i6 bt,U i6 rt,Sl wa lw wc,Sl ba lb bc,U i6 sm,U i6 ss,U i6 um,U i6 us,U i6 z,U i6 p,U i6 lo,U i6 hi])) _);rw [hvo];clear hvo;refine wpList_run1 rfl (some 3) rfl (.pointer (some ⟨w0.heap.size,0,none⟩)) (w0.alloc (.cells #[U i6 0,U i6 0,U i6 0,U i6 0,U i6 0,U i6 0,U i6 0,U i6 0,U i6 0,U i6 0,U i6 0,U i6 0,Sl none 0 0,Sl none 0 0,U i6 0,U i6 0,U i6 0,U i6 0,U i6 0,U i6 0,U i6 0,U i6 0] 83)) (by kernel_rfl) ?_;refine wpList_st_new rfl 83 (.tmp 3) (.tmp 7) rfl w0 #[U i6 0,U i6 0,U i6 0,U i6 0,U i6 0,U i6 0,U i6 0,U i6 0,U i6 0,U i6 0,U i6 0,U i6 0,Sl none 0 0,Sl none 0 0,U i6 0,U i6 0,U i6 0,U i6 0,U i6 0,U i6 0,U i6 0,U i6 0] #[U i6 k,U i6 a,U i6 b,U i6 m,U i6 kh,U i6 kw,U i6 sh,U i6 sw,U i6 tp,U i6 lf,U i6 bt,U i6 rt,Sl wa lw wc,Sl ba lb bc,U i6 sm,U i6 ss,U i6 um,U i6 us,U i6 z,U i6 p,U i6 lo,U i6 hi] (by kernel_rfl) (Eq.trans (by kernel_rfl:_=vo) HVO.out.symm) (by kernel_rfl) rfl (by simp [Value.oneCell']) ?_;(obtain⟨w1,hw1⟩:∃ w1,w0.alloc (.cells #[U i6 k,U i6 a,U i6 b,U i6 m,U i6 kh,U i6 kw,U i6 sh,U i6 sw,U i6 tp,U i6 lf,U i6 bt,U i6 rt,Sl wa lw wc,Sl ba lb bc,U i6 sm,U i6 ss,U i6 um,U i6 us,U i6 z,U i6 p,U i6 lo,U i6 hi] 83)=w1:=⟨_,rfl⟩);rw [hw1] at S1 ⊢;clear hw1))
 obtain⟨c1,f1,z1,-⟩:=S1.out.rules
 go_upto_region 3 with fail
 have s2:=S1.out.seti (i:=1) (v:=U i6 0) (by simp;have:=HZ0.out;omega) #[U i6 k,U i6 0,U i6 b,U i6 m,U i6 kh,U i6 kw,U i6 sh,U i6 sw,U i6 tp,U i6 lf,U i6 bt,U i6 rt,Sl wa lw wc,Sl ba lb bc,U i6 sm,U i6 ss,U i6 um,U i6 us,U i6 z,U i6 p,U i6 lo,U i6 hi] (by kernel_rfl)
 obtain⟨w2,hw2⟩:∃ w2,w1.setCell ⟨w0.heap.size,1,none⟩ (U i6 0)=w2:=⟨_,rfl⟩
 rw [hw2] at s2 ⊢
 have S2:Hid (St W w2 _):=s2
 have hG1:=s2.h1
 have hG2:=s2.h2
 have hG3:=(s2.below.block r hrz).trans HR.out
 clear hw2 S1 c1 f1 s2 HL
 refine regionC (fun w'=>w'.heap[r]? = some (.cells #[U i6 k,U i6 a,U i6 b,U i6 m,U i6 kh,U i6 kw,U i6 sh,U i6 sw,U i6 tp,U i6 lf,U i6 bt,U i6 rt,Sl wa lw wc,Sl ba lb bc,U i6 sm,U i6 ss,U i6 um,U i6 us,U i6 z,U i6 p,U i6 lo,U i6 hi,U i6 h,U i6 w,U i6 c,U i6 H,U i6 V,U i6 C] 85 (0,0))∧w'.heap[w0.heap.size]? = some (.cells #[U i6 k,U i6 0,U i6 b,U i6 m,U i6 kh,U i6 kw,U i6 sh,U i6 sw,U i6 tp,U i6 lf,U i6 bt,U i6 rt,Sl wa lw wc,Sl ba lb bc,U i6 sm,U i6 ss,U i6 um,U i6 us,U i6 z,U i6 p,U i6 lo,U i6 hi] 83 (0,0))) (by kernel_rfl) ?_
 obtain⟨wd,hwd⟩:∃ wd,w2.drew=wd:=⟨_,rfl⟩
 have HD:Hid (wd.heap[r]? = some (.cells #[U i6 k,U i6 a,U i6 b,U i6 m,U i6 kh,U i6 kw,U i6 sh,U i6 sw,U i6 tp,U i6 lf,U i6 bt,U i6 rt,Sl wa lw wc,Sl ba lb bc,U i6 sm,U i6 ss,U i6 um,U i6 us,U i6 z,U i6 p,U i6 lo,U i6 hi,U i6 h,U i6 w,U i6 c,U i6 H,U i6 V,U i6 C] 85 (0,0))∧wd.heap[w0.heap.size]? = some (.cells #[U i6 k,U i6 0,U i6 b,U i6 m,U i6 kh,U i6 kw,U i6 sh,U i6 sw,U i6 tp,U i6 lf,U i6 bt,U i6 rt,Sl wa lw wc,Sl ba lb bc,U i6 sm,U i6 ss,U i6 um,U i6 us,U i6 z,U i6 p,U i6 lo,U i6 hi] 83 (0,0))):=by unfold Hid;rw [← hwd];exact⟨hG3,hG1⟩
 have s3:=S2.out.drew
 rw [hwd] at s3 ⊢
 have S3:Hid (St W wd _):=s3
 clear hwd S2 hG1 hG2 hG3 s3
 refine takeC 0 (v:=.pointer (some ⟨r,0,none⟩)) rfl rfl (by kernel_rfl) (by kernel_rfl) (by kernel_rfl) (fun _ _ _ h=>h) (fun _=>rfl) rfl (fun w' hw'=>by go_simp) ?_
 refine takeC 1 (v:=.pointer (some ⟨r,0,none⟩)) rfl rfl (by kernel_rfl) (by kernel_rfl) (by kernel_rfl) (fun _ _ _ h=>h) (fun _=>rfl) rfl (fun w' hw'=>by go_simp) ?_
 refine takeC 2 (v:=.pointer (some ⟨r,22,none⟩)) rfl rfl (by kernel_rfl) (by kernel_rfl) (by kernel_rfl) (fun _ _ _ h=>h) (fun _=>rfl) rfl (fun w' hw'=>by go_simp) ?_
 refine takeC 3 (v:=.agg #[U i6 h,U i6 w,U i6 c]) rfl rfl (by kernel_rfl) (by kernel_rfl) (by kernel_rfl) (fun _ _ _ h=>h) (fun _=>rfl) rfl (fun w' hw'=>run_la 23 (.tmp 11) rfl ⟨r,22,none⟩ (by kernel_rfl) [U i6 h,U i6 w,U i6 c] _ (three_at hw'.1 rfl rfl rfl) Try.underlying23 rfl (by kernel_rfl)) ?_
 refine takeC 4 (v:=.agg #[U i6 k,U i6 0,U i6 b,U i6 m,U i6 kh,U i6 kw,U i6 sh,U i6 sw,U i6 tp,U i6 lf,U i6 bt,U i6 rt,Sl wa lw wc,Sl ba lb bc,U i6 sm,U i6 ss,U i6 um,U i6 us,U i6 z,U i6 p,U i6 lo,U i6 hi]) rfl rfl (by kernel_rfl) (by kernel_rfl) (by kernel_rfl) (fun _ _ _ h=>h) (fun _=>rfl) rfl (fun w' hw'=>run_la 83 (.tmp 3) rfl ⟨w0.heap.size,0,none⟩ (by kernel_rfl) [U i6 k,U i6 0,U i6 b,U i6 m,U i6 kh,U i6 kw,U i6 sh,U i6 sw,U i6 tp,U i6 lf,U i6 bt,U i6 rt,Sl wa lw wc,Sl ba lb bc,U i6 sm,U i6 ss,U i6 um,U i6 us,U i6 z,U i6 p,U i6 lo,U i6 hi] _ (lcells hw'.2 (fget [U i6 k,U i6 0,U i6 b,U i6 m,U i6 kh,U i6 kw,U i6 sh,U i6 sw,U i6 tp,U i6 lf,U i6 bt,U i6 rt,Sl wa lw wc,Sl ba lb bc,U i6 sm,U i6 ss,U i6 um,U i6 us,U i6 z,U i6 p,U i6 lo,U i6 hi] [])) Try.underlying83 rfl (by kernel_rfl)) ?_
 refine stepR 5 HD.out (by kernel_rfl) rfl rfl (.slice (some ⟨wd.heap.size,0,none⟩) 1 1) (wd.alloc (.cells #[U i6 k,U i6 0,U i6 b,U i6 m,U i6 kh,U i6 kw,U i6 sh,U i6 sw,U i6 tp,U i6 lf,U i6 bt,U i6 rt,Sl wa lw wc,Sl ba lb bc,U i6 sm,U i6 ss,U i6 um,U i6 us,U i6 z,U i6 p,U i6 lo,U i6 hi] 83)) (by kernel_rfl) ?_
 have HA:Hid ((wd.alloc (.cells #[U i6 k,U i6 0,U i6 b,U i6 m,U i6 kh,U i6 kw,U i6 sh,U i6 sw,U i6 tp,U i6 lf,U i6 bt,U i6 rt,Sl wa lw wc,Sl ba lb bc,U i6 sm,U i6 ss,U i6 um,U i6 us,U i6 z,U i6 p,U i6 lo,U i6 hi] 83)).heap[r]? = some (.cells #[U i6 k,U i6 a,U i6 b,U i6 m,U i6 kh,U i6 kw,U i6 sh,U i6 sw,U i6 tp,U i6 lf,U i6 bt,U i6 rt,Sl wa lw wc,Sl ba lb bc,U i6 sm,U i6 ss,U i6 um,U i6 us,U i6 z,U i6 p,U i6 lo,U i6 hi,U i6 h,U i6 w,U i6 c,U i6 H,U i6 V,U i6 C] 85 (0,0))∧(wd.alloc (.cells #[U i6 k,U i6 0,U i6 b,U i6 m,U i6 kh,U i6 kw,U i6 sh,U i6 sw,U i6 tp,U i6 lf,U i6 bt,U i6 rt,Sl wa lw wc,Sl ba lb bc,U i6 sm,U i6 ss,U i6 um,U i6 us,U i6 z,U i6 p,U i6 lo,U i6 hi] 83)).heap[w0.heap.size]? = some (.cells #[U i6 k,U i6 0,U i6 b,U i6 m,U i6 kh,U i6 kw,U i6 sh,U i6 sw,U i6 tp,U i6 lf,U i6 bt,U i6 rt,Sl wa lw wc,Sl ba lb bc,U i6 sm,U i6 ss,U i6 um,U i6 us,U i6 z,U i6 p,U i6 lo,U i6 hi] 83 (0,0))):=⟨(heap_alloc_old wd _ (lt_of_heap HD.out.1)).trans HD.out.1,(heap_alloc_old wd _ (lt_of_heap HD.out.2)).trans HD.out.2⟩
 have s4:=S3.out.new (c:=#[U i6 k,U i6 0,U i6 b,U i6 m,U i6 kh,U i6 kw,U i6 sh,U i6 sw,U i6 tp,U i6 lf,U i6 bt,U i6 rt,Sl wa lw wc,Sl ba lb bc,U i6 sm,U i6 ss,U i6 um,U i6 us,U i6 z,U i6 p,U i6 lo,U i6 hi]) (t:=83)
 have hwz:Hid (W.heap.size≤wd.heap.size):=S3.out.size
 obtain⟨w4,hw4⟩:∃ w4,wd.alloc (.cells #[U i6 k,U i6 0,U i6 b,U i6 m,U i6 kh,U i6 kw,U i6 sh,U i6 sw,U i6 tp,U i6 lf,U i6 bt,U i6 rt,Sl wa lw wc,Sl ba lb bc,U i6 sm,U i6 ss,U i6 um,U i6 us,U i6 z,U i6 p,U i6 lo,U i6 hi] 83)=w4:=⟨_,rfl⟩
 rw [hw4] at HA s4 ⊢
 have S4:Hid (St W w4 _):=s4
 clear hw4 s4 S3 HD
 obtain⟨g,hg⟩:∃ g,wd.heap.size=g:=⟨_,rfl⟩
 rw [hg] at S4 hwz ⊢
 clear hg
 refine takeC 6 (v:=.agg #[U i6 h,U i6 w,U i6 c,U i6 0,U i6 0,Sl (some ⟨g,0,none⟩) 1 1,U i6 0]) rfl rfl (by kernel_rfl) (by kernel_rfl) (by kernel_rfl) (fun _ _ _ h=>h) (fun _=>rfl) rfl (fun w' hw'=>by kernel_rfl) ?_
 have HS3:Hid (w4.heap[W.heap.size]? = some (.cells #[U i6 0,U i6 0,U i6 0,U i6 0,U i6 0,Sl none 0 0,U i6 0] 26 (0,0))):=S4.out.h3
 refine stepS 7 HA.out (by kernel_rfl) rfl rfl 26 (.tmp 2) (.tmp 15) rfl W.heap.size #[U i6 h,U i6 w,U i6 c,U i6 0,U i6 0,Sl (some ⟨g,0,none⟩) 1 1,U i6 0] (by kernel_rfl) (by kernel_rfl) 26 #[U i6 0,U i6 0,U i6 0,U i6 0,U i6 0,Sl none 0 0,U i6 0] HS3.out (by kernel_rfl) rfl (by simp [Value.oneCell']) ?_
 have hZ':=setRow_heap w4 W.heap.size #[U i6 0,U i6 0,U i6 0,U i6 0,U i6 0,Sl none 0 0,U i6 0] #[U i6 h,U i6 w,U i6 c,U i6 0,U i6 0,Sl (some ⟨g,0,none⟩) 1 1,U i6 0] 26 (0,0) HS3.out
 have hn1:g≠W.heap.size:=fun e=>by have h1:=S4.out.h1;rw [e,HS3.out] at h1;simp at h1
 have hn2:w0.heap.size≠W.heap.size:=by have:=HZ0.out;omega
 have hn3:r≠W.heap.size:=by omega
 have hO':Hid ((w4.setRow W.heap.size #[U i6 h,U i6 w,U i6 c,U i6 0,U i6 0,Sl (some ⟨g,0,none⟩) 1 1,U i6 0]).heap[g]? = some (.cells #[U i6 k,U i6 0,U i6 b,U i6 m,U i6 kh,U i6 kw,U i6 sh,U i6 sw,U i6 tp,U i6 lf,U i6 bt,U i6 rt,Sl wa lw wc,Sl ba lb bc,U i6 sm,U i6 ss,U i6 um,U i6 us,U i6 z,U i6 p,U i6 lo,U i6 hi] 83 (0,0))):=(setRow_other _ _ _ _ hn1).trans S4.out.h1
 have hB':Hid (Below W.heap.size W (w4.setRow W.heap.size #[U i6 h,U i6 w,U i6 c,U i6 0,U i6 0,Sl (some ⟨g,0,none⟩) 1 1,U i6 0])):=below_setRow S4.out.below (Nat.le_refl _) #[U i6 h,U i6 w,U i6 c,U i6 0,U i6 0,Sl (some ⟨g,0,none⟩) 1 1,U i6 0]
 have hC':(w4.setRow W.heap.size #[U i6 h,U i6 w,U i6 c,U i6 0,U i6 0,Sl (some ⟨g,0,none⟩) 1 1,U i6 0]).heap[r]? = some (.cells #[U i6 k,U i6 a,U i6 b,U i6 m,U i6 kh,U i6 kw,U i6 sh,U i6 sw,U i6 tp,U i6 lf,U i6 bt,U i6 rt,Sl wa lw wc,Sl ba lb bc,U i6 sm,U i6 ss,U i6 um,U i6 us,U i6 z,U i6 p,U i6 lo,U i6 hi,U i6 h,U i6 w,U i6 c,U i6 H,U i6 V,U i6 C] 85 (0,0))∧(w4.setRow W.heap.size #[U i6 h,U i6 w,U i6 c,U i6 0,U i6 0,Sl (some ⟨g,0,none⟩) 1 1,U i6 0]).heap[w0.heap.size]? = some (.cells #[U i6 k,U i6 0,U i6 b,U i6 m,U i6 kh,U i6 kw,U i6 sh,U i6 sw,U i6 tp,U i6 lf,U i6 bt,U i6 rt,Sl wa lw wc,Sl ba lb bc,U i6 sm,U i6 ss,U i6 um,U i6 us,U i6 z,U i6 p,U i6 lo,U i6 hi] 83 (0,0)):=⟨(setRow_other _ _ _ _ hn3).trans HA.out.1,(setRow_other _ _ _ _ hn2).trans HA.out.2⟩
 obtain⟨w5,hw5⟩:∃ w5,w4.setRow W.heap.size #[U i6 h,U i6 w,U i6 c,U i6 0,U i6 0,Sl (some ⟨g,0,none⟩) 1 1,U i6 0]=w5:=⟨_,rfl⟩
 rw [hw5] at hZ' hO' hB' hC' ⊢
 clear hw5 S4 HS3 HA
 refine doneC hC' (by kernel_rfl) ?_ _
 obtain⟨c1,f1,z5⟩:=cells_at hZ'
 clear hC' hZ'
 go_wp2
 exact bodyPost_ret (v:=.agg #[U i6 h,U i6 w,U i6 c,U i6 0,U i6 0,Sl (some ⟨g,0,none⟩) 1 1,U i6 0]) (by simp [results,Try.results52,go_sem, *]) rfl ⟨g,rfl,hO'.out,hwz.out,hB'.out⟩
theorem wpList_mk0 {k:IntKind} {T S:TypeId} {by8:Nat} (kt:KT k T S by8) {w:World} {ops:Array Oper} {rest:List Oper} {o:Oper} {a:Act} {Q:Exit→Act→World→Prop} (hg:o.guard=none) (l c:Operand) (hop:o.op=Op.makeSlice S l c)
  (m:Nat) (M:Int) (hl:a.eval l=U i6 0) (hc:a.eval c=U i6 M) (hM:M=(m:Int)) (hm:m≤10000000) (base:Nat) (hb:base≤w.heap.size)
  (hK:∀ v w',Own k T w' base v []→Below w.heap.size w w'→wpList Try.prog ops Q rest (a.put o.dst v) w'):wpList Try.prog ops Q (o :: rest) a w:=by
 obtain⟨hu,hin,b1,b8⟩:=kt
 obtain⟨i0,hi,hz0,hz1,hz2⟩:=info_parts hin
 subst hM
 have hby:by8*m≤8*m:=Nat.mul_le_mul_right _ b8
 have hby':(by8:Int)*(m:Int)≤281474976710656:=by
  have:((by8*m:Nat):Int)≤281474976710656:=by omega
  rwa [Int.natCast_mul] at this
 refine wpList_plain hg fun K hK'=>?_
 have hr:=run_make (P:=Try.prog) w S T i0 (.int k 0) hu hi hz0 .i64 .i64 ((0:Nat):Int) m (by omega) (by omega) (by rw [hz2];exact hby') (by omega)
 simp only [Int.toNat_natCast,hz1] at hr
 unfold Oper.wp
 simp only [execOp,hop,hl,hc]
 simp [Result.andThen]
 have hr':=hr
 simp only [Int.natCast_zero] at hr'
 rw [hr']
 refine hK' _ _ (hK _ _ ⟨⟨by simp,.inr ⟨w.heap.size,m,_,rfl,hb,heap_alloc_new w _,Nat.zero_le _,by unfold maxLen;omega,by rw [size_madeCells],by simp⟩⟩,Wf.nil k⟩ (bal _ _))
theorem St.ad {w0 w:World} {B:Nat} {c:Array Value} {t:TypeId} {l:List (Nat×Array Value×TypeId)} (h:St w0 w l) (hb:w.heap[B]? = some (.cells c t (0,0))) (hB:w0.heap.size≤B):St w0 w ((B,c,t) :: l) :=
 ⟨h.1,fun x hx=>by
  rcases List.mem_cons.1 hx with rfl | hx
  ·exact⟨hb,hB⟩
  ·exact h.2 x hx⟩
theorem St.grow {w0 w w':World} {k:IntKind} {T:TypeId} {base:Nat} {v:Value} {zs:List Int} {l:List (Nat×Array Value×TypeId)} (h:St w0 w l) (o:Own k T w base v zs) (g:w.grownBy w' v.ownBlock) (hB:w0.heap.size≤base) (hT:∀ x∈l,x.2.2≠T):St w0 w' l :=
 ⟨o.bel h.1 g hB h.1.size,fun x hx=>by
  have hx':=h.2 x hx
  refine⟨?_,hx'.2⟩
  rw [g.block x.1 (lt_of_heap hx'.1) (own_ne o.1 hx'.1 (hT x hx))]
  exact hx'.1⟩
theorem of_alone (k a b m kh kw sh sw tp lf bt rt:Int) (wa:Option Addr) (lw wc:Nat) (ba:Option Addr) (lb bc:Nat) (sm ss um us z p lo hi h w c H V C:Int) (s:Opd k b m kh kw sh sw tp lf bt rt lw lb sm ss um us z p lo hi h w c H V C) (hk:k≤4) (zs bs:List Int) (W:World) (hZ:IRow .i16 W wa lw wc zs) (hB:IRow .i32 W ba lb bc bs) (hlw:lw*2≤140737488351232) (hlb:lb*4≤140737488351232) (g:Nat) (hg:W.heap[g]? = some (.cells #[U i6 k,U i6 0,U i6 b,U i6 m,U i6 kh,U i6 kw,U i6 sh,U i6 sw,U i6 tp,U i6 lf,U i6 bt,U i6 rt,Sl wa lw wc,Sl ba lb bc,U i6 sm,U i6 ss,U i6 um,U i6 us,U i6 z,U i6 p,U i6 lo,U i6 hi] 83 (0,0))) (ch at':Int) (hch:1≤ch∧ch≤C) (hat:0≤at'∧at'<H*V) :
  Calls Try.prog 46 #[.agg #[U i6 h,U i6 w,U i6 c,U i6 0,U i6 0,Sl (some ⟨g,0,none⟩) 1 1,U i6 0],U i6 1,U i6 ch,U i6 at'] W fun e w'=>(∃ v,e=.returned (.tuple #[v,U i6 (biA k ch bs),U i6 0])∧OTm w' W.heap.size v (siL k kh kw sh sw tp lf bt rt h w c ch at' zs))∧Below W.heap.size W w':=by
 obtain⟨Rw,hR⟩:=alone_g (a:=0) s hk
 have hcell:∀ q v,[U i6 k,U i6 0,U i6 b,U i6 m,U i6 kh,U i6 kw,U i6 sh,U i6 sw,U i6 tp,U i6 lf,U i6 bt,U i6 rt,Sl wa lw wc,Sl ba lb bc,U i6 sm,U i6 ss,U i6 um,U i6 us,U i6 z,U i6 p,U i6 lo,U i6 hi][q]? = some v→W.cell? ((⟨g,0,none⟩:Addr).add q)=some v:=lcells hg (fget [U i6 k,U i6 0,U i6 b,U i6 m,U i6 kh,U i6 kw,U i6 sh,U i6 sw,U i6 tp,U i6 lf,U i6 bt,U i6 rt,Sl wa lw wc,Sl ba lb bc,U i6 sm,U i6 ss,U i6 um,U i6 us,U i6 z,U i6 p,U i6 lo,U i6 hi] [])
 have e0:((⟨g,0,none⟩:Addr).add (0*22))=⟨g,0,none⟩:=by rw [Addr.add_lit]
 have hL:LRow W (some ⟨g,0,none⟩) 1 1 (fun _=>oL k 0 b m kh kw sh sw tp lf bt rt (lw:Int) (lb:Int) sm ss um us z p lo hi) (fun _=>zs) (fun _=>bs):=by
  refine⟨Nat.le_refl _,by unfold maxLen;omega,(fun h=>by cases h),fun x hx i hi=>?_⟩
  cases hx
  obtain rfl:i=0:=by omega
  rw [e0]
  exact⟨wa,lw,wc,ba,lb,bc,rfl,rfl,hcell,hZ,hB,hlw,hlb⟩
 have hF:Fnd W (some ⟨g,0,none⟩) 1 (fun _=>oL k 0 b m kh kw sh sw tp lf bt rt (lw:Int) (lb:Int) sm ss um us z p lo hi) (fun _=>zs) (fun _=>bs) [(h,w,c),(H,V,C)] 0 ⟨g,0,none⟩ wa lw wc ba lb bc h w c H V C :=
  ⟨by omega,rfl,rfl,rfl,fun q v hq=>by rw [e0];exact hcell q v hq,hZ,hB,rfl,rfl,s.si hk,⟨Int.le_refl _,Int.le_refl _⟩,decide_eq_true (show 1≤k∧k≤4 by have:=s.hk;omega)⟩
 exact of_ok h w c 0 0 0 (some ⟨g,0,none⟩) 1 1 (fun _=>oL k 0 b m kh kw sh sw tp lf bt rt (lw:Int) (lb:Int) sm ss um us z p lo hi) (fun _=>zs) (fun _=>bs) W hL ch at' [(h,w,c),(H,V,C)] Rw hR 0 ⟨g,0,none⟩ wa lw wc ba lb bc h w c H V C hF hch hat
theorem sums_any (k a b m kh kw sh sw tp lf bt rt:Int) (wa:Option Addr) (lw wc:Nat) (ba:Option Addr) (lb bc:Nat) (sm ss um us z p lo hi h w c H V C:Int) (r:Nat) (W:World) (hr:W.heap[r]? = some (.cells #[U i6 k,U i6 a,U i6 b,U i6 m,U i6 kh,U i6 kw,U i6 sh,U i6 sw,U i6 tp,U i6 lf,U i6 bt,U i6 rt,Sl wa lw wc,Sl ba lb bc,U i6 sm,U i6 ss,U i6 um,U i6 us,U i6 z,U i6 p,U i6 lo,U i6 hi,U i6 h,U i6 w,U i6 c,U i6 H,U i6 V,U i6 C] 85 (0,0))) (s:Opd k b m kh kw sh sw tp lf bt rt lw lb sm ss um us z p lo hi h w c H V C) (hk:k≤4) (zs bs:List Int) (hZ:IRow .i16 W wa lw wc zs) (hB:IRow .i32 W ba lb bc bs) (hlw:lw*2≤140737488351232) (hlb:lb*4≤140737488351232) (ad:Option Addr) (n cap:Nat) (xs:List Int) (hX:IRow .i8 W ad n cap xs) (hn:(n:Int)=h*w*c) :
  Calls Try.prog 28 #[.pointer (some ⟨r,0,none⟩),Sl ad n cap] W fun e w'=>(∃ v,e=.returned v∧Own .i64 2 w' W.heap.size v (suL k kh kw sh sw tp lf bt rt h w c C p zs bs xs (H*V*C).toNat))∧Below W.heap.size W w':=by
 have hrz:=lt_of_heap hr
 have hp8:I8 p:=by have:=s.rz;unfold rzB vlB at this;simp at this;exact⟨this.2.1,this.2.2⟩
 have HR:Hid (W.heap[r]? = some (.cells #[U i6 k,U i6 a,U i6 b,U i6 m,U i6 kh,U i6 kw,U i6 sh,U i6 sw,U i6 tp,U i6 lf,U i6 bt,U i6 rt,Sl wa lw wc,Sl ba lb bc,U i6 sm,U i6 ss,U i6 um,U i6 us,U i6 z,U i6 p,U i6 lo,U i6 hi,U i6 h,U i6 w,U i6 c,U i6 H,U i6 V,U i6 C] 85 (0,0))):=hr
 have HAl:Hid (Calls Try.prog 52 #[.pointer (some ⟨r,0,none⟩)] W _):=alone_any k a b m kh kw sh sw tp lf bt rt wa lw wc ba lb bc sm ss um us z p lo hi h w c H V C r W hr
 have HP:Hid (∀ W,Calls Try.prog 27 #[.agg #[U i6 H,U i6 V,U i6 C]] W fun e w'=>e=.returned (U i6 (H*V*C))∧Below W.heap.size W w'):=fun W=>places_plain H V C W s.hB
 have HOf:Hid (∀ (w':World) (g:Nat),Below W.heap.size W w'→w'.heap[g]? = some (.cells #[U i6 k,U i6 0,U i6 b,U i6 m,U i6 kh,U i6 kw,U i6 sh,U i6 sw,U i6 tp,U i6 lf,U i6 bt,U i6 rt,Sl wa lw wc,Sl ba lb bc,U i6 sm,U i6 ss,U i6 um,U i6 us,U i6 z,U i6 p,U i6 lo,U i6 hi] 83 (0,0))→∀ ch at':Int,(1≤ch∧ch≤C)→(0≤at'∧at'<H*V)→Calls Try.prog 46 #[.agg #[U i6 h,U i6 w,U i6 c,U i6 0,U i6 0,Sl (some ⟨g,0,none⟩) 1 1,U i6 0],U i6 1,U i6 ch,U i6 at'] w' fun e w''=>(∃ v,e=.returned (.tuple #[v,U i6 (biA k ch bs),U i6 0])∧OTm w'' w'.heap.size v (siL k kh kw sh sw tp lf bt rt h w c ch at' zs))∧Below w'.heap.size w' w'') :=
  fun w' g hb hg ch at' hch hat=>of_alone k a b m kh kw sh sw tp lf bt rt wa lw wc ba lb bc sm ss um us z p lo hi h w c H V C s hk zs bs w' (hZ.below hb) (hB.below hb) hlw hlb g hg ch at' hch hat
 have HSm:Hid (∀ (w':World),Below W.heap.size W w'→∀ (v:Value) (ch at':Int),(1≤ch∧ch≤C)→TV w' v (siL k kh kw sh sw tp lf bt rt h w c ch at' zs)→Calls Try.prog 53 #[.pointer (some ⟨r,0,none⟩),v,Sl ad n cap] w' fun e w''=>e=.returned (U i6 (smV p xs (siL k kh kw sh sw tp lf bt rt h w c ch at' zs)))∧Below w'.heap.size w' w'') :=
  fun w' hb v ch at' hch hT=>by
   obtain⟨f1,f2⟩:=siL_facts (s.si hk) hZ.2.2.2.1 hch at'
   rw [← hn] at f2
   exact sum_any k a b m kh kw sh sw tp lf bt rt wa lw wc ba lb bc sm ss um us z p lo hi h w c H V C r w' ((hb.block r hrz).trans hr) v _ hT ad n cap xs (hX.below hb) hp8 f1 f2
 have HSb:Hid (∀ ch at':Int,(1≤ch∧ch≤C)→(-4294967296≤suA k kh kw sh sw tp lf bt rt h w c p zs bs xs ch at'∧suA k kh kw sh sw tp lf bt rt h w c p zs bs xs ch at'≤4294967296)∧suA k kh kw sh sw tp lf bt rt h w c p zs bs xs ch at'=biA k ch bs+smV p xs (siL k kh kw sh sw tp lf bt rt h w c ch at' zs)):=fun ch at' hch=>⟨suA_bd (s.si hk) hZ.2.2.2.1 hB.2.2.2.1 hp8 hX.i8 hch at',rfl⟩
 obtain⟨hH,hV,hC,-⟩:=vS_yes s.hB
 have p3:=vS_bd s.hB
 clear hr hZ hB hX hn s hlw hlb hp8
 obtain⟨CN,rfl⟩:∃ CN:Nat,C=(CN:Int):=⟨C.toNat,by omega⟩
 obtain⟨P,hP⟩:∃ P:Nat,H*V=(P:Int):=⟨(H*V).toNat,by omega⟩
 rw [hP] at HP HOf p3 ⊢
 obtain⟨N,hN⟩:∃ N:Nat,(P:Int)*(CN:Int)=(N:Int):=⟨P*CN,by rw [Int.natCast_mul]⟩
 have HNN:Hid (P*CN=N):=by
  have:((P*CN:Nat):Int)=(N:Int):=by rw [Int.natCast_mul];exact hN
  unfold Hid;omega
 rw [hN] at HP p3 ⊢
 rw [Int.toNat_natCast]
 clear hN
 obtain⟨c1,f1,z1⟩:=cells_at HR.out
 go_enter Try.func28,Try.ntmps28
 go_wp2_with fail
 refine HAl.out.mono ?_
 rintro e w1 ⟨g,rfl,hgc,hgb,hb1⟩
 obtain⟨mb,hmb⟩:∃ mb,w1.heap.size=mb:=⟨_,rfl⟩
 have s1:=(((St.start W).call hb1).ad hgc hgb).new (c:=#[U i6 h,U i6 w,U i6 c,U i6 0,U i6 0,Sl (some ⟨g,0,none⟩) 1 1,U i6 0]) (t:=26)
 clear hb1 hgc c1 f1 HAl
 obtain⟨c2,f2,z2⟩:=cells_at ((s1.below.block r hrz).trans HR.out)
 go_wp2_with fail
 rw [hmb] at s1
 clear hmb
 refine (HP.out _).mono ?_
 rintro e w2 ⟨rfl,hb2⟩
 have S2:Hid (St W w2 [(mb,#[U i6 h,U i6 w,U i6 c,U i6 0,U i6 0,Sl (some ⟨g,0,none⟩) 1 1,U i6 0],26),(g,#[U i6 k,U i6 0,U i6 b,U i6 m,U i6 kh,U i6 kw,U i6 sh,U i6 sw,U i6 tp,U i6 lf,U i6 bt,U i6 rt,Sl wa lw wc,Sl ba lb bc,U i6 sm,U i6 ss,U i6 um,U i6 us,U i6 z,U i6 p,U i6 lo,U i6 hi],83)]):=s1.call hb2
 clear s1 hb2 c2 f2 z2 HP
 go_wp2_with (at_make;refine wpList_mk0 kt_i64 rfl _ _ rfl N _ rfl rfl rfl (by omega) W.heap.size S2.out.size ?_;intro v0 w3 own0 hb3;have S3:Hid (St W w3 [(mb,#[U i6 h,U i6 w,U i6 c,U i6 0,U i6 0,Sl (some ⟨g,0,none⟩) 1 1,U i6 0],26),(g,#[U i6 k,U i6 0,U i6 b,U i6 m,U i6 kh,U i6 kw,U i6 sh,U i6 sw,U i6 tp,U i6 lf,U i6 bt,U i6 rt,Sl wa lw wc,Sl ba lb bc,U i6 sm,U i6 ss,U i6 um,U i6 us,U i6 z,U i6 p,U i6 lo,U i6 hi],83)]):=S2.out.call hb3;have Ho0:Hid (Own .i64 2 w3 W.heap.size v0 []):=own0;clear own0 hb3 S2;obtain⟨c1,f1,z1'⟩:=cells_at ((S3.out.below.block r hrz).trans HR.out))
 go_quiet (fail)
 have S4:Hid (St W (w3.drewN nq) [(mb,#[U i6 h,U i6 w,U i6 c,U i6 0,U i6 0,Sl (some ⟨g,0,none⟩) 1 1,U i6 0],26),(g,#[U i6 k,U i6 0,U i6 b,U i6 m,U i6 kh,U i6 kw,U i6 sh,U i6 sw,U i6 tp,U i6 lf,U i6 bt,U i6 rt,Sl wa lw wc,Sl ba lb bc,U i6 sm,U i6 ss,U i6 um,U i6 us,U i6 z,U i6 p,U i6 lo,U i6 hi],83)]):=S3.out.call (dbel _ _)
 have Ho4:Hid (Own .i64 2 (w3.drewN nq) W.heap.size v0 []):=Ho0.out.below (dbel _ _)
 obtain⟨w4,hw4⟩:∃ w4,w3.drewN nq=w4:=⟨_,rfl⟩
 rw [hw4] at S4 Ho4 ⊢
 clear hw4 S3 Ho0 c1 f1
 go_wp2
 go_loopw [6,31] (fun v i wr=>∃ (y:Nat) (v1:Value),v1=v∧y≤P∧i=U i6 y∧Own .i64 2 wr W.heap.size v (suL k kh kw sh sw tp lf bt rt h w c CN p zs bs xs (y*CN))∧St W wr [(mb,#[U i6 h,U i6 w,U i6 c,U i6 0,U i6 0,Sl (some ⟨g,0,none⟩) 1 1,U i6 0],26),(g,#[U i6 k,U i6 0,U i6 b,U i6 m,U i6 kh,U i6 kw,U i6 sh,U i6 sw,U i6 tp,U i6 lf,U i6 bt,U i6 rt,Sl wa lw wc,Sl ba lb bc,U i6 sm,U i6 ss,U i6 um,U i6 us,U i6 z,U i6 p,U i6 lo,U i6 hi],83)]) (fun _ i _=>P-(intOf i).toNat)
 case atStart=>exact⟨0,_,rfl,Nat.zero_le _,rfl,by simpa [suL] using Ho4.out,S4.out⟩
 case round =>
  obtain⟨y,v1,rfl,hy,rfl,hO,sr⟩:=hrel
  clear S4 Ho4
  obtain⟨c1,f1,z4⟩:=cells_at ((sr.below.block r hrz).trans HR.out)
  have HO:Hid (Own .i64 2 wr W.heap.size v1 (suL k kh kw sh sw tp lf bt rt h w c CN p zs bs xs (y*CN))):=hO
  have SR:Hid (St W wr [(mb,#[U i6 h,U i6 w,U i6 c,U i6 0,U i6 0,Sl (some ⟨g,0,none⟩) 1 1,U i6 0],26),(g,#[U i6 k,U i6 0,U i6 b,U i6 m,U i6 kh,U i6 kw,U i6 sh,U i6 sw,U i6 tp,U i6 lf,U i6 bt,U i6 rt,Sl wa lw wc,Sl ba lb bc,U i6 sm,U i6 ss,U i6 um,U i6 us,U i6 z,U i6 p,U i6 lo,U i6 hi],83)]):=sr
  clear hO sr
  by_cases hlt:y<P
  ·go_wp2
   go_loopw [6,8] (fun v i wr=>∃ (d:Nat) (v2:Value),v2=v∧d≤CN∧i=U i6 ((d:Int)+1)∧Own .i64 2 wr W.heap.size v (suL k kh kw sh sw tp lf bt rt h w c CN p zs bs xs (y*CN+d))∧St W wr [(mb,#[U i6 h,U i6 w,U i6 c,U i6 0,U i6 0,Sl (some ⟨g,0,none⟩) 1 1,U i6 0],26),(g,#[U i6 k,U i6 0,U i6 b,U i6 m,U i6 kh,U i6 kw,U i6 sh,U i6 sw,U i6 tp,U i6 lf,U i6 bt,U i6 rt,Sl wa lw wc,Sl ba lb bc,U i6 sm,U i6 ss,U i6 um,U i6 us,U i6 z,U i6 p,U i6 lo,U i6 hi],83)]) (fun _ i _=>CN+1-(intOf i).toNat)
   case atStart=>exact⟨0,_,rfl,Nat.zero_le _,rfl,HO.out,SR.out⟩
   case round =>
    obtain⟨d,v2,rfl,hd,rfl,hO,sr⟩:=hrel
    clear c1 f1 HO SR
    obtain⟨c1,f1,z5⟩:=cells_at ((sr.below.block r hrz).trans HR.out)
    have HO:Hid (Own .i64 2 wr W.heap.size v2 (suL k kh kw sh sw tp lf bt rt h w c CN p zs bs xs (y*CN+d))):=hO
    have SR:Hid (St W wr [(mb,#[U i6 h,U i6 w,U i6 c,U i6 0,U i6 0,Sl (some ⟨g,0,none⟩) 1 1,U i6 0],26),(g,#[U i6 k,U i6 0,U i6 b,U i6 m,U i6 kh,U i6 kw,U i6 sh,U i6 sw,U i6 tp,U i6 lf,U i6 bt,U i6 rt,Sl wa lw wc,Sl ba lb bc,U i6 sm,U i6 ss,U i6 um,U i6 us,U i6 z,U i6 p,U i6 lo,U i6 hi],83)]):=sr
    obtain⟨c2,f2,z6,-⟩:=sr.rules
    clear hO sr
    by_cases hltd:d<CN
    ·have hch:1≤(d:Int)+1∧(d:Int)+1≤(CN:Int):=by omega
     have HS:=suL_succ k kh kw sh sw tp lf bt rt h w c (CN:Int) p zs bs xs (y*CN+d)
     obtain⟨e1,e2⟩:=divmod_at (C:=(CN:Int)) (q:=y) (d:=d) (by omega)
     rw [Int.natCast_add,Int.natCast_mul,e1,e2] at HS
     obtain⟨⟨b1,b2⟩,hsu⟩:=HSb.out ((d:Int)+1) (y:Int) hch
     have HC1:Hid (∀ (w':World),Below W.heap.size W w'→w'.heap[g]? = some (.cells #[U i6 k,U i6 0,U i6 b,U i6 m,U i6 kh,U i6 kw,U i6 sh,U i6 sw,U i6 tp,U i6 lf,U i6 bt,U i6 rt,Sl wa lw wc,Sl ba lb bc,U i6 sm,U i6 ss,U i6 um,U i6 us,U i6 z,U i6 p,U i6 lo,U i6 hi] 83 (0,0))→_):=fun w' hb hg=>HOf.out w' g hb hg ((d:Int)+1) y hch ⟨by omega,by omega⟩
     have HC2:Hid (∀ (w':World),Below W.heap.size W w'→∀ v,TV w' v _→_):=fun w' hb v hT=>HSm.out w' hb v ((d:Int)+1) y hch hT
     obtain⟨TL,hTL⟩:∃ TL,siL k kh kw sh sw tp lf bt rt h w c ((d:Int)+1) (y:Int) zs=TL:=⟨_,rfl⟩
     obtain⟨bi,hbi⟩:∃ bi,biA k ((d:Int)+1) bs=bi:=⟨_,rfl⟩
     obtain⟨sv,hsv⟩:∃ sv,smV p xs TL=sv:=⟨_,rfl⟩
     rw [hTL] at HC1 HC2 hsu
     rw [hsv] at HC2 hsu
     rw [hbi] at HC1 hsu
     rw [hsu] at b1 b2 HS
     have HSS:Hid (suL k kh kw sh sw tp lf bt rt h w c CN p zs bs xs (y*CN+d+1)=suL k kh kw sh sw tp lf bt rt h w c CN p zs bs xs (y*CN+d)++[bi+sv]):=HS
     have HLn:Hid (y*CN+d≤16384):=by
      unfold Hid
      have q1:(y+1)*CN≤P*CN:=Nat.mul_le_mul_right _ hlt
      rw [HNN.out,Nat.add_mul] at q1
      omega
     clear HS e1 e2 hsu hTL hbi hsv
     obtain⟨D,hD⟩:∃ D:Int,(d:Int)+1=D:=⟨_,rfl⟩
     rw [hD] at HC1 hch ⊢
     have HD:Hid ((d:Int)+1=D):=hD
     clear hD
     go_wp2_with fail
     refine (HC1.out _ SR.out.below SR.out.h2).mono ?_
     rintro e w5 ⟨⟨v,rfl,hOT⟩,hb5⟩
     obtain⟨va,vc,rfl⟩:=hOT.slice
     have HT5:Hid (TV w5 (.slice va TL.length vc) TL):=hOT.tv
     have S5:Hid (St W w5 [(mb,#[U i6 h,U i6 w,U i6 c,U i6 0,U i6 0,Sl (some ⟨g,0,none⟩) 1 1,U i6 0],26),(g,#[U i6 k,U i6 0,U i6 b,U i6 m,U i6 kh,U i6 kw,U i6 sh,U i6 sw,U i6 tp,U i6 lf,U i6 bt,U i6 rt,Sl wa lw wc,Sl ba lb bc,U i6 sm,U i6 ss,U i6 um,U i6 us,U i6 z,U i6 p,U i6 lo,U i6 hi],83)]):=SR.out.call hb5
     have O5:Hid (Own .i64 2 w5 W.heap.size v2 (suL k kh kw sh sw tp lf bt rt h w c CN p zs bs xs (y*CN+d))):=HO.out.below hb5
     obtain⟨tl,htl⟩:∃ tl,TL.length=tl:=⟨_,rfl⟩
     rw [htl] at HT5 ⊢
     clear hOT hb5 HO SR htl c1 f1 c2 f2
     go_wp2_with fail
     refine (HC2.out _ S5.out.below _ HT5.out).mono ?_
     rintro e w6 ⟨rfl,hb6⟩
     have S6:Hid (St W w6 [(mb,#[U i6 h,U i6 w,U i6 c,U i6 0,U i6 0,Sl (some ⟨g,0,none⟩) 1 1,U i6 0],26),(g,#[U i6 k,U i6 0,U i6 b,U i6 m,U i6 kh,U i6 kw,U i6 sh,U i6 sw,U i6 tp,U i6 lf,U i6 bt,U i6 rt,Sl wa lw wc,Sl ba lb bc,U i6 sm,U i6 ss,U i6 um,U i6 us,U i6 z,U i6 p,U i6 lo,U i6 hi],83)]):=S5.out.call hb6
     have O6:Hid (Own .i64 2 w6 W.heap.size v2 (suL k kh kw sh sw tp lf bt rt h w c CN p zs bs xs (y*CN+d))):=O5.out.below hb6
     clear hb6 S5 O5 HC1 HC2
     go_wp2_with (at_builtin;refine wpList_app kt_i64 rfl (.tmp 51) (.tmp 58) rfl W.heap.size v2 (suL k kh kw sh sw tp lf bt rt h w c CN p zs bs xs (y*CN+d)) [bi+sv] rfl (O6.out.alloc _) _ _ _ rfl (row_one .i64 2 w6 (bi+sv) (mk_i64 (by omega))) (by rw [suL_len];have:=HLn.out;simp;omega) (by have:=S6.out.size;simp;omega) ?_;intro v7 w7 own7 gr7 nn7;have S7:Hid (St W w7 [(mb,#[U i6 h,U i6 w,U i6 c,U i6 0,U i6 0,Sl (some ⟨g,0,none⟩) 1 1,U i6 0],26),(g,#[U i6 k,U i6 0,U i6 b,U i6 m,U i6 kh,U i6 kw,U i6 sh,U i6 sw,U i6 tp,U i6 lf,U i6 bt,U i6 rt,Sl wa lw wc,Sl ba lb bc,U i6 sm,U i6 ss,U i6 um,U i6 us,U i6 z,U i6 p,U i6 lo,U i6 hi],83)]):=(S6.out.skip (.cells #[U i6 (bi+sv)] 2)).grow (O6.out.alloc _) gr7 (Nat.le_refl _) (by simp);have O7:Hid (Own .i64 2 w7 W.heap.size v7 (suL k kh kw sh sw tp lf bt rt h w c CN p zs bs xs (y*CN+d+1))):=(by rw [HSS.out];exact own7);clear own7 gr7 nn7 S6 O6)
     go_roundw
     case rel=>exact⟨d+1,_,rfl,by omega,by rw [← HD.out];go_num,O7.out,S7.out⟩
     case measure=>have:=HD.out;simp [intOf];omega
    ·obtain rfl:d=CN:=by omega
     have Ho2:Hid (Own .i64 2 wr W.heap.size v2 (suL k kh kw sh sw tp lf bt rt h w c d p zs bs xs ((y+1)*d))):=by
      have e:(y+1)*d=y*d+d:=by rw [Nat.add_mul,Nat.one_mul]
      unfold Hid
      rw [e];exact HO.out
     clear HO
     go_wp2
     go_roundw
     case rel=>exact⟨y+1,_,rfl,by omega,by go_num,Ho2.out,SR.out⟩
     case measure=>simp [intOf];omega
  ·obtain rfl:y=P:=by omega
   have HO2:Hid (Own .i64 2 wr W.heap.size v1 (suL k kh kw sh sw tp lf bt rt h w c CN p zs bs xs N)):=by rw [← HNN.out];exact HO.out
   go_wp2
   go_ret
   exact⟨⟨_,rfl,HO2.out⟩,SR.out.below⟩
theorem totals_r (h w c lo hi ot:Int) (x:Addr) (on oc i:Nat) (O:Nat→Nat→Int) (W:World) (hM:MRow W (some x) on oc O) (hi0:i<on) (wa:Option Addr) (lw cw:Nat) (ba:Option Addr) (lb cb:Nat)
  (hcell:∀ q v,[U i6 (O i 0),U i6 (O i 1),U i6 (O i 2),U i6 (O i 3),U i6 (O i 4),U i6 (O i 5),U i6 (O i 6),U i6 (O i 7),U i6 (O i 8),U i6 (O i 9),U i6 (O i 10),U i6 (O i 11),Sl wa lw cw,Sl ba lb cb,U i6 (O i 14),U i6 (O i 15),U i6 (O i 16),U i6 (O i 17),U i6 (O i 18),U i6 (O i 19),U i6 (O i 20),U i6 (O i 21)][q]? = some v→W.cell? ((x.add (i*22)).add q)=some v) (Rw:Int) (RL:List (Int×Int×Int)) (hR:gtR O h w c lo hi ot on=(0,0,RL,Rw)) (hj0:0≤O i 1) (hj1:O i 1≤(i:Int))
  (x0 y0 z0 H V C:Int) (hA:RL.getD (O i 1).toNat (0,0,0)=(x0,y0,z0)) (hB:RL.getD (i+1) (0,0,0)=(H,V,C)) (rb:Bool) (hrb:rdB (O i 0)=rb) (ad:Option Addr) (n cap':Nat) (hn9:n≤9223372036854775807) (hv0:rb=true→vS x0 y0 z0=true) (SS:List Int)
  (hS9:Hid (rb=true→(n:Int)=x0*y0*z0→∀ (w':World) (r:Nat),w'.heap[r]? = some (.cells #[U i6 (O i 0),U i6 (O i 1),U i6 (O i 2),U i6 (O i 3),U i6 (O i 4),U i6 (O i 5),U i6 (O i 6),U i6 (O i 7),U i6 (O i 8),U i6 (O i 9),U i6 (O i 10),U i6 (O i 11),Sl wa lw cw,Sl ba lb cb,U i6 (O i 14),U i6 (O i 15),U i6 (O i 16),U i6 (O i 17),U i6 (O i 18),U i6 (O i 19),U i6 (O i 20),U i6 (O i 21),U i6 x0,U i6 y0,U i6 z0,U i6 H,U i6 V,U i6 C] 85 (0,0))→Below W.heap.size W w'→Calls Try.prog 28 #[.pointer (some ⟨r,0,none⟩),Sl ad n cap'] w' fun e w''=>(∃ v,e=.returned v∧Own .i64 2 w'' w'.heap.size v SS)∧Below w'.heap.size w' w'')) :
  Calls Try.prog 10 #[.agg #[U i6 h,U i6 w,U i6 c,U i6 lo,U i6 hi,Sl (some x) on oc,U i6 ot],U i6 ((i:Int)+1),Sl ad n cap'] W fun e w'=>(if rb=true then (if (n:Int)=x0*y0*z0 then ∃ v,e=.returned (.tuple #[v,U i6 0])∧Own .i64 2 w' W.heap.size v SS else e=.returned (.tuple #[Sl none 0 0,U i6 70])) else e=.returned (.tuple #[Sl none 0 0,U i6 81]))∧Below W.heap.size W w':=by
 have HP0:Hid (rb=true→∀ W,Calls Try.prog 27 #[.agg #[U i6 x0,U i6 y0,U i6 z0]] W fun e w'=>e=.returned (U i6 (x0*y0*z0))∧Below W.heap.size W w'):=fun q W=>places_plain x0 y0 z0 W (hv0 q)
 have HP9:Hid (rb=true→1≤x0*y0*z0∧x0*y0*z0≤16384):=fun q=>(vS_bd (hv0 q)).2
 obtain⟨N,hN⟩:∃ N,x0*y0*z0=N:=⟨_,rfl⟩
 rw [hN] at HP0 HP9 hS9 ⊢
 clear hv0 hN
 have hS:Hid (∀ W,MRow W (some x) on oc O→_):=fun W hW=>shapes_any h w c lo hi ot (some x) on oc O W hW
 rw [hR] at hS
 simp only at hS
 obtain⟨-,hRl,ho64,-,-,-⟩:=gtR_ok hR
 have hM2:Hid (MRow W (some x) on oc O):=hM
 have hocm:=hM.1
 have hocx:=hM.2.1
 unfold maxLen at hocx
 have Hc:Hid (∀ q v,[U i6 (O i 0),U i6 (O i 1),U i6 (O i 2),U i6 (O i 3),U i6 (O i 4),U i6 (O i 5),U i6 (O i 6),U i6 (O i 7),U i6 (O i 8),U i6 (O i 9),U i6 (O i 10),U i6 (O i 11),Sl wa lw cw,Sl ba lb cb,U i6 (O i 14),U i6 (O i 15),U i6 (O i 16),U i6 (O i 17),U i6 (O i 18),U i6 (O i 19),U i6 (O i 20),U i6 (O i 21)][q]? = some v→W.cell? ((x.add (i*22)).add q)=some v):=hcell
 clear hR hM hcell
 have s0:=(St.start W).new (c:=#[U i6 h,U i6 w,U i6 c,U i6 lo,U i6 hi,Sl (some x) on oc,U i6 ot]) (t:=26)
 go_enter Try.func10,Try.ntmps10
 go_wp2_with fail
 refine Calls.mono (hS.out _ (hM2.out.below s0.below)) ?_
 rintro e w1 ⟨v,rfl,hSh,hb⟩
 have s1:=(s0.call hb).new (c:=#[U i6 0,U i6 0,U i6 0]) (t:=73)
 obtain⟨g,cap,cur,rfl,hgb,hgc,hCu⟩:∃ g cap cur,v=.slice (some ⟨g,0,none⟩) (on+1) cap∧W.heap.size≤g∧w1.heap[g]? = some (.cells cur 23 (0,0))∧Cu cur cap RL:=by
  rcases hSh with ⟨-,q⟩ | ⟨g,cap,cur,q1,q2,q3,q4,-⟩
  ·rw [q] at hRl;simp at hRl
  ·exact⟨g,cap,cur,by rw [q1,hRl],by simp at q2;omega,q3,q4⟩
 have hcap:=hCu.2.1
 obtain⟨b1,b2,b3⟩:=hCu.at (show i+1<RL.length by omega)
 obtain⟨a1,a2,a3⟩:=hCu.at (show (O i 1).toNat<RL.length by omega)
 rw [hB] at b1 b2 b3
 rw [hA] at a1 a2 a3
 simp only at a1 a2 a3 b1 b2 b3
 have hgz:=lt_of_heap hgc
 have hgc2:Hid ((w1.alloc (.cells #[U i6 0,U i6 0,U i6 0] 73)).heap[g]? = some (.cells cur 23 (0,0))):=(heap_alloc_old w1 _ hgz).trans hgc
 obtain⟨c1,f1,z1,-⟩:=(s0.call hb).rules
 clear hb hSh hCu hgc hS hM2
 go_wp2
 obtain⟨w2,hw2⟩:∃ w2,w1.alloc (.cells #[U i6 0,U i6 0,U i6 0] 73)=w2:=⟨_,rfl⟩
 rw [hw2] at s1 hgc2 ⊢
 have hw2z:w2.heap.size=w1.heap.size+1:=by rw [← hw2];simp
 have S1:Hid (St W w2 _):=s1
 have hG:=s1.h2
 have HC2:Hid (∀ q v,[U i6 (O i 0),U i6 (O i 1),U i6 (O i 2),U i6 (O i 3),U i6 (O i 4),U i6 (O i 5),U i6 (O i 6),U i6 (O i 7),U i6 (O i 8),U i6 (O i 9),U i6 (O i 10),U i6 (O i 11),Sl wa lw cw,Sl ba lb cb,U i6 (O i 14),U i6 (O i 15),U i6 (O i 16),U i6 (O i 17),U i6 (O i 18),U i6 (O i 19),U i6 (O i 20),U i6 (O i 21)][q]? = some v→w2.cell? ((x.add (i*22)).add q)=some v):=fun q v hq=>(s1.below.cell (World.block_lt_of_cell? W _ (Hc.out q v hq))).trans (Hc.out q v hq)
 clear hw2 s0 s1 c1 f1
 refine regionC (fun w'=>Below w2.heap.size w2 w') (by kernel_rfl) ?_
 obtain⟨wd,hwd⟩:∃ wd,w2.drew=wd:=⟨_,rfl⟩
 have hdB:Below w2.heap.size w2 wd:=by rw [← hwd];exact (Below.refl _ _).drew
 have S2:Hid (St W wd _):=S1.out.call hdB
 rw [hwd]
 have hwz:Hid (wd.heap.size=w1.heap.size+1):=by unfold Hid;rw [← hwd];exact hw2z
 clear hw2z
 have HD:Hid (Below w2.heap.size w2 wd):=hdB
 clear hwd hdB
 refine takeC 0 (v:=.pointer (some ⟨W.heap.size,5,none⟩)) rfl rfl (by kernel_rfl) (by kernel_rfl) (by kernel_rfl) (fun _ _ _ h=>h) (fun _=>rfl) rfl (fun w' hw'=>by go_simp) ?_
 refine takeC 1 (v:=.slice (some x) on oc) rfl rfl (by kernel_rfl) (by kernel_rfl) (by kernel_rfl) (fun _ _ _ h=>h) (fun _=>rfl) rfl (fun w' hw'=>by have hc:=(cells_at ((hw'.block _ (lt_of_heap hG)).trans hG)).1 5;go_simp) ?_
 refine takeC 2 (v:=U i6 ((i:Int)+1)) rfl rfl (by kernel_rfl) (by kernel_rfl) (by kernel_rfl) (fun _ _ _ h=>h) (fun _=>rfl) rfl (fun w' hw'=>by go_simp) ?_
 refine takeC 3 (v:=U i6 (i:Int)) rfl rfl (by kernel_rfl) (by kernel_rfl) (by kernel_rfl) (fun _ _ _ h=>h) (fun _=>rfl) rfl (fun w' hw'=>by go_simp;rw [IntKind.wrap_i64];omega) ?_
 refine takeC 4 (v:=.pointer (some (x.add (i*22)))) rfl rfl (by kernel_rfl) (by kernel_rfl) (by kernel_rfl) (fun _ _ _ h=>h) (fun _=>rfl) rfl (fun w' hw'=>by go_simp) ?_
 refine takeC 5 (v:=.agg #[U i6 (O i 0),U i6 (O i 1),U i6 (O i 2),U i6 (O i 3),U i6 (O i 4),U i6 (O i 5),U i6 (O i 6),U i6 (O i 7),U i6 (O i 8),U i6 (O i 9),U i6 (O i 10),U i6 (O i 11),Sl wa lw cw,Sl ba lb cb,U i6 (O i 14),U i6 (O i 15),U i6 (O i 16),U i6 (O i 17),U i6 (O i 18),U i6 (O i 19),U i6 (O i 20),U i6 (O i 21)]) rfl rfl (by kernel_rfl) (by kernel_rfl) (by kernel_rfl) (fun _ _ _ h=>h) (fun _=>rfl) rfl (fun w' hw'=>run_la 83 (.tmp 34) rfl (x.add (i*22)) (by kernel_rfl) [U i6 (O i 0),U i6 (O i 1),U i6 (O i 2),U i6 (O i 3),U i6 (O i 4),U i6 (O i 5),U i6 (O i 6),U i6 (O i 7),U i6 (O i 8),U i6 (O i 9),U i6 (O i 10),U i6 (O i 11),Sl wa lw cw,Sl ba lb cb,U i6 (O i 14),U i6 (O i 15),U i6 (O i 16),U i6 (O i 17),U i6 (O i 18),U i6 (O i 19),U i6 (O i 20),U i6 (O i 21)] _ (fun q v hq=>(hw'.cell (World.block_lt_of_cell? _ _ (HC2.out q v hq))).trans (HC2.out q v hq)) Try.underlying83 rfl (by kernel_rfl)) ?_
 refine takeC 6 (v:=.slice (some ⟨g,0,none⟩) (on+1) cap) rfl rfl (by kernel_rfl) (by kernel_rfl) (by kernel_rfl) (fun _ _ _ h=>h) (fun _=>rfl) rfl (fun w' hw'=>by go_simp) ?_
 refine takeC 7 (v:=U i6 ((i:Int)+1)) rfl rfl (by kernel_rfl) (by kernel_rfl) (by kernel_rfl) (fun _ _ _ h=>h) (fun _=>rfl) rfl (fun w' hw'=>by go_simp) ?_
 refine takeC 8 (v:=.pointer (some ⟨g,(i+1)*3,none⟩)) rfl rfl (by kernel_rfl) (by kernel_rfl) (by kernel_rfl) (fun _ _ _ h=>h) (fun _=>rfl) rfl (fun w' hw'=>by go_simp;intro q;omega) ?_
 refine takeC 9 (v:=.agg #[U i6 H,U i6 V,U i6 C]) rfl rfl (by kernel_rfl) (by kernel_rfl) (by kernel_rfl) (fun _ _ _ h=>h) (fun _=>rfl) rfl (fun w' hw'=>run_la 23 (.tmp 38) rfl ⟨g,(i+1)*3,none⟩ (by kernel_rfl) [U i6 H,U i6 V,U i6 C] _ (three_at ((hw'.block _ (lt_of_heap hgc2.out)).trans hgc2.out) b1 b2 b3) Try.underlying23 rfl (by kernel_rfl)) ?_
 refine takeC 10 (v:=.agg #[U i6 (O i 0),U i6 (O i 1),U i6 (O i 2),U i6 (O i 3),U i6 (O i 4),U i6 (O i 5),U i6 (O i 6),U i6 (O i 7),U i6 (O i 8),U i6 (O i 9),U i6 (O i 10),U i6 (O i 11),Sl wa lw cw,Sl ba lb cb,U i6 (O i 14),U i6 (O i 15),U i6 (O i 16),U i6 (O i 17),U i6 (O i 18),U i6 (O i 19),U i6 (O i 20),U i6 (O i 21),U i6 0,U i6 0,U i6 0,U i6 H,U i6 V,U i6 C]) rfl rfl (by kernel_rfl) (by kernel_rfl) (by kernel_rfl) (fun _ _ _ h=>h) (fun _=>rfl) rfl (fun w' hw'=>by kernel_rfl) ?_
 refine stepC 11 HD.out (by kernel_rfl) rfl (fun K hK=>step_wp rfl ?_)
 go_simp
 refine hK _ _ ?_
 clear hK K
 have HA:Hid (Below w2.heap.size w2 (wd.alloc (.cells #[U i6 0,U i6 0,U i6 0,U i6 0,U i6 0,U i6 0,U i6 0,U i6 0,U i6 0,U i6 0,U i6 0,U i6 0,Sl none 0 0,Sl none 0 0,U i6 0,U i6 0,U i6 0,U i6 0,U i6 0,U i6 0,U i6 0,U i6 0,U i6 0,U i6 0,U i6 0,U i6 0,U i6 0,U i6 0] 85))):=HD.out.alloc HD.out.size _
 refine stepC 12 HA.out (by kernel_rfl) rfl (fun K hK=>step_wp rfl (wp_store_row 85 (.tmp 10) (.tmp 40) rfl wd.heap.size #[U i6 (O i 0),U i6 (O i 1),U i6 (O i 2),U i6 (O i 3),U i6 (O i 4),U i6 (O i 5),U i6 (O i 6),U i6 (O i 7),U i6 (O i 8),U i6 (O i 9),U i6 (O i 10),U i6 (O i 11),Sl wa lw cw,Sl ba lb cb,U i6 (O i 14),U i6 (O i 15),U i6 (O i 16),U i6 (O i 17),U i6 (O i 18),U i6 (O i 19),U i6 (O i 20),U i6 (O i 21),U i6 0,U i6 0,U i6 0,U i6 H,U i6 V,U i6 C] (by kernel_rfl) (by kernel_rfl) 85 #[U i6 0,U i6 0,U i6 0,U i6 0,U i6 0,U i6 0,U i6 0,U i6 0,U i6 0,U i6 0,U i6 0,U i6 0,Sl none 0 0,Sl none 0 0,U i6 0,U i6 0,U i6 0,U i6 0,U i6 0,U i6 0,U i6 0,U i6 0,U i6 0,U i6 0,U i6 0,U i6 0,U i6 0,U i6 0] (heap_alloc_new wd _) (by kernel_rfl) rfl (by simp [Value.oneCell']) (hK _ _ ?_)))
 rw [World.setRow_alloc_new]
 refine doneC (HD.out.alloc HD.out.size _) (by kernel_rfl) ?_ _
 have s3:=S2.out.new (c:=#[U i6 (O i 0),U i6 (O i 1),U i6 (O i 2),U i6 (O i 3),U i6 (O i 4),U i6 (O i 5),U i6 (O i 6),U i6 (O i 7),U i6 (O i 8),U i6 (O i 9),U i6 (O i 10),U i6 (O i 11),Sl wa lw cw,Sl ba lb cb,U i6 (O i 14),U i6 (O i 15),U i6 (O i 16),U i6 (O i 17),U i6 (O i 18),U i6 (O i 19),U i6 (O i 20),U i6 (O i 21),U i6 0,U i6 0,U i6 0,U i6 H,U i6 V,U i6 C]) (t:=85)
 have hgc3:Hid ((wd.alloc (.cells #[U i6 (O i 0),U i6 (O i 1),U i6 (O i 2),U i6 (O i 3),U i6 (O i 4),U i6 (O i 5),U i6 (O i 6),U i6 (O i 7),U i6 (O i 8),U i6 (O i 9),U i6 (O i 10),U i6 (O i 11),Sl wa lw cw,Sl ba lb cb,U i6 (O i 14),U i6 (O i 15),U i6 (O i 16),U i6 (O i 17),U i6 (O i 18),U i6 (O i 19),U i6 (O i 20),U i6 (O i 21),U i6 0,U i6 0,U i6 0,U i6 H,U i6 V,U i6 C] 85)).heap[g]? = some (.cells cur 23 (0,0))):=((HD.out.alloc HD.out.size _).block g (lt_of_heap hgc2.out)).trans hgc2.out
 obtain⟨w4,hw4⟩:∃ w4,wd.alloc (.cells #[U i6 (O i 0),U i6 (O i 1),U i6 (O i 2),U i6 (O i 3),U i6 (O i 4),U i6 (O i 5),U i6 (O i 6),U i6 (O i 7),U i6 (O i 8),U i6 (O i 9),U i6 (O i 10),U i6 (O i 11),Sl wa lw cw,Sl ba lb cb,U i6 (O i 14),U i6 (O i 15),U i6 (O i 16),U i6 (O i 17),U i6 (O i 18),U i6 (O i 19),U i6 (O i 20),U i6 (O i 21),U i6 0,U i6 0,U i6 0,U i6 H,U i6 V,U i6 C] 85)=w4:=⟨_,rfl⟩
 rw [hw4] at s3 hgc3 ⊢
 have S3:Hid (St W w4 _):=s3
 obtain⟨c1,f1,z1,-⟩:=s3.rules
 clear hw4 S1 S2 HD HA hgc2 HC2 Hc s3 hG
 go_wp2_with fail
 refine (red_any _ _).mono ?_
 rintro e w' ⟨rfl,hw'⟩
 have hw'':=hw'.symm
 subst hw''
 rw [hrb]
 have hz:w1.heap.size<wd.heap.size:=by have:=hwz.out;omega
 have z0':Hid (W.heap.size≤wd.heap.size):=(S3.out.2 _ List.mem_cons_self).2
 cases rb with
 | false =>
  clear c1 f1
  go_wp2
  exact bodyPost_ret (v:=.tuple #[Sl none 0 0,U i6 81]) (by simp [results,Try.results10,go_sem]) rfl ⟨by simp,S3.out.below⟩
 | true =>
  have a1':w4.cell? ⟨g,(O i 1).toNat*3,none⟩=some (U i6 x0):=by rw [(cells_at hgc3.out).1];exact a1
  have a2':w4.cell? ⟨g,(O i 1).toNat*3+1,none⟩=some (U i6 y0):=by rw [(cells_at hgc3.out).1];exact a2
  have a3':w4.cell? ⟨g,(O i 1).toNat*3+2,none⟩=some (U i6 z0):=by rw [(cells_at hgc3.out).1];exact a3
  clear a1 a2 a3 b1 b2 b3
  go_upto_region 10 with fail
  have hR1:(((w4.setCell ⟨wd.heap.size,22,none⟩ (U i6 x0)).setCell ⟨wd.heap.size,23,none⟩ (U i6 y0)).setCell ⟨wd.heap.size,24,none⟩ (U i6 z0)).heap[wd.heap.size]? = some (.cells #[U i6 (O i 0),U i6 (O i 1),U i6 (O i 2),U i6 (O i 3),U i6 (O i 4),U i6 (O i 5),U i6 (O i 6),U i6 (O i 7),U i6 (O i 8),U i6 (O i 9),U i6 (O i 10),U i6 (O i 11),Sl wa lw cw,Sl ba lb cb,U i6 (O i 14),U i6 (O i 15),U i6 (O i 16),U i6 (O i 17),U i6 (O i 18),U i6 (O i 19),U i6 (O i 20),U i6 (O i 21),U i6 x0,U i6 y0,U i6 z0,U i6 H,U i6 V,U i6 C] 85 (0,0)):=heap_setCell_at (heap_setCell_at (heap_setCell_at S3.out.h1))
  have hB1:Hid (Below W.heap.size W (((w4.setCell ⟨wd.heap.size,22,none⟩ (U i6 x0)).setCell ⟨wd.heap.size,23,none⟩ (U i6 y0)).setCell ⟨wd.heap.size,24,none⟩ (U i6 z0))):=((S3.out.below.setCell (p:=⟨wd.heap.size,22,none⟩) (by show W.heap.size≤wd.heap.size;have:=z0'.out;omega) _).setCell (p:=⟨wd.heap.size,23,none⟩) (by show W.heap.size≤wd.heap.size;have:=z0'.out;omega) _).setCell (p:=⟨wd.heap.size,24,none⟩) (by show W.heap.size≤wd.heap.size;have:=z0'.out;omega) _
  obtain⟨w5,hw5⟩:∃ w5,((w4.setCell ⟨wd.heap.size,22,none⟩ (U i6 x0)).setCell ⟨wd.heap.size,23,none⟩ (U i6 y0)).setCell ⟨wd.heap.size,24,none⟩ (U i6 z0)=w5:=⟨_,rfl⟩
  rw [hw5] at hR1 hB1 ⊢
  obtain⟨r,hr⟩:∃ r,wd.heap.size=r:=⟨_,rfl⟩
  rw [hr] at hR1 ⊢
  have HR1:Hid (w5.heap[r]? = some (.cells #[U i6 (O i 0),U i6 (O i 1),U i6 (O i 2),U i6 (O i 3),U i6 (O i 4),U i6 (O i 5),U i6 (O i 6),U i6 (O i 7),U i6 (O i 8),U i6 (O i 9),U i6 (O i 10),U i6 (O i 11),Sl wa lw cw,Sl ba lb cb,U i6 (O i 14),U i6 (O i 15),U i6 (O i 16),U i6 (O i 17),U i6 (O i 18),U i6 (O i 19),U i6 (O i 20),U i6 (O i 21),U i6 x0,U i6 y0,U i6 z0,U i6 H,U i6 V,U i6 C] 85 (0,0))):=hR1
  have HP:Hid (∀ W,Calls Try.prog 27 #[.agg #[U i6 x0,U i6 y0,U i6 z0]] W fun e w'=>e=.returned (U i6 N)∧Below W.heap.size W w'):=HP0.out (by simp)
  have p9:=HP9.out (by simp)
  clear hw5 hr c1 f1 a1' a2' a3' S3 hgc3 hwz hz hR1 HP0 HP9
  obtain⟨c1,f1,z1'⟩:=cells_at HR1.out
  go_wp2_with fail
  refine (HP.out _).mono ?_
  rintro e w6 ⟨rfl,hb6⟩
  have HB6:Hid (Below W.heap.size W w6):=btr hB1.out hb6
  have HR6:Hid (w6.heap[r]? = some (.cells #[U i6 (O i 0),U i6 (O i 1),U i6 (O i 2),U i6 (O i 3),U i6 (O i 4),U i6 (O i 5),U i6 (O i 6),U i6 (O i 7),U i6 (O i 8),U i6 (O i 9),U i6 (O i 10),U i6 (O i 11),Sl wa lw cw,Sl ba lb cb,U i6 (O i 14),U i6 (O i 15),U i6 (O i 16),U i6 (O i 17),U i6 (O i 18),U i6 (O i 19),U i6 (O i 20),U i6 (O i 21),U i6 x0,U i6 y0,U i6 z0,U i6 H,U i6 V,U i6 C] 85 (0,0))):=(hb6.block r (lt_of_heap HR1.out)).trans HR1.out
  clear hb6 c1 f1 z1' HR1 hB1 HP
  by_cases hnN:(n:Int)=N
  ·have hS8:Hid _:=hS9.out (by simp) hnN w6 r HR6.out HB6.out
   have hnN':Hid ((n:Int)=N):=hnN
   have hq:((n:Int) == N)=true:=by simp [hnN]
   have hq2:((n:Int) != N)=false:=by simp [hnN]
   clear hS9 hnN
   go_wp2_with fail
   refine Calls.mono hS8.out ?_
   rintro e w7 ⟨⟨v,rfl,hO⟩,hb7⟩
   have HO:Hid (Own .i64 2 w7 W.heap.size v SS):=hO.base HB6.out.size
   have HB7:Hid (Below W.heap.size W w7):=btr HB6.out hb7
   clear hO hb7
   go_wp2
   exact bodyPost_ret (v:=.tuple #[v,U i6 0]) (by simp [results,Try.results10,go_sem]) rfl ⟨by first | exact⟨_,rfl,HO.out⟩ | (rw [if_pos hnN'.out];exact⟨_,rfl,HO.out⟩) | (rw [if_pos rfl,if_pos hnN'.out];exact⟨_,rfl,HO.out⟩),HB7.out⟩
  ·have hnN':Hid (¬ (n:Int)=N):=hnN
   have hq:((n:Int) == N)=false:=by simp [hnN]
   clear hS9
   go_wp2
   exact bodyPost_ret (v:=.tuple #[Sl none 0 0,U i6 70]) (by simp [results,Try.results10,go_sem]) rfl ⟨rfl,HB6.out⟩
def toE (O:Nat→Nat→Int) (h w c lo hi ot:Int) (on:Nat) (op:Int) (n x0 y0 z0:Int):Int:=if fiE O h w c lo hi ot on op≠0 then fiE O h w c lo hi ot on op else if n=x0*y0*z0 then 0 else 70
theorem totals_ok (h w c lo hi ot:Int) (oa:Option Addr) (on oc:Nat) (O:Nat→Nat→Int) (Z B:Nat→List Int) (W:World) (hL:LRow W oa on oc O Z B) (RL:List (Int×Int×Int)) (Rw:Int) (hR:gtR O h w c lo hi ot on=(0,0,RL,Rw))
  (i:Nat) (x:Addr) (wa:Option Addr) (lw cw:Nat) (ba:Option Addr) (lb cb:Nat) (x0 y0 z0 H V C:Int) (hF:Fnd W oa on O Z B RL i x wa lw cw ba lb cb x0 y0 z0 H V C) (ad:Option Addr) (n cap':Nat) (xs:List Int) (hX:IRow .i8 W ad n cap' xs) :
  Calls Try.prog 10 #[.agg #[U i6 h,U i6 w,U i6 c,U i6 lo,U i6 hi,Sl oa on oc,U i6 ot],U i6 ((i:Int)+1),Sl ad n cap'] W fun e w'=>(if (n:Int)=x0*y0*z0 then ∃ v,e=.returned (.tuple #[v,U i6 0])∧Own .i64 2 w' W.heap.size v (suL (O i 0) (O i 4) (O i 5) (O i 6) (O i 7) (O i 8) (O i 9) (O i 10) (O i 11) x0 y0 z0 C (O i 19) (Z i) (B i) xs (H*V*C).toNat) else e=.returned (.tuple #[Sl none 0 0,U i6 70]))∧Below W.heap.size W w':=by
 obtain⟨h1,rfl,h3,h4,h5,h6,h7,h8,h9,h10,h11,h12⟩:=hF
 obtain⟨ja,jb,e1,hja,e3,hjb,hO⟩:=opd_of hR h1
 obtain⟨hOpd,-⟩:=hO x0 y0 z0 H V C (by rw [← h8,e1,Int.toNat_natCast]) h9
 rw [h3,h4,Int.toNat_natCast,Int.toNat_natCast] at hOpd
 have hk:=of_decide_eq_true h12
 obtain⟨wa',lw',cw',ba',lb',cb',e12,e13,-,-,-,hlw,hlb⟩:=hL.2.2.2 x rfl i h1
 have elw:lw'=lw:=by omega
 have elb:lb'=lb:=by omega
 subst elw elb
 have hcm:=hX.2.2.1
 have hcc:=hX.2.1
 unfold maxLen at hcm
 refine (totals_r h w c lo hi ot x on oc i O W hL.m h1 wa lw' cw ba lb' cb h5 Rw RL hR h11.1 h11.2 _ _ _ _ _ _ h8 h9 true h12 ad n cap' (by omega) (fun _=>hOpd.hA) (suL (O i 0) (O i 4) (O i 5) (O i 6) (O i 7) (O i 8) (O i 9) (O i 10) (O i 11) x0 y0 z0 C (O i 19) (Z i) (B i) xs (H*V*C).toNat) (fun _ hn w' r hr hb=>sums_any (O i 0) (O i 1) (O i 2) (O i 3) (O i 4) (O i 5) (O i 6) (O i 7) (O i 8) (O i 9) (O i 10) (O i 11) wa lw' cw ba lb' cb (O i 14) (O i 15) (O i 16) (O i 17) (O i 18) (O i 19) (O i 20) (O i 21) x0 y0 z0 H V C r w' hr hOpd hk.2 (Z i) (B i) (h6.below hb) (h7.below hb) hlw hlb ad n cap' xs (hX.below hb) hn)).mono ?_
 rintro e w' ⟨q1,q2⟩
 exact⟨by simpa using q1,q2⟩
theorem wtot_e (h w c lo hi:Int) (oa:Option Addr) (on oc:Nat) (ot op ch slo shi dp:Int) (W:World) (E:Int) (hE:E≠0)
  (HLo:Hid (∀ W',Below W.heap.size W W'→Calls Try.prog 7 #[.agg #[U i6 h,U i6 w,U i6 c,U i6 lo,U i6 hi,Sl oa on oc,U i6 ot],U i6 op,U i6 ch,.agg #[U i6 slo,U i6 shi]] W' fun e w'=>e=.returned (.tuple #[.agg #[U i6 0,Sl none 0 0],U i6 E])∧Below W'.heap.size W' w'))
  (HHi:Hid (∀ W',Below W.heap.size W W'→Calls Try.prog 8 #[.agg #[U i6 h,U i6 w,U i6 c,U i6 lo,U i6 hi,Sl oa on oc,U i6 ot],U i6 op,U i6 ch,.agg #[U i6 slo,U i6 shi]] W' fun e w'=>e=.returned (.tuple #[.agg #[U i6 0,Sl none 0 0],U i6 E])∧Below W'.heap.size W' w'))
  (HT:Hid (∀ W',Below W.heap.size W W'→Calls Try.prog 9 #[.agg #[U i6 h,U i6 w,U i6 c,U i6 lo,U i6 hi,Sl oa on oc,U i6 ot],U i6 op,U i6 ch,.agg #[U i6 slo,U i6 shi]] W' fun e w'=>e=.returned (.tuple #[.agg #[U i6 0,U i6 0],U i6 E])∧Below W'.heap.size W' w')) :
  Calls Try.prog 3 #[.agg #[U i6 h,U i6 w,U i6 c,U i6 lo,U i6 hi,Sl oa on oc,U i6 ot,U i6 op,U i6 ch,U i6 slo,U i6 shi,U i6 dp]] W fun e w'=>e=.returned (.bool true)∧Below W.heap.size W w':=by
 have s0:=(St.start W).new (c:=#[U i6 h,U i6 w,U i6 c,U i6 lo,U i6 hi,Sl oa on oc,U i6 ot,U i6 op,U i6 ch,U i6 slo,U i6 shi,U i6 dp]) (t:=30)
 have hE2:(E == 0)=false:=by simp [hE]
 go_enter Try.func3,Try.ntmps3
 go_wp2_with fail
 refine (fixed23_any _).mono ?_
 rintro e w1 ⟨rfl,hb⟩
 have S1:Hid (St W w1 _):=s0.call hb
 clear hb s0
 obtain⟨c1,f1,z1,-⟩:=S1.out.rules
 go_wp2_with fail
 refine Calls.mono (HLo.out _ S1.out.below) ?_
 rintro e w2 ⟨rfl,hb⟩
 have S2:Hid (St W (w2.alloc (.cells #[U i6 0,Sl none 0 0] 34)) _):=(S1.out.call hb).skip (.cells #[U i6 0,Sl none 0 0] 34)
 clear hb S1 HLo c1 f1 z1
 go_upto_region 4 with fail
 obtain⟨w3,hw3⟩:∃ w3,w2.alloc (.cells #[U i6 0,Sl none 0 0] 34)=w3:=⟨_,rfl⟩
 rw [hw3] at S2 ⊢
 clear hw3
 obtain⟨c1,f1,z1,-⟩:=S2.out.rules
 go_wp2_with fail
 refine Calls.mono (HHi.out _ S2.out.below) ?_
 rintro e w4 ⟨rfl,hb⟩
 have S4:Hid (St W (w4.alloc (.cells #[U i6 0,Sl none 0 0] 34)) _):=(S2.out.call hb).skip (.cells #[U i6 0,Sl none 0 0] 34)
 clear hb S2 HHi c1 f1 z1
 go_upto_region 5 with fail
 obtain⟨w5,hw5⟩:∃ w5,w4.alloc (.cells #[U i6 0,Sl none 0 0] 34)=w5:=⟨_,rfl⟩
 rw [hw5] at S4 ⊢
 clear hw5
 obtain⟨c1,f1,z1,-⟩:=S4.out.rules
 go_wp2_with fail
 refine Calls.mono (HT.out _ S4.out.below) ?_
 rintro e w6 ⟨rfl,hb⟩
 have S6:Hid (St W (w6.alloc (.cells #[U i6 0,U i6 0] 28)) _):=(S4.out.call hb).skip (.cells #[U i6 0,U i6 0] 28)
 clear hb S4 HT c1 f1 z1
 go_upto_region 6 with fail
 obtain⟨w7,hw7⟩:∃ w7,w6.alloc (.cells #[U i6 0,U i6 0] 28)=w7:=⟨_,rfl⟩
 rw [hw7] at S6 ⊢
 clear hw7
 go_wp2
 go_ret
 exact⟨rfl,S6.out.below⟩
theorem wown_at {T:TypeId} {w:World} {base N j:Nat} {v:Value} {zs:List Int} (h:Own .i64 T w base v zs) (hN:zs.length=N) (hj:j<N):∃ g cap,v=.slice (some ⟨g,0,none⟩) N cap∧N≤cap∧cap≤9223372036854775807∧w.cell? ⟨g,j,none⟩=some (U i6 (zs.getD j 0)):=by
 subst hN
 rcases h.shape with ⟨-,rfl⟩ | ⟨g,cap,rfl,-,-,h1,h2,-,h3,-⟩
 ·exact absurd hj (Nat.not_lt_zero _)
 ·unfold maxLen at h2
  exact⟨g,cap,rfl,h1,by omega,h3 j hj⟩
theorem wtot_w (h w c lo hi:Int) (oa:Option Addr) (on oc:Nat) (ot op ch slo shi dp:Int) (W:World) (T1 T2 C:Int) (N M NU:Nat) (P1 P2:Nat→List Int→Prop) (kf:Nat→Nat) (SU:List Int→List Int)
  (HLo:Hid (∀ W',Below W.heap.size W W'→Calls Try.prog 7 #[.agg #[U i6 h,U i6 w,U i6 c,U i6 lo,U i6 hi,Sl oa on oc,U i6 ot],U i6 op,U i6 ch,.agg #[U i6 slo,U i6 shi]] W' fun e w'=>(∃ r A v',P1 r A∧e=.returned (.tuple #[.agg #[U i6 (r:Int),v'],U i6 0])∧Own .i8 51 w' W'.heap.size v' A)∧Below W'.heap.size W' w'))
  (HHi:Hid (∀ W',Below W.heap.size W W'→Calls Try.prog 8 #[.agg #[U i6 h,U i6 w,U i6 c,U i6 lo,U i6 hi,Sl oa on oc,U i6 ot],U i6 op,U i6 ch,.agg #[U i6 slo,U i6 shi]] W' fun e w'=>(∃ r A v',P2 r A∧e=.returned (.tuple #[.agg #[U i6 (r:Int),v'],U i6 0])∧Own .i8 51 w' W'.heap.size v' A)∧Below W'.heap.size W' w'))
  (HT:Hid (∀ W',Below W.heap.size W W'→Calls Try.prog 9 #[.agg #[U i6 h,U i6 w,U i6 c,U i6 lo,U i6 hi,Sl oa on oc,U i6 ot],U i6 op,U i6 ch,.agg #[U i6 slo,U i6 shi]] W' fun e w'=>e=.returned (.tuple #[.agg #[U i6 T1,U i6 T2],U i6 0])∧Below W'.heap.size W' w'))
  (HTo:Hid (∀ W' a cp A,Below W.heap.size W W'→IRow .i8 W' a M cp A→Calls Try.prog 10 #[.agg #[U i6 h,U i6 w,U i6 c,U i6 lo,U i6 hi,Sl oa on oc,U i6 ot],U i6 op,Sl a M cp] W' fun e w'=>(∃ v,e=.returned (.tuple #[v,U i6 0])∧Own .i64 2 w' W'.heap.size v (SU A))∧Below W'.heap.size W' w'))
  (HCn:Hid (∀ W',Below W.heap.size W W'→Calls Try.prog 11 #[.agg #[U i6 h,U i6 w,U i6 c,U i6 lo,U i6 hi,Sl oa on oc,U i6 ot],U i6 op] W' fun e w'=>e=.returned (.tuple #[U i6 C,U i6 0])∧Below W'.heap.size W' w'))
  (hN:N≤1048576) (hNU:NU≤1000000000) (hch:1≤ch∧ch≤C) (hC:C≤1024) (HSL:Hid (∀ A,(SU A).length=NU))
  (Hkf:Hid (∀ r:Nat,r<N→(0≤(r:Int)*C∧(r:Int)*C≤10000000000)∧(r:Int)*C+ch-1=(kf r:Int)∧kf r<NU))
  (HP1:Hid (∀ r A,P1 r A→r<N∧A.length=M∧(SU A).getD (kf r) 0=T1)) (HP2:Hid (∀ r A,P2 r A→r<N∧A.length=M∧(SU A).getD (kf r) 0=T2)) :
  Calls Try.prog 3 #[.agg #[U i6 h,U i6 w,U i6 c,U i6 lo,U i6 hi,Sl oa on oc,U i6 ot,U i6 op,U i6 ch,U i6 slo,U i6 shi,U i6 dp]] W fun e w'=>e=.returned (.bool true)∧Below W.heap.size W w':=by
 have s0:=(St.start W).new (c:=#[U i6 h,U i6 w,U i6 c,U i6 lo,U i6 hi,Sl oa on oc,U i6 ot,U i6 op,U i6 ch,U i6 slo,U i6 shi,U i6 dp]) (t:=30)
 go_enter Try.func3,Try.ntmps3
 go_wp2_with fail
 refine (fixed23_any _).mono ?_
 rintro e w1 ⟨rfl,hb⟩
 have S1:Hid (St W w1 _):=s0.call hb
 clear hb s0
 obtain⟨c1,f1,z1,-⟩:=S1.out.rules
 go_wp2_with fail
 refine Calls.mono (HLo.out _ S1.out.below) ?_
 rintro e w2 ⟨⟨r,A,v',hp,rfl,hO⟩,hb⟩
 obtain⟨hr,hAl,hAv⟩:=HP1.out r A hp
 obtain⟨a9,c9,rfl,hI,-⟩:=hO.row
 rw [hAl] at hI ⊢
 have S2:Hid (St W (w2.alloc (.cells #[U i6 (r:Int),Sl a9 M c9] 34)) _):=(S1.out.call hb).new (c:=#[U i6 (r:Int),Sl a9 M c9]) (t:=34)
 have HI2:Hid (IRow .i8 (w2.alloc (.cells #[U i6 (r:Int),Sl a9 M c9] 34)) a9 M c9 A):=hI.below (bal _ _)
 have HA:Hid ((SU A).getD (kf r) 0=T1):=hAv
 clear hb S1 HLo c1 f1 z1 hp hO hI hAl hAv HP1
 go_upto_region 4 with fail
 obtain⟨w3,hw3⟩:∃ w3,w2.alloc (.cells #[U i6 (r:Int),Sl a9 M c9] 34)=w3:=⟨_,rfl⟩
 obtain⟨B1,hB1⟩:∃ B,w2.heap.size=B:=⟨_,rfl⟩
 rw [hw3,hB1] at S2
 rw [hw3] at HI2
 rw [hw3,hB1]
 clear hw3 hB1
 obtain⟨-,-,-,c1,f1,z1,-⟩:=S2.out.rules
 go_wp2_with fail
 refine Calls.mono (HHi.out _ S2.out.below) ?_
 rintro e w4 ⟨⟨s,A',v',hp,rfl,hO⟩,hb⟩
 obtain⟨hs,hAl,hAv⟩:=HP2.out s A' hp
 obtain⟨a8,c8,rfl,hI,-⟩:=hO.row
 rw [hAl] at hI ⊢
 have S4:Hid (St W (w4.alloc (.cells #[U i6 (s:Int),Sl a8 M c8] 34)) _):=(S2.out.call hb).new (c:=#[U i6 (s:Int),Sl a8 M c8]) (t:=34)
 have HI4:Hid (IRow .i8 (w4.alloc (.cells #[U i6 (s:Int),Sl a8 M c8] 34)) a9 M c9 A):=(HI2.out.below hb).below (bal _ _)
 have HJ4:Hid (IRow .i8 (w4.alloc (.cells #[U i6 (s:Int),Sl a8 M c8] 34)) a8 M c8 A'):=hI.below (bal _ _)
 have HA':Hid ((SU A').getD (kf s) 0=T2):=hAv
 clear hb S2 HHi c1 f1 z1 hp hO hI hAl hAv HP2 HI2
 go_upto_region 5 with fail
 obtain⟨w5,hw5⟩:∃ w5,w4.alloc (.cells #[U i6 (s:Int),Sl a8 M c8] 34)=w5:=⟨_,rfl⟩
 obtain⟨B2,hB2⟩:∃ B,w4.heap.size=B:=⟨_,rfl⟩
 rw [hw5,hB2] at S4
 rw [hw5] at HI4 HJ4
 rw [hw5,hB2]
 clear hw5 hB2
 obtain⟨-,-,-,-,-,-,c1,f1,z1,-⟩:=S4.out.rules
 go_wp2_with fail
 refine Calls.mono (HT.out _ S4.out.below) ?_
 rintro e w6 ⟨rfl,hb⟩
 have S6:Hid (St W (w6.alloc (.cells #[U i6 T1,U i6 T2] 28)) _):=(S4.out.call hb).new (c:=#[U i6 T1,U i6 T2]) (t:=28)
 have HI6:Hid (IRow .i8 (w6.alloc (.cells #[U i6 T1,U i6 T2] 28)) a9 M c9 A):=(HI4.out.below hb).below (bal _ _)
 have HJ6:Hid (IRow .i8 (w6.alloc (.cells #[U i6 T1,U i6 T2] 28)) a8 M c8 A'):=(HJ4.out.below hb).below (bal _ _)
 clear hb S4 HT c1 f1 z1 HI4 HJ4
 go_upto_region 6 with fail
 obtain⟨w7,hw7⟩:∃ w7,w6.alloc (.cells #[U i6 T1,U i6 T2] 28)=w7:=⟨_,rfl⟩
 obtain⟨B3,hB3⟩:∃ B,w6.heap.size=B:=⟨_,rfl⟩
 rw [hw7,hB3] at S6
 rw [hw7] at HI6 HJ6
 rw [hw7,hB3]
 clear hw7 hB3
 obtain⟨-,-,-,c2,f2,z2,c3,f3,z3,c1,f1,z1,-⟩:=S6.out.rules
 go_wp2_with fail
 refine Calls.mono (HTo.out _ a9 c9 A S6.out.below HI6.out) ?_
 rintro e w8 ⟨⟨v,rfl,hOu⟩,hb⟩
 have S8:Hid (St W w8 _):=S6.out.call hb
 have HJ8:Hid (IRow .i8 w8 a8 M c8 A'):=HJ6.out.below hb
 obtain⟨gu,cu,rfl,hu1,hu2,hu3⟩:=wown_at hOu (HSL.out A) (Hkf.out r hr).2.2
 rw [HA.out] at hu3
 have Hu3:Hid (w8.cell? ⟨gu,kf r,none⟩=some (U i6 T1)):=hu3
 clear hb S6 HI6 HJ6 hOu hu3 c2 f2 z2 c3 f3 z3 c1 f1 z1
 obtain⟨-,-,-,c2,f2,z2,c3,f3,z3,c1,f1,z1,-⟩:=S8.out.rules
 go_wp2_with fail
 refine Calls.mono (HTo.out _ a8 c8 A' S8.out.below HJ8.out) ?_
 rintro e w9 ⟨⟨v,rfl,hOu⟩,hb⟩
 have S9:Hid (St W w9 _):=S8.out.call hb
 have Hu9:Hid (w9.cell? ⟨gu,kf r,none⟩=some (U i6 T1)):=(hb.cell (World.block_lt_of_cell? w8 _ Hu3.out)).trans Hu3.out
 obtain⟨gv,cv,rfl,hv1,hv2,hv3⟩:=wown_at hOu (HSL.out A') (Hkf.out s hs).2.2
 rw [HA'.out] at hv3
 have Hv9:Hid (w9.cell? ⟨gv,kf s,none⟩=some (U i6 T2)):=hv3
 clear hb S8 HJ8 hOu hv3 Hu3 c2 f2 z2 c3 f3 z3 c1 f1 z1
 obtain⟨-,-,-,c2,f2,z2,c3,f3,z3,c1,f1,z1,-⟩:=S9.out.rules
 go_wp2_with fail
 refine Calls.mono (HCn.out _ S9.out.below) ?_
 rintro e w10 ⟨rfl,hb⟩
 have S10:Hid (St W w10 _):=S9.out.call hb
 have Hu10:Hid (w10.cell? ⟨gu,kf r,none⟩=some (U i6 T1)):=(hb.cell (World.block_lt_of_cell? w9 _ Hu9.out)).trans Hu9.out
 have Hv10:Hid (w10.cell? ⟨gv,kf s,none⟩=some (U i6 T2)):=(hb.cell (World.block_lt_of_cell? w9 _ Hv9.out)).trans Hv9.out
 clear hb S9 Hu9 Hv9 c2 f2 z2 c3 f3 z3 c1 f1 z1 HTo HCn
 obtain⟨c4,f4,z4,c2,f2,z2,c3,f3,z3,c1,f1,z1,-⟩:=S10.out.rules
 have hkr:=Hkf.out r hr
 have hks:=Hkf.out s hs
 obtain⟨kr,hkr0⟩:∃ k,kf r=k:=⟨_,rfl⟩
 obtain⟨ks,hks0⟩:∃ k,kf s=k:=⟨_,rfl⟩
 obtain⟨rC,hrC⟩:∃ x,(r:Int)*C=x:=⟨_,rfl⟩
 obtain⟨sC,hsC⟩:∃ x,(s:Int)*C=x:=⟨_,rfl⟩
 rw [hkr0,hrC] at hkr
 rw [hks0,hsC] at hks
 rw [hkr0] at Hu10
 rw [hks0] at Hv10
 have Hkr:Hid (rC+ch-1=(kr:Int)):=hkr.2.1
 have Hks:Hid (sC+ch-1=(ks:Int)):=hks.2.1
 have hr1:=hkr.1
 have hs1:=hks.1
 have hkrN:=hkr.2.2
 have hksN:=hks.2.2
 clear hkr hks hkr0 hks0 Hkf
 go_upto_region 13 with fail
 go_quiet (fail)
 go_upto_region 14 with fail
 rw [Hkr.out,Hks.out]
 have hk2:(kr:Int)<(NU:Int):=by omega
 have hk3:(ks:Int)<(NU:Int):=by omega
 have hcu:=Hu10.out
 have hcv:=Hv10.out
 go_quiet (fail)
 go_wp2
 go_ret
 exact⟨rfl,bt (bt S10.out.below (dbel _ _)) (dbel _ _)⟩
end Go.Proofs.Ytgjcjhnnopandaa
