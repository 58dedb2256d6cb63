/- What the document's Check of layer 21 returns, whatever it is asked. Lists that are grown within Go's own bound; a drawn region of whose operations two are ready; filled lists (cut out of PlmA and PlmB). 'append' of one number to a list, and whether it went into a block of its own; lists that are grown beside one another. What the document's answers for layer 2 return: each for every argument that fits its type. The document's Input, Home and each of layer 11. What the document's own functions of an op return: Length, Positions, weight, Bias. -/
import Derived.Test.YtehofmkpgopmpaaGreatGq12
import Derived.Test.YtehofmkpgopmpaaGreatGq13
import Derived.Test.YtehofmkpgopmpaaGreatGq15
import Derived.Test.YtehofmkpgopmpaaGreatGq19
import Derived.Test.YtehofmkpgopmpaaGreatGq21
import Derived.Test.YtehofmkpgopmpaaGreatGq25
import Derived.Test.YtehofmkpgopmpaaGreatGq26
import Derived.ArgAppend
import Derived.OwnWalk
namespace Go.Proofs.YtehofmkpgopmpaaGreat.Kr
open Go.Value renaming int → U, slice → Sl
open Go.IntKind renaming i64 → i6
set_option maxRecDepth 100000
set_option maxHeartbeats 16000000
open Go.ChangeShapes Go.WideShapes Go.ChangeAt Go.RowKit
set_option linter.unusedVariables false
theorem rck_m (h w c lo hi ot:Int) (oa:Option Addr) (on oc:Nat) (O:Nat→Nat→Int) (Z B:Nat→List Int) (W:World) (hL:LRow W oa on oc O Z B) (hon:on≤1000000000000) (op:Int) (pa:Option Addr) (pl pc:Nat) (PS:List Pl) (ad:Option Addr) (n cap:Nat) (xs:List Int) (bd:Option Addr) (nb capb:Nat) (ys:List Int) (Re Ra Rw:Int) (RL:List (Int×Int×Int)) (hR:gtR O h w c lo hi ot on=(Re,Ra,RL,Rw)) (he:Re≠0) :
  Calls Tryz.prog 5 #[.agg #[U i6 h,U i6 w,U i6 c,U i6 lo,U i6 hi,Sl oa on oc,U i6 ot],U i6 op,Sl pa pl pc,Sl ad n cap,Sl bd nb capb] W fun e w'=>e=.returned (.agg #[U i6 Re,U i6 Ra,U i6 0])∧Below W.heap.size W w':=by
 have hK:Hid (∀ w',Below W.heap.size W w'→_):=fun w' hb=>look_any h w c lo hi ot oa on oc O Z B w' (hL.below hb) hon
 rw [hR] at hK
 simp only at hK
 have he':(Re == 0)=false:=by simp [he]
 clear hL hR
 have s0:=((St.start W).new (c:=#[U i6 h,U i6 w,U i6 c,U i6 lo,U i6 hi,Sl oa on oc,U i6 ot]) (t:=26)).new (c:=#[U i6 0,U i6 0,U i6 0]) (t:=35)
 simp only [World.size_alloc] at s0
 go_enter Tryz.func5,Tryz.ntmps5
 go_wp2_with fail
 refine (hK.out _ s0.below).mono ?_
 rintro e w1 ⟨v,rfl,hO,hb⟩
 obtain⟨va,vc,rfl⟩:=hO.slice
 have S2:Hid (St W _ _):=(s0.call hb).new (c:=#[U i6 Re,U i6 Ra,U i6 0]) (t:=35)
 obtain⟨c1,f1,z1,c2,f2,z2,c3,f3,z3,-⟩:=S2.out.rules
 have hne:w1.heap.size≠W.heap.size+1:=by have:=lt_of_heap (s0.call hb).h1;omega
 clear hb hO s0 hK
 go_wp2
 exact bodyPost_ret (v:=.agg #[U i6 Re,U i6 Ra,U i6 0]) (by simp [results,Tryz.results5,go_sem, *]) rfl ⟨rfl,set3b S2.out.below (by omega)⟩
theorem rck_p (h w c lo hi ot:Int) (oa:Option Addr) (on oc:Nat) (O:Nat→Nat→Int) (Z B:Nat→List Int) (W:World) (hL:LRow W oa on oc O Z B) (hon:on≤1000000000000) (op:Int) (pa:Option Addr) (pl pc:Nat) (PS:List Pl) (ad:Option Addr) (n cap:Nat) (xs:List Int) (bd:Option Addr) (nb capb:Nat) (ys:List Int) (Rw:Int) (RL:List (Int×Int×Int)) (hR:gtR O h w c lo hi ot on=(0,0,RL,Rw)) (ho:op<1∨(on:Int)<op) :
  Calls Tryz.prog 5 #[.agg #[U i6 h,U i6 w,U i6 c,U i6 lo,U i6 hi,Sl oa on oc,U i6 ot],U i6 op,Sl pa pl pc,Sl ad n cap,Sl bd nb capb] W fun e w'=>e=.returned (.agg #[U i6 3,U i6 0,U i6 0])∧Below W.heap.size W w':=by
 have hK:Hid (∀ w',Below W.heap.size W w'→_):=fun w' hb=>look_any h w c lo hi ot oa on oc O Z B w' (hL.below hb) hon
 rw [hR] at hK
 simp only at hK
 have hoc:=hL.1
 have hom:=hL.2.1
 unfold maxLen at hom
 clear hL hR
 have s0:=((St.start W).new (c:=#[U i6 h,U i6 w,U i6 c,U i6 lo,U i6 hi,Sl oa on oc,U i6 ot]) (t:=26)).new (c:=#[U i6 0,U i6 0,U i6 0]) (t:=35)
 simp only [World.size_alloc] at s0
 go_enter Tryz.func5,Tryz.ntmps5
 go_wp2_with fail
 refine (hK.out _ s0.below).mono ?_
 rintro e w1 ⟨v,rfl,hO,hb⟩
 obtain⟨va,vc,rfl⟩:=hO.slice
 have S2:Hid (St W _ _):=(s0.call hb).new (c:=#[U i6 0,U i6 0,U i6 0]) (t:=35)
 obtain⟨c1,f1,z1,c2,f2,z2,c3,f3,z3,-⟩:=S2.out.rules
 have hne:w1.heap.size≠W.heap.size+1:=by have:=lt_of_heap (s0.call hb).h1;omega
 clear hb hO s0 hK
 by_cases h1:op<1
 ·clear ho
  go_wp2
  exact bodyPost_ret (v:=.agg #[U i6 3,U i6 0,U i6 0]) (by simp [results,Tryz.results5,go_sem, *]) rfl ⟨rfl,set3b S2.out.below (by omega)⟩
 ·have h2:(on:Int)<op:=by omega
  clear ho
  go_wp2
  exact bodyPost_ret (v:=.agg #[U i6 3,U i6 0,U i6 0]) (by simp [results,Tryz.results5,go_sem, *]) rfl ⟨rfl,set3b S2.out.below (by omega)⟩
theorem rck_i (h w c lo hi ot:Int) (oa:Option Addr) (on oc:Nat) (O:Nat→Nat→Int) (Z B:Nat→List Int) (W:World) (hL:LRow W oa on oc O Z B) (hon:on≤1000000000000) (op:Int) (pa:Option Addr) (pl pc:Nat) (PS:List Pl) (ad:Option Addr) (n cap:Nat) (xs:List Int) (bd:Option Addr) (nb capb:Nat) (ys:List Int) (hPS:ERow 6 pcs W pa pl pc PS) (hX:IRow .i8 W ad n cap xs) (hY:IRow .i8 W bd nb capb ys) (Rw:Int) (RL:List (Int×Int×Int)) (hR:gtR O h w c lo hi ot on=(0,0,RL,Rw)) (i:Nat) (hi0:i<on) (ho:op=(i:Int)+1) (E1 E2 E3:Int) (hE:oLn O RL i n pl nb PS=(E1,E2,E3)) :
  Calls Tryz.prog 5 #[.agg #[U i6 h,U i6 w,U i6 c,U i6 lo,U i6 hi,Sl oa on oc,U i6 ot],U i6 op,Sl pa pl pc,Sl ad n cap,Sl bd nb capb] W fun e w'=>e=.returned (.agg #[U i6 E1,U i6 E2,U i6 E3])∧Below W.heap.size W w':=by
 obtain⟨ja,jb,ea,la,eb,lb',hO⟩:=opd_of hR hi0
 obtain⟨-,hRl,ho64,-⟩:=gtR_ok hR
 have hCn:∀ W',Below W.heap.size W W'→_:=fun W' hb=>rchans_any h w c lo hi ot oa on oc O Z B W' (hL.below hb) Rw RL hR i hi0
 have hS:∀ W',Below W.heap.size W W'→_:=fun W' hb=>look_any h w c lo hi ot oa on oc O Z B W' (hL.below hb) hon
 rw [hR] at hS
 simp only at hS
 obtain⟨x,rfl,wa,lw,cw,ba,lb,cb,e12,e13,hop,hz,hbz,rz,rb⟩:=hL.at hi0
 obtain⟨x0,y0,v0,hA⟩:∃ x y v,RL.getD ja (0,0,0)=(x,y,v):=⟨_,_,_,rfl⟩
 obtain⟨H,V,C,hB⟩:∃ H V C,RL.getD (i+1) (0,0,0)=(H,V,C):=⟨_,_,_,rfl⟩
 obtain⟨s,hB6⟩:=hO _ _ _ _ _ _ hA hB
 rw [e12,e13,Int.toNat_natCast,Int.toNat_natCast] at s
 have h1:=hL.1
 have h2:=hL.2.1
 unfold maxLen at h2
 unfold oLn at hE
 rw [ea,Int.toNat_natCast,hA,hB] at hE
 rw [ho]
 have hxc:=hX.2.1
 have hxm:=hX.2.2.1
 have hyc:=hY.2.1
 have hym:=hY.2.2.1
 unfold maxLen at hxm hym
 refine rck_w h w c lo hi ot x on oc (O i 0) (O i 1) (O i 2) (O i 3) (O i 4) (O i 5) (O i 6) (O i 7) (O i 8) (O i 9) (O i 10) (O i 11) wa lw cw ba lb cb (O i 14) (O i 15) (O i 16) (O i 17) (O i 18) (O i 19) (O i 20) (O i 21) x0 y0 v0 H V C i ja jb RL W (fun W' hb=>(hS W' hb).mono fun e w' ⟨v,q1,q2,q3⟩=>⟨v,_,q1,q2,q3⟩) (fun W' hb=>?_) hRl ho64 h1 (by omega) hA ?_ hi0 la lb' ea eb (fun q v hq=>hop q v hq) s pa pl pc PS hPS ad n cap (by omega) bd nb capb (by omega) E1 E2 E3 hE
 ·have:=hCn W' hb
  unfold nuP at this
  rw [hB] at this
  have hk:=s.hk
  by_cases q:O i 0≤4
  ·have hr:rdB (O i 0)=true:=decide_eq_true ⟨hk.1,q⟩
   rw [if_pos hr] at this
   rw [if_pos q];exact this
  ·have hr:¬ rdB (O i 0)=true:=fun x=>q (of_decide_eq_true x).2
   rw [if_neg hr] at this
   rw [if_neg q];exact this
 ·exact hB6
end Go.Proofs.YtehofmkpgopmpaaGreat.Kr
namespace Go.Proofs.YtehofmkpgopmpaaGreat
open Go.Value renaming int → U, slice → Sl
open Go.IntKind renaming i64 → i6
set_option maxRecDepth 100000
set_option maxHeartbeats 16000000
open Go.ChangeShapes Go.WideShapes Go.ChangeAt Go.RowKit
set_option linter.unusedVariables false
theorem IRow.take {k:IntKind} {w:World} {a:Option Addr} {len cap n:Nat} {zs:List Int} (h:IRow k w a len cap zs) (hn:n≤len):IRow k w a n cap (zs.take n):=by
 obtain⟨h1,h2,h3,h4,h5,h6⟩:=h
 refine⟨by simp;omega,by omega,h3,fun z hz=>h4 z (List.mem_of_mem_take hz),h5,fun x hx i hi=>?_⟩
 rw [h6 x hx i (by omega)]
 simp [List.getD,hi]
theorem twoC {P:Program} {ops:Array Oper} {md:Region.Mode} {C:World→Prop} {Q:Exit→Act→World→Prop} (i j:Nat) {fuel:Nat} {listed:Array Bool} {a:Act} {w:World} (hC:C w) (hr:Region.ready md ops listed=[i,j])
  (h1:wpOpIn Fence.wide 3 P ops Q i (wpAnyC Fence.wide 3 P md ops C Q fuel (listed.setIfInBounds i true)) a w)
  (h2:wpOpIn Fence.wide 3 P ops Q j (wpAnyC Fence.wide 3 P md ops C Q fuel (listed.setIfInBounds j true)) a w):wpAnyC Fence.wide 3 P md ops C Q (fuel+1) listed a w :=
 ⟨hC,fun h0=>(by rw [hr] at h0;cases h0),fun k hk=>by
  rw [hr] at hk
  simp only [List.mem_cons,List.not_mem_nil,or_false] at hk
  rcases hk with rfl | rfl
  ·exact h1
  ·exact h2⟩
theorem opR {P:Program} {ops:Array Oper} {md:Region.Mode} {C:World→Prop} {Q:Exit→Act→World→Prop} {i:Nat} {o:Oper} {fuel:Nat} {listed:Array Bool} {a:Act} {w:World} (ho:ops[i]? = some o) (hg:o.guard=none)
  (v:Value) (w':World) (hrun:(execOp a.eval o).run P w=.ok (.value v) w') (h:wpAnyC Fence.wide 3 P md ops C Q fuel (listed.setIfInBounds i true) (a.put o.dst v) w'):wpOpIn Fence.wide 3 P ops Q i (wpAnyC Fence.wide 3 P md ops C Q fuel (listed.setIfInBounds i true)) a w :=
 wpOpIn_step ho fun K hK=>step_wp hg (wp_run1 hrun (hK _ _ h))
theorem opK {P:Program} {ops:Array Oper} {md:Region.Mode} {C:World→Prop} {Q:Exit→Act→World→Prop} {i:Nat} {o:Oper} {fuel:Nat} {listed:Array Bool} {a:Act} {w:World} (ho:ops[i]? = some o) (hg:o.guard=none)
  (f:FuncId) (args:Array Value) (hrun:(execOp a.eval o).run P w=.ok (.enter f args) w) {R:Ending→World→Prop} (hcall:Calls P f args w R)
  (h:∀ e w',R e w'→∃ v,e=.returned v∧wpAnyC Fence.wide 3 P md ops C Q fuel (listed.setIfInBounds i true) (a.put o.dst v) w'):wpOpIn Fence.wide 3 P ops Q i (wpAnyC Fence.wide 3 P md ops C Q fuel (listed.setIfInBounds i true)) a w :=
 wpOpIn_step ho fun K hK=>step_wp hg (by
  unfold Oper.wp
  rw [hrun]
  refine Calls.mono hcall fun e w' he=>?_
  obtain⟨v,rfl,hv⟩:=h e w' he
  exact hK _ _ hv)
theorem grown_setRow (w:World) (N:Nat) (cs:Array Value):w.grownBy (w.setRow N cs) (some N):=⟨rfl,rfl,rfl,by simp,fun k _ hk=>setRow_other w N k cs (fun e=>hk (by rw [e]))⟩
theorem Own.setRow {w:World} {base N:Nat} {v:Value} {zs:List Int} {c cs:Array Value} {T:TypeId} (h:Own .i8 72 w base v zs) (hN:w.heap[N]? = some (.cells c T (0,0))) (h1:T≠28) (h2:T≠72):Own .i8 72 (w.setRow N cs) base v zs :=
 h.grown (grown_setRow w N cs) fun b hb c' e=>by
  cases hb
  rw [hN] at e
  simp only [Option.some.injEq,Obj.cells.injEq] at e
  exact h2 e.2.1
def Outs (lo hi:Nat) (w w':World):Prop:=w'.os=w.os∧w'.tape=w.tape∧w'.output=w.output∧w.heap.size≤w'.heap.size∧∀ i,i<w.heap.size→i<lo∨hi≤i→w'.heap[i]? = w.heap[i]?
theorem Outs.refl (lo hi:Nat) (w:World):Outs lo hi w w:=⟨rfl,rfl,rfl,Nat.le_refl _,fun _ _ _=>rfl⟩
theorem Outs.step {lo hi:Nat} {w w1 w2:World} {row:Option Nat} (h:Outs lo hi w w1) (q:w1.grownBy w2 row) (hr:∀ b,row=some b→(lo≤b∧b<hi)∨w.heap.size≤b):Outs lo hi w w2:=by
 obtain⟨h1,h2,h3,h4,h5⟩:=h
 refine⟨q.os.trans h1,q.tape.trans h2,q.output.trans h3,Nat.le_trans h4 q.size,fun i hi hb=>?_⟩
 rw [← h5 i hi hb]
 exact q.block i (by omega) (fun e=>by have:=hr i e.symm;omega)
theorem Outs.bel {lo hi:Nat} {w w1 w2:World} (h:Outs lo hi w w1) (q:Below w1.heap.size w1 w2):Outs lo hi w w2 :=
 h.step (row:=none) ⟨q.os,q.tape,q.output,q.size,fun i hi _=>q.block i hi⟩ (fun b e=>by cases e)
theorem Outs.below {lo hi:Nat} {w0 w w':World} (h:Outs lo hi w w') (q:Below lo w0 w) (hl:lo≤w.heap.size):Below lo w0 w' :=
 q.trans ⟨h.1,h.2.1,h.2.2.1,h.2.2.2.1,fun k hk=>h.2.2.2.2 k (by omega) (.inl hk)⟩
theorem Outs.own {lo hi:Nat} {w w':World} {e:TypeId} {size n:Nat} {v:Value} {xs:List Value} (h:Outs lo hi w w') (q:w.ownsRow hi e size v n xs):w'.ownsRow hi e size v n xs:=by
 refine⟨q.1,?_⟩
 rcases q.2 with q | ⟨g,cap,cur,h1,h2,h3,h4⟩
 ·exact .inl q
 ·exact .inr ⟨g,cap,cur,h1,h2,(h.2.2.2.2 g (lt_of_heap h3) (.inr h2)).trans h3,h4⟩
end Go.Proofs.YtehofmkpgopmpaaGreat
namespace Go.Proofs.YtehofmkpgopmpaaGreat.Kr
open Go.Value renaming int → U, slice → Sl
open Go.IntKind renaming i64 → i6
set_option maxRecDepth 100000
set_option maxHeartbeats 16000000
open Go.ChangeShapes Go.WideShapes Go.ChangeAt Go.RowKit
set_option linter.unusedVariables false
theorem wpList_app9 {k:IntKind} {T S:TypeId} {by8:Nat} (kt:KT k T S by8) {w:World} {ops:Array Oper} {rest:List Oper} {o:Oper} {a:Act} {Q:Exit→Act→World→Prop} (hgd:o.guard=none) (s x:Operand)
  (ho:o.op=.call { callee:=.builtin .append,args:=#[s,x],argTypes:=#[S,S] })
  (base:Nat) (v:Value) (xs ys:List Int) (hs:a.eval s=v) (hown:Own k T w base v xs) (ad:Addr) (m c:Nat) (hx:a.eval x=.slice (some ad) m c) (hy:IRow k w (some ad) m c ys) (hm:0<m)
  (hlen:xs.length+m≤10000000) (hbase:base≤w.heap.size)
  (h:∀ v' w',Own k T w' base v' (xs++ys)→(v'.ownBlock=v.ownBlock∨∀ b,v'.ownBlock=some b→w.heap.size≤b)→w.grownBy w' v.ownBlock→wpList Tryz.prog ops Q rest (a.put o.dst v') w'):wpList Tryz.prog ops Q (o :: rest) a w:=by
 obtain⟨hu,hin,b1,b8⟩:=kt
 obtain⟨i0,hi,hz0,hz1,hz2⟩:=info_parts hin
 obtain⟨hl,hc,hmm,hb,hn,hcell⟩:=hy
 have hby:by8*(xs.length+m)≤8*(xs.length+m):=Nat.mul_le_mul_right _ b8
 have hnews:∀ j u,(ys.map (Value.int k))[j]? = some u→w.cell? (ad.add j)=some u:=by
  intro j u hj
  have hj':j<m:=by
   have:=(List.getElem?_eq_some_iff.1 hj).1
   simpa [hl] using this
  rw [hcell ad rfl j hj']
  simp [List.getD,show j<ys.length by omega] at hj ⊢
  exact hj
 have hgrow:∀ (ao:Option Addr) (cap:Nat),v=.slice ao xs.length cap→cap<xs.length+m→wpList Tryz.prog ops Q (o :: rest) a w:=fun ao cap ev hfull=>by
  subst ev
  refine wpList_append_grows _ hgd s x _ ho T i0 (.int k 0) 1 by8 hu hi hz0 hz1 hz2 rfl (by omega) ao xs.length cap (xs.map (Value.int k)) hs ?_ (by simp) ?_ ad m c (ys.map (Value.int k)) hx (by simp [hl]) hnews (ints_oneCell _ _) hfull (by unfold maxLen;omega) (by rw [Nat.mul_comm];omega) ?_
  ·rintro rfl
   rcases hown.shape with ⟨h',h0⟩ | ⟨g,cap',h',_⟩
   ·simp only [Value.slice.injEq,true_and] at h';exact h'
   ·cases h'
  ·rintro b rfl j u hj
   obtain⟨a',c',e',r,_⟩:=hown.row
   cases e'
   have hj':j<xs.length:=by
    have:=(List.getElem?_eq_some_iff.1 hj).1
    simpa using this
   rw [r.2.2.2.2.2 b rfl j hj']
   simp [List.getD,hj'] at hj ⊢
   exact hj
  ·intro v' w' h1 h2
   have own':Own k T w' w.heap.size v' (xs++ys):=⟨by rw [List.length_append,hl,List.map_append];exact h1,hown.2.app hb⟩
   exact h v' w' (own'.base hbase) (.inr fun b e=>own'.block e) ⟨h2.os,h2.tape,h2.output,h2.size,fun i hi _=>h2.block i hi (by simp)⟩
 rcases hown.shape with ⟨rfl,rfl⟩ | ⟨g,cap,rfl,hg,hlt,hnc,hcm,-,-,-⟩
 ·exact hgrow none 0 rfl (by simpa using hm)
 ·by_cases hfit:xs.length+m≤cap
  ·refine wpList_append_fits _ hgd s x _ ho base T i0 1 hu hi hz1 g xs.length cap (xs.map (Value.int k)) hs hown.1 ad m c (ys.map (Value.int k)) hx (by simp [hl]) hnews (ints_oneCell _ _) hfit ?_
   intro w' h1 h2
   refine h _ w' ⟨?_,hown.2.app hb⟩ (.inl rfl) h2
   rw [List.length_append,hl,List.map_append]
   exact h1
  ·exact hgrow _ cap rfl (by omega)
def Apart (u v:Value):Prop:=∀ b,u.ownBlock=some b→v.ownBlock≠some b
theorem Apart.symm {u v:Value} (h:Apart u v):Apart v u:=fun b e q=>h b q e
theorem own_apart {k:IntKind} {T:TypeId} {w w':World} {base:Nat} {u v:Value} {zs:List Int} (h:Own k T w base v zs) (g:w.grownBy w' u.ownBlock) (q:Apart u v):Own k T w' base v zs:=by
 refine⟨World.ownsRow.kept h.1 g ?_,h.2⟩
 cases e:v.ownBlock with
 | none=>exact .inl rfl
 | some b=>exact .inr fun x=>q b x.symm e
theorem apart_grown {k:IntKind} {T:TypeId} {w:World} {base:Nat} {u u' v:Value} {zs:List Int} (h:Apart u v) (ho:Own k T w base v zs) (q:u'.ownBlock=u.ownBlock∨∀ b,u'.ownBlock=some b→w.heap.size≤b):Apart u' v:=fun b e x=>by
 rcases q with q | q
 ·exact h b (by rw [← q];exact e) x
 ·have h1:=q b e
  have h2:=own_lt ho x
  omega
end Go.Proofs.YtehofmkpgopmpaaGreat.Kr
namespace Go.Proofs.YtehofmkpgopmpaaGreat.Fx
open Go.Value renaming int → U, slice → Sl
open Go.IntKind renaming i64 → i6
set_option maxRecDepth 100000
set_option maxHeartbeats 16000000
open Go.ChangeShapes Go.WideShapes Go.ChangeAt Go.RowKit
theorem p2_uwrap (n:Int) (h:n≤62):IntKind.u64.wrap (2 ^ n.toNat)=p2 n:=by
 have h1:=p2_pos n
 have h2:=p2_le n h
 show IntKind.u64.wrap (p2 n)=p2 n
 rw [u64w];omega
theorem hq_top (s d:Int) (h1:0≤s) (h2:s≤9223372036854775808):s / d≤9223372036854775808:=by
 have:=Int.ediv_le_self d h1
 omega
theorem half_any (s d:Int) (w:World) (h1:0≤s) (h2:s≤9223372036854775808) (d1:1≤d) (d2:d≤9223372036854775808) :
  Calls Tryz.prog 81 #[.int .u64 s,.int .u64 d] w fun e w'=>e=.returned (.int .u64 (hq s d))∧w'=w:=by
 have hd0:(d == 0)=false:=by simp;omega
 have r0:=Int.emod_nonneg s (show d≠0 by omega)
 have r1:=Int.emod_lt_of_pos s (show 0<d by omega)
 have q0:=Int.ediv_nonneg h1 (show 0≤d by omega)
 have q1:=hq_top s d h1 h2
 by_cases c2:d≤2*(s % d)
 ·have HH:Hid (hq s d=s / d+1):=by unfold Hid hq;rw [if_pos c2]
  have c3:d-s % d≤s % d:=by omega
  clear c2
  go_enter Tryz.func81,Tryz.ntmps81
  go_wp2
  go_ret
  exact⟨ret1 (by rw [HH.out]),rfl⟩
 ·have HH:Hid (hq s d=s / d):=by unfold Hid hq;rw [if_neg c2]
  have c3:¬ d-s % d≤s % d:=by omega
  clear c2
  go_enter Tryz.func81,Tryz.ntmps81
  go_wp2
  go_ret
  exact⟨ret1 (by rw [HH.out]),rfl⟩
theorem back_neg (p:Int) (w:World) (h1:0≤p) (h2:p≤9223372036854775808) :
  Calls Tryz.prog 80 #[.int .u64 p,.bool true] w fun e w'=>e=.returned (U i6 (-p))∧w'=w:=by
 go_enter Tryz.func80,Tryz.ntmps80
 go_wp2_with fail
 refine (signed_neg _ _ h1 h2).mono ?_
 rintro e w' ⟨rfl,rfl⟩
 go_wp2
 go_ret
 exact⟨rfl,rfl⟩
theorem back_pos (p:Int) (w:World) (h1:0≤p) (h2:p<9223372036854775808) :
  Calls Tryz.prog 80 #[.int .u64 p,.bool false] w fun e w'=>e=.returned (U i6 p)∧w'=w:=by
 go_enter Tryz.func80,Tryz.ntmps80
 go_wp2_with fail
 refine (signed_pos _ _ h1 h2).mono ?_
 rintro e w' ⟨rfl,rfl⟩
 go_wp2
 go_ret
 exact⟨rfl,rfl⟩
theorem rq_of_neg (x d:Int) (c:x<0):rq x d = -(hq (sizeV x) d):=by unfold rq sizeV;rw [if_pos c,if_pos c]
theorem rq_of_pos (x d:Int) (c:¬ x<0):rq x d=hq (sizeV x) d:=by unfold rq sizeV;rw [if_neg c,if_neg c]
theorem size_pos_lt (x:Int) (h:I64 x) (c:¬ x<0):sizeV x<9223372036854775808:=by unfold sizeV;rw [if_neg c];unfold I64 at h;omega
theorem refmean_any (x n:Int) (w:World) (hx:I64 x) (hn:I64 n) :
  Calls Tryz.prog 52 #[U i6 x,U i6 n] w fun e w'=>e=.returned (.tuple #[U i6 (meV x n),U i6 (meE n)])∧w'=w:=by
 obtain⟨n1,n2⟩:=hn
 by_cases k:n<1
 ·have HV:Hid (meV x n=0):=if_pos k
  have HE:Hid (meE n=2):=if_pos k
  rw [HV.out,HE.out]
  go_enter Tryz.func52,Tryz.ntmps52
  go_wp2
  go_ret2
  exact⟨rfl,rfl⟩
 ·have HV:Hid (meV x n=rq x n):=if_neg k
  have HE:Hid (meE n=0):=if_neg k
  rw [HV.out,HE.out]
  have h1:1≤n:=by omega
  obtain⟨s1,s2⟩:=sizeV_bd x hx
  by_cases c:x<0
  ·have HQ:Hid (rq x n = -(hq (sizeV x) n)):=rq_of_neg _ _ c
   have hq1:=hq_bd (sizeV x) n s1 h1
   go_enter Tryz.func52,Tryz.ntmps52
   go_wp2_with fail
   refine (size_any _ _ hx).mono ?_
   rintro e w' ⟨rfl,rfl⟩
   go_wp2_with fail
   refine (half_any _ _ _ s1 s2 h1 (by omega)).mono ?_
   rintro e w' ⟨rfl,rfl⟩
   go_wp2_with fail
   refine (back_neg _ _ hq1.1 (by omega)).mono ?_
   rintro e w' ⟨rfl,rfl⟩
   go_wp2
   go_ret2
   exact⟨ret2 HQ.out.symm rfl,rfl⟩
  ·have HQ:Hid (rq x n=hq (sizeV x) n):=rq_of_pos _ _ c
   have hq1:=hq_bd (sizeV x) n s1 h1
   have hl:=size_pos_lt x hx c
   have qc:decide (x<0)=false:=by simp;omega
   go_enter Tryz.func52,Tryz.ntmps52
   go_wp2_with fail
   refine (size_any _ _ hx).mono ?_
   rintro e w' ⟨rfl,rfl⟩
   go_wp2_with fail
   refine (half_any _ _ _ s1 s2 h1 (by omega)).mono ?_
   rintro e w' ⟨rfl,rfl⟩
   go_wp2_with fail
   refine (back_pos _ _ hq1.1 (by omega)).mono ?_
   rintro e w' ⟨rfl,rfl⟩
   go_wp2
   go_ret2
   exact⟨ret2 HQ.out.symm rfl,rfl⟩
theorem refvalid_any (m s:Int) (w:World) :
  Calls Tryz.prog 74 #[U i6 m,U i6 s] w fun e w'=>e=.returned (.bool (scB m s))∧w'=w:=by
 by_cases c1:1≤m
 ·by_cases c2:m≤2147483647
  ·by_cases c3:0≤s
   ·have HR:Hid (decide (s≤62)=scB m s):=by unfold Hid scB;simp [c1,c2,c3]
    go_enter Tryz.func74,Tryz.ntmps74
    go_wp2
    go_ret
    exact⟨retB HR.out,rfl⟩
   ·have HR:Hid (false=scB m s):=by unfold Hid scB;simp [c3]
    go_enter Tryz.func74,Tryz.ntmps74
    go_wp2
    go_ret
    exact⟨retB HR.out,rfl⟩
  ·have HR:Hid (false=scB m s):=by unfold Hid scB;simp [c2]
   go_enter Tryz.func74,Tryz.ntmps74
   go_wp2
   go_ret
   exact⟨retB HR.out,rfl⟩
 ·have HR:Hid (false=scB m s):=by unfold Hid scB;simp [c1]
  go_enter Tryz.func74,Tryz.ntmps74
  go_wp2
  go_ret
  exact⟨retB HR.out,rfl⟩
theorem sizeV_times (a m:Int) (hm:1≤m):sizeV (a*m)=sizeV a*m∧(a*m<0 ↔ a<0):=by
 have hi:a*m<0 ↔ a<0:=by
  constructor
  ·intro h
   refine Int.not_le.1 fun hh=>?_
   have:=Int.mul_nonneg hh (show 0≤m by omega)
   omega
  ·intro h
   have:=Int.mul_le_mul_of_nonneg_left hm (show 0≤-a by omega)
   rw [Int.neg_mul,Int.neg_mul] at this
   omega
 refine⟨?_,hi⟩
 unfold sizeV
 by_cases h:a<0
 ·rw [if_pos h,if_pos (hi.2 h),Int.neg_mul]
 ·rw [if_neg h,if_neg (fun g=>h (hi.1 g))]
theorem refapply_any (a m s:Int) (w:World) (hia:I64 a) :
  Calls Tryz.prog 53 #[U i6 a,U i6 m,U i6 s] w fun e w'=>e=.returned (.tuple #[U i6 (apV a m s),U i6 (apE a m s)])∧w'=w:=by
 cases hs:scB m s with
 | false =>
  have HV:Hid (apV a m s=0):=by unfold Hid apV;rw [hs,if_neg (by decide)]
  have HE:Hid (apE a m s=20):=by unfold Hid apE;rw [hs,if_neg (by decide)]
  rw [HV.out,HE.out]
  go_enter Tryz.func53,Tryz.ntmps53
  go_wp2_with fail
  refine (refvalid_any _ _ _).mono ?_
  rintro e w' ⟨rfl,rfl⟩
  go_wp2
  go_ret2
  exact⟨rfl,rfl⟩
 | true =>
  cases ha:acB a with
  | false =>
   have HV:Hid (apV a m s=0):=by unfold Hid apV;rw [hs,if_pos rfl,ha,if_neg (by decide)]
   have HE:Hid (apE a m s=10):=by unfold Hid apE;rw [hs,if_pos rfl,ha,if_neg (by decide)]
   rw [HV.out,HE.out]
   have hn:¬ (-4294967296≤a∧a≤4294967296):=by unfold acB at ha;simpa using ha
   by_cases c:a < -4294967296
   all_goals
    try have c':4294967296<a:=by omega
    clear hn
    go_enter Tryz.func53,Tryz.ntmps53
    go_wp2_with fail
    refine (refvalid_any _ _ _).mono ?_
    rintro e w' ⟨rfl,rfl⟩
    go_wp2
    go_ret2
    exact⟨rfl,rfl⟩
  | true =>
   have HV:Hid (apV a m s=rq (a*m) (p2 s)):=by unfold Hid apV;rw [hs,if_pos rfl,ha,if_pos rfl]
   have HE:Hid (apE a m s=0):=by unfold Hid apE;rw [hs,if_pos rfl,ha,if_pos rfl]
   rw [HV.out,HE.out]
   have hn:-4294967296≤a∧a≤4294967296:=by unfold acB at ha;simpa using ha
   have hm:1≤m∧m≤2147483647∧0≤s∧s≤62:=by unfold scB at hs;simpa using hs
   obtain⟨a1,a2⟩:=hn
   obtain⟨m1,m2,s1,s2⟩:=hm
   have hp:=prod_bd a m a1 a2 m1 m2
   have hi:I64 (a*m):=by unfold I64;omega
   obtain⟨HT,hneg⟩:=sizeV_times a m m1
   obtain⟨t1,t2⟩:=sizeV_bd (a*m) hi
   obtain⟨b1,b2⟩:=sizeV_bd a hia
   have h1:=p2_pos s
   have h2:=p2_le s s2
   have HP:Hid (IntKind.u64.wrap (2 ^ s.toNat)=p2 s):=p2_uwrap s s2
   have n3:¬ a < -4294967296:=by omega
   have n4:¬ 4294967296<a:=by omega
   have hq1:=hq_bd (sizeV (a*m)) (p2 s) t1 h1
   by_cases c:a<0
   ·have HQ:Hid (rq (a*m) (p2 s) = -(hq (sizeV a*m) (p2 s))):=by unfold Hid;rw [rq_of_neg _ _ (hneg.2 c),HT]
    rw [HT] at t1 t2 hq1
    clear HT hneg hp hi
    go_enter Tryz.func53,Tryz.ntmps53
    go_wp2_with fail
    refine (refvalid_any _ _ _).mono ?_
    rintro e w' ⟨rfl,rfl⟩
    go_wp2_with fail
    refine (size_any _ _ hia).mono ?_
    rintro e w' ⟨rfl,rfl⟩
    go_wp2_with fail
    rw [HP.out]
    refine (half_any _ _ _ t1 t2 h1 (by omega)).mono ?_
    rintro e w' ⟨rfl,rfl⟩
    go_wp2_with fail
    refine (back_neg _ _ hq1.1 (by omega)).mono ?_
    rintro e w' ⟨rfl,rfl⟩
    go_wp2
    go_ret2
    exact⟨ret2 HQ.out.symm rfl,rfl⟩
   ·have HQ:Hid (rq (a*m) (p2 s)=hq (sizeV a*m) (p2 s)):=by unfold Hid;rw [rq_of_pos _ _ (fun g=>c (hneg.1 g)),HT]
    have hl:=size_pos_lt (a*m) hi (fun g=>c (hneg.1 g))
    rw [HT] at t1 t2 hq1 hl
    have qc:decide (a<0)=false:=by simp;omega
    clear HT hneg hp hi
    go_enter Tryz.func53,Tryz.ntmps53
    go_wp2_with fail
    refine (refvalid_any _ _ _).mono ?_
    rintro e w' ⟨rfl,rfl⟩
    go_wp2_with fail
    refine (size_any _ _ hia).mono ?_
    rintro e w' ⟨rfl,rfl⟩
    go_wp2_with fail
    rw [HP.out]
    refine (half_any _ _ _ t1 t2 h1 (by omega)).mono ?_
    rintro e w' ⟨rfl,rfl⟩
    go_wp2_with fail
    refine (back_pos _ _ hq1.1 (by omega)).mono ?_
    rintro e w' ⟨rfl,rfl⟩
    go_wp2
    go_ret2
    exact⟨ret2 HQ.out.symm rfl,rfl⟩
theorem reffinish_any (v z lo hi:Int) (w:World) :
  Calls Tryz.prog 54 #[U i6 v,U i6 z,U i6 lo,U i6 hi] w fun e w'=>e=.returned (.tuple #[U i6 (fiV v z lo hi),U i6 (fiE z lo hi)])∧w'=w:=by
 cases hb:fiB z lo hi with
 | true =>
  have HV:Hid (fiV v z lo hi=clampV (v+z) lo hi):=by unfold Hid fiV;rw [if_pos hb]
  have HE:Hid (fiE z lo hi=0):=by unfold Hid fiE;rw [if_pos hb]
  rw [HV.out,HE.out]
  have hn:-128≤lo∧lo≤hi∧hi≤127∧-128≤z∧z≤127:=by unfold fiB at hb;simpa using hb
  obtain⟨n1,n2,n3,n4,n5⟩:=hn
  have v1:¬ lo < -128:=by omega
  have v2:¬ hi<lo:=by omega
  have v3:¬ 127<hi:=by omega
  have v4:¬ z < -128:=by omega
  have v5:¬ 127<z:=by omega
  clear hb
  by_cases c1:1000<v
  ·have HM:Hid (clampV (v+z) lo hi=hi):=by unfold Hid clampV;rw [if_pos (by omega)]
   rw [HM.out]
   go_enter Tryz.func54,Tryz.ntmps54
   go_wp2
   go_ret2
   exact⟨rfl,rfl⟩
  ·by_cases c2:v < -1000
   ·have HM:Hid (clampV (v+z) lo hi=lo):=by unfold Hid clampV;rw [if_neg (by omega),if_pos (by omega)]
    rw [HM.out]
    go_enter Tryz.func54,Tryz.ntmps54
    go_wp2
    go_ret2
    exact⟨rfl,rfl⟩
   ·obtain⟨k1,k2⟩:=clamp_in_ends (v+z) lo hi n2
    go_enter Tryz.func54,Tryz.ntmps54
    go_wp2_with fail
    refine (refclamp_any _ _ _ _).mono ?_
    rintro e w' ⟨rfl,rfl⟩
    go_wp2
    go_ret2
    exact⟨rfl,rfl⟩
 | false =>
  have HV:Hid (fiV v z lo hi=0):=by unfold Hid fiV;rw [hb,if_neg (by decide)]
  have HE:Hid (fiE z lo hi=85):=by unfold Hid fiE;rw [hb,if_neg (by decide)]
  rw [HV.out,HE.out]
  have hn:¬ (-128≤lo∧lo≤hi∧hi≤127∧-128≤z∧z≤127):=by unfold fiB at hb;simpa using hb
  clear hb
  by_cases v1:lo < -128
  ·clear hn
   go_enter Tryz.func54,Tryz.ntmps54
   go_wp2
   go_ret2
   exact⟨rfl,rfl⟩
  ·by_cases v2:hi<lo
   ·clear hn
    go_enter Tryz.func54,Tryz.ntmps54
    go_wp2
    go_ret2
    exact⟨rfl,rfl⟩
   ·by_cases v3:127<hi
    ·clear hn
     go_enter Tryz.func54,Tryz.ntmps54
     go_wp2
     go_ret2
     exact⟨rfl,rfl⟩
    ·by_cases v4:z < -128
     all_goals
      try have v5:127<z:=by omega
      clear hn
      go_enter Tryz.func54,Tryz.ntmps54
      go_wp2
      go_ret2
      exact⟨rfl,rfl⟩
end Go.Proofs.YtehofmkpgopmpaaGreat.Fx
namespace Go.Proofs.YtehofmkpgopmpaaGreat
open Go.Value renaming int → U, slice → Sl
open Go.IntKind renaming i64 → i6
set_option maxRecDepth 100000
set_option maxHeartbeats 16000000
open Go.ChangeShapes Go.WideShapes Go.ChangeAt Go.RowKit
set_option linter.unusedVariables false
def hoV (k sm ss z lo hi t len:Int):Int:=if k=4 then Fx.fiV (Fx.meV t len) 0 lo hi else Fx.fiV (Fx.apV t sm ss) z lo hi
theorem i8w {F:Int} (h:I8 F):IntKind.i8.wrap F=F:=by
 obtain⟨h1,h2⟩:=h
 simp [IntKind.wrap,IntKind.bits,IntKind.signed];omega
theorem home_any (k a b m kh kw sh sw tp lf bt rt:Int) (wa:Option Addr) (lw wc:Nat) (ba:Option Addr) (lb bc:Nat) (sm ss um us z p lo hi:Int) (t len:Int) (W:World) (ht:I64 t) (hl:I64 len) :
  Calls Tryz.prog 27 #[.agg #[U i6 k,U i6 a,U i6 b,U i6 m,U i6 kh,U i6 kw,U i6 sh,U i6 sw,U i6 tp,U i6 lf,U i6 bt,U i6 rt,Sl wa lw wc,Sl ba lb bc,U i6 sm,U i6 ss,U i6 um,U i6 us,U i6 z,U i6 p,U i6 lo,U i6 hi],U i6 t,U i6 len] W fun e w'=>e=.returned (.int .i8 (hoV k sm ss z lo hi t len))∧Below W.heap.size W w':=by
 have s0:=(St.start W).new (c:=#[U i6 k,U i6 a,U i6 b,U i6 m,U i6 kh,U i6 kw,U i6 sh,U i6 sw,U i6 tp,U i6 lf,U i6 bt,U i6 rt,Sl wa lw wc,Sl ba lb bc,U i6 sm,U i6 ss,U i6 um,U i6 us,U i6 z,U i6 p,U i6 lo,U i6 hi]) (t:=55)
 have S0:Hid (St W _ _):=s0
 by_cases k4:k=4
 ·have e:Hid (hoV k sm ss z lo hi t len=Fx.fiV (Fx.meV t len) 0 lo hi):=by unfold Hid hoV;rw [if_pos k4]
  subst k4
  rw [e.out]
  have h8:=i8w (fiV_i8 (v:=Fx.meV t len) (z:=0) (lo:=lo) (hi:=hi))
  clear s0 e
  go_enter Tryz.func27,Tryz.ntmps27
  go_wp2_with fail
  refine (Fx.refmean_any t len _ ht hl).mono ?_
  rintro e w1 ⟨rfl,hb1⟩
  have S1:Hid (St W w1 _):=S0.out.call (by first | exact hb1 | (rw [hb1];exact Below.refl _ _))
  obtain⟨c1,f1,z1,-⟩:=S1.out.rules
  obtain⟨mv,hmv⟩:∃ mv,Fx.meV t len=mv:=⟨_,rfl⟩
  rw [hmv] at h8 ⊢
  have HMV:Hid (_=mv):=hmv
  clear hb1 S0 hmv
  go_wp2_with fail
  refine (Fx.reffinish_any mv 0 lo hi _).mono ?_
  rintro e w2 ⟨rfl,hb2⟩
  have S2:Hid (St W w2 _):=S1.out.call (by first | exact hb2 | (rw [hb2];exact Below.refl _ _))
  obtain⟨F,hF⟩:∃ F,Fx.fiV mv 0 lo hi=F:=⟨_,rfl⟩
  rw [hF] at h8 ⊢
  have HF:Hid (_=F):=hF
  clear hb2 S1 hF c1 f1 z1
  go_wp2
  go_ret
  exact⟨ret1 (by rw [HMV.out,HF.out]),S2.out.below⟩
 ·have e:Hid (hoV k sm ss z lo hi t len=Fx.fiV (Fx.apV t sm ss) z lo hi):=by unfold Hid hoV;rw [if_neg k4]
  rw [e.out]
  have k4':(k == 4)=false:=by simp [k4]
  have h8:=i8w (fiV_i8 (v:=Fx.apV t sm ss) (z:=z) (lo:=lo) (hi:=hi))
  clear s0 e k4
  obtain⟨c1,f1,z1,-⟩:=S0.out.rules
  go_enter Tryz.func27,Tryz.ntmps27
  go_wp2_with fail
  refine (Fx.refapply_any t sm ss _ ht).mono ?_
  rintro e w1 ⟨rfl,hb1⟩
  have S1:Hid (St W w1 _):=S0.out.call (by first | exact hb1 | (rw [hb1];exact Below.refl _ _))
  clear c1 f1 z1
  obtain⟨c1,f1,z1,-⟩:=S1.out.rules
  obtain⟨mv,hmv⟩:∃ mv,Fx.apV t sm ss=mv:=⟨_,rfl⟩
  rw [hmv] at h8 ⊢
  have HMV:Hid (_=mv):=hmv
  clear hb1 S0 hmv
  go_wp2_with fail
  refine (Fx.reffinish_any mv z lo hi _).mono ?_
  rintro e w2 ⟨rfl,hb2⟩
  have S2:Hid (St W w2 _):=S1.out.call (by first | exact hb2 | (rw [hb2];exact Below.refl _ _))
  obtain⟨F,hF⟩:∃ F,Fx.fiV mv z lo hi=F:=⟨_,rfl⟩
  rw [hF] at h8 ⊢
  have HF:Hid (_=F):=hF
  clear hb2 S1 hF c1 f1 z1
  go_wp2
  go_ret
  exact⟨ret1 (by rw [HMV.out,HF.out]),S2.out.below⟩
def eaV (k sm ss um us z lo hi a b:Int):Int:=Fx.fiV (if k=6 then Fx.apV a sm ss+Fx.apV b um us else if k=8 then a else Fx.apV a sm ss) z lo hi
theorem each_6 (a b m kh kw sh sw tp lf bt rt:Int) (wa:Option Addr) (lw wc:Nat) (ba:Option Addr) (lb bc:Nat) (sm ss um us z p lo hi u v:Int) (W:World) (hu:I8 u) (hv:I8 v) :
  Calls Tryz.prog 47 #[.agg #[U i6 6,U i6 a,U i6 b,U i6 m,U i6 kh,U i6 kw,U i6 sh,U i6 sw,U i6 tp,U i6 lf,U i6 bt,U i6 rt,Sl wa lw wc,Sl ba lb bc,U i6 sm,U i6 ss,U i6 um,U i6 us,U i6 z,U i6 p,U i6 lo,U i6 hi],.int .i8 u,.int .i8 v] W fun e w'=>e=.returned (.int .i8 (eaV 6 sm ss um us z lo hi u v))∧Below W.heap.size W w':=by
 have s0:=(St.start W).new (c:=#[U i6 6,U i6 a,U i6 b,U i6 m,U i6 kh,U i6 kw,U i6 sh,U i6 sw,U i6 tp,U i6 lf,U i6 bt,U i6 rt,Sl wa lw wc,Sl ba lb bc,U i6 sm,U i6 ss,U i6 um,U i6 us,U i6 z,U i6 p,U i6 lo,U i6 hi]) (t:=55)
 have S0:Hid (St W _ _):=s0
 have ba1:=apV_i8 (m:=sm) (s:=ss) hu
 have bb1:=apV_i8 (m:=um) (s:=us) hv
 obtain⟨u1,u2⟩:=hu
 obtain⟨v1,v2⟩:=hv
 unfold eaV
 simp only [if_true]
 have h8:Hid (∀ x,IntKind.i8.wrap (Fx.fiV x z lo hi)=Fx.fiV x z lo hi):=fun x=>i8w fiV_i8
 clear s0
 obtain⟨c1,f1,z1,-⟩:=S0.out.rules
 go_enter Tryz.func47,Tryz.ntmps47
 go_wp2_with fail
 refine (Fx.refapply_any u sm ss _ (by unfold I64;omega)).mono ?_
 rintro e w1 ⟨rfl,hb1⟩
 have S1:Hid (St W w1 _):=S0.out.call (by first | exact hb1 | (rw [hb1];exact Below.refl _ _))
 clear c1 f1 z1
 obtain⟨c1,f1,z1,-⟩:=S1.out.rules
 obtain⟨av,hav⟩:∃ av,Fx.apV u sm ss=av:=⟨_,rfl⟩
 rw [hav] at ba1 ⊢
 have HAV:Hid (_=av):=hav
 clear hb1 S0 hav
 go_wp2_with fail
 refine (Fx.refapply_any v um us _ (by unfold I64;omega)).mono ?_
 rintro e w1' ⟨rfl,hb1⟩
 have S1':Hid (St W w1' _):=S1.out.call (by first | exact hb1 | (rw [hb1];exact Below.refl _ _))
 clear c1 f1 z1 S1
 have S1:=S1'
 clear S1'
 obtain⟨c1,f1,z1,-⟩:=S1.out.rules
 obtain⟨bv,hbv⟩:∃ bv,Fx.apV v um us=bv:=⟨_,rfl⟩
 rw [hbv] at bb1 ⊢
 have HBV:Hid (_=bv):=hbv
 clear hb1 hbv
 go_wp2_with fail
 refine (Fx.reffinish_any _ z lo hi _).mono ?_
 rintro e w2 ⟨rfl,hb2⟩
 have S2:Hid (St W w2 _):=S1.out.call (by first | exact hb2 | (rw [hb2];exact Below.refl _ _))
 clear hb2 c1 f1 z1
 go_wp2_with fail
 rw [h8.out]
 go_wp2
 go_ret
 exact⟨ret1 (by rw [HAV.out,HBV.out]),S2.out.below⟩
theorem each_7 (a b m kh kw sh sw tp lf bt rt:Int) (wa:Option Addr) (lw wc:Nat) (ba:Option Addr) (lb bc:Nat) (sm ss um us z p lo hi u v:Int) (W:World) (hu:I8 u) (hv:I8 v) :
  Calls Tryz.prog 47 #[.agg #[U i6 7,U i6 a,U i6 b,U i6 m,U i6 kh,U i6 kw,U i6 sh,U i6 sw,U i6 tp,U i6 lf,U i6 bt,U i6 rt,Sl wa lw wc,Sl ba lb bc,U i6 sm,U i6 ss,U i6 um,U i6 us,U i6 z,U i6 p,U i6 lo,U i6 hi],.int .i8 u,.int .i8 v] W fun e w'=>e=.returned (.int .i8 (eaV 7 sm ss um us z lo hi u v))∧Below W.heap.size W w':=by
 have s0:=(St.start W).new (c:=#[U i6 7,U i6 a,U i6 b,U i6 m,U i6 kh,U i6 kw,U i6 sh,U i6 sw,U i6 tp,U i6 lf,U i6 bt,U i6 rt,Sl wa lw wc,Sl ba lb bc,U i6 sm,U i6 ss,U i6 um,U i6 us,U i6 z,U i6 p,U i6 lo,U i6 hi]) (t:=55)
 have S0:Hid (St W _ _):=s0
 have ba1:=apV_i8 (m:=sm) (s:=ss) hu
 have bb1:=apV_i8 (m:=um) (s:=us) hv
 obtain⟨u1,u2⟩:=hu
 obtain⟨v1,v2⟩:=hv
 unfold eaV
 simp only [Int.reduceEq,if_false]
 have h8:Hid (∀ x,IntKind.i8.wrap (Fx.fiV x z lo hi)=Fx.fiV x z lo hi):=fun x=>i8w fiV_i8
 clear s0
 obtain⟨c1,f1,z1,-⟩:=S0.out.rules
 go_enter Tryz.func47,Tryz.ntmps47
 go_wp2_with fail
 refine (Fx.refapply_any u sm ss _ (by unfold I64;omega)).mono ?_
 rintro e w1 ⟨rfl,hb1⟩
 have S1:Hid (St W w1 _):=S0.out.call (by first | exact hb1 | (rw [hb1];exact Below.refl _ _))
 clear c1 f1 z1
 obtain⟨c1,f1,z1,-⟩:=S1.out.rules
 obtain⟨av,hav⟩:∃ av,Fx.apV u sm ss=av:=⟨_,rfl⟩
 rw [hav] at ba1 ⊢
 have HAV:Hid (_=av):=hav
 clear hb1 S0 hav
 go_wp2_with fail
 refine (Fx.reffinish_any _ z lo hi _).mono ?_
 rintro e w2 ⟨rfl,hb2⟩
 have S2:Hid (St W w2 _):=S1.out.call (by first | exact hb2 | (rw [hb2];exact Below.refl _ _))
 clear hb2 c1 f1 z1
 go_wp2_with fail
 rw [h8.out]
 go_wp2
 go_ret
 exact⟨ret1 (by rw [HAV.out]),S2.out.below⟩
theorem each_8 (a b m kh kw sh sw tp lf bt rt:Int) (wa:Option Addr) (lw wc:Nat) (ba:Option Addr) (lb bc:Nat) (sm ss um us z p lo hi u v:Int) (W:World) (hu:I8 u) (hv:I8 v) :
  Calls Tryz.prog 47 #[.agg #[U i6 8,U i6 a,U i6 b,U i6 m,U i6 kh,U i6 kw,U i6 sh,U i6 sw,U i6 tp,U i6 lf,U i6 bt,U i6 rt,Sl wa lw wc,Sl ba lb bc,U i6 sm,U i6 ss,U i6 um,U i6 us,U i6 z,U i6 p,U i6 lo,U i6 hi],.int .i8 u,.int .i8 v] W fun e w'=>e=.returned (.int .i8 (eaV 8 sm ss um us z lo hi u v))∧Below W.heap.size W w':=by
 have s0:=(St.start W).new (c:=#[U i6 8,U i6 a,U i6 b,U i6 m,U i6 kh,U i6 kw,U i6 sh,U i6 sw,U i6 tp,U i6 lf,U i6 bt,U i6 rt,Sl wa lw wc,Sl ba lb bc,U i6 sm,U i6 ss,U i6 um,U i6 us,U i6 z,U i6 p,U i6 lo,U i6 hi]) (t:=55)
 have S0:Hid (St W _ _):=s0
 have ba1:=apV_i8 (m:=sm) (s:=ss) hu
 have bb1:=apV_i8 (m:=um) (s:=us) hv
 obtain⟨u1,u2⟩:=hu
 obtain⟨v1,v2⟩:=hv
 unfold eaV
 simp only [Int.reduceEq,if_true,if_false]
 have h8:Hid (∀ x,IntKind.i8.wrap (Fx.fiV x z lo hi)=Fx.fiV x z lo hi):=fun x=>i8w fiV_i8
 clear s0
 obtain⟨c1,f1,z1,-⟩:=S0.out.rules
 go_enter Tryz.func47,Tryz.ntmps47
 go_wp2_with fail
 refine (Fx.reffinish_any _ z lo hi _).mono ?_
 rintro e w2 ⟨rfl,hb2⟩
 have S2:Hid (St W w2 _):=S0.out.call (by first | exact hb2 | (rw [hb2];exact Below.refl _ _))
 clear hb2 c1 f1 z1
 go_wp2_with fail
 rw [h8.out]
 go_wp2
 go_ret
 exact⟨rfl,S2.out.below⟩
theorem each_any (k a b m kh kw sh sw tp lf bt rt:Int) (wa:Option Addr) (lw wc:Nat) (ba:Option Addr) (lb bc:Nat) (sm ss um us z p lo hi:Int) (u v:Int) (W:World) (hk:6≤k∧k≤8) (hu:I8 u) (hv:I8 v) :
  Calls Tryz.prog 47 #[.agg #[U i6 k,U i6 a,U i6 b,U i6 m,U i6 kh,U i6 kw,U i6 sh,U i6 sw,U i6 tp,U i6 lf,U i6 bt,U i6 rt,Sl wa lw wc,Sl ba lb bc,U i6 sm,U i6 ss,U i6 um,U i6 us,U i6 z,U i6 p,U i6 lo,U i6 hi],.int .i8 u,.int .i8 v] W fun e w'=>e=.returned (.int .i8 (eaV k sm ss um us z lo hi u v))∧Below W.heap.size W w':=by
 rcases (show k=6∨k=7∨k=8 by omega) with rfl | rfl | rfl
 ·exact each_6 a b m kh kw sh sw tp lf bt rt wa lw wc ba lb bc sm ss um us z p lo hi u v W hu hv
 ·exact each_7 a b m kh kw sh sw tp lf bt rt wa lw wc ba lb bc sm ss um us z p lo hi u v W hu hv
 ·exact each_8 a b m kh kw sh sw tp lf bt rt wa lw wc ba lb bc sm ss um us z p lo hi u v W hu hv
theorem list_cells {w:World} {B:Nat} {cs:Array Value} {T:TypeId} (h:w.heap[B]? = some (.cells cs T (0,0))) {l:List Value} (hl:∀ (q:Nat) (v:Value),l[q]? = some v→cs[q]? = some v):∀ (q:Nat) (v:Value),l[q]? = some v→w.cell? ((⟨B,0,none⟩:Addr).add q)=some v:=fun q v hq=>by
 rw [Addr.add_lit,Nat.zero_add,(cells_at h).1]
 exact hl q v hq
theorem front_get (l r:List Value):∀ (q:Nat) (v:Value),l[q]? = some v→(l++r).toArray[q]? = some v:=fun q v hq=>by
 have:=(List.getElem?_eq_some_iff.1 hq).1
 rw [List.getElem?_toArray,List.getElem?_append_left this]
 exact hq
theorem rlen_any (k a b m kh kw sh sw tp lf bt rt:Int) (wa:Option Addr) (lw wc:Nat) (ba:Option Addr) (lb bc:Nat) (sm ss um us z p lo hi h w c H V C:Int) (W:World) (s:Sit k kh kw sh sw tp lf bt rt h w c H V C lw lb) :
  Calls Tryz.prog 28 #[.agg #[U i6 k,U i6 a,U i6 b,U i6 m,U i6 kh,U i6 kw,U i6 sh,U i6 sw,U i6 tp,U i6 lf,U i6 bt,U i6 rt,Sl wa lw wc,Sl ba lb bc,U i6 sm,U i6 ss,U i6 um,U i6 us,U i6 z,U i6 p,U i6 lo,U i6 hi,U i6 h,U i6 w,U i6 c,U i6 H,U i6 V,U i6 C]] W fun e w'=>e=.returned (U i6 (stR k kh kw h w c))∧Below W.heap.size W w':=by
 have s0:=(St.start W).new (c:=#[U i6 k,U i6 a,U i6 b,U i6 m,U i6 kh,U i6 kw,U i6 sh,U i6 sw,U i6 tp,U i6 lf,U i6 bt,U i6 rt,Sl wa lw wc,Sl ba lb bc,U i6 sm,U i6 ss,U i6 um,U i6 us,U i6 z,U i6 p,U i6 lo,U i6 hi,U i6 h,U i6 w,U i6 c,U i6 H,U i6 V,U i6 C]) (t:=76)
 have hL:Hid (∀ W',_):=fun W'=>length_any k a b m kh kw sh sw tp lf bt rt wa lw wc ba lb bc sm ss um us z p lo hi h w c W' (decide_eq_true s.1) s.2.1 (fun q=>s.2.2.2.2.2.1 (by omega))
 have hC:Hid (∀ q v,[U i6 k,U i6 a,U i6 b,U i6 m,U i6 kh,U i6 kw,U i6 sh,U i6 sw,U i6 tp,U i6 lf,U i6 bt,U i6 rt,Sl wa lw wc,Sl ba lb bc,U i6 sm,U i6 ss,U i6 um,U i6 us,U i6 z,U i6 p,U i6 lo,U i6 hi][q]? = some v→(W.alloc (.cells #[U i6 k,U i6 a,U i6 b,U i6 m,U i6 kh,U i6 kw,U i6 sh,U i6 sw,U i6 tp,U i6 lf,U i6 bt,U i6 rt,Sl wa lw wc,Sl ba lb bc,U i6 sm,U i6 ss,U i6 um,U i6 us,U i6 z,U i6 p,U i6 lo,U i6 hi,U i6 h,U i6 w,U i6 c,U i6 H,U i6 V,U i6 C] 76)).cell? ((⟨W.heap.size,0,none⟩:Addr).add q)=some v):=list_cells (heap_alloc_new W _) (front_get [U i6 k,U i6 a,U i6 b,U i6 m,U i6 kh,U i6 kw,U i6 sh,U i6 sw,U i6 tp,U i6 lf,U i6 bt,U i6 rt,Sl wa lw wc,Sl ba lb bc,U i6 sm,U i6 ss,U i6 um,U i6 us,U i6 z,U i6 p,U i6 lo,U i6 hi] [U i6 h,U i6 w,U i6 c,U i6 H,U i6 V,U i6 C])
 clear s
 go_enter Tryz.func28,Tryz.ntmps28
 go_wp2_with (refine wpList_load_any rfl 55 (.tmp 3) rfl _ rfl [U i6 k,U i6 a,U i6 b,U i6 m,U i6 kh,U i6 kw,U i6 sh,U i6 sw,U i6 tp,U i6 lf,U i6 bt,U i6 rt,Sl wa lw wc,Sl ba lb bc,U i6 sm,U i6 ss,U i6 um,U i6 us,U i6 z,U i6 p,U i6 lo,U i6 hi] _ hC.out Tryz.underlying55 rfl (by kernel_rfl) ?_)
 refine (hL.out _).mono ?_
 rintro e w1 ⟨rfl,hb⟩
 have s1:=s0.call hb
 clear hb
 go_wp2
 go_ret
 exact⟨rfl,s1.below⟩
theorem rpos_any (k a b m kh kw sh sw tp lf bt rt:Int) (wa:Option Addr) (lw wc:Nat) (ba:Option Addr) (lb bc:Nat) (sm ss um us z p lo hi h w c H V C:Int) (W:World) (g:vS H V C=true) :
  Calls Tryz.prog 23 #[.agg #[U i6 k,U i6 a,U i6 b,U i6 m,U i6 kh,U i6 kw,U i6 sh,U i6 sw,U i6 tp,U i6 lf,U i6 bt,U i6 rt,Sl wa lw wc,Sl ba lb bc,U i6 sm,U i6 ss,U i6 um,U i6 us,U i6 z,U i6 p,U i6 lo,U i6 hi,U i6 h,U i6 w,U i6 c,U i6 H,U i6 V,U i6 C]] W fun e w'=>e=.returned (U i6 (H*V))∧Below W.heap.size W w':=by
 have s0:=(St.start W).new (c:=#[U i6 k,U i6 a,U i6 b,U i6 m,U i6 kh,U i6 kw,U i6 sh,U i6 sw,U i6 tp,U i6 lf,U i6 bt,U i6 rt,Sl wa lw wc,Sl ba lb bc,U i6 sm,U i6 ss,U i6 um,U i6 us,U i6 z,U i6 p,U i6 lo,U i6 hi,U i6 h,U i6 w,U i6 c,U i6 H,U i6 V,U i6 C]) (t:=76)
 have p3:=vS_bd g
 clear g
 go_enter Tryz.func23,Tryz.ntmps23
 go_wp2
 go_ret
 exact⟨rfl,s0.below⟩
theorem rbias_any (k a b m kh kw sh sw tp lf bt rt:Int) (wa:Option Addr) (lw wc:Nat) (ba:Option Addr) (lb bc:Nat) (sm ss um us z p lo hi h w c H V C:Int) (W:World) (bs:List Int) (hB:IRow .i32 W ba lb bc bs) (s:Sit k kh kw sh sw tp lf bt rt h w c H V C lw lb) (ch:Int) (hc:1≤ch∧ch≤C) :
  Calls Tryz.prog 26 #[.agg #[U i6 k,U i6 a,U i6 b,U i6 m,U i6 kh,U i6 kw,U i6 sh,U i6 sw,U i6 tp,U i6 lf,U i6 bt,U i6 rt,Sl wa lw wc,Sl ba lb bc,U i6 sm,U i6 ss,U i6 um,U i6 us,U i6 z,U i6 p,U i6 lo,U i6 hi,U i6 h,U i6 w,U i6 c,U i6 H,U i6 V,U i6 C],U i6 ch] W fun e w'=>e=.returned (U i6 (biA k ch bs))∧Below W.heap.size W w':=by
 have s0:=(St.start W).new (c:=#[U i6 k,U i6 a,U i6 b,U i6 m,U i6 kh,U i6 kw,U i6 sh,U i6 sw,U i6 tp,U i6 lf,U i6 bt,U i6 rt,Sl wa lw wc,Sl ba lb bc,U i6 sm,U i6 ss,U i6 um,U i6 us,U i6 z,U i6 p,U i6 lo,U i6 hi,U i6 h,U i6 w,U i6 c,U i6 H,U i6 V,U i6 C]) (t:=76)
 obtain⟨hk,-,hv,-,-,-,hl,-⟩:=s
 have hC:=(vS_yes hv).2.2.1
 by_cases k4:k=4
 ·subst k4
  rw [show biA 4 ch bs=0 from if_pos rfl]
  go_enter Tryz.func26,Tryz.ntmps26
  go_wp2
  go_ret
  exact⟨rfl,s0.below⟩
 ·rw [show biA k ch bs=bs.getD (ch-1).toNat 0 from if_neg k4]
  have hl2:=(hl (by omega)).2
  obtain⟨n,rfl⟩:∃ n:Nat,ch=(n:Int)+1:=⟨(ch-1).toNat,by omega⟩
  have hm:=hB.2.2.1
  have hcc:=hB.2.1
  unfold maxLen at hm
  obtain⟨x,u,rfl,hu,hwf,hz,-⟩:=(hB.below s0.below).at (show n<lb by omega)
  obtain⟨u1,u2⟩:=wf_i32 hwf
  have e:bs.getD ((n:Int)+1-1).toNat 0=u:=by rw [show ((n:Int)+1-1).toNat=n by omega,List.getD_eq_getElem?_getD,hz];rfl
  rw [e]
  have k4':(k == 4)=false:=by simp [k4]
  have HB:Hid (Below W.heap.size W _):=s0.below
  obtain⟨c1,f1,z1,-⟩:=s0.rules
  clear e hz hwf hB hl
  go_enter Tryz.func26,Tryz.ntmps26
  go_wp2
  go_ret
  exact⟨rfl,HB.out⟩
theorem rwei_any (k a b m kh kw sh sw tp lf bt rt:Int) (wa:Option Addr) (lw wc:Nat) (ba:Option Addr) (lb bc:Nat) (sm ss um us z p lo hi h w c H V C:Int) (W:World) (zs:List Int) (hZ:IRow .i16 W wa lw wc zs) (s:Sit k kh kw sh sw tp lf bt rt h w c H V C lw lb) (ch:Int) (hc:1≤ch∧ch≤C) (i:Nat) (hi0:(i:Int)<stR k kh kw h w c) :
  Calls Tryz.prog 48 #[.agg #[U i6 k,U i6 a,U i6 b,U i6 m,U i6 kh,U i6 kw,U i6 sh,U i6 sw,U i6 tp,U i6 lf,U i6 bt,U i6 rt,Sl wa lw wc,Sl ba lb bc,U i6 sm,U i6 ss,U i6 um,U i6 us,U i6 z,U i6 p,U i6 lo,U i6 hi,U i6 h,U i6 w,U i6 c,U i6 H,U i6 V,U i6 C],U i6 ch,U i6 i] W fun e w'=>e=.returned (U i6 (wgA k ch (stR k kh kw h w c) zs i))∧Below W.heap.size W w':=by
 have hL:Hid (∀ W',Calls Tryz.prog 28 #[.agg #[U i6 k,U i6 a,U i6 b,U i6 m,U i6 kh,U i6 kw,U i6 sh,U i6 sw,U i6 tp,U i6 lf,U i6 bt,U i6 rt,Sl wa lw wc,Sl ba lb bc,U i6 sm,U i6 ss,U i6 um,U i6 us,U i6 z,U i6 p,U i6 lo,U i6 hi,U i6 h,U i6 w,U i6 c,U i6 H,U i6 V,U i6 C]] W' fun e w'=>e=.returned (U i6 (stR k kh kw h w c))∧Below W'.heap.size W' w'):=fun W'=>rlen_any k a b m kh kw sh sw tp lf bt rt wa lw wc ba lb bc sm ss um us z p lo hi h w c H V C W' s
 have s0:=(St.start W).new (c:=#[U i6 k,U i6 a,U i6 b,U i6 m,U i6 kh,U i6 kw,U i6 sh,U i6 sw,U i6 tp,U i6 lf,U i6 bt,U i6 rt,Sl wa lw wc,Sl ba lb bc,U i6 sm,U i6 ss,U i6 um,U i6 us,U i6 z,U i6 p,U i6 lo,U i6 hi,U i6 h,U i6 w,U i6 c,U i6 H,U i6 V,U i6 C]) (t:=76)
 obtain⟨hk,-,hv,-,-,-,hl,-,hst0,hst1⟩:=s
 have hC:=(vS_yes hv).2.2.1
 obtain⟨st,hst⟩:∃ st,stR k kh kw h w c=st:=⟨_,rfl⟩
 rw [hst] at hL hl hst0 hst1 hi0 ⊢
 clear hst hv
 by_cases k4:k=4
 ·subst k4
  rw [show wgA 4 ch st zs i=1 from if_pos rfl]
  go_enter Tryz.func48,Tryz.ntmps48
  go_wp2
  go_ret
  exact⟨rfl,s0.below⟩
 ·rw [show wgA k ch st zs i=zs.getD ((ch-1)*st+i).toNat 0 from if_neg k4]
  have hl2:=(hl (by omega)).1
  obtain⟨d,rfl⟩:∃ d:Nat,ch=(d:Int)+1:=⟨(ch-1).toNat,by omega⟩
  have hm:=hZ.2.2.1
  have hcc:=hZ.2.1
  unfold maxLen at hm
  have p1:0≤(d:Int)*st:=Int.mul_nonneg (by omega) (by omega)
  have p2:(d:Int)*st+st≤C*st:=by
   have:=Int.mul_le_mul_of_nonneg_right (show (d:Int)+1≤C by omega) (show 0≤st by omega)
   rwa [Int.add_mul,Int.one_mul] at this
  obtain⟨p',ep⟩:∃ p',(d:Int)*st=p':=⟨_,rfl⟩
  rw [show (d:Int)+1-1=d by omega,ep]
  rw [ep] at p1 p2
  rw [← hl2] at p2
  obtain⟨N,eN⟩:∃ N:Nat,p'+(i:Int)=(N:Int):=⟨(p'+i).toNat,by omega⟩
  rw [eN]
  have hN:N<lw:=by omega
  have hZ2:=hZ.below s0.below
  obtain⟨x,u,rfl,hu,hwf,hz,-⟩:=hZ2.at hN
  obtain⟨u1,u2⟩:=wf_i16 hwf
  have e:zs.getD ((N:Int)).toNat 0=u:=by rw [Int.toNat_natCast,List.getD_eq_getElem?_getD,hz];rfl
  rw [e]
  have k4':(k == 4)=false:=by simp [k4]
  have hd1:(d:Int)+1≤1024:=by omega
  have hi2:(i:Int)≤512:=by omega
  have hNl:(N:Int)<(lw:Int):=by omega
  clear e hz hwf hl hl2 hC hc hZ hZ2
  go_enter Tryz.func48,Tryz.ntmps48
  go_upto_region 3 with fail
  obtain⟨wv,hwv⟩:∃ wv,W.alloc (.cells #[U i6 k,U i6 a,U i6 b,U i6 m,U i6 kh,U i6 kw,U i6 sh,U i6 sw,U i6 tp,U i6 lf,U i6 bt,U i6 rt,Sl (some x) lw wc,Sl ba lb bc,U i6 sm,U i6 ss,U i6 um,U i6 us,U i6 z,U i6 p,U i6 lo,U i6 hi,U i6 h,U i6 w,U i6 c,U i6 H,U i6 V,U i6 C] 76)=wv:=⟨_,rfl⟩
  rw [hwv] at s0 hu ⊢
  have hbel:Hid (Below W.heap.size W wv):=s0.below
  have hG:=s0.h1
  have hGz:=lt_of_heap hG
  have hux:Hid ((x.add N).block<wv.heap.size):=World.block_lt_of_cell? _ _ hu
  clear s0 hwv
  refine regionC (fun w'=>Below wv.heap.size wv w') (by kernel_rfl) ?_
  obtain⟨wd,hwd⟩:∃ wd,wv.drew=wd:=⟨_,rfl⟩
  have HD:Hid (Below wv.heap.size wv wd):=by unfold Hid;rw [← hwd];exact (Below.refl _ _).drew
  rw [hwd]
  clear hwd
  refine takeC 0 (v:=.pointer (some ⟨W.heap.size,0,none⟩)) rfl rfl (by kernel_rfl) (by kernel_rfl) (by kernel_rfl) (fun _ _ _ h=>h) (fun _=>rfl) rfl (fun w' hw'=>by go_simp) ?_
  refine takeC 1 (v:=.pointer (some ⟨W.heap.size,12,none⟩)) rfl rfl (by kernel_rfl) (by kernel_rfl) (by kernel_rfl) (fun _ _ _ h=>h) (fun _=>rfl) rfl (fun w' hw'=>by go_simp) ?_
  refine takeC 2 (v:=.slice (some x) lw wc) rfl rfl (by kernel_rfl) (by kernel_rfl) (by kernel_rfl) (fun _ _ _ h=>h) (fun _=>rfl) rfl (fun w' hw'=>by have hc:=(cells_at ((hw'.block _ hGz).trans hG)).1 12;go_simp) ?_
  refine takeC 3 (v:=U i6 ((d:Int)+1)) rfl rfl (by kernel_rfl) (by kernel_rfl) (by kernel_rfl) (fun _ _ _ h=>h) (fun _=>rfl) rfl (fun w' hw'=>by go_simp) ?_
  refine takeC 4 (v:=U i6 (d:Int)) rfl rfl (by kernel_rfl) (by kernel_rfl) (by kernel_rfl) (fun _ _ _ h=>h) (fun _=>rfl) rfl (fun w' hw'=>by go_simp;rw [IntKind.wrap_i64];omega) ?_
  refine takeC 5 (v:=.agg #[U i6 k,U i6 a,U i6 b,U i6 m,U i6 kh,U i6 kw,U i6 sh,U i6 sw,U i6 tp,U i6 lf,U i6 bt,U i6 rt,Sl (some x) lw wc,Sl ba lb bc,U i6 sm,U i6 ss,U i6 um,U i6 us,U i6 z,U i6 p,U i6 lo,U i6 hi,U i6 h,U i6 w,U i6 c,U i6 H,U i6 V,U i6 C]) rfl rfl (by kernel_rfl) (by kernel_rfl) (by kernel_rfl) (fun _ _ _ h=>h) (fun _=>rfl) rfl (fun w' hw'=>run_la 76 (.tmp 3) rfl ⟨W.heap.size,0,none⟩ (by kernel_rfl) [U i6 k,U i6 a,U i6 b,U i6 m,U i6 kh,U i6 kw,U i6 sh,U i6 sw,U i6 tp,U i6 lf,U i6 bt,U i6 rt,Sl (some x) lw wc,Sl ba lb bc,U i6 sm,U i6 ss,U i6 um,U i6 us,U i6 z,U i6 p,U i6 lo,U i6 hi,U i6 h,U i6 w,U i6 c,U i6 H,U i6 V,U i6 C] _ (list_cells ((hw'.block _ hGz).trans hG) (fun q v hq=>by simpa using hq)) Tryz.underlying76 rfl (by kernel_rfl)) ?_
  refine takeC 8 (v:=U i6 (i:Int)) rfl rfl (by kernel_rfl) (by kernel_rfl) (by kernel_rfl) (fun _ _ _ h=>h) (fun _=>rfl) rfl (fun w' hw'=>by go_simp) ?_
  refine stepC 6 HD.out (by kernel_rfl) rfl (fun K hK=>step_wp rfl ?_)
  go_simp
  refine (hL.out _).mono ?_
  rintro e w3 ⟨rfl,hb3⟩
  refine hK _ _ ?_
  clear hK K
  have H3:Hid (Below wv.heap.size wv w3):=HD.out.trans (hb3.mono HD.out.size)
  clear hb3 HD
  refine takeC 7 (v:=U i6 p') rfl rfl (by kernel_rfl) (by kernel_rfl) (by kernel_rfl) (fun _ _ _ h=>h) (fun _=>rfl) rfl (fun w' hw'=>by go_simp;try (rw [IntKind.wrap_i64];omega)) ?_
  refine takeC 9 (v:=U i6 (N:Int)) rfl rfl (by kernel_rfl) (by kernel_rfl) (by kernel_rfl) (fun _ _ _ h=>h) (fun _=>rfl) rfl (fun w' hw'=>by go_simp;try (rw [IntKind.wrap_i64];omega)) ?_
  refine takeC 10 (v:=.pointer (some (x.add N))) rfl rfl (by kernel_rfl) (by kernel_rfl) (by kernel_rfl) (fun _ _ _ h=>h) (fun _=>rfl) rfl (fun w' hw'=>by go_simp) ?_
  refine takeC 11 (v:=.int .i16 u) rfl rfl (by kernel_rfl) (by kernel_rfl) (by kernel_rfl) (fun _ _ _ h=>h) (fun _=>rfl) rfl (fun w' hw'=>by have hc:=(hw'.cell hux.out).trans hu;go_simp) ?_
  refine takeC 12 (v:=U i6 u) rfl rfl (by kernel_rfl) (by kernel_rfl) (by kernel_rfl) (fun _ _ _ h=>h) (fun _=>rfl) rfl (fun w' hw'=>by go_simp;try (rw [IntKind.wrap_i64];omega)) ?_
  refine takeC 13 (v:=U i6 u) rfl rfl (by kernel_rfl) (by kernel_rfl) (by kernel_rfl) (fun _ _ _ h=>h) (fun _=>rfl) rfl (fun w' hw'=>by go_simp) ?_
  refine doneC H3.out (by kernel_rfl) ?_ _
  go_wp2
  go_ret
  exact⟨rfl,hbel.out.trans (H3.out.mono hbel.out.size)⟩
end Go.Proofs.YtehofmkpgopmpaaGreat
