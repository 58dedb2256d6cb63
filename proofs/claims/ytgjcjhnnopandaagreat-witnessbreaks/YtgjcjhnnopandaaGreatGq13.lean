/- Check, Shapes and Work of package model: what each answers. same and front of law08: what each returns. The document's Copy of layer 8: what it returns. What channelOf of package witness makes: a channel of an op alone. What the small functions of package terms return: how many terms, channels and positions an op has; its bias; a weight; the channels that are read; a place. The iterator of Taps: called with whatever round, it gives each tap in its order, till it is told to stop. The iterator of Positions: called with whatever round, it gives each position's row and column in their order, till it is told to stop. -/
import Derived.Test.YtgjcjhnnopandaaGreatGq01
import Derived.Test.YtgjcjhnnopandaaGreatGq02
import Derived.Test.YtgjcjhnnopandaaGreatGq08
import Derived.Test.YtgjcjhnnopandaaGreatGq11
import Derived.Test.YtgjcjhnnopandaaGreatGq12
import Derived.BigQuiet
import Derived.Laws.AppendOwnNone
import Derived.RangeFuncNested
import Derived.RangeFuncBound
import Derived.RangeFuncCalls
import Derived.RangeFuncLeaves
import Derived.Shelf.Abstract
import Derived.Shelf.RegionOpen
import Derived.WalkKit
import Derived.OwnWalkIn
import Derived.TacticsInMore
import Derived.LoopNIn
import Derived.LoopIn
namespace Go.Proofs.YtgjcjhnnopandaaGreat
open Go.Value renaming int → U, slice → Sl
open Go.IntKind renaming i64 → i6
set_option maxRecDepth 100000
set_option maxHeartbeats 16000000
open Go.ChangeShapes Go.WideShapes Go.ChangeAt Go.RowKit
set_option linter.unusedVariables false
theorem Shp.slice {w:World} {base:Nat} {v:Value} {L:List (Int×Int×Int)} (h:Shp w base v L):∃ a cap,v=.slice a L.length cap:=by
 rcases h with ⟨rfl,rfl⟩ | ⟨g,cap,cur,rfl,-⟩
 ·exact⟨_,_,rfl⟩
 ·exact⟨_,_,rfl⟩
theorem Shp.below {w w':World} {base:Nat} {v:Value} {L:List (Int×Int×Int)} (h:Shp w base v L) (q:Below w.heap.size w w'):Shp w' base v L:=by
 rcases h with h | ⟨g,cap,cur,h1,h2,h3,h4⟩
 ·exact .inl h
 ·exact .inr ⟨g,cap,cur,h1,h2,(q.block _ (lt_of_heap h3)).trans h3,h4⟩
theorem Shp.base {w:World} {b c:Nat} {v:Value} {L:List (Int×Int×Int)} (h:Shp w b v L) (q:c≤b):Shp w c v L:=by
 rcases h with h | ⟨g,cap,cur,h1,h2,h3⟩
 ·exact .inl h
 ·exact .inr ⟨g,cap,cur,h1,by omega,h3⟩
theorem Shp.set3 {w:World} {N:Nat} {v a b c:Value} {L:List (Int×Int×Int)} (h:Shp w (N+1) v L):Shp (((w.setCell ⟨N,0,none⟩ a).setCell ⟨N,1,none⟩ b).setCell ⟨N,2,none⟩ c) N v L:=by
 rcases h with h | ⟨g,cap,cur,h1,h2,h3,h4⟩
 ·exact .inl h
 ·refine .inr ⟨g,cap,cur,h1,by omega,?_,h4⟩
  rw [Below.heap_setCell _ _ _ _ (show g≠N by omega),Below.heap_setCell _ _ _ _ (show g≠N by omega),Below.heap_setCell _ _ _ _ (show g≠N by omega)]
  exact h3
theorem shapes_any (h w c lo hi ot:Int) (oa:Option Addr) (on oc:Nat) (O:Nat→Nat→Int) (W:World) (hM:MRow W oa on oc O) :
  Calls Tryz.prog 54 #[.agg #[U i6 h,U i6 w,U i6 c,U i6 lo,U i6 hi,Sl oa on oc,U i6 ot]] W fun e w'=>∃ v,e=.returned (.tuple #[v,.agg #[U i6 (gtR O h w c lo hi ot on).1,U i6 (gtR O h w c lo hi ot on).2.1,U i6 0]])∧Shp w' W.heap.size v (gtR O h w c lo hi ot on).2.2.1∧Below W.heap.size W w':=by
 have hG:Hid (∀ W,MRow W oa on oc O→_):=fun W hW=>gothrough_any h w c lo hi ot oa on oc O W hW
 obtain⟨Re,Ra,RL,Rw,hR⟩:∃ Re Ra RL Rw,gtR O h w c lo hi ot on=(Re,Ra,RL,Rw):=⟨_,_,_,_,rfl⟩
 rw [hR] at hG ⊢
 simp only
 have hM2:Hid (MRow W oa on oc O):=hM
 clear hR hM
 go_enter Tryz.func54,Tryz.ntmps54
 go_wp2_with fail
 refine Calls.mono (hG.out _ (hM2.out.below (St.start W).new.new.below)) ?_
 rintro e w1 ⟨v,rfl,hS,hb⟩
 obtain⟨va,vc,rfl⟩:=hS.slice
 have s1:=((St.start W).new.new).call hb
 simp only [World.size_alloc] at s1
 obtain⟨c1,f1,z1,c2,f2,z2,-⟩:=s1.rules
 have hS2:Hid (Shp w1 W.heap.size (.slice va RL.length vc) RL):=hS.base (by simp;omega)
 have hs1:Hid (Below W.heap.size W w1):=s1.below
 have hlt:Hid (∀ g,W.heap.size+1+1≤g→g≠W.heap.size+1):=fun g hg=>by omega
 have hS3:Hid (Shp w1 (W.heap.size+1+1) (.slice va RL.length vc) RL):=by unfold Hid;simpa using hS
 clear hb hS s1
 go_wp2
 go_region_law (fail)
 all_goals
  go_wp2
  exact bodyPost_ret (v:=.tuple #[Sl va RL.length vc,.agg #[U i6 Re,U i6 Ra,U i6 0]]) (by simp [results,Tryz.results54,go_sem, *]) rfl ⟨_,rfl,(by first | exact ((hS3.out.set3).below (bt (bal _ _) (bal _ _))).base (by omega) | exact ((hS3.out.set3).below (bt (bt (bal _ _) (bal _ _)) (Below.refl _ _).drew)).base (by omega)),(by first | exact al2b (set3b hs1.out (by omega)) _ _ | exact (al2b (set3b hs1.out (by omega)) _ _).drew)⟩
def SV (w:World) (v:Value) (L:List (Int×Int×Int)):Prop :=
 ∃ a cap,v=.slice a L.length cap∧L.length≤cap∧cap≤maxLen∧(0<L.length→∃ g,a=some ⟨g,0,none⟩∧∀ i,i<L.length →
  w.cell? ⟨g,i*3,none⟩=some (U i6 (L.getD i (0,0,0)).1)∧w.cell? ⟨g,i*3+1,none⟩=some (U i6 (L.getD i (0,0,0)).2.1)∧w.cell? ⟨g,i*3+2,none⟩=some (U i6 (L.getD i (0,0,0)).2.2))
theorem SV.below {w w':World} {v:Value} {L:List (Int×Int×Int)} (h:SV w v L) (q:Below w.heap.size w w'):SV w' v L:=by
 obtain⟨a,cap,h1,h2,h3,h4⟩:=h
 refine⟨a,cap,h1,h2,h3,fun h0=>?_⟩
 obtain⟨g,e,hc⟩:=h4 h0
 refine⟨g,e,fun i hi=>?_⟩
 obtain⟨c1,c2,c3⟩:=hc i hi
 exact⟨(q.cell (World.block_lt_of_cell? w _ c1)).trans c1,(q.cell (World.block_lt_of_cell? w _ c2)).trans c2,(q.cell (World.block_lt_of_cell? w _ c3)).trans c3⟩
theorem sv_cu {w:World} {g cap:Nat} {cur:Array Value} {T:TypeId} {L M:List (Int×Int×Int)} (h:w.heap[g]? = some (.cells cur T (0,0))) (hC:Cu cur cap L) (hm:cap≤maxLen) (n:Nat) (hn:n≤L.length) (hM:M=L.take n):SV w (.slice (some ⟨g,0,none⟩) n cap) M:=by
 have hl:M.length=n:=by rw [hM,List.length_take];omega
 have hc:=hC.2.1
 refine⟨some ⟨g,0,none⟩,cap,by rw [hl],by omega,hm,fun _=>⟨g,rfl,fun i hi=>?_⟩⟩
 obtain⟨a1,a2,a3⟩:=hC.at (i:=i) (by omega)
 have e:M.getD i (0,0,0)=L.getD i (0,0,0):=by rw [hM];simp [List.getD,show i<n by omega]
 rw [e]
 simp only [(cells_at h).1]
 exact⟨a1,a2,a3⟩
theorem Shp.sv {w:World} {base:Nat} {v:Value} {L:List (Int×Int×Int)} (h:Shp w base v L):SV w v L:=by
 rcases h with ⟨rfl,rfl⟩ | ⟨g,cap,cur,rfl,h2,h3,h4,h5⟩
 ·exact⟨none,0,rfl,Nat.le_refl _,by unfold maxLen;omega,fun h=>by cases h⟩
 ·exact sv_cu h3 h4 (by unfold maxLen;omega) L.length (Nat.le_refl _) (by simp)
def mc (w:World) (x:Addr) (n:Nat):List Value:=(List.range n).map fun q=>(w.cell? (x.add q)).getD (.bool false)
theorem opl_len (o:Nat→Int) (wa:Option Addr) (lw cw:Nat) (ba:Option Addr) (lb cb:Nat):(opl o wa lw cw ba lb cb).length=22:=rfl
theorem opl_one (o:Nat→Int) (wa:Option Addr) (lw cw:Nat) (ba:Option Addr) (lb cb:Nat):∀ v∈opl o wa lw cw ba lb cb,v.oneCell'=true:=by simp [opl,Value.oneCell']
theorem MRow.cell {w:World} {x:Addr} {on oc:Nat} {O:Nat→Nat→Int} (h:MRow w (some x) on oc O) {q:Nat} (hq:q<on*22):∃ v,w.cell? (x.add q)=some v∧v.oneCell'=true:=by
 obtain⟨wa,lw,cw,ba,lb,cb,-,-,h3⟩:=h.2.2.2 x rfl (q / 22) (by omega)
 have hj:q % 22<(opl (O (q / 22)) wa lw cw ba lb cb).length:=by rw [opl_len];omega
 have:=h3 (q % 22) _ (List.getElem?_eq_getElem hj)
 rw [show q / 22*22+q % 22=q by omega] at this
 exact⟨_,this,opl_one _ _ _ _ _ _ _ _ (List.getElem_mem hj)⟩
theorem MRow.heap {w w':World} {g k cap:Nat} {O:Nat→Nat→Int} (h:MRow w (some ⟨g,0,none⟩) k cap O) (e:w'.heap[g]? = w.heap[g]?):MRow w' (some ⟨g,0,none⟩) k cap O :=
 ⟨h.1,h.2.1,h.2.2.1,fun x hx i hi=>by
  obtain⟨wa,lw,cw,ba,lb,cb,h1,h2,h3⟩:=h.2.2.2 x hx i hi
  exact⟨wa,lw,cw,ba,lb,cb,h1,h2,fun j v hj=>(World.cell?_of_block (by rw [add_block];cases hx;exact e)).trans (h3 j v hj)⟩⟩
theorem Own.grown {k:IntKind} {T:TypeId} {w w':World} {base:Nat} {v:Value} {zs:List Int} {row:Option Nat} (h:Own k T w base v zs) (q:w.grownBy w' row) (hne:∀ b,row=some b→∀ c,w.heap[b]?≠some (.cells c T (0,0))):Own k T w' base v zs:=by
 refine⟨h.1.kept q ?_,h.2⟩
 rcases h.shape with ⟨rfl,_⟩ | ⟨g,cap,rfl,-,-,-,-,⟨cur,hc,-⟩,-⟩
 ·exact .inl rfl
 ·exact .inr (fun e=>hne g e.symm cur hc)
theorem Own.irow {k:IntKind} {T:TypeId} {w:World} {base n cap:Nat} {a:Option Addr} {zs:List Int} (h:Own k T w base (.slice a n cap) zs):IRow k w a n cap zs:=by
 obtain⟨a',c',e,r,-⟩:=h.row
 obtain rfl:=h.len
 cases e
 exact r
def COp (w:World) (base:Nat) (xs:List Value) (q:Nat) (o:Nat→Int) (z b:List Int):Prop :=
 ∃ (wa:Option Addr) (lw cw:Nat) (ba:Option Addr) (lb cb:Nat),o 12=(lw:Int)∧o 13=(lb:Int)∧(∀ j u,(opl o wa lw cw ba lb cb)[j]? = some u→xs[q*22+j]? = some u)∧Own .i16 110 w base (.slice wa lw cw) z∧Own .i32 21 w base (.slice ba lb cb) b∧lw*2≤140737488351232∧lb*4≤140737488351232
def CRow (w:World) (base:Nat) (v:Value) (i:Nat) (O:Nat→Nat→Int) (Z B:Nat→List Int):Prop :=
 ∃ xs,w.ownsRow base 44 22 v i xs∧∀ q,q<i→COp w base xs q (O q) (Z q) (B q)
theorem COp.grown {w w':World} {base:Nat} {xs ys:List Value} {q:Nat} {o:Nat→Int} {z b:List Int} {row:Option Nat} (h:COp w base xs q o z b) (g:w.grownBy w' row) (hne:∀ b,row=some b→∃ c,w.heap[b]? = some (.cells c 44 (0,0))):COp w' base (xs++ys) q o z b:=by
 obtain⟨wa,lw,cw,ba,lb,cb,h1,h2,h3,h4,h5,h6⟩:=h
 have ne:∀ T,T≠44→∀ b,row=some b→∀ c,w.heap[b]?≠some (.cells c T (0,0)):=fun T hT b hb c e=>by
  obtain⟨d,hd⟩:=hne b hb
  rw [hd] at e
  simp only [Option.some.injEq,Obj.cells.injEq] at e
  exact hT e.2.1.symm
 exact⟨wa,lw,cw,ba,lb,cb,h1,h2,fun j u hj=>List.getElem?_append_left (List.getElem?_eq_some_iff.1 (h3 j u hj)).1 |>.trans (h3 j u hj),h4.grown g (ne _ (by decide)),h5.grown g (ne _ (by decide)),h6⟩
theorem COp.below {w w':World} {base:Nat} {xs:List Value} {q:Nat} {o:Nat→Int} {z b:List Int} (h:COp w base xs q o z b) (g:Below w.heap.size w w'):COp w' base xs q o z b:=by
 obtain⟨wa,lw,cw,ba,lb,cb,h1,h2,h3,h4,h5,h6⟩:=h
 exact⟨wa,lw,cw,ba,lb,cb,h1,h2,h3,h4.below g,h5.below g,h6⟩
theorem CRow.below {w w':World} {base:Nat} {v:Value} {i:Nat} {O:Nat→Nat→Int} {Z B:Nat→List Int} (h:CRow w base v i O Z B) (g:Below w.heap.size w w'):CRow w' base v i O Z B:=by
 obtain⟨xs,h1,h2⟩:=h
 refine⟨xs,h1.kept (row:=none) ⟨g.os,g.tape,g.output,g.size,fun i hi _=>g.block i hi⟩ ?_,fun q hq=>(h2 q hq).below g⟩
 cases e:v.ownBlock with
 | none=>exact .inl rfl
 | some b=>exact .inr (by simp)
theorem CRow.slice {w:World} {base:Nat} {v:Value} {i:Nat} {O:Nat→Nat→Int} {Z B:Nat→List Int} (h:CRow w base v i O Z B):∃ a cap,v=.slice a i cap:=by
 obtain⟨xs,h1,-⟩:=h
 rcases h1.2 with ⟨rfl,rfl⟩ | ⟨g,cap,cur,rfl,-⟩
 ·exact⟨_,_,rfl⟩
 ·exact⟨_,_,rfl⟩
theorem CRow.nil (w:World) (base:Nat) (O:Nat→Nat→Int) (Z B:Nat→List Int):CRow w base (.slice none 0 0) 0 O Z B:=⟨[],World.ownsRow_nil _ _ _ _,fun q hq=>by omega⟩
theorem CRow.l {w:World} {base i:Nat} {a:Option Addr} {cap:Nat} {O:Nat→Nat→Int} {Z B:Nat→List Int} (h:CRow w base (.slice a i cap) i O Z B):LRow w a i cap O Z B:=by
 obtain⟨xs,h1,h2⟩:=h
 rcases h1.2 with ⟨e,e0⟩ | ⟨g,cap',cur,e,hb,hg,hn,hm,hs,ht⟩
 ·cases e
  exact⟨Nat.le_refl _,by unfold maxLen;omega,fun _=>rfl,fun x hx=>by cases hx⟩
 ·cases e
  refine⟨hn,hm,fun q=>(by cases q),fun x hx q hq=>?_⟩
  cases hx
  obtain⟨wa,lw,cw,ba,lb,cb,e1,e2,e3,e4,e5,e6⟩:=h2 q hq
  exact⟨wa,lw,cw,ba,lb,cb,e1,e2,fun j u hj=>by rw [Addr.add_add];exact h1.cells rfl _ _ (e3 j u hj),e4.irow,e5.irow,e6⟩
theorem St.seti {w0 w:World} {B i:Nat} {c:Array Value} {t:TypeId} {l:List (Nat×Array Value×TypeId)} {v:Value} (h:St w0 w ((B,c,t) :: l)) (hl:∀ x∈l,x.1≠B) (d:Array Value) (hd:c.setIfInBounds i v=d) :
  St w0 (w.setCell ⟨B,i,none⟩ v) ((B,d,t) :: l):=by subst hd;exact h.set hl
theorem CRow.other {w w':World} {base:Nat} {v:Value} {i:Nat} {O:Nat→Nat→Int} {Z B:Nat→List Int} (h:CRow w base v i O Z B) (q:∀ (g:Nat) (c:Array Value) (t:TypeId),t≠26→w.heap[g]? = some (.cells c t (0,0))→w'.heap[g]? = some (.cells c t (0,0))):CRow w' base v i O Z B:=by
 obtain⟨xs,h1,h2⟩:=h
 refine⟨xs,owns_other h1 (fun g c=>q g c _ (by decide)),fun r hr=>?_⟩
 obtain⟨wa,lw,cw,ba,lb,cb,e1,e2,e3,e4,e5,e6⟩:=h2 r hr
 exact⟨wa,lw,cw,ba,lb,cb,e1,e2,e3,⟨owns_other e4.1 (fun g c=>q g c _ (by decide)),e4.2⟩,⟨owns_other e5.1 (fun g c=>q g c _ (by decide)),e5.2⟩,e6⟩
theorem LRow.at {w:World} {oa:Option Addr} {on oc:Nat} {O:Nat→Nat→Int} {Z B:Nat→List Int} (h:LRow w oa on oc O Z B) {i:Nat} (hi:i<on):∃ x,oa=some x∧LOp w (x.add (i*22)) (O i) (Z i) (B i):=by
 cases oa with
 | none=>have:=h.2.2.1 rfl;have:=h.1;omega
 | some x=>exact⟨x,rfl,h.2.2.2 x rfl i hi⟩
theorem grown_set (w:World) (N i:Nat) (v:Value):w.grownBy (w.setCell ⟨N,i,none⟩ v) (some N):=⟨rfl,rfl,rfl,by simp,fun k _ hk=>Below.heap_setCell w ⟨N,i,none⟩ v k (fun e=>hk (by rw [e]))⟩
theorem CRow.add {w w':World} {base:Nat} {v v':Value} {i:Nat} {O:Nat→Nat→Int} {Z B:Nat→List Int} {wa ba:Option Addr} {lw cw lb cb:Nat} (h:CRow w base v i O Z B) (g:w.grownBy w' v.ownBlock) (h12:O i 12=(lw:Int)) (h13:O i 13=(lb:Int))
  (hz:Own .i16 110 w base (.slice wa lw cw) (Z i)) (hb:Own .i32 21 w base (.slice ba lb cb) (B i)) (r1:lw*2≤140737488351232) (r2:lb*4≤140737488351232) (xs:List Value) (hxs:w.ownsRow base 44 22 v i xs) (hall:∀ q,q<i→COp w base xs q (O q) (Z q) (B q))
  (hown:w'.ownsRow base 44 22 v' (i+1) (xs++opl (O i) wa lw cw ba lb cb)):CRow w' base v' (i+1) O Z B:=by
 have ty:∀ b,v.ownBlock=some b→∃ c,w.heap[b]? = some (.cells c 44 (0,0)):=fun b hb=>by
  rcases hxs.2 with ⟨rfl,-⟩ | ⟨f,cap,cur,rfl,-,h3,-⟩
  ·simp [Value.ownBlock] at hb
  ·obtain rfl:f=b:=by simpa [Value.ownBlock] using hb
   exact⟨cur,h3⟩
 have ne:∀ T,T≠44→∀ b,v.ownBlock=some b→∀ c,w.heap[b]?≠some (.cells c T (0,0)):=fun T hT b hb c e=>by
  obtain⟨d,hd⟩:=ty b hb
  rw [hd] at e
  simp only [Option.some.injEq,Obj.cells.injEq] at e
  exact hT e.2.1.symm
 refine⟨_,hown,fun q hq=>?_⟩
 by_cases e:q=i
 ·subst e
  refine⟨wa,lw,cw,ba,lb,cb,h12,h13,fun j u hj=>?_,hz.grown g (ne _ (by decide)),hb.grown g (ne _ (by decide)),r1,r2⟩
  rw [List.getElem?_append_right (by rw [hxs.1];omega),hxs.1,show q*22+j-q*22=j by omega]
  exact hj
 ·exact (hall q (by omega)).grown g ty
theorem results_row1 {P:Program} {fn:Func} {p:Tmp} {ty:TypeId} (h:fn.results=#[.cell p ty]) (tmps:Array Value) (w:World) (g:Nat) (t:TypeId) (cs:Array Value) (d:TypeDesc)
  (hp:tmps.getD p undef=.pointer (some ⟨g,0,none⟩)) (hg:w.heap[g]? = some (.cells cs t (0,0)))
  (hu:P.underlying ty=some d) (hd:(match d with | .struct _ | .array _ _=>true | _=>false)=true) (hi:(P.info? ty).map (·.size)=some cs.size) :
  (results fn tmps).run P w=.ok (.agg cs) w:=by
 have e1:tmps[p]?.getD undef=.pointer (some ⟨g,0,none⟩):=by simpa using hp
 simp only [results,h]
 simp [e1,asAddr,run_loadVar_row w g t ty cs (0,0) d hg hu hd hi]
theorem wchan_w (h w c lo hi ot ch slo shi:Int) (x:Addr) (on oc i:Nat) (k a b m kh kw sh sw tp lf bt rt:Int) (wa:Option Addr) (lw cw:Nat) (ba:Option Addr) (lb cb:Nat) (sm ss um us z p l2 h2:Int) (W:World) (hoc:on≤oc) (hom:oc≤9223372036854775807) (hi0:i<on)
  (hcell:∀ q v,[U i6 k,U i6 a,U i6 b,U i6 m,U i6 kh,U i6 kw,U i6 sh,U i6 sw,U i6 tp,U i6 lf,U i6 bt,U i6 rt,Sl wa lw cw,Sl ba lb cb,U i6 sm,U i6 ss,U i6 um,U i6 us,U i6 z,U i6 p,U i6 l2,U i6 h2][q]? = some v→W.cell? ((x.add (i*22)).add q)=some v) (x0 y0 z0 n:Int)
  (HA:Hid (∀ W',Below W.heap.size W W'→Calls Tryz.prog 42 #[.agg #[U i6 h,U i6 w,U i6 c,U i6 lo,U i6 hi,Sl (some x) on oc,U i6 ot],U i6 a] W' fun e w'=>e=.returned (.agg #[U i6 x0,U i6 y0,U i6 z0])∧Below W'.heap.size W' w'))
  (HP:Hid (∀ W' (g0:Nat),Below W.heap.size W W'→W'.heap[g0]? = some (.cells #[U i6 k,U i6 0,U i6 b,U i6 m,U i6 kh,U i6 kw,U i6 sh,U i6 sw,U i6 tp,U i6 lf,U i6 bt,U i6 rt,Sl wa lw cw,Sl ba lb cb,U i6 sm,U i6 ss,U i6 um,U i6 us,U i6 z,U i6 p,U i6 l2,U i6 h2] 44 (0,0))→Calls Tryz.prog 43 #[.agg #[U i6 x0,U i6 y0,U i6 z0,U i6 0,U i6 0,Sl (some ⟨g0,0,none⟩) 1 1,U i6 0],U i6 1] W' fun e w'=>e=.returned (.tuple #[U i6 n,U i6 0])∧Below W'.heap.size W' w')) :
  Calls Tryz.prog 16 #[.agg #[U i6 h,U i6 w,U i6 c,U i6 lo,U i6 hi,Sl (some x) on oc,U i6 ot],U i6 ((i:Int)+1),U i6 ch,.agg #[U i6 slo,U i6 shi]] W fun e w'=>(∃ g0:Nat,e=.returned (.agg #[U i6 ch,U i6 n,U i6 slo,U i6 shi,U i6 x0,U i6 y0,U i6 z0,U i6 0,U i6 0,Sl (some ⟨g0,0,none⟩) 1 1,U i6 0])∧w'.heap[g0]? = some (.cells #[U i6 k,U i6 0,U i6 b,U i6 m,U i6 kh,U i6 kw,U i6 sh,U i6 sw,U i6 tp,U i6 lf,U i6 bt,U i6 rt,Sl wa lw cw,Sl ba lb cb,U i6 sm,U i6 ss,U i6 um,U i6 us,U i6 z,U i6 p,U i6 l2,U i6 h2] 44 (0,0))∧W.heap.size≤g0)∧Below W.heap.size W w':=by
 have Hc:Hid (∀ q v,[U i6 k,U i6 a,U i6 b,U i6 m,U i6 kh,U i6 kw,U i6 sh,U i6 sw,U i6 tp,U i6 lf,U i6 bt,U i6 rt,Sl wa lw cw,Sl ba lb cb,U i6 sm,U i6 ss,U i6 um,U i6 us,U i6 z,U i6 p,U i6 l2,U i6 h2][q]? = some v→W.cell? ((x.add (i*22)).add q)=some v):=hcell
 have s0:=(((St.start W).new (c:=#[U i6 h,U i6 w,U i6 c,U i6 lo,U i6 hi,Sl (some x) on oc,U i6 ot]) (t:=26)).new (c:=#[U i6 slo,U i6 shi]) (t:=28)).new (c:=#[U i6 0,U i6 0,U i6 0,U i6 0,U i6 0,U i6 0,U i6 0,U i6 0,U i6 0,Sl none 0 0,U i6 0]) (t:=63)
 simp only [World.size_alloc] at s0
 have S0:Hid (St W _ _):=s0
 clear s0 hcell
 go_enter Tryz.func16,Tryz.ntmps16
 go_upto_region 1 with fail
 obtain⟨w0,hw0⟩:∃ w0,(((W.alloc (.cells #[U i6 h,U i6 w,U i6 c,U i6 lo,U i6 hi,Sl (some x) on oc,U i6 ot] 26)).alloc (.cells #[U i6 slo,U i6 shi] 28)).alloc (.cells #[U i6 0,U i6 0,U i6 0,U i6 0,U i6 0,U i6 0,U i6 0,U i6 0,U i6 0,Sl none 0 0,U i6 0] 63))=w0:=⟨_,rfl⟩
 rw [hw0] at S0 ⊢
 have HC0:Hid (∀ q v,[U i6 k,U i6 a,U i6 b,U i6 m,U i6 kh,U i6 kw,U i6 sh,U i6 sw,U i6 tp,U i6 lf,U i6 bt,U i6 rt,Sl wa lw cw,Sl ba lb cb,U i6 sm,U i6 ss,U i6 um,U i6 us,U i6 z,U i6 p,U i6 l2,U i6 h2][q]? = some v→w0.cell? ((x.add (i*22)).add q)=some v):=fun q v hq=>(S0.out.below.cell (World.block_lt_of_cell? W _ (Hc.out q v hq))).trans (Hc.out q v hq)
 clear hw0 Hc
 obtain⟨c0,f0,z0',c1,f1,z1,c2,f2,z2,-⟩:=S0.out.rules
 obtain⟨vo,hvo⟩:∃ vo,Value.agg #[U i6 k,U i6 a,U i6 b,U i6 m,U i6 kh,U i6 kw,U i6 sh,U i6 sw,U i6 tp,U i6 lf,U i6 bt,U i6 rt,Sl wa lw cw,Sl ba lb cb,U i6 sm,U i6 ss,U i6 um,U i6 us,U i6 z,U i6 p,U i6 l2,U i6 h2]=vo:=⟨_,rfl⟩
 have HVO:Hid (Value.agg #[U i6 k,U i6 a,U i6 b,U i6 m,U i6 kh,U i6 kw,U i6 sh,U i6 sw,U i6 tp,U i6 lf,U i6 bt,U i6 rt,Sl wa lw cw,Sl ba lb cb,U i6 sm,U i6 ss,U i6 um,U i6 us,U i6 z,U i6 p,U i6 l2,U i6 h2]=vo):=hvo
 have s1:=S0.out.new (c:=#[U i6 k,U i6 a,U i6 b,U i6 m,U i6 kh,U i6 kw,U i6 sh,U i6 sw,U i6 tp,U i6 lf,U i6 bt,U i6 rt,Sl wa lw cw,Sl ba lb cb,U i6 sm,U i6 ss,U i6 um,U i6 us,U i6 z,U i6 p,U i6 l2,U i6 h2]) (t:=44)
 have S1:Hid (St W _ _):=s1
 clear s1
 go_upto_region 2 with ((refine wpList_load_any rfl 44 (.tmp 17) rfl (x.add (i*22)) rfl [U i6 k,U i6 a,U i6 b,U i6 m,U i6 kh,U i6 kw,U i6 sh,U i6 sw,U i6 tp,U i6 lf,U i6 bt,U i6 rt,Sl wa lw cw,Sl ba lb cb,U i6 sm,U i6 ss,U i6 um,U i6 us,U i6 z,U i6 p,U i6 l2,U i6 h2] _ HC0.out Tryz.underlying44 rfl (by kernel_rfl) ?_;(show wpList _ _ _ _ (Act.put _ _ (Value.agg #[U i6 k,U i6 a,U i6 b,U i6 m,U i6 kh,U i6 kw,U i6 sh,U i6 sw,U i6 tp,U i6 lf,U i6 bt,U i6 rt,Sl wa lw cw,Sl ba lb cb,U i6 sm,U i6 ss,U i6 um,U i6 us,U i6 z,U i6 p,U i6 l2,U i6 h2])) _);rw [hvo];clear hvo;refine wtl1 rfl (some 9) rfl (.pointer (some ⟨w0.heap.size,0,none⟩)) (w0.alloc (.cells #[U i6 0,U i6 0,U i6 0,U i6 0,U i6 0,U i6 0,U i6 0,U i6 0,U i6 0,U i6 0,U i6 0,U i6 0,Sl none 0 0,Sl none 0 0,U i6 0,U i6 0,U i6 0,U i6 0,U i6 0,U i6 0,U i6 0,U i6 0] 44)) (by kernel_rfl) ?_;refine wpList_st_new rfl 44 (.tmp 9) (.tmp 18) rfl w0 #[U i6 0,U i6 0,U i6 0,U i6 0,U i6 0,U i6 0,U i6 0,U i6 0,U i6 0,U i6 0,U i6 0,U i6 0,Sl none 0 0,Sl none 0 0,U i6 0,U i6 0,U i6 0,U i6 0,U i6 0,U i6 0,U i6 0,U i6 0] #[U i6 k,U i6 a,U i6 b,U i6 m,U i6 kh,U i6 kw,U i6 sh,U i6 sw,U i6 tp,U i6 lf,U i6 bt,U i6 rt,Sl wa lw cw,Sl ba lb cb,U i6 sm,U i6 ss,U i6 um,U i6 us,U i6 z,U i6 p,U i6 l2,U i6 h2] (by kernel_rfl) (Eq.trans (by kernel_rfl:_=vo) HVO.out.symm) (by kernel_rfl) rfl (by simp [Value.oneCell']) ?_))
 obtain⟨w1,hw1⟩:∃ w1,w0.alloc (.cells #[U i6 k,U i6 a,U i6 b,U i6 m,U i6 kh,U i6 kw,U i6 sh,U i6 sw,U i6 tp,U i6 lf,U i6 bt,U i6 rt,Sl wa lw cw,Sl ba lb cb,U i6 sm,U i6 ss,U i6 um,U i6 us,U i6 z,U i6 p,U i6 l2,U i6 h2] 44)=w1:=⟨_,rfl⟩
 rw [hw1] at S1 ⊢
 obtain⟨B1,hB1⟩:∃ B,w0.heap.size=B:=⟨_,rfl⟩
 rw [hB1] at S1 ⊢
 have hz1:W.heap.size+3≤B1:=by omega
 clear hw1 hB1 c0 f0 z0' c1 f1 z1 c2 f2 z2 S0 HC0
 obtain⟨c0,f0,z0',c1,f1,z1,c2,f2,z2,c3,f3,z3,-⟩:=S1.out.rules
 go_wp2_with fail
 refine Calls.mono (HA.out _ S1.out.below) ?_
 rintro e w2 ⟨rfl,hb⟩
 have S2:Hid (St W _ _):=(S1.out.call hb).new (c:=#[U i6 x0,U i6 y0,U i6 z0,U i6 0,U i6 0,Sl none 0 0,U i6 0]) (t:=26)
 have hz2:=hb.size
 have hz3:=Nat.lt_of_lt_of_le (lt_of_heap S1.out.h1) hz2
 clear hb S1 HA c0 f0 z0' c1 f1 z1 c2 f2 z2 c3 f3 z3
 go_upto_region 3 with fail
 obtain⟨w3,hw3⟩:∃ w3,w2.alloc (.cells #[U i6 x0,U i6 y0,U i6 z0,U i6 0,U i6 0,Sl none 0 0,U i6 0] 26)=w3:=⟨_,rfl⟩
 obtain⟨B2,hB2⟩:∃ B,w2.heap.size=B:=⟨_,rfl⟩
 rw [hw3,hB2] at S2
 rw [hw3,hB2]
 rw [hB2] at hz2 hz3
 clear hw3 hB2
 obtain⟨c0,f0,z0',c1,f1,z1,-⟩:=S2.out.rules
 have S3:Hid (St W (w3.setCell ⟨B1,1,none⟩ (U i6 0)) _):=S2.out.up1.seti (i:=1) (v:=U i6 0) (by simp;omega) #[U i6 k,U i6 0,U i6 b,U i6 m,U i6 kh,U i6 kw,U i6 sh,U i6 sw,U i6 tp,U i6 lf,U i6 bt,U i6 rt,Sl wa lw cw,Sl ba lb cb,U i6 sm,U i6 ss,U i6 um,U i6 us,U i6 z,U i6 p,U i6 l2,U i6 h2] (by kernel_rfl)
 go_upto_region 4 with fail
 obtain⟨w4,hw4⟩:∃ w4,w3.setCell ⟨B1,1,none⟩ (U i6 0)=w4:=⟨_,rfl⟩
 rw [hw4] at S3 ⊢
 clear hw4 S2 c0 f0 z0' c1 f1 z1
 obtain⟨g0,hg0⟩:∃ g0,w4.heap.size=g0:=⟨_,rfl⟩
 have hz4:B2<g0:=by have:=lt_of_heap S3.out.h2;omega
 have S4:=(S3.out.up1.seti (i:=5) (v:=.slice (some ⟨g0,0,none⟩) 1 1) (by simp;omega) #[U i6 x0,U i6 y0,U i6 z0,U i6 0,U i6 0,Sl (some ⟨g0,0,none⟩) 1 1,U i6 0] (by kernel_rfl)).skip (.cells #[U i6 k,U i6 0,U i6 b,U i6 m,U i6 kh,U i6 kw,U i6 sh,U i6 sw,U i6 tp,U i6 lf,U i6 bt,U i6 rt,Sl wa lw cw,Sl ba lb cb,U i6 sm,U i6 ss,U i6 um,U i6 us,U i6 z,U i6 p,U i6 l2,U i6 h2] 44)
 have HC3:Hid (∀ q v,[U i6 k,U i6 0,U i6 b,U i6 m,U i6 kh,U i6 kw,U i6 sh,U i6 sw,U i6 tp,U i6 lf,U i6 bt,U i6 rt,Sl wa lw cw,Sl ba lb cb,U i6 sm,U i6 ss,U i6 um,U i6 us,U i6 z,U i6 p,U i6 l2,U i6 h2][q]? = some v→w4.cell? ((⟨B1,0,none⟩:Addr).add q)=some v):=fun q v hq=>by rw [Addr.add_lit,Nat.zero_add,(cells_at S3.out.h1).1];simpa using hq
 obtain⟨y1,y2,y3⟩:=cells_at S3.out.h2
 go_upto_region 5 with (refine wpList_load_any rfl 44 (.tmp 9) rfl ⟨B1,0,none⟩ rfl [U i6 k,U i6 0,U i6 b,U i6 m,U i6 kh,U i6 kw,U i6 sh,U i6 sw,U i6 tp,U i6 lf,U i6 bt,U i6 rt,Sl wa lw cw,Sl ba lb cb,U i6 sm,U i6 ss,U i6 um,U i6 us,U i6 z,U i6 p,U i6 l2,U i6 h2] _ HC3.out Tryz.underlying44 rfl (by kernel_rfl) ?_)
 obtain⟨w5,hw5⟩:∃ w5,(w4.setCell ⟨B2,5,none⟩ (.slice (some ⟨g0,0,none⟩) 1 1)).alloc (.cells #[U i6 k,U i6 0,U i6 b,U i6 m,U i6 kh,U i6 kw,U i6 sh,U i6 sw,U i6 tp,U i6 lf,U i6 bt,U i6 rt,Sl wa lw cw,Sl ba lb cb,U i6 sm,U i6 ss,U i6 um,U i6 us,U i6 z,U i6 p,U i6 l2,U i6 h2] 44)=w5:=⟨_,rfl⟩
 have hg5:(w4.setCell ⟨B2,5,none⟩ (.slice (some ⟨g0,0,none⟩) 1 1)).heap.size=g0:=by simpa using hg0
 have HG5:Hid (w5.heap[g0]? = some (.cells #[U i6 k,U i6 0,U i6 b,U i6 m,U i6 kh,U i6 kw,U i6 sh,U i6 sw,U i6 tp,U i6 lf,U i6 bt,U i6 rt,Sl wa lw cw,Sl ba lb cb,U i6 sm,U i6 ss,U i6 um,U i6 us,U i6 z,U i6 p,U i6 l2,U i6 h2] 44 (0,0))):=by
  have h7:=heap_alloc_new (w4.setCell ⟨B2,5,none⟩ (.slice (some ⟨g0,0,none⟩) 1 1)) (.cells #[U i6 k,U i6 0,U i6 b,U i6 m,U i6 kh,U i6 kw,U i6 sh,U i6 sw,U i6 tp,U i6 lf,U i6 bt,U i6 rt,Sl wa lw cw,Sl ba lb cb,U i6 sm,U i6 ss,U i6 um,U i6 us,U i6 z,U i6 p,U i6 l2,U i6 h2] 44)
  rw [hg5,hw5] at h7
  exact h7
 rw [hw5] at S4 ⊢
 have S5:Hid (St W _ _):=S4
 clear hw5 S4 S3 HC3 y1 y2 y3 hg5 hg0
 have HC5:=ecells (cs:=[U i6 x0,U i6 y0,U i6 z0,U i6 0,U i6 0,Sl (some ⟨g0,0,none⟩) 1 1,U i6 0]) S5.out.h1
 have HCO:Hid _:=HP.out w5 g0 S5.out.below HG5.out
 clear HP
 go_wp2_with (refine wpList_load_any rfl 26 (.tmp 10) rfl ⟨B2,0,none⟩ rfl [U i6 x0,U i6 y0,U i6 z0,U i6 0,U i6 0,Sl (some ⟨g0,0,none⟩) 1 1,U i6 0] _ HC5 Tryz.underlying26 rfl (by kernel_rfl) ?_)
 refine Calls.mono HCO.out ?_
 rintro e w6 ⟨rfl,hb⟩
 have S6:Hid (St W _ _):=S5.out.call hb
 have HG6:Hid (w6.heap[g0]? = some (.cells #[U i6 k,U i6 0,U i6 b,U i6 m,U i6 kh,U i6 kw,U i6 sh,U i6 sw,U i6 tp,U i6 lf,U i6 bt,U i6 rt,Sl wa lw cw,Sl ba lb cb,U i6 sm,U i6 ss,U i6 um,U i6 us,U i6 z,U i6 p,U i6 l2,U i6 h2] 44 (0,0))):=(hb.block g0 (lt_of_heap HG5.out)).trans HG5.out
 clear hb S5 HG5 HC5 HCO
 have HC6:=ecells (cs:=[U i6 x0,U i6 y0,U i6 z0,U i6 0,U i6 0,Sl (some ⟨g0,0,none⟩) 1 1,U i6 0]) S6.out.h1
 have HC7:=ecells (cs:=[U i6 slo,U i6 shi]) S6.out.tail.tail.tail.h1
 have S7:Hid (St W _ _):=S6.out.tail.tail.row #[U i6 ch,U i6 n,U i6 slo,U i6 shi,U i6 x0,U i6 y0,U i6 z0,U i6 0,U i6 0,Sl (some ⟨g0,0,none⟩) 1 1,U i6 0] (by simp;omega)
 have HG7:Hid ((w6.setRow (W.heap.size+1+1) #[U i6 ch,U i6 n,U i6 slo,U i6 shi,U i6 x0,U i6 y0,U i6 z0,U i6 0,U i6 0,Sl (some ⟨g0,0,none⟩) 1 1,U i6 0]).heap[g0]? = some (.cells #[U i6 k,U i6 0,U i6 b,U i6 m,U i6 kh,U i6 kw,U i6 sh,U i6 sw,U i6 tp,U i6 lf,U i6 bt,U i6 rt,Sl wa lw cw,Sl ba lb cb,U i6 sm,U i6 ss,U i6 um,U i6 us,U i6 z,U i6 p,U i6 l2,U i6 h2] 44 (0,0))):=(setRow_other _ _ _ _ (by omega)).trans HG6.out
 go_wp2_with (first | (refine wpList_load_any rfl 26 (.tmp 10) rfl ⟨B2,0,none⟩ rfl [U i6 x0,U i6 y0,U i6 z0,U i6 0,U i6 0,Sl (some ⟨g0,0,none⟩) 1 1,U i6 0] _ HC6 Tryz.underlying26 rfl (by kernel_rfl) ?_) | (refine wpList_load_any rfl 28 (.tmp 7) rfl ⟨W.heap.size+1,0,none⟩ rfl [U i6 slo,U i6 shi] _ HC7 Tryz.underlying28 rfl (by kernel_rfl) ?_) | (refine wpList_store_row rfl 63 (.tmp 8) (.tmp 37) rfl (W.heap.size+1+1) #[U i6 ch,U i6 n,U i6 slo,U i6 shi,U i6 x0,U i6 y0,U i6 z0,U i6 0,U i6 0,Sl (some ⟨g0,0,none⟩) 1 1,U i6 0] rfl (by kernel_rfl) 63 #[U i6 0,U i6 0,U i6 0,U i6 0,U i6 0,U i6 0,U i6 0,U i6 0,U i6 0,Sl none 0 0,U i6 0] S6.out.tail.tail.h1 (by kernel_rfl) rfl (by simp [Value.oneCell']) ?_))
 exact bodyPost_ret (results_row1 Tryz.results16 _ _ (W.heap.size+1+1) 63 _ _ (by kernel_rfl) S7.out.h1 Tryz.underlying63 rfl (by kernel_rfl)) rfl ⟨⟨g0,rfl,HG7.out,by omega⟩,S7.out.below⟩
theorem Sit.win {k kh kw sh sw tp lf bt rt h w c H V C:Int} {lw lb:Nat} (s:Sit k kh kw sh sw tp lf bt rt h w c H V C lw lb) (q:k≠1):(1≤kh∧kh≤32)∧(1≤kw∧kw≤32):=s.2.2.2.2.2.1 (by have:=s.1;omega)
theorem tlen_1 (a b m kh kw sh sw tp lf bt rt:Int) (wa:Option Addr) (lw wc:Nat) (ba:Option Addr) (lb bc:Nat) (sm ss um us z p lo hi h w c H V C:Int) (r:Nat) (W:World) (hr:W.heap[r]? = some (.cells #[U i6 1,U i6 a,U i6 b,U i6 m,U i6 kh,U i6 kw,U i6 sh,U i6 sw,U i6 tp,U i6 lf,U i6 bt,U i6 rt,Sl wa lw wc,Sl ba lb bc,U i6 sm,U i6 ss,U i6 um,U i6 us,U i6 z,U i6 p,U i6 lo,U i6 hi,U i6 h,U i6 w,U i6 c,U i6 H,U i6 V,U i6 C] 137 (0,0))) (g:vS h w c=true) (hw:(1:Int)≠1→(1≤kh∧kh≤32)∧(1≤kw∧kw≤32)) :
  Calls Tryz.prog 94 #[.pointer (some ⟨r,0,none⟩)] W fun e w'=>e=.returned (U i6 (stR 1 kh kw h w c))∧∃ n,w'=W.drewN n:=by
 have p3:(1≤h*w∧h*w≤1048576)∧(1≤h*w*c∧h*w*c≤16384):=vS_bd g
 have c1:=(vS_yes g).2.2.1
 have hp:(1:Int)≠1→(1≤kh*kw∧kh*kw≤1024)∧(1≤kh*kw*c∧kh*kw*c≤1048576):=fun q=>by
  obtain⟨hw1,hw2⟩:=hw q
  obtain⟨p1,p2⟩:=mul_bd hw1.1 hw1.2 hw2.1 hw2.2
  obtain⟨q1,q2⟩:=mul_bd p1 p2 c1.1 c1.2
  exact⟨⟨p1,by omega⟩,q1,by omega⟩
 rw [show stR 1 kh kw h w c=(if (1:Int)=1 then h*w*c else if (1:Int)=2 then kh*kw*c else kh*kw) from rfl]
 simp at hp ⊢
 obtain⟨p',ep⟩:∃ p',h*w=p':=⟨_,rfl⟩
 obtain⟨q',eq⟩:∃ q',kh*kw=q':=⟨_,rfl⟩
 rw [ep] at p3
 try rw [eq] at hp
 try rw [ep]
 try rw [eq]
 obtain⟨y1,y2,y3⟩:=cells_at hr
 clear g hw c1 hr
 go_enter Tryz.func94,Tryz.ntmps94
 go_wp2
 go_quiet (fail)
 go_wp2
 go_ret
 exact⟨rfl,_,rfl⟩
theorem tlen_2 (a b m kh kw sh sw tp lf bt rt:Int) (wa:Option Addr) (lw wc:Nat) (ba:Option Addr) (lb bc:Nat) (sm ss um us z p lo hi h w c H V C:Int) (r:Nat) (W:World) (hr:W.heap[r]? = some (.cells #[U i6 2,U i6 a,U i6 b,U i6 m,U i6 kh,U i6 kw,U i6 sh,U i6 sw,U i6 tp,U i6 lf,U i6 bt,U i6 rt,Sl wa lw wc,Sl ba lb bc,U i6 sm,U i6 ss,U i6 um,U i6 us,U i6 z,U i6 p,U i6 lo,U i6 hi,U i6 h,U i6 w,U i6 c,U i6 H,U i6 V,U i6 C] 137 (0,0))) (g:vS h w c=true) (hw:(2:Int)≠1→(1≤kh∧kh≤32)∧(1≤kw∧kw≤32)) :
  Calls Tryz.prog 94 #[.pointer (some ⟨r,0,none⟩)] W fun e w'=>e=.returned (U i6 (stR 2 kh kw h w c))∧∃ n,w'=W.drewN n:=by
 have p3:(1≤h*w∧h*w≤1048576)∧(1≤h*w*c∧h*w*c≤16384):=vS_bd g
 have c1:=(vS_yes g).2.2.1
 have hp:(2:Int)≠1→(1≤kh*kw∧kh*kw≤1024)∧(1≤kh*kw*c∧kh*kw*c≤1048576):=fun q=>by
  obtain⟨hw1,hw2⟩:=hw q
  obtain⟨p1,p2⟩:=mul_bd hw1.1 hw1.2 hw2.1 hw2.2
  obtain⟨q1,q2⟩:=mul_bd p1 p2 c1.1 c1.2
  exact⟨⟨p1,by omega⟩,q1,by omega⟩
 rw [show stR 2 kh kw h w c=(if (2:Int)=1 then h*w*c else if (2:Int)=2 then kh*kw*c else kh*kw) from rfl]
 simp at hp ⊢
 obtain⟨p',ep⟩:∃ p',h*w=p':=⟨_,rfl⟩
 obtain⟨q',eq⟩:∃ q',kh*kw=q':=⟨_,rfl⟩
 rw [ep] at p3
 try rw [eq] at hp
 try rw [ep]
 try rw [eq]
 obtain⟨y1,y2,y3⟩:=cells_at hr
 clear g hw c1 hr
 go_enter Tryz.func94,Tryz.ntmps94
 go_wp2
 go_quiet (fail)
 go_wp2
 go_ret
 exact⟨rfl,_,rfl⟩
theorem tlen_3 (a b m kh kw sh sw tp lf bt rt:Int) (wa:Option Addr) (lw wc:Nat) (ba:Option Addr) (lb bc:Nat) (sm ss um us z p lo hi h w c H V C:Int) (r:Nat) (W:World) (hr:W.heap[r]? = some (.cells #[U i6 3,U i6 a,U i6 b,U i6 m,U i6 kh,U i6 kw,U i6 sh,U i6 sw,U i6 tp,U i6 lf,U i6 bt,U i6 rt,Sl wa lw wc,Sl ba lb bc,U i6 sm,U i6 ss,U i6 um,U i6 us,U i6 z,U i6 p,U i6 lo,U i6 hi,U i6 h,U i6 w,U i6 c,U i6 H,U i6 V,U i6 C] 137 (0,0))) (g:vS h w c=true) (hw:(3:Int)≠1→(1≤kh∧kh≤32)∧(1≤kw∧kw≤32)) :
  Calls Tryz.prog 94 #[.pointer (some ⟨r,0,none⟩)] W fun e w'=>e=.returned (U i6 (stR 3 kh kw h w c))∧∃ n,w'=W.drewN n:=by
 have p3:(1≤h*w∧h*w≤1048576)∧(1≤h*w*c∧h*w*c≤16384):=vS_bd g
 have c1:=(vS_yes g).2.2.1
 have hp:(3:Int)≠1→(1≤kh*kw∧kh*kw≤1024)∧(1≤kh*kw*c∧kh*kw*c≤1048576):=fun q=>by
  obtain⟨hw1,hw2⟩:=hw q
  obtain⟨p1,p2⟩:=mul_bd hw1.1 hw1.2 hw2.1 hw2.2
  obtain⟨q1,q2⟩:=mul_bd p1 p2 c1.1 c1.2
  exact⟨⟨p1,by omega⟩,q1,by omega⟩
 rw [show stR 3 kh kw h w c=(if (3:Int)=1 then h*w*c else if (3:Int)=2 then kh*kw*c else kh*kw) from rfl]
 simp at hp ⊢
 obtain⟨p',ep⟩:∃ p',h*w=p':=⟨_,rfl⟩
 obtain⟨q',eq⟩:∃ q',kh*kw=q':=⟨_,rfl⟩
 rw [ep] at p3
 try rw [eq] at hp
 try rw [ep]
 try rw [eq]
 obtain⟨y1,y2,y3⟩:=cells_at hr
 clear g hw c1 hr
 go_enter Tryz.func94,Tryz.ntmps94
 go_wp2
 go_quiet (fail)
 go_wp2
 go_ret
 exact⟨rfl,_,rfl⟩
theorem tlen_4 (a b m kh kw sh sw tp lf bt rt:Int) (wa:Option Addr) (lw wc:Nat) (ba:Option Addr) (lb bc:Nat) (sm ss um us z p lo hi h w c H V C:Int) (r:Nat) (W:World) (hr:W.heap[r]? = some (.cells #[U i6 4,U i6 a,U i6 b,U i6 m,U i6 kh,U i6 kw,U i6 sh,U i6 sw,U i6 tp,U i6 lf,U i6 bt,U i6 rt,Sl wa lw wc,Sl ba lb bc,U i6 sm,U i6 ss,U i6 um,U i6 us,U i6 z,U i6 p,U i6 lo,U i6 hi,U i6 h,U i6 w,U i6 c,U i6 H,U i6 V,U i6 C] 137 (0,0))) (g:vS h w c=true) (hw:(4:Int)≠1→(1≤kh∧kh≤32)∧(1≤kw∧kw≤32)) :
  Calls Tryz.prog 94 #[.pointer (some ⟨r,0,none⟩)] W fun e w'=>e=.returned (U i6 (stR 4 kh kw h w c))∧∃ n,w'=W.drewN n:=by
 have p3:(1≤h*w∧h*w≤1048576)∧(1≤h*w*c∧h*w*c≤16384):=vS_bd g
 have c1:=(vS_yes g).2.2.1
 have hp:(4:Int)≠1→(1≤kh*kw∧kh*kw≤1024)∧(1≤kh*kw*c∧kh*kw*c≤1048576):=fun q=>by
  obtain⟨hw1,hw2⟩:=hw q
  obtain⟨p1,p2⟩:=mul_bd hw1.1 hw1.2 hw2.1 hw2.2
  obtain⟨q1,q2⟩:=mul_bd p1 p2 c1.1 c1.2
  exact⟨⟨p1,by omega⟩,q1,by omega⟩
 rw [show stR 4 kh kw h w c=(if (4:Int)=1 then h*w*c else if (4:Int)=2 then kh*kw*c else kh*kw) from rfl]
 simp at hp ⊢
 obtain⟨p',ep⟩:∃ p',h*w=p':=⟨_,rfl⟩
 obtain⟨q',eq⟩:∃ q',kh*kw=q':=⟨_,rfl⟩
 rw [ep] at p3
 try rw [eq] at hp
 try rw [ep]
 try rw [eq]
 obtain⟨y1,y2,y3⟩:=cells_at hr
 clear g hw c1 hr
 go_enter Tryz.func94,Tryz.ntmps94
 go_wp2
 go_quiet (fail)
 go_wp2
 go_ret
 exact⟨rfl,_,rfl⟩
theorem tlen_any (k a b m kh kw sh sw tp lf bt rt:Int) (wa:Option Addr) (lw wc:Nat) (ba:Option Addr) (lb bc:Nat) (sm ss um us z p lo hi h w c H V C:Int) (r:Nat) (W:World) (hr:W.heap[r]? = some (.cells #[U i6 k,U i6 a,U i6 b,U i6 m,U i6 kh,U i6 kw,U i6 sh,U i6 sw,U i6 tp,U i6 lf,U i6 bt,U i6 rt,Sl wa lw wc,Sl ba lb bc,U i6 sm,U i6 ss,U i6 um,U i6 us,U i6 z,U i6 p,U i6 lo,U i6 hi,U i6 h,U i6 w,U i6 c,U i6 H,U i6 V,U i6 C] 137 (0,0))) (s:Sit k kh kw sh sw tp lf bt rt h w c H V C lw lb) :
  Calls Tryz.prog 94 #[.pointer (some ⟨r,0,none⟩)] W fun e w'=>e=.returned (U i6 (stR k kh kw h w c))∧∃ n,w'=W.drewN n:=by
 have hk:=s.1
 have g:=s.2.1
 have hw:=s.win
 rcases (show k=1∨k=2∨k=3∨k=4 by omega) with rfl | rfl | rfl | rfl
 ·exact tlen_1 a b m kh kw sh sw tp lf bt rt wa lw wc ba lb bc sm ss um us z p lo hi h w c H V C r W hr g hw
 ·exact tlen_2 a b m kh kw sh sw tp lf bt rt wa lw wc ba lb bc sm ss um us z p lo hi h w c H V C r W hr g hw
 ·exact tlen_3 a b m kh kw sh sw tp lf bt rt wa lw wc ba lb bc sm ss um us z p lo hi h w c H V C r W hr g hw
 ·exact tlen_4 a b m kh kw sh sw tp lf bt rt wa lw wc ba lb bc sm ss um us z p lo hi h w c H V C r W hr g hw
theorem tchan_any (k a b m kh kw sh sw tp lf bt rt:Int) (wa:Option Addr) (lw wc:Nat) (ba:Option Addr) (lb bc:Nat) (sm ss um us z p lo hi h w c H V C:Int) (r:Nat) (W:World) (hr:W.heap[r]? = some (.cells #[U i6 k,U i6 a,U i6 b,U i6 m,U i6 kh,U i6 kw,U i6 sh,U i6 sw,U i6 tp,U i6 lf,U i6 bt,U i6 rt,Sl wa lw wc,Sl ba lb bc,U i6 sm,U i6 ss,U i6 um,U i6 us,U i6 z,U i6 p,U i6 lo,U i6 hi,U i6 h,U i6 w,U i6 c,U i6 H,U i6 V,U i6 C] 137 (0,0))) :
  Calls Tryz.prog 72 #[.pointer (some ⟨r,0,none⟩)] W fun e w'=>e=.returned (U i6 C)∧w'=W:=by
 obtain⟨y1,y2,y3⟩:=cells_at hr
 clear hr
 go_enter Tryz.func72,Tryz.ntmps72
 go_wp2
 go_ret
 exact⟨rfl,rfl⟩
theorem tpos_any (k a b m kh kw sh sw tp lf bt rt:Int) (wa:Option Addr) (lw wc:Nat) (ba:Option Addr) (lb bc:Nat) (sm ss um us z p lo hi h w c H V C:Int) (r:Nat) (W:World) (hr:W.heap[r]? = some (.cells #[U i6 k,U i6 a,U i6 b,U i6 m,U i6 kh,U i6 kw,U i6 sh,U i6 sw,U i6 tp,U i6 lf,U i6 bt,U i6 rt,Sl wa lw wc,Sl ba lb bc,U i6 sm,U i6 ss,U i6 um,U i6 us,U i6 z,U i6 p,U i6 lo,U i6 hi,U i6 h,U i6 w,U i6 c,U i6 H,U i6 V,U i6 C] 137 (0,0))) (g:vS H V C=true) :
  Calls Tryz.prog 62 #[.pointer (some ⟨r,0,none⟩)] W fun e w'=>e=.returned (U i6 (H*V))∧∃ n,w'=W.drewN n:=by
 obtain⟨y1,y2,y3⟩:=cells_at hr
 have p3:=vS_bd g
 clear hr g
 go_enter Tryz.func62,Tryz.ntmps62
 go_wp2
 go_quiet (fail)
 go_wp2
 go_ret
 exact⟨rfl,_,rfl⟩
theorem tbias_any (k a b m kh kw sh sw tp lf bt rt:Int) (wa:Option Addr) (lw wc:Nat) (ba:Option Addr) (lb bc:Nat) (sm ss um us z p lo hi h w c H V C:Int) (r:Nat) (W:World) (hr:W.heap[r]? = some (.cells #[U i6 k,U i6 a,U i6 b,U i6 m,U i6 kh,U i6 kw,U i6 sh,U i6 sw,U i6 tp,U i6 lf,U i6 bt,U i6 rt,Sl wa lw wc,Sl ba lb bc,U i6 sm,U i6 ss,U i6 um,U i6 us,U i6 z,U i6 p,U i6 lo,U i6 hi,U i6 h,U i6 w,U i6 c,U i6 H,U i6 V,U i6 C] 137 (0,0))) (bs:List Int) (hB:IRow .i32 W ba lb bc bs) (s:Sit k kh kw sh sw tp lf bt rt h w c H V C lw lb) (ch:Int) (hc:1≤ch∧ch≤C) :
  Calls Tryz.prog 74 #[.pointer (some ⟨r,0,none⟩),U i6 ch] W fun e w'=>e=.returned (U i6 (biA k ch bs))∧w'=W:=by
 obtain⟨y1,y2,y3⟩:=cells_at hr
 obtain⟨hk,-,hv,-,-,-,hl,-⟩:=s
 have hC:=(vS_yes hv).2.2.1
 clear hr
 by_cases k4:k=4
 ·subst k4
  rw [show biA 4 ch bs=0 from if_pos rfl]
  go_enter Tryz.func74,Tryz.ntmps74
  go_wp2
  go_ret
  exact⟨rfl,rfl⟩
 ·rw [show biA k ch bs=bs.getD (ch-1).toNat 0 from if_neg k4]
  have hl2:=(hl (by omega)).2
  obtain⟨n,rfl⟩:∃ n:Nat,ch=(n:Int)+1:=⟨(ch-1).toNat,by omega⟩
  have hm:=hB.2.2.1
  have hcc:=hB.2.1
  unfold maxLen at hm
  obtain⟨x,u,rfl,hu,hwf,hz,-⟩:=hB.at (show n<lb by omega)
  obtain⟨u1,u2⟩:=wf_i32 hwf
  have e:bs.getD ((n:Int)+1-1).toNat 0=u:=by rw [show ((n:Int)+1-1).toNat=n by omega,List.getD_eq_getElem?_getD,hz];rfl
  rw [e]
  have k4':(k == 4)=false:=by simp [k4]
  clear e hz hwf hB hl
  go_enter Tryz.func74,Tryz.ntmps74
  go_wp2
  go_ret
  exact⟨rfl,rfl⟩
theorem twei_any (k a b m kh kw sh sw tp lf bt rt:Int) (wa:Option Addr) (lw wc:Nat) (ba:Option Addr) (lb bc:Nat) (sm ss um us z p lo hi h w c H V C:Int) (r:Nat) (W:World) (hr:W.heap[r]? = some (.cells #[U i6 k,U i6 a,U i6 b,U i6 m,U i6 kh,U i6 kw,U i6 sh,U i6 sw,U i6 tp,U i6 lf,U i6 bt,U i6 rt,Sl wa lw wc,Sl ba lb bc,U i6 sm,U i6 ss,U i6 um,U i6 us,U i6 z,U i6 p,U i6 lo,U i6 hi,U i6 h,U i6 w,U i6 c,U i6 H,U i6 V,U i6 C] 137 (0,0))) (zs:List Int) (hZ:IRow .i16 W wa lw wc zs) (s:Sit k kh kw sh sw tp lf bt rt h w c H V C lw lb) (ch:Int) (hc:1≤ch∧ch≤C) (i:Nat) (hi0:(i:Int)<stR k kh kw h w c) :
  Calls Tryz.prog 95 #[.pointer (some ⟨r,0,none⟩),U i6 ch,U i6 i] W fun e w'=>e=.returned (U i6 (wgA k ch (stR k kh kw h w c) zs i))∧∃ n,w'=W.drewN n:=by
 have hL:Hid (∀ n,Calls Tryz.prog 94 #[.pointer (some ⟨r,0,none⟩)] (W.drewN n) fun e w'=>e=.returned (U i6 (stR k kh kw h w c))∧∃ m,w'=(W.drewN n).drewN m):=fun n=>tlen_any k a b m kh kw sh sw tp lf bt rt wa lw wc ba lb bc sm ss um us z p lo hi h w c H V C r (W.drewN n) hr s
 obtain⟨y1,y2,y3⟩:=cells_at hr
 obtain⟨hk,-,hv,-,-,-,hl,-,hst0,hst1⟩:=s
 have hC:=(vS_yes hv).2.2.1
 obtain⟨st,hst⟩:∃ st,stR k kh kw h w c=st:=⟨_,rfl⟩
 rw [hst] at hL hl hst0 hst1 hi0 ⊢
 clear hr hst hv
 by_cases k4:k=4
 ·subst k4
  rw [show wgA 4 ch st zs i=1 from if_pos rfl]
  go_enter Tryz.func95,Tryz.ntmps95
  go_wp2
  go_ret
  exact⟨rfl,0,rfl⟩
 ·rw [show wgA k ch st zs i=zs.getD ((ch-1)*st+i).toNat 0 from if_neg k4]
  have hl2:=(hl (by omega)).1
  obtain⟨d,rfl⟩:∃ d:Nat,ch=(d:Int)+1:=⟨(ch-1).toNat,by omega⟩
  have hm:=hZ.2.2.1
  have hcc:=hZ.2.1
  unfold maxLen at hm
  have p1:0≤(d:Int)*st:=Int.mul_nonneg (by omega) (by omega)
  have p2:(d:Int)*st+st≤C*st:=by
   have:=Int.mul_le_mul_of_nonneg_right (show (d:Int)+1≤C by omega) (show 0≤st by omega)
   rwa [Int.add_mul,Int.one_mul] at this
  obtain⟨p',ep⟩:∃ p',(d:Int)*st=p':=⟨_,rfl⟩
  rw [show (d:Int)+1-1=d by omega,ep]
  rw [ep] at p1 p2
  rw [← hl2] at p2
  obtain⟨N,eN⟩:∃ N:Nat,p'+(i:Int)=(N:Int):=⟨(p'+i).toNat,by omega⟩
  rw [eN]
  have hN:N<lw:=by omega
  obtain⟨x,u,rfl,hu,hwf,hz,-⟩:=hZ.at hN
  obtain⟨u1,u2⟩:=wf_i16 hwf
  have e:zs.getD ((N:Int)).toNat 0=u:=by rw [Int.toNat_natCast,List.getD_eq_getElem?_getD,hz];rfl
  rw [e]
  have k4':(k == 4)=false:=by simp [k4]
  have hd1:(d:Int)+1≤1024:=by omega
  have hi2:(i:Int)≤512:=by omega
  clear e hz hwf hZ hl hl2 hC hc
  go_enter Tryz.func95,Tryz.ntmps95
  go_wp2
  go_quiet ((go_at_call 94;exact Calls.quiet_of (hL.out _)))
  go_wp2
  go_ret
  exact⟨rfl,_,rfl⟩
def chF (k ch:Int):Int:=if k=2 then 0 else ch-1
def chB (k c ch:Int):Int:=if k=2 then c else ch
theorem tread_any (k a b m kh kw sh sw tp lf bt rt:Int) (wa:Option Addr) (lw wc:Nat) (ba:Option Addr) (lb bc:Nat) (sm ss um us z p lo hi h w c H V C:Int) (r:Nat) (W:World) (hr:W.heap[r]? = some (.cells #[U i6 k,U i6 a,U i6 b,U i6 m,U i6 kh,U i6 kw,U i6 sh,U i6 sw,U i6 tp,U i6 lf,U i6 bt,U i6 rt,Sl wa lw wc,Sl ba lb bc,U i6 sm,U i6 ss,U i6 um,U i6 us,U i6 z,U i6 p,U i6 lo,U i6 hi,U i6 h,U i6 w,U i6 c,U i6 H,U i6 V,U i6 C] 137 (0,0))) (ch:Int) (hc:1≤ch∧ch≤1024) :
  Calls Tryz.prog 96 #[.pointer (some ⟨r,0,none⟩),U i6 ch] W fun e w'=>e=.returned (.tuple #[U i6 (chF k ch),U i6 (chB k c ch)])∧∃ n,w'=W.drewN n:=by
 obtain⟨y1,y2,y3⟩:=cells_at hr
 clear hr
 by_cases k2:k=2
 ·subst k2
  rw [show chF 2 ch=0 from if_pos rfl,show chB 2 c ch=c from if_pos rfl]
  go_enter Tryz.func96,Tryz.ntmps96
  go_wp2
  go_quiet (fail)
  go_wp2
  go_ret2
  exact⟨rfl,_,rfl⟩
 ·rw [show chF k ch=ch-1 from if_neg k2,show chB k c ch=ch from if_neg k2]
  have k2':(k == 2)=false:=by simp [k2]
  go_enter Tryz.func96,Tryz.ntmps96
  go_wp2
  go_ret2
  exact⟨rfl,0,rfl⟩
open Go.ChangeShapes Go.WideShapes Go.ChangeAt Go.RowKit Go.Shelf
attribute [local go_sem] Oper.semAt_some
def Kept (l:List Nat) (W W':World):Prop:=∀ b∈l,∀ c t,W.heap[b]? = some (.cells c t (0,0))→W'.heap[b]? = some (.cells c t (0,0))
theorem Kept.refl (l:List Nat) (W:World):Kept l W W:=fun _ _ _ _ h=>h
theorem Kept.trans {l:List Nat} {A B C:World} (h:Kept l A B) (k:Kept l B C):Kept l A C:=fun b hb c t hc=>k b hb c t (h b hb c t hc)
theorem Kept.put {l:List Nat} (W:World) (i:Nat) (o o':Obj) (h:W.heap[i]? = some o) (ho:o.isCells=false):Kept l W (W.putObj i o'):=fun b _ _ _ hc=>by
 by_cases e:b=i
 ·subst e;rw [h] at hc;cases hc;cases ho
 ·rw [World.putObj_heap_other e];exact hc
theorem Kept.below {l:List Nat} {W W':World} (h:Below W.heap.size W W'):Kept l W W':=fun b _ _ _ hc=>(h.block b (lt_of_heap hc)).trans hc
theorem Kept.grown {l:List Nat} {W W':World} {g:Option Nat} (h:W.grownBy W' g) (hg:∀ b,g=some b→b ∉ l):Kept l W W':=fun b hb _ _ hc=>(h.block b (lt_of_heap hc) (fun e=>hg b e.symm hb)).trans hc
def Wn (W:World):Type:=Subtype fun w:World=>Below W.heap.size W w
def Wn.w {W:World} (n:Wn W):World:=n.1
theorem Wn.h {W:World} (n:Wn W):Below W.heap.size W n.w:=n.2
def Wn.mk {W:World} (w:World) (h:Below W.heap.size W w):Wn W:=Subtype.mk w h
theorem Wn.rule {W:World} {B:Nat} {c:Array Value} {t:TypeId} (h:W.heap[B]? = some (.cells c t (0,0))):∀ (n:Wn W) (i:Nat),n.w.cell? ⟨B,i,none⟩=c[i]?:=fun n i=>by
 have h0:n.w.heap[B]? = some (.cells c t (0,0)):=(n.h.block B (lt_of_heap h)).trans h
 simp [World.cell?,h0]
theorem wn_call {f:FuncId} {args:Array Value} {W:World} {n:Wn W} {m:Nat} {v:Value}
  (h:Calls Tryz.prog f args n.w fun e w'=>e=.returned v∧Below n.w.heap.size n.w w'):CallsIn Fence.wide m Tryz.prog f args n.w fun e w''=>e=.returned v∧∃ k:Wn W,w''=k.w :=
 callsIn_wide.2 (h.mono fun _ _ ⟨he,hb⟩=>⟨he,Wn.mk _ (n.h.trans (hb.mono n.h.size)),rfl⟩)
theorem grownBy_of_below {W W':World} (k:Below W.heap.size W W'):W.grownBy W' none:=⟨k.os,k.tape,k.output,k.size,fun i hi _=>k.block i hi⟩
theorem abides_below {β:Type} {B:Nat} {J:β→World→Prop} (hJ:AbidesFrom B J) {s:β} {W W':World} (h:J s W) (k:Below W.heap.size W W'):J s W' :=
 hJ s W W' none h (grownBy_of_below k) (fun r e=>by cases e)
theorem taps1_in (m:Nat) (l B1 B2 B3 B4 B5:Nat) (h w c kh kw sh sw tp lf bt rt t u:Int) (N:Nat) (J Jx:List (Int×Int)→World→Prop) (W:World)
  (hC:N=0∨Cor h w kh kw t u∧N=(kh*kw).toNat)
  (hJ:AbidesFrom W.heap.size J)
  (hY:∀ pre x W1,J pre W1→pre.length<N→YieldAt Fence.wide (m-1) Tryz.prog l #[U i6 x.1,U i6 x.2] W1 fun e W' =>
    (e=.returned (.bool true)∧J (pre++[x]) W'∧Kept [B2,B3,B4,B5] W1 W')∨(e=.returned (.bool false)∧Jx (pre++[x]) W'))
  (c1:W.heap[B1]? = some (.cells #[U i6 N] 3 (0,0))) (c2:W.heap[B2]? = some (.cells #[U i6 h,U i6 w,U i6 c] 23 (0,0))) (c3:W.heap[B3]? = some (.cells #[U i6 t] 3 (0,0)))
  (c4:W.heap[B4]? = some (.cells #[U i6 kh,U i6 kw,U i6 sh,U i6 sw,U i6 tp,U i6 lf,U i6 bt,U i6 rt] 38 (0,0))) (c5:W.heap[B5]? = some (.cells #[U i6 u] 3 (0,0))) (h0:J [] W) :
  CallsIn Fence.wide m Tryz.prog 116 #[.func (.yield l) #[] #[],.pointer (some ⟨B1,0,none⟩),.pointer (some ⟨B2,0,none⟩),.pointer (some ⟨B3,0,none⟩),.pointer (some ⟨B4,0,none⟩),.pointer (some ⟨B5,0,none⟩)] W fun e W'=>(∃ v,e=.returned v) ∧
   ((∃ ys,ys=tapL h w kw t u N∧J ys W')∨(∃ pre,(∃ k,k≤N∧pre=tapL h w kw t u k)∧Jx pre W')):=by
 have r1:W.cell? ⟨B1,0,none⟩=some (U i6 N):=by simp [World.cell?,c1]
 refine callsIn_of_wp Tryz.func116 rfl trivial ?_ rfl
 simp only [Tryz.ntmps116,List.size_toArray,List.length_cons,List.length_nil,Nat.reduceAdd,Nat.reduceSub,Array.replicate_succ,Array.replicate_zero,List.push_toArray,List.append_toArray,List.nil_append,List.cons_append]
 gi_wp2
 gi_loopw [9] (fun i wr=>∃ k:Nat,k≤N∧i=U i6 k∧J (tapL h w kw t u k) wr∧Kept [B2,B3,B4,B5] W wr)
  (fun i _=>N-(intOf i).toNat)
 case atStart=>exact⟨0,Nat.zero_le _,rfl,h0,Kept.refl _ _⟩
 case round =>
  obtain⟨k,hk,rfl,hJs,hkp⟩:=hrel
  by_cases hlt:k<N
  ·rcases hC with rfl | ⟨⟨h1,w1,q9,k1,k2,t1,u1⟩,hN⟩
   ·omega
   have d2:=hkp B2 (by simp) _ _ c2
   have d3:=hkp B3 (by simp) _ _ c3
   have d4:=hkp B4 (by simp) _ _ c4
   have d5:=hkp B5 (by simp) _ _ c5
   have e2:=Wn.rule d2
   have e3:=Wn.rule d3
   have e4:=Wn.rule d4
   have e5:=Wn.rule d5
   have p1:=Int.ediv_nonneg (show (0:Int)≤k by omega) (show 0≤kw by omega)
   have p3:=Int.mul_nonneg (show 0≤kh by omega) (show 0≤kw by omega)
   have p2:(k:Int) / kw<kh:=Int.ediv_lt_of_lt_mul (by omega) (by omega)
   have p4:=Int.emod_nonneg (k:Int) (show kw≠0 by omega)
   have p5:=Int.emod_lt_of_pos (k:Int) (show 0<kw by omega)
   have t6:=td (c:=kw) (show (0:Int)≤k by omega)
   have t7:=tm (c:=kw) (show (0:Int)≤k by omega)
   obtain⟨d,hd⟩:∃ d,(k:Int) / kw=d:=⟨_,rfl⟩
   obtain⟨e,he⟩:∃ e,(k:Int) % kw=e:=⟨_,rfl⟩
   have HT:Hid (tap h w kw t u k=((k:Int),plc h w (t+d) (u+e))):=by unfold Hid tap;rw [hd,he]
   rw [hd] at p1 p2 t6
   rw [he] at p4 p5 t7
   have kw0:¬ kw=0:=by omega
   have kN:N≤1024:=by
    have:=Int.mul_le_mul k1.2 k2.2 (by omega) (by omega)
    omega
   have HN:Hid (N=(kh*kw).toNat):=hN
   clear hd he hN p3
   have hfn:∀ f,Fence.wide.fn f:=fun _=>trivial
   have hdp:Fence.wide.depth=none:=rfl
   have hne:Nonempty (Wn wr):=⟨Wn.mk wr (Below.refl _ _)⟩
   gi_wp2
   refine region_tail_at 16 (C:=fun w'=>∃ n:Wn wr,w'=n.w) rfl rfl (by kernel_rfl) (by kernel_rfl) ⟨Wn.mk _ (Below.refl _ _).drew,rfl⟩ ?_
   simp only [List.take_succ_cons,List.take_zero,List.drop_succ_cons,List.drop_zero]
   repeat (gi_big_quiet_step (exact wn_call (place_any _ _ _ _ _ _ (by omega) (by omega) h1 w1)))
   refine wpQuietIn_nil ?_
   rintro _ ⟨n,rfl⟩
   obtain⟨fn,tmps,assign,body,hy,hR⟩:=hY (tapL h w kw t u k) (tap h w kw t u k) n.w (abides_below hJ hJs n.h) (by rw [tapL_len];exact hlt)
   rw [← tapL_succ] at hR
   rw [HT.out] at hy
   dsimp only at hy
   gi_wp2
   refine hR.mono ?_
   rintro e W3 (⟨rfl,hJ3,hk3⟩ | ⟨rfl,hJx3⟩)
   ·gi_wp2
    go_roundw
    case rel=>exact⟨k+1,by omega,by simp,hJ3,(hkp.trans (Kept.below n.h)).trans hk3⟩
    case measure=>simp [intOf];omega
   ·gi_wp2
    refine bodyPost_ret (results_none rfl _ _ _) rfl ?_
    exact⟨⟨_,rfl⟩,.inr ⟨_,⟨k+1,by omega,rfl⟩,hJx3⟩⟩
  ·obtain rfl:k=N:=by omega
   gi_wp2
   go_end0
   exact⟨⟨_,rfl⟩,.inl ⟨_,rfl,hJs⟩⟩
attribute [local go_sem] Oper.semAt_some
theorem spot_at {q y x:Nat} (hx:x<q):(((y*q+x:Nat):Int) / (q:Int),((y*q+x:Nat):Int) % (q:Int))=((y:Int),(x:Int)):=by
 have e1:((y*q+x:Nat):Int) / (q:Int)=y:=by
  rw [← Int.natCast_ediv]
  congr 1
  rw [Nat.mul_comm,Nat.mul_add_div (by omega),Nat.div_eq_of_lt hx,Nat.add_zero]
 have e2:((y*q+x:Nat):Int) % (q:Int)=x:=by
  rw [← Int.natCast_emod]
  congr 1
  rw [Nat.mul_comm,Nat.mul_add_mod,Nat.mod_eq_of_lt hx]
 rw [e1,e2]
end Go.Proofs.YtgjcjhnnopandaaGreat
