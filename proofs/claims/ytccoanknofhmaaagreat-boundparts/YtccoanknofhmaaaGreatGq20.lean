/- same and front of law08: what each returns. The document's Copy of layer 8: what it returns. plain and fixed of law08. fixed of law08. The document's Look of layer 8: what it returns. -/
import Derived.Test.YtccoanknofhmaaaGreatGq09
import Derived.Test.YtccoanknofhmaaaGreatGq15
import Derived.Test.YtccoanknofhmaaaGreatGq19
import Derived.BigQuiet
import Derived.Laws.AppendOwnNone
namespace Go.Proofs.YtccoanknofhmaaaGreat
open Go.Value renaming int → U, slice → Sl
open Go.IntKind renaming i64 → i6
set_option maxRecDepth 100000
set_option maxHeartbeats 16000000
open Go.ChangeShapes Go.WideShapes Go.ChangeAt Go.RowKit
set_option linter.unusedVariables false
def SV (w:World) (v:Value) (L:List (Int×Int×Int)):Prop :=
 ∃ a cap,v=.slice a L.length cap∧L.length≤cap∧cap≤maxLen∧(0<L.length→∃ g,a=some ⟨g,0,none⟩∧∀ i,i<L.length →
  w.cell? ⟨g,i*3,none⟩=some (U i6 (L.getD i (0,0,0)).1)∧w.cell? ⟨g,i*3+1,none⟩=some (U i6 (L.getD i (0,0,0)).2.1)∧w.cell? ⟨g,i*3+2,none⟩=some (U i6 (L.getD i (0,0,0)).2.2))
theorem SV.below {w w':World} {v:Value} {L:List (Int×Int×Int)} (h:SV w v L) (q:Below w.heap.size w w'):SV w' v L:=by
 obtain⟨a,cap,h1,h2,h3,h4⟩:=h
 refine⟨a,cap,h1,h2,h3,fun h0=>?_⟩
 obtain⟨g,e,hc⟩:=h4 h0
 refine⟨g,e,fun i hi=>?_⟩
 obtain⟨c1,c2,c3⟩:=hc i hi
 exact⟨(q.cell (World.block_lt_of_cell? w _ c1)).trans c1,(q.cell (World.block_lt_of_cell? w _ c2)).trans c2,(q.cell (World.block_lt_of_cell? w _ c3)).trans c3⟩
theorem sv_cu {w:World} {g cap:Nat} {cur:Array Value} {T:TypeId} {L M:List (Int×Int×Int)} (h:w.heap[g]? = some (.cells cur T (0,0))) (hC:Cu cur cap L) (hm:cap≤maxLen) (n:Nat) (hn:n≤L.length) (hM:M=L.take n):SV w (.slice (some ⟨g,0,none⟩) n cap) M:=by
 have hl:M.length=n:=by rw [hM,List.length_take];omega
 have hc:=hC.2.1
 refine⟨some ⟨g,0,none⟩,cap,by rw [hl],by omega,hm,fun _=>⟨g,rfl,fun i hi=>?_⟩⟩
 obtain⟨a1,a2,a3⟩:=hC.at (i:=i) (by omega)
 have e:M.getD i (0,0,0)=L.getD i (0,0,0):=by rw [hM];simp [List.getD,show i<n by omega]
 rw [e]
 simp only [(cells_at h).1]
 exact⟨a1,a2,a3⟩
theorem Shp.sv {w:World} {base:Nat} {v:Value} {L:List (Int×Int×Int)} (h:Shp w base v L):SV w v L:=by
 rcases h with ⟨rfl,rfl⟩ | ⟨g,cap,cur,rfl,h2,h3,h4,h5⟩
 ·exact⟨none,0,rfl,Nat.le_refl _,by unfold maxLen;omega,fun h=>by cases h⟩
 ·exact sv_cu h3 h4 (by unfold maxLen;omega) L.length (Nat.le_refl _) (by simp)
def mc (w:World) (x:Addr) (n:Nat):List Value:=(List.range n).map fun q=>(w.cell? (x.add q)).getD (.bool false)
theorem opl_len (o:Nat→Int) (wa:Option Addr) (lw cw:Nat) (ba:Option Addr) (lb cb:Nat):(opl o wa lw cw ba lb cb).length=22:=rfl
theorem opl_one (o:Nat→Int) (wa:Option Addr) (lw cw:Nat) (ba:Option Addr) (lb cb:Nat):∀ v∈opl o wa lw cw ba lb cb,v.oneCell'=true:=by simp [opl,Value.oneCell']
theorem MRow.cell {w:World} {x:Addr} {on oc:Nat} {O:Nat→Nat→Int} (h:MRow w (some x) on oc O) {q:Nat} (hq:q<on*22):∃ v,w.cell? (x.add q)=some v∧v.oneCell'=true:=by
 obtain⟨wa,lw,cw,ba,lb,cb,-,-,h3⟩:=h.2.2.2 x rfl (q / 22) (by omega)
 have hj:q % 22<(opl (O (q / 22)) wa lw cw ba lb cb).length:=by rw [opl_len];omega
 have:=h3 (q % 22) _ (List.getElem?_eq_getElem hj)
 rw [show q / 22*22+q % 22=q by omega] at this
 exact⟨_,this,opl_one _ _ _ _ _ _ _ _ (List.getElem_mem hj)⟩
theorem MRow.heap {w w':World} {g k cap:Nat} {O:Nat→Nat→Int} (h:MRow w (some ⟨g,0,none⟩) k cap O) (e:w'.heap[g]? = w.heap[g]?):MRow w' (some ⟨g,0,none⟩) k cap O :=
 ⟨h.1,h.2.1,h.2.2.1,fun x hx i hi=>by
  obtain⟨wa,lw,cw,ba,lb,cb,h1,h2,h3⟩:=h.2.2.2 x hx i hi
  exact⟨wa,lw,cw,ba,lb,cb,h1,h2,fun j v hj=>(World.cell?_of_block (by rw [add_block];cases hx;exact e)).trans (h3 j v hj)⟩⟩
theorem Own.grown {k:IntKind} {T:TypeId} {w w':World} {base:Nat} {v:Value} {zs:List Int} {row:Option Nat} (h:Own k T w base v zs) (q:w.grownBy w' row) (hne:∀ b,row=some b→∀ c,w.heap[b]?≠some (.cells c T (0,0))):Own k T w' base v zs:=by
 refine⟨h.1.kept q ?_,h.2⟩
 rcases h.shape with ⟨rfl,_⟩ | ⟨g,cap,rfl,-,-,-,-,⟨cur,hc,-⟩,-⟩
 ·exact .inl rfl
 ·exact .inr (fun e=>hne g e.symm cur hc)
theorem Own.irow {k:IntKind} {T:TypeId} {w:World} {base n cap:Nat} {a:Option Addr} {zs:List Int} (h:Own k T w base (.slice a n cap) zs):IRow k w a n cap zs:=by
 obtain⟨a',c',e,r,-⟩:=h.row
 obtain rfl:=h.len
 cases e
 exact r
def COp (w:World) (base:Nat) (xs:List Value) (q:Nat) (o:Nat→Int) (z b:List Int):Prop :=
 ∃ (wa:Option Addr) (lw cw:Nat) (ba:Option Addr) (lb cb:Nat),o 12=(lw:Int)∧o 13=(lb:Int)∧(∀ j u,(opl o wa lw cw ba lb cb)[j]? = some u→xs[q*22+j]? = some u)∧Own .i16 89 w base (.slice wa lw cw) z∧Own .i32 21 w base (.slice ba lb cb) b∧lw*2≤140737488351232∧lb*4≤140737488351232
def CRow (w:World) (base:Nat) (v:Value) (i:Nat) (O:Nat→Nat→Int) (Z B:Nat→List Int):Prop :=
 ∃ xs,w.ownsRow base 42 22 v i xs∧∀ q,q<i→COp w base xs q (O q) (Z q) (B q)
theorem COp.grown {w w':World} {base:Nat} {xs ys:List Value} {q:Nat} {o:Nat→Int} {z b:List Int} {row:Option Nat} (h:COp w base xs q o z b) (g:w.grownBy w' row) (hne:∀ b,row=some b→∃ c,w.heap[b]? = some (.cells c 42 (0,0))):COp w' base (xs++ys) q o z b:=by
 obtain⟨wa,lw,cw,ba,lb,cb,h1,h2,h3,h4,h5,h6⟩:=h
 have ne:∀ T,T≠42→∀ b,row=some b→∀ c,w.heap[b]?≠some (.cells c T (0,0)):=fun T hT b hb c e=>by
  obtain⟨d,hd⟩:=hne b hb
  rw [hd] at e
  simp only [Option.some.injEq,Obj.cells.injEq] at e
  exact hT e.2.1.symm
 exact⟨wa,lw,cw,ba,lb,cb,h1,h2,fun j u hj=>List.getElem?_append_left (List.getElem?_eq_some_iff.1 (h3 j u hj)).1 |>.trans (h3 j u hj),h4.grown g (ne _ (by decide)),h5.grown g (ne _ (by decide)),h6⟩
theorem COp.below {w w':World} {base:Nat} {xs:List Value} {q:Nat} {o:Nat→Int} {z b:List Int} (h:COp w base xs q o z b) (g:Below w.heap.size w w'):COp w' base xs q o z b:=by
 obtain⟨wa,lw,cw,ba,lb,cb,h1,h2,h3,h4,h5,h6⟩:=h
 exact⟨wa,lw,cw,ba,lb,cb,h1,h2,h3,h4.below g,h5.below g,h6⟩
theorem CRow.below {w w':World} {base:Nat} {v:Value} {i:Nat} {O:Nat→Nat→Int} {Z B:Nat→List Int} (h:CRow w base v i O Z B) (g:Below w.heap.size w w'):CRow w' base v i O Z B:=by
 obtain⟨xs,h1,h2⟩:=h
 refine⟨xs,h1.kept (row:=none) ⟨g.os,g.tape,g.output,g.size,fun i hi _=>g.block i hi⟩ ?_,fun q hq=>(h2 q hq).below g⟩
 cases e:v.ownBlock with
 | none=>exact .inl rfl
 | some b=>exact .inr (by simp)
theorem CRow.slice {w:World} {base:Nat} {v:Value} {i:Nat} {O:Nat→Nat→Int} {Z B:Nat→List Int} (h:CRow w base v i O Z B):∃ a cap,v=.slice a i cap:=by
 obtain⟨xs,h1,-⟩:=h
 rcases h1.2 with ⟨rfl,rfl⟩ | ⟨g,cap,cur,rfl,-⟩
 ·exact⟨_,_,rfl⟩
 ·exact⟨_,_,rfl⟩
theorem CRow.nil (w:World) (base:Nat) (O:Nat→Nat→Int) (Z B:Nat→List Int):CRow w base (.slice none 0 0) 0 O Z B:=⟨[],World.ownsRow_nil _ _ _ _,fun q hq=>by omega⟩
theorem CRow.l {w:World} {base i:Nat} {a:Option Addr} {cap:Nat} {O:Nat→Nat→Int} {Z B:Nat→List Int} (h:CRow w base (.slice a i cap) i O Z B):LRow w a i cap O Z B:=by
 obtain⟨xs,h1,h2⟩:=h
 rcases h1.2 with ⟨e,e0⟩ | ⟨g,cap',cur,e,hb,hg,hn,hm,hs,ht⟩
 ·cases e
  exact⟨Nat.le_refl _,by unfold maxLen;omega,fun _=>rfl,fun x hx=>by cases hx⟩
 ·cases e
  refine⟨hn,hm,fun q=>(by cases q),fun x hx q hq=>?_⟩
  cases hx
  obtain⟨wa,lw,cw,ba,lb,cb,e1,e2,e3,e4,e5,e6⟩:=h2 q hq
  exact⟨wa,lw,cw,ba,lb,cb,e1,e2,fun j u hj=>by rw [Addr.add_add];exact h1.cells rfl _ _ (e3 j u hj),e4.irow,e5.irow,e6⟩
theorem St.seti {w0 w:World} {B i:Nat} {c:Array Value} {t:TypeId} {l:List (Nat×Array Value×TypeId)} {v:Value} (h:St w0 w ((B,c,t) :: l)) (hl:∀ x∈l,x.1≠B) (d:Array Value) (hd:c.setIfInBounds i v=d) :
  St w0 (w.setCell ⟨B,i,none⟩ v) ((B,d,t) :: l):=by subst hd;exact h.set hl
theorem CRow.other {w w':World} {base:Nat} {v:Value} {i:Nat} {O:Nat→Nat→Int} {Z B:Nat→List Int} (h:CRow w base v i O Z B) (q:∀ (g:Nat) (c:Array Value) (t:TypeId),t≠26→w.heap[g]? = some (.cells c t (0,0))→w'.heap[g]? = some (.cells c t (0,0))):CRow w' base v i O Z B:=by
 obtain⟨xs,h1,h2⟩:=h
 refine⟨xs,owns_other h1 (fun g c=>q g c _ (by decide)),fun r hr=>?_⟩
 obtain⟨wa,lw,cw,ba,lb,cb,e1,e2,e3,e4,e5,e6⟩:=h2 r hr
 exact⟨wa,lw,cw,ba,lb,cb,e1,e2,e3,⟨owns_other e4.1 (fun g c=>q g c _ (by decide)),e4.2⟩,⟨owns_other e5.1 (fun g c=>q g c _ (by decide)),e5.2⟩,e6⟩
theorem LRow.at {w:World} {oa:Option Addr} {on oc:Nat} {O:Nat→Nat→Int} {Z B:Nat→List Int} (h:LRow w oa on oc O Z B) {i:Nat} (hi:i<on):∃ x,oa=some x∧LOp w (x.add (i*22)) (O i) (Z i) (B i):=by
 cases oa with
 | none=>have:=h.2.2.1 rfl;have:=h.1;omega
 | some x=>exact⟨x,rfl,h.2.2.2 x rfl i hi⟩
theorem grown_set (w:World) (N i:Nat) (v:Value):w.grownBy (w.setCell ⟨N,i,none⟩ v) (some N):=⟨rfl,rfl,rfl,by simp,fun k _ hk=>Below.heap_setCell w ⟨N,i,none⟩ v k (fun e=>hk (by rw [e]))⟩
theorem CRow.add {w w':World} {base:Nat} {v v':Value} {i:Nat} {O:Nat→Nat→Int} {Z B:Nat→List Int} {wa ba:Option Addr} {lw cw lb cb:Nat} (h:CRow w base v i O Z B) (g:w.grownBy w' v.ownBlock) (h12:O i 12=(lw:Int)) (h13:O i 13=(lb:Int))
  (hz:Own .i16 89 w base (.slice wa lw cw) (Z i)) (hb:Own .i32 21 w base (.slice ba lb cb) (B i)) (r1:lw*2≤140737488351232) (r2:lb*4≤140737488351232) (xs:List Value) (hxs:w.ownsRow base 42 22 v i xs) (hall:∀ q,q<i→COp w base xs q (O q) (Z q) (B q))
  (hown:w'.ownsRow base 42 22 v' (i+1) (xs++opl (O i) wa lw cw ba lb cb)):CRow w' base v' (i+1) O Z B:=by
 have ty:∀ b,v.ownBlock=some b→∃ c,w.heap[b]? = some (.cells c 42 (0,0)):=fun b hb=>by
  rcases hxs.2 with ⟨rfl,-⟩ | ⟨f,cap,cur,rfl,-,h3,-⟩
  ·simp [Value.ownBlock] at hb
  ·obtain rfl:f=b:=by simpa [Value.ownBlock] using hb
   exact⟨cur,h3⟩
 have ne:∀ T,T≠42→∀ b,v.ownBlock=some b→∀ c,w.heap[b]?≠some (.cells c T (0,0)):=fun T hT b hb c e=>by
  obtain⟨d,hd⟩:=ty b hb
  rw [hd] at e
  simp only [Option.some.injEq,Obj.cells.injEq] at e
  exact hT e.2.1.symm
 refine⟨_,hown,fun q hq=>?_⟩
 by_cases e:q=i
 ·subst e
  refine⟨wa,lw,cw,ba,lb,cb,h12,h13,fun j u hj=>?_,hz.grown g (ne _ (by decide)),hb.grown g (ne _ (by decide)),r1,r2⟩
  rw [List.getElem?_append_right (by rw [hxs.1];omega),hxs.1,show q*22+j-q*22=j by omega]
  exact hj
 ·exact (hall q (by omega)).grown g ty
def plO (aa:Int) (_:Nat) (j:Nat):Int:=[1,aa,0,1,0,0,0,0,0,0,0,0,2,1,1,0,0,0,0,0,-128,127].getD j 0
theorem pl_0:gtR (plO 0) 1 1 2 (-128) 127 1 1=(0,0,[(1,1,2),(1,1,1)],2):=by decide
theorem St.add {w0 w:World} {B:Nat} {c:Array Value} {t:TypeId} {l:List (Nat×Array Value×TypeId)} (h:St w0 w l) (hb:w.heap[B]? = some (.cells c t (0,0))) (hB:w0.heap.size≤B):St w0 w ((B,c,t) :: l) :=
 ⟨h.1,fun x hx=>by
  rcases List.mem_cons.1 hx with rfl | hx
  ·exact⟨hb,hB⟩
  ·exact h.2 x hx⟩
theorem one_any (k a b m kh kw sh sw tp lf bt rt:Int) (wa:Option Addr) (lw cw:Nat) (ba:Option Addr) (lb cb:Nat) (sm ss um us z p lo hi:Int) (W0 W:World) (g cap n:Nat) (cur:Array Value) (L:List (Int×Int×Int)) (l:List (Nat×Array Value×TypeId)) (hn:L.length=n)
  (s:St W0 W ((g,cur,23) :: l)) (hn65:n≤65) (hCu:Cu cur cap L) (hcap:cap≤maxLen) (hvs:∀ s∈L,vS3 s=true) (hl:lw+lb≤1000000000000000) (E:Int) (hE:opE k a b m kh kw sh sw tp lf bt rt lw lb sm ss um us z p lo hi L=E) :
  Calls Tryz.prog 77 #[.agg #[U i6 k,U i6 a,U i6 b,U i6 m,U i6 kh,U i6 kw,U i6 sh,U i6 sw,U i6 tp,U i6 lf,U i6 bt,U i6 rt,Sl wa lw cw,Sl ba lb cb,U i6 sm,U i6 ss,U i6 um,U i6 us,U i6 z,U i6 p,U i6 lo,U i6 hi],U i6 (n:Int),Sl (some ⟨g,0,none⟩) n cap] W fun e w'=>e=.returned (.tuple #[.agg #[U i6 (onS k m kh kw sh sw tp lf bt rt E (ShA L a)).1,U i6 (onS k m kh kw sh sw tp lf bt rt E (ShA L a)).2.1,U i6 (onS k m kh kw sh sw tp lf bt rt E (ShA L a)).2.2],U i6 E])∧St W0 w' ((g,cur,23) :: l):=by
 by_cases hf:fmE k a b n (ozB k b m kh kw sh sw tp lf bt rt lw lb sm ss um us z p)=0
 ·obtain⟨hk,⟨ha0,han⟩,hb6,-⟩:=fmE_0 hf
  obtain⟨i,rfl⟩:=Int.eq_ofNat_of_zero_le ha0
  exact one_g k b m kh kw sh sw tp lf bt rt wa lw cw ba lb cb sm ss um us z p lo hi i W0 W g cap n cur L l hn s hf hn65 hCu hcap hvs hl E hE
 ·have e:opE k a b m kh kw sh sw tp lf bt rt lw lb sm ss um us z p lo hi L=fmE k a b n (ozB k b m kh kw sh sw tp lf bt rt lw lb sm ss um us z p):=op_1 (by rw [hn]) hf
  rw [hE] at e
  refine (one_f k a b m kh kw sh sw tp lf bt rt wa lw cw ba lb cb sm ss um us z p lo hi W0 W g cap n E ((g,cur,23) :: l) s hn65 hl e.symm (by rw [e];exact hf)).mono ?_
  rintro e' w' ⟨rfl,h⟩
  exact⟨onz (by rw [e];exact hf),h⟩
theorem op_0 {k a b m kh kw sh sw tp lf bt rt:Int} {lw lb:Nat} {sm ss um us z p lo hi:Int} {L:List (Int×Int×Int)} (h:opE k a b m kh kw sh sw tp lf bt rt lw lb sm ss um us z p lo hi L=0) (hv:∀ s∈L,vS3 s=true):vS3 (mk3 k m kh kw sh sw tp lf bt rt (ShA L a))=true∧0≤opW k m kh kw sh sw tp lf bt rt (ShA L a)∧(0≤a∧a<(L.length:Int))∧(1≤k∧k≤8)∧mkE k m kh kw sh sw tp lf bt rt (ShA L a).1 (ShA L a).2.1 (ShA L a).2.2=0:=by
 have:tkE k a b m kh kw sh sw tp lf bt rt lw lb sm ss um us z p lo hi L (- opW k m kh kw sh sw tp lf bt rt (ShA L a))=0:=by
  unfold tkE
  rw [if_neg (by rw [h];decide),if_neg (by omega)]
 obtain⟨a1,a2,-,a4,a5,a6⟩:=tk_0 this hv
 exact⟨a1,a2,a4,a5,a6⟩
theorem tk_e {k a b m kh kw sh sw tp lf bt rt:Int} {lw lb:Nat} {sm ss um us z p lo hi wk E:Int} {L:List (Int×Int×Int)} (h:opE k a b m kh kw sh sw tp lf bt rt lw lb sm ss um us z p lo hi L=E) (h0:E≠0):tkE k a b m kh kw sh sw tp lf bt rt lw lb sm ss um us z p lo hi L wk=E:=by unfold tkE;rw [h,if_pos h0]
theorem tk_w {k a b m kh kw sh sw tp lf bt rt:Int} {lw lb:Nat} {sm ss um us z p lo hi wk:Int} {L:List (Int×Int×Int)} (h:opE k a b m kh kw sh sw tp lf bt rt lw lb sm ss um us z p lo hi L=0) (h0:131072<wk+opW k m kh kw sh sw tp lf bt rt (ShA L a)):tkE k a b m kh kw sh sw tp lf bt rt lw lb sm ss um us z p lo hi L wk=86:=by unfold tkE;rw [h,if_neg (by decide),if_pos h0]
theorem tk_k {k a b m kh kw sh sw tp lf bt rt:Int} {lw lb:Nat} {sm ss um us z p lo hi wk:Int} {L:List (Int×Int×Int)} (h:opE k a b m kh kw sh sw tp lf bt rt lw lb sm ss um us z p lo hi L=0) (h0:¬ 131072<wk+opW k m kh kw sh sw tp lf bt rt (ShA L a)):tkE k a b m kh kw sh sw tp lf bt rt lw lb sm ss um us z p lo hi L wk=0:=by unfold tkE;rw [h,if_neg (by decide),if_neg h0]
def OSh (w:World) (base:Nat) (v:Value) (L:List (Int×Int×Int)):Prop:=w.ownsRow base 23 3 v L.length (s3 L)
theorem OSh.cu {w:World} {base:Nat} {v:Value} {L:List (Int×Int×Int)} (h:OSh w base v L) (h0:0<L.length):∃ g cap cur,v=.slice (some ⟨g,0,none⟩) L.length cap∧base≤g∧w.heap[g]? = some (.cells cur 23 (0,0))∧Cu cur cap L∧cap≤maxLen:=by
 rcases h.2 with ⟨-,q⟩ | ⟨g,cap,cur,h1,h2,h3,h4,h5,h6,h7⟩
 ·omega
 ·exact⟨g,cap,cur,h1,h2,h3,⟨h6,h4,h7⟩,h5⟩
theorem OSh.nil (w:World) (base:Nat):OSh w base (.slice none 0 0) []:=World.ownsRow_nil _ _ _ _
theorem OSh.below {w w':World} {base:Nat} {v:Value} {L:List (Int×Int×Int)} (h:OSh w base v L) (g:Below w.heap.size w w'):OSh w' base v L:=by
 refine World.ownsRow.kept h (row:=none) ⟨g.os,g.tape,g.output,g.size,fun i hi _=>g.block i hi⟩ ?_
 cases e:v.ownBlock with
 | none=>exact .inl rfl
 | some b=>exact .inr (by simp)
theorem OSh.slice {w:World} {base:Nat} {v:Value} {L:List (Int×Int×Int)} (h:OSh w base v L):∃ a cap,v=.slice a L.length cap:=by
 rcases h.2 with ⟨rfl,q⟩ | ⟨g,cap,cur,rfl,-⟩
 ·exact⟨_,_,by rw [q]⟩
 ·exact⟨_,_,rfl⟩
theorem ouE_50 {h w c lo hi ot:Int} {on:Nat} (g:vS h w c=false):ouE h w c lo hi ot on=50:=by unfold ouE;rw [if_pos g]
theorem ouE_85 {h w c lo hi ot:Int} {on:Nat} (g:vS h w c=true) (r:rgB lo hi=false):ouE h w c lo hi ot on=85:=by unfold ouE;rw [if_neg (by rw [g];decide),if_pos r]
theorem look_o (h w c lo hi ot:Int) (oa:Option Addr) (on oc:Nat) (W:World) (x:Int) (hx:ouE h w c lo hi ot on=x) (hx0:x≠0) (hon:on≤1000000000000) :
  Calls Tryz.prog 61 #[.agg #[U i6 h,U i6 w,U i6 c,U i6 lo,U i6 hi,Sl oa on oc,U i6 ot]] W fun e w'=>e=.returned (.tuple #[Sl none 0 0,U i6 0,.agg #[U i6 x,U i6 0,U i6 0]])∧Below W.heap.size W w':=by
 have s0:=((St.start W).new (c:=#[U i6 h,U i6 w,U i6 c,U i6 lo,U i6 hi,Sl oa on oc,U i6 ot]) (t:=26)).new (c:=#[U i6 0,U i6 0,U i6 0]) (t:=79)
 simp only [World.size_alloc] at s0
 obtain⟨vb,hvb⟩:∃ vb,vS h w c=vb:=⟨_,rfl⟩
 have hVd:Hid (∀ W,Calls Tryz.prog 75 #[.agg #[U i6 h,U i6 w,U i6 c]] W fun e w'=>e=.returned (.bool vb)∧Below W.heap.size W w'):=fun W=>by rw [← hvb];exact rvalid_any h w c W
 cases vb with
 | false =>
  obtain rfl:x=50:=by rw [← hx];exact ouE_50 hvb
  clear hx hvb
  go_enter Tryz.func61,Tryz.ntmps61
  go_wp2_with fail
  refine (hVd.out _).mono ?_
  rintro e w1 ⟨rfl,hb'⟩
  have s1:=s0.call hb'
  clear hb'
  try simp only [World.size_setCell] at s1
  try simp only [World.size_alloc] at s1
  obtain⟨c1,f1,zw1_1,c2,f2,zw1_2,-⟩:=s1.rules
  go_wp2
  exact bodyPost_ret (v:=.tuple #[Sl none 0 0,U i6 0,.agg #[U i6 50,U i6 0,U i6 0]]) (by simp [results,Tryz.results61,go_sem, *]) rfl ⟨rfl,set3b s1.below (by omega)⟩
 | true =>
 cases rb:rgB lo hi with
 | false =>
  obtain rfl:x=85:=by rw [← hx];exact ouE_85 hvb rb
  unfold rgB at rb
  clear hx hvb
  cases v1:vlB lo with
  | false =>
   go_enter Tryz.func61,Tryz.ntmps61
   go_wp2_with fail
   refine (hVd.out _).mono ?_
   rintro e w1 ⟨rfl,hb'⟩
   have s1:=s0.call hb'
   clear hb'
   try simp only [World.size_setCell] at s1
   try simp only [World.size_alloc] at s1
   obtain⟨c1,f1,zw1_1,c2,f2,zw1_2,-⟩:=s1.rules
   go_wp2_with fail
   refine (rval_any _ _).mono ?_
   rintro e w' ⟨rfl,rfl⟩
   rw [v1]
   go_wp2
   exact bodyPost_ret (v:=.tuple #[Sl none 0 0,U i6 0,.agg #[U i6 85,U i6 0,U i6 0]]) (by simp [results,Tryz.results61,go_sem, *]) rfl ⟨rfl,set3b s1.below (by omega)⟩
  | true =>
  cases v2:vlB hi with
  | false =>
   go_enter Tryz.func61,Tryz.ntmps61
   go_wp2_with fail
   refine (hVd.out _).mono ?_
   rintro e w1 ⟨rfl,hb'⟩
   have s1:=s0.call hb'
   clear hb'
   try simp only [World.size_setCell] at s1
   try simp only [World.size_alloc] at s1
   obtain⟨c1,f1,zw1_1,c2,f2,zw1_2,-⟩:=s1.rules
   go_wp2_with fail
   refine (rval_any _ _).mono ?_
   rintro e w' ⟨rfl,rfl⟩
   rw [v1]
   go_wp2_with fail
   refine (rval_any _ _).mono ?_
   rintro e w' ⟨rfl,rfl⟩
   rw [v2]
   go_wp2
   exact bodyPost_ret (v:=.tuple #[Sl none 0 0,U i6 0,.agg #[U i6 85,U i6 0,U i6 0]]) (by simp [results,Tryz.results61,go_sem, *]) rfl ⟨rfl,set3b s1.below (by omega)⟩
  | true =>
   have v3:hi<lo:=by rw [v1,v2] at rb;simp at rb;omega
   go_enter Tryz.func61,Tryz.ntmps61
   go_wp2_with fail
   refine (hVd.out _).mono ?_
   rintro e w1 ⟨rfl,hb'⟩
   have s1:=s0.call hb'
   clear hb'
   try simp only [World.size_setCell] at s1
   try simp only [World.size_alloc] at s1
   obtain⟨c1,f1,zw1_1,c2,f2,zw1_2,-⟩:=s1.rules
   go_wp2_with fail
   refine (rval_any _ _).mono ?_
   rintro e w' ⟨rfl,rfl⟩
   rw [v1]
   go_wp2_with fail
   refine (rval_any _ _).mono ?_
   rintro e w' ⟨rfl,rfl⟩
   rw [v2]
   go_wp2
   exact bodyPost_ret (v:=.tuple #[Sl none 0 0,U i6 0,.agg #[U i6 85,U i6 0,U i6 0]]) (by simp [results,Tryz.results61,go_sem, *]) rfl ⟨rfl,set3b s1.below (by omega)⟩
 | true =>
 have r2:=rb
 unfold rgB at r2
 simp only [Bool.and_eq_true,decide_eq_true_eq] at r2
 obtain⟨⟨v1,v2⟩,v3⟩:=r2
 have v3':¬ hi<lo:=by omega
 by_cases l1:64<(on:Int)
 ·obtain rfl:x=80:=by rw [← hx];exact ou_80 hvb rb l1
  clear hx hvb
  go_enter Tryz.func61,Tryz.ntmps61
  go_wp2_with fail
  refine (hVd.out _).mono ?_
  rintro e w1 ⟨rfl,hb'⟩
  have s1:=s0.call hb'
  clear hb'
  try simp only [World.size_setCell] at s1
  try simp only [World.size_alloc] at s1
  obtain⟨c1,f1,zw1_1,c2,f2,zw1_2,-⟩:=s1.rules
  go_wp2_with fail
  refine (rval_any _ _).mono ?_
  rintro e w' ⟨rfl,rfl⟩
  rw [v1]
  go_wp2_with fail
  refine (rval_any _ _).mono ?_
  rintro e w' ⟨rfl,rfl⟩
  rw [v2]
  go_wp2
  exact bodyPost_ret (v:=.tuple #[Sl none 0 0,U i6 0,.agg #[U i6 80,U i6 0,U i6 0]]) (by simp [results,Tryz.results61,go_sem, *]) rfl ⟨rfl,set3b s1.below (by omega)⟩
 by_cases l2:ot<0
 ·obtain rfl:x=3:=by rw [← hx];exact ou_3 hvb rb l1 (by omega)
  clear hx hvb
  go_enter Tryz.func61,Tryz.ntmps61
  go_wp2_with fail
  refine (hVd.out _).mono ?_
  rintro e w1 ⟨rfl,hb'⟩
  have s1:=s0.call hb'
  clear hb'
  try simp only [World.size_setCell] at s1
  try simp only [World.size_alloc] at s1
  obtain⟨c1,f1,zw1_1,c2,f2,zw1_2,-⟩:=s1.rules
  go_wp2_with fail
  refine (rval_any _ _).mono ?_
  rintro e w' ⟨rfl,rfl⟩
  rw [v1]
  go_wp2_with fail
  refine (rval_any _ _).mono ?_
  rintro e w' ⟨rfl,rfl⟩
  rw [v2]
  go_wp2
  exact bodyPost_ret (v:=.tuple #[Sl none 0 0,U i6 0,.agg #[U i6 3,U i6 0,U i6 0]]) (by simp [results,Tryz.results61,go_sem, *]) rfl ⟨rfl,set3b s1.below (by omega)⟩
 by_cases l3:(on:Int)<ot
 ·obtain rfl:x=3:=by rw [← hx];exact ou_3 hvb rb l1 (by omega)
  clear hx hvb
  go_enter Tryz.func61,Tryz.ntmps61
  go_wp2_with fail
  refine (hVd.out _).mono ?_
  rintro e w1 ⟨rfl,hb'⟩
  have s1:=s0.call hb'
  clear hb'
  try simp only [World.size_setCell] at s1
  try simp only [World.size_alloc] at s1
  obtain⟨c1,f1,zw1_1,c2,f2,zw1_2,-⟩:=s1.rules
  go_wp2_with fail
  refine (rval_any _ _).mono ?_
  rintro e w' ⟨rfl,rfl⟩
  rw [v1]
  go_wp2_with fail
  refine (rval_any _ _).mono ?_
  rintro e w' ⟨rfl,rfl⟩
  rw [v2]
  go_wp2
  exact bodyPost_ret (v:=.tuple #[Sl none 0 0,U i6 0,.agg #[U i6 3,U i6 0,U i6 0]]) (by simp [results,Tryz.results61,go_sem, *]) rfl ⟨rfl,set3b s1.below (by omega)⟩
 exact absurd (by rw [← hx];unfold ouE;rw [if_neg (by rw [hvb];decide),if_neg (by rw [rb];decide),if_neg l1,if_neg (by omega)]) hx0
theorem osh_one (w:World) (base:Nat) (h v c:Int) (hb:base≤w.heap.size):OSh (w.alloc (.cells #[U i6 h,U i6 v,U i6 c] 23)) base (.slice (some ⟨w.heap.size,0,none⟩) 1 1) [(h,v,c)]:=by
 have:=World.ownsRow_lit (base:=base) (e:=23) (size:=3) w #[U i6 h,U i6 v,U i6 c] 1 hb (by unfold maxLen;omega) rfl
 exact this
theorem osh_cu {w:World} {g cap base:Nat} {cur:Array Value} {L:List (Int×Int×Int)} (h:w.heap[g]? = some (.cells cur 23 (0,0))) (hb:base≤g) (hC:Cu cur cap L) (hcap:cap≤maxLen):OSh w base (.slice (some ⟨g,0,none⟩) L.length cap) L :=
 ⟨by rw [s3_len],.inr ⟨g,cap,cur,rfl,hb,h,hC.2.1,hcap,hC.1,hC.2.2⟩⟩
theorem OSh.lt {w:World} {base:Nat} {v:Value} {L:List (Int×Int×Int)} (h:OSh w base v L):∀ b,v.ownBlock=some b→base≤b:=fun b e=>(World.ownsRow.lt h b e).1
theorem look_g (h w c lo hi ot:Int) (oa:Option Addr) (on oc:Nat) (O:Nat→Nat→Int) (Z B:Nat→List Int) (W:World) (hL:LRow W oa on oc O Z B) (hx:ouE h w c lo hi ot on=0) (Re Ra Rw:Int) (RL:List (Int×Int×Int)) (hR:stG O (h,w,c) on=(Re,Ra,RL,Rw)) :
  Calls Tryz.prog 61 #[.agg #[U i6 h,U i6 w,U i6 c,U i6 lo,U i6 hi,Sl oa on oc,U i6 ot]] W fun e w'=>∃ v,e=.returned (.tuple #[v,U i6 Rw,.agg #[U i6 Re,U i6 Ra,U i6 0]])∧OSh w' W.heap.size v RL∧Below W.heap.size W w':=by
 obtain⟨hvb,rb,ho64,hot0,hot1⟩:=ouE_0 hx
 have hocc:=hL.1
 have hocm:=hL.2.1
 unfold maxLen at hocm
 have HL:Hid (LRow W oa on oc O Z B):=hL
 have HR:Hid (stG O (h,w,c) on=(Re,Ra,RL,Rw)):=hR
 have HV:Hid (vS3 (h,w,c)=true):=hvb
 have hVd:Hid (∀ W,Calls Tryz.prog 75 #[.agg #[U i6 h,U i6 w,U i6 c]] W fun e w'=>e=.returned (.bool true)∧Below W.heap.size W w'):=fun W=>by rw [← hvb];exact rvalid_any h w c W
 have r2:=rb
 unfold rgB at r2
 simp only [Bool.and_eq_true,decide_eq_true_eq] at r2
 obtain⟨⟨v1,v2⟩,v3⟩:=r2
 have v3':¬ hi<lo:=by omega
 have l1:¬ 64<(on:Int):=by omega
 have l2:¬ ot<0:=by omega
 have l3:¬ (on:Int)<ot:=by omega
 have s0:=((St.start W).new (c:=#[U i6 h,U i6 w,U i6 c,U i6 lo,U i6 hi,Sl oa on oc,U i6 ot]) (t:=26)).new (c:=#[U i6 0,U i6 0,U i6 0]) (t:=79)
 simp only [World.size_alloc] at s0
 clear hL hR hvb rb hx
 go_enter Tryz.func61,Tryz.ntmps61
 go_wp2_with fail
 refine (hVd.out _).mono ?_
 rintro e w1 ⟨rfl,hb'⟩
 have s1:=s0.call hb'
 clear hb'
 try simp only [World.size_setCell] at s1
 try simp only [World.size_alloc] at s1
 obtain⟨c1,f1,zw1_1,c2,f2,zw1_2,-⟩:=s1.rules
 go_wp2_with fail
 refine (rval_any _ _).mono ?_
 rintro e w' ⟨rfl,rfl⟩
 rw [v1]
 go_wp2_with fail
 refine (rval_any _ _).mono ?_
 rintro e w' ⟨rfl,rfl⟩
 rw [v2]
 go_upto_region 12 with fail
 have s2:=s1.skip (.cells #[U i6 h,U i6 w,U i6 c] 23)
 have o1:=osh_one w' W.heap.size h w c (by omega)
 go_wp2
 have S2:Hid (St W _ _):=s2
 have O1:Hid (OSh _ _ _ _):=o1
 clear c1 f1 c2 f2 s2 o1 s0 s1 v1 v2 v3 v3' l1 l2 l3 hVd
 go_loopw [6,7,58] (fun v q i wr=>∃ (k:Nat) (L:List (Int×Int×Int)) (wk:Int),k≤on∧i=U i6 k∧q=U i6 wk∧stG O (h,w,c) k=(0,0,L,wk)∧OSh wr W.heap.size v L∧St W wr ((W.heap.size+1,#[U i6 0,U i6 0,U i6 0],79) :: (W.heap.size,#[U i6 h,U i6 w,U i6 c,U i6 lo,U i6 hi,Sl oa on oc,U i6 ot],26) :: [])) (fun _ _ i _=>on-(intOf i).toNat)
 case atStart=>exact⟨0,[(h,w,c)],0,Nat.zero_le _,rfl,rfl,rfl,O1.out,S2.out⟩
 case round =>
  obtain⟨i,L,wk,hi0,rfl,rfl,hst,ho,sr⟩:=hrel
  clear S2 O1
  obtain⟨i1,i2,i3,i4⟩:=stG_inv (O:=O) (s0:=(h,w,c)) HV.out i L wk hst
  obtain⟨g,cap,cur,rfl,hgb,hgc,hCu,hcap⟩:=ho.cu (by omega)
  rw [i1]
  rw [i1] at ho
  by_cases hlt:i<on
  rotate_left
  ·obtain rfl:i=on:=by omega
   have e:=HR.out
   rw [hst] at e
   simp only [Prod.mk.injEq] at e
   obtain⟨rfl,rfl,rfl,rfl⟩:=e
   have Ho:Hid (OSh wr W.heap.size (.slice (some ⟨g,0,none⟩) (i+1) cap) L):=ho
   have Hs:Hid (St W wr _):=sr
   have Hne:Hid (g≠W.heap.size+1):=ne_of_ty hgc sr.h1 (by decide)
   obtain⟨c1,f1,zr1,c2,f2,zr2,-⟩:=sr.rules
   clear sr ho hCu hst i1
   go_wp2
   exact bodyPost_ret (v:=.tuple #[Sl (some ⟨g,0,none⟩) (i+1) cap,U i6 wk,.agg #[U i6 0,U i6 0,U i6 0]]) (by simp [results,Tryz.results61,go_sem, *]) rfl ⟨_,rfl,owns_other Ho.out (fun g' c' hg=>by have ng:=ne_of_ty hg Hs.out.h1 (by decide);rw [Below.heap_setCell _ _ _ _ ng,Below.heap_setCell _ _ _ _ ng,Below.heap_setCell _ _ _ _ ng];exact hg),set3b Hs.out.below (by omega)⟩
  ·obtain⟨x,rfl,wa,lw,cw,ba,lb,cb,e12,e13,hcell,-,-,rz,rbz⟩:=(HL.out.below sr.below).at hlt
   have hcell':Hid (∀ q v,[U i6 (O i 0),U i6 (O i 1),U i6 (O i 2),U i6 (O i 3),U i6 (O i 4),U i6 (O i 5),U i6 (O i 6),U i6 (O i 7),U i6 (O i 8),U i6 (O i 9),U i6 (O i 10),U i6 (O i 11),Sl wa lw cw,Sl ba lb cb,U i6 (O i 14),U i6 (O i 15),U i6 (O i 16),U i6 (O i 17),U i6 (O i 18),U i6 (O i 19),U i6 (O i 20),U i6 (O i 21)][q]? = some v→wr.cell? ((x.add (i*22)).add q)=some v):=hcell
   have sg:=sr.add hgc hgb
   have sb:=(sg.new (c:=#[U i6 (O i 0),U i6 (O i 1),U i6 (O i 2),U i6 (O i 3),U i6 (O i 4),U i6 (O i 5),U i6 (O i 6),U i6 (O i 7),U i6 (O i 8),U i6 (O i 9),U i6 (O i 10),U i6 (O i 11),Sl wa lw cw,Sl ba lb cb,U i6 (O i 14),U i6 (O i 15),U i6 (O i 16),U i6 (O i 17),U i6 (O i 18),U i6 (O i 19),U i6 (O i 20),U i6 (O i 21)]) (t:=42)).up1
   have Ho:Hid (OSh wr W.heap.size (.slice (some ⟨g,0,none⟩) (i+1) cap) L):=ho
   obtain⟨E,hE⟩:∃ E,opE (O i 0) (O i 1) (O i 2) (O i 3) (O i 4) (O i 5) (O i 6) (O i 7) (O i 8) (O i 9) (O i 10) (O i 11) lw lb (O i 14) (O i 15) (O i 16) (O i 17) (O i 18) (O i 19) (O i 20) (O i 21) L=E:=⟨_,rfl⟩
   have hoT:∀ y,tkE (O i 0) (O i 1) (O i 2) (O i 3) (O i 4) (O i 5) (O i 6) (O i 7) (O i 8) (O i 9) (O i 10) (O i 11) lw lb (O i 14) (O i 15) (O i 16) (O i 17) (O i 18) (O i 19) (O i 20) (O i 21) L wk=y→oT (O i) L wk=y:=fun y q=>by unfold oT;rw [e12,e13];exact q
   have HT:Hid (∀ y,tkE (O i 0) (O i 1) (O i 2) (O i 3) (O i 4) (O i 5) (O i 6) (O i 7) (O i 8) (O i 9) (O i 10) (O i 11) lw lb (O i 14) (O i 15) (O i 16) (O i 17) (O i 18) (O i 19) (O i 20) (O i 21) L wk=y→oT (O i) L wk=y):=hoT
   obtain⟨c1,f1,zr1,c2,f2,zr2,c3,f3,zr3,-⟩:=sg.rules
   clear hoT e12 e13 hcell ho
   go_upto_region 16 with fail
   go_upto_region 17 with (first
    | (refine wpList_load_any rfl 42 (.tmp 61) rfl _ rfl [U i6 (O i 0),U i6 (O i 1),U i6 (O i 2),U i6 (O i 3),U i6 (O i 4),U i6 (O i 5),U i6 (O i 6),U i6 (O i 7),U i6 (O i 8),U i6 (O i 9),U i6 (O i 10),U i6 (O i 11),Sl wa lw cw,Sl ba lb cb,U i6 (O i 14),U i6 (O i 15),U i6 (O i 16),U i6 (O i 17),U i6 (O i 18),U i6 (O i 19),U i6 (O i 20),U i6 (O i 21)] _ hcell'.out Tryz.underlying42 rfl (by kernel_rfl) ?_)
    | (refine wpList_st_new rfl 42 (.tmp 9) (.tmp 62) rfl wr _ #[U i6 (O i 0),U i6 (O i 1),U i6 (O i 2),U i6 (O i 3),U i6 (O i 4),U i6 (O i 5),U i6 (O i 6),U i6 (O i 7),U i6 (O i 8),U i6 (O i 9),U i6 (O i 10),U i6 (O i 11),Sl wa lw cw,Sl ba lb cb,U i6 (O i 14),U i6 (O i 15),U i6 (O i 16),U i6 (O i 17),U i6 (O i 18),U i6 (O i 19),U i6 (O i 20),U i6 (O i 21)] rfl rfl (by kernel_rfl) rfl (by simp [Value.oneCell']) ?_))
   obtain⟨wb,hwb⟩:∃ wb,wr.alloc (.cells #[U i6 (O i 0),U i6 (O i 1),U i6 (O i 2),U i6 (O i 3),U i6 (O i 4),U i6 (O i 5),U i6 (O i 6),U i6 (O i 7),U i6 (O i 8),U i6 (O i 9),U i6 (O i 10),U i6 (O i 11),Sl wa lw cw,Sl ba lb cb,U i6 (O i 14),U i6 (O i 15),U i6 (O i 16),U i6 (O i 17),U i6 (O i 18),U i6 (O i 19),U i6 (O i 20),U i6 (O i 21)] 42)=wb:=⟨_,rfl⟩
   rw [hwb] at sb ⊢
   clear hwb hcell' c1 f1 c2 f2 c3 f3
   have hOne:=one_any (O i 0) (O i 1) (O i 2) (O i 3) (O i 4) (O i 5) (O i 6) (O i 7) (O i 8) (O i 9) (O i 10) (O i 11) wa lw cw ba lb cb (O i 14) (O i 15) (O i 16) (O i 17) (O i 18) (O i 19) (O i 20) (O i 21) W wb g cap (i+1) cur L _ i1 sb (by omega) hCu hcap i2 (by omega) E hE
   rw [show ((i+1:Nat):Int)=(i:Int)+1 by omega] at hOne
   obtain⟨H,V,C,hS⟩:∃ H V C,onS (O i 0) (O i 3) (O i 4) (O i 5) (O i 6) (O i 7) (O i 8) (O i 9) (O i 10) (O i 11) E (ShA L (O i 1))=(H,V,C):=⟨_,_,_,rfl⟩
   rw [hS] at hOne
   have HOne:Hid _:=hOne
   clear hOne
   obtain⟨c1,f1,za1,c2,f2,za2,c3,f3,za3,c4,f4,za4,-⟩:=sb.rules
   go_wp2_with (refine wpList_load_row rfl 42 (.tmp 9) rfl _ rfl 42 _ (0,0) _ sb.h2 Tryz.underlying42 rfl (by kernel_rfl) ?_)
   refine Calls.mono HOne.out ?_
   rintro e w3 ⟨rfl,s3⟩
   clear HOne c1 f1 c2 f2 c3 f3 c4 f4 sb sg
   go_upto_region 18 with fail
   have s4:=s3.new (c:=#[U i6 H,U i6 V,U i6 C]) (t:=23)
   obtain⟨w4,hw4⟩:∃ w4,w3.alloc (.cells #[U i6 H,U i6 V,U i6 C] 23)=w4:=⟨_,rfl⟩
   rw [hw4] at s4 ⊢
   clear hw4
   obtain⟨c1,f1,zb1,c2,f2,zb2,c3,f3,zb3,c4,f4,zb4,c5,f5,zb5,-⟩:=s4.rules
   by_cases hE0:E=0
   rotate_left
   ·have hst':=stG_err hst (HT.out E (tk_e hE hE0)) hE0
    have hon:stG O (h,w,c) on=(E,(i:Int)+1,[],0):=by
     have:=stG_bad (O:=O) (s0:=(h,w,c)) (i:=i+1) (by rw [hst'];exact hE0) (on-(i+1))
     rw [show i+1+(on-(i+1))=on by omega] at this
     rw [this,hst']
    rw [HR.out] at hon
    simp only [Prod.mk.injEq] at hon
    have HE:Hid (Re=E∧Ra=(i:Int)+1∧RL=[]∧Rw=0):=hon
    clear hon hst' hst i1 i2 hCu
    go_wp2
    exact bodyPost_ret (v:=.tuple #[Sl none 0 0,U i6 0,.agg #[U i6 E,U i6 ((i:Int)+1),U i6 0]]) (by simp [results,Tryz.results61,go_sem, *]) rfl ⟨_,by rw [HE.out.1,HE.out.2.1,HE.out.2.2.2],by rw [HE.out.2.2.1];exact OSh.nil _ _,set3b s4.below (by omega)⟩
   subst hE0
   obtain⟨t1,t2,⟨ha0,han⟩,hk,hmk⟩:=op_0 hE i2
   obtain⟨j,hj⟩:=Int.eq_ofNat_of_zero_le ha0
   obtain⟨A1,A2,A3,hA⟩:∃ A1 A2 A3,ShA L (O i 1)=(A1,A2,A3):=⟨_,_,_,rfl⟩
   have hjn:j<i+1:=by omega
   have hcur:cur[j*3]? = some (U i6 A1)∧cur[j*3+1]? = some (U i6 A2)∧cur[j*3+2]? = some (U i6 A3):=by
    have:=hCu.at (i:=j) (by omega)
    rw [hj] at hA
    unfold ShA at hA
    rw [Int.toNat_natCast] at hA
    rw [hA] at this
    exact this
   have hgA:vS A1 A2 A3=true:=by have q:=i2 _ (ShA_mem (L:=L) (i:=j) (by omega));rw [hj] at hA;rw [hA] at q;exact q
   have hM3:mk3 (O i 0) (O i 3) (O i 4) (O i 5) (O i 6) (O i 7) (O i 8) (O i 9) (O i 10) (O i 11) (ShA L (O i 1))=(H,V,C):=by rw [← hS];unfold onS;rw [if_pos rfl]
   have hgO:vS H V C=true:=by rw [hM3] at t1;exact t1
   rw [hA] at hmk
   simp only at hmk
   obtain⟨st,hstt⟩:∃ st,stR (O i 0) (O i 4) (O i 5) A1 A2 A3=st:=⟨_,rfl⟩
   obtain⟨st1,st2⟩:1≤st∧st≤1048576:=by rw [← hstt];exact stR_bd hk hgA (mkE_win hmk)
   obtain⟨q,hq⟩:∃ q,H*V*C*st=q:=⟨_,rfl⟩
   have hoW:opW (O i 0) (O i 3) (O i 4) (O i 5) (O i 6) (O i 7) (O i 8) (O i 9) (O i 10) (O i 11) (ShA L (O i 1))=q:=by
    unfold opW st3
    rw [hM3,hA]
    simp only
    rw [hstt,hq]
   have hqb:q≤17179869184:=by
    obtain⟨-,p3,p4⟩:=vS_bd hgO
    obtain⟨-,q2⟩:=mul_bd p3 p4 st1 st2
    omega
   rw [hoW] at t2
   have hLab:Hid (∀ W,Calls Tryz.prog 78 #[.agg #[U i6 (O i 0),U i6 (j:Int),U i6 (O i 2),U i6 (O i 3),U i6 (O i 4),U i6 (O i 5),U i6 (O i 6),U i6 (O i 7),U i6 (O i 8),U i6 (O i 9),U i6 (O i 10),U i6 (O i 11),Sl wa lw cw,Sl ba lb cb,U i6 (O i 14),U i6 (O i 15),U i6 (O i 16),U i6 (O i 17),U i6 (O i 18),U i6 (O i 19),U i6 (O i 20),U i6 (O i 21)],.agg #[U i6 A1,U i6 A2,U i6 A3],.agg #[U i6 H,U i6 V,U i6 C]] W fun e w'=>e=.returned (U i6 q)∧Below W.heap.size W w'):=fun W=>by
    rw [← hq]
    exact labour_any (O i 0) (j:Int) (O i 2) (O i 3) (O i 4) (O i 5) (O i 6) (O i 7) (O i 8) (O i 9) (O i 10) (O i 11) wa lw cw ba lb cb (O i 14) (O i 15) (O i 16) (O i 17) (O i 18) (O i 19) (O i 20) (O i 21) A1 A2 A3 H V C st W hk hgA (mkE_win hmk) hstt ⟨st1,st2⟩ hgO
   rw [hj] at s4
   have H4:Hid (St W w4 ((w3.heap.size,#[U i6 H,U i6 V,U i6 C],23) :: (g,cur,23) :: (wr.heap.size,#[U i6 (O i 0),U i6 (j:Int),U i6 (O i 2),U i6 (O i 3),U i6 (O i 4),U i6 (O i 5),U i6 (O i 6),U i6 (O i 7),U i6 (O i 8),U i6 (O i 9),U i6 (O i 10),U i6 (O i 11),Sl wa lw cw,Sl ba lb cb,U i6 (O i 14),U i6 (O i 15),U i6 (O i 16),U i6 (O i 17),U i6 (O i 18),U i6 (O i 19),U i6 (O i 20),U i6 (O i 21)],42) :: (W.heap.size+1,#[U i6 0,U i6 0,U i6 0],79) :: (W.heap.size,#[U i6 h,U i6 w,U i6 c,U i6 lo,U i6 hi,Sl (some x) on oc,U i6 ot],26) :: [])):=s4
   have HoM:Hid (oM (O i) L=(H,V,C)):=hM3
   have HoW:Hid (oW (O i) L=q):=hoW
   have Hst:Hid (stG O (h,w,c) i=(0,0,L,wk)):=hst
   have HE:Hid (opE (O i 0) (O i 1) (O i 2) (O i 3) (O i 4) (O i 5) (O i 6) (O i 7) (O i 8) (O i 9) (O i 10) (O i 11) lw lb (O i 14) (O i 15) (O i 16) (O i 17) (O i 18) (O i 19) (O i 20) (O i 21) L=0):=hE
   have HWq:Hid (wk+opW (O i 0) (O i 3) (O i 4) (O i 5) (O i 6) (O i 7) (O i 8) (O i 9) (O i 10) (O i 11) (ShA L (O i 1))=wk+q):=by unfold Hid;rw [hoW]
   have HCu:Hid (Cu cur cap L):=hCu
   have HLn:Hid (L.length=i+1):=i1
   obtain⟨u1,u2,u3⟩:=hcur
   have b1:(0:Int)≤(j:Int):=by omega
   have b2:(j:Int)<(i:Int)+1:=by omega
   clear c1 f1 c2 f2 c3 f3 c4 f4 c5 f5 s3 s4 hE t1 hA hmk hM3 hstt hoW hq hst hCu i1 i2 hS ha0 han hj hgA hgO hk
   go_upto_region 20 with fail
   go_cut [7] (fun y wx=>y=U i6 (wk+q)∧St W wx ((w3.heap.size,#[U i6 H,U i6 V,U i6 C],23) :: (g,cur,23) :: (wr.heap.size,#[U i6 (O i 0),U i6 (j:Int),U i6 (O i 2),U i6 (O i 3),U i6 (O i 4),U i6 (O i 5),U i6 (O i 6),U i6 (O i 7),U i6 (O i 8),U i6 (O i 9),U i6 (O i 10),U i6 (O i 11),Sl wa lw cw,Sl ba lb cb,U i6 (O i 14),U i6 (O i 15),U i6 (O i 16),U i6 (O i 17),U i6 (O i 18),U i6 (O i 19),U i6 (O i 20),U i6 (O i 21)],42) :: (W.heap.size+1,#[U i6 0,U i6 0,U i6 0],79) :: (W.heap.size,#[U i6 h,U i6 w,U i6 c,U i6 lo,U i6 hi,Sl (some x) on oc,U i6 ot],26) :: []))
   case first =>
    have s4:=H4.out
    obtain⟨q1,y1,q2,y2,q3,y3,q4,y4,q5,y5,-⟩:=rulesQ_st s4
    have hne:=Nonempty.intro (Wd.mk _ s4)
    refine region_held s4 (by kernel_rfl) (by kernel_rfl) ?_
    go_big_quiet_step (fail)
    go_big_quiet_want
    refine quiet_ld 42 (.tmp 9) rfl _ rfl 42 _ _ (Wd.hp (List.mem_cons_of_mem _ (List.mem_cons_of_mem _ List.mem_cons_self))) Tryz.underlying42 rfl (by kernel_rfl) rfl ?_
    go_simp
    go_big_quiet_on
    repeat (go_big_quiet_step ((go_at_call 78;exact held_of (hLab.out _))))
    refine wpQuiet_nil ?_
    intro _ hw'
    obtain⟨nq,rfl⟩:=hw'
    refine (show ∀ a' w',Met _ a' w'→_ from by assumption) _ _ ?_
    go_meet
    exact⟨rfl,nq.h⟩
   case rest =>
   obtain⟨rfl,s5⟩:=hcut
   obtain⟨w5,rfl⟩:∃ wo,wo=wc:=⟨_,rfl⟩
   clear H4 hLab
   obtain⟨c1,f1,zc1,c2,f2,zc2,c3,f3,zc3,c4,f4,zc4,c5,f5,zc5,-⟩:=s5.rules
   by_cases hw:131072<wk+q
   ·have hst':=stG_err Hst.out (HT.out 86 (tk_w HE.out (by rw [HWq.out];exact hw))) (by decide)
    have hon:stG O (h,w,c) on=(86,(i:Int)+1,[],0):=by
     have:=stG_bad (O:=O) (s0:=(h,w,c)) (i:=i+1) (by rw [hst'];show (86:Int)≠0;decide) (on-(i+1))
     rw [show i+1+(on-(i+1))=on by omega] at this
     rw [this,hst']
    rw [HR.out] at hon
    simp only [Prod.mk.injEq] at hon
    have HE2:Hid (Re=86∧Ra=(i:Int)+1∧RL=[]∧Rw=0):=hon
    clear hon hst'
    go_wp2
    exact bodyPost_ret (v:=.tuple #[Sl none 0 0,U i6 0,.agg #[U i6 86,U i6 ((i:Int)+1),U i6 0]]) (by simp [results,Tryz.results61,go_sem, *]) rfl ⟨_,by rw [HE2.out.1,HE2.out.2.1,HE2.out.2.2.2],by rw [HE2.out.2.2.1];exact OSh.nil _ _,set3b s5.below (by omega)⟩
   have hst':=stG_ok Hst.out (HT.out 0 (tk_k HE.out (by rw [HWq.out];exact hw)))
   rw [HoM.out,HoW.out] at hst'
   have Hst2:Hid (stG O (h,w,c) (i+1)=(0,0,L++[(H,V,C)],wk+q)):=hst'
   clear hst'
   have s6:=s5.skip (.cells #[U i6 H,U i6 V,U i6 C] 23)
   have zs5:=s5.size
   have hO6:OSh (w5.alloc (.cells #[U i6 H,U i6 V,U i6 C] 23)) W.heap.size (.slice (some ⟨g,0,none⟩) (i+1) cap) L:=by
    have:=osh_cu (base:=W.heap.size) s6.h2 hgb HCu.out hcap
    rw [HLn.out] at this
    exact this
   have HO6:Hid (OSh (w5.alloc (.cells #[U i6 H,U i6 V,U i6 C] 23)) W.heap.size (.slice (some ⟨g,0,none⟩) (i+1) cap) L):=hO6
   have hown6:World.ownsRow _ _ _ _ _ _ _:=hO6
   rw [HLn.out] at hown6
   have HW6:Hid (World.ownsRow _ _ _ _ _ _ _):=hown6
   obtain⟨i0,hi1,hz0,hz1,hz2⟩:=info_parts (show (Tryz.prog.info? 23).map (fun i=>(i.zero,i.size,i.bytes))=some (some (.agg #[U i6 0,U i6 0,U i6 0]),3,24) by kernel_rfl)
   clear hO6 hown6
   go_upto_region 23 with fail
   go_upto_region 24 with (at_builtin;refine wpList_append_own _ rfl (.tmp 92) (.tmp 94) 77 rfl W.heap.size 23 i0 _ 3 24 Tryz.underlying77 hi1 hz0 hz1 hz2 rfl (by decide) (.slice (some ⟨g,0,none⟩) (i+1) cap) (i+1) (s3 L) rfl HW6.out ⟨w5.heap.size,0,none⟩ 1 1 [U i6 H,U i6 V,U i6 C] rfl rfl (new_cells (heap_alloc_new w5 _)) (by simp [Value.oneCell']) (by unfold maxLen;omega) (by omega) (by simp;omega) ?_;intro v2 w7 hown hgr hnn;have hO7:OSh w7 W.heap.size v2 (L++[(H,V,C)]):=(by unfold OSh;rw [s3_app,List.length_append,HLn.out];exact hown);have s7:=s6.tail.tail.tail.grown hgr (fun b e=>HO6.out.lt b e) (fun y hy=>by simp only [List.mem_cons,List.not_mem_nil,or_false] at hy;rcases hy with rfl | rfl;exact own_ne HW6.out s6.h4 (by decide);exact own_ne HW6.out s6.tail.h4 (by decide));obtain⟨va2,vc2,hv2⟩:=hO7.slice;rw [List.length_append,HLn.out,show i+1+[(H,V,C)].length=i+1+1 from rfl] at hv2;subst hv2;clear hown hgr hnn s6)
   have HO7:Hid (OSh w7 W.heap.size _ _):=hO7
   have Hs7:Hid (St W w7 _):=s7
   clear hO7 s7
   go_wp2
   go_round
   case rel=>exact⟨i+1,_,_,by omega,by go_num,rfl,Hst2.out,HO7.out,Hs7.out⟩
   case measure=>simp [intOf];omega
theorem look_any (h w c lo hi ot:Int) (oa:Option Addr) (on oc:Nat) (O:Nat→Nat→Int) (Z B:Nat→List Int) (W:World) (hL:LRow W oa on oc O Z B) (hon:on≤1000000000000) :
  Calls Tryz.prog 61 #[.agg #[U i6 h,U i6 w,U i6 c,U i6 lo,U i6 hi,Sl oa on oc,U i6 ot]] W fun e w'=>∃ v,e=.returned (.tuple #[v,U i6 (gtR O h w c lo hi ot on).2.2.2,.agg #[U i6 (gtR O h w c lo hi ot on).1,U i6 (gtR O h w c lo hi ot on).2.1,U i6 0]])∧OSh w' W.heap.size v (gtR O h w c lo hi ot on).2.2.1∧Below W.heap.size W w':=by
 by_cases hx:ouE h w c lo hi ot on=0
 ·obtain⟨Re,Ra,RL,Rw,hR⟩:∃ Re Ra RL Rw,stG O (h,w,c) on=(Re,Ra,RL,Rw):=⟨_,_,_,_,rfl⟩
  rw [gtR_of hx,hR]
  exact look_g h w c lo hi ot oa on oc O Z B W hL hx Re Ra Rw RL hR
 ·have e:gtR O h w c lo hi ot on=(ouE h w c lo hi ot on,0,[],0):=by unfold gtR;rw [if_pos hx]
  rw [e]
  refine (look_o h w c lo hi ot oa on oc W _ rfl hx hon).mono ?_
  rintro e' w' ⟨rfl,hb⟩
  exact⟨_,rfl,OSh.nil _ _,hb⟩
theorem OSh.sv {w:World} {base:Nat} {v:Value} {L:List (Int×Int×Int)} (h:OSh w base v L):SV w v L:=by
 rcases h.2 with ⟨rfl,q⟩ | ⟨g,cap,cur,rfl,h2,h3,h4,h5,h6,h7⟩
 ·obtain rfl:=List.eq_nil_of_length_eq_zero q
  exact⟨none,0,rfl,Nat.le_refl _,by unfold maxLen;omega,fun h=>by cases h⟩
 ·exact sv_cu h3 ⟨h6,h4,h7⟩ h5 L.length (Nat.le_refl _) (by simp)
end Go.Proofs.YtccoanknofhmaaaGreat
