/- Plans that differ in what they claim; plans of 32 bits alone (plain). The document's Copy of layer 15: what it returns. The walk of KernWide. The walk of KernOps. What the document's Op of layer 21 returns of what its Check takes; the walk of KernOps in the form of the frame. -/
import Derived.Test.YtehofmkpgopmpaaGreatGq13
import Derived.Test.YtehofmkpgopmpaaGreatGq25
import Derived.Test.YtehofmkpgopmpaaGreatGq26
import Derived.Test.YtehofmkpgopmpaaGreatGq27
import Derived.Test.YtehofmkpgopmpaaGreatGq31
import Derived.Test.YtehofmkpgopmpaaGreatGq32
import Derived.Deep.DeepCutAuto
namespace Go.Proofs.YtehofmkpgopmpaaGreat.Kr
open Go.Value renaming int → U, slice → Sl
open Go.IntKind renaming i64 → i6
set_option maxRecDepth 100000
set_option maxHeartbeats 16000000
open Go.ChangeShapes Go.WideShapes Go.ChangeAt Go.RowKit
set_option linter.unusedVariables false
def cm (l u:Int) (q:Pl):Pl:=(q.1,q.2.1,l,u,l,u)
def Tr.wd (t:Tr):Prop:=t.m=0∧t.a=0∧t.l=0∧t.h=0∧t.m2=t.a2
theorem Tr.wd.jn {s t:Tr} (h:s.wd) (g:t.wd):(s.jn t).wd:=by
 obtain⟨h1,h2,h3,h4,h5⟩:=h
 obtain⟨g1,g2,g3,g4,g5⟩:=g
 refine⟨?_,?_,?_,?_,?_⟩
 ·show s.m+t.m=0;omega
 ·show s.a+t.a=0;omega
 ·show loE s.a s.l t.a t.l=0
  unfold loE;rw [if_pos h2,if_pos g2]
 ·show hiE s.a s.h t.a t.h=0
  unfold hiE;rw [if_pos h2,if_pos g2]
 ·show s.m2+t.m2=s.a2+t.a2;omega
end Go.Proofs.YtehofmkpgopmpaaGreat.Kr
namespace Go.Proofs.YtehofmkpgopmpaaGreat
open Go.Value renaming int → U, slice → Sl
open Go.IntKind renaming i64 → i6
set_option maxRecDepth 100000
set_option maxHeartbeats 16000000
open Go.ChangeShapes Go.WideShapes Go.ChangeAt Go.RowKit
set_option linter.unusedVariables false
theorem flat_len {α:Type} {nc:Nat} {E:α→List Value} (hE:∀ p,(E p).length=nc):∀ ys:List α,(ys.flatMap E).length=ys.length*nc
 | []=>by simp
 | p :: r=>by rw [List.flatMap_cons,List.length_append,hE,flat_len hE r,List.length_cons,Nat.add_mul,Nat.one_mul,Nat.add_comm]
theorem flat_at {α:Type} {nc:Nat} {E:α→List Value} (hE:∀ p,(E p).length=nc):∀ (ys:List α) (j:Nat) (u:Value),(ys.flatMap E)[j]? = some u→∃ i p q,ys[i]? = some p∧(E p)[q]? = some u∧j=i*nc+q
 | [],j,u,h=>by simp at h
 | p :: r,j,u,h=>by
  rw [List.flatMap_cons] at h
  rcases Nat.lt_or_ge j nc with g | g
  ·rw [List.getElem?_append_left (by rw [hE];exact g)] at h
   exact⟨0,p,j,rfl,h,by omega⟩
  ·rw [List.getElem?_append_right (by rw [hE];exact g),hE] at h
   obtain⟨i,p',q,h1,h2,h3⟩:=flat_at hE r _ u h
   exact⟨i+1,p',q,by simpa using h1,h2,by rw [Nat.add_mul,Nat.one_mul];omega⟩
theorem flat_of {α:Type} {nc:Nat} {E:α→List Value} (hE:∀ p,(E p).length=nc):∀ (ys:List α) (i:Nat) (p:α) (q:Nat) (u:Value),ys[i]? = some p→(E p)[q]? = some u→(ys.flatMap E)[i*nc+q]? = some u
 | [],i,p,q,u,h,_=>by simp at h
 | p' :: r,0,p,q,u,h,hq=>by
  simp only [List.getElem?_cons_zero,Option.some.injEq] at h
  subst h
  rw [List.flatMap_cons,Nat.zero_mul,Nat.zero_add,List.getElem?_append_left (List.getElem?_eq_some_iff.1 hq).1]
  exact hq
 | p' :: r,i+1,p,q,u,h,hq=>by
  rw [List.flatMap_cons,List.getElem?_append_right (by rw [hE,Nat.add_mul];omega),hE,show (i+1)*nc+q-nc=i*nc+q by rw [Nat.add_mul];omega]
  exact flat_of hE r i p q u (by simpa using h) hq
theorem pcs_len (p:Pl):(pcs p).length=6:=rfl
theorem pcs_one (p:Pl):∀ u∈pcs p,u.oneCell'=true:=by simp [pcs,Value.oneCell']
theorem owns_erow {α:Type} {nc:Nat} {E:α→List Value} (hE:∀ p,(E p).length=nc) {w:World} {base:Nat} {T:TypeId} {a:Option Addr} {n cap:Nat} {ys:List α} (h:w.ownsRow base T nc (.slice a n cap) n (ys.flatMap E)) (hl:ys.length=n):ERow nc E w a n cap ys:=by
 rcases h.2 with ⟨e,e0⟩ | ⟨g,cap',cur,e,hb,hg,hn,hm,hs,ht⟩
 ·cases e
  exact⟨hl,Nat.le_refl _,by unfold maxLen;omega,fun _=>rfl,fun x hx=>by cases hx⟩
 ·cases e
  refine⟨hl,hn,hm,fun q=>(by cases q),fun x hx i p hp j v hv=>?_⟩
  cases hx
  rw [Addr.add_add]
  exact h.cells rfl _ _ (flat_of hE ys i p j v hp hv)
theorem owns_below {w w':World} {base:Nat} {e:TypeId} {size:Nat} {v:Value} {n:Nat} {xs:List Value} (h:w.ownsRow base e size v n xs) (q:Below w.heap.size w w'):w'.ownsRow base e size v n xs:=by
 refine h.kept (row:=none) ⟨q.os,q.tape,q.output,q.size,fun i hi _=>q.block i hi⟩ ?_
 cases hv:v.ownBlock with
 | none=>exact .inl rfl
 | some b=>exact .inr (by simp)
theorem owns_slice {w:World} {base:Nat} {e:TypeId} {size:Nat} {v:Value} {n:Nat} {xs:List Value} (h:w.ownsRow base e size v n xs):∃ a cap,v=.slice a n cap:=by
 rcases h.2 with ⟨rfl,rfl⟩ | ⟨f,cap,cur,rfl,-⟩
 ·exact⟨_,_,rfl⟩
 ·exact⟨_,_,rfl⟩
def QOwn (w:World) (base:Nat) (v:Value) (P:List (List Pl)):Prop :=
 ∃ f:Nat→Value,w.ownsRow base 27 1 v P.length ((List.range P.length).map f)∧(∀ i l,P[i]? = some l→w.ownsRow base 63 6 (f i) l.length (l.flatMap pcs)∧l.length*48≤140737488351232) ∧
  ∀ i j,i<j→j<P.length→∀ b b',(f i).ownBlock=some b→(f j).ownBlock=some b'→b<b'
theorem QOwn.below {w w':World} {base:Nat} {v:Value} {P:List (List Pl)} (h:QOwn w base v P) (q:Below w.heap.size w w'):QOwn w' base v P:=by
 obtain⟨f,h1,h2,h3⟩:=h
 exact⟨f,owns_below h1 q,fun i l hl=>⟨owns_below (h2 i l hl).1 q,(h2 i l hl).2⟩,h3⟩
theorem QOwn.nil (w:World) (base:Nat):QOwn w base (.slice none 0 0) []:=⟨fun _=>.slice none 0 0,World.ownsRow_nil _ _ _ _,fun i l hl=>by simp at hl,fun i j _ hj=>by simp at hj⟩
theorem QOwn.slice {w:World} {base:Nat} {v:Value} {P:List (List Pl)} (h:QOwn w base v P):∃ a cap,v=.slice a P.length cap:=by
 obtain⟨f,h1,-⟩:=h
 exact owns_slice h1
theorem QOwn.q {w:World} {base:Nat} {a:Option Addr} {n cap:Nat} {P:List (List Pl)} (h:QOwn w base (.slice a n cap) P):QRow w a n cap P:=by
 obtain⟨f,h1,h2,-⟩:=h
 rcases h1.2 with ⟨e,e0⟩ | ⟨g,cap',cur,e,hb,hg,hn,hm,hs,ht⟩
 ·cases e
  exact⟨e0,Nat.le_refl _,by unfold maxLen;omega,fun _=>rfl,fun x hx=>by cases hx⟩
 ·cases e
  refine⟨rfl,hn,hm,fun q=>(by cases q),fun x hx i l hl=>?_⟩
  cases hx
  have hi:i<P.length:=(List.getElem?_eq_some_iff.1 hl).1
  obtain⟨g1,g2⟩:=h2 i l hl
  obtain⟨ca,cc,e⟩:=owns_slice g1
  refine⟨ca,cc,?_,?_,g2⟩
  ·refine h1.cells rfl _ _ ?_
   rw [List.getElem?_map,List.getElem?_range hi,Option.map_some,e]
  ·rw [e] at g1
   exact owns_erow pcs_len g1 rfl
end Go.Proofs.YtehofmkpgopmpaaGreat
namespace Go.Proofs.YtehofmkpgopmpaaGreat.Kr
open Go.Value renaming int → U, slice → Sl
open Go.IntKind renaming i64 → i6
set_option maxRecDepth 100000
set_option maxHeartbeats 16000000
open Go.ChangeShapes Go.WideShapes Go.ChangeAt Go.RowKit
set_option linter.unusedVariables false
def PlIn (cs:List Value):Prop :=
 ∃ (b0:Int) (b1:Int) (b2:Int) (b3:Int) (b4:Int) (b5:Int),cs=[U i6 b0,U i6 b1,U i6 b2,U i6 b3,U i6 b4,U i6 b5]∧(Lit.int .i64 b0).wf=true∧(Lit.int .i64 b1).wf=true∧(Lit.int .i64 b2).wf=true∧(Lit.int .i64 b3).wf=true∧(Lit.int .i64 b4).wf=true∧(Lit.int .i64 b5).wf=true
theorem chans_of {w:World} {a:Option Addr} {n c:Nat} (h:ORow 6 PlIn w a n c):∃ R,ERow 6 pcs w a n c R:=by
 obtain⟨h1,h2,h3,h4⟩:=h
 cases a with
 | none =>
  have:=h3 rfl
  obtain rfl:n=0:=by omega
  exact⟨[],⟨rfl,by omega,h2,h3,fun x hx=>by cases hx⟩⟩
 | some x =>
  have q:∀ i,∃ p:Pl,(i<n→∀ j v,(pcs p)[j]? = some v→w.cell? ((x.add (i*6)).add j)=some v):=by
   intro i
   by_cases hi:i<n
   ·obtain⟨cs,-,⟨b0,b1,b2,b3,b4,b5,rfl,-⟩,g⟩:=h4 x rfl i hi
    refine⟨(b0,b1,b2,b3,b4,b5),fun _ j v hv=>?_⟩
    have hj:j<6:=(List.getElem?_eq_some_iff.1 hv).1
    rw [Addr.add_add,g j hj]
    exact hv
   ·exact⟨(0,0,0,0,0,0),fun q=>absurd q hi⟩
  refine⟨(List.range n).map fun i=>Classical.choose (q i),by simp,h1,h2,h3,fun y hy i p hp j v hv=>?_⟩
  cases hy
  have hi:i<n:=by simpa using (List.getElem?_eq_some_iff.1 hp).1
  rw [List.getElem?_map,List.getElem?_range hi] at hp
  simp only [Option.map_some,Option.some.injEq] at hp
  subst hp
  exact Classical.choose_spec (q i) hi j v hv
theorem eqTr (a1 a2 a3 a4 a5 a6 a7 a8 a9:Int):∀ W,(binOp .eql 32 (.agg #[U i6 a1,U i6 a2,U i6 a3,U i6 a4,U i6 a5,U i6 a6,U i6 a7,U i6 a8,U i6 a9]) (.agg #[U i6 a1,U i6 a2,U i6 a3,U i6 a4,U i6 a5,U i6 a6,U i6 a7,U i6 a8,U i6 a9])).run Tryz.prog W=.ok (.bool true) W:=by
 intro W;simp [go_sem]
theorem oneC {P:Program} {ops:Array Oper} {md:Region.Mode} {C:World→Prop} {Q:Exit→Act→World→Prop} (i:Nat) {fuel:Nat} {listed:Array Bool} {a:Act} {w:World} (hC:C w) (hr:Region.ready md ops listed=[i])
  (h1:wpOpIn Fence.wide 3 P ops Q i (wpAnyC Fence.wide 3 P md ops C Q fuel (listed.setIfInBounds i true)) a w):wpAnyC Fence.wide 3 P md ops C Q (fuel+1) listed a w :=
 ⟨hC,fun h0=>(by rw [hr] at h0;cases h0),fun k hk=>by
  rw [hr] at hk
  simp only [List.mem_cons,List.not_mem_nil,or_false] at hk
  subst hk
  exact h1⟩
theorem opA {nc by8:Nat} {T S:TypeId} {zv:Value} (hu:Tryz.prog.underlying S=some (.slice T)) (hin:(Tryz.prog.info? T).map (fun i=>(i.zero,i.size,i.bytes))=some (some zv,nc,by8)) (hzs:zv.cells.size=nc) (hnc:0<nc) (hby:1≤by8)
  {ops:Array Oper} {md:Region.Mode} {C:World→Prop} {Q:Exit→Act→World→Prop} {i:Nat} {o:Oper} {fuel:Nat} {listed:Array Bool} {a:Act} {w:World} (hO:ops[i]? = some o) (hg:o.guard=none)
  (s x:Operand) (ho:o.op=.call { callee:=.builtin .append,args:=#[s,x],argTypes:=#[S,S] })
  (base g:Nat) (hs:a.eval s=.slice (some ⟨g,0,none⟩) 0 0) (hown:w.ownsRow base T nc (.slice (some ⟨g,0,none⟩) 0 0) 0 []) (ao:Option Addr) (m c:Nat) (news:List Value) (hx:a.eval x=.slice ao m c) (hl:news.length=m*nc) (hmc:m≤c) (hnone:ao=none→c=0)
  (hc:∀ b,ao=some b→∀ j u,news[j]? = some u→w.cell? (b.add j)=some u) (h1:∀ u∈news,u.oneCell'=true) (hlen:m*by8≤140737488351232) (hbase:base≤w.heap.size)
  (h:∀ v' w',w'.ownsRow base T nc v' m news→(v'.ownBlock=some g∨∀ b,v'.ownBlock=some b→w.heap.size≤b)→w.grownBy w' (some g)→wpAnyC Fence.wide 3 Tryz.prog md ops C Q fuel (listed.setIfInBounds i true) (a.put o.dst v') w') :
  wpOpIn Fence.wide 3 Tryz.prog ops Q i (wpAnyC Fence.wide 3 Tryz.prog md ops C Q fuel (listed.setIfInBounds i true)) a w:=by
 obtain⟨v',w',hrun,r1,r2,r3⟩:=run_apE hu hin hzs hnc hby (w:=w) (o:=o) (a:=a) s x ho base g hs hown ao m c news hx hl hmc hnone hc h1 hlen hbase
 exact opR hO hg v' w' hrun (h v' w' r1 r2 r3)
theorem own_nil (w:World) (T:TypeId) (nc base:Nat) (hb:base≤w.heap.size):(w.alloc (.cells #[] T)).ownsRow base T nc (.slice (some ⟨w.heap.size,0,none⟩) 0 0) 0 [] :=
 ⟨by simp,.inr ⟨w.heap.size,0,#[],rfl,hb,heap_alloc_new _ _,Nat.le_refl _,by unfold maxLen;omega,by simp,by simp⟩⟩
theorem owns_bel {w w':World} {base nc n:Nat} {T:TypeId} {v:Value} {xs:List Value} (h:w.ownsRow base T nc v n xs) (g:Below w.heap.size w w'):w'.ownsRow base T nc v n xs:=by
 refine World.ownsRow.kept h (row:=none) ⟨g.os,g.tape,g.output,g.size,fun i hi _=>g.block i hi⟩ ?_
 cases e:v.ownBlock with
 | none=>exact .inl rfl
 | some b=>exact .inr (by simp)
theorem blk_new {w:World} {base nc n:Nat} {T:TypeId} {v:Value} {xs:List Value} (h:w.ownsRow base T nc v n xs):v.ownBlock≠some w.heap.size:=fun e=>by
 have:=(World.ownsRow.lt h _ e).2
 omega
theorem new_blk {w:World} {base nc g:Nat} {T:TypeId} (h:w.ownsRow base T nc (.slice (some ⟨g,0,none⟩) 0 0) 0 []):(Value.slice (some ⟨w.heap.size,0,none⟩) 0 0).ownBlock≠some g:=fun e=>by
 have h1:=(World.ownsRow.lt h g rfl).2
 simp [Value.ownBlock] at e
 omega
theorem ap_blk {w:World} {base nc g g':Nat} {T:TypeId} {v':Value} (r:v'.ownBlock=some g∨∀ b,v'.ownBlock=some b→w.heap.size≤b) (h:w.ownsRow base T nc (.slice (some ⟨g',0,none⟩) 0 0) 0 []) (e:(Value.slice (some ⟨g',0,none⟩) 0 0).ownBlock≠some g):v'.ownBlock≠some g':=fun q=>by
 rcases r with r | r
 ·rw [r] at q
  exact e q.symm
 ·have h1:=(World.ownsRow.lt h g' rfl).2
  have h2:=r g' q
  omega
theorem nil_lt {w:World} {base nc g:Nat} {T:TypeId} (h:w.ownsRow base T nc (.slice (some ⟨g,0,none⟩) 0 0) 0 []):base≤g:=(World.ownsRow.lt h g rfl).1
theorem flatC_cells {w:World} {a:Option Addr} {n c:Nat} {PS:List Pl} (h:ERow 6 pcs w a n c PS):∀ b,a=some b→∀ j u,(PS.flatMap pcs)[j]? = some u→w.cell? (b.add j)=some u:=fun b hb j u hj=>by
 obtain⟨i,p,q,g1,g2,rfl⟩:=flat_at pcs_len PS j u hj
 rw [← Addr.add_add]
 exact h.2.2.2.2 b hb i p g1 q u g2
theorem int_cells {k:IntKind} {w:World} {a:Option Addr} {n c:Nat} {zs:List Int} (h:IRow k w a n c zs):∀ b,a=some b→∀ j u,(zs.map (Value.int k))[j]? = some u→w.cell? (b.add j)=some u:=fun b hb j u hj=>by
 have hj':j<n:=by
  have:=(List.getElem?_eq_some_iff.1 hj).1
  rw [List.length_map,h.1] at this
  exact this
 rw [h.2.2.2.2.2 b hb j hj']
 have hz:j<zs.length:=by rw [h.1];exact hj'
 simp [List.getD,hz] at hj ⊢
 exact hj
theorem ops_w (h w c lo hi ot:Int) (oa:Option Addr) (on oc:Nat) (op:Int) (pa:Option Addr) (pl pc:Nat) (PS:List Pl) (ad:Option Addr) (n cap:Nat) (xs:List Int) (bd:Option Addr) (nb capb:Nat) (ys:List Int) (W:World)
  (hX:IRow .i8 W ad n cap xs) (hrx:n*1≤140737488351232) (hY:IRow .i8 W bd nb capb ys) (hry:nb*1≤140737488351232) (hPS:ERow 6 pcs W pa pl pc PS) (hrp:pl*48≤140737488351232) (T:Tr) (L:List Int) (F1 F2 F3:Int) (hF0:F1≠0→L=[]∧T=Tr.z)
  (hOp:∀ (W':World),Below W.heap.size W W'→Calls Tryz.prog 4 #[.agg #[U i6 h,U i6 w,U i6 c,U i6 lo,U i6 hi,Sl oa on oc,U i6 ot],U i6 op,Sl pa pl pc,Sl ad n cap,Sl bd nb capb] W' fun e w'=>(∃ v,e=.returned (.tuple #[v,.agg T.cs,.agg #[U i6 F1,U i6 F2,U i6 F3]])∧Own .i8 72 w' W'.heap.size v L)∧Below W'.heap.size W' w')
  (hCk:∀ (W':World),Below W.heap.size W W'→∀ (pa':Option Addr) (pc':Nat) (aa:Option Addr) (ca:Nat) (ab:Option Addr) (cb:Nat),ERow 6 pcs W' pa' pl pc' PS→IRow .i8 W' aa n ca xs→IRow .i8 W' ab nb cb ys →
    Calls Tryz.prog 5 #[.agg #[U i6 h,U i6 w,U i6 c,U i6 lo,U i6 hi,Sl oa on oc,U i6 ot],U i6 op,Sl pa' pl pc',Sl aa n ca,Sl ab nb cb] W' fun e w'=>e=.returned (.agg #[U i6 F1,U i6 F2,U i6 F3])∧Below W'.heap.size W' w')
  (hRo:F1=0→∀ (W':World),Below W.heap.size W W'→∀ (pa':Option Addr) (pc':Nat) (aa:Option Addr) (ca:Nat) (ab:Option Addr) (cb:Nat),ERow 6 pcs W' pa' pl pc' PS→IRow .i8 W' aa n ca xs→IRow .i8 W' ab nb cb ys →
    Calls Tryz.prog 9 #[.agg #[U i6 h,U i6 w,U i6 c,U i6 lo,U i6 hi,Sl oa on oc,U i6 ot],U i6 op,Sl pa' pl pc',Sl aa n ca,Sl ab nb cb] W' fun e w'=>(∃ v,e=.returned (.tuple #[v,.agg T.cs])∧Own .i8 72 w' W'.heap.size v L)∧Below W'.heap.size W' w') :
  Calls Tryz.prog 3 #[.agg #[U i6 h,U i6 w,U i6 c,U i6 lo,U i6 hi,Sl oa on oc,U i6 ot,U i6 op,Sl pa pl pc,Sl ad n cap,Sl bd nb capb]] W fun e w'=>e=.returned (.bool true)∧Below W.heap.size W w':=by
 have HX:Hid (IRow .i8 W ad n cap xs):=hX
 have HY:Hid (IRow .i8 W bd nb capb ys):=hY
 have HPS:Hid (ERow 6 pcs W pa pl pc PS):=hPS
 have HPL:Hid (PS.length=pl):=hPS.1
 have HOP:Hid (∀ (W':World),Below W.heap.size W W'→_):=hOp
 have HCK:Hid (∀ (W':World),Below W.heap.size W W'→_):=hCk
 have HRO:Hid (F1=0→∀ (W':World),Below W.heap.size W W'→_):=hRo
 have HF0:Hid (F1≠0→L=[]∧T=Tr.z):=hF0
 have HFX:Hid (∀ W,_):=fixed_any
 clear hOp hCk hRo hF0 hX hY hPS
 have s0:=(St.start W).new (c:=#[U i6 h,U i6 w,U i6 c,U i6 lo,U i6 hi,Sl oa on oc,U i6 ot,U i6 op,Sl pa pl pc,Sl ad n cap,Sl bd nb capb]) (t:=30)
 go_enter Tryz.func3,Tryz.ntmps3
 go_upto_region 1 with fail
 obtain⟨w1,hw1⟩:∃ w1,W.alloc (.cells #[U i6 h,U i6 w,U i6 c,U i6 lo,U i6 hi,Sl oa on oc,U i6 ot,U i6 op,Sl pa pl pc,Sl ad n cap,Sl bd nb capb] 30)=w1:=⟨_,rfl⟩
 rw [hw1] at s0 ⊢
 have S1:Hid (St W w1 [(W.heap.size,#[U i6 h,U i6 w,U i6 c,U i6 lo,U i6 hi,Sl oa on oc,U i6 ot,U i6 op,Sl pa pl pc,Sl ad n cap,Sl bd nb capb],30)]):=s0
 clear s0 hw1
 go_cut [3,4,5] from 12 to 23 (fun sa sb sc wx=>∃ (pa':Option Addr) (pc':Nat) (aa:Option Addr) (ca:Nat) (ab:Option Addr) (cb:Nat),sa=.slice pa' pl pc'∧sb=.slice aa n ca∧sc=.slice ab nb cb∧Below w1.heap.size w1 wx∧ERow 6 pcs wx pa' pl pc' PS∧IRow .i8 wx aa n ca xs∧IRow .i8 wx ab nb cb ys)
 case first =>
  refine regionC (fun w'=>Below w1.heap.size w1 w') (by kernel_rfl) ?_
  obtain⟨wd,hwd⟩:∃ wd,w1.drew=wd:=⟨_,rfl⟩
  have HD:Hid (Below w1.heap.size w1 wd):=by unfold Hid;rw [← hwd];exact (Below.refl _ _).drew
  rw [hwd]
  clear hwd
  have HG:Hid (∀ w',Below w1.heap.size w1 w'→w'.heap[W.heap.size]? = some (.cells #[U i6 h,U i6 w,U i6 c,U i6 lo,U i6 hi,Sl oa on oc,U i6 ot,U i6 op,Sl pa pl pc,Sl ad n cap,Sl bd nb capb] 30 (0,0))):=fun w' hw'=>(S1.out.call hw').h1
  have HC0:Hid (∀ w',Below w1.heap.size w1 w'→∀ b,pa=some b→∀ j u,(PS.flatMap pcs)[j]? = some u→w'.cell? (b.add j)=some u):=fun w' hw'=>flatC_cells (HPS.out.below (S1.out.call hw').below)
  have HC1:Hid (∀ w',Below w1.heap.size w1 w'→∀ b,ad=some b→∀ j u,(xs.map (Value.int .i8))[j]? = some u→w'.cell? (b.add j)=some u):=fun w' hw'=>int_cells (HX.out.below (S1.out.call hw').below)
  have HC2:Hid (∀ w',Below w1.heap.size w1 w'→∀ b,bd=some b→∀ j u,(ys.map (Value.int .i8))[j]? = some u→w'.cell? (b.add j)=some u):=fun w' hw'=>int_cells (HY.out.below (S1.out.call hw').below)
  have HL0:Hid ((PS.flatMap pcs).length=pl*6∧pl≤pc∧(pa=none→pc=0)∧∀ u∈PS.flatMap pcs,u.oneCell'=true):=⟨by rw [flat_len pcs_len,HPL.out],HPS.out.2.1,HPS.out.2.2.2.1,fun u hu=>by obtain⟨p,-,hp⟩:=List.mem_flatMap.1 hu;exact pcs_one p u hp⟩
  have HL1:Hid ((xs.map (Value.int .i8)).length=n*1∧n≤cap∧(ad=none→cap=0)∧∀ u∈xs.map (Value.int .i8),u.oneCell'=true):=⟨by rw [List.length_map,HX.out.1,Nat.mul_one],HX.out.2.1,HX.out.2.2.2.2.1,ints_oneCell _ _⟩
  have HL2:Hid ((ys.map (Value.int .i8)).length=nb*1∧nb≤capb∧(bd=none→capb=0)∧∀ u∈ys.map (Value.int .i8),u.oneCell'=true):=⟨by rw [List.length_map,HY.out.1,Nat.mul_one],HY.out.2.1,HY.out.2.2.2.2.1,ints_oneCell _ _⟩
  have HFIN:Hid (∀ (v0 v1 v2:Value) (w9:World),w9.ownsRow w1.heap.size 63 6 v0 pl (PS.flatMap pcs)→w9.ownsRow w1.heap.size 72 1 v1 n (xs.map (Value.int .i8))→w9.ownsRow w1.heap.size 72 1 v2 nb (ys.map (Value.int .i8))→∃ (pa':Option Addr) (pc':Nat) (aa:Option Addr) (ca:Nat) (ab:Option Addr) (cb:Nat),v0=.slice pa' pl pc'∧v1=.slice aa n ca∧v2=.slice ab nb cb∧ERow 6 pcs w9 pa' pl pc' PS∧IRow .i8 w9 aa n ca xs∧IRow .i8 w9 ab nb cb ys):=fun v0 v1 v2 w9 o0 o1 o2=>by
   obtain⟨a0,c0,rfl⟩:=owns_slice o0
   have e1:Own .i8 72 w9 w1.heap.size v1 xs:=⟨by rw [HX.out.1];exact o1,HX.out.2.2.2.1⟩
   have e2:Own .i8 72 w9 w1.heap.size v2 ys:=⟨by rw [HY.out.1];exact o2,HY.out.2.2.2.1⟩
   obtain⟨a1,c1,q1,r1,-⟩:=e1.row
   obtain⟨a2,c2,q2,r2,-⟩:=e2.row
   rw [HX.out.1] at q1 r1
   rw [HY.out.1] at q2 r2
   exact⟨a0,c0,a1,c1,a2,c2,rfl,q1,q2,owns_erow pcs_len o0 HPL.out,r1,r2⟩
  refine takeC 1 (v:=.pointer (some ⟨W.heap.size,8,none⟩)) rfl rfl (by kernel_rfl) (by kernel_rfl) (by kernel_rfl) (fun _ _ _ h=>h) (fun _=>rfl) rfl (fun w' hw'=>by go_simp) ?_
  refine takeC 2 (v:=.slice pa pl pc) rfl rfl (by kernel_rfl) (by kernel_rfl) (by kernel_rfl) (fun _ _ _ h=>h) (fun _=>rfl) rfl (fun w' hw'=>by have hc:=(cells_at (HG.out w' hw')).1 8;go_simp) ?_
  refine takeC 5 (v:=.pointer (some ⟨W.heap.size,9,none⟩)) rfl rfl (by kernel_rfl) (by kernel_rfl) (by kernel_rfl) (fun _ _ _ h=>h) (fun _=>rfl) rfl (fun w' hw'=>by go_simp) ?_
  refine takeC 6 (v:=.slice ad n cap) rfl rfl (by kernel_rfl) (by kernel_rfl) (by kernel_rfl) (fun _ _ _ h=>h) (fun _=>rfl) rfl (fun w' hw'=>by have hc:=(cells_at (HG.out w' hw')).1 9;go_simp) ?_
  refine takeC 9 (v:=.pointer (some ⟨W.heap.size,10,none⟩)) rfl rfl (by kernel_rfl) (by kernel_rfl) (by kernel_rfl) (fun _ _ _ h=>h) (fun _=>rfl) rfl (fun w' hw'=>by go_simp) ?_
  refine takeC 10 (v:=.slice bd nb capb) rfl rfl (by kernel_rfl) (by kernel_rfl) (by kernel_rfl) (fun _ _ _ h=>h) (fun _=>rfl) rfl (fun w' hw'=>by have hc:=(cells_at (HG.out w' hw')).1 10;go_simp) ?_
  refine viaC (fun G A=>∀ (wz:World) (g0:Nat) (v0:Value) (g1:Nat) (v1:Value) (g2:Nat) (v2:Value) (hb:Hid (Below w1.heap.size w1 wz)) (o0:Hid (wz.ownsRow w1.heap.size 63 6 v0 pl (PS.flatMap pcs))) (o1:Hid (wz.ownsRow w1.heap.size 72 1 v1 n (xs.map (Value.int .i8)))) (o2:Hid (wz.ownsRow w1.heap.size 72 1 v2 nb (ys.map (Value.int .i8)))),G 3 #[true,true,true,true,true,true,true,true,true,true,true,true,false,false,false] ((((((A.put (some 12) (.slice (some ⟨g0,0,none⟩) 0 0)).put (some 15) v0).put (some 16) (.slice (some ⟨g1,0,none⟩) 0 0)).put (some 19) v1).put (some 20) (.slice (some ⟨g2,0,none⟩) 0 0)).put (some 23) v2) wz) ?_ (fun H222=>?_)
  ·intro wz g0 v0 g1 v1 g2 v2 hb o0 o1 o2
   obtain⟨pa',pc',aa,ca,ab,cb,rfl,rfl,rfl,r0,r1,r2⟩:=HFIN.out v0 v1 v2 wz o0.out o1.out o2.out
   have R9:Hid (ERow 6 pcs wz pa' pl pc' PS∧IRow .i8 wz aa n ca xs∧IRow .i8 wz ab nb cb ys):=⟨r0,r1,r2⟩
   clear r0 r1 r2
   refine stepR 12 hb.out (by kernel_rfl) rfl rfl (.slice pa' pl pc') wz (by kernel_rfl) ?_
   refine stepR 13 hb.out (by kernel_rfl) rfl rfl (.slice aa n ca) wz (by kernel_rfl) ?_
   refine stepR 14 hb.out (by kernel_rfl) rfl rfl (.slice ab nb cb) wz (by kernel_rfl) ?_
   refine doneC hb.out (by kernel_rfl) ?_ _
   refine (show ∀ a' w',Met _ a' w'→_ from by assumption) _ _ ?_
   refine Met.intro ?_
   go_step
   exact⟨.slice pa' pl pc',Sl aa n ca,Sl ab nb cb,Sl (some ⟨g0,0,none⟩) 0 0,.pointer (some ⟨W.heap.size,8,none⟩),Sl pa pl pc,Sl pa' pl pc',Sl (some ⟨g1,0,none⟩) 0 0,.pointer (some ⟨W.heap.size,9,none⟩),Sl ad n cap,Sl aa n ca,Sl (some ⟨g2,0,none⟩) 0 0,.pointer (some ⟨W.heap.size,10,none⟩),Sl bd nb capb,Sl ab nb cb,⟨pa',pc',aa,ca,ab,cb,rfl,rfl,rfl,hb.out,R9.out.1,R9.out.2.1,R9.out.2.2⟩,by kernel_rfl⟩
  refine viaC (fun G A=>∀ (wz:World) (g0:Nat) (v0:Value) (g1:Nat) (v1:Value) (g2:Nat) (hb:Hid (Below w1.heap.size w1 wz)) (o0:Hid (wz.ownsRow w1.heap.size 63 6 v0 pl (PS.flatMap pcs))) (o1:Hid (wz.ownsRow w1.heap.size 72 1 v1 n (xs.map (Value.int .i8)))) (o2:Hid (wz.ownsRow w1.heap.size 72 1 (.slice (some ⟨g2,0,none⟩) 0 0) 0 [])) (e20:Hid (v0.ownBlock≠some g2)) (e21:Hid (v1.ownBlock≠some g2)),G 4 #[true,true,true,true,true,true,true,true,true,true,true,false,false,false,false] (((((A.put (some 12) (.slice (some ⟨g0,0,none⟩) 0 0)).put (some 15) v0).put (some 16) (.slice (some ⟨g1,0,none⟩) 0 0)).put (some 19) v1).put (some 20) (.slice (some ⟨g2,0,none⟩) 0 0)) wz) ?_ (fun H221=>?_)
  ·intro wz g0 v0 g1 v1 g2 hb o0 o1 o2 e20 e21
   refine oneC 11 hb.out (by kernel_rfl) ?_
   refine opA (zv:=.int .i8 0) (T:=72) (S:=28) (by8:=1) (nc:=1) Tryz.underlying28 (by kernel_rfl) rfl (by decide) (by decide) rfl rfl (.tmp 20) (.tmp 22) rfl w1.heap.size g2 (by kernel_rfl) o2.out bd nb capb (ys.map (Value.int .i8)) (by kernel_rfl) HL2.out.1 HL2.out.2.1 HL2.out.2.2.1 (HC2.out _ hb.out) HL2.out.2.2.2 hry hb.out.size (fun v2 w9 r1 r2 r3=>?_)
   exact wpC_conv (by kernel_rfl) (by kernel_rfl) (H222 w9 g0 v0 g1 v1 g2 v2 (hb.out.grown r3 hb.out.size (fun b eb=>by cases eb;exact nil_lt o2.out)) (owns_apart o0.out r3 e20.out) (owns_apart o1.out r3 e21.out) r1)
  refine viaC (fun G A=>∀ (wz:World) (g0:Nat) (v0:Value) (g1:Nat) (g2:Nat) (hb:Hid (Below w1.heap.size w1 wz)) (o0:Hid (wz.ownsRow w1.heap.size 63 6 v0 pl (PS.flatMap pcs))) (o1:Hid (wz.ownsRow w1.heap.size 72 1 (.slice (some ⟨g1,0,none⟩) 0 0) 0 [])) (o2:Hid (wz.ownsRow w1.heap.size 72 1 (.slice (some ⟨g2,0,none⟩) 0 0) 0 [])) (e10:Hid (v0.ownBlock≠some g1)) (e12:Hid ((Value.slice (some ⟨g2,0,none⟩) 0 0).ownBlock≠some g1)) (e20:Hid (v0.ownBlock≠some g2)) (e21:Hid ((Value.slice (some ⟨g1,0,none⟩) 0 0).ownBlock≠some g2)),G 5 #[true,true,true,true,true,true,true,false,true,true,true,false,false,false,false] ((((A.put (some 12) (.slice (some ⟨g0,0,none⟩) 0 0)).put (some 15) v0).put (some 16) (.slice (some ⟨g1,0,none⟩) 0 0)).put (some 20) (.slice (some ⟨g2,0,none⟩) 0 0)) wz) ?_ (fun H211=>?_)
  ·intro wz g0 v0 g1 g2 hb o0 o1 o2 e10 e12 e20 e21
   refine oneC 7 hb.out (by kernel_rfl) ?_
   refine opA (zv:=.int .i8 0) (T:=72) (S:=28) (by8:=1) (nc:=1) Tryz.underlying28 (by kernel_rfl) rfl (by decide) (by decide) rfl rfl (.tmp 16) (.tmp 18) rfl w1.heap.size g1 (by kernel_rfl) o1.out ad n cap (xs.map (Value.int .i8)) (by kernel_rfl) HL1.out.1 HL1.out.2.1 HL1.out.2.2.1 (HC1.out _ hb.out) HL1.out.2.2.2 hrx hb.out.size (fun v1 w9 r1 r2 r3=>?_)
   exact wpC_conv (by kernel_rfl) (by kernel_rfl) (H221 w9 g0 v0 g1 v1 g2 (hb.out.grown r3 hb.out.size (fun b eb=>by cases eb;exact nil_lt o1.out)) (owns_apart o0.out r3 e10.out) r1 (owns_apart o2.out r3 e12.out) e20.out (ap_blk r2 o2.out e12.out))
  refine viaC (fun G A=>∀ (wz:World) (g0:Nat) (v0:Value) (g1:Nat) (v1:Value) (hb:Hid (Below w1.heap.size w1 wz)) (o0:Hid (wz.ownsRow w1.heap.size 63 6 v0 pl (PS.flatMap pcs))) (o1:Hid (wz.ownsRow w1.heap.size 72 1 v1 n (xs.map (Value.int .i8)))),G 5 #[true,true,true,true,true,true,true,true,false,true,true,false,false,false,false] ((((A.put (some 12) (.slice (some ⟨g0,0,none⟩) 0 0)).put (some 15) v0).put (some 16) (.slice (some ⟨g1,0,none⟩) 0 0)).put (some 19) v1) wz) ?_ (fun H220=>?_)
  ·intro wz g0 v0 g1 v1 hb o0 o1
   refine oneC 8 hb.out (by kernel_rfl) ?_
   refine opR rfl rfl (.slice (some ⟨wz.heap.size,0,none⟩) 0 0) (wz.alloc (.cells #[] 72)) (by kernel_rfl) ?_
   exact wpC_conv (by kernel_rfl) (by kernel_rfl) (H221 (wz.alloc (.cells #[] 72)) g0 v0 g1 v1 wz.heap.size (btr hb.out (bal _ _)) (owns_bel o0.out (bal _ _)) (owns_bel o1.out (bal _ _)) (own_nil wz _ _ _ hb.out.size) (blk_new o0.out) (blk_new o1.out))
  refine viaC (fun G A=>∀ (wz:World) (g0:Nat) (g1:Nat) (g2:Nat) (hb:Hid (Below w1.heap.size w1 wz)) (o0:Hid (wz.ownsRow w1.heap.size 63 6 (.slice (some ⟨g0,0,none⟩) 0 0) 0 [])) (o1:Hid (wz.ownsRow w1.heap.size 72 1 (.slice (some ⟨g1,0,none⟩) 0 0) 0 [])) (o2:Hid (wz.ownsRow w1.heap.size 72 1 (.slice (some ⟨g2,0,none⟩) 0 0) 0 [])) (e01:Hid ((Value.slice (some ⟨g1,0,none⟩) 0 0).ownBlock≠some g0)) (e02:Hid ((Value.slice (some ⟨g2,0,none⟩) 0 0).ownBlock≠some g0)) (e10:Hid ((Value.slice (some ⟨g0,0,none⟩) 0 0).ownBlock≠some g1)) (e12:Hid ((Value.slice (some ⟨g2,0,none⟩) 0 0).ownBlock≠some g1)) (e20:Hid ((Value.slice (some ⟨g0,0,none⟩) 0 0).ownBlock≠some g2)) (e21:Hid ((Value.slice (some ⟨g1,0,none⟩) 0 0).ownBlock≠some g2)),G 6 #[true,true,true,false,true,true,true,false,true,true,true,false,false,false,false] (((A.put (some 12) (.slice (some ⟨g0,0,none⟩) 0 0)).put (some 16) (.slice (some ⟨g1,0,none⟩) 0 0)).put (some 20) (.slice (some ⟨g2,0,none⟩) 0 0)) wz) ?_ (fun H111=>?_)
  ·intro wz g0 g1 g2 hb o0 o1 o2 e01 e02 e10 e12 e20 e21
   refine oneC 3 hb.out (by kernel_rfl) ?_
   refine opA (zv:=.agg #[U i6 0,U i6 0,U i6 0,U i6 0,U i6 0,U i6 0]) (T:=63) (S:=27) (by8:=48) (nc:=6) Tryz.underlying27 (by kernel_rfl) rfl (by decide) (by decide) rfl rfl (.tmp 12) (.tmp 14) rfl w1.heap.size g0 (by kernel_rfl) o0.out pa pl pc (PS.flatMap pcs) (by kernel_rfl) HL0.out.1 HL0.out.2.1 HL0.out.2.2.1 (HC0.out _ hb.out) HL0.out.2.2.2 hrp hb.out.size (fun v0 w9 r1 r2 r3=>?_)
   exact wpC_conv (by kernel_rfl) (by kernel_rfl) (H211 w9 g0 v0 g1 g2 (hb.out.grown r3 hb.out.size (fun b eb=>by cases eb;exact nil_lt o0.out)) r1 (owns_apart o1.out r3 e01.out) (owns_apart o2.out r3 e02.out) (ap_blk r2 o1.out e01.out) e12.out (ap_blk r2 o2.out e02.out) e21.out)
  refine viaC (fun G A=>∀ (wz:World) (g0:Nat) (v0:Value) (g2:Nat) (hb:Hid (Below w1.heap.size w1 wz)) (o0:Hid (wz.ownsRow w1.heap.size 63 6 v0 pl (PS.flatMap pcs))) (o2:Hid (wz.ownsRow w1.heap.size 72 1 (.slice (some ⟨g2,0,none⟩) 0 0) 0 [])) (e20:Hid (v0.ownBlock≠some g2)),G 6 #[true,true,true,true,false,true,true,false,true,true,true,false,false,false,false] (((A.put (some 12) (.slice (some ⟨g0,0,none⟩) 0 0)).put (some 15) v0).put (some 20) (.slice (some ⟨g2,0,none⟩) 0 0)) wz) ?_ (fun H201=>?_)
  ·intro wz g0 v0 g2 hb o0 o2 e20
   refine oneC 4 hb.out (by kernel_rfl) ?_
   refine opR rfl rfl (.slice (some ⟨wz.heap.size,0,none⟩) 0 0) (wz.alloc (.cells #[] 72)) (by kernel_rfl) ?_
   exact wpC_conv (by kernel_rfl) (by kernel_rfl) (H211 (wz.alloc (.cells #[] 72)) g0 v0 wz.heap.size g2 (btr hb.out (bal _ _)) (owns_bel o0.out (bal _ _)) (own_nil wz _ _ _ hb.out.size) (owns_bel o2.out (bal _ _)) (blk_new o0.out) (blk_new o2.out) e20.out (new_blk o2.out))
  refine viaC (fun G A=>∀ (wz:World) (g0:Nat) (v0:Value) (g1:Nat) (hb:Hid (Below w1.heap.size w1 wz)) (o0:Hid (wz.ownsRow w1.heap.size 63 6 v0 pl (PS.flatMap pcs))) (o1:Hid (wz.ownsRow w1.heap.size 72 1 (.slice (some ⟨g1,0,none⟩) 0 0) 0 [])) (e10:Hid (v0.ownBlock≠some g1)),G 6 #[true,true,true,true,true,true,true,false,false,true,true,false,false,false,false] (((A.put (some 12) (.slice (some ⟨g0,0,none⟩) 0 0)).put (some 15) v0).put (some 16) (.slice (some ⟨g1,0,none⟩) 0 0)) wz) ?_ (fun H210=>?_)
  ·intro wz g0 v0 g1 hb o0 o1 e10
   refine twoC 7 8 hb.out (by kernel_rfl) ?_ ?_
   ·refine opA (zv:=.int .i8 0) (T:=72) (S:=28) (by8:=1) (nc:=1) Tryz.underlying28 (by kernel_rfl) rfl (by decide) (by decide) rfl rfl (.tmp 16) (.tmp 18) rfl w1.heap.size g1 (by kernel_rfl) o1.out ad n cap (xs.map (Value.int .i8)) (by kernel_rfl) HL1.out.1 HL1.out.2.1 HL1.out.2.2.1 (HC1.out _ hb.out) HL1.out.2.2.2 hrx hb.out.size (fun v1 w9 r1 r2 r3=>?_)
    exact wpC_conv (by kernel_rfl) (by kernel_rfl) (H220 w9 g0 v0 g1 v1 (hb.out.grown r3 hb.out.size (fun b eb=>by cases eb;exact nil_lt o1.out)) (owns_apart o0.out r3 e10.out) r1)
   ·refine opR rfl rfl (.slice (some ⟨wz.heap.size,0,none⟩) 0 0) (wz.alloc (.cells #[] 72)) (by kernel_rfl) ?_
    exact wpC_conv (by kernel_rfl) (by kernel_rfl) (H211 (wz.alloc (.cells #[] 72)) g0 v0 g1 wz.heap.size (btr hb.out (bal _ _)) (owns_bel o0.out (bal _ _)) (owns_bel o1.out (bal _ _)) (own_nil wz _ _ _ hb.out.size) e10.out (new_blk o1.out) (blk_new o0.out) (blk_new o1.out))
  refine viaC (fun G A=>∀ (wz:World) (g1:Nat) (g2:Nat) (hb:Hid (Below w1.heap.size w1 wz)) (o1:Hid (wz.ownsRow w1.heap.size 72 1 (.slice (some ⟨g1,0,none⟩) 0 0) 0 [])) (o2:Hid (wz.ownsRow w1.heap.size 72 1 (.slice (some ⟨g2,0,none⟩) 0 0) 0 [])) (e12:Hid ((Value.slice (some ⟨g2,0,none⟩) 0 0).ownBlock≠some g1)) (e21:Hid ((Value.slice (some ⟨g1,0,none⟩) 0 0).ownBlock≠some g2)),G 7 #[false,true,true,false,true,true,true,false,true,true,true,false,false,false,false] ((A.put (some 16) (.slice (some ⟨g1,0,none⟩) 0 0)).put (some 20) (.slice (some ⟨g2,0,none⟩) 0 0)) wz) ?_ (fun H011=>?_)
  ·intro wz g1 g2 hb o1 o2 e12 e21
   refine oneC 0 hb.out (by kernel_rfl) ?_
   refine opR rfl rfl (.slice (some ⟨wz.heap.size,0,none⟩) 0 0) (wz.alloc (.cells #[] 63)) (by kernel_rfl) ?_
   exact wpC_conv (by kernel_rfl) (by kernel_rfl) (H111 (wz.alloc (.cells #[] 63)) wz.heap.size g1 g2 (btr hb.out (bal _ _)) (own_nil wz _ _ _ hb.out.size) (owns_bel o1.out (bal _ _)) (owns_bel o2.out (bal _ _)) (blk_new o1.out) (blk_new o2.out) (new_blk o1.out) e12.out (new_blk o2.out) e21.out)
  refine viaC (fun G A=>∀ (wz:World) (g0:Nat) (g2:Nat) (hb:Hid (Below w1.heap.size w1 wz)) (o0:Hid (wz.ownsRow w1.heap.size 63 6 (.slice (some ⟨g0,0,none⟩) 0 0) 0 [])) (o2:Hid (wz.ownsRow w1.heap.size 72 1 (.slice (some ⟨g2,0,none⟩) 0 0) 0 [])) (e02:Hid ((Value.slice (some ⟨g2,0,none⟩) 0 0).ownBlock≠some g0)) (e20:Hid ((Value.slice (some ⟨g0,0,none⟩) 0 0).ownBlock≠some g2)),G 7 #[true,true,true,false,false,true,true,false,true,true,true,false,false,false,false] ((A.put (some 12) (.slice (some ⟨g0,0,none⟩) 0 0)).put (some 20) (.slice (some ⟨g2,0,none⟩) 0 0)) wz) ?_ (fun H101=>?_)
  ·intro wz g0 g2 hb o0 o2 e02 e20
   refine twoC 3 4 hb.out (by kernel_rfl) ?_ ?_
   ·refine opA (zv:=.agg #[U i6 0,U i6 0,U i6 0,U i6 0,U i6 0,U i6 0]) (T:=63) (S:=27) (by8:=48) (nc:=6) Tryz.underlying27 (by kernel_rfl) rfl (by decide) (by decide) rfl rfl (.tmp 12) (.tmp 14) rfl w1.heap.size g0 (by kernel_rfl) o0.out pa pl pc (PS.flatMap pcs) (by kernel_rfl) HL0.out.1 HL0.out.2.1 HL0.out.2.2.1 (HC0.out _ hb.out) HL0.out.2.2.2 hrp hb.out.size (fun v0 w9 r1 r2 r3=>?_)
    exact wpC_conv (by kernel_rfl) (by kernel_rfl) (H201 w9 g0 v0 g2 (hb.out.grown r3 hb.out.size (fun b eb=>by cases eb;exact nil_lt o0.out)) r1 (owns_apart o2.out r3 e02.out) (ap_blk r2 o2.out e02.out))
   ·refine opR rfl rfl (.slice (some ⟨wz.heap.size,0,none⟩) 0 0) (wz.alloc (.cells #[] 72)) (by kernel_rfl) ?_
    exact wpC_conv (by kernel_rfl) (by kernel_rfl) (H111 (wz.alloc (.cells #[] 72)) g0 wz.heap.size g2 (btr hb.out (bal _ _)) (owns_bel o0.out (bal _ _)) (own_nil wz _ _ _ hb.out.size) (owns_bel o2.out (bal _ _)) (new_blk o0.out) e02.out (blk_new o0.out) (blk_new o2.out) e20.out (new_blk o2.out))
  refine viaC (fun G A=>∀ (wz:World) (g0:Nat) (g1:Nat) (hb:Hid (Below w1.heap.size w1 wz)) (o0:Hid (wz.ownsRow w1.heap.size 63 6 (.slice (some ⟨g0,0,none⟩) 0 0) 0 [])) (o1:Hid (wz.ownsRow w1.heap.size 72 1 (.slice (some ⟨g1,0,none⟩) 0 0) 0 [])) (e01:Hid ((Value.slice (some ⟨g1,0,none⟩) 0 0).ownBlock≠some g0)) (e10:Hid ((Value.slice (some ⟨g0,0,none⟩) 0 0).ownBlock≠some g1)),G 7 #[true,true,true,false,true,true,true,false,false,true,true,false,false,false,false] ((A.put (some 12) (.slice (some ⟨g0,0,none⟩) 0 0)).put (some 16) (.slice (some ⟨g1,0,none⟩) 0 0)) wz) ?_ (fun H110=>?_)
  ·intro wz g0 g1 hb o0 o1 e01 e10
   refine twoC 3 8 hb.out (by kernel_rfl) ?_ ?_
   ·refine opA (zv:=.agg #[U i6 0,U i6 0,U i6 0,U i6 0,U i6 0,U i6 0]) (T:=63) (S:=27) (by8:=48) (nc:=6) Tryz.underlying27 (by kernel_rfl) rfl (by decide) (by decide) rfl rfl (.tmp 12) (.tmp 14) rfl w1.heap.size g0 (by kernel_rfl) o0.out pa pl pc (PS.flatMap pcs) (by kernel_rfl) HL0.out.1 HL0.out.2.1 HL0.out.2.2.1 (HC0.out _ hb.out) HL0.out.2.2.2 hrp hb.out.size (fun v0 w9 r1 r2 r3=>?_)
    exact wpC_conv (by kernel_rfl) (by kernel_rfl) (H210 w9 g0 v0 g1 (hb.out.grown r3 hb.out.size (fun b eb=>by cases eb;exact nil_lt o0.out)) r1 (owns_apart o1.out r3 e01.out) (ap_blk r2 o1.out e01.out))
   ·refine opR rfl rfl (.slice (some ⟨wz.heap.size,0,none⟩) 0 0) (wz.alloc (.cells #[] 72)) (by kernel_rfl) ?_
    exact wpC_conv (by kernel_rfl) (by kernel_rfl) (H111 (wz.alloc (.cells #[] 72)) g0 g1 wz.heap.size (btr hb.out (bal _ _)) (owns_bel o0.out (bal _ _)) (owns_bel o1.out (bal _ _)) (own_nil wz _ _ _ hb.out.size) e01.out (new_blk o0.out) e10.out (new_blk o1.out) (blk_new o0.out) (blk_new o1.out))
  refine viaC (fun G A=>∀ (wz:World) (g0:Nat) (v0:Value) (hb:Hid (Below w1.heap.size w1 wz)) (o0:Hid (wz.ownsRow w1.heap.size 63 6 v0 pl (PS.flatMap pcs))),G 7 #[true,true,true,true,false,true,true,false,false,true,true,false,false,false,false] ((A.put (some 12) (.slice (some ⟨g0,0,none⟩) 0 0)).put (some 15) v0) wz) ?_ (fun H200=>?_)
  ·intro wz g0 v0 hb o0
   refine twoC 4 8 hb.out (by kernel_rfl) ?_ ?_
   ·refine opR rfl rfl (.slice (some ⟨wz.heap.size,0,none⟩) 0 0) (wz.alloc (.cells #[] 72)) (by kernel_rfl) ?_
    exact wpC_conv (by kernel_rfl) (by kernel_rfl) (H210 (wz.alloc (.cells #[] 72)) g0 v0 wz.heap.size (btr hb.out (bal _ _)) (owns_bel o0.out (bal _ _)) (own_nil wz _ _ _ hb.out.size) (blk_new o0.out))
   ·refine opR rfl rfl (.slice (some ⟨wz.heap.size,0,none⟩) 0 0) (wz.alloc (.cells #[] 72)) (by kernel_rfl) ?_
    exact wpC_conv (by kernel_rfl) (by kernel_rfl) (H201 (wz.alloc (.cells #[] 72)) g0 v0 wz.heap.size (btr hb.out (bal _ _)) (owns_bel o0.out (bal _ _)) (own_nil wz _ _ _ hb.out.size) (blk_new o0.out))
  refine viaC (fun G A=>∀ (wz:World) (g2:Nat) (hb:Hid (Below w1.heap.size w1 wz)) (o2:Hid (wz.ownsRow w1.heap.size 72 1 (.slice (some ⟨g2,0,none⟩) 0 0) 0 [])),G 8 #[false,true,true,false,false,true,true,false,true,true,true,false,false,false,false] (A.put (some 20) (.slice (some ⟨g2,0,none⟩) 0 0)) wz) ?_ (fun H001=>?_)
  ·intro wz g2 hb o2
   refine twoC 0 4 hb.out (by kernel_rfl) ?_ ?_
   ·refine opR rfl rfl (.slice (some ⟨wz.heap.size,0,none⟩) 0 0) (wz.alloc (.cells #[] 63)) (by kernel_rfl) ?_
    exact wpC_conv (by kernel_rfl) (by kernel_rfl) (H101 (wz.alloc (.cells #[] 63)) wz.heap.size g2 (btr hb.out (bal _ _)) (own_nil wz _ _ _ hb.out.size) (owns_bel o2.out (bal _ _)) (blk_new o2.out) (new_blk o2.out))
   ·refine opR rfl rfl (.slice (some ⟨wz.heap.size,0,none⟩) 0 0) (wz.alloc (.cells #[] 72)) (by kernel_rfl) ?_
    exact wpC_conv (by kernel_rfl) (by kernel_rfl) (H011 (wz.alloc (.cells #[] 72)) wz.heap.size g2 (btr hb.out (bal _ _)) (own_nil wz _ _ _ hb.out.size) (owns_bel o2.out (bal _ _)) (blk_new o2.out) (new_blk o2.out))
  refine viaC (fun G A=>∀ (wz:World) (g1:Nat) (hb:Hid (Below w1.heap.size w1 wz)) (o1:Hid (wz.ownsRow w1.heap.size 72 1 (.slice (some ⟨g1,0,none⟩) 0 0) 0 [])),G 8 #[false,true,true,false,true,true,true,false,false,true,true,false,false,false,false] (A.put (some 16) (.slice (some ⟨g1,0,none⟩) 0 0)) wz) ?_ (fun H010=>?_)
  ·intro wz g1 hb o1
   refine twoC 0 8 hb.out (by kernel_rfl) ?_ ?_
   ·refine opR rfl rfl (.slice (some ⟨wz.heap.size,0,none⟩) 0 0) (wz.alloc (.cells #[] 63)) (by kernel_rfl) ?_
    exact wpC_conv (by kernel_rfl) (by kernel_rfl) (H110 (wz.alloc (.cells #[] 63)) wz.heap.size g1 (btr hb.out (bal _ _)) (own_nil wz _ _ _ hb.out.size) (owns_bel o1.out (bal _ _)) (blk_new o1.out) (new_blk o1.out))
   ·refine opR rfl rfl (.slice (some ⟨wz.heap.size,0,none⟩) 0 0) (wz.alloc (.cells #[] 72)) (by kernel_rfl) ?_
    exact wpC_conv (by kernel_rfl) (by kernel_rfl) (H011 (wz.alloc (.cells #[] 72)) g1 wz.heap.size (btr hb.out (bal _ _)) (owns_bel o1.out (bal _ _)) (own_nil wz _ _ _ hb.out.size) (new_blk o1.out) (blk_new o1.out))
  refine viaC (fun G A=>∀ (wz:World) (g0:Nat) (hb:Hid (Below w1.heap.size w1 wz)) (o0:Hid (wz.ownsRow w1.heap.size 63 6 (.slice (some ⟨g0,0,none⟩) 0 0) 0 [])),G 8 #[true,true,true,false,false,true,true,false,false,true,true,false,false,false,false] (A.put (some 12) (.slice (some ⟨g0,0,none⟩) 0 0)) wz) ?_ (fun H100=>?_)
  ·intro wz g0 hb o0
   refine threeC 3 4 8 hb.out (by kernel_rfl) ?_ ?_ ?_
   ·refine opA (zv:=.agg #[U i6 0,U i6 0,U i6 0,U i6 0,U i6 0,U i6 0]) (T:=63) (S:=27) (by8:=48) (nc:=6) Tryz.underlying27 (by kernel_rfl) rfl (by decide) (by decide) rfl rfl (.tmp 12) (.tmp 14) rfl w1.heap.size g0 (by kernel_rfl) o0.out pa pl pc (PS.flatMap pcs) (by kernel_rfl) HL0.out.1 HL0.out.2.1 HL0.out.2.2.1 (HC0.out _ hb.out) HL0.out.2.2.2 hrp hb.out.size (fun v0 w9 r1 r2 r3=>?_)
    exact wpC_conv (by kernel_rfl) (by kernel_rfl) (H200 w9 g0 v0 (hb.out.grown r3 hb.out.size (fun b eb=>by cases eb;exact nil_lt o0.out)) r1)
   ·refine opR rfl rfl (.slice (some ⟨wz.heap.size,0,none⟩) 0 0) (wz.alloc (.cells #[] 72)) (by kernel_rfl) ?_
    exact wpC_conv (by kernel_rfl) (by kernel_rfl) (H110 (wz.alloc (.cells #[] 72)) g0 wz.heap.size (btr hb.out (bal _ _)) (owns_bel o0.out (bal _ _)) (own_nil wz _ _ _ hb.out.size) (new_blk o0.out) (blk_new o0.out))
   ·refine opR rfl rfl (.slice (some ⟨wz.heap.size,0,none⟩) 0 0) (wz.alloc (.cells #[] 72)) (by kernel_rfl) ?_
    exact wpC_conv (by kernel_rfl) (by kernel_rfl) (H101 (wz.alloc (.cells #[] 72)) g0 wz.heap.size (btr hb.out (bal _ _)) (owns_bel o0.out (bal _ _)) (own_nil wz _ _ _ hb.out.size) (new_blk o0.out) (blk_new o0.out))
  refine threeC 0 4 8 HD.out (by kernel_rfl) ?_ ?_ ?_
  ·refine opR rfl rfl (.slice (some ⟨wd.heap.size,0,none⟩) 0 0) (wd.alloc (.cells #[] 63)) (by kernel_rfl) ?_
   exact wpC_conv (by kernel_rfl) (by kernel_rfl) (H100 (wd.alloc (.cells #[] 63)) wd.heap.size (btr HD.out (bal _ _)) (own_nil wd _ _ _ HD.out.size))
  ·refine opR rfl rfl (.slice (some ⟨wd.heap.size,0,none⟩) 0 0) (wd.alloc (.cells #[] 72)) (by kernel_rfl) ?_
   exact wpC_conv (by kernel_rfl) (by kernel_rfl) (H010 (wd.alloc (.cells #[] 72)) wd.heap.size (btr HD.out (bal _ _)) (own_nil wd _ _ _ HD.out.size))
  ·refine opR rfl rfl (.slice (some ⟨wd.heap.size,0,none⟩) 0 0) (wd.alloc (.cells #[] 72)) (by kernel_rfl) ?_
   exact wpC_conv (by kernel_rfl) (by kernel_rfl) (H001 (wd.alloc (.cells #[] 72)) wd.heap.size (btr HD.out (bal _ _)) (own_nil wd _ _ _ HD.out.size))
 obtain⟨pa',pc',aa,ca,ab,cb,rfl,rfl,rfl,hbx,k1,k2,k3⟩:=hcut
 obtain⟨w2,rfl⟩:∃ w',w'=wc:=⟨_,rfl⟩
 have S2:Hid (St W w2 [(W.heap.size,#[U i6 h,U i6 w,U i6 c,U i6 lo,U i6 hi,Sl oa on oc,U i6 ot,U i6 op,Sl pa pl pc,Sl ad n cap,Sl bd nb capb],30)]):=S1.out.call hbx
 have HK:Hid (∀ w',Below w2.heap.size w2 w'→ERow 6 pcs w' pa' pl pc' PS∧IRow .i8 w' aa n ca xs∧IRow .i8 w' ab nb cb ys):=fun w' q=>⟨k1.below q,k2.below q,k3.below q⟩
 clear S1 hbx k1 k2 k3
 obtain⟨a1,a2,a3,a4,a5,a6,a7,a8,a9⟩:=T
 simp only [Tr.cs] at HOP HRO
 have qf:=neFt F1 F2 F3 F1 F2 F3 true (by simp)
 obtain⟨c1,f1,z1,-⟩:=S2.out.rules
 go_wp2_with fail
 refine (HOP.out _ S2.out.below).mono ?_
 rintro e w3 ⟨⟨v1,rfl,hO1⟩,hb3⟩
 have s3:=((S2.out.call hb3).new (c:=#[U i6 a1,U i6 a2,U i6 a3,U i6 a4,U i6 a5,U i6 a6,U i6 a7,U i6 a8,U i6 a9]) (t:=32)).new (c:=#[U i6 F1,U i6 F2,U i6 F3]) (t:=35)
 simp only [World.size_alloc] at s3
 have o3:=(hO1.alloc (.cells #[U i6 a1,U i6 a2,U i6 a3,U i6 a4,U i6 a5,U i6 a6,U i6 a7,U i6 a8,U i6 a9] 32)).alloc (.cells #[U i6 F1,U i6 F2,U i6 F3] 35)
 have B3:Hid (Below w2.heap.size w2 ((w3.alloc (.cells #[U i6 a1,U i6 a2,U i6 a3,U i6 a4,U i6 a5,U i6 a6,U i6 a7,U i6 a8,U i6 a9] 32)).alloc (.cells #[U i6 F1,U i6 F2,U i6 F3] 35))):=btr hb3 (btr (bal _ _) (bal _ _))
 clear hO1 hb3 c1 f1 z1
 go_upto_region 3 with fail
 obtain⟨t6,ht6⟩:∃ t6,w3.heap.size=t6:=⟨_,rfl⟩
 obtain⟨w4,hw4⟩:∃ w4,(w3.alloc (.cells #[U i6 a1,U i6 a2,U i6 a3,U i6 a4,U i6 a5,U i6 a6,U i6 a7,U i6 a8,U i6 a9] 32)).alloc (.cells #[U i6 F1,U i6 F2,U i6 F3] 35)=w4:=⟨_,rfl⟩
 rw [hw4,ht6] at s3
 rw [hw4] at o3 B3
 rw [hw4,ht6]
 have S4:Hid (St W w4 ((t6+1,#[U i6 F1,U i6 F2,U i6 F3],35) :: (t6,#[U i6 a1,U i6 a2,U i6 a3,U i6 a4,U i6 a5,U i6 a6,U i6 a7,U i6 a8,U i6 a9],32) :: [(W.heap.size,#[U i6 h,U i6 w,U i6 c,U i6 lo,U i6 hi,Sl oa on oc,U i6 ot,U i6 op,Sl pa pl pc,Sl ad n cap,Sl bd nb capb],30)])):=s3
 have O4:Hid (Own .i8 72 w4 w2.heap.size v1 L):=o3
 clear hw4 ht6 s3 o3 S2
 obtain⟨c1,f1,z1,c2,f2,z2,c3,f3,z3,-⟩:=S4.out.rules
 go_wp2_with fail
 refine (HCK.out _ S4.out.below pa' pc' aa ca ab cb (HK.out _ B3.out).1 (HK.out _ B3.out).2.1 (HK.out _ B3.out).2.2).mono ?_
 rintro e w5 ⟨rfl,hb5⟩
 have s5:=(S4.out.call hb5).new (c:=#[U i6 F1,U i6 F2,U i6 F3]) (t:=35)
 have O5:Hid (Own .i8 72 (w5.alloc (.cells #[U i6 F1,U i6 F2,U i6 F3] 35)) w2.heap.size v1 L):=(O4.out.below hb5).alloc _
 have B5:Hid (Below w2.heap.size w2 (w5.alloc (.cells #[U i6 F1,U i6 F2,U i6 F3] 35))):=btr B3.out (btr hb5 (bal _ _))
 clear hb5 S4 O4 B3 c1 f1 z1 c2 f2 z2 c3 f3 z3 HCK
 go_upto_region 4 with fail
 obtain⟨t9,ht9⟩:∃ t9,w5.heap.size=t9:=⟨_,rfl⟩
 obtain⟨w6,hw6⟩:∃ w6,w5.alloc (.cells #[U i6 F1,U i6 F2,U i6 F3] 35)=w6:=⟨_,rfl⟩
 rw [hw6,ht9] at s5
 rw [hw6] at O5 B5
 rw [hw6,ht9]
 have S6:Hid (St W w6 ((t9,#[U i6 F1,U i6 F2,U i6 F3],35) :: (t6+1,#[U i6 F1,U i6 F2,U i6 F3],35) :: (t6,#[U i6 a1,U i6 a2,U i6 a3,U i6 a4,U i6 a5,U i6 a6,U i6 a7,U i6 a8,U i6 a9],32) :: [(W.heap.size,#[U i6 h,U i6 w,U i6 c,U i6 lo,U i6 hi,Sl oa on oc,U i6 ot,U i6 op,Sl pa pl pc,Sl ad n cap,Sl bd nb capb],30)])):=s5
 clear hw6 ht9 s5
 go_wp2_with fail
 refine (HFX.out _).mono ?_
 rintro e w7 ⟨rfl,hb7⟩
 have S7:Hid (St W w7 ((t9,#[U i6 F1,U i6 F2,U i6 F3],35) :: (t6+1,#[U i6 F1,U i6 F2,U i6 F3],35) :: (t6,#[U i6 a1,U i6 a2,U i6 a3,U i6 a4,U i6 a5,U i6 a6,U i6 a7,U i6 a8,U i6 a9],32) :: [(W.heap.size,#[U i6 h,U i6 w,U i6 c,U i6 lo,U i6 hi,Sl oa on oc,U i6 ot,U i6 op,Sl pa pl pc,Sl ad n cap,Sl bd nb capb],30)])):=S6.out.call hb7
 have O7:Hid (Own .i8 72 w7 w2.heap.size v1 L):=O5.out.below hb7
 have B7:Hid (Below w2.heap.size w2 w7):=btr B5.out hb7
 clear hb7 S6 O5 B5 HFX
 obtain⟨c1,f1,z1,c2,f2,z2,c3,f3,z3,c4,f4,z4,-⟩:=S7.out.rules
 go_wp2_with fail
 refine (samec_b pa pa' pl pc pc' PS w7 (HPS.out.below S7.out.below) (HK.out _ B7.out).1).mono ?_
 rintro e w8 ⟨rfl,hb8⟩
 have S8:Hid (St W w8 ((t9,#[U i6 F1,U i6 F2,U i6 F3],35) :: (t6+1,#[U i6 F1,U i6 F2,U i6 F3],35) :: (t6,#[U i6 a1,U i6 a2,U i6 a3,U i6 a4,U i6 a5,U i6 a6,U i6 a7,U i6 a8,U i6 a9],32) :: [(W.heap.size,#[U i6 h,U i6 w,U i6 c,U i6 lo,U i6 hi,Sl oa on oc,U i6 ot,U i6 op,Sl pa pl pc,Sl ad n cap,Sl bd nb capb],30)])):=S7.out.call hb8
 have O8:Hid (Own .i8 72 w8 w2.heap.size v1 L):=O7.out.below hb8
 have B8:Hid (Below w2.heap.size w2 w8):=btr B7.out hb8
 clear hb8 S7 O7 B7 c1 f1 z1 c2 f2 z2 c3 f3 z3 c4 f4 z4
 obtain⟨c1,f1,z1,c2,f2,z2,c3,f3,z3,c4,f4,z4,-⟩:=S8.out.rules
 go_wp2_with fail
 refine (same8_b ad aa n cap ca xs w8 (HX.out.below S8.out.below) (HK.out _ B8.out).2.1).mono ?_
 rintro e w9 ⟨rfl,hb9⟩
 have S9:Hid (St W w9 ((t9,#[U i6 F1,U i6 F2,U i6 F3],35) :: (t6+1,#[U i6 F1,U i6 F2,U i6 F3],35) :: (t6,#[U i6 a1,U i6 a2,U i6 a3,U i6 a4,U i6 a5,U i6 a6,U i6 a7,U i6 a8,U i6 a9],32) :: [(W.heap.size,#[U i6 h,U i6 w,U i6 c,U i6 lo,U i6 hi,Sl oa on oc,U i6 ot,U i6 op,Sl pa pl pc,Sl ad n cap,Sl bd nb capb],30)])):=S8.out.call hb9
 have O9:Hid (Own .i8 72 w9 w2.heap.size v1 L):=O8.out.below hb9
 have B9:Hid (Below w2.heap.size w2 w9):=btr B8.out hb9
 clear hb9 S8 O8 B8 c1 f1 z1 c2 f2 z2 c3 f3 z3 c4 f4 z4
 obtain⟨c1,f1,z1,c2,f2,z2,c3,f3,z3,c4,f4,z4,-⟩:=S9.out.rules
 go_wp2_with fail
 refine (same8_b bd ab nb capb cb ys w9 (HY.out.below S9.out.below) (HK.out _ B9.out).2.2).mono ?_
 rintro e w10 ⟨rfl,hb10⟩
 have S10:Hid (St W w10 ((t9,#[U i6 F1,U i6 F2,U i6 F3],35) :: (t6+1,#[U i6 F1,U i6 F2,U i6 F3],35) :: (t6,#[U i6 a1,U i6 a2,U i6 a3,U i6 a4,U i6 a5,U i6 a6,U i6 a7,U i6 a8,U i6 a9],32) :: [(W.heap.size,#[U i6 h,U i6 w,U i6 c,U i6 lo,U i6 hi,Sl oa on oc,U i6 ot,U i6 op,Sl pa pl pc,Sl ad n cap,Sl bd nb capb],30)])):=S9.out.call hb10
 have O10:Hid (Own .i8 72 w10 w2.heap.size v1 L):=O9.out.below hb10
 have B10:Hid (Below w2.heap.size w2 w10):=btr B9.out hb10
 clear hb10 S9 O9 B9 c1 f1 z1 c2 f2 z2 c3 f3 z3 c4 f4 z4
 obtain⟨c1,f1,z1,c2,f2,z2,c3,f3,z3,c4,f4,z4,-⟩:=S10.out.rules
 obtain⟨ya,yc,rfl,yr,-⟩:=O10.out.row
 have hyc:=yr.2.1
 have hym:=yr.2.2.1
 unfold maxLen at hym
 have YR:Hid (IRow .i8 w10 ya L.length yc L):=yr
 clear yr
 by_cases hE:F1≠0
 ·obtain⟨rfl,hT⟩:=HF0.out hE
  simp only [Tr.z,Tr.mk.injEq] at hT
  obtain⟨rfl,rfl,rfl,rfl,rfl,rfl,rfl,rfl,rfl⟩:=hT
  have hE1:(F1 == 0)=false:=by simp [hE]
  have hE2:(F1 != 0)=true:=by simp [hE]
  have qt:=eqTr 0 0 0 0 0 0 0 0 0
  go_wp2
  go_ret
  exact⟨rfl,S10.out.below⟩
 obtain rfl:F1=0:=by omega
 have HR0:=HRO.out rfl
 have HR1:Hid (∀ (W':World),Below W.heap.size W W'→_):=HR0
 clear hE HRO HR0
 go_wp2_with fail
 refine (HR1.out _ S10.out.below pa' pc' aa ca ab cb (HK.out _ B10.out).1 (HK.out _ B10.out).2.1 (HK.out _ B10.out).2.2).mono ?_
 rintro e w11 ⟨⟨v2,rfl,hO2⟩,hb11⟩
 have s11:=(S10.out.call hb11).new (c:=#[U i6 a1,U i6 a2,U i6 a3,U i6 a4,U i6 a5,U i6 a6,U i6 a7,U i6 a8,U i6 a9]) (t:=32)
 have O11:Hid (Own .i8 72 (w11.alloc (.cells #[U i6 a1,U i6 a2,U i6 a3,U i6 a4,U i6 a5,U i6 a6,U i6 a7,U i6 a8,U i6 a9] 32)) w10.heap.size v2 L):=hO2.alloc _
 have YR11:Hid (IRow .i8 (w11.alloc (.cells #[U i6 a1,U i6 a2,U i6 a3,U i6 a4,U i6 a5,U i6 a6,U i6 a7,U i6 a8,U i6 a9] 32)) ya L.length yc L):=YR.out.below (btr hb11 (bal _ _))
 clear hb11 hO2 S10 YR O10 B10 HK c1 f1 z1 c2 f2 z2 c3 f3 z3 c4 f4 z4
 go_upto_region 9 with fail
 obtain⟨t11,ht11⟩:∃ t11,w11.heap.size=t11:=⟨_,rfl⟩
 obtain⟨w12,hw12⟩:∃ w12,w11.alloc (.cells #[U i6 a1,U i6 a2,U i6 a3,U i6 a4,U i6 a5,U i6 a6,U i6 a7,U i6 a8,U i6 a9] 32)=w12:=⟨_,rfl⟩
 rw [hw12,ht11] at s11
 rw [hw12] at O11 YR11
 rw [hw12,ht11]
 have S12:Hid (St W w12 ((t11,#[U i6 a1,U i6 a2,U i6 a3,U i6 a4,U i6 a5,U i6 a6,U i6 a7,U i6 a8,U i6 a9],32) :: (t9,#[U i6 0,U i6 F2,U i6 F3],35) :: (t6+1,#[U i6 0,U i6 F2,U i6 F3],35) :: (t6,#[U i6 a1,U i6 a2,U i6 a3,U i6 a4,U i6 a5,U i6 a6,U i6 a7,U i6 a8,U i6 a9],32) :: [(W.heap.size,#[U i6 h,U i6 w,U i6 c,U i6 lo,U i6 hi,Sl oa on oc,U i6 ot,U i6 op,Sl pa pl pc,Sl ad n cap,Sl bd nb capb],30)])):=s11
 clear hw12 ht11 s11
 obtain⟨za,zc,rfl,zr,-⟩:=O11.out.row
 have ZR:Hid (IRow .i8 w12 za L.length zc L):=zr
 clear zr O11
 go_wp2_with fail
 refine (same8_b ya za _ yc zc L w12 YR11.out ZR.out).mono ?_
 rintro e w13 ⟨rfl,hb13⟩
 have S13:Hid (St W w13 ((t11,#[U i6 a1,U i6 a2,U i6 a3,U i6 a4,U i6 a5,U i6 a6,U i6 a7,U i6 a8,U i6 a9],32) :: (t9,#[U i6 0,U i6 F2,U i6 F3],35) :: (t6+1,#[U i6 0,U i6 F2,U i6 F3],35) :: (t6,#[U i6 a1,U i6 a2,U i6 a3,U i6 a4,U i6 a5,U i6 a6,U i6 a7,U i6 a8,U i6 a9],32) :: [(W.heap.size,#[U i6 h,U i6 w,U i6 c,U i6 lo,U i6 hi,Sl oa on oc,U i6 ot,U i6 op,Sl pa pl pc,Sl ad n cap,Sl bd nb capb],30)])):=S12.out.call hb13
 clear hb13 S12 YR11 ZR
 have qt:=eqTr a1 a2 a3 a4 a5 a6 a7 a8 a9
 obtain⟨c1,f1,z1,c2,f2,z2,c3,f3,z3,c4,f4,z4,-⟩:=S13.out.rules
 go_wp2
 go_ret
 exact⟨rfl,S13.out.below⟩
theorem hoV_L {k kh kw sh sw sm ss um us z lo hi w c V C len:Int} {n:Nat} {SS x y:List Int} (hk:1≤k∧k≤4) (hz:k=4→z=0) :
  SS.map (fun t=>hoV k sm ss z lo hi t len)=fiL (vaK k kh kw sh sw sm ss um us w c V C len n SS x y) z lo hi:=by
 unfold vaK fiL
 by_cases k3:k≤3
 ·rw [if_pos k3]
  unfold apL
  rw [List.map_map]
  refine List.map_congr_left fun t _=>?_
  unfold hoV
  rw [if_neg (by omega)]
  rfl
 ·obtain rfl:k=4:=by omega
  rw [if_neg (by decide),if_pos rfl]
  unfold meL
  rw [List.map_map]
  refine List.map_congr_left fun t _=>?_
  unfold hoV
  rw [if_pos rfl,hz rfl]
  rfl
theorem teL_K {k kh kw sh sw tp lf bt rt sm ss um us z p lo hi h w c H V C len:Int} {zs bs x y SS:List Int} (hk:4<k) :
  teL k kh kw sh sw tp lf bt rt sm ss um us z p lo hi h w c H V C zs bs x y=fiL (vaK k kh kw sh sw sm ss um us w c V C len (H*V*C).toNat SS x y) z lo hi:=by
 unfold teL vaL vaK
 simp only [if_neg (show ¬ k≤3 by omega),if_neg (show ¬ k=4 by omega)]
theorem rop_i (h w c lo hi ot:Int) (oa:Option Addr) (on oc:Nat) (O:Nat→Nat→Int) (Z B:Nat→List Int) (W:World) (hL:LRow W oa on oc O Z B) (hon:on≤1000000000000) (op:Int) (pa:Option Addr) (pl pc:Nat) (PS:List Pl) (ad:Option Addr) (n cap:Nat) (xs:List Int) (bd:Option Addr) (nb capb:Nat) (ys:List Int) (hPS:ERow 6 pcs W pa pl pc PS) (hX:IRow .i8 W ad n cap xs) (hY:IRow .i8 W bd nb capb ys) (Rw:Int) (RL:List (Int×Int×Int)) (hR:gtR O h w c lo hi ot on=(0,0,RL,Rw)) (i:Nat) (hi0:i<on) (ho:op=(i:Int)+1) (E2 E3:Int) (hE:oLn O RL i n pl nb PS=(0,E2,E3)) :
  Calls Tryz.prog 9 #[.agg #[U i6 h,U i6 w,U i6 c,U i6 lo,U i6 hi,Sl oa on oc,U i6 ot],U i6 op,Sl pa pl pc,Sl ad n cap,Sl bd nb capb] W fun e w'=>(∃ v,e=.returned (.tuple #[v,.agg (oTk (O i) (RL.getD (O i 1).toNat (0,0,0)) (RL.getD (i+1) (0,0,0)) (Z i) (B i) xs PS).cs])∧Own .i8 72 w' W.heap.size v (oNm (O i) (RL.getD (O i 1).toNat (0,0,0)) (RL.getD (i+1) (0,0,0)) (Z i) (B i) xs ys PS))∧Below W.heap.size W w':=by
 obtain⟨ja,jb,ea,la,eb,lb',hO⟩:=opd_of hR hi0
 obtain⟨-,hRl,ho64,-⟩:=gtR_ok hR
 have hS:∀ W',Below W.heap.size W W'→_:=fun W' hb=>look_any h w c lo hi ot oa on oc O Z B W' (hL.below hb) hon
 rw [hR] at hS
 simp only at hS
 obtain⟨x,rfl,wa,lw,cw,ba,lb,cb,e12,e13,hop,hz,hbz,rz,rb⟩:=hL.at hi0
 obtain⟨x0,y0,v0,hA⟩:∃ x y v,RL.getD ja (0,0,0)=(x,y,v):=⟨_,_,_,rfl⟩
 obtain⟨H,V,C,hB⟩:∃ H V C,RL.getD (i+1) (0,0,0)=(H,V,C):=⟨_,_,_,rfl⟩
 obtain⟨s,hB6⟩:=hO _ _ _ _ _ _ hA hB
 rw [e12,e13,Int.toNat_natCast,Int.toNat_natCast] at s
 have h1:=hL.1
 have h2:=hL.2.1
 unfold maxLen at h2
 unfold oLn at hE
 rw [ea,Int.toNat_natCast,hA,hB] at hE
 rw [ho,ea,Int.toNat_natCast,hA,hB]
 unfold lnE at hE
 have hk:=s.hk
 by_cases bad:(n:Int)≠x0*y0*v0∨(pl:Int)≠(if O i 0≤4 then C else 0)∨(O i 0=6∧(nb:Int)≠x0*y0*v0)
 ·simp only at hE
  rw [if_pos bad] at hE
  simp at hE
 simp only at hE
 rw [if_neg bad] at hE
 simp only [not_or,Decidable.not_not,not_and] at bad
 obtain⟨d1,d2,d3⟩:=bad
 by_cases k4:O i 0≤4
 ·rw [if_pos k4] at d2
  have hok:Pok (stR (O i 0) (O i 4) (O i 5) x0 y0 v0) C PS:=⟨by rw [hPS.1];exact d2,(pfE_0 PS 0 (by rw [hE])).2⟩
  have hq:=rop_r h w c lo hi ot x on oc (O i 0) (O i 1) (O i 2) (O i 3) (O i 4) (O i 5) (O i 6) (O i 7) (O i 8) (O i 9) (O i 10) (O i 11) wa lw cw ba lb cb (O i 14) (O i 15) (O i 16) (O i 17) (O i 18) (O i 19) (O i 20) (O i 21) x0 y0 v0 H V C (Z i) (B i) i ja RL W (fun W' hb=>(hS W' hb).mono fun e w' ⟨v,q1,q2,q3⟩=>⟨v,_,q1,q2,q3⟩) hRl h1 (by omega) ho64 hA hB hi0 la ea (fun q v hq=>hop q v hq) s k4 hz hbz pa pl pc PS hPS hok ad n cap xs hX d1 bd nb capb
  refine hq.mono ?_
  rintro e w' ⟨⟨v,rfl,hv⟩,hb⟩
  refine⟨⟨v,?_,?_⟩,hb⟩
  ·unfold oTk;rw [if_pos k4]
  ·unfold oNm
   rw [← hoV_L ⟨hk.1,k4⟩ (fun q=>?_)]
   ·exact hv
   ·exact ((of_decide_eq_true s.oz).2.2.2.1 (.inl q)).2.2
 ·have hq:=rop_n h w c lo hi ot x on oc (O i 0) (O i 1) (O i 2) (O i 3) (O i 4) (O i 5) (O i 6) (O i 7) (O i 8) (O i 9) (O i 10) (O i 11) wa lw cw ba lb cb (O i 14) (O i 15) (O i 16) (O i 17) (O i 18) (O i 19) (O i 20) (O i 21) x0 y0 v0 H V C (Z i) (B i) i ja RL W (fun W' hb=>(hS W' hb).mono fun e w' ⟨v,q1,q2,q3⟩=>⟨v,_,q1,q2,q3⟩) hRl h1 (by omega) ho64 hA hB hi0 la ea (fun q v hq=>hop q v hq) s (by omega) hz hbz pa pl pc ad n cap xs hX d1 bd nb capb ys hY (fun q=>by have:=d3 q;omega)
  refine hq.mono ?_
  rintro e w' ⟨⟨v,rfl,hv⟩,hb⟩
  refine⟨⟨v,?_,?_⟩,hb⟩
  ·unfold oTk;rw [if_neg k4];rfl
  ·unfold oNm
   rw [teL_K (by omega)] at hv
   exact hv
theorem ops_any (h w c lo hi ot:Int) (oa:Option Addr) (on oc:Nat) (O:Nat→Nat→Int) (Z B:Nat→List Int) (W:World) (hL:LRow W oa on oc O Z B) (hon:on≤1000000000000) (op:Int) (pa:Option Addr) (pl pc:Nat) (PS:List Pl) (hPS:ERow 6 pcs W pa pl pc PS) (hrp:pl*48≤140737488351232)
  (ad:Option Addr) (n cap:Nat) (xs:List Int) (hX:IRow .i8 W ad n cap xs) (hrx:n*1≤140737488351232) (bd:Option Addr) (nb capb:Nat) (ys:List Int) (hY:IRow .i8 W bd nb capb ys) (hry:nb*1≤140737488351232) :
  Calls Tryz.prog 3 #[.agg #[U i6 h,U i6 w,U i6 c,U i6 lo,U i6 hi,Sl oa on oc,U i6 ot,U i6 op,Sl pa pl pc,Sl ad n cap,Sl bd nb capb]] W fun e w'=>e=.returned (.bool true)∧Below W.heap.size W w':=by
 obtain⟨Re,Ra,RL,Rw,hR⟩:∃ Re Ra RL Rw,gtR O h w c lo hi ot on=(Re,Ra,RL,Rw):=⟨_,_,_,_,rfl⟩
 by_cases he:Re=0
 ·subst he
  obtain⟨rfl,-,-,-,-,-⟩:=gtR_ok hR
  by_cases ho:op<1∨(on:Int)<op
  ·exact ops_w h w c lo hi ot oa on oc op pa pl pc PS ad n cap xs bd nb capb ys W hX hrx hY hry hPS hrp Tr.z [] 3 0 0 (fun _=>⟨rfl,rfl⟩)
    (fun W' hb=>(op_p h w c lo hi ot oa on oc O Z B W' (hL.below hb) op pa pl pc PS ad n cap xs bd nb capb ys Rw RL hR ho).mono fun e w' ⟨q,hb'⟩=>⟨⟨.slice none 0 0,q,own_none _ _ _ _⟩,hb'⟩)
    (fun W' hb pa' pc' aa ca ab cb k1 k2 k3=>rck_p h w c lo hi ot oa on oc O Z B W' (hL.below hb) hon op pa' pl pc' PS aa n ca xs ab nb cb ys Rw RL hR ho)
    (fun q=>absurd q (by decide))
  ·obtain⟨i,rfl⟩:∃ i:Nat,op=(i:Int)+1:=⟨(op-1).toNat,by omega⟩
   have hi0:i<on:=by omega
   obtain⟨E1,E2,E3,hE⟩:∃ E1 E2 E3,oLn O RL i n pl nb PS=(E1,E2,E3):=⟨_,_,_,rfl⟩
   refine ops_w h w c lo hi ot oa on oc ((i:Int)+1) pa pl pc PS ad n cap xs bd nb capb ys W hX hrx hY hry hPS hrp (if E1=0 then oTk (O i) (RL.getD (O i 1).toNat (0,0,0)) (RL.getD (i+1) (0,0,0)) (Z i) (B i) xs PS else Tr.z) (if E1=0 then oNm (O i) (RL.getD (O i 1).toNat (0,0,0)) (RL.getD (i+1) (0,0,0)) (Z i) (B i) xs ys PS else []) E1 E2 E3 (fun q=>⟨if_neg q,if_neg q⟩) (fun W' hb=>?_)
    (fun W' hb pa' pc' aa ca ab cb k1 k2 k3=>rck_i h w c lo hi ot oa on oc O Z B W' (hL.below hb) hon ((i:Int)+1) pa' pl pc' PS aa n ca xs ab nb cb ys k1 k2 k3 Rw RL hR i hi0 rfl E1 E2 E3 hE)
    (fun q W' hb pa' pc' aa ca ab cb k1 k2 k3=>?_)
   ·refine (op_i h w c lo hi ot oa on oc O Z B W' (hL.below hb) ((i:Int)+1) pa pl pc PS ad n cap xs bd nb capb ys (hPS.below hb) (hX.below hb) (hY.below hb) Rw RL hR i hi0 rfl E1 E2 E3 hE).mono ?_
    rintro e w' ⟨⟨v,T,rfl,hq⟩,hb'⟩
    rcases hq with ⟨q0,rfl,rfl⟩ | ⟨q0,hO',rfl⟩
    ·rw [if_neg q0,if_neg q0]
     exact⟨⟨_,rfl,own_none _ _ _ _⟩,hb'⟩
    ·rw [if_pos q0,if_pos q0]
     exact⟨⟨v,rfl,hO'⟩,hb'⟩
   ·subst q
    rw [if_pos rfl,if_pos rfl]
    exact rop_i h w c lo hi ot oa on oc O Z B W' (hL.below hb) hon ((i:Int)+1) pa' pl pc' PS aa n ca xs ab nb cb ys k1 k2 k3 Rw RL hR i hi0 rfl E2 E3 hE
 ·exact ops_w h w c lo hi ot oa on oc op pa pl pc PS ad n cap xs bd nb capb ys W hX hrx hY hry hPS hrp Tr.z [] Re Ra 0 (fun _=>⟨rfl,rfl⟩)
   (fun W' hb=>(op_m h w c lo hi ot oa on oc O Z B W' (hL.below hb) op pa pl pc PS ad n cap xs bd nb capb ys Re Ra Rw RL hR he).mono fun e w' ⟨q,hb'⟩=>⟨⟨.slice none 0 0,q,own_none _ _ _ _⟩,hb'⟩)
   (fun W' hb pa' pc' aa ca ab cb k1 k2 k3=>rck_m h w c lo hi ot oa on oc O Z B W' (hL.below hb) hon op pa' pl pc' PS aa n ca xs ab nb cb ys Re Ra Rw RL hR he)
   (fun q=>absurd q he)
end Go.Proofs.YtehofmkpgopmpaaGreat.Kr
namespace Go.Proofs.YtehofmkpgopmpaaGreat
open Go.Value renaming int → U, slice → Sl
open Go.IntKind renaming i64 → i6
set_option maxRecDepth 100000
set_option maxHeartbeats 16000000
open Go.ChangeShapes Go.WideShapes Go.ChangeAt Go.RowKit
theorem kernOps_walk (h w c lo hi:Int) (oa:Option Addr) (on oc:Nat) (ot op:Int) (pa:Option Addr) (pl pc:Nat) (ad:Option Addr) (n cap:Nat) (xs:List Int) (bd:Option Addr) (nb capb:Nat) (ys:List Int) (W:World)
  (_:(Lit.int .i64 h).wf=true) (_:(Lit.int .i64 w).wf=true) (_:(Lit.int .i64 c).wf=true) (_:(Lit.int .i64 lo).wf=true) (_:(Lit.int .i64 hi).wf=true) (wo:ORow 22 (OpIn W) W oa on oc) (hro:on*208≤140737488351232) (_:(Lit.int .i64 ot).wf=true) (_:(Lit.int .i64 op).wf=true)
  (wp:ORow 6 Kr.PlIn W pa pl pc) (hrp:pl*48≤140737488351232) (hX:IRow .i8 W ad n cap xs) (hrx:n*1≤140737488351232) (hY:IRow .i8 W bd nb capb ys) (hry:nb*1≤140737488351232) :
  Calls Tryz.prog 3 #[.agg #[U i6 h,U i6 w,U i6 c,U i6 lo,U i6 hi,Sl oa on oc,U i6 ot,U i6 op,Sl pa pl pc,Sl ad n cap,Sl bd nb capb]] W fun e w'=>e=.returned (.bool true)∧Below W.heap.size W w':=by
 obtain⟨O,Z,B,hL⟩:=lrow_of wo
 obtain⟨PS,hPS⟩:=Kr.chans_of wp
 exact Kr.ops_any h w c lo hi ot oa on oc O Z B W hL (by omega) op pa pl pc PS hPS hrp ad n cap xs hX hrx bd nb capb ys hY hry
end Go.Proofs.YtehofmkpgopmpaaGreat
