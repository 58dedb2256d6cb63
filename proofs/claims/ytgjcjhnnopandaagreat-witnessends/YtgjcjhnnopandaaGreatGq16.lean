/- The blocks of a row: what slices.Chunk gives. A region that draws its order, one of whose last operations writes what others read: an operation that answers the same in every world may be taken first. A hull that grows: what its take does, and what of the memory stays. What gathered of package bound returns, whatever is taken. -/
import Derived.Test.YtgjcjhnnopandaaGreatGq14
import Derived.Test.YtgjcjhnnopandaaGreatGq15
namespace Go.Proofs.YtgjcjhnnopandaaGreat
open Go.Value renaming int → U, slice → Sl
open Go.IntKind renaming i64 → i6
set_option maxRecDepth 100000
set_option maxHeartbeats 16000000
open Go.ChangeShapes Go.WideShapes Go.ChangeAt Go.RowKit Go.Shelf
set_option linter.unusedVariables false
attribute [local go_sem] Oper.semAt_some
theorem cell_box {w:World} {B:Nat} {v:Value} {t:TypeId} (h:w.heap[B]? = some (.cells #[v] t (0,0))):w.cell? ⟨B,0,none⟩=some v:=by rw [(cells_at h).1];rfl
theorem chunk1_in (m l Bs Bd n0 nb d:Nat) (v:Value) (E:List (Int×Int)) (hnv:Nb nb v) (hd:0<d) (hd2:d≤512) (hl:E.length≤512) (J:Nat→World→Prop) (W:World) (hn0:n0≤W.heap.size) (hPr:∀ k W1,J k W1→SpV W1 v E)
  (c1:W.heap[Bs]? = some (.cells #[v] 76 (0,0))) (c2:W.heap[Bd]? = some (.cells #[U i6 (d:Int)] 3 (0,0)))
  (hJ:AbAll W.heap.size J)
  (hY:∀ k x W1,J k W1→k<chN d E.length→SpV W1 x (chk d E k)→Nb nb x→YieldAt Fence.wide (m-1) Tryz.prog l #[x] W1 fun e W'=>e=.returned (.bool true)∧J (k+1) W'∧Kps n0 [Bs,Bd] W1 W'∧KX x W1 W') (h0:J 0 W) :
  CallsIn Fence.wide m Tryz.prog 107 #[.func (.yield l) #[] #[],.pointer (some ⟨Bs,0,none⟩),.pointer (some ⟨Bd,0,none⟩)] W fun e W'=>(∃ v,e=.returned v)∧J (chN d E.length) W':=by
 have HY:Hid (∀ k x W1,J k W1→k<chN d E.length→SpV W1 x (chk d E k)→_):=hY
 obtain⟨N,hN⟩:∃ N,E.length=N:=⟨_,rfl⟩
 obtain⟨n,hn⟩:∃ n,chN d N=n:=⟨_,rfl⟩
 have HPr:Hid (∀ k W1,J k W1→SpV W1 v E):=hPr
 obtain⟨va,vc,hve,-⟩:=hPr 0 W h0
 clear hPr
 rw [hN] at hve HY hl ⊢
 have HN:Hid (E.length=N):=hN
 have HL:Hid (∀ k,k<n ↔ k*d<N):=fun k=>by rw [← hn];exact chN_lt hd
 have HX:Hid (chN d N=n):=hn
 rw [hn] at HY ⊢
 have HC1:Hid (W.heap[Bs]? = _):=c1
 have HC2:Hid (W.heap[Bd]? = _):=c2
 clear hY c1 c2 hN hn
 refine callsIn_of_wp Tryz.func107 rfl trivial ?_ rfl
 simp only [Tryz.ntmps107,List.size_toArray,List.length_cons,List.length_nil,Nat.reduceAdd,Nat.reduceSub,Array.replicate_succ,Array.replicate_zero,List.push_toArray,List.append_toArray,List.nil_append,List.cons_append]
 gi_wp2
 gi_loopw [4] (fun i wr=>∃ k:Nat,k≤n∧i=U i6 ((k*d:Nat):Int)∧J k wr∧Kps n0 [Bs,Bd] W wr)
  (fun i _=>N+d-(intOf i).toNat)
 case atStart=>exact⟨0,Nat.zero_le _,by simp,h0,Below.refl _ _,Kept.refl _ _⟩
 case round =>
  obtain⟨k,hk,rfl,hJs,hkp⟩:=hrel
  have k1:=hkp.2 Bs (by simp) _ _ HC1.out
  have k2:=hkp.2 Bd (by simp) _ _ HC2.out
  have x1:=cell_box k1
  have x2:=cell_box k2
  obtain⟨I,hI⟩:∃ I,k*d=I:=⟨_,rfl⟩
  have hlt':=HL.out k
  rw [hI] at hlt' ⊢
  have HI:Hid (k*d=I):=hI
  have hfn:∀ f,Fence.wide.fn f:=fun _=>trivial
  have hdp:Fence.wide.depth=none:=rfl
  clear hI
  by_cases hlt:I<N
  ·have hkn:=hlt'.2 hlt
   have HV:Hid (SpV wr v E):=HPr.out k wr hJs
   obtain⟨v1,hs1,sp1⟩:=HV.out.from (k:=I) (by rw [HN.out];exact hlt) rfl
   obtain⟨⟨a1,p1,rfl,-⟩,-⟩:=sp1
   rw [List.length_drop,HN.out] at hs1
   obtain⟨M,hM⟩:∃ M:Nat,min d (N-I)=M:=⟨_,rfl⟩
   have hmn:=min2 (d:Int) ((N-I:Nat):Int) (M:Int) (by unfold xmn; split<;>omega)
   obtain⟨v2,hs2,sp2,nb2⟩:=HV.out.mid (k:=I) (m:=M) (by rw [HN.out];omega) (by omega) rfl rfl
   have hck:(E.drop I).take M=chk d E k:=by
    unfold chk
    rw [HI.out,← hM]
    apply List.ext_getElem?
    intro j
    rw [List.getElem?_take,List.getElem?_take]
    by_cases q1:j<min d (N-I)
    ·rw [if_pos q1,if_pos (by omega)]
    ·rw [if_neg q1]
     by_cases q2:j<d
     ·rw [if_pos q2,List.getElem?_drop,List.getElem?_eq_none (by rw [HN.out];omega)]
     ·rw [if_neg q2]
   rw [hck] at sp2
   have HS2:Hid (SpV wr v2 (chk d E k)):=sp2
   have HN2:Hid (Nb nb v2):=nb2 nb hnv
   have HM:Hid (M≤d∧M≤512):=⟨by omega,by omega⟩
   have hM1:M≤512:=HM.out.2
   clear hck sp2 hM HV HL hlt' nb2
   refine wpIn_wide.2 ?_
   subst hve
   go_upto_region 3 with fail
   refine regionC (fun w'=>w'.heap[Bs]? = some (.cells #[Sl va N vc] 76 (0,0))∧w'.heap[Bd]? = some (.cells #[U i6 (d:Int)] 3 (0,0))) (by kernel_rfl) ?_
   have DC:Hid ((fun w'=>w'.heap[Bs]? = some (.cells #[Sl va N vc] 76 (0,0))∧w'.heap[Bd]? = some (.cells #[U i6 (d:Int)] 3 (0,0))) wr.drew):=⟨k1,k2⟩
   have DB:Hid (Below wr.heap.size wr wr.drew):=(Below.refl _ _).drew
   obtain⟨w3,hw3⟩:∃ w3,wr.drew=w3:=⟨_,rfl⟩
   rw [hw3] at DC DB ⊢
   clear hw3
   refine takeC 0 (v:=U i6 (d:Int)) rfl rfl (by kernel_rfl) (by kernel_rfl) (by kernel_rfl) (fun _ _ _ h=>h) (fun _=>rfl) rfl (fun w' hw'=>by have:=cell_box hw'.2;go_simp) ?_
   refine takeC 1 (v:=.slice va N vc) rfl rfl (by kernel_rfl) (by kernel_rfl) (by kernel_rfl) (fun _ _ _ h=>h) (fun _=>rfl) rfl (fun w' hw'=>by have:=cell_box hw'.1;go_simp) ?_
   refine takeC 2 (v:=U i6 (I:Int)) rfl rfl (by kernel_rfl) (by kernel_rfl) (by kernel_rfl) (fun _ _ _ h=>h) (fun _=>rfl) rfl (fun w' hw'=>by go_simp) ?_
   refine takeC 3 (v:=.slice a1 (N-I) p1) rfl rfl (by kernel_rfl) (by kernel_rfl) (by kernel_rfl) (fun _ _ _ h=>h) (fun _=>rfl) rfl (fun w' hw'=>by have:=hs1 w';go_simp) ?_
   refine takeC 4 (v:=U i6 ((N-I:Nat):Int)) rfl rfl (by kernel_rfl) (by kernel_rfl) (by kernel_rfl) (fun _ _ _ h=>h) (fun _=>rfl) rfl (fun w' hw'=>by go_simp) ?_
   refine takeC 5 (v:=U i6 (M:Int)) rfl rfl (by kernel_rfl) (by kernel_rfl) (by kernel_rfl) (fun _ _ _ h=>h) (fun _=>rfl) rfl (fun w' hw'=>by have:=hmn w';go_simp) ?_
   refine yR 6 DC.out (by kernel_rfl) rfl rfl (U i6 (M:Int)) w3 (by go_simp) ?_
   refine doneC DC.out (by kernel_rfl) ?_ _
   have x1:=cell_box DC.out.1
   have x2:=cell_box DC.out.2
   have hB3:=(hkp.trans (Kps.of DB.out (by have:=hkp.1.size;omega)))
   have hJ3:=abide_b hJ hJs DB.out
   have sp3:=HS2.out.below DB.out
   have hI512:I<512:=by omega
   have HKB:Hid (Kps n0 [Bs,Bd] W w3):=hB3
   obtain⟨fn,tmps,assign,body,hy,hR⟩:=HY.out k v2 w3 hJ3 hkn sp3 HN2.out
   have hs2':=hs2 w3
   clear hs1 hmn hs2 HS2 k1 k2 hJs hkp hB3 hJ3 DB DC sp3
   go_upto_region 4 with fail
   refine (wpIn_wide (n:=m)).1 ?_
   gi_wp2
   refine hR.mono ?_
   rintro e W3 ⟨rfl,hJ3,hk3,-⟩
   have HK3:Hid (Kps n0 [Bs,Bd] W W3):=HKB.out.trans hk3
   have x2:=cell_box (HK3.out.2 Bd (by simp) _ _ HC2.out)
   have HE:Hid ((k+1)*d=I+d):=by unfold Hid;rw [Nat.add_mul,HI.out,Nat.one_mul]
   clear x1 hk3 hy hs2' HKB hR
   gi_wp2
   go_wp2
   go_roundw
   case rel=>exact⟨k+1,by omega,by rw [HE.out];go_num,hJ3,HK3.out⟩
   case measure=>simp [intOf];omega
  ·have hkn:¬ k<n:=fun q=>hlt (hlt'.1 q)
   obtain rfl:k=n:=by omega
   subst hve
   gi_wp2
   go_end0
   exact⟨⟨_,rfl⟩,hJs⟩
theorem chunk_any (n0 nb d:Nat) (v:Value) (E:List (Int×Int)) (W:World) (hv:SpV W v E) (hnv:Nb nb v) (hd:0<d) (hd2:d≤512) (hl:E.length≤512) (hn0:n0≤W.heap.size) :
  Calls Tryz.prog 89 #[v,U i6 (d:Int)] W fun e w'=>(∃ lb,e=.returned (.func (.func 107) #[] lb)∧Sq n0 nb [W.heap.size,W.heap.size+1] (fun W1=>SpV W1 v E) w' (.func (.func 107) #[] lb) (chk d E) (chN d E.length))∧Below W.heap.size W w'∧W.heap.size+1+1≤w'.heap.size:=by
 have hmf:∀ (fn:Fn) (first cap:Array Value) (w:World),(Instr.makeFunc fn first cap).run Tryz.prog w=.ok (.func fn first cap) w:=fun _ _ _ _=>rfl
 have s1:=((St.start W).new (c:=#[v]) (t:=76)).new (c:=#[U i6 (d:Int)]) (t:=3)
 simp only [World.size_alloc] at s1
 obtain⟨va,vc,hve,-⟩:=id hv
 have HNV:Hid (Nb nb v):=hnv
 have hve':Hid (v=_):=hve
 clear hv hve hnv
 rw [hve'.out] at s1 HNV ⊢
 go_enter Tryz.func89,Tryz.ntmps89
 go_wp2
 go_ret
 refine⟨⟨_,rfl,_,_,rfl,enters_of Tryz.func107 (by kernel_rfl) rfl,fun l m J W1 hW hJ hPr hY h0=>?_⟩,s1.below,by have:=lt_of_heap s1.h1;omega⟩
 have hb:=s1.below.trans (hW.mono s1.below.size)
 exact chunk1_in m l W.heap.size (W.heap.size+1) n0 nb d _ E HNV.out hd hd2 hl J W1 (by have:=hb.size;omega) hPr ((hW.block _ (lt_of_heap s1.h2)).trans s1.h2) ((hW.block _ (lt_of_heap s1.h1)).trans s1.h1) hJ hY h0
open Go.ChangeShapes Go.WideShapes Go.ChangeAt Go.RowKit
section
variable {F:Fence} {n:Nat} {P:Program} {ops:Array Oper} {md:Region.Mode} {C:Array Bool→World→Prop} {Q:Exit→Act→World→Prop}
theorem wpAnyL_firstT {i:Nat} {oi:Oper} {v:Value} (hro:F.round=none) (hi:ops[i]? = some oi) (hsel:∀ (j:Nat) (o:Oper) cs b,ops[j]? = some o→o.op≠.select cs b)
  (hQ:∀ c a w,Q (.panic c) (a.put oi.dst v) w→Q (.panic c) a w) (hCi:∀ l w,C (l.setIfInBounds i true) w→C l w) :
  ∀ (fuel:Nat) (listed:Array Bool) (a:Act) (w:World),
   (∀ j oj,ops[j]? = some oj→j≠i→listed.getD j true=false→(∀ e∈oj.after,Region.binds md e=true→e.on≠i)→oi.apart ops oj=true) →
   i∈Region.ready md ops listed→YieldsC P ops (fun _=>True) oi v a →
   wpAnyL F n P md ops C Q fuel (listed.setIfInBounds i true) (a.put oi.dst v) w→wpAnyL F n P md ops C Q (fuel+1) listed a w:=by
 intro fuel
 induction fuel with
 | zero =>
  intro listed a w _ hr hy H
  refine⟨hCi _ _ H.1,fun h=>(by rw [h] at hr;cases hr),fun j hj=>?_⟩
  by_cases hji:j=i
  ·subst hji;exact hy.wpOpIn hro hi trivial H
  ·have:=ready_mono hj hji
   rw [H.2.1] at this
   cases this
 | succ fuel ih =>
  intro listed a w hfree hr hy H
  refine⟨hCi _ _ H.1,fun h=>(by rw [h] at hr;cases hr),fun j hj=>?_⟩
  by_cases hji:j=i
  ·subst hji;exact hy.wpOpIn hro hi trivial H
  ·have h1:=H.2.2 j (ready_mono hj hji)
   obtain⟨hjun,oj,hoj,hall⟩:=mem_ready.1 hj
   have hnot:∀ e∈oj.after,Region.binds md e=true→e.on≠i:=fun e he hb heq=>by
    have h1:=hall e he hb
    have h0:=(mem_ready.1 hr).1
    rw [heq] at h1
    rcases Nat.lt_or_ge i listed.size with h' | h'
    ·simp [h'] at h0 h1;rw [h0] at h1;cases h1
    ·simp [Array.getElem?_eq_none h'] at h1
   have h2:=wpOpIn_putC hro hoj (hfree j oj hoj hji hjun hnot) (fun cs b=>hsel i oi cs b hi) (fun cs b=>hsel j oj cs b hoj) hQ hy h1
   have hfree':∀ k ok,ops[k]? = some ok→k≠i→(listed.setIfInBounds j true).getD k true=false →
     (∀ e∈ok.after,Region.binds md e=true→e.on≠i)→oi.apart ops ok=true:=fun k ok hk hki hun hno=>by
    refine hfree k ok hk hki ?_ hno
    by_cases hjk:j=k
    ·subst hjk;exact hjun
    ·rw [getD_set_ne true hjk] at hun;exact hun
   refine wpOpIn_mono (fun a' w' h3=>ih (listed.setIfInBounds j true) a' w' hfree' (ready_mono hr (Ne.symm hji)) h3.1 ?_) h2
   rw [Array.setIfInBounds_comm _ _ hji]
   exact h3.2
end
theorem takeT {F:Fence} {n:Nat} {P:Program} {ops:Array Oper} {md:Region.Mode} {Q:Exit→Act→World→Prop} {gs:List Nat} {B:World→Prop} (i:Nat) {oi:Oper} {v:Value} {fuel:Nat} {listed:Array Bool} {a:Act} {w:World} (hro:F.round=none) (hi:ops[i]? = some oi)
  (hs:Region.noSelect ops=true) (hf:Region.free md ops listed i=true) (hr:(Region.ready md ops listed).contains i=true) (hni:gs.contains i=false)
  (hQ:∀ c a w,Q (.panic c) (a.put oi.dst v) w→Q (.panic c) a w) (hb:∀ w,oi.about P w a.eval=none) (hw:Region.wanted oi (yielded ops a.tmps)=true) (hy:∀ w,(execOp a.eval oi).run P w=.ok (.value v) w)
  (h:wpAnyL F n P md ops (Cl gs B) Q fuel (listed.setIfInBounds i true) (a.put oi.dst v) w):wpAnyL F n P md ops (Cl gs B) Q (fuel+1) listed a w:=by
 have him:i ∉ gs:=by simpa using hni
 refine wpAnyL_firstT hro hi (Region.noSelect_spec hs) hQ (fun l w h q=>h ?_) fuel listed a w (Region.free_spec hi hf) (by simpa using hr) ⟨.inl ⟨hw,fun w _=>hy w⟩,hb⟩ h
 obtain⟨x,hx,q⟩:=List.any_eq_true.1 q
 refine List.any_eq_true.2 ⟨x,hx,?_⟩
 have hne:i≠x:=fun e=>him (by rw [e];exact hx)
 rw [getD_set_ne true hne]
 exact q
theorem SpV.tch {b nb:Nat} {w w':World} {v:Value} {L:List (Int×Int)} (h:SpV w v L) (hn:Nb nb v) (hb:b+1≤nb) (k:Tch b w w'):SpV w' v L:=by
 obtain⟨a,cap,rfl,h2,h3,h4⟩:=h
 refine⟨a,cap,rfl,h2,h3,fun h0=>?_⟩
 obtain⟨g,o,rfl,hc⟩:=h4 h0
 have hg:nb≤g:=hn _ _ _ rfl
 exact⟨g,o,rfl,fun j u hj=>k.cell (hc j u hj) (by omega)⟩
theorem St.tch {b:Nat} {w0 w w':World} {l:List (Nat×Array Value×TypeId)} (h:St w0 w l) (k:Tch b w w') (hb:w0.heap.size≤b) (hl:∀ x∈l,x.1≠b):St w0 w' l :=
 ⟨h.1.trans (k.below hb h.1.size),fun x hx=>⟨(k.2.2.2.2 _ (lt_of_heap (h.2 x hx).1) (hl x hx)).trans (h.2 x hx).1,(h.2 x hx).2⟩⟩
def SB (b:Nat) (w0 w:World) (l:List (Nat×Array Value×TypeId)):Prop:=Tch b w0 w∧∀ x∈l,w.heap[x.1]? = some (.cells x.2.1 x.2.2)∧w0.heap.size≤x.1
theorem SB.start (b:Nat) (w:World):SB b w w []:=⟨Tch.refl _ _,fun _ h=>by cases h⟩
theorem SB.of {b:Nat} {w0 w:World} {l:List (Nat×Array Value×TypeId)} (h:St w0 w l):SB b w0 w l:=⟨Tch.of h.1,h.2⟩
theorem SB.call {b:Nat} {w0 w w1:World} {l:List (Nat×Array Value×TypeId)} (h:SB b w0 w l) (hb:Below w.heap.size w w1):SB b w0 w1 l :=
 ⟨h.1.bel hb,fun x hx=>⟨by rw [hb.block _ (lt_of_heap (h.2 x hx).1)];exact (h.2 x hx).1,(h.2 x hx).2⟩⟩
theorem SB.take {b:Nat} {w0 w w1:World} {l:List (Nat×Array Value×TypeId)} (h:SB b w0 w l) (k:Tch b w w1) (hb:b<w0.heap.size):SB b w0 w1 l :=
 ⟨h.1.trans k,fun x hx=>⟨by have:=(h.2 x hx).2;rw [k.2.2.2.2 _ (lt_of_heap (h.2 x hx).1) (by omega)];exact (h.2 x hx).1,(h.2 x hx).2⟩⟩
theorem SB.new {b:Nat} {w0 w:World} {l:List (Nat×Array Value×TypeId)} {c:Array Value} {t:TypeId} (h:SB b w0 w l):SB b w0 (w.alloc (.cells c t)) ((w.heap.size,c,t) :: l):=by
 have h2:=h.call (bal w (.cells c t))
 refine⟨h2.1,fun x hx=>?_⟩
 rcases List.mem_cons.1 hx with rfl | hx
 ·exact⟨by show (w.heap.push _)[w.heap.size]? = _;simp,h.1.size⟩
 ·exact h2.2 x hx
theorem SB.skip {b:Nat} {w0 w:World} {l:List (Nat×Array Value×TypeId)} (h:SB b w0 w l) (o:Obj):SB b w0 (w.alloc o) l:=h.call (bal w o)
theorem SB.set {b:Nat} {w0 w:World} {B i:Nat} {c:Array Value} {t:TypeId} {l:List (Nat×Array Value×TypeId)} {v:Value} (h:SB b w0 w ((B,c,t) :: l)) (hl:∀ x∈l,x.1≠B) :
  SB b w0 (w.setCell ⟨B,i,none⟩ v) ((B,c.setIfInBounds i v,t) :: l):=by
 have hB:=(h.2 _ List.mem_cons_self)
 refine⟨h.1.set (.inr hB.2),fun x hx=>?_⟩
 rcases List.mem_cons.1 hx with rfl | hx
 ·exact⟨heap_setCell_at hB.1,hB.2⟩
 ·have:=h.2 x (List.mem_cons_of_mem _ hx)
  exact⟨by rw [Below.heap_setCell _ _ _ _ (hl x hx)];exact this.1,this.2⟩
theorem SB.set2 {b:Nat} {w0 w:World} {B:Nat} {a c u v:Value} {t:TypeId} {l:List (Nat×Array Value×TypeId)} (h:SB b w0 w ((B,#[a,c],t) :: l)) (hl:∀ x∈l,x.1≠B) :
  SB b w0 ((w.setCell ⟨B,0,none⟩ u).setCell ⟨B,1,none⟩ v) ((B,#[u,v],t) :: l):=(h.set hl (i:=0) (v:=u)).set hl (i:=1) (v:=v)
theorem SB.rules {b:Nat} {w0 w:World} {l:List (Nat×Array Value×TypeId)} (h:SB b w0 w l):Rules w l:=rules_of l fun x hx=>(h.2 x hx).1
theorem SB.tail {b:Nat} {w0 w:World} {x:Nat×Array Value×TypeId} {l:List (Nat×Array Value×TypeId)} (h:SB b w0 w (x :: l)):SB b w0 w l:=⟨h.1,fun y hy=>h.2 y (List.mem_cons_of_mem _ hy)⟩
theorem SB.size {b:Nat} {w0 w:World} {l:List (Nat×Array Value×TypeId)} (h:SB b w0 w l):w0.heap.size≤w.heap.size:=h.1.size
theorem SB.h1 {b:Nat} {w0 w:World} {B:Nat} {c:Array Value} {t:TypeId} {l:List (Nat×Array Value×TypeId)} (h:SB b w0 w ((B,c,t) :: l)):w.heap[B]? = some (.cells c t (0,0)):=(h.2 _ List.mem_cons_self).1
def Tk (w:World) (b:Nat) (L:List (Int×Int)):Prop:=w.heap[b]? = some (.cells #[U i6 (huA L).1,U i6 (huA L).2,.bool (!L.isEmpty)] 130 (0,0))
theorem Tk.lt {w:World} {b:Nat} {L:List (Int×Int)} (h:Tk w b L):b<w.heap.size:=lt_of_heap h
theorem Tk.below {w w':World} {b:Nat} {L:List (Int×Int)} (h:Tk w b L) (k:Below w.heap.size w w'):Tk w' b L:=(k.block _ (lt_of_heap h)).trans h
theorem Tk.set {w:World} {b B i:Nat} {L:List (Int×Int)} {v:Value} (h:Tk w b L) (h1:b≠B):Tk (w.setCell ⟨B,i,none⟩ v) b L:=(Below.heap_setCell _ _ _ _ h1).trans h
theorem Tk.turn {w w':World} {b:Nat} {L:List (Int×Int)} {row:Option Nat} (h:Tk w b L) (g:w.grownBy w' row) (hr:∀ r,row=some r→b<r):Tk w' b L :=
 (g.block b (lt_of_heap h) (fun e=>by have:=hr b e.symm;omega)).trans h
theorem two_of {w:World} {B:Nat} {a c d u v:Value} {t:TypeId} (h:w.heap[B]? = some (.cells #[a,c,d] t (0,0))):((w.setCell ⟨B,0,none⟩ u).setCell ⟨B,1,none⟩ v).heap[B]? = some (.cells #[u,v,d] t (0,0)):=heap_setCell_at (heap_setCell_at h)
def fTk (b:Nat):Value:=.pointer (some ⟨b,0,none⟩)
theorem btake_any (b:Nat) (x:Int×Int) (L:List (Int×Int)) (W:World) (hT:Tk W b L) (hL:∀ y∈L,Vd 10000000000 y) (hx:Vd 10000000000 x) :
  Calls Tryz.prog 41 #[fTk b,.agg #[U i6 x.1,U i6 x.2]] W fun e w'=>(∃ u,e=.returned u)∧Tk w' b (L++[x])∧Tch b W w':=by
 obtain⟨x1,x2⟩:=x
 have hbz:=hT.lt
 unfold fTk
 have s0:=(SB.start b W).new (c:=#[U i6 x1,U i6 x2]) (t:=28)
 have T0:=hT.below (bal W (.cells #[U i6 x1,U i6 x2] 28))
 have hmx:Tryz.prog.follows .mixedOrders=true:=by kernel_rfl
 -- what lies there ahead of the last region: the ends that are widened
 obtain⟨m1,m2,hv,HS⟩:∃ m1 m2:Int,m1≤m2∧huA (L++[(x1,x2)])=(xmn m1 x1,xmx m2 x2)∧(L=[]→m1=x1∧m2=x2)∧(L≠[]→huA L=(m1,m2)):=by
  cases L with
  | nil=>exact⟨x1,x2,hx.2.1,by simp [huA,huF,xmn,xmx],fun _=>⟨rfl,rfl⟩,fun q=>absurd rfl q⟩
  | cons y l =>
   have hvd:Vd 10000000000 (huA (y :: l)):=huF_vd (hL y List.mem_cons_self) fun z hz=>hL z (List.mem_cons_of_mem _ hz)
   exact⟨_,_,hvd.2.1,by rw [huA_snoc (by simp)];rfl,fun q=>by simp at q,fun _=>rfl⟩
 have HH:Hid (∀ w,_):=fun w=>xhull_ok m1 m2 x1 x2 w hv hx.2.1
 obtain⟨w0,hw0⟩:∃ w0,W.alloc (.cells #[U i6 x1,U i6 x2] 28)=w0:=⟨_,rfl⟩
 have hz0:w0.heap.size=W.heap.size+1:=by rw [← hw0];simp
 rw [hw0] at s0 T0
 obtain⟨HS,hn,hc⟩:=HS
 have HS:Hid (_=_):=HS
 obtain⟨c0,f0,z0,-⟩:=s0.rules
 cases L with
 | nil =>
  obtain⟨rfl,rfl⟩:=hn rfl
  have t0:=T0
  unfold Tk at t0
  simp only [huA,List.isEmpty_nil,Bool.not_true] at t0
  obtain⟨p1,p2,p3⟩:=cells_at t0
  have t1:(((w0.setCell ⟨b,0,none⟩ (U i6 m1)).setCell ⟨b,1,none⟩ (U i6 m2)).setCell ⟨b,2,none⟩ (.bool true)).heap[b]? = some (.cells #[U i6 m1,U i6 m2,.bool true] 130 (0,0)):=heap_setCell_at (two_of t0)
  have s1:SB b W (((w0.setCell ⟨b,0,none⟩ (U i6 m1)).setCell ⟨b,1,none⟩ (U i6 m2)).setCell ⟨b,2,none⟩ (.bool true)) [(W.heap.size,#[U i6 m1,U i6 m2],28)]:=by
   refine⟨((s0.1.set (.inl rfl)).set (.inl rfl)).set (.inl rfl),fun x hx=>?_⟩
   obtain rfl:x=_:=by simpa using hx
   refine⟨?_,Nat.le_refl _⟩
   have hne:W.heap.size≠b:=by omega
   exact (Below.heap_setCell _ _ _ _ hne).trans ((Below.heap_setCell _ _ _ _ hne).trans ((Below.heap_setCell _ _ _ _ hne).trans s0.h1))
  clear hx hL hT hn hc T0 t0 hv
  go_enter Tryz.func41,Tryz.ntmps41
  go_upto_region 1 with fail
  try rw [hw0]
  clear hw0
  go_upto_region 3 with fail
  clear p1 p2 p3 c0 f0 z0 s0
  obtain⟨w1,hw1⟩:∃ w1,((w0.setCell ⟨b,0,none⟩ (U i6 m1)).setCell ⟨b,1,none⟩ (U i6 m2)).setCell ⟨b,2,none⟩ (.bool true)=w1:=⟨_,rfl⟩
  rw [hw1] at t1 s1 ⊢
  clear hw1
  refine regionL (Cl [6] fun w'=>w'.heap[b]? = some (.cells #[U i6 m1,U i6 m2,.bool true] 130 (0,0))∧w'.heap[W.heap.size]? = some (.cells #[U i6 m1,U i6 m2] 28 (0,0))) hmx ?_
  obtain⟨wd,hwd⟩:∃ wd,w1.drew=wd:=⟨_,rfl⟩
  have hdd:Below w1.heap.size w1 wd:=by rw [← hwd];exact (Below.refl _ _).drew
  rw [hwd]
  have hA:Hid (wd.heap[b]? = some (.cells #[U i6 m1,U i6 m2,.bool true] 130 (0,0))):=(hdd.block b (lt_of_heap t1)).trans t1
  have S2:Hid (SB b W wd [(W.heap.size,#[U i6 m1,U i6 m2],28)]):=s1.call hdd
  clear hwd hdd t1 s1
  refine takeT 1 (v:=.pointer (some ⟨b,0,none⟩)) rfl rfl (by kernel_rfl) (by kernel_rfl) (by kernel_rfl) rfl (fun _ _ _ h=>h) (fun _=>rfl) rfl (fun w'=>by go_simp) ?_
  refine takeT 2 (v:=.pointer (some ⟨b,0,none⟩)) rfl rfl (by kernel_rfl) (by kernel_rfl) (by kernel_rfl) rfl (fun _ _ _ h=>h) (fun _=>rfl) rfl (fun w'=>by go_simp) ?_
  refine takeT 3 (v:=.pointer (some ⟨b,0,none⟩)) rfl rfl (by kernel_rfl) (by kernel_rfl) (by kernel_rfl) rfl (fun _ _ _ h=>h) (fun _=>rfl) rfl (fun w'=>by go_simp) ?_
  refine takeG 4 6 (v:=.agg #[U i6 m1,U i6 m2]) rfl rfl (by kernel_rfl) (by kernel_rfl) (by kernel_rfl) (by kernel_rfl) (by kernel_rfl) rfl rfl (fun _ _ _ h=>h) (fun _=>rfl) rfl (fun w' hw'=>run_la 28 (.tmp 20) rfl ⟨b,0,none⟩ (by kernel_rfl) [U i6 m1,U i6 m2] _ (fun j v hj=>by
   rw [Addr.add_lit,(cells_at hw'.1).1]
   have:=(List.getElem?_eq_some_iff.1 hj).1
   rcases (show j=0∨j=1 by simp at this; omega) with rfl | rfl<;>simpa using hj) Tryz.underlying28 rfl (by kernel_rfl)) ?_
  refine takeG 5 6 (v:=.agg #[U i6 m1,U i6 m2]) rfl rfl (by kernel_rfl) (by kernel_rfl) (by kernel_rfl) (by kernel_rfl) (by kernel_rfl) rfl rfl (fun _ _ _ h=>h) (fun _=>rfl) rfl (fun w' hw'=>run_la 28 (.tmp 3) rfl ⟨W.heap.size,0,none⟩ (by kernel_rfl) [U i6 m1,U i6 m2] _ (fun j v hj=>by
   rw [Addr.add_lit,(cells_at hw'.2).1]
   have:=(List.getElem?_eq_some_iff.1 hj).1
   rcases (show j=0∨j=1 by simp at this; omega) with rfl | rfl<;>simpa using hj) Tryz.underlying28 rfl (by kernel_rfl)) ?_
  refine takeT 0 (v:=.pointer (some ⟨b,0,none⟩)) rfl rfl (by kernel_rfl) (by kernel_rfl) (by kernel_rfl) rfl (fun _ _ _ h=>h) (fun _=>rfl) rfl (fun w'=>by go_simp) ?_
  refine lK 6 (Cl.of ⟨hA.out,S2.out.h1⟩) (by kernel_rfl) rfl rfl 59 #[.agg #[U i6 m1,U i6 m2],.agg #[U i6 m1,U i6 m2]] (by kernel_rfl) (HH.out wd) ?_
  rintro e w3 ⟨rfl,hb3⟩
  refine⟨_,rfl,?_⟩
  have t3:=(hb3.block b (lt_of_heap hA.out)).trans hA.out
  have S3:Hid (Tch b W w3):=(S2.out.call hb3).1
  refine lR 7 (Cl.all (by kernel_rfl)) (by kernel_rfl) rfl rfl (.tuple #[.agg #[U i6 (xmn m1 m1),U i6 (xmx m2 m2)],U i6 0]) w3 (by go_simp) ?_
  refine takeT 8 (v:=.agg #[U i6 (xmn m1 m1),U i6 (xmx m2 m2)]) rfl rfl (by kernel_rfl) (by kernel_rfl) (by kernel_rfl) rfl (fun _ _ _ h=>h) (fun _=>rfl) rfl (fun w'=>by go_simp) ?_
  refine takeT 9 (v:=U i6 0) rfl rfl (by kernel_rfl) (by kernel_rfl) (by kernel_rfl) rfl (fun _ _ _ h=>h) (fun _=>rfl) rfl (fun w'=>by go_simp) ?_
  refine takeT 10 (v:=.pointer (some ⟨b,0,none⟩)) rfl rfl (by kernel_rfl) (by kernel_rfl) (by kernel_rfl) rfl (fun _ _ _ h=>h) (fun _=>rfl) rfl (fun w'=>by go_simp) ?_
  refine takeT 11 (v:=.pointer (some ⟨b,0,none⟩)) rfl rfl (by kernel_rfl) (by kernel_rfl) (by kernel_rfl) rfl (fun _ _ _ h=>h) (fun _=>rfl) rfl (fun w'=>by go_simp) ?_
  obtain⟨p1,p2,p3⟩:=cells_at t3
  have q0:=p1 0
  have q1:=p1 1
  simp at q0 q1
  refine lT 12 (Cl.all (by kernel_rfl)) (by kernel_rfl) rfl rfl ((w3.setCell ⟨b,0,none⟩ (U i6 (xmn m1 m1))).setCell ⟨b,1,none⟩ (U i6 (xmx m2 m2))) (by go_simp) ?_
  refine doneL (Cl.all (by kernel_rfl)) (by kernel_rfl) ?_ _
  have T3:Hid (Tk ((w3.setCell ⟨b,0,none⟩ (U i6 (xmn m1 m1))).setCell ⟨b,1,none⟩ (U i6 (xmx m2 m2))) b ([]++[(m1,m2)])):=by unfold Hid Tk;rw [HS.out];exact two_of t3
  clear p1 p2 p3 q0 q1 t3 hA S2
  go_wp2
  go_end0
  exact⟨⟨_,rfl⟩,T3.out,(S3.out.set (.inl rfl)).set (.inl rfl)⟩
 | cons y l =>
  have hm:=hc (by simp)
  have t1:=T0
  unfold Tk at t1
  rw [hm] at t1
  simp only [List.isEmpty_cons,Bool.not_false] at t1
  have s1:SB b W w0 [(W.heap.size,#[U i6 x1,U i6 x2],28)]:=s0
  obtain⟨p1,p2,p3⟩:=cells_at t1
  clear hx hL hT hn hc T0 hv hm
  go_enter Tryz.func41,Tryz.ntmps41
  go_upto_region 1 with fail
  try rw [hw0]
  clear hw0
  go_upto_region 3 with fail
  clear p1 p2 p3 c0 f0 z0 s0
  obtain⟨w1,hw1⟩:∃ w1,w0=w1:=⟨_,rfl⟩
  rw [hw1] at t1 s1 ⊢
  clear hw1
  refine regionL (Cl [6] fun w'=>w'.heap[b]? = some (.cells #[U i6 m1,U i6 m2,.bool true] 130 (0,0))∧w'.heap[W.heap.size]? = some (.cells #[U i6 x1,U i6 x2] 28 (0,0))) hmx ?_
  obtain⟨wd,hwd⟩:∃ wd,w1.drew=wd:=⟨_,rfl⟩
  have hdd:Below w1.heap.size w1 wd:=by rw [← hwd];exact (Below.refl _ _).drew
  rw [hwd]
  have hA:Hid (wd.heap[b]? = some (.cells #[U i6 m1,U i6 m2,.bool true] 130 (0,0))):=(hdd.block b (lt_of_heap t1)).trans t1
  have S2:Hid (SB b W wd [(W.heap.size,#[U i6 x1,U i6 x2],28)]):=s1.call hdd
  clear hwd hdd t1 s1
  refine takeT 1 (v:=.pointer (some ⟨b,0,none⟩)) rfl rfl (by kernel_rfl) (by kernel_rfl) (by kernel_rfl) rfl (fun _ _ _ h=>h) (fun _=>rfl) rfl (fun w'=>by go_simp) ?_
  refine takeT 2 (v:=.pointer (some ⟨b,0,none⟩)) rfl rfl (by kernel_rfl) (by kernel_rfl) (by kernel_rfl) rfl (fun _ _ _ h=>h) (fun _=>rfl) rfl (fun w'=>by go_simp) ?_
  refine takeT 3 (v:=.pointer (some ⟨b,0,none⟩)) rfl rfl (by kernel_rfl) (by kernel_rfl) (by kernel_rfl) rfl (fun _ _ _ h=>h) (fun _=>rfl) rfl (fun w'=>by go_simp) ?_
  refine takeG 4 6 (v:=.agg #[U i6 m1,U i6 m2]) rfl rfl (by kernel_rfl) (by kernel_rfl) (by kernel_rfl) (by kernel_rfl) (by kernel_rfl) rfl rfl (fun _ _ _ h=>h) (fun _=>rfl) rfl (fun w' hw'=>run_la 28 (.tmp 20) rfl ⟨b,0,none⟩ (by kernel_rfl) [U i6 m1,U i6 m2] _ (fun j v hj=>by
   rw [Addr.add_lit,(cells_at hw'.1).1]
   have:=(List.getElem?_eq_some_iff.1 hj).1
   rcases (show j=0∨j=1 by simp at this; omega) with rfl | rfl<;>simpa using hj) Tryz.underlying28 rfl (by kernel_rfl)) ?_
  refine takeG 5 6 (v:=.agg #[U i6 x1,U i6 x2]) rfl rfl (by kernel_rfl) (by kernel_rfl) (by kernel_rfl) (by kernel_rfl) (by kernel_rfl) rfl rfl (fun _ _ _ h=>h) (fun _=>rfl) rfl (fun w' hw'=>run_la 28 (.tmp 3) rfl ⟨W.heap.size,0,none⟩ (by kernel_rfl) [U i6 x1,U i6 x2] _ (fun j v hj=>by
   rw [Addr.add_lit,(cells_at hw'.2).1]
   have:=(List.getElem?_eq_some_iff.1 hj).1
   rcases (show j=0∨j=1 by simp at this; omega) with rfl | rfl<;>simpa using hj) Tryz.underlying28 rfl (by kernel_rfl)) ?_
  refine takeT 0 (v:=.pointer (some ⟨b,0,none⟩)) rfl rfl (by kernel_rfl) (by kernel_rfl) (by kernel_rfl) rfl (fun _ _ _ h=>h) (fun _=>rfl) rfl (fun w'=>by go_simp) ?_
  refine lK 6 (Cl.of ⟨hA.out,S2.out.h1⟩) (by kernel_rfl) rfl rfl 59 #[.agg #[U i6 m1,U i6 m2],.agg #[U i6 x1,U i6 x2]] (by kernel_rfl) (HH.out wd) ?_
  rintro e w3 ⟨rfl,hb3⟩
  refine⟨_,rfl,?_⟩
  have t3:=(hb3.block b (lt_of_heap hA.out)).trans hA.out
  have S3:Hid (Tch b W w3):=(S2.out.call hb3).1
  refine lR 7 (Cl.all (by kernel_rfl)) (by kernel_rfl) rfl rfl (.tuple #[.agg #[U i6 (xmn m1 x1),U i6 (xmx m2 x2)],U i6 0]) w3 (by go_simp) ?_
  refine takeT 8 (v:=.agg #[U i6 (xmn m1 x1),U i6 (xmx m2 x2)]) rfl rfl (by kernel_rfl) (by kernel_rfl) (by kernel_rfl) rfl (fun _ _ _ h=>h) (fun _=>rfl) rfl (fun w'=>by go_simp) ?_
  refine takeT 9 (v:=U i6 0) rfl rfl (by kernel_rfl) (by kernel_rfl) (by kernel_rfl) rfl (fun _ _ _ h=>h) (fun _=>rfl) rfl (fun w'=>by go_simp) ?_
  refine takeT 10 (v:=.pointer (some ⟨b,0,none⟩)) rfl rfl (by kernel_rfl) (by kernel_rfl) (by kernel_rfl) rfl (fun _ _ _ h=>h) (fun _=>rfl) rfl (fun w'=>by go_simp) ?_
  refine takeT 11 (v:=.pointer (some ⟨b,0,none⟩)) rfl rfl (by kernel_rfl) (by kernel_rfl) (by kernel_rfl) rfl (fun _ _ _ h=>h) (fun _=>rfl) rfl (fun w'=>by go_simp) ?_
  obtain⟨p1,p2,p3⟩:=cells_at t3
  have q0:=p1 0
  have q1:=p1 1
  simp at q0 q1
  refine lT 12 (Cl.all (by kernel_rfl)) (by kernel_rfl) rfl rfl ((w3.setCell ⟨b,0,none⟩ (U i6 (xmn m1 x1))).setCell ⟨b,1,none⟩ (U i6 (xmx m2 x2))) (by go_simp) ?_
  refine doneL (Cl.all (by kernel_rfl)) (by kernel_rfl) ?_ _
  have T3:Hid (Tk ((w3.setCell ⟨b,0,none⟩ (U i6 (xmn m1 x1))).setCell ⟨b,1,none⟩ (U i6 (xmx m2 x2))) b ((y :: l)++[(x1,x2)])):=by unfold Hid Tk;rw [HS.out];exact two_of t3
  clear p1 p2 p3 q0 q1 t3 hA S2
  go_wp2
  go_end0
  exact⟨⟨_,rfl⟩,T3.out,(S3.out.set (.inl rfl)).set (.inl rfl)⟩
attribute [local go_sem] Oper.semAt_some
theorem run_store_func {P:Program} {w:World} {a:Addr} {m:Mode} (fn:Fn) (f c:Array Value):(store a (.func fn f c) m).run P w=stored P w a (.func fn f c) m:=run_store P w a _ m rfl
attribute [local go_sem] run_store_func
def piT (F:List (Int×Int)→List (Int×Int)) (R:Nat→List (Int×Int)) (N:Nat):List (Int×Int):=(List.range N).flatMap fun k=>F (R k)
theorem piT_succ (F:List (Int×Int)→List (Int×Int)) (R:Nat→List (Int×Int)) (k:Nat):piT F R (k+1)=piT F R k++F (R k):=by unfold piT;rw [List.range_succ,List.flatMap_append];simp
theorem mem_piT {F:List (Int×Int)→List (Int×Int)} {R:Nat→List (Int×Int)} {N:Nat} {x:Int×Int}:x∈piT F R N ↔ ∃ k,k<N∧x∈F (R k):=by simp [piT]
def Pik (W:World) (gf:Nat) (cl:Array Value) (F:List (Int×Int)→List (Int×Int)):Prop :=
 ∀ W' (v:Value) (E L:List (Int×Int)) (nb b:Nat),Below W.heap.size W W'→Rb E→0<E.length→E.length≤512→SpV W' v E→Nb nb v→b+1≤nb→Tk W' b L→(∀ y∈L,Vd 10000000000 y)→Calls Tryz.prog gf (#[v,fTk b]++cl) W' fun e w'=>(∃ u,e=.returned u)∧Tk w' b (L++F E)∧Tch b W' w'
theorem bhull_any (q:Nat) (ch n:Int) (fa:Option Addr) (fl fc:Nat) (bi slo shi p h w c:Int) (g0:Nat) (TL:Nat→List (Int×Int)) (N:Nat) (hn:n=(N:Int)) (hN:N≤100000000) (hfl:fl≤512) (hTl:∀ k,k<N→(TL k).length=fl) (R:Nat→List (Int×Int)) (hRe:(fun k=>enL slo shi p (TL k))=R) (F:List (Int×Int)→List (Int×Int)) (gf:Nat) (lb:Array Value) (W:World)
  (hq:W.heap[q]? = some (.cells #[U i6 ch,U i6 n,Sl fa fl fc,U i6 bi,U i6 slo,U i6 shi,U i6 p,U i6 p,U i6 h,U i6 w,U i6 c,U i6 0,U i6 0,Sl (some ⟨g0,0,none⟩) 1 1,U i6 0] 95 (0,0)))
  (hE:∀ W' (k:Nat),Below W.heap.size W W'→k<N→Calls Tryz.prog 78 #[.pointer (some ⟨q,0,none⟩),U i6 (k:Int)] W' fun e w'=>(∃ u,e=.returned u∧TV w' u (TL k)∧∀ a n c,u=.slice (some a) n c→a.block<W.heap.size∨W'.heap.size≤a.block)∧Below W'.heap.size W' w')
  (hPd:∀ W' (k:Nat) (t:Int×Int),Below W.heap.size W W'→k<N→t∈TL k→Calls Tryz.prog 79 #[.pointer (some ⟨q,0,none⟩),.agg #[U i6 t.1,U i6 t.2]] W' fun e w'=>e=.returned (.agg #[U i6 (tmE slo shi p t).1,U i6 (tmE slo shi p t).2])∧Below W'.heap.size W' w')
  (eg:∀ args w,(callFunc gf args).run Tryz.prog w=.ok (.enter gf args) w)
  (hP:∀ W' (v:Value) (k nb b:Nat) (L:List (Int×Int)),Below W.heap.size W W'→k<N→SpV W' v (R k)→Nb nb v→b+1≤nb→Tk W' b L→(∀ y∈L,Vd 10000000000 y)→Calls Tryz.prog gf (#[v,fTk b]++lb) W' fun e w'=>(∃ u,e=.returned u)∧Tk w' b (L++F (R k))∧Tch b W' w')
  (hF:∀ k,k<N→∀ x∈F (R k),Vd 10000000000 x) :
  Calls Tryz.prog 37 #[.pointer (some ⟨q,0,none⟩),.func (.func gf) #[] lb] W fun e w'=>e=.returned (.agg #[U i6 (huA (piT F R N)).1,U i6 (huA (piT F R N)).2])∧Below W.heap.size W w':=by
 have HE:Hid (∀ W' (k:Nat),Below W.heap.size W W'→k<N→_):=hE
 have HPd:Hid (∀ W' (k:Nat) (t:Int×Int),Below W.heap.size W W'→k<N→t∈TL k→_):=hPd
 have HRe:Hid ((fun k=>enL slo shi p (TL k))=R):=hRe
 have HP:Hid (∀ W' (v:Value) (k nb b:Nat) (L:List (Int×Int)),Below W.heap.size W W'→k<N→SpV W' v (R k)→Nb nb v→b+1≤nb→Tk W' b L→(∀ y∈L,Vd 10000000000 y)→_):=hP
 have HL:Hid (∀ k,k<N→∀ y∈piT F R k,Vd 10000000000 y):=fun k hk y hy=>by
  obtain⟨j,hj,hy'⟩:=mem_piT.1 hy
  exact hF j (by omega) y hy'
 have HQ:Hid (W.heap[q]? = _):=hq
 have hqz:=lt_of_heap hq
 have s1:=(((St.start W).new (c:=#[.func (.func gf) #[] lb]) (t:=101)).new (c:=#[U i6 0,U i6 0]) (t:=28)).new (c:=#[U i6 0,U i6 0,.bool false]) (t:=130)
 simp only [World.size_alloc] at s1
 have HN:Hid (n=(N:Int)):=hn
 clear hE hP hPd hF hq hn hRe
 unfold fTk at HP
 have hfn:∀ f,Fence.wide.fn f:=fun _=>trivial
 have hdp:Fence.wide.depth=none:=rfl
 have hmf:∀ (fn:Fn) (first cap:Array Value) (w:World),(Instr.makeFunc fn first cap).run Tryz.prog w=.ok (.func fn first cap) w:=fun _ _ _ _=>rfl
 refine (callsIn_wide (n:=3)).1 ?_
 refine callsIn_of_wp_marks Tryz.func37 rfl trivial ?_ rfl
 simp only [Tryz.ntmps37,List.size_toArray,List.length_cons,List.length_nil,Nat.reduceAdd,Nat.reduceSub,Array.replicate_succ,Array.replicate_zero,List.push_toArray,List.append_toArray,List.nil_append,List.cons_append]
 refine wpIn_wide.2 ?_
 go_upto_region 2 with fail
 obtain⟨w8,hw8⟩:∃ w8,((W.alloc (.cells #[.func (.func gf) #[] lb] 101)).alloc (.cells #[U i6 0,U i6 0] 28)).alloc (.cells #[U i6 0,U i6 0,.bool false] 130)=w8:=⟨_,rfl⟩
 rw [hw8] at s1 ⊢
 clear hw8
 obtain⟨b,hb⟩:∃ b,W.heap.size+1+1=b:=⟨_,rfl⟩
 rw [hb] at s1 ⊢
 have T8:Hid (Tk w8 b []):=s1.h1
 have HS8:Hid (St W w8 [(W.heap.size+1,#[U i6 0,U i6 0],28),(W.heap.size,#[.func (.func gf) #[] lb],101)]):=s1.tail
 have hB8:b<w8.heap.size:=lt_of_heap s1.h1
 have hbW:W.heap.size+2=b:=by omega
 clear s1 hb
 go_wp2_with fail
 refine (brows_any q W.heap.size ch n fa fl fc bi slo shi p h w c g0 TL N HN.out hN hfl hTl w8 HS8.out.size hqz ((HS8.out.below.block q hqz).trans HQ.out) (fun W' k hb hk=>HE.out W' k (HS8.out.below.trans hb) hk) (fun W' k t hb hk ht=>HPd.out W' k t (HS8.out.below.trans hb) hk ht)).mono ?_
 rintro e w9 ⟨⟨lb',rfl,hsq⟩,hb9,hc9⟩
 rw [HRe.out] at hsq
 have HSQ:Hid (Sq _ _ _ _ w9 _ _ _):=hsq
 have HS9:Hid (St W w9 [(W.heap.size+1,#[U i6 0,U i6 0],28),(W.heap.size,#[.func (.func gf) #[] lb],101)]):=HS8.out.call hb9
 have HT9:Hid (Tk w9 b []):=T8.out.below hb9
 have hz9:=hb9.size
 clear hsq hb9 hc9 HS8 T8
 go_wp2
 refine (wpIn_wide (n:=5)).1 ?_
 refine range_sq HSQ.out rfl rfl (by omega) HS9.out.size
  (fun k W'=>St W W' [(W.heap.size+1,#[U i6 0,U i6 0],28),(W.heap.size,#[.func (.func gf) #[] lb],101)]∧Tk W' b (piT F R k)∧w8.heap.size≤W'.heap.size)
  ?own (fun _ _ _=>trivial) ⟨HS9.out,by simpa [piT] using HT9.out,hz9⟩ ?a₁ ?assign ?body ?done
 case own =>
  rintro k A B row ⟨h1,h2,h3⟩ hg hr
  have hz:=HS9.out.size
  exact⟨⟨h1.1.grown hg h1.1.size (fun r e=>by have:=hr r e; omega),fun x hx=>⟨(hg.block x.1 (lt_of_heap (h1.2 x hx).1) (fun e=>by have h7:=hr _ e.symm; have h8:x.1≤W.heap.size+1:=(by simp only [List.mem_cons,List.not_mem_nil,or_false] at hx; rcases hx with rfl | rfl<;>simp); omega)).trans (h1.2 x hx).1,(h1.2 x hx).2⟩⟩,h2.turn hg (fun r e=>by have:=hr r e; omega),Nat.le_trans h3 hg.size⟩
 case assign =>
  intro l x W' K hK
  gi_wp2
  exact hK
 case done =>
  rintro D W' hD ⟨h1,h2,h3⟩ hK
  have hz:=HS9.out.size
  obtain⟨m1,m2,hm⟩:∃ m1 m2,huA (piT F R N)=(m1,m2):=⟨_,_,rfl⟩
  have HM:Hid (huA (piT F R N)=(m1,m2)):=hm
  have t1:=h2
  unfold Tk at t1
  rw [hm] at t1
  simp only at t1
  obtain⟨p1,p2,p3⟩:=cells_at t1
  have h1':=h1
  obtain⟨c1,f1,z1,-⟩:=h1'.rules
  have sF:=(h1'.set2 (u:=U i6 m1) (v:=U i6 m2) (by simp)).turn (grownBy_putObj' _ D (.deferred none)) (fun r e=>by cases e;exact⟨by omega,_,(Below.heap_setCell _ _ _ _ (by show D≠W.heap.size+1;omega)).trans ((Below.heap_setCell _ _ _ _ (by show D≠W.heap.size+1;omega)).trans hK),rfl⟩)
  obtain⟨cF,-⟩:=sF.rules
  have HFb:Hid (Below W.heap.size W _):=sF.below
  clear h1 h1' h2 sF hm t1
  go_wp2
  refine⟨by simp,.inl ⟨_,_,rfl,run_takeDeferred ((Below.heap_setCell _ _ _ _ (by show D≠W.heap.size+1;omega)).trans ((Below.heap_setCell _ _ _ _ (by show D≠W.heap.size+1;omega)).trans hK)),?_⟩⟩
  exact⟨.agg #[U i6 m1,U i6 m2],by simp [results,Tryz.f37,go_sem,cF],by rw [HM.out],HFb.out⟩
 case body =>
  rintro l k x W' ⟨h1,h2,h3⟩ hk hx hxn
  obtain⟨c1,f1,z1,c2,f2,z2,-⟩:=h1.rules
  have HC:Hid _:=HP.out W' x k w8.heap.size b (piT F R k) h1.below hk hx hxn (by omega) h2 (HL.out k hk)
  have H1:Hid (St W W' [(W.heap.size+1,#[U i6 0,U i6 0],28),(W.heap.size,#[.func (.func gf) #[] lb],101)]):=h1
  have HPs:Hid (piT F R (k+1)=piT F R k++F (R k)):=piT_succ F R k
  obtain⟨xa,xc,hxe,-⟩:=hx
  subst hxe
  clear h1 h2 HSQ HS9 HT9
  gi_wp2_with fail
  refine (CallsIn.inRound l (callsIn_wide.2 HC.out)).mono ?_
  rintro e w1 ⟨⟨u,rfl⟩,tk1,tc1⟩
  have S1:Hid (St W w1 [(W.heap.size+1,#[U i6 0,U i6 0],28),(W.heap.size,#[.func (.func gf) #[] lb],101)]):=H1.out.tch tc1 (by omega) (by simp;omega)
  have T1:Hid (Tk w1 b (piT F R (k+1))):=by unfold Hid;rw [HPs.out];exact tk1
  have K1:Hid (Tch b W' w1):=tc1
  have hs1:=H1.out.size
  clear HC H1 tk1 tc1 c1 f1 z1 c2 f2 z2
  gi_wp2
  have hz9':=K1.out.size
  exact⟨K1.out.from (by omega),K1.out.kps (by omega) hs1 (by simp;omega),K1.out.kx (fun a n c e=>by have:=hxn a n c e;omega),S1.out,T1.out,by omega⟩
end Go.Proofs.YtgjcjhnnopandaaGreat
