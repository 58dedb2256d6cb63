/- The four hulls in plain numbers: what is known of them, how they lie in one another, wider spans. Numbers that spans hold: sums, blocks and products of a row's terms (for BoundHolds). Numbers that reach the ends of a sum: lists that take, for each weight, the one end or the other, in plain numbers (for BoundReached). The small functions of package depth: within, int16s, int32s; the search; Safe and Most's closure of what they ask. The depths that are safe, in plain numbers: none but those where the products fit; wider spans; the best plan. Numbers driven to the end of a sum, or beyond a register of 16 bits, in plain numbers. Small calls of a channel of package witness: does a number fit, a term's number, its product, the terms at a position, a tensor that drives terms. Calls of a channel of package witness: the terms at a position; a tensor that drives terms. -/
import Derived.Test.YtgjcjhnnopandaaGreatGq13
import Derived.Test.YtgjcjhnnopandaaGreatGq14
import Derived.Test.YtgjcjhnnopandaaGreatGq15
import Derived.Test.YtgjcjhnnopandaaGreatGq16
import Derived.Test.YtgjcjhnnopandaaGreatGq24
import Derived.Test.YtgjcjhnnopandaaGreatGq25
import Derived.ScopeJumps
import Derived.WalkMore
namespace Go.Proofs.YtgjcjhnnopandaaGreat
open Go.Value renaming int → U, slice → Sl
open Go.IntKind renaming i64 → i6
set_option maxRecDepth 100000
set_option maxHeartbeats 16000000
open Go.ChangeShapes Go.WideShapes Go.ChangeAt Go.RowKit
set_option linter.unusedVariables false
theorem sit_N {k kh kw sh sw tp lf bt rt h w c H V C:Int} {lw lb:Nat} (s:Sit k kh kw sh sw tp lf bt rt h w c H V C lw lb):0<(H*V).toNat:=by have:=(vS_bd s.2.2.1).1;omega
theorem spR_t {slo shi:Int} (h:vbB slo shi=true) (r:Int×Int):spR slo shi r=(r.1,r.2,0):=if_pos h
theorem spR_f {slo shi:Int} (h:vbB slo shi=false) (r:Int×Int):spR slo shi r=(0,0,30):=if_neg (by rw [h];decide)
theorem hb_ne {k kh kw sh sw tp lf bt rt h w c H V C p:Int} {lw lb:Nat} (s:Sit k kh kw sh sw tp lf bt rt h w c H V C lw lb) {zs:List Int} (hz:∀ v∈zs,(Lit.int .i16 v).wf=true) {ch:Int} (hch:1≤ch∧ch≤C) {slo shi bi:Int} (hs:-128≤slo∧slo≤shi∧shi≤127) (hp:-128≤p∧p≤127) (hbi:-2147483648≤bi∧bi≤2147483647) (d:Nat):piT (fun E=>[suS (bi,bi) E]) (fun (j:Nat)=>enL slo shi p (siL k kh kw sh sw tp lf bt rt h w c ch (j:Int) zs)) (H*V).toNat≠[]∧piT (fun E=>ruL (bi,bi) E) (fun (j:Nat)=>enL slo shi p (siL k kh kw sh sw tp lf bt rt h w c ch (j:Int) zs)) (H*V).toNat≠[]∧piT (fun E=>E) (fun (j:Nat)=>enL slo shi p (siL k kh kw sh sw tp lf bt rt h w c ch (j:Int) zs)) (H*V).toNat≠[]∧piT (fun E=>paL d E++E) (fun (j:Nat)=>enL slo shi p (siL k kh kw sh sw tp lf bt rt h w c ch (j:Int) zs)) (H*V).toNat≠[]:=by
 have hf:=row_facts s hz hch hs hp ((0:Nat):Int)
 have hN:=sit_N s
 exact⟨piT_ne hN (by simp),piT_ne hN (by rw [ruL_len];omega),piT_ne hN hf.2.1,piT_ne hN (by rw [List.length_append];have:=hf.2.1;omega)⟩
def PIn (x:Int) (s:Int×Int):Prop:=s.1≤x∧x≤s.2
theorem PIn.add {x y:Int} {s e:Int×Int} (h:PIn x s) (g:PIn y e):PIn (x+y) (plS s e):=by unfold PIn plS at *;simp only;omega
theorem PIn.has {x a b:Int} {s:Int×Int} (h:PIn x s) (g:Inn s (a,b)):xhas a b x=true:=decide_eq_true (by unfold PIn Inn at *;simp only at g;omega)
theorem PIn.bd {x:Int} {s:Int×Int} {M:Int} (h:PIn x s) (g:Vd M s):-M≤x∧x≤M:=by unfold PIn Vd at *;omega
theorem getD_in {E:List (Int×Int)} {k:Nat} (hk:k<E.length):E.getD k (0,0)∈E:=by
 rw [List.getD_eq_getElem?_getD,List.getElem?_eq_getElem hk];exact List.getElem_mem _
def psU (d:Nat) (E:List (Int×Int)) (j:Nat):Int×Int:=if j=0 then (0,0) else psm d E (j-1)
theorem psU_succ (d:Nat) (E:List (Int×Int)) (j:Nat):psU d E (j+1)=psm d E j:=by unfold psU;rw [if_neg (by omega)];rfl
theorem psm_0 {d:Nat} {E:List (Int×Int)} {j:Nat} (hd:0<d) (hj:j<E.length) (h:j % d=0) {e:Int×Int} (he:E.getD j (0,0)=e):psm d E j=plS (0,0) e:=by
 unfold psm
 have e1:j / d*d=j:=by have:=Nat.div_add_mod j d;rw [h,Nat.mul_comm] at this;omega
 rw [e1,h,suS_take (0,0) (d:=(0,0)) (e:=e) (by rw [List.length_drop];omega) (by rw [List.getD_eq_getElem?_getD,List.getElem?_drop,Nat.add_zero,← List.getD_eq_getElem?_getD,he])]
 simp [suS]
theorem psm_on {d:Nat} {E:List (Int×Int)} {j:Nat} (hd:0<d) (hj:j<E.length) (h:j % d≠0) {e:Int×Int} (he:E.getD j (0,0)=e):psm d E j=plS (psU d E j) e:=by
 have h0:j≠0:=fun q=>h (by rw [q];exact Nat.zero_mod d)
 have hm:=Nat.mod_lt j hd
 have hdm:=Nat.div_add_mod j d
 have e1:(j-1) / d=j / d:=by
  have:j-1=d*(j / d)+(j % d-1):=by omega
  rw [this,Nat.mul_add_div hd,Nat.div_eq_of_lt (show j % d-1<d by omega),Nat.add_zero]
 have e2:(j-1) % d+1=j % d:=by
  have:j-1=d*(j / d)+(j % d-1):=by omega
  rw [this,Nat.mul_add_mod,Nat.mod_eq_of_lt (show j % d-1<d by omega)]
  omega
 unfold psU
 rw [if_neg h0]
 unfold psm
 rw [e1,e2]
 rw [Nat.mul_comm] at hdm
 exact suS_take (0,0) (d:=(0,0)) (by rw [List.length_drop];omega) (by rw [List.getD_eq_getElem?_getD,List.getElem?_drop,hdm,← List.getD_eq_getElem?_getD,he])
theorem psU_vd {E:List (Int×Int)} {d:Nat} (hE:Rb E) (hl:E.length≤512) (j:Nat):Vd 10000000000 (psU d E j):=by
 unfold psU
 split
 ·unfold Vd;simp
 ·exact psm_vd hE hl
def RulesM (w:World):List (Nat×Array Value×TypeId)→Prop
 | []=>True
 | (B,c,_) :: l=>(∀ (n:Wd w []) i,n.w.cell? ⟨B,i,none⟩=c[i]?)∧(∀ (n:Wd w []),B<n.w.heap.size)∧RulesM w l
theorem rulesM_of {w:World}:∀ (l:List (Nat×Array Value×TypeId)),(∀ x∈l,w.heap[x.1]? = some (.cells x.2.1 x.2.2 (0,0)))→RulesM w l
 | [],_=>trivial
 | (B,c,t) :: l,h=>by
  have h0:w.heap[B]? = some (.cells c t (0,0)):=h (B,c,t) List.mem_cons_self
  have h1:∀ n:Wd w [],n.w.heap[B]? = some (.cells c t (0,0)):=fun n=>by rw [n.h.below.block _ (lt_of_heap h0)];exact h0
  exact⟨fun n i=>by simp [World.cell?,h1 n],fun n=>lt_of_heap (h1 n),rulesM_of l fun x hx=>h x (List.mem_cons_of_mem _ hx)⟩
theorem St.rulesM {w0 w:World} {l:List (Nat×Array Value×TypeId)} (h:St w0 w l):RulesM w l:=rulesM_of l fun x hx=>(h.2 x hx).1
theorem plA_inj {k kh kw sh sw tp lf bt rt h w c H V C ch t u:Int} {lw lb:Nat} (s:Sit k kh kw sh sw tp lf bt rt h w c H V C lw lb) (hch:1≤ch∧ch≤C) {i j:Nat} (hi:plA k c ch h w kw t u (i:Int)≠-1) (he:plA k c ch h w kw t u (i:Int)=plA k c ch h w kw t u (j:Int)):i=j:=by
 obtain⟨hk,hvA,hvB,hou,-,hwn,-,h3c,-⟩:=s
 have hc1:=(vS_yes hvA).2.2.1
 have hd1:=(vS_yes hvA).1
 have hw1:=(vS_yes hvA).2.1
 by_cases k1:k=1
 ·subst k1
  have hf:∀ i:Nat,plA 1 c ch h w kw t u (i:Int)=(i:Int):=fun i=>if_pos rfl
  rw [hf,hf] at he
  exact_mod_cast he
 ·obtain⟨hk1,hk2⟩:=hwn (by omega)
  have hF:0≤chF k ch:=by unfold chF; split<;>omega
  have hB0:chB k c ch≤c:=by
   unfold chB
   split
   ·omega
   ·have:=h3c (by omega);omega
  have hFB:chF k ch<chB k c ch:=by unfold chF chB; split<;>omega
  obtain⟨nC,hnC⟩:∃ nC:Nat,(nC:Int)=chB k c ch-chF k ch:=⟨(chB k c ch-chF k ch).toNat,by omega⟩
  have g:Wn4 k c ch h w kw t u nC 0:=⟨k1,by omega,hnC,by omega,hF,hB0,hc1,hd1,hw1,by omega,rfl⟩
  exact g.inj hi he
theorem siL_at {k kh kw sh sw tp lf bt rt h w c ch at':Int} {zs:List Int} {i:Nat} (hi:i<(siL k kh kw sh sw tp lf bt rt h w c ch at' zs).length) :
  (siL k kh kw sh sw tp lf bt rt h w c ch at' zs).getD i (0,0)=(wgA k ch (stR k kh kw h w c) zs i,plA k c ch h w kw (coR h w c kh kw sh sw tp lf bt rt at').1 (coR h w c kh kw sh sw tp lf bt rt at').2.1 i):=by
 unfold siL at hi ⊢
 rw [tmL_len] at hi
 unfold tmL
 rw [List.getD_eq_getElem?_getD,List.getElem?_map,List.getElem?_range hi]
 rfl
theorem siL_inj {k kh kw sh sw tp lf bt rt h w c H V C ch at':Int} {lw lb:Nat} (s:Sit k kh kw sh sw tp lf bt rt h w c H V C lw lb) (hch:1≤ch∧ch≤C) {zs:List Int} {i j:Nat} (hi:i<(siL k kh kw sh sw tp lf bt rt h w c ch at' zs).length) (hj:j<(siL k kh kw sh sw tp lf bt rt h w c ch at' zs).length)
  (hn:¬ ((siL k kh kw sh sw tp lf bt rt h w c ch at' zs).getD i (0,0)).2<0) (he:((siL k kh kw sh sw tp lf bt rt h w c ch at' zs).getD i (0,0)).2=((siL k kh kw sh sw tp lf bt rt h w c ch at' zs).getD j (0,0)).2):i=j:=by
 rw [siL_at hi] at hn he
 rw [siL_at hj] at he
 exact plA_inj s hch (fun q=>hn (by show plA k c ch h w kw (coR h w c kh kw sh sw tp lf bt rt at').1 (coR h w c kh kw sh sw tp lf bt rt at').2.1 i<0;rw [q];decide)) he
def flL (n:Nat) (z:Int) (i:Nat):List Int:=List.replicate i z++List.replicate (n-i) 0
theorem flL_0 (n:Nat) (z:Int):flL n z 0=List.replicate n 0:=by simp [flL]
theorem flL_len {n i:Nat} (z:Int) (h:i≤n):(flL n z i).length=n:=by simp [flL];omega
theorem flL_all (n:Nat) (z:Int):flL n z n=List.replicate n z:=by simp [flL]
theorem flL_set {n i:Nat} (z:Int) (h:i<n):(flL n z i).set i z=flL n z (i+1):=by
 unfold flL
 obtain⟨m,hm⟩:∃ m,n-i=m+1:=⟨n-i-1,by omega⟩
 rw [hm,show n-(i+1)=m by omega,List.set_append_right _ _ (by simp),List.length_replicate,Nat.sub_self,List.replicate_succ,List.set_cons_zero,List.replicate_succ',List.append_assoc]
 rfl
def pls (TL:List (Int×Int)) (k:Nat):Int:=(TL.getD k (0,0)).2
def wgs (TL:List (Int×Int)) (k:Nat):Int:=(TL.getD k (0,0)).1
structure Fl (n:Nat) (lo hi:Int) (s:Int→Bool) (TL:List (Int×Int)) (m:Nat) (A:List Int):Prop where
 len:A.length=n
 val:∀ v∈A,v=lo∨v=hi
 hit:∀ k,k<m→¬ pls TL k<0→A.getD (pls TL k).toNat 0=if s (wgs TL k)=true then hi else lo
 rest:∀ p,p<n→(∀ k,k<m→pls TL k≠(p:Int))→A.getD p 0=lo
structure Pli (n:Nat) (TL:List (Int×Int)):Prop where
 bd:∀ k,k<TL.length→pls TL k = -1∨(0≤pls TL k∧pls TL k<(n:Int))
 inj:∀ i j,i<TL.length→j<TL.length→¬ pls TL i<0→pls TL i=pls TL j→i=j
theorem Fl.start (n:Nat) (lo hi:Int) (s:Int→Bool) (TL:List (Int×Int)):Fl n lo hi s TL 0 (List.replicate n lo) :=
 ⟨by simp,fun v hv=>.inl (List.eq_of_mem_replicate hv),fun k hk=>absurd hk (Nat.not_lt_zero _),fun p hp _=>by simp [List.getD,hp]⟩
theorem Fl.pad {n:Nat} {lo hi:Int} {s:Int→Bool} {TL:List (Int×Int)} {m:Nat} {A:List Int} (h:Fl n lo hi s TL m A) (hp:pls TL m<0):Fl n lo hi s TL (m+1) A:=by
 refine⟨h.len,h.val,fun k hk hn=>?_,fun p hp' hk=>h.rest p hp' fun k hkm=>hk k (by omega)⟩
 by_cases e:k=m
 ·subst e;exact absurd hp hn
 ·exact h.hit k (by omega) hn
theorem Fl.skip {n:Nat} {lo hi:Int} {s:Int→Bool} {TL:List (Int×Int)} {m p:Nat} {A:List Int} (h:Fl n lo hi s TL m A) (g:Pli n TL) (hm:m<TL.length) (hp:pls TL m=(p:Int)) (hs:s (wgs TL m)=false):Fl n lo hi s TL (m+1) A:=by
 refine⟨h.len,h.val,fun k hk hn=>?_,fun q hq hk=>h.rest q hq fun k hkm=>hk k (by omega)⟩
 by_cases e:k=m
 ·subst e
  rw [hs,if_neg (by decide),hp,Int.toNat_natCast]
  have hb:=g.bd k hm
  refine h.rest p (by omega) fun i hi he=>?_
  have:=g.inj k i hm (by omega) hn (by rw [hp,he])
  omega
 ·exact h.hit k (by omega) hn
theorem Fl.put {n:Nat} {lo hi:Int} {s:Int→Bool} {TL:List (Int×Int)} {m p:Nat} {A:List Int} (h:Fl n lo hi s TL m A) (g:Pli n TL) (hm:m<TL.length) (hp:pls TL m=(p:Int)) (hs:s (wgs TL m)=true):Fl n lo hi s TL (m+1) (A.set p hi):=by
 have hb:=g.bd m hm
 have hpl:p<A.length:=by rw [h.len];omega
 refine⟨by rw [List.length_set];exact h.len,fun v hv=>?_,fun k hk hn=>?_,fun q hq hk=>?_⟩
 ·rcases List.mem_or_eq_of_mem_set hv with q | q
  ·exact h.val v q
  ·exact .inr q
 ·by_cases e:k=m
  ·subst e
   rw [hs,if_pos rfl,hp,Int.toNat_natCast]
   simp [List.getD,hpl]
  ·have hb':=g.bd k (by omega)
   have hne:p≠(pls TL k).toNat:=fun q=>e (g.inj k m (by omega) hm hn (by omega))
   have:=h.hit k (by omega) hn
   rw [← this,List.getD_eq_getElem?_getD,List.getElem?_set_ne hne,← List.getD_eq_getElem?_getD]
 ·have hne:p≠q:=fun e=>hk m (by omega) (by rw [hp,e])
  rw [List.getD_eq_getElem?_getD,List.getElem?_set_ne hne,← List.getD_eq_getElem?_getD]
  exact h.rest q hq fun k hkm=>hk k (by omega)
def sA (w:Int):Bool:=decide (¬ 0<w)
def sB (w:Int):Bool:=decide (0<w)
theorem smV_enL {lo hi p:Int} {A:List Int} (f:Int×Int→Int):∀ (TL:List (Int×Int)),(∀ t∈TL,smT p A t=f t)→smV p A TL=(TL.map f).sum
 | [],_=>rfl
 | t :: l,h=>by
  rw [smV,smV_enL (lo:=lo) (hi:=hi) f l fun t ht=>h t (List.mem_cons_of_mem _ ht),h t List.mem_cons_self]
  simp
theorem suS_sum:∀ (E:List (Int×Int)) (s:Int×Int),(suS s E).1=s.1+(E.map (·.1)).sum∧(suS s E).2=s.2+(E.map (·.2)).sum
 | [],s=>by simp [suS]
 | e :: E,s=>by
  obtain⟨h1,h2⟩:=suS_sum E (plS s e)
  have e1:suS s (e :: E)=suS (plS s e) E:=rfl
  rw [e1,h1,h2]
  simp only [plS,List.map_cons,List.sum_cons]
  omega
theorem Fl.at {n:Nat} {lo hi:Int} {s:Int→Bool} {TL:List (Int×Int)} {A:List Int} (h:Fl n lo hi s TL TL.length A) {t:Int×Int} (ht:t∈TL) (hn:¬ t.2<0):A.getD t.2.toNat 0=if s t.1=true then hi else lo:=by
 obtain⟨k,hk,e⟩:=List.getElem_of_mem ht
 have e2:TL.getD k (0,0)=t:=by rw [List.getD_eq_getElem?_getD,List.getElem?_eq_getElem hk,e];rfl
 have:=h.hit k hk (by unfold pls;rw [e2];exact hn)
 unfold pls wgs at this
 rw [e2] at this
 exact this
theorem Fl.lo {n:Nat} {lo hi p bi:Int} {TL:List (Int×Int)} {A:List Int} (h:Fl n lo hi sA TL TL.length A):bi+smV p A TL=(suS (bi,bi) (enL lo hi p TL)).1:=by
 rw [(suS_sum _ _).1,smV_enL (lo:=lo) (hi:=hi) (fun t=>(tmE lo hi p t).1) TL fun t ht=>?_]
 ·unfold enL;rw [List.map_map];rfl
 unfold smT tmE
 by_cases hn:t.2<0
 ·rw [if_pos hn,if_pos hn,Int.mul_comm]
 ·rw [if_neg hn,if_neg hn,h.at ht hn]
  unfold sA xti
  by_cases q:t.1<0
  ·rw [if_pos q,if_pos (decide_eq_true (by omega)),Int.mul_comm]
  ·rw [if_neg q]
   by_cases q0:t.1=0
   ·rw [q0];simp
   ·rw [if_neg (by simp;omega),Int.mul_comm]
theorem Fl.hi {n:Nat} {lo hi p bi:Int} {TL:List (Int×Int)} {A:List Int} (h:Fl n lo hi sB TL TL.length A):bi+smV p A TL=(suS (bi,bi) (enL lo hi p TL)).2:=by
 rw [(suS_sum _ _).2,smV_enL (lo:=lo) (hi:=hi) (fun t=>(tmE lo hi p t).2) TL fun t ht=>?_]
 ·unfold enL;rw [List.map_map];rfl
 unfold smT tmE
 by_cases hn:t.2<0
 ·rw [if_pos hn,if_pos hn,Int.mul_comm]
 ·rw [if_neg hn,if_neg hn,h.at ht hn]
  unfold sB xti
  by_cases q:t.1<0
  ·rw [if_pos q,if_neg (by simp;omega),Int.mul_comm]
  ·rw [if_neg q]
   by_cases q0:t.1=0
   ·rw [q0];simp
   ·rw [if_pos (decide_eq_true (by omega)),Int.mul_comm]
def orB (f:Nat→Bool):Nat→Bool
 | 0=>false
 | m+1=>orB f m || f m
theorem hbT_ends (bi:Int) (R:Nat→List (Int×Int)) (N:Nat) (hN:0<N):(∃ j,j<N∧(suS (bi,bi) (R j)).1=(hbT bi R N).1)∧∃ j,j<N∧(suS (bi,bi) (R j)).2=(hbT bi R N).2:=by
 have hne:piT (fun E=>[suS (bi,bi) E]) R N≠[]:=piT_ne hN (by simp)
 obtain⟨-,⟨x,hx,ex⟩,⟨y,hy,ey⟩⟩:=huA_is hne
 obtain⟨j,hj,hx'⟩:=mem_piT.1 hx
 obtain⟨i,hi,hy'⟩:=mem_piT.1 hy
 rw [List.mem_singleton] at hx' hy'
 exact⟨⟨j,hj,by rw [← hx'];exact ex⟩,⟨i,hi,by rw [← hy'];exact ey⟩⟩
def wiB (a b c d:Int):Bool:=decide (a≤c∧d≤b)
def w16 (r:Int×Int):Bool:=wiB (-32768) 32767 r.1 r.2
def w32 (r:Int×Int):Bool:=wiB (-2147483648) 2147483647 r.1 r.2
theorem dwit_any (a b c d:Int) (W:World):Calls Tryz.prog 67 #[.agg #[U i6 a,U i6 b],.agg #[U i6 c,U i6 d]] W fun e w'=>e=.returned (.bool (wiB a b c d))∧Below W.heap.size W w':=by
 have s0:=((St.start W).new (c:=#[U i6 a,U i6 b]) (t:=28)).new (c:=#[U i6 c,U i6 d]) (t:=28)
 by_cases h1:a≤c
 ·have HR:Hid (decide (d≤b)=wiB a b c d):=by unfold Hid wiB;simp [h1]
  go_enter Tryz.func67,Tryz.ntmps67
  go_wp2
  go_ret
  exact⟨retB HR.out,s0.below⟩
 ·have HR:Hid (false=wiB a b c d):=by unfold Hid wiB;simp [h1]
  go_enter Tryz.func67,Tryz.ntmps67
  go_wp2
  go_ret
  exact⟨retB HR.out,s0.below⟩
theorem d16_any (W:World):Calls Tryz.prog 68 #[] W fun e w'=>e=.returned (.agg #[U i6 (-32768),U i6 32767])∧Below W.heap.size W w':=by
 go_enter Tryz.func68,Tryz.ntmps68
 go_wp2
 exact bodyPost_ret (v:=.agg #[U i6 (-32768),U i6 32767]) (by simp [results,Tryz.results68,go_sem]) rfl ⟨rfl,bal _ _⟩
def grN (S:Nat→Bool):Nat→Nat
 | 0=>0
 | k+1=>if S (k+1)=true then k+1 else grN S k
def sfD (R:Nat→List (Int×Int)) (M d:Nat):Bool:=w16 (hbD d R M)
theorem w16_in {x y:Int×Int} (h:Inn x y) (g:w16 y=true):w16 x=true:=by
 have:=of_decide_eq_true g
 exact decide_eq_true (by unfold Inn at h;omega)
def chP (bi:Int) (R:Nat→List (Int×Int)) (M N:Nat):List Int :=
 if 0<grN (sfD R M) N then [16,(grN (sfD R M) N:Nat),(hbD (grN (sfD R M) N) R M).1,(hbD (grN (sfD R M) N) R M).2,(hbT bi R M).1,(hbT bi R M).2]
 else [32,(N:Int),(hbR bi R M).1,(hbR bi R M).2,(hbT bi R M).1,(hbT bi R M).2]
def dvT (lo hi p:Int) (u:Bool) (t:Int×Int):Int:=if t.2<0 then p else if decide (0<t.1)=u then hi else lo
def enB (u:Bool) (e:Int×Int):Int:=if u=true then e.2 else e.1
theorem enB_t (e:Int×Int):enB true e=e.2:=rfl
theorem enB_f (e:Int×Int):enB false e=e.1:=rfl
theorem enB_pl (u:Bool) (a b:Int×Int):enB u (plS a b)=enB u a+enB u b:=by cases u<;>rfl
theorem enB_one (u:Bool) (b:Int):enB u (b,b)=b:=by cases u<;>rfl
theorem dvT_en (lo hi p:Int) (u:Bool) (t:Int×Int):t.1*dvT lo hi p u t=enB u (tmE lo hi p t):=by
 unfold dvT tmE xti
 by_cases h:t.2<0
 ·rw [if_pos h,if_pos h,Int.mul_comm]; cases u<;>rfl
 ·rw [if_neg h,if_neg h]
  by_cases q:t.1<0
  ·rw [if_pos q,decide_eq_false (show ¬ 0<t.1 by omega)]
   cases u
   ·rw [if_pos rfl,Int.mul_comm];rfl
   ·rw [if_neg (by decide),Int.mul_comm];rfl
  ·rw [if_neg q]
   by_cases q0:t.1=0
   ·rw [q0]; cases u<;>simp [enB]
   ·rw [decide_eq_true (show 0<t.1 by omega)]
    cases u
    ·rw [if_neg (by decide),Int.mul_comm];rfl
    ·rw [if_pos rfl,Int.mul_comm];rfl
theorem dvT_in {lo hi p:Int} (h:lo≤hi) (u:Bool) {t:Int×Int} (ht:¬ t.2<0):lo≤dvT lo hi p u t∧dvT lo hi p u t≤hi:=by
 unfold dvT
 rw [if_neg ht]
 split<;>omega
structure Dr (n:Nat) (lo hi p:Int) (u:Bool) (TL:List (Int×Int)) (m:Nat) (A:List Int):Prop where
 len:A.length=n
 val:∀ v∈A,lo≤v∧v≤hi
 hit:∀ k,k<m→¬ pls TL k<0→A.getD (pls TL k).toNat 0=dvT lo hi p u (TL.getD k (0,0))
def reV (lo hi:Int):Int:=if lo≤0 then (if 0≤hi then 0 else hi) else lo
theorem Dr.start {n:Nat} {lo hi p:Int} {u:Bool} {TL:List (Int×Int)} {z:Int} (h:lo≤z∧z≤hi):Dr n lo hi p u TL 0 (List.replicate n z) :=
 ⟨by simp,fun v hv=>by rw [List.eq_of_mem_replicate hv];exact h,fun k hk=>absurd hk (Nat.not_lt_zero _)⟩
theorem Dr.pad {n:Nat} {lo hi p:Int} {u:Bool} {TL:List (Int×Int)} {m:Nat} {A:List Int} (h:Dr n lo hi p u TL m A) (hp:pls TL m<0):Dr n lo hi p u TL (m+1) A:=by
 refine⟨h.len,h.val,fun k hk hn=>?_⟩
 by_cases e:k=m
 ·subst e;exact absurd hp hn
 ·exact h.hit k (by omega) hn
theorem Dr.put {n:Nat} {lo hi p:Int} {u:Bool} {TL:List (Int×Int)} {m q:Nat} {A:List Int} (h:Dr n lo hi p u TL m A) (g:Pli n TL) (hlh:lo≤hi) (hm:m<TL.length) (hp:pls TL m=(q:Int)):Dr n lo hi p u TL (m+1) (A.set q (dvT lo hi p u (TL.getD m (0,0)))):=by
 have hb:=g.bd m hm
 have hpl:q<A.length:=by rw [h.len];omega
 refine⟨by rw [List.length_set];exact h.len,fun v hv=>?_,fun k hk hn=>?_⟩
 ·rcases List.mem_or_eq_of_mem_set hv with q | q
  ·exact h.val v q
  ·rw [q];exact dvT_in hlh u (by show ¬ pls TL m<0;omega)
 ·by_cases e:k=m
  ·subst e
   rw [hp,Int.toNat_natCast]
   simp [List.getD,hpl]
  ·have hb':=g.bd k (by omega)
   have hne:q≠(pls TL k).toNat:=fun w=>e (g.inj k m (by omega) hm hn (by omega))
   have:=h.hit k (by omega) hn
   rw [← this,List.getD_eq_getElem?_getD,List.getElem?_set_ne hne,← List.getD_eq_getElem?_getD]
theorem Dr.at {n:Nat} {lo hi p:Int} {u:Bool} {TL:List (Int×Int)} {A:List Int} (h:Dr n lo hi p u TL TL.length A) {t:Int×Int} (ht:t∈TL):smT p A t=enB u (tmE lo hi p t):=by
 rw [← dvT_en]
 unfold smT
 by_cases hn:t.2<0
 ·unfold dvT;rw [if_pos hn,if_pos hn]
 ·obtain⟨k,hk,e⟩:=List.getElem_of_mem ht
  have e2:TL.getD k (0,0)=t:=by rw [List.getD_eq_getElem?_getD,List.getElem?_eq_getElem hk,e];rfl
  have:=h.hit k hk (by unfold pls;rw [e2];exact hn)
  unfold pls at this
  rw [e2] at this
  rw [if_neg hn,this]
theorem Dr.sum {n:Nat} {lo hi p:Int} {u:Bool} {TL:List (Int×Int)} {A:List Int} (h:Dr n lo hi p u TL TL.length A) (b:Int):b+smV p A TL=enB u (suS (b,b) (enL lo hi p TL)):=by
 rw [smV_enL (lo:=lo) (hi:=hi) (fun t=>enB u (tmE lo hi p t)) TL fun t ht=>h.at ht]
 cases u
 ·rw [enB_f,(suS_sum _ _).1];unfold enL;rw [List.map_map];rfl
 ·rw [enB_t,(suS_sum _ _).2];unfold enL;rw [List.map_map];rfl
theorem Pli.cut {n f k:Nat} {TL:List (Int×Int)} (g:Pli n TL):Pli n ((TL.drop f).take k):=by
 have e:∀ i,i<((TL.drop f).take k).length→pls ((TL.drop f).take k) i=pls TL (f+i)∧f+i<TL.length:=fun i hi=>by
  rw [List.length_take,List.length_drop] at hi
  refine⟨?_,by omega⟩
  unfold pls
  rw [List.getD_eq_getElem?_getD,List.getElem?_take_of_lt (by omega),List.getElem?_drop,← List.getD_eq_getElem?_getD]
 refine⟨fun i hi=>?_,fun i j hi hj hn he=>?_⟩
 ·obtain⟨e1,e2⟩:=e i hi
  rw [e1];exact g.bd _ e2
 ·obtain⟨e1,e2⟩:=e i hi
  obtain⟨e3,e4⟩:=e j hj
  rw [e1] at hn he
  rw [e3] at he
  have:=g.inj _ _ e2 e4 hn he
  omega
def f16 (x:Int):Bool:=decide (-32768≤x) && decide (x≤32767)
theorem f16_yes {x:Int} (h:f16 x=true):-32768≤x∧x≤32767:=by unfold f16 at h;simpa using h
def Brk (d:Nat) (u:Bool) (E:List (Int×Int)) (f g:Nat):Prop :=
 f<g∧g≤E.length∧(g=f+1∨(f % d=0∧g≤f+d))∧f16 (enB u (suS (0,0) ((E.drop f).take (g-f))))=false
def Fts (d:Nat) (u:Bool) (E:List (Int×Int)) (m:Nat):Prop:=∀ k,k<m→f16 (enB u (E.getD k (0,0)))=true∧f16 (enB u (psm d E k))=true
theorem Fts.succ {d:Nat} {u:Bool} {E:List (Int×Int)} {m:Nat} (h:Fts d u E m) (h1:f16 (enB u (E.getD m (0,0)))=true) (h2:f16 (enB u (psm d E m))=true):Fts d u E (m+1):=fun k hk=>by
 by_cases e:k=m
 ·subst e;exact⟨h1,h2⟩
 ·exact h k (by omega)
theorem one_take {E:List (Int×Int)} {i:Nat} (h:i<E.length):suS (0,0) ((E.drop i).take (i+1-i))=E.getD i (0,0):=by
 rw [show i+1-i=0+1 by omega,suS_take (0,0) (d:=(0,0)) (e:=E.getD i (0,0)) (by rw [List.length_drop];omega) (by rw [List.getD_eq_getElem?_getD,List.getElem?_drop,Nat.add_zero,← List.getD_eq_getElem?_getD])]
 simp [suS,plS]
theorem brk_one {d:Nat} {u:Bool} {E:List (Int×Int)} {i:Nat} (h:i<E.length) (q:f16 (enB u (E.getD i (0,0)))=false):Brk d u E i (i+1) :=
 ⟨by omega,h,.inl rfl,by rw [one_take h];exact q⟩
theorem brk_blk {d:Nat} {u:Bool} {E:List (Int×Int)} {i:Nat} (hd:0<d) (h:i<E.length) (q:f16 (enB u (psm d E i))=false):Brk d u E (i / d*d) (i+1):=by
 have h1:=Nat.div_add_mod i d
 have h2:=Nat.mod_lt i hd
 rw [Nat.mul_comm] at h1
 refine⟨by omega,h,.inr ⟨by rw [Nat.mul_comm];exact Nat.mul_mod_right d _,by omega⟩,?_⟩
 have e:i+1-i / d*d=i % d+1:=by omega
 rw [e]
 exact q
theorem fts_safe {d:Nat} (hd:0<d) {R:Nat→List (Int×Int)} {N:Nat} (hN:piT (fun E=>paL d E++E) R N≠[]) (h:∀ j,j<N→∀ u,Fts d u (R j) (R j).length):w16 (hbD d R N)=true:=by
 have key:∀ x∈piT (fun E=>paL d E++E) R N,∀ u,f16 (enB u x)=true:=fun x hx u=>by
  obtain⟨j,hj,hx'⟩:=mem_piT.1 hx
  rcases List.mem_append.1 hx' with q | q
  ·obtain⟨i,hi,rfl⟩:=(mem_paL hd).1 q
   exact (h j hj u i hi).2
  ·obtain⟨i,hi,e⟩:=List.getElem_of_mem q
   have:=(h j hj u i hi).1
   rw [List.getD_eq_getElem?_getD,List.getElem?_eq_getElem hi,e] at this
   exact this
 obtain⟨-,⟨x,hx,ex⟩,⟨y,hy,ey⟩⟩:=huA_is hN
 have k1:=f16_yes (key x hx false)
 have k2:=f16_yes (key y hy true)
 rw [enB_f] at k1
 rw [enB_t] at k2
 exact decide_eq_true (by unfold hbD;omega)
theorem wint_any (x:Int) (W:World):Calls Tryz.prog 69 #[U i6 x] W fun e w'=>e=.returned (.bool (f16 x))∧Below W.heap.size W w':=by
 have HR:Hid (f16 x=(decide (-32768≤x) && decide (x≤32767))):=rfl
 by_cases h1:-32768≤x
 ·by_cases h2:x≤32767
  ·go_enter Tryz.func69,Tryz.ntmps69
   go_wp2
   go_ret
   exact⟨by rw [HR.out];simp [h1,h2],Below.refl _ _⟩
  ·go_enter Tryz.func69,Tryz.ntmps69
   go_wp2
   go_ret
   exact⟨by rw [HR.out];simp [h1,h2],Below.refl _ _⟩
 ·go_enter Tryz.func69,Tryz.ntmps69
  go_wp2
  go_ret
  exact⟨by rw [HR.out,decide_eq_false (show ¬ -32768≤x by omega)];rfl,Below.refl _ _⟩
theorem wdrv_any (ch n slo shi x0 y0 z0:Int) (g0:Nat) (k a b m kh kw sh sw tp lf bt rt:Int) (wa:Option Addr) (lw cw:Nat) (ba:Option Addr) (lb cb:Nat) (sm ss um us z p l2 h2:Int) (q:Nat) (W:World) (hq:W.heap[q]? = some (.cells #[U i6 ch,U i6 n,U i6 slo,U i6 shi,U i6 x0,U i6 y0,U i6 z0,U i6 0,U i6 0,Sl (some ⟨g0,0,none⟩) 1 1,U i6 0] 63 (0,0))) (hg:W.heap[g0]? = some (.cells #[U i6 k,U i6 a,U i6 b,U i6 m,U i6 kh,U i6 kw,U i6 sh,U i6 sw,U i6 tp,U i6 lf,U i6 bt,U i6 rt,Sl wa lw cw,Sl ba lb cb,U i6 sm,U i6 ss,U i6 um,U i6 us,U i6 z,U i6 p,U i6 l2,U i6 h2] 44 (0,0))) (t1 t2:Int) (u:Bool):Calls Tryz.prog 63 #[.pointer (some ⟨q,0,none⟩),.agg #[U i6 t1,U i6 t2],.bool u] W fun e w'=>e=.returned (U i6 (dvT slo shi p u (t1,t2)))∧Below W.heap.size W w':=by
 have s0:=(St.start W).new (c:=#[U i6 t1,U i6 t2]) (t:=91)
 have S0:Hid (St W _ _):=s0
 have HR:Hid (dvT slo shi p u (t1,t2)=if t2<0 then p else if decide (0<t1)=u then shi else slo):=rfl
 have yq:=(s0.below.block q (lt_of_heap hq)).trans hq
 have yg:=(s0.below.block g0 (lt_of_heap hg)).trans hg
 clear s0 hq hg
 by_cases neg:t2<0
 ·rw [HR.out,if_pos neg]
  go_enter Tryz.func63,Tryz.ntmps63
  go_upto_region 1 with fail
  obtain⟨w0,hw0⟩:∃ w0,(W.alloc (.cells #[U i6 t1,U i6 t2] 91))=w0:=⟨_,rfl⟩
  rw [hw0] at S0 yq yg ⊢
  obtain⟨c0,f0,z0',-⟩:=S0.out.rules
  obtain⟨c1,f1,z1⟩:=cells_at yq
  obtain⟨c2,f2,z2⟩:=cells_at yg
  go_wp2
  go_ret
  exact⟨rfl,S0.out.below⟩
 ·rw [HR.out,if_neg neg]
  clear yg
  by_cases h1:0<t1
  ·rw [decide_eq_true h1]
   cases u
   all_goals first | rw [if_pos rfl] | rw [if_neg (by decide)]
   all_goals
    go_enter Tryz.func63,Tryz.ntmps63
    go_upto_region 1 with fail
    obtain⟨w0,hw0⟩:∃ w0,(W.alloc (.cells #[U i6 t1,U i6 t2] 91))=w0:=⟨_,rfl⟩
    rw [hw0] at S0 yq ⊢
    obtain⟨c0,f0,z0',-⟩:=S0.out.rules
    obtain⟨c1,f1,z1⟩:=cells_at yq
    go_wp2
    go_ret
    exact⟨rfl,S0.out.below⟩
  ·rw [decide_eq_false h1]
   cases u
   all_goals first | rw [if_pos rfl] | rw [if_neg (by decide)]
   all_goals
    go_enter Tryz.func63,Tryz.ntmps63
    go_upto_region 1 with fail
    obtain⟨w0,hw0⟩:∃ w0,(W.alloc (.cells #[U i6 t1,U i6 t2] 91))=w0:=⟨_,rfl⟩
    rw [hw0] at S0 yq ⊢
    obtain⟨c0,f0,z0',-⟩:=S0.out.rules
    obtain⟨c1,f1,z1⟩:=cells_at yq
    go_wp2
    go_ret
    exact⟨rfl,S0.out.below⟩
theorem wprd_any (ch n slo shi x0 y0 z0:Int) (g0:Nat) (k a b m kh kw sh sw tp lf bt rt:Int) (wa:Option Addr) (lw cw:Nat) (ba:Option Addr) (lb cb:Nat) (sm ss um us z p l2 h2:Int) (q:Nat) (W:World) (hq:W.heap[q]? = some (.cells #[U i6 ch,U i6 n,U i6 slo,U i6 shi,U i6 x0,U i6 y0,U i6 z0,U i6 0,U i6 0,Sl (some ⟨g0,0,none⟩) 1 1,U i6 0] 63 (0,0))) (hg:W.heap[g0]? = some (.cells #[U i6 k,U i6 a,U i6 b,U i6 m,U i6 kh,U i6 kw,U i6 sh,U i6 sw,U i6 tp,U i6 lf,U i6 bt,U i6 rt,Sl wa lw cw,Sl ba lb cb,U i6 sm,U i6 ss,U i6 um,U i6 us,U i6 z,U i6 p,U i6 l2,U i6 h2] 44 (0,0))) (t:Int×Int) (u:Bool) (hs:-128≤slo∧slo≤shi∧shi≤127) (hp:-128≤p∧p≤127) (ht:-32768≤t.1∧t.1≤32767) :
  Calls Tryz.prog 45 #[.pointer (some ⟨q,0,none⟩),.agg #[U i6 t.1,U i6 t.2],.bool u] W fun e w'=>e=.returned (U i6 (enB u (tmE slo shi p t)))∧Below W.heap.size W w':=by
 rw [← dvT_en]
 have hd:-128≤dvT slo shi p u t∧dvT slo shi p u t≤127:=by (unfold dvT; split; exact hp; split<;>omega)
 obtain⟨q1,q2⟩:=prod_bd hd ht
 obtain⟨t1,t2⟩:=t
 have HD:Hid (∀ W',Below W.heap.size W W'→_):=fun W' hb=>wdrv_any ch n slo shi x0 y0 z0 g0 k a b m kh kw sh sw tp lf bt rt wa lw cw ba lb cb sm ss um us z p l2 h2 q W' ((hb.block q (lt_of_heap hq)).trans hq) ((hb.block g0 (lt_of_heap hg)).trans hg) t1 t2 u
 obtain⟨dv,hdv⟩:∃ dv,dvT slo shi p u (t1,t2)=dv:=⟨_,rfl⟩
 rw [hdv] at HD q1 q2 ⊢
 simp only at q1 q2 ⊢
 rw [Int.mul_comm] at q1 q2
 clear hs hp ht hd hdv hq hg
 obtain⟨x,hx⟩:∃ x,t1*dv=x:=⟨_,rfl⟩
 rw [hx] at q1 q2 ⊢
 have hw:IntKind.i64.wrap x=x:=by rw [IntKind.wrap_i64];omega
 have s0:=(St.start W).new (c:=#[U i6 t1,U i6 t2]) (t:=91)
 have S0:Hid (St W _ _):=s0
 clear s0
 go_enter Tryz.func45,Tryz.ntmps45
 go_upto_region 1 with fail
 obtain⟨w0,hw0⟩:∃ w0,(W.alloc (.cells #[U i6 t1,U i6 t2] 91))=w0:=⟨_,rfl⟩
 rw [hw0] at S0 ⊢
 refine regionC (fun w'=>St W w' [(W.heap.size,#[U i6 t1,U i6 t2],91)]) (by kernel_rfl) ?_
 obtain⟨wd,hwd⟩:∃ wd,w0.drew=wd:=⟨_,rfl⟩
 have SD:=S0.out.drew
 rw [hwd] at SD ⊢
 clear hwd hw0
 refine takeC 0 (v:=.pointer (some ⟨W.heap.size,0,none⟩)) rfl rfl (by kernel_rfl) (by kernel_rfl) (by kernel_rfl) (fun _ _ _ h=>h) (fun _=>rfl) rfl (fun w' hw'=>by go_simp) ?_
 refine takeC 1 (v:=U i6 t1) rfl rfl (by kernel_rfl) (by kernel_rfl) (by kernel_rfl) (fun _ _ _ h=>h) (fun _=>rfl) rfl (fun w' hw'=>by have hc:=(cells_at hw'.h1).1 0;go_simp) ?_
 refine takeC 2 (v:=.pointer (some ⟨q,0,none⟩)) rfl rfl (by kernel_rfl) (by kernel_rfl) (by kernel_rfl) (fun _ _ _ h=>h) (fun _=>rfl) rfl (fun w' hw'=>by go_simp) ?_
 refine takeC 3 (v:=.agg #[U i6 t1,U i6 t2]) rfl rfl (by kernel_rfl) (by kernel_rfl) (by kernel_rfl) (fun _ _ _ h=>h) (fun _=>rfl) rfl (fun w' hw'=>run_la 91 (.tmp 4) rfl ⟨W.heap.size,0,none⟩ (by kernel_rfl) [U i6 t1,U i6 t2] _ (ecells hw'.h1) Tryz.underlying91 rfl (by kernel_rfl)) ?_
 refine takeC 4 (v:=.bool u) rfl rfl (by kernel_rfl) (by kernel_rfl) (by kernel_rfl) (fun _ _ _ h=>h) (fun _=>rfl) rfl (fun w' hw'=>by go_simp) ?_
 refine yK 5 SD (by kernel_rfl) rfl rfl 63 #[.pointer (some ⟨q,0,none⟩),.agg #[U i6 t1,U i6 t2],.bool u] (by kernel_rfl) (HD.out wd SD.below) ?_
 rintro e w1 ⟨rfl,hb⟩
 refine⟨_,rfl,?_⟩
 have S1:=SD.call hb
 refine yR 6 S1 (by kernel_rfl) rfl rfl (U i6 x) w1 (by go_simp) ?_
 refine yR 7 S1 (by kernel_rfl) rfl rfl (U i6 x) w1 (by go_simp) ?_
 refine doneC S1 (by kernel_rfl) ?_ _
 have HB:Hid (Below W.heap.size W w1):=S1.below
 clear S1 hb
 go_wp2
 go_ret
 exact⟨by kernel_rfl,HB.out⟩
theorem TV.sp {w:World} {v:Value} {L:List (Int×Int)} (h:TV w v L):SpV w v L:=by
 obtain⟨a,cap,rfl,h2,h3,h4⟩:=h
 refine⟨a,cap,rfl,h2,h3,fun h0=>?_⟩
 obtain⟨g,e,hc⟩:=h4 h0
 exact⟨g,0,e,fun j u hj=>by rw [Nat.zero_add];exact hc j u hj⟩
theorem wtrm_any (ch n slo shi x0 y0 z0:Int) (g0:Nat) (q:Nat) (W:World) (hq:W.heap[q]? = some (.cells #[U i6 ch,U i6 n,U i6 slo,U i6 shi,U i6 x0,U i6 y0,U i6 z0,U i6 0,U i6 0,Sl (some ⟨g0,0,none⟩) 1 1,U i6 0] 63 (0,0))) (at' b':Int) (TL:List (Int×Int))
  (hO:∀ W',Below W.heap.size W W'→Calls Tryz.prog 55 #[.agg #[U i6 x0,U i6 y0,U i6 z0,U i6 0,U i6 0,Sl (some ⟨g0,0,none⟩) 1 1,U i6 0],U i6 1,U i6 ch,U i6 at'] W' fun e w'=>(∃ v,e=.returned (.tuple #[v,U i6 b',U i6 0])∧OTm w' W'.heap.size v TL)∧Below W'.heap.size W' w') :
  Calls Tryz.prog 44 #[.pointer (some ⟨q,0,none⟩),U i6 at'] W fun e w'=>(∃ v,e=.returned (.tuple #[v,U i6 b'])∧SpV w' v TL)∧Below W.heap.size W w':=by
 have HO:Hid (∀ W',Below W.heap.size W W'→_):=hO
 have HQ:Hid (W.heap[q]? = some (.cells #[U i6 ch,U i6 n,U i6 slo,U i6 shi,U i6 x0,U i6 y0,U i6 z0,U i6 0,U i6 0,Sl (some ⟨g0,0,none⟩) 1 1,U i6 0] 63 (0,0))):=hq
 have hqz:=lt_of_heap hq
 clear hO hq
 go_enter Tryz.func44,Tryz.ntmps44
 go_upto_region 1 with fail
 refine regionC (fun w'=>Below W.heap.size W w') (by kernel_rfl) ?_
 obtain⟨w3,hw3⟩:∃ w3,W.drew=w3:=⟨_,rfl⟩
 have B3:Hid (Below W.heap.size W w3):=by unfold Hid;rw [← hw3];exact (Below.refl _ _).drew
 rw [hw3]
 clear hw3
 have HC:Hid (∀ w',Below W.heap.size W w'→∀ i,w'.cell? ⟨q,i,none⟩=(#[U i6 ch,U i6 n,U i6 slo,U i6 shi,U i6 x0,U i6 y0,U i6 z0,U i6 0,U i6 0,Sl (some ⟨g0,0,none⟩) 1 1,U i6 0])[i]?):=fun w' hb=>(cells_at ((hb.block q hqz).trans HQ.out)).1
 refine takeC 0 (v:=.pointer (some ⟨q,0,none⟩)) rfl rfl (by kernel_rfl) (by kernel_rfl) (by kernel_rfl) (fun _ _ _ h=>h) (fun _=>rfl) rfl (fun w' hw'=>by go_simp) ?_
 refine takeC 1 (v:=.pointer (some ⟨q,0,none⟩)) rfl rfl (by kernel_rfl) (by kernel_rfl) (by kernel_rfl) (fun _ _ _ h=>h) (fun _=>rfl) rfl (fun w' hw'=>by go_simp) ?_
 refine takeC 2 (v:=.pointer (some ⟨q,4,none⟩)) rfl rfl (by kernel_rfl) (by kernel_rfl) (by kernel_rfl) (fun _ _ _ h=>h) (fun _=>rfl) rfl (fun w' hw'=>by go_simp) ?_
 refine takeC 3 (v:=.agg #[U i6 x0,U i6 y0,U i6 z0,U i6 0,U i6 0,Sl (some ⟨g0,0,none⟩) 1 1,U i6 0]) rfl rfl (by kernel_rfl) (by kernel_rfl) (by kernel_rfl) (fun _ _ _ h=>h) (fun _=>rfl) rfl (fun w' hw'=>run_la 26 (.tmp 12) rfl ⟨q,4,none⟩ (by kernel_rfl) [U i6 x0,U i6 y0,U i6 z0,U i6 0,U i6 0,Sl (some ⟨g0,0,none⟩) 1 1,U i6 0] _ (fun j v hj=>by
  rw [Addr.add_lit,HC.out w' hw']
  have:=(List.getElem?_eq_some_iff.1 hj).1
  rcases (show j=0∨j=1∨j=2∨j=3∨j=4∨j=5∨j=6 by simp at this; omega) with rfl | rfl | rfl | rfl | rfl | rfl | rfl<;>simpa using hj) Tryz.underlying26 rfl (by kernel_rfl)) ?_
 refine takeC 4 (v:=.pointer (some ⟨q,0,none⟩)) rfl rfl (by kernel_rfl) (by kernel_rfl) (by kernel_rfl) (fun _ _ _ h=>h) (fun _=>rfl) rfl (fun w' hw'=>by go_simp) ?_
 refine takeC 5 (v:=.pointer (some ⟨q,0,none⟩)) rfl rfl (by kernel_rfl) (by kernel_rfl) (by kernel_rfl) (fun _ _ _ h=>h) (fun _=>rfl) rfl (fun w' hw'=>by go_simp) ?_
 refine takeC 6 (v:=.pointer (some ⟨q,0,none⟩)) rfl rfl (by kernel_rfl) (by kernel_rfl) (by kernel_rfl) (fun _ _ _ h=>h) (fun _=>rfl) rfl (fun w' hw'=>by go_simp) ?_
 refine takeC 7 (v:=U i6 ch) rfl rfl (by kernel_rfl) (by kernel_rfl) (by kernel_rfl) (fun _ _ _ h=>h) (fun _=>rfl) rfl (fun w' hw'=>by have:=HC.out w' hw';go_simp) ?_
 refine takeC 8 (v:=U i6 at') rfl rfl (by kernel_rfl) (by kernel_rfl) (by kernel_rfl) (fun _ _ _ h=>h) (fun _=>rfl) rfl (fun w' hw'=>by go_simp) ?_
 refine yK 9 B3.out (by kernel_rfl) rfl rfl 55 #[.agg #[U i6 x0,U i6 y0,U i6 z0,U i6 0,U i6 0,Sl (some ⟨g0,0,none⟩) 1 1,U i6 0],U i6 1,U i6 ch,U i6 at'] (by kernel_rfl) (HO.out w3 B3.out) ?_
 rintro e w4 ⟨⟨tv,rfl,ho⟩,hb4⟩
 refine⟨_,rfl,?_⟩
 have B4:Hid (Below W.heap.size W w4):=B3.out.trans (hb4.mono B3.out.size)
 have OT:Hid (SpV w4 tv TL):=ho.tv.sp
 clear ho hb4 B3
 refine takeC 10 (v:=.tuple #[tv,U i6 b',U i6 0]) rfl rfl (by kernel_rfl) (by kernel_rfl) (by kernel_rfl) (fun _ _ _ h=>h) (fun _=>rfl) rfl (fun w' hw'=>by go_simp) ?_
 refine takeC 11 (v:=tv) rfl rfl (by kernel_rfl) (by kernel_rfl) (by kernel_rfl) (fun _ _ _ h=>h) (fun _=>rfl) rfl (fun w' hw'=>by go_simp) ?_
 refine takeC 12 (v:=U i6 b') rfl rfl (by kernel_rfl) (by kernel_rfl) (by kernel_rfl) (fun _ _ _ h=>h) (fun _=>rfl) rfl (fun w' hw'=>by go_simp) ?_
 refine takeC 13 (v:=U i6 0) rfl rfl (by kernel_rfl) (by kernel_rfl) (by kernel_rfl) (fun _ _ _ h=>h) (fun _=>rfl) rfl (fun w' hw'=>by go_simp) ?_
 refine yR 14 B4.out (by kernel_rfl) rfl rfl tv w4 (by go_simp) ?_
 refine yR 15 B4.out (by kernel_rfl) rfl rfl (U i6 b') w4 (by go_simp) ?_
 refine yR 16 B4.out (by kernel_rfl) rfl rfl (U i6 0) w4 (by go_simp) ?_
 refine doneC B4.out (by kernel_rfl) ?_ _
 clear HC
 go_wp2
 go_ret2
 exact⟨⟨_,rfl,OT.out⟩,B4.out⟩
theorem wset_map (A:List Int) (p:Nat) (z:Int):(A.map (Value.int .i8)).toArray.setIfInBounds p (.int .i8 z)=((A.set p z).map (Value.int .i8)).toArray:=by
 apply Array.ext'
 simp
theorem wmap8_at (A:List Int) {p:Nat} (h:p<A.length):(A.map (Value.int .i8)).toArray[p]? = some (.int .i8 (A.getD p 0)):=by simp [List.getD,h]
theorem wmax2 (x y M:Int) (h:xmx x y=M):∀ (W:World) (ts:Array TypeId) (t:TypeId),(Builtin.max_ ts t #[U i6 x,U i6 y]).run Tryz.prog W=.ok (U i6 M) W:=by
 intro W ts t
 subst h
 simp [Builtin.max_,Builtin.max2,xmx]
 repeat' split
 all_goals first | rfl | omega
theorem winp_any (ch n slo shi x0 y0 z0:Int) (g0:Nat) (k a b m kh kw sh sw tp lf bt rt:Int) (wa:Option Addr) (lw cw:Nat) (ba:Option Addr) (lb cb:Nat) (sm ss um us z p l2 h2:Int) (q:Nat) (W:World) (hq:W.heap[q]? = some (.cells #[U i6 ch,U i6 n,U i6 slo,U i6 shi,U i6 x0,U i6 y0,U i6 z0,U i6 0,U i6 0,Sl (some ⟨g0,0,none⟩) 1 1,U i6 0] 63 (0,0))) (hg:W.heap[g0]? = some (.cells #[U i6 k,U i6 a,U i6 b,U i6 m,U i6 kh,U i6 kw,U i6 sh,U i6 sw,U i6 tp,U i6 lf,U i6 bt,U i6 rt,Sl wa lw cw,Sl ba lb cb,U i6 sm,U i6 ss,U i6 um,U i6 us,U i6 z,U i6 p,U i6 l2,U i6 h2] 44 (0,0))) (v:Value) (TL:List (Int×Int)) (u:Bool) (M L:Nat) (hv:SpV W v TL) (hL:TL.length=L) (hL5:L≤512) (hxy:0≤x0*y0∧x0*y0≤1048576) (hM:x0*y0*z0=(M:Int)) (hM0:M≤16384)
  (hs:-128≤slo∧slo≤shi∧shi≤127) (hp:-128≤p∧p≤127) (g:Pli M TL) :
  Calls Tryz.prog 46 #[.pointer (some ⟨q,0,none⟩),v,.bool u] W fun e w'=>(∃ A,Dr M slo shi p u TL L A∧∃ v',e=.returned v'∧Own .i8 71 w' W.heap.size v' A)∧Below W.heap.size W w':=by
 have HD:Hid (∀ W' t1 t2,Below W.heap.size W W'→_):=fun W' t1 t2 hb=>wdrv_any ch n slo shi x0 y0 z0 g0 k a b m kh kw sh sw tp lf bt rt wa lw cw ba lb cb sm ss um us z p l2 h2 q W' ((hb.block q (lt_of_heap hq)).trans hq) ((hb.block g0 (lt_of_heap hg)).trans hg) t1 t2 u
 have HQ:Hid (W.heap[q]? = some (.cells #[U i6 ch,U i6 n,U i6 slo,U i6 shi,U i6 x0,U i6 y0,U i6 z0,U i6 0,U i6 0,Sl (some ⟨g0,0,none⟩) 1 1,U i6 0] 63 (0,0))):=hq
 have HP:Hid (Pli M TL):=g
 have HL:Hid (TL.length=L):=hL
 obtain⟨va,vc,rfl,v2,v3,v4⟩:=hv
 rw [hL] at v2 v4 ⊢
 have HV:Hid (0<L→_):=v4
 unfold maxLen at v3
 have hqz:=lt_of_heap hq
 obtain⟨xy,hxy2⟩:∃ xy,x0*y0=xy:=⟨_,rfl⟩
 rw [hxy2] at hxy hM
 obtain⟨X,hX⟩:∃ X,xmx 0 slo=X:=⟨_,rfl⟩
 obtain⟨R,hR⟩:∃ R,xmn X shi=R:=⟨_,rfl⟩
 have hRs:slo≤R∧R≤shi:=by rw [← hR,← hX]; unfold xmn xmx; split<;>split<;>omega
 have hR8:IntKind.i8.wrap R=R:=by simp [IntKind.wrap,IntKind.bits,IntKind.signed];omega
 have hmx:=wmax2 0 slo X hX
 have hmn:=min2 X shi R hR
 clear hq hg v4 g hX hR hL
 have s0:=(St.start W).new (c:=#[U i6 x0,U i6 y0,U i6 z0]) (t:=23)
 have S0:Hid (St W _ _):=s0
 clear s0
 obtain⟨y1,y2,y3⟩:=cells_at HQ.out
 go_enter Tryz.func46,Tryz.ntmps46
 go_upto_region 2 with fail
 obtain⟨w1,hw1⟩:∃ w1,W.alloc (.cells #[U i6 x0,U i6 y0,U i6 z0] 23)=w1:=⟨_,rfl⟩
 rw [hw1] at S0 ⊢
 clear hw1 y1 y2 y3
 obtain⟨c0,f0,z0',-⟩:=S0.out.rules
 have hmk:=run_mak kt_i8 M (by omega)
 go_upto_region 3 with fail
 have s2:=S0.out.new (c:=Array.replicate M (.int .i8 0)) (t:=71)
 obtain⟨w2,hw2⟩:∃ w2,w1.alloc (.cells (Array.replicate M (.int .i8 0)) 71)=w2:=⟨_,rfl⟩
 obtain⟨ga,hga⟩:∃ ga,w1.heap.size=ga:=⟨_,rfl⟩
 rw [hw2,hga,rep_cells,← flL_0 M R] at s2
 rw [hw2,hga]
 have S2:Hid (St W w2 _):=s2
 have hgz:W.heap.size<ga:=by omega
 clear s2 hw2 hga hmk S0 c0 f0 z0'
 refine regionC (fun w'=>Below W.heap.size W w') (by kernel_rfl) ?_
 obtain⟨wd,hwd⟩:∃ wd,w2.drew=wd:=⟨_,rfl⟩
 have SD:=S2.out.drew
 rw [hwd] at SD ⊢
 have S3:Hid (St W wd _):=SD
 have B3:Below W.heap.size W wd:=SD.below
 clear hwd SD S2
 have HC:Hid (∀ w',Below W.heap.size W w'→∀ i,w'.cell? ⟨q,i,none⟩=(#[U i6 ch,U i6 n,U i6 slo,U i6 shi,U i6 x0,U i6 y0,U i6 z0,U i6 0,U i6 0,Sl (some ⟨g0,0,none⟩) 1 1,U i6 0])[i]?):=fun w' hb=>(cells_at ((hb.block q hqz).trans HQ.out)).1
 refine takeC 0 (v:=.pointer (some ⟨q,0,none⟩)) rfl rfl (by kernel_rfl) (by kernel_rfl) (by kernel_rfl) (fun _ _ _ h=>h) (fun _=>rfl) rfl (fun w' hw'=>by go_simp) ?_
 refine takeC 1 (v:=.pointer (some ⟨q,0,none⟩)) rfl rfl (by kernel_rfl) (by kernel_rfl) (by kernel_rfl) (fun _ _ _ h=>h) (fun _=>rfl) rfl (fun w' hw'=>by go_simp) ?_
 refine takeC 2 (v:=.pointer (some ⟨q,2,none⟩)) rfl rfl (by kernel_rfl) (by kernel_rfl) (by kernel_rfl) (fun _ _ _ h=>h) (fun _=>rfl) rfl (fun w' hw'=>by go_simp) ?_
 refine takeC 3 (v:=.pointer (some ⟨q,2,none⟩)) rfl rfl (by kernel_rfl) (by kernel_rfl) (by kernel_rfl) (fun _ _ _ h=>h) (fun _=>rfl) rfl (fun w' hw'=>by go_simp) ?_
 refine takeC 4 (v:=U i6 slo) rfl rfl (by kernel_rfl) (by kernel_rfl) (by kernel_rfl) (fun _ _ _ h=>h) (fun _=>rfl) rfl (fun w' hw'=>by have:=HC.out w' hw';go_simp) ?_
 refine takeC 5 (v:=U i6 X) rfl rfl (by kernel_rfl) (by kernel_rfl) (by kernel_rfl) (fun _ _ _ h=>h) (fun _=>rfl) rfl (fun w' hw'=>by go_simp) ?_
 refine takeC 6 (v:=.pointer (some ⟨q,0,none⟩)) rfl rfl (by kernel_rfl) (by kernel_rfl) (by kernel_rfl) (fun _ _ _ h=>h) (fun _=>rfl) rfl (fun w' hw'=>by go_simp) ?_
 refine takeC 7 (v:=.pointer (some ⟨q,0,none⟩)) rfl rfl (by kernel_rfl) (by kernel_rfl) (by kernel_rfl) (fun _ _ _ h=>h) (fun _=>rfl) rfl (fun w' hw'=>by go_simp) ?_
 refine takeC 8 (v:=.pointer (some ⟨q,2,none⟩)) rfl rfl (by kernel_rfl) (by kernel_rfl) (by kernel_rfl) (fun _ _ _ h=>h) (fun _=>rfl) rfl (fun w' hw'=>by go_simp) ?_
 refine takeC 9 (v:=.pointer (some ⟨q,3,none⟩)) rfl rfl (by kernel_rfl) (by kernel_rfl) (by kernel_rfl) (fun _ _ _ h=>h) (fun _=>rfl) rfl (fun w' hw'=>by go_simp) ?_
 refine takeC 10 (v:=U i6 shi) rfl rfl (by kernel_rfl) (by kernel_rfl) (by kernel_rfl) (fun _ _ _ h=>h) (fun _=>rfl) rfl (fun w' hw'=>by have:=HC.out w' hw';go_simp) ?_
 refine takeC 11 (v:=U i6 R) rfl rfl (by kernel_rfl) (by kernel_rfl) (by kernel_rfl) (fun _ _ _ h=>h) (fun _=>rfl) rfl (fun w' hw'=>by go_simp) ?_
 refine takeC 12 (v:=.int .i8 R) rfl rfl (by kernel_rfl) (by kernel_rfl) (by kernel_rfl) (fun _ _ _ h=>h) (fun _=>rfl) rfl (fun w' hw'=>by go_simp) ?_
 refine yR 13 B3 (by kernel_rfl) rfl rfl (.int .i8 R) wd (by go_simp) ?_
 refine doneC B3 (by kernel_rfl) ?_ _
 clear B3 hmx hmn hR8 HC
 go_wp2
 go_loopw [42] (fun ix wq=>∃ j:Nat,j≤M∧ix=U i6 j∧St W wq [(ga,(((flL M R j).map (Value.int .i8)).toArray),71),(W.heap.size,#[U i6 x0,U i6 y0,U i6 z0],23)]) (fun i _=>M-(intOf i).toNat)
 case atStart=>exact⟨0,Nat.zero_le _,rfl,S3.out⟩
 obtain⟨j,hj,rfl,hS⟩:=hrel
 have Sk:Hid (St W wr _):=hS
 clear hS
 by_cases hjM:j<M
 ·have hne:ga≠W.heap.size:=by omega
  obtain⟨ca,fa,za,-⟩:=Sk.out.rules
  have hla:=flL_len R hj
  have hca:wr.cell? ⟨ga,j,none⟩=some (.int .i8 ((flL M R j).getD j 0)):=by rw [ca,wmap8_at _ (by omega)]
  have hjM2:(j:Int)<(M:Int):=by omega
  have SN:Hid (St W (wr.setCell ⟨ga,j,none⟩ (.int .i8 R)) [(ga,(((flL M R (j+1)).map (Value.int .i8)).toArray),71),(W.heap.size,#[U i6 x0,U i6 y0,U i6 z0],23)]):=by
   have qq:=Sk.out.set (i:=j) (v:=.int .i8 R) (by simp;exact fun e=>hne e.symm)
   rw [wset_map,flL_set R hjM] at qq
   exact qq
  clear ca hla
  go_wp2
  go_roundw
  case rel=>exact⟨j+1,by omega,by go_num,SN.out⟩
  case measure=>simp [intOf];omega
 obtain rfl:M=j:=by omega
 rw [flL_all] at Sk
 obtain⟨w9,rfl⟩:∃ w9,w9=wr:=⟨_,rfl⟩
 clear hjM hj S3
 go_wp2
 go_loopw [52] (fun ix wq=>∃ (j:Nat) (A:List Int),j≤L∧ix=U i6 j∧Dr M slo shi p u TL j A∧St W wq [(ga,((A.map (Value.int .i8)).toArray),71),(W.heap.size,#[U i6 x0,U i6 y0,U i6 z0],23)]) (fun i _=>L-(intOf i).toNat)
 case atStart=>exact⟨0,_,Nat.zero_le _,rfl,Dr.start hRs,Sk.out⟩
 obtain⟨j,A,hj,rfl,hA,hS⟩:=hrel
 clear Sk
 have FA:Hid (Dr M slo shi p u TL j A):=hA
 have Sk:Hid (St W wr _):=hS
 clear hS hA
 by_cases hjL:j<L
 ·have hkl:Hid (j<TL.length):=by unfold Hid;rw [HL.out];exact hjL
  obtain⟨gt,ot,hvE,hc⟩:=HV.out (by omega)
  subst hvE
  obtain⟨q1,q2⟩:=SpV.at (fun x y h=>(Sk.out.below.cell (World.block_lt_of_cell? W _ (hc x y h))).trans (hc x y h)) hkl.out
  obtain⟨ww,hww⟩:∃ x,(TL.getD j (0,0)).1=x:=⟨_,rfl⟩
  obtain⟨pp,hpp⟩:∃ x,(TL.getD j (0,0)).2=x:=⟨_,rfl⟩
  rw [hww] at q1
  rw [hpp] at q2
  have Hp:Hid (pls TL j=pp∧TL.getD j (0,0)=(ww,pp)):=⟨hpp,Prod.ext hww hpp⟩
  have hbd:=HP.out.bd j hkl.out
  rw [Hp.out.1] at hbd
  have s9:=Sk.out.new (c:=#[U i6 ww,U i6 pp]) (t:=91)
  clear hc hww hpp
  go_upto_region 12 with fail
  obtain⟨w10,hw10⟩:∃ w',wr.alloc (.cells #[U i6 ww,U i6 pp] 91)=w':=⟨_,rfl⟩
  obtain⟨Be,hBe⟩:∃ B,wr.heap.size=B:=⟨_,rfl⟩
  have hgBe:ga<Be:=by rw [← hBe];exact lt_of_heap Sk.out.h1
  rw [hw10,hBe] at s9
  rw [hw10,hBe]
  clear hw10 hBe q1 q2 Sk
  have S10:Hid (St W w10 _):=s9
  clear s9
  obtain⟨cx,fx,zx,-⟩:=S10.out.rules
  by_cases hpad:pp<0
  ·go_wp2
   go_roundw
   case rel=>exact⟨j+1,A,by omega,by go_num,FA.out.pad (by rw [Hp.out.1];exact hpad),S10.out.tail⟩
   case measure=>simp [intOf];omega
  ·obtain⟨pq,rfl⟩:∃ pq:Nat,pp=(pq:Int):=⟨pp.toNat,by omega⟩
   have hpM:pq<M:=by omega
   have hpM2:(pq:Int)<(M:Int):=by omega
   have hp0:¬ ((pq:Int)<0):=by omega
   go_upto_region 13 with fail
   obtain⟨D,hD⟩:∃ D,dvT slo shi p u (ww,(pq:Int))=D:=⟨_,rfl⟩
   have hD8:IntKind.i8.wrap D=D:=by have:=dvT_in (p:=p) (lo:=slo) (hi:=shi) hs.2.1 u (t:=(ww,(pq:Int))) hp0;rw [hD] at this;simp [IntKind.wrap,IntKind.bits,IntKind.signed];omega
   refine regionC (fun w'=>Below W.heap.size W w'∧w'.heap[Be]? = some (.cells #[U i6 ww,U i6 (pq:Int)] 91 (0,0))) (by kernel_rfl) ?_
   obtain⟨wd,hwd⟩:∃ wd,w10.drew=wd:=⟨_,rfl⟩
   have SD:=S10.out.drew
   rw [hwd] at SD ⊢
   have S11:Hid (St W wd _):=SD
   have B11:Below W.heap.size W wd∧wd.heap[Be]? = some (.cells #[U i6 ww,U i6 (pq:Int)] 91 (0,0)):=⟨SD.below,SD.h1⟩
   have HCD:Hid _:=HD.out wd ww (pq:Int) SD.below
   clear hwd SD S10 cx fx zx HD
   refine takeC 0 (v:=.slice (some ⟨ga,0,none⟩) M M) rfl rfl (by kernel_rfl) (by kernel_rfl) (by kernel_rfl) (fun _ _ _ h=>h) (fun _=>rfl) rfl (fun w' hw'=>by go_simp) ?_
   refine takeC 1 (v:=.pointer (some ⟨Be,1,none⟩)) rfl rfl (by kernel_rfl) (by kernel_rfl) (by kernel_rfl) (fun _ _ _ h=>h) (fun _=>rfl) rfl (fun w' hw'=>by go_simp) ?_
   refine takeC 2 (v:=U i6 (pq:Int)) rfl rfl (by kernel_rfl) (by kernel_rfl) (by kernel_rfl) (fun _ _ _ h=>h) (fun _=>rfl) rfl (fun w' hw'=>by have hc:=(cells_at hw'.2).1 1;go_simp) ?_
   refine takeC 3 (v:=.pointer (some ⟨q,0,none⟩)) rfl rfl (by kernel_rfl) (by kernel_rfl) (by kernel_rfl) (fun _ _ _ h=>h) (fun _=>rfl) rfl (fun w' hw'=>by go_simp) ?_
   refine takeC 4 (v:=.agg #[U i6 ww,U i6 (pq:Int)]) rfl rfl (by kernel_rfl) (by kernel_rfl) (by kernel_rfl) (fun _ _ _ h=>h) (fun _=>rfl) rfl (fun w' hw'=>run_la 91 (.tmp 12) rfl ⟨Be,0,none⟩ (by kernel_rfl) [U i6 ww,U i6 (pq:Int)] _ (ecells hw'.2) Tryz.underlying91 rfl (by kernel_rfl)) ?_
   refine takeC 5 (v:=.bool u) rfl rfl (by kernel_rfl) (by kernel_rfl) (by kernel_rfl) (fun _ _ _ h=>h) (fun _=>rfl) rfl (fun w' hw'=>by go_simp) ?_
   refine yK 6 B11 (by kernel_rfl) rfl rfl 63 #[.pointer (some ⟨q,0,none⟩),.agg #[U i6 ww,U i6 (pq:Int)],.bool u] (by kernel_rfl) HCD.out ?_
   rintro e w12 ⟨rfl,hb⟩
   refine⟨_,rfl,?_⟩
   rw [hD]
   have S12:=S11.out.call hb
   have B12:Below W.heap.size W w12∧w12.heap[Be]? = some (.cells #[U i6 ww,U i6 (pq:Int)] 91 (0,0)):=⟨S12.below,S12.h1⟩
   obtain⟨-,-,-,ca,fa,za,-⟩:=S12.rules
   have hca:w12.cell? ⟨ga,pq,none⟩=some (.int .i8 (A.getD pq 0)):=by rw [ca,wmap8_at _ (by rw [FA.out.len];exact hpM)]
   have SN:=S12.tail.set (i:=pq) (v:=.int .i8 D) (by simp;omega)
   rw [wset_map] at SN
   have BN:Below W.heap.size W (w12.setCell ⟨ga,pq,none⟩ (.int .i8 D))∧(w12.setCell ⟨ga,pq,none⟩ (.int .i8 D)).heap[Be]? = some (.cells #[U i6 ww,U i6 (pq:Int)] 91 (0,0)):=⟨SN.below,(Below.heap_setCell _ _ _ _ (by show Be≠ga;omega)).trans S12.h1⟩
   clear ca S12 hb
   refine yR 7 B12 (by kernel_rfl) rfl rfl (.int .i8 D) w12 (by go_simp) ?_
   refine yR 8 B12 (by kernel_rfl) rfl rfl (.pointer (some ⟨ga,pq,none⟩)) w12 (by go_simp) ?_
   refine yT 9 B12 (by kernel_rfl) rfl rfl (w12.setCell ⟨ga,pq,none⟩ (.int .i8 D)) (by go_simp) ?_
   refine doneC BN (by kernel_rfl) ?_ _
   have SN9:Hid (St W _ _):=SN
   have FN:Hid (Dr M slo shi p u TL (j+1) (A.set pq D)):=by
    have:=FA.out.put HP.out hs.2.1 hkl.out Hp.out.1
    rw [Hp.out.2,hD] at this
    exact this
   clear SN BN B12 B11 hca fa za hD8 HCD
   go_wp2
   go_roundw
   case rel=>exact⟨j+1,_,by omega,by go_num,FN.out,SN9.out⟩
   case measure=>simp [intOf];omega
 obtain rfl:L=j:=by omega
 have HO:Hid (Own .i8 71 wr W.heap.size (.slice (some ⟨ga,0,none⟩) M M) A):=by
  have hl:=FA.out.len
  have:=own_full (k:=.i8) (T:=71) (base:=W.heap.size) Sk.out.h1 (fun v hv=>mk_i8 (by have:=FA.out.val v hv;omega)) (by unfold maxLen;omega) (by omega)
  rw [hl] at this
  exact this
 clear hjL hj
 go_wp2
 go_ret
 exact⟨⟨A,FA.out,_,rfl,HO.out⟩,Sk.out.below⟩
end Go.Proofs.YtgjcjhnnopandaaGreat
