/- What corner of package window, and the document's Has, return: each for every argument. Taps and Positions hand back iterators: what they give, and for how long. Rows of ints: what is read of them, what a call owns, what stays behind a call; append over them. What the law's own pairs and spots collect of an iterator: the first so many of what it gives, in a new slice. Lists of terms in memory: what is read of them, what a call owns; 'make', 'append', a store into one; same of the law. A region that draws its order within a round of a loop over an iterator: it goes as outside of one; 'append' of one int as a step of such a region. A region that draws its order, one of whose last operations writes what others read: one that reads may be taken first, if it reads the same as long as an operation that waits for it (its gate) has not come up. What terms of package terms returns of a Dense: the terms of a channel's sum. What terms of package terms returns of an op with a window: the terms of a channel's sum at a position. The places of a sum's terms, in plain numbers: where they lie, that none comes twice. -/
import Derived.Test.YtgjcjhnnopandaaGreatGq01
import Derived.Test.YtgjcjhnnopandaaGreatGq02
import Derived.Test.YtgjcjhnnopandaaGreatGq08
import Derived.Test.YtgjcjhnnopandaaGreatGq12
import Derived.Test.YtgjcjhnnopandaaGreatGq13
import Derived.Laws.AppendOwnNone
import Derived.RangeFuncBox
import Derived.BigQuiet
import Derived.LoopN
import Derived.Maps.AppendAt
import Derived.RangeFuncCalls
import Derived.OwnWalkIn
import Derived.Shelf.RegionOpen
namespace Go.Proofs.YtgjcjhnnopandaaGreat
open Go.Value renaming int → U, slice → Sl
open Go.IntKind renaming i64 → i6
set_option maxRecDepth 100000
set_option maxHeartbeats 16000000
open Go.ChangeShapes Go.WideShapes Go.ChangeAt Go.RowKit
theorem drewN_below (w:World) (n:Nat):Below w.heap.size w (w.drewN n):=below_drewN (Below.refl _ _) n
theorem coR_bad {h w c kh kw sh sw tp lf bt rt n e:Int} (he:ouR h w c kh kw sh sw tp lf bt rt=(0,0,e)) (h2:e≠0):coR h w c kh kw sh sw tp lf bt rt n=(0,0,e):=by unfold coR;rw [he,if_neg (by simpa using h2)]
theorem coR_out {h w c kh kw sh sw tp lf bt rt n r q:Int} (he:ouR h w c kh kw sh sw tp lf bt rt=(r,q,0)) (hn:¬ (0≤n∧n<r*q)):coR h w c kh kw sh sw tp lf bt rt n=(0,0,3):=by unfold coR;rw [he,if_pos rfl,if_neg hn]
theorem coR_in {h w c kh kw sh sw tp lf bt rt n r q:Int} (he:ouR h w c kh kw sh sw tp lf bt rt=(r,q,0)) (hn:0≤n∧n<r*q):coR h w c kh kw sh sw tp lf bt rt n=(n / q*sh-tp,n % q*sw-lf,0):=by unfold coR;rw [he,if_pos rfl,if_pos hn]
theorem corner_any (h w c kh kw sh sw tp lf bt rt n:Int) (W:World) :
  Calls Tryz.prog 115 #[.agg #[U i6 h,U i6 w,U i6 c],.agg #[U i6 kh,U i6 kw,U i6 sh,U i6 sw,U i6 tp,U i6 lf,U i6 bt,U i6 rt],U i6 n] W fun e w'=>e=.returned (.tuple #[U i6 (coR h w c kh kw sh sw tp lf bt rt n).1,U i6 (coR h w c kh kw sh sw tp lf bt rt n).2.1,U i6 (coR h w c kh kw sh sw tp lf bt rt n).2.2])∧Below W.heap.size W w':=by
 rcases ouR_cases h w c kh kw sh sw tp lf bt rt with ⟨e,he,h2⟩ | ⟨r,q,he,hf⟩
 ·rw [coR_bad he (by omega)]
  have HO:Hid (ouR h w c kh kw sh sw tp lf bt rt=(0,0,e)):=he
  clear he
  rcases h2 with rfl | rfl
  ·go_enter Tryz.func115,Tryz.ntmps115
   go_wp2_with fail
   refine (out_any _ _ _ _ _ _ _ _ _ _ _ _).mono ?_
   rintro e w1 ⟨rfl,hb'⟩
   have s1:=(St.start W).new.new.call hb'
   clear hb'
   try simp only [World.size_setCell] at s1
   try simp only [World.size_alloc] at s1
   obtain⟨c1,f1,zw1_1,c2,f2,zw1_2,-⟩:=s1.rules
   rw [HO.out]
   go_wp2
   go_ret3
   exact⟨rfl,s1.below⟩
  ·go_enter Tryz.func115,Tryz.ntmps115
   go_wp2_with fail
   refine (out_any _ _ _ _ _ _ _ _ _ _ _ _).mono ?_
   rintro e w1 ⟨rfl,hb'⟩
   have s1:=(St.start W).new.new.call hb'
   clear hb'
   try simp only [World.size_setCell] at s1
   try simp only [World.size_alloc] at s1
   obtain⟨c1,f1,zw1_1,c2,f2,zw1_2,-⟩:=s1.rules
   rw [HO.out]
   go_wp2
   go_ret3
   exact⟨rfl,s1.below⟩
 ·obtain⟨⟨h1,v1,q9⟩,⟨k1,k2,k3,k4,k5,k6,k7,k8⟩,r1,q1,z1,z2⟩:=hf
  obtain⟨m1,m2⟩:=mul_bd r1.1 r1.2 q1.1 q1.2
  have HO:Hid (ouR h w c kh kw sh sw tp lf bt rt=(r,q,0)):=he
  clear he z1 z2 q9
  obtain⟨m,hm⟩:∃ m,r*q=m:=⟨_,rfl⟩
  have HM:Hid (r*q=m):=hm
  rw [hm] at m1 m2
  by_cases n1:n<0
  ·rw [coR_out HO.out (by omega)]
   clear hm
   go_enter Tryz.func115,Tryz.ntmps115
   go_wp2_with fail
   refine (out_any _ _ _ _ _ _ _ _ _ _ _ _).mono ?_
   rintro e w1 ⟨rfl,hb'⟩
   have s1:=(St.start W).new.new.call hb'
   clear hb'
   try simp only [World.size_setCell] at s1
   try simp only [World.size_alloc] at s1
   obtain⟨c1,f1,zw1_1,c2,f2,zw1_2,-⟩:=s1.rules
   rw [HO.out]
   go_wp2
   go_ret3
   exact⟨rfl,s1.below⟩
  by_cases n2:m≤n
  ·rw [coR_out HO.out (by omega)]
   go_enter Tryz.func115,Tryz.ntmps115
   go_wp2_with fail
   refine (out_any _ _ _ _ _ _ _ _ _ _ _ _).mono ?_
   rintro e w1 ⟨rfl,hb'⟩
   have s1:=(St.start W).new.new.call hb'
   clear hb'
   try simp only [World.size_setCell] at s1
   try simp only [World.size_alloc] at s1
   obtain⟨c1,f1,zw1_1,c2,f2,zw1_2,-⟩:=s1.rules
   rw [HO.out]
   go_wp2
   go_ret3
   exact⟨rfl,s1.below⟩
  rw [coR_in HO.out (by omega)]
  have a1:=Int.ediv_nonneg (show 0≤n by omega) (show 0≤q by omega)
  have a2:n / q<r:=Int.ediv_lt_of_lt_mul (by omega) (by omega)
  have b1:=Int.emod_nonneg n (show q≠0 by omega)
  have b2:=Int.emod_lt_of_pos n (show 0<q by omega)
  have t1:=td (c:=q) (show 0≤n by omega)
  have t2:=tm (c:=q) (show 0≤n by omega)
  obtain⟨d,hd⟩:∃ d,n / q=d:=⟨_,rfl⟩
  obtain⟨u,hu⟩:∃ u,n % q=u:=⟨_,rfl⟩
  rw [hd] at a1 a2 t1
  rw [hu] at b1 b2 t2
  rw [hd,hu]
  clear hd hu
  have c1:=Int.mul_le_mul (show d≤1200 by omega) k3.2 (by omega) (by omega)
  have c2:=Int.mul_le_mul (show u≤1200 by omega) k4.2 (by omega) (by omega)
  have c3:=Int.mul_nonneg a1 (show 0≤sh by omega)
  have c4:=Int.mul_nonneg b1 (show 0≤sw by omega)
  obtain⟨p,hp⟩:∃ p,d*sh=p:=⟨_,rfl⟩
  obtain⟨v,hv⟩:∃ v,u*sw=v:=⟨_,rfl⟩
  rw [hp] at c1 c3
  rw [hv] at c2 c4
  rw [hp,hv]
  have q0:¬ q=0:=by omega
  go_enter Tryz.func115,Tryz.ntmps115
  go_wp2_with fail
  refine (out_any _ _ _ _ _ _ _ _ _ _ _ _).mono ?_
  rintro e w1 ⟨rfl,hb'⟩
  have s1:=(St.start W).new.new.call hb'
  clear hb'
  try simp only [World.size_setCell] at s1
  try simp only [World.size_alloc] at s1
  obtain⟨c1,f1,zw1_1,c2,f2,zw1_2,-⟩:=s1.rules
  rw [HO.out]
  go_wp2
  go_quiet (fail)
  go_wp2
  go_ret3
  exact⟨rfl,s1.below.trans ((drewN_below _ _).mono s1.below.size)⟩
open Go.ChangeShapes Go.WideShapes Go.ChangeAt Go.RowKit Go.Shelf
def Mid (lo hi:Nat) (W W':World):Prop:=∀ b,lo≤b→b<hi→∀ c t,W.heap[b]? = some (.cells c t (0,0))→W'.heap[b]? = some (.cells c t (0,0))
theorem Mid.refl (lo hi:Nat) (W:World):Mid lo hi W W:=fun _ _ _ _ _ h=>h
theorem Mid.trans {lo hi:Nat} {A B C:World} (h:Mid lo hi A B) (k:Mid lo hi B C):Mid lo hi A C:=fun b h1 h2 c t hc=>k b h1 h2 c t (h b h1 h2 c t hc)
theorem Mid.put {lo hi:Nat} (W:World) (i:Nat) (o o':Obj) (h:W.heap[i]? = some o) (ho:o.isCells=false):Mid lo hi W (W.putObj i o'):=fun b _ _ _ _ hc=>by
 by_cases e:b=i
 ·subst e;rw [h] at hc;cases hc;cases ho
 ·rw [World.putObj_heap_other e];exact hc
theorem Mid.below {lo hi n:Nat} {W W':World} (h:Below n W W') (hn:hi≤n):Mid lo hi W W':=fun b _ h2 _ _ hc=>(h.block b (by omega)).trans hc
theorem Mid.later {lo hi:Nat} {W W':World} (h:Below W.heap.size W W'):Mid lo hi W W':=fun b _ _ _ _ hc=>(h.block b (lt_of_heap hc)).trans hc
theorem Mid.grown {lo hi:Nat} {W W':World} {g:Option Nat} (h:W.grownBy W' g) (hg:∀ b,g=some b→b<lo∨hi≤b):Mid lo hi W W':=fun b h1 h2 _ _ hc=>(h.block b (lt_of_heap hc) (fun e=>by have:=hg b e.symm;omega)).trans hc
theorem Mid.set {lo hi:Nat} (W:World) {B i:Nat} {v:Value} (hB:B<lo∨hi≤B):Mid lo hi W (W.setCell ⟨B,i,none⟩ v):=fun b h1 h2 _ _ hc=>by
 rw [Below.heap_setCell _ _ _ _ (by show b≠B;omega)];exact hc
theorem Mid.kept {lo hi:Nat} {l:List Nat} {W W':World} (h:Mid lo hi W W') (hl:∀ b∈l,lo≤b∧b<hi):Kept l W W':=fun b hb c t hc=>h b (hl b hb).1 (hl b hb).2 c t hc
def It (lo hi:Nat) (w:World) (v:Value) (ys:List (Int×Int)):Prop :=
 ∃ g lb,v=.func (.func g) #[] lb∧(∀ args w,(callFunc g args).run Tryz.prog w=.ok (.enter g args) w) ∧
  ∀ w' m,Mid lo hi w w'→SeqStopsK Fence.wide m Tryz.prog g lb (fun x:Int×Int=>#[Value.int .i64 x.1,Value.int .i64 x.2]) (Mid lo hi) (fun zs=>zs=ys) (fun pre=>∃ k,k≤ys.length∧pre=ys.take k) ys.length w'
theorem It.mid {lo hi:Nat} {w w':World} {v:Value} {ys:List (Int×Int)} (h:It lo hi w v ys) (k:Mid lo hi w w'):It lo hi w' v ys:=by
 obtain⟨g,lb,h1,h2,h3⟩:=h
 exact⟨g,lb,h1,h2,fun w'' m k'=>h3 w'' m (k.trans k')⟩
theorem It.later {lo hi:Nat} {w w':World} {v:Value} {ys:List (Int×Int)} (h:It lo hi w v ys) (k:Below w.heap.size w w'):It lo hi w' v ys:=h.mid (Mid.later k)
theorem cell_of {lo hi:Nat} {w w' W:World} {b:Nat} {c:Array Value} {t:TypeId} (h:w.heap[b]? = some (.cells c t (0,0))) (h1:lo≤b) (h2:b<hi) (k:Mid lo hi w w') (hW:Below w'.heap.size w' W):W.heap[b]? = some (.cells c t (0,0)) :=
 Mid.later (lo:=lo) (hi:=hi) hW b h1 h2 c t (k b h1 h2 c t h)
theorem it_taps {lo hi:Nat} {w0:World} {B1 B2 B3 B4 B5:Nat} {h w c kh kw sh sw tp lf bt rt t u:Int} {N:Nat} (hC:N=0∨Cor h w kh kw t u∧N=(kh*kw).toNat)
  (c1:w0.heap[B1]? = some (.cells #[U i6 N] 3 (0,0))) (c2:w0.heap[B2]? = some (.cells #[U i6 h,U i6 w,U i6 c] 23 (0,0))) (c3:w0.heap[B3]? = some (.cells #[U i6 t] 3 (0,0)))
  (c4:w0.heap[B4]? = some (.cells #[U i6 kh,U i6 kw,U i6 sh,U i6 sw,U i6 tp,U i6 lf,U i6 bt,U i6 rt] 38 (0,0))) (c5:w0.heap[B5]? = some (.cells #[U i6 u] 3 (0,0))) (hb:∀ b∈[B1,B2,B3,B4,B5],lo≤b∧b<hi) :
  It lo hi w0 (.func (.func 116) #[] #[.pointer (some ⟨B1,0,none⟩),.pointer (some ⟨B2,0,none⟩),.pointer (some ⟨B3,0,none⟩),.pointer (some ⟨B4,0,none⟩),.pointer (some ⟨B5,0,none⟩)]) (tapL h w kw t u N):=by
 refine⟨_,_,rfl,enters_of Tryz.func116 (by kernel_rfl) rfl,fun w' m k l J Jx W hW hJ hJx hY h0=>?_⟩
 have b1:=hb B1 (by simp)
 have b2:=hb B2 (by simp)
 have b3:=hb B3 (by simp)
 have b4:=hb B4 (by simp)
 have b5:=hb B5 (by simp)
 rw [tapL_len] at hY
 refine (taps1_in m l B1 B2 B3 B4 B5 h w c kh kw sh sw tp lf bt rt t u N J Jx W hC hJ (fun pre x W1 hj hl=>YieldAt.mono (hY pre x W1 hj hl) ?_)
  (cell_of c1 b1.1 b1.2 k hW) (cell_of c2 b2.1 b2.2 k hW) (cell_of c3 b3.1 b3.2 k hW) (cell_of c4 b4.1 b4.2 k hW) (cell_of c5 b5.1 b5.2 k hW) h0).mono ?_
 ·rintro e W' (⟨h1,h2,h3⟩ | h1)
  ·exact .inl ⟨h1,h2,h3.kept fun b hb'=>hb b (List.mem_cons_of_mem _ hb')⟩
  ·exact .inr h1
 ·rintro e W' ⟨he,⟨ys,rfl,hj⟩ | ⟨pre,⟨j,hj1,rfl⟩,hj⟩⟩
  ·exact⟨he,.inl ⟨_,rfl,hj⟩⟩
  ·exact⟨he,.inr ⟨_,⟨j,by rw [tapL_len];exact hj1,tapL_take _ _ _ _ _ hj1⟩,hj⟩⟩
def Heaps (w:World):List (Nat×Array Value×TypeId)→Prop
 | []=>True
 | (B,c,t) :: l=>w.heap[B]? = some (.cells c t)∧Heaps w l
theorem heaps_of {w:World}:∀ (l:List (Nat×Array Value×TypeId)),(∀ x∈l,w.heap[x.1]? = some (.cells x.2.1 x.2.2))→Heaps w l
 | [],_=>trivial
 | (_,_,_) :: l,h=>⟨h _ List.mem_cons_self,heaps_of l fun x hx=>h x (List.mem_cons_of_mem _ hx)⟩
theorem St.heaps {w0 w:World} {l:List (Nat×Array Value×TypeId)} (h:St w0 w l):Heaps w l:=heaps_of l fun x hx=>(h.2 x hx).1
theorem tapsOf_no {h w c kh kw sh sw tp lf bt rt n e:Int} (he:coR h w c kh kw sh sw tp lf bt rt n=(0,0,e)) (h2:e≠0):tapsOf h w c kh kw sh sw tp lf bt rt n=[]:=by unfold tapsOf;rw [he,if_neg (by simpa using h2)]
theorem tapsOf_ok {h w c kh kw sh sw tp lf bt rt n t u:Int} (he:coR h w c kh kw sh sw tp lf bt rt n=(t,u,0)):tapsOf h w c kh kw sh sw tp lf bt rt n=tapL h w kw t u (kh*kw).toNat:=by unfold tapsOf;rw [he,if_pos rfl]
theorem taps_any (h w c kh kw sh sw tp lf bt rt n:Int) (W:World) :
  Calls Tryz.prog 97 #[.agg #[U i6 h,U i6 w,U i6 c],.agg #[U i6 kh,U i6 kw,U i6 sh,U i6 sw,U i6 tp,U i6 lf,U i6 bt,U i6 rt],U i6 n] W fun e w'=>(∃ g lb,e=.returned (.func (.func g) #[] lb)∧It W.heap.size w'.heap.size w' (.func (.func g) #[] lb) (tapsOf h w c kh kw sh sw tp lf bt rt n))∧Below W.heap.size W w':=by
 have hmf:∀ (fn:Fn) (first cap:Array Value) (w:World),(Instr.makeFunc fn first cap).run Tryz.prog w=.ok (.func fn first cap) w:=fun _ _ _ _=>rfl
 rcases coR_cases h w c kh kw sh sw tp lf bt rt n with ⟨e,he,h2⟩ | ⟨r,q,he,hf,hn,hc⟩
 ·rw [tapsOf_no he (by omega)]
  have HC:Hid (coR h w c kh kw sh sw tp lf bt rt n=(0,0,e)):=he
  have z1:(e == 0)=false:=by simp;omega
  clear he
  go_enter Tryz.func97,Tryz.ntmps97
  go_wp2_with fail
  refine (corner_any _ _ _ _ _ _ _ _ _ _ _ _ _).mono ?_
  rintro e w1 ⟨rfl,hb'⟩
  have s1:=(St.start W).new.new.call hb'
  clear hb'
  try simp only [World.size_setCell] at s1
  try simp only [World.size_alloc] at s1
  obtain⟨c1,f1,zw1_1,c2,f2,zw1_2,-⟩:=s1.rules
  rw [HC.out]
  go_wp2
  have s2:=(s1.new (c:=#[U i6 0]) (t:=3)).new (c:=#[U i6 0]) (t:=3) |>.new (c:=#[U i6 0]) (t:=3)
  simp only [World.size_alloc] at s2
  go_ret
  refine⟨⟨_,_,rfl,?_⟩,s2.below⟩
  obtain⟨a1,a2,a3,a4,a5,-⟩:=s2.heaps
  exact it_taps (N:=0) (.inl rfl) a1 a5 a3 a4 a2 (fun b hb=>by have:=s1.size;simp at hb ⊢;omega)
 ·rw [tapsOf_ok hc]
  have HC:Hid (coR h w c kh kw sh sw tp lf bt rt n=(n / q*sh-tp,n % q*sw-lf,0)):=hc
  have hcor:=cor_of hf hn
  have HN:Hid (Cor h w kh kw (n / q*sh-tp) (n % q*sw-lf)):=hcor
  have k1:=hcor.2.2.2.1
  have k2:=hcor.2.2.2.2.1
  clear he hf hn hc hcor
  obtain⟨t,ht⟩:∃ t,n / q*sh-tp=t:=⟨_,rfl⟩
  obtain⟨u,hu⟩:∃ u,n % q*sw-lf=u:=⟨_,rfl⟩
  rw [ht,hu] at HC HN
  rw [ht,hu]
  clear ht hu
  obtain⟨p1,p2⟩:=mul_bd k1.1 k1.2 k2.1 k2.2
  obtain⟨p,hp⟩:∃ p,kh*kw=p:=⟨_,rfl⟩
  have HP:Hid (kh*kw=p):=hp
  rw [hp] at p1 p2
  go_enter Tryz.func97,Tryz.ntmps97
  go_wp2_with fail
  refine (corner_any _ _ _ _ _ _ _ _ _ _ _ _ _).mono ?_
  rintro e w1 ⟨rfl,hb'⟩
  have s1:=(St.start W).new.new.call hb'
  clear hb'
  try simp only [World.size_setCell] at s1
  try simp only [World.size_alloc] at s1
  obtain⟨c1,f1,zw1_1,c2,f2,zw1_2,-⟩:=s1.rules
  rw [HC.out]
  go_wp2
  have e:p=((kh*kw).toNat:Int):=by rw [HP.out];omega
  have s2:=(s1.new (c:=#[U i6 t]) (t:=3)).new (c:=#[U i6 u]) (t:=3) |>.new (c:=#[U i6 p]) (t:=3)
  simp only [World.size_alloc] at s2
  go_ret
  refine⟨⟨_,_,rfl,?_⟩,s2.below⟩
  obtain⟨a1,a2,a3,a4,a5,-⟩:=s2.heaps
  exact it_taps (.inr ⟨HN.out,rfl⟩) (by rw [← e];exact a1) a5 a3 a4 a2 (fun b hb=>by have:=s1.size;simp at hb ⊢;omega)
end Go.Proofs.YtgjcjhnnopandaaGreat
namespace Go.Proofs.YtgjcjhnnopandaaGreat.Nx
open Go.Value renaming int → U, slice → Sl
open Go.IntKind renaming i64 → i6
set_option maxRecDepth 100000
set_option maxHeartbeats 16000000
open Go.ChangeShapes Go.WideShapes Go.ChangeAt Go.RowKit
def Row (w:World) (a:Option Addr) (len cap:Nat) (zs:List Int):Prop :=
 zs.length=len∧len≤cap∧cap≤maxLen∧(a=none→cap=0)∧∀ x,a=some x→∀ i,i<len→w.cell? (x.add i)=some (U i6 (zs.getD i 0))
theorem Row.mono {w w':World} {a:Option Addr} {len cap:Nat} {zs:List Int} (h:Row w a len cap zs) (k:∀ x v,w.cell? x=some (U i6 v)→w'.cell? x=some (U i6 v)):Row w' a len cap zs :=
 ⟨h.1,h.2.1,h.2.2.1,h.2.2.2.1,fun x hx i hi=>k _ _ (h.2.2.2.2 x hx i hi)⟩
theorem Row.below {w w':World} {a:Option Addr} {len cap:Nat} {zs:List Int} (h:Row w a len cap zs) (k:Below w.heap.size w w'):Row w' a len cap zs :=
 h.mono fun x _ hx=>(k.cell (World.block_lt_of_cell? w x hx)).trans hx
def Own (w:World) (base:Nat) (v:Value) (zs:List Int):Prop:=w.ownsRow base 3 1 v zs.length (zs.map (Value.int .i64))
theorem Own.shape {w:World} {base:Nat} {v:Value} {zs:List Int} (h:Own w base v zs) :
  (v=.slice none 0 0∧zs=[])∨∃ g cap,v=.slice (some ⟨g,0,none⟩) zs.length cap∧base≤g∧g<w.heap.size∧zs.length≤cap∧cap≤maxLen ∧
    (∀ i,i<zs.length→w.cell? ⟨g,i,none⟩=some (U i6 (zs.getD i 0)))∧∀ i,w.frozen? ⟨g,i,none⟩=false:=by
 obtain⟨h1,h2⟩:=h
 rcases h2 with ⟨rfl,h0⟩ | ⟨g,cap,cur,rfl,hg,hh,hn,hm,hs,ht⟩
 ·exact .inl ⟨rfl,List.eq_nil_of_length_eq_zero h0⟩
 ·refine .inr ⟨g,cap,rfl,hg,lt_of_heap hh,hn,hm,fun i hi=>?_,fun i=>?_⟩
  ·have hc:cur[i]? = some (U i6 (zs.getD i 0)):=by
    have:(cur.toList.take (zs.length*1))[i]? = some (U i6 (zs.getD i 0)):=by rw [ht];simp [List.getD,hi]
    rw [List.getElem?_take,if_pos (by omega)] at this
    simpa using this
   simp [World.cell?,hh,hc]
  ·simp only [World.frozen?,hh];simp
theorem Own.row {w:World} {base:Nat} {v:Value} {zs:List Int} (h:Own w base v zs):∃ a cap,v=.slice a zs.length cap∧Row w a zs.length cap zs∧∀ x,a=some x→base≤x.block∧x.block<w.heap.size:=by
 rcases h.shape with ⟨rfl,rfl⟩ | ⟨g,cap,rfl,hg,hlt,hn,hm,hc,_⟩
 ·exact⟨none,0,rfl,⟨rfl,by simp,by simp,fun _=>rfl,fun x hx=>by cases hx⟩,fun x hx=>by cases hx⟩
 ·refine⟨some ⟨g,0,none⟩,cap,rfl,⟨rfl,hn,hm,fun h=>(by cases h),fun x hx i hi=>?_⟩,fun x hx=>?_⟩
  ·cases hx;rw [Addr.add_lit,Nat.zero_add];exact hc i hi
  ·cases hx;exact⟨hg,hlt⟩
theorem Own.block {w:World} {base:Nat} {v:Value} {zs:List Int} (h:Own w base v zs) {b:Nat} (hb:v.ownBlock=some b):base≤b:=by
 rcases h.shape with ⟨rfl,_⟩ | ⟨g,cap,rfl,hg,_⟩
 ·simp [Value.ownBlock] at hb
 ·obtain rfl:g=b:=by simpa [Value.ownBlock] using hb
  exact hg
theorem Own.below {w w':World} {base:Nat} {v:Value} {zs:List Int} (h:Own w base v zs) (k:Below w.heap.size w w'):Own w' base v zs:=by
 refine World.ownsRow.kept (row:=none) h ⟨k.os,k.tape,k.output,k.size,fun i hi _=>k.block i hi⟩ ?_
 rcases h.shape with ⟨rfl,_⟩ | ⟨g,cap,rfl,_⟩
 ·exact .inl rfl
 ·exact .inr (by simp [Value.ownBlock])
theorem Own.base {w:World} {b c:Nat} {v:Value} {zs:List Int} (h:Own w b v zs) (k:c≤b):Own w c v zs:=by
 refine⟨h.1,?_⟩
 rcases h.2 with h | ⟨g,cap,cur,h1,h2,h3⟩
 ·exact .inl h
 ·exact .inr ⟨g,cap,cur,h1,Nat.le_trans k h2,h3⟩
theorem own_none (w:World) (base:Nat):Own w base (.slice none 0 0) []:=World.ownsRow_nil _ _ _ _
theorem Tryz.infoI:(Tryz.prog.info? 3).map (fun i=>(i.zero,i.size,i.bytes))=some (some (U i6 0),1,8):=by kernel_rfl
theorem wpList_app {w:World} {ops:Array Oper} {rest:List Oper} {o:Oper} {a:Act} {Q:Exit→Act→World→Prop} (hgd:o.guard=none) (s x:Operand)
  (ho:o.op=.call { callee:=.builtin .append,args:=#[s,x],argTypes:=#[118,118] })
  (base:Nat) (v:Value) (xs ys:List Int) (hs:a.eval s=v) (hown:Own w base v xs) (ad:Addr) (m c:Nat) (hx:a.eval x=.slice (some ad) m c) (hy:Row w (some ad) m c ys)
  (hlen:xs.length+ys.length≤10000000) (hbase:base≤w.heap.size)
  (h:∀ v' w',Own w' base v' (xs++ys)→w.grownBy w' v.ownBlock→wpList Tryz.prog ops Q rest (a.put o.dst v') w'):wpList Tryz.prog ops Q (o :: rest) a w:=by
 obtain⟨i0,hi,hz0,hz1,hz2⟩:=info_parts Tryz.infoI
 obtain⟨hl,hc,hm,hn,hcell⟩:=hy
 refine wpList_append_own _ hgd s x _ ho base 3 i0 (U i6 0) 1 8 Tryz.underlying118 hi hz0 hz1 hz2 rfl (by decide) v xs.length _ hs hown ad m c (ys.map (Value.int .i64)) hx (by simp [hl]) ?_ (ints_oneCell _ _) ?_ (by omega) hbase ?_
 ·intro j u hj
  have hj':j<m:=by
   have:=(List.getElem?_eq_some_iff.1 hj).1
   simpa [hl] using this
  rw [hcell ad rfl j hj']
  simp [List.getD,show j<ys.length by omega] at hj ⊢
  exact hj
 ·unfold maxLen;omega
 ·intro v' w' h1 h2 h3
  refine h v' w' ?_ h2
  unfold Own
  rw [List.length_append,hl,List.map_append]
  exact h1
theorem row_one (w:World) (z:Int):Row (w.alloc (.cells #[U i6 z] 3)) (some ⟨w.heap.size,0,none⟩) 1 1 [z]:=by
 refine⟨rfl,Nat.le_refl _,by unfold maxLen;omega,fun h=>(by cases h),fun x hx i hi=>?_⟩
 cases hx
 obtain rfl:i=0:=by omega
 simp [Addr.add]
theorem Own.alloc {w:World} {base:Nat} {v:Value} {zs:List Int} (h:Own w base v zs) (o:Obj):Own (w.alloc o) base v zs:=h.below ((Below.refl _ _).alloc (Nat.le_refl _) _)
open Go.ChangeShapes Go.WideShapes Go.ChangeAt Go.RowKit Go.Shelf
attribute [local go_sem] Oper.semAt_some
def flat (l:List (Int×Int)):List Int:=l.flatMap fun p=>[p.1,p.2]
theorem tapsOf_len (h w c kh kw sh sw tp lf bt rt n:Int):(tapsOf h w c kh kw sh sw tp lf bt rt n).length≤1024:=by
 rcases coR_cases h w c kh kw sh sw tp lf bt rt n with ⟨e,he,h2⟩ | ⟨r,q,he,hf,hn,hc⟩
 ·rw [tapsOf_no he (by omega)];simp
 ·rw [tapsOf_ok hc,tapL_len]
  obtain⟨-,⟨k1,k2,-⟩,-⟩:=hf
  have:=Int.mul_le_mul k1.2 k2.2 (by omega) (by omega)
  omega
end Go.Proofs.YtgjcjhnnopandaaGreat.Nx
namespace Go.Proofs.YtgjcjhnnopandaaGreat
open Go.Value renaming int → U, slice → Sl
open Go.IntKind renaming i64 → i6
set_option maxRecDepth 100000
set_option maxHeartbeats 16000000
open Go.ChangeShapes Go.WideShapes Go.ChangeAt Go.RowKit
set_option linter.unusedVariables false
def p2:List (Int×Int)→List Value
 | []=>[]
 | s :: l=>U i6 s.1 :: U i6 s.2 :: p2 l
theorem p2_len:∀ l:List (Int×Int),(p2 l).length=l.length*2
 | []=>rfl
 | s :: l=>by simp only [p2,List.length_cons,p2_len l];omega
theorem p2_app:∀ l r:List (Int×Int),p2 (l++r)=p2 l++p2 r
 | [],_=>rfl
 | s :: l,r=>by simp only [List.cons_append,p2,p2_app l r]
theorem p2_one:∀ l:List (Int×Int),∀ u∈p2 l,u.oneCell'=true
 | [],u,h=>by cases h
 | s :: l,u,h=>by
  simp only [p2,List.mem_cons] at h
  rcases h with rfl | rfl | h
  ·rfl
  ·rfl
  ·exact p2_one l u h
theorem p2_at:∀ (l:List (Int×Int)) (i:Nat),i<l.length→(p2 l)[i*2]? = some (U i6 (l.getD i (0,0)).1)∧(p2 l)[i*2+1]? = some (U i6 (l.getD i (0,0)).2)
 | [],_,h=>by simp at h
 | s :: l,0,_=>⟨rfl,rfl⟩
 | s :: l,i+1,h=>by
  have:=p2_at l i (by simpa using h)
  rw [show (i+1)*2=i*2+2 by omega]
  simpa [p2,List.getD] using this
def Cu2 (cur:Array Value) (cap:Nat) (L:List (Int×Int)):Prop:=cur.size=cap*2∧L.length≤cap∧cur.toList.take (L.length*2)=p2 L
theorem Cu2.get {cur:Array Value} {cap:Nat} {L:List (Int×Int)} (h:Cu2 cur cap L) {j:Nat} {u:Value} (hj:(p2 L)[j]? = some u):cur[j]? = some u:=by
 have hl:j<L.length*2:=by have:=(List.getElem?_eq_some_iff.1 hj).1;rwa [p2_len] at this
 rw [← h.2.2,List.getElem?_take,if_pos hl] at hj
 simpa using hj
theorem Cu2.add {cur:Array Value} {cap:Nat} {L:List (Int×Int)} (h:Cu2 cur cap L) (hr:L.length<cap) (x y:Int) :
  Cu2 ((cur.setIfInBounds (L.length*2) (U i6 x)).setIfInBounds (L.length*2+1) (U i6 y)) cap (L++[(x,y)]):=by
 obtain⟨h1,h2,h3⟩:=h
 refine⟨by simp [h1],by simp;omega,?_⟩
 rw [p2_app,← h3]
 apply List.ext_getElem?
 intro j
 have hsz:cur.toList.length=cap*2:=by simpa using h1
 simp only [List.length_append,List.length_cons,List.length_nil,Array.toList_setIfInBounds]
 rw [List.getElem?_take]
 have hl:(cur.toList.take (L.length*2)).length=L.length*2:=by rw [List.length_take];omega
 by_cases q1:j<L.length*2
 ·rw [if_pos (by omega),List.getElem?_append_left (by omega),List.getElem?_take,if_pos q1]
  rw [List.getElem?_set_ne (by omega),List.getElem?_set_ne (by omega)]
 ·rw [List.getElem?_append_right (by omega),hl]
  by_cases q2:j<L.length*2+2
  ·rw [if_pos (by omega)]
   rcases (show j=L.length*2∨j=L.length*2+1 by omega) with rfl | rfl
   ·rw [List.getElem?_set_ne (by omega),List.getElem?_set_self (by omega),Nat.sub_self];rfl
   ·rw [List.getElem?_set_self (by simp;omega),show L.length*2+1-L.length*2=1 by omega];rfl
  ·rw [if_neg (by omega),List.getElem?_eq_none (by simp [p2];omega)]
def OTm (w:World) (base:Nat) (v:Value) (L:List (Int×Int)):Prop:=w.ownsRow base 91 2 v L.length (p2 L)
theorem OTm.cu {w:World} {base:Nat} {v:Value} {L:List (Int×Int)} (h:OTm w base v L) (h0:0<L.length):∃ g cap cur,v=.slice (some ⟨g,0,none⟩) L.length cap∧base≤g∧w.heap[g]? = some (.cells cur 91 (0,0))∧Cu2 cur cap L∧cap≤maxLen:=by
 rcases h.2 with ⟨-,q⟩ | ⟨g,cap,cur,h1,h2,h3,h4,h5,h6,h7⟩
 ·omega
 ·exact⟨g,cap,cur,h1,h2,h3,⟨h6,h4,h7⟩,h5⟩
theorem OTm.of {w:World} {g cap base:Nat} {cur:Array Value} {L:List (Int×Int)} (h:w.heap[g]? = some (.cells cur 91 (0,0))) (hb:base≤g) (hC:Cu2 cur cap L) (hcap:cap≤maxLen):OTm w base (.slice (some ⟨g,0,none⟩) L.length cap) L :=
 ⟨by rw [p2_len],.inr ⟨g,cap,cur,rfl,hb,h,hC.2.1,hcap,hC.1,hC.2.2⟩⟩
theorem OTm.nil (w:World) (base:Nat):OTm w base (.slice none 0 0) []:=World.ownsRow_nil _ _ _ _
theorem OTm.below {w w':World} {base:Nat} {v:Value} {L:List (Int×Int)} (h:OTm w base v L) (g:Below w.heap.size w w'):OTm w' base v L:=by
 refine World.ownsRow.kept h (row:=none) ⟨g.os,g.tape,g.output,g.size,fun i hi _=>g.block i hi⟩ ?_
 cases e:v.ownBlock with
 | none=>exact .inl rfl
 | some b=>exact .inr (by simp)
theorem OTm.base {w:World} {b c:Nat} {v:Value} {L:List (Int×Int)} (h:OTm w b v L) (k:c≤b):OTm w c v L:=by
 refine⟨h.1,?_⟩
 rcases h.2 with h | ⟨g,cap,cur,h1,h2,h3⟩
 ·exact .inl h
 ·exact .inr ⟨g,cap,cur,h1,Nat.le_trans k h2,h3⟩
theorem OTm.slice {w:World} {base:Nat} {v:Value} {L:List (Int×Int)} (h:OTm w base v L):∃ a cap,v=.slice a L.length cap:=by
 rcases h.2 with ⟨rfl,q⟩ | ⟨g,cap,cur,rfl,-⟩
 ·exact⟨_,_,by rw [q]⟩
 ·exact⟨_,_,rfl⟩
theorem OTm.lt {w:World} {base:Nat} {v:Value} {L:List (Int×Int)} (h:OTm w base v L):∀ b,v.ownBlock=some b→base≤b:=fun b e=>(World.ownsRow.lt h b e).1
def TV (w:World) (v:Value) (L:List (Int×Int)):Prop :=
 ∃ a cap,v=.slice a L.length cap∧L.length≤cap∧cap≤maxLen∧(0<L.length→∃ g,a=some ⟨g,0,none⟩∧∀ j u,(p2 L)[j]? = some u→w.cell? ⟨g,j,none⟩=some u)
theorem TV.at {w:World} {g:Nat} {L:List (Int×Int)} (h:∀ j u,(p2 L)[j]? = some u→w.cell? ⟨g,j,none⟩=some u) {i:Nat} (hi:i<L.length) :
  w.cell? ⟨g,i*2,none⟩=some (U i6 (L.getD i (0,0)).1)∧w.cell? ⟨g,i*2+1,none⟩=some (U i6 (L.getD i (0,0)).2):=⟨h _ _ (p2_at L i hi).1,h _ _ (p2_at L i hi).2⟩
theorem TV.below {w w':World} {v:Value} {L:List (Int×Int)} (h:TV w v L) (q:Below w.heap.size w w'):TV w' v L:=by
 obtain⟨a,cap,h1,h2,h3,h4⟩:=h
 refine⟨a,cap,h1,h2,h3,fun h0=>?_⟩
 obtain⟨g,e,hc⟩:=h4 h0
 exact⟨g,e,fun j u hj=>(q.cell (World.block_lt_of_cell? w _ (hc j u hj))).trans (hc j u hj)⟩
theorem OTm.tv {w:World} {base:Nat} {v:Value} {L:List (Int×Int)} (h:OTm w base v L):TV w v L:=by
 rcases h.2 with ⟨rfl,q⟩ | ⟨g,cap,cur,rfl,h2,h3,h4,h5,h6,h7⟩
 ·obtain rfl:=List.eq_nil_of_length_eq_zero q
  exact⟨none,0,rfl,Nat.le_refl _,by unfold maxLen;omega,fun h=>by cases h⟩
 ·exact⟨_,_,rfl,h4,h5,fun _=>⟨g,rfl,fun j u hj=>by rw [(cells_at h3).1];exact Cu2.get ⟨h6,h4,h7⟩ hj⟩⟩
theorem Tryz.infoT:(Tryz.prog.info? 91).map (fun i=>(i.zero,i.size,i.bytes))=some (some (.agg #[U i6 0,U i6 0]),2,16):=by kernel_rfl
theorem wpList_apT {w:World} {ops:Array Oper} {rest:List Oper} {o:Oper} {a:Act} {Q:Exit→Act→World→Prop} (hgd:o.guard=none) (s x:Operand)
  (ho:o.op=.call { callee:=.builtin .append,args:=#[s,x],argTypes:=#[88,88] })
  (base:Nat) (v:Value) (L M:List (Int×Int)) (hs:a.eval s=v) (hown:OTm w base v L) (g m c:Nat) (hx:a.eval x=.slice (some ⟨g,0,none⟩) m c) (hm:M.length=m) (hy:∀ j u,(p2 M)[j]? = some u→w.cell? ⟨g,j,none⟩=some u)
  (hlen:L.length+M.length≤1000000) (hbase:base≤w.heap.size)
  (h:∀ v' w',OTm w' base v' (L++M)→w.grownBy w' v.ownBlock→wpList Tryz.prog ops Q rest (a.put o.dst v') w'):wpList Tryz.prog ops Q (o :: rest) a w:=by
 obtain⟨i0,hi,hz0,hz1,hz2⟩:=info_parts Tryz.infoT
 refine wpList_append_own _ hgd s x _ ho base 91 i0 (.agg #[U i6 0,U i6 0]) 2 16 Tryz.underlying88 hi hz0 hz1 hz2 rfl (by decide) v L.length _ hs hown ⟨g,0,none⟩ m c (p2 M) hx (by rw [p2_len,hm]) (fun j u hj=>by rw [Addr.add_lit,Nat.zero_add];exact hy j u hj) (p2_one M) (by unfold maxLen;omega) (by omega) hbase ?_
 intro v' w' h1 h2 h3
 refine h v' w' ?_ h2
 unfold OTm
 rw [List.length_append,hm,p2_app]
 exact h1
theorem term_one (w:World) (p q:Int):∀ j u,(p2 [(p,q)])[j]? = some u→(w.alloc (.cells #[U i6 p,U i6 q] 91)).cell? ⟨w.heap.size,j,none⟩=some u:=fun j u hj=>by
 rw [(cells_at (heap_alloc_new w (.cells #[U i6 p,U i6 q] 91))).1]
 simpa [p2] using hj
open Go.ChangeShapes Go.WideShapes Go.ChangeAt Go.RowKit Go.Shelf
section
variable {F:Fence} {n l:Nat} {P:Program} {ops:Array Oper} {md:Region.Mode} {Q:Exit→Act→World→Prop}
def noDefer (ops:Array Oper):Bool:=ops.toList.all fun o=>match o.op with | .defer _=>false | _=>true
theorem noDefer_at (h:noDefer ops=true) {i:Nat} {o:Oper} (ho:ops[i]? = some o):∀ c,o.op≠.defer c:=by
 intro c e
 have:=List.all_eq_true.1 h o (Array.mem_toList_iff.2 (Array.mem_of_getElem? ho))
 rw [e] at this
 cases this
theorem op_round (h:noDefer ops=true) (hro:F.round=none) {i:Nat} {K K':Act→World→Prop} {a:Act} {w:World} (hK:∀ a w,K a w→K' a w) (g:wpOpIn F n P ops Q i K a w):wpOpIn (F.inRound l) n P ops Q i K' a w:=by
 refine wpOpIn_mono hK ?_
 unfold wpOpIn at g ⊢
 cases ho:ops[i]? with
 | none=>rw [ho] at g;exact g
 | some o =>
  rw [ho] at g
  simp only at g ⊢
  split at g
  ·rename_i hw
   rw [if_pos hw]
   unfold Oper.wpIn at g ⊢
   rw [Oper.semAt_eq _ _ _ (noDefer_at h ho)] at g ⊢
   exact g
  ·rename_i hw
   rw [if_neg hw]
   exact g
theorem any_round (h:noDefer ops=true) (hro:F.round=none):∀ (fuel:Nat) (listed:Array Bool) (a:Act) (w:World),wpAnyIn F n P md ops Q fuel listed a w→wpAnyIn (F.inRound l) n P md ops Q fuel listed a w
 | 0,_,_,_,g=>g
 | fuel+1,_,_,_,g=>⟨g.1,fun i hi=>op_round h hro (fun a w=>any_round h hro fuel _ a w) (g.2 i hi)⟩
theorem region_round {id:Nat} {a:Act} {w:World} (h:noDefer ops=true) (hro:F.round=none) (hm:P.follows .mixedOrders=true) (g:wpAnyIn F n P .any ops Q ops.size (Array.replicate ops.size false) a w.drew):(Code.region id ops true).wpIn (F.inRound l) n P Q a w :=
 wpIn_region_any hm (any_round h hro _ _ _ _ g)
end
section
variable {F:Fence} {n:Nat} {P:Program} {ops:Array Oper} {md:Region.Mode} {C:Array Bool→World→Prop} {Q:Exit→Act→World→Prop}
def wpAnyL (F:Fence) (n:Nat) (P:Program) (md:Region.Mode) (ops:Array Oper) (C:Array Bool→World→Prop) (Q:Exit→Act→World→Prop):Nat→Array Bool→Act→World→Prop
 | 0,listed,a,w=>C listed w∧Region.ready md ops listed=[]∧Q .normal a w
 | fuel+1,listed,a,w=>C listed w∧(Region.ready md ops listed=[]→Q .normal a w)∧∀ i∈Region.ready md ops listed,wpOpIn F n P ops Q i (wpAnyL F n P md ops C Q fuel (listed.setIfInBounds i true)) a w
theorem any_of_L:∀ (fuel:Nat) (listed:Array Bool) (a:Act) (w:World),wpAnyL F n P md ops C Q fuel listed a w→wpAnyIn F n P md ops Q fuel listed a w
 | 0,_,_,_,h=>h.2
 | fuel+1,_,_,_,h=>⟨h.2.1,fun i hi=>wpOpIn_mono (fun a w=>any_of_L fuel _ a w) (h.2.2 i hi)⟩
def waitsFor (md:Region.Mode) (ops:Array Oper) (g i:Nat):Bool :=
 match ops[g]? with
 | some o=>o.after.any fun e=>Region.binds md e && e.on == i
 | none=>false
theorem waitsFor_ready {g i:Nat} {listed:Array Bool} (h:waitsFor md ops g i=true) (hg:g∈Region.ready md ops listed) (hi:i∈Region.ready md ops listed):False:=by
 obtain⟨-,og,hog,hall⟩:=mem_ready.1 hg
 unfold waitsFor at h
 rw [hog] at h
 obtain⟨e,he,hb⟩:=Array.any_eq_true'.1 h
 simp only [Bool.and_eq_true,beq_iff_eq] at hb
 have h1:=hall e he hb.1
 have h0:=(mem_ready.1 hi).1
 rw [hb.2] at h1
 rcases Nat.lt_or_ge i listed.size with h' | h'
 ·simp [h'] at h0 h1;rw [h0] at h1;cases h1
 ·simp [Array.getElem?_eq_none h'] at h1
theorem wpAnyL_first {i g:Nat} {oi:Oper} {v:Value} {D:World→Prop} (hro:F.round=none) (hi:ops[i]? = some oi) (hsel:∀ (j:Nat) (o:Oper) cs b,ops[j]? = some o→o.op≠.select cs b)
  (hQ:∀ c a w,Q (.panic c) (a.put oi.dst v) w→Q (.panic c) a w) (hgi:g≠i) (hwf:waitsFor md ops g i=true) (hD:∀ l w,C l w→l.getD g true=false→D w) (hCi:∀ l w,C (l.setIfInBounds i true) w→C l w) :
  ∀ (fuel:Nat) (listed:Array Bool) (a:Act) (w:World),
   (∀ j oj,ops[j]? = some oj→j≠i→listed.getD j true=false→(∀ e∈oj.after,Region.binds md e=true→e.on≠i)→oi.apart ops oj=true) →
   i∈Region.ready md ops listed→listed.getD g true=false→YieldsC P ops D oi v a →
   wpAnyL F n P md ops C Q fuel (listed.setIfInBounds i true) (a.put oi.dst v) w→wpAnyL F n P md ops C Q (fuel+1) listed a w:=by
 intro fuel
 induction fuel with
 | zero =>
  intro listed a w _ hr hg hy H
  refine⟨hCi _ _ H.1,fun h=>(by rw [h] at hr;cases hr),fun j hj=>?_⟩
  by_cases hji:j=i
  ·subst hji;exact hy.wpOpIn hro hi (hD _ _ (hCi _ _ H.1) hg) H
  ·have:=ready_mono hj hji
   rw [H.2.1] at this
   cases this
 | succ fuel ih =>
  intro listed a w hfree hr hg hy H
  refine⟨hCi _ _ H.1,fun h=>(by rw [h] at hr;cases hr),fun j hj=>?_⟩
  by_cases hji:j=i
  ·subst hji;exact hy.wpOpIn hro hi (hD _ _ (hCi _ _ H.1) hg) H
  ·have h1:=H.2.2 j (ready_mono hj hji)
   have hjg:j≠g:=fun e=>by subst e;exact waitsFor_ready hwf hj hr
   obtain⟨hjun,oj,hoj,hall⟩:=mem_ready.1 hj
   have hnot:∀ e∈oj.after,Region.binds md e=true→e.on≠i:=fun e he hb heq=>by
    have h1:=hall e he hb
    have h0:=(mem_ready.1 hr).1
    rw [heq] at h1
    rcases Nat.lt_or_ge i listed.size with h' | h'
    ·simp [h'] at h0 h1;rw [h0] at h1;cases h1
    ·simp [Array.getElem?_eq_none h'] at h1
   have h2:=wpOpIn_putC hro hoj (hfree j oj hoj hji hjun hnot) (fun cs b=>hsel i oi cs b hi) (fun cs b=>hsel j oj cs b hoj) hQ hy h1
   have hfree':∀ k ok,ops[k]? = some ok→k≠i→(listed.setIfInBounds j true).getD k true=false →
     (∀ e∈ok.after,Region.binds md e=true→e.on≠i)→oi.apart ops ok=true:=fun k ok hk hki hun hno=>by
    refine hfree k ok hk hki ?_ hno
    by_cases hjk:j=k
    ·subst hjk;exact hjun
    ·rw [getD_set_ne true hjk] at hun;exact hun
   refine wpOpIn_mono (fun a' w' h3=>ih (listed.setIfInBounds j true) a' w' hfree' (ready_mono hr (Ne.symm hji)) (by rw [getD_set_ne true hjg];exact hg) h3.1 ?_) h2
   rw [Array.setIfInBounds_comm _ _ hji]
   exact h3.2
theorem takeL (i g:Nat) {D:World→Prop} {oi:Oper} {v:Value} {fuel:Nat} {listed:Array Bool} {a:Act} {w:World} (hro:F.round=none) (hi:ops[i]? = some oi)
  (hs:Region.noSelect ops=true) (hf:Region.free md ops listed i=true) (hr:(Region.ready md ops listed).contains i=true) (hgi:g≠i) (hwf:waitsFor md ops g i=true) (hg:listed.getD g true=false)
  (hD:∀ l w,C l w→l.getD g true=false→D w) (hCi:∀ l w,C (l.setIfInBounds i true) w→C l w)
  (hQ:∀ c a w,Q (.panic c) (a.put oi.dst v) w→Q (.panic c) a w) (hb:∀ w,oi.about P w a.eval=none) (hw:Region.wanted oi (yielded ops a.tmps)=true) (hy:∀ w,D w→(execOp a.eval oi).run P w=.ok (.value v) w)
  (h:wpAnyL F n P md ops C Q fuel (listed.setIfInBounds i true) (a.put oi.dst v) w):wpAnyL F n P md ops C Q (fuel+1) listed a w :=
 wpAnyL_first hro hi (Region.noSelect_spec hs) hQ hgi hwf hD hCi fuel listed a w (Region.free_spec hi hf) (by simpa using hr) hg ⟨.inl ⟨hw,hy⟩,hb⟩ h
theorem stepL (i:Nat) {o:Oper} {fuel:Nat} {listed:Array Bool} {a:Act} {w:World} (hC:C listed w) (hr:Region.ready md ops listed=[i]) (ho:ops[i]? = some o)
  (h:∀ K:Act→World→Prop,(∀ a w,wpAnyL F n P md ops C Q fuel (listed.setIfInBounds i true) a w→K a w)→if Region.wanted o (yielded ops a.tmps)=true then Oper.wpIn F n P o a w K Q else (∀ f,o.about P w a.eval=some f→F.fn f)∧K (a.put o.dst undef) w) :
  wpAnyL F n P md ops C Q (fuel+1) listed a w :=
 ⟨hC,fun h0=>(by rw [hr] at h0;cases h0),fun j hj=>by
  rw [hr] at hj
  obtain rfl:j=i:=by simpa using hj
  exact wpOpIn_step ho fun K' hK'=>h K' hK'⟩
theorem doneL {listed:Array Bool} {a:Act} {w:World} (hC:C listed w) (hr:Region.ready md ops listed=[]) (h:Q .normal a w):∀ fuel,wpAnyL F n P md ops C Q fuel listed a w
 | 0=>⟨hC,hr,h⟩
 | _+1=>⟨hC,fun _=>h,by rw [hr];simp⟩
theorem regionL {id:Nat} {a:Act} {w:World} (C:Array Bool→World→Prop) (hm:P.follows .mixedOrders=true) (g:wpAnyL Fence.wide 3 P .any ops C Q ops.size (Array.replicate ops.size false) a w.drew):(Code.region id ops true).wp P Q a w :=
 (wpIn_wide (n:=3)).1 (wpIn_region_any hm (any_of_L _ _ _ _ g))
end
section
variable {n:Nat} {P:Program} {ops:Array Oper} {md:Region.Mode} {C:Array Bool→World→Prop} {Q:Exit→Act→World→Prop} {fuel:Nat} {listed:Array Bool} {a:Act} {w:World} {o:Oper}
theorem lW (i:Nat) (hC:C listed w) (hr:Region.ready md ops listed=[i]) (ho:ops[i]? = some o) (hg:o.guard=none)
  (h:∀ K:Act→World→Prop,(∀ a w,wpAnyL Fence.wide n P md ops C Q fuel (listed.setIfInBounds i true) a w→K a w)→o.wp P a w K Q):wpAnyL Fence.wide n P md ops C Q (fuel+1) listed a w :=
 stepL i hC hr ho fun K hK=>step_wp hg (h K hK)
theorem lR (i:Nat) (hC:C listed w) (hr:Region.ready md ops listed=[i]) (ho:ops[i]? = some o) (hg:o.guard=none)
  (v:Value) (w':World) (hrun:(execOp a.eval o).run P w=.ok (.value v) w') (h:wpAnyL Fence.wide n P md ops C Q fuel (listed.setIfInBounds i true) (a.put o.dst v) w'):wpAnyL Fence.wide n P md ops C Q (fuel+1) listed a w :=
 lW i hC hr ho hg fun K hK=>by unfold Oper.wp;rw [hrun,Oper.upon_value];exact hK _ _ h
theorem lT (i:Nat) (hC:C listed w) (hr:Region.ready md ops listed=[i]) (ho:ops[i]? = some o) (hg:o.guard=none)
  (w':World) (hrun:(execOp a.eval o).run P w=.ok .skip w') (h:wpAnyL Fence.wide n P md ops C Q fuel (listed.setIfInBounds i true) (a.put o.dst undef) w'):wpAnyL Fence.wide n P md ops C Q (fuel+1) listed a w :=
 lW i hC hr ho hg fun K hK=>by unfold Oper.wp;rw [hrun];exact hK _ _ h
theorem lK (i:Nat) (hC:C listed w) (hr:Region.ready md ops listed=[i]) (ho:ops[i]? = some o) (hg:o.guard=none)
  (f:FuncId) (args:Array Value) (hrun:(execOp a.eval o).run P w=.ok (.enter f args) w) {R:Ending→World→Prop} (hcall:Calls P f args w R)
  (h:∀ e w',R e w'→∃ v,e=.returned v∧wpAnyL Fence.wide n P md ops C Q fuel (listed.setIfInBounds i true) (a.put o.dst v) w'):wpAnyL Fence.wide n P md ops C Q (fuel+1) listed a w :=
 lW i hC hr ho hg fun K hK=>by
  unfold Oper.wp
  rw [hrun]
  refine Calls.mono hcall fun e w' he=>?_
  obtain⟨v,rfl,hv⟩:=h e w' he
  exact hK _ _ hv
end
def Cl (gs:List Nat) (B:World→Prop) (l:Array Bool) (w:World):Prop:=(gs.any fun g=>l.getD g true == false)=true→B w
theorem Cl.of {gs:List Nat} {B:World→Prop} {l:Array Bool} {w:World} (h:B w):Cl gs B l w:=fun _=>h
theorem Cl.all {gs:List Nat} {B:World→Prop} {l:Array Bool} {w:World} (h:(gs.any fun g=>l.getD g true == false)=false):Cl gs B l w:=fun q=>by rw [h] at q;cases q
theorem takeG {F:Fence} {n:Nat} {P:Program} {ops:Array Oper} {md:Region.Mode} {Q:Exit→Act→World→Prop} {gs:List Nat} {B:World→Prop} (i g:Nat) {oi:Oper} {v:Value} {fuel:Nat} {listed:Array Bool} {a:Act} {w:World} (hro:F.round=none) (hi:ops[i]? = some oi)
  (hs:Region.noSelect ops=true) (hf:Region.free md ops listed i=true) (hr:(Region.ready md ops listed).contains i=true) (hwf:waitsFor md ops g i=true) (hg:listed.getD g true=false) (hgs:gs.contains g=true) (hni:gs.contains i=false)
  (hQ:∀ c a w,Q (.panic c) (a.put oi.dst v) w→Q (.panic c) a w) (hb:∀ w,oi.about P w a.eval=none) (hw:Region.wanted oi (yielded ops a.tmps)=true) (hy:∀ w,B w→(execOp a.eval oi).run P w=.ok (.value v) w)
  (h:wpAnyL F n P md ops (Cl gs B) Q fuel (listed.setIfInBounds i true) (a.put oi.dst v) w):wpAnyL F n P md ops (Cl gs B) Q (fuel+1) listed a w:=by
 have hgm:g∈gs:=by simpa using hgs
 have him:i ∉ gs:=by simpa using hni
 refine takeL i g (D:=B) hro hi hs hf hr (fun e=>him (e ▸ hgm)) hwf hg (fun l w h hl=>h (List.any_eq_true.2 ⟨g,hgm,by simp [hl]⟩)) (fun l w h q=>h ?_) hQ hb hw hy h
 obtain⟨x,hx,q⟩:=List.any_eq_true.1 q
 refine List.any_eq_true.2 ⟨x,hx,?_⟩
 have hne:i≠x:=fun e=>him (by rw [e];exact hx)
 rw [getD_set_ne true hne]
 exact q
def Ql (M:Act→World→Prop):Exit→Act→World→Prop
 | .normal,a,w=>M a w
 | _,_,_=>False
theorem regionLM {P:Program} {ops:Array Oper} {Q:Exit→Act→World→Prop} {id:Nat} {a:Act} {w:World} (C:Array Bool→World→Prop) (M:Act→Act→World→Prop) (hm:P.follows .mixedOrders=true) (g:wpAnyL Fence.wide 3 P .any ops C (Ql (M a)) ops.size (Array.replicate ops.size false) a w.drew) (h:∀ a' w,M a a' w→Q .normal a' w):(Code.region id ops true).wp P Q a w :=
 (wpIn_wide (n:=3)).1 (wpIn_mono (wpIn_region_any hm (any_of_L _ _ _ _ g)) (fun e a w q=>by cases e<;>first | exact h _ _ q | exact q.elim))
theorem regionLM_round {n:Nat} {P:Program} {ops:Array Oper} {Q:Exit→Act→World→Prop} {id l:Nat} {a:Act} {w:World} (C:Array Bool→World→Prop) (M:Act→Act→World→Prop) (hd:noDefer ops=true) (hm:P.follows .mixedOrders=true) (g:wpAnyL Fence.wide n P .any ops C (Ql (M a)) ops.size (Array.replicate ops.size false) a w.drew) (h:∀ a' w,M a a' w→Q .normal a' w):(Code.region id ops true).wpIn (Fence.wide.inRound l) n P Q a w :=
 wpIn_mono (region_round hd rfl hm (any_of_L _ _ _ _ g)) (fun e a w q=>by cases e<;>first | exact h _ _ q | exact q.elim)
def plL (k C ch h w kw t u:Int) (n:Nat):List Int:=(List.range n).map fun (i:Nat)=>plA k C ch h w kw t u i
theorem plL_len (k C ch h w kw t u:Int) (n:Nat):(plL k C ch h w kw t u n).length=n:=by simp [plL]
theorem plL_succ (k C ch h w kw t u:Int) (n:Nat):plL k C ch h w kw t u (n+1)=plL k C ch h w kw t u n++[plA k C ch h w kw t u n]:=by simp [plL,List.range_succ]
theorem boxed_below {w w':World} {B:Nat} {t:TypeId} {v:Value} (h:Boxed w B t v) (k:Below w.heap.size w w'):Boxed w' B t v:=(k.block B h.lt).trans h
theorem lA {n:Nat} {ops:Array Oper} {md:Region.Mode} {C:Array Bool→World→Prop} {Q:Exit→Act→World→Prop} {fuel:Nat} {listed:Array Bool} {a:Act} {w:World} {o:Oper} (i:Nat) (hC:C listed w) (hr:Region.ready md ops listed=[i]) (ho:ops[i]? = some o) (hg:o.guard=none)
  (s x:Operand) (hop:o.op=.call { callee:=.builtin .append,args:=#[s,x],argTypes:=#[88,88] })
  (base:Nat) (v:Value) (L:List (Int×Int)) (hs:a.eval s=v) (hown:OTm w base v L) (g:Nat) (p q:Int) (hx:a.eval x=.slice (some ⟨g,0,none⟩) 1 1) (hy:∀ j u,(p2 [(p,q)])[j]? = some u→w.cell? ⟨g,j,none⟩=some u) (hlen:L.length+1≤10000000) (hbase:base≤w.heap.size)
  (h:∀ v' w',OTm w' base v' (L++[(p,q)])→w.grownBy w' v.ownBlock→(v'.ownBlock=v.ownBlock∨v'.ownBlock=some w.heap.size)→wpAnyL Fence.wide n Tryz.prog md ops C Q fuel (listed.setIfInBounds i true) (a.put o.dst v') w'):wpAnyL Fence.wide n Tryz.prog md ops C Q (fuel+1) listed a w:=by
 obtain⟨i0,hi,hz0,hz1,hz2⟩:=info_parts Tryz.infoT
 obtain⟨v',w',hrun,r1,r2,-,r4⟩:=run_append_own_at (P:=Tryz.prog) w base 88 o.type 91 i0 (.agg #[U i6 0,U i6 0]) 2 16 Tryz.underlying88 hi hz0 hz1 hz2 rfl (by decide) v L.length _ hown ⟨g,0,none⟩ 1 1 (p2 [(p,q)]) rfl (fun j u hj=>by rw [Addr.add_lit,Nat.zero_add];exact hy j u hj) (p2_one _) (by unfold maxLen;omega) (by omega) hbase
 refine lR i hC hr ho hg v' w' ?_ (h v' w' (by unfold OTm;rw [List.length_append,p2_app];exact r1) r2 r4)
 simp [execOp,hop,resolve,invoke,builtin,hs,hx,hrun,Result.andThen]
theorem app_box {base Bx n0:Nat} {L M:List (Int×Int)} {W1 w1:World} {v v':Value} {tmp:Obj} (a1:Boxed W1 Bx 88 v) (a2:OTm W1 base v L) (hn:n0≤base∧n0≤Bx∧n0≤W1.heap.size) (own':OTm w1 base v' M) (gr:(W1.alloc tmp).grownBy w1 v.ownBlock) :
  Boxed w1 Bx 88 v∧Boxed (w1.setCell ⟨Bx,0,none⟩ v') Bx 88 v'∧OTm (w1.setCell ⟨Bx,0,none⟩ v') base v' M∧(∀ b t u,Boxed W1 b t u→b≠Bx→t≠91→Boxed (w1.setCell ⟨Bx,0,none⟩ v') b t u)∧Below n0 W1 (w1.setCell ⟨Bx,0,none⟩ v')∧KeepsOthers W1 (w1.setCell ⟨Bx,0,none⟩ v'):=by
 have hrow:∀ b,v.ownBlock=some b→base≤b:=fun b e=>a2.lt b e
 have hv1:Boxed w1 Bx 88 v:=(a1.alloc tmp).kept gr (a1.not_row (by decide) a2)
 refine⟨hv1,hv1.set v',World.ownsRow.kept own' (grownBy_setCell' w1 Bx v') (.inr (hv1.not_row (by decide) own').symm),fun b t u hb h1 h2=>?_,?_,?_⟩
 ·exact ((hb.alloc tmp).kept gr (hb.not_row h2 a2)).other h1 v'
 ·exact (((Below.refl n0 W1).alloc hn.2.2 tmp).grown gr (by simp;omega) fun j ej=>(by have:=hrow j ej;omega)).setCell (p:=⟨Bx,0,none⟩) hn.2.1 _
 ·refine ((KeepsOthers.alloc W1 tmp).trans (KeepsOthers.of_grownBy gr fun j o ej hj=>?_)).trans (KeepsOthers.setCell _ _ _)
  have a2':OTm (W1.alloc tmp) base v L:=a2.below (bal _ _)
  rcases a2'.2 with ⟨rfl,_⟩ | ⟨g,cap,cur,rfl,_,hgb,_⟩
  ·simp [Value.ownBlock] at ej
  ·obtain rfl:g=j:=by simpa [Value.ownBlock] using ej
   rw [hgb] at hj;cases hj;rfl
theorem terms_1 (a b m kh kw sh sw tp lf bt rt:Int) (wa:Option Addr) (lw wc:Nat) (ba:Option Addr) (lb bc:Nat) (sm ss um us z p lo hi h w c H V C:Int) (r:Nat) (W:World) (hr:W.heap[r]? = some (.cells #[U i6 1,U i6 a,U i6 b,U i6 m,U i6 kh,U i6 kw,U i6 sh,U i6 sw,U i6 tp,U i6 lf,U i6 bt,U i6 rt,Sl wa lw wc,Sl ba lb bc,U i6 sm,U i6 ss,U i6 um,U i6 us,U i6 z,U i6 p,U i6 lo,U i6 hi,U i6 h,U i6 w,U i6 c,U i6 H,U i6 V,U i6 C] 137 (0,0))) (zs:List Int) (hZ:IRow .i16 W wa lw wc zs) (s:Sit 1 kh kw sh sw tp lf bt rt h w c H V C lw lb) (ch at' t u:Int) (hch:1≤ch∧ch≤C) (st:Nat) (hst:stR 1 kh kw h w c=(st:Int)) :
  Calls Tryz.prog 73 #[.pointer (some ⟨r,0,none⟩),U i6 ch,U i6 at'] W fun e w'=>(∃ v,e=.returned v∧OTm w' W.heap.size v (tmL 1 c ch h w kw t u st zs st))∧Below W.heap.size W w':=by
 obtain⟨i0,hi0,hz0,hz1,hz2⟩:=info_parts Tryz.infoT
 have hL:Hid (∀ w',Below W.heap.size W w'→Calls Tryz.prog 94 #[.pointer (some ⟨r,0,none⟩)] w' fun e w''=>e=.returned (U i6 st)∧∃ m,w''=w'.drewN m):=fun w' hb=>by rw [← hst];exact tlen_any 1 a b m kh kw sh sw tp lf bt rt wa lw wc ba lb bc sm ss um us z p lo hi h w c H V C r w' ((hb.block r (lt_of_heap hr)).trans hr) s
 have hlen:st≤512:=by have:=s.2.2.2.2.2.2.2.2.2;rw [hst] at this;omega
 have hrc:Hid (∀ w',Below W.heap.size W w'→∀ i,w'.cell? ⟨r,i,none⟩=(#[U i6 1,U i6 a,U i6 b,U i6 m,U i6 kh,U i6 kw,U i6 sh,U i6 sw,U i6 tp,U i6 lf,U i6 bt,U i6 rt,Sl wa lw wc,Sl ba lb bc,U i6 sm,U i6 ss,U i6 um,U i6 us,U i6 z,U i6 p,U i6 lo,U i6 hi,U i6 h,U i6 w,U i6 c,U i6 H,U i6 V,U i6 C]:Array Value)[i]?):=fun w' hb=>(cells_at ((hb.block r (lt_of_heap hr)).trans hr)).1
 have hrz:r<W.heap.size:=lt_of_heap hr
 have hWg:Hid (∀ (w':World) (i:Nat),i<st→Below W.heap.size W w'→Calls Tryz.prog 95 #[.pointer (some ⟨r,0,none⟩),U i6 ch,U i6 i] w' fun e w''=>e=.returned (U i6 (wgA 1 ch st zs i))∧∃ n,w''=w'.drewN n):=fun w' i hj hb=>by
  have:=twei_any 1 a b m kh kw sh sw tp lf bt rt wa lw wc ba lb bc sm ss um us z p lo hi h w c H V C r w' ((hb.block r hrz).trans hr) zs (hZ.below hb) s ch hch i (by rw [hst];omega)
  rw [hst] at this
  exact this
 have hmx:Tryz.prog.follows .mixedOrders=true:=by kernel_rfl
 clear hst s hZ
 have s0:=((St.start W).new (c:=#[.pointer (some ⟨r,0,none⟩)]) (t:=159)).new (c:=#[U i6 ch]) (t:=3)
 refine (callsIn_wide (n:=3)).1 ?_
 refine callsIn_of_wp_marks Tryz.func73 rfl trivial ?_ rfl
 simp only [Tryz.ntmps73,List.size_toArray,List.length_cons,List.length_nil,Nat.reduceAdd,Nat.reduceSub,Array.replicate_succ,Array.replicate_zero,List.push_toArray,List.append_toArray,List.nil_append,List.cons_append]
 refine wpIn_wide.2 ?_
 go_wp2_with fail
 refine (hL.out _ s0.below).mono ?_
 rintro e w1 ⟨rfl,m,rfl⟩
 have s1:=s0.call (dbel _ m)
 obtain⟨w1,hw1⟩:∃ w1,((W.alloc (.cells #[.pointer (some ⟨r,0,none⟩)] 159)).alloc (.cells #[U i6 ch] 3)).drewN m=w1:=⟨_,rfl⟩
 rw [hw1] at s1 ⊢
 have hz:W.heap.size+1+1=w1.heap.size:=by rw [← hw1];simp
 clear hw1
 simp only [World.size_alloc] at s1
 obtain⟨c1,f1,z1,c2,f2,z2,-⟩:=s1.rules
 go_wp2_with (at_make;refine wpList_make_own _ rfl _ _ 88 rfl w1.heap.size 91 i0 (.agg #[U i6 0,U i6 0]) 2 Tryz.underlying88 hi0 hz0 hz1 .i64 .i64 _ st rfl rfl rfl (by rw [hz2];omega) (by unfold maxLen;omega) (by omega) ?_;intro w2 own2 gr2;have s2:=s1.call ((Below.refl w1.heap.size w1).grown gr2 (Nat.le_refl _) (fun b hb=>by cases hb));obtain⟨c1',f1',z1',c2',f2',z2',-⟩:=s2.rules;have hq:=hrc.out _ s2.below;have zr:=Nat.lt_of_lt_of_le hrz s2.below.size)
 refine (hL.out _ (s2.skip _).below).mono ?_
 rintro e w3 ⟨rfl,m',rfl⟩
 have b3:Boxed (w2.alloc (.cells #[Sl (some ⟨w1.heap.size,0,none⟩) 0 st] 88)) w2.heap.size 88 (.slice (some ⟨w1.heap.size,0,none⟩) 0 st):=heap_alloc_new w2 _
 have o3:OTm (w2.alloc (.cells #[Sl (some ⟨w1.heap.size,0,none⟩) 0 st] 88)) w1.heap.size (.slice (some ⟨w1.heap.size,0,none⟩) 0 st) []:=OTm.below (show OTm w2 w1.heap.size (.slice (some ⟨w1.heap.size,0,none⟩) 0 st) [] from own2) (bal _ _)
 have p3:Boxed (w2.alloc (.cells #[Sl (some ⟨w1.heap.size,0,none⟩) 0 st] 88)) W.heap.size 159 (.pointer (some ⟨r,0,none⟩)):=boxed_below s2.h2 (bal _ _)
 have q3:Boxed (w2.alloc (.cells #[Sl (some ⟨w1.heap.size,0,none⟩) 0 st] 88)) (W.heap.size+1) 3 (U i6 ch):=boxed_below s2.h1 (bal _ _)
 have d3:=(s2.skip (.cells #[Sl (some ⟨w1.heap.size,0,none⟩) 0 st] 88)).below
 have e3:=dbel (w2.alloc (.cells #[Sl (some ⟨w1.heap.size,0,none⟩) 0 st] 88)) m'
 have b4:=boxed_below b3 e3
 have o4:=o3.below e3
 have p4:=boxed_below p3 e3
 have q4:=boxed_below q3 e3
 have d4:=d3.trans (e3.mono d3.size)
 obtain⟨w4,hw4⟩:∃ w4,(w2.alloc (.cells #[Sl (some ⟨w1.heap.size,0,none⟩) 0 st] 88)).drewN m'=w4:=⟨_,rfl⟩
 rw [hw4] at b4 o4 p4 q4 d4 ⊢
 have hz2':w2.heap.size<w4.heap.size:=by rw [← hw4];simp
 have gz:=gr2.size
 have hg12:w1.heap.size<w2.heap.size:=(World.ownsRow.lt own2 w1.heap.size rfl).2
 have B4:Hid (Boxed _ _ _ _):=b4
 have O4:Hid (OTm _ _ _ _):=o4
 have P4:Hid (Boxed _ _ _ _):=p4
 have Q4:Hid (Boxed _ _ _ _):=q4
 have D4:Hid (Below _ _ _):=d4
 clear hw4 b3 o3 p3 q3 d3 e3 own2 gr2 s0 s1 s2 c1 f1 c1' f1' c2 f2 c2' f2' hq b4 o4 p4 q4 d4 z1 z1' z2 z2'
 go_wp2
 go_loopw [25] (fun i wr=>∃ y:Nat,y≤st∧i=U i6 y∧∃ v,Boxed wr w2.heap.size 88 v∧OTm wr w1.heap.size v (tmL 1 c ch h w kw t u st zs y)∧Boxed wr W.heap.size 159 (.pointer (some ⟨r,0,none⟩))∧Boxed wr (W.heap.size+1) 3 (U i6 ch)∧Below W.heap.size W wr∧w4.heap.size≤wr.heap.size) (fun i _=>st-(intOf i).toNat)
 case atStart=>exact⟨0,Nat.zero_le _,rfl,_,B4.out,O4.out,P4.out,Q4.out,D4.out,Nat.le_refl _⟩
 case round =>
  obtain⟨y,hy,rfl,v,hv,hown,hp,hq,hb,hwz⟩:=hrel
  obtain⟨a',cap,rfl⟩:=hown.slice
  rw [tmL_len] at hv hown
  have hbs:=hb.size
  have HS:Hid (tmL 1 c ch h w kw t u st zs (y+1)=tmL 1 c ch h w kw t u st zs y++[(wgA 1 ch st zs y,(y:Int))]):=tmL_succ _ _ _ _ _ _ _ _ _ _ _
  have HL:Hid ((tmL 1 c ch h w kw t u st zs y).length+1≤10000000):=by unfold Hid;rw [tmL_len];omega
  clear B4 O4 P4 Q4 D4
  by_cases hlt:y<st
  ·obtain⟨wd,hwd⟩:∃ wd,wr.drew=wd:=⟨_,rfl⟩
   have hdd:Below wr.heap.size wr wd:=by rw [← hwd];exact (Below.refl _ _).drew
   have hBd:Hid (∀ w',Below wd.heap.size wd w'→Boxed w' w2.heap.size 88 (.slice a' y cap)∧Boxed w' W.heap.size 159 (.pointer (some ⟨r,0,none⟩))∧Boxed w' (W.heap.size+1) 3 (U i6 ch)):=fun w' hb'=>⟨boxed_below (boxed_below hv hdd) hb',boxed_below (boxed_below hp hdd) hb',boxed_below (boxed_below hq hdd) hb'⟩
   have hOd:Hid (OTm wd _ _ _):=hown.below hdd
   have hWd:Hid (Below W.heap.size W wd):=hb.trans (hdd.mono hbs)
   have hzd:w4.heap.size≤wd.heap.size:=Nat.le_trans hwz hdd.size
   go_upto_region 6 with fail
   refine regionLM (Cl [4,6,8] fun w'=>Boxed w' w2.heap.size 88 (.slice a' y cap)∧Boxed w' W.heap.size 159 (.pointer (some ⟨r,0,none⟩))∧Boxed w' (W.heap.size+1) 3 (U i6 ch)) (fun a0 a1 w'=>∃ (v':Value) (g5:Nat),a1=((((((((a0.put (some 28) (.slice a' y cap)).put (some 29) (.pointer (some ⟨r,0,none⟩))).put (some 30) (U i6 ch)).put (some 31) (U i6 y)).put (some 33) (U i6 y)).put (some 32) (U i6 (wgA 1 ch st zs y))).put (some 34) (.agg #[U i6 (wgA 1 ch st zs y),U i6 y])).put (some 35) (.slice (some ⟨g5,0,none⟩) 1 1)).put (some 36) v'∧Boxed w' w2.heap.size 88 v'∧OTm w' w1.heap.size v' (tmL 1 c ch h w kw t u st zs (y+1))∧Boxed w' W.heap.size 159 (.pointer (some ⟨r,0,none⟩))∧Boxed w' (W.heap.size+1) 3 (U i6 ch)∧Below W.heap.size W w'∧w4.heap.size≤w'.heap.size) hmx ?_ ?_
   rotate_left
   ·rintro _ w7 ⟨v',g5,rfl,R7⟩
    have R8:Hid (_∧_):=R7
    clear R7 hBd hOd hWd hv hown hp hq hb hdd hwd hzd hL hWg hrc
    go_wp2
    go_roundw
    case rel=>exact⟨y+1,by omega,by go_num,v',R8.out⟩
    case measure=>simp [intOf];omega
   rw [hwd]
   clear hv hown hp hq hb hdd hwd
   refine takeG 0 8 (v:=.slice a' y cap) rfl rfl (by kernel_rfl) (by kernel_rfl) (by kernel_rfl) (by kernel_rfl) (by kernel_rfl) rfl rfl (fun _ _ _ h=>h) (fun _=>rfl) rfl (fun w' hw'=>by have:=hw'.1.cell;go_simp) ?_
   refine takeG 1 4 (v:=.pointer (some ⟨r,0,none⟩)) rfl rfl (by kernel_rfl) (by kernel_rfl) (by kernel_rfl) (by kernel_rfl) (by kernel_rfl) rfl rfl (fun _ _ _ h=>h) (fun _=>rfl) rfl (fun w' hw'=>by have:=hw'.2.1.cell;go_simp) ?_
   refine takeG 2 4 (v:=U i6 ch) rfl rfl (by kernel_rfl) (by kernel_rfl) (by kernel_rfl) (by kernel_rfl) (by kernel_rfl) rfl rfl (fun _ _ _ h=>h) (fun _=>rfl) rfl (fun w' hw'=>by have:=hw'.2.2.cell;go_simp) ?_
   refine takeG 3 4 (v:=U i6 y) rfl rfl (by kernel_rfl) (by kernel_rfl) (by kernel_rfl) (by kernel_rfl) (by kernel_rfl) rfl rfl (fun _ _ _ h=>h) (fun _=>rfl) rfl (fun w' hw'=>by go_simp) ?_
   refine takeG 5 6 (v:=U i6 y) rfl rfl (by kernel_rfl) (by kernel_rfl) (by kernel_rfl) (by kernel_rfl) (by kernel_rfl) rfl rfl (fun _ _ _ h=>h) (fun _=>rfl) rfl (fun w' hw'=>by go_simp) ?_
   refine lK 4 (Cl.of (hBd.out wd (Below.refl _ _))) (by kernel_rfl) rfl rfl 95 #[.pointer (some ⟨r,0,none⟩),U i6 ch,U i6 y] (by kernel_rfl) (hWg.out wd y hlt hWd.out) ?_
   rintro e w5 ⟨rfl,n5,hw5⟩
   refine⟨_,rfl,?_⟩
   have h5:Below wd.heap.size wd w5:=by rw [hw5];exact dbel _ _
   have hB5:=hBd.out w5 h5
   have hO5:=hOd.out.below h5
   have hW5:=hWd.out.trans (h5.mono hWd.out.size)
   have hz5:=Nat.le_trans hzd h5.size
   refine lR 6 (Cl.of hB5) (by kernel_rfl) rfl rfl (.agg #[U i6 (wgA 1 ch st zs y),U i6 y]) w5 (by go_simp) ?_
   refine lR 7 (Cl.of hB5) (by kernel_rfl) rfl rfl (.slice (some ⟨w5.heap.size,0,none⟩) 1 1) (w5.alloc (.cells #[U i6 (wgA 1 ch st zs y),U i6 y] 91)) (by go_simp) ?_
   refine lA 8 (Cl.of (hBd.out _ (h5.trans ((bal w5 _).mono h5.size)))) (by kernel_rfl) rfl rfl (.tmp 28) (.tmp 35) rfl w1.heap.size (.slice a' y cap) (tmL 1 c ch h w kw t u st zs y) (by kernel_rfl) (hO5.below (bal _ _)) w5.heap.size (wgA 1 ch st zs y) y (by kernel_rfl) (term_one w5 _ _) HL.out (by simp;omega) ?_
   intro v' w6 own' gr' hat'
   obtain⟨a6,cap6,rfl⟩:=own'.slice
   obtain⟨n6,hn6⟩:∃ n,(tmL 1 c ch h w kw t u st zs y++[(wgA 1 ch st zs y,(y:Int))]).length=n:=⟨_,rfl⟩
   rw [hn6] at own' hat' ⊢
   obtain⟨q1,q2,q3,q4,q5,-⟩:=app_box (n0:=W.heap.size) hB5.1 hO5 ⟨by omega,by omega,hW5.size⟩ own' gr'
   have hc7:=q1.cell
   have hf7:=q1.frozen
   refine lT 9 (Cl.all (by kernel_rfl)) (by kernel_rfl) rfl rfl (w6.setCell ⟨w2.heap.size,0,none⟩ (.slice a6 n6 cap6)) (by go_simp) ?_
   refine doneL (Cl.all (by kernel_rfl)) (by kernel_rfl) ?_ _
   exact⟨_,w5.heap.size,by kernel_rfl,q2,by rw [HS.out];exact q3,q4 _ _ _ hB5.2.1 (by omega) (by decide),q4 _ _ _ hB5.2.2 (by omega) (by decide),hW5.trans q5,Nat.le_trans hz5 q5.size⟩
  ·obtain rfl:y=st:=by omega
   have hc:=hv.cell
   go_wp2
   exact⟨.slice a' y cap,by simp [results,Tryz.f73,go_sem],⟨_,rfl,by have:=hown.base (show W.heap.size≤w1.heap.size by omega);exact this⟩,hb⟩
attribute [local go_sem] Oper.semAt_some
def covW (C p c:Int):Int:=if p = -1 then -1 else wrap64 (wrap64 (p*C)+c)
theorem covW_eq {C p c:Int} (hq:-1≤p∧p≤16384) (hd:0≤c∧c≤1024) (hc:1≤C∧C≤1024):covW C p c=cov C p c:=by
 unfold covW cov
 by_cases q1:p = -1
 ·rw [if_pos q1,if_pos q1]
 ·rw [if_neg q1,if_neg q1]
  have p1:0≤p*C:=Int.mul_nonneg (by omega) (by omega)
  have p2:p*C≤16384*1024:=Int.mul_le_mul hq.2 hc.2 (by omega) (by omega)
  have e1:wrap64 (p*C)=p*C:=by unfold wrap64;omega
  rw [e1]
  unfold wrap64
  omega
theorem tplaceW_any (k a b m kh kw sh sw tp lf bt rt:Int) (wa:Option Addr) (lw wc:Nat) (ba:Option Addr) (lb bc:Nat) (sm ss um us z p lo hi h w c H V C:Int) (r:Nat) (W:World) (hr:W.heap[r]? = some (.cells #[U i6 k,U i6 a,U i6 b,U i6 m,U i6 kh,U i6 kw,U i6 sh,U i6 sw,U i6 tp,U i6 lf,U i6 bt,U i6 rt,Sl wa lw wc,Sl ba lb bc,U i6 sm,U i6 ss,U i6 um,U i6 us,U i6 z,U i6 p,U i6 lo,U i6 hi,U i6 h,U i6 w,U i6 c,U i6 H,U i6 V,U i6 C] 137 (0,0))) (q d:Int) :
  Calls Tryz.prog 98 #[.pointer (some ⟨r,0,none⟩),U i6 q,U i6 d] W fun e w'=>e=.returned (U i6 (covW c q d))∧w'=W:=by
 obtain⟨y1,y2,y3⟩:=cells_at hr
 clear hr
 by_cases q1:q = -1
 ·subst q1
  rw [show covW c (-1) d = -1 from if_pos rfl]
  go_enter Tryz.func98,Tryz.ntmps98
  go_wp2
  go_ret
  exact⟨rfl,rfl⟩
 ·rw [show covW c q d=wrap64 (wrap64 (q*c)+d) from if_neg q1]
  have q1':(q == -1)=false:=by simp [q1]
  go_enter Tryz.func98,Tryz.ntmps98
  go_wp2
  go_ret
  exact⟨rfl,rfl⟩
def QI (lo' hi' base Bx B3 B9 B10 r:Nat) (ch F G:Int) (w5 W:World) (l:List (Int×Int)) (W':World):Prop :=
 ∃ v,Boxed W' Bx 88 v∧OTm W' base v l∧(∀ b,v.ownBlock=some b→b<Bx∨hi'≤b)∧Boxed W' B3 159 (.pointer (some ⟨r,0,none⟩))∧Boxed W' (B3+1) 3 (U i6 ch)∧Boxed W' B9 3 (U i6 F)∧Boxed W' B10 3 (U i6 G)∧Mid lo' hi' w5 W'∧Below W.heap.size W W'∧hi'≤W'.heap.size
theorem boxed_turn {W W':World} {B:Nat} {t:TypeId} {v:Value} {row:Option Nat} (h:Boxed W B t v) (k:W.grownBy W' row) (hr:∀ r,row=some r→∃ o:Obj,W.heap[r]? = some o∧o.isCells=false):Boxed W' B t v :=
 Go.Boxed.kept h k fun e=>by
  obtain⟨o,ho,hn⟩:=hr B e.symm
  rw [show W.heap[B]? = _ from h] at ho;cases ho;cases hn
theorem QI.turn {lo' hi' base Bx B3 B9 B10 r:Nat} {ch F G:Int} {w5 W:World} {l:List (Int×Int)} {W1 W2:World} {row:Option Nat} (h:QI lo' hi' base Bx B3 B9 B10 r ch F G w5 W l W1) (k:W1.grownBy W2 row) (hz:W.heap.size≤hi') (hr:∀ q,row=some q→hi'≤q∧∃ o:Obj,W1.heap[q]? = some o∧o.isCells=false):QI lo' hi' base Bx B3 B9 B10 r ch F G w5 W l W2:=by
 obtain⟨v,a1,a2,a3,a4,a4',a5,a6,a7,a8,a9⟩:=h
 have hn:∀ q,row=some q→∃ o:Obj,W1.heap[q]? = some o∧o.isCells=false:=fun q e=>(hr q e).2
 refine⟨v,boxed_turn a1 k hn,World.ownsRow.kept a2 k ?_,a3,boxed_turn a4 k hn,boxed_turn a4' k hn,boxed_turn a5 k hn,boxed_turn a6 k hn,a7.trans (Mid.grown k fun b e=>.inr (hr b e).1),a8.grown k a8.size (fun b e=>Nat.le_trans hz (hr b e).1),Nat.le_trans a9 k.size⟩
 rcases a2.2 with ⟨rfl,_⟩ | ⟨g,cap,cur,rfl,_,hb,_⟩
 ·exact .inl rfl
 ·refine .inr fun e=>?_
  obtain⟨o,ho,hn'⟩:=hn g (by rw [← e];rfl)
  rw [hb] at ho;cases ho;cases hn'
theorem QI.app {lo' hi' base Bx B3 B9 B10 r:Nat} {ch F G:Int} {z:Int×Int} {w5 W:World} {l:List (Int×Int)} {W1 w1:World} {v v':Value} {tmp:Obj}
  (a1:Boxed W1 Bx 88 v) (a2:OTm W1 base v l) (a3:∀ b,v.ownBlock=some b→b<Bx∨hi'≤b) (a4:Boxed W1 B3 159 (.pointer (some ⟨r,0,none⟩))) (a4':Boxed W1 (B3+1) 3 (U i6 ch)) (a5:Boxed W1 B9 3 (U i6 F)) (a6:Boxed W1 B10 3 (U i6 G)) (a7:Mid lo' hi' w5 W1) (a8:Below W.heap.size W W1) (a9:hi'≤W1.heap.size)
  (hB:W.heap.size≤base∧base≤Bx∧B3+1<base∧Bx<B9∧Bx<B10∧B9<lo'∧B10<lo'∧lo'≤hi') (own':OTm w1 base v' (l++[z])) (gr:(W1.alloc tmp).grownBy w1 v.ownBlock) (hat:v'.ownBlock=v.ownBlock∨v'.ownBlock=some (W1.alloc tmp).heap.size) :
  Boxed w1 Bx 88 v∧KeepsOthers W1 (w1.setCell ⟨Bx,0,none⟩ v')∧Mid lo' hi' W1 (w1.setCell ⟨Bx,0,none⟩ v')∧QI lo' hi' base Bx B3 B9 B10 r ch F G w5 W (l++[z]) (w1.setCell ⟨Bx,0,none⟩ v'):=by
 have hrow:∀ b,v.ownBlock=some b→base≤b:=fun b e=>a2.lt b e
 have hne:∀ b t u,Boxed W1 b t u→b≠Bx→v.ownBlock≠some b→Boxed (w1.setCell ⟨Bx,0,none⟩ v') b t u:=fun b t u hb h1 h2=>((hb.alloc tmp).kept gr (fun e=>h2 e.symm)).other h1 v'
 have hv1:Boxed w1 Bx 88 v:=(a1.alloc tmp).kept gr (a1.not_row (by decide) a2)
 have hrb:v.ownBlock≠some Bx:=fun e=>(a1.not_row (by decide) a2) e.symm
 have hm:Mid lo' hi' W1 (w1.setCell ⟨Bx,0,none⟩ v'):=((Mid.later ((Below.refl _ W1).alloc (Nat.le_refl _) tmp)).trans (Mid.grown gr fun b e=>by have:=a3 b e;omega)).trans (Mid.set _ (by omega))
 have hb:Below W.heap.size W1 (w1.setCell ⟨Bx,0,none⟩ v'):=(((Below.refl W.heap.size W1).alloc a8.size tmp).grown gr (by have:=a8.size;simp;omega) fun j ej=>(by have:=hrow j ej;omega)).setCell (p:=⟨Bx,0,none⟩) (by show W.heap.size≤Bx;omega) v'
 refine⟨hv1,?_,hm,v',hv1.set v',World.ownsRow.kept own' (grownBy_setCell' w1 Bx v') (.inr (hv1.not_row (by decide) own').symm),fun b e=>?_,hne _ _ _ a4 (by omega) (fun e=>by have:=hrow _ e;omega),hne _ _ _ a4' (by omega) (fun e=>by have:=hrow _ e;omega),hne _ _ _ a5 (by omega) (fun e=>by have:=a3 _ e;omega),hne _ _ _ a6 (by omega) (fun e=>by have:=a3 _ e;omega),a7.trans hm,a8.trans hb,Nat.le_trans a9 hb.size⟩
 ·refine ((KeepsOthers.alloc W1 tmp).trans (KeepsOthers.of_grownBy gr fun j o ej hj=>?_)).trans (KeepsOthers.setCell _ _ _)
  have a2':OTm (W1.alloc tmp) base v l:=a2.below (bal _ _)
  rcases a2'.2 with ⟨rfl,_⟩ | ⟨g,cap,cur,rfl,_,hgb,_⟩
  ·simp [Value.ownBlock] at ej
  ·obtain rfl:g=j:=by simpa [Value.ownBlock] using ej
   rw [hgb] at hj;cases hj;rfl
 ·rcases hat with h | h
  ·exact a3 b (by rw [← h];exact e)
  ·rw [h,World.size_alloc] at e
   have:=Option.some.inj e
   omega
def pfl (nC:Nat) (c F:Int) (l:List (Int×Int)):List Int:=l.flatMap fun p=>(List.range nC).map fun (j:Nat)=>covW c p.2 (F+j)
theorem pfl_len (nC:Nat) (c F:Int) (l:List (Int×Int)):(pfl nC c F l).length=l.length*nC:=by
 induction l with
 | nil=>simp [pfl]
 | cons x l ih=>simp [pfl] at ih ⊢;rw [ih,Nat.add_mul];omega
theorem pfl_snoc (nC:Nat) (c F:Int) (l:List (Int×Int)) (x:Int×Int):pfl nC c F (l++[x])=pfl nC c F l++(List.range nC).map fun (j:Nat)=>covW c x.2 (F+j):=by simp [pfl]
theorem plA_at {k c ch h w kw t u:Int} {nC q j:Nat} (hk:k≠1) (hn:(nC:Int)=chB k c ch-chF k ch) (hj:j<nC):plA k c ch h w kw t u ((q*nC+j:Nat):Int)=cov c (tpc h w kw t u (q:Int)) (chF k ch+(j:Int)):=by
 have e:=spot_at (y:=q) hj
 simp only [Prod.mk.injEq] at e
 obtain⟨e1,e2⟩:=e
 unfold plA
 rw [if_neg hk]
 by_cases k2:k=2
 ·rw [if_pos k2]
  have h1:chF k ch=0:=if_pos k2
  have h2:chB k c ch=c:=if_pos k2
  rw [h1,h2] at hn
  have hc:c=(nC:Int):=by omega
  rw [h1,hc,e1,e2,Int.zero_add]
 ·rw [if_neg k2]
  have h1:chF k ch=ch-1:=if_neg k2
  have h2:chB k c ch=ch:=if_neg k2
  rw [h1,h2] at hn
  obtain rfl:nC=1:=by omega
  obtain rfl:j=0:=by omega
  rw [h1]
  simp
theorem plc_bd {h w y x:Int} (hh:1≤h∧h≤1024) (hw:1≤w∧w≤1024) (hm:h*w≤16384):-1≤plc h w y x∧plc h w y x≤16384:=by
 by_cases q:(0≤y∧y<h)∧(0≤x∧x<w)
 ·rw [plc_in q]
  have:=rowbd q.1.2 q.1.1 q.2.1 q.2.2
  omega
 ·rw [plc_out q];omega
theorem pfl_tap {k c ch h w kw t u:Int} {nC:Nat} (hk:k≠1) (hn:(nC:Int)=chB k c ch-chF k ch) (hF:0≤chF k ch) (hB:chB k c ch≤1024) (hc:1≤c∧c≤1024) (hh:1≤h∧h≤1024) (hw:1≤w∧w≤1024) (hm:h*w≤16384) :
  ∀ N:Nat,pfl nC c (chF k ch) (tapL h w kw t u N)=plL k c ch h w kw t u (N*nC)
 | 0=>by simp [pfl,plL,tapL]
 | N+1=>by
  rw [tapL_succ,pfl_snoc,pfl_tap hk hn hF hB hc hh hw hm N]
  have g:∀ j,j≤nC→plL k c ch h w kw t u (N*nC+j)=plL k c ch h w kw t u (N*nC)++(List.range j).map fun (i:Nat)=>covW c (tap h w kw t u N).2 (chF k ch+i):=by
   intro j
   induction j with
   | zero=>intro _;simp
   | succ j ih =>
    intro hj
    rw [← Nat.add_assoc,plL_succ,ih (by omega),List.range_succ,List.map_append,← List.append_assoc,plA_at hk hn (by omega)]
    rw [show (List.map (fun (i:Nat)=>covW c (tap h w kw t u N).2 (chF k ch+i)) [j])=[covW c (tap h w kw t u N).2 (chF k ch+j)] from rfl]
    rw [covW_eq (p:=(tap h w kw t u N).2) (plc_bd hh hw hm) (by omega) hc]
    rfl
  rw [← g nC (Nat.le_refl _),Nat.add_mul,Nat.one_mul]
def wz (f:Nat→Int) (l:List Int):List (Int×Int):=l.mapIdx fun i z=>(f i,z)
theorem wz_snoc (f:Nat→Int) (l:List Int) (z:Int):wz f (l++[z])=wz f l++[(f l.length,z)]:=by simp [wz]
theorem wz_len (f:Nat→Int) (l:List Int):(wz f l).length=l.length:=by simp [wz]
theorem wz_plL (k c ch h w kw t u st:Int) (ws:List Int):∀ n:Nat,wz (fun i=>wgA k ch st ws i) (plL k c ch h w kw t u n)=tmL k c ch h w kw t u st ws n
 | 0=>by simp [wz,plL,tmL]
 | n+1=>by rw [plL_succ,wz_snoc,wz_plL k c ch h w kw t u st ws n,tmL_succ,plL_len]
theorem terms_w (k a b m kh kw sh sw tp lf bt rt:Int) (wa:Option Addr) (lw wc:Nat) (ba:Option Addr) (lb bc:Nat) (sm ss um us z p lo hi h w c H V C:Int) (r:Nat) (W:World) (hr:W.heap[r]? = some (.cells #[U i6 k,U i6 a,U i6 b,U i6 m,U i6 kh,U i6 kw,U i6 sh,U i6 sw,U i6 tp,U i6 lf,U i6 bt,U i6 rt,Sl wa lw wc,Sl ba lb bc,U i6 sm,U i6 ss,U i6 um,U i6 us,U i6 z,U i6 p,U i6 lo,U i6 hi,U i6 h,U i6 w,U i6 c,U i6 H,U i6 V,U i6 C] 137 (0,0))) (ws:List Int) (hZ:IRow .i16 W wa lw wc ws) (s:Sit k kh kw sh sw tp lf bt rt h w c H V C lw lb) (k1:k≠1) (ch at':Int) (hch:1≤ch∧ch≤C) (hat:0≤at'∧at'<H*V) (st:Nat) (hst:stR k kh kw h w c=(st:Int)) :
  Calls Tryz.prog 73 #[.pointer (some ⟨r,0,none⟩),U i6 ch,U i6 at'] W fun e w'=>(∃ v,e=.returned v∧OTm w' W.heap.size v (tmL k c ch h w kw (coR h w c kh kw sh sw tp lf bt rt at').1 (coR h w c kh kw sh sw tp lf bt rt at').2.1 st ws st))∧Below W.heap.size W w':=by
 obtain⟨i0,hi0,hz0,hz1,hz2⟩:=info_parts Tryz.infoT
 have hlen:st≤512:=by have:=s.2.2.2.2.2.2.2.2.2;rw [hst] at this;omega
 have hrz:r<W.heap.size:=lt_of_heap hr
 have hbk:Hid (∀ w',Below W.heap.size W w'→w'.heap[r]? = some (.cells #[U i6 k,U i6 a,U i6 b,U i6 m,U i6 kh,U i6 kw,U i6 sh,U i6 sw,U i6 tp,U i6 lf,U i6 bt,U i6 rt,Sl wa lw wc,Sl ba lb bc,U i6 sm,U i6 ss,U i6 um,U i6 us,U i6 z,U i6 p,U i6 lo,U i6 hi,U i6 h,U i6 w,U i6 c,U i6 H,U i6 V,U i6 C] 137 (0,0))):=fun w' hb=>(hb.block r hrz).trans hr
 have hL:Hid (∀ w',Below W.heap.size W w'→Calls Tryz.prog 94 #[.pointer (some ⟨r,0,none⟩)] w' fun e w''=>e=.returned (U i6 st)∧∃ m,w''=w'.drewN m):=fun w' hb=>by rw [← hst];exact tlen_any k a b m kh kw sh sw tp lf bt rt wa lw wc ba lb bc sm ss um us z p lo hi h w c H V C r w' (hbk.out w' hb) s
 have hWg:Hid (∀ (w':World) (i:Nat),i<st→Below W.heap.size W w'→Calls Tryz.prog 95 #[.pointer (some ⟨r,0,none⟩),U i6 ch,U i6 i] w' fun e w''=>e=.returned (U i6 (wgA k ch st ws i))∧∃ n,w''=w'.drewN n):=fun w' i hj hb=>by
  have:=twei_any k a b m kh kw sh sw tp lf bt rt wa lw wc ba lb bc sm ss um us z p lo hi h w c H V C r w' (hbk.out w' hb) ws (hZ.below hb) s ch hch i (by rw [hst];omega)
  rw [hst] at this
  exact this
 clear hZ
 obtain⟨hk,hvA,hvB,hou,-,hwn,-,h3c,-⟩:=s
 have hC1:=(vS_yes hvB).2.2.1
 have hc1:=(vS_yes hvA).2.2.1
 have hd1:=(vS_yes hvA).1
 have hw1:=(vS_yes hvA).2.1
 obtain⟨hk1,hk2⟩:=hwn (by omega)
 -- the channels
 have hF:0≤chF k ch:=by unfold chF; split<;>omega
 have hB0:chB k c ch≤1024:=by unfold chB; split<;>omega
 have hFB:chF k ch<chB k c ch:=by unfold chF chB; split<;>omega
 obtain⟨nC,hnC⟩:∃ nC:Nat,(nC:Int)=chB k c ch-chF k ch:=⟨(chB k c ch-chF k ch).toNat,by omega⟩
 have hR:Hid (∀ w',Below W.heap.size W w'→Calls Tryz.prog 96 #[.pointer (some ⟨r,0,none⟩),U i6 ch] w' fun e w''=>e=.returned (.tuple #[U i6 (chF k ch),U i6 (chB k c ch)])∧∃ m,w''=w'.drewN m):=fun w' hb=>tread_any k a b m kh kw sh sw tp lf bt rt wa lw wc ba lb bc sm ss um us z p lo hi h w c H V C r w' (hbk.out w' hb) ch (by omega)
 -- the taps
 rcases coR_cases h w c kh kw sh sw tp lf bt rt at' with ⟨e,he,h2⟩ | ⟨rr,qq,he,hf,hn,hcc⟩
 ·exfalso
  unfold coR at he
  rw [hou (by omega)] at he
  simp only at he
  rw [if_pos trivial,if_pos hat] at he
  simp at he
  omega
 have hcor:=cor_of hf hn
 have htp:tapsOf h w c kh kw sh sw tp lf bt rt at'=tapL h w kw (coR h w c kh kw sh sw tp lf bt rt at').1 (coR h w c kh kw sh sw tp lf bt rt at').2.1 (kh*kw).toNat:=by rw [tapsOf_ok hcc,hcc]
 obtain⟨t,ht⟩:∃ t,(coR h w c kh kw sh sw tp lf bt rt at').1=t:=⟨_,rfl⟩
 obtain⟨u,hu⟩:∃ u,(coR h w c kh kw sh sw tp lf bt rt at').2.1=u:=⟨_,rfl⟩
 rw [ht,hu] at htp ⊢
 obtain⟨N,hN⟩:∃ N:Nat,kh*kw=(N:Int):=⟨(kh*kw).toNat,by have:=(mul_bd hk1.1 hk1.2 hk2.1 hk2.2).1;omega⟩
 have hN2:N≤1024:=by have:=(mul_bd hk1.1 hk1.2 hk2.1 hk2.2).2;omega
 have hstN:st=N*nC:=by
  have e:stR k kh kw h w c=(N:Int)*nC:=by
   unfold stR
   rw [if_neg k1,hN,hnC]
   by_cases k2:k=2
   ·rw [if_pos k2,show chB k c ch=c from if_pos k2,show chF k ch=0 from if_pos k2,Int.sub_zero]
   ·rw [if_neg k2,if_pos (by omega),show chB k c ch=ch from if_neg k2,show chF k ch=ch-1 from if_neg k2,show ch-(ch-1)=1 by omega,Int.mul_one]
  rw [hst] at e
  exact_mod_cast e
 have htl:wz (fun i=>wgA k ch st ws i) (pfl nC c (chF k ch) (tapsOf h w c kh kw sh sw tp lf bt rt at'))=tmL k c ch h w kw t u st ws st:=by
  rw [← wz_plL k c ch h w kw t u st ws st,htp,hN,Int.toNat_natCast]
  have:=pfl_tap (k:=k) (c:=c) (ch:=ch) (h:=h) (w:=w) (kw:=kw) (t:=t) (u:=u) k1 hnC hF hB0 hc1 hd1 hw1 hcor.2.2.1 N
  rw [this,hstN]
 have hysl:(tapsOf h w c kh kw sh sw tp lf bt rt at').length*nC=st:=by
  rw [htp,hN,Int.toNat_natCast,hstN]
  simp [tapL]
 have hnC2:nC≤1024:=by omega
 obtain⟨ys,hys⟩:∃ ys,tapsOf h w c kh kw sh sw tp lf bt rt at'=ys:=⟨_,rfl⟩
 have HY:Hid (tapsOf h w c kh kw sh sw tp lf bt rt at'=ys):=hys
 have hyl:ys.length≤1024:=by have:=Nx.tapsOf_len h w c kh kw sh sw tp lf bt rt at';rw [hys] at this;exact this
 rw [hys] at htl hysl
 rw [← htl]
 obtain⟨wf,hwf⟩:∃ wf:Nat→Int,(fun i:Nat=>wgA k ch st ws i)=wf:=⟨_,rfl⟩
 have hWf:∀ i:Nat,wgA k ch st ws i=wf i:=fun i=>by rw [← hwf]
 simp only [hWf] at hWg ⊢
 obtain⟨F,hFe⟩:∃ F,chF k ch=F:=⟨_,rfl⟩
 obtain⟨G,hGe⟩:∃ G,chB k c ch=G:=⟨_,rfl⟩
 rw [hFe,hGe] at hR hnC hFB
 rw [hFe] at hF ⊢
 rw [hGe] at hB0
 have hPl:Hid (∀ (w':World) (q d:Int),Below W.heap.size W w'→Calls Tryz.prog 98 #[.pointer (some ⟨r,0,none⟩),U i6 q,U i6 d] w' fun e w''=>e=.returned (U i6 (covW c q d))∧w''=w'):=fun w' q d hb=>tplaceW_any k a b m kh kw sh sw tp lf bt rt wa lw wc ba lb bc sm ss um us z p lo hi h w c H V C r w' (hbk.out w' hb) q d
 have k1':(k == 1)=false:=by simp [k1]
 have hst5:st≤2000000:=by omega
 clear hst hvA hvB hou h3c he hf hn hcc hcor htp ht hu hN hN2 hstN htl hys hFe hGe hlen hwn hwf hWf
 have s0:=((St.start W).new (c:=#[.pointer (some ⟨r,0,none⟩)]) (t:=159)).new (c:=#[U i6 ch]) (t:=3)
 have hfn:∀ f,Fence.wide.fn f:=fun _=>trivial
 have hdp:Fence.wide.depth=none:=rfl
 refine (callsIn_wide (n:=3)).1 ?_
 refine callsIn_of_wp_marks Tryz.func73 rfl trivial ?_ rfl
 simp only [Tryz.ntmps73,List.size_toArray,List.length_cons,List.length_nil,Nat.reduceAdd,Nat.reduceSub,Array.replicate_succ,Array.replicate_zero,List.push_toArray,List.append_toArray,List.nil_append,List.cons_append]
 refine wpIn_wide.2 ?_
 go_wp2_with fail
 refine (hL.out _ s0.below).mono ?_
 rintro e w1 ⟨rfl,m,rfl⟩
 have s1:=s0.call (dbel _ m)
 obtain⟨w1,hw1⟩:∃ w1,((W.alloc (.cells #[.pointer (some ⟨r,0,none⟩)] 159)).alloc (.cells #[U i6 ch] 3)).drewN m=w1:=⟨_,rfl⟩
 rw [hw1] at s1 ⊢
 have hz:W.heap.size+1+1=w1.heap.size:=by rw [← hw1];simp
 clear hw1
 simp only [World.size_alloc] at s1
 obtain⟨c1,f1,z1,c2,f2,z2,-⟩:=s1.rules
 go_wp2_with (first
  | (at_make;refine wpList_make_own _ rfl _ _ 88 rfl w1.heap.size 91 i0 (.agg #[U i6 0,U i6 0]) 2 Tryz.underlying88 hi0 hz0 hz1 .i64 .i64 _ st rfl rfl rfl (by rw [hz2];omega) (by unfold maxLen;omega) (by omega) ?_;intro w2 own2 gr2;have s2:=s1.call ((Below.refl w1.heap.size w1).grown gr2 (Nat.le_refl _) (fun b hb=>by cases hb));obtain⟨c1',f1',z1',c2',f2',z2',-⟩:=s2.rules;have hq:=(cells_at (hbk.out _ s2.below)).1;have zr:=Nat.lt_of_lt_of_le hrz s2.below.size))
 refine (hR.out _ (s2.skip _).below).mono ?_
 rintro e w3 ⟨rfl,m',rfl⟩
 have s3:=((s2.new (c:=#[Sl (some ⟨w1.heap.size,0,none⟩) 0 st]) (t:=88)).call (dbel _ m'))
 have o3:OTm ((w2.alloc (.cells #[Sl (some ⟨w1.heap.size,0,none⟩) 0 st] 88)).drewN m') w1.heap.size (.slice (some ⟨w1.heap.size,0,none⟩) 0 st) []:=(OTm.below (show OTm w2 w1.heap.size (.slice (some ⟨w1.heap.size,0,none⟩) 0 st) [] from own2) (bal _ _)).below (dbel _ m')
 obtain⟨w3,hw3⟩:∃ w3,(w2.alloc (.cells #[Sl (some ⟨w1.heap.size,0,none⟩) 0 st] 88)).drewN m'=w3:=⟨_,rfl⟩
 rw [hw3] at s3 o3 ⊢
 have hz3:w3.heap.size=w2.heap.size+1:=by rw [← hw3];simp
 have gz:=gr2.size
 have hg12:w1.heap.size<w2.heap.size:=(World.ownsRow.lt own2 w1.heap.size rfl).2
 clear hw3 own2 gr2 c1 f1 c1' f1' c2 f2 c2' f2' hq z1 z1' z2 z2' s2 s1
 have s4:=(s3.new (c:=#[U i6 F]) (t:=3)).new (c:=#[U i6 G]) (t:=3)
 have o4:=(o3.below (bal _ (.cells #[U i6 F] 3))).below (bal _ (.cells #[U i6 G] 3))
 obtain⟨c1,f1,z1,c2,f2,z2,c3,f3,z3,-⟩:=s3.rules
 go_upto_region 10 with fail
 simp only [World.size_alloc] at s4
 obtain⟨w4,hw4⟩:∃ w4,(w3.alloc (.cells #[U i6 F] 3)).alloc (.cells #[U i6 G] 3)=w4:=⟨_,rfl⟩
 rw [hw4] at s4 o4 ⊢
 have hz4:w4.heap.size=w3.heap.size+1+1:=by rw [← hw4];simp
 clear hw4 c1 f1 c2 f2 c3 f3 z1 z2 z3 o3 s3
 have e2:=Wn.rule (s4.2 (W.heap.size,#[.pointer (some ⟨r,0,none⟩)],159) (by simp)).1
 have e3:=Wn.rule (hbk.out w4 s4.below)
 have hne:Nonempty (Wn w4):=⟨Wn.mk w4 (Below.refl _ _)⟩
 refine (wpIn_wide (n:=3)).1 ?_
 refine region_tail_at 10 (C:=fun w'=>∃ n:Wn w4,w'=n.w) rfl rfl (by kernel_rfl) (by kernel_rfl) ⟨Wn.mk _ (Below.refl _ _).drew,rfl⟩ ?_
 simp only [List.take_succ_cons,List.take_zero,List.drop_succ_cons,List.drop_zero]
 repeat (gi_big_quiet_step (fail))
 refine wpQuietIn_nil ?_
 rintro _ ⟨n,rfl⟩
 gi_wp2_with fail
 refine (callsIn_wide.2 (taps_any _ _ _ _ _ _ _ _ _ _ _ _ _)).mono ?_
 rintro e w5 ⟨⟨g,lb',rfl,hit⟩,hb5⟩
 rw [HY.out] at hit
 have s5:=(s4.call n.h).call hb5
 have o5:=(o4.below n.h).below hb5
 have hnz:=n.h.size
 have hb5z:=hb5.size
 gi_wp2
 obtain⟨lo',hlo⟩:∃ x,n.w.heap.size=x:=⟨_,rfl⟩
 obtain⟨hi',hhi⟩:∃ x,w5.heap.size=x:=⟨_,rfl⟩
 rw [hlo,hhi] at hit
 rw [hlo] at hnz
 rw [hlo,hhi] at hb5z
 obtain⟨g',lb2,hv,heg,hseq⟩:=hit
 obtain⟨rfl,rfl⟩:g=g'∧lb'=lb2:=by simpa using hv
 have hbl:W.heap.size≤w1.heap.size∧w1.heap.size≤w2.heap.size∧W.heap.size+1<w1.heap.size∧w2.heap.size<w2.heap.size+1∧w2.heap.size<w2.heap.size+1+1∧w2.heap.size+1<lo'∧w2.heap.size+1+1<lo'∧lo'≤hi':=by omega
 have I0:QI lo' hi' w1.heap.size w2.heap.size W.heap.size (w2.heap.size+1) (w2.heap.size+1+1) r ch F G w5 W (wz wf (pfl nC c F [])) w5 :=
  ⟨_,s5.h3,o5,fun b e=>by simp [Value.ownBlock] at e;omega,(s5.2 (W.heap.size,#[.pointer (some ⟨r,0,none⟩)],159) (by simp)).1,s5.h4,by rw [← hz3];exact s5.h2,by rw [← hz3];exact s5.h1,Mid.refl _ _ _,s5.below,by omega⟩
 have HI0:Hid (QI lo' hi' w1.heap.size w2.heap.size W.heap.size (w2.heap.size+1) (w2.heap.size+1+1) r ch F G w5 W (wz wf (pfl nC c F [])) w5):=I0
 clear s4 o4 s5 o5 e2 e3 hne I0 s0
 go_wp2
 refine (wpIn_wide (n:=3)).1 ?_
 refine wpIn_rangeFunc_ownG (F:=Fence.wide) rfl (by omega) (gf:=g) (lb:=lb') rfl trivial heg (hseq w5 _ (Mid.refl _ _ _)) (fun h k=>Mid.trans h k) (fun W l o o' _ h1 h2 _=>Mid.put W l o o' h1 h2) (Below.refl _ _) (fun _=>rfl)
  (fun (pre:List (Int×Int)) W'=>QI lo' hi' w1.heap.size w2.heap.size W.heap.size (w2.heap.size+1) (w2.heap.size+1+1) r ch F G w5 W (wz wf (pfl nC c F pre)) W')
  (fun _ _ _=>False)
  (by rw [hhi];exact fun pre W1 W2 row h k hr=>h.turn k (by omega) hr)
  (fun _ _ _ _ _ hs _ _=>hs)
  HI0.out ?a₁ ?assign ?body ?done ?stop
 case assign =>
  intro l x W' K hK
  gi_wp2
  exact hK
 case stop =>
  rintro D c pre W' _ _ h _
  exact h.elim
 case done =>
  rintro D zs W' hD rfl ⟨v,a1,a2,a3,a4,a4',a5,a6,a7,a8,a9⟩ hK
  obtain⟨a',cap,rfl⟩:=a2.slice
  have hc:=a1.cell
  go_wp2
  refine⟨by simp,.inl ⟨_,_,rfl,run_takeDeferred hK,?_⟩⟩
  refine⟨.slice a' (wz wf (pfl nC c F zs)).length cap,by simp [results,Tryz.f73,go_sem],⟨_,rfl,?_⟩,?_⟩
  ·exact OTm.base (ownsRow_putObj a2 _ hK rfl) (by omega)
  ·exact a8.trans (belowK_b (w:=W) (Nat.le_refl _) W' D _ _ (by omega) hK rfl rfl)
 case body =>
  rintro l pre x W' hQ hlt
  have Ha:Hid (QI lo' hi' w1.heap.size w2.heap.size W.heap.size (w2.heap.size+1) (w2.heap.size+1+1) r ch F G w5 W (wz wf (pfl nC c F pre)) W'):=hQ
  have hc9:Hid (Boxed W' (w2.heap.size+1) 3 (U i6 F)):=by obtain⟨v,a1,a2,a3,a4,a4',a5,-⟩:=hQ;exact a5
  have hc9':=hc9.out.cell
  have hLe:Hid (∀ j,(pfl nC c F pre++(List.range j).map fun (i:Nat)=>covW c x.2 (F+i)).length=pre.length*nC+j):=fun j=>by rw [List.length_append,pfl_len];simp
  have hbs:Hid (∀ j,j<nC→pre.length*nC+j<st):=fun j hj=>by
   have:=Nat.mul_le_mul_right nC (show pre.length+1≤ys.length by omega)
   rw [Nat.add_mul,hysl] at this
   omega
  have hbd:Hid (pre.length*nC≤1048576):=by unfold Hid;have:=Nat.mul_le_mul (show pre.length≤1024 by omega) hnC2;omega
  have hmx:Tryz.prog.follows .mixedOrders=true:=by kernel_rfl
  clear hQ HI0
  gi_wp2
  gi_loopw [13] (fun i wr=>∃ j:Nat,j≤nC∧i=U i6 (F+j)∧QI lo' hi' w1.heap.size w2.heap.size W.heap.size (w2.heap.size+1) (w2.heap.size+1+1) r ch F G w5 W (wz wf (pfl nC c F pre++(List.range j).map fun (i:Nat)=>covW c x.2 (F+i))) wr∧KeepsOthers W' wr∧Mid lo' hi' W' wr) (fun i _=>(G-intOf i).toNat)
  case atStart=>exact⟨0,Nat.zero_le _,by simp,by simpa using Ha.out,KeepsOthers.refl _,Mid.refl _ _ _⟩
  case round =>
   obtain⟨j,hj,rfl,⟨v,b1,b2,b3,b4,b4',b5,b6,b7,b8,b9⟩,hko,hmi⟩:=hrel
   obtain⟨LL,hLL⟩:∃ LL,(pfl nC c F pre++(List.range j).map fun (i:Nat)=>covW c x.2 (F+i))=LL:=⟨_,rfl⟩
   have HLL:Hid ((pfl nC c F pre++(List.range j).map fun (i:Nat)=>covW c x.2 (F+i))=LL):=hLL
   have HLn:Hid ((wz wf LL).length+1≤10000000):=by unfold Hid;rw [wz_len,← hLL,hLe.out];have:=hbd.out;omega
   have HLs:Hid (j<nC→LL.length<st):=fun q=>by rw [← hLL,hLe.out];exact hbs.out j q
   rw [hLL] at b2
   clear hLL
   obtain⟨a',cap,rfl⟩:=b2.slice
   rw [wz_len] at b1 b2 b3
   obtain⟨nL,hnL⟩:∃ nL,LL.length=nL:=⟨_,rfl⟩
   rw [hnL] at b1 b2 b3 HLs
   have HnL:Hid (LL.length=nL):=hnL
   clear hc9 hc9' hnL
   have hc6':=b6.cell
   have b8z:=b8.size
   by_cases hjn:j<nC
   ·have HS:Hid ((List.range (j+1)).map (fun (i:Nat)=>covW c x.2 (F+i))=(List.range j).map (fun (i:Nat)=>covW c x.2 (F+i))++[covW c x.2 (F+j)]):=by unfold Hid;rw [List.range_succ,List.map_append];rfl
    have B1:Hid (Boxed wr _ _ _):=b1
    have B2:Hid (OTm wr _ _ _):=b2
    have B3:Hid (∀ b,_→_):=b3
    have B4:Hid (Boxed wr _ _ _):=b4
    have B4':Hid (Boxed wr _ _ _):=b4'
    have B5:Hid (Boxed wr _ _ _):=b5
    have B6:Hid (Boxed wr _ _ _):=b6
    have B7:Hid (Mid _ _ _ _):=b7
    have B8:Hid (Below _ _ _):=b8
    clear b1 b2 b3 b4 b4' b5 b6 b7 b8
    gi_wp2
    have hls:=HLs.out hjn
    have hBz:w2.heap.size<wr.heap.size:=by omega
    refine regionLM_round (Cl [4,5,9,12] fun w'=>Boxed w' w2.heap.size 88 (.slice a' nL cap)∧Boxed w' W.heap.size 159 (.pointer (some ⟨r,0,none⟩))∧Boxed w' (W.heap.size+1) 3 (U i6 ch))
     (fun a0 a1 w'=>∃ (v':Value) (g5:Nat),a1=((((((((((((a0.put (some 64) (.slice a' nL cap)).put (some 65) (.pointer (some ⟨r,0,none⟩))).put (some 66) (U i6 ch)).put (some 67) (.slice a' nL cap)).put (some 70) (.pointer (some ⟨r,0,none⟩))).put (some 71) (U i6 x.2)).put (some 72) (U i6 (F+j))).put (some 68) (U i6 nL)).put (some 69) (U i6 (wf nL))).put (some 73) (U i6 (covW c x.2 (F+j)))).put (some 74) (.agg #[U i6 (wf nL),U i6 (covW c x.2 (F+j))])).put (some 75) (.slice (some ⟨g5,0,none⟩) 1 1)).put (some 76) v'∧KeepsOthers W' w'∧Mid lo' hi' W' w'∧QI lo' hi' w1.heap.size w2.heap.size W.heap.size (w2.heap.size+1) (w2.heap.size+1+1) r ch F G w5 W (wz wf LL++[(wf nL,covW c x.2 (F+j))]) w') (by kernel_rfl) hmx ?_ ?_
    rotate_left
    ·rintro _ w7 ⟨v',g5,rfl,r1,r2,r3⟩
     have R1:Hid (KeepsOthers W' w7):=r1
     have R2:Hid (Mid lo' hi' W' w7):=r2
     have R3:Hid (QI lo' hi' w1.heap.size w2.heap.size W.heap.size (w2.heap.size+1) (w2.heap.size+1+1) r ch F G w5 W (wz wf LL++[(wf nL,covW c x.2 (F+j))]) w7):=r3
     clear r1 r2 r3 B1 B2 B3 B4 B4' B5 B6 B7 B8 hko hmi hc6'
     gi_wp2
     go_roundw
     case rel=>exact⟨j+1,by omega,by go_num,by rw [HS.out,← List.append_assoc,HLL.out,wz_snoc,HnL.out];exact R3.out,R1.out,R2.out⟩
     case measure=>simp [intOf];omega
    obtain⟨wd,hwd⟩:∃ wd,wr.drew=wd:=⟨_,rfl⟩
    have hdd:Below wr.heap.size wr wd:=by rw [← hwd];exact (Below.refl _ _).drew
    have hkd:KeepsOthers W' wd:=by rw [← hwd];exact hko.trans (KeepsOthers.drew wr)
    rw [hwd]
    have hBd:Hid (∀ w',Below wr.heap.size wr w'→Boxed w' w2.heap.size 88 (.slice a' nL cap)∧Boxed w' W.heap.size 159 (.pointer (some ⟨r,0,none⟩))∧Boxed w' (W.heap.size+1) 3 (U i6 ch)):=fun w' hb'=>⟨boxed_below B1.out hb',boxed_below B4.out hb',boxed_below B4'.out hb'⟩
    clear hwd hc6'
    refine takeG 0 12 (v:=.slice a' nL cap) rfl rfl (by kernel_rfl) (by kernel_rfl) (by kernel_rfl) (by kernel_rfl) (by kernel_rfl) rfl rfl (fun _ _ _ h=>h) (fun _=>rfl) rfl (fun w' hw'=>by have:=hw'.1.cell;go_simp) ?_
    refine takeG 1 5 (v:=.pointer (some ⟨r,0,none⟩)) rfl rfl (by kernel_rfl) (by kernel_rfl) (by kernel_rfl) (by kernel_rfl) (by kernel_rfl) rfl rfl (fun _ _ _ h=>h) (fun _=>rfl) rfl (fun w' hw'=>by have:=hw'.2.1.cell;go_simp) ?_
    refine takeG 2 5 (v:=U i6 ch) rfl rfl (by kernel_rfl) (by kernel_rfl) (by kernel_rfl) (by kernel_rfl) (by kernel_rfl) rfl rfl (fun _ _ _ h=>h) (fun _=>rfl) rfl (fun w' hw'=>by have:=hw'.2.2.cell;go_simp) ?_
    refine takeG 3 4 (v:=.slice a' nL cap) rfl rfl (by kernel_rfl) (by kernel_rfl) (by kernel_rfl) (by kernel_rfl) (by kernel_rfl) rfl rfl (fun _ _ _ h=>h) (fun _=>rfl) rfl (fun w' hw'=>by have:=hw'.1.cell;go_simp) ?_
    refine takeG 6 9 (v:=.pointer (some ⟨r,0,none⟩)) rfl rfl (by kernel_rfl) (by kernel_rfl) (by kernel_rfl) (by kernel_rfl) (by kernel_rfl) rfl rfl (fun _ _ _ h=>h) (fun _=>rfl) rfl (fun w' hw'=>by have:=hw'.2.1.cell;go_simp) ?_
    refine takeG 7 9 (v:=U i6 x.2) rfl rfl (by kernel_rfl) (by kernel_rfl) (by kernel_rfl) (by kernel_rfl) (by kernel_rfl) rfl rfl (fun _ _ _ h=>h) (fun _=>rfl) rfl (fun w' hw'=>by go_simp) ?_
    refine takeG 8 9 (v:=U i6 (F+j)) rfl rfl (by kernel_rfl) (by kernel_rfl) (by kernel_rfl) (by kernel_rfl) (by kernel_rfl) rfl rfl (fun _ _ _ h=>h) (fun _=>rfl) rfl (fun w' hw'=>by go_simp) ?_
    refine lR 4 (Cl.of (hBd.out wd hdd)) (by kernel_rfl) rfl rfl (U i6 nL) wd (by go_simp) ?_
    refine lK 5 (Cl.of (hBd.out wd hdd)) (by kernel_rfl) rfl rfl 95 #[.pointer (some ⟨r,0,none⟩),U i6 ch,U i6 nL] (by kernel_rfl) (hWg.out wd nL hls (B8.out.trans (hdd.mono b8z))) ?_
    rintro e w6 ⟨rfl,n6,hw6⟩
    refine⟨_,rfl,?_⟩
    have hd6:Below wd.heap.size wd w6:=by rw [hw6];exact dbel _ _
    have hk6:KeepsOthers W' w6:=by rw [hw6];exact hkd.trans (show KeepsOthers wd (wd.drewN n6) from ⟨Nat.le_refl _,fun _ _ h _=>h⟩)
    have h6:Below wr.heap.size wr w6:=hdd.trans (hd6.mono hdd.size)
    clear hw6 hkd
    refine lK 9 (Cl.of (hBd.out w6 h6)) (by kernel_rfl) rfl rfl 98 #[.pointer (some ⟨r,0,none⟩),U i6 x.2,U i6 (F+j)] (by kernel_rfl) (hPl.out w6 x.2 (F+j) (B8.out.trans (h6.mono b8z))) ?_
    rintro e w6' ⟨rfl,hw6'⟩
    subst hw6'
    refine⟨_,rfl,?_⟩
    have hB6:=hBd.out _ h6
    refine lR 10 (Cl.of hB6) (by kernel_rfl) rfl rfl (.agg #[U i6 (wf nL),U i6 (covW c x.2 (F+j))]) w6' (by go_simp) ?_
    refine lR 11 (Cl.of hB6) (by kernel_rfl) rfl rfl (.slice (some ⟨w6'.heap.size,0,none⟩) 1 1) (w6'.alloc (.cells #[U i6 (wf nL),U i6 (covW c x.2 (F+j))] 91)) (by go_simp) ?_
    have hO6:=B2.out.below h6
    refine lA 12 (Cl.of (hBd.out _ (h6.trans ((bal w6' _).mono h6.size)))) (by kernel_rfl) rfl rfl (.tmp 64) (.tmp 75) rfl w1.heap.size (.slice a' nL cap) (wz wf LL) (by kernel_rfl) (hO6.below (bal _ _)) w6'.heap.size (wf nL) (covW c x.2 (F+j)) (by kernel_rfl) (term_one w6' _ _) HLn.out (by have:=h6.size;simp;omega) ?_
    intro v' w8 own' gr' hat'
    obtain⟨a8,cap8,rfl⟩:=own'.slice
    obtain⟨n8,hn8⟩:∃ n,(wz wf LL++[(wf nL,covW c x.2 (F+j))]).length=n:=⟨_,rfl⟩
    rw [hn8] at own' hat' ⊢
    obtain⟨q1,q2,q3,q4⟩:=QI.app (W1:=w6') hB6.1 hO6 B3.out hB6.2.1 hB6.2.2 (boxed_below B5.out h6) (boxed_below B6.out h6) (B7.out.trans (Mid.later h6)) (B8.out.trans (h6.mono b8z)) (Nat.le_trans b9 h6.size) hbl own' gr' hat'
    have hc7:=q1.cell
    have hf7:=q1.frozen
    refine lT 13 (Cl.all (by kernel_rfl)) (by kernel_rfl) rfl rfl (w8.setCell ⟨w2.heap.size,0,none⟩ (.slice a8 n8 cap8)) (by go_simp) ?_
    refine doneL (Cl.all (by kernel_rfl)) (by kernel_rfl) ?_ _
    exact⟨.slice a8 n8 cap8,w6'.heap.size,by kernel_rfl,hk6.trans q2,(hmi.trans (Mid.later h6)).trans q3,q4⟩
   ·obtain rfl:j=nC:=by omega
    clear HLs
    gi_wp2
    exact⟨hko.from _,hmi,by show QI lo' hi' w1.heap.size w2.heap.size W.heap.size (w2.heap.size+1) (w2.heap.size+1+1) r ch F G w5 W (wz wf (pfl j c F (pre++[x]))) wr;rw [pfl_snoc,HLL.out];exact⟨_,b1,b2,b3,b4,b4',b5,b6,b7,b8,b9⟩⟩
theorem mul_inj {c a b a' b':Int} (h1:0≤b∧b<c) (h2:0≤b'∧b'<c) (h:a*c+b=a'*c+b'):a=a'∧b=b':=by
 have e:∀ x y:Int,0≤y∧y<c→(x*c+y) / c=x:=fun x y hy=>by
  rw [Int.add_comm,Int.add_mul_ediv_right _ _ (by omega),Int.ediv_eq_zero_of_lt hy.1 hy.2,Int.zero_add]
 have q1:=e a b h1
 have q2:=e a' b' h2
 rw [h] at q1
 have:a=a':=by omega
 subst this
 exact⟨rfl,by omega⟩
theorem tpc_cases {h w kw t u:Int} (q:Int):tpc h w kw t u q = -1∨((0≤t+q / kw∧t+q / kw<h)∧(0≤u+q % kw∧u+q % kw<w)∧tpc h w kw t u q=(t+q / kw)*w+(u+q % kw)):=by
 unfold tpc
 by_cases g:(0≤t+q / kw∧t+q / kw<h)∧(0≤u+q % kw∧u+q % kw<w)
 ·right;exact⟨g.1,g.2,plc_in g⟩
 ·left;exact plc_out g
theorem tpc_bd {h w kw t u:Int} (q:Int) (g:tpc h w kw t u q≠-1):0≤tpc h w kw t u q∧tpc h w kw t u q<h*w:=by
 rcases tpc_cases (h:=h) (w:=w) (kw:=kw) (t:=t) (u:=u) q with e | ⟨g1,g2,e⟩
 ·exact absurd e g
 ·rw [e]
  have:=rowbd g1.2 g1.1 g2.1 g2.2
  omega
theorem tpc_inj {h w kw t u q r:Int} (hk:1≤kw) (hq:tpc h w kw t u q≠-1) (he:tpc h w kw t u q=tpc h w kw t u r):q=r:=by
 rcases tpc_cases (h:=h) (w:=w) (kw:=kw) (t:=t) (u:=u) q with e | ⟨g1,g2,e⟩
 ·exact absurd e hq
 rcases tpc_cases (h:=h) (w:=w) (kw:=kw) (t:=t) (u:=u) r with e' | ⟨g1',g2',e'⟩
 ·rw [he,e'] at hq;exact absurd rfl hq
 rw [e,e'] at he
 obtain⟨a1,a2⟩:=mul_inj (by omega) (by omega) he
 have b1:=Int.mul_ediv_add_emod q kw
 have b2:=Int.mul_ediv_add_emod r kw
 have c1:q / kw=r / kw:=by omega
 have c2:q % kw=r % kw:=by omega
 rw [← b1,← b2,c1,c2]
structure Wn4 (k c ch h w kw t u:Int) (nC N:Nat):Prop where
 k1:k≠1
 kk:2≤k∧k≤4
 hn:(nC:Int)=chB k c ch-chF k ch
 n1:1≤nC
 hF:0≤chF k ch
 hB:chB k c ch≤c
 hc:1≤c∧c≤1024
 hh:1≤h∧h≤1024
 hw:1≤w∧w≤1024
 hkw:1≤kw
 hC:(chF k ch:Int)=if k=2 then 0 else ch-1
theorem div_mod_nat (i nC:Nat) (h:1≤nC):i=i / nC*nC+i % nC:=by
 have:=Nat.div_add_mod i nC
 rw [Nat.mul_comm] at this
 exact this.symm
theorem Wn4.at {k c ch h w kw t u:Int} {nC N:Nat} (g:Wn4 k c ch h w kw t u nC N) (i:Nat):plA k c ch h w kw t u (i:Int)=cov c (tpc h w kw t u ((i / nC:Nat):Int)) (chF k ch+((i % nC:Nat):Int)):=by
 have:=plA_at (h:=h) (w:=w) (kw:=kw) (t:=t) (u:=u) (q:=i / nC) (j:=i % nC) g.k1 g.hn (Nat.mod_lt _ g.n1)
 rw [← div_mod_nat i nC g.n1] at this
 exact this
theorem cov_cases {C p d:Int} (hC:1≤C) (hp:p = -1∨0≤p) (hd:0≤d):(cov C p d = -1∧p = -1)∨(0≤cov C p d∧p≠-1∧cov C p d=p*C+d):=by
 unfold cov
 by_cases q:p = -1
 ·left;exact⟨if_pos q,q⟩
 ·right
  rw [if_neg q]
  have:=Int.mul_nonneg (show 0≤p by omega) (show 0≤C by omega)
  exact⟨by omega,q,rfl⟩
theorem tpc_sgn {h w kw t u:Int} (q:Int):tpc h w kw t u q = -1∨0≤tpc h w kw t u q:=by
 by_cases g:tpc h w kw t u q = -1
 ·exact .inl g
 ·exact .inr (tpc_bd q g).1
theorem Wn4.dd {k c ch h w kw t u:Int} {nC N:Nat} (g:Wn4 k c ch h w kw t u nC N) (i:Nat):0≤chF k ch+((i % nC:Nat):Int)∧chF k ch+((i % nC:Nat):Int)<c:=by
 have h1:=Nat.mod_lt i g.n1
 have h2:=g.hn
 have h3:=g.hF
 have h4:=g.hB
 omega
theorem Wn4.bd {k c ch h w kw t u:Int} {nC N:Nat} (g:Wn4 k c ch h w kw t u nC N) (i:Nat):plA k c ch h w kw t u (i:Int) = -1∨(0≤plA k c ch h w kw t u (i:Int)∧plA k c ch h w kw t u (i:Int)<h*w*c):=by
 rw [g.at i]
 rcases cov_cases g.hc.1 (tpc_sgn ((i / nC:Nat):Int)) (g.dd i).1 with ⟨e,-⟩ | ⟨e1,e2,e3⟩
 ·exact .inl e
 ·right
  refine⟨e1,?_⟩
  rw [e3]
  have b:=tpc_bd _ e2
  have d:=g.dd i
  have m:=Int.mul_le_mul_of_nonneg_right (show tpc h w kw t u ((i / nC:Nat):Int)+1≤h*w by omega) (show 0≤c by have:=g.hc;omega)
  rw [Int.add_mul,Int.one_mul] at m
  omega
theorem Wn4.inj {k c ch h w kw t u:Int} {nC N:Nat} (g:Wn4 k c ch h w kw t u nC N) {i j:Nat} (hi:plA k c ch h w kw t u (i:Int)≠-1) (he:plA k c ch h w kw t u (i:Int)=plA k c ch h w kw t u (j:Int)):i=j:=by
 rw [g.at i] at hi he
 rw [g.at j] at he
 rcases cov_cases g.hc.1 (tpc_sgn ((i / nC:Nat):Int)) (g.dd i).1 with ⟨e,-⟩ | ⟨e1,e2,e3⟩
 ·exact absurd e hi
 rcases cov_cases g.hc.1 (tpc_sgn ((j / nC:Nat):Int)) (g.dd j).1 with ⟨e',-⟩ | ⟨e1',e2',e3'⟩
 ·rw [he] at hi;exact absurd e' hi
 rw [e3,e3'] at he
 obtain⟨a1,a2⟩:=mul_inj (g.dd i) (g.dd j) he
 have q:=tpc_inj g.hkw e2 a1
 have q1:i / nC=j / nC:=by exact_mod_cast q
 have q2:i % nC=j % nC:=by omega
 rw [div_mod_nat i nC g.n1,div_mod_nat j nC g.n1,q1,q2]
end Go.Proofs.YtgjcjhnnopandaaGreat
