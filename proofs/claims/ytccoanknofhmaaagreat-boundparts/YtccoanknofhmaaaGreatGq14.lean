/- What the small functions of package bound return: one, plus, ofValues, product, running. What terms and length of package bound return: the terms at a position, and how many they are. The iterator of package bound: the ends position by position, all in one list. The blocks of a row: what slices.Chunk gives. A region that draws its order, one of whose last operations writes what others read: one that reads may be taken first, if it reads the same as long as an operation that waits for it (its gate) has not come up. A region that draws its order, one of whose last operations writes what others read: an operation that answers the same in every world may be taken first. A hull that grows: what its take does, and what of the memory stays. What gathered of package bound returns, whatever is taken. Slices of structs that came in, opened. Readings whose every list is within the reach: slices of integers, and slices of structs that hold slices, opened with that. -/
import Derived.Test.YtccoanknofhmaaaGreatGq01
import Derived.Test.YtccoanknofhmaaaGreatGq09
import Derived.Test.YtccoanknofhmaaaGreatGq13
import Derived.SizedLaws
namespace Go.Proofs.YtccoanknofhmaaaGreat
open Go.Value renaming int → U, slice → Sl
open Go.IntKind renaming i64 → i6
set_option maxRecDepth 100000
set_option maxHeartbeats 16000000
open Go.ChangeShapes Go.WideShapes Go.ChangeAt Go.RowKit
set_option linter.unusedVariables false
theorem bone_any (x:Int) (W:World):Calls Tryz.prog 20 #[U i6 x] W fun e w'=>e=.returned (.agg #[U i6 x,U i6 x])∧Below W.heap.size W w':=by
 go_enter Tryz.func20,Tryz.ntmps20
 go_wp2
 exact bodyPost_ret (v:=.agg #[U i6 x,U i6 x]) (by simp [results,Tryz.results20,go_sem]) rfl ⟨rfl,bal _ _⟩
theorem bplus_ok (a b:Int×Int) (W:World) (ha:Vd 10000000000 a) (hb:Vd 10000000000 b):Calls Tryz.prog 21 #[.agg #[U i6 a.1,U i6 a.2],.agg #[U i6 b.1,U i6 b.2]] W fun e w'=>e=.returned (.agg #[U i6 (plS a b).1,U i6 (plS a b).2])∧Below W.heap.size W w':=by
 obtain⟨a1,a2⟩:=a
 obtain⟨b1,b2⟩:=b
 obtain⟨h1,h2,h3⟩:=ha.sm (by omega)
 obtain⟨g1,g2,g3⟩:=hb.sm (by omega)
 have HA:Hid (∀ w,_):=fun w=>xadd_ok a1 a2 b1 b2 w h3 g3 h1 h2 g1 g2
 clear ha hb h1 h2 h3 g1 g2 g3
 simp only [plS]
 go_enter Tryz.func21,Tryz.ntmps21
 go_wp2_with fail
 refine (HA.out _).mono ?_
 rintro e w1 ⟨rfl,hb⟩
 have s1:=((St.start W).new.new.new.call hb).new (c:=#[U i6 (a1+b1),U i6 (a2+b2)]) (t:=28)
 simp only [World.size_alloc] at s1
 obtain⟨c0,f0,z0,c1,f1,z1,-⟩:=s1.rules
 have s2:=s1.up1.out2 (i:=0) (j:=1) (u:=U i6 (a1+b1)) (v:=U i6 (a2+b2))
 clear hb s1
 go_wp2
 exact bodyPost_ret (v:=.agg #[U i6 (a1+b1),U i6 (a2+b2)]) (by simp [results,Tryz.results21,go_sem, *]) rfl ⟨rfl,s2⟩
def vbB (lo hi:Int):Bool:=decide (-128≤lo∧lo≤hi∧hi≤127)
theorem vbB_yes {lo hi:Int} (h:vbB lo hi=true):-128≤lo∧lo≤hi∧hi≤127:=by simpa [vbB] using h
theorem bofv_any (lo hi:Int) (W:World):Calls Tryz.prog 38 #[.agg #[U i6 lo,U i6 hi]] W fun e w'=>e=.returned (.bool (vbB lo hi))∧Below W.heap.size W w':=by
 have HH:Hid (∀ w,Calls Tryz.prog 54 #[.agg #[U i6 (-128),U i6 127],.agg #[U i6 lo,U i6 hi]] w fun e w'=>e=.returned (.bool (vbB lo hi))∧Below w.heap.size w w'):=fun w=>by
  have:=xholds_any (-128) 127 lo hi w
  have e:xho (-128) 127 lo hi=vbB lo hi:=by unfold xho vbB;rw [Bool.eq_iff_iff];simp;omega
  rwa [e] at this
 go_enter Tryz.func38,Tryz.ntmps38
 go_wp2_with fail
 refine (HH.out _).mono ?_
 rintro e w1 ⟨rfl,hb⟩
 have s1:=(St.start W).new.call hb
 clear hb
 go_wp2
 go_ret
 exact⟨rfl,s1.below⟩
theorem bprod_any (ch n:Int) (fa:Option Addr) (fl fc:Nat) (bi slo shi p h w c:Int) (g0:Nat) (q:Nat) (W:World) (hq:W.heap[q]? = some (.cells #[U i6 ch,U i6 n,.slice fa fl fc,U i6 bi,U i6 slo,U i6 shi,U i6 p,U i6 p,U i6 h,U i6 w,U i6 c,U i6 0,U i6 0,.slice (some ⟨g0,0,none⟩) 1 1,U i6 0] 55 (0,0))) (t:Int×Int) (hs:-128≤slo∧slo≤shi∧shi≤127) (hp:-128≤p∧p≤127) (ht:-32768≤t.1∧t.1≤32767) :
  Calls Tryz.prog 57 #[.pointer (some ⟨q,0,none⟩),.agg #[U i6 t.1,U i6 t.2]] W fun e w'=>e=.returned (.agg #[U i6 (tmE slo shi p t).1,U i6 (tmE slo shi p t).2])∧Below W.heap.size W w':=by
 obtain⟨t1,t2⟩:=t
 obtain⟨y1,y2,y3⟩:=cells_at hq
 simp only at ht
 obtain⟨q1,q2⟩:=prod_bd (a:=slo) (by omega) ht
 obtain⟨q3,q4⟩:=prod_bd (a:=shi) (by omega) ht
 obtain⟨q5,q6⟩:=prod_bd hp ht
 have HS:Hid (∀ w,_):=fun w=>xtimes_ok slo shi t1 w hs.2.1 (by unfold Sm;omega) (by unfold Sm;omega) (by unfold Sm;omega)
 have HP:Hid (∀ w,_):=fun w=>xtimes_ok p p t1 w (Int.le_refl _) (by unfold Sm;omega) (by unfold Sm;omega) (by unfold Sm;omega)
 clear hs hp ht q1 q2 q3 q4 q5 q6
 have s0:=((((St.start W).new (c:=#[U i6 t1,U i6 t2]) (t:=92)).new (c:=#[U i6 0,U i6 0]) (t:=28)).new (c:=#[U i6 slo,U i6 shi]) (t:=28))
 simp only [World.size_alloc] at s0
 have HQ:Hid (W.heap[q]? = some (.cells #[U i6 ch,U i6 n,.slice fa fl fc,U i6 bi,U i6 slo,U i6 shi,U i6 p,U i6 p,U i6 h,U i6 w,U i6 c,U i6 0,U i6 0,.slice (some ⟨g0,0,none⟩) 1 1,U i6 0] 55 (0,0))):=hq
 clear hq
 by_cases neg:t2<0
 ·have HE:Hid (tmE slo shi p (t1,t2)=xti p p t1):=by unfold Hid tmE xti;rw [if_pos neg];simp
  rw [HE.out]
  obtain⟨e1,e2,hx⟩:∃ e1 e2,xti p p t1=(e1,e2):=⟨_,_,rfl⟩
  rw [hx] at HP ⊢
  clear hx
  clear HE HS
  go_enter Tryz.func57,Tryz.ntmps57
  go_upto_region 2 with fail
  obtain⟨w0,hw0⟩:∃ w0,(((W.alloc (.cells #[U i6 t1,U i6 t2] 92)).alloc (.cells #[U i6 0,U i6 0] 28)).alloc (.cells #[U i6 slo,U i6 shi] 28))=w0:=⟨_,rfl⟩
  rw [hw0] at s0 ⊢
  clear y1 y2 hw0
  obtain⟨y1,y2,-⟩:=cells_at ((s0.below.block q y3).trans HQ.out)
  obtain⟨c0,f0,z0,c1,f1,z1,c2,f2,z2,-⟩:=s0.rules
  have s1:=s0.set2 (u:=U i6 p) (v:=U i6 p) (by simp;omega)
  go_wp2_with fail
  refine (HP.out _).mono ?_
  rintro e w1 ⟨rfl,hb⟩
  have s2:=(s1.call hb).new (c:=#[U i6 e1,U i6 e2]) (t:=28)
  clear c0 f0 z0 c1 f1 z1 c2 f2 z2 y1 y2 s0 s1 hb
  obtain⟨c0,f0,z0,c1,f1,z1,c2,f2,z2,-⟩:=s2.rules
  have s3:=s2.up2.out2 (i:=0) (j:=1) (u:=U i6 e1) (v:=U i6 e2)
  clear s2
  go_wp2
  exact bodyPost_ret (v:=.agg #[U i6 e1,U i6 e2]) (by simp [results,Tryz.results57,go_sem, *]) rfl ⟨rfl,s3⟩
 ·have HE:Hid (tmE slo shi p (t1,t2)=xti slo shi t1):=by unfold Hid tmE;rw [if_neg neg]
  rw [HE.out]
  obtain⟨e1,e2,hx⟩:∃ e1 e2,xti slo shi t1=(e1,e2):=⟨_,_,rfl⟩
  rw [hx] at HS ⊢
  clear hx
  clear HE HP
  go_enter Tryz.func57,Tryz.ntmps57
  go_upto_region 2 with fail
  obtain⟨w0,hw0⟩:∃ w0,(((W.alloc (.cells #[U i6 t1,U i6 t2] 92)).alloc (.cells #[U i6 0,U i6 0] 28)).alloc (.cells #[U i6 slo,U i6 shi] 28))=w0:=⟨_,rfl⟩
  rw [hw0] at s0 ⊢
  clear y1 y2 hw0
  obtain⟨c0,f0,z0,c1,f1,z1,c2,f2,z2,-⟩:=s0.rules
  go_wp2_with fail
  refine (HS.out _).mono ?_
  rintro e w1 ⟨rfl,hb⟩
  have s2:=(s0.call hb).new (c:=#[U i6 e1,U i6 e2]) (t:=28)
  clear c0 f0 z0 c1 f1 z1 c2 f2 z2 s0 hb
  obtain⟨c0,f0,z0,c1,f1,z1,c2,f2,z2,-⟩:=s2.rules
  have s3:=s2.up2.out2 (i:=0) (j:=1) (u:=U i6 e1) (v:=U i6 e2)
  clear s2
  go_wp2
  exact bodyPost_ret (v:=.agg #[U i6 e1,U i6 e2]) (by simp [results,Tryz.results57,go_sem, *]) rfl ⟨rfl,s3⟩
theorem blen_any (ch n:Int) (fa:Option Addr) (fl fc:Nat) (bi slo shi p h w c:Int) (g0:Nat) (q:Nat) (W:World) (hq:W.heap[q]? = some (.cells #[U i6 ch,U i6 n,.slice fa fl fc,U i6 bi,U i6 slo,U i6 shi,U i6 p,U i6 p,U i6 h,U i6 w,U i6 c,U i6 0,U i6 0,.slice (some ⟨g0,0,none⟩) 1 1,U i6 0] 55 (0,0))):Calls Tryz.prog 32 #[.pointer (some ⟨q,0,none⟩)] W fun e w'=>e=.returned (U i6 (fl:Int))∧w'=W:=by
 obtain⟨y1,y2,y3⟩:=cells_at hq
 clear hq
 go_enter Tryz.func32,Tryz.ntmps32
 go_wp2
 go_ret
 exact⟨rfl,rfl⟩
theorem bterms_any (ch n:Int) (fa:Option Addr) (fl fc:Nat) (bi slo shi p h w c:Int) (g0:Nat) (q:Nat) (W:World) (hq:W.heap[q]? = some (.cells #[U i6 ch,U i6 n,.slice fa fl fc,U i6 bi,U i6 slo,U i6 shi,U i6 p,U i6 p,U i6 h,U i6 w,U i6 c,U i6 0,U i6 0,.slice (some ⟨g0,0,none⟩) 1 1,U i6 0] 55 (0,0))) (n0:Nat) (at' b':Int) (TL:List (Int×Int)) (hF:TV W (.slice fa fl fc) TL∨at'≠0) (hfa:∀ a,fa=some a→a.block<n0)
  (hO:at'≠0→∀ W',Below W.heap.size W W'→Calls Tryz.prog 37 #[.agg #[U i6 h,U i6 w,U i6 c,U i6 0,U i6 0,.slice (some ⟨g0,0,none⟩) 1 1,U i6 0],U i6 1,U i6 ch,U i6 at'] W' fun e w'=>(∃ v,e=.returned (.tuple #[v,U i6 b',U i6 0])∧OTm w' W'.heap.size v TL)∧Below W'.heap.size W' w') :
  Calls Tryz.prog 56 #[.pointer (some ⟨q,0,none⟩),U i6 at'] W fun e w'=>(∃ u,e=.returned u∧TV w' u TL∧∀ a n c,u=.slice (some a) n c→a.block<n0∨W.heap.size≤a.block)∧Below W.heap.size W w':=by
 by_cases h0:at'=0
 ·subst h0
  have hT:Hid (TV W (.slice fa fl fc) TL):=by
   rcases hF with h | h
   ·exact h
   ·exact absurd rfl h
  obtain⟨y1,y2,y3⟩:=cells_at hq
  clear hq hO hF
  go_enter Tryz.func56,Tryz.ntmps56
  go_wp2
  go_ret
  exact⟨⟨_,rfl,hT.out,fun a n c e=>.inl (hfa a (by simpa using (Value.slice.inj e).1))⟩,Below.refl _ _⟩
 have h0':(at' == 0)=false:=by simp [h0]
 have HO:Hid (∀ W',Below W.heap.size W W'→_):=hO h0
 have HQ:Hid (W.heap[q]? = some (.cells #[U i6 ch,U i6 n,.slice fa fl fc,U i6 bi,U i6 slo,U i6 shi,U i6 p,U i6 p,U i6 h,U i6 w,U i6 c,U i6 0,U i6 0,.slice (some ⟨g0,0,none⟩) 1 1,U i6 0] 55 (0,0))):=hq
 have hqz:=lt_of_heap hq
 clear hO hq hF hfa
 go_enter Tryz.func56,Tryz.ntmps56
 go_upto_region 3 with fail
 refine regionC (fun w'=>Below W.heap.size W w') (by kernel_rfl) ?_
 obtain⟨w3,hw3⟩:∃ w3,W.drew=w3:=⟨_,rfl⟩
 have B3:Hid (Below W.heap.size W w3):=by unfold Hid;rw [← hw3];exact (Below.refl _ _).drew
 rw [hw3]
 clear hw3
 have HC:Hid (∀ w',Below W.heap.size W w'→∀ i,w'.cell? ⟨q,i,none⟩=(#[U i6 ch,U i6 n,.slice fa fl fc,U i6 bi,U i6 slo,U i6 shi,U i6 p,U i6 p,U i6 h,U i6 w,U i6 c,U i6 0,U i6 0,.slice (some ⟨g0,0,none⟩) 1 1,U i6 0])[i]?):=fun w' hb=>(cells_at ((hb.block q hqz).trans HQ.out)).1
 refine takeC 0 (v:=.pointer (some ⟨q,0,none⟩)) rfl rfl (by kernel_rfl) (by kernel_rfl) (by kernel_rfl) (fun _ _ _ h=>h) (fun _=>rfl) rfl (fun w' hw'=>by go_simp) ?_
 refine takeC 1 (v:=.pointer (some ⟨q,0,none⟩)) rfl rfl (by kernel_rfl) (by kernel_rfl) (by kernel_rfl) (fun _ _ _ h=>h) (fun _=>rfl) rfl (fun w' hw'=>by go_simp) ?_
 refine takeC 2 (v:=.pointer (some ⟨q,8,none⟩)) rfl rfl (by kernel_rfl) (by kernel_rfl) (by kernel_rfl) (fun _ _ _ h=>h) (fun _=>rfl) rfl (fun w' hw'=>by go_simp) ?_
 refine takeC 3 (v:=.agg #[U i6 h,U i6 w,U i6 c,U i6 0,U i6 0,.slice (some ⟨g0,0,none⟩) 1 1,U i6 0]) rfl rfl (by kernel_rfl) (by kernel_rfl) (by kernel_rfl) (fun _ _ _ h=>h) (fun _=>rfl) rfl (fun w' hw'=>run_la 26 (.tmp 17) rfl ⟨q,8,none⟩ (by kernel_rfl) [U i6 h,U i6 w,U i6 c,U i6 0,U i6 0,.slice (some ⟨g0,0,none⟩) 1 1,U i6 0] _ (fun j v hj=>by
  rw [Addr.add_lit,HC.out w' hw']
  have:=(List.getElem?_eq_some_iff.1 hj).1
  rcases (show j=0∨j=1∨j=2∨j=3∨j=4∨j=5∨j=6 by simp at this; omega) with rfl | rfl | rfl | rfl | rfl | rfl | rfl<;>simpa using hj) Tryz.underlying26 rfl (by kernel_rfl)) ?_
 refine takeC 4 (v:=.pointer (some ⟨q,0,none⟩)) rfl rfl (by kernel_rfl) (by kernel_rfl) (by kernel_rfl) (fun _ _ _ h=>h) (fun _=>rfl) rfl (fun w' hw'=>by go_simp) ?_
 refine takeC 5 (v:=.pointer (some ⟨q,0,none⟩)) rfl rfl (by kernel_rfl) (by kernel_rfl) (by kernel_rfl) (fun _ _ _ h=>h) (fun _=>rfl) rfl (fun w' hw'=>by go_simp) ?_
 refine takeC 6 (v:=.pointer (some ⟨q,0,none⟩)) rfl rfl (by kernel_rfl) (by kernel_rfl) (by kernel_rfl) (fun _ _ _ h=>h) (fun _=>rfl) rfl (fun w' hw'=>by go_simp) ?_
 refine takeC 7 (v:=U i6 ch) rfl rfl (by kernel_rfl) (by kernel_rfl) (by kernel_rfl) (fun _ _ _ h=>h) (fun _=>rfl) rfl (fun w' hw'=>by have:=HC.out w' hw';go_simp) ?_
 refine takeC 8 (v:=U i6 at') rfl rfl (by kernel_rfl) (by kernel_rfl) (by kernel_rfl) (fun _ _ _ h=>h) (fun _=>rfl) rfl (fun w' hw'=>by go_simp) ?_
 refine yK 9 B3.out (by kernel_rfl) rfl rfl 37 #[.agg #[U i6 h,U i6 w,U i6 c,U i6 0,U i6 0,.slice (some ⟨g0,0,none⟩) 1 1,U i6 0],U i6 1,U i6 ch,U i6 at'] (by kernel_rfl) (HO.out w3 B3.out) ?_
 rintro e w4 ⟨⟨tv,rfl,ho⟩,hb4⟩
 refine⟨_,rfl,?_⟩
 have B4:Hid (Below W.heap.size W w4):=B3.out.trans (hb4.mono B3.out.size)
 have OT:Hid (TV w4 tv TL):=ho.tv
 have OB:Hid (∀ b,tv.ownBlock=some b→_):=ho.lt
 have h3z:=B3.out.size
 obtain⟨ta,tc,rfl⟩:=ho.slice
 clear ho hb4 B3
 refine takeC 10 (v:=.tuple #[.slice ta TL.length tc,U i6 b',U i6 0]) rfl rfl (by kernel_rfl) (by kernel_rfl) (by kernel_rfl) (fun _ _ _ h=>h) (fun _=>rfl) rfl (fun w' hw'=>by go_simp) ?_
 refine takeC 11 (v:=.slice ta TL.length tc) rfl rfl (by kernel_rfl) (by kernel_rfl) (by kernel_rfl) (fun _ _ _ h=>h) (fun _=>rfl) rfl (fun w' hw'=>by go_simp) ?_
 refine takeC 12 (v:=U i6 b') rfl rfl (by kernel_rfl) (by kernel_rfl) (by kernel_rfl) (fun _ _ _ h=>h) (fun _=>rfl) rfl (fun w' hw'=>by go_simp) ?_
 refine takeC 13 (v:=U i6 0) rfl rfl (by kernel_rfl) (by kernel_rfl) (by kernel_rfl) (fun _ _ _ h=>h) (fun _=>rfl) rfl (fun w' hw'=>by go_simp) ?_
 refine yR 14 B4.out (by kernel_rfl) rfl rfl (.slice ta TL.length tc) w4 (by go_simp) ?_
 refine yR 15 B4.out (by kernel_rfl) rfl rfl (U i6 b') w4 (by go_simp) ?_
 refine yR 16 B4.out (by kernel_rfl) rfl rfl (U i6 0) w4 (by go_simp) ?_
 refine doneC B4.out (by kernel_rfl) ?_ _
 clear HC
 go_wp2
 go_ret
 refine⟨⟨_,rfl,OT.out,fun a n c e=>.inr ?_⟩,B4.out⟩
 have e1:ta=some a:=(Value.slice.inj e).1
 subst e1
 have:=OB.out a.block rfl
 omega
open Go.ChangeShapes Go.WideShapes Go.ChangeAt Go.RowKit Go.Shelf
attribute [local go_sem] Oper.semAt_some
theorem abide_b {B:Nat} {J:Nat→World→Prop} (hJ:AbAll B J) {s:Nat} {W W':World} (h:J s W) (k:Below W.heap.size W W'):J s W':=hJ.bel h k
theorem brows1_in (m l B q n0 nb:Nat) (ch n:Int) (fa:Option Addr) (fl fc:Nat) (bi slo shi p h w c:Int) (g0:Nat) (TL:Nat→List (Int×Int)) (N:Nat) (hn:n=(N:Int)) (hN:N≤100000000) (hfl:fl≤512) (hTl:∀ k,k<N→(TL k).length=fl) (J:Nat→World→Prop) (W:World) (hnb:nb≤W.heap.size) (hn0:n0≤W.heap.size) (hqn:q<n0)
  (c1:W.heap[B]? = some (.cells #[.pointer (some ⟨q,0,none⟩)] 84 (0,0))) (hq:W.heap[q]? = some (.cells #[U i6 ch,U i6 n,.slice fa fl fc,U i6 bi,U i6 slo,U i6 shi,U i6 p,U i6 p,U i6 h,U i6 w,U i6 c,U i6 0,U i6 0,.slice (some ⟨g0,0,none⟩) 1 1,U i6 0] 55 (0,0)))
  (hE:∀ W' (k:Nat),Below n0 W W'→k<N→Calls Tryz.prog 56 #[.pointer (some ⟨q,0,none⟩),U i6 (k:Int)] W' fun e w'=>(∃ u,e=.returned u∧TV w' u (TL k)∧∀ a n c,u=.slice (some a) n c→a.block<n0∨W'.heap.size≤a.block)∧Below W'.heap.size W' w')
  (hP:∀ W' (k:Nat) (t:Int×Int),Below n0 W W'→k<N→t∈TL k→Calls Tryz.prog 57 #[.pointer (some ⟨q,0,none⟩),.agg #[U i6 t.1,U i6 t.2]] W' fun e w'=>e=.returned (.agg #[U i6 (tmE slo shi p t).1,U i6 (tmE slo shi p t).2])∧Below W'.heap.size W' w')
  (hJ:AbAll W.heap.size J)
  (hY:∀ k x W1,J k W1→k<N→SpV W1 x (enL slo shi p (TL k))→Nb nb x→YieldAt Fence.wide (m-1) Tryz.prog l #[x] W1 fun e W'=>e=.returned (.bool true)∧J (k+1) W'∧Kps n0 [B] W1 W'∧KX x W1 W') (h0:J 0 W) :
  CallsIn Fence.wide m Tryz.prog 55 #[.func (.yield l) #[] #[],.pointer (some ⟨B,0,none⟩)] W fun e W'=>(∃ v,e=.returned v)∧J N W':=by
 have HLn:Hid (Calls _ _ _ _ _):=blen_any ch n fa fl fc bi slo shi p h w c g0 q W hq
 subst hn
 have HE:Hid (∀ W' (k:Nat),Below n0 W W'→k<N→_):=hE
 have HP:Hid (∀ W' (k:Nat) (t:Int×Int),Below n0 W W'→k<N→t∈TL k→_):=hP
 have HY:Hid (∀ k x W1,J k W1→k<N→SpV W1 x (enL slo shi p (TL k))→_):=hY
 have HTl:Hid (∀ k,k<N→(TL k).length=fl):=hTl
 obtain⟨x1,-,xz⟩:=cells_at c1
 obtain⟨y1,-,yz⟩:=cells_at hq
 have HC1:Hid (W.heap[B]? = _):=c1
 have HQ:Hid (W.heap[q]? = _):=hq
 clear hE hP hY c1 hq hTl
 refine callsIn_of_wp Tryz.func55 rfl trivial ?_ rfl
 simp only [Tryz.ntmps55,List.size_toArray,List.length_cons,List.length_nil,Nat.reduceAdd,Nat.reduceSub,Array.replicate_succ,Array.replicate_zero,List.push_toArray,List.append_toArray,List.nil_append,List.cons_append]
 have hfn:∀ f,Fence.wide.fn f:=fun _=>trivial
 have hdp:Fence.wide.depth=none:=rfl
 refine wpIn_wide.2 ?_
 go_wp2_with fail
 refine HLn.out.mono ?_
 rintro e w1 ⟨rfl,hw1⟩
 subst hw1
 obtain⟨G,hG⟩:∃ G,w1.heap.size=G:=⟨_,rfl⟩
 go_upto_region 1 with (at_make;refine wpList_mkS rfl _ rfl fl rfl (by omega) ?_;intro cur0 hG0 hS0)
 rw [hG] at hG0
 have hcur0:=hS0.1
 have hb2:Below G w1 (w1.alloc (.cells cur0 28)):=by rw [← hG];exact bal _ _
 have hz2:(w1.alloc (.cells cur0 28)).heap.size=G+1:=by rw [← hG];simp
 have HJ2:Hid (J 0 (w1.alloc (.cells cur0 28))):=hJ.bel h0 (bal _ _)
 try rw [hG]
 obtain⟨w2,hw2⟩:∃ w2,w1.alloc (.cells cur0 28)=w2:=⟨_,rfl⟩
 rw [hw2] at hG0 hb2 hz2 HJ2 ⊢
 have HG0:Hid (w2.heap[G]? = some (.cells cur0 28 (0,0))):=hG0
 have HB2:Hid (Below G w1 w2):=hb2
 obtain⟨x1,-,-⟩:=cells_at ((hb2.block B (by omega)).trans HC1.out)
 obtain⟨y1,-,-⟩:=cells_at ((hb2.block q (by omega)).trans HQ.out)
 clear hw2 hS0 hG0 hb2 HLn h0
 go_upto_region 2 with fail
 refine (wpIn_wide (n:=m)).1 ?_
 gi_loopw [14] (fun i wr=>∃ (k:Nat) (cur:Array Value),k≤N∧i=U i6 k∧J k wr∧Kps n0 [B] w1 wr∧wr.heap[G]? = some (.cells cur 28 (0,0))∧cur.size=fl*2)
  (fun i _=>N-(intOf i).toNat)
 case atStart=>exact⟨0,cur0,Nat.zero_le _,rfl,HJ2.out,Kps.of (by rw [hG];exact HB2.out) (by omega),HG0.out,hcur0⟩
 case round =>
  clear x1 y1 HG0 HB2 HJ2
  obtain⟨k,cur,hk,rfl,hJs,hkp,hGc,hcs⟩:=hrel
  obtain⟨wo,hwo⟩:∃ wo,wo=wr:=⟨_,rfl⟩
  subst hwo
  by_cases hlt:k<N
  ·obtain⟨x1,-,-⟩:=cells_at (hkp.2 B (by simp) _ _ HC1.out)
   have hkz:=hkp.1.size
   have hGz:=lt_of_heap hGc
   have HJs:Hid (J k wo):=hJs
   have HKp:Hid (Kps n0 [B] w1 wo):=hkp
   have HGc:Hid (wo.heap[G]? = some (.cells cur 28 (0,0))):=hGc
   have HCt:Hid (Calls _ _ _ _ _):=HE.out wo k hkp.1 hlt
   clear hJs hkp hGc
   refine wpIn_wide.2 ?_
   go_wp2_with fail
   refine HCt.out.mono ?_
   rintro e w4 ⟨⟨u,rfl,hu,hub⟩,hb4⟩
   obtain⟨ta,tc,rfl,-,-,h4⟩:=hu
   have hTk:=HTl.out k hlt
   rw [hTk] at h4 hub ⊢
   have H4:Hid (0<fl→_):=h4
   have HUb:Hid (∀ a n c,Value.slice ta fl tc=.slice (some a) n c→_):=hub
   have HB4:Hid (Below wo.heap.size wo w4):=hb4
   have HG4:Hid (w4.heap[G]? = some (.cells cur 28 (0,0))):=(hb4.block G hGz).trans HGc.out
   have hz4:=hb4.size
   have HW4:Hid (Below n0 w1 w4):=HKp.out.1.trans (hb4.mono (by omega))
   have hB4:Hid (w4.heap[B]? = _):=(hb4.block B (lt_of_heap (HKp.out.2 B (by simp) _ _ HC1.out))).trans (HKp.out.2 B (by simp) _ _ HC1.out)
   have HL:Hid ((enL slo shi p (TL k)).length=fl):=by unfold Hid;rw [enL_len,hTk]
   have HTk:Hid ((TL k).length=fl):=hTk
   clear h4 hub hb4 HCt x1 hTk
   go_upto_region 5 with fail
   go_loopw [21] (fun i wr=>∃ (y:Nat) (cur:Array Value),y≤fl∧i=U i6 y∧wr.heap[G]? = some (.cells cur 28 (0,0))∧Cu2 cur fl ((enL slo shi p (TL k)).take y)∧Tch G w4 wr) (fun i _=>fl-(intOf i).toNat)
   case atStart=>exact⟨0,cur,Nat.zero_le _,rfl,HG4.out,⟨hcs,by simp,by simp [p2]⟩,Tch.refl _ _⟩
   case round =>
    obtain⟨y,cur',hy,rfl,hGy,hC,hb⟩:=hrel
    clear HG4
    have HC:Hid (Cu2 cur' fl ((enL slo shi p (TL k)).take y)):=hC
    have hsz:=hC.1
    have hbz:=hb.size
    by_cases hyl:y<fl
    ·obtain⟨g,rfl,hc⟩:=H4.out (by omega)
     have hgG:g≠G:=by rcases HUb.out ⟨g,0,none⟩ _ _ rfl with q | q<;>simp only at q<;>omega
     obtain⟨q1,q2⟩:=TV.at hc (show y<(TL k).length by rw [HTk.out];exact hyl)
     obtain⟨A1,A2,hA⟩:∃ A1 A2,(TL k).getD y (0,0)=(A1,A2):=⟨_,_,rfl⟩
     rw [hA] at q1 q2
     simp only at q1 q2
     have hmem:(A1,A2)∈TL k:=by
      rw [← hA,List.getD_eq_getElem?_getD,List.getElem?_eq_getElem (by rw [HTk.out];exact hyl)]
      exact List.getElem_mem _
     have p1:=hb.cell q1 hgG
     have p2:=hb.cell q2 hgG
     have hBr:=(hb.2.2.2.2 B (lt_of_heap hB4.out) (by omega)).trans hB4.out
     obtain⟨x1,-,x3⟩:=cells_at hBr
     have hbW:Below n0 w1 wr:=HW4.out.trans (hb.below (by omega) (by omega))
     have HPr:Hid (∀ (W':World),Below wr.heap.size wr W'→_):=fun W' hb'=>HP.out W' k (A1,A2) (hbW.trans (hb'.mono (by omega))) hlt hmem
     have HEe:Hid ((enL slo shi p (TL k)).getD y (0,0)=tmE slo shi p (A1,A2)):=by unfold Hid;rw [enL_getD _ _ _ (by rw [HTk.out];exact hyl) _ (0,0),hA]
     obtain⟨E1,E2,hE⟩:∃ E1 E2,tmE slo shi p (A1,A2)=(E1,E2):=⟨_,_,rfl⟩
     rw [hE] at HPr HEe
     simp only at HPr
     have hGr:=lt_of_heap hGy
     clear hc q1 q2 hA hmem hE hC hBr H4 HUb
     go_wp2_with fail
     refine (HPr.out _ (bal _ _)).mono ?_
     rintro e w6 ⟨rfl,hb6⟩
     have hb7:=(bal wr (.cells #[U i6 A1,U i6 A2] 92)).trans (hb6.mono (by simp))
     have hG3:w6.heap[G]? = some (.cells cur' 28 (0,0)):=(hb7.block G hGr).trans hGy
     have hb3:Tch G w4 w6:=hb.bel hb7
     obtain⟨u1,hu1⟩:∃ v,w6.cell? ⟨G,y*2,none⟩=some v:=⟨cur'[y*2]'(by omega),by rw [(cells_at hG3).1];exact Array.getElem?_eq_getElem _⟩
     obtain⟨u2,hu2⟩:∃ v,w6.cell? ⟨G,y*2+1,none⟩=some v:=⟨cur'[y*2+1]'(by omega),by rw [(cells_at hG3).1];exact Array.getElem?_eq_getElem _⟩
     have hf3:=(cells_at hG3).2.1
     have HG3:Hid (w6.heap[G]? = some (.cells cur' 28 (0,0))):=hG3
     have HB3:Hid (Tch G w4 w6):=hb3
     clear hGy hG3 hb hb3 hb6 hb7 hbW p1 p2 HPr x1 x3
     go_wp2
     go_roundw
     case rel =>
      have hlen:((enL slo shi p (TL k)).take y).length=y:=by rw [List.length_take,HL.out];omega
      have hA:=HC.out.add (by rw [hlen];exact hyl) E1 E2
      rw [← take_snoc (by rw [HL.out];exact hyl) HEe.out,hlen] at hA
      exact⟨y+1,_,by omega,by go_num,heap_setCell_at (heap_setCell_at HG3.out),hA,(HB3.out.set (.inl rfl)).set (.inl rfl)⟩
     case measure=>simp [intOf];omega
    ·obtain rfl:y=fl:=by omega
     have hO:=OSp.of (base:=G) hGy (Nat.le_refl _) hC (by unfold maxLen;omega)
     rw [List.take_of_length_le (by rw [HL.out];exact Nat.le_refl _),HL.out] at hO
     have hJy:J k wr:=hJ k w4 wr (some G) (hJ.bel HJs.out HB4.out) hb.grown (fun r e=>by cases e;omega)
     obtain⟨fn,tmps,assign,body,hyv,hR⟩:=HY.out k _ wr hJy hlt hO.sv (hO.nb.mono (by omega))
     have hKy:Kps n0 [B] w1 wr:=(HKp.out.trans (Kps.of HB4.out (by omega))).trans (hb.kps (by omega) (by omega) (by simp;omega))
     have HKy:Hid (Kps n0 [B] w1 wr):=hKy
     have HGy:Hid (wr.heap[G]? = some (.cells cur' 28 (0,0))):=hGy
     clear hO hJy hKy hb hC H4 HUb HGc HJs HKp hGy
     go_upto_region 9 with fail
     refine (wpIn_wide (n:=m)).1 ?_
     gi_wp2
     refine hR.mono ?_
     rintro e W3 ⟨rfl,hJ3,hk3,hx3⟩
     have HG3:Hid (W3.heap[G]? = some (.cells cur' 28 (0,0))):=hx3 ⟨G,0,none⟩ _ _ rfl G (by simp) _ _ HGy.out
     have HK3:Hid (Kps n0 [B] w1 W3):=HKy.out.trans hk3
     clear hk3 hx3 hyv hR
     gi_wp2
     go_wp2
     go_roundw
     case rel=>exact⟨k+1,cur',by omega,by go_num,hJ3,HK3.out,HG3.out,hsz⟩
     case measure=>simp [intOf];omega
  ·obtain rfl:k=N:=by omega
   gi_wp2
   go_end0
   exact⟨⟨_,rfl⟩,hJs⟩
theorem brows_any (q n0:Nat) (ch n:Int) (fa:Option Addr) (fl fc:Nat) (bi slo shi p h w c:Int) (g0:Nat) (TL:Nat→List (Int×Int)) (N:Nat) (hn:n=(N:Int)) (hN:N≤100000000) (hfl:fl≤512) (hTl:∀ k,k<N→(TL k).length=fl) (W:World) (hn0:n0≤W.heap.size) (hqn:q<n0)
  (hq:W.heap[q]? = some (.cells #[U i6 ch,U i6 n,.slice fa fl fc,U i6 bi,U i6 slo,U i6 shi,U i6 p,U i6 p,U i6 h,U i6 w,U i6 c,U i6 0,U i6 0,.slice (some ⟨g0,0,none⟩) 1 1,U i6 0] 55 (0,0)))
  (hE:∀ W' (k:Nat),Below n0 W W'→k<N→Calls Tryz.prog 56 #[.pointer (some ⟨q,0,none⟩),U i6 (k:Int)] W' fun e w'=>(∃ u,e=.returned u∧TV w' u (TL k)∧∀ a n c,u=.slice (some a) n c→a.block<n0∨W'.heap.size≤a.block)∧Below W'.heap.size W' w')
  (hP:∀ W' (k:Nat) (t:Int×Int),Below n0 W W'→k<N→t∈TL k→Calls Tryz.prog 57 #[.pointer (some ⟨q,0,none⟩),.agg #[U i6 t.1,U i6 t.2]] W' fun e w'=>e=.returned (.agg #[U i6 (tmE slo shi p t).1,U i6 (tmE slo shi p t).2])∧Below W'.heap.size W' w') :
  Calls Tryz.prog 39 #[.pointer (some ⟨q,0,none⟩)] W fun e w'=>(∃ lb,e=.returned (.func (.func 55) #[] lb)∧Sq n0 W.heap.size [W.heap.size] (fun _=>True) w' (.func (.func 55) #[] lb) (fun k=>enL slo shi p (TL k)) N)∧Below W.heap.size W w'∧w'.heap[W.heap.size]? = some (.cells #[.pointer (some ⟨q,0,none⟩)] 84 (0,0)):=by
 have hmf:∀ (fn:Fn) (first cap:Array Value) (w:World),(Instr.makeFunc fn first cap).run Tryz.prog w=.ok (.func fn first cap) w:=fun _ _ _ _=>rfl
 have s1:=(St.start W).new (c:=#[.pointer (some ⟨q,0,none⟩)]) (t:=84)
 have HE:Hid (∀ W' (k:Nat),Below n0 W W'→k<N→_):=hE
 have HP:Hid (∀ W' (k:Nat) (t:Int×Int),Below n0 W W'→k<N→t∈TL k→_):=hP
 have HQ:Hid (W.heap[q]? = _):=hq
 clear hE hP hq
 go_enter Tryz.func39,Tryz.ntmps39
 go_wp2
 go_ret
 refine⟨⟨_,rfl,_,_,rfl,enters_of Tryz.func55 (by kernel_rfl) rfl,fun l m J W1 hW hJ _ hY h0=>?_⟩,s1.below,s1.h1⟩
 have hb:=s1.below.trans (hW.mono s1.below.size)
 exact brows1_in m l W.heap.size q n0 W.heap.size ch n fa fl fc bi slo shi p h w c g0 TL N hn hN hfl hTl J W1 hb.size (by have:=hb.size;omega) hqn ((hW.block _ (lt_of_heap s1.h1)).trans s1.h1) ((hb.block q (by omega)).trans HQ.out) (fun W' k hW' hk=>HE.out W' k ((hb.mono hn0).trans hW') hk) (fun W' k t hW' hk ht=>HP.out W' k t ((hb.mono hn0).trans hW') hk ht) hJ hY h0
theorem min2 (x y M:Int) (h:xmn x y=M):∀ (W:World) (ts:Array TypeId) (t:TypeId),(Builtin.min_ ts t #[U i6 x,U i6 y]).run Tryz.prog W=.ok (U i6 M) W:=by
 intro W ts t
 subst h
 simp [Builtin.min_,Builtin.min2,xmn]
 repeat' split
 all_goals first | rfl | omega
attribute [local go_sem] Oper.semAt_some
theorem cell_box {w:World} {B:Nat} {v:Value} {t:TypeId} (h:w.heap[B]? = some (.cells #[v] t (0,0))):w.cell? ⟨B,0,none⟩=some v:=by rw [(cells_at h).1];rfl
theorem chunk1_in (m l Bs Bd n0 nb d:Nat) (v:Value) (E:List (Int×Int)) (hnv:Nb nb v) (hd:0<d) (hd2:d≤512) (hl:E.length≤512) (J:Nat→World→Prop) (W:World) (hn0:n0≤W.heap.size) (hPr:∀ k W1,J k W1→SpV W1 v E)
  (c1:W.heap[Bs]? = some (.cells #[v] 59 (0,0))) (c2:W.heap[Bd]? = some (.cells #[U i6 (d:Int)] 3 (0,0)))
  (hJ:AbAll W.heap.size J)
  (hY:∀ k x W1,J k W1→k<chN d E.length→SpV W1 x (chk d E k)→Nb nb x→YieldAt Fence.wide (m-1) Tryz.prog l #[x] W1 fun e W'=>e=.returned (.bool true)∧J (k+1) W'∧Kps n0 [Bs,Bd] W1 W'∧KX x W1 W') (h0:J 0 W) :
  CallsIn Fence.wide m Tryz.prog 47 #[.func (.yield l) #[] #[],.pointer (some ⟨Bs,0,none⟩),.pointer (some ⟨Bd,0,none⟩)] W fun e W'=>(∃ v,e=.returned v)∧J (chN d E.length) W':=by
 have HY:Hid (∀ k x W1,J k W1→k<chN d E.length→SpV W1 x (chk d E k)→_):=hY
 obtain⟨N,hN⟩:∃ N,E.length=N:=⟨_,rfl⟩
 obtain⟨n,hn⟩:∃ n,chN d N=n:=⟨_,rfl⟩
 have HPr:Hid (∀ k W1,J k W1→SpV W1 v E):=hPr
 obtain⟨va,vc,hve,-⟩:=hPr 0 W h0
 clear hPr
 rw [hN] at hve HY hl ⊢
 have HN:Hid (E.length=N):=hN
 have HL:Hid (∀ k,k<n ↔ k*d<N):=fun k=>by rw [← hn];exact chN_lt hd
 have HX:Hid (chN d N=n):=hn
 rw [hn] at HY ⊢
 have HC1:Hid (W.heap[Bs]? = _):=c1
 have HC2:Hid (W.heap[Bd]? = _):=c2
 clear hY c1 c2 hN hn
 refine callsIn_of_wp Tryz.func47 rfl trivial ?_ rfl
 simp only [Tryz.ntmps47,List.size_toArray,List.length_cons,List.length_nil,Nat.reduceAdd,Nat.reduceSub,Array.replicate_succ,Array.replicate_zero,List.push_toArray,List.append_toArray,List.nil_append,List.cons_append]
 gi_wp2
 gi_loopw [4] (fun i wr=>∃ k:Nat,k≤n∧i=U i6 ((k*d:Nat):Int)∧J k wr∧Kps n0 [Bs,Bd] W wr)
  (fun i _=>N+d-(intOf i).toNat)
 case atStart=>exact⟨0,Nat.zero_le _,by simp,h0,Below.refl _ _,Kept.refl _ _⟩
 case round =>
  obtain⟨k,hk,rfl,hJs,hkp⟩:=hrel
  have k1:=hkp.2 Bs (by simp) _ _ HC1.out
  have k2:=hkp.2 Bd (by simp) _ _ HC2.out
  have x1:=cell_box k1
  have x2:=cell_box k2
  obtain⟨I,hI⟩:∃ I,k*d=I:=⟨_,rfl⟩
  have hlt':=HL.out k
  rw [hI] at hlt' ⊢
  have HI:Hid (k*d=I):=hI
  have hfn:∀ f,Fence.wide.fn f:=fun _=>trivial
  have hdp:Fence.wide.depth=none:=rfl
  clear hI
  by_cases hlt:I<N
  ·have hkn:=hlt'.2 hlt
   have HV:Hid (SpV wr v E):=HPr.out k wr hJs
   obtain⟨v1,hs1,sp1⟩:=HV.out.from (k:=I) (by rw [HN.out];exact hlt) rfl
   obtain⟨⟨a1,p1,rfl,-⟩,-⟩:=sp1
   rw [List.length_drop,HN.out] at hs1
   obtain⟨M,hM⟩:∃ M:Nat,min d (N-I)=M:=⟨_,rfl⟩
   have hmn:=min2 (d:Int) ((N-I:Nat):Int) (M:Int) (by unfold xmn; split<;>omega)
   obtain⟨v2,hs2,sp2,nb2⟩:=HV.out.mid (k:=I) (m:=M) (by rw [HN.out];omega) (by omega) rfl rfl
   have hck:(E.drop I).take M=chk d E k:=by
    unfold chk
    rw [HI.out,← hM]
    apply List.ext_getElem?
    intro j
    rw [List.getElem?_take,List.getElem?_take]
    by_cases q1:j<min d (N-I)
    ·rw [if_pos q1,if_pos (by omega)]
    ·rw [if_neg q1]
     by_cases q2:j<d
     ·rw [if_pos q2,List.getElem?_drop,List.getElem?_eq_none (by rw [HN.out];omega)]
     ·rw [if_neg q2]
   rw [hck] at sp2
   have HS2:Hid (SpV wr v2 (chk d E k)):=sp2
   have HN2:Hid (Nb nb v2):=nb2 nb hnv
   have HM:Hid (M≤d∧M≤512):=⟨by omega,by omega⟩
   have hM1:M≤512:=HM.out.2
   clear hck sp2 hM HV HL hlt' nb2
   refine wpIn_wide.2 ?_
   subst hve
   go_upto_region 3 with fail
   refine regionC (fun w'=>w'.heap[Bs]? = some (.cells #[.slice va N vc] 59 (0,0))∧w'.heap[Bd]? = some (.cells #[U i6 (d:Int)] 3 (0,0))) (by kernel_rfl) ?_
   have DC:Hid ((fun w'=>w'.heap[Bs]? = some (.cells #[.slice va N vc] 59 (0,0))∧w'.heap[Bd]? = some (.cells #[U i6 (d:Int)] 3 (0,0))) wr.drew):=⟨k1,k2⟩
   have DB:Hid (Below wr.heap.size wr wr.drew):=(Below.refl _ _).drew
   obtain⟨w3,hw3⟩:∃ w3,wr.drew=w3:=⟨_,rfl⟩
   rw [hw3] at DC DB ⊢
   clear hw3
   refine takeC 0 (v:=U i6 (d:Int)) rfl rfl (by kernel_rfl) (by kernel_rfl) (by kernel_rfl) (fun _ _ _ h=>h) (fun _=>rfl) rfl (fun w' hw'=>by have:=cell_box hw'.2;go_simp) ?_
   refine takeC 1 (v:=.slice va N vc) rfl rfl (by kernel_rfl) (by kernel_rfl) (by kernel_rfl) (fun _ _ _ h=>h) (fun _=>rfl) rfl (fun w' hw'=>by have:=cell_box hw'.1;go_simp) ?_
   refine takeC 2 (v:=U i6 (I:Int)) rfl rfl (by kernel_rfl) (by kernel_rfl) (by kernel_rfl) (fun _ _ _ h=>h) (fun _=>rfl) rfl (fun w' hw'=>by go_simp) ?_
   refine takeC 3 (v:=.slice a1 (N-I) p1) rfl rfl (by kernel_rfl) (by kernel_rfl) (by kernel_rfl) (fun _ _ _ h=>h) (fun _=>rfl) rfl (fun w' hw'=>by have:=hs1 w';go_simp) ?_
   refine takeC 4 (v:=U i6 ((N-I:Nat):Int)) rfl rfl (by kernel_rfl) (by kernel_rfl) (by kernel_rfl) (fun _ _ _ h=>h) (fun _=>rfl) rfl (fun w' hw'=>by go_simp) ?_
   refine takeC 5 (v:=U i6 (M:Int)) rfl rfl (by kernel_rfl) (by kernel_rfl) (by kernel_rfl) (fun _ _ _ h=>h) (fun _=>rfl) rfl (fun w' hw'=>by have:=hmn w';go_simp) ?_
   refine yR 6 DC.out (by kernel_rfl) rfl rfl (U i6 (M:Int)) w3 (by go_simp) ?_
   refine doneC DC.out (by kernel_rfl) ?_ _
   have x1:=cell_box DC.out.1
   have x2:=cell_box DC.out.2
   have hB3:=(hkp.trans (Kps.of DB.out (by have:=hkp.1.size;omega)))
   have hJ3:=abide_b hJ hJs DB.out
   have sp3:=HS2.out.below DB.out
   have hI512:I<512:=by omega
   have HKB:Hid (Kps n0 [Bs,Bd] W w3):=hB3
   obtain⟨fn,tmps,assign,body,hy,hR⟩:=HY.out k v2 w3 hJ3 hkn sp3 HN2.out
   have hs2':=hs2 w3
   clear hs1 hmn hs2 HS2 k1 k2 hJs hkp hB3 hJ3 DB DC sp3
   go_upto_region 4 with fail
   refine (wpIn_wide (n:=m)).1 ?_
   gi_wp2
   refine hR.mono ?_
   rintro e W3 ⟨rfl,hJ3,hk3,-⟩
   have HK3:Hid (Kps n0 [Bs,Bd] W W3):=HKB.out.trans hk3
   have x2:=cell_box (HK3.out.2 Bd (by simp) _ _ HC2.out)
   have HE:Hid ((k+1)*d=I+d):=by unfold Hid;rw [Nat.add_mul,HI.out,Nat.one_mul]
   clear x1 hk3 hy hs2' HKB hR
   gi_wp2
   go_wp2
   go_roundw
   case rel=>exact⟨k+1,by omega,by rw [HE.out];go_num,hJ3,HK3.out⟩
   case measure=>simp [intOf];omega
  ·have hkn:¬ k<n:=fun q=>hlt (hlt'.1 q)
   obtain rfl:k=n:=by omega
   subst hve
   gi_wp2
   go_end0
   exact⟨⟨_,rfl⟩,hJs⟩
theorem chunk_any (n0 nb d:Nat) (v:Value) (E:List (Int×Int)) (W:World) (hv:SpV W v E) (hnv:Nb nb v) (hd:0<d) (hd2:d≤512) (hl:E.length≤512) (hn0:n0≤W.heap.size) :
  Calls Tryz.prog 34 #[v,U i6 (d:Int)] W fun e w'=>(∃ lb,e=.returned (.func (.func 47) #[] lb)∧Sq n0 nb [W.heap.size,W.heap.size+1] (fun W1=>SpV W1 v E) w' (.func (.func 47) #[] lb) (chk d E) (chN d E.length))∧Below W.heap.size W w'∧W.heap.size+1+1≤w'.heap.size:=by
 have hmf:∀ (fn:Fn) (first cap:Array Value) (w:World),(Instr.makeFunc fn first cap).run Tryz.prog w=.ok (.func fn first cap) w:=fun _ _ _ _=>rfl
 have s1:=((St.start W).new (c:=#[v]) (t:=59)).new (c:=#[U i6 (d:Int)]) (t:=3)
 simp only [World.size_alloc] at s1
 obtain⟨va,vc,hve,-⟩:=id hv
 have HNV:Hid (Nb nb v):=hnv
 have hve':Hid (v=_):=hve
 clear hv hve hnv
 rw [hve'.out] at s1 HNV ⊢
 go_enter Tryz.func34,Tryz.ntmps34
 go_wp2
 go_ret
 refine⟨⟨_,rfl,_,_,rfl,enters_of Tryz.func47 (by kernel_rfl) rfl,fun l m J W1 hW hJ hPr hY h0=>?_⟩,s1.below,by have:=lt_of_heap s1.h1;omega⟩
 have hb:=s1.below.trans (hW.mono s1.below.size)
 exact chunk1_in m l W.heap.size (W.heap.size+1) n0 nb d _ E HNV.out hd hd2 hl J W1 (by have:=hb.size;omega) hPr ((hW.block _ (lt_of_heap s1.h2)).trans s1.h2) ((hW.block _ (lt_of_heap s1.h1)).trans s1.h1) hJ hY h0
section
variable {F:Fence} {n:Nat} {P:Program} {ops:Array Oper} {md:Region.Mode} {C:Array Bool→World→Prop} {Q:Exit→Act→World→Prop}
def wpAnyL (F:Fence) (n:Nat) (P:Program) (md:Region.Mode) (ops:Array Oper) (C:Array Bool→World→Prop) (Q:Exit→Act→World→Prop):Nat→Array Bool→Act→World→Prop
 | 0,listed,a,w=>C listed w∧Region.ready md ops listed=[]∧Q .normal a w
 | fuel+1,listed,a,w=>C listed w∧(Region.ready md ops listed=[]→Q .normal a w)∧∀ i∈Region.ready md ops listed,wpOpIn F n P ops Q i (wpAnyL F n P md ops C Q fuel (listed.setIfInBounds i true)) a w
theorem any_of_L:∀ (fuel:Nat) (listed:Array Bool) (a:Act) (w:World),wpAnyL F n P md ops C Q fuel listed a w→wpAnyIn F n P md ops Q fuel listed a w
 | 0,_,_,_,h=>h.2
 | fuel+1,_,_,_,h=>⟨h.2.1,fun i hi=>wpOpIn_mono (fun a w=>any_of_L fuel _ a w) (h.2.2 i hi)⟩
def waitsFor (md:Region.Mode) (ops:Array Oper) (g i:Nat):Bool :=
 match ops[g]? with
 | some o=>o.after.any fun e=>Region.binds md e && e.on == i
 | none=>false
theorem waitsFor_ready {g i:Nat} {listed:Array Bool} (h:waitsFor md ops g i=true) (hg:g∈Region.ready md ops listed) (hi:i∈Region.ready md ops listed):False:=by
 obtain⟨-,og,hog,hall⟩:=mem_ready.1 hg
 unfold waitsFor at h
 rw [hog] at h
 obtain⟨e,he,hb⟩:=Array.any_eq_true'.1 h
 simp only [Bool.and_eq_true,beq_iff_eq] at hb
 have h1:=hall e he hb.1
 have h0:=(mem_ready.1 hi).1
 rw [hb.2] at h1
 rcases Nat.lt_or_ge i listed.size with h' | h'
 ·simp [h'] at h0 h1;rw [h0] at h1;cases h1
 ·simp [Array.getElem?_eq_none h'] at h1
theorem wpAnyL_first {i g:Nat} {oi:Oper} {v:Value} {D:World→Prop} (hro:F.round=none) (hi:ops[i]? = some oi) (hsel:∀ (j:Nat) (o:Oper) cs b,ops[j]? = some o→o.op≠.select cs b)
  (hQ:∀ c a w,Q (.panic c) (a.put oi.dst v) w→Q (.panic c) a w) (hgi:g≠i) (hwf:waitsFor md ops g i=true) (hD:∀ l w,C l w→l.getD g true=false→D w) (hCi:∀ l w,C (l.setIfInBounds i true) w→C l w) :
  ∀ (fuel:Nat) (listed:Array Bool) (a:Act) (w:World),
   (∀ j oj,ops[j]? = some oj→j≠i→listed.getD j true=false→(∀ e∈oj.after,Region.binds md e=true→e.on≠i)→oi.apart ops oj=true) →
   i∈Region.ready md ops listed→listed.getD g true=false→YieldsC P ops D oi v a →
   wpAnyL F n P md ops C Q fuel (listed.setIfInBounds i true) (a.put oi.dst v) w→wpAnyL F n P md ops C Q (fuel+1) listed a w:=by
 intro fuel
 induction fuel with
 | zero =>
  intro listed a w _ hr hg hy H
  refine⟨hCi _ _ H.1,fun h=>(by rw [h] at hr;cases hr),fun j hj=>?_⟩
  by_cases hji:j=i
  ·subst hji;exact hy.wpOpIn hro hi (hD _ _ (hCi _ _ H.1) hg) H
  ·have:=ready_mono hj hji
   rw [H.2.1] at this
   cases this
 | succ fuel ih =>
  intro listed a w hfree hr hg hy H
  refine⟨hCi _ _ H.1,fun h=>(by rw [h] at hr;cases hr),fun j hj=>?_⟩
  by_cases hji:j=i
  ·subst hji;exact hy.wpOpIn hro hi (hD _ _ (hCi _ _ H.1) hg) H
  ·have h1:=H.2.2 j (ready_mono hj hji)
   have hjg:j≠g:=fun e=>by subst e;exact waitsFor_ready hwf hj hr
   obtain⟨hjun,oj,hoj,hall⟩:=mem_ready.1 hj
   have hnot:∀ e∈oj.after,Region.binds md e=true→e.on≠i:=fun e he hb heq=>by
    have h1:=hall e he hb
    have h0:=(mem_ready.1 hr).1
    rw [heq] at h1
    rcases Nat.lt_or_ge i listed.size with h' | h'
    ·simp [h'] at h0 h1;rw [h0] at h1;cases h1
    ·simp [Array.getElem?_eq_none h'] at h1
   have h2:=wpOpIn_putC hro hoj (hfree j oj hoj hji hjun hnot) (fun cs b=>hsel i oi cs b hi) (fun cs b=>hsel j oj cs b hoj) hQ hy h1
   have hfree':∀ k ok,ops[k]? = some ok→k≠i→(listed.setIfInBounds j true).getD k true=false →
     (∀ e∈ok.after,Region.binds md e=true→e.on≠i)→oi.apart ops ok=true:=fun k ok hk hki hun hno=>by
    refine hfree k ok hk hki ?_ hno
    by_cases hjk:j=k
    ·subst hjk;exact hjun
    ·rw [getD_set_ne true hjk] at hun;exact hun
   refine wpOpIn_mono (fun a' w' h3=>ih (listed.setIfInBounds j true) a' w' hfree' (ready_mono hr (Ne.symm hji)) (by rw [getD_set_ne true hjg];exact hg) h3.1 ?_) h2
   rw [Array.setIfInBounds_comm _ _ hji]
   exact h3.2
theorem takeL (i g:Nat) {D:World→Prop} {oi:Oper} {v:Value} {fuel:Nat} {listed:Array Bool} {a:Act} {w:World} (hro:F.round=none) (hi:ops[i]? = some oi)
  (hs:Region.noSelect ops=true) (hf:Region.free md ops listed i=true) (hr:(Region.ready md ops listed).contains i=true) (hgi:g≠i) (hwf:waitsFor md ops g i=true) (hg:listed.getD g true=false)
  (hD:∀ l w,C l w→l.getD g true=false→D w) (hCi:∀ l w,C (l.setIfInBounds i true) w→C l w)
  (hQ:∀ c a w,Q (.panic c) (a.put oi.dst v) w→Q (.panic c) a w) (hb:∀ w,oi.about P w a.eval=none) (hw:Region.wanted oi (yielded ops a.tmps)=true) (hy:∀ w,D w→(execOp a.eval oi).run P w=.ok (.value v) w)
  (h:wpAnyL F n P md ops C Q fuel (listed.setIfInBounds i true) (a.put oi.dst v) w):wpAnyL F n P md ops C Q (fuel+1) listed a w :=
 wpAnyL_first hro hi (Region.noSelect_spec hs) hQ hgi hwf hD hCi fuel listed a w (Region.free_spec hi hf) (by simpa using hr) hg ⟨.inl ⟨hw,hy⟩,hb⟩ h
theorem stepL (i:Nat) {o:Oper} {fuel:Nat} {listed:Array Bool} {a:Act} {w:World} (hC:C listed w) (hr:Region.ready md ops listed=[i]) (ho:ops[i]? = some o)
  (h:∀ K:Act→World→Prop,(∀ a w,wpAnyL F n P md ops C Q fuel (listed.setIfInBounds i true) a w→K a w)→if Region.wanted o (yielded ops a.tmps)=true then Oper.wpIn F n P o a w K Q else (∀ f,o.about P w a.eval=some f→F.fn f)∧K (a.put o.dst undef) w) :
  wpAnyL F n P md ops C Q (fuel+1) listed a w :=
 ⟨hC,fun h0=>(by rw [hr] at h0;cases h0),fun j hj=>by
  rw [hr] at hj
  obtain rfl:j=i:=by simpa using hj
  exact wpOpIn_step ho fun K' hK'=>h K' hK'⟩
theorem doneL {listed:Array Bool} {a:Act} {w:World} (hC:C listed w) (hr:Region.ready md ops listed=[]) (h:Q .normal a w):∀ fuel,wpAnyL F n P md ops C Q fuel listed a w
 | 0=>⟨hC,hr,h⟩
 | _+1=>⟨hC,fun _=>h,by rw [hr];simp⟩
theorem regionL {id:Nat} {a:Act} {w:World} (C:Array Bool→World→Prop) (hm:P.follows .mixedOrders=true) (g:wpAnyL Fence.wide 3 P .any ops C Q ops.size (Array.replicate ops.size false) a w.drew):(Code.region id ops true).wp P Q a w :=
 (wpIn_wide (n:=3)).1 (wpIn_region_any hm (any_of_L _ _ _ _ g))
end
section
variable {n:Nat} {P:Program} {ops:Array Oper} {md:Region.Mode} {C:Array Bool→World→Prop} {Q:Exit→Act→World→Prop} {fuel:Nat} {listed:Array Bool} {a:Act} {w:World} {o:Oper}
theorem lW (i:Nat) (hC:C listed w) (hr:Region.ready md ops listed=[i]) (ho:ops[i]? = some o) (hg:o.guard=none)
  (h:∀ K:Act→World→Prop,(∀ a w,wpAnyL Fence.wide n P md ops C Q fuel (listed.setIfInBounds i true) a w→K a w)→o.wp P a w K Q):wpAnyL Fence.wide n P md ops C Q (fuel+1) listed a w :=
 stepL i hC hr ho fun K hK=>step_wp hg (h K hK)
theorem lR (i:Nat) (hC:C listed w) (hr:Region.ready md ops listed=[i]) (ho:ops[i]? = some o) (hg:o.guard=none)
  (v:Value) (w':World) (hrun:(execOp a.eval o).run P w=.ok (.value v) w') (h:wpAnyL Fence.wide n P md ops C Q fuel (listed.setIfInBounds i true) (a.put o.dst v) w'):wpAnyL Fence.wide n P md ops C Q (fuel+1) listed a w :=
 lW i hC hr ho hg fun K hK=>by unfold Oper.wp;rw [hrun,Oper.upon_value];exact hK _ _ h
theorem lT (i:Nat) (hC:C listed w) (hr:Region.ready md ops listed=[i]) (ho:ops[i]? = some o) (hg:o.guard=none)
  (w':World) (hrun:(execOp a.eval o).run P w=.ok .skip w') (h:wpAnyL Fence.wide n P md ops C Q fuel (listed.setIfInBounds i true) (a.put o.dst undef) w'):wpAnyL Fence.wide n P md ops C Q (fuel+1) listed a w :=
 lW i hC hr ho hg fun K hK=>by unfold Oper.wp;rw [hrun];exact hK _ _ h
theorem lK (i:Nat) (hC:C listed w) (hr:Region.ready md ops listed=[i]) (ho:ops[i]? = some o) (hg:o.guard=none)
  (f:FuncId) (args:Array Value) (hrun:(execOp a.eval o).run P w=.ok (.enter f args) w) {R:Ending→World→Prop} (hcall:Calls P f args w R)
  (h:∀ e w',R e w'→∃ v,e=.returned v∧wpAnyL Fence.wide n P md ops C Q fuel (listed.setIfInBounds i true) (a.put o.dst v) w'):wpAnyL Fence.wide n P md ops C Q (fuel+1) listed a w :=
 lW i hC hr ho hg fun K hK=>by
  unfold Oper.wp
  rw [hrun]
  refine Calls.mono hcall fun e w' he=>?_
  obtain⟨v,rfl,hv⟩:=h e w' he
  exact hK _ _ hv
end
def Cl (gs:List Nat) (B:World→Prop) (l:Array Bool) (w:World):Prop:=(gs.any fun g=>l.getD g true == false)=true→B w
theorem Cl.of {gs:List Nat} {B:World→Prop} {l:Array Bool} {w:World} (h:B w):Cl gs B l w:=fun _=>h
theorem Cl.all {gs:List Nat} {B:World→Prop} {l:Array Bool} {w:World} (h:(gs.any fun g=>l.getD g true == false)=false):Cl gs B l w:=fun q=>by rw [h] at q;cases q
theorem takeG {F:Fence} {n:Nat} {P:Program} {ops:Array Oper} {md:Region.Mode} {Q:Exit→Act→World→Prop} {gs:List Nat} {B:World→Prop} (i g:Nat) {oi:Oper} {v:Value} {fuel:Nat} {listed:Array Bool} {a:Act} {w:World} (hro:F.round=none) (hi:ops[i]? = some oi)
  (hs:Region.noSelect ops=true) (hf:Region.free md ops listed i=true) (hr:(Region.ready md ops listed).contains i=true) (hwf:waitsFor md ops g i=true) (hg:listed.getD g true=false) (hgs:gs.contains g=true) (hni:gs.contains i=false)
  (hQ:∀ c a w,Q (.panic c) (a.put oi.dst v) w→Q (.panic c) a w) (hb:∀ w,oi.about P w a.eval=none) (hw:Region.wanted oi (yielded ops a.tmps)=true) (hy:∀ w,B w→(execOp a.eval oi).run P w=.ok (.value v) w)
  (h:wpAnyL F n P md ops (Cl gs B) Q fuel (listed.setIfInBounds i true) (a.put oi.dst v) w):wpAnyL F n P md ops (Cl gs B) Q (fuel+1) listed a w:=by
 have hgm:g∈gs:=by simpa using hgs
 have him:i ∉ gs:=by simpa using hni
 refine takeL i g (D:=B) hro hi hs hf hr (fun e=>him (e ▸ hgm)) hwf hg (fun l w h hl=>h (List.any_eq_true.2 ⟨g,hgm,by simp [hl]⟩)) (fun l w h q=>h ?_) hQ hb hw hy h
 obtain⟨x,hx,q⟩:=List.any_eq_true.1 q
 refine List.any_eq_true.2 ⟨x,hx,?_⟩
 have hne:i≠x:=fun e=>him (by rw [e];exact hx)
 rw [getD_set_ne true hne]
 exact q
def Ql (M:Act→World→Prop):Exit→Act→World→Prop
 | .normal,a,w=>M a w
 | _,_,_=>False
theorem regionLM {P:Program} {ops:Array Oper} {Q:Exit→Act→World→Prop} {id:Nat} {a:Act} {w:World} (C:Array Bool→World→Prop) (M:Act→Act→World→Prop) (hm:P.follows .mixedOrders=true) (g:wpAnyL Fence.wide 3 P .any ops C (Ql (M a)) ops.size (Array.replicate ops.size false) a w.drew) (h:∀ a' w,M a a' w→Q .normal a' w):(Code.region id ops true).wp P Q a w :=
 (wpIn_wide (n:=3)).1 (wpIn_mono (wpIn_region_any hm (any_of_L _ _ _ _ g)) (fun e a w q=>by cases e<;>first | exact h _ _ q | exact q.elim))
theorem regionLM_round {n:Nat} {P:Program} {ops:Array Oper} {Q:Exit→Act→World→Prop} {id l:Nat} {a:Act} {w:World} (C:Array Bool→World→Prop) (M:Act→Act→World→Prop) (hd:noDefer ops=true) (hm:P.follows .mixedOrders=true) (g:wpAnyL Fence.wide n P .any ops C (Ql (M a)) ops.size (Array.replicate ops.size false) a w.drew) (h:∀ a' w,M a a' w→Q .normal a' w):(Code.region id ops true).wpIn (Fence.wide.inRound l) n P Q a w :=
 wpIn_mono (region_round hd rfl hm (any_of_L _ _ _ _ g)) (fun e a w q=>by cases e<;>first | exact h _ _ q | exact q.elim)
section
variable {F:Fence} {n:Nat} {P:Program} {ops:Array Oper} {md:Region.Mode} {C:Array Bool→World→Prop} {Q:Exit→Act→World→Prop}
theorem wpAnyL_firstT {i:Nat} {oi:Oper} {v:Value} (hro:F.round=none) (hi:ops[i]? = some oi) (hsel:∀ (j:Nat) (o:Oper) cs b,ops[j]? = some o→o.op≠.select cs b)
  (hQ:∀ c a w,Q (.panic c) (a.put oi.dst v) w→Q (.panic c) a w) (hCi:∀ l w,C (l.setIfInBounds i true) w→C l w) :
  ∀ (fuel:Nat) (listed:Array Bool) (a:Act) (w:World),
   (∀ j oj,ops[j]? = some oj→j≠i→listed.getD j true=false→(∀ e∈oj.after,Region.binds md e=true→e.on≠i)→oi.apart ops oj=true) →
   i∈Region.ready md ops listed→YieldsC P ops (fun _=>True) oi v a →
   wpAnyL F n P md ops C Q fuel (listed.setIfInBounds i true) (a.put oi.dst v) w→wpAnyL F n P md ops C Q (fuel+1) listed a w:=by
 intro fuel
 induction fuel with
 | zero =>
  intro listed a w _ hr hy H
  refine⟨hCi _ _ H.1,fun h=>(by rw [h] at hr;cases hr),fun j hj=>?_⟩
  by_cases hji:j=i
  ·subst hji;exact hy.wpOpIn hro hi trivial H
  ·have:=ready_mono hj hji
   rw [H.2.1] at this
   cases this
 | succ fuel ih =>
  intro listed a w hfree hr hy H
  refine⟨hCi _ _ H.1,fun h=>(by rw [h] at hr;cases hr),fun j hj=>?_⟩
  by_cases hji:j=i
  ·subst hji;exact hy.wpOpIn hro hi trivial H
  ·have h1:=H.2.2 j (ready_mono hj hji)
   obtain⟨hjun,oj,hoj,hall⟩:=mem_ready.1 hj
   have hnot:∀ e∈oj.after,Region.binds md e=true→e.on≠i:=fun e he hb heq=>by
    have h1:=hall e he hb
    have h0:=(mem_ready.1 hr).1
    rw [heq] at h1
    rcases Nat.lt_or_ge i listed.size with h' | h'
    ·simp [h'] at h0 h1;rw [h0] at h1;cases h1
    ·simp [Array.getElem?_eq_none h'] at h1
   have h2:=wpOpIn_putC hro hoj (hfree j oj hoj hji hjun hnot) (fun cs b=>hsel i oi cs b hi) (fun cs b=>hsel j oj cs b hoj) hQ hy h1
   have hfree':∀ k ok,ops[k]? = some ok→k≠i→(listed.setIfInBounds j true).getD k true=false →
     (∀ e∈ok.after,Region.binds md e=true→e.on≠i)→oi.apart ops ok=true:=fun k ok hk hki hun hno=>by
    refine hfree k ok hk hki ?_ hno
    by_cases hjk:j=k
    ·subst hjk;exact hjun
    ·rw [getD_set_ne true hjk] at hun;exact hun
   refine wpOpIn_mono (fun a' w' h3=>ih (listed.setIfInBounds j true) a' w' hfree' (ready_mono hr (Ne.symm hji)) h3.1 ?_) h2
   rw [Array.setIfInBounds_comm _ _ hji]
   exact h3.2
end
theorem takeT {F:Fence} {n:Nat} {P:Program} {ops:Array Oper} {md:Region.Mode} {Q:Exit→Act→World→Prop} {gs:List Nat} {B:World→Prop} (i:Nat) {oi:Oper} {v:Value} {fuel:Nat} {listed:Array Bool} {a:Act} {w:World} (hro:F.round=none) (hi:ops[i]? = some oi)
  (hs:Region.noSelect ops=true) (hf:Region.free md ops listed i=true) (hr:(Region.ready md ops listed).contains i=true) (hni:gs.contains i=false)
  (hQ:∀ c a w,Q (.panic c) (a.put oi.dst v) w→Q (.panic c) a w) (hb:∀ w,oi.about P w a.eval=none) (hw:Region.wanted oi (yielded ops a.tmps)=true) (hy:∀ w,(execOp a.eval oi).run P w=.ok (.value v) w)
  (h:wpAnyL F n P md ops (Cl gs B) Q fuel (listed.setIfInBounds i true) (a.put oi.dst v) w):wpAnyL F n P md ops (Cl gs B) Q (fuel+1) listed a w:=by
 have him:i ∉ gs:=by simpa using hni
 refine wpAnyL_firstT hro hi (Region.noSelect_spec hs) hQ (fun l w h q=>h ?_) fuel listed a w (Region.free_spec hi hf) (by simpa using hr) ⟨.inl ⟨hw,fun w _=>hy w⟩,hb⟩ h
 obtain⟨x,hx,q⟩:=List.any_eq_true.1 q
 refine List.any_eq_true.2 ⟨x,hx,?_⟩
 have hne:i≠x:=fun e=>him (by rw [e];exact hx)
 rw [getD_set_ne true hne]
 exact q
theorem SpV.tch {b nb:Nat} {w w':World} {v:Value} {L:List (Int×Int)} (h:SpV w v L) (hn:Nb nb v) (hb:b+1≤nb) (k:Tch b w w'):SpV w' v L:=by
 obtain⟨a,cap,rfl,h2,h3,h4⟩:=h
 refine⟨a,cap,rfl,h2,h3,fun h0=>?_⟩
 obtain⟨g,o,rfl,hc⟩:=h4 h0
 have hg:nb≤g:=hn _ _ _ rfl
 exact⟨g,o,rfl,fun j u hj=>k.cell (hc j u hj) (by omega)⟩
theorem St.tch {b:Nat} {w0 w w':World} {l:List (Nat×Array Value×TypeId)} (h:St w0 w l) (k:Tch b w w') (hb:w0.heap.size≤b) (hl:∀ x∈l,x.1≠b):St w0 w' l :=
 ⟨h.1.trans (k.below hb h.1.size),fun x hx=>⟨(k.2.2.2.2 _ (lt_of_heap (h.2 x hx).1) (hl x hx)).trans (h.2 x hx).1,(h.2 x hx).2⟩⟩
def SB (b:Nat) (w0 w:World) (l:List (Nat×Array Value×TypeId)):Prop:=Tch b w0 w∧∀ x∈l,w.heap[x.1]? = some (.cells x.2.1 x.2.2)∧w0.heap.size≤x.1
theorem SB.start (b:Nat) (w:World):SB b w w []:=⟨Tch.refl _ _,fun _ h=>by cases h⟩
theorem SB.of {b:Nat} {w0 w:World} {l:List (Nat×Array Value×TypeId)} (h:St w0 w l):SB b w0 w l:=⟨Tch.of h.1,h.2⟩
theorem SB.call {b:Nat} {w0 w w1:World} {l:List (Nat×Array Value×TypeId)} (h:SB b w0 w l) (hb:Below w.heap.size w w1):SB b w0 w1 l :=
 ⟨h.1.bel hb,fun x hx=>⟨by rw [hb.block _ (lt_of_heap (h.2 x hx).1)];exact (h.2 x hx).1,(h.2 x hx).2⟩⟩
theorem SB.take {b:Nat} {w0 w w1:World} {l:List (Nat×Array Value×TypeId)} (h:SB b w0 w l) (k:Tch b w w1) (hb:b<w0.heap.size):SB b w0 w1 l :=
 ⟨h.1.trans k,fun x hx=>⟨by have:=(h.2 x hx).2;rw [k.2.2.2.2 _ (lt_of_heap (h.2 x hx).1) (by omega)];exact (h.2 x hx).1,(h.2 x hx).2⟩⟩
theorem SB.new {b:Nat} {w0 w:World} {l:List (Nat×Array Value×TypeId)} {c:Array Value} {t:TypeId} (h:SB b w0 w l):SB b w0 (w.alloc (.cells c t)) ((w.heap.size,c,t) :: l):=by
 have h2:=h.call (bal w (.cells c t))
 refine⟨h2.1,fun x hx=>?_⟩
 rcases List.mem_cons.1 hx with rfl | hx
 ·exact⟨by show (w.heap.push _)[w.heap.size]? = _;simp,h.1.size⟩
 ·exact h2.2 x hx
theorem SB.skip {b:Nat} {w0 w:World} {l:List (Nat×Array Value×TypeId)} (h:SB b w0 w l) (o:Obj):SB b w0 (w.alloc o) l:=h.call (bal w o)
theorem SB.set {b:Nat} {w0 w:World} {B i:Nat} {c:Array Value} {t:TypeId} {l:List (Nat×Array Value×TypeId)} {v:Value} (h:SB b w0 w ((B,c,t) :: l)) (hl:∀ x∈l,x.1≠B) :
  SB b w0 (w.setCell ⟨B,i,none⟩ v) ((B,c.setIfInBounds i v,t) :: l):=by
 have hB:=(h.2 _ List.mem_cons_self)
 refine⟨h.1.set (.inr hB.2),fun x hx=>?_⟩
 rcases List.mem_cons.1 hx with rfl | hx
 ·exact⟨heap_setCell_at hB.1,hB.2⟩
 ·have:=h.2 x (List.mem_cons_of_mem _ hx)
  exact⟨by rw [Below.heap_setCell _ _ _ _ (hl x hx)];exact this.1,this.2⟩
theorem SB.set2 {b:Nat} {w0 w:World} {B:Nat} {a c u v:Value} {t:TypeId} {l:List (Nat×Array Value×TypeId)} (h:SB b w0 w ((B,#[a,c],t) :: l)) (hl:∀ x∈l,x.1≠B) :
  SB b w0 ((w.setCell ⟨B,0,none⟩ u).setCell ⟨B,1,none⟩ v) ((B,#[u,v],t) :: l):=(h.set hl (i:=0) (v:=u)).set hl (i:=1) (v:=v)
theorem SB.rules {b:Nat} {w0 w:World} {l:List (Nat×Array Value×TypeId)} (h:SB b w0 w l):Rules w l:=rules_of l fun x hx=>(h.2 x hx).1
theorem SB.tail {b:Nat} {w0 w:World} {x:Nat×Array Value×TypeId} {l:List (Nat×Array Value×TypeId)} (h:SB b w0 w (x :: l)):SB b w0 w l:=⟨h.1,fun y hy=>h.2 y (List.mem_cons_of_mem _ hy)⟩
theorem SB.size {b:Nat} {w0 w:World} {l:List (Nat×Array Value×TypeId)} (h:SB b w0 w l):w0.heap.size≤w.heap.size:=h.1.size
theorem SB.h1 {b:Nat} {w0 w:World} {B:Nat} {c:Array Value} {t:TypeId} {l:List (Nat×Array Value×TypeId)} (h:SB b w0 w ((B,c,t) :: l)):w.heap[B]? = some (.cells c t (0,0)):=(h.2 _ List.mem_cons_self).1
def Tk (w:World) (b:Nat) (L:List (Int×Int)):Prop:=w.heap[b]? = some (.cells #[U i6 (huA L).1,U i6 (huA L).2,.bool (!L.isEmpty)] 86 (0,0))
theorem Tk.lt {w:World} {b:Nat} {L:List (Int×Int)} (h:Tk w b L):b<w.heap.size:=lt_of_heap h
theorem Tk.below {w w':World} {b:Nat} {L:List (Int×Int)} (h:Tk w b L) (k:Below w.heap.size w w'):Tk w' b L:=(k.block _ (lt_of_heap h)).trans h
theorem Tk.set {w:World} {b B i:Nat} {L:List (Int×Int)} {v:Value} (h:Tk w b L) (h1:b≠B):Tk (w.setCell ⟨B,i,none⟩ v) b L:=(Below.heap_setCell _ _ _ _ h1).trans h
theorem Tk.turn {w w':World} {b:Nat} {L:List (Int×Int)} {row:Option Nat} (h:Tk w b L) (g:w.grownBy w' row) (hr:∀ r,row=some r→b<r):Tk w' b L :=
 (g.block b (lt_of_heap h) (fun e=>by have:=hr b e.symm;omega)).trans h
theorem two_of {w:World} {B:Nat} {a c d u v:Value} {t:TypeId} (h:w.heap[B]? = some (.cells #[a,c,d] t (0,0))):((w.setCell ⟨B,0,none⟩ u).setCell ⟨B,1,none⟩ v).heap[B]? = some (.cells #[u,v,d] t (0,0)):=heap_setCell_at (heap_setCell_at h)
def fTk (b:Nat):Value:=.pointer (some ⟨b,0,none⟩)
theorem btake_any (b:Nat) (x:Int×Int) (L:List (Int×Int)) (W:World) (hT:Tk W b L) (hL:∀ y∈L,Vd 10000000000 y) (hx:Vd 10000000000 x) :
  Calls Tryz.prog 22 #[fTk b,.agg #[U i6 x.1,U i6 x.2]] W fun e w'=>(∃ u,e=.returned u)∧Tk w' b (L++[x])∧Tch b W w':=by
 obtain⟨x1,x2⟩:=x
 have hbz:=hT.lt
 unfold fTk
 have s0:=(SB.start b W).new (c:=#[U i6 x1,U i6 x2]) (t:=28)
 have T0:=hT.below (bal W (.cells #[U i6 x1,U i6 x2] 28))
 have hmx:Tryz.prog.follows .mixedOrders=true:=by kernel_rfl
 -- what lies there ahead of the last region: the ends that are widened
 obtain⟨m1,m2,hv,HS⟩:∃ m1 m2:Int,m1≤m2∧huA (L++[(x1,x2)])=(xmn m1 x1,xmx m2 x2)∧(L=[]→m1=x1∧m2=x2)∧(L≠[]→huA L=(m1,m2)):=by
  cases L with
  | nil=>exact⟨x1,x2,hx.2.1,by simp [huA,huF,xmn,xmx],fun _=>⟨rfl,rfl⟩,fun q=>absurd rfl q⟩
  | cons y l =>
   have hvd:Vd 10000000000 (huA (y :: l)):=huF_vd (hL y List.mem_cons_self) fun z hz=>hL z (List.mem_cons_of_mem _ hz)
   exact⟨_,_,hvd.2.1,by rw [huA_snoc (by simp)];rfl,fun q=>by simp at q,fun _=>rfl⟩
 have HH:Hid (∀ w,_):=fun w=>xhull_ok m1 m2 x1 x2 w hv hx.2.1
 obtain⟨w0,hw0⟩:∃ w0,W.alloc (.cells #[U i6 x1,U i6 x2] 28)=w0:=⟨_,rfl⟩
 have hz0:w0.heap.size=W.heap.size+1:=by rw [← hw0];simp
 rw [hw0] at s0 T0
 obtain⟨HS,hn,hc⟩:=HS
 have HS:Hid (_=_):=HS
 obtain⟨c0,f0,z0,-⟩:=s0.rules
 cases L with
 | nil =>
  obtain⟨rfl,rfl⟩:=hn rfl
  have t0:=T0
  unfold Tk at t0
  simp only [huA,List.isEmpty_nil,Bool.not_true] at t0
  obtain⟨p1,p2,p3⟩:=cells_at t0
  have t1:(((w0.setCell ⟨b,0,none⟩ (U i6 m1)).setCell ⟨b,1,none⟩ (U i6 m2)).setCell ⟨b,2,none⟩ (.bool true)).heap[b]? = some (.cells #[U i6 m1,U i6 m2,.bool true] 86 (0,0)):=heap_setCell_at (two_of t0)
  have s1:SB b W (((w0.setCell ⟨b,0,none⟩ (U i6 m1)).setCell ⟨b,1,none⟩ (U i6 m2)).setCell ⟨b,2,none⟩ (.bool true)) [(W.heap.size,#[U i6 m1,U i6 m2],28)]:=by
   refine⟨((s0.1.set (.inl rfl)).set (.inl rfl)).set (.inl rfl),fun x hx=>?_⟩
   obtain rfl:x=_:=by simpa using hx
   refine⟨?_,Nat.le_refl _⟩
   have hne:W.heap.size≠b:=by omega
   exact (Below.heap_setCell _ _ _ _ hne).trans ((Below.heap_setCell _ _ _ _ hne).trans ((Below.heap_setCell _ _ _ _ hne).trans s0.h1))
  clear hx hL hT hn hc T0 t0 hv
  go_enter Tryz.func22,Tryz.ntmps22
  go_upto_region 1 with fail
  try rw [hw0]
  clear hw0
  go_upto_region 3 with fail
  clear p1 p2 p3 c0 f0 z0 s0
  obtain⟨w1,hw1⟩:∃ w1,((w0.setCell ⟨b,0,none⟩ (U i6 m1)).setCell ⟨b,1,none⟩ (U i6 m2)).setCell ⟨b,2,none⟩ (.bool true)=w1:=⟨_,rfl⟩
  rw [hw1] at t1 s1 ⊢
  clear hw1
  refine regionL (Cl [6] fun w'=>w'.heap[b]? = some (.cells #[U i6 m1,U i6 m2,.bool true] 86 (0,0))∧w'.heap[W.heap.size]? = some (.cells #[U i6 m1,U i6 m2] 28 (0,0))) hmx ?_
  obtain⟨wd,hwd⟩:∃ wd,w1.drew=wd:=⟨_,rfl⟩
  have hdd:Below w1.heap.size w1 wd:=by rw [← hwd];exact (Below.refl _ _).drew
  rw [hwd]
  have hA:Hid (wd.heap[b]? = some (.cells #[U i6 m1,U i6 m2,.bool true] 86 (0,0))):=(hdd.block b (lt_of_heap t1)).trans t1
  have S2:Hid (SB b W wd [(W.heap.size,#[U i6 m1,U i6 m2],28)]):=s1.call hdd
  clear hwd hdd t1 s1
  refine takeT 1 (v:=.pointer (some ⟨b,0,none⟩)) rfl rfl (by kernel_rfl) (by kernel_rfl) (by kernel_rfl) rfl (fun _ _ _ h=>h) (fun _=>rfl) rfl (fun w'=>by go_simp) ?_
  refine takeT 2 (v:=.pointer (some ⟨b,0,none⟩)) rfl rfl (by kernel_rfl) (by kernel_rfl) (by kernel_rfl) rfl (fun _ _ _ h=>h) (fun _=>rfl) rfl (fun w'=>by go_simp) ?_
  refine takeT 3 (v:=.pointer (some ⟨b,0,none⟩)) rfl rfl (by kernel_rfl) (by kernel_rfl) (by kernel_rfl) rfl (fun _ _ _ h=>h) (fun _=>rfl) rfl (fun w'=>by go_simp) ?_
  refine takeG 4 6 (v:=.agg #[U i6 m1,U i6 m2]) rfl rfl (by kernel_rfl) (by kernel_rfl) (by kernel_rfl) (by kernel_rfl) (by kernel_rfl) rfl rfl (fun _ _ _ h=>h) (fun _=>rfl) rfl (fun w' hw'=>run_la 28 (.tmp 20) rfl ⟨b,0,none⟩ (by kernel_rfl) [U i6 m1,U i6 m2] _ (fun j v hj=>by
   rw [Addr.add_lit,(cells_at hw'.1).1]
   have:=(List.getElem?_eq_some_iff.1 hj).1
   rcases (show j=0∨j=1 by simp at this; omega) with rfl | rfl<;>simpa using hj) Tryz.underlying28 rfl (by kernel_rfl)) ?_
  refine takeG 5 6 (v:=.agg #[U i6 m1,U i6 m2]) rfl rfl (by kernel_rfl) (by kernel_rfl) (by kernel_rfl) (by kernel_rfl) (by kernel_rfl) rfl rfl (fun _ _ _ h=>h) (fun _=>rfl) rfl (fun w' hw'=>run_la 28 (.tmp 3) rfl ⟨W.heap.size,0,none⟩ (by kernel_rfl) [U i6 m1,U i6 m2] _ (fun j v hj=>by
   rw [Addr.add_lit,(cells_at hw'.2).1]
   have:=(List.getElem?_eq_some_iff.1 hj).1
   rcases (show j=0∨j=1 by simp at this; omega) with rfl | rfl<;>simpa using hj) Tryz.underlying28 rfl (by kernel_rfl)) ?_
  refine takeT 0 (v:=.pointer (some ⟨b,0,none⟩)) rfl rfl (by kernel_rfl) (by kernel_rfl) (by kernel_rfl) rfl (fun _ _ _ h=>h) (fun _=>rfl) rfl (fun w'=>by go_simp) ?_
  refine lK 6 (Cl.of ⟨hA.out,S2.out.h1⟩) (by kernel_rfl) rfl rfl 41 #[.agg #[U i6 m1,U i6 m2],.agg #[U i6 m1,U i6 m2]] (by kernel_rfl) (HH.out wd) ?_
  rintro e w3 ⟨rfl,hb3⟩
  refine⟨_,rfl,?_⟩
  have t3:=(hb3.block b (lt_of_heap hA.out)).trans hA.out
  have S3:Hid (Tch b W w3):=(S2.out.call hb3).1
  refine lR 7 (Cl.all (by kernel_rfl)) (by kernel_rfl) rfl rfl (.tuple #[.agg #[U i6 (xmn m1 m1),U i6 (xmx m2 m2)],U i6 0]) w3 (by go_simp) ?_
  refine takeT 8 (v:=.agg #[U i6 (xmn m1 m1),U i6 (xmx m2 m2)]) rfl rfl (by kernel_rfl) (by kernel_rfl) (by kernel_rfl) rfl (fun _ _ _ h=>h) (fun _=>rfl) rfl (fun w'=>by go_simp) ?_
  refine takeT 9 (v:=U i6 0) rfl rfl (by kernel_rfl) (by kernel_rfl) (by kernel_rfl) rfl (fun _ _ _ h=>h) (fun _=>rfl) rfl (fun w'=>by go_simp) ?_
  refine takeT 10 (v:=.pointer (some ⟨b,0,none⟩)) rfl rfl (by kernel_rfl) (by kernel_rfl) (by kernel_rfl) rfl (fun _ _ _ h=>h) (fun _=>rfl) rfl (fun w'=>by go_simp) ?_
  refine takeT 11 (v:=.pointer (some ⟨b,0,none⟩)) rfl rfl (by kernel_rfl) (by kernel_rfl) (by kernel_rfl) rfl (fun _ _ _ h=>h) (fun _=>rfl) rfl (fun w'=>by go_simp) ?_
  obtain⟨p1,p2,p3⟩:=cells_at t3
  have q0:=p1 0
  have q1:=p1 1
  simp at q0 q1
  refine lT 12 (Cl.all (by kernel_rfl)) (by kernel_rfl) rfl rfl ((w3.setCell ⟨b,0,none⟩ (U i6 (xmn m1 m1))).setCell ⟨b,1,none⟩ (U i6 (xmx m2 m2))) (by go_simp) ?_
  refine doneL (Cl.all (by kernel_rfl)) (by kernel_rfl) ?_ _
  have T3:Hid (Tk ((w3.setCell ⟨b,0,none⟩ (U i6 (xmn m1 m1))).setCell ⟨b,1,none⟩ (U i6 (xmx m2 m2))) b ([]++[(m1,m2)])):=by unfold Hid Tk;rw [HS.out];exact two_of t3
  clear p1 p2 p3 q0 q1 t3 hA S2
  go_wp2
  go_end0
  exact⟨⟨_,rfl⟩,T3.out,(S3.out.set (.inl rfl)).set (.inl rfl)⟩
 | cons y l =>
  have hm:=hc (by simp)
  have t1:=T0
  unfold Tk at t1
  rw [hm] at t1
  simp only [List.isEmpty_cons,Bool.not_false] at t1
  have s1:SB b W w0 [(W.heap.size,#[U i6 x1,U i6 x2],28)]:=s0
  obtain⟨p1,p2,p3⟩:=cells_at t1
  clear hx hL hT hn hc T0 hv hm
  go_enter Tryz.func22,Tryz.ntmps22
  go_upto_region 1 with fail
  try rw [hw0]
  clear hw0
  go_upto_region 3 with fail
  clear p1 p2 p3 c0 f0 z0 s0
  obtain⟨w1,hw1⟩:∃ w1,w0=w1:=⟨_,rfl⟩
  rw [hw1] at t1 s1 ⊢
  clear hw1
  refine regionL (Cl [6] fun w'=>w'.heap[b]? = some (.cells #[U i6 m1,U i6 m2,.bool true] 86 (0,0))∧w'.heap[W.heap.size]? = some (.cells #[U i6 x1,U i6 x2] 28 (0,0))) hmx ?_
  obtain⟨wd,hwd⟩:∃ wd,w1.drew=wd:=⟨_,rfl⟩
  have hdd:Below w1.heap.size w1 wd:=by rw [← hwd];exact (Below.refl _ _).drew
  rw [hwd]
  have hA:Hid (wd.heap[b]? = some (.cells #[U i6 m1,U i6 m2,.bool true] 86 (0,0))):=(hdd.block b (lt_of_heap t1)).trans t1
  have S2:Hid (SB b W wd [(W.heap.size,#[U i6 x1,U i6 x2],28)]):=s1.call hdd
  clear hwd hdd t1 s1
  refine takeT 1 (v:=.pointer (some ⟨b,0,none⟩)) rfl rfl (by kernel_rfl) (by kernel_rfl) (by kernel_rfl) rfl (fun _ _ _ h=>h) (fun _=>rfl) rfl (fun w'=>by go_simp) ?_
  refine takeT 2 (v:=.pointer (some ⟨b,0,none⟩)) rfl rfl (by kernel_rfl) (by kernel_rfl) (by kernel_rfl) rfl (fun _ _ _ h=>h) (fun _=>rfl) rfl (fun w'=>by go_simp) ?_
  refine takeT 3 (v:=.pointer (some ⟨b,0,none⟩)) rfl rfl (by kernel_rfl) (by kernel_rfl) (by kernel_rfl) rfl (fun _ _ _ h=>h) (fun _=>rfl) rfl (fun w'=>by go_simp) ?_
  refine takeG 4 6 (v:=.agg #[U i6 m1,U i6 m2]) rfl rfl (by kernel_rfl) (by kernel_rfl) (by kernel_rfl) (by kernel_rfl) (by kernel_rfl) rfl rfl (fun _ _ _ h=>h) (fun _=>rfl) rfl (fun w' hw'=>run_la 28 (.tmp 20) rfl ⟨b,0,none⟩ (by kernel_rfl) [U i6 m1,U i6 m2] _ (fun j v hj=>by
   rw [Addr.add_lit,(cells_at hw'.1).1]
   have:=(List.getElem?_eq_some_iff.1 hj).1
   rcases (show j=0∨j=1 by simp at this; omega) with rfl | rfl<;>simpa using hj) Tryz.underlying28 rfl (by kernel_rfl)) ?_
  refine takeG 5 6 (v:=.agg #[U i6 x1,U i6 x2]) rfl rfl (by kernel_rfl) (by kernel_rfl) (by kernel_rfl) (by kernel_rfl) (by kernel_rfl) rfl rfl (fun _ _ _ h=>h) (fun _=>rfl) rfl (fun w' hw'=>run_la 28 (.tmp 3) rfl ⟨W.heap.size,0,none⟩ (by kernel_rfl) [U i6 x1,U i6 x2] _ (fun j v hj=>by
   rw [Addr.add_lit,(cells_at hw'.2).1]
   have:=(List.getElem?_eq_some_iff.1 hj).1
   rcases (show j=0∨j=1 by simp at this; omega) with rfl | rfl<;>simpa using hj) Tryz.underlying28 rfl (by kernel_rfl)) ?_
  refine takeT 0 (v:=.pointer (some ⟨b,0,none⟩)) rfl rfl (by kernel_rfl) (by kernel_rfl) (by kernel_rfl) rfl (fun _ _ _ h=>h) (fun _=>rfl) rfl (fun w'=>by go_simp) ?_
  refine lK 6 (Cl.of ⟨hA.out,S2.out.h1⟩) (by kernel_rfl) rfl rfl 41 #[.agg #[U i6 m1,U i6 m2],.agg #[U i6 x1,U i6 x2]] (by kernel_rfl) (HH.out wd) ?_
  rintro e w3 ⟨rfl,hb3⟩
  refine⟨_,rfl,?_⟩
  have t3:=(hb3.block b (lt_of_heap hA.out)).trans hA.out
  have S3:Hid (Tch b W w3):=(S2.out.call hb3).1
  refine lR 7 (Cl.all (by kernel_rfl)) (by kernel_rfl) rfl rfl (.tuple #[.agg #[U i6 (xmn m1 x1),U i6 (xmx m2 x2)],U i6 0]) w3 (by go_simp) ?_
  refine takeT 8 (v:=.agg #[U i6 (xmn m1 x1),U i6 (xmx m2 x2)]) rfl rfl (by kernel_rfl) (by kernel_rfl) (by kernel_rfl) rfl (fun _ _ _ h=>h) (fun _=>rfl) rfl (fun w'=>by go_simp) ?_
  refine takeT 9 (v:=U i6 0) rfl rfl (by kernel_rfl) (by kernel_rfl) (by kernel_rfl) rfl (fun _ _ _ h=>h) (fun _=>rfl) rfl (fun w'=>by go_simp) ?_
  refine takeT 10 (v:=.pointer (some ⟨b,0,none⟩)) rfl rfl (by kernel_rfl) (by kernel_rfl) (by kernel_rfl) rfl (fun _ _ _ h=>h) (fun _=>rfl) rfl (fun w'=>by go_simp) ?_
  refine takeT 11 (v:=.pointer (some ⟨b,0,none⟩)) rfl rfl (by kernel_rfl) (by kernel_rfl) (by kernel_rfl) rfl (fun _ _ _ h=>h) (fun _=>rfl) rfl (fun w'=>by go_simp) ?_
  obtain⟨p1,p2,p3⟩:=cells_at t3
  have q0:=p1 0
  have q1:=p1 1
  simp at q0 q1
  refine lT 12 (Cl.all (by kernel_rfl)) (by kernel_rfl) rfl rfl ((w3.setCell ⟨b,0,none⟩ (U i6 (xmn m1 x1))).setCell ⟨b,1,none⟩ (U i6 (xmx m2 x2))) (by go_simp) ?_
  refine doneL (Cl.all (by kernel_rfl)) (by kernel_rfl) ?_ _
  have T3:Hid (Tk ((w3.setCell ⟨b,0,none⟩ (U i6 (xmn m1 x1))).setCell ⟨b,1,none⟩ (U i6 (xmx m2 x2))) b ((y :: l)++[(x1,x2)])):=by unfold Hid Tk;rw [HS.out];exact two_of t3
  clear p1 p2 p3 q0 q1 t3 hA S2
  go_wp2
  go_end0
  exact⟨⟨_,rfl⟩,T3.out,(S3.out.set (.inl rfl)).set (.inl rfl)⟩
attribute [local go_sem] Oper.semAt_some
theorem run_store_func {P:Program} {w:World} {a:Addr} {m:Mode} (fn:Fn) (f c:Array Value):(store a (.func fn f c) m).run P w=stored P w a (.func fn f c) m:=run_store P w a _ m rfl
attribute [local go_sem] run_store_func
def piT (F:List (Int×Int)→List (Int×Int)) (R:Nat→List (Int×Int)) (N:Nat):List (Int×Int):=(List.range N).flatMap fun k=>F (R k)
theorem piT_succ (F:List (Int×Int)→List (Int×Int)) (R:Nat→List (Int×Int)) (k:Nat):piT F R (k+1)=piT F R k++F (R k):=by unfold piT;rw [List.range_succ,List.flatMap_append];simp
theorem mem_piT {F:List (Int×Int)→List (Int×Int)} {R:Nat→List (Int×Int)} {N:Nat} {x:Int×Int}:x∈piT F R N ↔ ∃ k,k<N∧x∈F (R k):=by simp [piT]
def Pik (W:World) (gf:Nat) (cl:Array Value) (F:List (Int×Int)→List (Int×Int)):Prop :=
 ∀ W' (v:Value) (E L:List (Int×Int)) (nb b:Nat),Below W.heap.size W W'→Rb E→0<E.length→E.length≤512→SpV W' v E→Nb nb v→b+1≤nb→Tk W' b L→(∀ y∈L,Vd 10000000000 y)→Calls Tryz.prog gf (#[v,fTk b]++cl) W' fun e w'=>(∃ u,e=.returned u)∧Tk w' b (L++F E)∧Tch b W' w'
theorem bhull_any (q:Nat) (ch n:Int) (fa:Option Addr) (fl fc:Nat) (bi slo shi p h w c:Int) (g0:Nat) (TL:Nat→List (Int×Int)) (N:Nat) (hn:n=(N:Int)) (hN:N≤100000000) (hfl:fl≤512) (hTl:∀ k,k<N→(TL k).length=fl) (R:Nat→List (Int×Int)) (hRe:(fun k=>enL slo shi p (TL k))=R) (F:List (Int×Int)→List (Int×Int)) (gf:Nat) (lb:Array Value) (W:World)
  (hq:W.heap[q]? = some (.cells #[U i6 ch,U i6 n,.slice fa fl fc,U i6 bi,U i6 slo,U i6 shi,U i6 p,U i6 p,U i6 h,U i6 w,U i6 c,U i6 0,U i6 0,.slice (some ⟨g0,0,none⟩) 1 1,U i6 0] 55 (0,0)))
  (hE:∀ W' (k:Nat),Below W.heap.size W W'→k<N→Calls Tryz.prog 56 #[.pointer (some ⟨q,0,none⟩),U i6 (k:Int)] W' fun e w'=>(∃ u,e=.returned u∧TV w' u (TL k)∧∀ a n c,u=.slice (some a) n c→a.block<W.heap.size∨W'.heap.size≤a.block)∧Below W'.heap.size W' w')
  (hPd:∀ W' (k:Nat) (t:Int×Int),Below W.heap.size W W'→k<N→t∈TL k→Calls Tryz.prog 57 #[.pointer (some ⟨q,0,none⟩),.agg #[U i6 t.1,U i6 t.2]] W' fun e w'=>e=.returned (.agg #[U i6 (tmE slo shi p t).1,U i6 (tmE slo shi p t).2])∧Below W'.heap.size W' w')
  (eg:∀ args w,(callFunc gf args).run Tryz.prog w=.ok (.enter gf args) w)
  (hP:∀ W' (v:Value) (k nb b:Nat) (L:List (Int×Int)),Below W.heap.size W W'→k<N→SpV W' v (R k)→Nb nb v→b+1≤nb→Tk W' b L→(∀ y∈L,Vd 10000000000 y)→Calls Tryz.prog gf (#[v,fTk b]++lb) W' fun e w'=>(∃ u,e=.returned u)∧Tk w' b (L++F (R k))∧Tch b W' w')
  (hF:∀ k,k<N→∀ x∈F (R k),Vd 10000000000 x) :
  Calls Tryz.prog 18 #[.pointer (some ⟨q,0,none⟩),.func (.func gf) #[] lb] W fun e w'=>e=.returned (.agg #[U i6 (huA (piT F R N)).1,U i6 (huA (piT F R N)).2])∧Below W.heap.size W w':=by
 have HE:Hid (∀ W' (k:Nat),Below W.heap.size W W'→k<N→_):=hE
 have HPd:Hid (∀ W' (k:Nat) (t:Int×Int),Below W.heap.size W W'→k<N→t∈TL k→_):=hPd
 have HRe:Hid ((fun k=>enL slo shi p (TL k))=R):=hRe
 have HP:Hid (∀ W' (v:Value) (k nb b:Nat) (L:List (Int×Int)),Below W.heap.size W W'→k<N→SpV W' v (R k)→Nb nb v→b+1≤nb→Tk W' b L→(∀ y∈L,Vd 10000000000 y)→_):=hP
 have HL:Hid (∀ k,k<N→∀ y∈piT F R k,Vd 10000000000 y):=fun k hk y hy=>by
  obtain⟨j,hj,hy'⟩:=mem_piT.1 hy
  exact hF j (by omega) y hy'
 have HQ:Hid (W.heap[q]? = _):=hq
 have hqz:=lt_of_heap hq
 have s1:=(((St.start W).new (c:=#[.func (.func gf) #[] lb]) (t:=64)).new (c:=#[U i6 0,U i6 0]) (t:=28)).new (c:=#[U i6 0,U i6 0,.bool false]) (t:=86)
 simp only [World.size_alloc] at s1
 have HN:Hid (n=(N:Int)):=hn
 clear hE hP hPd hF hq hn hRe
 unfold fTk at HP
 have hfn:∀ f,Fence.wide.fn f:=fun _=>trivial
 have hdp:Fence.wide.depth=none:=rfl
 have hmf:∀ (fn:Fn) (first cap:Array Value) (w:World),(Instr.makeFunc fn first cap).run Tryz.prog w=.ok (.func fn first cap) w:=fun _ _ _ _=>rfl
 refine (callsIn_wide (n:=3)).1 ?_
 refine callsIn_of_wp_marks Tryz.func18 rfl trivial ?_ rfl
 simp only [Tryz.ntmps18,List.size_toArray,List.length_cons,List.length_nil,Nat.reduceAdd,Nat.reduceSub,Array.replicate_succ,Array.replicate_zero,List.push_toArray,List.append_toArray,List.nil_append,List.cons_append]
 refine wpIn_wide.2 ?_
 go_upto_region 2 with fail
 obtain⟨w8,hw8⟩:∃ w8,((W.alloc (.cells #[.func (.func gf) #[] lb] 64)).alloc (.cells #[U i6 0,U i6 0] 28)).alloc (.cells #[U i6 0,U i6 0,.bool false] 86)=w8:=⟨_,rfl⟩
 rw [hw8] at s1 ⊢
 clear hw8
 obtain⟨b,hb⟩:∃ b,W.heap.size+1+1=b:=⟨_,rfl⟩
 rw [hb] at s1 ⊢
 have T8:Hid (Tk w8 b []):=s1.h1
 have HS8:Hid (St W w8 [(W.heap.size+1,#[U i6 0,U i6 0],28),(W.heap.size,#[.func (.func gf) #[] lb],64)]):=s1.tail
 have hB8:b<w8.heap.size:=lt_of_heap s1.h1
 have hbW:W.heap.size+2=b:=by omega
 clear s1 hb
 go_wp2_with fail
 refine (brows_any q W.heap.size ch n fa fl fc bi slo shi p h w c g0 TL N HN.out hN hfl hTl w8 HS8.out.size hqz ((HS8.out.below.block q hqz).trans HQ.out) (fun W' k hb hk=>HE.out W' k (HS8.out.below.trans hb) hk) (fun W' k t hb hk ht=>HPd.out W' k t (HS8.out.below.trans hb) hk ht)).mono ?_
 rintro e w9 ⟨⟨lb',rfl,hsq⟩,hb9,hc9⟩
 rw [HRe.out] at hsq
 have HSQ:Hid (Sq _ _ _ _ w9 _ _ _):=hsq
 have HS9:Hid (St W w9 [(W.heap.size+1,#[U i6 0,U i6 0],28),(W.heap.size,#[.func (.func gf) #[] lb],64)]):=HS8.out.call hb9
 have HT9:Hid (Tk w9 b []):=T8.out.below hb9
 have hz9:=hb9.size
 clear hsq hb9 hc9 HS8 T8
 go_wp2
 refine (wpIn_wide (n:=5)).1 ?_
 refine range_sq HSQ.out rfl rfl (by omega) HS9.out.size
  (fun k W'=>St W W' [(W.heap.size+1,#[U i6 0,U i6 0],28),(W.heap.size,#[.func (.func gf) #[] lb],64)]∧Tk W' b (piT F R k)∧w8.heap.size≤W'.heap.size)
  ?own (fun _ _ _=>trivial) ⟨HS9.out,by simpa [piT] using HT9.out,hz9⟩ ?a₁ ?assign ?body ?done
 case own =>
  rintro k A B row ⟨h1,h2,h3⟩ hg hr
  have hz:=HS9.out.size
  exact⟨⟨h1.1.grown hg h1.1.size (fun r e=>by have:=hr r e; omega),fun x hx=>⟨(hg.block x.1 (lt_of_heap (h1.2 x hx).1) (fun e=>by have h7:=hr _ e.symm; have h8:x.1≤W.heap.size+1:=(by simp only [List.mem_cons,List.not_mem_nil,or_false] at hx; rcases hx with rfl | rfl<;>simp); omega)).trans (h1.2 x hx).1,(h1.2 x hx).2⟩⟩,h2.turn hg (fun r e=>by have:=hr r e; omega),Nat.le_trans h3 hg.size⟩
 case assign =>
  intro l x W' K hK
  gi_wp2
  exact hK
 case done =>
  rintro D W' hD ⟨h1,h2,h3⟩ hK
  have hz:=HS9.out.size
  obtain⟨m1,m2,hm⟩:∃ m1 m2,huA (piT F R N)=(m1,m2):=⟨_,_,rfl⟩
  have HM:Hid (huA (piT F R N)=(m1,m2)):=hm
  have t1:=h2
  unfold Tk at t1
  rw [hm] at t1
  simp only at t1
  obtain⟨p1,p2,p3⟩:=cells_at t1
  have h1':=h1
  obtain⟨c1,f1,z1,-⟩:=h1'.rules
  have sF:=(h1'.set2 (u:=U i6 m1) (v:=U i6 m2) (by simp)).turn (grownBy_putObj' _ D (.deferred none)) (fun r e=>by cases e;exact⟨by omega,_,(Below.heap_setCell _ _ _ _ (by show D≠W.heap.size+1;omega)).trans ((Below.heap_setCell _ _ _ _ (by show D≠W.heap.size+1;omega)).trans hK),rfl⟩)
  obtain⟨cF,-⟩:=sF.rules
  have HFb:Hid (Below W.heap.size W _):=sF.below
  clear h1 h1' h2 sF hm t1
  go_wp2
  refine⟨by simp,.inl ⟨_,_,rfl,run_takeDeferred ((Below.heap_setCell _ _ _ _ (by show D≠W.heap.size+1;omega)).trans ((Below.heap_setCell _ _ _ _ (by show D≠W.heap.size+1;omega)).trans hK)),?_⟩⟩
  exact⟨.agg #[U i6 m1,U i6 m2],by simp [results,Tryz.f18,go_sem,cF],by rw [HM.out],HFb.out⟩
 case body =>
  rintro l k x W' ⟨h1,h2,h3⟩ hk hx hxn
  obtain⟨c1,f1,z1,c2,f2,z2,-⟩:=h1.rules
  have HC:Hid _:=HP.out W' x k w8.heap.size b (piT F R k) h1.below hk hx hxn (by omega) h2 (HL.out k hk)
  have H1:Hid (St W W' [(W.heap.size+1,#[U i6 0,U i6 0],28),(W.heap.size,#[.func (.func gf) #[] lb],64)]):=h1
  have HPs:Hid (piT F R (k+1)=piT F R k++F (R k)):=piT_succ F R k
  obtain⟨xa,xc,hxe,-⟩:=hx
  subst hxe
  clear h1 h2 HSQ HS9 HT9
  gi_wp2_with fail
  refine (CallsIn.inRound l (callsIn_wide.2 HC.out)).mono ?_
  rintro e w1 ⟨⟨u,rfl⟩,tk1,tc1⟩
  have S1:Hid (St W w1 [(W.heap.size+1,#[U i6 0,U i6 0],28),(W.heap.size,#[.func (.func gf) #[] lb],64)]):=H1.out.tch tc1 (by omega) (by simp;omega)
  have T1:Hid (Tk w1 b (piT F R (k+1))):=by unfold Hid;rw [HPs.out];exact tk1
  have K1:Hid (Tch b W' w1):=tc1
  have hs1:=H1.out.size
  clear HC H1 tk1 tc1 c1 f1 z1 c2 f2 z2
  gi_wp2
  have hz9':=K1.out.size
  exact⟨K1.out.from (by omega),K1.out.kps (by omega) hs1 (by simp;omega),K1.out.kx (fun a n c e=>by have:=hxn a n c e;omega),S1.out,T1.out,by omega⟩
open Go.ChangeShapes Go.WideShapes Go.ChangeAt Go.RowKit Go.Deep
def ORow (nc:Nat) (R:List Value→Prop) (w:World) (a:Option Addr) (len cap:Nat):Prop :=
 len≤cap∧cap≤maxLen∧(a=none→cap=0)∧∀ x,a=some x→∀ i,i<len→∃ cs,cs.length=nc∧R cs∧∀ j,j<nc→w.cell? (x.add (i*nc+j))=cs[j]?
def Sz {H:Type} (t:TypeId) (d:DataW H):Prop:=∀ n∈d.weights Tryz.prog t,n≤reachBytes
theorem weightsAll_mem {H:Type} {e:TypeId}:∀ {ds:List (DataW H)} {d:DataW H},d∈ds→∀ n∈d.weights Tryz.prog e,n∈DataW.weightsAll Tryz.prog e ds
 | x :: r,d,hd,n,hn=>by
  simp only [DataW.weightsAll,List.mem_append]
  rcases List.mem_cons.1 hd with rfl | hd
  ·exact .inl hn
  ·exact .inr (weightsAll_mem hd n hn)
theorem sz_arg {H:Type} {ts:List TypeId} {ds:List (DataW H)} (h:(DataW.weightsEach Tryz.prog ts ds).all (·≤reachBytes)=true) {j:Nat} {t:TypeId} {d:DataW H} (ht:ts[j]? = some t) (hd:ds[j]? = some d):Sz t d:=fun n hn=>by
 simpa using List.all_eq_true.1 h n (DataW.weights_mem_each ht hd n hn)
theorem Sz.slice {H:Type} {t e:TypeId} {el sp:List (DataW H)} (h:Sz t (.slice el sp)) (hu:Tryz.prog.underlying t=some (.slice e)):(el.length+sp.length)*Tryz.prog.bytesOf e≤reachBytes∧∀ x∈el,Sz e x:=by
 refine⟨h _ (by simp [DataW.weights,hu]),fun x hx n hn=>h n ?_⟩
 simp only [DataW.weights,hu]
 exact List.mem_cons_of_mem _ (List.mem_append_left _ (weightsAll_mem hx n hn))
theorem Sz.part {H:Type} {t:TypeId} {fs:Array Field} {ps:List (DataW H)} (h:Sz t (.agg ps)) (hu:Tryz.prog.underlying t=some (.struct fs)) {j:Nat} {f:Field} {d:DataW H} (hf:fs[j]? = some f) (hd:ps[j]? = some d):Sz f.type d:=fun n hn=>by
 refine h n ?_
 simp only [DataW.weights,hu]
 refine DataW.weights_mem_each (j:=j) ?_ hd n hn
 rw [List.getElem?_map,Array.getElem?_toList,hf]
 rfl
theorem openIz {H:Type} {enc:TypeId×Value→H} {W:World} {fuel:Nat} {a:Option Addr} {len cap:Nat} {d:DataW H} {p:List MemPlace} {t e:TypeId} {k:IntKind} {b:Nat}
  (ht:Tryz.prog.underlying t=some (.slice e)) (he:Tryz.prog.underlying e=some (.int k)) (hc:Tryz.prog.cellsOf e=1) (hb:Tryz.prog.bytesOf e=b)
  (hf:DataW.trod enc Tryz.prog W 0 (fun _=>true) true fuel t (Value.slice a len cap).cells.toList=some (d,p)) (hs:Sz t d):∃ zs,IRow k W a len cap zs∧len*b≤140737488351232:=by
 obtain⟨zs,h1,h2⟩:=openI ht he hc hf
 refine⟨zs,h1,?_⟩
 rcases h2 with ⟨_,h0⟩ | ⟨el,sp,rfl,hl⟩
 ·rw [h0];omega
 ·have:=(hs.slice ht).1
  rw [hb,hl] at this
  simp only [reachBytes] at this
  have e2:len*b≤(len+sp.length)*b:=Nat.mul_le_mul_right _ (by omega)
  omega
theorem openF {H:Type} {enc:TypeId×Value→H} {W:World} {fuel:Nat} {cs:List Value} {x:DataW H×List MemPlace} {t e:TypeId} {k:IntKind} {b:Nat}
  (ht:Tryz.prog.underlying t=some (.slice e)) (he:Tryz.prog.underlying e=some (.int k)) (hc:Tryz.prog.cellsOf e=1) (hb:Tryz.prog.bytesOf e=b)
  (hf:DataW.trod enc Tryz.prog W 0 (fun _=>true) true fuel t cs=some x) (hs:Sz t x.1):∃ a len cap zs,cs=[.slice a len cap]∧IRow k W a len cap zs∧len*b≤140737488351232:=by
 rcases open_slice ht hf with ⟨rfl,_⟩ | ⟨a,l,c,m,n,D,Pl,rfl,_⟩
 ·obtain⟨zs,h1,h2⟩:=openIz (a:=none) (len:=0) (cap:=0) (d:=x.1) (p:=x.2) ht he hc hb hf hs
  exact⟨none,0,0,zs,rfl,h1,h2⟩
 ·obtain⟨zs,h1,h2⟩:=openIz (a:=some a) (len:=l) (cap:=c) (d:=x.1) (p:=x.2) ht he hc hb hf hs
  exact⟨some a,l,c,zs,rfl,h1,h2⟩
theorem openOz {H:Type} {enc:TypeId×Value→H} {W:World} {fuel:Nat} {a:Option Addr} {len cap:Nat} {d:DataW H} {p:List MemPlace} {t e:TypeId} {nc b:Nat} (R:List Value→Prop)
  (ht:Tryz.prog.underlying t=some (.slice e)) (ce:Tryz.prog.cellsOf e=nc) (hb:Tryz.prog.bytesOf e=b) (hR:∀ n cs x,DataW.trod enc Tryz.prog W 0 (fun _=>true) true n e cs=some x→Sz e x.1→R cs)
  (hf:DataW.trod enc Tryz.prog W 0 (fun _=>true) true fuel t (Value.slice a len cap).cells.toList=some (d,p)) (hs:Sz t d):ORow nc R W a len cap∧len*b≤140737488351232:=by
 rcases open_slice ht hf with ⟨hcs,hx⟩ | ⟨x,l,c,m,n,D,Pl,hcs,_,hl,hm,hmm,hx,hcell⟩
 ·simp [Value.cells] at hcs
  obtain⟨rfl,rfl,rfl⟩:=hcs
  exact⟨⟨Nat.le_refl _,by unfold maxLen;omega,fun _=>rfl,fun x h=>by cases h⟩,by omega⟩
 ·simp [Value.cells] at hcs
  obtain⟨rfl,rfl,rfl⟩:=hcs
  simp only [Prod.mk.injEq] at hx
  simp only [if_true] at hmm
  obtain⟨rfl,-⟩:=hx
  obtain⟨hz,hz2⟩:=hs.slice ht
  refine⟨⟨hl,hm,fun h=>(by cases h),fun y hy i hi=>?_⟩,?_⟩
  ·obtain rfl:=Option.some.inj hy
   obtain⟨cs,h1,h2⟩:=hcell i (by omega)
   rw [ce] at h1
   obtain⟨_,hlen,hc⟩:=World.cells?_some h1
   refine⟨cs,hlen,hR _ _ _ h2 (hz2 _ (List.mem_map.2 ⟨i,by simpa using hi,rfl⟩)),fun j hj=>?_⟩
   have:=hc j (by omega)
   rw [Addr.add_add] at this
   exact this
  ·rw [hb] at hz
   simp only [List.length_map,List.length_range,reachBytes] at hz
   have e2:len*b≤(len+(m-len))*b:=Nat.mul_le_mul_right _ (by omega)
   omega
theorem openFo {H:Type} {enc:TypeId×Value→H} {W:World} {fuel:Nat} {cs:List Value} {x:DataW H×List MemPlace} {t e:TypeId} {nc b:Nat} (R:List Value→Prop)
  (ht:Tryz.prog.underlying t=some (.slice e)) (ce:Tryz.prog.cellsOf e=nc) (hb:Tryz.prog.bytesOf e=b) (hR:∀ n cs x,DataW.trod enc Tryz.prog W 0 (fun _=>true) true n e cs=some x→Sz e x.1→R cs)
  (hf:DataW.trod enc Tryz.prog W 0 (fun _=>true) true fuel t cs=some x) (hs:Sz t x.1):∃ a len cap,cs=[.slice a len cap]∧ORow nc R W a len cap∧len*b≤140737488351232:=by
 rcases open_slice ht hf with ⟨rfl,_⟩ | ⟨a,l,c,m,n,D,Pl,rfl,_⟩
 ·have:=openOz (a:=none) (len:=0) (cap:=0) (d:=x.1) (p:=x.2) R ht ce hb hR hf hs
  exact⟨none,0,0,rfl,this⟩
 ·have:=openOz (a:=some a) (len:=l) (cap:=c) (d:=x.1) (p:=x.2) R ht ce hb hR hf hs
  exact⟨some a,l,c,rfl,this⟩
end Go.Proofs.YtccoanknofhmaaaGreat
