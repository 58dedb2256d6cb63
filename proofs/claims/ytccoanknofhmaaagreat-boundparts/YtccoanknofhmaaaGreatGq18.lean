/- The document's one of layer 8: the error of an op, the shape that it makes. -/
import Derived.Test.YtccoanknofhmaaaGreatGq12
import Derived.Test.YtccoanknofhmaaaGreatGq16
import Derived.Test.YtccoanknofhmaaaGreatGq17
namespace Go.Proofs.YtccoanknofhmaaaGreat
open Go.Value renaming int → U, slice → Sl
open Go.IntKind renaming i64 → i6
set_option maxRecDepth 100000
set_option maxHeartbeats 16000000
open Go.ChangeShapes Go.WideShapes Go.ChangeAt Go.RowKit
set_option linter.unusedVariables false
theorem op_1 {k a b m kh kw sh sw tp lf bt rt:Int} {lw lb:Nat} {sm ss um us z p lo hi:Int} {L:List (Int×Int×Int)} {x:Int} (hf:fmE k a b L.length (ozB k b m kh kw sh sw tp lf bt rt lw lb sm ss um us z p)=x) (hx:x≠0):opE k a b m kh kw sh sw tp lf bt rt lw lb sm ss um us z p lo hi L=x:=by unfold opE;rw [hf,if_pos hx]
theorem op_2 {k a b m kh kw sh sw tp lf bt rt:Int} {lw lb:Nat} {sm ss um us z p lo hi:Int} {L:List (Int×Int×Int)} {h w c x:Int} (hf:Hid (fmE k a b L.length (ozB k b m kh kw sh sw tp lf bt rt lw lb sm ss um us z p)=0)) (hA:ShA L a=(h,w,c)) (hx:mkE k m kh kw sh sw tp lf bt rt h w c=x) (h0:x≠0):opE k a b m kh kw sh sw tp lf bt rt lw lb sm ss um us z p lo hi L=x:=by
 unfold opE;rw [hf.out,if_neg (by decide),hA];simp only;rw [hx,if_pos h0]
theorem op_3 {k a b m kh kw sh sw tp lf bt rt:Int} {lw lb:Nat} {sm ss um us z p lo hi:Int} {L:List (Int×Int×Int)} {h w c:Int} (hf:Hid (fmE k a b L.length (ozB k b m kh kw sh sw tp lf bt rt lw lb sm ss um us z p)=0)) (hA:ShA L a=(h,w,c)) (hx:mkE k m kh kw sh sw tp lf bt rt h w c=0) (hn:k=6∧ShA L a≠ShA L b):opE k a b m kh kw sh sw tp lf bt rt lw lb sm ss um us z p lo hi L=50:=by
 unfold opE
 rw [if_neg (by rw [hf.out];decide),if_neg (by rw [hA];simp only;rw [hx];decide),if_pos hn]
theorem op_4 {k a b m kh kw sh sw tp lf bt rt:Int} {lw lb:Nat} {sm ss um us z p lo hi:Int} {L:List (Int×Int×Int)} {h w c st:Int} (hf:Hid (fmE k a b L.length (ozB k b m kh kw sh sw tp lf bt rt lw lb sm ss um us z p)=0)) (hA:ShA L a=(h,w,c)) (hx:mkE k m kh kw sh sw tp lf bt rt h w c=0) (hn:¬ (k=6∧ShA L a≠ShA L b)) (hst:stR k kh kw h w c=st) (hr:rdB k=true∧512<st):opE k a b m kh kw sh sw tp lf bt rt lw lb sm ss um us z p lo hi L=84:=by
 unfold opE
 rw [if_neg (by rw [hf.out];decide),if_neg (by rw [hA];simp only;rw [hx];decide),if_neg hn,if_pos (by unfold st3;rw [hA];simp only;rw [hst];exact hr)]
theorem op_n {k a b m kh kw sh sw tp lf bt rt:Int} {lw lb:Nat} {sm ss um us z p lo hi:Int} {L:List (Int×Int×Int)} {h w c st C:Int} (hf:Hid (fmE k a b L.length (ozB k b m kh kw sh sw tp lf bt rt lw lb sm ss um us z p)=0)) (hA:ShA L a=(h,w,c)) (hx:mkE k m kh kw sh sw tp lf bt rt h w c=0) (hC:(mkS k m kh kw sh sw tp lf bt rt h w c).2.2=C) (hn:¬ (k=6∧ShA L a≠ShA L b)) (hst:stR k kh kw h w c=st) (hr:¬ (rdB k=true∧512<st)):opE k a b m kh kw sh sw tp lf bt rt lw lb sm ss um us z p lo hi L=nuE k C st lw lb sm ss um us z p lo hi:=by
 unfold opE
 rw [if_neg (by rw [hf.out];decide),if_neg (by rw [hA];simp only;rw [hx];decide),if_neg hn,if_neg (by unfold st3;rw [hA];simp only;rw [hst];exact hr)]
 unfold st3 mk3
 rw [hA]
 simp only
 rw [hC,hst]
def onS (k m kh kw sh sw tp lf bt rt e:Int) (s:Int×Int×Int):Int×Int×Int:=if e=0 then mk3 k m kh kw sh sw tp lf bt rt s else (0,0,0)
theorem onS_no {k m kh kw sh sw tp lf bt rt e:Int} {s:Int×Int×Int} (h:e≠0):onS k m kh kw sh sw tp lf bt rt e s=(0,0,0):=if_neg h
theorem St.out3 {w0 w:World} {l l0:List (Nat×Array Value×TypeId)} {R:Nat} {a b c:Value} (h:St w0 w l0) (hs:∀ x∈l,x∈l0) (hR:w0.heap.size≤R) (hl:∀ x∈l,x.1≠R) :
  St w0 (((w.setCell ⟨R,0,none⟩ a).setCell ⟨R,1,none⟩ b).setCell ⟨R,2,none⟩ c) l :=
 ⟨set3b h.1 hR,fun x hx=>⟨by rw [Below.heap_setCell _ _ _ _ (hl x hx),Below.heap_setCell _ _ _ _ (hl x hx),Below.heap_setCell _ _ _ _ (hl x hx)];exact (h.2 x (hs x hx)).1,(h.2 x (hs x hx)).2⟩⟩
theorem St.lt {w0 w:World} {l:List (Nat×Array Value×TypeId)} (h:St w0 w l):∀ x∈l,x.1<w.heap.size:=fun x hx=>lt_of_heap (h.2 x hx).1
theorem one_f (k a b m kh kw sh sw tp lf bt rt:Int) (wa:Option Addr) (lw cw:Nat) (ba:Option Addr) (lb cb:Nat) (sm ss um us z p lo hi:Int) (W0 W:World) (g cap n:Nat) (x:Int) (l:List (Nat×Array Value×TypeId)) (s:St W0 W l) (hn:n≤65) (hl:lw+lb≤1000000000000000)
  (hf:fmE k a b n (ozB k b m kh kw sh sw tp lf bt rt lw lb sm ss um us z p)=x) (hx:x≠0) :
  Calls Tryz.prog 77 #[.agg #[U i6 k,U i6 a,U i6 b,U i6 m,U i6 kh,U i6 kw,U i6 sh,U i6 sw,U i6 tp,U i6 lf,U i6 bt,U i6 rt,Sl wa lw cw,Sl ba lb cb,U i6 sm,U i6 ss,U i6 um,U i6 us,U i6 z,U i6 p,U i6 lo,U i6 hi],U i6 (n:Int),Sl (some ⟨g,0,none⟩) n cap] W fun e w'=>e=.returned (.tuple #[.agg #[U i6 0,U i6 0,U i6 0],U i6 x])∧St W0 w' l:=by
 have hlt:=s.lt
 have hsz:=s.size
 have s1:=(s.new (c:=#[U i6 k,U i6 a,U i6 b,U i6 m,U i6 kh,U i6 kw,U i6 sh,U i6 sw,U i6 tp,U i6 lf,U i6 bt,U i6 rt,Sl wa lw cw,Sl ba lb cb,U i6 sm,U i6 ss,U i6 um,U i6 us,U i6 z,U i6 p,U i6 lo,U i6 hi]) (t:=42)).new (c:=#[U i6 0,U i6 0,U i6 0]) (t:=23)
 simp only [World.size_alloc] at s1
 have hO:Hid (∀ w,St W0 w ((W.heap.size+1,#[U i6 0,U i6 0,U i6 0],23) :: (W.heap.size,#[U i6 k,U i6 a,U i6 b,U i6 m,U i6 kh,U i6 kw,U i6 sh,U i6 sw,U i6 tp,U i6 lf,U i6 bt,U i6 rt,Sl wa lw cw,Sl ba lb cb,U i6 sm,U i6 ss,U i6 um,U i6 us,U i6 z,U i6 p,U i6 lo,U i6 hi],42) :: l)→∀ u v y,St W0 (((w.setCell ⟨W.heap.size+1,0,none⟩ u).setCell ⟨W.heap.size+1,1,none⟩ v).setCell ⟨W.heap.size+1,2,none⟩ y) l):=fun w hw u v y=>hw.out3 (fun q hq=>by simp [hq]) (by omega) (fun q hq=>by have:=hlt q hq;omega)
 have hO2:Hid (St W0 ((W.alloc (.cells #[U i6 k,U i6 a,U i6 b,U i6 m,U i6 kh,U i6 kw,U i6 sh,U i6 sw,U i6 tp,U i6 lf,U i6 bt,U i6 rt,Sl wa lw cw,Sl ba lb cb,U i6 sm,U i6 ss,U i6 um,U i6 us,U i6 z,U i6 p,U i6 lo,U i6 hi] 42)).alloc (.cells #[U i6 0,U i6 0,U i6 0] 23)) l):=s1.tail.tail
 by_cases h1:1≤k∧k≤8
 rotate_left
 ·obtain rfl:x=81:=by rw [← hf];exact (fm_81 h1).symm
  clear hf hx hlt
  go_enter Tryz.func77,Tryz.ntmps77
  by_cases k1:k<1
  ·go_wp2
   exact bodyPost_ret (v:=.tuple #[.agg #[U i6 0,U i6 0,U i6 0],U i6 81]) (by simp [results,Tryz.results77,go_sem, *]) rfl ⟨rfl,by first | exact hO2.out | exact hO.out _ s1 _ _ _⟩
  ·have k8:8<k:=by omega
   go_wp2
   exact bodyPost_ret (v:=.tuple #[.agg #[U i6 0,U i6 0,U i6 0],U i6 81]) (by simp [results,Tryz.results77,go_sem, *]) rfl ⟨rfl,by first | exact hO2.out | exact hO.out _ s1 _ _ _⟩
 have k1:¬ k<1:=by omega
 have k8:¬ 8<k:=by omega
 by_cases h2:0≤a∧a<(n:Int)
 rotate_left
 ·obtain rfl:x=82:=by rw [← hf];exact (fm_82 h1 h2).symm
  clear hf hx hlt h1
  go_enter Tryz.func77,Tryz.ntmps77
  by_cases a0:a<0
  ·go_wp2
   exact bodyPost_ret (v:=.tuple #[.agg #[U i6 0,U i6 0,U i6 0],U i6 82]) (by simp [results,Tryz.results77,go_sem, *]) rfl ⟨rfl,by first | exact hO2.out | exact hO.out _ s1 _ _ _⟩
  ·have an:(n:Int)≤a:=by omega
   go_wp2
   exact bodyPost_ret (v:=.tuple #[.agg #[U i6 0,U i6 0,U i6 0],U i6 82]) (by simp [results,Tryz.results77,go_sem, *]) rfl ⟨rfl,by first | exact hO2.out | exact hO.out _ s1 _ _ _⟩
 have a0:¬ a<0:=by omega
 have an:¬ (n:Int)≤a:=by omega
 by_cases h3:k=6∧¬ (0≤b∧b<(n:Int))
 ·obtain rfl:x=82:=by rw [← hf];exact (fm_83 h1 h2 h3).symm
  obtain⟨rfl,h3⟩:=h3
  clear hf hx hlt h1 h2
  go_enter Tryz.func77,Tryz.ntmps77
  by_cases b0:b<0
  ·go_wp2
   exact bodyPost_ret (v:=.tuple #[.agg #[U i6 0,U i6 0,U i6 0],U i6 82]) (by simp [results,Tryz.results77,go_sem, *]) rfl ⟨rfl,by first | exact hO2.out | exact hO.out _ s1 _ _ _⟩
  ·have bn:(n:Int)≤b:=by omega
   go_wp2
   exact bodyPost_ret (v:=.tuple #[.agg #[U i6 0,U i6 0,U i6 0],U i6 82]) (by simp [results,Tryz.results77,go_sem, *]) rfl ⟨rfl,by first | exact hO2.out | exact hO.out _ s1 _ _ _⟩
 have hoz:ozB k b m kh kw sh sw tp lf bt rt lw lb sm ss um us z p=false:=by
  cases q:ozB k b m kh kw sh sw tp lf bt rt lw lb sm ss um us z p with
  | false=>rfl
  | true =>
   exfalso
   apply hx
   rw [← hf,q]
   unfold fmE
   rw [if_neg (by simp [h1]),if_neg (by simp [h2]),if_neg h3,if_neg (by decide)]
 obtain rfl:x=83:=by
  rw [← hf,hoz]
  unfold fmE
  rw [if_neg (by simp [h1]),if_neg (by simp [h2]),if_neg h3,if_pos rfl]
 have hSp:Hid (∀ W,Calls Tryz.prog 91 #[.agg #[U i6 k,U i6 a,U i6 b,U i6 m,U i6 kh,U i6 kw,U i6 sh,U i6 sw,U i6 tp,U i6 lf,U i6 bt,U i6 rt,Sl wa lw cw,Sl ba lb cb,U i6 sm,U i6 ss,U i6 um,U i6 us,U i6 z,U i6 p,U i6 lo,U i6 hi]] W fun e w'=>e=.returned (.bool false)∧Below W.heap.size W w'):=fun W=>by rw [← hoz];exact spare_any k a b m kh kw sh sw tp lf bt rt wa lw cw ba lb cb sm ss um us z p lo hi W h1 hl
 clear hf hx hlt h1 h2 hoz
 by_cases k6:k=6
 ·subst k6
  have b0:¬ b<0:=by omega
  have bn:¬ (n:Int)≤b:=by omega
  clear h3
  go_enter Tryz.func77,Tryz.ntmps77
  go_upto_region 5 with fail
  go_wp2_with ((refine wpList_load_row rfl 42 (.tmp 3) rfl _ rfl 42 _ (0,0) _ s1.h2 Tryz.underlying42 rfl (by kernel_rfl) ?_))
  refine (hSp.out _).mono ?_
  rintro e w2 ⟨rfl,hb⟩
  have s2:=s1.call hb
  obtain⟨c1,f1,z1,-⟩:=s2.rules
  clear hb
  go_wp2
  exact bodyPost_ret (v:=.tuple #[.agg #[U i6 0,U i6 0,U i6 0],U i6 83]) (by simp [results,Tryz.results77,go_sem, *]) rfl ⟨rfl,hO.out _ s2 _ _ _⟩
 ·have k6':(k == 6)=false:=by simpa using k6
  clear h3
  go_enter Tryz.func77,Tryz.ntmps77
  go_upto_region 5 with fail
  go_wp2_with ((refine wpList_load_row rfl 42 (.tmp 3) rfl _ rfl 42 _ (0,0) _ s1.h2 Tryz.underlying42 rfl (by kernel_rfl) ?_))
  refine (hSp.out _).mono ?_
  rintro e w2 ⟨rfl,hb⟩
  have s2:=s1.call hb
  obtain⟨c1,f1,z1,-⟩:=s2.rules
  clear hb
  go_wp2
  exact bodyPost_ret (v:=.tuple #[.agg #[U i6 0,U i6 0,U i6 0],U i6 83]) (by simp [results,Tryz.results77,go_sem, *]) rfl ⟨rfl,hO.out _ s2 _ _ _⟩
end Go.Proofs.YtccoanknofhmaaaGreat
