/- What the document's Find and FindChan of layer 10 return, by the error of the op that is asked. What the document's Product and Find of layer 13 return. The document's answers of layer 13 at an op that is there. What Length, Channels and Positions of package terms return. plain and fixed of law10. one and fixed of law13. -/
import Derived.Test.YtccoanknofhmaaaGreatGq20
import Derived.Test.YtccoanknofhmaaaGreatGq21
import Derived.Test.YtccoanknofhmaaaGreatGq22
import Derived.Test.YtccoanknofhmaaaGreatGq24
import Derived.Test.YtccoanknofhmaaaGreatGq27
import Derived.Test.YtccoanknofhmaaaGreatGq28
namespace Go.Proofs.YtccoanknofhmaaaGreat
open Go.Value renaming int → U, slice → Sl
open Go.IntKind renaming i64 → i6
set_option maxRecDepth 100000
set_option maxHeartbeats 16000000
open Go.ChangeShapes Go.WideShapes Go.ChangeAt Go.RowKit
set_option linter.unusedVariables false
theorem rfind_bad (h w c lo hi ot:Int) (oa:Option Addr) (on oc:Nat) (O:Nat→Nat→Int) (Z B:Nat→List Int) (W:World) (hL:LRow W oa on oc O Z B) (hon:on≤1000000000000) (op ch E:Int) (hf:fiE O h w c lo hi ot on op=E) (hE:E≠0) :
  Calls Tryz.prog 42 #[.agg #[U i6 h,U i6 w,U i6 c,U i6 lo,U i6 hi,Sl oa on oc,U i6 ot],U i6 op,U i6 ch] W fun e w'=>e=.returned (.tuple #[.agg #[U i6 0,U i6 0,U i6 0,U i6 0,U i6 0,U i6 0,U i6 0,U i6 0,U i6 0,U i6 0,U i6 0,U i6 0,Sl none 0 0,Sl none 0 0,U i6 0,U i6 0,U i6 0,U i6 0,U i6 0,U i6 0,U i6 0,U i6 0,U i6 0,U i6 0,U i6 0,U i6 0,U i6 0,U i6 0],U i6 E])∧Below W.heap.size W w':=by
 obtain⟨Re,Ra,RL,Rw,hR⟩:∃ Re Ra RL Rw,gtR O h w c lo hi ot on=(Re,Ra,RL,Rw):=⟨_,_,_,_,rfl⟩
 by_cases q:Re=0
 ·subst q
  by_cases ho:1≤op∧op≤(on:Int)
  ·obtain⟨rfl,hl,h64,-,-,-⟩:=gtR_ok hR
   obtain⟨i,rfl⟩:∃ i:Nat,op=(i:Int)+1:=⟨(op-1).toNat,by omega⟩
   have hi0:i<on:=by omega
   cases hk:rdB (O i 0) with
   | true=>rw [fiE_0 (by rw [hR]) hi0 hk] at hf;exact absurd hf.symm hE
   | false =>
    rw [fiE_81 (by rw [hR]) hi0 hk] at hf
    subst hf
    obtain⟨x,rfl⟩:∃ x,oa=some x:=by
     cases oa with
     | none=>have h1:=hL.2.2.1 rfl;have h2:=hL.1;omega
     | some x=>exact⟨x,rfl⟩
    obtain⟨wa,lw,cw,ba,lb,cb,e12,e13,hcell,hz,hb,-,-⟩:=hL.2.2.2 x rfl i hi0
    obtain⟨j,hj,hji,-⟩:=(gtR_at hR).2 i hi0
    exact rfind_r h w c lo hi ot ch x on oc i O Z B W hL hon hi0 wa lw cw ba lb cb hcell Rw RL hR (by omega) (by omega) _ _ _ _ _ _ rfl rfl false hk
  ·rw [fiE_3 (by rw [hR]) ho] at hf
   subst hf
   exact rfind_3 h w c lo hi ot op ch oa on oc O Z B W hL hon Ra Rw RL hR ho
 ·rw [fiE_err (by rw [hR]) q] at hf
  subst hf
  exact rfind_e h w c lo hi ot op ch oa on oc O Z B W hL hon _ Ra Rw RL hR hE
theorem rfind_ok (h w c lo hi ot:Int) (oa:Option Addr) (on oc:Nat) (O:Nat→Nat→Int) (Z B:Nat→List Int) (W:World) (hL:LRow W oa on oc O Z B) (hon:on≤1000000000000) (ch:Int) (RL:List (Int×Int×Int)) (Rw:Int) (hR:gtR O h w c lo hi ot on=(0,0,RL,Rw)) (i:Nat) (x:Addr) (wa:Option Addr) (lw cw:Nat) (ba:Option Addr) (lb cb:Nat) (x0 y0 z0 H V C:Int) (hF:Fnd W oa on O Z B RL i x wa lw cw ba lb cb x0 y0 z0 H V C) (hc:0≤ch∧ch≤C) :
  Calls Tryz.prog 42 #[.agg #[U i6 h,U i6 w,U i6 c,U i6 lo,U i6 hi,Sl oa on oc,U i6 ot],U i6 ((i:Int)+1),U i6 ch] W fun e w'=>e=.returned (.tuple #[.agg #[U i6 (O i 0),U i6 (O i 1),U i6 (O i 2),U i6 (O i 3),U i6 (O i 4),U i6 (O i 5),U i6 (O i 6),U i6 (O i 7),U i6 (O i 8),U i6 (O i 9),U i6 (O i 10),U i6 (O i 11),Sl wa lw cw,Sl ba lb cb,U i6 (O i 14),U i6 (O i 15),U i6 (O i 16),U i6 (O i 17),U i6 (O i 18),U i6 (O i 19),U i6 (O i 20),U i6 (O i 21),U i6 x0,U i6 y0,U i6 z0,U i6 H,U i6 V,U i6 C],U i6 0])∧Below W.heap.size W w':=by
 obtain⟨h1,rfl,h3,h4,h5,h6,h7,h8,h9,h10,h11,h12⟩:=hF
 have:=rfind_r h w c lo hi ot ch x on oc i O Z B W hL hon h1 wa lw cw ba lb cb h5 Rw RL hR h11.1 h11.2 _ _ _ _ _ _ h8 h9 true h12
 rw [if_pos rfl,if_pos hc] at this
 exact this
theorem rfind_no (h w c lo hi ot:Int) (oa:Option Addr) (on oc:Nat) (O:Nat→Nat→Int) (Z B:Nat→List Int) (W:World) (hL:LRow W oa on oc O Z B) (hon:on≤1000000000000) (ch:Int) (RL:List (Int×Int×Int)) (Rw:Int) (hR:gtR O h w c lo hi ot on=(0,0,RL,Rw)) (i:Nat) (x:Addr) (wa:Option Addr) (lw cw:Nat) (ba:Option Addr) (lb cb:Nat) (x0 y0 z0 H V C:Int) (hF:Fnd W oa on O Z B RL i x wa lw cw ba lb cb x0 y0 z0 H V C) (hc:¬ (0≤ch∧ch≤C)) :
  Calls Tryz.prog 42 #[.agg #[U i6 h,U i6 w,U i6 c,U i6 lo,U i6 hi,Sl oa on oc,U i6 ot],U i6 ((i:Int)+1),U i6 ch] W fun e w'=>e=.returned (.tuple #[.agg #[U i6 0,U i6 0,U i6 0,U i6 0,U i6 0,U i6 0,U i6 0,U i6 0,U i6 0,U i6 0,U i6 0,U i6 0,Sl none 0 0,Sl none 0 0,U i6 0,U i6 0,U i6 0,U i6 0,U i6 0,U i6 0,U i6 0,U i6 0,U i6 0,U i6 0,U i6 0,U i6 0,U i6 0,U i6 0],U i6 3])∧Below W.heap.size W w':=by
 obtain⟨h1,rfl,h3,h4,h5,h6,h7,h8,h9,h10,h11,h12⟩:=hF
 have:=rfind_r h w c lo hi ot ch x on oc i O Z B W hL hon h1 wa lw cw ba lb cb h5 Rw RL hR h11.1 h11.2 _ _ _ _ _ _ h8 h9 true h12
 rw [if_pos rfl,if_neg hc] at this
 exact this
theorem fch_z {x9:Nat} (h w c lo hi ot:Int) (oa:Option Addr) (on oc:Nat) (W:World) (op ch E:Int) (hE:¬ (E=0∧ch=0))
  (hK:∀ W',Below W.heap.size W W'→Calls Tryz.prog 42 #[.agg #[U i6 h,U i6 w,U i6 c,U i6 lo,U i6 hi,Sl oa on oc,U i6 ot],U i6 op,U i6 ch] W' fun e w'=>e=.returned (.tuple #[.agg #[U i6 0,U i6 0,U i6 0,U i6 0,U i6 0,U i6 0,U i6 0,U i6 0,U i6 0,U i6 0,U i6 0,U i6 0,Sl none 0 0,Sl none 0 0,U i6 0,U i6 0,U i6 0,U i6 0,U i6 0,U i6 0,U i6 0,U i6 0,U i6 0,U i6 0,U i6 0,U i6 0,U i6 0,U i6 0],U i6 E])∧Below W'.heap.size W' w') :
  Calls Tryz.prog 24 #[.agg #[U i6 h,U i6 w,U i6 c,U i6 lo,U i6 hi,Sl oa on oc,U i6 ot],U i6 op,U i6 ch] W fun e w'=>e=.returned (.tuple #[.agg #[U i6 0,U i6 0,U i6 0,U i6 0,U i6 0,U i6 0,U i6 0,U i6 0,U i6 0,U i6 0,U i6 0,U i6 0,Sl none 0 0,Sl none 0 0,U i6 0,U i6 0,U i6 0,U i6 0,U i6 0,U i6 0,U i6 0,U i6 0,U i6 0,U i6 0,U i6 0,U i6 0,U i6 0,U i6 0],U i6 E])∧Below W.heap.size W w':=by
 have s0:=((St.start W).new (c:=#[U i6 h,U i6 w,U i6 c,U i6 lo,U i6 hi,Sl oa on oc,U i6 ot]) (t:=26)).new (c:=#[U i6 0,U i6 0,U i6 0,U i6 0,U i6 0,U i6 0,U i6 0,U i6 0,U i6 0,U i6 0,U i6 0,U i6 0,Sl none 0 0,Sl none 0 0,U i6 0,U i6 0,U i6 0,U i6 0,U i6 0,U i6 0,U i6 0,U i6 0,U i6 0,U i6 0,U i6 0,U i6 0,U i6 0,U i6 0]) (t:=44)
 simp only [World.size_alloc] at s0
 have HK:Hid (∀ W',_):=hK
 have hE':((E == 0) && (ch == 0))=false:=by
  cases q:(E == 0) with
  | false=>rfl
  | true =>
   have e1:E=0:=by simpa using q
   have:ch≠0:=fun e=>hE ⟨e1,e⟩
   simp [this]
 clear hK
 by_cases e0:E=0
 ·first
   | (have e0':(E == 0)=true:=by simp [e0]
      have c0':(ch == 0)=false:=by simp;exact fun e=>hE ⟨e0,e⟩
      clear e0 hE hE')
   | (have e0':(E == 0)=false:=by simp [e0]
      clear e0 hE hE')
  go_enter Tryz.func24,Tryz.ntmps24
  go_wp2_with fail
  refine (HK.out _ s0.below).mono ?_
  rintro e w1 ⟨rfl,hb⟩
  have s1:=(s0.call hb).new (c:=#[U i6 0,U i6 0,U i6 0,U i6 0,U i6 0,U i6 0,U i6 0,U i6 0,U i6 0,U i6 0,U i6 0,U i6 0,Sl none 0 0,Sl none 0 0,U i6 0,U i6 0,U i6 0,U i6 0,U i6 0,U i6 0,U i6 0,U i6 0,U i6 0,U i6 0,U i6 0,U i6 0,U i6 0,U i6 0]) (t:=44)
  have hR1:=s1.h1
  have HZ:Hid ((w1.alloc (.cells #[U i6 0,U i6 0,U i6 0,U i6 0,U i6 0,U i6 0,U i6 0,U i6 0,U i6 0,U i6 0,U i6 0,U i6 0,Sl none 0 0,Sl none 0 0,U i6 0,U i6 0,U i6 0,U i6 0,U i6 0,U i6 0,U i6 0,U i6 0,U i6 0,U i6 0,U i6 0,U i6 0,U i6 0,U i6 0] 44)).heap[W.heap.size+1]? = some (.cells #[U i6 0,U i6 0,U i6 0,U i6 0,U i6 0,U i6 0,U i6 0,U i6 0,U i6 0,U i6 0,U i6 0,U i6 0,Sl none 0 0,Sl none 0 0,U i6 0,U i6 0,U i6 0,U i6 0,U i6 0,U i6 0,U i6 0,U i6 0,U i6 0,U i6 0,U i6 0,U i6 0,U i6 0,U i6 0] 44 (0,0))):=s1.h2
  have hB1:Hid (Below W.heap.size W (w1.alloc (.cells #[U i6 0,U i6 0,U i6 0,U i6 0,U i6 0,U i6 0,U i6 0,U i6 0,U i6 0,U i6 0,U i6 0,U i6 0,Sl none 0 0,Sl none 0 0,U i6 0,U i6 0,U i6 0,U i6 0,U i6 0,U i6 0,U i6 0,U i6 0,U i6 0,U i6 0,U i6 0,U i6 0,U i6 0,U i6 0] 44))):=s1.below
  clear hb s1 s0
  go_wp2_with (first
   | (refine wpList_st_new rfl 44 (.tmp 8) (.tmp 15) rfl w1 _ #[U i6 0,U i6 0,U i6 0,U i6 0,U i6 0,U i6 0,U i6 0,U i6 0,U i6 0,U i6 0,U i6 0,U i6 0,Sl none 0 0,Sl none 0 0,U i6 0,U i6 0,U i6 0,U i6 0,U i6 0,U i6 0,U i6 0,U i6 0,U i6 0,U i6 0,U i6 0,U i6 0,U i6 0,U i6 0] rfl rfl (by kernel_rfl) rfl (by simp [Value.oneCell']) ?_)
   | (refine wpList_load_row rfl 44 (.tmp 8) rfl w1.heap.size rfl 44 _ (0,0) _ hR1 Tryz.underlying44 rfl (by kernel_rfl) ?_)
   | (refine wpList_store_row rfl 44 (.tmp 6) (.tmp 24) rfl (W.heap.size+1) #[U i6 0,U i6 0,U i6 0,U i6 0,U i6 0,U i6 0,U i6 0,U i6 0,U i6 0,U i6 0,U i6 0,U i6 0,Sl none 0 0,Sl none 0 0,U i6 0,U i6 0,U i6 0,U i6 0,U i6 0,U i6 0,U i6 0,U i6 0,U i6 0,U i6 0,U i6 0,U i6 0,U i6 0,U i6 0] rfl rfl 44 #[U i6 0,U i6 0,U i6 0,U i6 0,U i6 0,U i6 0,U i6 0,U i6 0,U i6 0,U i6 0,U i6 0,U i6 0,Sl none 0 0,Sl none 0 0,U i6 0,U i6 0,U i6 0,U i6 0,U i6 0,U i6 0,U i6 0,U i6 0,U i6 0,U i6 0,U i6 0,U i6 0,U i6 0,U i6 0] HZ.out (by kernel_rfl) rfl (by simp [Value.oneCell']) ?_;have hZ':=setRow_heap _ (W.heap.size+1) #[U i6 0,U i6 0,U i6 0,U i6 0,U i6 0,U i6 0,U i6 0,U i6 0,U i6 0,U i6 0,U i6 0,U i6 0,Sl none 0 0,Sl none 0 0,U i6 0,U i6 0,U i6 0,U i6 0,U i6 0,U i6 0,U i6 0,U i6 0,U i6 0,U i6 0,U i6 0,U i6 0,U i6 0,U i6 0] #[U i6 0,U i6 0,U i6 0,U i6 0,U i6 0,U i6 0,U i6 0,U i6 0,U i6 0,U i6 0,U i6 0,U i6 0,Sl none 0 0,Sl none 0 0,U i6 0,U i6 0,U i6 0,U i6 0,U i6 0,U i6 0,U i6 0,U i6 0,U i6 0,U i6 0,U i6 0,U i6 0,U i6 0,U i6 0] 44 (0,0) HZ.out;have hB':Hid (Below W.heap.size W (_:World)):=below_setRow hB1.out (show W.heap.size≤W.heap.size+1 by omega) #[U i6 0,U i6 0,U i6 0,U i6 0,U i6 0,U i6 0,U i6 0,U i6 0,U i6 0,U i6 0,U i6 0,U i6 0,Sl none 0 0,Sl none 0 0,U i6 0,U i6 0,U i6 0,U i6 0,U i6 0,U i6 0,U i6 0,U i6 0,U i6 0,U i6 0,U i6 0,U i6 0,U i6 0,U i6 0];clear hR1;generalize World.setRow _ _ _=w5 at hZ' hB' ⊢))
  exact bodyPost_ret (results_row_tmp Tryz.results24 _ _ (W.heap.size+1) 44 _ _ (U i6 E) rfl hZ' Tryz.underlying44 rfl (by kernel_rfl) rfl) rfl ⟨rfl,hB'.out⟩
 ·first
   | (have e0':(E == 0)=true:=by simp [e0]
      have c0':(ch == 0)=false:=by simp;exact fun e=>hE ⟨e0,e⟩
      clear e0 hE hE')
   | (have e0':(E == 0)=false:=by simp [e0]
      clear e0 hE hE')
  go_enter Tryz.func24,Tryz.ntmps24
  go_wp2_with fail
  refine (HK.out _ s0.below).mono ?_
  rintro e w1 ⟨rfl,hb⟩
  have s1:=(s0.call hb).new (c:=#[U i6 0,U i6 0,U i6 0,U i6 0,U i6 0,U i6 0,U i6 0,U i6 0,U i6 0,U i6 0,U i6 0,U i6 0,Sl none 0 0,Sl none 0 0,U i6 0,U i6 0,U i6 0,U i6 0,U i6 0,U i6 0,U i6 0,U i6 0,U i6 0,U i6 0,U i6 0,U i6 0,U i6 0,U i6 0]) (t:=44)
  have hR1:=s1.h1
  have HZ:Hid ((w1.alloc (.cells #[U i6 0,U i6 0,U i6 0,U i6 0,U i6 0,U i6 0,U i6 0,U i6 0,U i6 0,U i6 0,U i6 0,U i6 0,Sl none 0 0,Sl none 0 0,U i6 0,U i6 0,U i6 0,U i6 0,U i6 0,U i6 0,U i6 0,U i6 0,U i6 0,U i6 0,U i6 0,U i6 0,U i6 0,U i6 0] 44)).heap[W.heap.size+1]? = some (.cells #[U i6 0,U i6 0,U i6 0,U i6 0,U i6 0,U i6 0,U i6 0,U i6 0,U i6 0,U i6 0,U i6 0,U i6 0,Sl none 0 0,Sl none 0 0,U i6 0,U i6 0,U i6 0,U i6 0,U i6 0,U i6 0,U i6 0,U i6 0,U i6 0,U i6 0,U i6 0,U i6 0,U i6 0,U i6 0] 44 (0,0))):=s1.h2
  have hB1:Hid (Below W.heap.size W (w1.alloc (.cells #[U i6 0,U i6 0,U i6 0,U i6 0,U i6 0,U i6 0,U i6 0,U i6 0,U i6 0,U i6 0,U i6 0,U i6 0,Sl none 0 0,Sl none 0 0,U i6 0,U i6 0,U i6 0,U i6 0,U i6 0,U i6 0,U i6 0,U i6 0,U i6 0,U i6 0,U i6 0,U i6 0,U i6 0,U i6 0] 44))):=s1.below
  clear hb s1 s0
  go_wp2_with (first
   | (refine wpList_st_new rfl 44 (.tmp 8) (.tmp 15) rfl w1 _ #[U i6 0,U i6 0,U i6 0,U i6 0,U i6 0,U i6 0,U i6 0,U i6 0,U i6 0,U i6 0,U i6 0,U i6 0,Sl none 0 0,Sl none 0 0,U i6 0,U i6 0,U i6 0,U i6 0,U i6 0,U i6 0,U i6 0,U i6 0,U i6 0,U i6 0,U i6 0,U i6 0,U i6 0,U i6 0] rfl rfl (by kernel_rfl) rfl (by simp [Value.oneCell']) ?_)
   | (refine wpList_load_row rfl 44 (.tmp 8) rfl w1.heap.size rfl 44 _ (0,0) _ hR1 Tryz.underlying44 rfl (by kernel_rfl) ?_)
   | (refine wpList_store_row rfl 44 (.tmp 6) (.tmp 24) rfl (W.heap.size+1) #[U i6 0,U i6 0,U i6 0,U i6 0,U i6 0,U i6 0,U i6 0,U i6 0,U i6 0,U i6 0,U i6 0,U i6 0,Sl none 0 0,Sl none 0 0,U i6 0,U i6 0,U i6 0,U i6 0,U i6 0,U i6 0,U i6 0,U i6 0,U i6 0,U i6 0,U i6 0,U i6 0,U i6 0,U i6 0] rfl rfl 44 #[U i6 0,U i6 0,U i6 0,U i6 0,U i6 0,U i6 0,U i6 0,U i6 0,U i6 0,U i6 0,U i6 0,U i6 0,Sl none 0 0,Sl none 0 0,U i6 0,U i6 0,U i6 0,U i6 0,U i6 0,U i6 0,U i6 0,U i6 0,U i6 0,U i6 0,U i6 0,U i6 0,U i6 0,U i6 0] HZ.out (by kernel_rfl) rfl (by simp [Value.oneCell']) ?_;have hZ':=setRow_heap _ (W.heap.size+1) #[U i6 0,U i6 0,U i6 0,U i6 0,U i6 0,U i6 0,U i6 0,U i6 0,U i6 0,U i6 0,U i6 0,U i6 0,Sl none 0 0,Sl none 0 0,U i6 0,U i6 0,U i6 0,U i6 0,U i6 0,U i6 0,U i6 0,U i6 0,U i6 0,U i6 0,U i6 0,U i6 0,U i6 0,U i6 0] #[U i6 0,U i6 0,U i6 0,U i6 0,U i6 0,U i6 0,U i6 0,U i6 0,U i6 0,U i6 0,U i6 0,U i6 0,Sl none 0 0,Sl none 0 0,U i6 0,U i6 0,U i6 0,U i6 0,U i6 0,U i6 0,U i6 0,U i6 0,U i6 0,U i6 0,U i6 0,U i6 0,U i6 0,U i6 0] 44 (0,0) HZ.out;have hB':Hid (Below W.heap.size W (_:World)):=below_setRow hB1.out (show W.heap.size≤W.heap.size+1 by omega) #[U i6 0,U i6 0,U i6 0,U i6 0,U i6 0,U i6 0,U i6 0,U i6 0,U i6 0,U i6 0,U i6 0,U i6 0,Sl none 0 0,Sl none 0 0,U i6 0,U i6 0,U i6 0,U i6 0,U i6 0,U i6 0,U i6 0,U i6 0,U i6 0,U i6 0,U i6 0,U i6 0,U i6 0,U i6 0];clear hR1;generalize World.setRow _ _ _=w5 at hZ' hB' ⊢))
  exact bodyPost_ret (results_row_tmp Tryz.results24 _ _ (W.heap.size+1) 44 _ _ (U i6 E) rfl hZ' Tryz.underlying44 rfl (by kernel_rfl) rfl) rfl ⟨rfl,hB'.out⟩
theorem fch_r {O:Nat→Nat→Int} {i:Nat} {x:Addr} {wa:Option Addr} {lw cw:Nat} {ba:Option Addr} {lb cb:Nat} {x0 y0 z0 H V C:Int} (h w c lo hi ot:Int) (oa:Option Addr) (on oc:Nat) (W:World) (op ch E:Int) (hE:¬ (E=0∧ch=0))
  (hK:∀ W',Below W.heap.size W W'→Calls Tryz.prog 42 #[.agg #[U i6 h,U i6 w,U i6 c,U i6 lo,U i6 hi,Sl oa on oc,U i6 ot],U i6 op,U i6 ch] W' fun e w'=>e=.returned (.tuple #[.agg #[U i6 (O i 0),U i6 (O i 1),U i6 (O i 2),U i6 (O i 3),U i6 (O i 4),U i6 (O i 5),U i6 (O i 6),U i6 (O i 7),U i6 (O i 8),U i6 (O i 9),U i6 (O i 10),U i6 (O i 11),Sl wa lw cw,Sl ba lb cb,U i6 (O i 14),U i6 (O i 15),U i6 (O i 16),U i6 (O i 17),U i6 (O i 18),U i6 (O i 19),U i6 (O i 20),U i6 (O i 21),U i6 x0,U i6 y0,U i6 z0,U i6 H,U i6 V,U i6 C],U i6 E])∧Below W'.heap.size W' w') :
  Calls Tryz.prog 24 #[.agg #[U i6 h,U i6 w,U i6 c,U i6 lo,U i6 hi,Sl oa on oc,U i6 ot],U i6 op,U i6 ch] W fun e w'=>e=.returned (.tuple #[.agg #[U i6 (O i 0),U i6 (O i 1),U i6 (O i 2),U i6 (O i 3),U i6 (O i 4),U i6 (O i 5),U i6 (O i 6),U i6 (O i 7),U i6 (O i 8),U i6 (O i 9),U i6 (O i 10),U i6 (O i 11),Sl wa lw cw,Sl ba lb cb,U i6 (O i 14),U i6 (O i 15),U i6 (O i 16),U i6 (O i 17),U i6 (O i 18),U i6 (O i 19),U i6 (O i 20),U i6 (O i 21),U i6 x0,U i6 y0,U i6 z0,U i6 H,U i6 V,U i6 C],U i6 E])∧Below W.heap.size W w':=by
 have s0:=((St.start W).new (c:=#[U i6 h,U i6 w,U i6 c,U i6 lo,U i6 hi,Sl oa on oc,U i6 ot]) (t:=26)).new (c:=#[U i6 0,U i6 0,U i6 0,U i6 0,U i6 0,U i6 0,U i6 0,U i6 0,U i6 0,U i6 0,U i6 0,U i6 0,Sl none 0 0,Sl none 0 0,U i6 0,U i6 0,U i6 0,U i6 0,U i6 0,U i6 0,U i6 0,U i6 0,U i6 0,U i6 0,U i6 0,U i6 0,U i6 0,U i6 0]) (t:=44)
 simp only [World.size_alloc] at s0
 have HK:Hid (∀ W',_):=hK
 have hE':((E == 0) && (ch == 0))=false:=by
  cases q:(E == 0) with
  | false=>rfl
  | true =>
   have e1:E=0:=by simpa using q
   have:ch≠0:=fun e=>hE ⟨e1,e⟩
   simp [this]
 clear hK
 by_cases e0:E=0
 ·first
   | (have e0':(E == 0)=true:=by simp [e0]
      have c0':(ch == 0)=false:=by simp;exact fun e=>hE ⟨e0,e⟩
      clear e0 hE hE')
   | (have e0':(E == 0)=false:=by simp [e0]
      clear e0 hE hE')
  go_enter Tryz.func24,Tryz.ntmps24
  go_wp2_with fail
  refine (HK.out _ s0.below).mono ?_
  rintro e w1 ⟨rfl,hb⟩
  have s1:=(s0.call hb).new (c:=#[U i6 (O i 0),U i6 (O i 1),U i6 (O i 2),U i6 (O i 3),U i6 (O i 4),U i6 (O i 5),U i6 (O i 6),U i6 (O i 7),U i6 (O i 8),U i6 (O i 9),U i6 (O i 10),U i6 (O i 11),Sl wa lw cw,Sl ba lb cb,U i6 (O i 14),U i6 (O i 15),U i6 (O i 16),U i6 (O i 17),U i6 (O i 18),U i6 (O i 19),U i6 (O i 20),U i6 (O i 21),U i6 x0,U i6 y0,U i6 z0,U i6 H,U i6 V,U i6 C]) (t:=44)
  have hR1:=s1.h1
  have HZ:Hid ((w1.alloc (.cells #[U i6 (O i 0),U i6 (O i 1),U i6 (O i 2),U i6 (O i 3),U i6 (O i 4),U i6 (O i 5),U i6 (O i 6),U i6 (O i 7),U i6 (O i 8),U i6 (O i 9),U i6 (O i 10),U i6 (O i 11),Sl wa lw cw,Sl ba lb cb,U i6 (O i 14),U i6 (O i 15),U i6 (O i 16),U i6 (O i 17),U i6 (O i 18),U i6 (O i 19),U i6 (O i 20),U i6 (O i 21),U i6 x0,U i6 y0,U i6 z0,U i6 H,U i6 V,U i6 C] 44)).heap[W.heap.size+1]? = some (.cells #[U i6 0,U i6 0,U i6 0,U i6 0,U i6 0,U i6 0,U i6 0,U i6 0,U i6 0,U i6 0,U i6 0,U i6 0,Sl none 0 0,Sl none 0 0,U i6 0,U i6 0,U i6 0,U i6 0,U i6 0,U i6 0,U i6 0,U i6 0,U i6 0,U i6 0,U i6 0,U i6 0,U i6 0,U i6 0] 44 (0,0))):=s1.h2
  have hB1:Hid (Below W.heap.size W (w1.alloc (.cells #[U i6 (O i 0),U i6 (O i 1),U i6 (O i 2),U i6 (O i 3),U i6 (O i 4),U i6 (O i 5),U i6 (O i 6),U i6 (O i 7),U i6 (O i 8),U i6 (O i 9),U i6 (O i 10),U i6 (O i 11),Sl wa lw cw,Sl ba lb cb,U i6 (O i 14),U i6 (O i 15),U i6 (O i 16),U i6 (O i 17),U i6 (O i 18),U i6 (O i 19),U i6 (O i 20),U i6 (O i 21),U i6 x0,U i6 y0,U i6 z0,U i6 H,U i6 V,U i6 C] 44))):=s1.below
  clear hb s1 s0
  go_wp2_with (first
   | (refine wpList_st_new rfl 44 (.tmp 8) (.tmp 15) rfl w1 _ #[U i6 (O i 0),U i6 (O i 1),U i6 (O i 2),U i6 (O i 3),U i6 (O i 4),U i6 (O i 5),U i6 (O i 6),U i6 (O i 7),U i6 (O i 8),U i6 (O i 9),U i6 (O i 10),U i6 (O i 11),Sl wa lw cw,Sl ba lb cb,U i6 (O i 14),U i6 (O i 15),U i6 (O i 16),U i6 (O i 17),U i6 (O i 18),U i6 (O i 19),U i6 (O i 20),U i6 (O i 21),U i6 x0,U i6 y0,U i6 z0,U i6 H,U i6 V,U i6 C] rfl rfl (by kernel_rfl) rfl (by simp [Value.oneCell']) ?_)
   | (refine wpList_load_row rfl 44 (.tmp 8) rfl w1.heap.size rfl 44 _ (0,0) _ hR1 Tryz.underlying44 rfl (by kernel_rfl) ?_)
   | (refine wpList_store_row rfl 44 (.tmp 6) (.tmp 24) rfl (W.heap.size+1) #[U i6 (O i 0),U i6 (O i 1),U i6 (O i 2),U i6 (O i 3),U i6 (O i 4),U i6 (O i 5),U i6 (O i 6),U i6 (O i 7),U i6 (O i 8),U i6 (O i 9),U i6 (O i 10),U i6 (O i 11),Sl wa lw cw,Sl ba lb cb,U i6 (O i 14),U i6 (O i 15),U i6 (O i 16),U i6 (O i 17),U i6 (O i 18),U i6 (O i 19),U i6 (O i 20),U i6 (O i 21),U i6 x0,U i6 y0,U i6 z0,U i6 H,U i6 V,U i6 C] rfl rfl 44 #[U i6 0,U i6 0,U i6 0,U i6 0,U i6 0,U i6 0,U i6 0,U i6 0,U i6 0,U i6 0,U i6 0,U i6 0,Sl none 0 0,Sl none 0 0,U i6 0,U i6 0,U i6 0,U i6 0,U i6 0,U i6 0,U i6 0,U i6 0,U i6 0,U i6 0,U i6 0,U i6 0,U i6 0,U i6 0] HZ.out (by kernel_rfl) rfl (by simp [Value.oneCell']) ?_;have hZ':=setRow_heap _ (W.heap.size+1) #[U i6 0,U i6 0,U i6 0,U i6 0,U i6 0,U i6 0,U i6 0,U i6 0,U i6 0,U i6 0,U i6 0,U i6 0,Sl none 0 0,Sl none 0 0,U i6 0,U i6 0,U i6 0,U i6 0,U i6 0,U i6 0,U i6 0,U i6 0,U i6 0,U i6 0,U i6 0,U i6 0,U i6 0,U i6 0] #[U i6 (O i 0),U i6 (O i 1),U i6 (O i 2),U i6 (O i 3),U i6 (O i 4),U i6 (O i 5),U i6 (O i 6),U i6 (O i 7),U i6 (O i 8),U i6 (O i 9),U i6 (O i 10),U i6 (O i 11),Sl wa lw cw,Sl ba lb cb,U i6 (O i 14),U i6 (O i 15),U i6 (O i 16),U i6 (O i 17),U i6 (O i 18),U i6 (O i 19),U i6 (O i 20),U i6 (O i 21),U i6 x0,U i6 y0,U i6 z0,U i6 H,U i6 V,U i6 C] 44 (0,0) HZ.out;have hB':Hid (Below W.heap.size W (_:World)):=below_setRow hB1.out (show W.heap.size≤W.heap.size+1 by omega) #[U i6 (O i 0),U i6 (O i 1),U i6 (O i 2),U i6 (O i 3),U i6 (O i 4),U i6 (O i 5),U i6 (O i 6),U i6 (O i 7),U i6 (O i 8),U i6 (O i 9),U i6 (O i 10),U i6 (O i 11),Sl wa lw cw,Sl ba lb cb,U i6 (O i 14),U i6 (O i 15),U i6 (O i 16),U i6 (O i 17),U i6 (O i 18),U i6 (O i 19),U i6 (O i 20),U i6 (O i 21),U i6 x0,U i6 y0,U i6 z0,U i6 H,U i6 V,U i6 C];clear hR1;generalize World.setRow _ _ _=w5 at hZ' hB' ⊢))
  exact bodyPost_ret (results_row_tmp Tryz.results24 _ _ (W.heap.size+1) 44 _ _ (U i6 E) rfl hZ' Tryz.underlying44 rfl (by kernel_rfl) rfl) rfl ⟨rfl,hB'.out⟩
 ·first
   | (have e0':(E == 0)=true:=by simp [e0]
      have c0':(ch == 0)=false:=by simp;exact fun e=>hE ⟨e0,e⟩
      clear e0 hE hE')
   | (have e0':(E == 0)=false:=by simp [e0]
      clear e0 hE hE')
  go_enter Tryz.func24,Tryz.ntmps24
  go_wp2_with fail
  refine (HK.out _ s0.below).mono ?_
  rintro e w1 ⟨rfl,hb⟩
  have s1:=(s0.call hb).new (c:=#[U i6 (O i 0),U i6 (O i 1),U i6 (O i 2),U i6 (O i 3),U i6 (O i 4),U i6 (O i 5),U i6 (O i 6),U i6 (O i 7),U i6 (O i 8),U i6 (O i 9),U i6 (O i 10),U i6 (O i 11),Sl wa lw cw,Sl ba lb cb,U i6 (O i 14),U i6 (O i 15),U i6 (O i 16),U i6 (O i 17),U i6 (O i 18),U i6 (O i 19),U i6 (O i 20),U i6 (O i 21),U i6 x0,U i6 y0,U i6 z0,U i6 H,U i6 V,U i6 C]) (t:=44)
  have hR1:=s1.h1
  have HZ:Hid ((w1.alloc (.cells #[U i6 (O i 0),U i6 (O i 1),U i6 (O i 2),U i6 (O i 3),U i6 (O i 4),U i6 (O i 5),U i6 (O i 6),U i6 (O i 7),U i6 (O i 8),U i6 (O i 9),U i6 (O i 10),U i6 (O i 11),Sl wa lw cw,Sl ba lb cb,U i6 (O i 14),U i6 (O i 15),U i6 (O i 16),U i6 (O i 17),U i6 (O i 18),U i6 (O i 19),U i6 (O i 20),U i6 (O i 21),U i6 x0,U i6 y0,U i6 z0,U i6 H,U i6 V,U i6 C] 44)).heap[W.heap.size+1]? = some (.cells #[U i6 0,U i6 0,U i6 0,U i6 0,U i6 0,U i6 0,U i6 0,U i6 0,U i6 0,U i6 0,U i6 0,U i6 0,Sl none 0 0,Sl none 0 0,U i6 0,U i6 0,U i6 0,U i6 0,U i6 0,U i6 0,U i6 0,U i6 0,U i6 0,U i6 0,U i6 0,U i6 0,U i6 0,U i6 0] 44 (0,0))):=s1.h2
  have hB1:Hid (Below W.heap.size W (w1.alloc (.cells #[U i6 (O i 0),U i6 (O i 1),U i6 (O i 2),U i6 (O i 3),U i6 (O i 4),U i6 (O i 5),U i6 (O i 6),U i6 (O i 7),U i6 (O i 8),U i6 (O i 9),U i6 (O i 10),U i6 (O i 11),Sl wa lw cw,Sl ba lb cb,U i6 (O i 14),U i6 (O i 15),U i6 (O i 16),U i6 (O i 17),U i6 (O i 18),U i6 (O i 19),U i6 (O i 20),U i6 (O i 21),U i6 x0,U i6 y0,U i6 z0,U i6 H,U i6 V,U i6 C] 44))):=s1.below
  clear hb s1 s0
  go_wp2_with (first
   | (refine wpList_st_new rfl 44 (.tmp 8) (.tmp 15) rfl w1 _ #[U i6 (O i 0),U i6 (O i 1),U i6 (O i 2),U i6 (O i 3),U i6 (O i 4),U i6 (O i 5),U i6 (O i 6),U i6 (O i 7),U i6 (O i 8),U i6 (O i 9),U i6 (O i 10),U i6 (O i 11),Sl wa lw cw,Sl ba lb cb,U i6 (O i 14),U i6 (O i 15),U i6 (O i 16),U i6 (O i 17),U i6 (O i 18),U i6 (O i 19),U i6 (O i 20),U i6 (O i 21),U i6 x0,U i6 y0,U i6 z0,U i6 H,U i6 V,U i6 C] rfl rfl (by kernel_rfl) rfl (by simp [Value.oneCell']) ?_)
   | (refine wpList_load_row rfl 44 (.tmp 8) rfl w1.heap.size rfl 44 _ (0,0) _ hR1 Tryz.underlying44 rfl (by kernel_rfl) ?_)
   | (refine wpList_store_row rfl 44 (.tmp 6) (.tmp 24) rfl (W.heap.size+1) #[U i6 (O i 0),U i6 (O i 1),U i6 (O i 2),U i6 (O i 3),U i6 (O i 4),U i6 (O i 5),U i6 (O i 6),U i6 (O i 7),U i6 (O i 8),U i6 (O i 9),U i6 (O i 10),U i6 (O i 11),Sl wa lw cw,Sl ba lb cb,U i6 (O i 14),U i6 (O i 15),U i6 (O i 16),U i6 (O i 17),U i6 (O i 18),U i6 (O i 19),U i6 (O i 20),U i6 (O i 21),U i6 x0,U i6 y0,U i6 z0,U i6 H,U i6 V,U i6 C] rfl rfl 44 #[U i6 0,U i6 0,U i6 0,U i6 0,U i6 0,U i6 0,U i6 0,U i6 0,U i6 0,U i6 0,U i6 0,U i6 0,Sl none 0 0,Sl none 0 0,U i6 0,U i6 0,U i6 0,U i6 0,U i6 0,U i6 0,U i6 0,U i6 0,U i6 0,U i6 0,U i6 0,U i6 0,U i6 0,U i6 0] HZ.out (by kernel_rfl) rfl (by simp [Value.oneCell']) ?_;have hZ':=setRow_heap _ (W.heap.size+1) #[U i6 0,U i6 0,U i6 0,U i6 0,U i6 0,U i6 0,U i6 0,U i6 0,U i6 0,U i6 0,U i6 0,U i6 0,Sl none 0 0,Sl none 0 0,U i6 0,U i6 0,U i6 0,U i6 0,U i6 0,U i6 0,U i6 0,U i6 0,U i6 0,U i6 0,U i6 0,U i6 0,U i6 0,U i6 0] #[U i6 (O i 0),U i6 (O i 1),U i6 (O i 2),U i6 (O i 3),U i6 (O i 4),U i6 (O i 5),U i6 (O i 6),U i6 (O i 7),U i6 (O i 8),U i6 (O i 9),U i6 (O i 10),U i6 (O i 11),Sl wa lw cw,Sl ba lb cb,U i6 (O i 14),U i6 (O i 15),U i6 (O i 16),U i6 (O i 17),U i6 (O i 18),U i6 (O i 19),U i6 (O i 20),U i6 (O i 21),U i6 x0,U i6 y0,U i6 z0,U i6 H,U i6 V,U i6 C] 44 (0,0) HZ.out;have hB':Hid (Below W.heap.size W (_:World)):=below_setRow hB1.out (show W.heap.size≤W.heap.size+1 by omega) #[U i6 (O i 0),U i6 (O i 1),U i6 (O i 2),U i6 (O i 3),U i6 (O i 4),U i6 (O i 5),U i6 (O i 6),U i6 (O i 7),U i6 (O i 8),U i6 (O i 9),U i6 (O i 10),U i6 (O i 11),Sl wa lw cw,Sl ba lb cb,U i6 (O i 14),U i6 (O i 15),U i6 (O i 16),U i6 (O i 17),U i6 (O i 18),U i6 (O i 19),U i6 (O i 20),U i6 (O i 21),U i6 x0,U i6 y0,U i6 z0,U i6 H,U i6 V,U i6 C];clear hR1;generalize World.setRow _ _ _=w5 at hZ' hB' ⊢))
  exact bodyPost_ret (results_row_tmp Tryz.results24 _ _ (W.heap.size+1) 44 _ _ (U i6 E) rfl hZ' Tryz.underlying44 rfl (by kernel_rfl) rfl) rfl ⟨rfl,hB'.out⟩
theorem fch_0 {O:Nat→Nat→Int} {i:Nat} {x:Addr} {wa:Option Addr} {lw cw:Nat} {ba:Option Addr} {lb cb:Nat} {x0 y0 z0 H V C:Int} (h w c lo hi ot:Int) (oa:Option Addr) (on oc:Nat) (W:World) (op:Int)
  (hK:∀ W',Below W.heap.size W W'→Calls Tryz.prog 42 #[.agg #[U i6 h,U i6 w,U i6 c,U i6 lo,U i6 hi,Sl oa on oc,U i6 ot],U i6 op,U i6 0] W' fun e w'=>e=.returned (.tuple #[.agg #[U i6 (O i 0),U i6 (O i 1),U i6 (O i 2),U i6 (O i 3),U i6 (O i 4),U i6 (O i 5),U i6 (O i 6),U i6 (O i 7),U i6 (O i 8),U i6 (O i 9),U i6 (O i 10),U i6 (O i 11),Sl wa lw cw,Sl ba lb cb,U i6 (O i 14),U i6 (O i 15),U i6 (O i 16),U i6 (O i 17),U i6 (O i 18),U i6 (O i 19),U i6 (O i 20),U i6 (O i 21),U i6 x0,U i6 y0,U i6 z0,U i6 H,U i6 V,U i6 C],U i6 0])∧Below W'.heap.size W' w') :
  Calls Tryz.prog 24 #[.agg #[U i6 h,U i6 w,U i6 c,U i6 lo,U i6 hi,Sl oa on oc,U i6 ot],U i6 op,U i6 0] W fun e w'=>e=.returned (.tuple #[.agg #[U i6 0,U i6 0,U i6 0,U i6 0,U i6 0,U i6 0,U i6 0,U i6 0,U i6 0,U i6 0,U i6 0,U i6 0,Sl none 0 0,Sl none 0 0,U i6 0,U i6 0,U i6 0,U i6 0,U i6 0,U i6 0,U i6 0,U i6 0,U i6 0,U i6 0,U i6 0,U i6 0,U i6 0,U i6 0],U i6 3])∧Below W.heap.size W w':=by
 have s0:=((St.start W).new (c:=#[U i6 h,U i6 w,U i6 c,U i6 lo,U i6 hi,Sl oa on oc,U i6 ot]) (t:=26)).new (c:=#[U i6 0,U i6 0,U i6 0,U i6 0,U i6 0,U i6 0,U i6 0,U i6 0,U i6 0,U i6 0,U i6 0,U i6 0,Sl none 0 0,Sl none 0 0,U i6 0,U i6 0,U i6 0,U i6 0,U i6 0,U i6 0,U i6 0,U i6 0,U i6 0,U i6 0,U i6 0,U i6 0,U i6 0,U i6 0]) (t:=44)
 simp only [World.size_alloc] at s0
 have HK:Hid (∀ W',_):=hK
 clear hK
 go_enter Tryz.func24,Tryz.ntmps24
 go_wp2_with fail
 refine (HK.out _ s0.below).mono ?_
 rintro e w1 ⟨rfl,hb⟩
 have s1:=(s0.call hb).new (c:=#[U i6 (O i 0),U i6 (O i 1),U i6 (O i 2),U i6 (O i 3),U i6 (O i 4),U i6 (O i 5),U i6 (O i 6),U i6 (O i 7),U i6 (O i 8),U i6 (O i 9),U i6 (O i 10),U i6 (O i 11),Sl wa lw cw,Sl ba lb cb,U i6 (O i 14),U i6 (O i 15),U i6 (O i 16),U i6 (O i 17),U i6 (O i 18),U i6 (O i 19),U i6 (O i 20),U i6 (O i 21),U i6 x0,U i6 y0,U i6 z0,U i6 H,U i6 V,U i6 C]) (t:=44)
 have HZ:Hid ((w1.alloc (.cells #[U i6 (O i 0),U i6 (O i 1),U i6 (O i 2),U i6 (O i 3),U i6 (O i 4),U i6 (O i 5),U i6 (O i 6),U i6 (O i 7),U i6 (O i 8),U i6 (O i 9),U i6 (O i 10),U i6 (O i 11),Sl wa lw cw,Sl ba lb cb,U i6 (O i 14),U i6 (O i 15),U i6 (O i 16),U i6 (O i 17),U i6 (O i 18),U i6 (O i 19),U i6 (O i 20),U i6 (O i 21),U i6 x0,U i6 y0,U i6 z0,U i6 H,U i6 V,U i6 C] 44)).heap[W.heap.size+1]? = some (.cells #[U i6 0,U i6 0,U i6 0,U i6 0,U i6 0,U i6 0,U i6 0,U i6 0,U i6 0,U i6 0,U i6 0,U i6 0,Sl none 0 0,Sl none 0 0,U i6 0,U i6 0,U i6 0,U i6 0,U i6 0,U i6 0,U i6 0,U i6 0,U i6 0,U i6 0,U i6 0,U i6 0,U i6 0,U i6 0] 44 (0,0))):=s1.h2
 have hB1:Hid (Below W.heap.size W (w1.alloc (.cells #[U i6 (O i 0),U i6 (O i 1),U i6 (O i 2),U i6 (O i 3),U i6 (O i 4),U i6 (O i 5),U i6 (O i 6),U i6 (O i 7),U i6 (O i 8),U i6 (O i 9),U i6 (O i 10),U i6 (O i 11),Sl wa lw cw,Sl ba lb cb,U i6 (O i 14),U i6 (O i 15),U i6 (O i 16),U i6 (O i 17),U i6 (O i 18),U i6 (O i 19),U i6 (O i 20),U i6 (O i 21),U i6 x0,U i6 y0,U i6 z0,U i6 H,U i6 V,U i6 C] 44))):=s1.below
 clear hb s1 s0
 go_wp2_with (first
  | (refine wpList_st_new rfl 44 (.tmp 8) (.tmp 15) rfl w1 _ #[U i6 (O i 0),U i6 (O i 1),U i6 (O i 2),U i6 (O i 3),U i6 (O i 4),U i6 (O i 5),U i6 (O i 6),U i6 (O i 7),U i6 (O i 8),U i6 (O i 9),U i6 (O i 10),U i6 (O i 11),Sl wa lw cw,Sl ba lb cb,U i6 (O i 14),U i6 (O i 15),U i6 (O i 16),U i6 (O i 17),U i6 (O i 18),U i6 (O i 19),U i6 (O i 20),U i6 (O i 21),U i6 x0,U i6 y0,U i6 z0,U i6 H,U i6 V,U i6 C] rfl rfl (by kernel_rfl) rfl (by simp [Value.oneCell']) ?_)
  | (refine wpList_store_row rfl 44 (.tmp 6) (.tmp 23) rfl (W.heap.size+1) #[U i6 0,U i6 0,U i6 0,U i6 0,U i6 0,U i6 0,U i6 0,U i6 0,U i6 0,U i6 0,U i6 0,U i6 0,Sl none 0 0,Sl none 0 0,U i6 0,U i6 0,U i6 0,U i6 0,U i6 0,U i6 0,U i6 0,U i6 0,U i6 0,U i6 0,U i6 0,U i6 0,U i6 0,U i6 0] rfl rfl 44 #[U i6 0,U i6 0,U i6 0,U i6 0,U i6 0,U i6 0,U i6 0,U i6 0,U i6 0,U i6 0,U i6 0,U i6 0,Sl none 0 0,Sl none 0 0,U i6 0,U i6 0,U i6 0,U i6 0,U i6 0,U i6 0,U i6 0,U i6 0,U i6 0,U i6 0,U i6 0,U i6 0,U i6 0,U i6 0] HZ.out (by kernel_rfl) rfl (by simp [Value.oneCell']) ?_;have hZ':=setRow_heap _ (W.heap.size+1) #[U i6 0,U i6 0,U i6 0,U i6 0,U i6 0,U i6 0,U i6 0,U i6 0,U i6 0,U i6 0,U i6 0,U i6 0,Sl none 0 0,Sl none 0 0,U i6 0,U i6 0,U i6 0,U i6 0,U i6 0,U i6 0,U i6 0,U i6 0,U i6 0,U i6 0,U i6 0,U i6 0,U i6 0,U i6 0] #[U i6 0,U i6 0,U i6 0,U i6 0,U i6 0,U i6 0,U i6 0,U i6 0,U i6 0,U i6 0,U i6 0,U i6 0,Sl none 0 0,Sl none 0 0,U i6 0,U i6 0,U i6 0,U i6 0,U i6 0,U i6 0,U i6 0,U i6 0,U i6 0,U i6 0,U i6 0,U i6 0,U i6 0,U i6 0] 44 (0,0) HZ.out;have hB':Hid (Below W.heap.size W (_:World)):=below_setRow hB1.out (show W.heap.size≤W.heap.size+1 by omega) #[U i6 0,U i6 0,U i6 0,U i6 0,U i6 0,U i6 0,U i6 0,U i6 0,U i6 0,U i6 0,U i6 0,U i6 0,Sl none 0 0,Sl none 0 0,U i6 0,U i6 0,U i6 0,U i6 0,U i6 0,U i6 0,U i6 0,U i6 0,U i6 0,U i6 0,U i6 0,U i6 0,U i6 0,U i6 0];generalize World.setRow _ _ _=w5 at hZ' hB' ⊢))
 exact bodyPost_ret (results_row_tmp Tryz.results24 _ _ (W.heap.size+1) 44 _ _ (U i6 3) rfl hZ' Tryz.underlying44 rfl (by kernel_rfl) rfl) rfl ⟨rfl,hB'.out⟩
theorem rvb_any (lo hi:Int) (W:World) :
  Calls Tryz.prog 25 #[.agg #[U i6 lo,U i6 hi]] W fun e w'=>e=.returned (.bool (vbB lo hi))∧Below W.heap.size W w':=by
 by_cases c1:-128≤lo
 ·by_cases c2:lo≤hi
  ·by_cases c3:hi≤127
   ·have HR:Hid (true=vbB lo hi):=by unfold Hid vbB;simp [c1,c2,c3]
    go_enter Tryz.func25,Tryz.ntmps25
    go_wp2
    go_ret
    exact⟨by rw [← HR.out];rfl,(Below.refl _ _).alloc (Nat.le_refl _) _⟩
   ·have HR:Hid (false=vbB lo hi):=by unfold Hid vbB;simp [c3]
    go_enter Tryz.func25,Tryz.ntmps25
    go_wp2
    go_ret
    exact⟨by rw [← HR.out];rfl,(Below.refl _ _).alloc (Nat.le_refl _) _⟩
  ·have HR:Hid (false=vbB lo hi):=by unfold Hid vbB;simp [c2]
   go_enter Tryz.func25,Tryz.ntmps25
   go_wp2
   go_ret
   exact⟨by rw [← HR.out];rfl,(Below.refl _ _).alloc (Nat.le_refl _) _⟩
 ·have HR:Hid (false=vbB lo hi):=by unfold Hid vbB;simp [c1]
  go_enter Tryz.func25,Tryz.ntmps25
  go_wp2
  go_ret
  exact⟨by rw [← HR.out];rfl,(Below.refl _ _).alloc (Nat.le_refl _) _⟩
theorem rprd_any (k a b m kh kw sh sw tp lf bt rt:Int) (wa:Option Addr) (lw wc:Nat) (ba:Option Addr) (lb bc:Nat) (sm ss um us z p l2 h2 x0 y0 z0 H V C:Int) (W:World) (ch slo shi r1 r2:Int) (hP:∀ W',Below W.heap.size W W'→Calls Tryz.prog 16 #[.agg #[U i6 k,U i6 a,U i6 b,U i6 m,U i6 kh,U i6 kw,U i6 sh,U i6 sw,U i6 tp,U i6 lf,U i6 bt,U i6 rt,Sl wa lw wc,Sl ba lb bc,U i6 sm,U i6 ss,U i6 um,U i6 us,U i6 z,U i6 p,U i6 l2,U i6 h2,U i6 x0,U i6 y0,U i6 z0,U i6 H,U i6 V,U i6 C],U i6 ch,.agg #[U i6 slo,U i6 shi],U i6 1] W' fun e w'=>e=.returned (.agg #[U i6 r1,U i6 r2])∧Below W'.heap.size W' w') :
  Calls Tryz.prog 11 #[.agg #[U i6 k,U i6 a,U i6 b,U i6 m,U i6 kh,U i6 kw,U i6 sh,U i6 sw,U i6 tp,U i6 lf,U i6 bt,U i6 rt,Sl wa lw wc,Sl ba lb bc,U i6 sm,U i6 ss,U i6 um,U i6 us,U i6 z,U i6 p,U i6 l2,U i6 h2,U i6 x0,U i6 y0,U i6 z0,U i6 H,U i6 V,U i6 C],U i6 ch,.agg #[U i6 slo,U i6 shi]] W fun e w'=>e=.returned (.agg #[U i6 r1,U i6 r2])∧Below W.heap.size W w':=by
 have s0:=(((St.start W).new (c:=#[U i6 k,U i6 a,U i6 b,U i6 m,U i6 kh,U i6 kw,U i6 sh,U i6 sw,U i6 tp,U i6 lf,U i6 bt,U i6 rt,Sl wa lw wc,Sl ba lb bc,U i6 sm,U i6 ss,U i6 um,U i6 us,U i6 z,U i6 p,U i6 l2,U i6 h2,U i6 x0,U i6 y0,U i6 z0,U i6 H,U i6 V,U i6 C]) (t:=44)).new (c:=#[U i6 slo,U i6 shi]) (t:=28)).new (c:=#[U i6 0,U i6 0]) (t:=28)
 simp only [World.size_alloc] at s0
 have HP:Hid (∀ W',_):=hP
 clear hP
 have S0:Hid (St W _ _):=s0
 clear s0
 go_enter Tryz.func11,Tryz.ntmps11
 have h3:=S0.out.h3
 go_wp2_with (refine wpList_load_row rfl 44 (.tmp 3) rfl W.heap.size rfl 44 _ (0,0) _ h3 Tryz.underlying44 rfl (by kernel_rfl) ?_)
 refine Calls.mono (HP.out _ S0.out.below) ?_
 rintro e w1 ⟨rfl,hb⟩
 have s1:=S0.out.call hb
 clear S0 hb h3
 have HB:Hid (Below W.heap.size W _):=s1.out2 (i:=0) (j:=1) (u:=U i6 r1) (v:=U i6 r2)
 obtain⟨c1,f1,z1,-⟩:=s1.rules
 clear s1
 go_wp2
 exact bodyPost_ret (v:=.agg #[U i6 r1,U i6 r2]) (by simp [results,Tryz.results11,go_sem,c1]) rfl ⟨rfl,HB.out⟩
theorem rfi13_e (k a b m kh kw sh sw tp lf bt rt:Int) (wa:Option Addr) (lw wc:Nat) (ba:Option Addr) (lb bc:Nat) (sm ss um us z p l2 h2 x0 y0 z0 H V C:Int) (h w c lo hi ot:Int) (oa:Option Addr) (on oc:Nat) (W:World) (op ch slo shi E:Int) (hE:E≠0)
  (hK:∀ W',Below W.heap.size W W'→Calls Tryz.prog 24 #[.agg #[U i6 h,U i6 w,U i6 c,U i6 lo,U i6 hi,Sl oa on oc,U i6 ot],U i6 op,U i6 ch] W' fun e w'=>e=.returned (.tuple #[.agg #[U i6 k,U i6 a,U i6 b,U i6 m,U i6 kh,U i6 kw,U i6 sh,U i6 sw,U i6 tp,U i6 lf,U i6 bt,U i6 rt,Sl wa lw wc,Sl ba lb bc,U i6 sm,U i6 ss,U i6 um,U i6 us,U i6 z,U i6 p,U i6 l2,U i6 h2,U i6 x0,U i6 y0,U i6 z0,U i6 H,U i6 V,U i6 C],U i6 E])∧Below W'.heap.size W' w') :
  Calls Tryz.prog 8 #[.agg #[U i6 h,U i6 w,U i6 c,U i6 lo,U i6 hi,Sl oa on oc,U i6 ot],U i6 op,U i6 ch,.agg #[U i6 slo,U i6 shi]] W fun e w'=>e=.returned (.tuple #[.agg #[U i6 k,U i6 a,U i6 b,U i6 m,U i6 kh,U i6 kw,U i6 sh,U i6 sw,U i6 tp,U i6 lf,U i6 bt,U i6 rt,Sl wa lw wc,Sl ba lb bc,U i6 sm,U i6 ss,U i6 um,U i6 us,U i6 z,U i6 p,U i6 l2,U i6 h2,U i6 x0,U i6 y0,U i6 z0,U i6 H,U i6 V,U i6 C],U i6 E])∧Below W.heap.size W w':=by
 have s0:=(((St.start W).new (c:=#[U i6 h,U i6 w,U i6 c,U i6 lo,U i6 hi,Sl oa on oc,U i6 ot]) (t:=26)).new (c:=#[U i6 slo,U i6 shi]) (t:=28)).new (c:=#[U i6 0,U i6 0,U i6 0,U i6 0,U i6 0,U i6 0,U i6 0,U i6 0,U i6 0,U i6 0,U i6 0,U i6 0,Sl none 0 0,Sl none 0 0,U i6 0,U i6 0,U i6 0,U i6 0,U i6 0,U i6 0,U i6 0,U i6 0,U i6 0,U i6 0,U i6 0,U i6 0,U i6 0,U i6 0]) (t:=44)
 simp only [World.size_alloc] at s0
 have HK:Hid (∀ W',_):=hK
 have hE':(E == 0)=false:=by simp [hE]
 clear hK
 go_enter Tryz.func8,Tryz.ntmps8
 go_wp2_with fail
 refine (HK.out _ s0.below).mono ?_
 rintro e w1 ⟨rfl,hb⟩
 have s1:=(s0.call hb).new (c:=#[U i6 k,U i6 a,U i6 b,U i6 m,U i6 kh,U i6 kw,U i6 sh,U i6 sw,U i6 tp,U i6 lf,U i6 bt,U i6 rt,Sl wa lw wc,Sl ba lb bc,U i6 sm,U i6 ss,U i6 um,U i6 us,U i6 z,U i6 p,U i6 l2,U i6 h2,U i6 x0,U i6 y0,U i6 z0,U i6 H,U i6 V,U i6 C]) (t:=44)
 have hR1:=s1.h1
 have HZ:Hid ((w1.alloc (.cells #[U i6 k,U i6 a,U i6 b,U i6 m,U i6 kh,U i6 kw,U i6 sh,U i6 sw,U i6 tp,U i6 lf,U i6 bt,U i6 rt,Sl wa lw wc,Sl ba lb bc,U i6 sm,U i6 ss,U i6 um,U i6 us,U i6 z,U i6 p,U i6 l2,U i6 h2,U i6 x0,U i6 y0,U i6 z0,U i6 H,U i6 V,U i6 C] 44)).heap[W.heap.size+1+1]? = some (.cells #[U i6 0,U i6 0,U i6 0,U i6 0,U i6 0,U i6 0,U i6 0,U i6 0,U i6 0,U i6 0,U i6 0,U i6 0,Sl none 0 0,Sl none 0 0,U i6 0,U i6 0,U i6 0,U i6 0,U i6 0,U i6 0,U i6 0,U i6 0,U i6 0,U i6 0,U i6 0,U i6 0,U i6 0,U i6 0] 44 (0,0))):=s1.h2
 have hB1:Hid (Below W.heap.size W (w1.alloc (.cells #[U i6 k,U i6 a,U i6 b,U i6 m,U i6 kh,U i6 kw,U i6 sh,U i6 sw,U i6 tp,U i6 lf,U i6 bt,U i6 rt,Sl wa lw wc,Sl ba lb bc,U i6 sm,U i6 ss,U i6 um,U i6 us,U i6 z,U i6 p,U i6 l2,U i6 h2,U i6 x0,U i6 y0,U i6 z0,U i6 H,U i6 V,U i6 C] 44))):=s1.below
 clear hb s1 s0
 go_wp2_with (first
  | (refine wpList_st_new rfl 44 (.tmp 10) (.tmp 17) rfl w1 _ #[U i6 k,U i6 a,U i6 b,U i6 m,U i6 kh,U i6 kw,U i6 sh,U i6 sw,U i6 tp,U i6 lf,U i6 bt,U i6 rt,Sl wa lw wc,Sl ba lb bc,U i6 sm,U i6 ss,U i6 um,U i6 us,U i6 z,U i6 p,U i6 l2,U i6 h2,U i6 x0,U i6 y0,U i6 z0,U i6 H,U i6 V,U i6 C] rfl rfl (by kernel_rfl) rfl (by simp [Value.oneCell']) ?_)
  | (refine wpList_load_row rfl 44 (.tmp 10) rfl w1.heap.size rfl 44 _ (0,0) _ hR1 Tryz.underlying44 rfl (by kernel_rfl) ?_)
  | (refine wpList_store_row rfl 44 (.tmp 8) (.tmp 26) rfl (W.heap.size+1+1) #[U i6 k,U i6 a,U i6 b,U i6 m,U i6 kh,U i6 kw,U i6 sh,U i6 sw,U i6 tp,U i6 lf,U i6 bt,U i6 rt,Sl wa lw wc,Sl ba lb bc,U i6 sm,U i6 ss,U i6 um,U i6 us,U i6 z,U i6 p,U i6 l2,U i6 h2,U i6 x0,U i6 y0,U i6 z0,U i6 H,U i6 V,U i6 C] rfl rfl 44 #[U i6 0,U i6 0,U i6 0,U i6 0,U i6 0,U i6 0,U i6 0,U i6 0,U i6 0,U i6 0,U i6 0,U i6 0,Sl none 0 0,Sl none 0 0,U i6 0,U i6 0,U i6 0,U i6 0,U i6 0,U i6 0,U i6 0,U i6 0,U i6 0,U i6 0,U i6 0,U i6 0,U i6 0,U i6 0] HZ.out (by kernel_rfl) rfl (by simp [Value.oneCell']) ?_;have hZ':=setRow_heap _ (W.heap.size+1+1) #[U i6 0,U i6 0,U i6 0,U i6 0,U i6 0,U i6 0,U i6 0,U i6 0,U i6 0,U i6 0,U i6 0,U i6 0,Sl none 0 0,Sl none 0 0,U i6 0,U i6 0,U i6 0,U i6 0,U i6 0,U i6 0,U i6 0,U i6 0,U i6 0,U i6 0,U i6 0,U i6 0,U i6 0,U i6 0] #[U i6 k,U i6 a,U i6 b,U i6 m,U i6 kh,U i6 kw,U i6 sh,U i6 sw,U i6 tp,U i6 lf,U i6 bt,U i6 rt,Sl wa lw wc,Sl ba lb bc,U i6 sm,U i6 ss,U i6 um,U i6 us,U i6 z,U i6 p,U i6 l2,U i6 h2,U i6 x0,U i6 y0,U i6 z0,U i6 H,U i6 V,U i6 C] 44 (0,0) HZ.out;have hB':Hid (Below W.heap.size W (_:World)):=below_setRow hB1.out (show W.heap.size≤W.heap.size+1+1 by omega) #[U i6 k,U i6 a,U i6 b,U i6 m,U i6 kh,U i6 kw,U i6 sh,U i6 sw,U i6 tp,U i6 lf,U i6 bt,U i6 rt,Sl wa lw wc,Sl ba lb bc,U i6 sm,U i6 ss,U i6 um,U i6 us,U i6 z,U i6 p,U i6 l2,U i6 h2,U i6 x0,U i6 y0,U i6 z0,U i6 H,U i6 V,U i6 C];clear hR1;generalize World.setRow _ _ _=w5 at hZ' hB' ⊢))
 exact bodyPost_ret (results_row_tmp Tryz.results8 _ _ (W.heap.size+1+1) 44 _ _ (U i6 E) rfl hZ' Tryz.underlying44 rfl (by kernel_rfl) rfl) rfl ⟨rfl,hB'.out⟩
theorem rfi13_ok (k a b m kh kw sh sw tp lf bt rt:Int) (wa:Option Addr) (lw wc:Nat) (ba:Option Addr) (lb bc:Nat) (sm ss um us z p l2 h2 x0 y0 z0 H V C:Int) (h w c lo hi ot:Int) (oa:Option Addr) (on oc:Nat) (W:World) (op ch slo shi:Int) (hv:vbB slo shi=true)
  (hK:∀ W',Below W.heap.size W W'→Calls Tryz.prog 24 #[.agg #[U i6 h,U i6 w,U i6 c,U i6 lo,U i6 hi,Sl oa on oc,U i6 ot],U i6 op,U i6 ch] W' fun e w'=>e=.returned (.tuple #[.agg #[U i6 k,U i6 a,U i6 b,U i6 m,U i6 kh,U i6 kw,U i6 sh,U i6 sw,U i6 tp,U i6 lf,U i6 bt,U i6 rt,Sl wa lw wc,Sl ba lb bc,U i6 sm,U i6 ss,U i6 um,U i6 us,U i6 z,U i6 p,U i6 l2,U i6 h2,U i6 x0,U i6 y0,U i6 z0,U i6 H,U i6 V,U i6 C],U i6 0])∧Below W'.heap.size W' w') :
  Calls Tryz.prog 8 #[.agg #[U i6 h,U i6 w,U i6 c,U i6 lo,U i6 hi,Sl oa on oc,U i6 ot],U i6 op,U i6 ch,.agg #[U i6 slo,U i6 shi]] W fun e w'=>e=.returned (.tuple #[.agg #[U i6 k,U i6 a,U i6 b,U i6 m,U i6 kh,U i6 kw,U i6 sh,U i6 sw,U i6 tp,U i6 lf,U i6 bt,U i6 rt,Sl wa lw wc,Sl ba lb bc,U i6 sm,U i6 ss,U i6 um,U i6 us,U i6 z,U i6 p,U i6 l2,U i6 h2,U i6 x0,U i6 y0,U i6 z0,U i6 H,U i6 V,U i6 C],U i6 0])∧Below W.heap.size W w':=by
 have s0:=(((St.start W).new (c:=#[U i6 h,U i6 w,U i6 c,U i6 lo,U i6 hi,Sl oa on oc,U i6 ot]) (t:=26)).new (c:=#[U i6 slo,U i6 shi]) (t:=28)).new (c:=#[U i6 0,U i6 0,U i6 0,U i6 0,U i6 0,U i6 0,U i6 0,U i6 0,U i6 0,U i6 0,U i6 0,U i6 0,Sl none 0 0,Sl none 0 0,U i6 0,U i6 0,U i6 0,U i6 0,U i6 0,U i6 0,U i6 0,U i6 0,U i6 0,U i6 0,U i6 0,U i6 0,U i6 0,U i6 0]) (t:=44)
 simp only [World.size_alloc] at s0
 have HK:Hid (∀ W',_):=hK
 have HV:Hid (∀ w,_):=fun w=>rvb_any slo shi w
 rw [hv] at HV
 clear hK
 go_enter Tryz.func8,Tryz.ntmps8
 go_wp2_with fail
 refine (HK.out _ s0.below).mono ?_
 rintro e w1 ⟨rfl,hb⟩
 have s1:=(s0.call hb).new (c:=#[U i6 k,U i6 a,U i6 b,U i6 m,U i6 kh,U i6 kw,U i6 sh,U i6 sw,U i6 tp,U i6 lf,U i6 bt,U i6 rt,Sl wa lw wc,Sl ba lb bc,U i6 sm,U i6 ss,U i6 um,U i6 us,U i6 z,U i6 p,U i6 l2,U i6 h2,U i6 x0,U i6 y0,U i6 z0,U i6 H,U i6 V,U i6 C]) (t:=44)
 clear hb s0
 obtain⟨-,-,-,-,-,-,c3,f3,z3,-⟩:=s1.rules
 go_wp2_with (refine wpList_st_new rfl 44 (.tmp 10) (.tmp 17) rfl w1 _ #[U i6 k,U i6 a,U i6 b,U i6 m,U i6 kh,U i6 kw,U i6 sh,U i6 sw,U i6 tp,U i6 lf,U i6 bt,U i6 rt,Sl wa lw wc,Sl ba lb bc,U i6 sm,U i6 ss,U i6 um,U i6 us,U i6 z,U i6 p,U i6 l2,U i6 h2,U i6 x0,U i6 y0,U i6 z0,U i6 H,U i6 V,U i6 C] rfl rfl (by kernel_rfl) rfl (by simp [Value.oneCell']) ?_)
 refine (HV.out _).mono ?_
 rintro e w2 ⟨rfl,hb⟩
 have s2:=s1.call hb
 obtain⟨B,hB⟩:∃ B,w1.heap.size=B:=⟨_,rfl⟩
 rw [hB] at s2 ⊢
 have hR1:=s2.h1
 have HZ:Hid (w2.heap[W.heap.size+1+1]? = some (.cells #[U i6 0,U i6 0,U i6 0,U i6 0,U i6 0,U i6 0,U i6 0,U i6 0,U i6 0,U i6 0,U i6 0,U i6 0,Sl none 0 0,Sl none 0 0,U i6 0,U i6 0,U i6 0,U i6 0,U i6 0,U i6 0,U i6 0,U i6 0,U i6 0,U i6 0,U i6 0,U i6 0,U i6 0,U i6 0] 44 (0,0))):=s2.h2
 have hB1:Hid (Below W.heap.size W w2):=s2.below
 clear hb s1 s2 c3 f3 z3 hB
 go_wp2_with (first
  | (refine wpList_load_row rfl 44 (.tmp 10) rfl B rfl 44 _ (0,0) _ hR1 Tryz.underlying44 rfl (by kernel_rfl) ?_)
  | (refine wpList_store_row rfl 44 (.tmp 8) (.tmp 26) rfl (W.heap.size+1+1) #[U i6 k,U i6 a,U i6 b,U i6 m,U i6 kh,U i6 kw,U i6 sh,U i6 sw,U i6 tp,U i6 lf,U i6 bt,U i6 rt,Sl wa lw wc,Sl ba lb bc,U i6 sm,U i6 ss,U i6 um,U i6 us,U i6 z,U i6 p,U i6 l2,U i6 h2,U i6 x0,U i6 y0,U i6 z0,U i6 H,U i6 V,U i6 C] rfl rfl 44 #[U i6 0,U i6 0,U i6 0,U i6 0,U i6 0,U i6 0,U i6 0,U i6 0,U i6 0,U i6 0,U i6 0,U i6 0,Sl none 0 0,Sl none 0 0,U i6 0,U i6 0,U i6 0,U i6 0,U i6 0,U i6 0,U i6 0,U i6 0,U i6 0,U i6 0,U i6 0,U i6 0,U i6 0,U i6 0] HZ.out (by kernel_rfl) rfl (by simp [Value.oneCell']) ?_;have hZ':=setRow_heap _ (W.heap.size+1+1) #[U i6 0,U i6 0,U i6 0,U i6 0,U i6 0,U i6 0,U i6 0,U i6 0,U i6 0,U i6 0,U i6 0,U i6 0,Sl none 0 0,Sl none 0 0,U i6 0,U i6 0,U i6 0,U i6 0,U i6 0,U i6 0,U i6 0,U i6 0,U i6 0,U i6 0,U i6 0,U i6 0,U i6 0,U i6 0] #[U i6 k,U i6 a,U i6 b,U i6 m,U i6 kh,U i6 kw,U i6 sh,U i6 sw,U i6 tp,U i6 lf,U i6 bt,U i6 rt,Sl wa lw wc,Sl ba lb bc,U i6 sm,U i6 ss,U i6 um,U i6 us,U i6 z,U i6 p,U i6 l2,U i6 h2,U i6 x0,U i6 y0,U i6 z0,U i6 H,U i6 V,U i6 C] 44 (0,0) HZ.out;have hB':Hid (Below W.heap.size W (_:World)):=below_setRow hB1.out (show W.heap.size≤W.heap.size+1+1 by omega) #[U i6 k,U i6 a,U i6 b,U i6 m,U i6 kh,U i6 kw,U i6 sh,U i6 sw,U i6 tp,U i6 lf,U i6 bt,U i6 rt,Sl wa lw wc,Sl ba lb bc,U i6 sm,U i6 ss,U i6 um,U i6 us,U i6 z,U i6 p,U i6 l2,U i6 h2,U i6 x0,U i6 y0,U i6 z0,U i6 H,U i6 V,U i6 C];clear hR1;generalize World.setRow _ _ _=w5 at hZ' hB' ⊢))
 exact bodyPost_ret (results_row_tmp Tryz.results8 _ _ (W.heap.size+1+1) 44 _ _ (U i6 0) rfl hZ' Tryz.underlying44 rfl (by kernel_rfl) rfl) rfl ⟨rfl,hB'.out⟩
theorem rfi13_no (k a b m kh kw sh sw tp lf bt rt:Int) (wa:Option Addr) (lw wc:Nat) (ba:Option Addr) (lb bc:Nat) (sm ss um us z p l2 h2 x0 y0 z0 H V C:Int) (h w c lo hi ot:Int) (oa:Option Addr) (on oc:Nat) (W:World) (op ch slo shi:Int) (hv:vbB slo shi=false)
  (hK:∀ W',Below W.heap.size W W'→Calls Tryz.prog 24 #[.agg #[U i6 h,U i6 w,U i6 c,U i6 lo,U i6 hi,Sl oa on oc,U i6 ot],U i6 op,U i6 ch] W' fun e w'=>e=.returned (.tuple #[.agg #[U i6 k,U i6 a,U i6 b,U i6 m,U i6 kh,U i6 kw,U i6 sh,U i6 sw,U i6 tp,U i6 lf,U i6 bt,U i6 rt,Sl wa lw wc,Sl ba lb bc,U i6 sm,U i6 ss,U i6 um,U i6 us,U i6 z,U i6 p,U i6 l2,U i6 h2,U i6 x0,U i6 y0,U i6 z0,U i6 H,U i6 V,U i6 C],U i6 0])∧Below W'.heap.size W' w') :
  Calls Tryz.prog 8 #[.agg #[U i6 h,U i6 w,U i6 c,U i6 lo,U i6 hi,Sl oa on oc,U i6 ot],U i6 op,U i6 ch,.agg #[U i6 slo,U i6 shi]] W fun e w'=>e=.returned (.tuple #[.agg #[U i6 k,U i6 a,U i6 b,U i6 m,U i6 kh,U i6 kw,U i6 sh,U i6 sw,U i6 tp,U i6 lf,U i6 bt,U i6 rt,Sl wa lw wc,Sl ba lb bc,U i6 sm,U i6 ss,U i6 um,U i6 us,U i6 z,U i6 p,U i6 l2,U i6 h2,U i6 x0,U i6 y0,U i6 z0,U i6 H,U i6 V,U i6 C],U i6 30])∧Below W.heap.size W w':=by
 have s0:=(((St.start W).new (c:=#[U i6 h,U i6 w,U i6 c,U i6 lo,U i6 hi,Sl oa on oc,U i6 ot]) (t:=26)).new (c:=#[U i6 slo,U i6 shi]) (t:=28)).new (c:=#[U i6 0,U i6 0,U i6 0,U i6 0,U i6 0,U i6 0,U i6 0,U i6 0,U i6 0,U i6 0,U i6 0,U i6 0,Sl none 0 0,Sl none 0 0,U i6 0,U i6 0,U i6 0,U i6 0,U i6 0,U i6 0,U i6 0,U i6 0,U i6 0,U i6 0,U i6 0,U i6 0,U i6 0,U i6 0]) (t:=44)
 simp only [World.size_alloc] at s0
 have HK:Hid (∀ W',_):=hK
 have HV:Hid (∀ w,_):=fun w=>rvb_any slo shi w
 rw [hv] at HV
 clear hK
 go_enter Tryz.func8,Tryz.ntmps8
 go_wp2_with fail
 refine (HK.out _ s0.below).mono ?_
 rintro e w1 ⟨rfl,hb⟩
 have s1:=(s0.call hb).new (c:=#[U i6 k,U i6 a,U i6 b,U i6 m,U i6 kh,U i6 kw,U i6 sh,U i6 sw,U i6 tp,U i6 lf,U i6 bt,U i6 rt,Sl wa lw wc,Sl ba lb bc,U i6 sm,U i6 ss,U i6 um,U i6 us,U i6 z,U i6 p,U i6 l2,U i6 h2,U i6 x0,U i6 y0,U i6 z0,U i6 H,U i6 V,U i6 C]) (t:=44)
 clear hb s0
 obtain⟨-,-,-,-,-,-,c3,f3,z3,-⟩:=s1.rules
 go_wp2_with (refine wpList_st_new rfl 44 (.tmp 10) (.tmp 17) rfl w1 _ #[U i6 k,U i6 a,U i6 b,U i6 m,U i6 kh,U i6 kw,U i6 sh,U i6 sw,U i6 tp,U i6 lf,U i6 bt,U i6 rt,Sl wa lw wc,Sl ba lb bc,U i6 sm,U i6 ss,U i6 um,U i6 us,U i6 z,U i6 p,U i6 l2,U i6 h2,U i6 x0,U i6 y0,U i6 z0,U i6 H,U i6 V,U i6 C] rfl rfl (by kernel_rfl) rfl (by simp [Value.oneCell']) ?_)
 refine (HV.out _).mono ?_
 rintro e w2 ⟨rfl,hb⟩
 have s2:=s1.call hb
 obtain⟨B,hB⟩:∃ B,w1.heap.size=B:=⟨_,rfl⟩
 rw [hB] at s2 ⊢
 have hR1:=s2.h1
 have HZ:Hid (w2.heap[W.heap.size+1+1]? = some (.cells #[U i6 0,U i6 0,U i6 0,U i6 0,U i6 0,U i6 0,U i6 0,U i6 0,U i6 0,U i6 0,U i6 0,U i6 0,Sl none 0 0,Sl none 0 0,U i6 0,U i6 0,U i6 0,U i6 0,U i6 0,U i6 0,U i6 0,U i6 0,U i6 0,U i6 0,U i6 0,U i6 0,U i6 0,U i6 0] 44 (0,0))):=s2.h2
 have hB1:Hid (Below W.heap.size W w2):=s2.below
 clear hb s1 s2 c3 f3 z3 hB
 go_wp2_with (first
  | (refine wpList_load_row rfl 44 (.tmp 10) rfl B rfl 44 _ (0,0) _ hR1 Tryz.underlying44 rfl (by kernel_rfl) ?_)
  | (refine wpList_store_row rfl 44 (.tmp 8) (.tmp 26) rfl (W.heap.size+1+1) #[U i6 k,U i6 a,U i6 b,U i6 m,U i6 kh,U i6 kw,U i6 sh,U i6 sw,U i6 tp,U i6 lf,U i6 bt,U i6 rt,Sl wa lw wc,Sl ba lb bc,U i6 sm,U i6 ss,U i6 um,U i6 us,U i6 z,U i6 p,U i6 l2,U i6 h2,U i6 x0,U i6 y0,U i6 z0,U i6 H,U i6 V,U i6 C] rfl rfl 44 #[U i6 0,U i6 0,U i6 0,U i6 0,U i6 0,U i6 0,U i6 0,U i6 0,U i6 0,U i6 0,U i6 0,U i6 0,Sl none 0 0,Sl none 0 0,U i6 0,U i6 0,U i6 0,U i6 0,U i6 0,U i6 0,U i6 0,U i6 0,U i6 0,U i6 0,U i6 0,U i6 0,U i6 0,U i6 0] HZ.out (by kernel_rfl) rfl (by simp [Value.oneCell']) ?_;have hZ':=setRow_heap _ (W.heap.size+1+1) #[U i6 0,U i6 0,U i6 0,U i6 0,U i6 0,U i6 0,U i6 0,U i6 0,U i6 0,U i6 0,U i6 0,U i6 0,Sl none 0 0,Sl none 0 0,U i6 0,U i6 0,U i6 0,U i6 0,U i6 0,U i6 0,U i6 0,U i6 0,U i6 0,U i6 0,U i6 0,U i6 0,U i6 0,U i6 0] #[U i6 k,U i6 a,U i6 b,U i6 m,U i6 kh,U i6 kw,U i6 sh,U i6 sw,U i6 tp,U i6 lf,U i6 bt,U i6 rt,Sl wa lw wc,Sl ba lb bc,U i6 sm,U i6 ss,U i6 um,U i6 us,U i6 z,U i6 p,U i6 l2,U i6 h2,U i6 x0,U i6 y0,U i6 z0,U i6 H,U i6 V,U i6 C] 44 (0,0) HZ.out;have hB':Hid (Below W.heap.size W (_:World)):=below_setRow hB1.out (show W.heap.size≤W.heap.size+1+1 by omega) #[U i6 k,U i6 a,U i6 b,U i6 m,U i6 kh,U i6 kw,U i6 sh,U i6 sw,U i6 tp,U i6 lf,U i6 bt,U i6 rt,Sl wa lw wc,Sl ba lb bc,U i6 sm,U i6 ss,U i6 um,U i6 us,U i6 z,U i6 p,U i6 l2,U i6 h2,U i6 x0,U i6 y0,U i6 z0,U i6 H,U i6 V,U i6 C];clear hR1;generalize World.setRow _ _ _=w5 at hZ' hB' ⊢))
 exact bodyPost_ret (results_row_tmp Tryz.results8 _ _ (W.heap.size+1+1) 44 _ _ (U i6 30) rfl hZ' Tryz.underlying44 rfl (by kernel_rfl) rfl) rfl ⟨rfl,hB'.out⟩
theorem mem_pb1 {E:List (Int×Int)} {x:Int×Int}:x∈paL 1 E++E ↔ x∈E:=by
 rw [List.mem_append,mem_paL (by omega)]
 constructor
 ·rintro (⟨i,hi,rfl⟩ | h)
  ·unfold psm
   rw [Nat.div_one,Nat.mul_one,Nat.mod_one,Nat.zero_add]
   rw [List.take_one,List.head?_drop,List.getElem?_eq_getElem hi]
   simp only [Option.toList,suS,List.foldl,plS,Int.zero_add]
   exact List.getElem_mem hi
  ·exact h
 ·exact .inr
theorem hbD_1 {R:Nat→List (Int×Int)} {N:Nat} (hN:0<N) (h0:0<(R 0).length):hbD 1 R N=hbP R N:=by
 have h:piT (fun E=>paL 1 E++E) R N≠[]:=fun e=>by
  have:(R 0).getD 0 (0,0)∈piT (fun E=>paL 1 E++E) R N:=mem_piT.2 ⟨0,hN,List.mem_append_right _ (by rw [List.getD_eq_getElem?_getD,List.getElem?_eq_getElem h0];exact List.getElem_mem _)⟩
  rw [e] at this;cases this
 refine huA_eq h fun x=>?_
 rw [mem_piT,mem_piT]
 constructor
 ·rintro⟨k,hk,hx⟩;exact⟨k,hk,mem_pb1.1 hx⟩
 ·rintro⟨k,hk,hx⟩;exact⟨k,hk,mem_pb1.2 hx⟩
theorem rask (h w c lo hi ot:Int) (oa:Option Addr) (on oc:Nat) (O:Nat→Nat→Int) (Z B:Nat→List Int) (W:World) (hL:LRow W oa on oc O Z B) (hon:on≤1000000000000) (op ch:Int) :
  (∃ E:Int,E≠0∧(∀ W',Below W.heap.size W W'→(Calls Tryz.prog 37 #[.agg #[U i6 h,U i6 w,U i6 c,U i6 lo,U i6 hi,Sl oa on oc,U i6 ot],U i6 op,U i6 ch,U i6 0] W' fun e w'=>e=.returned (.tuple #[Sl none 0 0,U i6 0,U i6 E])∧Below W'.heap.size W' w')∧∀ slo shi:Int,Calls Tryz.prog 17 #[.agg #[U i6 h,U i6 w,U i6 c,U i6 lo,U i6 hi,Sl oa on oc,U i6 ot],U i6 op,U i6 ch,.agg #[U i6 slo,U i6 shi]] W' fun e w'=>e=.returned (.tuple #[.agg #[U i6 0,U i6 0,Sl none 0 0,U i6 0,U i6 0,U i6 0,U i6 0,U i6 0,U i6 0,U i6 0,U i6 0,U i6 0,U i6 0,Sl none 0 0,U i6 0],U i6 E])∧Below W'.heap.size W' w') ∧
    (∀ W',Below W.heap.size W W'→Calls Tryz.prog 24 #[.agg #[U i6 h,U i6 w,U i6 c,U i6 lo,U i6 hi,Sl oa on oc,U i6 ot],U i6 op,U i6 ch] W' fun e w'=>e=.returned (.tuple #[.agg #[U i6 0,U i6 0,U i6 0,U i6 0,U i6 0,U i6 0,U i6 0,U i6 0,U i6 0,U i6 0,U i6 0,U i6 0,Sl none 0 0,Sl none 0 0,U i6 0,U i6 0,U i6 0,U i6 0,U i6 0,U i6 0,U i6 0,U i6 0,U i6 0,U i6 0,U i6 0,U i6 0,U i6 0,U i6 0],U i6 E])∧Below W'.heap.size W' w')) ∨
  (∃ (RL:List (Int×Int×Int)) (Rw:Int),gtR O h w c lo hi ot on=(0,0,RL,Rw)∧∃ (i:Nat) (x:Addr) (wa:Option Addr) (lw cw:Nat) (ba:Option Addr) (lb cb:Nat) (x0 y0 z0 H V C:Int),op=(i:Int)+1∧Fnd W oa on O Z B RL i x wa lw cw ba lb cb x0 y0 z0 H V C∧(1≤ch∧ch≤C)):=by
 obtain⟨E,hf⟩:∃ E,fiE O h w c lo hi ot on op=E:=⟨_,rfl⟩
 by_cases hE:E=0
 ·subst hE
  obtain⟨RL,Rw,hR,i,x,wa,lw,cw,ba,lb,cb,x0,y0,z0,H,V,C,rfl,hF⟩:=found h w c lo hi ot oa on oc O Z B W hL op hf
  by_cases hch:1≤ch∧ch≤C
  ·exact .inr ⟨RL,Rw,hR,i,x,wa,lw,cw,ba,lb,cb,x0,y0,z0,H,V,C,rfl,hF,hch⟩
  ·refine .inl ⟨3,by omega,bofe_p h w c lo hi ot oa on oc O Z B W hL ch RL Rw hR i x wa lw cw ba lb cb x0 y0 z0 H V C hF hch _ 3 rfl rfl,fun W' hb=>?_⟩
   by_cases h0:0≤ch∧ch≤C
   ·obtain rfl:ch=0:=by omega
    exact fch_0 (O:=O) (i:=i) (x:=x) (wa:=wa) (lw:=lw) (cw:=cw) (ba:=ba) (lb:=lb) (cb:=cb) (x0:=x0) (y0:=y0) (z0:=z0) (H:=H) (V:=V) (C:=C) h w c lo hi ot oa on oc W' ((i:Int)+1) (fun W'' hb'=>rfind_ok h w c lo hi ot oa on oc O Z B W'' (hL.below (hb.trans (hb'.mono hb.size))) hon 0 RL Rw hR i x wa lw cw ba lb cb x0 y0 z0 H V C (hF.below (hb.trans (hb'.mono hb.size))) h0)
   ·exact fch_z (x9:=0) h w c lo hi ot oa on oc W' ((i:Int)+1) ch 3 (by omega) (fun W'' hb'=>rfind_no h w c lo hi ot oa on oc O Z B W'' (hL.below (hb.trans (hb'.mono hb.size))) hon ch RL Rw hR i x wa lw cw ba lb cb x0 y0 z0 H V C (hF.below (hb.trans (hb'.mono hb.size))) h0)
 ·exact .inl ⟨E,hE,bofe_e h w c lo hi ot oa on oc O Z B W hL op ch E hf hE,fun W' hb=>fch_z (x9:=0) h w c lo hi ot oa on oc W' op ch E (by omega) (fun W'' hb'=>rfind_bad h w c lo hi ot oa on oc O Z B W'' (hL.below (hb.trans (hb'.mono hb.size))) hon op ch E hf hE)⟩
theorem rfc_ok (h w c lo hi ot:Int) (oa:Option Addr) (on oc:Nat) (O:Nat→Nat→Int) (Z B:Nat→List Int) (W:World) (hL:LRow W oa on oc O Z B) (hon:on≤1000000000000) (ch:Int) (RL:List (Int×Int×Int)) (Rw:Int) (hR:gtR O h w c lo hi ot on=(0,0,RL,Rw)) (i:Nat) (x:Addr) (wa:Option Addr) (lw cw:Nat) (ba:Option Addr) (lb cb:Nat) (x0 y0 z0 H V C:Int) (hF:Fnd W oa on O Z B RL i x wa lw cw ba lb cb x0 y0 z0 H V C) (hch:1≤ch∧ch≤C):∀ W',Below W.heap.size W W'→Calls Tryz.prog 24 #[.agg #[U i6 h,U i6 w,U i6 c,U i6 lo,U i6 hi,Sl oa on oc,U i6 ot],U i6 ((i:Int)+1),U i6 ch] W' fun e w'=>e=.returned (.tuple #[.agg #[U i6 (O i 0),U i6 (O i 1),U i6 (O i 2),U i6 (O i 3),U i6 (O i 4),U i6 (O i 5),U i6 (O i 6),U i6 (O i 7),U i6 (O i 8),U i6 (O i 9),U i6 (O i 10),U i6 (O i 11),Sl wa lw cw,Sl ba lb cb,U i6 (O i 14),U i6 (O i 15),U i6 (O i 16),U i6 (O i 17),U i6 (O i 18),U i6 (O i 19),U i6 (O i 20),U i6 (O i 21),U i6 x0,U i6 y0,U i6 z0,U i6 H,U i6 V,U i6 C],U i6 0])∧Below W'.heap.size W' w':=fun W' hb =>
 fch_r (O:=O) (i:=i) (x:=x) (wa:=wa) (lw:=lw) (cw:=cw) (ba:=ba) (lb:=lb) (cb:=cb) (x0:=x0) (y0:=y0) (z0:=z0) (H:=H) (V:=V) (C:=C) h w c lo hi ot oa on oc W' ((i:Int)+1) ch 0 (fun q=>by omega) (fun W'' hb'=>rfind_ok h w c lo hi ot oa on oc O Z B W'' (hL.below (hb.trans (hb'.mono hb.size))) hon ch RL Rw hR i x wa lw cw ba lb cb x0 y0 z0 H V C (hF.below (hb.trans (hb'.mono hb.size))) ⟨by omega,hch.2⟩)
theorem rrw_ok (h w c lo hi ot:Int) (oa:Option Addr) (on oc:Nat) (O:Nat→Nat→Int) (Z B:Nat→List Int) (W:World) (hL:LRow W oa on oc O Z B) (ch:Int) (RL:List (Int×Int×Int)) (Rw:Int) (hR:gtR O h w c lo hi ot on=(0,0,RL,Rw)) (i:Nat) (x:Addr) (wa:Option Addr) (lw cw:Nat) (ba:Option Addr) (lb cb:Nat) (x0 y0 z0 H V C:Int) (hF:Fnd W oa on O Z B RL i x wa lw cw ba lb cb x0 y0 z0 H V C) (hch:1≤ch∧ch≤C) (slo shi:Int) (hs:-128≤slo∧slo≤shi∧shi≤127):∀ W',Below W.heap.size W W'→Calls Tryz.prog 27 #[.agg #[U i6 (O i 0),U i6 (O i 1),U i6 (O i 2),U i6 (O i 3),U i6 (O i 4),U i6 (O i 5),U i6 (O i 6),U i6 (O i 7),U i6 (O i 8),U i6 (O i 9),U i6 (O i 10),U i6 (O i 11),Sl wa lw cw,Sl ba lb cb,U i6 (O i 14),U i6 (O i 15),U i6 (O i 16),U i6 (O i 17),U i6 (O i 18),U i6 (O i 19),U i6 (O i 20),U i6 (O i 21),U i6 x0,U i6 y0,U i6 z0,U i6 H,U i6 V,U i6 C],U i6 ch,.agg #[U i6 slo,U i6 shi]] W' fun e w'=>(∃ v,e=.returned v∧RwO w' W'.heap.size v (fun (j:Nat)=>enL slo shi (O i 19) (siL (O i 0) (O i 4) (O i 5) (O i 6) (O i 7) (O i 8) (O i 9) (O i 10) (O i 11) x0 y0 z0 ch (j:Int) (Z i))) (H*V).toNat)∧Below W'.heap.size W' w':=fun W' hb=>by
 have hSit:=hF.2.2.2.2.2.2.2.2.2.1
 have hz:=hF.2.2.2.2.2.1.2.2.2.1
 obtain⟨-,-,-,-,hp,hbi,hHV⟩:=bfacts hL RL Rw hR i x wa lw cw ba lb cb x0 y0 z0 H V C hF hch
 have e:(((H*V).toNat:Nat):Int)=H*V:=by omega
 exact rrows_any (O i 0) (O i 1) (O i 2) (O i 3) (O i 4) (O i 5) (O i 6) (O i 7) (O i 8) (O i 9) (O i 10) (O i 11) wa lw cw ba lb cb (O i 14) (O i 15) (O i 16) (O i 17) (O i 18) (O i 19) (O i 20) (O i 21) x0 y0 z0 H V C W' ch slo shi (fun (j:Nat)=>enL slo shi (O i 19) (siL (O i 0) (O i 4) (O i 5) (O i 6) (O i 7) (O i 8) (O i 9) (O i 10) (O i 11) x0 y0 z0 ch (j:Int) (Z i))) (fun (j:Nat)=>siL (O i 0) (O i 4) (O i 5) (O i 6) (O i 7) (O i 8) (O i 9) (O i 10) (O i 11) x0 y0 z0 ch (j:Int) (Z i)) (H*V).toNat (by omega) (fun j=>rfl) (fun j=>⟨(siL_facts hSit hz hch _).1,fun t ht=>((siL_facts hSit hz hch _).2 t ht).1⟩) hs hp (fun W''=>by rw [e];exact rpos_any (O i 0) (O i 1) (O i 2) (O i 3) (O i 4) (O i 5) (O i 6) (O i 7) (O i 8) (O i 9) (O i 10) (O i 11) wa lw cw ba lb cb (O i 14) (O i 15) (O i 16) (O i 17) (O i 18) (O i 19) (O i 20) (O i 21) x0 y0 z0 H V C W'' hSit.2.2.1) (fun W'' j hb' hj=>rterms_any (O i 0) (O i 1) (O i 2) (O i 3) (O i 4) (O i 5) (O i 6) (O i 7) (O i 8) (O i 9) (O i 10) (O i 11) wa lw cw ba lb cb (O i 14) (O i 15) (O i 16) (O i 17) (O i 18) (O i 19) (O i 20) (O i 21) x0 y0 z0 H V C W'' (Z i) (hF.2.2.2.2.2.1.below (hb.trans (hb'.mono hb.size))) hSit ch j hch ⟨by omega,by omega⟩)
theorem rbg_ok (h w c lo hi ot:Int) (oa:Option Addr) (on oc:Nat) (O:Nat→Nat→Int) (Z B:Nat→List Int) (W:World) (hL:LRow W oa on oc O Z B) (ch:Int) (RL:List (Int×Int×Int)) (Rw:Int) (hR:gtR O h w c lo hi ot on=(0,0,RL,Rw)) (i:Nat) (x:Addr) (wa:Option Addr) (lw cw:Nat) (ba:Option Addr) (lb cb:Nat) (x0 y0 z0 H V C:Int) (hF:Fnd W oa on O Z B RL i x wa lw cw ba lb cb x0 y0 z0 H V C) (hch:1≤ch∧ch≤C):∀ W',Below W.heap.size W W'→Calls Tryz.prog 28 #[.agg #[U i6 (O i 0),U i6 (O i 1),U i6 (O i 2),U i6 (O i 3),U i6 (O i 4),U i6 (O i 5),U i6 (O i 6),U i6 (O i 7),U i6 (O i 8),U i6 (O i 9),U i6 (O i 10),U i6 (O i 11),Sl wa lw cw,Sl ba lb cb,U i6 (O i 14),U i6 (O i 15),U i6 (O i 16),U i6 (O i 17),U i6 (O i 18),U i6 (O i 19),U i6 (O i 20),U i6 (O i 21),U i6 x0,U i6 y0,U i6 z0,U i6 H,U i6 V,U i6 C],U i6 ch] W' fun e w'=>e=.returned (.agg #[U i6 (biA (O i 0) ch (B i)),U i6 (biA (O i 0) ch (B i))])∧Below W'.heap.size W' w':=fun W' hb =>
 rbeg_any (O i 0) (O i 1) (O i 2) (O i 3) (O i 4) (O i 5) (O i 6) (O i 7) (O i 8) (O i 9) (O i 10) (O i 11) wa lw cw ba lb cb (O i 14) (O i 15) (O i 16) (O i 17) (O i 18) (O i 19) (O i 20) (O i 21) x0 y0 z0 H V C W' (biA (O i 0) ch (B i)) ch (fun W'' hb'=>rbias_any (O i 0) (O i 1) (O i 2) (O i 3) (O i 4) (O i 5) (O i 6) (O i 7) (O i 8) (O i 9) (O i 10) (O i 11) wa lw cw ba lb cb (O i 14) (O i 15) (O i 16) (O i 17) (O i 18) (O i 19) (O i 20) (O i 21) x0 y0 z0 H V C W'' (B i) (hF.2.2.2.2.2.2.1.below (hb.trans (hb'.mono hb.size))) hF.2.2.2.2.2.2.2.2.2.1 ch hch)
theorem dto_ok (h w c lo hi ot:Int) (oa:Option Addr) (on oc:Nat) (O:Nat→Nat→Int) (Z B:Nat→List Int) (W:World) (hL:LRow W oa on oc O Z B) (ch:Int) (RL:List (Int×Int×Int)) (Rw:Int) (hR:gtR O h w c lo hi ot on=(0,0,RL,Rw)) (i:Nat) (x:Addr) (wa:Option Addr) (lw cw:Nat) (ba:Option Addr) (lb cb:Nat) (x0 y0 z0 H V C:Int) (hF:Fnd W oa on O Z B RL i x wa lw cw ba lb cb x0 y0 z0 H V C) (hch:1≤ch∧ch≤C) (slo shi:Int) (hs:-128≤slo∧slo≤shi∧shi≤127):∀ W',Below W.heap.size W W'→Calls Tryz.prog 10 #[.agg #[U i6 (O i 0),U i6 (O i 1),U i6 (O i 2),U i6 (O i 3),U i6 (O i 4),U i6 (O i 5),U i6 (O i 6),U i6 (O i 7),U i6 (O i 8),U i6 (O i 9),U i6 (O i 10),U i6 (O i 11),Sl wa lw cw,Sl ba lb cb,U i6 (O i 14),U i6 (O i 15),U i6 (O i 16),U i6 (O i 17),U i6 (O i 18),U i6 (O i 19),U i6 (O i 20),U i6 (O i 21),U i6 x0,U i6 y0,U i6 z0,U i6 H,U i6 V,U i6 C],U i6 ch,.agg #[U i6 slo,U i6 shi]] W' fun e w'=>e=.returned (.agg #[U i6 (hbT (biA (O i 0) ch (B i)) (fun (j:Nat)=>enL slo shi (O i 19) (siL (O i 0) (O i 4) (O i 5) (O i 6) (O i 7) (O i 8) (O i 9) (O i 10) (O i 11) x0 y0 z0 ch (j:Int) (Z i))) (H*V).toNat).1,U i6 (hbT (biA (O i 0) ch (B i)) (fun (j:Nat)=>enL slo shi (O i 19) (siL (O i 0) (O i 4) (O i 5) (O i 6) (O i 7) (O i 8) (O i 9) (O i 10) (O i 11) x0 y0 z0 ch (j:Int) (Z i))) (H*V).toNat).2])∧Below W'.heap.size W' w':=fun W' hb=>by
 have hSit:=hF.2.2.2.2.2.2.2.2.2.1
 have hz:=hF.2.2.2.2.2.1.2.2.2.1
 obtain⟨-,-,-,-,hp,hbi,hHV⟩:=bfacts hL RL Rw hR i x wa lw cw ba lb cb x0 y0 z0 H V C hF hch
 exact rtot_any (O i 0) (O i 1) (O i 2) (O i 3) (O i 4) (O i 5) (O i 6) (O i 7) (O i 8) (O i 9) (O i 10) (O i 11) wa lw cw ba lb cb (O i 14) (O i 15) (O i 16) (O i 17) (O i 18) (O i 19) (O i 20) (O i 21) x0 y0 z0 H V C W' ch slo shi (biA (O i 0) ch (B i)) (fun (j:Nat)=>enL slo shi (O i 19) (siL (O i 0) (O i 4) (O i 5) (O i 6) (O i 7) (O i 8) (O i 9) (O i 10) (O i 11) x0 y0 z0 ch (j:Int) (Z i))) (H*V).toNat (by omega) (fun j=>have q:=row_facts hSit hz hch hs hp (j:Int);⟨q.1,q.2.2⟩) (fun W'' hb'=>rrw_ok h w c lo hi ot oa on oc O Z B W hL ch RL Rw hR i x wa lw cw ba lb cb x0 y0 z0 H V C hF hch slo shi hs W'' (hb.trans (hb'.mono hb.size))) hbi (fun W'' hb'=>rbg_ok h w c lo hi ot oa on oc O Z B W hL ch RL Rw hR i x wa lw cw ba lb cb x0 y0 z0 H V C hF hch W'' (hb.trans (hb'.mono hb.size)))
theorem dru_ok (h w c lo hi ot:Int) (oa:Option Addr) (on oc:Nat) (O:Nat→Nat→Int) (Z B:Nat→List Int) (W:World) (hL:LRow W oa on oc O Z B) (ch:Int) (RL:List (Int×Int×Int)) (Rw:Int) (hR:gtR O h w c lo hi ot on=(0,0,RL,Rw)) (i:Nat) (x:Addr) (wa:Option Addr) (lw cw:Nat) (ba:Option Addr) (lb cb:Nat) (x0 y0 z0 H V C:Int) (hF:Fnd W oa on O Z B RL i x wa lw cw ba lb cb x0 y0 z0 H V C) (hch:1≤ch∧ch≤C) (slo shi:Int) (hs:-128≤slo∧slo≤shi∧shi≤127):∀ W',Below W.heap.size W W'→Calls Tryz.prog 13 #[.agg #[U i6 (O i 0),U i6 (O i 1),U i6 (O i 2),U i6 (O i 3),U i6 (O i 4),U i6 (O i 5),U i6 (O i 6),U i6 (O i 7),U i6 (O i 8),U i6 (O i 9),U i6 (O i 10),U i6 (O i 11),Sl wa lw cw,Sl ba lb cb,U i6 (O i 14),U i6 (O i 15),U i6 (O i 16),U i6 (O i 17),U i6 (O i 18),U i6 (O i 19),U i6 (O i 20),U i6 (O i 21),U i6 x0,U i6 y0,U i6 z0,U i6 H,U i6 V,U i6 C],U i6 ch,.agg #[U i6 slo,U i6 shi]] W' fun e w'=>e=.returned (.agg #[U i6 (hbR (biA (O i 0) ch (B i)) (fun (j:Nat)=>enL slo shi (O i 19) (siL (O i 0) (O i 4) (O i 5) (O i 6) (O i 7) (O i 8) (O i 9) (O i 10) (O i 11) x0 y0 z0 ch (j:Int) (Z i))) (H*V).toNat).1,U i6 (hbR (biA (O i 0) ch (B i)) (fun (j:Nat)=>enL slo shi (O i 19) (siL (O i 0) (O i 4) (O i 5) (O i 6) (O i 7) (O i 8) (O i 9) (O i 10) (O i 11) x0 y0 z0 ch (j:Int) (Z i))) (H*V).toNat).2])∧Below W'.heap.size W' w':=fun W' hb=>by
 have hSit:=hF.2.2.2.2.2.2.2.2.2.1
 have hz:=hF.2.2.2.2.2.1.2.2.2.1
 obtain⟨-,-,-,-,hp,hbi,hHV⟩:=bfacts hL RL Rw hR i x wa lw cw ba lb cb x0 y0 z0 H V C hF hch
 exact rrun_any (O i 0) (O i 1) (O i 2) (O i 3) (O i 4) (O i 5) (O i 6) (O i 7) (O i 8) (O i 9) (O i 10) (O i 11) wa lw cw ba lb cb (O i 14) (O i 15) (O i 16) (O i 17) (O i 18) (O i 19) (O i 20) (O i 21) x0 y0 z0 H V C W' ch slo shi (biA (O i 0) ch (B i)) (fun (j:Nat)=>enL slo shi (O i 19) (siL (O i 0) (O i 4) (O i 5) (O i 6) (O i 7) (O i 8) (O i 9) (O i 10) (O i 11) x0 y0 z0 ch (j:Int) (Z i))) (H*V).toNat (by omega) (fun j=>have q:=row_facts hSit hz hch hs hp (j:Int);⟨q.1,q.2.2⟩) (fun W'' hb'=>rrw_ok h w c lo hi ot oa on oc O Z B W hL ch RL Rw hR i x wa lw cw ba lb cb x0 y0 z0 H V C hF hch slo shi hs W'' (hb.trans (hb'.mono hb.size))) hbi (fun W'' hb'=>rbg_ok h w c lo hi ot oa on oc O Z B W hL ch RL Rw hR i x wa lw cw ba lb cb x0 y0 z0 H V C hF hch W'' (hb.trans (hb'.mono hb.size)))
theorem dpa_ok (h w c lo hi ot:Int) (oa:Option Addr) (on oc:Nat) (O:Nat→Nat→Int) (Z B:Nat→List Int) (W:World) (hL:LRow W oa on oc O Z B) (ch:Int) (RL:List (Int×Int×Int)) (Rw:Int) (hR:gtR O h w c lo hi ot on=(0,0,RL,Rw)) (i:Nat) (x:Addr) (wa:Option Addr) (lw cw:Nat) (ba:Option Addr) (lb cb:Nat) (x0 y0 z0 H V C:Int) (hF:Fnd W oa on O Z B RL i x wa lw cw ba lb cb x0 y0 z0 H V C) (hch:1≤ch∧ch≤C) (slo shi:Int) (hs:-128≤slo∧slo≤shi∧shi≤127) (d:Nat) (hd:0<d) (hd2:d≤512):∀ W',Below W.heap.size W W'→Calls Tryz.prog 16 #[.agg #[U i6 (O i 0),U i6 (O i 1),U i6 (O i 2),U i6 (O i 3),U i6 (O i 4),U i6 (O i 5),U i6 (O i 6),U i6 (O i 7),U i6 (O i 8),U i6 (O i 9),U i6 (O i 10),U i6 (O i 11),Sl wa lw cw,Sl ba lb cb,U i6 (O i 14),U i6 (O i 15),U i6 (O i 16),U i6 (O i 17),U i6 (O i 18),U i6 (O i 19),U i6 (O i 20),U i6 (O i 21),U i6 x0,U i6 y0,U i6 z0,U i6 H,U i6 V,U i6 C],U i6 ch,.agg #[U i6 slo,U i6 shi],U i6 (d:Int)] W' fun e w'=>e=.returned (.agg #[U i6 (hbD d (fun (j:Nat)=>enL slo shi (O i 19) (siL (O i 0) (O i 4) (O i 5) (O i 6) (O i 7) (O i 8) (O i 9) (O i 10) (O i 11) x0 y0 z0 ch (j:Int) (Z i))) (H*V).toNat).1,U i6 (hbD d (fun (j:Nat)=>enL slo shi (O i 19) (siL (O i 0) (O i 4) (O i 5) (O i 6) (O i 7) (O i 8) (O i 9) (O i 10) (O i 11) x0 y0 z0 ch (j:Int) (Z i))) (H*V).toNat).2])∧Below W'.heap.size W' w':=fun W' hb=>by
 have hSit:=hF.2.2.2.2.2.2.2.2.2.1
 have hz:=hF.2.2.2.2.2.1.2.2.2.1
 obtain⟨-,-,-,-,hp,hbi,hHV⟩:=bfacts hL RL Rw hR i x wa lw cw ba lb cb x0 y0 z0 H V C hF hch
 exact rprt_any (O i 0) (O i 1) (O i 2) (O i 3) (O i 4) (O i 5) (O i 6) (O i 7) (O i 8) (O i 9) (O i 10) (O i 11) wa lw cw ba lb cb (O i 14) (O i 15) (O i 16) (O i 17) (O i 18) (O i 19) (O i 20) (O i 21) x0 y0 z0 H V C W' ch slo shi (biA (O i 0) ch (B i)) (fun (j:Nat)=>enL slo shi (O i 19) (siL (O i 0) (O i 4) (O i 5) (O i 6) (O i 7) (O i 8) (O i 9) (O i 10) (O i 11) x0 y0 z0 ch (j:Int) (Z i))) (H*V).toNat (by omega) (fun j=>have q:=row_facts hSit hz hch hs hp (j:Int);⟨q.1,q.2.2⟩) (fun W'' hb'=>rrw_ok h w c lo hi ot oa on oc O Z B W hL ch RL Rw hR i x wa lw cw ba lb cb x0 y0 z0 H V C hF hch slo shi hs W'' (hb.trans (hb'.mono hb.size))) d hd hd2 (by omega) (row_facts hSit hz hch hs hp ((0:Nat):Int)).2.1
theorem dpr_ok (h w c lo hi ot:Int) (oa:Option Addr) (on oc:Nat) (O:Nat→Nat→Int) (Z B:Nat→List Int) (W:World) (hL:LRow W oa on oc O Z B) (ch:Int) (RL:List (Int×Int×Int)) (Rw:Int) (hR:gtR O h w c lo hi ot on=(0,0,RL,Rw)) (i:Nat) (x:Addr) (wa:Option Addr) (lw cw:Nat) (ba:Option Addr) (lb cb:Nat) (x0 y0 z0 H V C:Int) (hF:Fnd W oa on O Z B RL i x wa lw cw ba lb cb x0 y0 z0 H V C) (hch:1≤ch∧ch≤C) (slo shi:Int) (hs:-128≤slo∧slo≤shi∧shi≤127):∀ W',Below W.heap.size W W'→Calls Tryz.prog 11 #[.agg #[U i6 (O i 0),U i6 (O i 1),U i6 (O i 2),U i6 (O i 3),U i6 (O i 4),U i6 (O i 5),U i6 (O i 6),U i6 (O i 7),U i6 (O i 8),U i6 (O i 9),U i6 (O i 10),U i6 (O i 11),Sl wa lw cw,Sl ba lb cb,U i6 (O i 14),U i6 (O i 15),U i6 (O i 16),U i6 (O i 17),U i6 (O i 18),U i6 (O i 19),U i6 (O i 20),U i6 (O i 21),U i6 x0,U i6 y0,U i6 z0,U i6 H,U i6 V,U i6 C],U i6 ch,.agg #[U i6 slo,U i6 shi]] W' fun e w'=>e=.returned (.agg #[U i6 (hbP (fun (j:Nat)=>enL slo shi (O i 19) (siL (O i 0) (O i 4) (O i 5) (O i 6) (O i 7) (O i 8) (O i 9) (O i 10) (O i 11) x0 y0 z0 ch (j:Int) (Z i))) (H*V).toNat).1,U i6 (hbP (fun (j:Nat)=>enL slo shi (O i 19) (siL (O i 0) (O i 4) (O i 5) (O i 6) (O i 7) (O i 8) (O i 9) (O i 10) (O i 11) x0 y0 z0 ch (j:Int) (Z i))) (H*V).toNat).2])∧Below W'.heap.size W' w':=fun W' hb=>by
 have hSit:=hF.2.2.2.2.2.2.2.2.2.1
 have hz:=hF.2.2.2.2.2.1.2.2.2.1
 obtain⟨-,-,-,-,hp,hbi,hHV⟩:=bfacts hL RL Rw hR i x wa lw cw ba lb cb x0 y0 z0 H V C hF hch
 rw [← hbD_1 (R:=(fun (j:Nat)=>enL slo shi (O i 19) (siL (O i 0) (O i 4) (O i 5) (O i 6) (O i 7) (O i 8) (O i 9) (O i 10) (O i 11) x0 y0 z0 ch (j:Int) (Z i)))) (N:=(H*V).toNat) (by omega) (row_facts hSit hz hch hs hp ((0:Nat):Int)).2.1]
 exact rprd_any (O i 0) (O i 1) (O i 2) (O i 3) (O i 4) (O i 5) (O i 6) (O i 7) (O i 8) (O i 9) (O i 10) (O i 11) wa lw cw ba lb cb (O i 14) (O i 15) (O i 16) (O i 17) (O i 18) (O i 19) (O i 20) (O i 21) x0 y0 z0 H V C W' ch slo shi _ _ (fun W'' hb'=>dpa_ok h w c lo hi ot oa on oc O Z B W hL ch RL Rw hR i x wa lw cw ba lb cb x0 y0 z0 H V C hF hch slo shi hs 1 (by omega) (by omega) W'' (hb.trans (hb'.mono hb.size)))
theorem dle_ok (h w c lo hi ot:Int) (oa:Option Addr) (on oc:Nat) (O:Nat→Nat→Int) (Z B:Nat→List Int) (W:World) (hL:LRow W oa on oc O Z B) (ch:Int) (RL:List (Int×Int×Int)) (Rw:Int) (hR:gtR O h w c lo hi ot on=(0,0,RL,Rw)) (i:Nat) (x:Addr) (wa:Option Addr) (lw cw:Nat) (ba:Option Addr) (lb cb:Nat) (x0 y0 z0 H V C:Int) (hF:Fnd W oa on O Z B RL i x wa lw cw ba lb cb x0 y0 z0 H V C) (hch:1≤ch∧ch≤C):∀ W',Below W.heap.size W W'→Calls Tryz.prog 15 #[.agg #[U i6 (O i 0),U i6 (O i 1),U i6 (O i 2),U i6 (O i 3),U i6 (O i 4),U i6 (O i 5),U i6 (O i 6),U i6 (O i 7),U i6 (O i 8),U i6 (O i 9),U i6 (O i 10),U i6 (O i 11),Sl wa lw cw,Sl ba lb cb,U i6 (O i 14),U i6 (O i 15),U i6 (O i 16),U i6 (O i 17),U i6 (O i 18),U i6 (O i 19),U i6 (O i 20),U i6 (O i 21),U i6 x0,U i6 y0,U i6 z0,U i6 H,U i6 V,U i6 C]] W' fun e w'=>e=.returned (U i6 ((siL (O i 0) (O i 4) (O i 5) (O i 6) (O i 7) (O i 8) (O i 9) (O i 10) (O i 11) x0 y0 z0 ch 0 (Z i)).length:Int))∧Below W'.heap.size W' w':=fun W' hb=>by
 have hSit:=hF.2.2.2.2.2.2.2.2.2.1
 have e:(((siL (O i 0) (O i 4) (O i 5) (O i 6) (O i 7) (O i 8) (O i 9) (O i 10) (O i 11) x0 y0 z0 ch 0 (Z i)).length:Nat):Int)=stR (O i 0) (O i 4) (O i 5) x0 y0 z0:=by
  unfold siL;rw [tmL_len]
  have:=hSit.2.2.2.2.2.2.2.2.1;omega
 rw [e]
 exact rlen_any (O i 0) (O i 1) (O i 2) (O i 3) (O i 4) (O i 5) (O i 6) (O i 7) (O i 8) (O i 9) (O i 10) (O i 11) wa lw cw ba lb cb (O i 14) (O i 15) (O i 16) (O i 17) (O i 18) (O i 19) (O i 20) (O i 21) x0 y0 z0 H V C W' hSit
def plZ (_:Nat):List Int:=[3,-2]
def plB (_:Nat):List Int:=[1]
theorem irow_blk {k:IntKind} {w:World} {b:Nat} {T:TypeId} (zs:List Int) (h:w.heap[b]? = some (.cells (zs.map (Value.int k)).toArray T (0,0))) (hw:∀ z∈zs,(Lit.int k z).wf=true) (hm:zs.length≤1000):IRow k w (some ⟨b,0,none⟩) zs.length zs.length zs:=by
 refine⟨rfl,Nat.le_refl _,by unfold maxLen;omega,hw,fun h=>(by cases h),fun x hx i hi=>?_⟩
 cases hx
 rw [Addr.add_lit,Nat.zero_add,(cells_at h).1]
 simp [List.getD,hi]
theorem pl_lrow {w:World} {g p q:Nat} (h:w.heap[g]? = some (.cells #[U i6 1,U i6 0,U i6 0,U i6 1,U i6 0,U i6 0,U i6 0,U i6 0,U i6 0,U i6 0,U i6 0,U i6 0,Sl (some ⟨p,0,none⟩) 2 2,Sl (some ⟨q,0,none⟩) 1 1,U i6 1,U i6 0,U i6 0,U i6 0,U i6 0,U i6 0,U i6 (-128),U i6 127] 42 (0,0))) (hp:w.heap[p]? = some (.cells #[.int .i16 3,.int .i16 (-2)] 89 (0,0))) (hq:w.heap[q]? = some (.cells #[.int .i32 1] 21 (0,0))):LRow w (some ⟨g,0,none⟩) 1 1 (plO 0) plZ plB:=by
 refine⟨Nat.le_refl _,by unfold maxLen;omega,fun h=>(by cases h),fun x hx i hi=>?_⟩
 cases hx
 obtain rfl:i=0:=by omega
 refine⟨some ⟨p,0,none⟩,2,2,some ⟨q,0,none⟩,1,1,rfl,rfl,fun j v hj=>?_,irow_blk [3,-2] hp (fun z hz=>?_) (by simp),irow_blk [1] hq (fun z hz=>?_) (by simp),by omega,by omega⟩
 ·rw [Nat.zero_mul,Addr.add_lit,Addr.add_lit,(cells_at h).1,← hj]
  simp [opl,plO]
 ·simp only [List.mem_cons,List.not_mem_nil,or_false] at hz
  rcases hz with rfl | rfl<;>rfl
 ·simp only [List.mem_cons,List.not_mem_nil,or_false] at hz
  subst hz;rfl
theorem pl_found {W:World} {g:Nat} (hL:LRow W (some ⟨g,0,none⟩) 1 1 (plO 0) plZ plB):∃ wa lw cw ba lb cb,Fnd W (some ⟨g,0,none⟩) 1 (plO 0) plZ plB [(1,1,2),(1,1,1)] 0 ⟨g,0,none⟩ wa lw cw ba lb cb 1 1 2 1 1 1:=by
 obtain⟨RL,Rw,hR,i,x,wa,lw,cw,ba,lb,cb,x0,y0,z0,H,V,C,hop,hF⟩:=found 1 1 2 (-128) 127 1 (some ⟨g,0,none⟩) 1 1 (plO 0) plZ plB W hL 1 (fiE_0 (i:=0) (by rw [pl_0]) (by omega) (by decide))
 obtain rfl:i=0:=by omega
 rw [pl_0] at hR
 simp only [Prod.mk.injEq,true_and] at hR
 obtain⟨rfl,-⟩:=hR
 have h8:=hF.2.2.2.2.2.2.2.1
 have h9:=hF.2.2.2.2.2.2.2.2.1
 have h2:=hF.2.1
 simp only [plO,List.getD,List.getElem?_cons_zero,List.getElem?_cons_succ,Option.getD_some,Int.toNat_zero,Prod.mk.injEq,Nat.zero_add] at h8 h9
 obtain⟨rfl,rfl,rfl⟩:=h8
 obtain⟨rfl,rfl,rfl⟩:=h9
 simp only [Option.some.injEq] at h2
 subst h2
 exact⟨wa,lw,cw,ba,lb,cb,hF⟩
theorem regionG {P:Program} {ops:Array Oper} {Q:Exit→Act→World→Prop} {id:Nat} {a:Act} {w:World} (C:World→Prop) (M:Act→Act→World→Prop) (hm:P.follows .mixedOrders=true) (g:wpAnyC Fence.wide 3 P .any ops C (Qm (M a)) ops.size (Array.replicate ops.size false) a w.drew) (h:∀ a' w,M a a' w→Q .normal a' w):(Code.region id ops true).wp P Q a w :=
 regionM C (M a) hm g h
theorem one13_any (W:World) :
  Calls Tryz.prog 26 #[] W fun e w'=>∃ g:Nat,e=.returned (.agg #[U i6 1,U i6 1,U i6 2,U i6 (-128),U i6 127,Sl (some ⟨g,0,none⟩) 1 1,U i6 1])∧LRow w' (some ⟨g,0,none⟩) 1 1 (plO 0) plZ plB∧Below W.heap.size W w':=by
 go_enter Tryz.func26,Tryz.ntmps26
 go_wp2
 have s1:=(((St.start W).new (c:=#[U i6 1,U i6 1,U i6 2,U i6 (-128),U i6 127,Sl (some ⟨W.heap.size+1+1+1,0,none⟩) 1 1,U i6 1]) (t:=26)).new (c:=#[.int .i16 3,.int .i16 (-2)]) (t:=89)).new (c:=#[.int .i32 1]) (t:=21)
 simp only [World.size_alloc] at s1
 have s2:=s1.new (c:=#[U i6 1,U i6 0,U i6 0,U i6 1,U i6 0,U i6 0,U i6 0,U i6 0,U i6 0,U i6 0,U i6 0,U i6 0,Sl (some ⟨W.heap.size+1,0,none⟩) 2 2,Sl (some ⟨W.heap.size+1+1,0,none⟩) 1 1,U i6 1,U i6 0,U i6 0,U i6 0,U i6 0,U i6 0,U i6 (-128),U i6 127]) (t:=42)
 simp only [World.size_alloc] at s2
 exact bodyPost_ret (v:=.agg #[U i6 1,U i6 1,U i6 2,U i6 (-128),U i6 127,Sl (some ⟨W.heap.size+1+1+1,0,none⟩) 1 1,U i6 1]) (by simp [results,Tryz.results26,go_sem]) rfl ⟨W.heap.size+1+1+1,rfl,pl_lrow (p:=W.heap.size+1) (q:=W.heap.size+1+1) s2.h1 s2.h3 s2.h2,s2.below⟩
theorem beqS (T:TypeId) (hT:T=28) (a1 a2 b1 b2:Int) (v:Bool) (h:decide (a1=b1∧a2=b2)=v):∀ W,(binOp .eql T (.agg #[U i6 a1,U i6 a2]) (.agg #[U i6 b1,U i6 b2])).run Tryz.prog W=.ok (.bool v) W:=by
 intro W;subst h hT;simp [go_sem];repeat' split
 all_goals simp_all
theorem pl_len:(siL (plO 0 0 0) (plO 0 0 4) (plO 0 0 5) (plO 0 0 6) (plO 0 0 7) (plO 0 0 8) (plO 0 0 9) (plO 0 0 10) (plO 0 0 11) 1 1 2 1 0 (plZ 0)).length=2:=by decide
theorem plT:spR 0 10 (hbT (biA (plO 0 0 0) 1 (plB 0)) (fun (j:Nat)=>enL 0 10 (plO 0 0 19) (siL (plO 0 0 0) (plO 0 0 4) (plO 0 0 5) (plO 0 0 6) (plO 0 0 7) (plO 0 0 8) (plO 0 0 9) (plO 0 0 10) (plO 0 0 11) 1 1 2 1 (j:Int) (plZ 0))) ((1:Int)*1).toNat)=(-19,31,0):=by decide
theorem plR:spR 0 10 (hbR (biA (plO 0 0 0) 1 (plB 0)) (fun (j:Nat)=>enL 0 10 (plO 0 0 19) (siL (plO 0 0 0) (plO 0 0 4) (plO 0 0 5) (plO 0 0 6) (plO 0 0 7) (plO 0 0 8) (plO 0 0 9) (plO 0 0 10) (plO 0 0 11) 1 1 2 1 (j:Int) (plZ 0))) ((1:Int)*1).toNat)=(-19,31,0):=by decide
theorem plP:spR 0 10 (hbP (fun (j:Nat)=>enL 0 10 (plO 0 0 19) (siL (plO 0 0 0) (plO 0 0 4) (plO 0 0 5) (plO 0 0 6) (plO 0 0 7) (plO 0 0 8) (plO 0 0 9) (plO 0 0 10) (plO 0 0 11) 1 1 2 1 (j:Int) (plZ 0))) ((1:Int)*1).toNat)=(-20,30,0):=by decide
theorem plD2:spD 0 10 2 2 (hbD (2:Int).toNat (fun (j:Nat)=>enL 0 10 (plO 0 0 19) (siL (plO 0 0 0) (plO 0 0 4) (plO 0 0 5) (plO 0 0 6) (plO 0 0 7) (plO 0 0 8) (plO 0 0 9) (plO 0 0 10) (plO 0 0 11) 1 1 2 1 (j:Int) (plZ 0))) ((1:Int)*1).toNat)=(-20,30,0):=by decide
theorem plD3:spD 0 10 3 2 (hbD (3:Int).toNat (fun (j:Nat)=>enL 0 10 (plO 0 0 19) (siL (plO 0 0 0) (plO 0 0 4) (plO 0 0 5) (plO 0 0 6) (plO 0 0 7) (plO 0 0 8) (plO 0 0 9) (plO 0 0 10) (plO 0 0 11) 1 1 2 1 (j:Int) (plZ 0))) ((1:Int)*1).toNat)=(0,0,151):=by decide
theorem fx2 (g:Nat) (W:World) (hL:LRow W (some ⟨g,0,none⟩) 1 1 (plO 0) plZ plB):Calls Tryz.prog 6 #[.agg #[U i6 1,U i6 1,U i6 2,U i6 (-128),U i6 127,Sl (some ⟨g,0,none⟩) 1 1,U i6 1],U i6 1,U i6 1,.agg #[U i6 0,U i6 10]] W fun e w'=>e=.returned (.tuple #[.agg #[U i6 (-19),U i6 31],U i6 0])∧Below W.heap.size W w':=by
 obtain⟨wa,lw,cw,ba,lb,cb,hF⟩:=pl_found hL
 have h:=btot_ok 1 1 2 (-128) 127 1 (some ⟨g,0,none⟩) 1 1 (plO 0) plZ plB W hL 1 _ _ pl_0 0 ⟨g,0,none⟩ wa lw cw ba lb cb 1 1 2 1 1 1 hF (by omega) 0 10
 rw [plT] at h
 exact h
theorem fx3 (g:Nat) (W:World) (hL:LRow W (some ⟨g,0,none⟩) 1 1 (plO 0) plZ plB):Calls Tryz.prog 12 #[.agg #[U i6 1,U i6 1,U i6 2,U i6 (-128),U i6 127,Sl (some ⟨g,0,none⟩) 1 1,U i6 1],U i6 1,U i6 1,.agg #[U i6 0,U i6 10]] W fun e w'=>e=.returned (.tuple #[.agg #[U i6 (-19),U i6 31],U i6 0])∧Below W.heap.size W w':=by
 obtain⟨wa,lw,cw,ba,lb,cb,hF⟩:=pl_found hL
 have h:=brun_ok 1 1 2 (-128) 127 1 (some ⟨g,0,none⟩) 1 1 (plO 0) plZ plB W hL 1 _ _ pl_0 0 ⟨g,0,none⟩ wa lw cw ba lb cb 1 1 2 1 1 1 hF (by omega) 0 10
 rw [plR] at h
 exact h
theorem fx4 (g:Nat) (W:World) (hL:LRow W (some ⟨g,0,none⟩) 1 1 (plO 0) plZ plB):Calls Tryz.prog 14 #[.agg #[U i6 1,U i6 1,U i6 2,U i6 (-128),U i6 127,Sl (some ⟨g,0,none⟩) 1 1,U i6 1],U i6 1,U i6 1,.agg #[U i6 0,U i6 10],U i6 2] W fun e w'=>e=.returned (.tuple #[.agg #[U i6 (-20),U i6 30],U i6 0])∧Below W.heap.size W w':=by
 obtain⟨wa,lw,cw,ba,lb,cb,hF⟩:=pl_found hL
 have h:=bprt_ok 1 1 2 (-128) 127 1 (some ⟨g,0,none⟩) 1 1 (plO 0) plZ plB W hL 1 _ _ pl_0 0 ⟨g,0,none⟩ wa lw cw ba lb cb 1 1 2 1 1 1 hF (by omega) 0 10 2 2 pl_len
 rw [plD2] at h
 exact h
theorem fx5 (g:Nat) (W:World) (hL:LRow W (some ⟨g,0,none⟩) 1 1 (plO 0) plZ plB):Calls Tryz.prog 7 #[.agg #[U i6 1,U i6 1,U i6 2,U i6 (-128),U i6 127,Sl (some ⟨g,0,none⟩) 1 1,U i6 1],U i6 1,U i6 1,.agg #[U i6 0,U i6 10]] W fun e w'=>e=.returned (.tuple #[.agg #[U i6 (-20),U i6 30],U i6 0])∧Below W.heap.size W w':=by
 obtain⟨wa,lw,cw,ba,lb,cb,hF⟩:=pl_found hL
 have h:=bprd_ok 1 1 2 (-128) 127 1 (some ⟨g,0,none⟩) 1 1 (plO 0) plZ plB W hL 1 _ _ pl_0 0 ⟨g,0,none⟩ wa lw cw ba lb cb 1 1 2 1 1 1 hF (by omega) 0 10
 rw [plP] at h
 exact h
theorem fx6 (g:Nat) (W:World) (hL:LRow W (some ⟨g,0,none⟩) 1 1 (plO 0) plZ plB):Calls Tryz.prog 14 #[.agg #[U i6 1,U i6 1,U i6 2,U i6 (-128),U i6 127,Sl (some ⟨g,0,none⟩) 1 1,U i6 1],U i6 1,U i6 1,.agg #[U i6 0,U i6 10],U i6 3] W fun e w'=>e=.returned (.tuple #[.agg #[U i6 (0),U i6 0],U i6 151])∧Below W.heap.size W w':=by
 obtain⟨wa,lw,cw,ba,lb,cb,hF⟩:=pl_found hL
 have h:=bprt_ok 1 1 2 (-128) 127 1 (some ⟨g,0,none⟩) 1 1 (plO 0) plZ plB W hL 1 _ _ pl_0 0 ⟨g,0,none⟩ wa lw cw ba lb cb 1 1 2 1 1 1 hF (by omega) 0 10 3 2 pl_len
 rw [plD3] at h
 exact h
theorem fixed13_any (W:World):Calls Tryz.prog 9 #[] W fun e w'=>e=.returned (.bool true)∧Below W.heap.size W w':=by
 have s1:=(St.start W).new (c:=#[U i6 0,U i6 10]) (t:=28)
 go_enter Tryz.func9,Tryz.ntmps9
 go_upto_region 2 with fail
 obtain⟨w1,hw1⟩:∃ w1,W.alloc (.cells #[U i6 0,U i6 10] 28)=w1:=⟨_,rfl⟩
 have S1:Hid (St W w1 ((W.heap.size,#[U i6 0,U i6 10],28) :: [])):=by unfold Hid;rw [← hw1];exact s1
 rw [hw1]
 clear hw1 s1
 refine regionG (fun w'=>w'.heap[W.heap.size]? = some (.cells #[U i6 0,U i6 10] 28 (0,0))) (fun a0 a' w'=>∃ (g B2:Nat),a'=(((((((a0.put (some 14) (.agg #[U i6 1,U i6 1,U i6 2,U i6 (-128),U i6 127,Sl (some ⟨g,0,none⟩) 1 1,U i6 1])).put (some 15) (.agg #[U i6 0,U i6 10])).put (some 16) (.tuple #[.agg #[U i6 (-19),U i6 31],U i6 0])).put (some 13) (.tuple #[.agg #[U i6 (-19),U i6 31],U i6 0])).put (some 17) (.agg #[U i6 (-19),U i6 31])).put (some 18) (U i6 0)).put (some 2) (.pointer (some ⟨B2,0,none⟩))).put (some 3) (U i6 0)∧St W w' ((W.heap.size,#[U i6 0,U i6 10],28) :: (B2,#[U i6 (-19),U i6 31],28) :: [])) (by kernel_rfl) ?_ ?_
 rotate_left
 rotate_left
 ·have s2:=S1.out.drew
  obtain⟨w2,hw2⟩:∃ w2,w1.drew=w2:=⟨_,rfl⟩
  rw [hw2] at s2 ⊢
  have hx:=s2.size
  refine takeC 1 (v:=.agg #[U i6 0,U i6 10]) rfl rfl (by kernel_rfl) (by kernel_rfl) (by kernel_rfl) (fun _ _ _ h=>h) (fun _=>rfl) rfl (fun w' hw'=>run_la 28 (.tmp 1) rfl ⟨W.heap.size,0,none⟩ (by kernel_rfl) [U i6 0,U i6 10] _ (fun j v hj=>by rw [Addr.add_lit,Nat.zero_add,(cells_at hw').1];simpa using hj) Tryz.underlying28 rfl (by kernel_rfl)) ?_
  refine y2 0 6 s2.h1 (by kernel_rfl) ?_ ?_
  refine yC rfl rfl 26 #[] (by kernel_rfl) (one13_any _) ?_
  rintro e w3 ⟨g,rfl,hL,hb⟩
  refine⟨_,rfl,?_⟩
  have s3:=s2.call hb
  refine y2 2 6 s3.h1 (by kernel_rfl) ?_ ?_
  refine yC rfl rfl 6 #[.agg #[U i6 1,U i6 1,U i6 2,U i6 (-128),U i6 127,Sl (some ⟨g,0,none⟩) 1 1,U i6 1],U i6 1,U i6 1,.agg #[U i6 0,U i6 10]] (by kernel_rfl) (fx2 g _ hL) ?_
  rintro e w4 ⟨rfl,hb4⟩
  refine⟨_,rfl,?_⟩
  have s4:=s3.call hb4
  refine takeC 3 (v:=.tuple #[.agg #[U i6 (-19),U i6 31],U i6 0]) rfl rfl (by kernel_rfl) (by kernel_rfl) (by kernel_rfl) (fun _ _ _ h=>h) (fun _=>rfl) rfl (fun w' hw'=>by go_simp) ?_
  refine takeC 4 (v:=.agg #[U i6 (-19),U i6 31]) rfl rfl (by kernel_rfl) (by kernel_rfl) (by kernel_rfl) (fun _ _ _ h=>h) (fun _=>rfl) rfl (fun w' hw'=>by go_simp) ?_
  refine takeC 5 (v:=U i6 0) rfl rfl (by kernel_rfl) (by kernel_rfl) (by kernel_rfl) (fun _ _ _ h=>h) (fun _=>rfl) rfl (fun w' hw'=>by go_simp) ?_
  refine yR 6 s4.h1 (by kernel_rfl) rfl rfl (.pointer (some ⟨w4.heap.size,0,none⟩)) (w4.alloc (.cells #[U i6 0,U i6 0] 28)) (by kernel_rfl) ?_
  have hB':=lt_of_heap s4.h1
  have s5:=s4.new (c:=#[U i6 0,U i6 0]) (t:=28)
  obtain⟨B2,hB⟩:∃ B,w4.heap.size=B:=⟨_,rfl⟩
  obtain⟨w5,hw5⟩:∃ w5,w4.alloc (.cells #[U i6 0,U i6 0] 28)=w5:=⟨_,rfl⟩
  rw [hw5,hB] at s5 ⊢
  have hne:∀ x∈((W.heap.size,#[U i6 0,U i6 10],28) :: []:List (Nat×Array Value×TypeId)),x.1<B2:=fun x hx=>by rw [← hB];exact lt_of_heap (s4.2 x hx).1
  rotate_left
  refine yO rfl rfl (.pointer (some ⟨w3.heap.size,0,none⟩)) (w3.alloc (.cells #[U i6 0,U i6 0] 28)) (by kernel_rfl) ?_
  have s4:=s3.new (c:=#[U i6 0,U i6 0]) (t:=28)
  refine yK 2 s4.h2 (by kernel_rfl) rfl rfl 6 #[.agg #[U i6 1,U i6 1,U i6 2,U i6 (-128),U i6 127,Sl (some ⟨g,0,none⟩) 1 1,U i6 1],U i6 1,U i6 1,.agg #[U i6 0,U i6 10]] (by kernel_rfl) (fx2 g _ (hL.below (bal _ _))) ?_
  rintro e w5 ⟨rfl,hb4⟩
  refine⟨_,rfl,?_⟩
  have s5:=s4.call hb4
  refine takeC 3 (v:=.tuple #[.agg #[U i6 (-19),U i6 31],U i6 0]) rfl rfl (by kernel_rfl) (by kernel_rfl) (by kernel_rfl) (fun _ _ _ h=>h) (fun _=>rfl) rfl (fun w' hw'=>by go_simp) ?_
  refine takeC 4 (v:=.agg #[U i6 (-19),U i6 31]) rfl rfl (by kernel_rfl) (by kernel_rfl) (by kernel_rfl) (fun _ _ _ h=>h) (fun _=>rfl) rfl (fun w' hw'=>by go_simp) ?_
  refine takeC 5 (v:=U i6 0) rfl rfl (by kernel_rfl) (by kernel_rfl) (by kernel_rfl) (fun _ _ _ h=>h) (fun _=>rfl) rfl (fun w' hw'=>by go_simp) ?_
  obtain⟨B2,hB⟩:∃ B,w3.heap.size=B:=⟨_,rfl⟩
  rw [hB] at s5 ⊢
  have hne:∀ x∈((W.heap.size,#[U i6 0,U i6 10],28) :: []:List (Nat×Array Value×TypeId)),x.1<B2:=fun x hx=>by rw [← hB];exact lt_of_heap (s3.2 x hx).1
  rotate_left
  refine yO rfl rfl (.pointer (some ⟨w2.heap.size,0,none⟩)) (w2.alloc (.cells #[U i6 0,U i6 0] 28)) (by kernel_rfl) ?_
  have s3:=s2.new (c:=#[U i6 0,U i6 0]) (t:=28)
  refine yK 0 s3.h2 (by kernel_rfl) rfl rfl 26 #[] (by kernel_rfl) (one13_any _) ?_
  rintro e w3 ⟨g,rfl,hL,hb⟩
  refine⟨_,rfl,?_⟩
  have s4:=s3.call hb
  refine yK 2 s4.h2 (by kernel_rfl) rfl rfl 6 #[.agg #[U i6 1,U i6 1,U i6 2,U i6 (-128),U i6 127,Sl (some ⟨g,0,none⟩) 1 1,U i6 1],U i6 1,U i6 1,.agg #[U i6 0,U i6 10]] (by kernel_rfl) (fx2 g _ hL) ?_
  rintro e w5 ⟨rfl,hb4⟩
  refine⟨_,rfl,?_⟩
  have s5:=s4.call hb4
  refine takeC 3 (v:=.tuple #[.agg #[U i6 (-19),U i6 31],U i6 0]) rfl rfl (by kernel_rfl) (by kernel_rfl) (by kernel_rfl) (fun _ _ _ h=>h) (fun _=>rfl) rfl (fun w' hw'=>by go_simp) ?_
  refine takeC 4 (v:=.agg #[U i6 (-19),U i6 31]) rfl rfl (by kernel_rfl) (by kernel_rfl) (by kernel_rfl) (fun _ _ _ h=>h) (fun _=>rfl) rfl (fun w' hw'=>by go_simp) ?_
  refine takeC 5 (v:=U i6 0) rfl rfl (by kernel_rfl) (by kernel_rfl) (by kernel_rfl) (fun _ _ _ h=>h) (fun _=>rfl) rfl (fun w' hw'=>by go_simp) ?_
  obtain⟨B2,hB⟩:∃ B,w2.heap.size=B:=⟨_,rfl⟩
  rw [hB] at s5 ⊢
  have hne:∀ x∈((W.heap.size,#[U i6 0,U i6 10],28) :: []:List (Nat×Array Value×TypeId)),x.1<B2:=fun x hx=>by rw [← hB];exact lt_of_heap (s2.2 x hx).1
  all_goals
   refine yS 7 s5.h2 (by kernel_rfl) rfl rfl 28 (.tmp 2) (.tmp 17) rfl B2 #[U i6 (-19),U i6 31] (by kernel_rfl) (by kernel_rfl) 28 #[U i6 0,U i6 0] s5.h1 (by kernel_rfl) rfl (by simp [Value.oneCell']) ?_
   have s6:=(s5.rowset (c':=#[U i6 (-19),U i6 31]) (fun x hx=>Nat.ne_of_lt (hne x hx))).up1
   obtain⟨w6,hw6⟩:∃ w6,w5.setRow B2 #[U i6 (-19),U i6 31]=w6:=⟨_,rfl⟩
   rw [hw6] at s6 ⊢
   refine yR 8 s6.h1 (by kernel_rfl) rfl rfl (U i6 0) w6 (by kernel_rfl) ?_
   exact doneM s6.h1 (by kernel_rfl) ⟨g,B2,by kernel_rfl,s6⟩ _
 rintro a' w2 ⟨g2,B2,rfl,s2⟩
 clear S1
 obtain⟨w1,hw1⟩:∃ w1,w1=w2:=⟨_,rfl⟩
 rw [← hw1] at s2 ⊢
 have S1:Hid (St W w1 ((W.heap.size,#[U i6 0,U i6 10],28) :: (B2,#[U i6 (-19),U i6 31],28) :: [])):=s2
 clear s2 hw1 w2
 go_upto_region 3 with fail
 refine regionG (fun w'=>w'.heap[W.heap.size]? = some (.cells #[U i6 0,U i6 10] 28 (0,0))) (fun a0 a' w'=>∃ (g B3:Nat),a'=(((((((a0.put (some 20) (.agg #[U i6 1,U i6 1,U i6 2,U i6 (-128),U i6 127,Sl (some ⟨g,0,none⟩) 1 1,U i6 1])).put (some 21) (.agg #[U i6 0,U i6 10])).put (some 22) (.tuple #[.agg #[U i6 (-19),U i6 31],U i6 0])).put (some 19) (.tuple #[.agg #[U i6 (-19),U i6 31],U i6 0])).put (some 23) (.agg #[U i6 (-19),U i6 31])).put (some 24) (U i6 0)).put (some 4) (.pointer (some ⟨B3,0,none⟩))).put (some 5) (U i6 0)∧St W w' ((W.heap.size,#[U i6 0,U i6 10],28) :: (B3,#[U i6 (-19),U i6 31],28) :: (B2,#[U i6 (-19),U i6 31],28) :: [])) (by kernel_rfl) ?_ ?_
 rotate_left
 rotate_left
 ·have s2:=S1.out.drew
  obtain⟨w2,hw2⟩:∃ w2,w1.drew=w2:=⟨_,rfl⟩
  rw [hw2] at s2 ⊢
  have hx:=s2.size
  refine takeC 1 (v:=.agg #[U i6 0,U i6 10]) rfl rfl (by kernel_rfl) (by kernel_rfl) (by kernel_rfl) (fun _ _ _ h=>h) (fun _=>rfl) rfl (fun w' hw'=>run_la 28 (.tmp 1) rfl ⟨W.heap.size,0,none⟩ (by kernel_rfl) [U i6 0,U i6 10] _ (fun j v hj=>by rw [Addr.add_lit,Nat.zero_add,(cells_at hw').1];simpa using hj) Tryz.underlying28 rfl (by kernel_rfl)) ?_
  refine y2 0 6 s2.h1 (by kernel_rfl) ?_ ?_
  refine yC rfl rfl 26 #[] (by kernel_rfl) (one13_any _) ?_
  rintro e w3 ⟨g,rfl,hL,hb⟩
  refine⟨_,rfl,?_⟩
  have s3:=s2.call hb
  refine y2 2 6 s3.h1 (by kernel_rfl) ?_ ?_
  refine yC rfl rfl 12 #[.agg #[U i6 1,U i6 1,U i6 2,U i6 (-128),U i6 127,Sl (some ⟨g,0,none⟩) 1 1,U i6 1],U i6 1,U i6 1,.agg #[U i6 0,U i6 10]] (by kernel_rfl) (fx3 g _ hL) ?_
  rintro e w4 ⟨rfl,hb4⟩
  refine⟨_,rfl,?_⟩
  have s4:=s3.call hb4
  refine takeC 3 (v:=.tuple #[.agg #[U i6 (-19),U i6 31],U i6 0]) rfl rfl (by kernel_rfl) (by kernel_rfl) (by kernel_rfl) (fun _ _ _ h=>h) (fun _=>rfl) rfl (fun w' hw'=>by go_simp) ?_
  refine takeC 4 (v:=.agg #[U i6 (-19),U i6 31]) rfl rfl (by kernel_rfl) (by kernel_rfl) (by kernel_rfl) (fun _ _ _ h=>h) (fun _=>rfl) rfl (fun w' hw'=>by go_simp) ?_
  refine takeC 5 (v:=U i6 0) rfl rfl (by kernel_rfl) (by kernel_rfl) (by kernel_rfl) (fun _ _ _ h=>h) (fun _=>rfl) rfl (fun w' hw'=>by go_simp) ?_
  refine yR 6 s4.h1 (by kernel_rfl) rfl rfl (.pointer (some ⟨w4.heap.size,0,none⟩)) (w4.alloc (.cells #[U i6 0,U i6 0] 28)) (by kernel_rfl) ?_
  have hB':=lt_of_heap s4.h1
  have s5:=s4.new (c:=#[U i6 0,U i6 0]) (t:=28)
  obtain⟨B3,hB⟩:∃ B,w4.heap.size=B:=⟨_,rfl⟩
  obtain⟨w5,hw5⟩:∃ w5,w4.alloc (.cells #[U i6 0,U i6 0] 28)=w5:=⟨_,rfl⟩
  rw [hw5,hB] at s5 ⊢
  have hne:∀ x∈((W.heap.size,#[U i6 0,U i6 10],28) :: (B2,#[U i6 (-19),U i6 31],28) :: []:List (Nat×Array Value×TypeId)),x.1<B3:=fun x hx=>by rw [← hB];exact lt_of_heap (s4.2 x hx).1
  rotate_left
  refine yO rfl rfl (.pointer (some ⟨w3.heap.size,0,none⟩)) (w3.alloc (.cells #[U i6 0,U i6 0] 28)) (by kernel_rfl) ?_
  have s4:=s3.new (c:=#[U i6 0,U i6 0]) (t:=28)
  refine yK 2 s4.h2 (by kernel_rfl) rfl rfl 12 #[.agg #[U i6 1,U i6 1,U i6 2,U i6 (-128),U i6 127,Sl (some ⟨g,0,none⟩) 1 1,U i6 1],U i6 1,U i6 1,.agg #[U i6 0,U i6 10]] (by kernel_rfl) (fx3 g _ (hL.below (bal _ _))) ?_
  rintro e w5 ⟨rfl,hb4⟩
  refine⟨_,rfl,?_⟩
  have s5:=s4.call hb4
  refine takeC 3 (v:=.tuple #[.agg #[U i6 (-19),U i6 31],U i6 0]) rfl rfl (by kernel_rfl) (by kernel_rfl) (by kernel_rfl) (fun _ _ _ h=>h) (fun _=>rfl) rfl (fun w' hw'=>by go_simp) ?_
  refine takeC 4 (v:=.agg #[U i6 (-19),U i6 31]) rfl rfl (by kernel_rfl) (by kernel_rfl) (by kernel_rfl) (fun _ _ _ h=>h) (fun _=>rfl) rfl (fun w' hw'=>by go_simp) ?_
  refine takeC 5 (v:=U i6 0) rfl rfl (by kernel_rfl) (by kernel_rfl) (by kernel_rfl) (fun _ _ _ h=>h) (fun _=>rfl) rfl (fun w' hw'=>by go_simp) ?_
  obtain⟨B3,hB⟩:∃ B,w3.heap.size=B:=⟨_,rfl⟩
  rw [hB] at s5 ⊢
  have hne:∀ x∈((W.heap.size,#[U i6 0,U i6 10],28) :: (B2,#[U i6 (-19),U i6 31],28) :: []:List (Nat×Array Value×TypeId)),x.1<B3:=fun x hx=>by rw [← hB];exact lt_of_heap (s3.2 x hx).1
  rotate_left
  refine yO rfl rfl (.pointer (some ⟨w2.heap.size,0,none⟩)) (w2.alloc (.cells #[U i6 0,U i6 0] 28)) (by kernel_rfl) ?_
  have s3:=s2.new (c:=#[U i6 0,U i6 0]) (t:=28)
  refine yK 0 s3.h2 (by kernel_rfl) rfl rfl 26 #[] (by kernel_rfl) (one13_any _) ?_
  rintro e w3 ⟨g,rfl,hL,hb⟩
  refine⟨_,rfl,?_⟩
  have s4:=s3.call hb
  refine yK 2 s4.h2 (by kernel_rfl) rfl rfl 12 #[.agg #[U i6 1,U i6 1,U i6 2,U i6 (-128),U i6 127,Sl (some ⟨g,0,none⟩) 1 1,U i6 1],U i6 1,U i6 1,.agg #[U i6 0,U i6 10]] (by kernel_rfl) (fx3 g _ hL) ?_
  rintro e w5 ⟨rfl,hb4⟩
  refine⟨_,rfl,?_⟩
  have s5:=s4.call hb4
  refine takeC 3 (v:=.tuple #[.agg #[U i6 (-19),U i6 31],U i6 0]) rfl rfl (by kernel_rfl) (by kernel_rfl) (by kernel_rfl) (fun _ _ _ h=>h) (fun _=>rfl) rfl (fun w' hw'=>by go_simp) ?_
  refine takeC 4 (v:=.agg #[U i6 (-19),U i6 31]) rfl rfl (by kernel_rfl) (by kernel_rfl) (by kernel_rfl) (fun _ _ _ h=>h) (fun _=>rfl) rfl (fun w' hw'=>by go_simp) ?_
  refine takeC 5 (v:=U i6 0) rfl rfl (by kernel_rfl) (by kernel_rfl) (by kernel_rfl) (fun _ _ _ h=>h) (fun _=>rfl) rfl (fun w' hw'=>by go_simp) ?_
  obtain⟨B3,hB⟩:∃ B,w2.heap.size=B:=⟨_,rfl⟩
  rw [hB] at s5 ⊢
  have hne:∀ x∈((W.heap.size,#[U i6 0,U i6 10],28) :: (B2,#[U i6 (-19),U i6 31],28) :: []:List (Nat×Array Value×TypeId)),x.1<B3:=fun x hx=>by rw [← hB];exact lt_of_heap (s2.2 x hx).1
  all_goals
   refine yS 7 s5.h2 (by kernel_rfl) rfl rfl 28 (.tmp 4) (.tmp 23) rfl B3 #[U i6 (-19),U i6 31] (by kernel_rfl) (by kernel_rfl) 28 #[U i6 0,U i6 0] s5.h1 (by kernel_rfl) rfl (by simp [Value.oneCell']) ?_
   have s6:=(s5.rowset (c':=#[U i6 (-19),U i6 31]) (fun x hx=>Nat.ne_of_lt (hne x hx))).up1
   obtain⟨w6,hw6⟩:∃ w6,w5.setRow B3 #[U i6 (-19),U i6 31]=w6:=⟨_,rfl⟩
   rw [hw6] at s6 ⊢
   refine yR 8 s6.h1 (by kernel_rfl) rfl rfl (U i6 0) w6 (by kernel_rfl) ?_
   exact doneM s6.h1 (by kernel_rfl) ⟨g,B3,by kernel_rfl,s6⟩ _
 rintro a' w2 ⟨g3,B3,rfl,s2⟩
 clear S1
 obtain⟨w1,hw1⟩:∃ w1,w1=w2:=⟨_,rfl⟩
 rw [← hw1] at s2 ⊢
 have S1:Hid (St W w1 ((W.heap.size,#[U i6 0,U i6 10],28) :: (B3,#[U i6 (-19),U i6 31],28) :: (B2,#[U i6 (-19),U i6 31],28) :: [])):=s2
 clear s2 hw1 w2
 go_upto_region 4 with fail
 refine regionG (fun w'=>w'.heap[W.heap.size]? = some (.cells #[U i6 0,U i6 10] 28 (0,0))) (fun a0 a' w'=>∃ (g B4:Nat),a'=(((((((a0.put (some 26) (.agg #[U i6 1,U i6 1,U i6 2,U i6 (-128),U i6 127,Sl (some ⟨g,0,none⟩) 1 1,U i6 1])).put (some 27) (.agg #[U i6 0,U i6 10])).put (some 28) (.tuple #[.agg #[U i6 (-20),U i6 30],U i6 0])).put (some 25) (.tuple #[.agg #[U i6 (-20),U i6 30],U i6 0])).put (some 29) (.agg #[U i6 (-20),U i6 30])).put (some 30) (U i6 0)).put (some 6) (.pointer (some ⟨B4,0,none⟩))).put (some 7) (U i6 0)∧St W w' ((W.heap.size,#[U i6 0,U i6 10],28) :: (B4,#[U i6 (-20),U i6 30],28) :: (B3,#[U i6 (-19),U i6 31],28) :: (B2,#[U i6 (-19),U i6 31],28) :: [])) (by kernel_rfl) ?_ ?_
 rotate_left
 rotate_left
 ·have s2:=S1.out.drew
  obtain⟨w2,hw2⟩:∃ w2,w1.drew=w2:=⟨_,rfl⟩
  rw [hw2] at s2 ⊢
  have hx:=s2.size
  refine takeC 1 (v:=.agg #[U i6 0,U i6 10]) rfl rfl (by kernel_rfl) (by kernel_rfl) (by kernel_rfl) (fun _ _ _ h=>h) (fun _=>rfl) rfl (fun w' hw'=>run_la 28 (.tmp 1) rfl ⟨W.heap.size,0,none⟩ (by kernel_rfl) [U i6 0,U i6 10] _ (fun j v hj=>by rw [Addr.add_lit,Nat.zero_add,(cells_at hw').1];simpa using hj) Tryz.underlying28 rfl (by kernel_rfl)) ?_
  refine y2 0 6 s2.h1 (by kernel_rfl) ?_ ?_
  refine yC rfl rfl 26 #[] (by kernel_rfl) (one13_any _) ?_
  rintro e w3 ⟨g,rfl,hL,hb⟩
  refine⟨_,rfl,?_⟩
  have s3:=s2.call hb
  refine y2 2 6 s3.h1 (by kernel_rfl) ?_ ?_
  refine yC rfl rfl 14 #[.agg #[U i6 1,U i6 1,U i6 2,U i6 (-128),U i6 127,Sl (some ⟨g,0,none⟩) 1 1,U i6 1],U i6 1,U i6 1,.agg #[U i6 0,U i6 10],U i6 2] (by kernel_rfl) (fx4 g _ hL) ?_
  rintro e w4 ⟨rfl,hb4⟩
  refine⟨_,rfl,?_⟩
  have s4:=s3.call hb4
  refine takeC 3 (v:=.tuple #[.agg #[U i6 (-20),U i6 30],U i6 0]) rfl rfl (by kernel_rfl) (by kernel_rfl) (by kernel_rfl) (fun _ _ _ h=>h) (fun _=>rfl) rfl (fun w' hw'=>by go_simp) ?_
  refine takeC 4 (v:=.agg #[U i6 (-20),U i6 30]) rfl rfl (by kernel_rfl) (by kernel_rfl) (by kernel_rfl) (fun _ _ _ h=>h) (fun _=>rfl) rfl (fun w' hw'=>by go_simp) ?_
  refine takeC 5 (v:=U i6 0) rfl rfl (by kernel_rfl) (by kernel_rfl) (by kernel_rfl) (fun _ _ _ h=>h) (fun _=>rfl) rfl (fun w' hw'=>by go_simp) ?_
  refine yR 6 s4.h1 (by kernel_rfl) rfl rfl (.pointer (some ⟨w4.heap.size,0,none⟩)) (w4.alloc (.cells #[U i6 0,U i6 0] 28)) (by kernel_rfl) ?_
  have hB':=lt_of_heap s4.h1
  have s5:=s4.new (c:=#[U i6 0,U i6 0]) (t:=28)
  obtain⟨B4,hB⟩:∃ B,w4.heap.size=B:=⟨_,rfl⟩
  obtain⟨w5,hw5⟩:∃ w5,w4.alloc (.cells #[U i6 0,U i6 0] 28)=w5:=⟨_,rfl⟩
  rw [hw5,hB] at s5 ⊢
  have hne:∀ x∈((W.heap.size,#[U i6 0,U i6 10],28) :: (B3,#[U i6 (-19),U i6 31],28) :: (B2,#[U i6 (-19),U i6 31],28) :: []:List (Nat×Array Value×TypeId)),x.1<B4:=fun x hx=>by rw [← hB];exact lt_of_heap (s4.2 x hx).1
  rotate_left
  refine yO rfl rfl (.pointer (some ⟨w3.heap.size,0,none⟩)) (w3.alloc (.cells #[U i6 0,U i6 0] 28)) (by kernel_rfl) ?_
  have s4:=s3.new (c:=#[U i6 0,U i6 0]) (t:=28)
  refine yK 2 s4.h2 (by kernel_rfl) rfl rfl 14 #[.agg #[U i6 1,U i6 1,U i6 2,U i6 (-128),U i6 127,Sl (some ⟨g,0,none⟩) 1 1,U i6 1],U i6 1,U i6 1,.agg #[U i6 0,U i6 10],U i6 2] (by kernel_rfl) (fx4 g _ (hL.below (bal _ _))) ?_
  rintro e w5 ⟨rfl,hb4⟩
  refine⟨_,rfl,?_⟩
  have s5:=s4.call hb4
  refine takeC 3 (v:=.tuple #[.agg #[U i6 (-20),U i6 30],U i6 0]) rfl rfl (by kernel_rfl) (by kernel_rfl) (by kernel_rfl) (fun _ _ _ h=>h) (fun _=>rfl) rfl (fun w' hw'=>by go_simp) ?_
  refine takeC 4 (v:=.agg #[U i6 (-20),U i6 30]) rfl rfl (by kernel_rfl) (by kernel_rfl) (by kernel_rfl) (fun _ _ _ h=>h) (fun _=>rfl) rfl (fun w' hw'=>by go_simp) ?_
  refine takeC 5 (v:=U i6 0) rfl rfl (by kernel_rfl) (by kernel_rfl) (by kernel_rfl) (fun _ _ _ h=>h) (fun _=>rfl) rfl (fun w' hw'=>by go_simp) ?_
  obtain⟨B4,hB⟩:∃ B,w3.heap.size=B:=⟨_,rfl⟩
  rw [hB] at s5 ⊢
  have hne:∀ x∈((W.heap.size,#[U i6 0,U i6 10],28) :: (B3,#[U i6 (-19),U i6 31],28) :: (B2,#[U i6 (-19),U i6 31],28) :: []:List (Nat×Array Value×TypeId)),x.1<B4:=fun x hx=>by rw [← hB];exact lt_of_heap (s3.2 x hx).1
  rotate_left
  refine yO rfl rfl (.pointer (some ⟨w2.heap.size,0,none⟩)) (w2.alloc (.cells #[U i6 0,U i6 0] 28)) (by kernel_rfl) ?_
  have s3:=s2.new (c:=#[U i6 0,U i6 0]) (t:=28)
  refine yK 0 s3.h2 (by kernel_rfl) rfl rfl 26 #[] (by kernel_rfl) (one13_any _) ?_
  rintro e w3 ⟨g,rfl,hL,hb⟩
  refine⟨_,rfl,?_⟩
  have s4:=s3.call hb
  refine yK 2 s4.h2 (by kernel_rfl) rfl rfl 14 #[.agg #[U i6 1,U i6 1,U i6 2,U i6 (-128),U i6 127,Sl (some ⟨g,0,none⟩) 1 1,U i6 1],U i6 1,U i6 1,.agg #[U i6 0,U i6 10],U i6 2] (by kernel_rfl) (fx4 g _ hL) ?_
  rintro e w5 ⟨rfl,hb4⟩
  refine⟨_,rfl,?_⟩
  have s5:=s4.call hb4
  refine takeC 3 (v:=.tuple #[.agg #[U i6 (-20),U i6 30],U i6 0]) rfl rfl (by kernel_rfl) (by kernel_rfl) (by kernel_rfl) (fun _ _ _ h=>h) (fun _=>rfl) rfl (fun w' hw'=>by go_simp) ?_
  refine takeC 4 (v:=.agg #[U i6 (-20),U i6 30]) rfl rfl (by kernel_rfl) (by kernel_rfl) (by kernel_rfl) (fun _ _ _ h=>h) (fun _=>rfl) rfl (fun w' hw'=>by go_simp) ?_
  refine takeC 5 (v:=U i6 0) rfl rfl (by kernel_rfl) (by kernel_rfl) (by kernel_rfl) (fun _ _ _ h=>h) (fun _=>rfl) rfl (fun w' hw'=>by go_simp) ?_
  obtain⟨B4,hB⟩:∃ B,w2.heap.size=B:=⟨_,rfl⟩
  rw [hB] at s5 ⊢
  have hne:∀ x∈((W.heap.size,#[U i6 0,U i6 10],28) :: (B3,#[U i6 (-19),U i6 31],28) :: (B2,#[U i6 (-19),U i6 31],28) :: []:List (Nat×Array Value×TypeId)),x.1<B4:=fun x hx=>by rw [← hB];exact lt_of_heap (s2.2 x hx).1
  all_goals
   refine yS 7 s5.h2 (by kernel_rfl) rfl rfl 28 (.tmp 6) (.tmp 29) rfl B4 #[U i6 (-20),U i6 30] (by kernel_rfl) (by kernel_rfl) 28 #[U i6 0,U i6 0] s5.h1 (by kernel_rfl) rfl (by simp [Value.oneCell']) ?_
   have s6:=(s5.rowset (c':=#[U i6 (-20),U i6 30]) (fun x hx=>Nat.ne_of_lt (hne x hx))).up1
   obtain⟨w6,hw6⟩:∃ w6,w5.setRow B4 #[U i6 (-20),U i6 30]=w6:=⟨_,rfl⟩
   rw [hw6] at s6 ⊢
   refine yR 8 s6.h1 (by kernel_rfl) rfl rfl (U i6 0) w6 (by kernel_rfl) ?_
   exact doneM s6.h1 (by kernel_rfl) ⟨g,B4,by kernel_rfl,s6⟩ _
 rintro a' w2 ⟨g4,B4,rfl,s2⟩
 clear S1
 obtain⟨w1,hw1⟩:∃ w1,w1=w2:=⟨_,rfl⟩
 rw [← hw1] at s2 ⊢
 have S1:Hid (St W w1 ((W.heap.size,#[U i6 0,U i6 10],28) :: (B4,#[U i6 (-20),U i6 30],28) :: (B3,#[U i6 (-19),U i6 31],28) :: (B2,#[U i6 (-19),U i6 31],28) :: [])):=s2
 clear s2 hw1 w2
 go_upto_region 5 with fail
 refine regionG (fun w'=>w'.heap[W.heap.size]? = some (.cells #[U i6 0,U i6 10] 28 (0,0))) (fun a0 a' w'=>∃ (g B5:Nat),a'=(((((((a0.put (some 32) (.agg #[U i6 1,U i6 1,U i6 2,U i6 (-128),U i6 127,Sl (some ⟨g,0,none⟩) 1 1,U i6 1])).put (some 33) (.agg #[U i6 0,U i6 10])).put (some 34) (.tuple #[.agg #[U i6 (-20),U i6 30],U i6 0])).put (some 31) (.tuple #[.agg #[U i6 (-20),U i6 30],U i6 0])).put (some 35) (.agg #[U i6 (-20),U i6 30])).put (some 36) (U i6 0)).put (some 8) (.pointer (some ⟨B5,0,none⟩))).put (some 9) (U i6 0)∧St W w' ((W.heap.size,#[U i6 0,U i6 10],28) :: (B5,#[U i6 (-20),U i6 30],28) :: (B4,#[U i6 (-20),U i6 30],28) :: (B3,#[U i6 (-19),U i6 31],28) :: (B2,#[U i6 (-19),U i6 31],28) :: [])) (by kernel_rfl) ?_ ?_
 rotate_left
 rotate_left
 ·have s2:=S1.out.drew
  obtain⟨w2,hw2⟩:∃ w2,w1.drew=w2:=⟨_,rfl⟩
  rw [hw2] at s2 ⊢
  have hx:=s2.size
  refine takeC 1 (v:=.agg #[U i6 0,U i6 10]) rfl rfl (by kernel_rfl) (by kernel_rfl) (by kernel_rfl) (fun _ _ _ h=>h) (fun _=>rfl) rfl (fun w' hw'=>run_la 28 (.tmp 1) rfl ⟨W.heap.size,0,none⟩ (by kernel_rfl) [U i6 0,U i6 10] _ (fun j v hj=>by rw [Addr.add_lit,Nat.zero_add,(cells_at hw').1];simpa using hj) Tryz.underlying28 rfl (by kernel_rfl)) ?_
  refine y2 0 6 s2.h1 (by kernel_rfl) ?_ ?_
  refine yC rfl rfl 26 #[] (by kernel_rfl) (one13_any _) ?_
  rintro e w3 ⟨g,rfl,hL,hb⟩
  refine⟨_,rfl,?_⟩
  have s3:=s2.call hb
  refine y2 2 6 s3.h1 (by kernel_rfl) ?_ ?_
  refine yC rfl rfl 7 #[.agg #[U i6 1,U i6 1,U i6 2,U i6 (-128),U i6 127,Sl (some ⟨g,0,none⟩) 1 1,U i6 1],U i6 1,U i6 1,.agg #[U i6 0,U i6 10]] (by kernel_rfl) (fx5 g _ hL) ?_
  rintro e w4 ⟨rfl,hb4⟩
  refine⟨_,rfl,?_⟩
  have s4:=s3.call hb4
  refine takeC 3 (v:=.tuple #[.agg #[U i6 (-20),U i6 30],U i6 0]) rfl rfl (by kernel_rfl) (by kernel_rfl) (by kernel_rfl) (fun _ _ _ h=>h) (fun _=>rfl) rfl (fun w' hw'=>by go_simp) ?_
  refine takeC 4 (v:=.agg #[U i6 (-20),U i6 30]) rfl rfl (by kernel_rfl) (by kernel_rfl) (by kernel_rfl) (fun _ _ _ h=>h) (fun _=>rfl) rfl (fun w' hw'=>by go_simp) ?_
  refine takeC 5 (v:=U i6 0) rfl rfl (by kernel_rfl) (by kernel_rfl) (by kernel_rfl) (fun _ _ _ h=>h) (fun _=>rfl) rfl (fun w' hw'=>by go_simp) ?_
  refine yR 6 s4.h1 (by kernel_rfl) rfl rfl (.pointer (some ⟨w4.heap.size,0,none⟩)) (w4.alloc (.cells #[U i6 0,U i6 0] 28)) (by kernel_rfl) ?_
  have hB':=lt_of_heap s4.h1
  have s5:=s4.new (c:=#[U i6 0,U i6 0]) (t:=28)
  obtain⟨B5,hB⟩:∃ B,w4.heap.size=B:=⟨_,rfl⟩
  obtain⟨w5,hw5⟩:∃ w5,w4.alloc (.cells #[U i6 0,U i6 0] 28)=w5:=⟨_,rfl⟩
  rw [hw5,hB] at s5 ⊢
  have hne:∀ x∈((W.heap.size,#[U i6 0,U i6 10],28) :: (B4,#[U i6 (-20),U i6 30],28) :: (B3,#[U i6 (-19),U i6 31],28) :: (B2,#[U i6 (-19),U i6 31],28) :: []:List (Nat×Array Value×TypeId)),x.1<B5:=fun x hx=>by rw [← hB];exact lt_of_heap (s4.2 x hx).1
  rotate_left
  refine yO rfl rfl (.pointer (some ⟨w3.heap.size,0,none⟩)) (w3.alloc (.cells #[U i6 0,U i6 0] 28)) (by kernel_rfl) ?_
  have s4:=s3.new (c:=#[U i6 0,U i6 0]) (t:=28)
  refine yK 2 s4.h2 (by kernel_rfl) rfl rfl 7 #[.agg #[U i6 1,U i6 1,U i6 2,U i6 (-128),U i6 127,Sl (some ⟨g,0,none⟩) 1 1,U i6 1],U i6 1,U i6 1,.agg #[U i6 0,U i6 10]] (by kernel_rfl) (fx5 g _ (hL.below (bal _ _))) ?_
  rintro e w5 ⟨rfl,hb4⟩
  refine⟨_,rfl,?_⟩
  have s5:=s4.call hb4
  refine takeC 3 (v:=.tuple #[.agg #[U i6 (-20),U i6 30],U i6 0]) rfl rfl (by kernel_rfl) (by kernel_rfl) (by kernel_rfl) (fun _ _ _ h=>h) (fun _=>rfl) rfl (fun w' hw'=>by go_simp) ?_
  refine takeC 4 (v:=.agg #[U i6 (-20),U i6 30]) rfl rfl (by kernel_rfl) (by kernel_rfl) (by kernel_rfl) (fun _ _ _ h=>h) (fun _=>rfl) rfl (fun w' hw'=>by go_simp) ?_
  refine takeC 5 (v:=U i6 0) rfl rfl (by kernel_rfl) (by kernel_rfl) (by kernel_rfl) (fun _ _ _ h=>h) (fun _=>rfl) rfl (fun w' hw'=>by go_simp) ?_
  obtain⟨B5,hB⟩:∃ B,w3.heap.size=B:=⟨_,rfl⟩
  rw [hB] at s5 ⊢
  have hne:∀ x∈((W.heap.size,#[U i6 0,U i6 10],28) :: (B4,#[U i6 (-20),U i6 30],28) :: (B3,#[U i6 (-19),U i6 31],28) :: (B2,#[U i6 (-19),U i6 31],28) :: []:List (Nat×Array Value×TypeId)),x.1<B5:=fun x hx=>by rw [← hB];exact lt_of_heap (s3.2 x hx).1
  rotate_left
  refine yO rfl rfl (.pointer (some ⟨w2.heap.size,0,none⟩)) (w2.alloc (.cells #[U i6 0,U i6 0] 28)) (by kernel_rfl) ?_
  have s3:=s2.new (c:=#[U i6 0,U i6 0]) (t:=28)
  refine yK 0 s3.h2 (by kernel_rfl) rfl rfl 26 #[] (by kernel_rfl) (one13_any _) ?_
  rintro e w3 ⟨g,rfl,hL,hb⟩
  refine⟨_,rfl,?_⟩
  have s4:=s3.call hb
  refine yK 2 s4.h2 (by kernel_rfl) rfl rfl 7 #[.agg #[U i6 1,U i6 1,U i6 2,U i6 (-128),U i6 127,Sl (some ⟨g,0,none⟩) 1 1,U i6 1],U i6 1,U i6 1,.agg #[U i6 0,U i6 10]] (by kernel_rfl) (fx5 g _ hL) ?_
  rintro e w5 ⟨rfl,hb4⟩
  refine⟨_,rfl,?_⟩
  have s5:=s4.call hb4
  refine takeC 3 (v:=.tuple #[.agg #[U i6 (-20),U i6 30],U i6 0]) rfl rfl (by kernel_rfl) (by kernel_rfl) (by kernel_rfl) (fun _ _ _ h=>h) (fun _=>rfl) rfl (fun w' hw'=>by go_simp) ?_
  refine takeC 4 (v:=.agg #[U i6 (-20),U i6 30]) rfl rfl (by kernel_rfl) (by kernel_rfl) (by kernel_rfl) (fun _ _ _ h=>h) (fun _=>rfl) rfl (fun w' hw'=>by go_simp) ?_
  refine takeC 5 (v:=U i6 0) rfl rfl (by kernel_rfl) (by kernel_rfl) (by kernel_rfl) (fun _ _ _ h=>h) (fun _=>rfl) rfl (fun w' hw'=>by go_simp) ?_
  obtain⟨B5,hB⟩:∃ B,w2.heap.size=B:=⟨_,rfl⟩
  rw [hB] at s5 ⊢
  have hne:∀ x∈((W.heap.size,#[U i6 0,U i6 10],28) :: (B4,#[U i6 (-20),U i6 30],28) :: (B3,#[U i6 (-19),U i6 31],28) :: (B2,#[U i6 (-19),U i6 31],28) :: []:List (Nat×Array Value×TypeId)),x.1<B5:=fun x hx=>by rw [← hB];exact lt_of_heap (s2.2 x hx).1
  all_goals
   refine yS 7 s5.h2 (by kernel_rfl) rfl rfl 28 (.tmp 8) (.tmp 35) rfl B5 #[U i6 (-20),U i6 30] (by kernel_rfl) (by kernel_rfl) 28 #[U i6 0,U i6 0] s5.h1 (by kernel_rfl) rfl (by simp [Value.oneCell']) ?_
   have s6:=(s5.rowset (c':=#[U i6 (-20),U i6 30]) (fun x hx=>Nat.ne_of_lt (hne x hx))).up1
   obtain⟨w6,hw6⟩:∃ w6,w5.setRow B5 #[U i6 (-20),U i6 30]=w6:=⟨_,rfl⟩
   rw [hw6] at s6 ⊢
   refine yR 8 s6.h1 (by kernel_rfl) rfl rfl (U i6 0) w6 (by kernel_rfl) ?_
   exact doneM s6.h1 (by kernel_rfl) ⟨g,B5,by kernel_rfl,s6⟩ _
 rintro a' w2 ⟨g5,B5,rfl,s2⟩
 clear S1
 obtain⟨w1,hw1⟩:∃ w1,w1=w2:=⟨_,rfl⟩
 rw [← hw1] at s2 ⊢
 have S1:Hid (St W w1 ((W.heap.size,#[U i6 0,U i6 10],28) :: (B5,#[U i6 (-20),U i6 30],28) :: (B4,#[U i6 (-20),U i6 30],28) :: (B3,#[U i6 (-19),U i6 31],28) :: (B2,#[U i6 (-19),U i6 31],28) :: [])):=s2
 clear s2 hw1 w2
 go_upto_region 6 with fail
 refine regionG (fun w'=>w'.heap[W.heap.size]? = some (.cells #[U i6 0,U i6 10] 28 (0,0))) (fun a0 a' w'=>∃ (g B6:Nat),a'=(((((((a0.put (some 38) (.agg #[U i6 1,U i6 1,U i6 2,U i6 (-128),U i6 127,Sl (some ⟨g,0,none⟩) 1 1,U i6 1])).put (some 39) (.agg #[U i6 0,U i6 10])).put (some 40) (.tuple #[.agg #[U i6 (0),U i6 0],U i6 151])).put (some 37) (.tuple #[.agg #[U i6 (0),U i6 0],U i6 151])).put (some 41) (.agg #[U i6 (0),U i6 0])).put (some 42) (U i6 151)).put (some 10) (.pointer (some ⟨B6,0,none⟩))).put (some 11) (U i6 151)∧St W w' ((W.heap.size,#[U i6 0,U i6 10],28) :: (B6,#[U i6 (0),U i6 0],28) :: (B5,#[U i6 (-20),U i6 30],28) :: (B4,#[U i6 (-20),U i6 30],28) :: (B3,#[U i6 (-19),U i6 31],28) :: (B2,#[U i6 (-19),U i6 31],28) :: [])) (by kernel_rfl) ?_ ?_
 rotate_left
 rotate_left
 ·have s2:=S1.out.drew
  obtain⟨w2,hw2⟩:∃ w2,w1.drew=w2:=⟨_,rfl⟩
  rw [hw2] at s2 ⊢
  have hx:=s2.size
  refine takeC 1 (v:=.agg #[U i6 0,U i6 10]) rfl rfl (by kernel_rfl) (by kernel_rfl) (by kernel_rfl) (fun _ _ _ h=>h) (fun _=>rfl) rfl (fun w' hw'=>run_la 28 (.tmp 1) rfl ⟨W.heap.size,0,none⟩ (by kernel_rfl) [U i6 0,U i6 10] _ (fun j v hj=>by rw [Addr.add_lit,Nat.zero_add,(cells_at hw').1];simpa using hj) Tryz.underlying28 rfl (by kernel_rfl)) ?_
  refine y2 0 6 s2.h1 (by kernel_rfl) ?_ ?_
  refine yC rfl rfl 26 #[] (by kernel_rfl) (one13_any _) ?_
  rintro e w3 ⟨g,rfl,hL,hb⟩
  refine⟨_,rfl,?_⟩
  have s3:=s2.call hb
  refine y2 2 6 s3.h1 (by kernel_rfl) ?_ ?_
  refine yC rfl rfl 14 #[.agg #[U i6 1,U i6 1,U i6 2,U i6 (-128),U i6 127,Sl (some ⟨g,0,none⟩) 1 1,U i6 1],U i6 1,U i6 1,.agg #[U i6 0,U i6 10],U i6 3] (by kernel_rfl) (fx6 g _ hL) ?_
  rintro e w4 ⟨rfl,hb4⟩
  refine⟨_,rfl,?_⟩
  have s4:=s3.call hb4
  refine takeC 3 (v:=.tuple #[.agg #[U i6 (0),U i6 0],U i6 151]) rfl rfl (by kernel_rfl) (by kernel_rfl) (by kernel_rfl) (fun _ _ _ h=>h) (fun _=>rfl) rfl (fun w' hw'=>by go_simp) ?_
  refine takeC 4 (v:=.agg #[U i6 (0),U i6 0]) rfl rfl (by kernel_rfl) (by kernel_rfl) (by kernel_rfl) (fun _ _ _ h=>h) (fun _=>rfl) rfl (fun w' hw'=>by go_simp) ?_
  refine takeC 5 (v:=U i6 151) rfl rfl (by kernel_rfl) (by kernel_rfl) (by kernel_rfl) (fun _ _ _ h=>h) (fun _=>rfl) rfl (fun w' hw'=>by go_simp) ?_
  refine yR 6 s4.h1 (by kernel_rfl) rfl rfl (.pointer (some ⟨w4.heap.size,0,none⟩)) (w4.alloc (.cells #[U i6 0,U i6 0] 28)) (by kernel_rfl) ?_
  have hB':=lt_of_heap s4.h1
  have s5:=s4.new (c:=#[U i6 0,U i6 0]) (t:=28)
  obtain⟨B6,hB⟩:∃ B,w4.heap.size=B:=⟨_,rfl⟩
  obtain⟨w5,hw5⟩:∃ w5,w4.alloc (.cells #[U i6 0,U i6 0] 28)=w5:=⟨_,rfl⟩
  rw [hw5,hB] at s5 ⊢
  have hne:∀ x∈((W.heap.size,#[U i6 0,U i6 10],28) :: (B5,#[U i6 (-20),U i6 30],28) :: (B4,#[U i6 (-20),U i6 30],28) :: (B3,#[U i6 (-19),U i6 31],28) :: (B2,#[U i6 (-19),U i6 31],28) :: []:List (Nat×Array Value×TypeId)),x.1<B6:=fun x hx=>by rw [← hB];exact lt_of_heap (s4.2 x hx).1
  rotate_left
  refine yO rfl rfl (.pointer (some ⟨w3.heap.size,0,none⟩)) (w3.alloc (.cells #[U i6 0,U i6 0] 28)) (by kernel_rfl) ?_
  have s4:=s3.new (c:=#[U i6 0,U i6 0]) (t:=28)
  refine yK 2 s4.h2 (by kernel_rfl) rfl rfl 14 #[.agg #[U i6 1,U i6 1,U i6 2,U i6 (-128),U i6 127,Sl (some ⟨g,0,none⟩) 1 1,U i6 1],U i6 1,U i6 1,.agg #[U i6 0,U i6 10],U i6 3] (by kernel_rfl) (fx6 g _ (hL.below (bal _ _))) ?_
  rintro e w5 ⟨rfl,hb4⟩
  refine⟨_,rfl,?_⟩
  have s5:=s4.call hb4
  refine takeC 3 (v:=.tuple #[.agg #[U i6 (0),U i6 0],U i6 151]) rfl rfl (by kernel_rfl) (by kernel_rfl) (by kernel_rfl) (fun _ _ _ h=>h) (fun _=>rfl) rfl (fun w' hw'=>by go_simp) ?_
  refine takeC 4 (v:=.agg #[U i6 (0),U i6 0]) rfl rfl (by kernel_rfl) (by kernel_rfl) (by kernel_rfl) (fun _ _ _ h=>h) (fun _=>rfl) rfl (fun w' hw'=>by go_simp) ?_
  refine takeC 5 (v:=U i6 151) rfl rfl (by kernel_rfl) (by kernel_rfl) (by kernel_rfl) (fun _ _ _ h=>h) (fun _=>rfl) rfl (fun w' hw'=>by go_simp) ?_
  obtain⟨B6,hB⟩:∃ B,w3.heap.size=B:=⟨_,rfl⟩
  rw [hB] at s5 ⊢
  have hne:∀ x∈((W.heap.size,#[U i6 0,U i6 10],28) :: (B5,#[U i6 (-20),U i6 30],28) :: (B4,#[U i6 (-20),U i6 30],28) :: (B3,#[U i6 (-19),U i6 31],28) :: (B2,#[U i6 (-19),U i6 31],28) :: []:List (Nat×Array Value×TypeId)),x.1<B6:=fun x hx=>by rw [← hB];exact lt_of_heap (s3.2 x hx).1
  rotate_left
  refine yO rfl rfl (.pointer (some ⟨w2.heap.size,0,none⟩)) (w2.alloc (.cells #[U i6 0,U i6 0] 28)) (by kernel_rfl) ?_
  have s3:=s2.new (c:=#[U i6 0,U i6 0]) (t:=28)
  refine yK 0 s3.h2 (by kernel_rfl) rfl rfl 26 #[] (by kernel_rfl) (one13_any _) ?_
  rintro e w3 ⟨g,rfl,hL,hb⟩
  refine⟨_,rfl,?_⟩
  have s4:=s3.call hb
  refine yK 2 s4.h2 (by kernel_rfl) rfl rfl 14 #[.agg #[U i6 1,U i6 1,U i6 2,U i6 (-128),U i6 127,Sl (some ⟨g,0,none⟩) 1 1,U i6 1],U i6 1,U i6 1,.agg #[U i6 0,U i6 10],U i6 3] (by kernel_rfl) (fx6 g _ hL) ?_
  rintro e w5 ⟨rfl,hb4⟩
  refine⟨_,rfl,?_⟩
  have s5:=s4.call hb4
  refine takeC 3 (v:=.tuple #[.agg #[U i6 (0),U i6 0],U i6 151]) rfl rfl (by kernel_rfl) (by kernel_rfl) (by kernel_rfl) (fun _ _ _ h=>h) (fun _=>rfl) rfl (fun w' hw'=>by go_simp) ?_
  refine takeC 4 (v:=.agg #[U i6 (0),U i6 0]) rfl rfl (by kernel_rfl) (by kernel_rfl) (by kernel_rfl) (fun _ _ _ h=>h) (fun _=>rfl) rfl (fun w' hw'=>by go_simp) ?_
  refine takeC 5 (v:=U i6 151) rfl rfl (by kernel_rfl) (by kernel_rfl) (by kernel_rfl) (fun _ _ _ h=>h) (fun _=>rfl) rfl (fun w' hw'=>by go_simp) ?_
  obtain⟨B6,hB⟩:∃ B,w2.heap.size=B:=⟨_,rfl⟩
  rw [hB] at s5 ⊢
  have hne:∀ x∈((W.heap.size,#[U i6 0,U i6 10],28) :: (B5,#[U i6 (-20),U i6 30],28) :: (B4,#[U i6 (-20),U i6 30],28) :: (B3,#[U i6 (-19),U i6 31],28) :: (B2,#[U i6 (-19),U i6 31],28) :: []:List (Nat×Array Value×TypeId)),x.1<B6:=fun x hx=>by rw [← hB];exact lt_of_heap (s2.2 x hx).1
  all_goals
   refine yS 7 s5.h2 (by kernel_rfl) rfl rfl 28 (.tmp 10) (.tmp 41) rfl B6 #[U i6 (0),U i6 0] (by kernel_rfl) (by kernel_rfl) 28 #[U i6 0,U i6 0] s5.h1 (by kernel_rfl) rfl (by simp [Value.oneCell']) ?_
   have s6:=(s5.rowset (c':=#[U i6 (0),U i6 0]) (fun x hx=>Nat.ne_of_lt (hne x hx))).up1
   obtain⟨w6,hw6⟩:∃ w6,w5.setRow B6 #[U i6 (0),U i6 0]=w6:=⟨_,rfl⟩
   rw [hw6] at s6 ⊢
   refine yR 8 s6.h1 (by kernel_rfl) rfl rfl (U i6 151) w6 (by kernel_rfl) ?_
   exact doneM s6.h1 (by kernel_rfl) ⟨g,B6,by kernel_rfl,s6⟩ _
 rintro a' w2 ⟨g6,B6,rfl,s2⟩
 clear S1
 obtain⟨w1,hw1⟩:∃ w1,w1=w2:=⟨_,rfl⟩
 rw [← hw1] at s2 ⊢
 have S1:Hid (St W w1 ((W.heap.size,#[U i6 0,U i6 10],28) :: (B6,#[U i6 (0),U i6 0],28) :: (B5,#[U i6 (-20),U i6 30],28) :: (B4,#[U i6 (-20),U i6 30],28) :: (B3,#[U i6 (-19),U i6 31],28) :: (B2,#[U i6 (-19),U i6 31],28) :: [])):=s2
 clear s2 hw1 w2
 obtain⟨-,-,-,c6,f6,z6,c5,f5,z5,c4,f4,z4,c3,f3,z3,c2,f2,z2,-⟩:=S1.out.rules
 have q1:=beqS 28 rfl (-19) 31 (-19) 31 true (by decide)
 have q2:=beqS 28 rfl (-20) 30 (-20) 30 true (by decide)
 go_wp2
 go_ret
 exact⟨rfl,S1.out.below⟩
end Go.Proofs.YtccoanknofhmaaaGreat
