/- What Of of package terms returns. What find of package bound returns. -/
import Derived.Test.YtccoanknofhmaaaGreatGq14
import Derived.Test.YtccoanknofhmaaaGreatGq21
namespace Go.Proofs.YtccoanknofhmaaaGreat
open Go.Value renaming int → U, slice → Sl
open Go.IntKind renaming i64 → i6
set_option maxRecDepth 100000
set_option maxHeartbeats 16000000
open Go.ChangeShapes Go.WideShapes Go.ChangeAt Go.RowKit
set_option linter.unusedVariables false
theorem of_bad (h w c lo hi ot:Int) (oa:Option Addr) (on oc:Nat) (O:Nat→Nat→Int) (Z B:Nat→List Int) (W:World) (hL:LRow W oa on oc O Z B) (op ch at' E:Int) (hf:fiE O h w c lo hi ot on op=E) (hE:E≠0) :
  Calls Tryz.prog 37 #[.agg #[U i6 h,U i6 w,U i6 c,U i6 lo,U i6 hi,Sl oa on oc,U i6 ot],U i6 op,U i6 ch,U i6 at'] W fun e w'=>e=.returned (.tuple #[Sl none 0 0,U i6 0,U i6 E])∧Below W.heap.size W w':=by
 have s0:=(St.start W).new (c:=#[U i6 h,U i6 w,U i6 c,U i6 lo,U i6 hi,Sl oa on oc,U i6 ot]) (t:=26)
 have hF:Hid (∀ W',Below W.heap.size W W'→_):=fun W' hb=>find_bad h w c lo hi ot oa on oc O Z B W' (hL.below hb) op E hf hE
 have hE':(E == 0)=false:=by simp [hE]
 clear hf hL
 go_enter Tryz.func37,Tryz.ntmps37
 go_wp2_with fail
 refine (hF.out _ s0.below).mono ?_
 rintro e w1 ⟨rfl,hb⟩
 have s1:=(s0.call hb).new (c:=#[U i6 0,U i6 0,U i6 0,U i6 0,U i6 0,U i6 0,U i6 0,U i6 0,U i6 0,U i6 0,U i6 0,U i6 0,Sl none 0 0,Sl none 0 0,U i6 0,U i6 0,U i6 0,U i6 0,U i6 0,U i6 0,U i6 0,U i6 0,U i6 0,U i6 0,U i6 0,U i6 0,U i6 0,U i6 0]) (t:=102)
 have S1:Hid (Below W.heap.size W _):=s1.below
 clear hb s1
 go_wp2_with (refine wpList_st_new rfl 102 (.tmp 11) (.tmp 17) rfl w1 _ #[U i6 0,U i6 0,U i6 0,U i6 0,U i6 0,U i6 0,U i6 0,U i6 0,U i6 0,U i6 0,U i6 0,U i6 0,Sl none 0 0,Sl none 0 0,U i6 0,U i6 0,U i6 0,U i6 0,U i6 0,U i6 0,U i6 0,U i6 0,U i6 0,U i6 0,U i6 0,U i6 0,U i6 0,U i6 0] rfl rfl (by kernel_rfl) rfl (by simp [Value.oneCell']) ?_)
 exact bodyPost_ret (v:=.tuple #[Sl none 0 0,U i6 0,U i6 E]) (by simp [results,Tryz.results37,go_sem, *]) rfl ⟨rfl,S1.out⟩
theorem of_place (h w c lo hi ot:Int) (oa:Option Addr) (on oc:Nat) (O:Nat→Nat→Int) (Z B:Nat→List Int) (W:World) (hL:LRow W oa on oc O Z B) (ch at':Int) (RL:List (Int×Int×Int)) (Rw:Int) (hR:gtR O h w c lo hi ot on=(0,0,RL,Rw)) (i:Nat) (x:Addr) (wa:Option Addr) (lw cw:Nat) (ba:Option Addr) (lb cb:Nat) (x0 y0 z0 H V C:Int) (hF:Fnd W oa on O Z B RL i x wa lw cw ba lb cb x0 y0 z0 H V C) (hp:¬ ((1≤ch∧ch≤C)∧(0≤at'∧at'<H*V))) :
  Calls Tryz.prog 37 #[.agg #[U i6 h,U i6 w,U i6 c,U i6 lo,U i6 hi,Sl oa on oc,U i6 ot],U i6 ((i:Int)+1),U i6 ch,U i6 at'] W fun e w'=>e=.returned (.tuple #[Sl none 0 0,U i6 0,U i6 3])∧Below W.heap.size W w':=by
 have s0:=(St.start W).new (c:=#[U i6 h,U i6 w,U i6 c,U i6 lo,U i6 hi,Sl oa on oc,U i6 ot]) (t:=26)
 have hSit:Hid (Sit (O i 0) (O i 4) (O i 5) (O i 6) (O i 7) (O i 8) (O i 9) (O i 10) (O i 11) x0 y0 z0 H V C lw lb):=hF.2.2.2.2.2.2.2.2.2.1
 have hK:Hid (∀ W',Below W.heap.size W W'→_):=fun W' hb=>find_ok h w c lo hi ot oa on oc O Z B W' (hL.below hb) RL Rw hR i x wa lw cw ba lb cb x0 y0 z0 H V C (hF.below hb)
 have hPo:Hid (∀ (w1:World),_):=fun w1=>tpos_any (O i 0) (O i 1) (O i 2) (O i 3) (O i 4) (O i 5) (O i 6) (O i 7) (O i 8) (O i 9) (O i 10) (O i 11) wa lw cw ba lb cb (O i 14) (O i 15) (O i 16) (O i 17) (O i 18) (O i 19) (O i 20) (O i 21) x0 y0 z0 H V C _ _ (heap_alloc_new w1 _) hSit.out.2.2.1
 obtain⟨hv,ehv⟩:∃ hv,H*V=hv:=⟨_,rfl⟩
 rw [ehv] at hp hPo
 clear hF hR hL ehv
 by_cases p1:¬ ch<1
 rotate_left
 ·have p1':ch<1:=by omega
  clear p1 hp
  go_enter Tryz.func37,Tryz.ntmps37
  go_wp2_with fail
  refine (hK.out _ s0.below).mono ?_
  rintro e w1 ⟨rfl,hb⟩
  have s1:=(s0.call hb).new (c:=#[U i6 (O i 0),U i6 (O i 1),U i6 (O i 2),U i6 (O i 3),U i6 (O i 4),U i6 (O i 5),U i6 (O i 6),U i6 (O i 7),U i6 (O i 8),U i6 (O i 9),U i6 (O i 10),U i6 (O i 11),Sl wa lw cw,Sl ba lb cb,U i6 (O i 14),U i6 (O i 15),U i6 (O i 16),U i6 (O i 17),U i6 (O i 18),U i6 (O i 19),U i6 (O i 20),U i6 (O i 21),U i6 x0,U i6 y0,U i6 z0,U i6 H,U i6 V,U i6 C]) (t:=102)
  have S1:Hid (Below W.heap.size W _):=s1.below
  clear hb s1
  go_wp2_with (first
   | (refine wpList_st_new rfl 102 (.tmp 11) (.tmp 17) rfl w1 _ #[U i6 (O i 0),U i6 (O i 1),U i6 (O i 2),U i6 (O i 3),U i6 (O i 4),U i6 (O i 5),U i6 (O i 6),U i6 (O i 7),U i6 (O i 8),U i6 (O i 9),U i6 (O i 10),U i6 (O i 11),Sl wa lw cw,Sl ba lb cb,U i6 (O i 14),U i6 (O i 15),U i6 (O i 16),U i6 (O i 17),U i6 (O i 18),U i6 (O i 19),U i6 (O i 20),U i6 (O i 21),U i6 x0,U i6 y0,U i6 z0,U i6 H,U i6 V,U i6 C] rfl rfl (by kernel_rfl) rfl (by simp [Value.oneCell']) ?_)
   | (go_at_call 50;refine (tchan_any (O i 0) (O i 1) (O i 2) (O i 3) (O i 4) (O i 5) (O i 6) (O i 7) (O i 8) (O i 9) (O i 10) (O i 11) wa lw cw ba lb cb (O i 14) (O i 15) (O i 16) (O i 17) (O i 18) (O i 19) (O i 20) (O i 21) x0 y0 z0 H V C _ _ (heap_alloc_new w1 _)).mono ?_;rintro e w2 ⟨rfl,hw2⟩;have hw3:=hw2.symm;subst hw3;clear hw2)
   | (go_at_call 51;refine (hPo.out w1).mono ?_;rintro e w2 ⟨rfl,n,hw2⟩;have S1:Hid (Below W.heap.size W w2):=(by rw [hw2];exact bt S1.out (dbel _ n));clear hw2))
  exact bodyPost_ret (v:=.tuple #[Sl none 0 0,U i6 0,U i6 3]) (by simp [results,Tryz.results37,go_sem, *]) rfl ⟨rfl,S1.out⟩
 by_cases p2:¬ C<ch
 rotate_left
 ·have p2':C<ch:=by omega
  clear p2 hp
  go_enter Tryz.func37,Tryz.ntmps37
  go_wp2_with fail
  refine (hK.out _ s0.below).mono ?_
  rintro e w1 ⟨rfl,hb⟩
  have s1:=(s0.call hb).new (c:=#[U i6 (O i 0),U i6 (O i 1),U i6 (O i 2),U i6 (O i 3),U i6 (O i 4),U i6 (O i 5),U i6 (O i 6),U i6 (O i 7),U i6 (O i 8),U i6 (O i 9),U i6 (O i 10),U i6 (O i 11),Sl wa lw cw,Sl ba lb cb,U i6 (O i 14),U i6 (O i 15),U i6 (O i 16),U i6 (O i 17),U i6 (O i 18),U i6 (O i 19),U i6 (O i 20),U i6 (O i 21),U i6 x0,U i6 y0,U i6 z0,U i6 H,U i6 V,U i6 C]) (t:=102)
  have S1:Hid (Below W.heap.size W _):=s1.below
  clear hb s1
  go_wp2_with (first
   | (refine wpList_st_new rfl 102 (.tmp 11) (.tmp 17) rfl w1 _ #[U i6 (O i 0),U i6 (O i 1),U i6 (O i 2),U i6 (O i 3),U i6 (O i 4),U i6 (O i 5),U i6 (O i 6),U i6 (O i 7),U i6 (O i 8),U i6 (O i 9),U i6 (O i 10),U i6 (O i 11),Sl wa lw cw,Sl ba lb cb,U i6 (O i 14),U i6 (O i 15),U i6 (O i 16),U i6 (O i 17),U i6 (O i 18),U i6 (O i 19),U i6 (O i 20),U i6 (O i 21),U i6 x0,U i6 y0,U i6 z0,U i6 H,U i6 V,U i6 C] rfl rfl (by kernel_rfl) rfl (by simp [Value.oneCell']) ?_)
   | (go_at_call 50;refine (tchan_any (O i 0) (O i 1) (O i 2) (O i 3) (O i 4) (O i 5) (O i 6) (O i 7) (O i 8) (O i 9) (O i 10) (O i 11) wa lw cw ba lb cb (O i 14) (O i 15) (O i 16) (O i 17) (O i 18) (O i 19) (O i 20) (O i 21) x0 y0 z0 H V C _ _ (heap_alloc_new w1 _)).mono ?_;rintro e w2 ⟨rfl,hw2⟩;have hw3:=hw2.symm;subst hw3;clear hw2)
   | (go_at_call 51;refine (hPo.out w1).mono ?_;rintro e w2 ⟨rfl,n,hw2⟩;have S1:Hid (Below W.heap.size W w2):=(by rw [hw2];exact bt S1.out (dbel _ n));clear hw2))
  exact bodyPost_ret (v:=.tuple #[Sl none 0 0,U i6 0,U i6 3]) (by simp [results,Tryz.results37,go_sem, *]) rfl ⟨rfl,S1.out⟩
 by_cases p3:¬ at'<0
 rotate_left
 ·have p3':at'<0:=by omega
  clear p3 hp
  go_enter Tryz.func37,Tryz.ntmps37
  go_wp2_with fail
  refine (hK.out _ s0.below).mono ?_
  rintro e w1 ⟨rfl,hb⟩
  have s1:=(s0.call hb).new (c:=#[U i6 (O i 0),U i6 (O i 1),U i6 (O i 2),U i6 (O i 3),U i6 (O i 4),U i6 (O i 5),U i6 (O i 6),U i6 (O i 7),U i6 (O i 8),U i6 (O i 9),U i6 (O i 10),U i6 (O i 11),Sl wa lw cw,Sl ba lb cb,U i6 (O i 14),U i6 (O i 15),U i6 (O i 16),U i6 (O i 17),U i6 (O i 18),U i6 (O i 19),U i6 (O i 20),U i6 (O i 21),U i6 x0,U i6 y0,U i6 z0,U i6 H,U i6 V,U i6 C]) (t:=102)
  have S1:Hid (Below W.heap.size W _):=s1.below
  clear hb s1
  go_wp2_with (first
   | (refine wpList_st_new rfl 102 (.tmp 11) (.tmp 17) rfl w1 _ #[U i6 (O i 0),U i6 (O i 1),U i6 (O i 2),U i6 (O i 3),U i6 (O i 4),U i6 (O i 5),U i6 (O i 6),U i6 (O i 7),U i6 (O i 8),U i6 (O i 9),U i6 (O i 10),U i6 (O i 11),Sl wa lw cw,Sl ba lb cb,U i6 (O i 14),U i6 (O i 15),U i6 (O i 16),U i6 (O i 17),U i6 (O i 18),U i6 (O i 19),U i6 (O i 20),U i6 (O i 21),U i6 x0,U i6 y0,U i6 z0,U i6 H,U i6 V,U i6 C] rfl rfl (by kernel_rfl) rfl (by simp [Value.oneCell']) ?_)
   | (go_at_call 50;refine (tchan_any (O i 0) (O i 1) (O i 2) (O i 3) (O i 4) (O i 5) (O i 6) (O i 7) (O i 8) (O i 9) (O i 10) (O i 11) wa lw cw ba lb cb (O i 14) (O i 15) (O i 16) (O i 17) (O i 18) (O i 19) (O i 20) (O i 21) x0 y0 z0 H V C _ _ (heap_alloc_new w1 _)).mono ?_;rintro e w2 ⟨rfl,hw2⟩;have hw3:=hw2.symm;subst hw3;clear hw2)
   | (go_at_call 51;refine (hPo.out w1).mono ?_;rintro e w2 ⟨rfl,n,hw2⟩;have S1:Hid (Below W.heap.size W w2):=(by rw [hw2];exact bt S1.out (dbel _ n));clear hw2))
  exact bodyPost_ret (v:=.tuple #[Sl none 0 0,U i6 0,U i6 3]) (by simp [results,Tryz.results37,go_sem, *]) rfl ⟨rfl,S1.out⟩
 by_cases p4:¬ hv≤at'
 rotate_left
 ·have p4':hv≤at':=by omega
  clear p4 hp
  go_enter Tryz.func37,Tryz.ntmps37
  go_wp2_with fail
  refine (hK.out _ s0.below).mono ?_
  rintro e w1 ⟨rfl,hb⟩
  have s1:=(s0.call hb).new (c:=#[U i6 (O i 0),U i6 (O i 1),U i6 (O i 2),U i6 (O i 3),U i6 (O i 4),U i6 (O i 5),U i6 (O i 6),U i6 (O i 7),U i6 (O i 8),U i6 (O i 9),U i6 (O i 10),U i6 (O i 11),Sl wa lw cw,Sl ba lb cb,U i6 (O i 14),U i6 (O i 15),U i6 (O i 16),U i6 (O i 17),U i6 (O i 18),U i6 (O i 19),U i6 (O i 20),U i6 (O i 21),U i6 x0,U i6 y0,U i6 z0,U i6 H,U i6 V,U i6 C]) (t:=102)
  have S1:Hid (Below W.heap.size W _):=s1.below
  clear hb s1
  go_wp2_with (first
   | (refine wpList_st_new rfl 102 (.tmp 11) (.tmp 17) rfl w1 _ #[U i6 (O i 0),U i6 (O i 1),U i6 (O i 2),U i6 (O i 3),U i6 (O i 4),U i6 (O i 5),U i6 (O i 6),U i6 (O i 7),U i6 (O i 8),U i6 (O i 9),U i6 (O i 10),U i6 (O i 11),Sl wa lw cw,Sl ba lb cb,U i6 (O i 14),U i6 (O i 15),U i6 (O i 16),U i6 (O i 17),U i6 (O i 18),U i6 (O i 19),U i6 (O i 20),U i6 (O i 21),U i6 x0,U i6 y0,U i6 z0,U i6 H,U i6 V,U i6 C] rfl rfl (by kernel_rfl) rfl (by simp [Value.oneCell']) ?_)
   | (go_at_call 50;refine (tchan_any (O i 0) (O i 1) (O i 2) (O i 3) (O i 4) (O i 5) (O i 6) (O i 7) (O i 8) (O i 9) (O i 10) (O i 11) wa lw cw ba lb cb (O i 14) (O i 15) (O i 16) (O i 17) (O i 18) (O i 19) (O i 20) (O i 21) x0 y0 z0 H V C _ _ (heap_alloc_new w1 _)).mono ?_;rintro e w2 ⟨rfl,hw2⟩;have hw3:=hw2.symm;subst hw3;clear hw2)
   | (go_at_call 51;refine (hPo.out w1).mono ?_;rintro e w2 ⟨rfl,n,hw2⟩;have S1:Hid (Below W.heap.size W w2):=(by rw [hw2];exact bt S1.out (dbel _ n));clear hw2))
  exact bodyPost_ret (v:=.tuple #[Sl none 0 0,U i6 0,U i6 3]) (by simp [results,Tryz.results37,go_sem, *]) rfl ⟨rfl,S1.out⟩
 exact absurd ⟨by omega,by omega⟩ hp
theorem of_ok (h w c lo hi ot:Int) (oa:Option Addr) (on oc:Nat) (O:Nat→Nat→Int) (Z B:Nat→List Int) (W:World) (hL:LRow W oa on oc O Z B) (ch at':Int) (RL:List (Int×Int×Int)) (Rw:Int) (hR:gtR O h w c lo hi ot on=(0,0,RL,Rw)) (i:Nat) (x:Addr) (wa:Option Addr) (lw cw:Nat) (ba:Option Addr) (lb cb:Nat) (x0 y0 z0 H V C:Int) (hF:Fnd W oa on O Z B RL i x wa lw cw ba lb cb x0 y0 z0 H V C) (hch:1≤ch∧ch≤C) (hat:0≤at'∧at'<H*V) :
  Calls Tryz.prog 37 #[.agg #[U i6 h,U i6 w,U i6 c,U i6 lo,U i6 hi,Sl oa on oc,U i6 ot],U i6 ((i:Int)+1),U i6 ch,U i6 at'] W fun e w'=>(∃ v,e=.returned (.tuple #[v,U i6 (biA (O i 0) ch (B i)),U i6 0])∧OTm w' W.heap.size v (siL (O i 0) (O i 4) (O i 5) (O i 6) (O i 7) (O i 8) (O i 9) (O i 10) (O i 11) x0 y0 z0 ch at' (Z i)))∧Below W.heap.size W w':=by
 have s0:=(St.start W).new (c:=#[U i6 h,U i6 w,U i6 c,U i6 lo,U i6 hi,Sl oa on oc,U i6 ot]) (t:=26)
 have hSit:Hid (Sit (O i 0) (O i 4) (O i 5) (O i 6) (O i 7) (O i 8) (O i 9) (O i 10) (O i 11) x0 y0 z0 H V C lw lb):=hF.2.2.2.2.2.2.2.2.2.1
 have hrZ:Hid (IRow .i16 W wa lw cw (Z i)):=hF.2.2.2.2.2.1
 have hrB:Hid (IRow .i32 W ba lb cb (B i)):=hF.2.2.2.2.2.2.1
 have hK:Hid (∀ W',Below W.heap.size W W'→_):=fun W' hb=>find_ok h w c lo hi ot oa on oc O Z B W' (hL.below hb) RL Rw hR i x wa lw cw ba lb cb x0 y0 z0 H V C (hF.below hb)
 have hPo:Hid (∀ (w1:World),_):=fun w1=>tpos_any (O i 0) (O i 1) (O i 2) (O i 3) (O i 4) (O i 5) (O i 6) (O i 7) (O i 8) (O i 9) (O i 10) (O i 11) wa lw cw ba lb cb (O i 14) (O i 15) (O i 16) (O i 17) (O i 18) (O i 19) (O i 20) (O i 21) x0 y0 z0 H V C _ _ (heap_alloc_new w1 _) hSit.out.2.2.1
 have hTe:Hid (∀ (w':World) (r:Nat),w'.heap[r]? = some (.cells #[U i6 (O i 0),U i6 (O i 1),U i6 (O i 2),U i6 (O i 3),U i6 (O i 4),U i6 (O i 5),U i6 (O i 6),U i6 (O i 7),U i6 (O i 8),U i6 (O i 9),U i6 (O i 10),U i6 (O i 11),Sl wa lw cw,Sl ba lb cb,U i6 (O i 14),U i6 (O i 15),U i6 (O i 16),U i6 (O i 17),U i6 (O i 18),U i6 (O i 19),U i6 (O i 20),U i6 (O i 21),U i6 x0,U i6 y0,U i6 z0,U i6 H,U i6 V,U i6 C] 102 (0,0))→Below W.heap.size W w'→_):=fun w' r hr hb=>terms_any (O i 0) (O i 1) (O i 2) (O i 3) (O i 4) (O i 5) (O i 6) (O i 7) (O i 8) (O i 9) (O i 10) (O i 11) wa lw cw ba lb cb (O i 14) (O i 15) (O i 16) (O i 17) (O i 18) (O i 19) (O i 20) (O i 21) x0 y0 z0 H V C r w' hr (Z i) (hrZ.out.below hb) hSit.out ch at' hch hat
 have hBi:Hid (∀ (w':World) (r:Nat),w'.heap[r]? = some (.cells #[U i6 (O i 0),U i6 (O i 1),U i6 (O i 2),U i6 (O i 3),U i6 (O i 4),U i6 (O i 5),U i6 (O i 6),U i6 (O i 7),U i6 (O i 8),U i6 (O i 9),U i6 (O i 10),U i6 (O i 11),Sl wa lw cw,Sl ba lb cb,U i6 (O i 14),U i6 (O i 15),U i6 (O i 16),U i6 (O i 17),U i6 (O i 18),U i6 (O i 19),U i6 (O i 20),U i6 (O i 21),U i6 x0,U i6 y0,U i6 z0,U i6 H,U i6 V,U i6 C] 102 (0,0))→Below W.heap.size W w'→_):=fun w' r hr hb=>tbias_any (O i 0) (O i 1) (O i 2) (O i 3) (O i 4) (O i 5) (O i 6) (O i 7) (O i 8) (O i 9) (O i 10) (O i 11) wa lw cw ba lb cb (O i 14) (O i 15) (O i 16) (O i 17) (O i 18) (O i 19) (O i 20) (O i 21) x0 y0 z0 H V C r w' hr (B i) (hrB.out.below hb) hSit.out ch hch
 obtain⟨hv,ehv⟩:∃ hv,H*V=hv:=⟨_,rfl⟩
 rw [ehv] at hat hPo
 obtain⟨TL,hTL⟩:∃ TL,siL (O i 0) (O i 4) (O i 5) (O i 6) (O i 7) (O i 8) (O i 9) (O i 10) (O i 11) x0 y0 z0 ch at' (Z i)=TL:=⟨_,rfl⟩
 obtain⟨bi,hbi⟩:∃ bi,biA (O i 0) ch (B i)=bi:=⟨_,rfl⟩
 rw [hTL] at hTe ⊢
 rw [hbi] at hBi ⊢
 clear hF hR hL ehv hTL hbi hrZ hrB
 go_enter Tryz.func37,Tryz.ntmps37
 go_wp2_with fail
 refine (hK.out _ s0.below).mono ?_
 rintro e w1 ⟨rfl,hb⟩
 have s1:=(s0.call hb).new (c:=#[U i6 (O i 0),U i6 (O i 1),U i6 (O i 2),U i6 (O i 3),U i6 (O i 4),U i6 (O i 5),U i6 (O i 6),U i6 (O i 7),U i6 (O i 8),U i6 (O i 9),U i6 (O i 10),U i6 (O i 11),Sl wa lw cw,Sl ba lb cb,U i6 (O i 14),U i6 (O i 15),U i6 (O i 16),U i6 (O i 17),U i6 (O i 18),U i6 (O i 19),U i6 (O i 20),U i6 (O i 21),U i6 x0,U i6 y0,U i6 z0,U i6 H,U i6 V,U i6 C]) (t:=102)
 have S1:Hid (St W _ _):=s1
 clear hb s1
 go_wp2_with (first
  | (refine wpList_st_new rfl 102 (.tmp 11) (.tmp 17) rfl w1 _ #[U i6 (O i 0),U i6 (O i 1),U i6 (O i 2),U i6 (O i 3),U i6 (O i 4),U i6 (O i 5),U i6 (O i 6),U i6 (O i 7),U i6 (O i 8),U i6 (O i 9),U i6 (O i 10),U i6 (O i 11),Sl wa lw cw,Sl ba lb cb,U i6 (O i 14),U i6 (O i 15),U i6 (O i 16),U i6 (O i 17),U i6 (O i 18),U i6 (O i 19),U i6 (O i 20),U i6 (O i 21),U i6 x0,U i6 y0,U i6 z0,U i6 H,U i6 V,U i6 C] rfl rfl (by kernel_rfl) rfl (by simp [Value.oneCell']) ?_)
  | (go_at_call 50;refine (tchan_any (O i 0) (O i 1) (O i 2) (O i 3) (O i 4) (O i 5) (O i 6) (O i 7) (O i 8) (O i 9) (O i 10) (O i 11) wa lw cw ba lb cb (O i 14) (O i 15) (O i 16) (O i 17) (O i 18) (O i 19) (O i 20) (O i 21) x0 y0 z0 H V C _ _ (heap_alloc_new w1 _)).mono ?_;rintro e w2 ⟨rfl,hw2⟩;have hw3:=hw2.symm;subst hw3;clear hw2)
  | (go_at_call 51;refine (hPo.out w1).mono ?_;rintro e w2 ⟨rfl,n,hw2⟩;have S2:Hid (St W w2 _):=(by rw [hw2];exact S1.out.call (dbel _ n));clear hw2 S1))
 refine (hTe.out _ _ S2.out.h1 S2.out.below).mono ?_
 rintro e w3 ⟨⟨v,rfl,hO⟩,hb3⟩
 have S3:Hid (St W w3 _):=S2.out.call hb3
 have hz2:=S2.out.below.size
 have HO:Hid (OTm w3 W.heap.size v TL):=hO.base hz2
 obtain⟨va,vc,rfl⟩:=hO.slice
 clear hO hb3 S2
 go_wp2_with fail
 refine (hBi.out _ _ S3.out.h1 S3.out.below).mono ?_
 rintro e w4 ⟨rfl,hw4⟩
 have hw5:=hw4.symm
 subst hw5
 clear hw4
 go_wp2
 exact bodyPost_ret (v:=.tuple #[Sl va TL.length vc,U i6 bi,U i6 0]) (by simp [results,Tryz.results37,go_sem, *]) rfl ⟨⟨_,rfl,HO.out⟩,S3.out.below⟩
theorem St.rowset {w0 w:World} {B:Nat} {c c':Array Value} {t:TypeId} {l:List (Nat×Array Value×TypeId)} (h:St w0 w ((B,c,t) :: l)) (hl:∀ x∈l,x.1≠B):St w0 (w.setRow B c') ((B,c',t) :: l):=by
 refine⟨below_setRow h.1 (h.2 _ List.mem_cons_self).2 c',fun x hx=>?_⟩
 rcases List.mem_cons.1 hx with rfl | hx
 ·exact⟨setRow_heap w _ c c' t (0,0) h.h1,(h.2 _ List.mem_cons_self).2⟩
 ·exact⟨(setRow_other _ _ _ _ (hl x hx)).trans (h.2 x (List.mem_cons_of_mem _ hx)).1,(h.2 x (List.mem_cons_of_mem _ hx)).2⟩
theorem bfind_a (h w c lo hi ot op ch:Int) (oa:Option Addr) (on oc:Nat) (O:Nat→Nat→Int) (W:World) (hM:MRow W oa on oc O) (slo shi:Int) (Re Ra Rw:Int) (RL:List (Int×Int×Int)) (hR:gtR O h w c lo hi ot on=(Re,Ra,RL,Rw)) (he:Re≠0) :
  Calls Tryz.prog 17 #[.agg #[U i6 h,U i6 w,U i6 c,U i6 lo,U i6 hi,Sl oa on oc,U i6 ot],U i6 op,U i6 ch,.agg #[U i6 slo,U i6 shi]] W fun e w'=>e=.returned (.tuple #[.agg #[U i6 0,U i6 0,Sl none 0 0,U i6 0,U i6 0,U i6 0,U i6 0,U i6 0,U i6 0,U i6 0,U i6 0,U i6 0,U i6 0,Sl none 0 0,U i6 0],U i6 Re])∧Below W.heap.size W w':=by
 have hS:Hid (∀ W,MRow W oa on oc O→_):=fun W hW=>shapes_any h w c lo hi ot oa on oc O W hW
 rw [hR] at hS
 simp only at hS
 have he':(Re == 0)=false:=by simp [he]
 have hM2:Hid (MRow W oa on oc O):=hM
 clear hR hM
 have s0:=(((St.start W).new (c:=#[U i6 h,U i6 w,U i6 c,U i6 lo,U i6 hi,Sl oa on oc,U i6 ot]) (t:=26)).new (c:=#[U i6 slo,U i6 shi]) (t:=28)).new (c:=#[U i6 0,U i6 0,Sl none 0 0,U i6 0,U i6 0,U i6 0,U i6 0,U i6 0,U i6 0,U i6 0,U i6 0,U i6 0,U i6 0,Sl none 0 0,U i6 0]) (t:=55)
 simp only [World.size_alloc] at s0
 go_enter Tryz.func17,Tryz.ntmps17
 go_wp2_with fail
 refine Calls.mono (hS.out _ (hM2.out.below s0.below)) ?_
 rintro e w1 ⟨v,rfl,hSh,hb⟩
 have s1:=(s0.call hb).new (c:=#[U i6 Re,U i6 Ra,U i6 0]) (t:=79)
 obtain⟨va,vc,rfl⟩:=hSh.slice
 obtain⟨c1,f1,z1,c2,f2,z2,-⟩:=(s0.call hb).rules
 clear hb hSh
 go_wp2
 obtain⟨w2,hw2⟩:∃ w2,w1.alloc (.cells #[U i6 Re,U i6 Ra,U i6 0] 79)=w2:=⟨_,rfl⟩
 rw [hw2] at s1 ⊢
 have hF:=s1.h1
 have hZ:=s1.h2
 have S1:Hid (St W w2 _):=s1
 clear hw2 s0 s1 c1 f1 c2 f2
 refine regionC (fun w'=>w'.heap[w1.heap.size]? = some (.cells #[U i6 Re,U i6 Ra,U i6 0] 79 (0,0))) (by kernel_rfl) ?_
 refine takeC 0 (v:=.agg #[U i6 0,U i6 0,Sl none 0 0,U i6 0,U i6 0,U i6 0,U i6 0,U i6 0,U i6 0,U i6 0,U i6 0,U i6 0,U i6 0,Sl none 0 0,U i6 0]) rfl rfl (by kernel_rfl) (by kernel_rfl) (by kernel_rfl) (fun _ _ _ h=>h) (fun _=>rfl) rfl (fun w' hw'=>by kernel_rfl) ?_
 refine takeC 1 (v:=.pointer (some ⟨w1.heap.size,0,none⟩)) rfl rfl (by kernel_rfl) (by kernel_rfl) (by kernel_rfl) (fun _ _ _ h=>h) (fun _=>rfl) rfl (fun w' hw'=>by go_simp) ?_
 refine takeC 2 (v:=U i6 Re) rfl rfl (by kernel_rfl) (by kernel_rfl) (by kernel_rfl) (fun _ _ _ h=>h) (fun _=>rfl) rfl (fun w' hw'=>by have hc:=(cells_at hw').1 0;go_simp) ?_
 have hne:w1.heap.size≠W.heap.size+1+1:=by omega
 refine stepC 3 hF (by kernel_rfl) rfl (fun K hK=>step_wp rfl (wp_store_row 55 (.tmp 8) (.tmp 25) rfl (W.heap.size+1+1) #[U i6 0,U i6 0,Sl none 0 0,U i6 0,U i6 0,U i6 0,U i6 0,U i6 0,U i6 0,U i6 0,U i6 0,U i6 0,U i6 0,Sl none 0 0,U i6 0] rfl rfl 55 #[U i6 0,U i6 0,Sl none 0 0,U i6 0,U i6 0,U i6 0,U i6 0,U i6 0,U i6 0,U i6 0,U i6 0,U i6 0,U i6 0,Sl none 0 0,U i6 0] hZ (by kernel_rfl) rfl (by simp [Value.oneCell']) (hK _ _ ?_)))
 refine takeC 4 (v:=U i6 Re) rfl rfl (by kernel_rfl) (by kernel_rfl) (by kernel_rfl) (fun _ _ _ h=>h) (fun _=>rfl) rfl (fun w' hw'=>by go_simp) ?_
 refine doneC ((setRow_other _ _ _ _ hne).trans hF) (by kernel_rfl) ?_ _
 have hZ':=setRow_heap w2.drew (W.heap.size+1+1) #[U i6 0,U i6 0,Sl none 0 0,U i6 0,U i6 0,U i6 0,U i6 0,U i6 0,U i6 0,U i6 0,U i6 0,U i6 0,U i6 0,Sl none 0 0,U i6 0] #[U i6 0,U i6 0,Sl none 0 0,U i6 0,U i6 0,U i6 0,U i6 0,U i6 0,U i6 0,U i6 0,U i6 0,U i6 0,U i6 0,Sl none 0 0,U i6 0] 55 (0,0) hZ
 have hB':Hid (Below W.heap.size W (w2.drew.setRow (W.heap.size+1+1) #[U i6 0,U i6 0,Sl none 0 0,U i6 0,U i6 0,U i6 0,U i6 0,U i6 0,U i6 0,U i6 0,U i6 0,U i6 0,U i6 0,Sl none 0 0,U i6 0])):=below_setRow S1.out.drew.below (by omega) _
 obtain⟨w3,hw3⟩:∃ w3,w2.drew.setRow (W.heap.size+1+1) #[U i6 0,U i6 0,Sl none 0 0,U i6 0,U i6 0,U i6 0,U i6 0,U i6 0,U i6 0,U i6 0,U i6 0,U i6 0,U i6 0,Sl none 0 0,U i6 0]=w3:=⟨_,rfl⟩
 rw [hw3] at hZ' hB' ⊢
 clear hw3
 go_wp2
 exact bodyPost_ret (results_row_tmp Tryz.results17 _ _ (W.heap.size+1+1) 55 _ _ (U i6 Re) rfl hZ' Tryz.underlying55 rfl (by kernel_rfl) rfl) rfl ⟨rfl,hB'.out⟩
theorem bfind_b (h w c lo hi ot op ch:Int) (oa:Option Addr) (on oc:Nat) (O:Nat→Nat→Int) (W:World) (hM:MRow W oa on oc O) (slo shi:Int) (Ra Rw:Int) (RL:List (Int×Int×Int)) (hR:gtR O h w c lo hi ot on=(0,Ra,RL,Rw)) (ho:¬ (1≤op∧op≤(on:Int))) :
  Calls Tryz.prog 17 #[.agg #[U i6 h,U i6 w,U i6 c,U i6 lo,U i6 hi,Sl oa on oc,U i6 ot],U i6 op,U i6 ch,.agg #[U i6 slo,U i6 shi]] W fun e w'=>e=.returned (.tuple #[.agg #[U i6 0,U i6 0,Sl none 0 0,U i6 0,U i6 0,U i6 0,U i6 0,U i6 0,U i6 0,U i6 0,U i6 0,U i6 0,U i6 0,Sl none 0 0,U i6 0],U i6 3])∧Below W.heap.size W w':=by
 have hS:Hid (∀ W,MRow W oa on oc O→_):=fun W hW=>shapes_any h w c lo hi ot oa on oc O W hW
 rw [hR] at hS
 simp only at hS
 have hM2:Hid (MRow W oa on oc O):=hM
 have hocm:=hM.1
 have hocx:=hM.2.1
 unfold maxLen at hocx
 clear hR hM
 have s0:=(((St.start W).new (c:=#[U i6 h,U i6 w,U i6 c,U i6 lo,U i6 hi,Sl oa on oc,U i6 ot]) (t:=26)).new (c:=#[U i6 slo,U i6 shi]) (t:=28)).new (c:=#[U i6 0,U i6 0,Sl none 0 0,U i6 0,U i6 0,U i6 0,U i6 0,U i6 0,U i6 0,U i6 0,U i6 0,U i6 0,U i6 0,Sl none 0 0,U i6 0]) (t:=55)
 simp only [World.size_alloc] at s0
 by_cases ho1:op<1
 ·go_enter Tryz.func17,Tryz.ntmps17
  go_wp2_with fail
  refine Calls.mono (hS.out _ (hM2.out.below s0.below)) ?_
  rintro e w1 ⟨v,rfl,hSh,hb⟩
  have s1:=(s0.call hb).new (c:=#[U i6 0,U i6 Ra,U i6 0]) (t:=79)
  obtain⟨va,vc,rfl⟩:=hSh.slice
  obtain⟨c1,f1,z1,c2,f2,z2,c3,f3,z3,-⟩:=(s0.call hb).rules
  have ho2:op<1∨(on:Int)<op:=by omega
  clear hb hSh ho
  go_wp2_with (refine wpList_store_row rfl 55 (.tmp 8) (.tmp 37) rfl (W.heap.size+1+1) #[U i6 0,U i6 0,Sl none 0 0,U i6 0,U i6 0,U i6 0,U i6 0,U i6 0,U i6 0,U i6 0,U i6 0,U i6 0,U i6 0,Sl none 0 0,U i6 0] rfl rfl 55 #[U i6 0,U i6 0,Sl none 0 0,U i6 0,U i6 0,U i6 0,U i6 0,U i6 0,U i6 0,U i6 0,U i6 0,U i6 0,U i6 0,Sl none 0 0,U i6 0] s1.h2 (by kernel_rfl) rfl (by simp [Value.oneCell']) ?_;have hZ':=setRow_heap _ (W.heap.size+1+1) #[U i6 0,U i6 0,Sl none 0 0,U i6 0,U i6 0,U i6 0,U i6 0,U i6 0,U i6 0,U i6 0,U i6 0,U i6 0,U i6 0,Sl none 0 0,U i6 0] #[U i6 0,U i6 0,Sl none 0 0,U i6 0,U i6 0,U i6 0,U i6 0,U i6 0,U i6 0,U i6 0,U i6 0,U i6 0,U i6 0,Sl none 0 0,U i6 0] 55 (0,0) s1.h2;have hB':Hid (Below W.heap.size W (_:World)):=below_setRow s1.below (show W.heap.size≤W.heap.size+1+1 by omega) #[U i6 0,U i6 0,Sl none 0 0,U i6 0,U i6 0,U i6 0,U i6 0,U i6 0,U i6 0,U i6 0,U i6 0,U i6 0,U i6 0,Sl none 0 0,U i6 0];clear c1 f1 c2 f2 c3 f3;generalize World.setRow _ _ _=w3 at hZ' hB' ⊢)
  exact bodyPost_ret (results_row_tmp Tryz.results17 _ _ (W.heap.size+1+1) 55 _ _ (U i6 3) rfl hZ' Tryz.underlying55 rfl (by kernel_rfl) rfl) rfl ⟨rfl,hB'.out⟩
 ·go_enter Tryz.func17,Tryz.ntmps17
  go_wp2_with fail
  refine Calls.mono (hS.out _ (hM2.out.below s0.below)) ?_
  rintro e w1 ⟨v,rfl,hSh,hb⟩
  have s1:=(s0.call hb).new (c:=#[U i6 0,U i6 Ra,U i6 0]) (t:=79)
  obtain⟨va,vc,rfl⟩:=hSh.slice
  obtain⟨c1,f1,z1,c2,f2,z2,c3,f3,z3,-⟩:=(s0.call hb).rules
  have ho2:op<1∨(on:Int)<op:=by omega
  clear hb hSh ho
  go_wp2_with (refine wpList_store_row rfl 55 (.tmp 8) (.tmp 37) rfl (W.heap.size+1+1) #[U i6 0,U i6 0,Sl none 0 0,U i6 0,U i6 0,U i6 0,U i6 0,U i6 0,U i6 0,U i6 0,U i6 0,U i6 0,U i6 0,Sl none 0 0,U i6 0] rfl rfl 55 #[U i6 0,U i6 0,Sl none 0 0,U i6 0,U i6 0,U i6 0,U i6 0,U i6 0,U i6 0,U i6 0,U i6 0,U i6 0,U i6 0,Sl none 0 0,U i6 0] s1.h2 (by kernel_rfl) rfl (by simp [Value.oneCell']) ?_;have hZ':=setRow_heap _ (W.heap.size+1+1) #[U i6 0,U i6 0,Sl none 0 0,U i6 0,U i6 0,U i6 0,U i6 0,U i6 0,U i6 0,U i6 0,U i6 0,U i6 0,U i6 0,Sl none 0 0,U i6 0] #[U i6 0,U i6 0,Sl none 0 0,U i6 0,U i6 0,U i6 0,U i6 0,U i6 0,U i6 0,U i6 0,U i6 0,U i6 0,U i6 0,Sl none 0 0,U i6 0] 55 (0,0) s1.h2;have hB':Hid (Below W.heap.size W (_:World)):=below_setRow s1.below (show W.heap.size≤W.heap.size+1+1 by omega) #[U i6 0,U i6 0,Sl none 0 0,U i6 0,U i6 0,U i6 0,U i6 0,U i6 0,U i6 0,U i6 0,U i6 0,U i6 0,U i6 0,Sl none 0 0,U i6 0];clear c1 f1 c2 f2 c3 f3;generalize World.setRow _ _ _=w3 at hZ' hB' ⊢)
  exact bodyPost_ret (results_row_tmp Tryz.results17 _ _ (W.heap.size+1+1) 55 _ _ (U i6 3) rfl hZ' Tryz.underlying55 rfl (by kernel_rfl) rfl) rfl ⟨rfl,hB'.out⟩
end Go.Proofs.YtccoanknofhmaaaGreat
