/- What Valid, Out, corner and place of package window, and the document's answers to them, return: each for every argument. What Out, corner and place of package window, and the document's Out and Has, return: each for every argument. -/
import Derived.Test.YtccoanknofhmaaaGreatGq01
import Derived.WalkSmall
namespace Go.Proofs.YtccoanknofhmaaaGreat
open Go.Value renaming int → U, slice → Sl
open Go.IntKind renaming i64 → i6
set_option maxRecDepth 100000
set_option maxHeartbeats 16000000
open Go.ChangeShapes Go.WideShapes Go.ChangeAt Go.RowKit
theorem td {n c:Int} (hn:0≤n):n.tdiv c=n / c:=Int.tdiv_eq_ediv_of_nonneg hn
theorem tm {n c:Int} (hn:0≤n):n.tmod c=n % c:=Int.tmod_eq_emod_of_nonneg hn
theorem btw_any (n lo hi:Int) (W:World) :
  Calls Tryz.prog 112 #[U i6 n,U i6 lo,U i6 hi] W fun e w'=>e=.returned (.bool (btw n lo hi))∧w'=W:=by
 by_cases k1:lo≤n
 ·have HR:Hid (decide (n≤hi)=btw n lo hi):=by unfold Hid btw;simp [k1]
  go_enter Tryz.func112,Tryz.ntmps112
  go_wp2
  go_ret
  exact⟨retB HR.out,rfl⟩
 ·have HR:Hid (false=btw n lo hi):=by unfold Hid btw;simp [k1]
  go_enter Tryz.func112,Tryz.ntmps112
  go_wp2
  go_ret
  exact⟨retB HR.out,rfl⟩
theorem rin_any (n lo hi:Int) (W:World) :
  Calls Tryz.prog 107 #[U i6 n,U i6 lo,U i6 hi] W fun e w'=>e=.returned (.bool (btw n lo hi))∧w'=W:=by
 by_cases k1:lo≤n
 ·have HR:Hid (decide (n≤hi)=btw n lo hi):=by unfold Hid btw;simp [k1]
  go_enter Tryz.func107,Tryz.ntmps107
  go_wp2
  go_ret
  exact⟨retB HR.out,rfl⟩
 ·have HR:Hid (false=btw n lo hi):=by unfold Hid btw;simp [k1]
  go_enter Tryz.func107,Tryz.ntmps107
  go_wp2
  go_ret
  exact⟨retB HR.out,rfl⟩
theorem wvalid_any (kh kw sh sw tp lf bt rt:Int) (W:World) :
  Calls Tryz.prog 109 #[.agg #[U i6 kh,U i6 kw,U i6 sh,U i6 sw,U i6 tp,U i6 lf,U i6 bt,U i6 rt]] W fun e w'=>e=.returned (.bool (vW kh kw sh sw tp lf bt rt))∧Below W.heap.size W w':=by
 have S:=(St.start W).new (c:=#[U i6 kh,U i6 kw,U i6 sh,U i6 sw,U i6 tp,U i6 lf,U i6 bt,U i6 rt]) (t:=36)
 cases k1:btw kh 1 32 with
 | false =>
  have HR:Hid (false=vW kh kw sh sw tp lf bt rt):=by unfold Hid vW;simp [*]
  go_enter Tryz.func109,Tryz.ntmps109
  iterate 1 (go_wp2_with fail;refine (btw_any _ _ _ _).mono ?_;rintro e w1 ⟨rfl,rfl⟩)
  go_wp2
  go_ret
  exact⟨retB HR.out,S.below⟩
 | true =>
 have y1:=btw_yes k1
 cases k2:btw kw 1 32 with
 | false =>
  have HR:Hid (false=vW kh kw sh sw tp lf bt rt):=by unfold Hid vW;simp [*]
  go_enter Tryz.func109,Tryz.ntmps109
  iterate 2 (go_wp2_with fail;refine (btw_any _ _ _ _).mono ?_;rintro e w1 ⟨rfl,rfl⟩)
  go_wp2
  go_ret
  exact⟨retB HR.out,S.below⟩
 | true =>
 have y2:=btw_yes k2
 cases k3:btw sh 1 32 with
 | false =>
  have HR:Hid (false=vW kh kw sh sw tp lf bt rt):=by unfold Hid vW;simp [*]
  go_enter Tryz.func109,Tryz.ntmps109
  iterate 3 (go_wp2_with fail;refine (btw_any _ _ _ _).mono ?_;rintro e w1 ⟨rfl,rfl⟩)
  go_wp2
  go_ret
  exact⟨retB HR.out,S.below⟩
 | true =>
 have y3:=btw_yes k3
 cases k4:btw sw 1 32 with
 | false =>
  have HR:Hid (false=vW kh kw sh sw tp lf bt rt):=by unfold Hid vW;simp [*]
  go_enter Tryz.func109,Tryz.ntmps109
  iterate 4 (go_wp2_with fail;refine (btw_any _ _ _ _).mono ?_;rintro e w1 ⟨rfl,rfl⟩)
  go_wp2
  go_ret
  exact⟨retB HR.out,S.below⟩
 | true =>
 have y4:=btw_yes k4
 cases k5:btw tp 0 (kh-1) with
 | false =>
  have HR:Hid (false=vW kh kw sh sw tp lf bt rt):=by unfold Hid vW;simp [*]
  go_enter Tryz.func109,Tryz.ntmps109
  iterate 5 (go_wp2_with fail;refine (btw_any _ _ _ _).mono ?_;rintro e w1 ⟨rfl,rfl⟩)
  go_wp2
  go_ret
  exact⟨retB HR.out,S.below⟩
 | true =>
 have y5:=btw_yes k5
 cases k6:btw bt 0 (kh-1) with
 | false =>
  have HR:Hid (false=vW kh kw sh sw tp lf bt rt):=by unfold Hid vW;simp [*]
  go_enter Tryz.func109,Tryz.ntmps109
  iterate 6 (go_wp2_with fail;refine (btw_any _ _ _ _).mono ?_;rintro e w1 ⟨rfl,rfl⟩)
  go_wp2
  go_ret
  exact⟨retB HR.out,S.below⟩
 | true =>
 have y6:=btw_yes k6
 cases k7:btw lf 0 (kw-1) with
 | false =>
  have HR:Hid (false=vW kh kw sh sw tp lf bt rt):=by unfold Hid vW;simp [*]
  go_enter Tryz.func109,Tryz.ntmps109
  iterate 7 (go_wp2_with fail;refine (btw_any _ _ _ _).mono ?_;rintro e w1 ⟨rfl,rfl⟩)
  go_wp2
  go_ret
  exact⟨retB HR.out,S.below⟩
 | true =>
 have y7:=btw_yes k7
 have HR:Hid (btw rt 0 (kw-1)=vW kh kw sh sw tp lf bt rt):=by unfold Hid vW;simp [*]
 go_enter Tryz.func109,Tryz.ntmps109
 iterate 8 (go_wp2_with fail;refine (btw_any _ _ _ _).mono ?_;rintro e w1 ⟨rfl,rfl⟩)
 go_wp2
 go_ret
 exact⟨retB HR.out,S.below⟩
theorem wrvalid_any (kh kw sh sw tp lf bt rt:Int) (W:World) :
  Calls Tryz.prog 96 #[.agg #[U i6 kh,U i6 kw,U i6 sh,U i6 sw,U i6 tp,U i6 lf,U i6 bt,U i6 rt]] W fun e w'=>e=.returned (.bool (vW kh kw sh sw tp lf bt rt))∧Below W.heap.size W w':=by
 have S:=(St.start W).new (c:=#[U i6 kh,U i6 kw,U i6 sh,U i6 sw,U i6 tp,U i6 lf,U i6 bt,U i6 rt]) (t:=36)
 cases k1:btw kh 1 32 with
 | false =>
  have HR:Hid (false=vW kh kw sh sw tp lf bt rt):=by unfold Hid vW;simp [*]
  go_enter Tryz.func96,Tryz.ntmps96
  iterate 1 (go_wp2_with fail;refine (rin_any _ _ _ _).mono ?_;rintro e w1 ⟨rfl,rfl⟩)
  go_wp2
  go_ret
  exact⟨retB HR.out,S.below⟩
 | true =>
 have y1:=btw_yes k1
 cases k2:btw kw 1 32 with
 | false =>
  have HR:Hid (false=vW kh kw sh sw tp lf bt rt):=by unfold Hid vW;simp [*]
  go_enter Tryz.func96,Tryz.ntmps96
  iterate 2 (go_wp2_with fail;refine (rin_any _ _ _ _).mono ?_;rintro e w1 ⟨rfl,rfl⟩)
  go_wp2
  go_ret
  exact⟨retB HR.out,S.below⟩
 | true =>
 have y2:=btw_yes k2
 cases k3:btw sh 1 32 with
 | false =>
  have HR:Hid (false=vW kh kw sh sw tp lf bt rt):=by unfold Hid vW;simp [*]
  go_enter Tryz.func96,Tryz.ntmps96
  iterate 3 (go_wp2_with fail;refine (rin_any _ _ _ _).mono ?_;rintro e w1 ⟨rfl,rfl⟩)
  go_wp2
  go_ret
  exact⟨retB HR.out,S.below⟩
 | true =>
 have y3:=btw_yes k3
 cases k4:btw sw 1 32 with
 | false =>
  have HR:Hid (false=vW kh kw sh sw tp lf bt rt):=by unfold Hid vW;simp [*]
  go_enter Tryz.func96,Tryz.ntmps96
  iterate 4 (go_wp2_with fail;refine (rin_any _ _ _ _).mono ?_;rintro e w1 ⟨rfl,rfl⟩)
  go_wp2
  go_ret
  exact⟨retB HR.out,S.below⟩
 | true =>
 have y4:=btw_yes k4
 cases k5:btw tp 0 (kh-1) with
 | false =>
  have HR:Hid (false=vW kh kw sh sw tp lf bt rt):=by unfold Hid vW;simp [*]
  go_enter Tryz.func96,Tryz.ntmps96
  iterate 5 (go_wp2_with fail;refine (rin_any _ _ _ _).mono ?_;rintro e w1 ⟨rfl,rfl⟩)
  go_wp2
  go_ret
  exact⟨retB HR.out,S.below⟩
 | true =>
 have y5:=btw_yes k5
 cases k6:btw bt 0 (kh-1) with
 | false =>
  have HR:Hid (false=vW kh kw sh sw tp lf bt rt):=by unfold Hid vW;simp [*]
  go_enter Tryz.func96,Tryz.ntmps96
  iterate 6 (go_wp2_with fail;refine (rin_any _ _ _ _).mono ?_;rintro e w1 ⟨rfl,rfl⟩)
  go_wp2
  go_ret
  exact⟨retB HR.out,S.below⟩
 | true =>
 have y6:=btw_yes k6
 cases k7:btw lf 0 (kw-1) with
 | false =>
  have HR:Hid (false=vW kh kw sh sw tp lf bt rt):=by unfold Hid vW;simp [*]
  go_enter Tryz.func96,Tryz.ntmps96
  iterate 7 (go_wp2_with fail;refine (rin_any _ _ _ _).mono ?_;rintro e w1 ⟨rfl,rfl⟩)
  go_wp2
  go_ret
  exact⟨retB HR.out,S.below⟩
 | true =>
 have y7:=btw_yes k7
 have HR:Hid (btw rt 0 (kw-1)=vW kh kw sh sw tp lf bt rt):=by unfold Hid vW;simp [*]
 go_enter Tryz.func96,Tryz.ntmps96
 iterate 8 (go_wp2_with fail;refine (rin_any _ _ _ _).mono ?_;rintro e w1 ⟨rfl,rfl⟩)
 go_wp2
 go_ret
 exact⟨retB HR.out,S.below⟩
theorem stops_any (n k s:Int) (W:World) (hn:0≤n∧n≤4000) (hk:1≤k∧k≤32) (hs:1≤s∧s≤32) :
  Calls Tryz.prog 110 #[U i6 n,U i6 k,U i6 s] W fun e w'=>e=.returned (U i6 (sp n k s))∧w'=W:=by
 by_cases h:n<k
 ·rw [sp_no h]
  go_enter Tryz.func110,Tryz.ntmps110
  go_wp2
  go_ret
  exact⟨rfl,rfl⟩
 ·rw [sp_ok h]
  have t1:=td (c:=s) (show 0≤n-k by omega)
  have h1:=Int.ediv_nonneg (show 0≤n-k by omega) (show 0≤s by omega)
  have h2:=Int.ediv_le_self s (show 0≤n-k by omega)
  obtain⟨d,hd⟩:∃ d,(n-k) / s=d:=⟨_,rfl⟩
  rw [hd] at t1 h1 h2 
  rw [hd]
  clear hd
  go_enter Tryz.func110,Tryz.ntmps110
  go_wp2
  go_ret
  exact⟨rfl,rfl⟩
theorem count_any (n k s:Int) (W:World) (hn:0≤n∧n≤4000) (hk:1≤k∧k≤32) (hs:1≤s∧s≤32) :
  Calls Tryz.prog 97 #[U i6 n,U i6 k,U i6 s] W fun e w'=>e=.returned (U i6 (sp n k s))∧w'=W:=by
 go_enter Tryz.func97,Tryz.ntmps97
 go_wp2
 go_loop [7,8] (fun p q=>∃ c t:Int,p=U i6 c∧q=U i6 t∧0≤c∧0≤t∧t=c*s∧(c=0∨t-s+k≤n)∧c≤t)
  (fun _ q=>(n+100-intOf q).toNat)
 case atStart=>exact⟨0,0,rfl,rfl,by omega,by omega,by omega,.inl rfl,by omega⟩
 case round =>
  obtain⟨c,t,rfl,rfl,c0,t0,ht,hl,hct⟩:=hrel
  have Ht:Hid (t=c*s):=ht
  have bt:t≤4040:=by
   rcases hl with rfl | hl
   ·omega
   ·omega
  have HL:Hid (c=0∨t-s+k≤n):=hl
  clear ht hl
  by_cases hc:t+k≤n
  ·go_wp2
   go_round
   case rel=>exact⟨c+1,t+s,rfl,rfl,by omega,by omega,by rw [Int.add_mul,← Ht.out];omega,.inr (by omega),by omega⟩
   case measure=>simp [intOf];omega
  ·have HR:Hid (c=sp n k s):=sp_of (by omega) c0 Ht.out (by omega) HL.out
   go_wp2
   go_ret
   exact⟨ret1 HR.out,rfl⟩
theorem out_any (h w c kh kw sh sw tp lf bt rt:Int) (W:World) :
  Calls Tryz.prog 102 #[.agg #[U i6 h,U i6 w,U i6 c],.agg #[U i6 kh,U i6 kw,U i6 sh,U i6 sw,U i6 tp,U i6 lf,U i6 bt,U i6 rt]] W fun e w'=>e=.returned (.tuple #[U i6 (ouR h w c kh kw sh sw tp lf bt rt).1,U i6 (ouR h w c kh kw sh sw tp lf bt rt).2.1,U i6 (ouR h w c kh kw sh sw tp lf bt rt).2.2])∧Below W.heap.size W w':=by
 cases g:vS h w c with
 | false =>
  have HE:Hid (elR h w c=(0,50)):=elR_no g
  rw [ouR_shape g]
  clear g
  go_enter Tryz.func102,Tryz.ntmps102
  go_wp2_with fail
  refine (selems_any _ _ _ _).mono ?_
  rintro e w1 ⟨rfl,hb'⟩
  have s1:=(St.start W).new.new.call hb'
  clear hb'
  try simp only [World.size_setCell] at s1
  try simp only [World.size_alloc] at s1
  obtain⟨c1,f1,zw1_1,c2,f2,zw1_2,-⟩:=s1.rules
  rw [HE.out]
  go_wp2
  go_ret3
  exact⟨rfl,s1.below⟩
 | true =>
  have HE:Hid (elR h w c=(h*w*c,0)):=elR_ok g
  obtain⟨q,hq⟩:∃ q,h*w*c=q:=⟨_,rfl⟩
  rw [hq] at HE
  clear hq
  cases k:vW kh kw sh sw tp lf bt rt with
  | false =>
   rw [ouR_win g k]
   clear g
   go_enter Tryz.func102,Tryz.ntmps102
   go_wp2_with fail
   refine (selems_any _ _ _ _).mono ?_
   rintro e w1 ⟨rfl,hb'⟩
   have s1:=(St.start W).new.new.call hb'
   clear hb'
   try simp only [World.size_setCell] at s1
   try simp only [World.size_alloc] at s1
   obtain⟨c1,f1,zw1_1,c2,f2,zw1_2,-⟩:=s1.rules
   rw [HE.out]
   go_wp2_with fail
   refine (wvalid_any _ _ _ _ _ _ _ _ _).mono ?_
   rintro e w2 ⟨rfl,hb'⟩
   have s2:=s1.call hb'
   clear hb' c1 f1 c2 f2
   try simp only [World.size_setCell] at s2
   try simp only [World.size_alloc] at s2
   obtain⟨c1,f1,zw2_1,c2,f2,zw2_2,-⟩:=s2.rules
   go_wp2
   go_ret3
   exact⟨rfl,s2.below⟩
  | true =>
   obtain⟨h1,v1,c1,-⟩:=vS_yes g
   obtain⟨k1,k2,k3,k4,k5,k6,k7,k8⟩:=vW_yes k
   by_cases z:sp (tp+h+bt) kh sh=0∨sp (lf+w+rt) kw sw=0
   ·rw [ouR_out g k z]
    clear g
    obtain⟨r,hr⟩:∃ r,sp (tp+h+bt) kh sh=r:=⟨_,rfl⟩
    obtain⟨t,ht⟩:∃ t,sp (lf+w+rt) kw sw=t:=⟨_,rfl⟩
    have HR:Hid (sp (tp+h+bt) kh sh=r):=hr
    have HT:Hid (sp (lf+w+rt) kw sw=t):=ht
    rw [hr,ht] at z
    clear hr ht
    by_cases z1:r=0
    ·go_enter Tryz.func102,Tryz.ntmps102
     go_wp2_with fail
     refine (selems_any _ _ _ _).mono ?_
     rintro e w1 ⟨rfl,hb'⟩
     have s1:=(St.start W).new.new.call hb'
     clear hb'
     try simp only [World.size_setCell] at s1
     try simp only [World.size_alloc] at s1
     obtain⟨c1,f1,zw1_1,c2,f2,zw1_2,-⟩:=s1.rules
     rw [HE.out]
     go_wp2_with fail
     refine (wvalid_any _ _ _ _ _ _ _ _ _).mono ?_
     rintro e w2 ⟨rfl,hb'⟩
     have s2:=s1.call hb'
     clear hb' c1 f1 c2 f2
     try simp only [World.size_setCell] at s2
     try simp only [World.size_alloc] at s2
     obtain⟨c1,f1,zw2_1,c2,f2,zw2_2,-⟩:=s2.rules
     go_wp2_with fail
     refine (stops_any _ _ _ _ (by omega) (by omega) (by omega)).mono ?_
     rintro e w' ⟨rfl,rfl⟩
     rw [HR.out]
     go_wp2_with fail
     refine (stops_any _ _ _ _ (by omega) (by omega) (by omega)).mono ?_
     rintro e w' ⟨rfl,rfl⟩
     rw [HT.out]
     go_wp2
     go_ret3
     exact⟨rfl,s2.below⟩
    ·have z2:t=0:=by omega
     have z3:(r == 0)=false:=by simp;omega
     clear z z1
     go_enter Tryz.func102,Tryz.ntmps102
     go_wp2_with fail
     refine (selems_any _ _ _ _).mono ?_
     rintro e w1 ⟨rfl,hb'⟩
     have s1:=(St.start W).new.new.call hb'
     clear hb'
     try simp only [World.size_setCell] at s1
     try simp only [World.size_alloc] at s1
     obtain⟨c1,f1,zw1_1,c2,f2,zw1_2,-⟩:=s1.rules
     rw [HE.out]
     go_wp2_with fail
     refine (wvalid_any _ _ _ _ _ _ _ _ _).mono ?_
     rintro e w2 ⟨rfl,hb'⟩
     have s2:=s1.call hb'
     clear hb' c1 f1 c2 f2
     try simp only [World.size_setCell] at s2
     try simp only [World.size_alloc] at s2
     obtain⟨c1,f1,zw2_1,c2,f2,zw2_2,-⟩:=s2.rules
     go_wp2_with fail
     refine (stops_any _ _ _ _ (by omega) (by omega) (by omega)).mono ?_
     rintro e w' ⟨rfl,rfl⟩
     rw [HR.out]
     go_wp2_with fail
     refine (stops_any _ _ _ _ (by omega) (by omega) (by omega)).mono ?_
     rintro e w' ⟨rfl,rfl⟩
     rw [HT.out]
     go_wp2
     go_ret3
     exact⟨rfl,s2.below⟩
   ·rw [ouR_in g k z]
    clear g
    obtain⟨r,hr⟩:∃ r,sp (tp+h+bt) kh sh=r:=⟨_,rfl⟩
    obtain⟨t,ht⟩:∃ t,sp (lf+w+rt) kw sw=t:=⟨_,rfl⟩
    have HR:Hid (sp (tp+h+bt) kh sh=r):=hr
    have HT:Hid (sp (lf+w+rt) kw sw=t):=ht
    rw [hr,ht] at z
    rw [hr,ht]
    clear hr ht
    have z1:(r == 0)=false:=by simp;omega
    have z2:(t == 0)=false:=by simp;omega
    clear z
    go_enter Tryz.func102,Tryz.ntmps102
    go_wp2_with fail
    refine (selems_any _ _ _ _).mono ?_
    rintro e w1 ⟨rfl,hb'⟩
    have s1:=(St.start W).new.new.call hb'
    clear hb'
    try simp only [World.size_setCell] at s1
    try simp only [World.size_alloc] at s1
    obtain⟨c1,f1,zw1_1,c2,f2,zw1_2,-⟩:=s1.rules
    rw [HE.out]
    go_wp2_with fail
    refine (wvalid_any _ _ _ _ _ _ _ _ _).mono ?_
    rintro e w2 ⟨rfl,hb'⟩
    have s2:=s1.call hb'
    clear hb' c1 f1 c2 f2
    try simp only [World.size_setCell] at s2
    try simp only [World.size_alloc] at s2
    obtain⟨c1,f1,zw2_1,c2,f2,zw2_2,-⟩:=s2.rules
    go_wp2_with fail
    refine (stops_any _ _ _ _ (by omega) (by omega) (by omega)).mono ?_
    rintro e w' ⟨rfl,rfl⟩
    rw [HR.out]
    go_wp2_with fail
    refine (stops_any _ _ _ _ (by omega) (by omega) (by omega)).mono ?_
    rintro e w' ⟨rfl,rfl⟩
    rw [HT.out]
    go_wp2
    go_ret3
    exact⟨rfl,s2.below⟩
theorem rout_any (h w c kh kw sh sw tp lf bt rt:Int) (W:World) :
  Calls Tryz.prog 79 #[.agg #[U i6 h,U i6 w,U i6 c],.agg #[U i6 kh,U i6 kw,U i6 sh,U i6 sw,U i6 tp,U i6 lf,U i6 bt,U i6 rt]] W fun e w'=>e=.returned (.tuple #[U i6 (ouR h w c kh kw sh sw tp lf bt rt).1,U i6 (ouR h w c kh kw sh sw tp lf bt rt).2.1,U i6 (ouR h w c kh kw sh sw tp lf bt rt).2.2])∧Below W.heap.size W w':=by
 cases g:vS h w c with
 | false =>
  rw [ouR_shape g]
  go_enter Tryz.func79,Tryz.ntmps79
  go_wp2_with fail
  refine (rvalid_any _ _ _ _).mono ?_
  rintro e w1 ⟨rfl,hb'⟩
  have s1:=(St.start W).new.new.call hb'
  clear hb'
  try simp only [World.size_setCell] at s1
  try simp only [World.size_alloc] at s1
  obtain⟨c1,f1,zw1_1,c2,f2,zw1_2,-⟩:=s1.rules
  go_wp2
  go_ret3
  exact⟨rfl,s1.below⟩
 | true =>
  cases k:vW kh kw sh sw tp lf bt rt with
  | false =>
   rw [ouR_win g k]
   go_enter Tryz.func79,Tryz.ntmps79
   go_wp2_with fail
   refine (rvalid_any _ _ _ _).mono ?_
   rintro e w1 ⟨rfl,hb'⟩
   have s1:=(St.start W).new.new.call hb'
   clear hb'
   try simp only [World.size_setCell] at s1
   try simp only [World.size_alloc] at s1
   obtain⟨c1,f1,zw1_1,c2,f2,zw1_2,-⟩:=s1.rules
   go_wp2_with fail
   refine (wrvalid_any _ _ _ _ _ _ _ _ _).mono ?_
   rintro e w2 ⟨rfl,hb'⟩
   have s2:=s1.call hb'
   clear hb' c1 f1 c2 f2
   try simp only [World.size_setCell] at s2
   try simp only [World.size_alloc] at s2
   obtain⟨c1,f1,zw2_1,c2,f2,zw2_2,-⟩:=s2.rules
   go_wp2
   go_ret3
   exact⟨rfl,s2.below⟩
  | true =>
   obtain⟨h1,v1,c1,-⟩:=vS_yes g
   obtain⟨k1,k2,k3,k4,k5,k6,k7,k8⟩:=vW_yes k
   by_cases z:sp (tp+h+bt) kh sh=0∨sp (lf+w+rt) kw sw=0
   ·rw [ouR_out g k z]
    obtain⟨r,hr⟩:∃ r,sp (tp+h+bt) kh sh=r:=⟨_,rfl⟩
    obtain⟨t,ht⟩:∃ t,sp (lf+w+rt) kw sw=t:=⟨_,rfl⟩
    have HR:Hid (sp (h+tp+bt) kh sh=r):=by unfold Hid;rw [Int.add_comm h tp];exact hr
    have HT:Hid (sp (w+lf+rt) kw sw=t):=by unfold Hid;rw [Int.add_comm w lf];exact ht
    rw [hr,ht] at z
    clear hr ht
    by_cases z1:r=0
    ·go_enter Tryz.func79,Tryz.ntmps79
     go_wp2_with fail
     refine (rvalid_any _ _ _ _).mono ?_
     rintro e w1 ⟨rfl,hb'⟩
     have s1:=(St.start W).new.new.call hb'
     clear hb'
     try simp only [World.size_setCell] at s1
     try simp only [World.size_alloc] at s1
     obtain⟨c1,f1,zw1_1,c2,f2,zw1_2,-⟩:=s1.rules
     go_wp2_with fail
     refine (wrvalid_any _ _ _ _ _ _ _ _ _).mono ?_
     rintro e w2 ⟨rfl,hb'⟩
     have s2:=s1.call hb'
     clear hb' c1 f1 c2 f2
     try simp only [World.size_setCell] at s2
     try simp only [World.size_alloc] at s2
     obtain⟨c1,f1,zw2_1,c2,f2,zw2_2,-⟩:=s2.rules
     go_wp2_with fail
     refine (count_any _ _ _ _ (by omega) (by omega) (by omega)).mono ?_
     rintro e w' ⟨rfl,rfl⟩
     rw [HR.out]
     go_wp2_with fail
     refine (count_any _ _ _ _ (by omega) (by omega) (by omega)).mono ?_
     rintro e w' ⟨rfl,rfl⟩
     rw [HT.out]
     go_wp2
     go_ret3
     exact⟨rfl,s2.below⟩
    ·have z2:t=0:=by omega
     have z3:(r == 0)=false:=by simp;omega
     clear z z1
     go_enter Tryz.func79,Tryz.ntmps79
     go_wp2_with fail
     refine (rvalid_any _ _ _ _).mono ?_
     rintro e w1 ⟨rfl,hb'⟩
     have s1:=(St.start W).new.new.call hb'
     clear hb'
     try simp only [World.size_setCell] at s1
     try simp only [World.size_alloc] at s1
     obtain⟨c1,f1,zw1_1,c2,f2,zw1_2,-⟩:=s1.rules
     go_wp2_with fail
     refine (wrvalid_any _ _ _ _ _ _ _ _ _).mono ?_
     rintro e w2 ⟨rfl,hb'⟩
     have s2:=s1.call hb'
     clear hb' c1 f1 c2 f2
     try simp only [World.size_setCell] at s2
     try simp only [World.size_alloc] at s2
     obtain⟨c1,f1,zw2_1,c2,f2,zw2_2,-⟩:=s2.rules
     go_wp2_with fail
     refine (count_any _ _ _ _ (by omega) (by omega) (by omega)).mono ?_
     rintro e w' ⟨rfl,rfl⟩
     rw [HR.out]
     go_wp2_with fail
     refine (count_any _ _ _ _ (by omega) (by omega) (by omega)).mono ?_
     rintro e w' ⟨rfl,rfl⟩
     rw [HT.out]
     go_wp2
     go_ret3
     exact⟨rfl,s2.below⟩
   ·rw [ouR_in g k z]
    obtain⟨r,hr⟩:∃ r,sp (tp+h+bt) kh sh=r:=⟨_,rfl⟩
    obtain⟨t,ht⟩:∃ t,sp (lf+w+rt) kw sw=t:=⟨_,rfl⟩
    have HR:Hid (sp (h+tp+bt) kh sh=r):=by unfold Hid;rw [Int.add_comm h tp];exact hr
    have HT:Hid (sp (w+lf+rt) kw sw=t):=by unfold Hid;rw [Int.add_comm w lf];exact ht
    rw [hr,ht] at z
    rw [hr,ht]
    clear hr ht
    have z1:(r == 0)=false:=by simp;omega
    have z2:(t == 0)=false:=by simp;omega
    clear z
    go_enter Tryz.func79,Tryz.ntmps79
    go_wp2_with fail
    refine (rvalid_any _ _ _ _).mono ?_
    rintro e w1 ⟨rfl,hb'⟩
    have s1:=(St.start W).new.new.call hb'
    clear hb'
    try simp only [World.size_setCell] at s1
    try simp only [World.size_alloc] at s1
    obtain⟨c1,f1,zw1_1,c2,f2,zw1_2,-⟩:=s1.rules
    go_wp2_with fail
    refine (wrvalid_any _ _ _ _ _ _ _ _ _).mono ?_
    rintro e w2 ⟨rfl,hb'⟩
    have s2:=s1.call hb'
    clear hb' c1 f1 c2 f2
    try simp only [World.size_setCell] at s2
    try simp only [World.size_alloc] at s2
    obtain⟨c1,f1,zw2_1,c2,f2,zw2_2,-⟩:=s2.rules
    go_wp2_with fail
    refine (count_any _ _ _ _ (by omega) (by omega) (by omega)).mono ?_
    rintro e w' ⟨rfl,rfl⟩
    rw [HR.out]
    go_wp2_with fail
    refine (count_any _ _ _ _ (by omega) (by omega) (by omega)).mono ?_
    rintro e w' ⟨rfl,rfl⟩
    rw [HT.out]
    go_wp2
    go_ret3
    exact⟨rfl,s2.below⟩
theorem place_any (h w c y x:Int) (W:World) (hy:-2000≤y∧y≤4000) (hx:-2000≤x∧x≤4000) (hh:1≤h∧h≤1024) (hw:1≤w∧w≤1024) :
  Calls Tryz.prog 88 #[.agg #[U i6 h,U i6 w,U i6 c],U i6 y,U i6 x] W fun e w'=>e=.returned (U i6 (plc h w y x))∧Below W.heap.size W w':=by
 have S:=(St.start W).new (c:=#[U i6 h,U i6 w,U i6 c]) (t:=23)
 by_cases k1:y<0
 ·rw [plc_out (by omega)]
  go_enter Tryz.func88,Tryz.ntmps88
  go_wp2
  go_ret
  exact⟨rfl,S.below⟩
 by_cases k2:h≤y
 ·rw [plc_out (by omega)]
  go_enter Tryz.func88,Tryz.ntmps88
  go_wp2
  go_ret
  exact⟨rfl,S.below⟩
 by_cases k3:x<0
 ·rw [plc_out (by omega)]
  go_enter Tryz.func88,Tryz.ntmps88
  go_wp2
  go_ret
  exact⟨rfl,S.below⟩
 by_cases k4:w≤x
 ·rw [plc_out (by omega)]
  go_enter Tryz.func88,Tryz.ntmps88
  go_wp2
  go_ret
  exact⟨rfl,S.below⟩
 rw [plc_in (by omega)]
 obtain⟨p1,p2⟩:=rowbd (by omega:y<h) (by omega:0≤y) (by omega:0≤x) (by omega:x<w)
 obtain⟨-,t2⟩:=mul_bd hh.1 hh.2 hw.1 hw.2
 obtain⟨t,ht⟩:∃ t,h*w=t:=⟨_,rfl⟩
 rw [ht] at p2 t2
 clear ht
 obtain⟨p,hp⟩:∃ p,y*w=p:=⟨_,rfl⟩
 rw [hp] at p1 p2
 rw [hp]
 go_enter Tryz.func88,Tryz.ntmps88
 go_wp2
 go_ret
 exact⟨rfl,S.below⟩
end Go.Proofs.YtccoanknofhmaaaGreat
