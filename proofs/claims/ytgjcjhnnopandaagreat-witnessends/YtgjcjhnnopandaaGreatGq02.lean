/- What Out, corner and place of package window, and the document's Out and Has, return: each for every argument. The small functions of package model, and the document's: kinds, what they use, values. -/
import Derived.Test.YtgjcjhnnopandaaGreatGq01
namespace Go.Proofs.YtgjcjhnnopandaaGreat
open Go.Value renaming int → U, slice → Sl
open Go.IntKind renaming i64 → i6
set_option maxRecDepth 100000
set_option maxHeartbeats 16000000
open Go.ChangeShapes Go.WideShapes Go.ChangeAt Go.RowKit
theorem out_any (h w c kh kw sh sw tp lf bt rt:Int) (W:World) :
  Calls Tryz.prog 125 #[.agg #[U i6 h,U i6 w,U i6 c],.agg #[U i6 kh,U i6 kw,U i6 sh,U i6 sw,U i6 tp,U i6 lf,U i6 bt,U i6 rt]] W fun e w'=>e=.returned (.tuple #[U i6 (ouR h w c kh kw sh sw tp lf bt rt).1,U i6 (ouR h w c kh kw sh sw tp lf bt rt).2.1,U i6 (ouR h w c kh kw sh sw tp lf bt rt).2.2])∧Below W.heap.size W w':=by
 cases g:vS h w c with
 | false =>
  have HE:Hid (elR h w c=(0,50)):=elR_no g
  rw [ouR_shape g]
  clear g
  go_enter Tryz.func125,Tryz.ntmps125
  go_wp2_with fail
  refine (selems_any _ _ _ _).mono ?_
  rintro e w1 ⟨rfl,hb'⟩
  have s1:=(St.start W).new.new.call hb'
  clear hb'
  try simp only [World.size_setCell] at s1
  try simp only [World.size_alloc] at s1
  obtain⟨c1,f1,zw1_1,c2,f2,zw1_2,-⟩:=s1.rules
  rw [HE.out]
  go_wp2
  go_ret3
  exact⟨rfl,s1.below⟩
 | true =>
  have HE:Hid (elR h w c=(h*w*c,0)):=elR_ok g
  obtain⟨q,hq⟩:∃ q,h*w*c=q:=⟨_,rfl⟩
  rw [hq] at HE
  clear hq
  cases k:vW kh kw sh sw tp lf bt rt with
  | false =>
   rw [ouR_win g k]
   clear g
   go_enter Tryz.func125,Tryz.ntmps125
   go_wp2_with fail
   refine (selems_any _ _ _ _).mono ?_
   rintro e w1 ⟨rfl,hb'⟩
   have s1:=(St.start W).new.new.call hb'
   clear hb'
   try simp only [World.size_setCell] at s1
   try simp only [World.size_alloc] at s1
   obtain⟨c1,f1,zw1_1,c2,f2,zw1_2,-⟩:=s1.rules
   rw [HE.out]
   go_wp2_with fail
   refine (wvalid_any _ _ _ _ _ _ _ _ _).mono ?_
   rintro e w2 ⟨rfl,hb'⟩
   have s2:=s1.call hb'
   clear hb' c1 f1 c2 f2
   try simp only [World.size_setCell] at s2
   try simp only [World.size_alloc] at s2
   obtain⟨c1,f1,zw2_1,c2,f2,zw2_2,-⟩:=s2.rules
   go_wp2
   go_ret3
   exact⟨rfl,s2.below⟩
  | true =>
   obtain⟨h1,v1,c1,-⟩:=vS_yes g
   obtain⟨k1,k2,k3,k4,k5,k6,k7,k8⟩:=vW_yes k
   by_cases z:sp (tp+h+bt) kh sh=0∨sp (lf+w+rt) kw sw=0
   ·rw [ouR_out g k z]
    clear g
    obtain⟨r,hr⟩:∃ r,sp (tp+h+bt) kh sh=r:=⟨_,rfl⟩
    obtain⟨t,ht⟩:∃ t,sp (lf+w+rt) kw sw=t:=⟨_,rfl⟩
    have HR:Hid (sp (tp+h+bt) kh sh=r):=hr
    have HT:Hid (sp (lf+w+rt) kw sw=t):=ht
    rw [hr,ht] at z
    clear hr ht
    by_cases z1:r=0
    ·go_enter Tryz.func125,Tryz.ntmps125
     go_wp2_with fail
     refine (selems_any _ _ _ _).mono ?_
     rintro e w1 ⟨rfl,hb'⟩
     have s1:=(St.start W).new.new.call hb'
     clear hb'
     try simp only [World.size_setCell] at s1
     try simp only [World.size_alloc] at s1
     obtain⟨c1,f1,zw1_1,c2,f2,zw1_2,-⟩:=s1.rules
     rw [HE.out]
     go_wp2_with fail
     refine (wvalid_any _ _ _ _ _ _ _ _ _).mono ?_
     rintro e w2 ⟨rfl,hb'⟩
     have s2:=s1.call hb'
     clear hb' c1 f1 c2 f2
     try simp only [World.size_setCell] at s2
     try simp only [World.size_alloc] at s2
     obtain⟨c1,f1,zw2_1,c2,f2,zw2_2,-⟩:=s2.rules
     go_wp2_with fail
     refine (stops_any _ _ _ _ (by omega) (by omega) (by omega)).mono ?_
     rintro e w' ⟨rfl,rfl⟩
     rw [HR.out]
     go_wp2_with fail
     refine (stops_any _ _ _ _ (by omega) (by omega) (by omega)).mono ?_
     rintro e w' ⟨rfl,rfl⟩
     rw [HT.out]
     go_wp2
     go_ret3
     exact⟨rfl,s2.below⟩
    ·have z2:t=0:=by omega
     have z3:(r == 0)=false:=by simp;omega
     clear z z1
     go_enter Tryz.func125,Tryz.ntmps125
     go_wp2_with fail
     refine (selems_any _ _ _ _).mono ?_
     rintro e w1 ⟨rfl,hb'⟩
     have s1:=(St.start W).new.new.call hb'
     clear hb'
     try simp only [World.size_setCell] at s1
     try simp only [World.size_alloc] at s1
     obtain⟨c1,f1,zw1_1,c2,f2,zw1_2,-⟩:=s1.rules
     rw [HE.out]
     go_wp2_with fail
     refine (wvalid_any _ _ _ _ _ _ _ _ _).mono ?_
     rintro e w2 ⟨rfl,hb'⟩
     have s2:=s1.call hb'
     clear hb' c1 f1 c2 f2
     try simp only [World.size_setCell] at s2
     try simp only [World.size_alloc] at s2
     obtain⟨c1,f1,zw2_1,c2,f2,zw2_2,-⟩:=s2.rules
     go_wp2_with fail
     refine (stops_any _ _ _ _ (by omega) (by omega) (by omega)).mono ?_
     rintro e w' ⟨rfl,rfl⟩
     rw [HR.out]
     go_wp2_with fail
     refine (stops_any _ _ _ _ (by omega) (by omega) (by omega)).mono ?_
     rintro e w' ⟨rfl,rfl⟩
     rw [HT.out]
     go_wp2
     go_ret3
     exact⟨rfl,s2.below⟩
   ·rw [ouR_in g k z]
    clear g
    obtain⟨r,hr⟩:∃ r,sp (tp+h+bt) kh sh=r:=⟨_,rfl⟩
    obtain⟨t,ht⟩:∃ t,sp (lf+w+rt) kw sw=t:=⟨_,rfl⟩
    have HR:Hid (sp (tp+h+bt) kh sh=r):=hr
    have HT:Hid (sp (lf+w+rt) kw sw=t):=ht
    rw [hr,ht] at z
    rw [hr,ht]
    clear hr ht
    have z1:(r == 0)=false:=by simp;omega
    have z2:(t == 0)=false:=by simp;omega
    clear z
    go_enter Tryz.func125,Tryz.ntmps125
    go_wp2_with fail
    refine (selems_any _ _ _ _).mono ?_
    rintro e w1 ⟨rfl,hb'⟩
    have s1:=(St.start W).new.new.call hb'
    clear hb'
    try simp only [World.size_setCell] at s1
    try simp only [World.size_alloc] at s1
    obtain⟨c1,f1,zw1_1,c2,f2,zw1_2,-⟩:=s1.rules
    rw [HE.out]
    go_wp2_with fail
    refine (wvalid_any _ _ _ _ _ _ _ _ _).mono ?_
    rintro e w2 ⟨rfl,hb'⟩
    have s2:=s1.call hb'
    clear hb' c1 f1 c2 f2
    try simp only [World.size_setCell] at s2
    try simp only [World.size_alloc] at s2
    obtain⟨c1,f1,zw2_1,c2,f2,zw2_2,-⟩:=s2.rules
    go_wp2_with fail
    refine (stops_any _ _ _ _ (by omega) (by omega) (by omega)).mono ?_
    rintro e w' ⟨rfl,rfl⟩
    rw [HR.out]
    go_wp2_with fail
    refine (stops_any _ _ _ _ (by omega) (by omega) (by omega)).mono ?_
    rintro e w' ⟨rfl,rfl⟩
    rw [HT.out]
    go_wp2
    go_ret3
    exact⟨rfl,s2.below⟩
theorem rout_any (h w c kh kw sh sw tp lf bt rt:Int) (W:World) :
  Calls Tryz.prog 70 #[.agg #[U i6 h,U i6 w,U i6 c],.agg #[U i6 kh,U i6 kw,U i6 sh,U i6 sw,U i6 tp,U i6 lf,U i6 bt,U i6 rt]] W fun e w'=>e=.returned (.tuple #[U i6 (ouR h w c kh kw sh sw tp lf bt rt).1,U i6 (ouR h w c kh kw sh sw tp lf bt rt).2.1,U i6 (ouR h w c kh kw sh sw tp lf bt rt).2.2])∧Below W.heap.size W w':=by
 cases g:vS h w c with
 | false =>
  rw [ouR_shape g]
  go_enter Tryz.func70,Tryz.ntmps70
  go_wp2_with fail
  refine (rvalid_any _ _ _ _).mono ?_
  rintro e w1 ⟨rfl,hb'⟩
  have s1:=(St.start W).new.new.call hb'
  clear hb'
  try simp only [World.size_setCell] at s1
  try simp only [World.size_alloc] at s1
  obtain⟨c1,f1,zw1_1,c2,f2,zw1_2,-⟩:=s1.rules
  go_wp2
  go_ret3
  exact⟨rfl,s1.below⟩
 | true =>
  cases k:vW kh kw sh sw tp lf bt rt with
  | false =>
   rw [ouR_win g k]
   go_enter Tryz.func70,Tryz.ntmps70
   go_wp2_with fail
   refine (rvalid_any _ _ _ _).mono ?_
   rintro e w1 ⟨rfl,hb'⟩
   have s1:=(St.start W).new.new.call hb'
   clear hb'
   try simp only [World.size_setCell] at s1
   try simp only [World.size_alloc] at s1
   obtain⟨c1,f1,zw1_1,c2,f2,zw1_2,-⟩:=s1.rules
   go_wp2_with fail
   refine (wrvalid_any _ _ _ _ _ _ _ _ _).mono ?_
   rintro e w2 ⟨rfl,hb'⟩
   have s2:=s1.call hb'
   clear hb' c1 f1 c2 f2
   try simp only [World.size_setCell] at s2
   try simp only [World.size_alloc] at s2
   obtain⟨c1,f1,zw2_1,c2,f2,zw2_2,-⟩:=s2.rules
   go_wp2
   go_ret3
   exact⟨rfl,s2.below⟩
  | true =>
   obtain⟨h1,v1,c1,-⟩:=vS_yes g
   obtain⟨k1,k2,k3,k4,k5,k6,k7,k8⟩:=vW_yes k
   by_cases z:sp (tp+h+bt) kh sh=0∨sp (lf+w+rt) kw sw=0
   ·rw [ouR_out g k z]
    obtain⟨r,hr⟩:∃ r,sp (tp+h+bt) kh sh=r:=⟨_,rfl⟩
    obtain⟨t,ht⟩:∃ t,sp (lf+w+rt) kw sw=t:=⟨_,rfl⟩
    have HR:Hid (sp (h+tp+bt) kh sh=r):=by unfold Hid;rw [Int.add_comm h tp];exact hr
    have HT:Hid (sp (w+lf+rt) kw sw=t):=by unfold Hid;rw [Int.add_comm w lf];exact ht
    rw [hr,ht] at z
    clear hr ht
    by_cases z1:r=0
    ·go_enter Tryz.func70,Tryz.ntmps70
     go_wp2_with fail
     refine (rvalid_any _ _ _ _).mono ?_
     rintro e w1 ⟨rfl,hb'⟩
     have s1:=(St.start W).new.new.call hb'
     clear hb'
     try simp only [World.size_setCell] at s1
     try simp only [World.size_alloc] at s1
     obtain⟨c1,f1,zw1_1,c2,f2,zw1_2,-⟩:=s1.rules
     go_wp2_with fail
     refine (wrvalid_any _ _ _ _ _ _ _ _ _).mono ?_
     rintro e w2 ⟨rfl,hb'⟩
     have s2:=s1.call hb'
     clear hb' c1 f1 c2 f2
     try simp only [World.size_setCell] at s2
     try simp only [World.size_alloc] at s2
     obtain⟨c1,f1,zw2_1,c2,f2,zw2_2,-⟩:=s2.rules
     go_wp2_with fail
     refine (count_any _ _ _ _ (by omega) (by omega) (by omega)).mono ?_
     rintro e w' ⟨rfl,rfl⟩
     rw [HR.out]
     go_wp2_with fail
     refine (count_any _ _ _ _ (by omega) (by omega) (by omega)).mono ?_
     rintro e w' ⟨rfl,rfl⟩
     rw [HT.out]
     go_wp2
     go_ret3
     exact⟨rfl,s2.below⟩
    ·have z2:t=0:=by omega
     have z3:(r == 0)=false:=by simp;omega
     clear z z1
     go_enter Tryz.func70,Tryz.ntmps70
     go_wp2_with fail
     refine (rvalid_any _ _ _ _).mono ?_
     rintro e w1 ⟨rfl,hb'⟩
     have s1:=(St.start W).new.new.call hb'
     clear hb'
     try simp only [World.size_setCell] at s1
     try simp only [World.size_alloc] at s1
     obtain⟨c1,f1,zw1_1,c2,f2,zw1_2,-⟩:=s1.rules
     go_wp2_with fail
     refine (wrvalid_any _ _ _ _ _ _ _ _ _).mono ?_
     rintro e w2 ⟨rfl,hb'⟩
     have s2:=s1.call hb'
     clear hb' c1 f1 c2 f2
     try simp only [World.size_setCell] at s2
     try simp only [World.size_alloc] at s2
     obtain⟨c1,f1,zw2_1,c2,f2,zw2_2,-⟩:=s2.rules
     go_wp2_with fail
     refine (count_any _ _ _ _ (by omega) (by omega) (by omega)).mono ?_
     rintro e w' ⟨rfl,rfl⟩
     rw [HR.out]
     go_wp2_with fail
     refine (count_any _ _ _ _ (by omega) (by omega) (by omega)).mono ?_
     rintro e w' ⟨rfl,rfl⟩
     rw [HT.out]
     go_wp2
     go_ret3
     exact⟨rfl,s2.below⟩
   ·rw [ouR_in g k z]
    obtain⟨r,hr⟩:∃ r,sp (tp+h+bt) kh sh=r:=⟨_,rfl⟩
    obtain⟨t,ht⟩:∃ t,sp (lf+w+rt) kw sw=t:=⟨_,rfl⟩
    have HR:Hid (sp (h+tp+bt) kh sh=r):=by unfold Hid;rw [Int.add_comm h tp];exact hr
    have HT:Hid (sp (w+lf+rt) kw sw=t):=by unfold Hid;rw [Int.add_comm w lf];exact ht
    rw [hr,ht] at z
    rw [hr,ht]
    clear hr ht
    have z1:(r == 0)=false:=by simp;omega
    have z2:(t == 0)=false:=by simp;omega
    clear z
    go_enter Tryz.func70,Tryz.ntmps70
    go_wp2_with fail
    refine (rvalid_any _ _ _ _).mono ?_
    rintro e w1 ⟨rfl,hb'⟩
    have s1:=(St.start W).new.new.call hb'
    clear hb'
    try simp only [World.size_setCell] at s1
    try simp only [World.size_alloc] at s1
    obtain⟨c1,f1,zw1_1,c2,f2,zw1_2,-⟩:=s1.rules
    go_wp2_with fail
    refine (wrvalid_any _ _ _ _ _ _ _ _ _).mono ?_
    rintro e w2 ⟨rfl,hb'⟩
    have s2:=s1.call hb'
    clear hb' c1 f1 c2 f2
    try simp only [World.size_setCell] at s2
    try simp only [World.size_alloc] at s2
    obtain⟨c1,f1,zw2_1,c2,f2,zw2_2,-⟩:=s2.rules
    go_wp2_with fail
    refine (count_any _ _ _ _ (by omega) (by omega) (by omega)).mono ?_
    rintro e w' ⟨rfl,rfl⟩
    rw [HR.out]
    go_wp2_with fail
    refine (count_any _ _ _ _ (by omega) (by omega) (by omega)).mono ?_
    rintro e w' ⟨rfl,rfl⟩
    rw [HT.out]
    go_wp2
    go_ret3
    exact⟨rfl,s2.below⟩
theorem place_any (h w c y x:Int) (W:World) (hy:-2000≤y∧y≤4000) (hx:-2000≤x∧x≤4000) (hh:1≤h∧h≤1024) (hw:1≤w∧w≤1024) :
  Calls Tryz.prog 117 #[.agg #[U i6 h,U i6 w,U i6 c],U i6 y,U i6 x] W fun e w'=>e=.returned (U i6 (plc h w y x))∧Below W.heap.size W w':=by
 have S:=(St.start W).new (c:=#[U i6 h,U i6 w,U i6 c]) (t:=23)
 by_cases k1:y<0
 ·rw [plc_out (by omega)]
  go_enter Tryz.func117,Tryz.ntmps117
  go_wp2
  go_ret
  exact⟨rfl,S.below⟩
 by_cases k2:h≤y
 ·rw [plc_out (by omega)]
  go_enter Tryz.func117,Tryz.ntmps117
  go_wp2
  go_ret
  exact⟨rfl,S.below⟩
 by_cases k3:x<0
 ·rw [plc_out (by omega)]
  go_enter Tryz.func117,Tryz.ntmps117
  go_wp2
  go_ret
  exact⟨rfl,S.below⟩
 by_cases k4:w≤x
 ·rw [plc_out (by omega)]
  go_enter Tryz.func117,Tryz.ntmps117
  go_wp2
  go_ret
  exact⟨rfl,S.below⟩
 rw [plc_in (by omega)]
 obtain⟨p1,p2⟩:=rowbd (by omega:y<h) (by omega:0≤y) (by omega:0≤x) (by omega:x<w)
 obtain⟨-,t2⟩:=mul_bd hh.1 hh.2 hw.1 hw.2
 obtain⟨t,ht⟩:∃ t,h*w=t:=⟨_,rfl⟩
 rw [ht] at p2 t2
 clear ht
 obtain⟨p,hp⟩:∃ p,y*w=p:=⟨_,rfl⟩
 rw [hp] at p1 p2
 rw [hp]
 go_enter Tryz.func117,Tryz.ntmps117
 go_wp2
 go_ret
 exact⟨rfl,S.below⟩
def rdB (k:Int):Bool:=decide (1≤k∧k≤4)
def slB (k:Int):Bool:=decide (2≤k∧k≤5)
def weB (k:Int):Bool:=decide (1≤k∧k≤3)
def scK (k:Int):Bool:=decide ((1≤k∧k≤3)∨k=6∨k=7)
def vlB (n:Int):Bool:=decide (-128≤n∧n≤127)
def rgB (lo hi:Int):Bool:=vlB lo && vlB hi && decide (lo≤hi)
theorem eight {k:Int} (h:1≤k∧k≤8):k=1∨k=2∨k=3∨k=4∨k=5∨k=6∨k=7∨k=8:=by omega
theorem uses_1 (w:World) :
  Calls Tryz.prog 124 #[U i6 1] w fun e w'=>e=.returned (.agg #[.bool false,.bool true,.bool false,.bool false,.bool true,.bool true,.bool false,.bool true,.bool false])∧Below w.heap.size w w':=by
 go_enter Tryz.func124,Tryz.ntmps124
 go_wp2
 exact bodyPost_ret (v:=.agg #[.bool false,.bool true,.bool false,.bool false,.bool true,.bool true,.bool false,.bool true,.bool false]) (by simp [results,Tryz.results124,go_sem]) rfl ⟨rfl,(St.start w).new.below⟩
theorem uses_2 (w:World) :
  Calls Tryz.prog 124 #[U i6 2] w fun e w'=>e=.returned (.agg #[.bool false,.bool true,.bool true,.bool true,.bool true,.bool true,.bool false,.bool true,.bool true])∧Below w.heap.size w w':=by
 go_enter Tryz.func124,Tryz.ntmps124
 go_wp2
 exact bodyPost_ret (v:=.agg #[.bool false,.bool true,.bool true,.bool true,.bool true,.bool true,.bool false,.bool true,.bool true]) (by simp [results,Tryz.results124,go_sem]) rfl ⟨rfl,(St.start w).new.below⟩
theorem uses_3 (w:World) :
  Calls Tryz.prog 124 #[U i6 3] w fun e w'=>e=.returned (.agg #[.bool false,.bool false,.bool true,.bool true,.bool true,.bool true,.bool false,.bool true,.bool true])∧Below w.heap.size w w':=by
 go_enter Tryz.func124,Tryz.ntmps124
 go_wp2
 exact bodyPost_ret (v:=.agg #[.bool false,.bool false,.bool true,.bool true,.bool true,.bool true,.bool false,.bool true,.bool true]) (by simp [results,Tryz.results124,go_sem]) rfl ⟨rfl,(St.start w).new.below⟩
theorem uses_4 (w:World) :
  Calls Tryz.prog 124 #[U i6 4] w fun e w'=>e=.returned (.agg #[.bool false,.bool false,.bool true,.bool false,.bool false,.bool false,.bool false,.bool false,.bool false])∧Below w.heap.size w w':=by
 go_enter Tryz.func124,Tryz.ntmps124
 go_wp2
 exact bodyPost_ret (v:=.agg #[.bool false,.bool false,.bool true,.bool false,.bool false,.bool false,.bool false,.bool false,.bool false]) (by simp [results,Tryz.results124,go_sem]) rfl ⟨rfl,(St.start w).new.below⟩
theorem uses_5 (w:World) :
  Calls Tryz.prog 124 #[U i6 5] w fun e w'=>e=.returned (.agg #[.bool false,.bool false,.bool true,.bool false,.bool false,.bool false,.bool false,.bool false,.bool false])∧Below w.heap.size w w':=by
 go_enter Tryz.func124,Tryz.ntmps124
 go_wp2
 exact bodyPost_ret (v:=.agg #[.bool false,.bool false,.bool true,.bool false,.bool false,.bool false,.bool false,.bool false,.bool false]) (by simp [results,Tryz.results124,go_sem]) rfl ⟨rfl,(St.start w).new.below⟩
theorem uses_6 (w:World) :
  Calls Tryz.prog 124 #[U i6 6] w fun e w'=>e=.returned (.agg #[.bool true,.bool false,.bool false,.bool false,.bool false,.bool true,.bool true,.bool true,.bool false])∧Below w.heap.size w w':=by
 go_enter Tryz.func124,Tryz.ntmps124
 go_wp2
 exact bodyPost_ret (v:=.agg #[.bool true,.bool false,.bool false,.bool false,.bool false,.bool true,.bool true,.bool true,.bool false]) (by simp [results,Tryz.results124,go_sem]) rfl ⟨rfl,(St.start w).new.below⟩
theorem uses_7 (w:World) :
  Calls Tryz.prog 124 #[U i6 7] w fun e w'=>e=.returned (.agg #[.bool false,.bool false,.bool false,.bool false,.bool false,.bool true,.bool false,.bool true,.bool false])∧Below w.heap.size w w':=by
 go_enter Tryz.func124,Tryz.ntmps124
 go_wp2
 exact bodyPost_ret (v:=.agg #[.bool false,.bool false,.bool false,.bool false,.bool false,.bool true,.bool false,.bool true,.bool false]) (by simp [results,Tryz.results124,go_sem]) rfl ⟨rfl,(St.start w).new.below⟩
theorem uses_8 (w:World) :
  Calls Tryz.prog 124 #[U i6 8] w fun e w'=>e=.returned (.agg #[.bool false,.bool false,.bool false,.bool false,.bool false,.bool false,.bool false,.bool false,.bool false])∧Below w.heap.size w w':=by
 go_enter Tryz.func124,Tryz.ntmps124
 go_wp2
 exact bodyPost_ret (v:=.agg #[.bool false,.bool false,.bool false,.bool false,.bool false,.bool false,.bool false,.bool false,.bool false]) (by simp [results,Tryz.results124,go_sem]) rfl ⟨rfl,(St.start w).new.below⟩
theorem red_any (k:Int) (w:World) :
  Calls Tryz.prog 83 #[U i6 k] w fun e w'=>e=.returned (.bool (rdB k))∧w'=w:=by
 by_cases e1:k=1
 ·subst e1
  go_enter Tryz.func83,Tryz.ntmps83
  go_wp2
  go_ret
  exact⟨rfl,rfl⟩
 by_cases e2:k=2
 ·subst e2
  go_enter Tryz.func83,Tryz.ntmps83
  go_wp2
  go_ret
  exact⟨rfl,rfl⟩
 by_cases e3:k=3
 ·subst e3
  go_enter Tryz.func83,Tryz.ntmps83
  go_wp2
  go_ret
  exact⟨rfl,rfl⟩
 by_cases e4:k=4
 ·subst e4
  go_enter Tryz.func83,Tryz.ntmps83
  go_wp2
  go_ret
  exact⟨rfl,rfl⟩
 by_cases e5:k=5
 ·subst e5
  go_enter Tryz.func83,Tryz.ntmps83
  go_wp2
  go_ret
  exact⟨rfl,rfl⟩
 by_cases e6:k=6
 ·subst e6
  go_enter Tryz.func83,Tryz.ntmps83
  go_wp2
  go_ret
  exact⟨rfl,rfl⟩
 by_cases e7:k=7
 ·subst e7
  go_enter Tryz.func83,Tryz.ntmps83
  go_wp2
  go_ret
  exact⟨rfl,rfl⟩
 have HR:Hid (false=rdB k):=by unfold Hid rdB;symm;exact decide_eq_false (by omega)
 by_cases l1:1≤k
 ·have l2:8≤k:=by omega
  clear e1 e2 e3 e4 e5 e6 e7
  go_enter Tryz.func83,Tryz.ntmps83
  go_wp2
  go_ret
  exact⟨retB (by first | exact HR.out | (rw [← HR.out];simp;omega)),rfl⟩
 ·clear e1 e2 e3 e4 e5 e6 e7
  go_enter Tryz.func83,Tryz.ntmps83
  go_wp2
  go_ret
  exact⟨retB (by first | exact HR.out | (rw [← HR.out];simp;omega)),rfl⟩
theorem rred_any (k:Int) (w:World) :
  Calls Tryz.prog 65 #[U i6 k] w fun e w'=>e=.returned (.bool (rdB k))∧w'=w:=by
 by_cases e1:k=1
 ·subst e1
  go_enter Tryz.func65,Tryz.ntmps65
  go_wp2
  go_ret
  exact⟨rfl,rfl⟩
 by_cases e2:k=2
 ·subst e2
  go_enter Tryz.func65,Tryz.ntmps65
  go_wp2
  go_ret
  exact⟨rfl,rfl⟩
 by_cases e3:k=3
 ·subst e3
  go_enter Tryz.func65,Tryz.ntmps65
  go_wp2
  go_ret
  exact⟨rfl,rfl⟩
 by_cases e4:k=4
 ·subst e4
  go_enter Tryz.func65,Tryz.ntmps65
  go_wp2
  go_ret
  exact⟨rfl,rfl⟩
 by_cases e5:k=5
 ·subst e5
  go_enter Tryz.func65,Tryz.ntmps65
  go_wp2
  go_ret
  exact⟨rfl,rfl⟩
 by_cases e6:k=6
 ·subst e6
  go_enter Tryz.func65,Tryz.ntmps65
  go_wp2
  go_ret
  exact⟨rfl,rfl⟩
 by_cases e7:k=7
 ·subst e7
  go_enter Tryz.func65,Tryz.ntmps65
  go_wp2
  go_ret
  exact⟨rfl,rfl⟩
 have HR:Hid (false=rdB k):=by unfold Hid rdB;symm;exact decide_eq_false (by omega)
 by_cases l1:1≤k
 ·have l2:8≤k:=by omega
  clear e1 e2 e3 e4 e5 e6 e7
  go_enter Tryz.func65,Tryz.ntmps65
  go_wp2
  go_ret
  exact⟨retB (by first | exact HR.out | (rw [← HR.out];simp;omega)),rfl⟩
 ·clear e1 e2 e3 e4 e5 e6 e7
  go_enter Tryz.func65,Tryz.ntmps65
  go_wp2
  go_ret
  exact⟨retB (by first | exact HR.out | (rw [← HR.out];simp;omega)),rfl⟩
theorem slid_any (k:Int) (w:World) :
  Calls Tryz.prog 120 #[U i6 k] w fun e w'=>e=.returned (.bool (slB k))∧w'=w:=by
 by_cases e1:k=1
 ·subst e1
  go_enter Tryz.func120,Tryz.ntmps120
  go_wp2
  go_ret
  exact⟨rfl,rfl⟩
 by_cases e2:k=2
 ·subst e2
  go_enter Tryz.func120,Tryz.ntmps120
  go_wp2
  go_ret
  exact⟨rfl,rfl⟩
 by_cases e3:k=3
 ·subst e3
  go_enter Tryz.func120,Tryz.ntmps120
  go_wp2
  go_ret
  exact⟨rfl,rfl⟩
 by_cases e4:k=4
 ·subst e4
  go_enter Tryz.func120,Tryz.ntmps120
  go_wp2
  go_ret
  exact⟨rfl,rfl⟩
 by_cases e5:k=5
 ·subst e5
  go_enter Tryz.func120,Tryz.ntmps120
  go_wp2
  go_ret
  exact⟨rfl,rfl⟩
 by_cases e6:k=6
 ·subst e6
  go_enter Tryz.func120,Tryz.ntmps120
  go_wp2
  go_ret
  exact⟨rfl,rfl⟩
 by_cases e7:k=7
 ·subst e7
  go_enter Tryz.func120,Tryz.ntmps120
  go_wp2
  go_ret
  exact⟨rfl,rfl⟩
 have HR:Hid (false=slB k):=by unfold Hid slB;symm;exact decide_eq_false (by omega)
 by_cases l1:1≤k
 ·have l2:8≤k:=by omega
  clear e1 e2 e3 e4 e5 e6 e7
  go_enter Tryz.func120,Tryz.ntmps120
  go_wp2
  go_ret
  exact⟨retB (by first | exact HR.out | (rw [← HR.out];simp;omega)),rfl⟩
 ·clear e1 e2 e3 e4 e5 e6 e7
  go_enter Tryz.func120,Tryz.ntmps120
  go_wp2
  go_ret
  exact⟨retB (by first | exact HR.out | (rw [← HR.out];simp;omega)),rfl⟩
theorem weig_any (k:Int) (w:World) :
  Calls Tryz.prog 119 #[U i6 k] w fun e w'=>e=.returned (.bool (weB k))∧w'=w:=by
 by_cases e1:k=1
 ·subst e1
  go_enter Tryz.func119,Tryz.ntmps119
  go_wp2
  go_ret
  exact⟨rfl,rfl⟩
 by_cases e2:k=2
 ·subst e2
  go_enter Tryz.func119,Tryz.ntmps119
  go_wp2
  go_ret
  exact⟨rfl,rfl⟩
 by_cases e3:k=3
 ·subst e3
  go_enter Tryz.func119,Tryz.ntmps119
  go_wp2
  go_ret
  exact⟨rfl,rfl⟩
 by_cases e4:k=4
 ·subst e4
  go_enter Tryz.func119,Tryz.ntmps119
  go_wp2
  go_ret
  exact⟨rfl,rfl⟩
 by_cases e5:k=5
 ·subst e5
  go_enter Tryz.func119,Tryz.ntmps119
  go_wp2
  go_ret
  exact⟨rfl,rfl⟩
 by_cases e6:k=6
 ·subst e6
  go_enter Tryz.func119,Tryz.ntmps119
  go_wp2
  go_ret
  exact⟨rfl,rfl⟩
 by_cases e7:k=7
 ·subst e7
  go_enter Tryz.func119,Tryz.ntmps119
  go_wp2
  go_ret
  exact⟨rfl,rfl⟩
 have HR:Hid (false=weB k):=by unfold Hid weB;symm;exact decide_eq_false (by omega)
 by_cases l1:1≤k
 ·have l2:8≤k:=by omega
  clear e1 e2 e3 e4 e5 e6 e7
  go_enter Tryz.func119,Tryz.ntmps119
  go_wp2
  go_ret
  exact⟨retB (by first | exact HR.out | (rw [← HR.out];simp;omega)),rfl⟩
 ·clear e1 e2 e3 e4 e5 e6 e7
  go_enter Tryz.func119,Tryz.ntmps119
  go_wp2
  go_ret
  exact⟨retB (by first | exact HR.out | (rw [← HR.out];simp;omega)),rfl⟩
theorem scal_any (k:Int) (w:World) :
  Calls Tryz.prog 105 #[U i6 k] w fun e w'=>e=.returned (.bool (scK k))∧w'=w:=by
 by_cases e1:k=1
 ·subst e1
  go_enter Tryz.func105,Tryz.ntmps105
  go_wp2
  go_ret
  exact⟨rfl,rfl⟩
 by_cases e2:k=2
 ·subst e2
  go_enter Tryz.func105,Tryz.ntmps105
  go_wp2
  go_ret
  exact⟨rfl,rfl⟩
 by_cases e3:k=3
 ·subst e3
  go_enter Tryz.func105,Tryz.ntmps105
  go_wp2
  go_ret
  exact⟨rfl,rfl⟩
 by_cases e4:k=4
 ·subst e4
  go_enter Tryz.func105,Tryz.ntmps105
  go_wp2
  go_ret
  exact⟨rfl,rfl⟩
 by_cases e5:k=5
 ·subst e5
  go_enter Tryz.func105,Tryz.ntmps105
  go_wp2
  go_ret
  exact⟨rfl,rfl⟩
 by_cases e6:k=6
 ·subst e6
  go_enter Tryz.func105,Tryz.ntmps105
  go_wp2
  go_ret
  exact⟨rfl,rfl⟩
 by_cases e7:k=7
 ·subst e7
  go_enter Tryz.func105,Tryz.ntmps105
  go_wp2
  go_ret
  exact⟨rfl,rfl⟩
 have HR:Hid (false=scK k):=by unfold Hid scK;symm;exact decide_eq_false (by omega)
 by_cases l1:1≤k
 ·have l2:8≤k:=by omega
  clear e1 e2 e3 e4 e5 e6 e7
  go_enter Tryz.func105,Tryz.ntmps105
  go_wp2
  go_ret
  exact⟨retB (by first | exact HR.out | (rw [← HR.out];simp;omega)),rfl⟩
 ·clear e1 e2 e3 e4 e5 e6 e7
  go_enter Tryz.func105,Tryz.ntmps105
  go_wp2
  go_ret
  exact⟨retB (by first | exact HR.out | (rw [← HR.out];simp;omega)),rfl⟩
theorem isval_any (n:Int) (W:World) :
  Calls Tryz.prog 122 #[U i6 n] W fun e w'=>e=.returned (.bool (vlB n))∧w'=W:=by
 by_cases k1:-128≤n
 ·have HR:Hid (decide (n≤127)=vlB n):=by unfold Hid vlB;simp [k1]
  go_enter Tryz.func122,Tryz.ntmps122
  go_wp2
  go_ret
  exact⟨retB HR.out,rfl⟩
 ·have HR:Hid (false=vlB n):=by unfold Hid vlB;simp [k1]
  go_enter Tryz.func122,Tryz.ntmps122
  go_wp2
  go_ret
  exact⟨retB HR.out,rfl⟩
theorem rval_any (n:Int) (W:World) :
  Calls Tryz.prog 85 #[U i6 n] W fun e w'=>e=.returned (.bool (vlB n))∧w'=W:=by
 by_cases k1:-128≤n
 ·have HR:Hid (decide (n≤127)=vlB n):=by unfold Hid vlB;simp [k1]
  go_enter Tryz.func85,Tryz.ntmps85
  go_wp2
  go_ret
  exact⟨retB HR.out,rfl⟩
 ·have HR:Hid (false=vlB n):=by unfold Hid vlB;simp [k1]
  go_enter Tryz.func85,Tryz.ntmps85
  go_wp2
  go_ret
  exact⟨retB HR.out,rfl⟩
theorem isrange_any (lo hi:Int) (W:World) :
  Calls Tryz.prog 110 #[U i6 lo,U i6 hi] W fun e w'=>e=.returned (.bool (rgB lo hi))∧w'=W:=by
 cases k1:vlB lo with
 | false =>
  have HR:Hid (false=rgB lo hi):=by unfold Hid rgB;simp [k1]
  go_enter Tryz.func110,Tryz.ntmps110
  go_wp2_with fail
  refine (isval_any _ _).mono ?_
  rintro e w' ⟨rfl,rfl⟩
  go_wp2
  go_ret
  exact⟨retB HR.out,rfl⟩
 | true =>
  cases k2:vlB hi with
  | false =>
   have HR:Hid (false=rgB lo hi):=by unfold Hid rgB;simp [k2]
   go_enter Tryz.func110,Tryz.ntmps110
   go_wp2_with fail
   refine (isval_any _ _).mono ?_
   rintro e w' ⟨rfl,rfl⟩
   go_wp2_with fail
   refine (isval_any _ _).mono ?_
   rintro e w' ⟨rfl,rfl⟩
   go_wp2
   go_ret
   exact⟨retB HR.out,rfl⟩
  | true =>
   have HR:Hid (decide (lo≤hi)=rgB lo hi):=by unfold Hid rgB;simp [k1,k2]
   go_enter Tryz.func110,Tryz.ntmps110
   go_wp2_with fail
   refine (isval_any _ _).mono ?_
   rintro e w' ⟨rfl,rfl⟩
   go_wp2_with fail
   refine (isval_any _ _).mono ?_
   rintro e w' ⟨rfl,rfl⟩
   go_wp2
   go_ret
   exact⟨retB HR.out,rfl⟩
theorem nopad_any (kh kw sh sw tp lf bt rt:Int) (W:World) :
  Calls Tryz.prog 128 #[.agg #[U i6 kh,U i6 kw,U i6 sh,U i6 sw,U i6 tp,U i6 lf,U i6 bt,U i6 rt]] W fun e w'=>e=.returned (.agg #[U i6 kh,U i6 kw,U i6 sh,U i6 sw,U i6 0,U i6 0,U i6 0,U i6 0])∧Below W.heap.size W w':=by
 go_enter Tryz.func128,Tryz.ntmps128
 go_wp2
 exact bodyPost_ret (v:=.agg #[U i6 kh,U i6 kw,U i6 sh,U i6 sw,U i6 0,U i6 0,U i6 0,U i6 0]) (by simp [results,Tryz.results128,go_sem]) rfl ⟨rfl,(St.start W).new.new.below⟩
def shB (s:Int):Bool:=decide (0≤s∧s≤62)
def scB (m s:Int):Bool:=decide (1≤m∧m≤2147483647∧0≤s∧s≤62)
theorem reach_any (s:Int) (w:World) :
  Calls Tryz.prog 131 #[U i6 s] w fun e w'=>e=.returned (.bool (shB s))∧w'=w:=by
 by_cases k1:0≤s
 ·have HR:Hid (decide (s≤62)=shB s):=by unfold Hid shB;simp [k1]
  go_enter Tryz.func131,Tryz.ntmps131
  go_wp2
  go_ret
  exact⟨retB HR.out,rfl⟩
 ·have HR:Hid (false=shB s):=by unfold Hid shB;simp [k1]
  go_enter Tryz.func131,Tryz.ntmps131
  go_wp2
  go_ret
  exact⟨retB HR.out,rfl⟩
theorem valid_any (m s:Int) (w:World) :
  Calls Tryz.prog 126 #[.agg #[U i6 m,U i6 s]] w fun e w'=>e=.returned (.bool (scB m s))∧Below w.heap.size w w':=by
 by_cases c1:1≤m
 ·by_cases c2:m≤2147483647
  ·have HR:Hid (shB s=scB m s):=by unfold Hid shB scB;simp [c1,c2]
   go_enter Tryz.func126,Tryz.ntmps126
   go_wp2_with fail
   refine (reach_any _ _).mono ?_
   rintro e w' ⟨rfl,rfl⟩
   go_wp2
   go_ret
   exact⟨retB HR.out,(Below.refl _ _).alloc (Nat.le_refl _) _⟩
  ·have HR:Hid (false=scB m s):=by unfold Hid scB;simp [c2]
   go_enter Tryz.func126,Tryz.ntmps126
   go_wp2
   go_ret
   exact⟨retB HR.out,(Below.refl _ _).alloc (Nat.le_refl _) _⟩
 ·have HR:Hid (false=scB m s):=by unfold Hid scB;simp [c1]
  go_enter Tryz.func126,Tryz.ntmps126
  go_wp2
  go_ret
  exact⟨retB HR.out,(Below.refl _ _).alloc (Nat.le_refl _) _⟩
theorem refvalid_any (m s:Int) (w:World) :
  Calls Tryz.prog 106 #[U i6 m,U i6 s] w fun e w'=>e=.returned (.bool (scB m s))∧w'=w:=by
 by_cases c1:1≤m
 ·by_cases c2:m≤2147483647
  ·by_cases c3:0≤s
   ·have HR:Hid (decide (s≤62)=scB m s):=by unfold Hid scB;simp [c1,c2,c3]
    go_enter Tryz.func106,Tryz.ntmps106
    go_wp2
    go_ret
    exact⟨retB HR.out,rfl⟩
   ·have HR:Hid (false=scB m s):=by unfold Hid scB;simp [c3]
    go_enter Tryz.func106,Tryz.ntmps106
    go_wp2
    go_ret
    exact⟨retB HR.out,rfl⟩
  ·have HR:Hid (false=scB m s):=by unfold Hid scB;simp [c2]
   go_enter Tryz.func106,Tryz.ntmps106
   go_wp2
   go_ret
   exact⟨retB HR.out,rfl⟩
 ·have HR:Hid (false=scB m s):=by unfold Hid scB;simp [c1]
  go_enter Tryz.func106,Tryz.ntmps106
  go_wp2
  go_ret
  exact⟨retB HR.out,rfl⟩
end Go.Proofs.YtgjcjhnnopandaaGreat
