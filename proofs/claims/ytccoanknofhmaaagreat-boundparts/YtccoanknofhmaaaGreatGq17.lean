/- The document's spare of layer 8: are the fields that a kind doesn't use 0? -/
import Derived.Test.YtccoanknofhmaaaGreatGq04
namespace Go.Proofs.YtccoanknofhmaaaGreat
open Go.Value renaming int → U, slice → Sl
open Go.IntKind renaming i64 → i6
set_option maxRecDepth 100000
set_option maxHeartbeats 16000000
open Go.ChangeShapes Go.WideShapes Go.ChangeAt Go.RowKit
set_option linter.unusedVariables false
def sq1 (k b um us:Int):Bool:=decide (k≠6∧(b≠0∨¬ (um=0∧us=0)))
def sq2 (k m:Int) (lw lb:Nat) (sm ss z:Int):Bool:=decide ((2<k∧m≠0)∨(weB k=false∧0<lw+lb)∨(scK k=false∧(¬ (sm=0∧ss=0)∨z≠0)))
def sq3 (k kh kw sh sw tp lf bt rt p:Int):Bool:=decide ((slB k=false∧¬ (kh=0∧kw=0∧sh=0∧sw=0∧tp=0∧lf=0∧bt=0∧rt=0))∨(k≠2∧k≠3∧p≠0))
def sq4 (k tp lf bt rt:Int):Bool:=decide ((k≠4∧k≠5)∨(tp=0∧lf=0∧bt=0∧rt=0))
theorem ozB_sq {k b m kh kw sh sw tp lf bt rt:Int} {lw lb:Nat} {sm ss um us z p:Int} (hk:1≤k∧k≤8):ozB k b m kh kw sh sw tp lf bt rt lw lb sm ss um us z p=(!sq1 k b um us && !sq2 k m lw lb sm ss z && !sq3 k kh kw sh sw tp lf bt rt p && sq4 k tp lf bt rt):=by
 rcases eight hk with rfl | rfl | rfl | rfl | rfl | rfl | rfl | rfl
 all_goals
  rw [Bool.eq_iff_iff]
  simp [ozB,sq1,sq2,sq3,sq4,weB,scK,slB]
  try simp only [decide_eq_false_iff_not]
  try omega
theorem retB' {a b:Bool} (h:a=b):Ending.returned (.bool a)=.returned (.bool b):=by rw [h]
theorem dt {P:Prop} [Decidable P] {q:Bool} (h:decide P=q) (hp:P):q=true:=by rw [← h];exact decide_eq_true hp
theorem df {P:Prop} [Decidable P] {q:Bool} (h:decide P=q) (hp:¬ P):q=false:=by rw [← h];exact decide_eq_false hp
theorem kinds4 {k:Int} (hk:1≤k∧k≤8):(k≤2∧weB k=true∧scK k=true)∨(k=3)∨(2<k∧weB k=false∧scK k=false)∨(2<k∧weB k=false∧scK k=true):=by
 rcases eight hk with rfl | rfl | rfl | rfl | rfl | rfl | rfl | rfl<;>decide
theorem spare_any (k a b m kh kw sh sw tp lf bt rt:Int) (wa:Option Addr) (lw wc:Nat) (ba:Option Addr) (lb bc:Nat) (sm ss um us z p lo hi:Int) (W:World) (hk:1≤k∧k≤8) (hl:lw+lb≤1000000000000000) :
  Calls Tryz.prog 91 #[.agg #[U i6 k,U i6 a,U i6 b,U i6 m,U i6 kh,U i6 kw,U i6 sh,U i6 sw,U i6 tp,U i6 lf,U i6 bt,U i6 rt,Sl wa lw wc,Sl ba lb bc,U i6 sm,U i6 ss,U i6 um,U i6 us,U i6 z,U i6 p,U i6 lo,U i6 hi]] W fun e w'=>e=.returned (.bool (ozB k b m kh kw sh sw tp lf bt rt lw lb sm ss um us z p))∧Below W.heap.size W w':=by
 rw [ozB_sq hk]
 obtain⟨q1,h1⟩:∃ q,sq1 k b um us=q:=⟨_,rfl⟩
 obtain⟨q2,h2⟩:∃ q,sq2 k m lw lb sm ss z=q:=⟨_,rfl⟩
 obtain⟨q3,h3⟩:∃ q,sq3 k kh kw sh sw tp lf bt rt p=q:=⟨_,rfl⟩
 obtain⟨q4,h4⟩:∃ q,sq4 k tp lf bt rt=q:=⟨_,rfl⟩
 rw [h1,h2,h3,h4]
 unfold sq1 at h1
 unfold sq2 at h2
 unfold sq3 at h3
 unfold sq4 at h4
 have H1:Hid (_=q1):=h1
 have H2:Hid (_=q2):=h2
 have H3:Hid (_=q3):=h3
 have H4:Hid (_=q4):=h4
 clear h1 h2 h3 h4
 obtain⟨v1,hv1⟩:∃ v,decide (um=0∧us=0)=v:=⟨_,rfl⟩
 obtain⟨v2,hv2⟩:∃ v,decide (sm=0∧ss=0)=v:=⟨_,rfl⟩
 obtain⟨v3,hv3⟩:∃ v,decide (kh=0∧kw=0∧sh=0∧sw=0∧tp=0∧lf=0∧bt=0∧rt=0)=v:=⟨_,rfl⟩
 have n1:=ne2 40 rfl um us 0 0 v1 hv1
 have n2:=ne2 40 rfl sm ss 0 0 v2 hv2
 have n3:=ne8 36 rfl kh kw sh sw tp lf bt rt 0 0 0 0 0 0 0 0 v3 hv3
 have V1:Hid (_=v1):=hv1
 have V2:Hid (_=v2):=hv2
 have V3:Hid (_=v3):=hv3
 clear hv1 hv2 hv3
 have s1:=((St.start W).new (c:=#[U i6 k,U i6 a,U i6 b,U i6 m,U i6 kh,U i6 kw,U i6 sh,U i6 sw,U i6 tp,U i6 lf,U i6 bt,U i6 rt,Sl wa lw wc,Sl ba lb bc,U i6 sm,U i6 ss,U i6 um,U i6 us,U i6 z,U i6 p,U i6 lo,U i6 hi]) (t:=42)).new (c:=#[U i6 kh,U i6 kw,U i6 sh,U i6 sw,U i6 tp,U i6 lf,U i6 bt,U i6 rt]) (t:=36)
 simp only [World.size_alloc] at s1
 go_enter Tryz.func91,Tryz.ntmps91
 go_upto_region 2 with fail
 obtain⟨wv,hwv⟩:∃ wv,((W.alloc (.cells #[U i6 k,U i6 a,U i6 b,U i6 m,U i6 kh,U i6 kw,U i6 sh,U i6 sw,U i6 tp,U i6 lf,U i6 bt,U i6 rt,Sl wa lw wc,Sl ba lb bc,U i6 sm,U i6 ss,U i6 um,U i6 us,U i6 z,U i6 p,U i6 lo,U i6 hi] 42)).alloc (.cells #[U i6 kh,U i6 kw,U i6 sh,U i6 sw,U i6 tp,U i6 lf,U i6 bt,U i6 rt] 36))=wv:=⟨_,rfl⟩
 rw [hwv] at s1 ⊢
 have hbel:Hid (Below W.heap.size W wv):=s1.below
 obtain⟨c1,f1,z1,c2,f2,z2,-⟩:=s1.rules
 clear hwv s1
 go_cut [19] (fun x wx=>x=.bool q1∧wx=wv)
 case first =>
  by_cases k6:k=6
  ·subst k6
   obtain rfl:=df H1.out (by omega)
   go_wp2_with fail
   (go_meet;exact⟨by first | rfl | (simp [*];done) | simp [bne, *],rfl⟩)
  ·have k6':(k == 6)=false:=by simpa using k6
   by_cases b0:b=0
   ·subst b0
    obtain rfl:q1 = !v1:=by rw [← H1.out,← V1.out];simp [k6]
    go_wp2_with fail
    (go_meet;exact⟨by first | rfl | (simp [*];done) | simp [bne, *],rfl⟩)
   ·have b0':(b == 0)=false:=by simpa using b0
    obtain rfl:=dt H1.out (by omega)
    go_wp2_with fail
    (go_meet;exact⟨by first | rfl | (simp [*];done) | simp [bne, *],rfl⟩)
 case rest =>
 obtain⟨rfl,rfl⟩:=hcut
 cases q1 with
 | true =>
  go_wp2
  go_ret
  exact⟨retB' (by simp),hbel.out⟩
 | false =>
 go_upto_region 4 with fail
 go_cut [60] (fun x wx=>x=.bool q2∧wx=wc)
 case first =>
  rcases kinds4 hk with ⟨k2,we,sc⟩ | rfl | ⟨k2,we,sc⟩ | ⟨k2,we,sc⟩
  ·obtain rfl:=df H2.out (by rw [we,sc];simp;omega)
   have k2':¬ 2<k:=by omega
   go_wp2_with fail
   refine (weig_any _ _).mono ?_
   rintro e w' ⟨rfl,rfl⟩
   rw [we]
   go_wp2_with fail
   refine (scal_any _ _).mono ?_
   rintro e w' ⟨rfl,rfl⟩
   rw [sc]
   go_wp2_with fail
   (go_meet;exact⟨by first | rfl | (simp [*];done) | simp [bne, *],rfl⟩)
  ·by_cases m0:m=0
   ·subst m0
    obtain rfl:=df H2.out (by simp [weB,scK])
    go_wp2_with fail
    refine (weig_any _ _).mono ?_
    rintro e w' ⟨rfl,rfl⟩
    go_wp2_with fail
    refine (scal_any _ _).mono ?_
    rintro e w' ⟨rfl,rfl⟩
    go_wp2_with fail
    (go_meet;exact⟨by first | rfl | (simp [*];done) | simp [bne, *],rfl⟩)
   ·have m0':(m == 0)=false:=by simpa using m0
    obtain rfl:=dt H2.out (.inl ⟨by decide,m0⟩)
    go_wp2_with fail
    (go_meet;exact⟨by first | rfl | (simp [*];done) | simp [bne, *],rfl⟩)
  ·by_cases m0:m=0
   ·subst m0
    by_cases l0:0<(lw:Int)+(lb:Int)
    ·obtain rfl:=dt H2.out (.inr (.inl ⟨we,by omega⟩))
     go_wp2_with fail
     refine (weig_any _ _).mono ?_
     rintro e w' ⟨rfl,rfl⟩
     rw [we]
     go_wp2_with fail
     (go_meet;exact⟨by first | rfl | (simp [*];done) | simp [bne, *],rfl⟩)
    ·cases v2 with
     | false =>
      obtain rfl:=dt H2.out (.inr (.inr ⟨sc,.inl (of_decide_eq_false V2.out)⟩))
      go_wp2_with fail
      refine (weig_any _ _).mono ?_
      rintro e w' ⟨rfl,rfl⟩
      rw [we]
      go_wp2_with fail
      refine (scal_any _ _).mono ?_
      rintro e w' ⟨rfl,rfl⟩
      rw [sc]
      go_wp2_with fail
      (go_meet;exact⟨by first | rfl | (simp [*];done) | simp [bne, *],rfl⟩)
     | true =>
      by_cases z0:z=0
      ·subst z0
       obtain rfl:=df H2.out (by rw [we,sc];have:=of_decide_eq_true V2.out;simp;omega)
       go_wp2_with fail
       refine (weig_any _ _).mono ?_
       rintro e w' ⟨rfl,rfl⟩
       rw [we]
       go_wp2_with fail
       refine (scal_any _ _).mono ?_
       rintro e w' ⟨rfl,rfl⟩
       rw [sc]
       go_wp2_with fail
       (go_meet;exact⟨by first | rfl | (simp [*];done) | simp [bne, *],rfl⟩)
      ·have z0':(z == 0)=false:=by simpa using z0
       obtain rfl:=dt H2.out (.inr (.inr ⟨sc,.inr z0⟩))
       go_wp2_with fail
       refine (weig_any _ _).mono ?_
       rintro e w' ⟨rfl,rfl⟩
       rw [we]
       go_wp2_with fail
       refine (scal_any _ _).mono ?_
       rintro e w' ⟨rfl,rfl⟩
       rw [sc]
       go_wp2_with fail
       (go_meet;exact⟨by first | rfl | (simp [*];done) | simp [bne, *],rfl⟩)
   ·have m0':(m == 0)=false:=by simpa using m0
    obtain rfl:=dt H2.out (.inl ⟨k2,m0⟩)
    go_wp2_with fail
    (go_meet;exact⟨by first | rfl | (simp [*];done) | simp [bne, *],rfl⟩)
  ·by_cases m0:m=0
   ·subst m0
    by_cases l0:0<(lw:Int)+(lb:Int)
    ·obtain rfl:=dt H2.out (.inr (.inl ⟨we,by omega⟩))
     go_wp2_with fail
     refine (weig_any _ _).mono ?_
     rintro e w' ⟨rfl,rfl⟩
     rw [we]
     go_wp2_with fail
     (go_meet;exact⟨by first | rfl | (simp [*];done) | simp [bne, *],rfl⟩)
    ·obtain rfl:=df H2.out (by rw [we,sc];simp;omega)
     go_wp2_with fail
     refine (weig_any _ _).mono ?_
     rintro e w' ⟨rfl,rfl⟩
     rw [we]
     go_wp2_with fail
     refine (scal_any _ _).mono ?_
     rintro e w' ⟨rfl,rfl⟩
     rw [sc]
     go_wp2_with fail
     (go_meet;exact⟨by first | rfl | (simp [*];done) | simp [bne, *],rfl⟩)
   ·have m0':(m == 0)=false:=by simpa using m0
    obtain rfl:=dt H2.out (.inl ⟨k2,m0⟩)
    go_wp2_with fail
    (go_meet;exact⟨by first | rfl | (simp [*];done) | simp [bne, *],rfl⟩)
 case rest =>
 obtain⟨rfl,rfl⟩:=hcut
 cases q2 with
 | true =>
  go_wp2
  go_ret
  exact⟨retB' (by simp),hbel.out⟩
 | false =>
 go_upto_region 6 with fail
 go_cut [84] (fun x wx=>x=.bool q3∧wx=wc)
 case first =>
  cases sl:slB k with
  | false =>
   have k23:k≠2∧k≠3:=⟨fun e=>(by subst e;cases sl),fun e=>(by subst e;cases sl)⟩
   have k2':(k == 2)=false:=by simpa using k23.1
   have k3':(k == 3)=false:=by simpa using k23.2
   cases v3 with
   | false =>
    obtain rfl:=dt H3.out (.inl ⟨sl,of_decide_eq_false V3.out⟩)
    go_wp2_with fail
    refine (slid_any _ _).mono ?_
    rintro e w' ⟨rfl,rfl⟩
    rw [sl]
    go_wp2_with fail
    (go_meet;exact⟨by first | rfl | (simp [*];done) | simp [bne, *],rfl⟩)
   | true =>
    have e3:q3 = !(p == 0):=by
     have:=of_decide_eq_true V3.out
     by_cases p0:p=0
     ·rw [df H3.out (by rintro (⟨-,h⟩ | ⟨-,-,h⟩)<;>omega),p0]; rfl
     ·rw [dt H3.out (.inr ⟨k23.1,k23.2,p0⟩)];simp [p0]
    subst e3
    go_wp2_with fail
    refine (slid_any _ _).mono ?_
    rintro e w' ⟨rfl,rfl⟩
    rw [sl]
    go_wp2_with fail
    (go_meet;exact⟨by first | rfl | (simp [*];done) | simp [bne, *],rfl⟩)
  | true =>
   by_cases k2:k=2
   ·subst k2
    obtain rfl:=df H3.out (by simp [slB])
    go_wp2_with fail
    refine (slid_any _ _).mono ?_
    rintro e w' ⟨rfl,rfl⟩
    go_wp2_with fail
    (go_meet;exact⟨by first | rfl | (simp [*];done) | simp [bne, *],rfl⟩)
   ·by_cases k3:k=3
    ·subst k3
     obtain rfl:=df H3.out (by simp [slB])
     go_wp2_with fail
     refine (slid_any _ _).mono ?_
     rintro e w' ⟨rfl,rfl⟩
     go_wp2_with fail
     (go_meet;exact⟨by first | rfl | (simp [*];done) | simp [bne, *],rfl⟩)
    ·have k2':(k == 2)=false:=by simpa using k2
     have k3':(k == 3)=false:=by simpa using k3
     have e3:q3 = !(p == 0):=by
      by_cases p0:p=0
      ·rw [df H3.out (by rw [sl];rintro (⟨h,-⟩ | ⟨-,-,h⟩);cases h;exact h p0),p0];rfl
      ·rw [dt H3.out (.inr ⟨k2,k3,p0⟩)];simp [p0]
     subst e3
     go_wp2_with fail
     refine (slid_any _ _).mono ?_
     rintro e w' ⟨rfl,rfl⟩
     rw [sl]
     go_wp2_with fail
     (go_meet;exact⟨by first | rfl | (simp [*];done) | simp [bne, *],rfl⟩)
 case rest =>
 obtain⟨rfl,rfl⟩:=hcut
 cases q3 with
 | true =>
  go_wp2
  go_ret
  exact⟨retB' (by simp),hbel.out⟩
 | false =>
 go_upto_region 8 with fail
 clear n1 n2 n3 V1 V2 V3 H1 H2 H3
 by_cases k45:k≠4∧k≠5
 ·have k4:(k == 4)=false:=by simpa using k45.1
  have k5:(k == 5)=false:=by simpa using k45.2
  obtain rfl:=dt H4.out (.inl k45)
  go_wp2
  go_ret
  exact⟨retB' (by simp),hbel.out⟩
 ·have hq:Hid (q4=((tp == 0) && (lf == 0) && (bt == 0) && (rt == 0))):=by
   unfold Hid
   rw [← H4.out,Bool.eq_iff_iff]
   simp
   omega
  rcases (show k=4∨k=5 by omega) with rfl | rfl
  all_goals
   clear H4
   go_wp2
   all_goals
    clear c1 c2 f1 f2
    go_ret
    exact⟨retB' (by rw [hq.out];simp [*]),hbel.out⟩
end Go.Proofs.YtccoanknofhmaaaGreat
