/- What Valid, Has, Holds, Hull, Add, Times of package span return, of valid spans whose numbers are small. Rows of ends in plain numbers: their sums, running sums, blocks, hulls. Lists of spans in memory: what is read of them, what a call owns; cuts of them; 'make' and 'append'; steps of regions that draw their order. Loops over iterators that make what they give: a value that is given reads as told at the time when it is given. What the small functions of package bound return: one, plus, ofValues, product, running. What terms and length of package bound return: the terms at a position, and how many they are. The iterator of package bound: the ends position by position, all in one list. -/
import Derived.Test.YtgjcjhnnopandaaGreatGq01
import Derived.Test.YtgjcjhnnopandaaGreatGq08
import Derived.Test.YtgjcjhnnopandaaGreatGq13
import Derived.Test.YtgjcjhnnopandaaGreatGq14
import Derived.BigQuiet
import Derived.Maps.AppendAt
namespace Go.Proofs.YtgjcjhnnopandaaGreat
open Go.Value renaming int → U, slice → Sl
open Go.IntKind renaming i64 → i6
set_option maxRecDepth 100000
set_option maxHeartbeats 16000000
open Go.ChangeShapes Go.WideShapes Go.ChangeAt Go.RowKit
set_option linter.unusedVariables false
def xmx (a c:Int):Int:=if a<c then c else a
def xmn (a c:Int):Int:=if c<a then c else a
theorem xmx_lt {a c:Int} (h:a<c):xmx a c=c:=if_pos h
theorem xmx_ge {a c:Int} (h:¬ a<c):xmx a c=a:=if_neg h
theorem xmn_lt {a c:Int} (h:c<a):xmn a c=c:=if_pos h
theorem xmn_ge {a c:Int} (h:¬ c<a):xmn a c=a:=if_neg h
theorem xmx_bd (a c:Int):a≤xmx a c∧c≤xmx a c∧(xmx a c=a∨xmx a c=c):=by unfold xmx; split<;>omega
theorem xmn_bd (a c:Int):xmn a c≤a∧xmn a c≤c∧(xmn a c=a∨xmn a c=c):=by unfold xmn; split<;>omega
def xhas (a b x:Int):Bool:=decide (a≤x∧x≤b)
def xho (a b c d:Int):Bool:=decide (c≤d∧a≤c∧d≤b)
def Sm (a:Int):Prop:=-1000000000000≤a∧a≤1000000000000
theorem Sm.i64 {a:Int} (h:Sm a):I64 a:=by unfold Sm at h;unfold I64;omega
theorem xvalid_any (a b:Int) (w:World) :
  Calls Tryz.prog 80 #[.agg #[U i6 a,U i6 b]] w fun e w'=>e=.returned (.bool (decide (a≤b)))∧Below w.heap.size w w':=by
 go_enter Tryz.func80,Tryz.ntmps80
 go_wp2
 go_ret
 exact⟨rfl,(Below.refl _ _).alloc (Nat.le_refl _) _⟩
theorem xvalid_ok (a b:Int) (w:World) (h:a≤b) :
  Calls Tryz.prog 80 #[.agg #[U i6 a,U i6 b]] w fun e w'=>e=.returned (.bool true)∧Below w.heap.size w w':=by
 have:=xvalid_any a b w
 rwa [decide_eq_true h] at this
theorem xhas_any (a b x:Int) (w:World) :
  Calls Tryz.prog 99 #[.agg #[U i6 a,U i6 b],U i6 x] w fun e w'=>e=.returned (.bool (xhas a b x))∧Below w.heap.size w w':=by
 by_cases c:a≤x
 ·have HR:Hid (decide (x≤b)=xhas a b x):=by unfold Hid xhas;simp [c]
  go_enter Tryz.func99,Tryz.ntmps99
  go_wp2
  go_ret
  exact⟨retB HR.out,(Below.refl _ _).alloc (Nat.le_refl _) _⟩
 ·have HR:Hid (false=xhas a b x):=by unfold Hid xhas;simp [c]
  go_enter Tryz.func99,Tryz.ntmps99
  go_wp2
  go_ret
  exact⟨retB HR.out,(Below.refl _ _).alloc (Nat.le_refl _) _⟩
theorem xholds_any (a b c d:Int) (w:World) :
  Calls Tryz.prog 75 #[.agg #[U i6 a,U i6 b],.agg #[U i6 c,U i6 d]] w fun e w'=>e=.returned (.bool (xho a b c d))∧Below w.heap.size w w':=by
 by_cases h1:c≤d
 ·have e1:decide (c≤d)=true:=decide_eq_true h1
  have HV:Hid (∀ w,_):=xvalid_any c d
  rw [e1] at HV
  cases h2:xhas a b c with
  | false =>
   have HR:Hid (false=xho a b c d):=by unfold Hid;unfold xhas at h2;unfold xho;simp at h2 ⊢;omega
   clear e1 h1
   go_enter Tryz.func75,Tryz.ntmps75
   go_wp2_with fail
   refine (HV.out _).mono ?_
   rintro e w1 ⟨rfl,hb⟩
   have s1:=(St.start w).new.new.call hb
   simp only [World.size_alloc] at s1
   obtain⟨c1,f1,z1,c2,f2,z2,-⟩:=s1.rules
   clear hb
   go_wp2_with fail
   refine (xhas_any _ _ _ _).mono ?_
   rintro e w2 ⟨rfl,hb⟩
   have s2:=s1.call hb
   go_wp2
   go_ret
   exact⟨retB HR.out,s2.below⟩
  | true =>
   cases h3:xhas a b d
   all_goals
    try have HR:Hid (false=xho a b c d):=by unfold Hid;unfold xhas at h2 h3;unfold xho;simp at h2 h3 ⊢;omega
    try have HR:Hid (true=xho a b c d):=by unfold Hid;unfold xhas at h2 h3;unfold xho;simp at h2 h3 ⊢;omega
    go_enter Tryz.func75,Tryz.ntmps75
    go_wp2_with fail
    refine (HV.out _).mono ?_
    rintro e w1 ⟨rfl,hb⟩
    have s1:=(St.start w).new.new.call hb
    simp only [World.size_alloc] at s1
    obtain⟨c1,f1,z1,c2,f2,z2,-⟩:=s1.rules
    clear hb
    go_wp2_with fail
    refine (xhas_any _ _ _ _).mono ?_
    rintro e w2 ⟨rfl,hb⟩
    have s2:=s1.call hb
    obtain⟨c1,f1,z1,c2,f2,z2,-⟩:=s2.rules
    clear hb
    go_wp2_with fail
    refine (xhas_any _ _ _ _).mono ?_
    rintro e w3 ⟨rfl,hb⟩
    go_wp2
    go_ret
    exact⟨retB HR.out,(s2.call hb).below⟩
 ·have e1:decide (c≤d)=false:=decide_eq_false h1
  have HV:Hid (∀ w,_):=xvalid_any c d
  rw [e1] at HV
  have HR:Hid (false=xho a b c d):=by unfold Hid xho;simp;omega
  clear e1 h1
  go_enter Tryz.func75,Tryz.ntmps75
  go_wp2_with fail
  refine (HV.out _).mono ?_
  rintro e w1 ⟨rfl,hb⟩
  have s1:=(St.start w).new.new.call hb
  go_wp2
  go_ret
  exact⟨retB HR.out,s1.below⟩
theorem xhull_ok (a b c d:Int) (w:World) (hab:a≤b) (hcd:c≤d) :
  Calls Tryz.prog 59 #[.agg #[U i6 a,U i6 b],.agg #[U i6 c,U i6 d]] w fun e w'=>e=.returned (.tuple #[.agg #[U i6 (xmn a c),U i6 (xmx b d)],U i6 0])∧Below w.heap.size w w':=by
 have HV:Hid (∀ w,_):=fun w=>xvalid_ok a b w hab
 have HU:Hid (∀ w,_):=fun w=>xvalid_ok c d w hcd
 clear hab hcd
 by_cases k1:c<a<;>by_cases k2:b<d
 all_goals
  first | rw [xmn_lt k1] | rw [xmn_ge k1]
  first | rw [xmx_lt k2] | rw [xmx_ge k2]
  go_enter Tryz.func59,Tryz.ntmps59
  go_wp2_with fail
  refine (HV.out _).mono ?_
  rintro e w1 ⟨rfl,hb⟩
  have s1:=(St.start w).new.new.new.call hb
  simp only [World.size_alloc] at s1
  obtain⟨c1,f1,z1,c2,f2,z2,c3,f3,z3,-⟩:=s1.rules
  clear hb
  go_wp2_with fail
  refine (HU.out _).mono ?_
  rintro e w2 ⟨rfl,hb⟩
  have s2:=s1.call hb
  clear hb c1 f1 z1 c2 f2 z2 c3 f3 z3
  obtain⟨c1,f1,z1,c2,f2,z2,c3,f3,z3,-⟩:=s2.rules
  go_wp2
  exact bodyPost_ret (v:=.tuple #[.agg #[U i6 _,U i6 _],U i6 0]) (by simp [results,Tryz.results59,go_sem,c1]) rfl ⟨rfl,s2.out2⟩
theorem xends_ok (a b:Int) (w:World) :
  Calls Tryz.prog 82 #[U i6 a,U i6 0,U i6 b,U i6 0] w fun x w'=>x=.returned (.tuple #[.agg #[U i6 a,U i6 b],U i6 0])∧Below w.heap.size w w':=by
 go_enter Tryz.func82,Tryz.ntmps82
 go_wp2
 exact bodyPost_ret (v:=.tuple #[.agg #[U i6 a,U i6 b],U i6 0]) (by simp [results,Tryz.results82,go_sem]) rfl ⟨rfl,(Below.refl _ _).alloc (Nat.le_refl _) _⟩
theorem xnadd_ok (a b:Int) (w:World) (ha:Sm a) (hb:Sm b) :
  Calls Tryz.prog 81 #[U i6 a,U i6 b] w fun e w'=>e=.returned (.tuple #[U i6 (a+b),U i6 0])∧w'=w:=by
 have h:=add_any a b w ha.i64 hb.i64
 unfold Sm at ha hb
 rwa [okV_in _ (by omega),okE_in _ (by omega)] at h
theorem xadd_ok (a b c d:Int) (w:World) (hab:a≤b) (hcd:c≤d) (ha:Sm a) (hb:Sm b) (hc:Sm c) (hd:Sm d) :
  Calls Tryz.prog 58 #[.agg #[U i6 a,U i6 b],.agg #[U i6 c,U i6 d]] w fun e w'=>e=.returned (.tuple #[.agg #[U i6 (a+c),U i6 (b+d)],U i6 0])∧Below w.heap.size w w':=by
 have HV:Hid (∀ w,_):=fun w=>xvalid_ok a b w hab
 have HU:Hid (∀ w,_):=fun w=>xvalid_ok c d w hcd
 have HX:Hid (∀ w,_):=fun w=>xnadd_ok a c w ha hc
 have HY:Hid (∀ w,_):=fun w=>xnadd_ok b d w hb hd
 clear hab hcd ha hb hc hd
 go_enter Tryz.func58,Tryz.ntmps58
 go_wp2_with fail
 refine (HV.out _).mono ?_
 rintro e w1 ⟨rfl,hb'⟩
 have s1:=(St.start w).new.new.new.call hb'
 simp only [World.size_alloc] at s1
 obtain⟨c1,f1,z1,c2,f2,z2,c3,f3,z3,-⟩:=s1.rules
 clear hb'
 go_wp2_with fail
 refine (HU.out _).mono ?_
 rintro e w2 ⟨rfl,hb'⟩
 have s2:=s1.call hb'
 clear hb' c1 f1 z1 c2 f2 z2 c3 f3 z3
 obtain⟨c1,f1,z1,c2,f2,z2,c3,f3,z3,-⟩:=s2.rules
 go_wp2_with fail
 refine (HX.out _).mono ?_
 rintro e w' ⟨rfl,rfl⟩
 go_wp2_with fail
 refine (HY.out _).mono ?_
 rintro e w' ⟨rfl,rfl⟩
 go_wp2_with fail
 refine (xends_ok _ _ _).mono ?_
 rintro e w3 ⟨rfl,hb'⟩
 have s3:=s2.call hb'
 clear hb' c1 f1 z1 c2 f2 z2 c3 f3 z3
 obtain⟨c1,f1,z1,c2,f2,z2,c3,f3,z3,-⟩:=s3.rules
 go_wp2
 exact bodyPost_ret (v:=.tuple #[.agg #[U i6 _,U i6 _],U i6 _]) (by simp [results,Tryz.results58,go_sem,c1]) rfl ⟨rfl,s3.out2⟩
theorem xtells (a b:Int) (h0:a≠0) (hb:Sm b) (h:Sm (a*b)):wrap64 (a*b)=a*b∧wrap64 ((wrap64 (a*b)).tdiv a)=b:=by
 unfold Sm at h hb
 have e:wrap64 (a*b)=a*b:=IntWalk.wrap64_in _ (by omega)
 refine⟨e,?_⟩
 rw [e,Int.mul_tdiv_cancel_left _ h0]
 exact IntWalk.wrap64_in _ (by omega)
theorem xmul_ok (a b:Int) (w:World) (hb:Sm b) (h:Sm (a*b)) :
  Calls Tryz.prog 118 #[U i6 a,U i6 b] w fun e w'=>e=.returned (.tuple #[U i6 (a*b),U i6 0])∧w'=w:=by
 by_cases h0:a=0
 ·subst h0
  have HR:Hid ((0:Int)*b=0):=Int.zero_mul b
  rw [HR.out]
  clear hb h HR
  go_enter Tryz.func118,Tryz.ntmps118
  go_wp2
  go_ret2
  exact⟨rfl,rfl⟩
 ·by_cases hm:a = -1
  ·subst hm
   have HR:Hid ((-1:Int)*b = -b):=by unfold Hid;omega
   rw [HR.out]
   have HS:Hid (∀ w,Calls Tryz.prog 127 #[U i6 0,U i6 b] w fun e w'=>e=.returned (.tuple #[U i6 (-b),U i6 0])∧w'=w):=fun w=>by
    have hs:=sub_any 0 b w (by unfold I64;omega) hb.i64
    unfold Sm at hb
    rwa [okV_in _ (by omega),okE_in _ (by omega),Int.zero_sub] at hs
   clear hb h HR h0
   go_enter Tryz.func118,Tryz.ntmps118
   go_wp2_with fail
   refine (HS.out _).mono ?_
   rintro e w' ⟨rfl,rfl⟩
   go_wp2
   go_ret2
   exact⟨rfl,rfl⟩
  ·obtain⟨t1,t2⟩:=xtells a b h0 hb h
   have q0:(a == 0)=false:=by simpa using h0
   have qm:(a == -1)=false:=by simpa using hm
   have HV:Hid (wrap64 (a*b)=a*b):=t1
   have qn:(wrap64 ((wrap64 (a*b)).tdiv a) != b)=false:=by rw [t2];simp
   clear t1 t2 hm h hb
   go_enter Tryz.func118,Tryz.ntmps118
   go_wp2
   go_ret2
   exact⟨ret2 HV.out rfl,rfl⟩
def xti (a b k:Int):Int×Int:=if k<0 then (b*k,a*k) else (a*k,b*k)
theorem xtimes_ok (a b k:Int) (w:World) (hab:a≤b) (hk:Sm k) (ha:Sm (a*k)) (hb:Sm (b*k)) :
  Calls Tryz.prog 100 #[.agg #[U i6 a,U i6 b],U i6 k] w fun e w'=>e=.returned (.tuple #[.agg #[U i6 (xti a b k).1,U i6 (xti a b k).2],U i6 0])∧Below w.heap.size w w':=by
 have HV:Hid (∀ w,_):=fun w=>xvalid_ok a b w hab
 have HX:Hid (∀ w,_):=fun w=>xmul_ok a k w hk ha
 have HY:Hid (∀ w,_):=fun w=>xmul_ok b k w hk hb
 clear hab hk ha hb
 unfold xti
 by_cases g:k<0
 ·rw [if_pos g]
  go_enter Tryz.func100,Tryz.ntmps100
  go_wp2_with fail
  refine (HV.out _).mono ?_
  rintro e w1 ⟨rfl,hb'⟩
  have s1:=(St.start w).new.new.call hb'
  simp only [World.size_alloc] at s1
  obtain⟨c1,f1,z1,c2,f2,z2,-⟩:=s1.rules
  clear hb'
  go_wp2_with fail
  go_quiet (fail)
  go_wp2_with fail
  refine (HY.out _).mono ?_
  rintro e w' ⟨rfl,rfl⟩
  go_wp2_with fail
  refine (HX.out _).mono ?_
  rintro e w' ⟨rfl,rfl⟩
  go_wp2_with fail
  refine (xends_ok _ _ _).mono ?_
  rintro e w3 ⟨rfl,hb'⟩
  have s3:=(s1.call (show Below _ _ (w1.drewN _) from ⟨rfl,rfl,rfl,Nat.le_refl _,fun _ _=>rfl⟩)).call hb'
  clear hb' c1 f1 z1 c2 f2 z2
  obtain⟨c1,f1,z1,c2,f2,z2,-⟩:=s3.rules
  go_wp2
  exact bodyPost_ret (v:=.tuple #[.agg #[U i6 _,U i6 _],U i6 _]) (by simp [results,Tryz.results100,go_sem,c1]) rfl ⟨rfl,s3.out2⟩
 ·rw [if_neg g]
  go_enter Tryz.func100,Tryz.ntmps100
  go_wp2_with fail
  refine (HV.out _).mono ?_
  rintro e w1 ⟨rfl,hb'⟩
  have s1:=(St.start w).new.new.call hb'
  simp only [World.size_alloc] at s1
  obtain⟨c1,f1,z1,c2,f2,z2,-⟩:=s1.rules
  clear hb'
  go_wp2_with fail
  go_quiet (fail)
  go_wp2_with fail
  refine (HX.out _).mono ?_
  rintro e w' ⟨rfl,rfl⟩
  go_wp2_with fail
  refine (HY.out _).mono ?_
  rintro e w' ⟨rfl,rfl⟩
  go_wp2_with fail
  refine (xends_ok _ _ _).mono ?_
  rintro e w3 ⟨rfl,hb'⟩
  have s3:=(s1.call (show Below _ _ (w1.drewN _) from ⟨rfl,rfl,rfl,Nat.le_refl _,fun _ _=>rfl⟩)).call hb'
  clear hb' c1 f1 z1 c2 f2 z2
  obtain⟨c1,f1,z1,c2,f2,z2,-⟩:=s3.rules
  go_wp2
  exact bodyPost_ret (v:=.tuple #[.agg #[U i6 _,U i6 _],U i6 _]) (by simp [results,Tryz.results100,go_sem,c1]) rfl ⟨rfl,s3.out2⟩
def plS (a b:Int×Int):Int×Int:=(a.1+b.1,a.2+b.2)
def suS (s:Int×Int) (E:List (Int×Int)):Int×Int:=E.foldl plS s
theorem suS_snoc (s:Int×Int) (E:List (Int×Int)) (e:Int×Int):suS s (E++[e])=plS (suS s E) e:=by simp [suS]
theorem take_snoc {α:Type} {E:List α} {k:Nat} {e d:α} (hk:k<E.length) (he:E.getD k d=e):E.take (k+1)=E.take k++[e]:=by
 rw [List.take_add_one,List.getElem?_eq_getElem hk]
 rw [List.getD_eq_getElem?_getD,List.getElem?_eq_getElem hk] at he
 simp only [Option.getD_some] at he
 rw [he];rfl
theorem suS_take (s:Int×Int) {E:List (Int×Int)} {k:Nat} {e d:Int×Int} (hk:k<E.length) (he:E.getD k d=e):suS s (E.take (k+1))=plS (suS s (E.take k)) e:=by
 rw [take_snoc hk he,suS_snoc]
def ruL (s:Int×Int) (E:List (Int×Int)):List (Int×Int):=(List.range (E.length+1)).map fun j=>suS s (E.take j)
theorem ruL_len (s:Int×Int) (E:List (Int×Int)):(ruL s E).length=E.length+1:=by simp [ruL]
def ruT (s:Int×Int) (E:List (Int×Int)) (k:Nat):List (Int×Int):=(List.range (k+1)).map fun j=>suS s (E.take j)
theorem mem_ruL_tail {s x:Int×Int} {E:List (Int×Int)}:x∈(ruL s E).tail ↔ ∃ j,1≤j∧j≤E.length∧x=suS s (E.take j):=by
 unfold ruL
 rw [List.range_succ_eq_map]
 simp only [List.map_cons,List.tail_cons,List.map_map,List.mem_map,List.mem_range,Function.comp]
 constructor
 ·rintro⟨j,h1,h2⟩;exact⟨j+1,by omega,by omega,h2.symm⟩
 ·rintro⟨j,h0,h1,h2⟩
  obtain⟨i,rfl⟩:∃ i,j=i+1:=⟨j-1,by omega⟩
  exact⟨i,by omega,h2.symm⟩
def chk (d:Nat) (E:List (Int×Int)) (k:Nat):List (Int×Int):=(E.drop (k*d)).take d
def chN (d n:Nat):Nat:=(n+d-1) / d
theorem chN_lt {d n k:Nat} (hd:0<d):k<chN d n ↔ k*d<n:=by
 unfold chN
 rw [show k<(n+d-1) / d ↔ k+1≤(n+d-1) / d from Iff.rfl,Nat.le_div_iff_mul_le hd,Nat.add_mul]
 omega
theorem chk_len (d:Nat) (E:List (Int×Int)) (k:Nat):(chk d E k).length=min d (E.length-k*d):=by simp [chk]
def paT (d:Nat) (E:List (Int×Int)) (k:Nat):List (Int×Int):=(List.range k).flatMap fun j=>(ruL (0,0) (chk d E j)).tail
def paL (d:Nat) (E:List (Int×Int)):List (Int×Int):=paT d E (chN d E.length)
def psm (d:Nat) (E:List (Int×Int)) (i:Nat):Int×Int:=suS (0,0) ((E.drop (i / d*d)).take (i % d+1))
theorem mem_paL {d:Nat} {E:List (Int×Int)} {x:Int×Int} (hd:0<d):x∈paL d E ↔ ∃ i,i<E.length∧x=psm d E i:=by
 unfold paL paT
 simp only [List.mem_flatMap,List.mem_range]
 constructor
 ·rintro⟨k,hk,hx⟩
  obtain⟨j,h0,h1,rfl⟩:=mem_ruL_tail.1 hx
  rw [chk_len] at h1
  have hk':=(chN_lt hd).1 hk
  refine⟨k*d+(j-1),by omega,?_⟩
  unfold psm chk
  have e1:(k*d+(j-1)) / d=k:=by rw [Nat.mul_comm,Nat.mul_add_div hd,Nat.div_eq_of_lt (by omega)];omega
  have e2:(k*d+(j-1)) % d=j-1:=by rw [Nat.mul_comm,Nat.mul_add_mod,Nat.mod_eq_of_lt (by omega)]
  rw [e1,e2,List.take_take,Nat.min_eq_left (by omega),show j-1+1=j by omega]
 ·rintro⟨i,hi,rfl⟩
  have hm:=Nat.mod_lt i hd
  have hdm:=Nat.div_add_mod i d
  rw [Nat.mul_comm] at hdm
  refine⟨i / d,(chN_lt hd).2 (by omega),mem_ruL_tail.2 ⟨i % d+1,by omega,by rw [chk_len];omega,?_⟩⟩
  unfold psm chk
  rw [List.take_take,Nat.min_eq_left (by omega)]
def hul (a b:Int×Int):Int×Int:=(xmn a.1 b.1,xmx a.2 b.2)
def huF (x:Int×Int) (L:List (Int×Int)):Int×Int:=L.foldl hul x
def huA:List (Int×Int)→Int×Int
 | []=>(0,0)
 | x :: l=>huF x l
theorem huF_snoc (x:Int×Int) (L:List (Int×Int)) (y:Int×Int):huF x (L++[y])=hul (huF x L) y:=by simp [huF]
theorem huA_snoc {L:List (Int×Int)} (h:L≠[]) (y:Int×Int):huA (L++[y])=hul (huA L) y:=by
 cases L with
 | nil=>exact absurd rfl h
 | cons x l=>exact huF_snoc x l y
def IsH (L:List (Int×Int)) (h:Int×Int):Prop:=(∀ x∈L,h.1≤x.1∧x.2≤h.2)∧(∃ x∈L,x.1=h.1)∧(∃ x∈L,x.2=h.2)
theorem huF_is (x:Int×Int):∀ L:List (Int×Int),IsH (x :: L) (huF x L):=by
 intro L
 induction L generalizing x with
 | nil=>exact⟨fun y hy=>by simp at hy;subst hy;exact⟨Int.le_refl _,Int.le_refl _⟩,⟨x,by simp,rfl⟩,⟨x,by simp,rfl⟩⟩
 | cons y l ih =>
  obtain⟨h1,⟨a,ha,ea⟩,⟨b,hb,eb⟩⟩:=ih (hul x y)
  show IsH (x :: y :: l) (huF (hul x y) l)
  have hmn:=xmn_bd x.1 y.1
  have hmx:=xmx_bd x.2 y.2
  have h0:=h1 (hul x y) List.mem_cons_self
  have e1:(hul x y).1=xmn x.1 y.1:=rfl
  have e2:(hul x y).2=xmx x.2 y.2:=rfl
  rw [e1,e2] at h0
  refine⟨fun z hz=>?_,?_,?_⟩
  ·simp only [List.mem_cons] at hz
   rcases hz with rfl | rfl | hz
   ·omega
   ·omega
   ·exact h1 z (List.mem_cons_of_mem _ hz)
  ·rcases List.mem_cons.1 ha with rfl | ha
   ·rw [e1] at ea
    rcases hmn.2.2 with q | q
    ·exact⟨x,by simp,by omega⟩
    ·exact⟨y,by simp,by omega⟩
   ·exact⟨a,by simp [ha],ea⟩
  ·rcases List.mem_cons.1 hb with rfl | hb
   ·rw [e2] at eb
    rcases hmx.2.2 with q | q
    ·exact⟨x,by simp,by omega⟩
    ·exact⟨y,by simp,by omega⟩
   ·exact⟨b,by simp [hb],eb⟩
theorem huA_is {L:List (Int×Int)} (h:L≠[]):IsH L (huA L):=by
 cases L with
 | nil=>exact absurd rfl h
 | cons x l=>exact huF_is x l
theorem IsH.eq {L M:List (Int×Int)} {a b:Int×Int} (h:IsH L a) (g:IsH M b) (e:∀ x,x∈L ↔ x∈M):a=b:=by
 obtain⟨h1,⟨x,hx,ex⟩,⟨y,hy,ey⟩⟩:=h
 obtain⟨g1,⟨z,hz,ez⟩,⟨u,hu,eu⟩⟩:=g
 have a1:=g1 x ((e x).1 hx)
 have a2:=g1 y ((e y).1 hy)
 have a3:=h1 z ((e z).2 hz)
 have a4:=h1 u ((e u).2 hu)
 exact Prod.ext (by omega) (by omega)
theorem huA_eq {L M:List (Int×Int)} (h:L≠[]) (e:∀ x,x∈L ↔ x∈M):huA L=huA M:=by
 have g:M≠[]:=by
  cases L with
  | nil=>exact absurd rfl h
  | cons x l=>intro q;have:=(e x).1 List.mem_cons_self;rw [q] at this;cases this
 exact (huA_is h).eq (huA_is g) e
def Vd (M:Int) (e:Int×Int):Prop:=-M≤e.1∧e.1≤e.2∧e.2≤M
def Rb (E:List (Int×Int)):Prop:=∀ e∈E,Vd 4194304 e
theorem Vd.sm {M:Int} {e:Int×Int} (h:Vd M e) (hM:M≤1000000000000):Sm e.1∧Sm e.2∧e.1≤e.2:=by unfold Vd at h;unfold Sm;omega
theorem suS_bd:∀ (E:List (Int×Int)) (s:Int×Int) (B:Int),Rb E→Vd B s→Vd (B+4194304*(E.length:Int)) (suS s E)
 | [],s,B,_,h=>by simpa [suS] using h
 | e :: E,s,B,hE,h=>by
  have he:=hE e List.mem_cons_self
  have:=suS_bd E (plS s e) (B+4194304) (fun x hx=>hE x (List.mem_cons_of_mem _ hx)) (by unfold Vd plS at *;simp only;omega)
  have e1:B+4194304+4194304*(E.length:Int)=B+4194304*((e :: E).length:Int):=by simp;omega
  rw [← e1]
  exact this
theorem Rb.take {E:List (Int×Int)} (h:Rb E) (k:Nat):Rb (E.take k):=fun e he=>h e (List.mem_of_mem_take he)
theorem Rb.drop {E:List (Int×Int)} (h:Rb E) (k:Nat):Rb (E.drop k):=fun e he=>h e (List.mem_of_mem_drop he)
theorem suS_vd {E:List (Int×Int)} {s:Int×Int} (hE:Rb E) (hl:E.length≤512) (h:Vd 4294967296 s):Vd 10000000000 (suS s E):=by
 have:=suS_bd E s _ hE h
 unfold Vd at *
 omega
theorem psm_vd {E:List (Int×Int)} {d i:Nat} (hE:Rb E) (hl:E.length≤512):Vd 10000000000 (psm d E i):=by
 unfold psm
 refine suS_vd ((hE.drop _).take _) (by rw [List.length_take,List.length_drop];omega) ?_
 unfold Vd;simp
theorem Rb.vd {E:List (Int×Int)} (h:Rb E):∀ x∈E,Vd 10000000000 x:=fun x hx=>by have:=h x hx;unfold Vd at *;omega
theorem hul_vd {M:Int} {a b:Int×Int} (h:Vd M a) (g:Vd M b):Vd M (hul a b):=by
 have hmn:=xmn_bd a.1 b.1
 have hmx:=xmx_bd a.2 b.2
 have e1:(hul a b).1=xmn a.1 b.1:=rfl
 have e2:(hul a b).2=xmx a.2 b.2:=rfl
 unfold Vd at *
 rw [e1,e2]
 omega
theorem huF_vd {M:Int}:∀ {L:List (Int×Int)} {x:Int×Int},Vd M x→(∀ y∈L,Vd M y)→Vd M (huF x L)
 | [],x,h,_=>h
 | y :: l,x,h,g=>huF_vd (L:=l) (x:=hul x y) (hul_vd h (g y List.mem_cons_self)) fun z hz=>g z (List.mem_cons_of_mem _ hz)
def tmE (lo hi p:Int) (t:Int×Int):Int×Int:=if t.2<0 then (p*t.1,p*t.1) else xti lo hi t.1
def enL (lo hi p:Int) (TL:List (Int×Int)):List (Int×Int):=TL.map (tmE lo hi p)
theorem enL_len (lo hi p:Int) (TL:List (Int×Int)):(enL lo hi p TL).length=TL.length:=by simp [enL]
theorem enL_getD (lo hi p:Int) {TL:List (Int×Int)} {k:Nat} (h:k<TL.length) (d d':Int×Int):(enL lo hi p TL).getD k d=tmE lo hi p (TL.getD k d'):=by
 simp [enL,List.getD_eq_getElem?_getD,List.getElem?_eq_getElem h]
theorem prod_bd {a k:Int} (ha:-128≤a∧a≤127) (hk:-32768≤k∧k≤32767):-4194304≤a*k∧a*k≤4194304:=by
 have h1:=Int.natAbs_mul a k
 have h2:=Nat.mul_le_mul (show a.natAbs≤128 by omega) (show k.natAbs≤32768 by omega)
 omega
theorem xti_vd {a b k:Int} (hab:a≤b) (ha:-128≤a∧a≤127) (hb:-128≤b∧b≤127) (hk:-32768≤k∧k≤32767):Vd 4194304 (xti a b k):=by
 have h1:=prod_bd ha hk
 have h2:=prod_bd hb hk
 unfold xti
 split
 ·have:=Int.mul_le_mul_of_nonneg_right hab (show 0≤-k by omega)
  rw [Int.mul_neg,Int.mul_neg] at this
  unfold Vd;simp only;omega
 ·have:=Int.mul_le_mul_of_nonneg_right hab (show 0≤k by omega)
  unfold Vd;simp only;omega
theorem tmE_vd {lo hi p:Int} {t:Int×Int} (hs:-128≤lo∧lo≤hi∧hi≤127) (hp:-128≤p∧p≤127) (hk:-32768≤t.1∧t.1≤32767):Vd 4194304 (tmE lo hi p t):=by
 unfold tmE
 split
 ·have:=prod_bd hp hk
  unfold Vd;simp only;omega
 ·exact xti_vd hs.2.1 (by omega) (by omega) hk
theorem enL_rb {lo hi p:Int} {TL:List (Int×Int)} (hs:-128≤lo∧lo≤hi∧hi≤127) (hp:-128≤p∧p≤127) (hk:∀ t∈TL,-32768≤t.1∧t.1≤32767):Rb (enL lo hi p TL):=fun e he=>by
 obtain⟨t,ht,rfl⟩:=List.mem_map.1 he
 exact tmE_vd hs hp (hk t ht)
def OSp (w:World) (base:Nat) (v:Value) (L:List (Int×Int)):Prop:=w.ownsRow base 28 2 v L.length (p2 L)
theorem OSp.of {w:World} {g cap base:Nat} {cur:Array Value} {L:List (Int×Int)} (h:w.heap[g]? = some (.cells cur 28 (0,0))) (hb:base≤g) (hC:Cu2 cur cap L) (hcap:cap≤maxLen):OSp w base (.slice (some ⟨g,0,none⟩) L.length cap) L :=
 ⟨by rw [p2_len],.inr ⟨g,cap,cur,rfl,hb,h,hC.2.1,hcap,hC.1,hC.2.2⟩⟩
theorem OSp.nil (w:World) (base:Nat):OSp w base (.slice none 0 0) []:=World.ownsRow_nil _ _ _ _
theorem OSp.below {w w':World} {base:Nat} {v:Value} {L:List (Int×Int)} (h:OSp w base v L) (g:Below w.heap.size w w'):OSp w' base v L:=by
 refine World.ownsRow.kept h (row:=none) ⟨g.os,g.tape,g.output,g.size,fun i hi _=>g.block i hi⟩ ?_
 cases e:v.ownBlock with
 | none=>exact .inl rfl
 | some b=>exact .inr (by simp)
theorem OSp.base {w:World} {b c:Nat} {v:Value} {L:List (Int×Int)} (h:OSp w b v L) (k:c≤b):OSp w c v L:=by
 refine⟨h.1,?_⟩
 rcases h.2 with h | ⟨g,cap,cur,h1,h2,h3⟩
 ·exact .inl h
 ·exact .inr ⟨g,cap,cur,h1,Nat.le_trans k h2,h3⟩
theorem OSp.slice {w:World} {base:Nat} {v:Value} {L:List (Int×Int)} (h:OSp w base v L):∃ a cap,v=.slice a L.length cap:=by
 rcases h.2 with ⟨rfl,q⟩ | ⟨g,cap,cur,rfl,-⟩
 ·exact⟨_,_,by rw [q]⟩
 ·exact⟨_,_,rfl⟩
theorem OSp.lt {w:World} {base:Nat} {v:Value} {L:List (Int×Int)} (h:OSp w base v L):∀ b,v.ownBlock=some b→base≤b∧b<w.heap.size:=fun b e=>World.ownsRow.lt h b e
def SpV (w:World) (v:Value) (L:List (Int×Int)):Prop :=
 ∃ a cap,v=.slice a L.length cap∧L.length≤cap∧cap≤maxLen∧(0<L.length→∃ g o,a=some ⟨g,o,none⟩∧∀ j u,(p2 L)[j]? = some u→w.cell? ⟨g,o+j,none⟩=some u)
theorem SpV.at {w:World} {g o:Nat} {L:List (Int×Int)} (h:∀ j u,(p2 L)[j]? = some u→w.cell? ⟨g,o+j,none⟩=some u) {i:Nat} (hi:i<L.length) :
  w.cell? ⟨g,o+i*2,none⟩=some (U i6 (L.getD i (0,0)).1)∧w.cell? ⟨g,o+i*2+1,none⟩=some (U i6 (L.getD i (0,0)).2):=⟨h _ _ (p2_at L i hi).1,by rw [Nat.add_assoc];exact h _ _ (p2_at L i hi).2⟩
theorem SpV.below {w w':World} {v:Value} {L:List (Int×Int)} (h:SpV w v L) (q:Below w.heap.size w w'):SpV w' v L:=by
 obtain⟨a,cap,h1,h2,h3,h4⟩:=h
 refine⟨a,cap,h1,h2,h3,fun h0=>?_⟩
 obtain⟨g,o,e,hc⟩:=h4 h0
 exact⟨g,o,e,fun j u hj=>(q.cell (World.block_lt_of_cell? w _ (hc j u hj))).trans (hc j u hj)⟩
theorem OSp.sv {w:World} {base:Nat} {v:Value} {L:List (Int×Int)} (h:OSp w base v L):SpV w v L:=by
 rcases h.2 with ⟨rfl,q⟩ | ⟨g,cap,cur,rfl,h2,h3,h4,h5,h6,h7⟩
 ·obtain rfl:=List.eq_nil_of_length_eq_zero q
  exact⟨none,0,rfl,Nat.le_refl _,by unfold maxLen;omega,fun h=>by cases h⟩
 ·exact⟨_,_,rfl,h4,h5,fun _=>⟨g,0,rfl,fun j u hj=>by rw [Nat.zero_add,(cells_at h3).1];exact Cu2.get ⟨h6,h4,h7⟩ hj⟩⟩
theorem p2_drop:∀ (k:Nat) (L:List (Int×Int)),p2 (L.drop k)=(p2 L).drop (k*2)
 | 0,L=>by simp
 | k+1,[]=>by simp [p2]
 | k+1,x :: L=>by rw [List.drop_succ_cons,p2_drop k L,show (k+1)*2=k*2+1+1 by omega];simp [p2]
theorem p2_take:∀ (k:Nat) (L:List (Int×Int)),p2 (L.take k)=(p2 L).take (k*2)
 | 0,L=>by simp [p2]
 | k+1,[]=>by simp [p2]
 | k+1,x :: L=>by rw [show (k+1)*2=k*2+1+1 by omega];simp [p2,p2_take k L]
theorem Tryz.sizS:∀ W:World,(sizeOf 28).run Tryz.prog W=.ok 2 W:=fun _=>by kernel_rfl
theorem Tryz.elS:Tryz.prog.elem 76=28:=by kernel_rfl
theorem Tryz.unS:Tryz.prog.underlying 76=some (.slice (Tryz.prog.elem 76)):=by rw [Tryz.elS];exact Tryz.underlying76
def Nb (nb:Nat) (v:Value):Prop:=∀ a n c,v=.slice (some a) n c→nb≤a.block
theorem Nb.zero (v:Value):Nb 0 v:=fun _ _ _ _=>Nat.zero_le _
theorem Nb.mono {a b:Nat} {v:Value} (h:Nb a v) (k:b≤a):Nb b v:=fun x n c e=>Nat.le_trans k (h x n c e)
theorem OSp.nb {w:World} {base:Nat} {v:Value} {L:List (Int×Int)} (h:OSp w base v L):Nb base v:=fun a n c e=>by
 rcases h.2 with ⟨rfl,q⟩ | ⟨g,cap,cur,rfl,h2,h3,h4,h5,h6,h7⟩
 ·cases e
 ·cases e;exact h2
theorem SpV.set {w:World} {v u:Value} {L:List (Int×Int)} {nb B i:Nat} (h:SpV w v L) (hn:Nb nb v) (hB:B<nb):SpV (w.setCell ⟨B,i,none⟩ u) v L:=by
 obtain⟨a,cap,rfl,h2,h3,h4⟩:=h
 refine⟨a,cap,rfl,h2,h3,fun h0=>?_⟩
 obtain⟨g,o,rfl,hc⟩:=h4 h0
 have hg:nb≤g:=hn _ _ _ rfl
 exact⟨g,o,rfl,fun j u' hj=>(World.cell?_of_block (Below.heap_setCell _ _ _ _ (by show g≠B;omega))).trans (hc j u' hj)⟩
theorem SpV.from {w:World} {v:Value} {L:List (Int×Int)} (h:SpV w v L) {k:Nat} (hk:k<L.length) {K:Int} (hK:K=(k:Int)):∃ v',(∀ W,(Instr.sliceAt 76 v (some (U i6 K)) none none).run Tryz.prog W=.ok v' W)∧SpV w v' (L.drop k)∧∀ nb,Nb nb v→Nb nb v':=by
 subst hK
 obtain⟨a,cap,rfl,h2,h3,h4⟩:=h
 obtain⟨g,o,rfl,hc⟩:=h4 (by omega)
 refine⟨.slice (some ⟨g,o+k*2,none⟩) (L.length-k) (cap-k),fun W=>?_,⟨some ⟨g,o+k*2,none⟩,cap-k,by rw [List.length_drop],by rw [List.length_drop];omega,by omega,fun h0=>⟨g,o+k*2,rfl,fun j u hj=>?_⟩⟩,fun nb hn a n c e=>by cases e;exact hn ⟨g,o,none⟩ _ _ rfl⟩
 ·rw [run_sliceAt_slice (h:=Tryz.unS),run_slice_l (ht:=Tryz.unS) (h0:=by omega) (h1:=by omega),Tryz.elS,Tryz.sizS]
  simp only [Result.andThen,sliced,Int.toNat_natCast]
  rw [if_neg (by omega)]
  simp [Addr.add]
 ·rw [p2_drop,List.getElem?_drop] at hj
  rw [Nat.add_assoc]
  exact hc _ _ hj
theorem SpV.mid {w:World} {v:Value} {L:List (Int×Int)} (h:SpV w v L) {k m:Nat} (hk:k+m≤L.length) (hm:0<m) {K M:Int} (hK:K=(k:Int)) (hM:M=(k:Int)+(m:Int)):∃ v',(∀ W,(Instr.sliceAt 76 v (some (U i6 K)) (some (U i6 M)) (some (U i6 M))).run Tryz.prog W=.ok v' W)∧SpV w v' ((L.drop k).take m)∧∀ nb,Nb nb v→Nb nb v':=by
 subst hK hM
 obtain⟨a,cap,rfl,h2,h3,h4⟩:=h
 obtain⟨g,o,rfl,hc⟩:=h4 (by omega)
 have hl:((L.drop k).take m).length=m:=by rw [List.length_take,List.length_drop];omega
 refine⟨.slice (some ⟨g,o+k*2,none⟩) m m,fun W=>?_,⟨some ⟨g,o+k*2,none⟩,m,by rw [hl],by omega,by omega,fun h0=>⟨g,o+k*2,rfl,fun j u hj=>?_⟩⟩,fun nb hn a n c e=>by cases e;exact hn ⟨g,o,none⟩ _ _ rfl⟩
 ·rw [run_sliceAt_slice (h:=Tryz.unS),run_slice_lhm (ht:=Tryz.unS) (h0:=by omega) (h1:=by omega) (h2:=by omega) (h3:=by omega),Tryz.elS,Tryz.sizS]
  simp only [Result.andThen,sliced]
  rw [show ((k:Int)+(m:Int)).toNat=k+m by omega,Int.toNat_natCast,if_neg (by omega)]
  simp [Addr.add]
 ·have hj2:j<m*2:=by
   have:=(List.getElem?_eq_some_iff.1 hj).1
   rw [p2_len,hl] at this
   exact this
  rw [p2_take,List.getElem?_take,if_pos hj2,p2_drop,List.getElem?_drop] at hj
  rw [Nat.add_assoc]
  exact hc _ _ hj
theorem Tryz.infoS:(Tryz.prog.info? 28).map (fun i=>(i.zero,i.size,i.bytes))=some (some (.agg #[U i6 0,U i6 0]),2,16):=by kernel_rfl
theorem run_apS {w:World} (base:Nat) (v:Value) (L M:List (Int×Int)) (ty:TypeId) (hown:OSp w base v L) (x:Value) (hx:SpV w x M) (h0:0<M.length) (hlen:L.length+M.length≤1000000) (hbase:base≤w.heap.size) :
  ∃ v' w',(Builtin.append_ #[76,76] ty #[v,x]).run Tryz.prog w=.ok v' w'∧OSp w' base v' (L++M)∧w.grownBy w' v.ownBlock∧(v'.ownBlock=v.ownBlock∨v'.ownBlock=some w.heap.size):=by
 obtain⟨i0,hi,hz0,hz1,hz2⟩:=info_parts Tryz.infoS
 obtain⟨a,cap,rfl,-,-,h4⟩:=hx
 obtain⟨g,o,rfl,hc⟩:=h4 h0
 obtain⟨v',w',h1,h2,h3,-,h5⟩:=run_append_own_at (P:=Tryz.prog) w base 76 ty 28 i0 (.agg #[U i6 0,U i6 0]) 2 16 Tryz.underlying76 hi hz0 hz1 hz2 rfl (by decide) v L.length _ hown ⟨g,o,none⟩ M.length cap (p2 M) (p2_len M) (fun j u hj=>by rw [Addr.add_lit];exact hc j u hj) (p2_one M) (by unfold maxLen;omega) (by omega) hbase
 refine⟨v',w',h1,?_,h3,h5⟩
 unfold OSp
 rw [List.length_append,p2_app]
 exact h2
theorem wpList_apS {w:World} {ops:Array Oper} {rest:List Oper} {o:Oper} {a:Act} {Q:Exit→Act→World→Prop} (hgd:o.guard=none) (s x:Operand)
  (ho:o.op=.call { callee:=.builtin .append,args:=#[s,x],argTypes:=#[76,76] })
  (base:Nat) (v:Value) (L M:List (Int×Int)) (hs:a.eval s=v) (hown:OSp w base v L) (y:Value) (hx:a.eval x=y) (hy:SpV w y M) (h0:0<M.length) (hlen:L.length+M.length≤1000000) (hbase:base≤w.heap.size)
  (h:∀ v' w',OSp w' base v' (L++M)→w.grownBy w' v.ownBlock→(v'.ownBlock=v.ownBlock∨v'.ownBlock=some w.heap.size)→wpList Tryz.prog ops Q rest (a.put o.dst v') w'):wpList Tryz.prog ops Q (o :: rest) a w:=by
 obtain⟨v',w',h1,h2,h3,h4⟩:=run_apS base v L M o.type hown y hy h0 hlen hbase
 refine wpList_plain hgd fun K hK=>?_
 unfold Oper.wp
 simp [execOp,ho,resolve,invoke,builtin,hs,hx,h1,Result.andThen]
 exact hK _ _ (h v' w' h2 h3 h4)
theorem span_one (w:World) (p q:Int):SpV (w.alloc (.cells #[U i6 p,U i6 q] 28)) (.slice (some ⟨w.heap.size,0,none⟩) 1 1) [(p,q)] :=
 ⟨_,1,rfl,Nat.le_refl _,by unfold maxLen;omega,fun _=>⟨w.heap.size,0,rfl,fun j u hj=>by
  rw [Nat.zero_add,(cells_at (heap_alloc_new w (.cells #[U i6 p,U i6 q] 28))).1]
  simpa [p2] using hj⟩⟩
theorem OSp.grows {w0 w w':World} {base B:Nat} {v:Value} {L:List (Int×Int)} (h:OSp w base v L) (hb:Below B w0 w) (g:w.grownBy w' v.ownBlock) (hB:B≤base) (hw:B≤w.heap.size):Below B w0 w' :=
 hb.grown g hw fun b e=>Nat.le_trans hB (h.lt b e).1
theorem grown_setB (W:World) (b i:Nat) (v:Value):W.grownBy (W.setCell ⟨b,i,none⟩ v) (some b) :=
 ⟨rfl,rfl,rfl,by simp,fun k _ hne=>Below.heap_setCell _ _ _ _ (fun e=>hne (by rw [e]))⟩
theorem OSp.set {w:World} {base B i:Nat} {v u:Value} {L:List (Int×Int)} (h:OSp w base v L) (hB:B<base):OSp (w.setCell ⟨B,i,none⟩ u) base v L:=by
 refine World.ownsRow.kept h (grown_setB w B i u) ?_
 cases e:v.ownBlock with
 | none=>exact .inl rfl
 | some b=>exact .inr fun q=>by have:=(h.lt b e).1;cases q;omega
theorem wpList_mkS {w:World} {ops:Array Oper} {rest:List Oper} {o:Oper} {a:Act} {Q:Exit→Act→World→Prop} (hg:o.guard=none) (l:Operand) (hop:o.op=Op.makeSlice 76 l l)
  (n:Nat) (hl:a.eval l=U i6 (n:Int)) (hm:n≤1000000)
  (hK:∀ cur,(w.alloc (.cells cur 28)).heap[w.heap.size]? = some (.cells cur 28 (0,0))→Cu2 cur n []→wpList Tryz.prog ops Q rest (a.put o.dst (.slice (some ⟨w.heap.size,0,none⟩) n n)) (w.alloc (.cells cur 28))) :
  wpList Tryz.prog ops Q (o :: rest) a w:=by
 obtain⟨i0,hi,hz0,hz1,hz2⟩:=info_parts Tryz.infoS
 refine wpList_plain hg fun K hK'=>?_
 have hr:=run_make (P:=Tryz.prog) w 76 28 i0 (.agg #[U i6 0,U i6 0]) Tryz.underlying76 hi hz0 .i64 .i64 n n (by omega) (by omega) (by rw [hz2];omega) (by omega)
 simp only [Int.toNat_natCast,hz1] at hr
 unfold Oper.wp
 simp only [execOp,hop,hl]
 simp [Result.andThen,hr]
 exact hK' _ _ (hK _ (heap_alloc_new w _) ⟨by rw [size_madeCells],Nat.zero_le _,by simp [p2]⟩)
section
variable {P:Program} {ops:Array Oper} {md:Region.Mode} {C:World→Prop} {Q:Exit→Act→World→Prop} {fuel:Nat} {listed:Array Bool} {a:Act} {w:World} {o:Oper}
theorem yW (i:Nat) (hC:C w) (hr:Region.ready md ops listed=[i]) (ho:ops[i]? = some o) (hg:o.guard=none)
  (h:∀ K:Act→World→Prop,(∀ a w,wpAnyC Fence.wide 3 P md ops C Q fuel (listed.setIfInBounds i true) a w→K a w)→o.wp P a w K Q):wpAnyC Fence.wide 3 P md ops C Q (fuel+1) listed a w :=
 stepC i hC hr ho fun K hK=>step_wp hg (h K hK)
theorem yR (i:Nat) (hC:C w) (hr:Region.ready md ops listed=[i]) (ho:ops[i]? = some o) (hg:o.guard=none)
  (v:Value) (w':World) (hrun:(execOp a.eval o).run P w=.ok (.value v) w') (h:wpAnyC Fence.wide 3 P md ops C Q fuel (listed.setIfInBounds i true) (a.put o.dst v) w'):wpAnyC Fence.wide 3 P md ops C Q (fuel+1) listed a w :=
 yW i hC hr ho hg fun K hK=>by unfold Oper.wp;rw [hrun,Oper.upon_value];exact hK _ _ h
theorem yT (i:Nat) (hC:C w) (hr:Region.ready md ops listed=[i]) (ho:ops[i]? = some o) (hg:o.guard=none)
  (w':World) (hrun:(execOp a.eval o).run P w=.ok .skip w') (h:wpAnyC Fence.wide 3 P md ops C Q fuel (listed.setIfInBounds i true) (a.put o.dst undef) w'):wpAnyC Fence.wide 3 P md ops C Q (fuel+1) listed a w :=
 yW i hC hr ho hg fun K hK=>by unfold Oper.wp;rw [hrun];exact hK _ _ h
theorem yK (i:Nat) (hC:C w) (hr:Region.ready md ops listed=[i]) (ho:ops[i]? = some o) (hg:o.guard=none)
  (f:FuncId) (args:Array Value) (hrun:(execOp a.eval o).run P w=.ok (.enter f args) w) {R:Ending→World→Prop} (hcall:Calls P f args w R)
  (h:∀ e w',R e w'→∃ v,e=.returned v∧wpAnyC Fence.wide 3 P md ops C Q fuel (listed.setIfInBounds i true) (a.put o.dst v) w'):wpAnyC Fence.wide 3 P md ops C Q (fuel+1) listed a w :=
 yW i hC hr ho hg fun K hK=>by
  unfold Oper.wp
  rw [hrun]
  refine Calls.mono hcall fun e w' he=>?_
  obtain⟨v,rfl,hv⟩:=h e w' he
  exact hK _ _ hv
theorem yS (i:Nat) (hC:C w) (hr:Region.ready md ops listed=[i]) (ho:ops[i]? = some o) (hg:o.guard=none)
  (ty:TypeId) (x y:Operand) (hop:o.op=.store ty x y) (g:Nat) (cells:Array Value) (hx:a.eval x=.pointer (some ⟨g,0,none⟩)) (hy:a.eval y=.agg cells) (t:TypeId) (old:Array Value) (hh:w.heap[g]? = some (.cells old t (0,0))) (hi:(P.info? ty).map (·.size)=some cells.size) (hold:old.size=cells.size) (h1:cells.all (·.oneCell')=true)
  (h:wpAnyC Fence.wide 3 P md ops C Q fuel (listed.setIfInBounds i true) (a.put o.dst undef) (w.setRow g cells)):wpAnyC Fence.wide 3 P md ops C Q (fuel+1) listed a w :=
 yW i hC hr ho hg fun K hK=>wp_store_row ty x y hop g cells hx hy t old hh hi hold h1 (hK _ _ h)
theorem y2 (i j:Nat) (hC:C w) (hr:Region.ready md ops listed=[i,j])
  (h1:wpOpIn Fence.wide 3 P ops Q i (wpAnyC Fence.wide 3 P md ops C Q fuel (listed.setIfInBounds i true)) a w)
  (h2:wpOpIn Fence.wide 3 P ops Q j (wpAnyC Fence.wide 3 P md ops C Q fuel (listed.setIfInBounds j true)) a w):wpAnyC Fence.wide 3 P md ops C Q (fuel+1) listed a w :=
 ⟨hC,fun h0=>(by rw [hr] at h0;cases h0),fun k hk=>by
  rw [hr] at hk
  simp only [List.mem_cons,List.not_mem_nil,or_false] at hk
  rcases hk with rfl | rfl
  ·exact h1
  ·exact h2⟩
end
open Go.ChangeShapes Go.WideShapes Go.ChangeAt Go.RowKit Go.Shelf
def Kps (n0:Nat) (bs:List Nat) (A B:World):Prop:=Below n0 A B∧Kept bs A B
theorem Kps.trans {n0:Nat} {bs:List Nat} {A B C:World} (h:Kps n0 bs A B) (k:Kps n0 bs B C):Kps n0 bs A C:=⟨h.1.trans k.1,h.2.trans k.2⟩
theorem Kps.put {n0:Nat} {bs:List Nat} {W:World} {l:Nat} {o:Obj} (o':Obj) (hl:W.heap[l]? = some o) (ho:o.isCells=false) (hn:n0≤l):Kps n0 bs W (W.putObj l o') :=
 ⟨(Below.refl n0 W).grown (grownBy_putObj' W l o') (Nat.le_trans hn (Nat.le_of_lt (lt_of_heap hl))) (fun r e=>by cases e;exact hn),Kept.put W l o o' hl ho⟩
theorem Kps.of {n0:Nat} {bs:List Nat} {A B:World} (h:Below A.heap.size A B) (hn:n0≤A.heap.size):Kps n0 bs A B:=⟨h.mono hn,Kept.below h⟩
def Tch (b:Nat) (w w':World):Prop:=w'.os=w.os∧w'.tape=w.tape∧w'.output=w.output∧w.heap.size≤w'.heap.size∧∀ i,i<w.heap.size→i≠b→w'.heap[i]? = w.heap[i]?
theorem Tch.refl (b:Nat) (w:World):Tch b w w:=⟨rfl,rfl,rfl,Nat.le_refl _,fun _ _ _=>rfl⟩
theorem Tch.trans {b:Nat} {w w1 w2:World} (h:Tch b w w1) (k:Tch b w1 w2):Tch b w w2 :=
 ⟨k.1.trans h.1,k.2.1.trans h.2.1,k.2.2.1.trans h.2.2.1,Nat.le_trans h.2.2.2.1 k.2.2.2.1,fun i hi h1=>(k.2.2.2.2 i (Nat.lt_of_lt_of_le hi h.2.2.2.1) h1).trans (h.2.2.2.2 i hi h1)⟩
theorem Tch.of {b:Nat} {w w':World} (h:Below w.heap.size w w'):Tch b w w':=⟨h.os,h.tape,h.output,h.size,fun i hi _=>h.block i hi⟩
theorem Tch.bel {b:Nat} {w w1 w2:World} (h:Tch b w w1) (k:Below w1.heap.size w1 w2):Tch b w w2:=h.trans (Tch.of k)
theorem Tch.size {b:Nat} {w w':World} (h:Tch b w w'):w.heap.size≤w'.heap.size:=h.2.2.2.1
theorem Tch.set {b B i:Nat} {v:Value} {w w1:World} (h:Tch b w w1) (hB:B=b∨w.heap.size≤B):Tch b w (w1.setCell ⟨B,i,none⟩ v) :=
 ⟨h.1,h.2.1,h.2.2.1,by simpa using h.size,fun j hj h1=>(Below.heap_setCell _ _ _ _ (by show j≠B;omega)).trans (h.2.2.2.2 j hj h1)⟩
theorem Tch.below {b n0:Nat} {w w':World} (h:Tch b w w') (hn:n0≤b) (hs:n0≤w.heap.size):Below n0 w w':=⟨h.1,h.2.1,h.2.2.1,h.size,fun k hk=>h.2.2.2.2 k (by omega) (by omega)⟩
theorem Tch.kept {b:Nat} {bs:List Nat} {w w':World} (h:Tch b w w') (hb:∀ x∈bs,x≠b):Kept bs w w':=fun x hx c t hc=>(h.2.2.2.2 x (lt_of_heap hc) (hb x hx)).trans hc
theorem Tch.kps {b n0:Nat} {bs:List Nat} {w w':World} (h:Tch b w w') (hn:n0≤b) (hs:n0≤w.heap.size) (hb:∀ x∈bs,x≠b):Kps n0 bs w w':=⟨h.below hn hs,h.kept hb⟩
theorem Tch.from {b B:Nat} {w w':World} (h:Tch b w w') (hB:b<B):KeepsFrom B w w':=⟨h.size,fun k o hk ho _=>(h.2.2.2.2 k (lt_of_heap ho) (by omega)).trans ho⟩
theorem Tch.cell {b B i:Nat} {v:Value} {w w':World} (h:Tch b w w') (hc:w.cell? ⟨B,i,none⟩=some v) (h1:B≠b):w'.cell? ⟨B,i,none⟩=some v :=
 (World.cell?_of_block (h.2.2.2.2 B (World.block_lt_of_cell? w _ hc) h1)).trans hc
theorem Tch.grown {b:Nat} {w w':World} (h:Tch b w w'):w.grownBy w' (some b):=⟨h.1,h.2.1,h.2.2.1,h.size,fun i hi hne=>h.2.2.2.2 i hi (fun e=>hne (by rw [e]))⟩
def AbAll (B:Nat) (J:Nat→World→Prop):Prop:=∀ s W W' row,J s W→W.grownBy W' row→(∀ r,row=some r→B≤r)→J s W'
theorem AbAll.bel {B:Nat} {J:Nat→World→Prop} (hJ:AbAll B J) {s:Nat} {W W':World} (h:J s W) (k:Below W.heap.size W W'):J s W':=hJ s W W' none h (grownBy_of_below k) (fun r e=>by cases e)
theorem AbAll.putObj {B:Nat} {J:Nat→World→Prop} (hJ:AbAll B J) {s l:Nat} {W:World} (o':Obj) (h:J s W) (hB:B≤l):J s (W.putObj l o'):=hJ s W _ (some l) h (grownBy_putObj' W l o') (fun r e=>by cases e;exact hB)
def KX (x:Value) (A B:World):Prop:=∀ a n c,x=.slice (some a) n c→Kept [a.block] A B
theorem KX.trans {x:Value} {A B C:World} (h:KX x A B) (k:KX x B C):KX x A C:=fun a n c e=>(h a n c e).trans (k a n c e)
theorem KX.put {x:Value} {W:World} {l:Nat} {o:Obj} (o':Obj) (hl:W.heap[l]? = some o) (ho:o.isCells=false):KX x W (W.putObj l o'):=fun a n c e=>Kept.put W l o o' hl ho
theorem Tch.kx {b:Nat} {x:Value} {w w':World} (h:Tch b w w') (hb:∀ a n c,x=.slice (some a) n c→a.block≠b):KX x w w':=fun a n c e=>h.kept fun y hy=>by
 obtain rfl:y=a.block:=by simpa using hy
 exact hb a n c e
def Sq (n0 nb:Nat) (bs:List Nat) (Pr:World→Prop) (w:World) (v:Value) (Y:Nat→List (Int×Int)) (N:Nat):Prop :=
 ∃ g lb,v=.func (.func g) #[] lb∧(∀ args w,(callFunc g args).run Tryz.prog w=.ok (.enter g args) w) ∧
  ∀ (l m:Nat) (J:Nat→World→Prop) (W:World),Below w.heap.size w W→AbAll W.heap.size J→(∀ k W1,J k W1→Pr W1) →
   (∀ k x W1,J k W1→k<N→SpV W1 x (Y k)→Nb nb x→YieldAt Fence.wide (m-1) Tryz.prog l #[x] W1 fun e W'=>e=.returned (.bool true)∧J (k+1) W'∧Kps n0 bs W1 W'∧KX x W1 W') →
   J 0 W→CallsIn Fence.wide m Tryz.prog g (#[.func (.yield l) #[] #[]]++lb) W fun e W'=>(∃ v,e=.returned v)∧J N W'
def sqPost (B n0:Nat) (bs:List Nat) (x:Value) (I:World→Prop) (W:World):Exit→Act→World→Prop
 | .normal,_,W'=>KeepsFrom B W W'∧Kps n0 bs W W'∧KX x W W'∧I W'
 | _,_,_=>False
theorem SpV.turn {W W':World} {v:Value} {L:List (Int×Int)} {row:Option Nat} (h:SpV W v L) (hg:W.grownBy W' row) (hr:∀ r,row=some r→∃ o:Obj,W.heap[r]? = some o∧o.isCells=false):SpV W' v L:=by
 obtain⟨a,cap,h1,h2,h3,h4⟩:=h
 refine⟨a,cap,h1,h2,h3,fun h0=>?_⟩
 obtain⟨g,o,e,hc⟩:=h4 h0
 exact⟨g,o,e,fun j u hj=>cell_kept (hc j u hj) hg hr⟩
def markD (D:Nat):Deferred:={ target:=.collected D,args:=#[] }
theorem range_sq {g:Operand} {ps:Array Tmp} {assign body:Code} {Q:Exit→Act→World→Prop} {a:Act} {w:World} {n n0 nb N:Nat} {bs:List Nat} {v:Value} {Y:Nat→List (Int×Int)} {Pr:World→Prop} (it:Sq n0 nb bs Pr w v Y N) (hg:a.eval g=v) (hps:ps.size=1) (hn:1≤n) (hn0:n0≤w.heap.size)
  (I:Nat→World→Prop) (hI:AbAll w.heap.size I) (hPr:∀ k W,I k W→Pr W) (h0:I 0 w) (a₁:Value→Act)
  (hassign:∀ (l:Nat) (x:Value) (W:World) (K:Act→World→Prop),K (a₁ x) W →
    assign.wpIn (Fence.wide.inRound l) (n-1-1) Tryz.prog (Exit.then K (fun _ _ _=>False)) { tmps:=(ps.zip #[x]).foldl (fun t (p,v)=>t.setIfInBounds p v) a.tmps,defers:=[] } W)
  (hbody:∀ (l k:Nat) (x:Value) (W:World),I k W→k<N→SpV W x (Y k)→Nb nb x→body.wpIn (Fence.wide.inRound l) (n-1-1) Tryz.prog (sqPost w.heap.size n0 bs x (I (k+1)) W) (a₁ x) W)
  (hdone:∀ (D:Nat) (W:World),w.heap.size≤D→I N W→W.heap[D]? = some (.deferred (some []))→Q .normal { a with defers:=markD D :: a.defers } W) :
  (Code.rangeFunc g ps assign body).wpIn Fence.wide n Tryz.prog Q a w:=by
 obtain⟨gf,lb,rfl,heg,hseq⟩:=it
 refine wpIn_rangeFunc fun fn hfn=>?_
 let rec':LoopState→Loop:=fun st=>{ state:=st,pending:=none,fn,tmps:=a.tmps,params:=ps,assign,body,defers:=w.heap.size }
 let L:=w.heap.size+1
 let R1:Obj:=.loop (rec' .ready)
 have hW1:((w.alloc (.deferred (some []))).alloc R1).heap[L]? = some R1:=by
  have:=World.alloc_heap_new (w.alloc (.deferred (some []))) R1
  rwa [World.size_alloc] at this
 have hD1:((w.alloc (.deferred (some []))).alloc R1).heap[w.heap.size]? = some (.deferred (some [])):=(Below.heap_alloc _ _ _ (by simp)).trans (World.alloc_heap_new w _)
 have hb1:Below w.heap.size w ((w.alloc (.deferred (some []))).alloc R1):=((Below.refl _ w).alloc (Nat.le_refl _) _).alloc (by simp) _
 refine⟨L,[markD w.heap.size],(w.alloc (.deferred (some []))).alloc R1,{ target:=.fn (.func gf) lb,args:=#[.func (.yield L) #[] #[]] },(w.alloc (.deferred (some []))).alloc R1,gf,#[.func (.yield L) #[] #[]]++lb,(w.alloc (.deferred (some []))).alloc R1,run_enterLoop_outer _ _ _ _ _,?_,?_,?_,fun _=>hn,?_⟩
 ·simp only [resolve,hg]
  simp [go_sem]
 ·intro f' hf';exact trivial
 ·simp [invoke,go_sem,heg]
 refine (hseq L (n-1) (fun k W=>I k W∧W.heap[L]? = some R1∧W.heap[w.heap.size]? = some (.deferred (some []))) _ hb1 ?_ (fun k W1 h=>hPr k W1 h.1) ?_ ⟨hI.bel h0 hb1,hW1,hD1⟩).mono ?_
 ·rintro k A B row ⟨h1,h2,h3⟩ hgr hr
  have hr':∀ r,row=some r→w.heap.size+1+1≤r:=fun r e=>by have q:=hr r e;simp at q;exact q
  exact⟨hI k A B row h1 hgr (fun r e=>by have:=hr' r e;omega),(hgr.block L (lt_of_heap h2) (fun e=>by have:=hr' L e.symm;omega)).trans h2,(hgr.block _ (lt_of_heap h3) (fun e=>by have:=hr' _ e.symm;omega)).trans h3⟩
 ·rintro k x W ⟨h1,h2,h3⟩ hk hx hxn
  refine⟨fn,_,assign,body,run_yield (P:=Tryz.prog) (args:=#[x]) h2 hps.symm,roundIn_of_wpIn hfn (hassign L x W _ ?_)⟩
  have hlt:=lt_of_heap h2
  have e2:(W.putObj L (.loop { rec' .ready with state:=.busy })).heap[L]? = some (.loop { rec' .ready with state:=.busy }):=World.putObj_heap_same hlt
  have e3:(W.putObj L (.loop { rec' .ready with state:=.busy })).heap[w.heap.size]? = some (.deferred (some [])):=(World.putObj_heap_other (by omega)).trans h3
  refine⟨_,run_beginRound h2 rfl,?_⟩
  refine wpIn_mono (hbody L k x _ (hI.putObj _ h1 (by omega)) hk (hx.turn (grownBy_putObj' W L _) fun r e=>by cases e;exact⟨_,h2,rfl⟩) hxn) ?_
  rintro e a3 W3 hp
  cases e with
  | normal =>
   obtain⟨k1,k2,kx,k3⟩:=hp
   have g2:=k1.same L _ (by omega) e2 rfl
   have g3:=k1.same _ _ (Nat.le_refl _) e3 rfl
   refine⟨_,_,run_endRound (P:=Tryz.prog) none g2,rfl,⟨hI.putObj _ k3 (by omega),World.putObj_heap_same (lt_of_heap g2),(World.putObj_heap_other (by omega)).trans g3⟩,((Kps.put _ h2 rfl (by omega)).trans k2).trans (Kps.put _ g2 rfl (by omega)),?_⟩
   exact ((KX.put _ h2 rfl).trans kx).trans (KX.put _ g2 rfl)
  | ret=>exact hp.elim
  | exit id=>exact hp.elim
  | goto t=>exact hp.elim
  | panic ch=>exact hp.elim
  | outgrown=>exact hp.elim
 ·rintro e W2 ⟨⟨u,rfl⟩,h1,h2,h3⟩
  exact⟨none,_,run_endLoop (P:=Tryz.prog) h2 (by simp [rec']),hdone _ _ (Nat.le_refl _) (hI.putObj _ h1 (by omega)) ((World.putObj_heap_other (by omega)).trans h3)⟩
theorem St.turn {w0 w w':World} {l:List (Nat×Array Value×TypeId)} {row:Option Nat} (h:St w0 w l) (g:w.grownBy w' row) (hr:∀ r,row=some r→w0.heap.size≤r∧∃ o:Obj,w.heap[r]? = some o∧o.isCells=false):St w0 w' l :=
 ⟨h.1.grown g h.1.size fun r e=>(hr r e).1,fun x hx=>⟨(grownBy_keeps_cells g (fun r e=>(hr r e).2) (h.2 x hx).1 rfl).trans (h.2 x hx).1,(h.2 x hx).2⟩⟩
theorem OSp.turn {w w':World} {base:Nat} {v:Value} {L:List (Int×Int)} {row:Option Nat} (h:OSp w base v L) (g:w.grownBy w' row) (hr:∀ r,row=some r→∃ o:Obj,w.heap[r]? = some o∧o.isCells=false):OSp w' base v L:=by
 refine World.ownsRow.kept h g ?_
 rcases h.2 with ⟨rfl,_⟩ | ⟨b,cap,cur,rfl,_,hb,_⟩
 ·exact .inl rfl
 ·refine .inr fun e=>?_
  obtain⟨o,ho,hn⟩:=hr b (by rw [← e];rfl)
  rw [hb] at ho;cases ho;cases hn
theorem Kps.row {n0:Nat} {bs:List Nat} {w w':World} {base:Nat} {v:Value} {L:List (Int×Int)} (h:OSp w base v L) (g:w.grownBy w' v.ownBlock) (hn:n0≤w.heap.size) (hb:n0≤base) (hbs:∀ b∈bs,b<base):Kps n0 bs w w' :=
 ⟨h.grows (Below.refl _ _) g hb hn,Kept.grown g fun b e hm=>by have:=(h.lt b e).1;have:=hbs b hm;omega⟩
theorem Kps.set {n0:Nat} {bs:List Nat} (w:World) {B i:Nat} {v:Value} (hn:n0≤B) (hbs:∀ b∈bs,b≠B):Kps n0 bs w (w.setCell ⟨B,i,none⟩ v) :=
 ⟨(Below.refl n0 w).setCell (p:=⟨B,i,none⟩) hn v,fun b hb c t hc=>by rw [Below.heap_setCell _ _ _ _ (hbs b hb)];exact hc⟩
def Qm (M:Act→World→Prop):Exit→Act→World→Prop
 | .normal,a,w=>M a w
 | _,_,_=>False
theorem bone_any (x:Int) (W:World):Calls Tryz.prog 39 #[U i6 x] W fun e w'=>e=.returned (.agg #[U i6 x,U i6 x])∧Below W.heap.size W w':=by
 go_enter Tryz.func39,Tryz.ntmps39
 go_wp2
 exact bodyPost_ret (v:=.agg #[U i6 x,U i6 x]) (by simp [results,Tryz.results39,go_sem]) rfl ⟨rfl,bal _ _⟩
theorem bplus_ok (a b:Int×Int) (W:World) (ha:Vd 10000000000 a) (hb:Vd 10000000000 b):Calls Tryz.prog 40 #[.agg #[U i6 a.1,U i6 a.2],.agg #[U i6 b.1,U i6 b.2]] W fun e w'=>e=.returned (.agg #[U i6 (plS a b).1,U i6 (plS a b).2])∧Below W.heap.size W w':=by
 obtain⟨a1,a2⟩:=a
 obtain⟨b1,b2⟩:=b
 obtain⟨h1,h2,h3⟩:=ha.sm (by omega)
 obtain⟨g1,g2,g3⟩:=hb.sm (by omega)
 have HA:Hid (∀ w,_):=fun w=>xadd_ok a1 a2 b1 b2 w h3 g3 h1 h2 g1 g2
 clear ha hb h1 h2 h3 g1 g2 g3
 simp only [plS]
 go_enter Tryz.func40,Tryz.ntmps40
 go_wp2_with fail
 refine (HA.out _).mono ?_
 rintro e w1 ⟨rfl,hb⟩
 have s1:=((St.start W).new.new.new.call hb).new (c:=#[U i6 (a1+b1),U i6 (a2+b2)]) (t:=28)
 simp only [World.size_alloc] at s1
 obtain⟨c0,f0,z0,c1,f1,z1,-⟩:=s1.rules
 have s2:=s1.up1.out2 (i:=0) (j:=1) (u:=U i6 (a1+b1)) (v:=U i6 (a2+b2))
 clear hb s1
 go_wp2
 exact bodyPost_ret (v:=.agg #[U i6 (a1+b1),U i6 (a2+b2)]) (by simp [results,Tryz.results40,go_sem, *]) rfl ⟨rfl,s2⟩
def vbB (lo hi:Int):Bool:=decide (-128≤lo∧lo≤hi∧hi≤127)
theorem vbB_yes {lo hi:Int} (h:vbB lo hi=true):-128≤lo∧lo≤hi∧hi≤127:=by simpa [vbB] using h
theorem bofv_any (lo hi:Int) (W:World):Calls Tryz.prog 56 #[.agg #[U i6 lo,U i6 hi]] W fun e w'=>e=.returned (.bool (vbB lo hi))∧Below W.heap.size W w':=by
 have HH:Hid (∀ w,Calls Tryz.prog 75 #[.agg #[U i6 (-128),U i6 127],.agg #[U i6 lo,U i6 hi]] w fun e w'=>e=.returned (.bool (vbB lo hi))∧Below w.heap.size w w'):=fun w=>by
  have:=xholds_any (-128) 127 lo hi w
  have e:xho (-128) 127 lo hi=vbB lo hi:=by unfold xho vbB;rw [Bool.eq_iff_iff];simp;omega
  rwa [e] at this
 go_enter Tryz.func56,Tryz.ntmps56
 go_wp2_with fail
 refine (HH.out _).mono ?_
 rintro e w1 ⟨rfl,hb⟩
 have s1:=(St.start W).new.call hb
 clear hb
 go_wp2
 go_ret
 exact⟨rfl,s1.below⟩
theorem bprod_any (ch n:Int) (fa:Option Addr) (fl fc:Nat) (bi slo shi p h w c:Int) (g0:Nat) (q:Nat) (W:World) (hq:W.heap[q]? = some (.cells #[U i6 ch,U i6 n,Sl fa fl fc,U i6 bi,U i6 slo,U i6 shi,U i6 p,U i6 p,U i6 h,U i6 w,U i6 c,U i6 0,U i6 0,Sl (some ⟨g0,0,none⟩) 1 1,U i6 0] 95 (0,0))) (t:Int×Int) (hs:-128≤slo∧slo≤shi∧shi≤127) (hp:-128≤p∧p≤127) (ht:-32768≤t.1∧t.1≤32767) :
  Calls Tryz.prog 79 #[.pointer (some ⟨q,0,none⟩),.agg #[U i6 t.1,U i6 t.2]] W fun e w'=>e=.returned (.agg #[U i6 (tmE slo shi p t).1,U i6 (tmE slo shi p t).2])∧Below W.heap.size W w':=by
 obtain⟨t1,t2⟩:=t
 obtain⟨y1,y2,y3⟩:=cells_at hq
 simp only at ht
 obtain⟨q1,q2⟩:=prod_bd (a:=slo) (by omega) ht
 obtain⟨q3,q4⟩:=prod_bd (a:=shi) (by omega) ht
 obtain⟨q5,q6⟩:=prod_bd hp ht
 have HS:Hid (∀ w,_):=fun w=>xtimes_ok slo shi t1 w hs.2.1 (by unfold Sm;omega) (by unfold Sm;omega) (by unfold Sm;omega)
 have HP:Hid (∀ w,_):=fun w=>xtimes_ok p p t1 w (Int.le_refl _) (by unfold Sm;omega) (by unfold Sm;omega) (by unfold Sm;omega)
 clear hs hp ht q1 q2 q3 q4 q5 q6
 have s0:=((((St.start W).new (c:=#[U i6 t1,U i6 t2]) (t:=91)).new (c:=#[U i6 0,U i6 0]) (t:=28)).new (c:=#[U i6 slo,U i6 shi]) (t:=28))
 simp only [World.size_alloc] at s0
 have HQ:Hid (W.heap[q]? = some (.cells #[U i6 ch,U i6 n,Sl fa fl fc,U i6 bi,U i6 slo,U i6 shi,U i6 p,U i6 p,U i6 h,U i6 w,U i6 c,U i6 0,U i6 0,Sl (some ⟨g0,0,none⟩) 1 1,U i6 0] 95 (0,0))):=hq
 clear hq
 by_cases neg:t2<0
 ·have HE:Hid (tmE slo shi p (t1,t2)=xti p p t1):=by unfold Hid tmE xti;rw [if_pos neg];simp
  rw [HE.out]
  obtain⟨e1,e2,hx⟩:∃ e1 e2,xti p p t1=(e1,e2):=⟨_,_,rfl⟩
  rw [hx] at HP ⊢
  clear hx
  clear HE HS
  go_enter Tryz.func79,Tryz.ntmps79
  go_upto_region 2 with fail
  obtain⟨w0,hw0⟩:∃ w0,(((W.alloc (.cells #[U i6 t1,U i6 t2] 91)).alloc (.cells #[U i6 0,U i6 0] 28)).alloc (.cells #[U i6 slo,U i6 shi] 28))=w0:=⟨_,rfl⟩
  rw [hw0] at s0 ⊢
  clear y1 y2 hw0
  obtain⟨y1,y2,-⟩:=cells_at ((s0.below.block q y3).trans HQ.out)
  obtain⟨c0,f0,z0,c1,f1,z1,c2,f2,z2,-⟩:=s0.rules
  have s1:=s0.set2 (u:=U i6 p) (v:=U i6 p) (by simp;omega)
  go_wp2_with fail
  refine (HP.out _).mono ?_
  rintro e w1 ⟨rfl,hb⟩
  have s2:=(s1.call hb).new (c:=#[U i6 e1,U i6 e2]) (t:=28)
  clear c0 f0 z0 c1 f1 z1 c2 f2 z2 y1 y2 s0 s1 hb
  obtain⟨c0,f0,z0,c1,f1,z1,c2,f2,z2,-⟩:=s2.rules
  have s3:=s2.up2.out2 (i:=0) (j:=1) (u:=U i6 e1) (v:=U i6 e2)
  clear s2
  go_wp2
  exact bodyPost_ret (v:=.agg #[U i6 e1,U i6 e2]) (by simp [results,Tryz.results79,go_sem, *]) rfl ⟨rfl,s3⟩
 ·have HE:Hid (tmE slo shi p (t1,t2)=xti slo shi t1):=by unfold Hid tmE;rw [if_neg neg]
  rw [HE.out]
  obtain⟨e1,e2,hx⟩:∃ e1 e2,xti slo shi t1=(e1,e2):=⟨_,_,rfl⟩
  rw [hx] at HS ⊢
  clear hx
  clear HE HP
  go_enter Tryz.func79,Tryz.ntmps79
  go_upto_region 2 with fail
  obtain⟨w0,hw0⟩:∃ w0,(((W.alloc (.cells #[U i6 t1,U i6 t2] 91)).alloc (.cells #[U i6 0,U i6 0] 28)).alloc (.cells #[U i6 slo,U i6 shi] 28))=w0:=⟨_,rfl⟩
  rw [hw0] at s0 ⊢
  clear y1 y2 hw0
  obtain⟨c0,f0,z0,c1,f1,z1,c2,f2,z2,-⟩:=s0.rules
  go_wp2_with fail
  refine (HS.out _).mono ?_
  rintro e w1 ⟨rfl,hb⟩
  have s2:=(s0.call hb).new (c:=#[U i6 e1,U i6 e2]) (t:=28)
  clear c0 f0 z0 c1 f1 z1 c2 f2 z2 s0 hb
  obtain⟨c0,f0,z0,c1,f1,z1,c2,f2,z2,-⟩:=s2.rules
  have s3:=s2.up2.out2 (i:=0) (j:=1) (u:=U i6 e1) (v:=U i6 e2)
  clear s2
  go_wp2
  exact bodyPost_ret (v:=.agg #[U i6 e1,U i6 e2]) (by simp [results,Tryz.results79,go_sem, *]) rfl ⟨rfl,s3⟩
theorem blen_any (ch n:Int) (fa:Option Addr) (fl fc:Nat) (bi slo shi p h w c:Int) (g0:Nat) (q:Nat) (W:World) (hq:W.heap[q]? = some (.cells #[U i6 ch,U i6 n,Sl fa fl fc,U i6 bi,U i6 slo,U i6 shi,U i6 p,U i6 p,U i6 h,U i6 w,U i6 c,U i6 0,U i6 0,Sl (some ⟨g0,0,none⟩) 1 1,U i6 0] 95 (0,0))):Calls Tryz.prog 77 #[.pointer (some ⟨q,0,none⟩)] W fun e w'=>e=.returned (U i6 (fl:Int))∧w'=W:=by
 obtain⟨y1,y2,y3⟩:=cells_at hq
 clear hq
 go_enter Tryz.func77,Tryz.ntmps77
 go_wp2
 go_ret
 exact⟨rfl,rfl⟩
theorem bterms_any (ch n:Int) (fa:Option Addr) (fl fc:Nat) (bi slo shi p h w c:Int) (g0:Nat) (q:Nat) (W:World) (hq:W.heap[q]? = some (.cells #[U i6 ch,U i6 n,Sl fa fl fc,U i6 bi,U i6 slo,U i6 shi,U i6 p,U i6 p,U i6 h,U i6 w,U i6 c,U i6 0,U i6 0,Sl (some ⟨g0,0,none⟩) 1 1,U i6 0] 95 (0,0))) (n0:Nat) (at' b':Int) (TL:List (Int×Int)) (hF:TV W (.slice fa fl fc) TL∨at'≠0) (hfa:∀ a,fa=some a→a.block<n0)
  (hO:at'≠0→∀ W',Below W.heap.size W W'→Calls Tryz.prog 55 #[.agg #[U i6 h,U i6 w,U i6 c,U i6 0,U i6 0,Sl (some ⟨g0,0,none⟩) 1 1,U i6 0],U i6 1,U i6 ch,U i6 at'] W' fun e w'=>(∃ v,e=.returned (.tuple #[v,U i6 b',U i6 0])∧OTm w' W'.heap.size v TL)∧Below W'.heap.size W' w') :
  Calls Tryz.prog 78 #[.pointer (some ⟨q,0,none⟩),U i6 at'] W fun e w'=>(∃ u,e=.returned u∧TV w' u TL∧∀ a n c,u=.slice (some a) n c→a.block<n0∨W.heap.size≤a.block)∧Below W.heap.size W w':=by
 by_cases h0:at'=0
 ·subst h0
  have hT:Hid (TV W (.slice fa fl fc) TL):=by
   rcases hF with h | h
   ·exact h
   ·exact absurd rfl h
  obtain⟨y1,y2,y3⟩:=cells_at hq
  clear hq hO hF
  go_enter Tryz.func78,Tryz.ntmps78
  go_wp2
  go_ret
  exact⟨⟨_,rfl,hT.out,fun a n c e=>.inl (hfa a (by simpa using (Value.slice.inj e).1))⟩,Below.refl _ _⟩
 have h0':(at' == 0)=false:=by simp [h0]
 have HO:Hid (∀ W',Below W.heap.size W W'→_):=hO h0
 have HQ:Hid (W.heap[q]? = some (.cells #[U i6 ch,U i6 n,Sl fa fl fc,U i6 bi,U i6 slo,U i6 shi,U i6 p,U i6 p,U i6 h,U i6 w,U i6 c,U i6 0,U i6 0,Sl (some ⟨g0,0,none⟩) 1 1,U i6 0] 95 (0,0))):=hq
 have hqz:=lt_of_heap hq
 clear hO hq hF hfa
 go_enter Tryz.func78,Tryz.ntmps78
 go_upto_region 3 with fail
 refine regionC (fun w'=>Below W.heap.size W w') (by kernel_rfl) ?_
 obtain⟨w3,hw3⟩:∃ w3,W.drew=w3:=⟨_,rfl⟩
 have B3:Hid (Below W.heap.size W w3):=by unfold Hid;rw [← hw3];exact (Below.refl _ _).drew
 rw [hw3]
 clear hw3
 have HC:Hid (∀ w',Below W.heap.size W w'→∀ i,w'.cell? ⟨q,i,none⟩=(#[U i6 ch,U i6 n,Sl fa fl fc,U i6 bi,U i6 slo,U i6 shi,U i6 p,U i6 p,U i6 h,U i6 w,U i6 c,U i6 0,U i6 0,Sl (some ⟨g0,0,none⟩) 1 1,U i6 0])[i]?):=fun w' hb=>(cells_at ((hb.block q hqz).trans HQ.out)).1
 refine takeC 0 (v:=.pointer (some ⟨q,0,none⟩)) rfl rfl (by kernel_rfl) (by kernel_rfl) (by kernel_rfl) (fun _ _ _ h=>h) (fun _=>rfl) rfl (fun w' hw'=>by go_simp) ?_
 refine takeC 1 (v:=.pointer (some ⟨q,0,none⟩)) rfl rfl (by kernel_rfl) (by kernel_rfl) (by kernel_rfl) (fun _ _ _ h=>h) (fun _=>rfl) rfl (fun w' hw'=>by go_simp) ?_
 refine takeC 2 (v:=.pointer (some ⟨q,8,none⟩)) rfl rfl (by kernel_rfl) (by kernel_rfl) (by kernel_rfl) (fun _ _ _ h=>h) (fun _=>rfl) rfl (fun w' hw'=>by go_simp) ?_
 refine takeC 3 (v:=.agg #[U i6 h,U i6 w,U i6 c,U i6 0,U i6 0,Sl (some ⟨g0,0,none⟩) 1 1,U i6 0]) rfl rfl (by kernel_rfl) (by kernel_rfl) (by kernel_rfl) (fun _ _ _ h=>h) (fun _=>rfl) rfl (fun w' hw'=>run_la 26 (.tmp 17) rfl ⟨q,8,none⟩ (by kernel_rfl) [U i6 h,U i6 w,U i6 c,U i6 0,U i6 0,Sl (some ⟨g0,0,none⟩) 1 1,U i6 0] _ (fun j v hj=>by
  rw [Addr.add_lit,HC.out w' hw']
  have:=(List.getElem?_eq_some_iff.1 hj).1
  rcases (show j=0∨j=1∨j=2∨j=3∨j=4∨j=5∨j=6 by simp at this; omega) with rfl | rfl | rfl | rfl | rfl | rfl | rfl<;>simpa using hj) Tryz.underlying26 rfl (by kernel_rfl)) ?_
 refine takeC 4 (v:=.pointer (some ⟨q,0,none⟩)) rfl rfl (by kernel_rfl) (by kernel_rfl) (by kernel_rfl) (fun _ _ _ h=>h) (fun _=>rfl) rfl (fun w' hw'=>by go_simp) ?_
 refine takeC 5 (v:=.pointer (some ⟨q,0,none⟩)) rfl rfl (by kernel_rfl) (by kernel_rfl) (by kernel_rfl) (fun _ _ _ h=>h) (fun _=>rfl) rfl (fun w' hw'=>by go_simp) ?_
 refine takeC 6 (v:=.pointer (some ⟨q,0,none⟩)) rfl rfl (by kernel_rfl) (by kernel_rfl) (by kernel_rfl) (fun _ _ _ h=>h) (fun _=>rfl) rfl (fun w' hw'=>by go_simp) ?_
 refine takeC 7 (v:=U i6 ch) rfl rfl (by kernel_rfl) (by kernel_rfl) (by kernel_rfl) (fun _ _ _ h=>h) (fun _=>rfl) rfl (fun w' hw'=>by have:=HC.out w' hw';go_simp) ?_
 refine takeC 8 (v:=U i6 at') rfl rfl (by kernel_rfl) (by kernel_rfl) (by kernel_rfl) (fun _ _ _ h=>h) (fun _=>rfl) rfl (fun w' hw'=>by go_simp) ?_
 refine yK 9 B3.out (by kernel_rfl) rfl rfl 55 #[.agg #[U i6 h,U i6 w,U i6 c,U i6 0,U i6 0,Sl (some ⟨g0,0,none⟩) 1 1,U i6 0],U i6 1,U i6 ch,U i6 at'] (by kernel_rfl) (HO.out w3 B3.out) ?_
 rintro e w4 ⟨⟨tv,rfl,ho⟩,hb4⟩
 refine⟨_,rfl,?_⟩
 have B4:Hid (Below W.heap.size W w4):=B3.out.trans (hb4.mono B3.out.size)
 have OT:Hid (TV w4 tv TL):=ho.tv
 have OB:Hid (∀ b,tv.ownBlock=some b→_):=ho.lt
 have h3z:=B3.out.size
 obtain⟨ta,tc,rfl⟩:=ho.slice
 clear ho hb4 B3
 refine takeC 10 (v:=.tuple #[Sl ta TL.length tc,U i6 b',U i6 0]) rfl rfl (by kernel_rfl) (by kernel_rfl) (by kernel_rfl) (fun _ _ _ h=>h) (fun _=>rfl) rfl (fun w' hw'=>by go_simp) ?_
 refine takeC 11 (v:=.slice ta TL.length tc) rfl rfl (by kernel_rfl) (by kernel_rfl) (by kernel_rfl) (fun _ _ _ h=>h) (fun _=>rfl) rfl (fun w' hw'=>by go_simp) ?_
 refine takeC 12 (v:=U i6 b') rfl rfl (by kernel_rfl) (by kernel_rfl) (by kernel_rfl) (fun _ _ _ h=>h) (fun _=>rfl) rfl (fun w' hw'=>by go_simp) ?_
 refine takeC 13 (v:=U i6 0) rfl rfl (by kernel_rfl) (by kernel_rfl) (by kernel_rfl) (fun _ _ _ h=>h) (fun _=>rfl) rfl (fun w' hw'=>by go_simp) ?_
 refine yR 14 B4.out (by kernel_rfl) rfl rfl (.slice ta TL.length tc) w4 (by go_simp) ?_
 refine yR 15 B4.out (by kernel_rfl) rfl rfl (U i6 b') w4 (by go_simp) ?_
 refine yR 16 B4.out (by kernel_rfl) rfl rfl (U i6 0) w4 (by go_simp) ?_
 refine doneC B4.out (by kernel_rfl) ?_ _
 clear HC
 go_wp2
 go_ret
 refine⟨⟨_,rfl,OT.out,fun a n c e=>.inr ?_⟩,B4.out⟩
 have e1:ta=some a:=(Value.slice.inj e).1
 subst e1
 have:=OB.out a.block rfl
 omega
attribute [local go_sem] Oper.semAt_some
theorem abide_b {B:Nat} {J:Nat→World→Prop} (hJ:AbAll B J) {s:Nat} {W W':World} (h:J s W) (k:Below W.heap.size W W'):J s W':=hJ.bel h k
theorem brows1_in (m l B q n0 nb:Nat) (ch n:Int) (fa:Option Addr) (fl fc:Nat) (bi slo shi p h w c:Int) (g0:Nat) (TL:Nat→List (Int×Int)) (N:Nat) (hn:n=(N:Int)) (hN:N≤100000000) (hfl:fl≤512) (hTl:∀ k,k<N→(TL k).length=fl) (J:Nat→World→Prop) (W:World) (hnb:nb≤W.heap.size) (hn0:n0≤W.heap.size) (hqn:q<n0)
  (c1:W.heap[B]? = some (.cells #[.pointer (some ⟨q,0,none⟩)] 128 (0,0))) (hq:W.heap[q]? = some (.cells #[U i6 ch,U i6 n,Sl fa fl fc,U i6 bi,U i6 slo,U i6 shi,U i6 p,U i6 p,U i6 h,U i6 w,U i6 c,U i6 0,U i6 0,Sl (some ⟨g0,0,none⟩) 1 1,U i6 0] 95 (0,0)))
  (hE:∀ W' (k:Nat),Below n0 W W'→k<N→Calls Tryz.prog 78 #[.pointer (some ⟨q,0,none⟩),U i6 (k:Int)] W' fun e w'=>(∃ u,e=.returned u∧TV w' u (TL k)∧∀ a n c,u=.slice (some a) n c→a.block<n0∨W'.heap.size≤a.block)∧Below W'.heap.size W' w')
  (hP:∀ W' (k:Nat) (t:Int×Int),Below n0 W W'→k<N→t∈TL k→Calls Tryz.prog 79 #[.pointer (some ⟨q,0,none⟩),.agg #[U i6 t.1,U i6 t.2]] W' fun e w'=>e=.returned (.agg #[U i6 (tmE slo shi p t).1,U i6 (tmE slo shi p t).2])∧Below W'.heap.size W' w')
  (hJ:AbAll W.heap.size J)
  (hY:∀ k x W1,J k W1→k<N→SpV W1 x (enL slo shi p (TL k))→Nb nb x→YieldAt Fence.wide (m-1) Tryz.prog l #[x] W1 fun e W'=>e=.returned (.bool true)∧J (k+1) W'∧Kps n0 [B] W1 W'∧KX x W1 W') (h0:J 0 W) :
  CallsIn Fence.wide m Tryz.prog 76 #[.func (.yield l) #[] #[],.pointer (some ⟨B,0,none⟩)] W fun e W'=>(∃ v,e=.returned v)∧J N W':=by
 have HLn:Hid (Calls _ _ _ _ _):=blen_any ch n fa fl fc bi slo shi p h w c g0 q W hq
 subst hn
 have HE:Hid (∀ W' (k:Nat),Below n0 W W'→k<N→_):=hE
 have HP:Hid (∀ W' (k:Nat) (t:Int×Int),Below n0 W W'→k<N→t∈TL k→_):=hP
 have HY:Hid (∀ k x W1,J k W1→k<N→SpV W1 x (enL slo shi p (TL k))→_):=hY
 have HTl:Hid (∀ k,k<N→(TL k).length=fl):=hTl
 obtain⟨x1,-,xz⟩:=cells_at c1
 obtain⟨y1,-,yz⟩:=cells_at hq
 have HC1:Hid (W.heap[B]? = _):=c1
 have HQ:Hid (W.heap[q]? = _):=hq
 clear hE hP hY c1 hq hTl
 refine callsIn_of_wp Tryz.func76 rfl trivial ?_ rfl
 simp only [Tryz.ntmps76,List.size_toArray,List.length_cons,List.length_nil,Nat.reduceAdd,Nat.reduceSub,Array.replicate_succ,Array.replicate_zero,List.push_toArray,List.append_toArray,List.nil_append,List.cons_append]
 have hfn:∀ f,Fence.wide.fn f:=fun _=>trivial
 have hdp:Fence.wide.depth=none:=rfl
 refine wpIn_wide.2 ?_
 go_wp2_with fail
 refine HLn.out.mono ?_
 rintro e w1 ⟨rfl,hw1⟩
 subst hw1
 obtain⟨G,hG⟩:∃ G,w1.heap.size=G:=⟨_,rfl⟩
 go_upto_region 1 with (at_make;refine wpList_mkS rfl _ rfl fl rfl (by omega) ?_;intro cur0 hG0 hS0)
 rw [hG] at hG0
 have hcur0:=hS0.1
 have hb2:Below G w1 (w1.alloc (.cells cur0 28)):=by rw [← hG];exact bal _ _
 have hz2:(w1.alloc (.cells cur0 28)).heap.size=G+1:=by rw [← hG];simp
 have HJ2:Hid (J 0 (w1.alloc (.cells cur0 28))):=hJ.bel h0 (bal _ _)
 try rw [hG]
 obtain⟨w2,hw2⟩:∃ w2,w1.alloc (.cells cur0 28)=w2:=⟨_,rfl⟩
 rw [hw2] at hG0 hb2 hz2 HJ2 ⊢
 have HG0:Hid (w2.heap[G]? = some (.cells cur0 28 (0,0))):=hG0
 have HB2:Hid (Below G w1 w2):=hb2
 obtain⟨x1,-,-⟩:=cells_at ((hb2.block B (by omega)).trans HC1.out)
 obtain⟨y1,-,-⟩:=cells_at ((hb2.block q (by omega)).trans HQ.out)
 clear hw2 hS0 hG0 hb2 HLn h0
 go_upto_region 2 with fail
 refine (wpIn_wide (n:=m)).1 ?_
 gi_loopw [14] (fun i wr=>∃ (k:Nat) (cur:Array Value),k≤N∧i=U i6 k∧J k wr∧Kps n0 [B] w1 wr∧wr.heap[G]? = some (.cells cur 28 (0,0))∧cur.size=fl*2)
  (fun i _=>N-(intOf i).toNat)
 case atStart=>exact⟨0,cur0,Nat.zero_le _,rfl,HJ2.out,Kps.of (by rw [hG];exact HB2.out) (by omega),HG0.out,hcur0⟩
 case round =>
  clear x1 y1 HG0 HB2 HJ2
  obtain⟨k,cur,hk,rfl,hJs,hkp,hGc,hcs⟩:=hrel
  obtain⟨wo,hwo⟩:∃ wo,wo=wr:=⟨_,rfl⟩
  subst hwo
  by_cases hlt:k<N
  ·obtain⟨x1,-,-⟩:=cells_at (hkp.2 B (by simp) _ _ HC1.out)
   have hkz:=hkp.1.size
   have hGz:=lt_of_heap hGc
   have HJs:Hid (J k wo):=hJs
   have HKp:Hid (Kps n0 [B] w1 wo):=hkp
   have HGc:Hid (wo.heap[G]? = some (.cells cur 28 (0,0))):=hGc
   have HCt:Hid (Calls _ _ _ _ _):=HE.out wo k hkp.1 hlt
   clear hJs hkp hGc
   refine wpIn_wide.2 ?_
   go_wp2_with fail
   refine HCt.out.mono ?_
   rintro e w4 ⟨⟨u,rfl,hu,hub⟩,hb4⟩
   obtain⟨ta,tc,rfl,-,-,h4⟩:=hu
   have hTk:=HTl.out k hlt
   rw [hTk] at h4 hub ⊢
   have H4:Hid (0<fl→_):=h4
   have HUb:Hid (∀ a n c,Value.slice ta fl tc=.slice (some a) n c→_):=hub
   have HB4:Hid (Below wo.heap.size wo w4):=hb4
   have HG4:Hid (w4.heap[G]? = some (.cells cur 28 (0,0))):=(hb4.block G hGz).trans HGc.out
   have hz4:=hb4.size
   have HW4:Hid (Below n0 w1 w4):=HKp.out.1.trans (hb4.mono (by omega))
   have hB4:Hid (w4.heap[B]? = _):=(hb4.block B (lt_of_heap (HKp.out.2 B (by simp) _ _ HC1.out))).trans (HKp.out.2 B (by simp) _ _ HC1.out)
   have HL:Hid ((enL slo shi p (TL k)).length=fl):=by unfold Hid;rw [enL_len,hTk]
   have HTk:Hid ((TL k).length=fl):=hTk
   clear h4 hub hb4 HCt x1 hTk
   go_upto_region 5 with fail
   go_loopw [21] (fun i wr=>∃ (y:Nat) (cur:Array Value),y≤fl∧i=U i6 y∧wr.heap[G]? = some (.cells cur 28 (0,0))∧Cu2 cur fl ((enL slo shi p (TL k)).take y)∧Tch G w4 wr) (fun i _=>fl-(intOf i).toNat)
   case atStart=>exact⟨0,cur,Nat.zero_le _,rfl,HG4.out,⟨hcs,by simp,by simp [p2]⟩,Tch.refl _ _⟩
   case round =>
    obtain⟨y,cur',hy,rfl,hGy,hC,hb⟩:=hrel
    clear HG4
    have HC:Hid (Cu2 cur' fl ((enL slo shi p (TL k)).take y)):=hC
    have hsz:=hC.1
    have hbz:=hb.size
    by_cases hyl:y<fl
    ·obtain⟨g,rfl,hc⟩:=H4.out (by omega)
     have hgG:g≠G:=by rcases HUb.out ⟨g,0,none⟩ _ _ rfl with q | q<;>simp only at q<;>omega
     obtain⟨q1,q2⟩:=TV.at hc (show y<(TL k).length by rw [HTk.out];exact hyl)
     obtain⟨A1,A2,hA⟩:∃ A1 A2,(TL k).getD y (0,0)=(A1,A2):=⟨_,_,rfl⟩
     rw [hA] at q1 q2
     simp only at q1 q2
     have hmem:(A1,A2)∈TL k:=by
      rw [← hA,List.getD_eq_getElem?_getD,List.getElem?_eq_getElem (by rw [HTk.out];exact hyl)]
      exact List.getElem_mem _
     have p1:=hb.cell q1 hgG
     have p2:=hb.cell q2 hgG
     have hBr:=(hb.2.2.2.2 B (lt_of_heap hB4.out) (by omega)).trans hB4.out
     obtain⟨x1,-,x3⟩:=cells_at hBr
     have hbW:Below n0 w1 wr:=HW4.out.trans (hb.below (by omega) (by omega))
     have HPr:Hid (∀ (W':World),Below wr.heap.size wr W'→_):=fun W' hb'=>HP.out W' k (A1,A2) (hbW.trans (hb'.mono (by omega))) hlt hmem
     have HEe:Hid ((enL slo shi p (TL k)).getD y (0,0)=tmE slo shi p (A1,A2)):=by unfold Hid;rw [enL_getD _ _ _ (by rw [HTk.out];exact hyl) _ (0,0),hA]
     obtain⟨E1,E2,hE⟩:∃ E1 E2,tmE slo shi p (A1,A2)=(E1,E2):=⟨_,_,rfl⟩
     rw [hE] at HPr HEe
     simp only at HPr
     have hGr:=lt_of_heap hGy
     clear hc q1 q2 hA hmem hE hC hBr H4 HUb
     go_wp2_with fail
     refine (HPr.out _ (bal _ _)).mono ?_
     rintro e w6 ⟨rfl,hb6⟩
     have hb7:=(bal wr (.cells #[U i6 A1,U i6 A2] 91)).trans (hb6.mono (by simp))
     have hG3:w6.heap[G]? = some (.cells cur' 28 (0,0)):=(hb7.block G hGr).trans hGy
     have hb3:Tch G w4 w6:=hb.bel hb7
     obtain⟨u1,hu1⟩:∃ v,w6.cell? ⟨G,y*2,none⟩=some v:=⟨cur'[y*2]'(by omega),by rw [(cells_at hG3).1];exact Array.getElem?_eq_getElem _⟩
     obtain⟨u2,hu2⟩:∃ v,w6.cell? ⟨G,y*2+1,none⟩=some v:=⟨cur'[y*2+1]'(by omega),by rw [(cells_at hG3).1];exact Array.getElem?_eq_getElem _⟩
     have hf3:=(cells_at hG3).2.1
     have HG3:Hid (w6.heap[G]? = some (.cells cur' 28 (0,0))):=hG3
     have HB3:Hid (Tch G w4 w6):=hb3
     clear hGy hG3 hb hb3 hb6 hb7 hbW p1 p2 HPr x1 x3
     go_wp2
     go_roundw
     case rel =>
      have hlen:((enL slo shi p (TL k)).take y).length=y:=by rw [List.length_take,HL.out];omega
      have hA:=HC.out.add (by rw [hlen];exact hyl) E1 E2
      rw [← take_snoc (by rw [HL.out];exact hyl) HEe.out,hlen] at hA
      exact⟨y+1,_,by omega,by go_num,heap_setCell_at (heap_setCell_at HG3.out),hA,(HB3.out.set (.inl rfl)).set (.inl rfl)⟩
     case measure=>simp [intOf];omega
    ·obtain rfl:y=fl:=by omega
     have hO:=OSp.of (base:=G) hGy (Nat.le_refl _) hC (by unfold maxLen;omega)
     rw [List.take_of_length_le (by rw [HL.out];exact Nat.le_refl _),HL.out] at hO
     have hJy:J k wr:=hJ k w4 wr (some G) (hJ.bel HJs.out HB4.out) hb.grown (fun r e=>by cases e;omega)
     obtain⟨fn,tmps,assign,body,hyv,hR⟩:=HY.out k _ wr hJy hlt hO.sv (hO.nb.mono (by omega))
     have hKy:Kps n0 [B] w1 wr:=(HKp.out.trans (Kps.of HB4.out (by omega))).trans (hb.kps (by omega) (by omega) (by simp;omega))
     have HKy:Hid (Kps n0 [B] w1 wr):=hKy
     have HGy:Hid (wr.heap[G]? = some (.cells cur' 28 (0,0))):=hGy
     clear hO hJy hKy hb hC H4 HUb HGc HJs HKp hGy
     go_upto_region 9 with fail
     refine (wpIn_wide (n:=m)).1 ?_
     gi_wp2
     refine hR.mono ?_
     rintro e W3 ⟨rfl,hJ3,hk3,hx3⟩
     have HG3:Hid (W3.heap[G]? = some (.cells cur' 28 (0,0))):=hx3 ⟨G,0,none⟩ _ _ rfl G (by simp) _ _ HGy.out
     have HK3:Hid (Kps n0 [B] w1 W3):=HKy.out.trans hk3
     clear hk3 hx3 hyv hR
     gi_wp2
     go_wp2
     go_roundw
     case rel=>exact⟨k+1,cur',by omega,by go_num,hJ3,HK3.out,HG3.out,hsz⟩
     case measure=>simp [intOf];omega
  ·obtain rfl:k=N:=by omega
   gi_wp2
   go_end0
   exact⟨⟨_,rfl⟩,hJs⟩
theorem brows_any (q n0:Nat) (ch n:Int) (fa:Option Addr) (fl fc:Nat) (bi slo shi p h w c:Int) (g0:Nat) (TL:Nat→List (Int×Int)) (N:Nat) (hn:n=(N:Int)) (hN:N≤100000000) (hfl:fl≤512) (hTl:∀ k,k<N→(TL k).length=fl) (W:World) (hn0:n0≤W.heap.size) (hqn:q<n0)
  (hq:W.heap[q]? = some (.cells #[U i6 ch,U i6 n,Sl fa fl fc,U i6 bi,U i6 slo,U i6 shi,U i6 p,U i6 p,U i6 h,U i6 w,U i6 c,U i6 0,U i6 0,Sl (some ⟨g0,0,none⟩) 1 1,U i6 0] 95 (0,0)))
  (hE:∀ W' (k:Nat),Below n0 W W'→k<N→Calls Tryz.prog 78 #[.pointer (some ⟨q,0,none⟩),U i6 (k:Int)] W' fun e w'=>(∃ u,e=.returned u∧TV w' u (TL k)∧∀ a n c,u=.slice (some a) n c→a.block<n0∨W'.heap.size≤a.block)∧Below W'.heap.size W' w')
  (hP:∀ W' (k:Nat) (t:Int×Int),Below n0 W W'→k<N→t∈TL k→Calls Tryz.prog 79 #[.pointer (some ⟨q,0,none⟩),.agg #[U i6 t.1,U i6 t.2]] W' fun e w'=>e=.returned (.agg #[U i6 (tmE slo shi p t).1,U i6 (tmE slo shi p t).2])∧Below W'.heap.size W' w') :
  Calls Tryz.prog 57 #[.pointer (some ⟨q,0,none⟩)] W fun e w'=>(∃ lb,e=.returned (.func (.func 76) #[] lb)∧Sq n0 W.heap.size [W.heap.size] (fun _=>True) w' (.func (.func 76) #[] lb) (fun k=>enL slo shi p (TL k)) N)∧Below W.heap.size W w'∧w'.heap[W.heap.size]? = some (.cells #[.pointer (some ⟨q,0,none⟩)] 128 (0,0)):=by
 have hmf:∀ (fn:Fn) (first cap:Array Value) (w:World),(Instr.makeFunc fn first cap).run Tryz.prog w=.ok (.func fn first cap) w:=fun _ _ _ _=>rfl
 have s1:=(St.start W).new (c:=#[.pointer (some ⟨q,0,none⟩)]) (t:=128)
 have HE:Hid (∀ W' (k:Nat),Below n0 W W'→k<N→_):=hE
 have HP:Hid (∀ W' (k:Nat) (t:Int×Int),Below n0 W W'→k<N→t∈TL k→_):=hP
 have HQ:Hid (W.heap[q]? = _):=hq
 clear hE hP hq
 go_enter Tryz.func57,Tryz.ntmps57
 go_wp2
 go_ret
 refine⟨⟨_,rfl,_,_,rfl,enters_of Tryz.func76 (by kernel_rfl) rfl,fun l m J W1 hW hJ _ hY h0=>?_⟩,s1.below,s1.h1⟩
 have hb:=s1.below.trans (hW.mono s1.below.size)
 exact brows1_in m l W.heap.size q n0 W.heap.size ch n fa fl fc bi slo shi p h w c g0 TL N hn hN hfl hTl J W1 hb.size (by have:=hb.size;omega) hqn ((hW.block _ (lt_of_heap s1.h1)).trans s1.h1) ((hb.block q (by omega)).trans HQ.out) (fun W' k hW' hk=>HE.out W' k ((hb.mono hn0).trans hW') hk) (fun W' k t hW' hk ht=>HP.out W' k t ((hb.mono hn0).trans hW') hk ht) hJ hY h0
theorem min2 (x y M:Int) (h:xmn x y=M):∀ (W:World) (ts:Array TypeId) (t:TypeId),(Builtin.min_ ts t #[U i6 x,U i6 y]).run Tryz.prog W=.ok (U i6 M) W:=by
 intro W ts t
 subst h
 simp [Builtin.min_,Builtin.min2,xmn]
 repeat' split
 all_goals first | rfl | omega
end Go.Proofs.YtgjcjhnnopandaaGreat
