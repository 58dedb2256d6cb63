/- What greatestUnder and greatest of package plain return. What greatest of package plain returns; lists that grow. What sums of package plain returns: all sums of an op that reduces. What kernelOf and refused of package kern return. Two blocks that a call writes into: what stays. What lineUp of package kern does: weights and numbers side by side. What greatestUnder of package kern returns (made by tools/gen/Kr.py). What greatest of package kern returns (made by tools/gen/Kr.py). -/
import Derived.Test.YtehofmkpgopmpaaGreatGq13
import Derived.Test.YtehofmkpgopmpaaGreatGq14
import Derived.Test.YtehofmkpgopmpaaGreatGq20
import Derived.Test.YtehofmkpgopmpaaGreatGq21
import Derived.Deep.RegionLawGrows
namespace Go.Proofs.YtehofmkpgopmpaaGreat
open Go.Value renaming int → U, slice → Sl
open Go.IntKind renaming i64 → i6
set_option maxRecDepth 100000
set_option maxHeartbeats 16000000
open Go.ChangeShapes Go.WideShapes Go.ChangeAt Go.RowKit
set_option linter.unusedVariables false
theorem grA_at {w c kw:Int} {xs:List Int} {t u d:Int} {i j:Nat} (hj:(j:Int)<kw) {q N:Nat} (hq:(q:Int)=i*kw+j) (hN:((t+i)*w+(u+j))*c+d=(N:Int)):grA w c kw xs t u d q=xs.getD N 0:=by
 unfold grA
 obtain⟨e1,e2⟩:=divmod_at (q:=i) hj
 rw [hq,e1,e2,hN,Int.toNat_natCast]
theorem w64 {x:Int} (h:-9223372036854775808≤x∧x≤9223372036854775807):IntKind.i64.wrap x=x:=by rw [IntKind.wrap_i64];omega
theorem wpList_mk0 {k:IntKind} {T S:TypeId} {by8:Nat} (kt:KT k T S by8) {w:World} {ops:Array Oper} {rest:List Oper} {o:Oper} {a:Act} {Q:Exit→Act→World→Prop} (hg:o.guard=none) (l c:Operand) (hop:o.op=Op.makeSlice S l c)
  (m:Nat) (M:Int) (hl:a.eval l=U i6 0) (hc:a.eval c=U i6 M) (hM:M=(m:Int)) (hm:m≤10000000) (base:Nat) (hb:base≤w.heap.size)
  (hK:∀ v w',Own k T w' base v []→Below w.heap.size w w'→wpList Tryz.prog ops Q rest (a.put o.dst v) w'):wpList Tryz.prog ops Q (o :: rest) a w:=by
 obtain⟨hu,hin,b1,b8⟩:=kt
 obtain⟨i0,hi,hz0,hz1,hz2⟩:=info_parts hin
 subst hM
 have hby:by8*m≤8*m:=Nat.mul_le_mul_right _ b8
 have hby':(by8:Int)*(m:Int)≤281474976710656:=by
  have:((by8*m:Nat):Int)≤281474976710656:=by omega
  rwa [Int.natCast_mul] at this
 refine wpList_plain hg fun K hK'=>?_
 have hr:=run_make (P:=Tryz.prog) w S T i0 (.int k 0) hu hi hz0 .i64 .i64 ((0:Nat):Int) m (by omega) (by omega) (by rw [hz2];exact hby') (by omega)
 simp only [Int.toNat_natCast,hz1] at hr
 unfold Oper.wp
 simp only [execOp,hop,hl,hc]
 simp [Result.andThen]
 have hr':=hr
 simp only [Int.natCast_zero] at hr'
 rw [hr']
 refine hK' _ _ (hK _ _ ⟨⟨by simp,.inr ⟨w.heap.size,m,_,rfl,hb,heap_alloc_new w _,Nat.zero_le _,by unfold maxLen;omega,by rw [size_madeCells],by simp⟩⟩,Wf.nil k⟩ (bal _ _))
theorem step_ap {k:IntKind} {T S:TypeId} {by8:Nat} (kt:KT k T S by8) {w:World} {ops:Array Oper} {o:Oper} {a:Act} {K:Act→World→Prop} {Q:Exit→Act→World→Prop} {E:Prop} (hgd:o.guard=none) (s x:Operand)
  (ho:o.op=.call { callee:=.builtin .append,args:=#[s,x],argTypes:=#[S,S] })
  (base:Nat) (v:Value) (xs ys:List Int) (hs:a.eval s=v) (hown:Own k T w base v xs) (ad:Addr) (m c:Nat) (hx:a.eval x=.slice (some ad) m c) (hy:IRow k w (some ad) m c ys)
  (hlen:xs.length+ys.length≤10000000) (hbase:base≤w.heap.size)
  (hK:∀ v' w',Own k T w' base v' (xs++ys)→w.grownBy w' v.ownBlock→K (a.put o.dst v') w'):if Region.wanted o (yielded ops a.tmps)=true then Oper.wp Tryz.prog o a w K Q else E:=by
 have hw:Region.wanted o (yielded ops a.tmps)=true:=by simp [Region.wanted,hgd]
 rw [if_pos hw]
 obtain⟨hu,hin,b1,b8⟩:=kt
 obtain⟨i0,hi,hz0,hz1,hz2⟩:=info_parts hin
 obtain⟨hl,hc,hm,hb,hn,hcell⟩:=hy
 have hby:by8*(xs.length+ys.length)≤8*(xs.length+ys.length):=Nat.mul_le_mul_right _ b8
 have hby':(xs.length+m)*by8≤140737488355328:=by rw [hl] at hby hlen;rw [Nat.mul_comm];omega
 have hcs:∀ j u,(ys.map (Value.int k))[j]? = some u→w.cell? (ad.add j)=some u:=by
  intro j u hj
  have hj':j<m:=by
   have:=(List.getElem?_eq_some_iff.1 hj).1
   simpa [hl] using this
  rw [hcell ad rfl j hj']
  simp [List.getD,show j<ys.length by omega] at hj ⊢
  exact hj
 obtain⟨v',w',hrun,r1,r2,r3⟩:=run_append_own (P:=Tryz.prog) w base S o.type T i0 (.int k 0) 1 by8 hu hi hz0 hz1 hz2 rfl (by omega) v xs.length _ hown.1 ad m c (ys.map (Value.int k)) (by simp [hl]) hcs (ints_oneCell _ _) (by unfold maxLen;omega) hby' hbase
 unfold Oper.wp
 simp [execOp,ho,resolve,invoke,builtin,hs,hx,hrun,Result.andThen]
 refine hK v' w' ⟨?_,hown.2.app hb⟩ r2
 rw [List.length_append,hl,List.map_append]
 exact r1
theorem gr_idx {VN CN i j d:Nat} (hj:j<VN) (hd:d<CN):((((i*VN+j)*CN+d:Nat):Int) / (CN:Int) / (VN:Int)=i∧(((i*VN+j)*CN+d:Nat):Int) / (CN:Int) % (VN:Int)=j)∧(((i*VN+j)*CN+d:Nat):Int) % (CN:Int)=d:=by
 obtain⟨e1,e2⟩:=divmod_at (C:=(CN:Int)) (q:=i*VN+j) (d:=d) (by omega)
 obtain⟨e3,e4⟩:=divmod_at (C:=(VN:Int)) (q:=i) (d:=j) (by omega)
 rw [Int.natCast_add,Int.natCast_mul,e1,e2,Int.natCast_add,Int.natCast_mul,e3,e4]
 exact⟨⟨rfl,rfl⟩,rfl⟩
theorem step_in {i H sh kh h:Int} (hi:0≤i∧i<H) (hs:1≤sh) (hf:(H-1)*sh+kh≤h):0≤i*sh∧i*sh+kh≤h:=by
 have a:=Int.mul_le_mul_of_nonneg_right (show i≤H-1 by omega) (show 0≤sh by omega)
 have b:=Int.mul_nonneg hi.1 (show 0≤sh by omega)
 omega
theorem St.ad {w0 w:World} {B:Nat} {c:Array Value} {t:TypeId} {l:List (Nat×Array Value×TypeId)} (h:St w0 w l) (hb:w.heap[B]? = some (.cells c t (0,0))) (hB:w0.heap.size≤B):St w0 w ((B,c,t) :: l) :=
 ⟨h.1,fun x hx=>by
  rcases List.mem_cons.1 hx with rfl | hx
  ·exact⟨hb,hB⟩
  ·exact h.2 x hx⟩
theorem St.grow {w0 w w':World} {k:IntKind} {T:TypeId} {base:Nat} {v:Value} {zs:List Int} {l:List (Nat×Array Value×TypeId)} (h:St w0 w l) (o:Own k T w base v zs) (g:w.grownBy w' v.ownBlock) (hB:w0.heap.size≤base) (hT:∀ x∈l,x.2.2≠T):St w0 w' l :=
 ⟨o.bel h.1 g hB h.1.size,fun x hx=>by
  have hx':=h.2 x hx
  refine⟨?_,hx'.2⟩
  rw [g.block x.1 (lt_of_heap hx'.1) (own_ne o.1 hx'.1 (hT x hx))]
  exact hx'.1⟩
theorem of_alone (k a b m kh kw sh sw tp lf bt rt:Int) (wa:Option Addr) (lw wc:Nat) (ba:Option Addr) (lb bc:Nat) (sm ss um us z p lo hi h w c H V C:Int) (s:Opd k b m kh kw sh sw tp lf bt rt lw lb sm ss um us z p lo hi h w c H V C) (hk:k≤4) (zs bs:List Int) (W:World) (hZ:IRow .i16 W wa lw wc zs) (hB:IRow .i32 W ba lb bc bs) (hlw:lw*2≤140737488351232) (hlb:lb*4≤140737488351232) (g:Nat) (hg:W.heap[g]? = some (.cells #[U i6 k,U i6 0,U i6 b,U i6 m,U i6 kh,U i6 kw,U i6 sh,U i6 sw,U i6 tp,U i6 lf,U i6 bt,U i6 rt,Sl wa lw wc,Sl ba lb bc,U i6 sm,U i6 ss,U i6 um,U i6 us,U i6 z,U i6 p,U i6 lo,U i6 hi] 55 (0,0))) (ch at':Int) (hch:1≤ch∧ch≤C) (hat:0≤at'∧at'<H*V) :
  Calls Tryz.prog 61 #[.agg #[U i6 h,U i6 w,U i6 c,U i6 0,U i6 0,Sl (some ⟨g,0,none⟩) 1 1,U i6 0],U i6 1,U i6 ch,U i6 at'] W fun e w'=>(∃ v,e=.returned (.tuple #[v,U i6 (biA k ch bs),U i6 0])∧OTm w' W.heap.size v (siL k kh kw sh sw tp lf bt rt h w c ch at' zs))∧Below W.heap.size W w':=by
 obtain⟨Rw,hR⟩:=alone_g (a:=0) s hk
 have hcell:∀ q v,[U i6 k,U i6 0,U i6 b,U i6 m,U i6 kh,U i6 kw,U i6 sh,U i6 sw,U i6 tp,U i6 lf,U i6 bt,U i6 rt,Sl wa lw wc,Sl ba lb bc,U i6 sm,U i6 ss,U i6 um,U i6 us,U i6 z,U i6 p,U i6 lo,U i6 hi][q]? = some v→W.cell? ((⟨g,0,none⟩:Addr).add q)=some v:=lcells hg (fget [U i6 k,U i6 0,U i6 b,U i6 m,U i6 kh,U i6 kw,U i6 sh,U i6 sw,U i6 tp,U i6 lf,U i6 bt,U i6 rt,Sl wa lw wc,Sl ba lb bc,U i6 sm,U i6 ss,U i6 um,U i6 us,U i6 z,U i6 p,U i6 lo,U i6 hi] [])
 have e0:((⟨g,0,none⟩:Addr).add (0*22))=⟨g,0,none⟩:=by rw [Addr.add_lit]
 have hL:LRow W (some ⟨g,0,none⟩) 1 1 (fun _=>oL k 0 b m kh kw sh sw tp lf bt rt (lw:Int) (lb:Int) sm ss um us z p lo hi) (fun _=>zs) (fun _=>bs):=by
  refine⟨Nat.le_refl _,by unfold maxLen;omega,(fun h=>by cases h),fun x hx i hi=>?_⟩
  cases hx
  obtain rfl:i=0:=by omega
  rw [e0]
  exact⟨wa,lw,wc,ba,lb,bc,rfl,rfl,hcell,hZ,hB,hlw,hlb⟩
 have hF:Fnd W (some ⟨g,0,none⟩) 1 (fun _=>oL k 0 b m kh kw sh sw tp lf bt rt (lw:Int) (lb:Int) sm ss um us z p lo hi) (fun _=>zs) (fun _=>bs) [(h,w,c),(H,V,C)] 0 ⟨g,0,none⟩ wa lw wc ba lb bc h w c H V C :=
  ⟨by omega,rfl,rfl,rfl,fun q v hq=>by rw [e0];exact hcell q v hq,hZ,hB,rfl,rfl,s.si hk,⟨Int.le_refl _,Int.le_refl _⟩,decide_eq_true (show 1≤k∧k≤4 by have:=s.hk;omega)⟩
 exact of_ok h w c 0 0 0 (some ⟨g,0,none⟩) 1 1 (fun _=>oL k 0 b m kh kw sh sw tp lf bt rt (lw:Int) (lb:Int) sm ss um us z p lo hi) (fun _=>zs) (fun _=>bs) W hL ch at' [(h,w,c),(H,V,C)] Rw hR 0 ⟨g,0,none⟩ wa lw wc ba lb bc h w c H V C hF hch hat
end Go.Proofs.YtehofmkpgopmpaaGreat
namespace Go.Proofs.YtehofmkpgopmpaaGreat.Kr
open Go.Value renaming int → U, slice → Sl
open Go.IntKind renaming i64 → i6
set_option maxRecDepth 100000
set_option maxHeartbeats 16000000
open Go.ChangeShapes Go.WideShapes Go.ChangeAt Go.RowKit
set_option linter.unusedVariables false
theorem refused_any (p1 p2 p3 p4 p5 p6 n:Int) (hn:1≤n) (W:World) :
  Calls Tryz.prog 13 #[.agg #[U i6 p1,U i6 p2,U i6 p3,U i6 p4,U i6 p5,U i6 p6],U i6 n] W fun e w'=>e=.returned (U i6 (deE (p1,p2,p3,p4,p5,p6) n))∧Below W.heap.size W w':=by
 have hb:=bal W (.cells #[U i6 p1,U i6 p2,U i6 p3,U i6 p4,U i6 p5,U i6 p6] 63)
 obtain⟨E,hE⟩:∃ E,deE (p1,p2,p3,p4,p5,p6) n=E:=⟨_,rfl⟩
 rw [hE]
 unfold deE at hE
 simp only at hE
 by_cases h16:p1=16
 ·subst h16
  rw [if_pos rfl] at hE
  by_cases a1:p2<1
  ·rw [if_neg (by omega)] at hE
   subst hE
   go_enter Tryz.func13,Tryz.ntmps13
   go_wp2
   go_ret
   exact⟨rfl,hb⟩
  ·by_cases a2:n<p2
   ·rw [if_neg (by omega)] at hE
    subst hE
    go_enter Tryz.func13,Tryz.ntmps13
    go_wp2
    go_ret
    exact⟨rfl,hb⟩
   ·rw [if_pos (by omega)] at hE
    subst hE
    go_enter Tryz.func13,Tryz.ntmps13
    go_wp2
    go_ret
    exact⟨rfl,hb⟩
 ·rw [if_neg h16] at hE
  by_cases h32:p1=32
  ·subst h32
   clear h16
   rw [if_pos rfl] at hE
   by_cases a1:p2<1
   ·rw [if_neg (by omega)] at hE
    subst hE
    go_enter Tryz.func13,Tryz.ntmps13
    go_wp2
    go_ret
    exact⟨rfl,hb⟩
   ·by_cases a2:n<p2
    ·rw [if_neg (by omega)] at hE
     subst hE
     go_enter Tryz.func13,Tryz.ntmps13
     go_wp2
     go_ret
     exact⟨rfl,hb⟩
    ·by_cases a3:p2=n
     ·rw [if_pos a3] at hE
      subst hE a3
      clear a2
      have g3:(p2 != p2)=false:=by simp
      go_enter Tryz.func13,Tryz.ntmps13
      go_wp2
      go_ret
      exact⟨rfl,hb⟩
     ·rw [if_neg a3] at hE
      subst hE
      have g3:(p2 != n)=true:=by simp [a3]
      go_enter Tryz.func13,Tryz.ntmps13
      go_wp2
      go_ret
      exact⟨rfl,hb⟩
  ·rw [if_neg h32] at hE
   subst hE
   have g1:(p1 != 16)=true:=by simp [h16]
   have g2:(p1 != 32)=true:=by simp [h32]
   go_enter Tryz.func13,Tryz.ntmps13
   go_wp2
   go_ret
   exact⟨rfl,hb⟩
theorem results_row {P:Program} {fn:Func} {p:Tmp} {ty:TypeId} (h:fn.results=#[.cell p ty]) (tmps:Array Value) (w:World) (g:Nat) (t:TypeId) (cs:Array Value) (d:TypeDesc)
  (hp:tmps.getD p undef=.pointer (some ⟨g,0,none⟩)) (hg:w.heap[g]? = some (.cells cs t (0,0)))
  (hu:P.underlying ty=some d) (hd:(match d with | .struct _ | .array _ _=>true | _=>false)=true) (hi:(P.info? ty).map (·.size)=some cs.size) :
  (results fn tmps).run P w=.ok (.agg cs) w:=by
 have e1:tmps[p]?.getD undef=.pointer (some ⟨g,0,none⟩):=by simpa using hp
 simp only [results,h]
 simp [e1,asAddr,run_loadVar_row w g t ty cs (0,0) d hg hu hd hi]
theorem len_alone (k b m kh kw sh sw tp lf bt rt:Int) (wa:Option Addr) (lw cw:Nat) (ba:Option Addr) (lb bc:Nat) (sm ss um us z p lo hi h w c H V C:Int) (s:Opd k b m kh kw sh sw tp lf bt rt lw lb sm ss um us z p lo hi h w c H V C) (hk:k≤4) (zs bs:List Int) (W:World) (hZ:IRow .i16 W wa lw cw zs) (hB:IRow .i32 W ba lb bc bs) (hlw:lw*2≤140737488351232) (hlb:lb*4≤140737488351232) (g:Nat) (hg:W.heap[g]? = some (.cells #[U i6 k,U i6 0,U i6 b,U i6 m,U i6 kh,U i6 kw,U i6 sh,U i6 sw,U i6 tp,U i6 lf,U i6 bt,U i6 rt,Sl wa lw cw,Sl ba lb bc,U i6 sm,U i6 ss,U i6 um,U i6 us,U i6 z,U i6 p,U i6 lo,U i6 hi] 55 (0,0))) :
  Calls Tryz.prog 32 #[.agg #[U i6 h,U i6 w,U i6 c,U i6 0,U i6 0,Sl (some ⟨g,0,none⟩) 1 1,U i6 0],U i6 1] W fun e w'=>e=.returned (.tuple #[U i6 (stR k kh kw h w c),U i6 0])∧Below W.heap.size W w':=by
 obtain⟨Rw,hR⟩:=alone_g (a:=0) s hk
 have hcell:∀ q v,[U i6 k,U i6 0,U i6 b,U i6 m,U i6 kh,U i6 kw,U i6 sh,U i6 sw,U i6 tp,U i6 lf,U i6 bt,U i6 rt,Sl wa lw cw,Sl ba lb bc,U i6 sm,U i6 ss,U i6 um,U i6 us,U i6 z,U i6 p,U i6 lo,U i6 hi][q]? = some v→W.cell? ((⟨g,0,none⟩:Addr).add q)=some v:=lcells hg (fget [U i6 k,U i6 0,U i6 b,U i6 m,U i6 kh,U i6 kw,U i6 sh,U i6 sw,U i6 tp,U i6 lf,U i6 bt,U i6 rt,Sl wa lw cw,Sl ba lb bc,U i6 sm,U i6 ss,U i6 um,U i6 us,U i6 z,U i6 p,U i6 lo,U i6 hi] [])
 have e0:((⟨g,0,none⟩:Addr).add (0*22))=⟨g,0,none⟩:=by rw [Addr.add_lit]
 have hL:LRow W (some ⟨g,0,none⟩) 1 1 (fun _=>oL k 0 b m kh kw sh sw tp lf bt rt (lw:Int) (lb:Int) sm ss um us z p lo hi) (fun _=>zs) (fun _=>bs):=by
  refine⟨Nat.le_refl _,by unfold maxLen;omega,(fun h=>by cases h),fun x hx i hi=>?_⟩
  cases hx
  obtain rfl:i=0:=by omega
  rw [e0]
  exact⟨wa,lw,cw,ba,lb,bc,rfl,rfl,hcell,hZ,hB,hlw,hlb⟩
 have hF:Fnd W (some ⟨g,0,none⟩) 1 (fun _=>oL k 0 b m kh kw sh sw tp lf bt rt (lw:Int) (lb:Int) sm ss um us z p lo hi) (fun _=>zs) (fun _=>bs) [(h,w,c),(H,V,C)] 0 ⟨g,0,none⟩ wa lw cw ba lb bc h w c H V C :=
  ⟨by omega,rfl,rfl,rfl,fun q v hq=>by rw [e0];exact hcell q v hq,hZ,hB,rfl,rfl,s.si hk,⟨Int.le_refl _,Int.le_refl _⟩,decide_eq_true (show 1≤k∧k≤4 by have:=s.hk;omega)⟩
 exact lenT_ok h w c 0 0 0 (some ⟨g,0,none⟩) 1 1 (fun _=>oL k 0 b m kh kw sh sw tp lf bt rt (lw:Int) (lb:Int) sm ss um us z p lo hi) (fun _=>zs) (fun _=>bs) W hL [(h,w,c),(H,V,C)] Rw hR 0 ⟨g,0,none⟩ wa lw cw ba lb bc h w c H V C hF
theorem act_eq' {Q:Act→World→Prop} {a b:Act} {w:World} (h:a=b) (k:Q b w):Q a w:=by
 rw [h]
 exact k
theorem kernelof_any (k a b m kh kw sh sw tp lf bt rt:Int) (wa:Option Addr) (lw cw:Nat) (ba:Option Addr) (lb bc:Nat) (sm ss um us z p lo hi h w c H V C:Int) (s:Opd k b m kh kw sh sw tp lf bt rt lw lb sm ss um us z p lo hi h w c H V C) (zs bs:List Int) (W:World) (hZ:IRow .i16 W wa lw cw zs) (hBs:IRow .i32 W ba lb bc bs) (hlw:lw*2≤140737488351232) (hlb:lb*4≤140737488351232) (gs sn cap ja n1:Nat) (ha:a=(ja:Int)) (hja:ja<sn) (hn1:n1<sn) (hcap:sn≤cap) (hcm:cap≤9223372036854775807) (hA:∀ j u,[Value.int .i64 h,U i6 w,U i6 c][j]? = some u→W.cell? ((⟨gs,ja*3,none⟩:Addr).add j)=some u) (hB:∀ j u,[Value.int .i64 H,U i6 V,U i6 C][j]? = some u→W.cell? ((⟨gs,n1*3,none⟩:Addr).add j)=some u) :
  Calls Tryz.prog 11 #[.agg #[U i6 k,U i6 a,U i6 b,U i6 m,U i6 kh,U i6 kw,U i6 sh,U i6 sw,U i6 tp,U i6 lf,U i6 bt,U i6 rt,Sl wa lw cw,Sl ba lb bc,U i6 sm,U i6 ss,U i6 um,U i6 us,U i6 z,U i6 p,U i6 lo,U i6 hi],Sl (some ⟨gs,0,none⟩) sn cap,U i6 (n1:Int)] W fun e w'=>e=.returned (.agg #[U i6 k,U i6 a,U i6 b,U i6 m,U i6 kh,U i6 kw,U i6 sh,U i6 sw,U i6 tp,U i6 lf,U i6 bt,U i6 rt,Sl wa lw cw,Sl ba lb bc,U i6 sm,U i6 ss,U i6 um,U i6 us,U i6 z,U i6 p,U i6 lo,U i6 hi,U i6 h,U i6 w,U i6 c,U i6 H,U i6 V,U i6 C,U i6 (if k≤4 then stR k kh kw h w c else 0),U i6 (if k≤4 then C else 0)])∧Below W.heap.size W w':=by
 subst ha
 have s0:=((St.start W).new (c:=#[U i6 k,U i6 ja,U i6 b,U i6 m,U i6 kh,U i6 kw,U i6 sh,U i6 sw,U i6 tp,U i6 lf,U i6 bt,U i6 rt,Sl wa lw cw,Sl ba lb bc,U i6 sm,U i6 ss,U i6 um,U i6 us,U i6 z,U i6 p,U i6 lo,U i6 hi]) (t:=55)).new (c:=#[U i6 0,U i6 0,U i6 0,U i6 0,U i6 0,U i6 0,U i6 0,U i6 0,U i6 0,U i6 0,U i6 0,U i6 0,Sl none 0 0,Sl none 0 0,U i6 0,U i6 0,U i6 0,U i6 0,U i6 0,U i6 0,U i6 0,U i6 0,U i6 0,U i6 0,U i6 0,U i6 0,U i6 0,U i6 0,U i6 0,U i6 0]) (t:=57)
 simp only [World.size_alloc] at s0
 have S0:Hid (St W _ _):=s0
 have HA:Hid (∀ j u,[Value.int .i64 h,U i6 w,U i6 c][j]? = some u→_):=hA
 have HB:Hid (∀ j u,[Value.int .i64 H,U i6 V,U i6 C][j]? = some u→_):=hB
 have HRed:Hid (∀ w,_):=red_any k
 have HLen:Hid (∀ w' g,Below W.heap.size W w'→w'.heap[g]? = some (Obj.cells #[U i6 k,U i6 0,U i6 b,U i6 m,U i6 kh,U i6 kw,U i6 sh,U i6 sw,U i6 tp,U i6 lf,U i6 bt,U i6 rt,Sl wa lw cw,Sl ba lb bc,U i6 sm,U i6 ss,U i6 um,U i6 us,U i6 z,U i6 p,U i6 lo,U i6 hi] 55 (0,0))→k≤4→_):=fun w' g hb hg hk=>len_alone k b m kh kw sh sw tp lf bt rt wa lw cw ba lb bc sm ss um us z p lo hi h w c H V C s hk zs bs w' (hZ.below hb) (hBs.below hb) hlw hlb g hg
 have HAl:Hid (∀ r w' hr,_):=fun r w' hr=>alone_any k ja b m kh kw sh sw tp lf bt rt wa lw cw ba lb bc sm ss um us z p lo hi h w c H V C 0 0 r w' hr
 have hk8:=s.hk
 obtain⟨X,hX⟩:∃ X,(if k≤4 then stR k kh kw h w c else 0)=X:=⟨_,rfl⟩
 obtain⟨Y,hY⟩:∃ Y,(if k≤4 then C else 0)=Y:=⟨_,rfl⟩
 rw [hX,hY]
 have HX:Hid ((if k≤4 then stR k kh kw h w c else 0)=X):=hX
 have HY:Hid ((if k≤4 then C else 0)=Y):=hY
 clear s0 hA hB s hZ hBs hlw hlb hX hY
 go_enter Tryz.func11,Tryz.ntmps11
 go_upto_region 1 with fail
 obtain⟨w0,hw0⟩:∃ w0,(W.alloc (.cells #[U i6 k,U i6 ja,U i6 b,U i6 m,U i6 kh,U i6 kw,U i6 sh,U i6 sw,U i6 tp,U i6 lf,U i6 bt,U i6 rt,Sl wa lw cw,Sl ba lb bc,U i6 sm,U i6 ss,U i6 um,U i6 us,U i6 z,U i6 p,U i6 lo,U i6 hi] 55)).alloc (.cells #[U i6 0,U i6 0,U i6 0,U i6 0,U i6 0,U i6 0,U i6 0,U i6 0,U i6 0,U i6 0,U i6 0,U i6 0,Sl none 0 0,Sl none 0 0,U i6 0,U i6 0,U i6 0,U i6 0,U i6 0,U i6 0,U i6 0,U i6 0,U i6 0,U i6 0,U i6 0,U i6 0,U i6 0,U i6 0,U i6 0,U i6 0] 57)=w0:=⟨_,rfl⟩
 rw [hw0] at S0 ⊢
 clear hw0
 refine regionC (fun w'=>(∀ q v,[U i6 k,U i6 ja,U i6 b,U i6 m,U i6 kh,U i6 kw,U i6 sh,U i6 sw,U i6 tp,U i6 lf,U i6 bt,U i6 rt,Sl wa lw cw,Sl ba lb bc,U i6 sm,U i6 ss,U i6 um,U i6 us,U i6 z,U i6 p,U i6 lo,U i6 hi][q]? = some v→w'.cell? ((⟨W.heap.size,0,none⟩:Addr).add q)=some v)∧Below W.heap.size W w') (by kernel_rfl) ?_
 have S1:Hid (St W w0.drew [(W.heap.size+1,#[U i6 0,U i6 0,U i6 0,U i6 0,U i6 0,U i6 0,U i6 0,U i6 0,U i6 0,U i6 0,U i6 0,U i6 0,Sl none 0 0,Sl none 0 0,U i6 0,U i6 0,U i6 0,U i6 0,U i6 0,U i6 0,U i6 0,U i6 0,U i6 0,U i6 0,U i6 0,U i6 0,U i6 0,U i6 0,U i6 0,U i6 0],57),(W.heap.size,#[U i6 k,U i6 ja,U i6 b,U i6 m,U i6 kh,U i6 kw,U i6 sh,U i6 sw,U i6 tp,U i6 lf,U i6 bt,U i6 rt,Sl wa lw cw,Sl ba lb bc,U i6 sm,U i6 ss,U i6 um,U i6 us,U i6 z,U i6 p,U i6 lo,U i6 hi],55)]):=S0.out.drew
 obtain⟨wd,hwd⟩:∃ wd,w0.drew=wd:=⟨_,rfl⟩
 rw [hwd] at S1 ⊢
 clear hwd S0
 have HD:Hid ((∀ q v,[U i6 k,U i6 ja,U i6 b,U i6 m,U i6 kh,U i6 kw,U i6 sh,U i6 sw,U i6 tp,U i6 lf,U i6 bt,U i6 rt,Sl wa lw cw,Sl ba lb bc,U i6 sm,U i6 ss,U i6 um,U i6 us,U i6 z,U i6 p,U i6 lo,U i6 hi][q]? = some v→wd.cell? ((⟨W.heap.size,0,none⟩:Addr).add q)=some v)∧Below W.heap.size W wd):=⟨lcells S1.out.h2 (fget [U i6 k,U i6 ja,U i6 b,U i6 m,U i6 kh,U i6 kw,U i6 sh,U i6 sw,U i6 tp,U i6 lf,U i6 bt,U i6 rt,Sl wa lw cw,Sl ba lb bc,U i6 sm,U i6 ss,U i6 um,U i6 us,U i6 z,U i6 p,U i6 lo,U i6 hi] []),S1.out.below⟩
 refine takeC 0 (v:=.agg #[U i6 k,U i6 ja,U i6 b,U i6 m,U i6 kh,U i6 kw,U i6 sh,U i6 sw,U i6 tp,U i6 lf,U i6 bt,U i6 rt,Sl wa lw cw,Sl ba lb bc,U i6 sm,U i6 ss,U i6 um,U i6 us,U i6 z,U i6 p,U i6 lo,U i6 hi]) rfl rfl (by kernel_rfl) (by kernel_rfl) (by kernel_rfl) (fun _ _ _ h=>h) (fun _=>rfl) rfl (fun w' hw'=>run_la 55 (.tmp 3) rfl ⟨W.heap.size,0,none⟩ (by kernel_rfl) [U i6 k,U i6 ja,U i6 b,U i6 m,U i6 kh,U i6 kw,U i6 sh,U i6 sw,U i6 tp,U i6 lf,U i6 bt,U i6 rt,Sl wa lw cw,Sl ba lb bc,U i6 sm,U i6 ss,U i6 um,U i6 us,U i6 z,U i6 p,U i6 lo,U i6 hi] _ hw'.1 Tryz.underlying55 rfl (by kernel_rfl)) ?_
 refine takeC 1 (v:=.slice (some ⟨gs,0,none⟩) sn cap) rfl rfl (by kernel_rfl) (by kernel_rfl) (by kernel_rfl) (fun _ _ _ h=>h) (fun _=>rfl) rfl (fun w' hw'=>by go_simp) ?_
 refine takeC 2 (v:=.pointer (some ⟨W.heap.size,1,none⟩)) rfl rfl (by kernel_rfl) (by kernel_rfl) (by kernel_rfl) (fun _ _ _ h=>h) (fun _=>rfl) rfl (fun w' hw'=>by go_simp) ?_
 refine takeC 3 (v:=U i6 ja) rfl rfl (by kernel_rfl) (by kernel_rfl) (by kernel_rfl) (fun _ _ _ h=>h) (fun _=>rfl) rfl (fun w' hw'=>by have hc:=hw'.1 1 _ rfl;rw [Addr.add_lit] at hc;go_simp) ?_
 refine takeC 4 (v:=.pointer (some ⟨gs,ja*3,none⟩)) rfl rfl (by kernel_rfl) (by kernel_rfl) (by kernel_rfl) (fun _ _ _ h=>h) (fun _=>rfl) rfl (fun w' hw'=>by go_simp) ?_
 refine takeC 5 (v:=.agg #[U i6 h,U i6 w,U i6 c]) rfl rfl (by kernel_rfl) (by kernel_rfl) (by kernel_rfl) (fun _ _ _ h=>h) (fun _=>rfl) rfl (fun w' hw'=>run_la 23 (.tmp 12) rfl ⟨gs,ja*3,none⟩ (by kernel_rfl) [U i6 h,U i6 w,U i6 c] _ (fun j u hj=>(hw'.2.cell (World.block_lt_of_cell? W _ (HA.out j u hj))).trans (HA.out j u hj)) Tryz.underlying23 rfl (by kernel_rfl)) ?_
 refine takeC 6 (v:=.slice (some ⟨gs,0,none⟩) sn cap) rfl rfl (by kernel_rfl) (by kernel_rfl) (by kernel_rfl) (fun _ _ _ h=>h) (fun _=>rfl) rfl (fun w' hw'=>by go_simp) ?_
 refine takeC 7 (v:=U i6 n1) rfl rfl (by kernel_rfl) (by kernel_rfl) (by kernel_rfl) (fun _ _ _ h=>h) (fun _=>rfl) rfl (fun w' hw'=>by go_simp) ?_
 refine takeC 8 (v:=.pointer (some ⟨gs,n1*3,none⟩)) rfl rfl (by kernel_rfl) (by kernel_rfl) (by kernel_rfl) (fun _ _ _ h=>h) (fun _=>rfl) rfl (fun w' hw'=>by go_simp) ?_
 refine takeC 9 (v:=.agg #[U i6 H,U i6 V,U i6 C]) rfl rfl (by kernel_rfl) (by kernel_rfl) (by kernel_rfl) (fun _ _ _ h=>h) (fun _=>rfl) rfl (fun w' hw'=>run_la 23 (.tmp 16) rfl ⟨gs,n1*3,none⟩ (by kernel_rfl) [U i6 H,U i6 V,U i6 C] _ (fun j u hj=>(hw'.2.cell (World.block_lt_of_cell? W _ (HB.out j u hj))).trans (HB.out j u hj)) Tryz.underlying23 rfl (by kernel_rfl)) ?_
 refine takeC 10 (v:=.agg #[U i6 k,U i6 ja,U i6 b,U i6 m,U i6 kh,U i6 kw,U i6 sh,U i6 sw,U i6 tp,U i6 lf,U i6 bt,U i6 rt,Sl wa lw cw,Sl ba lb bc,U i6 sm,U i6 ss,U i6 um,U i6 us,U i6 z,U i6 p,U i6 lo,U i6 hi,U i6 h,U i6 w,U i6 c,U i6 H,U i6 V,U i6 C,U i6 0,U i6 0]) rfl rfl (by kernel_rfl) (by kernel_rfl) (by kernel_rfl) (fun _ _ _ h=>h) (fun _=>rfl) rfl (fun w' hw'=>by kernel_rfl) ?_
 refine stepR 11 HD.out (by kernel_rfl) rfl rfl (.pointer (some ⟨wd.heap.size,0,none⟩)) (wd.alloc (.cells #[U i6 0,U i6 0,U i6 0,U i6 0,U i6 0,U i6 0,U i6 0,U i6 0,U i6 0,U i6 0,U i6 0,U i6 0,Sl none 0 0,Sl none 0 0,U i6 0,U i6 0,U i6 0,U i6 0,U i6 0,U i6 0,U i6 0,U i6 0,U i6 0,U i6 0,U i6 0,U i6 0,U i6 0,U i6 0,U i6 0,U i6 0] 57)) (by kernel_rfl) ?_
 have hC2:(∀ q v,[U i6 k,U i6 ja,U i6 b,U i6 m,U i6 kh,U i6 kw,U i6 sh,U i6 sw,U i6 tp,U i6 lf,U i6 bt,U i6 rt,Sl wa lw cw,Sl ba lb bc,U i6 sm,U i6 ss,U i6 um,U i6 us,U i6 z,U i6 p,U i6 lo,U i6 hi][q]? = some v→(wd.alloc (.cells #[U i6 0,U i6 0,U i6 0,U i6 0,U i6 0,U i6 0,U i6 0,U i6 0,U i6 0,U i6 0,U i6 0,U i6 0,Sl none 0 0,Sl none 0 0,U i6 0,U i6 0,U i6 0,U i6 0,U i6 0,U i6 0,U i6 0,U i6 0,U i6 0,U i6 0,U i6 0,U i6 0,U i6 0,U i6 0,U i6 0,U i6 0] 57)).cell? ((⟨W.heap.size,0,none⟩:Addr).add q)=some v)∧Below W.heap.size W (wd.alloc (.cells #[U i6 0,U i6 0,U i6 0,U i6 0,U i6 0,U i6 0,U i6 0,U i6 0,U i6 0,U i6 0,U i6 0,U i6 0,Sl none 0 0,Sl none 0 0,U i6 0,U i6 0,U i6 0,U i6 0,U i6 0,U i6 0,U i6 0,U i6 0,U i6 0,U i6 0,U i6 0,U i6 0,U i6 0,U i6 0,U i6 0,U i6 0] 57)):=⟨lcells (S1.out.skip (Obj.cells #[U i6 0,U i6 0,U i6 0,U i6 0,U i6 0,U i6 0,U i6 0,U i6 0,U i6 0,U i6 0,U i6 0,U i6 0,Sl none 0 0,Sl none 0 0,U i6 0,U i6 0,U i6 0,U i6 0,U i6 0,U i6 0,U i6 0,U i6 0,U i6 0,U i6 0,U i6 0,U i6 0,U i6 0,U i6 0,U i6 0,U i6 0] 57)).h2 (fget [U i6 k,U i6 ja,U i6 b,U i6 m,U i6 kh,U i6 kw,U i6 sh,U i6 sw,U i6 tp,U i6 lf,U i6 bt,U i6 rt,Sl wa lw cw,Sl ba lb bc,U i6 sm,U i6 ss,U i6 um,U i6 us,U i6 z,U i6 p,U i6 lo,U i6 hi] []),(S1.out.skip (Obj.cells #[U i6 0,U i6 0,U i6 0,U i6 0,U i6 0,U i6 0,U i6 0,U i6 0,U i6 0,U i6 0,U i6 0,U i6 0,Sl none 0 0,Sl none 0 0,U i6 0,U i6 0,U i6 0,U i6 0,U i6 0,U i6 0,U i6 0,U i6 0,U i6 0,U i6 0,U i6 0,U i6 0,U i6 0,U i6 0,U i6 0,U i6 0] 57)).below⟩
 refine stepS 12 hC2 (by kernel_rfl) rfl rfl 57 (.tmp 7) (.tmp 18) rfl wd.heap.size #[U i6 k,U i6 ja,U i6 b,U i6 m,U i6 kh,U i6 kw,U i6 sh,U i6 sw,U i6 tp,U i6 lf,U i6 bt,U i6 rt,Sl wa lw cw,Sl ba lb bc,U i6 sm,U i6 ss,U i6 um,U i6 us,U i6 z,U i6 p,U i6 lo,U i6 hi,U i6 h,U i6 w,U i6 c,U i6 H,U i6 V,U i6 C,U i6 0,U i6 0] (by kernel_rfl) (by kernel_rfl) 57 #[U i6 0,U i6 0,U i6 0,U i6 0,U i6 0,U i6 0,U i6 0,U i6 0,U i6 0,U i6 0,U i6 0,U i6 0,Sl none 0 0,Sl none 0 0,U i6 0,U i6 0,U i6 0,U i6 0,U i6 0,U i6 0,U i6 0,U i6 0,U i6 0,U i6 0,U i6 0,U i6 0,U i6 0,U i6 0,U i6 0,U i6 0] (heap_alloc_new wd _) (by kernel_rfl) rfl (by simp [Value.oneCell']) ?_
 rw [World.setRow_alloc_new]
 have s2:=S1.out.new (c:=#[U i6 k,U i6 ja,U i6 b,U i6 m,U i6 kh,U i6 kw,U i6 sh,U i6 sw,U i6 tp,U i6 lf,U i6 bt,U i6 rt,Sl wa lw cw,Sl ba lb bc,U i6 sm,U i6 ss,U i6 um,U i6 us,U i6 z,U i6 p,U i6 lo,U i6 hi,U i6 h,U i6 w,U i6 c,U i6 H,U i6 V,U i6 C,U i6 0,U i6 0]) (t:=57)
 have hkb:W.heap.size+1<wd.heap.size:=lt_of_heap S1.out.h1
 obtain⟨kb,hkbe⟩:∃ kb,wd.heap.size=kb:=⟨_,rfl⟩
 obtain⟨w2,hw2⟩:∃ w2,wd.alloc (.cells #[U i6 k,U i6 ja,U i6 b,U i6 m,U i6 kh,U i6 kw,U i6 sh,U i6 sw,U i6 tp,U i6 lf,U i6 bt,U i6 rt,Sl wa lw cw,Sl ba lb bc,U i6 sm,U i6 ss,U i6 um,U i6 us,U i6 z,U i6 p,U i6 lo,U i6 hi,U i6 h,U i6 w,U i6 c,U i6 H,U i6 V,U i6 C,U i6 0,U i6 0] 57)=w2:=⟨_,rfl⟩
 rw [hw2,hkbe] at s2
 rw [hkbe] at hkb
 rw [hw2,hkbe]
 have S2:Hid (St W w2 [(kb,#[U i6 k,U i6 ja,U i6 b,U i6 m,U i6 kh,U i6 kw,U i6 sh,U i6 sw,U i6 tp,U i6 lf,U i6 bt,U i6 rt,Sl wa lw cw,Sl ba lb bc,U i6 sm,U i6 ss,U i6 um,U i6 us,U i6 z,U i6 p,U i6 lo,U i6 hi,U i6 h,U i6 w,U i6 c,U i6 H,U i6 V,U i6 C,U i6 0,U i6 0],57),(W.heap.size+1,#[U i6 0,U i6 0,U i6 0,U i6 0,U i6 0,U i6 0,U i6 0,U i6 0,U i6 0,U i6 0,U i6 0,U i6 0,Sl none 0 0,Sl none 0 0,U i6 0,U i6 0,U i6 0,U i6 0,U i6 0,U i6 0,U i6 0,U i6 0,U i6 0,U i6 0,U i6 0,U i6 0,U i6 0,U i6 0,U i6 0,U i6 0],57),(W.heap.size,#[U i6 k,U i6 ja,U i6 b,U i6 m,U i6 kh,U i6 kw,U i6 sh,U i6 sw,U i6 tp,U i6 lf,U i6 bt,U i6 rt,Sl wa lw cw,Sl ba lb bc,U i6 sm,U i6 ss,U i6 um,U i6 us,U i6 z,U i6 p,U i6 lo,U i6 hi],55)]):=s2
 clear hw2 hkbe s2 hC2 HD S1 HA HB
 refine doneC ⟨lcells S2.out.h3 (fget [U i6 k,U i6 ja,U i6 b,U i6 m,U i6 kh,U i6 kw,U i6 sh,U i6 sw,U i6 tp,U i6 lf,U i6 bt,U i6 rt,Sl wa lw cw,Sl ba lb bc,U i6 sm,U i6 ss,U i6 um,U i6 us,U i6 z,U i6 p,U i6 lo,U i6 hi] []),S2.out.below⟩ (by kernel_rfl) ?_ _
 refine act_eq' (b:={ tmps:=#[.agg #[U i6 k,U i6 ja,U i6 b,U i6 m,U i6 kh,U i6 kw,U i6 sh,U i6 sw,U i6 tp,U i6 lf,U i6 bt,U i6 rt,Sl wa lw cw,Sl ba lb bc,U i6 sm,U i6 ss,U i6 um,U i6 us,U i6 z,U i6 p,U i6 lo,U i6 hi],Sl (some ⟨gs,0,none⟩) sn cap,U i6 n1,.pointer (some ⟨W.heap.size,0,none⟩),undef,undef,.pointer (some ⟨W.heap.size+1,0,none⟩),.pointer (some ⟨kb,0,none⟩),.agg #[U i6 k,U i6 ja,U i6 b,U i6 m,U i6 kh,U i6 kw,U i6 sh,U i6 sw,U i6 tp,U i6 lf,U i6 bt,U i6 rt,Sl wa lw cw,Sl ba lb bc,U i6 sm,U i6 ss,U i6 um,U i6 us,U i6 z,U i6 p,U i6 lo,U i6 hi],Sl (some ⟨gs,0,none⟩) sn cap,.pointer (some ⟨W.heap.size,1,none⟩),U i6 ja,.pointer (some ⟨gs,ja*3,none⟩),.agg #[U i6 h,U i6 w,U i6 c],Sl (some ⟨gs,0,none⟩) sn cap,U i6 n1,.pointer (some ⟨gs,n1*3,none⟩),.agg #[U i6 H,U i6 V,U i6 C],.agg #[U i6 k,U i6 ja,U i6 b,U i6 m,U i6 kh,U i6 kw,U i6 sh,U i6 sw,U i6 tp,U i6 lf,U i6 bt,U i6 rt,Sl wa lw cw,Sl ba lb bc,U i6 sm,U i6 ss,U i6 um,U i6 us,U i6 z,U i6 p,U i6 lo,U i6 hi,U i6 h,U i6 w,U i6 c,U i6 H,U i6 V,U i6 C,U i6 0,U i6 0],undef,undef,undef,undef,undef,undef,undef,undef,undef,undef,undef,undef,undef,undef,undef],defers:=[] }) (by kernel_rfl) ?_
 obtain⟨c1,f1,z1,-⟩:=S2.out.rules
 go_wp2_with fail
 refine (HRed.out _).mono ?_
 rintro e w3 ⟨rfl,hw3⟩
 have hw3':=hw3.symm
 subst hw3'
 clear hw3 HRed
 by_cases h4:k≤4
 ·rw [(show rdB k=true from decide_eq_true ⟨hk8.1,h4⟩)]
  have hL:=HX.out
  rw [if_pos h4] at hL
  have hY:=HY.out
  rw [if_pos h4] at hY
  subst hY
  clear HX HY
  have HLen':Hid (∀ w' g,Below W.heap.size W w'→w'.heap[g]? = some (Obj.cells #[U i6 k,U i6 0,U i6 b,U i6 m,U i6 kh,U i6 kw,U i6 sh,U i6 sw,U i6 tp,U i6 lf,U i6 bt,U i6 rt,Sl wa lw cw,Sl ba lb bc,U i6 sm,U i6 ss,U i6 um,U i6 us,U i6 z,U i6 p,U i6 lo,U i6 hi] 55 (0,0))→_):=fun w' g h1 h2=>HLen.out w' g h1 h2 h4
  rw [hL] at HLen'
  clear hL HLen
  go_wp2_with fail
  refine (HAl.out kb w2 S2.out.h1).mono ?_
  rintro e w3 ⟨g,rfl,hgc,hgb,hb3⟩
  have S3:Hid (St W w3 [(kb,#[U i6 k,U i6 ja,U i6 b,U i6 m,U i6 kh,U i6 kw,U i6 sh,U i6 sw,U i6 tp,U i6 lf,U i6 bt,U i6 rt,Sl wa lw cw,Sl ba lb bc,U i6 sm,U i6 ss,U i6 um,U i6 us,U i6 z,U i6 p,U i6 lo,U i6 hi,U i6 h,U i6 w,U i6 c,U i6 H,U i6 V,U i6 C,U i6 0,U i6 0],57),(W.heap.size+1,#[U i6 0,U i6 0,U i6 0,U i6 0,U i6 0,U i6 0,U i6 0,U i6 0,U i6 0,U i6 0,U i6 0,U i6 0,Sl none 0 0,Sl none 0 0,U i6 0,U i6 0,U i6 0,U i6 0,U i6 0,U i6 0,U i6 0,U i6 0,U i6 0,U i6 0,U i6 0,U i6 0,U i6 0,U i6 0,U i6 0,U i6 0],57),(W.heap.size,#[U i6 k,U i6 ja,U i6 b,U i6 m,U i6 kh,U i6 kw,U i6 sh,U i6 sw,U i6 tp,U i6 lf,U i6 bt,U i6 rt,Sl wa lw cw,Sl ba lb bc,U i6 sm,U i6 ss,U i6 um,U i6 us,U i6 z,U i6 p,U i6 lo,U i6 hi],55)]):=S2.out.call hb3
  have hg3:=hgc
  clear hb3 S2 HAl c1 f1 z1 hgc hgb
  go_wp2_with fail
  refine (HLen'.out w3 g S3.out.below hg3).mono ?_
  rintro e w4 ⟨rfl,hb4⟩
  have S4:Hid (St W w4 [(kb,#[U i6 k,U i6 ja,U i6 b,U i6 m,U i6 kh,U i6 kw,U i6 sh,U i6 sw,U i6 tp,U i6 lf,U i6 bt,U i6 rt,Sl wa lw cw,Sl ba lb bc,U i6 sm,U i6 ss,U i6 um,U i6 us,U i6 z,U i6 p,U i6 lo,U i6 hi,U i6 h,U i6 w,U i6 c,U i6 H,U i6 V,U i6 C,U i6 0,U i6 0],57),(W.heap.size+1,#[U i6 0,U i6 0,U i6 0,U i6 0,U i6 0,U i6 0,U i6 0,U i6 0,U i6 0,U i6 0,U i6 0,U i6 0,Sl none 0 0,Sl none 0 0,U i6 0,U i6 0,U i6 0,U i6 0,U i6 0,U i6 0,U i6 0,U i6 0,U i6 0,U i6 0,U i6 0,U i6 0,U i6 0,U i6 0,U i6 0,U i6 0],57),(W.heap.size,#[U i6 k,U i6 ja,U i6 b,U i6 m,U i6 kh,U i6 kw,U i6 sh,U i6 sw,U i6 tp,U i6 lf,U i6 bt,U i6 rt,Sl wa lw cw,Sl ba lb bc,U i6 sm,U i6 ss,U i6 um,U i6 us,U i6 z,U i6 p,U i6 lo,U i6 hi],55)]):=S3.out.call hb4
  clear hb4 S3 HLen' hg3
  obtain⟨c1,f1,z1,-⟩:=S4.out.rules
  go_upto_region 4 with fail
  have s5:=S4.out.seti (i:=28) (v:=U i6 X) (by simp;omega) #[U i6 k,U i6 ja,U i6 b,U i6 m,U i6 kh,U i6 kw,U i6 sh,U i6 sw,U i6 tp,U i6 lf,U i6 bt,U i6 rt,Sl wa lw cw,Sl ba lb bc,U i6 sm,U i6 ss,U i6 um,U i6 us,U i6 z,U i6 p,U i6 lo,U i6 hi,U i6 h,U i6 w,U i6 c,U i6 H,U i6 V,U i6 C,U i6 X,U i6 0] (by kernel_rfl)
  obtain⟨w5,hw5⟩:∃ w5,w4.setCell ⟨kb,28,none⟩ (U i6 X)=w5:=⟨_,rfl⟩
  rw [hw5] at s5 ⊢
  have S5:Hid (St W w5 [(kb,#[U i6 k,U i6 ja,U i6 b,U i6 m,U i6 kh,U i6 kw,U i6 sh,U i6 sw,U i6 tp,U i6 lf,U i6 bt,U i6 rt,Sl wa lw cw,Sl ba lb bc,U i6 sm,U i6 ss,U i6 um,U i6 us,U i6 z,U i6 p,U i6 lo,U i6 hi,U i6 h,U i6 w,U i6 c,U i6 H,U i6 V,U i6 C,U i6 X,U i6 0],57),(W.heap.size+1,#[U i6 0,U i6 0,U i6 0,U i6 0,U i6 0,U i6 0,U i6 0,U i6 0,U i6 0,U i6 0,U i6 0,U i6 0,Sl none 0 0,Sl none 0 0,U i6 0,U i6 0,U i6 0,U i6 0,U i6 0,U i6 0,U i6 0,U i6 0,U i6 0,U i6 0,U i6 0,U i6 0,U i6 0,U i6 0,U i6 0,U i6 0],57),(W.heap.size,#[U i6 k,U i6 ja,U i6 b,U i6 m,U i6 kh,U i6 kw,U i6 sh,U i6 sw,U i6 tp,U i6 lf,U i6 bt,U i6 rt,Sl wa lw cw,Sl ba lb bc,U i6 sm,U i6 ss,U i6 um,U i6 us,U i6 z,U i6 p,U i6 lo,U i6 hi],55)]):=s5
  clear hw5 s5 S4 c1 f1 z1
  obtain⟨c1,f1,z1,-⟩:=S5.out.rules
  go_upto_region 5 with fail
  have s6:=S5.out.seti (i:=29) (v:=U i6 C) (by simp;omega) #[U i6 k,U i6 ja,U i6 b,U i6 m,U i6 kh,U i6 kw,U i6 sh,U i6 sw,U i6 tp,U i6 lf,U i6 bt,U i6 rt,Sl wa lw cw,Sl ba lb bc,U i6 sm,U i6 ss,U i6 um,U i6 us,U i6 z,U i6 p,U i6 lo,U i6 hi,U i6 h,U i6 w,U i6 c,U i6 H,U i6 V,U i6 C,U i6 X,U i6 C] (by kernel_rfl)
  obtain⟨w6,hw6⟩:∃ w6,w5.setCell ⟨kb,29,none⟩ (U i6 C)=w6:=⟨_,rfl⟩
  rw [hw6] at s6 ⊢
  have S6:Hid (St W w6 [(kb,#[U i6 k,U i6 ja,U i6 b,U i6 m,U i6 kh,U i6 kw,U i6 sh,U i6 sw,U i6 tp,U i6 lf,U i6 bt,U i6 rt,Sl wa lw cw,Sl ba lb bc,U i6 sm,U i6 ss,U i6 um,U i6 us,U i6 z,U i6 p,U i6 lo,U i6 hi,U i6 h,U i6 w,U i6 c,U i6 H,U i6 V,U i6 C,U i6 X,U i6 C],57),(W.heap.size+1,#[U i6 0,U i6 0,U i6 0,U i6 0,U i6 0,U i6 0,U i6 0,U i6 0,U i6 0,U i6 0,U i6 0,U i6 0,Sl none 0 0,Sl none 0 0,U i6 0,U i6 0,U i6 0,U i6 0,U i6 0,U i6 0,U i6 0,U i6 0,U i6 0,U i6 0,U i6 0,U i6 0,U i6 0,U i6 0,U i6 0,U i6 0],57),(W.heap.size,#[U i6 k,U i6 ja,U i6 b,U i6 m,U i6 kh,U i6 kw,U i6 sh,U i6 sw,U i6 tp,U i6 lf,U i6 bt,U i6 rt,Sl wa lw cw,Sl ba lb bc,U i6 sm,U i6 ss,U i6 um,U i6 us,U i6 z,U i6 p,U i6 lo,U i6 hi],55)]):=s6
  clear hw6 s6 S5 c1 f1 z1
  go_wp2_with (first
   | (refine wpList_load_row rfl 57 (.tmp 7) rfl kb rfl 57 #[U i6 k,U i6 ja,U i6 b,U i6 m,U i6 kh,U i6 kw,U i6 sh,U i6 sw,U i6 tp,U i6 lf,U i6 bt,U i6 rt,Sl wa lw cw,Sl ba lb bc,U i6 sm,U i6 ss,U i6 um,U i6 us,U i6 z,U i6 p,U i6 lo,U i6 hi,U i6 h,U i6 w,U i6 c,U i6 H,U i6 V,U i6 C,U i6 X,U i6 C] (0,0) _ S6.out.h1 Tryz.underlying57 rfl (by kernel_rfl) ?_)
   | (refine wpList_store_row rfl 57 (.tmp 6) (.tmp 33) rfl (W.heap.size+1) #[U i6 k,U i6 ja,U i6 b,U i6 m,U i6 kh,U i6 kw,U i6 sh,U i6 sw,U i6 tp,U i6 lf,U i6 bt,U i6 rt,Sl wa lw cw,Sl ba lb bc,U i6 sm,U i6 ss,U i6 um,U i6 us,U i6 z,U i6 p,U i6 lo,U i6 hi,U i6 h,U i6 w,U i6 c,U i6 H,U i6 V,U i6 C,U i6 X,U i6 C] rfl rfl 57 #[U i6 0,U i6 0,U i6 0,U i6 0,U i6 0,U i6 0,U i6 0,U i6 0,U i6 0,U i6 0,U i6 0,U i6 0,Sl none 0 0,Sl none 0 0,U i6 0,U i6 0,U i6 0,U i6 0,U i6 0,U i6 0,U i6 0,U i6 0,U i6 0,U i6 0,U i6 0,U i6 0,U i6 0,U i6 0,U i6 0,U i6 0] S6.out.h2 (by kernel_rfl) rfl (by simp [Value.oneCell']) ?_
      have S7:Hid (St W (w6.setRow (W.heap.size+1) #[U i6 k,U i6 ja,U i6 b,U i6 m,U i6 kh,U i6 kw,U i6 sh,U i6 sw,U i6 tp,U i6 lf,U i6 bt,U i6 rt,Sl wa lw cw,Sl ba lb bc,U i6 sm,U i6 ss,U i6 um,U i6 us,U i6 z,U i6 p,U i6 lo,U i6 hi,U i6 h,U i6 w,U i6 c,U i6 H,U i6 V,U i6 C,U i6 X,U i6 C]) [(W.heap.size+1,#[U i6 k,U i6 ja,U i6 b,U i6 m,U i6 kh,U i6 kw,U i6 sh,U i6 sw,U i6 tp,U i6 lf,U i6 bt,U i6 rt,Sl wa lw cw,Sl ba lb bc,U i6 sm,U i6 ss,U i6 um,U i6 us,U i6 z,U i6 p,U i6 lo,U i6 hi,U i6 h,U i6 w,U i6 c,U i6 H,U i6 V,U i6 C,U i6 X,U i6 C],57)]):=((S6.out.sub (l':=[(W.heap.size+1,#[U i6 0,U i6 0,U i6 0,U i6 0,U i6 0,U i6 0,U i6 0,U i6 0,U i6 0,U i6 0,U i6 0,U i6 0,Sl none 0 0,Sl none 0 0,U i6 0,U i6 0,U i6 0,U i6 0,U i6 0,U i6 0,U i6 0,U i6 0,U i6 0,U i6 0,U i6 0,U i6 0,U i6 0,U i6 0,U i6 0,U i6 0],57)]) (by simp)).row #[U i6 k,U i6 ja,U i6 b,U i6 m,U i6 kh,U i6 kw,U i6 sh,U i6 sw,U i6 tp,U i6 lf,U i6 bt,U i6 rt,Sl wa lw cw,Sl ba lb bc,U i6 sm,U i6 ss,U i6 um,U i6 us,U i6 z,U i6 p,U i6 lo,U i6 hi,U i6 h,U i6 w,U i6 c,U i6 H,U i6 V,U i6 C,U i6 X,U i6 C] (fun x hx=>by cases hx))
      generalize World.setRow _ _ _=w7 at S7 ⊢))
  exact bodyPost_ret (results_row Tryz.results11 _ _ (W.heap.size+1) 57 _ _ (by kernel_rfl) S7.out.h1 Tryz.underlying57 rfl (by kernel_rfl)) rfl ⟨rfl,S7.out.below⟩
 ·rw [(show rdB k=false from decide_eq_false (fun q=>h4 q.2))]
  have hX:=HX.out
  rw [if_neg h4] at hX
  have hY:=HY.out
  rw [if_neg h4] at hY
  subst hX hY
  clear HX HY
  clear HLen HAl
  go_wp2_with (first
   | (refine wpList_load_row rfl 57 (.tmp 7) rfl kb rfl 57 #[U i6 k,U i6 ja,U i6 b,U i6 m,U i6 kh,U i6 kw,U i6 sh,U i6 sw,U i6 tp,U i6 lf,U i6 bt,U i6 rt,Sl wa lw cw,Sl ba lb bc,U i6 sm,U i6 ss,U i6 um,U i6 us,U i6 z,U i6 p,U i6 lo,U i6 hi,U i6 h,U i6 w,U i6 c,U i6 H,U i6 V,U i6 C,U i6 0,U i6 0] (0,0) _ S2.out.h1 Tryz.underlying57 rfl (by kernel_rfl) ?_)
   | (refine wpList_store_row rfl 57 (.tmp 6) (.tmp 33) rfl (W.heap.size+1) #[U i6 k,U i6 ja,U i6 b,U i6 m,U i6 kh,U i6 kw,U i6 sh,U i6 sw,U i6 tp,U i6 lf,U i6 bt,U i6 rt,Sl wa lw cw,Sl ba lb bc,U i6 sm,U i6 ss,U i6 um,U i6 us,U i6 z,U i6 p,U i6 lo,U i6 hi,U i6 h,U i6 w,U i6 c,U i6 H,U i6 V,U i6 C,U i6 0,U i6 0] rfl rfl 57 #[U i6 0,U i6 0,U i6 0,U i6 0,U i6 0,U i6 0,U i6 0,U i6 0,U i6 0,U i6 0,U i6 0,U i6 0,Sl none 0 0,Sl none 0 0,U i6 0,U i6 0,U i6 0,U i6 0,U i6 0,U i6 0,U i6 0,U i6 0,U i6 0,U i6 0,U i6 0,U i6 0,U i6 0,U i6 0,U i6 0,U i6 0] S2.out.h2 (by kernel_rfl) rfl (by simp [Value.oneCell']) ?_
      have S7:Hid (St W (w2.setRow (W.heap.size+1) #[U i6 k,U i6 ja,U i6 b,U i6 m,U i6 kh,U i6 kw,U i6 sh,U i6 sw,U i6 tp,U i6 lf,U i6 bt,U i6 rt,Sl wa lw cw,Sl ba lb bc,U i6 sm,U i6 ss,U i6 um,U i6 us,U i6 z,U i6 p,U i6 lo,U i6 hi,U i6 h,U i6 w,U i6 c,U i6 H,U i6 V,U i6 C,U i6 0,U i6 0]) [(W.heap.size+1,#[U i6 k,U i6 ja,U i6 b,U i6 m,U i6 kh,U i6 kw,U i6 sh,U i6 sw,U i6 tp,U i6 lf,U i6 bt,U i6 rt,Sl wa lw cw,Sl ba lb bc,U i6 sm,U i6 ss,U i6 um,U i6 us,U i6 z,U i6 p,U i6 lo,U i6 hi,U i6 h,U i6 w,U i6 c,U i6 H,U i6 V,U i6 C,U i6 0,U i6 0],57)]):=((S2.out.sub (l':=[(W.heap.size+1,#[U i6 0,U i6 0,U i6 0,U i6 0,U i6 0,U i6 0,U i6 0,U i6 0,U i6 0,U i6 0,U i6 0,U i6 0,Sl none 0 0,Sl none 0 0,U i6 0,U i6 0,U i6 0,U i6 0,U i6 0,U i6 0,U i6 0,U i6 0,U i6 0,U i6 0,U i6 0,U i6 0,U i6 0,U i6 0,U i6 0,U i6 0],57)]) (by simp)).row #[U i6 k,U i6 ja,U i6 b,U i6 m,U i6 kh,U i6 kw,U i6 sh,U i6 sw,U i6 tp,U i6 lf,U i6 bt,U i6 rt,Sl wa lw cw,Sl ba lb bc,U i6 sm,U i6 ss,U i6 um,U i6 us,U i6 z,U i6 p,U i6 lo,U i6 hi,U i6 h,U i6 w,U i6 c,U i6 H,U i6 V,U i6 C,U i6 0,U i6 0] (fun x hx=>by cases hx))
      generalize World.setRow _ _ _=w7 at S7 ⊢))
  exact bodyPost_ret (results_row Tryz.results11 _ _ (W.heap.size+1) 57 _ _ (by kernel_rfl) S7.out.h1 Tryz.underlying57 rfl (by kernel_rfl)) rfl ⟨rfl,S7.out.below⟩
structure Mv (w w':World) (p q:Nat):Prop where
 os:w'.os=w.os
 tape:w'.tape=w.tape
 output:w'.output=w.output
 size:w.heap.size≤w'.heap.size
 block:∀ k,k<w.heap.size→k≠p→k≠q→w'.heap[k]? = w.heap[k]?
theorem Mv.refl (w:World) (p q:Nat):Mv w w p q:=⟨rfl,rfl,rfl,Nat.le_refl _,fun _ _ _ _=>rfl⟩
theorem Mv.trans {a b c:World} {p q:Nat} (h:Mv a b p q) (g:Mv b c p q):Mv a c p q :=
 ⟨g.os.trans h.os,g.tape.trans h.tape,g.output.trans h.output,Nat.le_trans h.size g.size,fun k hk hp hq=>(g.block k (Nat.lt_of_lt_of_le hk h.size) hp hq).trans (h.block k hk hp hq)⟩
theorem Mv.bel {a b c:World} {p q:Nat} (h:Mv a b p q) (g:Below b.heap.size b c):Mv a c p q :=
 h.trans ⟨g.os,g.tape,g.output,g.size,fun k hk _ _=>g.block k hk⟩
theorem Mv.setp {a b:World} {p q i:Nat} {v:Value} (h:Mv a b p q):Mv a (b.setCell ⟨p,i,none⟩ v) p q:=by
 have g:=(Below.refl 0 b).setCell (p:=⟨p,i,none⟩) (Nat.zero_le _) v
 exact h.trans ⟨g.os,g.tape,g.output,g.size,fun k _ hp _=>Below.heap_setCell _ _ _ _ hp⟩
theorem Mv.setq {a b:World} {p q i:Nat} {v:Value} (h:Mv a b p q):Mv a (b.setCell ⟨q,i,none⟩ v) p q:=by
 have g:=(Below.refl 0 b).setCell (p:=⟨q,i,none⟩) (Nat.zero_le _) v
 exact h.trans ⟨g.os,g.tape,g.output,g.size,fun k _ _ hq=>Below.heap_setCell _ _ _ _ hq⟩
theorem Mv.low {w0 w w':World} {B p q:Nat} (h:Mv w w' p q) (b:Below B w0 w) (hB:B≤w.heap.size) (hp:B≤p) (hq:B≤q):Below B w0 w' :=
 ⟨h.os.trans b.os,h.tape.trans b.tape,h.output.trans b.output,Nat.le_trans b.size h.size,fun k hk=>(h.block k (by omega) (by omega) (by omega)).trans (b.block k hk)⟩
theorem own_mv {k:IntKind} {T:TypeId} {w w':World} {base p q:Nat} {v:Value} {zs:List Int} (h:Own k T w base v zs) (g:Mv w w' p q) (hp:some p≠v.ownBlock) (hq:some q≠v.ownBlock):Own k T w' base v zs:=by
 refine⟨⟨h.1.1,?_⟩,h.2⟩
 rcases h.1.2 with h | ⟨b,cap,cur,rfl,h2,h3,h4⟩
 ·exact .inl h
 ·refine .inr ⟨b,cap,cur,rfl,h2,?_,h4⟩
  rw [g.block b (lt_of_heap h3) (fun e=>hp (by rw [e];rfl)) (fun e=>hq (by rw [e];rfl))]
  exact h3
theorem st_mv {w0 w w':World} {l:List (Nat×Array Value×TypeId)} {p q:Nat} (h:St w0 w l) (g:Mv w w' p q) (hp:w0.heap.size≤p) (hq:w0.heap.size≤q) (hl:∀ x∈l,x.1≠p∧x.1≠q):St w0 w' l :=
 ⟨g.low h.1 h.1.size hp hq,fun x hx=>⟨by rw [g.block _ (lt_of_heap (h.2 x hx).1) (hl x hx).1 (hl x hx).2];exact (h.2 x hx).1,(h.2 x hx).2⟩⟩
def mix (a b:List Int) (y:Nat):List Int:=a.take y++b.drop y
theorem mix_0 (a b:List Int):mix a b 0=b:=by simp [mix]
theorem mix_len {a b:List Int} {N y:Nat} (ha:a.length=N) (hb:b.length=N) (hy:y≤N):(mix a b y).length=N:=by simp [mix];omega
theorem mix_all {a b:List Int} {N:Nat} (ha:a.length=N) (hb:b.length=N):mix a b N=a:=by unfold mix;rw [List.take_of_length_le (by omega),List.drop_of_length_le (by omega),List.append_nil]
theorem mix_set {a b:List Int} {N y:Nat} {u:Int} (ha:a.length=N) (hb:b.length=N) (hy:y<N) (hu:a[y]? = some u):(mix a b y).set y u=mix a b (y+1):=by
 unfold mix
 have hl:(a.take y).length=y:=by rw [List.length_take];omega
 have hl2:(a.take (y+1)).length=y+1:=by rw [List.length_take];omega
 apply List.ext_getElem?
 intro j
 by_cases q:j=y
 ·subst q
  rw [List.getElem?_set_self (by simp;omega),List.getElem?_append_left (by omega),List.getElem?_take,if_pos (by omega),hu]
 ·rw [List.getElem?_set_ne (by omega)]
  by_cases q2:j<y
  ·rw [List.getElem?_append_left (by omega),List.getElem?_append_left (by omega),List.getElem?_take,List.getElem?_take,if_pos q2,if_pos (by omega)]
  ·rw [List.getElem?_append_right (by omega),List.getElem?_append_right (by omega),hl,hl2,List.getElem?_drop,List.getElem?_drop]
   congr 1
   omega
theorem mix_set2 {a b:List Int} {N y:Nat} {u v:Int} (ha:a.length=N) (hb:b.length=N) (hy:y<N) (hu:a[y]? = some u):((mix a b y).set y v).set y u=mix a b (y+1):=by
 rw [List.set_set,mix_set ha hb hy hu]
theorem Mv.cell {w w':World} {p q:Nat} {a:Addr} (h:Mv w w' p q) (hl:a.block<w.heap.size) (hp:a.block≠p) (hq:a.block≠q):w'.cell? a=w.cell? a:=by
 unfold World.cell?
 rw [h.block _ hl hp hq]
theorem bk_other {k:IntKind} {T:TypeId} {w:World} {g b i:Nat} {v:Value} {zs:List Int} (h:Bk k T w g zs) (q:g≠b):Bk k T (w.setCell ⟨b,i,none⟩ v) g zs:=by
 unfold Bk at h ⊢
 rw [Below.heap_setCell _ _ _ _ q]
 exact h
theorem bk_grown {k:IntKind} {T:TypeId} {w w':World} {g:Nat} {row:Option Nat} {zs:List Int} (h:Bk k T w g zs) (q:w.grownBy w' row) (hn:some g≠row):Bk k T w' g zs:=by
 unfold Bk at h ⊢
 rw [q.block g (lt_of_heap h) hn]
 exact h
theorem bk_mv {k:IntKind} {T:TypeId} {w w':World} {g p q:Nat} {zs:List Int} (h:Bk k T w g zs) (m:Mv w w' p q) (hp:g≠p) (hq:g≠q):Bk k T w' g zs:=by
 unfold Bk at h ⊢
 rw [m.block g (lt_of_heap h) hp hq]
 exact h
theorem Mv.set9 {a b:World} {p q:Nat} (h:Mv a b p q) (v0 v1 v2 v3 v4 v5 v6 v7 v8:Value) :
  Mv a (((((((((b.setCell ⟨p,0,none⟩ v0).setCell ⟨p,1,none⟩ v1).setCell ⟨p,2,none⟩ v2).setCell ⟨p,3,none⟩ v3).setCell ⟨p,4,none⟩ v4).setCell ⟨p,5,none⟩ v5).setCell ⟨p,6,none⟩ v6).setCell ⟨p,7,none⟩ v7).setCell ⟨p,8,none⟩ v8) p q :=
 h.setp.setp.setp.setp.setp.setp.setp.setp.setp
theorem i16w {F:Int} (h:-32768≤F∧F≤32767):IntKind.i16.wrap F=F:=by simp [IntKind.wrap,IntKind.bits,IntKind.signed];omega
theorem i8wr {F:Int} (h:I8 F):IntKind.i8.wrap F=F:=by
 obtain⟨h1,h2⟩:=h
 simp [IntKind.wrap,IntKind.bits,IntKind.signed];omega
theorem lineup_any (k a b m kh kw sh sw tp lf bt rt:Int) (wa:Option Addr) (lw wc:Nat) (ba:Option Addr) (lb bc:Nat) (sm ss um us z p lo hi h w c H V C ln pn:Int) (r:Nat) (W0 W:World) (hr:W0.heap[r]? = some (.cells #[U i6 k,U i6 a,U i6 b,U i6 m,U i6 kh,U i6 kw,U i6 sh,U i6 sw,U i6 tp,U i6 lf,U i6 bt,U i6 rt,Sl wa lw wc,Sl ba lb bc,U i6 sm,U i6 ss,U i6 um,U i6 us,U i6 z,U i6 p,U i6 lo,U i6 hi,U i6 h,U i6 w,U i6 c,U i6 H,U i6 V,U i6 C,U i6 ln,U i6 pn] 57 (0,0))) (hb0:Below W0.heap.size W0 W) (base:Nat) (v:Value) (TL:List (Int×Int)) (hT:OTm W base v TL) (ad:Option Addr) (n cap:Nat) (xs:List Int) (hX:IRow .i8 W0 ad n cap xs) (hp8:I8 p) (N:Nat) (hN:TL.length=N) (hN5:N≤512)
  (ht:∀ t∈TL,(-32768≤t.1∧t.1≤32767)∧(t.2 = -1∨(0≤t.2∧t.2<(n:Int)))) (P Q:Nat) (hP:W0.heap.size≤P) (hQ:W0.heap.size≤Q) (hPQ:P≠Q) (hPb:P<base) (hQb:Q<base) (us' vs:List Int) (hu:us'.length=N) (hv:vs.length=N) (hBP:Bk .i16 106 W P us') (hBQ:Bk .i8 72 W Q vs) :
  Calls Tryz.prog 62 #[.pointer (some ⟨r,0,none⟩),v,Sl ad n cap,Sl (some ⟨P,0,none⟩) N N,Sl (some ⟨Q,0,none⟩) N N] W fun e w'=>(∃ u,e=.returned u)∧Mv W w' P Q∧Bk .i16 106 w' P (TL.map Prod.fst)∧Bk .i8 72 w' Q (TL.map (nmT p xs)):=by
 have hrz:=lt_of_heap hr
 have hlt0:=hT.lt
 obtain⟨va,vc,rfl,v1,v2,v3⟩:=hT.tv
 have HG:Hid (∀ g,va=some ⟨g,0,none⟩→base≤g):=fun g e=>hlt0 g (by rw [e];rfl)
 rw [hN] at v1 v3 ⊢
 have HV:Hid (0<N→_):=v3
 have HR:Hid (W0.heap[r]? = some (.cells #[U i6 k,U i6 a,U i6 b,U i6 m,U i6 kh,U i6 kw,U i6 sh,U i6 sw,U i6 tp,U i6 lf,U i6 bt,U i6 rt,Sl wa lw wc,Sl ba lb bc,U i6 sm,U i6 ss,U i6 um,U i6 us,U i6 z,U i6 p,U i6 lo,U i6 hi,U i6 h,U i6 w,U i6 c,U i6 H,U i6 V,U i6 C,U i6 ln,U i6 pn] 57 (0,0))):=hr
 have HB0:Hid (Below W0.heap.size W0 W):=hb0
 have HX:Hid (IRow .i8 W0 ad n cap xs):=hX
 have HT:Hid (∀ t∈TL,(-32768≤t.1∧t.1≤32767)∧(t.2 = -1∨(0≤t.2∧t.2<(n:Int)))):=ht
 have HN:Hid (TL.length=N):=hN
 have HP8:Hid (I8 p):=hp8
 have HU:Hid (us'.length=N):=hu
 have HW:Hid (vs.length=N):=hv
 have hsz:=hb0.size
 have hcap:=hX.2.1
 have hcm:=hX.2.2.1
 unfold maxLen at v2 hcm
 have HM1:Hid ((TL.map Prod.fst).length=N):=by unfold Hid;rw [List.length_map];exact hN
 have HM2:Hid ((TL.map (nmT p xs)).length=N):=by unfold Hid;rw [List.length_map];exact hN
 have HBP:Hid (Bk .i16 106 W P us'):=hBP
 have HBQ:Hid (Bk .i8 72 W Q vs):=hBQ
 have hwp:=i8wr hp8
 clear hT hlt0 hr hb0 hX ht v3 hN hp8 hu hv hBP hBQ
 go_enter Tryz.func62,Tryz.ntmps62
 go_wp2
 go_loopw [14] (fun i wr=>∃ y:Nat,y≤N∧i=U i6 y∧Mv W wr P Q∧Bk .i16 106 wr P (mix (TL.map Prod.fst) us' y)∧Bk .i8 72 wr Q (mix (TL.map (nmT p xs)) vs y)) (fun i _=>N-(intOf i).toNat)
 case atStart=>exact⟨0,Nat.zero_le _,rfl,Mv.refl _ _ _,by rw [mix_0];exact HBP.out,by rw [mix_0];exact HBQ.out⟩
 case round =>
  obtain⟨y,hy,rfl,hM,hP1,hQ1⟩:=hrel
  have HM:Hid (Mv W wr P Q):=hM
  by_cases hlt:y<N
  ·obtain⟨g,rfl,hc⟩:=HV.out (by omega)
   have hgb:=HG.out g rfl
   obtain⟨q1,q2⟩:=TV.at hc (show y<TL.length by rw [HN.out];exact hlt)
   obtain⟨A1,A2,hA⟩:∃ A1 A2,TL.getD y (0,0)=(A1,A2):=⟨_,_,rfl⟩
   rw [hA] at q1 q2
   simp only at q1 q2
   have hgl:TL[y]? = some (A1,A2):=by rw [← hA,List.getD_eq_getElem?_getD,List.getElem?_eq_getElem (by rw [HN.out];exact hlt)];rfl
   obtain⟨⟨w1,w2⟩,hat⟩:=HT.out _ (List.mem_of_getElem? hgl)
   simp only at w1 w2 hat
   have p1:=(hM.cell (World.block_lt_of_cell? W _ q1) (show g≠P by omega) (show g≠Q by omega)).trans q1
   have p2:=(hM.cell (World.block_lt_of_cell? W _ q2) (show g≠P by omega) (show g≠Q by omega)).trans q2
   have hlow:=hM.low HB0.out hsz hP hQ
   obtain⟨c1,f1,z1⟩:=cells_at ((hlow.block r hrz).trans HR.out)
   have e1:(TL.map Prod.fst)[y]? = some A1:=by rw [List.getElem?_map,hgl];rfl
   have e2:(TL.map (nmT p xs))[y]? = some (nmT p xs (A1,A2)):=by rw [List.getElem?_map,hgl];rfl
   have hwA:=i16w ⟨w1,w2⟩
   have HL:Hid (TL[y]? = some (A1,A2)):=hgl
   obtain⟨hcP,hfP,hsP⟩:=hP1.at (p:=y) (by rw [mix_len HM1.out HU.out hy];exact hlt)
   obtain⟨hcQ,hfQ,hsQ⟩:=hQ1.at (p:=y) (by rw [mix_len HM2.out HW.out hy];exact hlt)
   have HSP:Hid (∀ w,Bk .i16 106 w P (mix (TL.map Prod.fst) us' y)→Bk .i16 106 (w.setCell ⟨P,y,none⟩ (.int .i16 A1)) P (mix (TL.map Prod.fst) us' (y+1))):=fun w hw=>by
    have:=hw.set (p:=y) A1
    rwa [mix_set HM1.out HU.out hlt e1] at this
   have HSQ:Hid (∀ w,Bk .i8 72 w Q (mix (TL.map (nmT p xs)) vs y)→Bk .i8 72 (w.setCell ⟨Q,y,none⟩ (.int .i8 (nmT p xs (A1,A2)))) Q (mix (TL.map (nmT p xs)) vs (y+1))):=fun w hw=>by
    have:=hw.set (p:=y) (nmT p xs (A1,A2))
    rwa [mix_set HM2.out HW.out hlt e2] at this
   have HP1:Hid (Bk .i16 106 wr P (mix (TL.map Prod.fst) us' y)):=hP1
   have HQ1:Hid (Bk .i8 72 wr Q (mix (TL.map (nmT p xs)) vs y)):=hQ1
   clear hP1 hQ1 hM hc hA hgl q1 q2 e1 e2 HV HG HBP HBQ
   go_upto_region 3 with fail
   obtain⟨tb,htb⟩:∃ tb,wr.heap.size=tb:=⟨_,rfl⟩
   obtain⟨w2,hw2⟩:∃ w2,wr.alloc (.cells #[U i6 A1,U i6 A2] 82)=w2:=⟨_,rfl⟩
   have hb2:Below wr.heap.size wr w2:=by rw [← hw2];exact bal _ _
   have ht2:w2.heap[tb]? = some (.cells #[U i6 A1,U i6 A2] 82 (0,0)):=by rw [← hw2,← htb];exact heap_alloc_new wr _
   rw [hw2,htb]
   have HM2':Hid (Mv W w2 P Q):=HM.out.bel hb2
   have HP2:Hid (Bk .i16 106 w2 P (mix (TL.map Prod.fst) us' y)):=HP1.out.below hb2
   have HQ2:Hid (Bk .i8 72 w2 Q (mix (TL.map (nmT p xs)) vs y)):=HQ1.out.below hb2
   have Hr2:Hid (w2.heap[r]? = some (.cells #[U i6 k,U i6 a,U i6 b,U i6 m,U i6 kh,U i6 kw,U i6 sh,U i6 sw,U i6 tp,U i6 lf,U i6 bt,U i6 rt,Sl wa lw wc,Sl ba lb bc,U i6 sm,U i6 ss,U i6 um,U i6 us,U i6 z,U i6 p,U i6 lo,U i6 hi,U i6 h,U i6 w,U i6 c,U i6 H,U i6 V,U i6 C,U i6 ln,U i6 pn] 57 (0,0))):=(hb2.block r z1).trans ((hlow.block r hrz).trans HR.out)
   have Hlow:Hid (Below W0.heap.size W0 w2):=hlow.trans (hb2.mono hlow.size)
   have hptb:P≠tb:=by omega
   have hqtb:Q≠tb:=by omega
   have hrP:r≠P:=by omega
   have hrQ:r≠Q:=by omega
   clear hw2 htb hcP hfP hsP hcQ hfQ hsQ c1 f1 z1 p1 p2 HP1 HQ1 HM hlow hb2
   obtain⟨c1,f1,z1⟩:=cells_at Hr2.out
   obtain⟨ct,ft,zt⟩:=cells_at ht2
   obtain⟨hcP,hfP,hsP⟩:=HP2.out.at (p:=y) (by rw [mix_len HM1.out HU.out hy];exact hlt)
   obtain⟨hcQ,hfQ,hsQ⟩:=HQ2.out.at (p:=y) (by rw [mix_len HM2.out HW.out hy];exact hlt)
   clear ht2
   go_wp2
   go_region_law (fail)
   all_goals
    obtain⟨w3,hw3⟩:∃ w3,((w2.setCell ⟨P,y,none⟩ (.int .i16 A1)).setCell ⟨Q,y,none⟩ (.int .i8 p)).drew=w3:=⟨_,rfl⟩
    have M23:Mv w2 w3 P Q:=by rw [← hw3];exact (Mv.refl w2 P Q).setp.setq.bel (Below.refl _ _).drew
    have M3:Hid (Mv W w3 P Q):=HM2'.out.trans M23
    have P3:Hid (Bk .i16 106 w3 P (mix (TL.map Prod.fst) us' (y+1))):=by unfold Hid;rw [← hw3];exact Bk.below (bk_other (HSP.out _ HP2.out) hPQ) (Below.refl _ _).drew
    have Q3:Hid (Bk .i8 72 w3 Q ((mix (TL.map (nmT p xs)) vs y).set y p)):=by unfold Hid;rw [← hw3];exact Bk.below (Bk.set (p:=y) p (bk_other HQ2.out (Ne.symm hPQ))) (Below.refl _ _).drew
    have ct3:∀ i,w3.cell? ⟨tb,i,none⟩=#[Value.int .i64 A1,U i6 A2][i]?:=fun i=>(M23.cell zt (Ne.symm hptb) (Ne.symm hqtb)).trans (ct i)
    have hlow3:=M3.out.low HB0.out hsz hP hQ
    rw [hw3]
    clear hw3 M23 HM2' HP2 HQ2 HSP HSQ ct ft c1 f1 hcP hfP hcQ hfQ Hr2
    by_cases neg:A2<0
    ·have HE:Hid (nmT p xs (A1,A2)=p):=if_pos neg
     have neg':¬ 0≤A2:=by omega
     have HQ4:Hid (Bk .i8 72 w3 Q (mix (TL.map (nmT p xs)) vs (y+1))):=by
      have:=Q3.out
      rwa [mix_set HM2.out HW.out hlt (by rw [List.getElem?_map,HL.out];exact congrArg some HE.out)] at this
     clear hat hlow3 Q3
     go_wp2
     go_roundw
     case rel=>exact⟨y+1,by omega,by go_num,M3.out,P3.out,HQ4.out⟩
     case measure=>simp [intOf];omega
    ·obtain⟨j,rfl⟩:∃ j:Nat,A2=(j:Int):=⟨A2.toNat,by omega⟩
     have hj:j<n:=by omega
     obtain⟨x,u,rfl,hu,hw8,hz,-⟩:=(HX.out.below hlow3).at hj
     obtain⟨u1,u2⟩:=wf_i8 hw8
     have HE:nmT p xs (A1,(j:Int))=u:=by unfold nmT;simp only;rw [if_neg neg,Int.toNat_natCast,List.getD_eq_getElem?_getD,hz];rfl
     have HQ4:Hid (Bk .i8 72 (w3.setCell ⟨Q,y,none⟩ (.int .i8 u)) Q (mix (TL.map (nmT p xs)) vs (y+1))):=by
      have:=Q3.out.set (p:=y) u
      rwa [mix_set2 HM2.out HW.out hlt (by rw [List.getElem?_map,HL.out];exact congrArg some HE)] at this
     have HP4:Hid (Bk .i16 106 (w3.setCell ⟨Q,y,none⟩ (.int .i8 u)) P (mix (TL.map Prod.fst) us' (y+1))):=bk_other P3.out hPQ
     have M4:Hid (Mv W (w3.setCell ⟨Q,y,none⟩ (.int .i8 u)) P Q):=M3.out.setq
     obtain⟨hcQ,hfQ,hsQ⟩:=Q3.out.at (p:=y) (by rw [List.length_set,mix_len HM2.out HW.out hy];exact hlt)
     clear hat hlow3 Q3 P3 M3 hz hw8 HE
     go_wp2
     go_roundw
     case rel=>exact⟨y+1,by omega,by go_num,M4.out,HP4.out,HQ4.out⟩
     case measure=>simp [intOf];omega
  ·obtain rfl:y=N:=by omega
   rw [mix_all HM1.out HU.out] at hP1
   rw [mix_all HM2.out HW.out] at hQ1
   have HP1:Hid (Bk .i16 106 wr P (TL.map Prod.fst)):=hP1
   have HQ1:Hid (Bk .i8 72 wr Q (TL.map (nmT p xs))):=hQ1
   clear hP1 hQ1 hM HBP HBQ HV HG
   go_wp2
   go_end0
   exact⟨⟨_,rfl⟩,HM.out,HP1.out,HQ1.out⟩
theorem gunder_any (k a b m kh kw sh sw tp lf bt rt:Int) (wa:Option Addr) (lw wc:Nat) (ba:Option Addr) (lb bc:Nat) (sm ss um us z p lo hi h w c H V C ln pn:Int) (r:Nat) (W:World) (hr:W.heap[r]? = some (.cells #[U i6 k,U i6 a,U i6 b,U i6 m,U i6 kh,U i6 kw,U i6 sh,U i6 sw,U i6 tp,U i6 lf,U i6 bt,U i6 rt,Sl wa lw wc,Sl ba lb bc,U i6 sm,U i6 ss,U i6 um,U i6 us,U i6 z,U i6 p,U i6 lo,U i6 hi,U i6 h,U i6 w,U i6 c,U i6 H,U i6 V,U i6 C,U i6 ln,U i6 pn] 57 (0,0))) (ad:Option Addr) (n cap:Nat) (xs:List Int) (hX:IRow .i8 W ad n cap xs) (hn:(n:Int)=h*w*c) (hA:vS h w c=true) (hkh:1≤kh∧kh≤32) (hkw:1≤kw∧kw≤32) (t u d:Int) (ht:0≤t∧t+kh≤h) (hu:0≤u∧u+kw≤w) (hd:0≤d∧d<c) :
  Calls Tryz.prog 67 #[.pointer (some ⟨r,0,none⟩),Sl ad n cap,U i6 t,U i6 u,U i6 d] W fun e w'=>e=.returned (U i6 (grM w c kw xs t u d (kh*kw).toNat))∧∃ q,w'=W.drewN q:=by
 obtain⟨c1,f1,z1⟩:=cells_at hr
 obtain⟨hh,hw,hc,-⟩:=vS_yes hA
 have p3:=vS_bd hA
 obtain⟨KH,rfl⟩:∃ KH:Nat,kh=(KH:Int):=⟨kh.toNat,by omega⟩
 obtain⟨KW,rfl⟩:∃ KW:Nat,kw=(KW:Int):=⟨kw.toNat,by omega⟩
 have HX:Hid (IRow .i8 W ad n cap xs):=hX
 have HK:Hid (((KH:Int)*(KW:Int)).toNat=KH*KW):=by unfold Hid;rw [← Int.natCast_mul,Int.toNat_natCast]
 have HN:Hid ((n:Int)=h*w*c):=hn
 have hcap:=hX.2.1
 have hcm:=hX.2.2.1
 unfold maxLen at hcm
 clear hr hA hX hn
 go_enter Tryz.func67,Tryz.ntmps67
 go_wp2
 go_loopw [11,12] (fun g y wr=>∃ i q:Nat,i≤KH∧y=U i6 (t+i)∧g=.int .i8 (grM w c KW xs t u d (i*KW))∧wr=W.drewN q) (fun _ y _=>(t+KH-intOf y).toNat)
 case atStart=>exact⟨0,0,Nat.zero_le _,by simp,by simp [grM],rfl⟩
 case round =>
  obtain⟨i,q,hi,rfl,rfl,rfl⟩:=hrel
  by_cases hlt:i<KH
  ·obtain⟨Y,hY⟩:∃ Y,t+(i:Int)=Y:=⟨_,rfl⟩
   rw [hY]
   have hY1:0≤Y∧Y<h∧Y<t+KH:=by omega
   have HY:Hid (t+(i:Int)=Y):=hY
   clear hY
   go_wp2
   go_loopw [11,13] (fun g x wr=>∃ j q:Nat,j≤KW∧x=U i6 (u+j)∧g=.int .i8 (grM w c KW xs t u d (i*KW+j))∧wr=W.drewN q) (fun _ x _=>(u+KW-intOf x).toNat)
   case atStart=>exact⟨0,q,Nat.zero_le _,by simp,rfl,rfl⟩
   case round =>
    obtain⟨j,q',hj,rfl,rfl,rfl⟩:=hrel
    by_cases hlt2:j<KW
    ·obtain⟨X,hX⟩:∃ X,u+(j:Int)=X:=⟨_,rfl⟩
     have hX1:0≤X∧X<w∧X<u+KW:=by omega
     obtain⟨r1,r2⟩:=rowbd hY1.2.1 hY1.1 hX1.1 hX1.2.1
     obtain⟨P1,hP1⟩:∃ P1,Y*w=P1:=⟨_,rfl⟩
     rw [hP1] at r1 r2
     obtain⟨r3,r4⟩:=rowbd (w:=c) r2 (by omega) hd.1 hd.2
     obtain⟨P2,hP2⟩:∃ P2,(P1+X)*c=P2:=⟨_,rfl⟩
     rw [hP2] at r3 r4
     obtain⟨N,hN⟩:∃ N:Nat,P2+d=(N:Int):=⟨(P2+d).toNat,by omega⟩
     have hNn:N<n:=by have:=HN.out;omega
     obtain⟨x,v,rfl,hv,hw8,hz,-⟩:=HX.out.at hNn
     obtain⟨v1,v2⟩:=wf_i8 hw8
     have hE:grA w c KW xs t u d (i*KW+j)=v:=by
      rw [grA_at (i:=i) (j:=j) (by omega) (by rw [Int.natCast_add,Int.natCast_mul]) (by rw [HY.out,hX,hP1,hP2,hN]),List.getD_eq_getElem?_getD,hz];rfl
     have HS:Hid (grM w c KW xs t u d (i*KW+(j+1))=mxI (grM w c KW xs t u d (i*KW+j)) v):=by
      unfold Hid
      rw [← Nat.add_assoc,grM,hE]
     have hG:=grM_i8 (w:=w) (c:=c) (kw:=KW) HX.out.i8 t u d (i*KW+j)
     obtain⟨G,hGe⟩:∃ G,grM w c KW xs t u d (i*KW+j)=G:=⟨_,rfl⟩
     rw [hGe] at HS hG ⊢
     obtain⟨g1,g2⟩:=hG
     rw [hX]
     have HXx:Hid (u+(j:Int)=X):=hX
     have hcc:∀ i,(W.drewN q').cell? ⟨r,i,none⟩=_:=c1
     have hP1':P1≤1048576:=by omega
     have hw1:IntKind.i64.wrap P1=P1:=w64 (by omega)
     have hw2:IntKind.i64.wrap (P1+X)=P1+X:=w64 (by omega)
     have hw3:IntKind.i64.wrap P2=P2:=w64 (by omega)
     have hw4:IntKind.i64.wrap (N:Int)=N:=w64 (by omega)
     clear hE hGe hX hz hw8
     by_cases hlg:G<v
     ·have HM:Hid (mxI G v=v):=if_pos hlg
      have hng:¬ v<G:=by omega
      go_wp2
      go_quiet (fail)
      go_wp2
      go_roundw
      case rel=>exact⟨j+1,_,by omega,by rw [← HXx.out];go_num,by rw [HS.out,HM.out],rfl⟩
      case measure=>simp [intOf];omega
     ·have HM:Hid (mxI G v=G):=if_neg hlg
      go_wp2
      go_quiet (fail)
      go_wp2
      go_roundw
      case rel=>exact⟨j+1,_,by omega,by rw [← HXx.out];go_num,by rw [HS.out,HM.out],rfl⟩
      case measure=>simp [intOf];omega
    ·obtain rfl:j=KW:=by omega
     have hcc:∀ i,(W.drewN q').cell? ⟨r,i,none⟩=_:=c1
     go_wp2
     go_roundw
     case rel=>exact⟨i+1,q',by omega,by rw [← HY.out];go_num,by rw [Nat.add_mul,Nat.one_mul],rfl⟩
     case measure=>simp [intOf];omega
  ·obtain rfl:i=KH:=by omega
   have hcc:∀ i,(W.drewN q).cell? ⟨r,i,none⟩=_:=c1
   have HE:Hid (wrap64 (grM w c KW xs t u d (i*KW))=grM w c KW xs t u d ((i:Int)*(KW:Int)).toNat):=by
    unfold Hid;rw [HK.out]
    have h8:=grM_i8 (w:=w) (c:=c) (kw:=KW) HX.out.i8 t u d (i*KW)
    unfold I8 at h8;unfold wrap64;omega
   go_wp2
   go_ret
   exact⟨ret1 HE.out,q,rfl⟩
theorem greatest_any (k a b m kh kw sh sw tp lf bt rt:Int) (wa:Option Addr) (lw wc:Nat) (ba:Option Addr) (lb bc:Nat) (sm ss um us z p lo hi h w c H V C ln pn:Int) (r:Nat) (W:World) (hr:W.heap[r]? = some (.cells #[U i6 k,U i6 a,U i6 b,U i6 m,U i6 kh,U i6 kw,U i6 sh,U i6 sw,U i6 tp,U i6 lf,U i6 bt,U i6 rt,Sl wa lw wc,Sl ba lb bc,U i6 sm,U i6 ss,U i6 um,U i6 us,U i6 z,U i6 p,U i6 lo,U i6 hi,U i6 h,U i6 w,U i6 c,U i6 H,U i6 V,U i6 C,U i6 ln,U i6 pn] 57 (0,0))) (ad:Option Addr) (n cap:Nat) (xs:List Int) (hX:IRow .i8 W ad n cap xs) (hn:(n:Int)=h*w*c) (hA:vS h w c=true) (hB:vS H V C=true) (hkh:1≤kh∧kh≤32) (hkw:1≤kw∧kw≤32) (hsh:1≤sh∧sh≤32) (hsw:1≤sw∧sw≤32) (hf1:(H-1)*sh+kh≤h) (hf2:(V-1)*sw+kw≤w) (hCc:C=c) :
  Calls Tryz.prog 38 #[.pointer (some ⟨r,0,none⟩),Sl ad n cap] W fun e w'=>(∃ v,e=.returned v∧Own .i64 2 w' W.heap.size v (grL kh kw sh sw w c V C xs (H*V*C).toNat))∧Below W.heap.size W w':=by
 have hrz:=lt_of_heap hr
 have HR:Hid (W.heap[r]? = some (.cells #[U i6 k,U i6 a,U i6 b,U i6 m,U i6 kh,U i6 kw,U i6 sh,U i6 sw,U i6 tp,U i6 lf,U i6 bt,U i6 rt,Sl wa lw wc,Sl ba lb bc,U i6 sm,U i6 ss,U i6 um,U i6 us,U i6 z,U i6 p,U i6 lo,U i6 hi,U i6 h,U i6 w,U i6 c,U i6 H,U i6 V,U i6 C,U i6 ln,U i6 pn] 57 (0,0))):=hr
 have HX:Hid (IRow .i8 W ad n cap xs):=hX
 have HU:Hid (∀ (w':World),Below W.heap.size W w'→∀ t u d:Int,(0≤t∧t+kh≤h)→(0≤u∧u+kw≤w)→(0≤d∧d<c)→Calls Tryz.prog 67 #[.pointer (some ⟨r,0,none⟩),Sl ad n cap,U i6 t,U i6 u,U i6 d] w' fun e w''=>e=.returned (U i6 (grM w c kw xs t u d (kh*kw).toNat))∧∃ q,w''=w'.drewN q) :=
  fun w' hb t u d ht hu hd=>gunder_any k a b m kh kw sh sw tp lf bt rt wa lw wc ba lb bc sm ss um us z p lo hi h w c H V C ln pn r w' ((hb.block r hrz).trans hr) ad n cap xs (hX.below hb) hn hA hkh hkw t u d ht hu hd
 have HP:Hid (∀ W,Calls Tryz.prog 12 #[.agg #[U i6 H,U i6 V,U i6 C]] W fun e w'=>e=.returned (U i6 (H*V*C))∧Below W.heap.size W w'):=fun W=>places_plain H V C W hB
 obtain⟨hh,hw,hc,-⟩:=vS_yes hA
 obtain⟨hH,hV,hC,-⟩:=vS_yes hB
 subst hCc
 have p3:=(vS_bd hB).2
 obtain⟨HN,rfl⟩:∃ HN:Nat,H=(HN:Int):=⟨H.toNat,by omega⟩
 obtain⟨VN,rfl⟩:∃ VN:Nat,V=(VN:Int):=⟨V.toNat,by omega⟩
 obtain⟨CN,rfl⟩:∃ CN:Nat,C=(CN:Int):=⟨C.toNat,by omega⟩
 obtain⟨N,hN⟩:∃ N:Nat,(HN:Int)*(VN:Int)*(CN:Int)=(N:Int):=⟨HN*VN*CN,by rw [Int.natCast_mul,Int.natCast_mul]⟩
 have HNN:Hid (HN*VN*CN=N):=by
  have:((HN*VN*CN:Nat):Int)=(N:Int):=by rw [Int.natCast_mul,Int.natCast_mul];exact hN
  unfold Hid;omega
 rw [hN] at HP p3 ⊢
 rw [Int.toNat_natCast]
 obtain⟨c1,f1,z1⟩:=cells_at hr
 have HG:Hid (∀ q,Wf .i64 (grL kh kw sh sw w CN VN CN xs q)):=fun q v hv=>mk_i64 (by have:=grL_i8 hX.i8 q v hv;unfold I8 at this;omega)
 clear hr hX hn hA hB hN
 go_enter Tryz.func38,Tryz.ntmps38
 go_wp2_with fail
 refine (HP.out _).mono ?_
 rintro e w1 ⟨rfl,hb1⟩
 have Hb1:Hid (Below W.heap.size W w1):=hb1
 clear hb1 c1 f1
 have hr1:=(Hb1.out.block r hrz).trans HR.out
 obtain⟨c1,f1,z2⟩:=cells_at hr1
 clear hr1
 go_wp2_with (at_make;(refine wpList_mk0 kt_i64 rfl _ _ rfl N _ rfl rfl rfl (by omega) W.heap.size Hb1.out.size ?_;intro v0 w2 own0 hb2;have Hb2:Hid (Below W.heap.size W w2):=btr Hb1.out hb2;have Ho0:Hid (Own .i64 2 w2 W.heap.size v0 []):=own0;have hr2:=(Hb2.out.block r hrz).trans HR.out;clear c1 f1 own0 hb2;obtain⟨c1,f1,z3⟩:=cells_at hr2;clear hr2))
 go_loopw [5,20] (fun v i wr=>∃ y:Nat,y≤HN∧i=U i6 y∧Own .i64 2 wr W.heap.size v (grL kh kw sh sw w CN VN CN xs (y*VN*CN))∧Below W.heap.size W wr) (fun _ i _=>HN-(intOf i).toNat)
 case atStart=>exact⟨0,Nat.zero_le _,rfl,by simpa [grL] using Ho0.out,Hb2.out⟩
 case round =>
  obtain⟨y,hy,rfl,hO,hb⟩:=hrel
  clear c1 f1
  obtain⟨c1,f1,z4⟩:=cells_at ((hb.block r hrz).trans HR.out)
  have HO:Hid (Own .i64 2 wr W.heap.size u5 (grL kh kw sh sw w CN VN CN xs (y*VN*CN))):=hO
  have HBw:Hid (Below W.heap.size W wr):=hb
  clear hO hb Ho0
  by_cases hlt:y<HN
  ·go_wp2
   go_loopw [5,28] (fun v i wr=>∃ (x:Nat) (v0:Value),v0=v∧x≤VN∧i=U i6 x∧Own .i64 2 wr W.heap.size v (grL kh kw sh sw w CN VN CN xs ((y*VN+x)*CN))∧Below W.heap.size W wr) (fun _ i _=>VN-(intOf i).toNat)
   case atStart=>exact⟨0,_,rfl,Nat.zero_le _,rfl,HO.out,HBw.out⟩
   case round =>
    obtain⟨x,v0,rfl,hx,rfl,hO,hb⟩:=hrel
    clear c1 f1 HO HBw
    obtain⟨c1,f1,z5⟩:=cells_at ((hb.block r hrz).trans HR.out)
    have HO:Hid (Own .i64 2 wr W.heap.size v0 (grL kh kw sh sw w CN VN CN xs ((y*VN+x)*CN))):=hO
    have HBw:Hid (Below W.heap.size W wr):=hb
    clear hO hb
    by_cases hltx:x<VN
    ·go_wp2
     go_loopw [5,36] (fun v i wr=>∃ (d:Nat) (v1:Value),v1=v∧d≤CN∧i=U i6 d∧Own .i64 2 wr W.heap.size v (grL kh kw sh sw w CN VN CN xs ((y*VN+x)*CN+d))∧Below W.heap.size W wr) (fun _ i _=>CN-(intOf i).toNat)
     case atStart=>exact⟨0,_,rfl,Nat.zero_le _,rfl,HO.out,HBw.out⟩
     case round =>
      obtain⟨d,v1,rfl,hd,rfl,hO,hb⟩:=hrel
      clear c1 f1 HO HBw
      by_cases hltd:d<CN
      ·obtain⟨t1,t2⟩:=step_in (i:=(y:Int)) ⟨by omega,by omega⟩ hsh.1 hf1
       obtain⟨t3,t4⟩:=step_in (i:=(x:Int)) ⟨by omega,by omega⟩ hsw.1 hf2
       have HS:=grL_succ kh kw sh sw w (CN:Int) (VN:Int) (CN:Int) xs ((y*VN+x)*CN+d)
       obtain⟨⟨e1,e2⟩,e3⟩:=gr_idx (i:=y) hltx hltd
       rw [e1,e2,e3] at HS
       obtain⟨T,hT⟩:∃ T,(y:Int)*sh=T:=⟨_,rfl⟩
       obtain⟨UU,hU⟩:∃ UU,(x:Int)*sw=UU:=⟨_,rfl⟩
       rw [hT] at t1 t2 HS
       rw [hU] at t3 t4 HS
       have hwT:IntKind.i64.wrap T=T:=w64 (by omega)
       have hwU:IntKind.i64.wrap UU=UU:=w64 (by omega)
       have HC:Hid (∀ (w':World),Below W.heap.size W w'→Calls Tryz.prog 67 #[.pointer (some ⟨r,0,none⟩),Sl ad n cap,U i6 T,U i6 UU,U i6 (d:Int)] w' fun e w''=>e=.returned (U i6 (grM w CN kw xs T UU d (kh*kw).toNat))∧∃ q,w''=w'.drewN q):=fun w' hb=>HU.out w' hb T UU d ⟨t1,t2⟩ ⟨t3,t4⟩ ⟨by omega,by omega⟩
       have hg8:=grM_i8 (w:=w) (c:=(CN:Int)) (kw:=kw) HX.out.i8 T UU d (kh*kw).toNat
       obtain⟨G,hG⟩:∃ G,grM w (CN:Int) kw xs T UU d (kh*kw).toNat=G:=⟨_,rfl⟩
       rw [hG] at HC HS hg8
       have HG8:Hid (I8 G):=hg8
       have HSS:Hid (grL kh kw sh sw w CN VN CN xs ((y*VN+x)*CN+d+1)=grL kh kw sh sw w CN VN CN xs ((y*VN+x)*CN+d)++[G]):=HS
       have HLn:Hid ((y*VN+x)*CN+d≤16384):=by
        unfold Hid
        have q1:(y*VN+x+1)*CN≤HN*VN*CN:=Nat.mul_le_mul_right _ (by
         have:(y+1)*VN≤HN*VN:=Nat.mul_le_mul_right _ hlt
         rw [Nat.add_mul] at this;omega)
        rw [HNN.out,Nat.add_mul] at q1
        omega
       have HOd:Hid (Own .i64 2 wr.drew W.heap.size v1 (grL kh kw sh sw w CN VN CN xs ((y*VN+x)*CN+d))):=hO.below (Below.refl _ _).drew
       have HBd:Hid (Below W.heap.size W wr.drew):=btr hb (Below.refl _ _).drew
       obtain⟨c1,f1,z6⟩:=cells_at ((hb.block r hrz).trans HR.out)
       clear HS hg8 hG hO hb e1 e2 e3 HU
       go_wp2
       go_region_law (first
        | (go_simp;go_at_call 67;refine (HC.out _ HBd.out).mono ?_;rintro e w3 ⟨rfl,q3,hw3⟩;have Hb3:Hid (Below W.heap.size W w3):=(by rw [hw3];exact btr HBd.out (dbel _ q3));have Ho3:Hid (Own .i64 2 w3 W.heap.size v1 (grL kh kw sh sw w CN VN CN xs ((y*VN+x)*CN+d))):=(by rw [hw3];exact HOd.out.below (dbel _ q3));clear hw3)
        | (refine step_ap kt_i64 rfl (.tmp 39) (.tmp 60) rfl W.heap.size v1 (grL kh kw sh sw w CN VN CN xs ((y*VN+x)*CN+d)) [G] rfl (Ho3.out.alloc _) ⟨w3.heap.size,0,none⟩ 1 1 rfl (row_one .i64 2 w3 G (mk_i64 (by have:=HG8.out;unfold I8 at this;omega))) (by rw [grL_len];have:=HLn.out;simp;omega) (by have:=Hb3.out.size;simp;omega) ?_;intro v4 w4 own4 gr4;have Hb4:Hid (Below W.heap.size W w4):=(Ho3.out.alloc (.cells #[U i6 G] 2)).bel (btr Hb3.out (bal w3 _)) gr4 (Nat.le_refl _) (by have:=Hb3.out.size;simp;omega);have Ho4:Hid (Own .i64 2 w4 W.heap.size v4 (grL kh kw sh sw w CN VN CN xs ((y*VN+x)*CN+d+1))):=(by rw [HSS.out];exact own4);clear own4 gr4))
       all_goals
        clear HSS HC HOd HBd Ho3 Hb3
        go_wp2
        go_roundw
        case rel=>exact⟨d+1,_,rfl,by omega,by go_num,Ho4.out,Hb4.out⟩
        case measure=>simp [intOf];omega
      ·obtain rfl:d=CN:=by omega
       have Ho2:Hid (Own .i64 2 wr W.heap.size v1 (grL kh kw sh sw w d VN d xs ((y*VN+(x+1))*d))):=by
        have e:(y*VN+(x+1))*d=(y*VN+x)*d+d:=by rw [← Nat.add_assoc,Nat.add_mul _ 1,Nat.one_mul]
        unfold Hid
        rw [e];exact hO
       have Hb2:Hid (Below W.heap.size W wr):=hb
       clear hO hb
       go_wp2
       go_roundw
       case rel=>exact⟨x+1,_,rfl,by omega,by go_num,Ho2.out,Hb2.out⟩
       case measure=>simp [intOf];omega
    ·obtain rfl:x=VN:=by omega
     have Ho2:Hid (Own .i64 2 wr W.heap.size v0 (grL kh kw sh sw w CN x CN xs ((y+1)*x*CN))):=by
      have e:(y+1)*x=y*x+x:=by rw [Nat.add_mul,Nat.one_mul]
      unfold Hid
      rw [e];exact HO.out
     clear HO
     go_wp2
     go_roundw
     case rel=>exact⟨y+1,by omega,by go_num,Ho2.out,HBw.out⟩
     case measure=>simp [intOf];omega
  ·obtain rfl:y=HN:=by omega
   have HO2:Hid (Own .i64 2 wr W.heap.size u5 (grL kh kw sh sw w CN VN CN xs N)):=by rw [← HNN.out];exact HO.out
   go_wp2
   go_ret
   exact⟨⟨_,rfl,HO2.out⟩,HBw.out⟩
end Go.Proofs.YtehofmkpgopmpaaGreat.Kr
