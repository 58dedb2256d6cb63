/- What values and tensor of package plain return. What tensor of package plain returns. Rows of lists of int8 in memory; slices.Clone. What Tensors of package plain returns. What Eval of package plain returns. What Totals of package plain returns. plain and fixed of law10. The law's own model and fixed answers of layer 11. The document's Same of layer 11, of lists that are the same; faults compared. What Op of package kern returns. -/
import Derived.Test.YtehofmkpgopmpaaGreatGq19
import Derived.Test.YtehofmkpgopmpaaGreatGq20
import Derived.Test.YtehofmkpgopmpaaGreatGq21
import Derived.Test.YtehofmkpgopmpaaGreatGq22
import Derived.Test.YtehofmkpgopmpaaGreatGq23
import Derived.Test.YtehofmkpgopmpaaGreatGq24
import Derived.Lib.SliceRun
namespace Go.Proofs.YtehofmkpgopmpaaGreat
open Go.Value renaming int → U, slice → Sl
open Go.IntKind renaming i64 → i6
set_option maxRecDepth 100000
set_option maxHeartbeats 16000000
open Go.ChangeShapes Go.WideShapes Go.ChangeAt Go.RowKit
set_option linter.unusedVariables false
theorem two_at {w:World} {g n:Nat} {cur:Array Value} {T:TypeId} {x y:Value} (h:w.heap[g]? = some (.cells cur T (0,0))) (h0:cur[n]? = some x) (h1:cur[n+1]? = some y):∀ q v,[x,y][q]? = some v→w.cell? ((⟨g,n,none⟩:Addr).add q)=some v:=by
 intro q v hq
 rw [Addr.add_lit,(cells_at h).1]
 match q,hq with
 | 0,hq=>rw [Nat.add_zero,h0];exact hq
 | 1,hq=>rw [h1];exact hq
 | q+2,hq=>simp at hq
def Ells (w:World) (base:Nat) (ss:List Value) (Ts:List (List Int)):Prop :=
 ss.length=Ts.length∧(∀ i,i<ss.length→Own .i8 72 w base (ss.getD i (.slice none 0 0)) (Ts.getD i [])) ∧
  ∀ i j b,i<ss.length→j<ss.length→(ss.getD i (.slice none 0 0)).ownBlock=some b→(ss.getD j (.slice none 0 0)).ownBlock=some b→i=j
theorem Ells.below {w w':World} {base:Nat} {ss:List Value} {Ts:List (List Int)} (h:Ells w base ss Ts) (q:Below w.heap.size w w'):Ells w' base ss Ts:=⟨h.1,fun i hi=>(h.2.1 i hi).below q,h.2.2⟩
theorem Ells.base {w:World} {b c:Nat} {ss:List Value} {Ts:List (List Int)} (h:Ells w b ss Ts) (q:c≤b):Ells w c ss Ts:=⟨h.1,fun i hi=>(h.2.1 i hi).base q,h.2.2⟩
theorem Ells.nil (w:World) (base:Nat):Ells w base [] []:=⟨rfl,fun i hi=>by simp at hi,fun i j b hi=>by simp at hi⟩
theorem Ells.grown {w w':World} {base:Nat} {ss:List Value} {Ts:List (List Int)} {row:Option Nat} (h:Ells w base ss Ts) (q:w.grownBy w' row) (hne:∀ b,row=some b→∀ c,w.heap[b]?≠some (.cells c 72 (0,0))):Ells w' base ss Ts:=⟨h.1,fun i hi=>(h.2.1 i hi).grown q hne,h.2.2⟩
theorem getD_app_l {α:Type} {l r:List α} {i:Nat} {d:α} (h:i<l.length):(l++r).getD i d=l.getD i d:=by simp only [List.getD];rw [List.getElem?_append_left h]
theorem getD_app_one {α:Type} {l:List α} {x d:α}:(l++[x]).getD l.length d=x:=by simp [List.getD]
theorem own_lt {k:IntKind} {T:TypeId} {w:World} {base b:Nat} {v:Value} {zs:List Int} (h:Own k T w base v zs) (hb:v.ownBlock=some b):b<w.heap.size:=by
 rcases h.shape with ⟨rfl,_⟩ | ⟨g,cap,rfl,_,hl,_⟩
 ·simp [Value.ownBlock] at hb
 ·obtain rfl:g=b:=by simpa [Value.ownBlock] using hb
  exact hl
theorem Ells.add {w w':World} {base:Nat} {ss:List Value} {Ts:List (List Int)} {s:Value} {X:List Int} (h:Ells w base ss Ts) (q:Below w.heap.size w w') (hs:Own .i8 72 w' w.heap.size s X) (hb:base≤w.heap.size):Ells w' base (ss++[s]) (Ts++[X]):=by
 obtain⟨h1,h2,h3⟩:=h
 have hlt:∀ i b,i<ss.length→(ss.getD i (.slice none 0 0)).ownBlock=some b→b<w.heap.size:=fun i b hi e=>own_lt (h2 i hi) e
 have hge:∀ b,s.ownBlock=some b→w.heap.size≤b:=fun b e=>hs.block e
 refine⟨by simp [h1],fun i hi=>?_,fun i j b hi hj e1 e2=>?_⟩
 ·simp only [List.length_append,List.length_cons,List.length_nil] at hi
  by_cases e:i=ss.length
  ·subst e
   rw [getD_app_one]
   rw [h1,getD_app_one]
   exact hs.base hb
  ·rw [getD_app_l (by omega),getD_app_l (by omega)]
   exact (h2 i (by omega)).below q
 ·simp only [List.length_append,List.length_cons,List.length_nil] at hi hj
  by_cases ei:i=ss.length
  ·by_cases ej:j=ss.length
   ·omega
   ·subst ei
    rw [getD_app_one] at e1
    rw [getD_app_l (by omega)] at e2
    have:=hge b e1
    have:=hlt j b (by omega) e2
    omega
  ·by_cases ej:j=ss.length
   ·subst ej
    rw [getD_app_one] at e2
    rw [getD_app_l (by omega)] at e1
    have:=hge b e2
    have:=hlt i b (by omega) e1
    omega
   ·rw [getD_app_l (by omega)] at e1 e2
    exact h3 i j b (by omega) (by omega) e1 e2
def ORs (w:World) (base:Nat) (v:Value) (ss:List Value):Prop:=w.ownsRow base 28 1 v ss.length ss
theorem ORs.below {w w':World} {base:Nat} {v:Value} {ss:List Value} (h:ORs w base v ss) (q:Below w.heap.size w w'):ORs w' base v ss:=by
 refine World.ownsRow.kept h (row:=none) ⟨q.os,q.tape,q.output,q.size,fun i hi _=>q.block i hi⟩ ?_
 cases e:v.ownBlock with
 | none=>exact .inl rfl
 | some b=>exact .inr (by simp)
theorem ORs.slice {w:World} {base:Nat} {v:Value} {ss:List Value} (h:ORs w base v ss):∃ a cap,v=.slice a ss.length cap:=by
 rcases h.2 with ⟨rfl,q⟩ | ⟨g,cap,cur,rfl,-⟩
 ·exact⟨_,_,by rw [q]⟩
 ·exact⟨_,_,rfl⟩
theorem ORs.at {w:World} {base:Nat} {v:Value} {ss:List Value} (h:ORs w base v ss) (h0:0<ss.length):∃ g cap,v=.slice (some ⟨g,0,none⟩) ss.length cap∧base≤g∧g<w.heap.size∧ss.length≤cap∧cap≤maxLen∧(∀ i,i<ss.length→w.cell? ⟨g,i,none⟩=some (ss.getD i (.slice none 0 0)))∧∃ cur,w.heap[g]? = some (.cells cur 28 (0,0)):=by
 rcases h.2 with ⟨-,q⟩ | ⟨g,cap,cur,rfl,h2,h3,h4,h5,h6,h7⟩
 ·omega
 ·refine⟨g,cap,rfl,h2,lt_of_heap h3,h4,h5,fun i hi=>?_,cur,h3⟩
  rw [(cells_at h3).1]
  have:(cur.toList.take (ss.length*1))[i]? = ss[i]?:=by rw [h7]
  rw [List.getElem?_take,if_pos (by omega)] at this
  rw [List.getD_eq_getElem?_getD,List.getElem?_eq_getElem hi] at *
  simpa using this
def LLs (w:World) (base:Nat) (v:Value) (Ts:List (List Int)):Prop:=∃ ss,ORs w base v ss∧Ells w base ss Ts
theorem LLs.below {w w':World} {base:Nat} {v:Value} {Ts:List (List Int)} (h:LLs w base v Ts) (q:Below w.heap.size w w'):LLs w' base v Ts:=by
 obtain⟨ss,h1,h2⟩:=h
 exact⟨ss,h1.below q,h2.below q⟩
def TRd (w:World) (v:Value) (Ts:List (List Int)):Prop :=
 ∃ a cap,v=.slice a Ts.length cap∧Ts.length≤cap∧cap≤maxLen∧(0<Ts.length→∃ g,a=some ⟨g,0,none⟩∧∀ i,i<Ts.length→∃ ad c,w.cell? ⟨g,i,none⟩=some (.slice ad (Ts.getD i []).length c)∧IRow .i8 w ad (Ts.getD i []).length c (Ts.getD i []))
theorem TRd.below {w w':World} {v:Value} {Ts:List (List Int)} (h:TRd w v Ts) (q:Below w.heap.size w w'):TRd w' v Ts:=by
 obtain⟨a,cap,h1,h2,h3,h4⟩:=h
 refine⟨a,cap,h1,h2,h3,fun h0=>?_⟩
 obtain⟨g,e,hc⟩:=h4 h0
 refine⟨g,e,fun i hi=>?_⟩
 obtain⟨ad,c,h5,h6⟩:=hc i hi
 exact⟨ad,c,(q.cell (World.block_lt_of_cell? w _ h5)).trans h5,h6.below q⟩
theorem TRd.at {w:World} {a:Option Addr} {n cap i:Nat} {Ts:List (List Int)} (h:TRd w (.slice a n cap) Ts) (hi:i<n):∃ g ad c,a=some ⟨g,0,none⟩∧w.cell? ⟨g,i,none⟩=some (.slice ad (Ts.getD i []).length c)∧IRow .i8 w ad (Ts.getD i []).length c (Ts.getD i []):=by
 obtain⟨a',cap',e,-,-,h4⟩:=h
 simp only [Value.slice.injEq] at e
 obtain⟨rfl,rfl,rfl⟩:=e
 obtain⟨g,rfl,hc⟩:=h4 (by omega)
 obtain⟨ad,c,h5,h6⟩:=hc i hi
 exact⟨g,ad,c,rfl,h5,h6⟩
theorem TRd.len {w:World} {a:Option Addr} {n cap:Nat} {Ts:List (List Int)} (h:TRd w (.slice a n cap) Ts):Ts.length=n∧n≤cap∧cap≤maxLen:=by
 obtain⟨a',cap',e,h2,h3,-⟩:=h
 simp only [Value.slice.injEq] at e
 obtain⟨rfl,rfl,rfl⟩:=e
 exact⟨rfl,h2,h3⟩
def LG (w:World) (g cap:Nat) (ss:List Value):Prop:=∃ cur:Array Value,w.heap[g]? = some (.cells cur 28 (0,0))∧cur.size=cap∧ss.length≤cap∧cur.toList.take ss.length=ss
theorem LG.below {w w':World} {g cap:Nat} {ss:List Value} (h:LG w g cap ss) (q:Below w.heap.size w w'):LG w' g cap ss:=by
 obtain⟨cur,h1,h2⟩:=h
 exact⟨cur,(q.block g (lt_of_heap h1)).trans h1,h2⟩
theorem LG.at {w:World} {g cap:Nat} {ss:List Value} (h:LG w g cap ss) {i:Nat} (hi:i<ss.length):w.cell? ⟨g,i,none⟩=some (ss.getD i (.slice none 0 0)):=by
 obtain⟨cur,h1,h2,h3,h4⟩:=h
 rw [(cells_at h1).1]
 have:(cur.toList.take ss.length)[i]? = ss[i]?:=by rw [h4]
 rw [List.getElem?_take,if_pos hi] at this
 rw [List.getD_eq_getElem?_getD,List.getElem?_eq_getElem hi] at *
 simpa using this
theorem LG.own {w:World} {base g cap:Nat} {ss:List Value} (h:LG w g cap ss) (hb:base≤g) (hc:cap≤1000):ORs w base (.slice (some ⟨g,0,none⟩) ss.length cap) ss:=by
 obtain⟨cur,h1,h2,h3,h4⟩:=h
 exact⟨by simp,.inr ⟨g,cap,cur,rfl,hb,h1,h3,by unfold maxLen;omega,by omega,by rw [Nat.mul_one];exact h4⟩⟩
theorem LG.add {w:World} {g cap:Nat} {ss:List Value} (h:LG w g cap ss) (hr:ss.length<cap) (s:Value):LG (w.setCell ⟨g,ss.length,none⟩ s) g cap (ss++[s]):=by
 obtain⟨cur,h1,h2,h3,h4⟩:=h
 refine⟨_,heap_setCell_at h1,by simp [h2],by simp;omega,?_⟩
 have hsz:cur.toList.length=cap:=by simpa using h2
 simp only [List.length_append,List.length_cons,List.length_nil,Array.toList_setIfInBounds]
 apply List.ext_getElem?
 intro j
 rw [List.getElem?_take]
 have hl:(cur.toList.take ss.length).length=ss.length:=by rw [List.length_take];omega
 by_cases q1:j<ss.length
 ·rw [if_pos (by omega),List.getElem?_append_left q1,List.getElem?_set_ne (by omega),← h4,List.getElem?_take,if_pos q1]
 ·by_cases q2:j=ss.length
  ·subst q2
   rw [if_pos (by omega),List.getElem?_set_self (by omega),List.getElem?_append_right (Nat.le_refl _),Nat.sub_self];rfl
  ·rw [if_neg (by omega),List.getElem?_eq_none (by simp;omega)]
theorem LG.spare {w:World} {g cap n:Nat} {ss:List Value} (h:LG w g cap ss) (hn:n<cap):(w.cell? ⟨g,n,none⟩).isSome=true∧w.frozen? ⟨g,n,none⟩=false:=by
 obtain⟨cur,h1,h2,h3,h4⟩:=h
 refine⟨?_,(cells_at h1).2.1 _⟩
 rw [(cells_at h1).1,Array.getElem?_eq_getElem (by omega)]
 rfl
theorem LG.ne8 {w:World} {g cap:Nat} {ss:List Value} (h:LG w g cap ss):∀ c,w.heap[g]?≠some (.cells c 72 (0,0)):=fun c e=>by
 obtain⟨cur,h1,-⟩:=h
 rw [h1] at e
 simp at e
theorem LLs.set {w:World} {base N i:Nat} {v u:Value} {Ts:List (List Int)} {c:Array Value} {T:TypeId} (h:LLs w base v Ts) (hN:w.heap[N]? = some (.cells c T (0,0))) (h1:T≠28) (h2:T≠72):LLs (w.setCell ⟨N,i,none⟩ u) base v Ts:=by
 obtain⟨ss,q1,q2⟩:=h
 refine⟨ss,?_,q2.grown (grown_set w N i u) fun b hb c' e=>?_⟩
 ·refine World.ownsRow.kept q1 (grown_set w N i u) ?_
  have:=own_ne q1 hN h1
  cases e:v.ownBlock with
  | none=>exact .inl rfl
  | some b=>exact .inr (fun q=>this (by rw [e,q]))
 ·cases hb
  rw [hN] at e
  simp only [Option.some.injEq,Obj.cells.injEq] at e
  exact h2 e.2.1
def toE (O:Nat→Nat→Int) (h w c lo hi ot:Int) (on:Nat) (op:Int) (n x0 y0 z0:Int):Int:=if fiE O h w c lo hi ot on op≠0 then fiE O h w c lo hi ot on op else if n=x0*y0*z0 then 0 else 70
def plZ (_:Nat):List Int:=[3,-2]
def plB (_:Nat):List Int:=[1]
theorem irow_blk {k:IntKind} {w:World} {b:Nat} {T:TypeId} (zs:List Int) (h:w.heap[b]? = some (.cells (zs.map (Value.int k)).toArray T (0,0))) (hw:∀ z∈zs,(Lit.int k z).wf=true) (hm:zs.length≤1000):IRow k w (some ⟨b,0,none⟩) zs.length zs.length zs:=by
 refine⟨rfl,Nat.le_refl _,by unfold maxLen;omega,hw,fun h=>(by cases h),fun x hx i hi=>?_⟩
 cases hx
 rw [Addr.add_lit,Nat.zero_add,(cells_at h).1]
 simp [List.getD,hi]
theorem neFt (a b c d e f:Int) (v:Bool) (h:decide (a=d∧b=e∧c=f)=v):∀ W,(binOp .neq 35 (.agg #[U i6 a,U i6 b,U i6 c]) (.agg #[U i6 d,U i6 e,U i6 f])).run Tryz.prog W=.ok (.bool (!v)) W:=by
 intro W;subst h;simp [go_sem];repeat' split
 all_goals simp_all
theorem eqFt (a b c d e f:Int) (v:Bool) (h:decide (a=d∧b=e∧c=f)=v):∀ W,(binOp .eql 35 (.agg #[U i6 a,U i6 b,U i6 c]) (.agg #[U i6 d,U i6 e,U i6 f])).run Tryz.prog W=.ok (.bool v) W:=by
 intro W;subst h;simp [go_sem];repeat' split
 all_goals simp_all
theorem same8_any (a b:Option Addr) (n ca cb:Nat) (xs:List Int) (W:World) (ha:IRow .i8 W a n ca xs) (hb:IRow .i8 W b n cb xs) :
  Calls Tryz.prog 8 #[Sl a n ca,Sl b n cb] W fun e w'=>e=.returned (.bool true)∧∃ q,w'=W.drewN q:=by
 have HA:Hid (IRow .i8 W a n ca xs):=ha
 have HB:Hid (IRow .i8 W b n cb xs):=hb
 have h1:=ha.2.1
 have h2:=ha.2.2.1
 have h3:=hb.2.1
 have h4:=hb.2.2.1
 unfold maxLen at h2 h4
 clear ha hb
 go_enter Tryz.func8,Tryz.ntmps8
 go_wp2
 go_loopw [13] (fun i wr=>∃ k q:Nat,k≤n∧i=U i6 k∧wr=W.drewN q) (fun i _=>n-(intOf i).toNat)
 case atStart=>exact⟨0,0,Nat.zero_le _,rfl,rfl⟩
 case round =>
  obtain⟨k,q,hk,rfl,rfl⟩:=hrel
  by_cases hlt:k<n
  ·obtain⟨x1,u,rfl,hu,hw,hz,-⟩:=HA.out.at hlt
   obtain⟨x2,u',rfl,hu',-,hz',-⟩:=HB.out.at hlt
   obtain rfl:u=u':=by rw [hz] at hz';exact Option.some.inj hz'
   clear hz hz' hw
   go_wp2
   go_quiet (fail)
   go_wp2
   go_roundw
   case rel=>exact⟨k+1,_,by omega,by go_num,rfl⟩
   case measure=>simp [intOf];omega
  ·go_wp2
   go_ret
   exact⟨rfl,_,rfl⟩
theorem same8_b (a b:Option Addr) (n ca cb:Nat) (xs:List Int) (W:World) (ha:IRow .i8 W a n ca xs) (hb:IRow .i8 W b n cb xs) :
  Calls Tryz.prog 8 #[Sl a n ca,Sl b n cb] W fun e w'=>e=.returned (.bool true)∧Below W.heap.size W w' :=
 (same8_any a b n ca cb xs W ha hb).mono fun e w' ⟨h,q,hq⟩=>⟨h,by rw [hq];exact dbel _ _⟩
end Go.Proofs.YtehofmkpgopmpaaGreat
namespace Go.Proofs.YtehofmkpgopmpaaGreat.Kr
open Go.Value renaming int → U, slice → Sl
open Go.IntKind renaming i64 → i6
set_option maxRecDepth 100000
set_option maxHeartbeats 16000000
open Go.ChangeShapes Go.WideShapes Go.ChangeAt Go.RowKit
set_option linter.unusedVariables false
theorem vaK_len {k b m kh kw sh sw tp lf bt rt:Int} {lw lb:Nat} {sm ss um us z p lo hi h w c H V C len:Int} (s:Opd k b m kh kw sh sw tp lf bt rt lw lb sm ss um us z p lo hi h w c H V C) {SS x y:List Int} (hS:SS.length=(H*V*C).toNat) (hx:(x.length:Int)=h*w*c):((vaK k kh kw sh sw sm ss um us w c V C len (H*V*C).toNat SS x y).length:Int)=H*V*C:=by
 have hb:=(vS_bd s.hB).2
 unfold vaK
 split
 ·unfold apL;rw [List.length_map,hS];omega
 split
 ·unfold meL;rw [List.length_map,hS];omega
 split
 ·rw [grL_len];omega
 have e:H*V*C=h*w*c:=by rw [(s.s6 (by omega)).1,(s.s6 (by omega)).2,s.c3 (by omega)]
 split
 ·unfold adL apL;simp;omega
 split
 ·unfold apL;simp;omega
 ·omega
theorem done_any (k a b m kh kw sh sw tp lf bt rt:Int) (wa:Option Addr) (lw cw:Nat) (ba:Option Addr) (lb bc:Nat) (sm ss um us z p lo hi h w c H V C:Int) (s:Opd k b m kh kw sh sw tp lf bt rt lw lb sm ss um us z p lo hi h w c H V C) (zs bs:List Int) (W:World) (hZ:IRow .i16 W wa lw cw zs) (hBs:IRow .i32 W ba lb bc bs) (hlw:lw*2≤140737488351232) (hlb:lb*4≤140737488351232) (r:Nat) (ln pn:Int) (hln:k≤4→ln=stR k kh kw h w c) (hr:W.heap[r]? = some (.cells #[U i6 k,U i6 a,U i6 b,U i6 m,U i6 kh,U i6 kw,U i6 sh,U i6 sw,U i6 tp,U i6 lf,U i6 bt,U i6 rt,Sl wa lw cw,Sl ba lb bc,U i6 sm,U i6 ss,U i6 um,U i6 us,U i6 z,U i6 p,U i6 lo,U i6 hi,U i6 h,U i6 w,U i6 c,U i6 H,U i6 V,U i6 C,U i6 ln,U i6 pn] 57 (0,0)))
  (pa:Option Addr) (pl pc:Nat) (PS:List Pl) (hPS:ERow 6 pcs W pa pl pc PS) (hok:k≤4→Pok (stR k kh kw h w c) C PS) (ad:Option Addr) (n cap:Nat) (xs:List Int) (hX:IRow .i8 W ad n cap xs) (hn:(n:Int)=h*w*c) (bd:Option Addr) (nb capb:Nat) (ys:List Int) (hY:IRow .i8 W bd nb capb ys) (hnb:k=6→nb=n) :
  Calls Tryz.prog 14 #[.pointer (some ⟨r,0,none⟩),Sl pa pl pc,Sl ad n cap,Sl bd nb capb] W fun e w'=>(∃ v,e=.returned (.tuple #[v,.agg (if k≤4 then dsT k kh kw sh sw tp lf bt rt h w c C p zs bs xs PS (H*V*C).toNat else Tr.z).cs])∧Own .i8 72 w' W.heap.size v (fiL (vaK k kh kw sh sw sm ss um us w c V C (stR k kh kw h w c) (H*V*C).toNat (dsL k kh kw sh sw tp lf bt rt h w c C p zs bs xs PS (H*V*C).toNat) xs ys) z lo hi))∧Below W.heap.size W w':=by
 have hrz:=lt_of_heap hr
 have hxl:(xs.length:Int)=h*w*c:=by rw [hX.1];exact hn
 have hbA:=(vS_bd s.hA).2
 have hbB:=(vS_bd s.hB).2
 have hp8:I8 p:=by have:=s.rz;unfold rzB vlB at this;simp at this;exact⟨this.2.1,this.2.2⟩
 have hvl:=vaK_len (len:=stR k kh kw h w c) (y:=ys) s (dsL_len k kh kw sh sw tp lf bt rt h w c C p zs bs xs PS (H*V*C).toNat) hxl
 refine done_v k a b m kh kw sh sw tp lf bt rt wa lw cw ba lb bc sm ss um us z p lo hi h w c H V C ln pn r W hr s.hk pa pl pc ad n cap xs hX (by omega) bd nb capb ys hY hnb (dsL k kh kw sh sw tp lf bt rt h w c C p zs bs xs PS (H*V*C).toNat) (grL kh kw sh sw w c V C xs (H*V*C).toNat) (if k≤4 then dsT k kh kw sh sw tp lf bt rt h w c C p zs bs xs PS (H*V*C).toNat else Tr.z) (fun h4 w' hb=>?_) (fun h5 w' hb=>?_) (by rw [dsL_len];omega) ?_ (fun h4=>?_) (fun h5=>if_neg (by omega)) _ ?_ (by omega)
 ·rw [if_pos h4]
  exact sums_any k a b m kh kw sh sw tp lf bt rt wa lw cw ba lb bc sm ss um us z p lo hi h w c H V C ln pn r w' ((hb.block r hrz).trans hr) s h4 zs bs (hZ.below hb) (hBs.below hb) hlw hlb ad n cap xs (hX.below hb) hn (hln h4) pa pl pc PS (hPS.below hb) (hok h4)
 ·subst h5
  have hou:=s.ou (by decide)
  have hoz:=of_decide_eq_true s.oz
  obtain⟨rfl,rfl,rfl,rfl⟩:=hoz.2.2.2.2.2.2 (.inr rfl)
  rcases ouR_cases h w c kh kw sh sw 0 0 0 0 with ⟨e,he,h2⟩ | ⟨rr,qq,he,hf⟩
  ·rw [he] at hou
   simp only [Prod.mk.injEq] at hou
   omega
  ·rw [he] at hou
   simp only [Prod.mk.injEq,and_true] at hou
   obtain⟨rfl,rfl⟩:=hou
   obtain⟨-,⟨i1,i2,i3,i4,-⟩,-,-,g1,g2⟩:=hf
   exact greatest_any 5 a b m kh kw sh sw 0 0 0 0 wa lw cw ba lb bc sm ss um us z p lo hi h w c rr qq C ln pn r w' ((hb.block r hrz).trans hr) ad n cap xs (hX.below hb) hn s.hA s.hB i1 i2 i3 i4 (by omega) (by omega) (s.c3 (by decide))
 ·by_cases h4:k≤4
  ·intro v hv
   have:=dsL_bd (s.si h4) hZ.2.2.2.1 hBs.2.2.2.1 (H*V*C).toNat v hv
   omega
  ·intro v hv
   obtain⟨j,-,rfl⟩:=List.mem_map.1 hv
   have:=(dtR_ok (n:=0) (wd:=(pcA PS ((j:Int) % C+1)).1) (dp:=(pcA PS ((j:Int) % C+1)).2.1) (bi:=biA k ((j:Int) % C+1) bs) ((siL k kh kw sh sw tp lf bt rt h w c ((j:Int) % C+1) ((j:Int) / C) zs).map (smT p xs)) (biA_bd hBs.2.2.2.1)).2
   unfold dsF
   omega
 ·rw [hln (by omega)]
  have h1:=(s.si (by omega)).2.2.2.2.2.2.2.2.1
  have h2:=(s.si (by omega)).2.2.2.2.2.2.2.2.2
  omega
 ·unfold vaK
  split
  ·rfl
  split
  ·rename_i q
   rw [hln (by omega)]
  ·rfl
end Go.Proofs.YtehofmkpgopmpaaGreat.Kr
