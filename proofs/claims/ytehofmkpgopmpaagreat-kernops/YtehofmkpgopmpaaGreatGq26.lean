/- What Op of package kern returns, of an op that the model has. What Op of package kern returns, whatever it is asked. -/
import Derived.Test.YtehofmkpgopmpaaGreatGq25
namespace Go.Proofs.YtehofmkpgopmpaaGreat.Kr
open Go.Value renaming int → U, slice → Sl
open Go.IntKind renaming i64 → i6
set_option maxRecDepth 100000
set_option maxHeartbeats 16000000
open Go.ChangeShapes Go.WideShapes Go.ChangeAt Go.RowKit
set_option linter.unusedVariables false
theorem shp_at9 {w:World} {base:Nat} {v:Value} {L:List (Int×Int×Int)} {n:Nat} (h:Shp w base v L) (hn:L.length=n+1):∃ g cap,v=.slice (some ⟨g,0,none⟩) (n+1) cap∧n+1≤cap∧∀ i,i<n+1→∀ A B C,L.getD i (0,0,0)=(A,B,C)→∀ j u,[Value.int .i64 A,U i6 B,U i6 C][j]? = some u→w.cell? ((⟨g,i*3,none⟩:Addr).add j)=some u:=by
 rcases h with ⟨-,q⟩ | ⟨g,cap,cur,q1,q2,q3,q4,-⟩
 ·rw [q] at hn;simp at hn
 ·refine⟨g,cap,by rw [q1,hn],by rw [← hn];exact q4.2.1,fun i hi A B C e j u hj=>?_⟩
  obtain⟨b1,b2,b3⟩:=q4.at (show i<L.length by omega)
  rw [e] at b1 b2 b3
  simp only at b1 b2 b3
  rw [Addr.add_lit,(cells_at q3).1]
  match j,hj with
  | 0,hj=>simp only [List.getElem?_cons_zero] at hj;rw [← hj];exact b1
  | 1,hj=>simp only [List.getElem?_cons_succ,List.getElem?_cons_zero] at hj;rw [← hj];exact b2
  | 2,hj=>simp only [List.getElem?_cons_succ,List.getElem?_cons_zero] at hj;rw [← hj];exact b3
  | j+3,hj=>simp at hj
theorem shp_cap9 {w:World} {base:Nat} {a:Option Addr} {n cap:Nat} {L:List (Int×Int×Int)} (h:Shp w base (.slice a n cap) L):cap≤9223372036854775807:=by
 rcases h with ⟨q,-⟩ | ⟨g,cap',cur,q1,q2,q3,q4,q5⟩
 ·cases q;omega
 ·cases q1
  omega
theorem results_trr {P:Program} {fn:Func} {s p u:Tmp} {ty ty':TypeId} (h:fn.results=#[.tmp s,.cell p ty,.cell u ty']) (tmps:Array Value) (w:World) (v:Value) (g g':Nat) (t t':TypeId) (cs cs':Array Value) (d d':TypeDesc)
  (hs:tmps.getD s undef=v) (hp:tmps.getD p undef=.pointer (some ⟨g,0,none⟩)) (hp':tmps.getD u undef=.pointer (some ⟨g',0,none⟩)) (hg:w.heap[g]? = some (.cells cs t (0,0))) (hg':w.heap[g']? = some (.cells cs' t' (0,0)))
  (hu:P.underlying ty=some d) (hd:(match d with | .struct _ | .array _ _=>true | _=>false)=true) (hi:(P.info? ty).map (·.size)=some cs.size)
  (hu':P.underlying ty'=some d') (hd':(match d' with | .struct _ | .array _ _=>true | _=>false)=true) (hi':(P.info? ty').map (·.size)=some cs'.size) :
  (results fn tmps).run P w=.ok (.tuple #[v,.agg cs,.agg cs']) w:=by
 have e0:tmps[s]?.getD undef=v:=by simpa using hs
 have e1:tmps[p]?.getD undef=.pointer (some ⟨g,0,none⟩):=by simpa using hp
 have e2:tmps[u]?.getD undef=.pointer (some ⟨g',0,none⟩):=by simpa using hp'
 simp only [results,h]
 simp [Sem.run_bind,Result.andThen,e0,e1,e2,asAddr,run_loadVar_row w g t ty cs (0,0) d hg hu hd hi,run_loadVar_row w g' t' ty' cs' (0,0) d' hg' hu' hd' hi']
theorem op_w (h0 w0 c0 lo0 hi0 ot:Int) (x:Addr) (on oc:Nat) (k a b m kh kw sh sw tp lf bt rt:Int) (wa:Option Addr) (lw cw:Nat) (ba:Option Addr) (lb bc:Nat) (sm ss um us z p lo hi h w c H V C:Int) (zs bs:List Int) (i ja:Nat) (RL:List (Int×Int×Int)) (W:World)
  (hS:∀ W',Below W.heap.size W W'→Calls Tryz.prog 10 #[.agg #[U i6 h0,U i6 w0,U i6 c0,U i6 lo0,U i6 hi0,Sl (some x) on oc,U i6 ot]] W' fun e w'=>∃ v,e=.returned (.tuple #[v,.agg #[U i6 0,U i6 0,U i6 0]])∧Shp w' W'.heap.size v RL∧Below W'.heap.size W' w')
  (hRl:RL.length=on+1) (ho64:on≤64) (hoc:on≤oc) (hom:oc≤9223372036854775807) (hA:RL.getD ja (0,0,0)=(h,w,c)) (hB:RL.getD (i+1) (0,0,0)=(H,V,C)) (hil:i<on) (hja:ja≤i) (ha:a=(ja:Int))
  (hop:∀ q v,[U i6 k,U i6 a,U i6 b,U i6 m,U i6 kh,U i6 kw,U i6 sh,U i6 sw,U i6 tp,U i6 lf,U i6 bt,U i6 rt,Sl wa lw cw,Sl ba lb bc,U i6 sm,U i6 ss,U i6 um,U i6 us,U i6 z,U i6 p,U i6 lo,U i6 hi][q]? = some v→W.cell? ((x.add (i*22)).add q)=some v) (s:Opd k b m kh kw sh sw tp lf bt rt lw lb sm ss um us z p lo hi h w c H V C) (hZ:IRow .i16 W wa lw cw zs) (hBs:IRow .i32 W ba lb bc bs) (hlw:lw*2≤140737488351232) (hlb:lb*4≤140737488351232)
  (pa:Option Addr) (pl pc:Nat) (PS:List Pl) (hPS:ERow 6 pcs W pa pl pc PS) (ad:Option Addr) (n cap:Nat) (xs:List Int) (hX:IRow .i8 W ad n cap xs) (bd:Option Addr) (nb capb:Nat) (ys:List Int) (hY:IRow .i8 W bd nb capb ys)
  (E1 E2 E3:Int) (hE:lnE k h w c C (stR k kh kw h w c) ((i:Int)+1) n pl nb PS=(E1,E2,E3)) :
  Calls Tryz.prog 4 #[.agg #[U i6 h0,U i6 w0,U i6 c0,U i6 lo0,U i6 hi0,Sl (some x) on oc,U i6 ot],U i6 ((i:Int)+1),Sl pa pl pc,Sl ad n cap,Sl bd nb capb] W fun e w'=>(∃ v T,e=.returned (.tuple #[v,.agg T,.agg #[U i6 E1,U i6 E2,U i6 E3]])∧((E1≠0∧v=.slice none 0 0∧T=#[U i6 0,U i6 0,U i6 0,U i6 0,U i6 0,U i6 0,U i6 0,U i6 0,U i6 0])∨(E1=0∧Own .i8 72 w' W.heap.size v (fiL (vaK k kh kw sh sw sm ss um us w c V C (stR k kh kw h w c) (H*V*C).toNat (dsL k kh kw sh sw tp lf bt rt h w c C p zs bs xs PS (H*V*C).toNat) xs ys) z lo hi)∧T=(if k≤4 then dsT k kh kw sh sw tp lf bt rt h w c C p zs bs xs PS (H*V*C).toNat else Tr.z).cs)))∧Below W.heap.size W w':=by
 suffices HH:∀ R:Ending→World→Prop,(∀ e w',(∃ v T,e=.returned (.tuple #[v,.agg T,.agg #[U i6 E1,U i6 E2,U i6 E3]])∧((E1≠0∧v=.slice none 0 0∧T=#[U i6 0,U i6 0,U i6 0,U i6 0,U i6 0,U i6 0,U i6 0,U i6 0,U i6 0])∨(E1=0∧Own .i8 72 w' W.heap.size v (fiL (vaK k kh kw sh sw sm ss um us w c V C (stR k kh kw h w c) (H*V*C).toNat (dsL k kh kw sh sw tp lf bt rt h w c C p zs bs xs PS (H*V*C).toNat) xs ys) z lo hi)∧T=(if k≤4 then dsT k kh kw sh sw tp lf bt rt h w c C p zs bs xs PS (H*V*C).toNat else Tr.z).cs)))∧Below W.heap.size W w'→R e w')→Calls Tryz.prog 4 #[.agg #[U i6 h0,U i6 w0,U i6 c0,U i6 lo0,U i6 hi0,Sl (some x) on oc,U i6 ot],U i6 ((i:Int)+1),Sl pa pl pc,Sl ad n cap,Sl bd nb capb] W R from HH _ (fun _ _ h=>h)
 intro R hR
 have HR:Hid (∀ e w',(∃ v T,e=.returned (.tuple #[v,.agg T,.agg #[U i6 E1,U i6 E2,U i6 E3]])∧((E1≠0∧v=.slice none 0 0∧T=#[U i6 0,U i6 0,U i6 0,U i6 0,U i6 0,U i6 0,U i6 0,U i6 0,U i6 0])∨(E1=0∧Own .i8 72 w' W.heap.size v (fiL (vaK k kh kw sh sw sm ss um us w c V C (stR k kh kw h w c) (H*V*C).toNat (dsL k kh kw sh sw tp lf bt rt h w c C p zs bs xs PS (H*V*C).toNat) xs ys) z lo hi)∧T=(if k≤4 then dsT k kh kw sh sw tp lf bt rt h w c C p zs bs xs PS (H*V*C).toNat else Tr.z).cs)))∧Below W.heap.size W w'→R e w'):=hR
 clear hR
 have s0:=(((St.start W).new (c:=#[U i6 h0,U i6 w0,U i6 c0,U i6 lo0,U i6 hi0,Sl (some x) on oc,U i6 ot]) (t:=26)).new (c:=#[U i6 0,U i6 0,U i6 0,U i6 0,U i6 0,U i6 0,U i6 0,U i6 0,U i6 0]) (t:=32)).new (c:=#[U i6 0,U i6 0,U i6 0]) (t:=35)
 simp only [World.size_alloc] at s0
 have HS:Hid (∀ W',Below W.heap.size W W'→_):=hS
 have HOP:Hid (∀ q v,[U i6 k,U i6 a,U i6 b,U i6 m,U i6 kh,U i6 kw,U i6 sh,U i6 sw,U i6 tp,U i6 lf,U i6 bt,U i6 rt,Sl wa lw cw,Sl ba lb bc,U i6 sm,U i6 ss,U i6 um,U i6 us,U i6 z,U i6 p,U i6 lo,U i6 hi][q]? = some v→W.cell? ((x.add (i*22)).add q)=some v):=hop
 have hvA:=s.hA
 have HPl:Hid (∀ W,Calls Tryz.prog 12 #[.agg #[U i6 h,U i6 w,U i6 c]] W fun e w'=>e=.returned (U i6 (h*w*c))∧Below W.heap.size W w'):=fun W=>places_plain h w c W hvA
 have HKO:Hid (∀ (W':World) (hb:Below W.heap.size W W') (gs sn cap' n1:Nat) (h1:ja<sn) (h2:n1<sn) (h3:sn≤cap') (h4:cap'≤9223372036854775807) (h5:∀ j u,[Value.int .i64 h,U i6 w,U i6 c][j]? = some u→W'.cell? ((⟨gs,ja*3,none⟩:Addr).add j)=some u) (h6:∀ j u,[Value.int .i64 H,U i6 V,U i6 C][j]? = some u→W'.cell? ((⟨gs,n1*3,none⟩:Addr).add j)=some u),_):=fun W' hb gs sn cap' n1 h1 h2 h3 h4 h5 h6=>kernelof_any k a b m kh kw sh sw tp lf bt rt wa lw cw ba lb bc sm ss um us z p lo hi h w c H V C s zs bs W' (hZ.below hb) (hBs.below hb) hlw hlb gs sn cap' ja n1 ha h1 h2 h3 h4 h5 h6
 have HDn:Hid (∀ (W':World) (hb:Below W.heap.size W W') (r:Nat) (ln pn:Int) (h1:k≤4→ln=stR k kh kw h w c) (hr:W'.heap[r]? = some (.cells #[U i6 k,U i6 a,U i6 b,U i6 m,U i6 kh,U i6 kw,U i6 sh,U i6 sw,U i6 tp,U i6 lf,U i6 bt,U i6 rt,Sl wa lw cw,Sl ba lb bc,U i6 sm,U i6 ss,U i6 um,U i6 us,U i6 z,U i6 p,U i6 lo,U i6 hi,U i6 h,U i6 w,U i6 c,U i6 H,U i6 V,U i6 C,U i6 ln,U i6 pn] 57 (0,0))) (h2:k≤4→Pok (stR k kh kw h w c) C PS) (h3:(n:Int)=h*w*c) (h4:k=6→nb=n),_):=fun W' hb r ln pn h1 hr h2 h3 h4=>done_any k a b m kh kw sh sw tp lf bt rt wa lw cw ba lb bc sm ss um us z p lo hi h w c H V C s zs bs W' (hZ.below hb) (hBs.below hb) hlw hlb r ln pn h1 hr pa pl pc PS (hPS.below hb) h2 ad n cap xs (hX.below hb) h3 bd nb capb ys (hY.below hb) h4
 have HPS:Hid (ERow 6 pcs W pa pl pc PS):=hPS
 have HE:Hid (lnE k h w c C (stR k kh kw h w c) ((i:Int)+1) n pl nb PS=(E1,E2,E3)):=hE
 have hpc:=hPS.2.1
 have hpm:=hPS.2.2.1
 have hbA:=vS_bd s.hA
 have hR1:k≤4→1≤stR k kh kw h w c:=fun h4=>(s.si h4).2.2.2.2.2.2.2.2.1
 have HR1:Hid (k≤4→1≤stR k kh kw h w c):=hR1
 unfold maxLen at hpm
 clear hS hop hE s hZ hBs hlw hlb hPS hX hY hvA hR1
 have HRl:Hid (RL.length=on+1):=hRl
 have HA9:Hid (RL.getD ja (0,0,0)=(h,w,c)):=hA
 have HB9:Hid (RL.getD (i+1) (0,0,0)=(H,V,C)):=hB
 clear hRl hA hB ha
 have qn:=neFt 0 0 0 0 0 0 true (by decide)
 go_enter Tryz.func4,Tryz.ntmps4
 go_wp2_with fail
 refine Calls.mono (HS.out _ s0.below) ?_
 rintro e w1 ⟨v,rfl,hSh,hb⟩
 obtain⟨gs,caps,rfl,hcap,hsh⟩:=shp_at9 hSh HRl.out
 have hcapm:=shp_cap9 hSh
 have s1:=(s0.call hb).new (c:=#[U i6 0,U i6 0,U i6 0]) (t:=35)
 have hsA:=hsh ja (by omega) h w c HA9.out
 have hsB:=hsh (i+1) (by omega) H V C HB9.out
 have HSA:Hid (∀ w',Below w1.heap.size w1 w'→∀ j u,[Value.int .i64 h,U i6 w,U i6 c][j]? = some u→w'.cell? ((⟨gs,ja*3,none⟩:Addr).add j)=some u):=fun w' hb j u hj=>(hb.cell (World.block_lt_of_cell? w1 _ (hsA j u hj))).trans (hsA j u hj)
 have HSB:Hid (∀ w',Below w1.heap.size w1 w'→∀ j u,[Value.int .i64 H,U i6 V,U i6 C][j]? = some u→w'.cell? ((⟨gs,(i+1)*3,none⟩:Addr).add j)=some u):=fun w' hb j u hj=>(hb.cell (World.block_lt_of_cell? w1 _ (hsB j u hj))).trans (hsB j u hj)
 obtain⟨c1,f1,z1,c2,f2,z2,c3,f3,z3,-⟩:=(s0.call hb).rules
 have hz91:=z1
 clear hb hSh hsh HS s0 hsA hsB
 go_upto_region 2 with fail
 have hb12:=bal w1 (.cells #[U i6 0,U i6 0,U i6 0] 35)
 obtain⟨w2,hw2⟩:∃ w2,w1.alloc (.cells #[U i6 0,U i6 0,U i6 0] 35)=w2:=⟨_,rfl⟩
 rw [hw2] at s1 hb12 ⊢
 have S2:Hid (St W w2 _):=s1
 have HB12:Hid (Below w1.heap.size w1 w2):=hb12
 clear hw2 c1 f1 z1 c2 f2 z2 c3 f3 z3 hb12
 obtain⟨q0,g0,y0,q1,g1,y1,q2,g2,y2,q3,g3,y3,-⟩:=s1.rules
 clear s1
 obtain⟨fb,hfb⟩:∃ fb,w1.heap.size=fb:=⟨_,rfl⟩
 have S2':Hid (St W w2 ((fb,#[U i6 0,U i6 0,U i6 0],35) :: [(W.heap.size+1+1,#[U i6 0,U i6 0,U i6 0],35),(W.heap.size+1,#[U i6 0,U i6 0,U i6 0,U i6 0,U i6 0,U i6 0,U i6 0,U i6 0,U i6 0],32),(W.heap.size,#[U i6 h0,U i6 w0,U i6 c0,U i6 lo0,U i6 hi0,Sl (some x) on oc,U i6 ot],26)])):=by rw [← hfb];exact S2.out
 rw [hfb]
 rw [hfb] at q0 g0 y0
 have hfm:W.heap.size+1+1<fb:=by rw [← hfb];exact hz91
 clear hz91
 have hcel:Hid (∀ q v,[U i6 k,U i6 a,U i6 b,U i6 m,U i6 kh,U i6 kw,U i6 sh,U i6 sw,U i6 tp,U i6 lf,U i6 bt,U i6 rt,Sl wa lw cw,Sl ba lb bc,U i6 sm,U i6 ss,U i6 um,U i6 us,U i6 z,U i6 p,U i6 lo,U i6 hi][q]? = some v→w2.cell? ((x.add (i*22)).add q)=some v):=fun q v hq=>(S2'.out.below.cell (World.block_lt_of_cell? W _ (HOP.out q v hq))).trans (HOP.out q v hq)
 have hko:=HKO.out w2 S2'.out.below gs (on+1) caps (i+1) (by omega) (by omega) hcap hcapm (HSA.out _ HB12.out) (HSB.out _ HB12.out)
 rw [show ((i+1:Nat):Int)=(i:Int)+1 from rfl] at hko
 obtain⟨X,hX⟩:∃ X,(if k≤4 then stR k kh kw h w c else 0)=X:=⟨_,rfl⟩
 obtain⟨Y,hY⟩:∃ Y,(if k≤4 then C else 0)=Y:=⟨_,rfl⟩
 obtain⟨NN,hNN⟩:∃ NN,h*w*c=NN:=⟨_,rfl⟩
 rw [hX,hY] at hko
 have HX:Hid ((if k≤4 then stR k kh kw h w c else 0)=X):=hX
 have hE:=HE.out
 unfold lnE at hE
 rw [hY,hNN] at hE
 rw [hNN] at HPl HDn hbA
 have HY:Hid ((if k≤4 then C else 0)=Y):=hY
 have HE':Hid (_=(E1,E2,E3)):=hE
 have HKO':Hid (Calls _ _ _ _ _):=hko
 clear hX hY hNN hko hE HE HKO HSA HSB HB12 HOP hfb S2
 go_upto_region 6 with fail
 go_wp2_with (refine wpList_load_any rfl 55 (.tmp 46) rfl _ rfl [U i6 k,U i6 a,U i6 b,U i6 m,U i6 kh,U i6 kw,U i6 sh,U i6 sw,U i6 tp,U i6 lf,U i6 bt,U i6 rt,Sl wa lw cw,Sl ba lb bc,U i6 sm,U i6 ss,U i6 um,U i6 us,U i6 z,U i6 p,U i6 lo,U i6 hi] _ hcel.out Tryz.underlying55 rfl (by kernel_rfl) ?_)
 refine Calls.mono HKO'.out ?_
 rintro e w3 ⟨rfl,hb3⟩
 have s4:=(S2'.out.call hb3).new (c:=#[U i6 k,U i6 a,U i6 b,U i6 m,U i6 kh,U i6 kw,U i6 sh,U i6 sw,U i6 tp,U i6 lf,U i6 bt,U i6 rt,Sl wa lw cw,Sl ba lb bc,U i6 sm,U i6 ss,U i6 um,U i6 us,U i6 z,U i6 p,U i6 lo,U i6 hi,U i6 h,U i6 w,U i6 c,U i6 H,U i6 V,U i6 C,U i6 X,U i6 Y]) (t:=57)
 have hkf:=lt_of_heap (S2'.out.call hb3).h1
 clear hb3 q0 g0 y0 q1 g1 y1 q2 g2 y2 q3 g3 y3 hcel HKO' S2'
 go_upto_region 7 with (refine wpList_st_new rfl 57 (.tmp 15) (.tmp 50) rfl w3 #[U i6 0,U i6 0,U i6 0,U i6 0,U i6 0,U i6 0,U i6 0,U i6 0,U i6 0,U i6 0,U i6 0,U i6 0,Sl none 0 0,Sl none 0 0,U i6 0,U i6 0,U i6 0,U i6 0,U i6 0,U i6 0,U i6 0,U i6 0,U i6 0,U i6 0,U i6 0,U i6 0,U i6 0,U i6 0,U i6 0,U i6 0] #[U i6 k,U i6 a,U i6 b,U i6 m,U i6 kh,U i6 kw,U i6 sh,U i6 sw,U i6 tp,U i6 lf,U i6 bt,U i6 rt,Sl wa lw cw,Sl ba lb bc,U i6 sm,U i6 ss,U i6 um,U i6 us,U i6 z,U i6 p,U i6 lo,U i6 hi,U i6 h,U i6 w,U i6 c,U i6 H,U i6 V,U i6 C,U i6 X,U i6 Y] rfl rfl (by kernel_rfl) rfl (by simp [Value.oneCell']) ?_)
 obtain⟨kb,hkb⟩:∃ kb,w3.heap.size=kb:=⟨_,rfl⟩
 obtain⟨w4,hw4⟩:∃ w4,w3.alloc (.cells #[U i6 k,U i6 a,U i6 b,U i6 m,U i6 kh,U i6 kw,U i6 sh,U i6 sw,U i6 tp,U i6 lf,U i6 bt,U i6 rt,Sl wa lw cw,Sl ba lb bc,U i6 sm,U i6 ss,U i6 um,U i6 us,U i6 z,U i6 p,U i6 lo,U i6 hi,U i6 h,U i6 w,U i6 c,U i6 H,U i6 V,U i6 C,U i6 X,U i6 Y] 57)=w4:=⟨_,rfl⟩
 rw [hw4,hkb] at s4
 rw [hkb] at hkf
 rw [hw4,hkb]
 have S4:Hid (St W w4 ((kb,#[U i6 k,U i6 a,U i6 b,U i6 m,U i6 kh,U i6 kw,U i6 sh,U i6 sw,U i6 tp,U i6 lf,U i6 bt,U i6 rt,Sl wa lw cw,Sl ba lb bc,U i6 sm,U i6 ss,U i6 um,U i6 us,U i6 z,U i6 p,U i6 lo,U i6 hi,U i6 h,U i6 w,U i6 c,U i6 H,U i6 V,U i6 C,U i6 X,U i6 Y],57) :: (fb,#[U i6 0,U i6 0,U i6 0],35) :: [(W.heap.size+1+1,#[U i6 0,U i6 0,U i6 0],35),(W.heap.size+1,#[U i6 0,U i6 0,U i6 0,U i6 0,U i6 0,U i6 0,U i6 0,U i6 0,U i6 0],32),(W.heap.size,#[U i6 h0,U i6 w0,U i6 c0,U i6 lo0,U i6 hi0,Sl (some x) on oc,U i6 ot],26)])):=s4
 clear hw4 hkb s4
 obtain⟨q0,g0,y0,q1,g1,y1,q2,g2,y2,q3,g3,y3,q4,g4,y4,-⟩:=S4.out.rules
 by_cases hn:(n:Int)=NN
 rotate_left
 ·have n1:((n:Int) != NN)=true:=by simp [hn]
  have hE:=HE'.out
  rw [if_pos (.inl hn)] at hE
  simp only [Prod.mk.injEq] at hE
  obtain⟨rfl,rfl,rfl⟩:=hE
  clear HE' HDn HX HY HPS
  go_wp2_with fail
  refine (HPl.out _).mono ?_
  rintro e w5 ⟨rfl,hb5⟩
  have S5:Hid (St W w5 ((kb,#[U i6 k,U i6 a,U i6 b,U i6 m,U i6 kh,U i6 kw,U i6 sh,U i6 sw,U i6 tp,U i6 lf,U i6 bt,U i6 rt,Sl wa lw cw,Sl ba lb bc,U i6 sm,U i6 ss,U i6 um,U i6 us,U i6 z,U i6 p,U i6 lo,U i6 hi,U i6 h,U i6 w,U i6 c,U i6 H,U i6 V,U i6 C,U i6 X,U i6 Y],57) :: (fb,#[U i6 0,U i6 0,U i6 0],35) :: [(W.heap.size+1+1,#[U i6 0,U i6 0,U i6 0],35),(W.heap.size+1,#[U i6 0,U i6 0,U i6 0,U i6 0,U i6 0,U i6 0,U i6 0,U i6 0,U i6 0],32),(W.heap.size,#[U i6 h0,U i6 w0,U i6 c0,U i6 lo0,U i6 hi0,Sl (some x) on oc,U i6 ot],26)])):=S4.out.call hb5
  clear hb5 S4 q0 g0 y0 q1 g1 y1 q2 g2 y2 q3 g3 y3 q4 g4 y4
  have SE:Hid (St W w5 [(W.heap.size+1,#[U i6 0,U i6 0,U i6 0,U i6 0,U i6 0,U i6 0,U i6 0,U i6 0,U i6 0],32),(W.heap.size+1+1,#[U i6 0,U i6 0,U i6 0],35)]):=S5.out.sub (by simp)
  go_wp2_with (first
   | (refine wpList_store_row rfl 32 (.tmp 11) (.tmp 64) rfl (W.heap.size+1) #[U i6 0,U i6 0,U i6 0,U i6 0,U i6 0,U i6 0,U i6 0,U i6 0,U i6 0] rfl rfl 32 #[U i6 0,U i6 0,U i6 0,U i6 0,U i6 0,U i6 0,U i6 0,U i6 0,U i6 0] SE.out.h1 (by kernel_rfl) rfl (by simp [Value.oneCell']) ?_
      have SF:Hid (St W (w5.setRow (W.heap.size+1) #[U i6 0,U i6 0,U i6 0,U i6 0,U i6 0,U i6 0,U i6 0,U i6 0,U i6 0]) [(W.heap.size+1+1,#[U i6 0,U i6 0,U i6 0],35),(W.heap.size+1,#[U i6 0,U i6 0,U i6 0,U i6 0,U i6 0,U i6 0,U i6 0,U i6 0,U i6 0],32)]):=(SE.out.row #[U i6 0,U i6 0,U i6 0,U i6 0,U i6 0,U i6 0,U i6 0,U i6 0,U i6 0] (by simp only [List.mem_singleton];rintro y rfl;simp only;omega)).up1
      generalize World.setRow _ _ _=wF at SF ⊢)
   | (refine wpList_store_row rfl 35 (.tmp 12) (.tmp 66) rfl (W.heap.size+1+1) #[U i6 70,U i6 ((i:Int)+1),U i6 0] rfl rfl 35 #[U i6 0,U i6 0,U i6 0] SF.out.h1 (by kernel_rfl) rfl (by simp [Value.oneCell']) ?_
      have SG:Hid (St W (wF.setRow (W.heap.size+1+1) #[U i6 70,U i6 ((i:Int)+1),U i6 0]) [(W.heap.size+1+1,#[U i6 70,U i6 ((i:Int)+1),U i6 0],35),(W.heap.size+1,#[U i6 0,U i6 0,U i6 0,U i6 0,U i6 0,U i6 0,U i6 0,U i6 0,U i6 0],32)]):=SF.out.row #[U i6 70,U i6 ((i:Int)+1),U i6 0] (by simp only [List.mem_singleton];rintro y rfl;simp only;omega)
      generalize World.setRow _ _ _=wG at SG ⊢))
  exact bodyPost_ret (results_trr Tryz.results4 _ _ (.slice none 0 0) (W.heap.size+1) (W.heap.size+1+1) 32 35 _ _ _ _ (by kernel_rfl) (by kernel_rfl) (by kernel_rfl) SG.out.h2 SG.out.h1 Tryz.underlying32 rfl (by kernel_rfl) Tryz.underlying35 rfl (by kernel_rfl)) rfl (HR.out _ _ ⟨⟨_,_,rfl,.inl ⟨by decide,rfl,rfl⟩⟩,SG.out.below⟩)
 subst hn
 by_cases hp:(pl:Int)=Y
 rotate_left
 ·have n1:((pl:Int) != Y)=true:=by simp [hp]
  have hE:=HE'.out
  rw [if_pos (.inr (.inl hp))] at hE
  simp only [Prod.mk.injEq] at hE
  obtain⟨rfl,rfl,rfl⟩:=hE
  clear HE' HDn HX HY HPS
  go_wp2_with fail
  refine (HPl.out _).mono ?_
  rintro e w5 ⟨rfl,hb5⟩
  have S5:Hid (St W w5 ((kb,#[U i6 k,U i6 a,U i6 b,U i6 m,U i6 kh,U i6 kw,U i6 sh,U i6 sw,U i6 tp,U i6 lf,U i6 bt,U i6 rt,Sl wa lw cw,Sl ba lb bc,U i6 sm,U i6 ss,U i6 um,U i6 us,U i6 z,U i6 p,U i6 lo,U i6 hi,U i6 h,U i6 w,U i6 c,U i6 H,U i6 V,U i6 C,U i6 X,U i6 Y],57) :: (fb,#[U i6 0,U i6 0,U i6 0],35) :: [(W.heap.size+1+1,#[U i6 0,U i6 0,U i6 0],35),(W.heap.size+1,#[U i6 0,U i6 0,U i6 0,U i6 0,U i6 0,U i6 0,U i6 0,U i6 0,U i6 0],32),(W.heap.size,#[U i6 h0,U i6 w0,U i6 c0,U i6 lo0,U i6 hi0,Sl (some x) on oc,U i6 ot],26)])):=S4.out.call hb5
  clear hb5 S4 q0 g0 y0 q1 g1 y1 q2 g2 y2 q3 g3 y3 q4 g4 y4
  obtain⟨q0,g0,y0,-⟩:=S5.out.rules
  have SE:Hid (St W w5 [(W.heap.size+1,#[U i6 0,U i6 0,U i6 0,U i6 0,U i6 0,U i6 0,U i6 0,U i6 0,U i6 0],32),(W.heap.size+1+1,#[U i6 0,U i6 0,U i6 0],35)]):=S5.out.sub (by simp)
  go_wp2_with (first
   | (refine wpList_store_row rfl 32 (.tmp 11) (.tmp 64) rfl (W.heap.size+1) #[U i6 0,U i6 0,U i6 0,U i6 0,U i6 0,U i6 0,U i6 0,U i6 0,U i6 0] rfl rfl 32 #[U i6 0,U i6 0,U i6 0,U i6 0,U i6 0,U i6 0,U i6 0,U i6 0,U i6 0] SE.out.h1 (by kernel_rfl) rfl (by simp [Value.oneCell']) ?_
      have SF:Hid (St W (w5.setRow (W.heap.size+1) #[U i6 0,U i6 0,U i6 0,U i6 0,U i6 0,U i6 0,U i6 0,U i6 0,U i6 0]) [(W.heap.size+1+1,#[U i6 0,U i6 0,U i6 0],35),(W.heap.size+1,#[U i6 0,U i6 0,U i6 0,U i6 0,U i6 0,U i6 0,U i6 0,U i6 0,U i6 0],32)]):=(SE.out.row #[U i6 0,U i6 0,U i6 0,U i6 0,U i6 0,U i6 0,U i6 0,U i6 0,U i6 0] (by simp only [List.mem_singleton];rintro y rfl;simp only;omega)).up1
      generalize World.setRow _ _ _=wF at SF ⊢)
   | (refine wpList_store_row rfl 35 (.tmp 12) (.tmp 66) rfl (W.heap.size+1+1) #[U i6 70,U i6 ((i:Int)+1),U i6 0] rfl rfl 35 #[U i6 0,U i6 0,U i6 0] SF.out.h1 (by kernel_rfl) rfl (by simp [Value.oneCell']) ?_
      have SG:Hid (St W (wF.setRow (W.heap.size+1+1) #[U i6 70,U i6 ((i:Int)+1),U i6 0]) [(W.heap.size+1+1,#[U i6 70,U i6 ((i:Int)+1),U i6 0],35),(W.heap.size+1,#[U i6 0,U i6 0,U i6 0,U i6 0,U i6 0,U i6 0,U i6 0,U i6 0,U i6 0],32)]):=SF.out.row #[U i6 70,U i6 ((i:Int)+1),U i6 0] (by simp only [List.mem_singleton];rintro y rfl;simp only;omega)
      generalize World.setRow _ _ _=wG at SG ⊢))
  exact bodyPost_ret (results_trr Tryz.results4 _ _ (.slice none 0 0) (W.heap.size+1) (W.heap.size+1+1) 32 35 _ _ _ _ (by kernel_rfl) (by kernel_rfl) (by kernel_rfl) SG.out.h2 SG.out.h1 Tryz.underlying32 rfl (by kernel_rfl) Tryz.underlying35 rfl (by kernel_rfl)) rfl (HR.out _ _ ⟨⟨_,_,rfl,.inl ⟨by decide,rfl,rfl⟩⟩,SG.out.below⟩)
 subst hp
 go_wp2_with fail
 refine (HPl.out _).mono ?_
 rintro e w5 ⟨rfl,hb5⟩
 have S5:Hid (St W w5 ((kb,#[U i6 k,U i6 a,U i6 b,U i6 m,U i6 kh,U i6 kw,U i6 sh,U i6 sw,U i6 tp,U i6 lf,U i6 bt,U i6 rt,Sl wa lw cw,Sl ba lb bc,U i6 sm,U i6 ss,U i6 um,U i6 us,U i6 z,U i6 p,U i6 lo,U i6 hi,U i6 h,U i6 w,U i6 c,U i6 H,U i6 V,U i6 C,U i6 X,U i6 (pl:Int)],57) :: (fb,#[U i6 0,U i6 0,U i6 0],35) :: [(W.heap.size+1+1,#[U i6 0,U i6 0,U i6 0],35),(W.heap.size+1,#[U i6 0,U i6 0,U i6 0,U i6 0,U i6 0,U i6 0,U i6 0,U i6 0,U i6 0],32),(W.heap.size,#[U i6 h0,U i6 w0,U i6 c0,U i6 lo0,U i6 hi0,Sl (some x) on oc,U i6 ot],26)])):=S4.out.call hb5
 clear hb5 S4 q0 g0 y0 q1 g1 y1 q2 g2 y2 q3 g3 y3 q4 g4 y4
 obtain⟨q0,g0,y0,-⟩:=S5.out.rules
 go_upto_region 9 with fail
 go_cut [78] from 67 to 78 (fun v wx=>v=.bool (decide (k=6∧(nb:Int)≠n))∧St W wx ((kb,#[U i6 k,U i6 a,U i6 b,U i6 m,U i6 kh,U i6 kw,U i6 sh,U i6 sw,U i6 tp,U i6 lf,U i6 bt,U i6 rt,Sl wa lw cw,Sl ba lb bc,U i6 sm,U i6 ss,U i6 um,U i6 us,U i6 z,U i6 p,U i6 lo,U i6 hi,U i6 h,U i6 w,U i6 c,U i6 H,U i6 V,U i6 C,U i6 X,U i6 (pl:Int)],57) :: (fb,#[U i6 0,U i6 0,U i6 0],35) :: [(W.heap.size+1+1,#[U i6 0,U i6 0,U i6 0],35),(W.heap.size+1,#[U i6 0,U i6 0,U i6 0,U i6 0,U i6 0,U i6 0,U i6 0,U i6 0,U i6 0],32),(W.heap.size,#[U i6 h0,U i6 w0,U i6 c0,U i6 lo0,U i6 hi0,Sl (some x) on oc,U i6 ot],26)]))
 case first =>
  by_cases h6:k=6
  ·subst h6
   by_cases hn6:(nb:Int)=n
   ·have n1:((nb:Int) != n)=false:=by simp [hn6]
    have hD:Hid (decide ((6:Int)=6∧(nb:Int)≠n)=false):=decide_eq_false (fun q=>q.2 hn6)
    clear hn6
    go_wp2_with fail
    refine (HPl.out _).mono ?_
    rintro e w6 ⟨rfl,hb6⟩
    have S6:Hid (St W w6 ((kb,#[U i6 6,U i6 a,U i6 b,U i6 m,U i6 kh,U i6 kw,U i6 sh,U i6 sw,U i6 tp,U i6 lf,U i6 bt,U i6 rt,Sl wa lw cw,Sl ba lb bc,U i6 sm,U i6 ss,U i6 um,U i6 us,U i6 z,U i6 p,U i6 lo,U i6 hi,U i6 h,U i6 w,U i6 c,U i6 H,U i6 V,U i6 C,U i6 X,U i6 (pl:Int)],57) :: (fb,#[U i6 0,U i6 0,U i6 0],35) :: [(W.heap.size+1+1,#[U i6 0,U i6 0,U i6 0],35),(W.heap.size+1,#[U i6 0,U i6 0,U i6 0,U i6 0,U i6 0,U i6 0,U i6 0,U i6 0,U i6 0],32),(W.heap.size,#[U i6 h0,U i6 w0,U i6 c0,U i6 lo0,U i6 hi0,Sl (some x) on oc,U i6 ot],26)])):=S5.out.call hb6
    clear hb6 q0 g0 y0
    obtain⟨q0,g0,y0,-⟩:=S6.out.rules
    go_wp2
    (first | go_meet | (refine (show ∀ a' w',Met _ a' w'→_ from by assumption) _ _ ?_;go_meet))
    exact⟨by rw [hD.out],S6.out⟩
   ·have n1:((nb:Int) != n)=true:=by simp [hn6]
    have hD:Hid (decide ((6:Int)=6∧(nb:Int)≠n)=true):=decide_eq_true ⟨rfl,hn6⟩
    clear hn6
    go_wp2_with fail
    refine (HPl.out _).mono ?_
    rintro e w6 ⟨rfl,hb6⟩
    have S6:Hid (St W w6 ((kb,#[U i6 6,U i6 a,U i6 b,U i6 m,U i6 kh,U i6 kw,U i6 sh,U i6 sw,U i6 tp,U i6 lf,U i6 bt,U i6 rt,Sl wa lw cw,Sl ba lb bc,U i6 sm,U i6 ss,U i6 um,U i6 us,U i6 z,U i6 p,U i6 lo,U i6 hi,U i6 h,U i6 w,U i6 c,U i6 H,U i6 V,U i6 C,U i6 X,U i6 (pl:Int)],57) :: (fb,#[U i6 0,U i6 0,U i6 0],35) :: [(W.heap.size+1+1,#[U i6 0,U i6 0,U i6 0],35),(W.heap.size+1,#[U i6 0,U i6 0,U i6 0,U i6 0,U i6 0,U i6 0,U i6 0,U i6 0,U i6 0],32),(W.heap.size,#[U i6 h0,U i6 w0,U i6 c0,U i6 lo0,U i6 hi0,Sl (some x) on oc,U i6 ot],26)])):=S5.out.call hb6
    clear hb6 q0 g0 y0
    obtain⟨q0,g0,y0,-⟩:=S6.out.rules
    go_wp2
    (first | go_meet | (refine (show ∀ a' w',Met _ a' w'→_ from by assumption) _ _ ?_;go_meet))
    exact⟨by rw [hD.out],S6.out⟩
  ·have n1:(k == 6)=false:=by simp [h6]
   have hD:Hid (decide (k=6∧(nb:Int)≠n)=false):=decide_eq_false (fun q=>h6 q.1)
   clear h6
   go_wp2
   (first | go_meet | (refine (show ∀ a' w',Met _ a' w'→_ from by assumption) _ _ ?_;go_meet))
   exact⟨by rw [hD.out],S5.out⟩
 case rest =>
 obtain⟨rfl,hs6⟩:=hcut
 have S6:Hid (St W wc ((kb,#[U i6 k,U i6 a,U i6 b,U i6 m,U i6 kh,U i6 kw,U i6 sh,U i6 sw,U i6 tp,U i6 lf,U i6 bt,U i6 rt,Sl wa lw cw,Sl ba lb bc,U i6 sm,U i6 ss,U i6 um,U i6 us,U i6 z,U i6 p,U i6 lo,U i6 hi,U i6 h,U i6 w,U i6 c,U i6 H,U i6 V,U i6 C,U i6 X,U i6 (pl:Int)],57) :: (fb,#[U i6 0,U i6 0,U i6 0],35) :: [(W.heap.size+1+1,#[U i6 0,U i6 0,U i6 0],35),(W.heap.size+1,#[U i6 0,U i6 0,U i6 0,U i6 0,U i6 0,U i6 0,U i6 0,U i6 0,U i6 0],32),(W.heap.size,#[U i6 h0,U i6 w0,U i6 c0,U i6 lo0,U i6 hi0,Sl (some x) on oc,U i6 ot],26)])):=hs6
 clear hs6 S5 q0 g0 y0 HPl
 obtain⟨w6,hw6⟩:∃ w6,wc=w6:=⟨_,rfl⟩
 rw [hw6] at S6 ⊢
 clear hw6
 by_cases hq6:k=6∧(nb:Int)≠n
 ·rw [decide_eq_true hq6]
  have hE:=HE'.out
  rw [if_pos (.inr (.inr hq6))] at hE
  simp only [Prod.mk.injEq] at hE
  obtain⟨rfl,rfl,rfl⟩:=hE
  clear HE' HDn HX HY HPS hq6
  have SE:Hid (St W w6 [(W.heap.size+1,#[U i6 0,U i6 0,U i6 0,U i6 0,U i6 0,U i6 0,U i6 0,U i6 0,U i6 0],32),(W.heap.size+1+1,#[U i6 0,U i6 0,U i6 0],35)]):=S6.out.sub (by simp)
  go_wp2_with (first
   | (refine wpList_store_row rfl 32 (.tmp 11) (.tmp 79) rfl (W.heap.size+1) #[U i6 0,U i6 0,U i6 0,U i6 0,U i6 0,U i6 0,U i6 0,U i6 0,U i6 0] rfl rfl 32 #[U i6 0,U i6 0,U i6 0,U i6 0,U i6 0,U i6 0,U i6 0,U i6 0,U i6 0] SE.out.h1 (by kernel_rfl) rfl (by simp [Value.oneCell']) ?_
      have SF:Hid (St W (w6.setRow (W.heap.size+1) #[U i6 0,U i6 0,U i6 0,U i6 0,U i6 0,U i6 0,U i6 0,U i6 0,U i6 0]) [(W.heap.size+1+1,#[U i6 0,U i6 0,U i6 0],35),(W.heap.size+1,#[U i6 0,U i6 0,U i6 0,U i6 0,U i6 0,U i6 0,U i6 0,U i6 0,U i6 0],32)]):=(SE.out.row #[U i6 0,U i6 0,U i6 0,U i6 0,U i6 0,U i6 0,U i6 0,U i6 0,U i6 0] (by simp only [List.mem_singleton];rintro y rfl;simp only;omega)).up1
      generalize World.setRow _ _ _=wF at SF ⊢)
   | (refine wpList_store_row rfl 35 (.tmp 12) (.tmp 81) rfl (W.heap.size+1+1) #[U i6 70,U i6 ((i:Int)+1),U i6 0] rfl rfl 35 #[U i6 0,U i6 0,U i6 0] SF.out.h1 (by kernel_rfl) rfl (by simp [Value.oneCell']) ?_
      have SG:Hid (St W (wF.setRow (W.heap.size+1+1) #[U i6 70,U i6 ((i:Int)+1),U i6 0]) [(W.heap.size+1+1,#[U i6 70,U i6 ((i:Int)+1),U i6 0],35),(W.heap.size+1,#[U i6 0,U i6 0,U i6 0,U i6 0,U i6 0,U i6 0,U i6 0,U i6 0,U i6 0],32)]):=SF.out.row #[U i6 70,U i6 ((i:Int)+1),U i6 0] (by simp only [List.mem_singleton];rintro y rfl;simp only;omega)
      generalize World.setRow _ _ _=wG at SG ⊢))
  exact bodyPost_ret (results_trr Tryz.results4 _ _ (.slice none 0 0) (W.heap.size+1) (W.heap.size+1+1) 32 35 _ _ _ _ (by kernel_rfl) (by kernel_rfl) (by kernel_rfl) SG.out.h2 SG.out.h1 Tryz.underlying32 rfl (by kernel_rfl) Tryz.underlying35 rfl (by kernel_rfl)) rfl (HR.out _ _ ⟨⟨_,_,rfl,.inl ⟨by decide,rfl,rfl⟩⟩,SG.out.below⟩)
 rw [decide_eq_false hq6]
 have hE:=HE'.out
 rw [if_neg (by rintro (q | q | q)<;>first | exact q rfl | exact hq6 q)] at hE
 have HE2:Hid (pfE ((i:Int)+1) (stR k kh kw h w c) PS 0=(E1,E2,E3)):=hE
 have HQ6:Hid (k=6→nb=n):=fun q=>by
  by_cases q2:(nb:Int)=n
  ·omega
  ·exact absurd ⟨q,q2⟩ hq6
 have HXk:Hid (k≤4→X=stR k kh kw h w c):=fun q=>by rw [← HX.out,if_pos q]
 have HYk:Hid (0<pl→k≤4):=fun q=>by
  have hy:=HY.out
  by_cases q4:k≤4
  ·exact q4
  ·rw [if_neg q4] at hy;omega
 have HYC:Hid (k≤4→(pl:Int)=C):=fun q=>by have hy:=HY.out;rw [if_pos q] at hy;exact hy.symm
 have HPlen:Hid (PS.length=pl):=HPS.out.1
 clear hE HE' hq6 HX HY
 obtain⟨q0,g0,y0,-⟩:=S6.out.rules
 go_wp2
 go_loopw [84] (fun j wr=>∃ y:Nat,y≤pl∧j=U i6 y∧pfE ((i:Int)+1) (stR k kh kw h w c) (PS.drop y) y=(E1,E2,E3)∧St W wr ((kb,#[U i6 k,U i6 a,U i6 b,U i6 m,U i6 kh,U i6 kw,U i6 sh,U i6 sw,U i6 tp,U i6 lf,U i6 bt,U i6 rt,Sl wa lw cw,Sl ba lb bc,U i6 sm,U i6 ss,U i6 um,U i6 us,U i6 z,U i6 p,U i6 lo,U i6 hi,U i6 h,U i6 w,U i6 c,U i6 H,U i6 V,U i6 C,U i6 X,U i6 (pl:Int)],57) :: (fb,#[U i6 0,U i6 0,U i6 0],35) :: [(W.heap.size+1+1,#[U i6 0,U i6 0,U i6 0],35),(W.heap.size+1,#[U i6 0,U i6 0,U i6 0,U i6 0,U i6 0,U i6 0,U i6 0,U i6 0,U i6 0],32),(W.heap.size,#[U i6 h0,U i6 w0,U i6 c0,U i6 lo0,U i6 hi0,Sl (some x) on oc,U i6 ot],26)])) (fun j _=>pl-(intOf j).toNat)
 case atStart=>exact⟨0,Nat.zero_le _,rfl,HE2.out,S6.out⟩
 case round =>
  obtain⟨y,hy,rfl,hp,sr⟩:=hrel
  clear q0 g0 y0 S6
  by_cases hlt:y<pl
  ·obtain⟨x2,q,rfl,hq,hd,hcq⟩:=(HPS.out.below sr.below).at hlt
   obtain⟨p1,p2,p3,p4,p5,p6⟩:=q
   have hcell:Hid (∀ j v,[U i6 p1,U i6 p2,U i6 p3,U i6 p4,U i6 p5,U i6 p6][j]? = some v→wr.cell? ((x2.add (y*6)).add j)=some v):=hcq
   rw [hd] at hp
   unfold pfE at hp
   have hk4:=HYk.out (by omega)
   have hX4:=HXk.out hk4
   have HRf:Hid (∀ w,_):=refused_any p1 p2 p3 p4 p5 p6 X (by rw [hX4];exact HR1.out hk4)
   rw [← hX4] at hp
   have sb:=sr.new (c:=#[U i6 p1,U i6 p2,U i6 p3,U i6 p4,U i6 p5,U i6 p6]) (t:=63)
   obtain⟨PE,hPE⟩:∃ PE,deE (p1,p2,p3,p4,p5,p6) X=PE:=⟨_,rfl⟩
   rw [hPE] at hp HRf
   have HXE:Hid (X=stR k kh kw h w c):=hX4
   have HP:Hid (_=(E1,E2,E3)):=hp
   clear hcq hd hp hX4 hPE sr hq
   go_upto_region 14 with (first
    | (refine wpList_load_any rfl 63 (.tmp 87) rfl _ rfl [U i6 p1,U i6 p2,U i6 p3,U i6 p4,U i6 p5,U i6 p6] _ hcell.out Tryz.underlying63 rfl (by kernel_rfl) ?_)
    | (refine wpList_st_new rfl 63 (.tmp 17) (.tmp 88) rfl wr _ #[U i6 p1,U i6 p2,U i6 p3,U i6 p4,U i6 p5,U i6 p6] rfl rfl (by kernel_rfl) rfl (by simp [Value.oneCell']) ?_))
   obtain⟨pb,hpb⟩:∃ pb,wr.heap.size=pb:=⟨_,rfl⟩
   obtain⟨w7,hw7⟩:∃ w7,wr.alloc (.cells #[U i6 p1,U i6 p2,U i6 p3,U i6 p4,U i6 p5,U i6 p6] 63)=w7:=⟨_,rfl⟩
   rw [hw7,hpb] at sb
   rw [hw7,hpb]
   have SB:Hid (St W w7 ((pb,#[U i6 p1,U i6 p2,U i6 p3,U i6 p4,U i6 p5,U i6 p6],63) :: (kb,#[U i6 k,U i6 a,U i6 b,U i6 m,U i6 kh,U i6 kw,U i6 sh,U i6 sw,U i6 tp,U i6 lf,U i6 bt,U i6 rt,Sl wa lw cw,Sl ba lb bc,U i6 sm,U i6 ss,U i6 um,U i6 us,U i6 z,U i6 p,U i6 lo,U i6 hi,U i6 h,U i6 w,U i6 c,U i6 H,U i6 V,U i6 C,U i6 X,U i6 (pl:Int)],57) :: (fb,#[U i6 0,U i6 0,U i6 0],35) :: [(W.heap.size+1+1,#[U i6 0,U i6 0,U i6 0],35),(W.heap.size+1,#[U i6 0,U i6 0,U i6 0,U i6 0,U i6 0,U i6 0,U i6 0,U i6 0,U i6 0],32),(W.heap.size,#[U i6 h0,U i6 w0,U i6 c0,U i6 lo0,U i6 hi0,Sl (some x) on oc,U i6 ot],26)])):=sb
   clear hw7 hpb sb hcell
   obtain⟨q0,g0,y0,q1,g1,y1,-⟩:=SB.out.rules
   go_wp2_with fail
   refine (HRf.out _).mono ?_
   rintro e w8 ⟨rfl,hb8⟩
   have S7:Hid (St W w8 ((kb,#[U i6 k,U i6 a,U i6 b,U i6 m,U i6 kh,U i6 kw,U i6 sh,U i6 sw,U i6 tp,U i6 lf,U i6 bt,U i6 rt,Sl wa lw cw,Sl ba lb bc,U i6 sm,U i6 ss,U i6 um,U i6 us,U i6 z,U i6 p,U i6 lo,U i6 hi,U i6 h,U i6 w,U i6 c,U i6 H,U i6 V,U i6 C,U i6 X,U i6 (pl:Int)],57) :: (fb,#[U i6 0,U i6 0,U i6 0],35) :: [(W.heap.size+1+1,#[U i6 0,U i6 0,U i6 0],35),(W.heap.size+1,#[U i6 0,U i6 0,U i6 0,U i6 0,U i6 0,U i6 0,U i6 0,U i6 0,U i6 0],32),(W.heap.size,#[U i6 h0,U i6 w0,U i6 c0,U i6 lo0,U i6 hi0,Sl (some x) on oc,U i6 ot],26)])):=(SB.out.call hb8).tail
   clear hb8 SB q0 g0 y0 q1 g1 y1 HRf
   obtain⟨w7',hw7'⟩:∃ w7',w8=w7':=⟨_,rfl⟩
   by_cases hpe:PE=0
   ·subst hpe
    have hp2:=HP.out
    rw [if_neg (by decide),HXE.out] at hp2
    have HP2:Hid (_=(E1,E2,E3)):=hp2
    clear HP hp2 HXE
    subst hw7'
    go_wp2
    go_roundw
    case rel=>exact⟨y+1,by omega,by go_num,HP2.out,S7.out⟩
    case measure=>simp [intOf];omega
   ·have hp2:=HP.out
    rw [if_pos hpe] at hp2
    simp only [Prod.mk.injEq] at hp2
    obtain⟨rfl,rfl,rfl⟩:=hp2
    have HDE:Hid (PE≠0):=hpe
    have n1:(PE != 0)=true:=by simp [hpe]
    clear HP hpe HXE hw7' HDn
    have SE:Hid (St W w8 [(W.heap.size+1,#[U i6 0,U i6 0,U i6 0,U i6 0,U i6 0,U i6 0,U i6 0,U i6 0,U i6 0],32),(W.heap.size+1+1,#[U i6 0,U i6 0,U i6 0],35)]):=S7.out.sub (by simp)
    go_wp2_with (first
     | (refine wpList_store_row rfl 32 (.tmp 11) (.tmp 95) rfl (W.heap.size+1) #[U i6 0,U i6 0,U i6 0,U i6 0,U i6 0,U i6 0,U i6 0,U i6 0,U i6 0] rfl rfl 32 #[U i6 0,U i6 0,U i6 0,U i6 0,U i6 0,U i6 0,U i6 0,U i6 0,U i6 0] SE.out.h1 (by kernel_rfl) rfl (by simp [Value.oneCell']) ?_
        have SF:Hid (St W (w8.setRow (W.heap.size+1) #[U i6 0,U i6 0,U i6 0,U i6 0,U i6 0,U i6 0,U i6 0,U i6 0,U i6 0]) [(W.heap.size+1+1,#[U i6 0,U i6 0,U i6 0],35),(W.heap.size+1,#[U i6 0,U i6 0,U i6 0,U i6 0,U i6 0,U i6 0,U i6 0,U i6 0,U i6 0],32)]):=(SE.out.row #[U i6 0,U i6 0,U i6 0,U i6 0,U i6 0,U i6 0,U i6 0,U i6 0,U i6 0] (by simp only [List.mem_singleton];rintro y rfl;simp only;omega)).up1
        generalize World.setRow _ _ _=wF at SF ⊢)
     | (refine wpList_store_row rfl 35 (.tmp 12) (.tmp 100) rfl (W.heap.size+1+1) #[U i6 PE,U i6 ((i:Int)+1),U i6 ((y:Int)+1)] rfl rfl 35 #[U i6 0,U i6 0,U i6 0] SF.out.h1 (by kernel_rfl) rfl (by simp [Value.oneCell']) ?_
        have SG:Hid (St W (wF.setRow (W.heap.size+1+1) #[U i6 PE,U i6 ((i:Int)+1),U i6 ((y:Int)+1)]) [(W.heap.size+1+1,#[U i6 PE,U i6 ((i:Int)+1),U i6 ((y:Int)+1)],35),(W.heap.size+1,#[U i6 0,U i6 0,U i6 0,U i6 0,U i6 0,U i6 0,U i6 0,U i6 0,U i6 0],32)]):=SF.out.row #[U i6 PE,U i6 ((i:Int)+1),U i6 ((y:Int)+1)] (by simp only [List.mem_singleton];rintro y rfl;simp only;omega)
        generalize World.setRow _ _ _=wG at SG ⊢))
    exact bodyPost_ret (results_trr Tryz.results4 _ _ (.slice none 0 0) (W.heap.size+1) (W.heap.size+1+1) 32 35 _ _ _ _ (by kernel_rfl) (by kernel_rfl) (by kernel_rfl) SG.out.h2 SG.out.h1 Tryz.underlying32 rfl (by kernel_rfl) Tryz.underlying35 rfl (by kernel_rfl)) rfl (HR.out _ _ ⟨⟨_,_,rfl,.inl ⟨HDE.out,rfl,rfl⟩⟩,SG.out.below⟩)
  ·obtain rfl:y=pl:=by omega
   rw [List.drop_of_length_le (by rw [HPlen.out];omega)] at hp
   unfold pfE at hp
   simp only [Prod.mk.injEq] at hp
   obtain⟨rfl,rfl,rfl⟩:=hp
   have SR:Hid (St W wr ((kb,#[U i6 k,U i6 a,U i6 b,U i6 m,U i6 kh,U i6 kw,U i6 sh,U i6 sw,U i6 tp,U i6 lf,U i6 bt,U i6 rt,Sl wa lw cw,Sl ba lb bc,U i6 sm,U i6 ss,U i6 um,U i6 us,U i6 z,U i6 p,U i6 lo,U i6 hi,U i6 h,U i6 w,U i6 c,U i6 H,U i6 V,U i6 C,U i6 X,U i6 (y:Int)],57) :: (fb,#[U i6 0,U i6 0,U i6 0],35) :: [(W.heap.size+1+1,#[U i6 0,U i6 0,U i6 0],35),(W.heap.size+1,#[U i6 0,U i6 0,U i6 0,U i6 0,U i6 0,U i6 0,U i6 0,U i6 0,U i6 0],32),(W.heap.size,#[U i6 h0,U i6 w0,U i6 c0,U i6 lo0,U i6 hi0,Sl (some x) on oc,U i6 ot],26)])):=sr
   have hPok:k≤4→Pok (stR k kh kw h w c) C PS:=fun q=>by
    refine⟨by rw [HPlen.out];exact HYC.out q,fun j hj=>?_⟩
    exact (pfE_0 PS 0 (by rw [HE2.out])).2 j hj
   have hdn:=HDn.out wr sr.below kb X y HXk.out sr.h1 hPok (by trivial) HQ6.out
   obtain⟨TEL,hTEL⟩:∃ TEL,fiL (vaK k kh kw sh sw sm ss um us w c V C (stR k kh kw h w c) (H*V*C).toNat (dsL k kh kw sh sw tp lf bt rt h w c C p zs bs xs PS (H*V*C).toNat) xs ys) z lo hi=TEL:=⟨_,rfl⟩
   obtain⟨T0,hT0⟩:∃ T0,(if k≤4 then dsT k kh kw sh sw tp lf bt rt h w c C p zs bs xs PS (H*V*C).toNat else Tr.z)=T0:=⟨_,rfl⟩
   rw [hTEL,hT0] at hdn
   have HT0:Hid ((if k≤4 then dsT k kh kw sh sw tp lf bt rt h w c C p zs bs xs PS (H*V*C).toNat else Tr.z)=T0):=hT0
   have HTEL:Hid (fiL (vaK k kh kw sh sw sm ss um us w c V C (stR k kh kw h w c) (H*V*C).toNat (dsL k kh kw sh sw tp lf bt rt h w c C p zs bs xs PS (H*V*C).toNat) xs ys) z lo hi=TEL):=hTEL
   have HDN:Hid (Calls _ _ _ _ _):=hdn
   clear hdn hT0 hTEL sr HDn HXk HYk HYC HE2 HQ6 hPok HPlen HR1 HPS
   obtain⟨a1,a2,a3,a4,a5,a6,a7,a8,a9⟩:=T0
   simp only [Tr.cs] at HDN
   go_wp2_with fail
   refine Calls.mono HDN.out ?_
   rintro e w7 ⟨⟨v7,rfl,hO7⟩,hb7⟩
   have s8:=((SR.out.call hb7).tail.tail).new (c:=#[U i6 a1,U i6 a2,U i6 a3,U i6 a4,U i6 a5,U i6 a6,U i6 a7,U i6 a8,U i6 a9]) (t:=32)
   have o8:=(hO7.base SR.out.size).alloc (.cells #[U i6 a1,U i6 a2,U i6 a3,U i6 a4,U i6 a5,U i6 a6,U i6 a7,U i6 a8,U i6 a9] 32)
   have hks:W.heap.size+1+1<w7.heap.size:=lt_of_heap ((SR.out.call hb7).tail.tail).h1
   clear hO7 hb7 HDN SR
   go_upto_region 19 with fail
   obtain⟨tb,htb⟩:∃ tb,w7.heap.size=tb:=⟨_,rfl⟩
   obtain⟨w8,hw8⟩:∃ w8,w7.alloc (.cells #[U i6 a1,U i6 a2,U i6 a3,U i6 a4,U i6 a5,U i6 a6,U i6 a7,U i6 a8,U i6 a9] 32)=w8:=⟨_,rfl⟩
   rw [hw8,htb] at s8
   rw [hw8] at o8
   rw [htb] at hks
   rw [hw8,htb]
   have S8:Hid (St W w8 ((tb,#[U i6 a1,U i6 a2,U i6 a3,U i6 a4,U i6 a5,U i6 a6,U i6 a7,U i6 a8,U i6 a9],32) :: [(W.heap.size+1+1,#[U i6 0,U i6 0,U i6 0],35),(W.heap.size+1,#[U i6 0,U i6 0,U i6 0,U i6 0,U i6 0,U i6 0,U i6 0,U i6 0,U i6 0],32),(W.heap.size,#[U i6 h0,U i6 w0,U i6 c0,U i6 lo0,U i6 hi0,Sl (some x) on oc,U i6 ot],26)])):=s8
   have O8:Hid (Own .i8 72 w8 W.heap.size v7 TEL):=o8
   clear hw8 htb s8 o8
   obtain⟨q0,g0,y0,q1,g1,y1,q2,g2,y2,-⟩:=S8.out.rules
   go_region_law (fail)
   all_goals
    have s9:=(S8.out.sub (l':=[(W.heap.size+1,#[U i6 0,U i6 0,U i6 0,U i6 0,U i6 0,U i6 0,U i6 0,U i6 0,U i6 0],32),(W.heap.size+1+1,#[U i6 0,U i6 0,U i6 0],35)]) (by simp)).set9 (Value.int .i64 a1) (Value.int .i64 a2) (Value.int .i64 a3) (Value.int .i64 a4) (Value.int .i64 a5) (Value.int .i64 a6) (Value.int .i64 a7) (Value.int .i64 a8) (Value.int .i64 a9) (by simp only [List.mem_singleton];rintro y rfl;simp only;omega)
    have hl9:∀ z∈([(W.heap.size+1,#[U i6 a1,U i6 a2,U i6 a3,U i6 a4,U i6 a5,U i6 a6,U i6 a7,U i6 a8,U i6 a9],32)]:List (Nat×Array Value×TypeId)),z.1≠W.heap.size+1+1:=by simp only [List.mem_singleton];rintro z rfl;simp only;omega
    have s10:=(((s9.up1.seti (i:=0) (v:=Value.int .i64 0) hl9 #[U i6 0,U i6 0,U i6 0] rfl).seti (i:=1) (v:=Value.int .i64 0) hl9 #[U i6 0,U i6 0,U i6 0] rfl).seti (i:=2) (v:=Value.int .i64 0) hl9 #[U i6 0,U i6 0,U i6 0] rfl).drew
    have o10:=(own_mv O8.out (((Mv.refl w8 (W.heap.size+1) (W.heap.size+1+1)).set9 (Value.int .i64 a1) (Value.int .i64 a2) (Value.int .i64 a3) (Value.int .i64 a4) (Value.int .i64 a5) (Value.int .i64 a6) (Value.int .i64 a7) (Value.int .i64 a8) (Value.int .i64 a9)).setq (i:=0) (v:=Value.int .i64 0) |>.setq (i:=1) (v:=Value.int .i64 0) |>.setq (i:=2) (v:=Value.int .i64 0)) (own_ne O8.out.1 S8.out.h3 (by decide)) (own_ne O8.out.1 S8.out.h2 (by decide))).below (Below.refl _ _).drew
    generalize World.drew _=w9 at s10 o10 ⊢
    have O9:Hid (Own .i8 72 w9 W.heap.size v7 TEL):=o10
    have S9:Hid (St W w9 [(W.heap.size+1+1,#[U i6 0,U i6 0,U i6 0],35),(W.heap.size+1,#[U i6 a1,U i6 a2,U i6 a3,U i6 a4,U i6 a5,U i6 a6,U i6 a7,U i6 a8,U i6 a9],32)]):=s10
    clear s9 hl9 s10 o10 S8 O8 q0 g0 y0 q1 g1 y1 q2 g2 y2
    go_wp2
    exact bodyPost_ret (results_trr Tryz.results4 _ _ v7 (W.heap.size+1) (W.heap.size+1+1) 32 35 _ _ _ _ (by kernel_rfl) (by kernel_rfl) (by kernel_rfl) S9.out.h2 S9.out.h1 Tryz.underlying32 rfl (by kernel_rfl) Tryz.underlying35 rfl (by kernel_rfl)) rfl (HR.out _ _ ⟨⟨_,_,rfl,.inr ⟨by trivial,by rw [HTEL.out];exact O9.out,by rw [HT0.out];rfl⟩⟩,S9.out.below⟩)
def oLn (O:Nat→Nat→Int) (RL:List (Int×Int×Int)) (i n pl nb:Nat) (PS:List Pl):Int×Int×Int :=
 lnE (O i 0) (RL.getD (O i 1).toNat (0,0,0)).1 (RL.getD (O i 1).toNat (0,0,0)).2.1 (RL.getD (O i 1).toNat (0,0,0)).2.2 (RL.getD (i+1) (0,0,0)).2.2 (stR (O i 0) (O i 4) (O i 5) (RL.getD (O i 1).toNat (0,0,0)).1 (RL.getD (O i 1).toNat (0,0,0)).2.1 (RL.getD (O i 1).toNat (0,0,0)).2.2) ((i:Int)+1) n pl nb PS
def oTk (o:Nat→Int) (A Q:Int×Int×Int) (zs bs xs:List Int) (PS:List Pl):Tr :=
 if o 0≤4 then dsT (o 0) (o 4) (o 5) (o 6) (o 7) (o 8) (o 9) (o 10) (o 11) A.1 A.2.1 A.2.2 Q.2.2 (o 19) zs bs xs PS (Q.1*Q.2.1*Q.2.2).toNat else Tr.z
def oNm (o:Nat→Int) (A Q:Int×Int×Int) (zs bs xs ys:List Int) (PS:List Pl):List Int :=
 fiL (vaK (o 0) (o 4) (o 5) (o 6) (o 7) (o 14) (o 15) (o 16) (o 17) A.2.1 A.2.2 Q.2.1 Q.2.2 (stR (o 0) (o 4) (o 5) A.1 A.2.1 A.2.2) (Q.1*Q.2.1*Q.2.2).toNat (dsL (o 0) (o 4) (o 5) (o 6) (o 7) (o 8) (o 9) (o 10) (o 11) A.1 A.2.1 A.2.2 Q.2.2 (o 19) zs bs xs PS (Q.1*Q.2.1*Q.2.2).toNat) xs ys) (o 18) (o 20) (o 21)
theorem op_m (h w c lo hi ot:Int) (oa:Option Addr) (on oc:Nat) (O:Nat→Nat→Int) (Z B:Nat→List Int) (W:World) (hL:LRow W oa on oc O Z B) (op:Int) (pa:Option Addr) (pl pc:Nat) (PS:List Pl) (ad:Option Addr) (n cap:Nat) (xs:List Int) (bd:Option Addr) (nb capb:Nat) (ys:List Int) (Re Ra Rw:Int) (RL:List (Int×Int×Int)) (hR:gtR O h w c lo hi ot on=(Re,Ra,RL,Rw)) (he:Re≠0) :
  Calls Tryz.prog 4 #[.agg #[U i6 h,U i6 w,U i6 c,U i6 lo,U i6 hi,Sl oa on oc,U i6 ot],U i6 op,Sl pa pl pc,Sl ad n cap,Sl bd nb capb] W fun e w'=>e=.returned (.tuple #[Sl none 0 0,.agg #[U i6 0,U i6 0,U i6 0,U i6 0,U i6 0,U i6 0,U i6 0,U i6 0,U i6 0],.agg #[U i6 Re,U i6 Ra,U i6 0]])∧Below W.heap.size W w':=by
 have hS:Hid (∀ W,MRow W oa on oc O→_):=fun W hW=>shapes_any h w c lo hi ot oa on oc O W hW
 rw [hR] at hS
 simp only at hS
 have hM2:Hid (MRow W oa on oc O):=hL.m
 have he':(Re == 0)=false:=by simp [he]
 have qn:=neFt Re Ra 0 0 0 0 false (decide_eq_false (fun q=>he q.1))
 have s0:=(((St.start W).new (c:=#[U i6 h,U i6 w,U i6 c,U i6 lo,U i6 hi,Sl oa on oc,U i6 ot]) (t:=26)).new (c:=#[U i6 0,U i6 0,U i6 0,U i6 0,U i6 0,U i6 0,U i6 0,U i6 0,U i6 0]) (t:=32)).new (c:=#[U i6 0,U i6 0,U i6 0]) (t:=35)
 simp only [World.size_alloc] at s0
 clear hL hR
 go_enter Tryz.func4,Tryz.ntmps4
 go_wp2_with fail
 refine Calls.mono (hS.out _ (hM2.out.below s0.below)) ?_
 rintro e w1 ⟨v,rfl,hSh,hb⟩
 obtain⟨va,vc,rfl⟩:=hSh.slice
 have s1:=(s0.call hb).new (c:=#[U i6 Re,U i6 Ra,U i6 0]) (t:=35)
 obtain⟨c1,f1,z1,c2,f2,z2,c3,f3,z3,-⟩:=(s0.call hb).rules
 have hfm:=z1
 clear hb hSh hS hM2 s0
 go_upto_region 2 with fail
 obtain⟨fb,hfb⟩:∃ fb,w1.heap.size=fb:=⟨_,rfl⟩
 rw [hfb] at hfm
 obtain⟨w2,hw2⟩:∃ w2,w1.alloc (.cells #[U i6 Re,U i6 Ra,U i6 0] 35)=w2:=⟨_,rfl⟩
 rw [hw2,hfb] at s1
 rw [hw2,hfb]
 have S1:Hid (St W w2 _):=s1
 clear hw2 hfb c1 f1 z1 c2 f2 z2 c3 f3 z3
 obtain⟨c1,f1,z1,c2,f2,z2,c3,f3,z3,-⟩:=s1.rules
 clear s1
 go_wp2
 go_region_law (fail)
 all_goals
  have s9:=(S1.out.sub (l':=[(W.heap.size+1,#[U i6 0,U i6 0,U i6 0,U i6 0,U i6 0,U i6 0,U i6 0,U i6 0,U i6 0],32),(W.heap.size+1+1,#[U i6 0,U i6 0,U i6 0],35)]) (by simp)).set9 (Value.int .i64 0) (Value.int .i64 0) (Value.int .i64 0) (Value.int .i64 0) (Value.int .i64 0) (Value.int .i64 0) (Value.int .i64 0) (Value.int .i64 0) (Value.int .i64 0) (by simp only [List.mem_singleton];rintro y rfl;simp only;omega)
  have hl9:∀ z∈([(W.heap.size+1,#[U i6 0,U i6 0,U i6 0,U i6 0,U i6 0,U i6 0,U i6 0,U i6 0,U i6 0],32)]:List (Nat×Array Value×TypeId)),z.1≠W.heap.size+1+1:=by simp only [List.mem_singleton];rintro z rfl;simp only;omega
  have s10:=(((s9.up1.seti (i:=0) (v:=Value.int .i64 Re) hl9 #[U i6 Re,U i6 0,U i6 0] rfl).seti (i:=1) (v:=Value.int .i64 Ra) hl9 #[U i6 Re,U i6 Ra,U i6 0] rfl).seti (i:=2) (v:=Value.int .i64 0) hl9 #[U i6 Re,U i6 Ra,U i6 0] rfl).drew
  generalize World.drew _=w9 at s10 ⊢
  have S9:Hid (St W w9 [(W.heap.size+1+1,#[U i6 Re,U i6 Ra,U i6 0],35),(W.heap.size+1,#[U i6 0,U i6 0,U i6 0,U i6 0,U i6 0,U i6 0,U i6 0,U i6 0,U i6 0],32)]):=s10
  clear s9 hl9 s10 S1 c1 f1 z1 c2 f2 z2 c3 f3 z3
  go_wp2
  exact bodyPost_ret (results_trr Tryz.results4 _ _ (.slice none 0 0) (W.heap.size+1) (W.heap.size+1+1) 32 35 _ _ _ _ (by kernel_rfl) (by kernel_rfl) (by kernel_rfl) S9.out.h2 S9.out.h1 Tryz.underlying32 rfl (by kernel_rfl) Tryz.underlying35 rfl (by kernel_rfl)) rfl ⟨rfl,S9.out.below⟩
theorem op_p (h w c lo hi ot:Int) (oa:Option Addr) (on oc:Nat) (O:Nat→Nat→Int) (Z B:Nat→List Int) (W:World) (hL:LRow W oa on oc O Z B) (op:Int) (pa:Option Addr) (pl pc:Nat) (PS:List Pl) (ad:Option Addr) (n cap:Nat) (xs:List Int) (bd:Option Addr) (nb capb:Nat) (ys:List Int) (Rw:Int) (RL:List (Int×Int×Int)) (hR:gtR O h w c lo hi ot on=(0,0,RL,Rw)) (ho:op<1∨(on:Int)<op) :
  Calls Tryz.prog 4 #[.agg #[U i6 h,U i6 w,U i6 c,U i6 lo,U i6 hi,Sl oa on oc,U i6 ot],U i6 op,Sl pa pl pc,Sl ad n cap,Sl bd nb capb] W fun e w'=>e=.returned (.tuple #[Sl none 0 0,.agg #[U i6 0,U i6 0,U i6 0,U i6 0,U i6 0,U i6 0,U i6 0,U i6 0,U i6 0],.agg #[U i6 3,U i6 0,U i6 0]])∧Below W.heap.size W w':=by
 have hS:Hid (∀ W,MRow W oa on oc O→_):=fun W hW=>shapes_any h w c lo hi ot oa on oc O W hW
 rw [hR] at hS
 simp only at hS
 have hM2:Hid (MRow W oa on oc O):=hL.m
 have qn:=neFt 0 0 0 0 0 0 true (by decide)
 have s0:=(((St.start W).new (c:=#[U i6 h,U i6 w,U i6 c,U i6 lo,U i6 hi,Sl oa on oc,U i6 ot]) (t:=26)).new (c:=#[U i6 0,U i6 0,U i6 0,U i6 0,U i6 0,U i6 0,U i6 0,U i6 0,U i6 0]) (t:=32)).new (c:=#[U i6 0,U i6 0,U i6 0]) (t:=35)
 simp only [World.size_alloc] at s0
 clear hL hR
 have hoc:=hM2.out.1
 have hom:=hM2.out.2.1
 unfold maxLen at hom
 by_cases h1:op<1
 ·clear ho
  go_enter Tryz.func4,Tryz.ntmps4
  go_wp2_with fail
  refine Calls.mono (hS.out _ (hM2.out.below s0.below)) ?_
  rintro e w1 ⟨v,rfl,hSh,hb⟩
  obtain⟨va,vc,rfl⟩:=hSh.slice
  have s1:=(s0.call hb).new (c:=#[U i6 0,U i6 0,U i6 0]) (t:=35)
  obtain⟨c1,f1,z1,c2,f2,z2,c3,f3,z3,-⟩:=(s0.call hb).rules
  clear hb hSh hS hM2 s0
  go_upto_region 2 with fail
  obtain⟨fb,hfb⟩:∃ fb,w1.heap.size=fb:=⟨_,rfl⟩
  obtain⟨w2,hw2⟩:∃ w2,w1.alloc (.cells #[U i6 0,U i6 0,U i6 0] 35)=w2:=⟨_,rfl⟩
  rw [hw2,hfb] at s1
  rw [hw2,hfb]
  have S1:Hid (St W w2 _):=s1
  clear hw2 hfb c1 f1 z1 c2 f2 z2 c3 f3 z3
  obtain⟨c1,f1,z1,c2,f2,z2,c3,f3,z3,c4,f4,z4,-⟩:=s1.rules
  clear s1
  have SE:Hid (St W w2 [(W.heap.size+1,#[U i6 0,U i6 0,U i6 0,U i6 0,U i6 0,U i6 0,U i6 0,U i6 0,U i6 0],32),(W.heap.size+1+1,#[U i6 0,U i6 0,U i6 0],35)]):=S1.out.sub (by simp)
  go_upto_region 5 with fail
  clear c1 f1 z1 c2 f2 z2 c3 f3 z3 c4 f4 z4
  go_wp2_with (first
   | (refine wpList_store_row rfl 32 (.tmp 11) (.tmp 40) rfl (W.heap.size+1) #[U i6 0,U i6 0,U i6 0,U i6 0,U i6 0,U i6 0,U i6 0,U i6 0,U i6 0] rfl rfl 32 #[U i6 0,U i6 0,U i6 0,U i6 0,U i6 0,U i6 0,U i6 0,U i6 0,U i6 0] SE.out.h1 (by kernel_rfl) rfl (by simp [Value.oneCell']) ?_
      have SF:Hid (St W (w2.setRow (W.heap.size+1) #[U i6 0,U i6 0,U i6 0,U i6 0,U i6 0,U i6 0,U i6 0,U i6 0,U i6 0]) [(W.heap.size+1+1,#[U i6 0,U i6 0,U i6 0],35),(W.heap.size+1,#[U i6 0,U i6 0,U i6 0,U i6 0,U i6 0,U i6 0,U i6 0,U i6 0,U i6 0],32)]):=(SE.out.row #[U i6 0,U i6 0,U i6 0,U i6 0,U i6 0,U i6 0,U i6 0,U i6 0,U i6 0] (by simp only [List.mem_singleton];rintro y rfl;simp only;omega)).up1
      generalize World.setRow _ _ _=wF at SF ⊢)
   | (refine wpList_store_row rfl 35 (.tmp 12) (.tmp 41) rfl (W.heap.size+1+1) #[U i6 3,U i6 0,U i6 0] rfl rfl 35 #[U i6 0,U i6 0,U i6 0] SF.out.h1 (by kernel_rfl) rfl (by simp [Value.oneCell']) ?_
      have SG:Hid (St W (wF.setRow (W.heap.size+1+1) #[U i6 3,U i6 0,U i6 0]) [(W.heap.size+1+1,#[U i6 3,U i6 0,U i6 0],35),(W.heap.size+1,#[U i6 0,U i6 0,U i6 0,U i6 0,U i6 0,U i6 0,U i6 0,U i6 0,U i6 0],32)]):=SF.out.row #[U i6 3,U i6 0,U i6 0] (by simp only [List.mem_singleton];rintro y rfl;simp only;omega)
      generalize World.setRow _ _ _=wG at SG ⊢))
  exact bodyPost_ret (results_trr Tryz.results4 _ _ (.slice none 0 0) (W.heap.size+1) (W.heap.size+1+1) 32 35 _ _ _ _ (by kernel_rfl) (by kernel_rfl) (by kernel_rfl) SG.out.h2 SG.out.h1 Tryz.underlying32 rfl (by kernel_rfl) Tryz.underlying35 rfl (by kernel_rfl)) rfl ⟨rfl,SG.out.below⟩
 ·have h2:(on:Int)<op:=by omega
  clear ho
  go_enter Tryz.func4,Tryz.ntmps4
  go_wp2_with fail
  refine Calls.mono (hS.out _ (hM2.out.below s0.below)) ?_
  rintro e w1 ⟨v,rfl,hSh,hb⟩
  obtain⟨va,vc,rfl⟩:=hSh.slice
  have s1:=(s0.call hb).new (c:=#[U i6 0,U i6 0,U i6 0]) (t:=35)
  obtain⟨c1,f1,z1,c2,f2,z2,c3,f3,z3,-⟩:=(s0.call hb).rules
  clear hb hSh hS hM2 s0
  go_upto_region 2 with fail
  obtain⟨fb,hfb⟩:∃ fb,w1.heap.size=fb:=⟨_,rfl⟩
  obtain⟨w2,hw2⟩:∃ w2,w1.alloc (.cells #[U i6 0,U i6 0,U i6 0] 35)=w2:=⟨_,rfl⟩
  rw [hw2,hfb] at s1
  rw [hw2,hfb]
  have S1:Hid (St W w2 _):=s1
  clear hw2 hfb c1 f1 z1 c2 f2 z2 c3 f3 z3
  obtain⟨c1,f1,z1,c2,f2,z2,c3,f3,z3,c4,f4,z4,-⟩:=s1.rules
  clear s1
  have SE:Hid (St W w2 [(W.heap.size+1,#[U i6 0,U i6 0,U i6 0,U i6 0,U i6 0,U i6 0,U i6 0,U i6 0,U i6 0],32),(W.heap.size+1+1,#[U i6 0,U i6 0,U i6 0],35)]):=S1.out.sub (by simp)
  go_upto_region 5 with fail
  clear c1 f1 z1 c2 f2 z2 c3 f3 z3 c4 f4 z4
  go_wp2_with (first
   | (refine wpList_store_row rfl 32 (.tmp 11) (.tmp 40) rfl (W.heap.size+1) #[U i6 0,U i6 0,U i6 0,U i6 0,U i6 0,U i6 0,U i6 0,U i6 0,U i6 0] rfl rfl 32 #[U i6 0,U i6 0,U i6 0,U i6 0,U i6 0,U i6 0,U i6 0,U i6 0,U i6 0] SE.out.h1 (by kernel_rfl) rfl (by simp [Value.oneCell']) ?_
      have SF:Hid (St W (w2.setRow (W.heap.size+1) #[U i6 0,U i6 0,U i6 0,U i6 0,U i6 0,U i6 0,U i6 0,U i6 0,U i6 0]) [(W.heap.size+1+1,#[U i6 0,U i6 0,U i6 0],35),(W.heap.size+1,#[U i6 0,U i6 0,U i6 0,U i6 0,U i6 0,U i6 0,U i6 0,U i6 0,U i6 0],32)]):=(SE.out.row #[U i6 0,U i6 0,U i6 0,U i6 0,U i6 0,U i6 0,U i6 0,U i6 0,U i6 0] (by simp only [List.mem_singleton];rintro y rfl;simp only;omega)).up1
      generalize World.setRow _ _ _=wF at SF ⊢)
   | (refine wpList_store_row rfl 35 (.tmp 12) (.tmp 41) rfl (W.heap.size+1+1) #[U i6 3,U i6 0,U i6 0] rfl rfl 35 #[U i6 0,U i6 0,U i6 0] SF.out.h1 (by kernel_rfl) rfl (by simp [Value.oneCell']) ?_
      have SG:Hid (St W (wF.setRow (W.heap.size+1+1) #[U i6 3,U i6 0,U i6 0]) [(W.heap.size+1+1,#[U i6 3,U i6 0,U i6 0],35),(W.heap.size+1,#[U i6 0,U i6 0,U i6 0,U i6 0,U i6 0,U i6 0,U i6 0,U i6 0,U i6 0],32)]):=SF.out.row #[U i6 3,U i6 0,U i6 0] (by simp only [List.mem_singleton];rintro y rfl;simp only;omega)
      generalize World.setRow _ _ _=wG at SG ⊢))
  exact bodyPost_ret (results_trr Tryz.results4 _ _ (.slice none 0 0) (W.heap.size+1) (W.heap.size+1+1) 32 35 _ _ _ _ (by kernel_rfl) (by kernel_rfl) (by kernel_rfl) SG.out.h2 SG.out.h1 Tryz.underlying32 rfl (by kernel_rfl) Tryz.underlying35 rfl (by kernel_rfl)) rfl ⟨rfl,SG.out.below⟩
theorem op_i (h w c lo hi ot:Int) (oa:Option Addr) (on oc:Nat) (O:Nat→Nat→Int) (Z B:Nat→List Int) (W:World) (hL:LRow W oa on oc O Z B) (op:Int) (pa:Option Addr) (pl pc:Nat) (PS:List Pl) (ad:Option Addr) (n cap:Nat) (xs:List Int) (bd:Option Addr) (nb capb:Nat) (ys:List Int) (hPS:ERow 6 pcs W pa pl pc PS) (hX:IRow .i8 W ad n cap xs) (hY:IRow .i8 W bd nb capb ys) (Rw:Int) (RL:List (Int×Int×Int)) (hR:gtR O h w c lo hi ot on=(0,0,RL,Rw)) (i:Nat) (hi0:i<on) (ho:op=(i:Int)+1) (E1 E2 E3:Int) (hE:oLn O RL i n pl nb PS=(E1,E2,E3)) :
  Calls Tryz.prog 4 #[.agg #[U i6 h,U i6 w,U i6 c,U i6 lo,U i6 hi,Sl oa on oc,U i6 ot],U i6 op,Sl pa pl pc,Sl ad n cap,Sl bd nb capb] W fun e w'=>(∃ v T,e=.returned (.tuple #[v,.agg T,.agg #[U i6 E1,U i6 E2,U i6 E3]])∧((E1≠0∧v=.slice none 0 0∧T=#[U i6 0,U i6 0,U i6 0,U i6 0,U i6 0,U i6 0,U i6 0,U i6 0,U i6 0])∨(E1=0∧Own .i8 72 w' W.heap.size v (oNm (O i) (RL.getD (O i 1).toNat (0,0,0)) (RL.getD (i+1) (0,0,0)) (Z i) (B i) xs ys PS)∧T=(oTk (O i) (RL.getD (O i 1).toNat (0,0,0)) (RL.getD (i+1) (0,0,0)) (Z i) (B i) xs PS).cs)))∧Below W.heap.size W w':=by
 obtain⟨ja,jb,ea,la,eb,lb',hO⟩:=opd_of hR hi0
 obtain⟨-,hRl,ho64,-⟩:=gtR_ok hR
 obtain⟨x,rfl,wa,lw,cw,ba,lb,cb,e12,e13,hop,hz,hbz,rz,rb⟩:=hL.at hi0
 obtain⟨x0,y0,v0,hA⟩:∃ x y v,RL.getD ja (0,0,0)=(x,y,v):=⟨_,_,_,rfl⟩
 obtain⟨H,V,C,hB⟩:∃ H V C,RL.getD (i+1) (0,0,0)=(H,V,C):=⟨_,_,_,rfl⟩
 obtain⟨s,-⟩:=hO _ _ _ _ _ _ hA hB
 rw [e12,e13,Int.toNat_natCast,Int.toNat_natCast] at s
 have hM:=hL.m
 have h1:=hL.1
 have h2:=hL.2.1
 unfold maxLen at h2
 have hS:∀ W',Below W.heap.size W W'→_:=fun W' hb=>shapes_any h w c lo hi ot (some x) on oc O W' (hL.below hb).m
 rw [hR] at hS
 simp only at hS
 unfold oLn at hE
 rw [ea,Int.toNat_natCast,hA,hB] at hE
 rw [ho,ea,Int.toNat_natCast,hA,hB]
 exact op_w h w c lo hi ot x on oc (O i 0) (O i 1) (O i 2) (O i 3) (O i 4) (O i 5) (O i 6) (O i 7) (O i 8) (O i 9) (O i 10) (O i 11) wa lw cw ba lb cb (O i 14) (O i 15) (O i 16) (O i 17) (O i 18) (O i 19) (O i 20) (O i 21) x0 y0 v0 H V C (Z i) (B i) i ja RL W hS hRl ho64 h1 (by omega) hA hB hi0 la ea (fun q v hq=>hop q v hq) s hz hbz rz rb pa pl pc PS hPS ad n cap xs hX bd nb capb ys hY E1 E2 E3 hE
end Go.Proofs.YtehofmkpgopmpaaGreat.Kr
