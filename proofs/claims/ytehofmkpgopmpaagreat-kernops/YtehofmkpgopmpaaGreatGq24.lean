/- What sums of package kern returns: the registers behind each position and channel, and the Track of them all. -/
import Derived.Test.YtehofmkpgopmpaaGreatGq21
import Derived.Test.YtehofmkpgopmpaaGreatGq22
namespace Go.Proofs.YtehofmkpgopmpaaGreat.Kr
open Go.Value renaming int → U, slice → Sl
open Go.IntKind renaming i64 → i6
set_option maxRecDepth 100000
set_option maxHeartbeats 16000000
open Go.ChangeShapes Go.WideShapes Go.ChangeAt Go.RowKit
set_option linter.unusedVariables false
theorem bk_row {k:IntKind} {T:TypeId} {w:World} {g N:Nat} {zs:List Int} (h:Bk k T w g zs) (hw:Wf k zs) (hN:zs.length=N) (hm:N≤10000000):IRow k w (some ⟨g,0,none⟩) N N zs:=by
 subst hN
 exact (own_full h hw (by unfold maxLen;omega) (Nat.le_refl _)).facts.2.2.2.2.2.1
theorem bk_rep {k:IntKind} {T:TypeId} {w:World} {g n:Nat} (h:w.heap[g]? = some (.cells (Array.replicate n (Value.int k 0)) T (0,0))):Bk k T w g (List.replicate n 0):=by
 unfold Bk
 rw [h]
 simp
theorem two_blk {k1 k2:IntKind} {T1 T2:TypeId} (w:World) (n:Nat):∀ w',((w.alloc (.cells (Array.replicate n (Value.int k1 0)) T1)).alloc (.cells (Array.replicate n (Value.int k2 0)) T2)).drew=w' →
  Below w.heap.size w w'∧Bk k1 T1 w' w.heap.size (List.replicate n 0)∧Bk k2 T2 w' (w.heap.size+1) (List.replicate n 0)∧w'.heap.size=w.heap.size+1+1:=by
 rintro w' rfl
 have h1:=bk_rep (k:=k1) (T:=T1) (n:=n) (heap_alloc_new w (.cells (Array.replicate n (Value.int k1 0)) T1))
 have h2:=bk_rep (k:=k2) (T:=T2) (n:=n) (heap_alloc_new (w.alloc (.cells (Array.replicate n (Value.int k1 0)) T1)) (.cells (Array.replicate n (Value.int k2 0)) T2))
 simp only [World.size_alloc] at h2
 exact⟨bt (bt (bal _ _) (bal _ _)) (Below.refl _ _).drew,(h1.below (bal _ _)).below (Below.refl _ _).drew,h2.below (Below.refl _ _).drew,by simp⟩
theorem sums_any (k a b m kh kw sh sw tp lf bt rt:Int) (wa:Option Addr) (lw cw:Nat) (ba:Option Addr) (lb bc:Nat) (sm ss um us z p lo hi h w c H V C ln pn:Int) (r:Nat) (W:World) (hr:W.heap[r]? = some (.cells #[U i6 k,U i6 a,U i6 b,U i6 m,U i6 kh,U i6 kw,U i6 sh,U i6 sw,U i6 tp,U i6 lf,U i6 bt,U i6 rt,Sl wa lw cw,Sl ba lb bc,U i6 sm,U i6 ss,U i6 um,U i6 us,U i6 z,U i6 p,U i6 lo,U i6 hi,U i6 h,U i6 w,U i6 c,U i6 H,U i6 V,U i6 C,U i6 ln,U i6 pn] 57 (0,0))) (s:Opd k b m kh kw sh sw tp lf bt rt lw lb sm ss um us z p lo hi h w c H V C) (hk:k≤4) (zs bs:List Int) (hZ:IRow .i16 W wa lw cw zs) (hB:IRow .i32 W ba lb bc bs) (hlw:lw*2≤140737488351232) (hlb:lb*4≤140737488351232) (ad:Option Addr) (n cap:Nat) (xs:List Int) (hX:IRow .i8 W ad n cap xs) (hn:(n:Int)=h*w*c)
  (hln:ln=stR k kh kw h w c) (pa:Option Addr) (pl pc:Nat) (PS:List Pl) (hPS:ERow 6 pcs W pa pl pc PS) (hok:Pok (stR k kh kw h w c) C PS) :
  Calls Tryz.prog 35 #[.pointer (some ⟨r,0,none⟩),Sl pa pl pc,Sl ad n cap] W fun e w'=>(∃ v,e=.returned (.tuple #[v,.agg (dsT k kh kw sh sw tp lf bt rt h w c C p zs bs xs PS (H*V*C).toNat).cs])∧Own .i64 2 w' W.heap.size v (dsL k kh kw sh sw tp lf bt rt h w c C p zs bs xs PS (H*V*C).toNat))∧Below W.heap.size W w':=by
 have hrz:=lt_of_heap hr
 have hp8:I8 p:=by have:=s.rz;unfold rzB vlB at this;simp at this;exact⟨this.2.1,this.2.2⟩
 have HR:Hid (W.heap[r]? = some (.cells #[U i6 k,U i6 a,U i6 b,U i6 m,U i6 kh,U i6 kw,U i6 sh,U i6 sw,U i6 tp,U i6 lf,U i6 bt,U i6 rt,Sl wa lw cw,Sl ba lb bc,U i6 sm,U i6 ss,U i6 um,U i6 us,U i6 z,U i6 p,U i6 lo,U i6 hi,U i6 h,U i6 w,U i6 c,U i6 H,U i6 V,U i6 C,U i6 ln,U i6 pn] 57 (0,0))):=hr
 have HAl:Hid (∀ W',Below W.heap.size W W'→_):=fun W' hb=>alone_any k a b m kh kw sh sw tp lf bt rt wa lw cw ba lb bc sm ss um us z p lo hi h w c H V C ln pn r W' ((hb.block r hrz).trans hr)
 have HP:Hid (∀ W,Calls Tryz.prog 12 #[.agg #[U i6 H,U i6 V,U i6 C]] W fun e w'=>e=.returned (U i6 (H*V*C))∧Below W.heap.size W w'):=fun W=>places_plain H V C W s.hB
 have hsit:=s.si hk
 have n1:=hsit.2.2.2.2.2.2.2.2.1
 have n2:=hsit.2.2.2.2.2.2.2.2.2
 have hTLn:∀ ch at',(siL k kh kw sh sw tp lf bt rt h w c ch at' zs).length=(stR k kh kw h w c).toNat:=fun ch at'=>by unfold siL;rw [tmL_len]
 obtain⟨LN,hLN⟩:∃ LN:Nat,stR k kh kw h w c=(LN:Int):=⟨(stR k kh kw h w c).toNat,by omega⟩
 rw [hLN] at n1 n2 hTLn hok hln
 simp only [Int.toNat_natCast] at hTLn
 have HOf:Hid (∀ (w':World) (g:Nat),Below W.heap.size W w'→w'.heap[g]? = some (.cells #[U i6 k,U i6 0,U i6 b,U i6 m,U i6 kh,U i6 kw,U i6 sh,U i6 sw,U i6 tp,U i6 lf,U i6 bt,U i6 rt,Sl wa lw cw,Sl ba lb bc,U i6 sm,U i6 ss,U i6 um,U i6 us,U i6 z,U i6 p,U i6 lo,U i6 hi] 55 (0,0))→∀ ch at':Int,(1≤ch∧ch≤C)→(0≤at'∧at'<H*V)→Calls Tryz.prog 61 #[.agg #[U i6 h,U i6 w,U i6 c,U i6 0,U i6 0,Sl (some ⟨g,0,none⟩) 1 1,U i6 0],U i6 1,U i6 ch,U i6 at'] w' fun e w''=>(∃ v,e=.returned (.tuple #[v,U i6 (biA k ch bs),U i6 0])∧OTm w'' w'.heap.size v (siL k kh kw sh sw tp lf bt rt h w c ch at' zs))∧Below w'.heap.size w' w'') :=
  fun w' g hb hg ch at' hch hat=>of_alone k a b m kh kw sh sw tp lf bt rt wa lw cw ba lb bc sm ss um us z p lo hi h w c H V C s hk zs bs w' (hZ.below hb) (hB.below hb) hlw hlb g hg ch at' hch hat
 have HLu:Hid (∀ (w':World) (base:Nat) (v:Value) (ch at':Int),Below W.heap.size W w'→(1≤ch∧ch≤C)→OTm w' base v (siL k kh kw sh sw tp lf bt rt h w c ch at' zs)→∀ (P Q:Nat),W.heap.size≤P→W.heap.size≤Q→P≠Q→P<base→Q<base→∀ (us' vs:List Int),us'.length=LN→vs.length=LN→Bk .i16 106 w' P us'→Bk .i8 72 w' Q vs →
   Calls Tryz.prog 62 #[.pointer (some ⟨r,0,none⟩),v,Sl ad n cap,Sl (some ⟨P,0,none⟩) LN LN,Sl (some ⟨Q,0,none⟩) LN LN] w' fun e w''=>(∃ u,e=.returned u)∧Mv w' w'' P Q∧Bk .i16 106 w'' P ((siL k kh kw sh sw tp lf bt rt h w c ch at' zs).map Prod.fst)∧Bk .i8 72 w'' Q ((siL k kh kw sh sw tp lf bt rt h w c ch at' zs).map (nmT p xs))) :=
  fun w' base v ch at' hb hch hT P Q h1 h2 h3 h4 h5 us' vs hu hv hP hQ=>by
   obtain⟨f1,f2⟩:=siL_facts hsit hZ.2.2.2.1 hch at'
   rw [← hn] at f2
   exact lineup_any k a b m kh kw sh sw tp lf bt rt wa lw cw ba lb bc sm ss um us z p lo hi h w c H V C ln pn r W w' hr hb base v _ hT ad n cap xs hX hp8 LN (hTLn ch at') (by omega) f2 P Q h1 h2 h3 h4 h5 us' vs hu hv hP hQ
 have HDt:Hid (∀ (w':World) (ch at':Int) (i:Nat) (q:Pl),(1≤ch∧ch≤C)→ch=(i:Int)+1→PS[i]? = some q→∀ (P Q:Nat),Bk .i16 106 w' P ((siL k kh kw sh sw tp lf bt rt h w c ch at' zs).map Prod.fst)→Bk .i8 72 w' Q ((siL k kh kw sh sw tp lf bt rt h w c ch at' zs).map (nmT p xs)) →
   Calls Tryz.prog 63 #[Sl (some ⟨P,0,none⟩) LN LN,Sl (some ⟨Q,0,none⟩) LN LN,U i6 q.1,U i6 q.2.1,.int .i32 (biA k ch bs)] w' fun e w''=>e=.returned (.tuple #[.int .i32 (dsF k kh kw sh sw tp lf bt rt h w c C p zs bs xs PS ch at').2.2,.agg (Tr.of (dsF k kh kw sh sw tp lf bt rt h w c C p zs bs xs PS ch at').1 (dsF k kh kw sh sw tp lf bt rt h w c C p zs bs xs PS ch at').2.1).cs,U i6 0])∧Below w'.heap.size w' w'') :=
  fun w' ch at' i q hch hi hq P Q hP hQ=>by
   obtain⟨f1,f2⟩:=siL_facts hsit hZ.2.2.2.1 hch at'
   have hil:i<PS.length:=(List.getElem?_eq_some_iff.1 hq).1
   have hgd:PS.getD i (0,0,0,0,0,0)=q:=by rw [List.getD_eq_getElem?_getD,hq];rfl
   have hpc:pcA PS ch=q:=by unfold pcA;rw [hi,show ((i:Int)+1-1).toNat=i by omega,hgd]
   have hE:=hok.2 i hil
   rw [hgd] at hE
   refine ldot_ok _ _ LN LN LN q.1 q.2.1 (biA k ch bs) _ _ w' (by omega) (bk_row hP (fun v hv=>?_) (by rw [List.length_map];exact hTLn ch at') (by omega)) (bk_row hQ (fun v hv=>?_) (by rw [List.length_map];exact hTLn ch at') (by omega)) (rfE_of (by omega) hE) (biA_bd hB.2.2.2.1) _ ?_
   ·obtain⟨t,ht,rfl⟩:=List.mem_map.1 hv
    exact mk_i16 (f2 t ht).1
   ·obtain⟨t,ht,rfl⟩:=List.mem_map.1 hv
    exact mk_i8 (nmT_i8 hp8 hX.i8 t)
   ·rw [pz_sm];unfold dsF;rw [hpc]
 have HFb:Hid (∀ ch at':Int,(1≤ch∧ch≤C)→((dsF k kh kw sh sw tp lf bt rt h w c C p zs bs xs PS ch at').1.ok 512∧(dsF k kh kw sh sw tp lf bt rt h w c C p zs bs xs PS ch at').2.1.ok 512)∧(-2147483648≤(dsF k kh kw sh sw tp lf bt rt h w c C p zs bs xs PS ch at').2.2∧(dsF k kh kw sh sw tp lf bt rt h w c C p zs bs xs PS ch at').2.2≤2147483647)):=fun ch at' hch=>dsF_ok hsit hZ.2.2.2.1 hB.2.2.2.1 hch at'
 have HTb:Hid (∀ j:Nat,(dsT k kh kw sh sw tp lf bt rt h w c C p zs bs xs PS j).ok (512*j)):=fun j=>dsT_ok hsit hZ.2.2.2.1 hB.2.2.2.1 j
 have HBi:Hid (∀ ch,-2147483648≤biA k ch bs∧biA k ch bs≤2147483647):=fun ch=>biA_bd hB.2.2.2.1
 have HPS:Hid (ERow 6 pcs W pa pl pc PS):=hPS
 have hpl:(pl:Int)=C:=by rw [← hPS.1];exact hok.1
 have hpc:=hPS.2.1
 have hpm:=hPS.2.2.1
 have hTL2:Hid (∀ ch at',(siL k kh kw sh sw tp lf bt rt h w c ch at' zs).length=LN):=hTLn
 obtain⟨hH,hV,hC,-⟩:=vS_yes s.hB
 have p3:=vS_bd s.hB
 unfold maxLen at hpm
 clear hr hZ hB hX hn s hlw hlb hp8 hPS hok hsit hTLn
 obtain⟨CN,rfl⟩:∃ CN:Nat,C=(CN:Int):=⟨C.toNat,by omega⟩
 obtain rfl:pl=CN:=by omega
 obtain⟨PP,hPP⟩:∃ P:Nat,H*V=(P:Int):=⟨(H*V).toNat,by omega⟩
 rw [hPP] at HP HOf p3 ⊢
 obtain⟨N,hN⟩:∃ N:Nat,(PP:Int)*(pl:Int)=(N:Int):=⟨PP*pl,by rw [Int.natCast_mul]⟩
 have HNN:Hid (PP*pl=N):=by
  have:((PP*pl:Nat):Int)=(N:Int):=by rw [Int.natCast_mul];exact hN
  unfold Hid;omega
 rw [hN] at HP p3 ⊢
 rw [Int.toNat_natCast]
 subst hln
 clear hN hLN hpl
 have s0:=(St.start W).new (c:=Tr.z.cs) (t:=32)
 simp only [Tr.cs,Tr.z] at s0
 have S0:Hid (St W _ _):=s0
 clear s0
 obtain⟨c1,f1,z1⟩:=cells_at HR.out
 go_enter Tryz.func35,Tryz.ntmps35
 go_wp2_with fail
 refine (HAl.out _ S0.out.below).mono ?_
 rintro e w1 ⟨g,rfl,hgc,hgb,hb1⟩
 have S1:Hid (St W w1 _):=((S0.out.call hb1).ad hgc (by have:=S0.out.size;simp only [World.size_alloc] at hgb ⊢;omega))
 clear hb1 hgc c1 f1 HAl
 go_upto_region 2 with fail
 obtain⟨mb,hmb⟩:∃ mb,w1.heap.size=mb:=⟨_,rfl⟩
 have s2:=(S1.out.new (c:=#[U i6 h,U i6 w,U i6 c,U i6 0,U i6 0,Sl (some ⟨g,0,none⟩) 1 1,U i6 0]) (t:=26)).new (c:=#[U i6 0,U i6 0,U i6 0,U i6 0,U i6 0,U i6 0,U i6 0,U i6 0,U i6 0]) (t:=32)
 have hgm:g<mb:=by rw [← hmb];exact lt_of_heap S1.out.h1
 have hWm:W.heap.size<mb:=by rw [← hmb];exact lt_of_heap S1.out.h2
 simp only [World.size_alloc] at s2
 rw [hmb] at s2 ⊢
 obtain⟨w2,hw2⟩:∃ w2,(w1.alloc (.cells #[U i6 h,U i6 w,U i6 c,U i6 0,U i6 0,Sl (some ⟨g,0,none⟩) 1 1,U i6 0] 26)).alloc (.cells #[U i6 0,U i6 0,U i6 0,U i6 0,U i6 0,U i6 0,U i6 0,U i6 0,U i6 0] 32)=w2:=⟨_,rfl⟩
 rw [hw2] at s2 ⊢
 have S2:Hid (St W w2 ((mb+1,#[U i6 0,U i6 0,U i6 0,U i6 0,U i6 0,U i6 0,U i6 0,U i6 0,U i6 0],32) :: [(mb,#[U i6 h,U i6 w,U i6 c,U i6 0,U i6 0,Sl (some ⟨g,0,none⟩) 1 1,U i6 0],26),(g,#[U i6 k,U i6 0,U i6 b,U i6 m,U i6 kh,U i6 kw,U i6 sh,U i6 sw,U i6 tp,U i6 lf,U i6 bt,U i6 rt,Sl wa lw cw,Sl ba lb bc,U i6 sm,U i6 ss,U i6 um,U i6 us,U i6 z,U i6 p,U i6 lo,U i6 hi],55),(W.heap.size,#[U i6 0,U i6 0,U i6 0,U i6 0,U i6 0,U i6 0,U i6 0,U i6 0,U i6 0],32)])):=s2
 clear hmb hw2 s2 S1
 obtain⟨c1,f1,z1⟩:=cells_at ((S2.out.below.block r hrz).trans HR.out)
 go_wp2_with fail
 refine (HP.out _).mono ?_
 rintro e w3 ⟨rfl,hb3⟩
 have S3:Hid (St W w3 ((mb+1,#[U i6 0,U i6 0,U i6 0,U i6 0,U i6 0,U i6 0,U i6 0,U i6 0,U i6 0],32) :: [(mb,#[U i6 h,U i6 w,U i6 c,U i6 0,U i6 0,Sl (some ⟨g,0,none⟩) 1 1,U i6 0],26),(g,#[U i6 k,U i6 0,U i6 b,U i6 m,U i6 kh,U i6 kw,U i6 sh,U i6 sw,U i6 tp,U i6 lf,U i6 bt,U i6 rt,Sl wa lw cw,Sl ba lb bc,U i6 sm,U i6 ss,U i6 um,U i6 us,U i6 z,U i6 p,U i6 lo,U i6 hi],55),(W.heap.size,#[U i6 0,U i6 0,U i6 0,U i6 0,U i6 0,U i6 0,U i6 0,U i6 0,U i6 0],32)])):=S2.out.call hb3
 clear S2 hb3 c1 f1 z1 HP
 obtain⟨c1,f1,z1⟩:=cells_at ((S3.out.below.block r hrz).trans HR.out)
 go_upto_region 3 with (at_make;refine wpList_mk0 kt_i64 rfl _ _ rfl N _ rfl rfl rfl (by omega) W.heap.size S3.out.size ?_;intro v4 w4 own4 hb4;have S4:Hid (St W w4 ((mb+1,#[U i6 0,U i6 0,U i6 0,U i6 0,U i6 0,U i6 0,U i6 0,U i6 0,U i6 0],32) :: [(mb,#[U i6 h,U i6 w,U i6 c,U i6 0,U i6 0,Sl (some ⟨g,0,none⟩) 1 1,U i6 0],26),(g,#[U i6 k,U i6 0,U i6 b,U i6 m,U i6 kh,U i6 kw,U i6 sh,U i6 sw,U i6 tp,U i6 lf,U i6 bt,U i6 rt,Sl wa lw cw,Sl ba lb bc,U i6 sm,U i6 ss,U i6 um,U i6 us,U i6 z,U i6 p,U i6 lo,U i6 hi],55),(W.heap.size,#[U i6 0,U i6 0,U i6 0,U i6 0,U i6 0,U i6 0,U i6 0,U i6 0,U i6 0],32)])):=S3.out.call hb4;have O4:Hid (Own .i64 2 w4 W.heap.size v4 []):=own4;clear own4 hb4 S3 c1 f1 z1)
 obtain⟨c1,f1,z1⟩:=cells_at ((S4.out.below.block r hrz).trans HR.out)
 have hm1:=run_mak kt_i16 LN (by omega)
 have hm2:=run_mak kt_i8 LN (by omega)
 go_cut [11,12] from 31 to 40 (fun x y wx=>∃ P Q:Nat,x=.slice (some ⟨P,0,none⟩) LN LN∧y=.slice (some ⟨Q,0,none⟩) LN LN∧Below w4.heap.size w4 wx∧w4.heap.size≤P∧w4.heap.size≤Q∧P≠Q∧P<wx.heap.size∧Q<wx.heap.size∧Bk .i16 106 wx P (List.replicate LN 0)∧Bk .i8 72 wx Q (List.replicate LN 0))
 case first =>
  go_region_law (fail)
  all_goals
   refine (show ∀ a' w',Met _ a' w'→_ from by assumption) _ _ ?_
   go_meet
   first
    | (obtain⟨q1,q2,q3,q4⟩:=two_blk (k1:=.i16) (k2:=.i8) (T1:=106) (T2:=72) w4 LN _ rfl
       exact⟨_,_,rfl,rfl,q1,Nat.le_refl _,Nat.le_succ _,by omega,by rw [q4];omega,by rw [q4];omega,q2,q3⟩)
    | (obtain⟨q1,q2,q3,q4⟩:=two_blk (k1:=.i8) (k2:=.i16) (T1:=72) (T2:=106) w4 LN _ rfl
       exact⟨_,_,rfl,rfl,q1,Nat.le_succ _,Nat.le_refl _,by omega,by rw [q4];omega,by rw [q4];omega,q3,q2⟩)
 case rest =>
 obtain⟨P,Q,rfl,rfl,hb5,hwP,hwQ,hPQ,hPl,hQl,hBP,hBQ⟩:=hcut
 have S5:Hid (St W wc ((mb+1,#[U i6 0,U i6 0,U i6 0,U i6 0,U i6 0,U i6 0,U i6 0,U i6 0,U i6 0],32) :: [(mb,#[U i6 h,U i6 w,U i6 c,U i6 0,U i6 0,Sl (some ⟨g,0,none⟩) 1 1,U i6 0],26),(g,#[U i6 k,U i6 0,U i6 b,U i6 m,U i6 kh,U i6 kw,U i6 sh,U i6 sw,U i6 tp,U i6 lf,U i6 bt,U i6 rt,Sl wa lw cw,Sl ba lb bc,U i6 sm,U i6 ss,U i6 um,U i6 us,U i6 z,U i6 p,U i6 lo,U i6 hi],55),(W.heap.size,#[U i6 0,U i6 0,U i6 0,U i6 0,U i6 0,U i6 0,U i6 0,U i6 0,U i6 0],32)])):=S4.out.call hb5
 have O5:Hid (Own .i64 2 wc W.heap.size v4 []):=O4.out.below hb5
 have hm4:mb+1<w4.heap.size:=lt_of_heap S4.out.h1
 have hWP:W.heap.size≤P:=by omega
 have hWQ:W.heap.size≤Q:=by omega
 have hPm:mb+1<P:=by omega
 have hQm:mb+1<Q:=by omega
 have HBP:Hid (Bk .i16 106 wc P (List.replicate LN 0)):=hBP
 have HBQ:Hid (Bk .i8 72 wc Q (List.replicate LN 0)):=hBQ
 clear hb5 hBP hBQ S4 O4 c1 f1 z1 hm1 hm2 hwP hwQ hm4 hPl hQl
 obtain⟨c1,f1,z1⟩:=cells_at ((S5.out.below.block r hrz).trans HR.out)
 go_upto_region 4 with fail
 go_quiet (fail)
 have S6:Hid (St W (wc.drewN nq) ((mb+1,#[U i6 0,U i6 0,U i6 0,U i6 0,U i6 0,U i6 0,U i6 0,U i6 0,U i6 0],32) :: [(mb,#[U i6 h,U i6 w,U i6 c,U i6 0,U i6 0,Sl (some ⟨g,0,none⟩) 1 1,U i6 0],26),(g,#[U i6 k,U i6 0,U i6 b,U i6 m,U i6 kh,U i6 kw,U i6 sh,U i6 sw,U i6 tp,U i6 lf,U i6 bt,U i6 rt,Sl wa lw cw,Sl ba lb bc,U i6 sm,U i6 ss,U i6 um,U i6 us,U i6 z,U i6 p,U i6 lo,U i6 hi],55),(W.heap.size,#[U i6 0,U i6 0,U i6 0,U i6 0,U i6 0,U i6 0,U i6 0,U i6 0,U i6 0],32)])):=S5.out.call (dbel _ _)
 have O6:Hid (Own .i64 2 (wc.drewN nq) W.heap.size v4 []):=O5.out.below (dbel _ _)
 have P6:Hid (Bk .i16 106 (wc.drewN nq) P (List.replicate LN 0)):=HBP.out.below (dbel _ _)
 have Q6:Hid (Bk .i8 72 (wc.drewN nq) Q (List.replicate LN 0)):=HBQ.out.below (dbel _ _)
 obtain⟨w6,hw6⟩:∃ w6,wc.drewN nq=w6:=⟨_,rfl⟩
 rw [hw6] at S6 O6 P6 Q6 ⊢
 clear hw6 S5 O5 HBP HBQ c1 f1 z1
 go_wp2
 go_loopw [10,52] (fun v i wr=>∃ (y:Nat) (v1:Value),v1=v∧y≤PP∧i=U i6 y∧Own .i64 2 wr W.heap.size v (dsL k kh kw sh sw tp lf bt rt h w c (pl:Int) p zs bs xs PS (y*pl))∧St W wr ((mb+1,(dsT k kh kw sh sw tp lf bt rt h w c (pl:Int) p zs bs xs PS (y*pl)).cs,32) :: [(mb,#[U i6 h,U i6 w,U i6 c,U i6 0,U i6 0,Sl (some ⟨g,0,none⟩) 1 1,U i6 0],26),(g,#[U i6 k,U i6 0,U i6 b,U i6 m,U i6 kh,U i6 kw,U i6 sh,U i6 sw,U i6 tp,U i6 lf,U i6 bt,U i6 rt,Sl wa lw cw,Sl ba lb bc,U i6 sm,U i6 ss,U i6 um,U i6 us,U i6 z,U i6 p,U i6 lo,U i6 hi],55),(W.heap.size,#[U i6 0,U i6 0,U i6 0,U i6 0,U i6 0,U i6 0,U i6 0,U i6 0,U i6 0],32)])∧(∃ us' vs:List Int,us'.length=LN∧vs.length=LN∧Bk .i16 106 wr P us'∧Bk .i8 72 wr Q vs)) (fun _ i _=>PP-(intOf i).toNat)
 case atStart=>exact⟨0,_,rfl,Nat.zero_le _,rfl,by simpa [dsL] using O6.out,by simpa [dsT,Tr.cs,Tr.z] using S6.out,_,_,by simp,by simp,P6.out,Q6.out⟩
 case round =>
  obtain⟨y,v1,rfl,hy,rfl,hO,sr,us',vs,hul,hvl,hBP,hBQ⟩:=hrel
  clear S6 O6 P6 Q6
  have HO:Hid (Own .i64 2 wr W.heap.size v1 (dsL k kh kw sh sw tp lf bt rt h w c (pl:Int) p zs bs xs PS (y*pl))):=hO
  have SR:Hid (St W wr ((mb+1,(dsT k kh kw sh sw tp lf bt rt h w c (pl:Int) p zs bs xs PS (y*pl)).cs,32) :: [(mb,#[U i6 h,U i6 w,U i6 c,U i6 0,U i6 0,Sl (some ⟨g,0,none⟩) 1 1,U i6 0],26),(g,#[U i6 k,U i6 0,U i6 b,U i6 m,U i6 kh,U i6 kw,U i6 sh,U i6 sw,U i6 tp,U i6 lf,U i6 bt,U i6 rt,Sl wa lw cw,Sl ba lb bc,U i6 sm,U i6 ss,U i6 um,U i6 us,U i6 z,U i6 p,U i6 lo,U i6 hi],55),(W.heap.size,#[U i6 0,U i6 0,U i6 0,U i6 0,U i6 0,U i6 0,U i6 0,U i6 0,U i6 0],32)])):=sr
  have HBP:Hid (Bk .i16 106 wr P us'):=hBP
  have HBQ:Hid (Bk .i8 72 wr Q vs):=hBQ
  clear hO sr hBP hBQ
  by_cases hlt:y<PP
  ·go_wp2
   go_loopw [10,57] (fun v i wr=>∃ (d:Nat) (v2:Value),v2=v∧d≤pl∧i=U i6 (d:Int)∧Own .i64 2 wr W.heap.size v (dsL k kh kw sh sw tp lf bt rt h w c (pl:Int) p zs bs xs PS (y*pl+d))∧St W wr ((mb+1,(dsT k kh kw sh sw tp lf bt rt h w c (pl:Int) p zs bs xs PS (y*pl+d)).cs,32) :: [(mb,#[U i6 h,U i6 w,U i6 c,U i6 0,U i6 0,Sl (some ⟨g,0,none⟩) 1 1,U i6 0],26),(g,#[U i6 k,U i6 0,U i6 b,U i6 m,U i6 kh,U i6 kw,U i6 sh,U i6 sw,U i6 tp,U i6 lf,U i6 bt,U i6 rt,Sl wa lw cw,Sl ba lb bc,U i6 sm,U i6 ss,U i6 um,U i6 us,U i6 z,U i6 p,U i6 lo,U i6 hi],55),(W.heap.size,#[U i6 0,U i6 0,U i6 0,U i6 0,U i6 0,U i6 0,U i6 0,U i6 0,U i6 0],32)])∧(∃ us' vs:List Int,us'.length=LN∧vs.length=LN∧Bk .i16 106 wr P us'∧Bk .i8 72 wr Q vs)) (fun _ i _=>pl-(intOf i).toNat)
   case atStart=>exact⟨0,_,rfl,Nat.zero_le _,rfl,HO.out,SR.out,_,_,hul,hvl,HBP.out,HBQ.out⟩
   case round =>
    clear hul hvl HO SR HBP HBQ us' vs
    obtain⟨d,v2,rfl,hd,rfl,hO,sr,us',vs,hul,hvl,hBP,hBQ⟩:=hrel
    have HO:Hid (Own .i64 2 wr W.heap.size v2 (dsL k kh kw sh sw tp lf bt rt h w c (pl:Int) p zs bs xs PS (y*pl+d))):=hO
    have HBP:Hid (Bk .i16 106 wr P us'):=hBP
    have HBQ:Hid (Bk .i8 72 wr Q vs):=hBQ
    have HUL:Hid (us'.length=LN):=hul
    have HVL:Hid (vs.length=LN):=hvl
    clear hO hBP hBQ hul hvl
    by_cases hltd:d<pl
    ·
     have hch:1≤(d:Int)+1∧(d:Int)+1≤(pl:Int):=by omega
     obtain⟨x,q,rfl,hq,-,hcq⟩:=(HPS.out.below sr.below).at hltd
     have hcell:Hid (∀ j v,(pcs q)[j]? = some v→wr.cell? ((x.add (d*6)).add j)=some v):=hcq
     have HS:=dsL_succ k kh kw sh sw tp lf bt rt h w c (pl:Int) p zs bs xs PS (y*pl+d)
     have HT:=dsT_succ k kh kw sh sw tp lf bt rt h w c (pl:Int) p zs bs xs PS (y*pl+d)
     obtain⟨e1,e2⟩:=divmod_at (C:=(pl:Int)) (q:=y) (d:=d) (by omega)
     rw [Int.natCast_add,Int.natCast_mul,e1,e2] at HS HT
     obtain⟨⟨b1,b2⟩,b3⟩:=HFb.out ((d:Int)+1) (y:Int) hch
     have hok0:=HTb.out (y*pl+d)
     have hok1:=HTb.out (y*pl+d+1)
     have hkk:=Tr.ok_of b1 b2
     have HLn:Hid (y*pl+d+1≤16384):=by
      unfold Hid
      have q1:(y+1)*pl≤PP*pl:=Nat.mul_le_mul_right _ hlt
      rw [HNN.out,Nat.add_mul] at q1
      omega
     have HC1:Hid (∀ (w':World),Below W.heap.size W w'→w'.heap[g]? = some (.cells #[U i6 k,U i6 0,U i6 b,U i6 m,U i6 kh,U i6 kw,U i6 sh,U i6 sw,U i6 tp,U i6 lf,U i6 bt,U i6 rt,Sl wa lw cw,Sl ba lb bc,U i6 sm,U i6 ss,U i6 um,U i6 us,U i6 z,U i6 p,U i6 lo,U i6 hi] 55 (0,0))→_):=fun w' hb hg=>HOf.out w' g hb hg ((d:Int)+1) y hch ⟨by omega,by omega⟩
     have HC2:Hid (∀ (w':World) (base:Nat) (v:Value) (hb:Below W.heap.size W w') (hT:OTm w' base v _) (hPb:P<base) (hQb:Q<base) (us' vs:List Int) (hu:us'.length=LN) (hv:vs.length=LN) (h1:Bk .i16 106 w' P us') (h2:Bk .i8 72 w' Q vs),_):=fun w' base v hb hT hPb hQb us' vs hu hv h1 h2=>HLu.out w' base v ((d:Int)+1) y hb hch hT P Q hWP hWQ hPQ hPb hQb us' vs hu hv h1 h2
     have HC3:Hid (∀ (w':World) (h1:Bk .i16 106 w' P _) (h2:Bk .i8 72 w' Q _),_):=fun w' h1 h2=>HDt.out w' ((d:Int)+1) y d q hch rfl hq P Q h1 h2
     have hbi:=HBi.out ((d:Int)+1)
     have hTL2:=hTL2.out ((d:Int)+1) y
     obtain⟨F,hF⟩:∃ F,dsF k kh kw sh sw tp lf bt rt h w c (pl:Int) p zs bs xs PS ((d:Int)+1) (y:Int)=F:=⟨_,rfl⟩
     obtain⟨TL,hTL⟩:∃ TL,siL k kh kw sh sw tp lf bt rt h w c ((d:Int)+1) (y:Int) zs=TL:=⟨_,rfl⟩
     obtain⟨bi,hbie⟩:∃ bi,biA k ((d:Int)+1) bs=bi:=⟨_,rfl⟩
     rw [hF] at HS HT HC3 b3 hkk
     rw [hTL] at HC1 HC2 HC3 hTL2
     rw [hbie] at HC1 HC3 hbi
     clear hF hTL hbie b1 b2 e1 e2
     obtain⟨F0,F1,R⟩:=F
     obtain⟨p1,p2,p3,p4,p5,p6⟩:=q
     simp only [pcs] at HS HT HC3 b3 hkk hcell
     obtain⟨T0,hT0⟩:∃ T0,dsT k kh kw sh sw tp lf bt rt h w c (pl:Int) p zs bs xs PS (y*pl+d)=T0:=⟨_,rfl⟩
     obtain⟨TK,hTK⟩:∃ TK,Tr.of F0 F1=TK:=⟨_,rfl⟩
     obtain⟨T1,hT1⟩:∃ T1,T0.jn TK=T1:=⟨_,rfl⟩
     rw [hT0] at HT hok0 sr
     rw [hTK] at HT hkk HC3
     rw [hT1] at HT
     have HJ:Hid (∀ W,Calls Tryz.prog 64 #[.agg T0.cs,.agg TK.cs] W fun e w'=>e=.returned (.agg T1.cs)∧Below W.heap.size W w'):=fun W=>by
      have hl:=HLn.out
      rw [← hT1]
      exact ljoin_tr T0 TK W (hok0.mono (by unfold TB;omega)) (hkk.mono (by unfold TB;omega))
     have HTT:Hid ((dsT k kh kw sh sw tp lf bt rt h w c (pl:Int) p zs bs xs PS (y*pl+d+1)).cs=T1.cs):=congrArg Tr.cs HT
     have HSS:Hid (dsL k kh kw sh sw tp lf bt rt h w c (pl:Int) p zs bs xs PS (y*pl+d+1)=dsL k kh kw sh sw tp lf bt rt h w c (pl:Int) p zs bs xs PS (y*pl+d)++[R]):=HS
     clear hT0 hTK hT1 HT HS hok0 hok1 hkk hcq hch hq
     obtain⟨a1,a2,a3,a4,a5,a6,a7,a8,a9⟩:=T0
     obtain⟨k1,k2,k3,k4,k5,k6,k7,k8,k9⟩:=TK
     obtain⟨j1,j2,j3,j4,j5,j6,j7,j8,j9⟩:=T1
     simp only [Tr.cs] at HJ HC3 sr HTT
     have sb:=sr.new (c:=#[U i6 p1,U i6 p2,U i6 p3,U i6 p4,U i6 p5,U i6 p6]) (t:=63)
     have hPw:=lt_of_heap HBP.out
     have hQw:=lt_of_heap HBQ.out
     obtain⟨c1,f1,z1,-⟩:=sr.rules
     have SB:Hid (St W _ _):=sb
     clear sr sb
     have hwb:IntKind.i32.wrap bi=bi:=by simp [IntKind.wrap,IntKind.bits,IntKind.signed];omega
     go_upto_region 10 with (first
      | (refine wpList_load_any rfl 63 (.tmp 60) rfl _ rfl [U i6 p1,U i6 p2,U i6 p3,U i6 p4,U i6 p5,U i6 p6] _ hcell.out Tryz.underlying63 rfl (by kernel_rfl) ?_)
      | (refine wpList_st_new rfl 63 (.tmp 15) (.tmp 61) rfl wr _ #[U i6 p1,U i6 p2,U i6 p3,U i6 p4,U i6 p5,U i6 p6] rfl rfl (by kernel_rfl) rfl (by simp [Value.oneCell']) ?_))
     have hbw:=bal wr (.cells #[U i6 p1,U i6 p2,U i6 p3,U i6 p4,U i6 p5,U i6 p6] 63)
     have P7:Hid (Bk .i16 106 (wr.alloc (.cells #[U i6 p1,U i6 p2,U i6 p3,U i6 p4,U i6 p5,U i6 p6] 63)) P us'):=HBP.out.below hbw
     have Q7:Hid (Bk .i8 72 (wr.alloc (.cells #[U i6 p1,U i6 p2,U i6 p3,U i6 p4,U i6 p5,U i6 p6] 63)) Q vs):=HBQ.out.below hbw
     have O7:Hid (Own .i64 2 (wr.alloc (.cells #[U i6 p1,U i6 p2,U i6 p3,U i6 p4,U i6 p5,U i6 p6] 63)) W.heap.size v2 (dsL k kh kw sh sw tp lf bt rt h w c (pl:Int) p zs bs xs PS (y*pl+d))):=HO.out.below hbw
     have hz7:(wr.alloc (.cells #[U i6 p1,U i6 p2,U i6 p3,U i6 p4,U i6 p5,U i6 p6] 63)).heap.size=wr.heap.size+1:=by simp
     obtain⟨pb,hpb⟩:∃ pb,wr.heap.size=pb:=⟨_,rfl⟩
     obtain⟨w7,hw7⟩:∃ w7,wr.alloc (.cells #[U i6 p1,U i6 p2,U i6 p3,U i6 p4,U i6 p5,U i6 p6] 63)=w7:=⟨_,rfl⟩
     rw [hw7,hpb] at SB hz7
     rw [hw7] at P7 Q7 O7
     rw [hw7,hpb]
     rw [hpb] at hPw hQw
     have S7:Hid (St W w7 ((pb,#[U i6 p1,U i6 p2,U i6 p3,U i6 p4,U i6 p5,U i6 p6],63) :: (mb+1,#[U i6 a1,U i6 a2,U i6 a3,U i6 a4,U i6 a5,U i6 a6,U i6 a7,U i6 a8,U i6 a9],32) :: [(mb,#[U i6 h,U i6 w,U i6 c,U i6 0,U i6 0,Sl (some ⟨g,0,none⟩) 1 1,U i6 0],26),(g,#[U i6 k,U i6 0,U i6 b,U i6 m,U i6 kh,U i6 kw,U i6 sh,U i6 sw,U i6 tp,U i6 lf,U i6 bt,U i6 rt,Sl wa lw cw,Sl ba lb bc,U i6 sm,U i6 ss,U i6 um,U i6 us,U i6 z,U i6 p,U i6 lo,U i6 hi],55),(W.heap.size,#[U i6 0,U i6 0,U i6 0,U i6 0,U i6 0,U i6 0,U i6 0,U i6 0,U i6 0],32)])):=SB
     clear hw7 hpb SB HBP HBQ HO hbw c1 f1 z1 hcell
     obtain⟨c1,f1,z1,c2,f2,z2,c3,f3,z3,c4,f4,z4,c5,f5,z5,-⟩:=S7.out.rules
     go_wp2_with fail
     refine (HC1.out _ S7.out.below S7.out.h4).mono ?_
     rintro e w8 ⟨⟨v,rfl,hOT⟩,hb8⟩
     have S8:Hid (St W w8 ((pb,#[U i6 p1,U i6 p2,U i6 p3,U i6 p4,U i6 p5,U i6 p6],63) :: (mb+1,#[U i6 a1,U i6 a2,U i6 a3,U i6 a4,U i6 a5,U i6 a6,U i6 a7,U i6 a8,U i6 a9],32) :: [(mb,#[U i6 h,U i6 w,U i6 c,U i6 0,U i6 0,Sl (some ⟨g,0,none⟩) 1 1,U i6 0],26),(g,#[U i6 k,U i6 0,U i6 b,U i6 m,U i6 kh,U i6 kw,U i6 sh,U i6 sw,U i6 tp,U i6 lf,U i6 bt,U i6 rt,Sl wa lw cw,Sl ba lb bc,U i6 sm,U i6 ss,U i6 um,U i6 us,U i6 z,U i6 p,U i6 lo,U i6 hi],55),(W.heap.size,#[U i6 0,U i6 0,U i6 0,U i6 0,U i6 0,U i6 0,U i6 0,U i6 0,U i6 0],32)])):=S7.out.call hb8
     have O8:Hid (Own .i64 2 w8 W.heap.size v2 (dsL k kh kw sh sw tp lf bt rt h w c (pl:Int) p zs bs xs PS (y*pl+d))):=O7.out.below hb8
     have P8:Hid (Bk .i16 106 w8 P us'):=P7.out.below hb8
     have Q8:Hid (Bk .i8 72 w8 Q vs):=Q7.out.below hb8
     have HOT:Hid (OTm w8 w7.heap.size v TL):=hOT
     clear hOT hb8 S7 O7 P7 Q7 c1 f1 z1 c2 f2 z2 c3 f3 z3 c4 f4 z4 c5 f5 z5 HC1
     go_wp2_with fail
     refine (HC2.out _ w7.heap.size v S8.out.below HOT.out (by omega) (by omega) us' vs HUL.out HVL.out P8.out Q8.out).mono ?_
     rintro e w9 ⟨⟨u,rfl⟩,hM,hP9,hQ9⟩
     have S9:Hid (St W w9 ((pb,#[U i6 p1,U i6 p2,U i6 p3,U i6 p4,U i6 p5,U i6 p6],63) :: (mb+1,#[U i6 a1,U i6 a2,U i6 a3,U i6 a4,U i6 a5,U i6 a6,U i6 a7,U i6 a8,U i6 a9],32) :: [(mb,#[U i6 h,U i6 w,U i6 c,U i6 0,U i6 0,Sl (some ⟨g,0,none⟩) 1 1,U i6 0],26),(g,#[U i6 k,U i6 0,U i6 b,U i6 m,U i6 kh,U i6 kw,U i6 sh,U i6 sw,U i6 tp,U i6 lf,U i6 bt,U i6 rt,Sl wa lw cw,Sl ba lb bc,U i6 sm,U i6 ss,U i6 um,U i6 us,U i6 z,U i6 p,U i6 lo,U i6 hi],55),(W.heap.size,#[U i6 0,U i6 0,U i6 0,U i6 0,U i6 0,U i6 0,U i6 0,U i6 0,U i6 0],32)])):=st_mv S8.out hM hWP hWQ (by
      intro z hz
      simp only [List.mem_cons,List.not_mem_nil,or_false] at hz
      rcases hz with rfl | rfl | rfl | rfl | rfl<;>simp only<;>omega)
     have O9:Hid (Own .i64 2 w9 W.heap.size v2 (dsL k kh kw sh sw tp lf bt rt h w c (pl:Int) p zs bs xs PS (y*pl+d))):=own_mv O8.out hM (own_ne O8.out.1 P8.out (by decide)) (own_ne O8.out.1 Q8.out (by decide))
     have P9:Hid (Bk .i16 106 w9 P _):=hP9
     have Q9:Hid (Bk .i8 72 w9 Q _):=hQ9
     clear hM hP9 hQ9 S8 O8 P8 Q8 HOT HC2 HUL HVL us' vs
     obtain⟨c1,f1,z1,c2,f2,z2,-⟩:=S9.out.rules
     go_wp2_with fail
     refine (HC3.out _ P9.out Q9.out).mono ?_
     rintro e w10 ⟨rfl,hb10⟩
     have S10:Hid (St W w10 ((mb+1,#[U i6 a1,U i6 a2,U i6 a3,U i6 a4,U i6 a5,U i6 a6,U i6 a7,U i6 a8,U i6 a9],32) :: [(mb,#[U i6 h,U i6 w,U i6 c,U i6 0,U i6 0,Sl (some ⟨g,0,none⟩) 1 1,U i6 0],26),(g,#[U i6 k,U i6 0,U i6 b,U i6 m,U i6 kh,U i6 kw,U i6 sh,U i6 sw,U i6 tp,U i6 lf,U i6 bt,U i6 rt,Sl wa lw cw,Sl ba lb bc,U i6 sm,U i6 ss,U i6 um,U i6 us,U i6 z,U i6 p,U i6 lo,U i6 hi],55),(W.heap.size,#[U i6 0,U i6 0,U i6 0,U i6 0,U i6 0,U i6 0,U i6 0,U i6 0,U i6 0],32)])):=(S9.out.call hb10).tail
     have O10:Hid (Own .i64 2 w10 W.heap.size v2 (dsL k kh kw sh sw tp lf bt rt h w c (pl:Int) p zs bs xs PS (y*pl+d))):=O9.out.below hb10
     have P10:Hid (Bk .i16 106 w10 P _):=P9.out.below hb10
     have Q10:Hid (Bk .i8 72 w10 Q _):=Q9.out.below hb10
     clear hb10 S9 O9 P9 Q9 HC3 c1 f1 z1 c2 f2 z2 hz7
     go_upto_region 13 with fail
     have s11:=S10.out.new (c:=#[U i6 k1,U i6 k2,U i6 k3,U i6 k4,U i6 k5,U i6 k6,U i6 k7,U i6 k8,U i6 k9]) (t:=32)
     have O11:Hid (Own .i64 2 (w10.alloc (.cells #[U i6 k1,U i6 k2,U i6 k3,U i6 k4,U i6 k5,U i6 k6,U i6 k7,U i6 k8,U i6 k9] 32)) W.heap.size v2 (dsL k kh kw sh sw tp lf bt rt h w c (pl:Int) p zs bs xs PS (y*pl+d))):=O10.out.alloc _
     have P11:Hid (Bk .i16 106 (w10.alloc (.cells #[U i6 k1,U i6 k2,U i6 k3,U i6 k4,U i6 k5,U i6 k6,U i6 k7,U i6 k8,U i6 k9] 32)) P _):=P10.out.below (bal _ _)
     have Q11:Hid (Bk .i8 72 (w10.alloc (.cells #[U i6 k1,U i6 k2,U i6 k3,U i6 k4,U i6 k5,U i6 k6,U i6 k7,U i6 k8,U i6 k9] 32)) Q _):=Q10.out.below (bal _ _)
     have hzk:mb+1<w10.heap.size:=lt_of_heap S10.out.h1
     have hPk:P<w10.heap.size:=lt_of_heap P10.out
     have hQk:Q<w10.heap.size:=lt_of_heap Q10.out
     obtain⟨kb,hkb⟩:∃ kb,w10.heap.size=kb:=⟨_,rfl⟩
     obtain⟨w11,hw11⟩:∃ w11,w10.alloc (.cells #[U i6 k1,U i6 k2,U i6 k3,U i6 k4,U i6 k5,U i6 k6,U i6 k7,U i6 k8,U i6 k9] 32)=w11:=⟨_,rfl⟩
     rw [hw11] at s11 O11 P11 Q11
     rw [hkb] at s11 hzk hPk hQk
     rw [hw11,hkb]
     have S11:Hid (St W w11 ((kb,#[U i6 k1,U i6 k2,U i6 k3,U i6 k4,U i6 k5,U i6 k6,U i6 k7,U i6 k8,U i6 k9],32) :: (mb+1,#[U i6 a1,U i6 a2,U i6 a3,U i6 a4,U i6 a5,U i6 a6,U i6 a7,U i6 a8,U i6 a9],32) :: [(mb,#[U i6 h,U i6 w,U i6 c,U i6 0,U i6 0,Sl (some ⟨g,0,none⟩) 1 1,U i6 0],26),(g,#[U i6 k,U i6 0,U i6 b,U i6 m,U i6 kh,U i6 kw,U i6 sh,U i6 sw,U i6 tp,U i6 lf,U i6 bt,U i6 rt,Sl wa lw cw,Sl ba lb bc,U i6 sm,U i6 ss,U i6 um,U i6 us,U i6 z,U i6 p,U i6 lo,U i6 hi],55),(W.heap.size,#[U i6 0,U i6 0,U i6 0,U i6 0,U i6 0,U i6 0,U i6 0,U i6 0,U i6 0],32)])):=s11
     clear hw11 hkb s11 S10 O10 P10 Q10
     have HRR:Hid ((Lit.int .i64 R).wf=true):=mk_i64 (by omega)
     have hwR:IntKind.i64.wrap R=R:=w64 (by omega)
     obtain⟨c1,f1,z1,c2,f2,z2,-⟩:=S11.out.rules
     have S12:Hid (St W (w11.alloc (.cells #[U i6 R] 2)).drew ((kb,#[U i6 k1,U i6 k2,U i6 k3,U i6 k4,U i6 k5,U i6 k6,U i6 k7,U i6 k8,U i6 k9],32) :: (mb+1,#[U i6 a1,U i6 a2,U i6 a3,U i6 a4,U i6 a5,U i6 a6,U i6 a7,U i6 a8,U i6 a9],32) :: [(mb,#[U i6 h,U i6 w,U i6 c,U i6 0,U i6 0,Sl (some ⟨g,0,none⟩) 1 1,U i6 0],26),(g,#[U i6 k,U i6 0,U i6 b,U i6 m,U i6 kh,U i6 kw,U i6 sh,U i6 sw,U i6 tp,U i6 lf,U i6 bt,U i6 rt,Sl wa lw cw,Sl ba lb bc,U i6 sm,U i6 ss,U i6 um,U i6 us,U i6 z,U i6 p,U i6 lo,U i6 hi],55),(W.heap.size,#[U i6 0,U i6 0,U i6 0,U i6 0,U i6 0,U i6 0,U i6 0,U i6 0,U i6 0],32)])):=(S11.out.skip _).drew
     have O12:Hid (Own .i64 2 (w11.alloc (.cells #[U i6 R] 2)).drew W.heap.size v2 (dsL k kh kw sh sw tp lf bt rt h w c (pl:Int) p zs bs xs PS (y*pl+d))):=(O11.out.alloc _).below (Below.refl _ _).drew
     have P12:Hid (Bk .i16 106 (w11.alloc (.cells #[U i6 R] 2)).drew P _):=(P11.out.below (bal _ _)).below (Below.refl _ _).drew
     have Q12:Hid (Bk .i8 72 (w11.alloc (.cells #[U i6 R] 2)).drew Q _):=(Q11.out.below (bal _ _)).below (Below.refl _ _).drew
     have R12:Hid (IRow .i64 (w11.alloc (.cells #[U i6 R] 2)).drew (some ⟨w11.heap.size,0,none⟩) 1 1 [R]):=(row_one .i64 2 w11 R HRR.out).below (Below.refl _ _).drew
     clear O11 P11 Q11
     go_wp2
     go_region_law (first
      | (refine step_ap kt_i64 rfl (.tmp 90) (.tmp 93) rfl W.heap.size v2 (dsL k kh kw sh sw tp lf bt rt h w c (pl:Int) p zs bs xs PS (y*pl+d)) [R] rfl O12.out ⟨w11.heap.size,0,none⟩ 1 1 rfl R12.out (by rw [dsL_len];have:=HLn.out;simp;omega) S12.out.size ?_
         intro v13 w13 own13 gr13
         have S13:Hid (St W w13 ((kb,#[U i6 k1,U i6 k2,U i6 k3,U i6 k4,U i6 k5,U i6 k6,U i6 k7,U i6 k8,U i6 k9],32) :: (mb+1,#[U i6 a1,U i6 a2,U i6 a3,U i6 a4,U i6 a5,U i6 a6,U i6 a7,U i6 a8,U i6 a9],32) :: [(mb,#[U i6 h,U i6 w,U i6 c,U i6 0,U i6 0,Sl (some ⟨g,0,none⟩) 1 1,U i6 0],26),(g,#[U i6 k,U i6 0,U i6 b,U i6 m,U i6 kh,U i6 kw,U i6 sh,U i6 sw,U i6 tp,U i6 lf,U i6 bt,U i6 rt,Sl wa lw cw,Sl ba lb bc,U i6 sm,U i6 ss,U i6 um,U i6 us,U i6 z,U i6 p,U i6 lo,U i6 hi],55),(W.heap.size,#[U i6 0,U i6 0,U i6 0,U i6 0,U i6 0,U i6 0,U i6 0,U i6 0,U i6 0],32)])):=S12.out.grow O12.out gr13 (Nat.le_refl _) (by simp)
         have O13:Hid (Own .i64 2 w13 W.heap.size v13 (dsL k kh kw sh sw tp lf bt rt h w c (pl:Int) p zs bs xs PS (y*pl+d+1))):=(by rw [HSS.out];exact own13)
         have P13:Hid (Bk .i16 106 w13 P _):=bk_grown P12.out gr13 (own_ne O12.out.1 P12.out (by decide))
         have Q13:Hid (Bk .i8 72 w13 Q _):=bk_grown Q12.out gr13 (own_ne O12.out.1 Q12.out (by decide))
         clear own13 gr13 c1 f1 z1 c2 f2 z2
         obtain⟨c1,f1,z1,c2,f2,z2,-⟩:=S13.out.rules)
      | (go_simp
         go_at_call 64
         refine (HJ.out _).mono ?_
         rintro e w14 ⟨rfl,hb14⟩
         have S14:Hid (St W w14 ((mb+1,#[U i6 a1,U i6 a2,U i6 a3,U i6 a4,U i6 a5,U i6 a6,U i6 a7,U i6 a8,U i6 a9],32) :: [(mb,#[U i6 h,U i6 w,U i6 c,U i6 0,U i6 0,Sl (some ⟨g,0,none⟩) 1 1,U i6 0],26),(g,#[U i6 k,U i6 0,U i6 b,U i6 m,U i6 kh,U i6 kw,U i6 sh,U i6 sw,U i6 tp,U i6 lf,U i6 bt,U i6 rt,Sl wa lw cw,Sl ba lb bc,U i6 sm,U i6 ss,U i6 um,U i6 us,U i6 z,U i6 p,U i6 lo,U i6 hi],55),(W.heap.size,#[U i6 0,U i6 0,U i6 0,U i6 0,U i6 0,U i6 0,U i6 0,U i6 0,U i6 0],32)])):=(S13.out.call hb14).tail
         have O14:Hid (Own .i64 2 w14 W.heap.size v13 (dsL k kh kw sh sw tp lf bt rt h w c (pl:Int) p zs bs xs PS (y*pl+d+1))):=O13.out.below hb14
         have P14:Hid (Bk .i16 106 w14 P _):=P13.out.below hb14
         have Q14:Hid (Bk .i8 72 w14 Q _):=Q13.out.below hb14
         clear hb14 c1 f1 z1 c2 f2 z2
         obtain⟨c1,f1,z1,-⟩:=S14.out.rules))
     all_goals
      have s15:=S14.out.set9 (U i6 j1) (U i6 j2) (U i6 j3) (U i6 j4) (U i6 j5) (U i6 j6) (U i6 j7) (U i6 j8) (U i6 j9) (by
       intro z hz
       simp only [List.mem_cons,List.not_mem_nil,or_false] at hz
       rcases hz with rfl | rfl | rfl<;>simp only<;>omega)
      have m15:=(Mv.refl w14 (mb+1) (mb+1)).set9 (U i6 j1) (U i6 j2) (U i6 j3) (U i6 j4) (U i6 j5) (U i6 j6) (U i6 j7) (U i6 j8) (U i6 j9)
      obtain⟨w15,hw15⟩:∃ w15,(((((((((w14.setCell ⟨mb+1,0,none⟩ (U i6 j1)).setCell ⟨mb+1,1,none⟩ (U i6 j2)).setCell ⟨mb+1,2,none⟩ (U i6 j3)).setCell ⟨mb+1,3,none⟩ (U i6 j4)).setCell ⟨mb+1,4,none⟩ (U i6 j5)).setCell ⟨mb+1,5,none⟩ (U i6 j6)).setCell ⟨mb+1,6,none⟩ (U i6 j7)).setCell ⟨mb+1,7,none⟩ (U i6 j8)).setCell ⟨mb+1,8,none⟩ (U i6 j9))=w15:=⟨_,rfl⟩
      rw [hw15] at s15 m15 ⊢
      rw [← HTT.out] at s15
      have S15:Hid (St W w15 ((mb+1,(dsT k kh kw sh sw tp lf bt rt h w c (pl:Int) p zs bs xs PS (y*pl+d+1)).cs,32) :: [(mb,#[U i6 h,U i6 w,U i6 c,U i6 0,U i6 0,Sl (some ⟨g,0,none⟩) 1 1,U i6 0],26),(g,#[U i6 k,U i6 0,U i6 b,U i6 m,U i6 kh,U i6 kw,U i6 sh,U i6 sw,U i6 tp,U i6 lf,U i6 bt,U i6 rt,Sl wa lw cw,Sl ba lb bc,U i6 sm,U i6 ss,U i6 um,U i6 us,U i6 z,U i6 p,U i6 lo,U i6 hi],55),(W.heap.size,#[U i6 0,U i6 0,U i6 0,U i6 0,U i6 0,U i6 0,U i6 0,U i6 0,U i6 0],32)])):=s15
      have hne:=own_ne O14.out.1 S14.out.h1 (by decide)
      have O15:Hid (Own .i64 2 w15 W.heap.size v13 (dsL k kh kw sh sw tp lf bt rt h w c (pl:Int) p zs bs xs PS (y*pl+d+1))):=own_mv O14.out m15 hne hne
      have P15:Hid (Bk .i16 106 w15 P _):=bk_mv P14.out m15 (by omega) (by omega)
      have Q15:Hid (Bk .i8 72 w15 Q _):=bk_mv Q14.out m15 (by omega) (by omega)
      clear hw15 s15 m15 hne S14 O14 P14 Q14 c1 f1 z1 S13 O13 P13 Q13 S12 O12 P12 Q12 R12 S11 HJ HTT HSS
      go_wp2
      go_roundw
      case rel=>exact⟨d+1,_,rfl,by omega,by go_num,O15.out,S15.out,_,_,by rw [List.length_map];exact hTL2,by rw [List.length_map];exact hTL2,P15.out,Q15.out⟩
      case measure=>simp [intOf];omega
    ·obtain rfl:d=pl:=by omega
     have e:(y+1)*d=y*d+d:=by rw [Nat.add_mul,Nat.one_mul]
     rw [← e] at sr
     have HO2:Hid (Own .i64 2 wr W.heap.size v2 (dsL k kh kw sh sw tp lf bt rt h w c (d:Int) p zs bs xs PS ((y+1)*d))):=by unfold Hid;rw [e];exact HO.out
     have SR:Hid (St W wr _):=sr
     clear HO sr e
     go_wp2
     go_roundw
     case rel=>exact⟨y+1,_,rfl,by omega,by go_num,HO2.out,SR.out,us',vs,HUL.out,HVL.out,HBP.out,HBQ.out⟩
     case measure=>simp [intOf];omega
  ·obtain rfl:y=PP:=by omega
   have HO2:Hid (Own .i64 2 wr W.heap.size v1 (dsL k kh kw sh sw tp lf bt rt h w c (pl:Int) p zs bs xs PS N)):=by rw [← HNN.out];exact HO.out
   have SR2:Hid (St W wr ((mb+1,(dsT k kh kw sh sw tp lf bt rt h w c (pl:Int) p zs bs xs PS N).cs,32) :: [(mb,#[U i6 h,U i6 w,U i6 c,U i6 0,U i6 0,Sl (some ⟨g,0,none⟩) 1 1,U i6 0],26),(g,#[U i6 k,U i6 0,U i6 b,U i6 m,U i6 kh,U i6 kw,U i6 sh,U i6 sw,U i6 tp,U i6 lf,U i6 bt,U i6 rt,Sl wa lw cw,Sl ba lb bc,U i6 sm,U i6 ss,U i6 um,U i6 us,U i6 z,U i6 p,U i6 lo,U i6 hi],55),(W.heap.size,#[U i6 0,U i6 0,U i6 0,U i6 0,U i6 0,U i6 0,U i6 0,U i6 0,U i6 0],32)])):=by rw [← HNN.out];exact SR.out
   clear HO SR HBP HBQ hul hvl us' vs
   obtain⟨T0,hT0⟩:∃ T0,dsT k kh kw sh sw tp lf bt rt h w c (pl:Int) p zs bs xs PS N=T0:=⟨_,rfl⟩
   rw [hT0] at SR2
   have HT0:Hid (dsT k kh kw sh sw tp lf bt rt h w c (pl:Int) p zs bs xs PS N=T0):=hT0
   clear hT0
   obtain⟨a1,a2,a3,a4,a5,a6,a7,a8,a9⟩:=T0
   simp only [Tr.cs] at SR2
   obtain⟨c1,f1,z1,c2,f2,z2,c3,f3,z3,c4,f4,z4,-⟩:=SR2.out.rules
   clear c2 f2 c3 f3
   go_wp2
   go_region_law (fail)
   all_goals
    have s16:=((SR2.out.sub (l':=[(W.heap.size,#[U i6 0,U i6 0,U i6 0,U i6 0,U i6 0,U i6 0,U i6 0,U i6 0,U i6 0],32)]) (by simp)).set9 (U i6 a1) (U i6 a2) (U i6 a3) (U i6 a4) (U i6 a5) (U i6 a6) (U i6 a7) (U i6 a8) (U i6 a9) (fun x hx=>by cases hx)).drew
    have hne:=own_ne HO2.out.1 SR2.out.h4 (by decide)
    have o16:=(own_mv HO2.out ((Mv.refl wr W.heap.size W.heap.size).set9 (U i6 a1) (U i6 a2) (U i6 a3) (U i6 a4) (U i6 a5) (U i6 a6) (U i6 a7) (U i6 a8) (U i6 a9)) hne hne).below (Below.refl _ _).drew
    obtain⟨w16,hw16⟩:∃ w16,(((((((((wr.setCell ⟨W.heap.size,0,none⟩ (U i6 a1)).setCell ⟨W.heap.size,1,none⟩ (U i6 a2)).setCell ⟨W.heap.size,2,none⟩ (U i6 a3)).setCell ⟨W.heap.size,3,none⟩ (U i6 a4)).setCell ⟨W.heap.size,4,none⟩ (U i6 a5)).setCell ⟨W.heap.size,5,none⟩ (U i6 a6)).setCell ⟨W.heap.size,6,none⟩ (U i6 a7)).setCell ⟨W.heap.size,7,none⟩ (U i6 a8)).setCell ⟨W.heap.size,8,none⟩ (U i6 a9)).drew=w16:=⟨_,rfl⟩
    rw [hw16] at s16 o16 ⊢
    have O16:Hid (Own .i64 2 w16 W.heap.size v1 (dsL k kh kw sh sw tp lf bt rt h w c (pl:Int) p zs bs xs PS N)):=o16
    have S16:Hid (Below W.heap.size W w16):=s16.below
    obtain⟨c6,-⟩:=s16.rules
    have HC6:Hid (∀ i,_):=c6
    clear hw16 s16 o16 hne c6 c1 f1 z1 c4 f4 z4 SR2 HO2
    go_wp2
    exact bodyPost_ret (v:=.tuple #[v1,.agg #[U i6 a1,U i6 a2,U i6 a3,U i6 a4,U i6 a5,U i6 a6,U i6 a7,U i6 a8,U i6 a9]]) (by have c6:=HC6.out;simp [results,Tryz.results35,go_sem,c6]) rfl ⟨⟨v1,by rw [HT0.out];rfl,O16.out⟩,S16.out⟩
end Go.Proofs.YtehofmkpgopmpaaGreat.Kr
