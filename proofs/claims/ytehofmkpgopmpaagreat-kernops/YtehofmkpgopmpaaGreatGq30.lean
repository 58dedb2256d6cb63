/- The document's Dot, of 16 bits. What the document's Dot returns, of either width. -/
import Derived.Test.YtehofmkpgopmpaaGreatGq29
namespace Go.Proofs.YtehofmkpgopmpaaGreat
open Go.Value renaming int → U, slice → Sl
open Go.IntKind renaming i64 → i6
set_option maxRecDepth 100000
set_option maxHeartbeats 16000000
open Go.ChangeShapes Go.WideShapes Go.ChangeAt Go.RowKit
set_option linter.unusedVariables false
theorem mod_next {k d:Nat} (h:¬ k % d=d-1) (hd:1≤d):(k+1) % d=k % d+1:=by
 have h1:=Nat.mod_lt k (show 0<d by omega)
 rw [Nat.add_mod,Nat.mod_eq_of_lt (a:=k % d+1 % d)]
 ·rcases Nat.lt_or_ge 1 d with g | g
  ·rw [Nat.mod_eq_of_lt g]
  ·obtain rfl:d=1:=by omega
   simp [Nat.mod_one] at h
 ·rcases Nat.lt_or_ge 1 d with g | g
  ·rw [Nat.mod_eq_of_lt g];omega
  ·obtain rfl:d=1:=by omega
   simp [Nat.mod_one] at h
theorem mod_last {k d:Nat} (h:k % d=d-1) (hd:1≤d):(k+1) % d=0:=by
 rw [Nat.add_mod,h]
 rcases Nat.lt_or_ge 1 d with g | g
 ·rw [Nat.mod_eq_of_lt g,show d-1+1=d by omega,Nat.mod_self]
 ·obtain rfl:d=1:=by omega
  rfl
theorem rdot_16 (d N:Nat) (wa xa:Option Addr) (cw cx:Nat) (zs ys:List Int) (bi:Int) (W:World) (hN:N≤140737488355328) (hw:IRow .i64 W wa N cw zs) (hx:IRow .i64 W xa N cx ys)
  (hz:∀ z∈zs,-32768≤z∧z≤32767) (hy:∀ z∈ys,-128≤z∧z≤127) (hd:1≤d∧d≤N) (hb:-2147483648≤bi∧bi≤2147483647) (F:Ty×Ty×Int) (hF:elT d 0 Ty.z Ty.z bi 0 (pz zs ys)=F) :
  Calls Tryz.prog 25 #[Sl wa N cw,Sl xa N cx,U i6 16,U i6 (d:Int),U i6 bi] W fun e w'=>e=.returned (.tuple #[U i6 F.2.2,.agg (trk F.1 F.2.1)])∧Below W.heap.size W w':=by
 have hcw:=hw.2.1
 have hmw:=hw.2.2.1
 have hcx:=hx.2.1
 have hmx:=hx.2.2.1
 unfold maxLen at hmw hmx
 have hlz:Hid (zs.length=N):=hw.1
 have hly:Hid (ys.length=N):=hx.1
 have hpl:Hid ((pz zs ys).length=N):=by unfold Hid;rw [pz_len (by rw [hlz.out,hly.out]),hlz.out]
 have s0:=((St.start W).new (c:=#[U i6 0,U i6 0,U i6 0,U i6 0,U i6 0,U i6 0,U i6 0,U i6 0,U i6 0]) (t:=32)).new (c:=trk Ty.z Ty.z) (t:=114)
 simp only [World.size_alloc] at s0
 have HS:Hid (St W _ _):=s0
 have HF:Hid (elT d (0 % d) Ty.z Ty.z bi 0 (pz zs ys)=F):=by rw [Nat.zero_mod];exact hF
 clear s0 hF
 go_enter Tryz.func25,Tryz.ntmps25
 go_wp2
 go_loopw [13,14,19] (fun v p i wr=>∃ (k:Nat) (r q:Int) (s t:Ty),k≤N∧i=U i6 k∧v=U i6 r∧p=U i6 q∧(-2147483648≤r∧r≤2147483647)∧(-32768≤q∧q≤32767)∧s.ok k∧t.ok k∧St W wr [(W.heap.size+1,trk s t,114),(W.heap.size,#[U i6 0,U i6 0,U i6 0,U i6 0,U i6 0,U i6 0,U i6 0,U i6 0,U i6 0],32)]∧elT d (k % d) s t r q ((pz zs ys).drop k)=F) (fun _ _ i _=>N-(intOf i).toNat)
 case atStart=>exact⟨0,bi,0,Ty.z,Ty.z,Nat.zero_le _,rfl,rfl,rfl,hb,by omega,Ty.ok_z,Ty.ok_z,HS.out,HF.out⟩
 case round =>
  obtain⟨k,r,q,s,t,hk,rfl,rfl,rfl,hrb,hqb,hsk,htk,sk,hgk⟩:=hrel
  by_cases hlt:k<N
  ·obtain⟨x,c,rfl,hc,hwf,hmem,hdr⟩:=(hw.below sk.below).at hlt
   obtain⟨y,c',rfl,hc2,hwf2,hmem2,hdr2⟩:=(hx.below sk.below).at hlt
   have hcb:=hz c (List.mem_of_getElem? hmem)
   have hcb2:=hy c' (List.mem_of_getElem? hmem2)
   have HP:Hid ((pz zs ys).drop k=c*c' :: (pz zs ys).drop (k+1)):=pz_at hdr hdr2
   rw [HP.out,elT] at hgk
   have HG:Hid _:=hgk
   have hV:=wrapN_bd (N:=32768) (by omega) (c*c')
   have hV2:=wrapN_bd (N:=32768) (by omega) (q+wrapN 32768 (c*c'))
   have hne:∀ x∈([(W.heap.size,#[U i6 0,U i6 0,U i6 0,U i6 0,U i6 0,U i6 0,U i6 0,U i6 0,U i6 0],32)]:List (Nat×Array Value×TypeId)),x.1≠W.heap.size+1:=by intro x hx;simp only [List.mem_singleton] at hx;subst hx;simp only;omega
   have HM:Hid (∀ w2,St W w2 [(W.heap.size+1,trk s t,114),(W.heap.size,#[U i6 0,U i6 0,U i6 0,U i6 0,U i6 0,U i6 0,U i6 0,U i6 0,U i6 0],32)]→_):=fun w2 s2=>rtmT_16 s t c c' W w2 _ _ s2 hne (hsk.mono (by unfold BD;omega)) (htk.mono (by unfold BD;omega)) (by omega) (by omega)
   have HA:Hid (∀ w2,St W w2 [(W.heap.size+1,trk (s.mu 32768 (c*c')) t,114),(W.heap.size,#[U i6 0,U i6 0,U i6 0,U i6 0,U i6 0,U i6 0,U i6 0,U i6 0,U i6 0],32)]→_):=fun w2 s2=>rplT_16 (s.mu 32768 (c*c')) t q (wrapN 32768 (c*c')) W w2 _ _ s2 hne ((hsk.mu (c*c')).mono (by unfold BD;omega)) (htk.mono (by unfold BD;omega)) (by omega) (by omega)
   have hso:=hsk.ma (N:=32768) (by omega) q (c*c')
   obtain⟨V,hVe⟩:∃ V,wrapN 32768 (q+wrapN 32768 (c*c'))=V:=⟨_,rfl⟩
   obtain⟨s',hse⟩:∃ s',s.ma 32768 q (c*c')=s':=⟨_,rfl⟩
   have hse2:(s.mu 32768 (c*c')).ad 32768 (q+wrapN 32768 (c*c'))=s':=hse
   rw [hVe,hse] at HG
   rw [hVe,hse2] at HA
   rw [hVe] at hV2
   rw [hse] at hso
   have HA32:Hid (∀ w2,St W w2 [(W.heap.size+1,trk s' t,114),(W.heap.size,#[U i6 0,U i6 0,U i6 0,U i6 0,U i6 0,U i6 0,U i6 0,U i6 0,U i6 0],32)]→_):=fun w2 s2=>rplT_32 s' t r V W w2 _ _ s2 hne (hso.mono (by unfold BD;omega)) (htk.mono (by unfold BD;omega)) hrb (by omega)
   have hR:=wrapN_bd (N:=2147483648) (by omega) (r+V)
   have HTO:Hid ((t.ad 2147483648 (r+V)).ok (k+1)):=htk.ad (by omega) _
   have HT1:Hid (t.ok (k+1)):=htk.mono (by omega)
   have HSO:Hid (s'.ok (k+1)):=hso
   obtain⟨R,hRe⟩:∃ R,wrapN 2147483648 (r+V)=R:=⟨_,rfl⟩
   obtain⟨t',hte⟩:∃ t',t.ad 2147483648 (r+V)=t':=⟨_,rfl⟩
   rw [hRe,hte] at HG HA32
   rw [hRe] at hR
   rw [hte] at HTO
   have HRB:Hid (-2147483648≤R∧R≤2147483647):=by unfold Hid;omega
   have HVB:Hid (-32768≤V∧V≤32767):=by unfold Hid;omega
   have HSK:Hid (St W wr _):=sk
   clear hV hV2 HP hwf hwf2 hdr hdr2 hgk htk hsk hmem hmem2 hne sk hso hR hVe hse hse2 hRe hte
   go_upto_region 9 with fail
   go_cut [14] from 35 to 45 (fun v14 wx=>v14=U i6 V∧St W wx [(W.heap.size+1,trk s' t,114),(W.heap.size,#[U i6 0,U i6 0,U i6 0,U i6 0,U i6 0,U i6 0,U i6 0,U i6 0,U i6 0],32)])
   case first =>
    go_region_with (first | (go_at_call 51;refine (HM.out _ (St.drew HSK.out)).mono ?_;rintro e w2 ⟨rfl,s2⟩) | (go_at_call 50;refine (HA.out _ s2).mono ?_;rintro e w3 ⟨rfl,s3⟩))
    all_goals (go_wp2_with fail;go_meet;case rel=>exact⟨rfl,s3⟩)
   case rest =>
    obtain⟨rfl,s3⟩:=hcut
    clear HM HA HSK hc hc2
    by_cases hA:k % d=d-1
    ·have HE:Hid (elT d ((k+1) % d) s' t' R 0 ((pz zs ys).drop (k+1))=F):=by
      have:=HG.out
      rw [if_pos (.inl (by omega))] at this
      rw [mod_last hA hd.1]
      exact this
     go_wp2_with fail
     refine (HA32.out _ s3).mono ?_
     rintro e w4 ⟨rfl,s4⟩
     clear HA32 s3
     go_wp2
     go_roundw
     case rel=>exact⟨k+1,R,0,s',t',by omega,by go_num,rfl,rfl,HRB.out,by omega,by have:=HSO.out;simpa using this,by have:=HTO.out;simpa using this,s4,HE.out⟩
     case measure=>simp [intOf];omega
    ·have hA2:¬ (k:Int) % (d:Int)=(d:Int)-1:=by omega
     have hA3:((k:Int) % (d:Int) == (d:Int)-1)=false:=by simp [hA2]
     by_cases hB:k+1=N
     ·have HE:Hid (elT d ((k+1) % d) s' t' R 0 ((pz zs ys).drop (k+1))=F):=by
       have:=HG.out
       have hn:(pz zs ys).drop (k+1)=[]:=List.drop_of_length_le (by rw [hpl.out];omega)
       rw [if_pos (.inr hn)] at this
       rw [hn] at this ⊢
       exact this
      have hB2:(k:Int)=(N:Int)-1:=by omega
      have hB3:((k:Int) == (N:Int)-1)=true:=by simp [hB2]
      clear hB2
      go_wp2_with fail
      refine (HA32.out _ s3).mono ?_
      rintro e w4 ⟨rfl,s4⟩
      clear HA32 s3
      go_wp2
      go_roundw
      case rel=>exact⟨k+1,R,0,s',t',by omega,by go_num,rfl,rfl,HRB.out,by omega,by have:=HSO.out;simpa using this,by have:=HTO.out;simpa using this,s4,HE.out⟩
      case measure=>simp [intOf];omega
     ·have HE:Hid (elT d ((k+1) % d) s' t r V ((pz zs ys).drop (k+1))=F):=by
       have:=HG.out
       have hn:(pz zs ys).drop (k+1)≠[]:=fun e=>by
        have h1:=List.length_drop (i:=k+1) (l:=pz zs ys)
        rw [e,hpl.out] at h1
        simp only [List.length_nil] at h1
        omega
       rw [if_neg (fun h=>h.elim (fun h=>hA (by omega)) hn)] at this
       rw [mod_next hA hd.1]
       exact this
      have hB2:¬ (k:Int)=(N:Int)-1:=by omega
      have hB3:((k:Int) == (N:Int)-1)=false:=by simp [hB2]
      go_wp2
      go_roundw
      case rel=>exact⟨k+1,r,V,s',t,by omega,by go_num,rfl,rfl,hrb,HVB.out,by have:=HSO.out;simpa using this,by have:=HT1.out;simpa using this,s3,HE.out⟩
      case measure=>simp [intOf];omega
  ·have hT:(pz zs ys).drop k=[]:=List.drop_of_length_le (by rw [hpl.out];omega)
   rw [hT] at hgk
   have HG:Hid ((s,t,r)=F):=hgk
   clear hT hgk
   have hF2:=HG.out
   obtain⟨F0,F1,F2⟩:=F
   cases hF2
   obtain⟨m,wq,a,lo,hi⟩:=t
   obtain⟨m0,wq0,a0,lo0,hi0⟩:=s
   simp only [trk] at sk
   obtain⟨n,hn⟩:∃ n,wq0+wq=n:=⟨_,rfl⟩
   rw [hn] at sk
   have HNN:Hid (wq0+wq=n):=hn
   clear hn
   obtain⟨c1,f1,z1,c2,f2,z2,-⟩:=sk.rules
   have s4:=(sk.up1.down.set9 (U i6 m0) (U i6 a0) (U i6 m) (U i6 a) (U i6 n) (U i6 lo0) (U i6 hi0) (U i6 lo) (U i6 hi) (fun x hx=>by cases hx)).drew
   have HS6:Hid (Below W.heap.size W _):=s4.below
   obtain⟨c6,-⟩:=s4.rules
   have HC6:Hid (∀ i,_):=c6
   clear s4 c6
   go_upto_region 14 with fail
   go_region
   go_wp2
   exact bodyPost_ret (v:=.tuple #[U i6 r,.agg #[U i6 m0,U i6 a0,U i6 m,U i6 a,U i6 n,U i6 lo0,U i6 hi0,U i6 lo,U i6 hi]]) (by have c6:=HC6.out;simp [results,Tryz.results25,go_sem,c6]) rfl ⟨by simp [trk,HNN.out],HS6.out⟩
theorem rdot_ok (N:Nat) (wa xa:Option Addr) (cw cx:Nat) (zs ys:List Int) (wd dp bi:Int) (W:World) (hN:N≤140737488355328) (hw:IRow .i64 W wa N cw zs) (hx:IRow .i64 W xa N cx ys)
  (hz:∀ z∈zs,-32768≤z∧z≤32767) (hy:∀ z∈ys,-128≤z∧z≤127) (hE:rfE N N wd dp=0) (hb:-2147483648≤bi∧bi≤2147483647) (F:Ty×Ty×Int) (hF:dtR wd dp bi (pz zs ys)=F) :
  Calls Tryz.prog 25 #[Sl wa N cw,Sl xa N cx,U i6 wd,U i6 dp,U i6 bi] W fun e w'=>e=.returned (.tuple #[U i6 F.2.2,.agg (trk F.1 F.2.1)])∧Below W.heap.size W w':=by
 have hE2:(wd=16∨wd=32)∧1≤dp∧dp≤N:=by
  unfold rfE at hE
  split at hE
  ·cases hE
  ·split at hE
   ·cases hE
   ·split at hE
    ·cases hE
    ·omega
 obtain⟨d,rfl⟩:∃ d:Nat,dp=(d:Int):=⟨dp.toNat,by omega⟩
 unfold dtR at hF
 by_cases h32:wd=32
 ·rw [if_pos h32] at hF
  subst h32 hF
  exact rdot_32 d N wa xa cw cx zs ys bi W hN hw hx hz hy (by omega) hb _ rfl
 ·rw [if_neg h32,Int.toNat_natCast] at hF
  obtain rfl:wd=16:=by omega
  exact rdot_16 d N wa xa cw cx zs ys bi W hN hw hx hz hy (by omega) hb F hF
end Go.Proofs.YtehofmkpgopmpaaGreat
