/- Every Part is the one that the document gives. -/
import Derived.Test.YtccoanknofhmaaaGreatRows
import Derived.Test.YtccoanknofhmaaaGreatGq30
import Derived.WalkKit
import Derived.ProofKit
import Derived.OpenShut
import Derived.ChangeOld
import Derived.Below
import Derived.SizedLaws
import Derived.JoinedCond
namespace Go.Proofs.YtccoanknofhmaaaGreat.boundParts
open Go.ChangeShapes Go.WideShapes Go.ChangeAt Go.RowKit
set_option linter.unusedVariables false

theorem own:ownKnob Tryz.prog.godebug=none:=by kernel_rfl
theorem laidOut:laidOutB Tryz.prog=true:=by kernel_rfl
theorem cells3:Tryz.prog.cellsOf 3=1:=by kernel_rfl
theorem cells23:Tryz.prog.cellsOf 23=3:=by kernel_rfl
theorem cells36:Tryz.prog.cellsOf 36=8:=by kernel_rfl
theorem cells40:Tryz.prog.cellsOf 40=2:=by kernel_rfl
theorem cells37:Tryz.prog.cellsOf 37=1:=by kernel_rfl
theorem cells89:Tryz.prog.cellsOf 89=1:=by kernel_rfl
theorem bytes89:Tryz.prog.bytesOf 89=2:=by kernel_rfl
theorem cells38:Tryz.prog.cellsOf 38=1:=by kernel_rfl
theorem cells21:Tryz.prog.cellsOf 21=1:=by kernel_rfl
theorem bytes21:Tryz.prog.bytesOf 21=4:=by kernel_rfl
theorem cells42:Tryz.prog.cellsOf 42=22:=by kernel_rfl
theorem cells24:Tryz.prog.cellsOf 24=1:=by kernel_rfl
theorem bytes42:Tryz.prog.bytesOf 42=208:=by kernel_rfl
theorem cells26:Tryz.prog.cellsOf 26=7:=by kernel_rfl
theorem cells2:Tryz.prog.cellsOf 2=1:=by kernel_rfl
theorem cells28:Tryz.prog.cellsOf 28=2:=by kernel_rfl
theorem cells29:Tryz.prog.cellsOf 29=1:=by kernel_rfl
theorem cells173:Tryz.prog.cellsOf 173=1:=by kernel_rfl
theorem bytes173:Tryz.prog.bytesOf 173=1:=by kernel_rfl
theorem cells31:Tryz.prog.cellsOf 31=14:=by kernel_rfl
set_option maxRecDepth 100000 in
theorem openCells23 {H:Type} {enc:TypeId×Value→H} {W:World} {fuel:Nat} {cs:List Value} {x:DataW H×List MemPlace} (h:DataW.trod enc Tryz.prog W 0 (fun _=>true) true fuel 23 cs=some x) (hs:Sz 23 x.1) :
    ∃ (b0:Int) (b1:Int) (b2:Int),cs=[.int .i64 b0,.int .i64 b1,.int .i64 b2]∧(Lit.int .i64 b0).wf=true∧(Lit.int .i64 b1).wf=true∧(Lit.int .i64 b2).wf=true:=by
  obtain⟨xs,m,_,hx,hl,hlen,hf⟩:=DataW.trod_struct Tryz.underlying23 h
  have hs2:Sz 23 (.agg (xs.map (·.1))):=by rw [hx] at hs;exact hs
  rw [cells23] at hl
  have g0:DataW.trod enc Tryz.prog W 0 (fun _=>true) true m 3 ((cs.drop 0).take (Tryz.prog.cellsOf 3))=xs[0]?:=hf 0 _ rfl
  obtain⟨y0,e0⟩:∃ y,xs[0]? = some y:=⟨_,List.getElem?_eq_getElem (by rw [hlen];decide)⟩
  rw [e0,cells3] at g0
  obtain⟨a0,c0,_,wa0⟩:=DataW.trod_int Tryz.underlying3 g0
  have g1:DataW.trod enc Tryz.prog W 0 (fun _=>true) true m 3 ((cs.drop 1).take (Tryz.prog.cellsOf 3))=xs[1]?:=hf 1 _ rfl
  obtain⟨y1,e1⟩:∃ y,xs[1]? = some y:=⟨_,List.getElem?_eq_getElem (by rw [hlen];decide)⟩
  rw [e1,cells3] at g1
  obtain⟨a1,c1,_,wa1⟩:=DataW.trod_int Tryz.underlying3 g1
  have g2:DataW.trod enc Tryz.prog W 0 (fun _=>true) true m 3 ((cs.drop 2).take (Tryz.prog.cellsOf 3))=xs[2]?:=hf 2 _ rfl
  obtain⟨y2,e2⟩:∃ y,xs[2]? = some y:=⟨_,List.getElem?_eq_getElem (by rw [hlen];decide)⟩
  rw [e2,cells3] at g2
  obtain⟨a2,c2,_,wa2⟩:=DataW.trod_int Tryz.underlying3 g2
  match cs,hl with
  | [v0,v1,v2],_ =>
    simp at c0 c1 c2
    obtain rfl:=c0
    obtain rfl:=c1
    obtain rfl:=c2
    exact⟨a0,a1,a2,rfl,wa0,wa1,wa2⟩
set_option maxRecDepth 100000 in
theorem openCells36 {H:Type} {enc:TypeId×Value→H} {W:World} {fuel:Nat} {cs:List Value} {x:DataW H×List MemPlace} (h:DataW.trod enc Tryz.prog W 0 (fun _=>true) true fuel 36 cs=some x) (hs:Sz 36 x.1) :
    ∃ (b0:Int) (b1:Int) (b2:Int) (b3:Int) (b4:Int) (b5:Int) (b6:Int) (b7:Int),cs=[.int .i64 b0,.int .i64 b1,.int .i64 b2,.int .i64 b3,.int .i64 b4,.int .i64 b5,.int .i64 b6,.int .i64 b7]∧(Lit.int .i64 b0).wf=true∧(Lit.int .i64 b1).wf=true∧(Lit.int .i64 b2).wf=true∧(Lit.int .i64 b3).wf=true∧(Lit.int .i64 b4).wf=true∧(Lit.int .i64 b5).wf=true∧(Lit.int .i64 b6).wf=true∧(Lit.int .i64 b7).wf=true:=by
  obtain⟨xs,m,_,hx,hl,hlen,hf⟩:=DataW.trod_struct Tryz.underlying36 h
  have hs2:Sz 36 (.agg (xs.map (·.1))):=by rw [hx] at hs;exact hs
  rw [cells36] at hl
  have g0:DataW.trod enc Tryz.prog W 0 (fun _=>true) true m 3 ((cs.drop 0).take (Tryz.prog.cellsOf 3))=xs[0]?:=hf 0 _ rfl
  obtain⟨y0,e0⟩:∃ y,xs[0]? = some y:=⟨_,List.getElem?_eq_getElem (by rw [hlen];decide)⟩
  rw [e0,cells3] at g0
  obtain⟨a0,c0,_,wa0⟩:=DataW.trod_int Tryz.underlying3 g0
  have g1:DataW.trod enc Tryz.prog W 0 (fun _=>true) true m 3 ((cs.drop 1).take (Tryz.prog.cellsOf 3))=xs[1]?:=hf 1 _ rfl
  obtain⟨y1,e1⟩:∃ y,xs[1]? = some y:=⟨_,List.getElem?_eq_getElem (by rw [hlen];decide)⟩
  rw [e1,cells3] at g1
  obtain⟨a1,c1,_,wa1⟩:=DataW.trod_int Tryz.underlying3 g1
  have g2:DataW.trod enc Tryz.prog W 0 (fun _=>true) true m 3 ((cs.drop 2).take (Tryz.prog.cellsOf 3))=xs[2]?:=hf 2 _ rfl
  obtain⟨y2,e2⟩:∃ y,xs[2]? = some y:=⟨_,List.getElem?_eq_getElem (by rw [hlen];decide)⟩
  rw [e2,cells3] at g2
  obtain⟨a2,c2,_,wa2⟩:=DataW.trod_int Tryz.underlying3 g2
  have g3:DataW.trod enc Tryz.prog W 0 (fun _=>true) true m 3 ((cs.drop 3).take (Tryz.prog.cellsOf 3))=xs[3]?:=hf 3 _ rfl
  obtain⟨y3,e3⟩:∃ y,xs[3]? = some y:=⟨_,List.getElem?_eq_getElem (by rw [hlen];decide)⟩
  rw [e3,cells3] at g3
  obtain⟨a3,c3,_,wa3⟩:=DataW.trod_int Tryz.underlying3 g3
  have g4:DataW.trod enc Tryz.prog W 0 (fun _=>true) true m 3 ((cs.drop 4).take (Tryz.prog.cellsOf 3))=xs[4]?:=hf 4 _ rfl
  obtain⟨y4,e4⟩:∃ y,xs[4]? = some y:=⟨_,List.getElem?_eq_getElem (by rw [hlen];decide)⟩
  rw [e4,cells3] at g4
  obtain⟨a4,c4,_,wa4⟩:=DataW.trod_int Tryz.underlying3 g4
  have g5:DataW.trod enc Tryz.prog W 0 (fun _=>true) true m 3 ((cs.drop 5).take (Tryz.prog.cellsOf 3))=xs[5]?:=hf 5 _ rfl
  obtain⟨y5,e5⟩:∃ y,xs[5]? = some y:=⟨_,List.getElem?_eq_getElem (by rw [hlen];decide)⟩
  rw [e5,cells3] at g5
  obtain⟨a5,c5,_,wa5⟩:=DataW.trod_int Tryz.underlying3 g5
  have g6:DataW.trod enc Tryz.prog W 0 (fun _=>true) true m 3 ((cs.drop 6).take (Tryz.prog.cellsOf 3))=xs[6]?:=hf 6 _ rfl
  obtain⟨y6,e6⟩:∃ y,xs[6]? = some y:=⟨_,List.getElem?_eq_getElem (by rw [hlen];decide)⟩
  rw [e6,cells3] at g6
  obtain⟨a6,c6,_,wa6⟩:=DataW.trod_int Tryz.underlying3 g6
  have g7:DataW.trod enc Tryz.prog W 0 (fun _=>true) true m 3 ((cs.drop 7).take (Tryz.prog.cellsOf 3))=xs[7]?:=hf 7 _ rfl
  obtain⟨y7,e7⟩:∃ y,xs[7]? = some y:=⟨_,List.getElem?_eq_getElem (by rw [hlen];decide)⟩
  rw [e7,cells3] at g7
  obtain⟨a7,c7,_,wa7⟩:=DataW.trod_int Tryz.underlying3 g7
  match cs,hl with
  | [v0,v1,v2,v3,v4,v5,v6,v7],_ =>
    simp at c0 c1 c2 c3 c4 c5 c6 c7
    obtain rfl:=c0
    obtain rfl:=c1
    obtain rfl:=c2
    obtain rfl:=c3
    obtain rfl:=c4
    obtain rfl:=c5
    obtain rfl:=c6
    obtain rfl:=c7
    exact⟨a0,a1,a2,a3,a4,a5,a6,a7,rfl,wa0,wa1,wa2,wa3,wa4,wa5,wa6,wa7⟩
set_option maxRecDepth 100000 in
theorem openCells40 {H:Type} {enc:TypeId×Value→H} {W:World} {fuel:Nat} {cs:List Value} {x:DataW H×List MemPlace} (h:DataW.trod enc Tryz.prog W 0 (fun _=>true) true fuel 40 cs=some x) (hs:Sz 40 x.1) :
    ∃ (b0:Int) (b1:Int),cs=[.int .i64 b0,.int .i64 b1]∧(Lit.int .i64 b0).wf=true∧(Lit.int .i64 b1).wf=true:=by
  obtain⟨xs,m,_,hx,hl,hlen,hf⟩:=DataW.trod_struct Tryz.underlying40 h
  have hs2:Sz 40 (.agg (xs.map (·.1))):=by rw [hx] at hs;exact hs
  rw [cells40] at hl
  have g0:DataW.trod enc Tryz.prog W 0 (fun _=>true) true m 3 ((cs.drop 0).take (Tryz.prog.cellsOf 3))=xs[0]?:=hf 0 _ rfl
  obtain⟨y0,e0⟩:∃ y,xs[0]? = some y:=⟨_,List.getElem?_eq_getElem (by rw [hlen];decide)⟩
  rw [e0,cells3] at g0
  obtain⟨a0,c0,_,wa0⟩:=DataW.trod_int Tryz.underlying3 g0
  have g1:DataW.trod enc Tryz.prog W 0 (fun _=>true) true m 3 ((cs.drop 1).take (Tryz.prog.cellsOf 3))=xs[1]?:=hf 1 _ rfl
  obtain⟨y1,e1⟩:∃ y,xs[1]? = some y:=⟨_,List.getElem?_eq_getElem (by rw [hlen];decide)⟩
  rw [e1,cells3] at g1
  obtain⟨a1,c1,_,wa1⟩:=DataW.trod_int Tryz.underlying3 g1
  match cs,hl with
  | [v0,v1],_ =>
    simp at c0 c1
    obtain rfl:=c0
    obtain rfl:=c1
    exact⟨a0,a1,rfl,wa0,wa1⟩
set_option maxRecDepth 100000 in
theorem openCells42 {H:Type} {enc:TypeId×Value→H} {W:World} {fuel:Nat} {cs:List Value} {x:DataW H×List MemPlace} (h:DataW.trod enc Tryz.prog W 0 (fun _=>true) true fuel 42 cs=some x) (hs:Sz 42 x.1) :
    ∃ (b0:Int) (b1:Int) (b2:Int) (b3:Int) (b4:Int) (b5:Int) (b6:Int) (b7:Int) (b8:Int) (b9:Int) (b10:Int) (b11:Int) (b12:Option Addr) (lb12 cb12:Nat) (zb12:List Int) (b13:Option Addr) (lb13 cb13:Nat) (zb13:List Int) (b14:Int) (b15:Int) (b16:Int) (b17:Int) (b18:Int) (b19:Int) (b20:Int) (b21:Int),cs=[.int .i64 b0,.int .i64 b1,.int .i64 b2,.int .i64 b3,.int .i64 b4,.int .i64 b5,.int .i64 b6,.int .i64 b7,.int .i64 b8,.int .i64 b9,.int .i64 b10,.int .i64 b11,.slice b12 lb12 cb12,.slice b13 lb13 cb13,.int .i64 b14,.int .i64 b15,.int .i64 b16,.int .i64 b17,.int .i64 b18,.int .i64 b19,.int .i64 b20,.int .i64 b21]∧(Lit.int .i64 b0).wf=true∧(Lit.int .i64 b1).wf=true∧(Lit.int .i64 b2).wf=true∧(Lit.int .i64 b3).wf=true∧(Lit.int .i64 b4).wf=true∧(Lit.int .i64 b5).wf=true∧(Lit.int .i64 b6).wf=true∧(Lit.int .i64 b7).wf=true∧(Lit.int .i64 b8).wf=true∧(Lit.int .i64 b9).wf=true∧(Lit.int .i64 b10).wf=true∧(Lit.int .i64 b11).wf=true∧IRow .i16 W b12 lb12 cb12 zb12∧lb12*2≤140737488351232∧IRow .i32 W b13 lb13 cb13 zb13∧lb13*4≤140737488351232∧(Lit.int .i64 b14).wf=true∧(Lit.int .i64 b15).wf=true∧(Lit.int .i64 b16).wf=true∧(Lit.int .i64 b17).wf=true∧(Lit.int .i64 b18).wf=true∧(Lit.int .i64 b19).wf=true∧(Lit.int .i64 b20).wf=true∧(Lit.int .i64 b21).wf=true:=by
  obtain⟨xs,m,_,hx,hl,hlen,hf⟩:=DataW.trod_struct Tryz.underlying42 h
  have hs2:Sz 42 (.agg (xs.map (·.1))):=by rw [hx] at hs;exact hs
  rw [cells42] at hl
  have g0:DataW.trod enc Tryz.prog W 0 (fun _=>true) true m 3 ((cs.drop 0).take (Tryz.prog.cellsOf 3))=xs[0]?:=hf 0 _ rfl
  obtain⟨y0,e0⟩:∃ y,xs[0]? = some y:=⟨_,List.getElem?_eq_getElem (by rw [hlen];decide)⟩
  rw [e0,cells3] at g0
  obtain⟨a0,c0,_,wa0⟩:=DataW.trod_int Tryz.underlying3 g0
  have g1:DataW.trod enc Tryz.prog W 0 (fun _=>true) true m 3 ((cs.drop 1).take (Tryz.prog.cellsOf 3))=xs[1]?:=hf 1 _ rfl
  obtain⟨y1,e1⟩:∃ y,xs[1]? = some y:=⟨_,List.getElem?_eq_getElem (by rw [hlen];decide)⟩
  rw [e1,cells3] at g1
  obtain⟨a1,c1,_,wa1⟩:=DataW.trod_int Tryz.underlying3 g1
  have g2:DataW.trod enc Tryz.prog W 0 (fun _=>true) true m 3 ((cs.drop 2).take (Tryz.prog.cellsOf 3))=xs[2]?:=hf 2 _ rfl
  obtain⟨y2,e2⟩:∃ y,xs[2]? = some y:=⟨_,List.getElem?_eq_getElem (by rw [hlen];decide)⟩
  rw [e2,cells3] at g2
  obtain⟨a2,c2,_,wa2⟩:=DataW.trod_int Tryz.underlying3 g2
  have g3:DataW.trod enc Tryz.prog W 0 (fun _=>true) true m 3 ((cs.drop 3).take (Tryz.prog.cellsOf 3))=xs[3]?:=hf 3 _ rfl
  obtain⟨y3,e3⟩:∃ y,xs[3]? = some y:=⟨_,List.getElem?_eq_getElem (by rw [hlen];decide)⟩
  rw [e3,cells3] at g3
  obtain⟨a3,c3,_,wa3⟩:=DataW.trod_int Tryz.underlying3 g3
  have g4:DataW.trod enc Tryz.prog W 0 (fun _=>true) true m 36 ((cs.drop 4).take (Tryz.prog.cellsOf 36))=xs[4]?:=hf 4 _ rfl
  obtain⟨y4,e4⟩:∃ y,xs[4]? = some y:=⟨_,List.getElem?_eq_getElem (by rw [hlen];decide)⟩
  rw [e4,cells36] at g4
  have sz4:Sz 36 y4.1:=hs2.part Tryz.underlying42 (j:=4) rfl (by rw [List.getElem?_map,e4];rfl)
  obtain⟨a4,a5,a6,a7,a8,a9,a10,a11,c4,wa4,wa5,wa6,wa7,wa8,wa9,wa10,wa11⟩:=openCells36 g4 sz4
  have g5:DataW.trod enc Tryz.prog W 0 (fun _=>true) true m 37 ((cs.drop 12).take (Tryz.prog.cellsOf 37))=xs[5]?:=hf 5 _ rfl
  obtain⟨y5,e5⟩:∃ y,xs[5]? = some y:=⟨_,List.getElem?_eq_getElem (by rw [hlen];decide)⟩
  rw [e5,cells37] at g5
  have sz5:Sz 37 y5.1:=hs2.part Tryz.underlying42 (j:=5) rfl (by rw [List.getElem?_map,e5];rfl)
  obtain⟨a12,la12,ca12,za12,c5,wa12,ra12⟩:=openF Tryz.underlying37 Tryz.underlying89 cells89 bytes89 g5 sz5
  have g6:DataW.trod enc Tryz.prog W 0 (fun _=>true) true m 38 ((cs.drop 13).take (Tryz.prog.cellsOf 38))=xs[6]?:=hf 6 _ rfl
  obtain⟨y6,e6⟩:∃ y,xs[6]? = some y:=⟨_,List.getElem?_eq_getElem (by rw [hlen];decide)⟩
  rw [e6,cells38] at g6
  have sz6:Sz 38 y6.1:=hs2.part Tryz.underlying42 (j:=6) rfl (by rw [List.getElem?_map,e6];rfl)
  obtain⟨a13,la13,ca13,za13,c6,wa13,ra13⟩:=openF Tryz.underlying38 Tryz.underlying21 cells21 bytes21 g6 sz6
  have g7:DataW.trod enc Tryz.prog W 0 (fun _=>true) true m 40 ((cs.drop 14).take (Tryz.prog.cellsOf 40))=xs[7]?:=hf 7 _ rfl
  obtain⟨y7,e7⟩:∃ y,xs[7]? = some y:=⟨_,List.getElem?_eq_getElem (by rw [hlen];decide)⟩
  rw [e7,cells40] at g7
  have sz7:Sz 40 y7.1:=hs2.part Tryz.underlying42 (j:=7) rfl (by rw [List.getElem?_map,e7];rfl)
  obtain⟨a14,a15,c7,wa14,wa15⟩:=openCells40 g7 sz7
  have g8:DataW.trod enc Tryz.prog W 0 (fun _=>true) true m 40 ((cs.drop 16).take (Tryz.prog.cellsOf 40))=xs[8]?:=hf 8 _ rfl
  obtain⟨y8,e8⟩:∃ y,xs[8]? = some y:=⟨_,List.getElem?_eq_getElem (by rw [hlen];decide)⟩
  rw [e8,cells40] at g8
  have sz8:Sz 40 y8.1:=hs2.part Tryz.underlying42 (j:=8) rfl (by rw [List.getElem?_map,e8];rfl)
  obtain⟨a16,a17,c8,wa16,wa17⟩:=openCells40 g8 sz8
  have g9:DataW.trod enc Tryz.prog W 0 (fun _=>true) true m 3 ((cs.drop 18).take (Tryz.prog.cellsOf 3))=xs[9]?:=hf 9 _ rfl
  obtain⟨y9,e9⟩:∃ y,xs[9]? = some y:=⟨_,List.getElem?_eq_getElem (by rw [hlen];decide)⟩
  rw [e9,cells3] at g9
  obtain⟨a18,c9,_,wa18⟩:=DataW.trod_int Tryz.underlying3 g9
  have g10:DataW.trod enc Tryz.prog W 0 (fun _=>true) true m 3 ((cs.drop 19).take (Tryz.prog.cellsOf 3))=xs[10]?:=hf 10 _ rfl
  obtain⟨y10,e10⟩:∃ y,xs[10]? = some y:=⟨_,List.getElem?_eq_getElem (by rw [hlen];decide)⟩
  rw [e10,cells3] at g10
  obtain⟨a19,c10,_,wa19⟩:=DataW.trod_int Tryz.underlying3 g10
  have g11:DataW.trod enc Tryz.prog W 0 (fun _=>true) true m 3 ((cs.drop 20).take (Tryz.prog.cellsOf 3))=xs[11]?:=hf 11 _ rfl
  obtain⟨y11,e11⟩:∃ y,xs[11]? = some y:=⟨_,List.getElem?_eq_getElem (by rw [hlen];decide)⟩
  rw [e11,cells3] at g11
  obtain⟨a20,c11,_,wa20⟩:=DataW.trod_int Tryz.underlying3 g11
  have g12:DataW.trod enc Tryz.prog W 0 (fun _=>true) true m 3 ((cs.drop 21).take (Tryz.prog.cellsOf 3))=xs[12]?:=hf 12 _ rfl
  obtain⟨y12,e12⟩:∃ y,xs[12]? = some y:=⟨_,List.getElem?_eq_getElem (by rw [hlen];decide)⟩
  rw [e12,cells3] at g12
  obtain⟨a21,c12,_,wa21⟩:=DataW.trod_int Tryz.underlying3 g12
  match cs,hl with
  | [v0,v1,v2,v3,v4,v5,v6,v7,v8,v9,v10,v11,v12,v13,v14,v15,v16,v17,v18,v19,v20,v21],_ =>
    simp at c0 c1 c2 c3 c4 c5 c6 c7 c8 c9 c10 c11 c12
    obtain rfl:=c0
    obtain rfl:=c1
    obtain rfl:=c2
    obtain rfl:=c3
    obtain⟨rfl,rfl,rfl,rfl,rfl,rfl,rfl,rfl⟩:=c4
    obtain rfl:=c5
    obtain rfl:=c6
    obtain⟨rfl,rfl⟩:=c7
    obtain⟨rfl,rfl⟩:=c8
    obtain rfl:=c9
    obtain rfl:=c10
    obtain rfl:=c11
    obtain rfl:=c12
    exact⟨a0,a1,a2,a3,a4,a5,a6,a7,a8,a9,a10,a11,a12,la12,ca12,za12,a13,la13,ca13,za13,a14,a15,a16,a17,a18,a19,a20,a21,rfl,wa0,wa1,wa2,wa3,wa4,wa5,wa6,wa7,wa8,wa9,wa10,wa11,wa12,ra12,wa13,ra13,wa14,wa15,wa16,wa17,wa18,wa19,wa20,wa21⟩
set_option maxRecDepth 100000 in
theorem openCells26 {H:Type} {enc:TypeId×Value→H} {W:World} {fuel:Nat} {cs:List Value} {x:DataW H×List MemPlace} (h:DataW.trod enc Tryz.prog W 0 (fun _=>true) true fuel 26 cs=some x) (hs:Sz 26 x.1) :
    ∃ (b0:Int) (b1:Int) (b2:Int) (b3:Int) (b4:Int) (b5:Option Addr) (lb5 cb5:Nat) (b6:Int),cs=[.int .i64 b0,.int .i64 b1,.int .i64 b2,.int .i64 b3,.int .i64 b4,.slice b5 lb5 cb5,.int .i64 b6]∧(Lit.int .i64 b0).wf=true∧(Lit.int .i64 b1).wf=true∧(Lit.int .i64 b2).wf=true∧(Lit.int .i64 b3).wf=true∧(Lit.int .i64 b4).wf=true∧ORow 22 (fun cs=>∃ (b5b0:Int) (b5b1:Int) (b5b2:Int) (b5b3:Int) (b5b4:Int) (b5b5:Int) (b5b6:Int) (b5b7:Int) (b5b8:Int) (b5b9:Int) (b5b10:Int) (b5b11:Int) (b5b12:Option Addr) (lb5b12 cb5b12:Nat) (zb5b12:List Int) (b5b13:Option Addr) (lb5b13 cb5b13:Nat) (zb5b13:List Int) (b5b14:Int) (b5b15:Int) (b5b16:Int) (b5b17:Int) (b5b18:Int) (b5b19:Int) (b5b20:Int) (b5b21:Int),cs=[.int .i64 b5b0,.int .i64 b5b1,.int .i64 b5b2,.int .i64 b5b3,.int .i64 b5b4,.int .i64 b5b5,.int .i64 b5b6,.int .i64 b5b7,.int .i64 b5b8,.int .i64 b5b9,.int .i64 b5b10,.int .i64 b5b11,.slice b5b12 lb5b12 cb5b12,.slice b5b13 lb5b13 cb5b13,.int .i64 b5b14,.int .i64 b5b15,.int .i64 b5b16,.int .i64 b5b17,.int .i64 b5b18,.int .i64 b5b19,.int .i64 b5b20,.int .i64 b5b21]∧(Lit.int .i64 b5b0).wf=true∧(Lit.int .i64 b5b1).wf=true∧(Lit.int .i64 b5b2).wf=true∧(Lit.int .i64 b5b3).wf=true∧(Lit.int .i64 b5b4).wf=true∧(Lit.int .i64 b5b5).wf=true∧(Lit.int .i64 b5b6).wf=true∧(Lit.int .i64 b5b7).wf=true∧(Lit.int .i64 b5b8).wf=true∧(Lit.int .i64 b5b9).wf=true∧(Lit.int .i64 b5b10).wf=true∧(Lit.int .i64 b5b11).wf=true∧IRow .i16 W b5b12 lb5b12 cb5b12 zb5b12∧lb5b12*2≤140737488351232∧IRow .i32 W b5b13 lb5b13 cb5b13 zb5b13∧lb5b13*4≤140737488351232∧(Lit.int .i64 b5b14).wf=true∧(Lit.int .i64 b5b15).wf=true∧(Lit.int .i64 b5b16).wf=true∧(Lit.int .i64 b5b17).wf=true∧(Lit.int .i64 b5b18).wf=true∧(Lit.int .i64 b5b19).wf=true∧(Lit.int .i64 b5b20).wf=true∧(Lit.int .i64 b5b21).wf=true) W b5 lb5 cb5∧lb5*208≤140737488351232∧(Lit.int .i64 b6).wf=true:=by
  obtain⟨xs,m,_,hx,hl,hlen,hf⟩:=DataW.trod_struct Tryz.underlying26 h
  have hs2:Sz 26 (.agg (xs.map (·.1))):=by rw [hx] at hs;exact hs
  rw [cells26] at hl
  have g0:DataW.trod enc Tryz.prog W 0 (fun _=>true) true m 23 ((cs.drop 0).take (Tryz.prog.cellsOf 23))=xs[0]?:=hf 0 _ rfl
  obtain⟨y0,e0⟩:∃ y,xs[0]? = some y:=⟨_,List.getElem?_eq_getElem (by rw [hlen];decide)⟩
  rw [e0,cells23] at g0
  have sz0:Sz 23 y0.1:=hs2.part Tryz.underlying26 (j:=0) rfl (by rw [List.getElem?_map,e0];rfl)
  obtain⟨a0,a1,a2,c0,wa0,wa1,wa2⟩:=openCells23 g0 sz0
  have g1:DataW.trod enc Tryz.prog W 0 (fun _=>true) true m 3 ((cs.drop 3).take (Tryz.prog.cellsOf 3))=xs[1]?:=hf 1 _ rfl
  obtain⟨y1,e1⟩:∃ y,xs[1]? = some y:=⟨_,List.getElem?_eq_getElem (by rw [hlen];decide)⟩
  rw [e1,cells3] at g1
  obtain⟨a3,c1,_,wa3⟩:=DataW.trod_int Tryz.underlying3 g1
  have g2:DataW.trod enc Tryz.prog W 0 (fun _=>true) true m 3 ((cs.drop 4).take (Tryz.prog.cellsOf 3))=xs[2]?:=hf 2 _ rfl
  obtain⟨y2,e2⟩:∃ y,xs[2]? = some y:=⟨_,List.getElem?_eq_getElem (by rw [hlen];decide)⟩
  rw [e2,cells3] at g2
  obtain⟨a4,c2,_,wa4⟩:=DataW.trod_int Tryz.underlying3 g2
  have g3:DataW.trod enc Tryz.prog W 0 (fun _=>true) true m 24 ((cs.drop 5).take (Tryz.prog.cellsOf 24))=xs[3]?:=hf 3 _ rfl
  obtain⟨y3,e3⟩:∃ y,xs[3]? = some y:=⟨_,List.getElem?_eq_getElem (by rw [hlen];decide)⟩
  rw [e3,cells24] at g3
  have sz3:Sz 24 y3.1:=hs2.part Tryz.underlying26 (j:=3) rfl (by rw [List.getElem?_map,e3];rfl)
  obtain⟨a5,la5,ca5,c3,wa5,ra5⟩:=openFo (fun cs=>∃ (a5b0:Int) (a5b1:Int) (a5b2:Int) (a5b3:Int) (a5b4:Int) (a5b5:Int) (a5b6:Int) (a5b7:Int) (a5b8:Int) (a5b9:Int) (a5b10:Int) (a5b11:Int) (a5b12:Option Addr) (la5b12 ca5b12:Nat) (za5b12:List Int) (a5b13:Option Addr) (la5b13 ca5b13:Nat) (za5b13:List Int) (a5b14:Int) (a5b15:Int) (a5b16:Int) (a5b17:Int) (a5b18:Int) (a5b19:Int) (a5b20:Int) (a5b21:Int),cs=[.int .i64 a5b0,.int .i64 a5b1,.int .i64 a5b2,.int .i64 a5b3,.int .i64 a5b4,.int .i64 a5b5,.int .i64 a5b6,.int .i64 a5b7,.int .i64 a5b8,.int .i64 a5b9,.int .i64 a5b10,.int .i64 a5b11,.slice a5b12 la5b12 ca5b12,.slice a5b13 la5b13 ca5b13,.int .i64 a5b14,.int .i64 a5b15,.int .i64 a5b16,.int .i64 a5b17,.int .i64 a5b18,.int .i64 a5b19,.int .i64 a5b20,.int .i64 a5b21]∧(Lit.int .i64 a5b0).wf=true∧(Lit.int .i64 a5b1).wf=true∧(Lit.int .i64 a5b2).wf=true∧(Lit.int .i64 a5b3).wf=true∧(Lit.int .i64 a5b4).wf=true∧(Lit.int .i64 a5b5).wf=true∧(Lit.int .i64 a5b6).wf=true∧(Lit.int .i64 a5b7).wf=true∧(Lit.int .i64 a5b8).wf=true∧(Lit.int .i64 a5b9).wf=true∧(Lit.int .i64 a5b10).wf=true∧(Lit.int .i64 a5b11).wf=true∧IRow .i16 W a5b12 la5b12 ca5b12 za5b12∧la5b12*2≤140737488351232∧IRow .i32 W a5b13 la5b13 ca5b13 za5b13∧la5b13*4≤140737488351232∧(Lit.int .i64 a5b14).wf=true∧(Lit.int .i64 a5b15).wf=true∧(Lit.int .i64 a5b16).wf=true∧(Lit.int .i64 a5b17).wf=true∧(Lit.int .i64 a5b18).wf=true∧(Lit.int .i64 a5b19).wf=true∧(Lit.int .i64 a5b20).wf=true∧(Lit.int .i64 a5b21).wf=true) Tryz.underlying24 cells42 bytes42 (fun _ _ _ h hs=>openCells42 h hs) g3 sz3
  have g4:DataW.trod enc Tryz.prog W 0 (fun _=>true) true m 3 ((cs.drop 6).take (Tryz.prog.cellsOf 3))=xs[4]?:=hf 4 _ rfl
  obtain⟨y4,e4⟩:∃ y,xs[4]? = some y:=⟨_,List.getElem?_eq_getElem (by rw [hlen];decide)⟩
  rw [e4,cells3] at g4
  obtain⟨a6,c4,_,wa6⟩:=DataW.trod_int Tryz.underlying3 g4
  match cs,hl with
  | [v0,v1,v2,v3,v4,v5,v6],_ =>
    simp at c0 c1 c2 c3 c4
    obtain⟨rfl,rfl,rfl⟩:=c0
    obtain rfl:=c1
    obtain rfl:=c2
    obtain rfl:=c3
    obtain rfl:=c4
    exact⟨a0,a1,a2,a3,a4,a5,la5,ca5,a6,rfl,wa0,wa1,wa2,wa3,wa4,wa5,ra5,wa6⟩
set_option maxRecDepth 100000 in
theorem openCells28 {H:Type} {enc:TypeId×Value→H} {W:World} {fuel:Nat} {cs:List Value} {x:DataW H×List MemPlace} (h:DataW.trod enc Tryz.prog W 0 (fun _=>true) true fuel 28 cs=some x) (hs:Sz 28 x.1) :
    ∃ (b0:Int) (b1:Int),cs=[.int .i64 b0,.int .i64 b1]∧(Lit.int .i64 b0).wf=true∧(Lit.int .i64 b1).wf=true:=by
  obtain⟨xs,m,_,hx,hl,hlen,hf⟩:=DataW.trod_struct Tryz.underlying28 h
  have hs2:Sz 28 (.agg (xs.map (·.1))):=by rw [hx] at hs;exact hs
  rw [cells28] at hl
  have g0:DataW.trod enc Tryz.prog W 0 (fun _=>true) true m 2 ((cs.drop 0).take (Tryz.prog.cellsOf 2))=xs[0]?:=hf 0 _ rfl
  obtain⟨y0,e0⟩:∃ y,xs[0]? = some y:=⟨_,List.getElem?_eq_getElem (by rw [hlen];decide)⟩
  rw [e0,cells2] at g0
  obtain⟨a0,c0,_,wa0⟩:=DataW.trod_int Tryz.underlying2 g0
  have g1:DataW.trod enc Tryz.prog W 0 (fun _=>true) true m 2 ((cs.drop 1).take (Tryz.prog.cellsOf 2))=xs[1]?:=hf 1 _ rfl
  obtain⟨y1,e1⟩:∃ y,xs[1]? = some y:=⟨_,List.getElem?_eq_getElem (by rw [hlen];decide)⟩
  rw [e1,cells2] at g1
  obtain⟨a1,c1,_,wa1⟩:=DataW.trod_int Tryz.underlying2 g1
  match cs,hl with
  | [v0,v1],_ =>
    simp at c0 c1
    obtain rfl:=c0
    obtain rfl:=c1
    exact⟨a0,a1,rfl,wa0,wa1⟩
set_option maxRecDepth 100000 in
theorem openCells31 {H:Type} {enc:TypeId×Value→H} {W:World} {fuel:Nat} {cs:List Value} {x:DataW H×List MemPlace} (h:DataW.trod enc Tryz.prog W 0 (fun _=>true) true fuel 31 cs=some x) (hs:Sz 31 x.1) :
    ∃ (b0:Int) (b1:Int) (b2:Int) (b3:Int) (b4:Int) (b5:Option Addr) (lb5 cb5:Nat) (b6:Int) (b7:Int) (b8:Int) (b9:Int) (b10:Int) (b11:Int) (b12:Int) (b13:Option Addr) (lb13 cb13:Nat) (zb13:List Int),cs=[.int .i64 b0,.int .i64 b1,.int .i64 b2,.int .i64 b3,.int .i64 b4,.slice b5 lb5 cb5,.int .i64 b6,.int .i64 b7,.int .i64 b8,.int .i64 b9,.int .i64 b10,.int .i64 b11,.int .i64 b12,.slice b13 lb13 cb13]∧(Lit.int .i64 b0).wf=true∧(Lit.int .i64 b1).wf=true∧(Lit.int .i64 b2).wf=true∧(Lit.int .i64 b3).wf=true∧(Lit.int .i64 b4).wf=true∧ORow 22 (fun cs=>∃ (b5b0:Int) (b5b1:Int) (b5b2:Int) (b5b3:Int) (b5b4:Int) (b5b5:Int) (b5b6:Int) (b5b7:Int) (b5b8:Int) (b5b9:Int) (b5b10:Int) (b5b11:Int) (b5b12:Option Addr) (lb5b12 cb5b12:Nat) (zb5b12:List Int) (b5b13:Option Addr) (lb5b13 cb5b13:Nat) (zb5b13:List Int) (b5b14:Int) (b5b15:Int) (b5b16:Int) (b5b17:Int) (b5b18:Int) (b5b19:Int) (b5b20:Int) (b5b21:Int),cs=[.int .i64 b5b0,.int .i64 b5b1,.int .i64 b5b2,.int .i64 b5b3,.int .i64 b5b4,.int .i64 b5b5,.int .i64 b5b6,.int .i64 b5b7,.int .i64 b5b8,.int .i64 b5b9,.int .i64 b5b10,.int .i64 b5b11,.slice b5b12 lb5b12 cb5b12,.slice b5b13 lb5b13 cb5b13,.int .i64 b5b14,.int .i64 b5b15,.int .i64 b5b16,.int .i64 b5b17,.int .i64 b5b18,.int .i64 b5b19,.int .i64 b5b20,.int .i64 b5b21]∧(Lit.int .i64 b5b0).wf=true∧(Lit.int .i64 b5b1).wf=true∧(Lit.int .i64 b5b2).wf=true∧(Lit.int .i64 b5b3).wf=true∧(Lit.int .i64 b5b4).wf=true∧(Lit.int .i64 b5b5).wf=true∧(Lit.int .i64 b5b6).wf=true∧(Lit.int .i64 b5b7).wf=true∧(Lit.int .i64 b5b8).wf=true∧(Lit.int .i64 b5b9).wf=true∧(Lit.int .i64 b5b10).wf=true∧(Lit.int .i64 b5b11).wf=true∧IRow .i16 W b5b12 lb5b12 cb5b12 zb5b12∧lb5b12*2≤140737488351232∧IRow .i32 W b5b13 lb5b13 cb5b13 zb5b13∧lb5b13*4≤140737488351232∧(Lit.int .i64 b5b14).wf=true∧(Lit.int .i64 b5b15).wf=true∧(Lit.int .i64 b5b16).wf=true∧(Lit.int .i64 b5b17).wf=true∧(Lit.int .i64 b5b18).wf=true∧(Lit.int .i64 b5b19).wf=true∧(Lit.int .i64 b5b20).wf=true∧(Lit.int .i64 b5b21).wf=true) W b5 lb5 cb5∧lb5*208≤140737488351232∧(Lit.int .i64 b6).wf=true∧(Lit.int .i64 b7).wf=true∧(Lit.int .i64 b8).wf=true∧(Lit.int .i64 b9).wf=true∧(Lit.int .i64 b10).wf=true∧(Lit.int .i64 b11).wf=true∧(Lit.int .i64 b12).wf=true∧IRow .i8 W b13 lb13 cb13 zb13∧lb13*1≤140737488351232:=by
  obtain⟨xs,m,_,hx,hl,hlen,hf⟩:=DataW.trod_struct Tryz.underlying31 h
  have hs2:Sz 31 (.agg (xs.map (·.1))):=by rw [hx] at hs;exact hs
  rw [cells31] at hl
  have g0:DataW.trod enc Tryz.prog W 0 (fun _=>true) true m 26 ((cs.drop 0).take (Tryz.prog.cellsOf 26))=xs[0]?:=hf 0 _ rfl
  obtain⟨y0,e0⟩:∃ y,xs[0]? = some y:=⟨_,List.getElem?_eq_getElem (by rw [hlen];decide)⟩
  rw [e0,cells26] at g0
  have sz0:Sz 26 y0.1:=hs2.part Tryz.underlying31 (j:=0) rfl (by rw [List.getElem?_map,e0];rfl)
  obtain⟨a0,a1,a2,a3,a4,a5,la5,ca5,a6,c0,wa0,wa1,wa2,wa3,wa4,wa5,ra5,wa6⟩:=openCells26 g0 sz0
  have g1:DataW.trod enc Tryz.prog W 0 (fun _=>true) true m 3 ((cs.drop 7).take (Tryz.prog.cellsOf 3))=xs[1]?:=hf 1 _ rfl
  obtain⟨y1,e1⟩:∃ y,xs[1]? = some y:=⟨_,List.getElem?_eq_getElem (by rw [hlen];decide)⟩
  rw [e1,cells3] at g1
  obtain⟨a7,c1,_,wa7⟩:=DataW.trod_int Tryz.underlying3 g1
  have g2:DataW.trod enc Tryz.prog W 0 (fun _=>true) true m 3 ((cs.drop 8).take (Tryz.prog.cellsOf 3))=xs[2]?:=hf 2 _ rfl
  obtain⟨y2,e2⟩:∃ y,xs[2]? = some y:=⟨_,List.getElem?_eq_getElem (by rw [hlen];decide)⟩
  rw [e2,cells3] at g2
  obtain⟨a8,c2,_,wa8⟩:=DataW.trod_int Tryz.underlying3 g2
  have g3:DataW.trod enc Tryz.prog W 0 (fun _=>true) true m 28 ((cs.drop 9).take (Tryz.prog.cellsOf 28))=xs[3]?:=hf 3 _ rfl
  obtain⟨y3,e3⟩:∃ y,xs[3]? = some y:=⟨_,List.getElem?_eq_getElem (by rw [hlen];decide)⟩
  rw [e3,cells28] at g3
  have sz3:Sz 28 y3.1:=hs2.part Tryz.underlying31 (j:=3) rfl (by rw [List.getElem?_map,e3];rfl)
  obtain⟨a9,a10,c3,wa9,wa10⟩:=openCells28 g3 sz3
  have g4:DataW.trod enc Tryz.prog W 0 (fun _=>true) true m 3 ((cs.drop 11).take (Tryz.prog.cellsOf 3))=xs[4]?:=hf 4 _ rfl
  obtain⟨y4,e4⟩:∃ y,xs[4]? = some y:=⟨_,List.getElem?_eq_getElem (by rw [hlen];decide)⟩
  rw [e4,cells3] at g4
  obtain⟨a11,c4,_,wa11⟩:=DataW.trod_int Tryz.underlying3 g4
  have g5:DataW.trod enc Tryz.prog W 0 (fun _=>true) true m 3 ((cs.drop 12).take (Tryz.prog.cellsOf 3))=xs[5]?:=hf 5 _ rfl
  obtain⟨y5,e5⟩:∃ y,xs[5]? = some y:=⟨_,List.getElem?_eq_getElem (by rw [hlen];decide)⟩
  rw [e5,cells3] at g5
  obtain⟨a12,c5,_,wa12⟩:=DataW.trod_int Tryz.underlying3 g5
  have g6:DataW.trod enc Tryz.prog W 0 (fun _=>true) true m 29 ((cs.drop 13).take (Tryz.prog.cellsOf 29))=xs[6]?:=hf 6 _ rfl
  obtain⟨y6,e6⟩:∃ y,xs[6]? = some y:=⟨_,List.getElem?_eq_getElem (by rw [hlen];decide)⟩
  rw [e6,cells29] at g6
  have sz6:Sz 29 y6.1:=hs2.part Tryz.underlying31 (j:=6) rfl (by rw [List.getElem?_map,e6];rfl)
  obtain⟨a13,la13,ca13,za13,c6,wa13,ra13⟩:=openF Tryz.underlying29 Tryz.underlying173 cells173 bytes173 g6 sz6
  match cs,hl with
  | [v0,v1,v2,v3,v4,v5,v6,v7,v8,v9,v10,v11,v12,v13],_ =>
    simp at c0 c1 c2 c3 c4 c5 c6
    obtain⟨rfl,rfl,rfl,rfl,rfl,rfl,rfl⟩:=c0
    obtain rfl:=c1
    obtain rfl:=c2
    obtain⟨rfl,rfl⟩:=c3
    obtain rfl:=c4
    obtain rfl:=c5
    obtain rfl:=c6
    exact⟨a0,a1,a2,a3,a4,a5,la5,ca5,a6,a7,a8,a9,a10,a11,a12,a13,la13,ca13,za13,rfl,wa0,wa1,wa2,wa3,wa4,wa5,ra5,wa6,wa7,wa8,wa9,wa10,wa11,wa12,wa13,ra13⟩
set_option maxRecDepth 100000 in
theorem openStruct31 {H:Type} {enc:TypeId×Value→H} {W:World} {r:Reach} {b0:Nat} {v:Value} {d:DataW H} {ps:List MemPlace} (hval:Value.okWide Tryz.prog W r b0 31 v) (hd:DataW.Trod enc Tryz.prog W 0 (fun _=>true) true 31 v d ps) (hs:Sz 31 d) :
    ∃ (a0:Int) (a1:Int) (a2:Int) (a3:Int) (a4:Int) (a5:Option Addr) (la5 ca5:Nat) (a6:Int) (a7:Int) (a8:Int) (a9:Int) (a10:Int) (a11:Int) (a12:Int) (a13:Option Addr) (la13 ca13:Nat) (za13:List Int),v=.agg #[.int .i64 a0,.int .i64 a1,.int .i64 a2,.int .i64 a3,.int .i64 a4,.slice a5 la5 ca5,.int .i64 a6,.int .i64 a7,.int .i64 a8,.int .i64 a9,.int .i64 a10,.int .i64 a11,.int .i64 a12,.slice a13 la13 ca13]∧(Lit.int .i64 a0).wf=true∧(Lit.int .i64 a1).wf=true∧(Lit.int .i64 a2).wf=true∧(Lit.int .i64 a3).wf=true∧(Lit.int .i64 a4).wf=true∧ORow 22 (fun cs=>∃ (a5b0:Int) (a5b1:Int) (a5b2:Int) (a5b3:Int) (a5b4:Int) (a5b5:Int) (a5b6:Int) (a5b7:Int) (a5b8:Int) (a5b9:Int) (a5b10:Int) (a5b11:Int) (a5b12:Option Addr) (la5b12 ca5b12:Nat) (za5b12:List Int) (a5b13:Option Addr) (la5b13 ca5b13:Nat) (za5b13:List Int) (a5b14:Int) (a5b15:Int) (a5b16:Int) (a5b17:Int) (a5b18:Int) (a5b19:Int) (a5b20:Int) (a5b21:Int),cs=[.int .i64 a5b0,.int .i64 a5b1,.int .i64 a5b2,.int .i64 a5b3,.int .i64 a5b4,.int .i64 a5b5,.int .i64 a5b6,.int .i64 a5b7,.int .i64 a5b8,.int .i64 a5b9,.int .i64 a5b10,.int .i64 a5b11,.slice a5b12 la5b12 ca5b12,.slice a5b13 la5b13 ca5b13,.int .i64 a5b14,.int .i64 a5b15,.int .i64 a5b16,.int .i64 a5b17,.int .i64 a5b18,.int .i64 a5b19,.int .i64 a5b20,.int .i64 a5b21]∧(Lit.int .i64 a5b0).wf=true∧(Lit.int .i64 a5b1).wf=true∧(Lit.int .i64 a5b2).wf=true∧(Lit.int .i64 a5b3).wf=true∧(Lit.int .i64 a5b4).wf=true∧(Lit.int .i64 a5b5).wf=true∧(Lit.int .i64 a5b6).wf=true∧(Lit.int .i64 a5b7).wf=true∧(Lit.int .i64 a5b8).wf=true∧(Lit.int .i64 a5b9).wf=true∧(Lit.int .i64 a5b10).wf=true∧(Lit.int .i64 a5b11).wf=true∧IRow .i16 W a5b12 la5b12 ca5b12 za5b12∧la5b12*2≤140737488351232∧IRow .i32 W a5b13 la5b13 ca5b13 za5b13∧la5b13*4≤140737488351232∧(Lit.int .i64 a5b14).wf=true∧(Lit.int .i64 a5b15).wf=true∧(Lit.int .i64 a5b16).wf=true∧(Lit.int .i64 a5b17).wf=true∧(Lit.int .i64 a5b18).wf=true∧(Lit.int .i64 a5b19).wf=true∧(Lit.int .i64 a5b20).wf=true∧(Lit.int .i64 a5b21).wf=true) W a5 la5 ca5∧la5*208≤140737488351232∧(Lit.int .i64 a6).wf=true∧(Lit.int .i64 a7).wf=true∧(Lit.int .i64 a8).wf=true∧(Lit.int .i64 a9).wf=true∧(Lit.int .i64 a10).wf=true∧(Lit.int .i64 a11).wf=true∧(Lit.int .i64 a12).wf=true∧IRow .i8 W a13 la13 ca13 za13∧la13*1≤140737488351232:=by
  obtain⟨cs,rfl,_⟩:=okWide_struct Tryz.underlying31 hval
  obtain⟨fuel,hf⟩:=hd
  obtain⟨a0,a1,a2,a3,a4,a5,la5,ca5,a6,a7,a8,a9,a10,a11,a12,a13,la13,ca13,za13,hc,wa0,wa1,wa2,wa3,wa4,wa5,ra5,wa6,wa7,wa8,wa9,wa10,wa11,wa12,wa13,ra13⟩:=openCells31 hf hs
  have e:cs=#[.int .i64 a0,.int .i64 a1,.int .i64 a2,.int .i64 a3,.int .i64 a4,.slice a5 la5 ca5,.int .i64 a6,.int .i64 a7,.int .i64 a8,.int .i64 a9,.int .i64 a10,.int .i64 a11,.int .i64 a12,.slice a13 la13 ca13]:=by
    cases cs;simpa [Value.cells] using hc
  exact⟨a0,a1,a2,a3,a4,a5,la5,ca5,a6,a7,a8,a9,a10,a11,a12,a13,la13,ca13,za13,by rw [e],wa0,wa1,wa2,wa3,wa4,wa5,ra5,wa6,wa7,wa8,wa9,wa10,wa11,wa12,wa13,ra13⟩

theorem walk (a0_0:Int) (a0_1:Int) (a0_2:Int) (a0_3:Int) (a0_4:Int) (a0_5:Option Addr) (la0_5 ca0_5:Nat) (a0_6:Int) (a0_7:Int) (a0_8:Int) (a0_9:Int) (a0_10:Int) (a0_11:Int) (a0_12:Int) (a0_13:Option Addr) (la0_13 ca0_13:Nat) (za0_13:List Int) (w:World) (wa0_0:(Lit.int .i64 a0_0).wf=true) (wa0_1:(Lit.int .i64 a0_1).wf=true) (wa0_2:(Lit.int .i64 a0_2).wf=true) (wa0_3:(Lit.int .i64 a0_3).wf=true) (wa0_4:(Lit.int .i64 a0_4).wf=true) (wa0_5:ORow 22 (fun cs=>∃ (a0_5b0:Int) (a0_5b1:Int) (a0_5b2:Int) (a0_5b3:Int) (a0_5b4:Int) (a0_5b5:Int) (a0_5b6:Int) (a0_5b7:Int) (a0_5b8:Int) (a0_5b9:Int) (a0_5b10:Int) (a0_5b11:Int) (a0_5b12:Option Addr) (la0_5b12 ca0_5b12:Nat) (za0_5b12:List Int) (a0_5b13:Option Addr) (la0_5b13 ca0_5b13:Nat) (za0_5b13:List Int) (a0_5b14:Int) (a0_5b15:Int) (a0_5b16:Int) (a0_5b17:Int) (a0_5b18:Int) (a0_5b19:Int) (a0_5b20:Int) (a0_5b21:Int),cs=[.int .i64 a0_5b0,.int .i64 a0_5b1,.int .i64 a0_5b2,.int .i64 a0_5b3,.int .i64 a0_5b4,.int .i64 a0_5b5,.int .i64 a0_5b6,.int .i64 a0_5b7,.int .i64 a0_5b8,.int .i64 a0_5b9,.int .i64 a0_5b10,.int .i64 a0_5b11,.slice a0_5b12 la0_5b12 ca0_5b12,.slice a0_5b13 la0_5b13 ca0_5b13,.int .i64 a0_5b14,.int .i64 a0_5b15,.int .i64 a0_5b16,.int .i64 a0_5b17,.int .i64 a0_5b18,.int .i64 a0_5b19,.int .i64 a0_5b20,.int .i64 a0_5b21]∧(Lit.int .i64 a0_5b0).wf=true∧(Lit.int .i64 a0_5b1).wf=true∧(Lit.int .i64 a0_5b2).wf=true∧(Lit.int .i64 a0_5b3).wf=true∧(Lit.int .i64 a0_5b4).wf=true∧(Lit.int .i64 a0_5b5).wf=true∧(Lit.int .i64 a0_5b6).wf=true∧(Lit.int .i64 a0_5b7).wf=true∧(Lit.int .i64 a0_5b8).wf=true∧(Lit.int .i64 a0_5b9).wf=true∧(Lit.int .i64 a0_5b10).wf=true∧(Lit.int .i64 a0_5b11).wf=true∧IRow .i16 w a0_5b12 la0_5b12 ca0_5b12 za0_5b12∧la0_5b12*2≤140737488351232∧IRow .i32 w a0_5b13 la0_5b13 ca0_5b13 za0_5b13∧la0_5b13*4≤140737488351232∧(Lit.int .i64 a0_5b14).wf=true∧(Lit.int .i64 a0_5b15).wf=true∧(Lit.int .i64 a0_5b16).wf=true∧(Lit.int .i64 a0_5b17).wf=true∧(Lit.int .i64 a0_5b18).wf=true∧(Lit.int .i64 a0_5b19).wf=true∧(Lit.int .i64 a0_5b20).wf=true∧(Lit.int .i64 a0_5b21).wf=true) w a0_5 la0_5 ca0_5) (ra0_5:la0_5*208≤140737488351232) (wa0_6:(Lit.int .i64 a0_6).wf=true) (wa0_7:(Lit.int .i64 a0_7).wf=true) (wa0_8:(Lit.int .i64 a0_8).wf=true) (wa0_9:(Lit.int .i64 a0_9).wf=true) (wa0_10:(Lit.int .i64 a0_10).wf=true) (wa0_11:(Lit.int .i64 a0_11).wf=true) (wa0_12:(Lit.int .i64 a0_12).wf=true) (wa0_13:IRow .i8 w a0_13 la0_13 ca0_13 za0_13) (ra0_13:la0_13*1≤140737488351232) :
    Calls Tryz.prog 5 #[.agg #[.int .i64 a0_0,.int .i64 a0_1,.int .i64 a0_2,.int .i64 a0_3,.int .i64 a0_4,.slice a0_5 la0_5 ca0_5,.int .i64 a0_6,.int .i64 a0_7,.int .i64 a0_8,.int .i64 a0_9,.int .i64 a0_10,.int .i64 a0_11,.int .i64 a0_12,.slice a0_13 la0_13 ca0_13]] w fun e w'=>e=.returned (.bool true)∧Below w.heap.size w w':=by
  exact boundParts_walk a0_0 a0_1 a0_2 a0_3 a0_4 a0_5 la0_5 ca0_5 a0_6 a0_7 a0_8 a0_9 a0_10 a0_11 a0_12 a0_13 la0_13 ca0_13 za0_13 w wa0_0 wa0_1 wa0_2 wa0_3 wa0_4 wa0_5 ra0_5 wa0_6 wa0_7 wa0_8 wa0_9 wa0_10 wa0_11 wa0_12 wa0_13 ra0_13

set_option maxRecDepth 100000 in
theorem lifted (os:Os) (started:os.Started) (H:Type) (enc:TypeId×Value→H) :
    ReturnsInHanded {} Tryz.checked os 5 .any (Rows.boundPartsSpec.pre6 enc Tryz.prog Tryz.f5 Rows.boundPartsRow.domain false) (Rows.boundPartsSpec.post enc Tryz.prog Tryz.f5 false true false false):=by
  refine returnsInHanded_of_change_sized (C:=Tryz.checked) own started (by kernel_rfl) Tryz.func5
    (ChangeSpec.witness6 (enc:=enc) (C:=Tryz.checked) false ⟨#[],#[.agg #[.int .i64 0,.int .i64 0,.int .i64 0,.int .i64 0,.int .i64 0,.slice none 0 0,.int .i64 0,.int .i64 0,.int .i64 0,.int .i64 0,.int .i64 0,.int .i64 0,.int .i64 0,.slice none 0 0]],[]⟩ 8 (by kernel_rfl) (by kernel_rfl) (by kernel_rfl) (by kernel_rfl)) ?_
  intro W base args ds gs before hval0 hW hcnd hsz0 _
  have hsz:(DataW.weightsEach Tryz.prog (Tryz.f5.params.toList++Rows.boundPartsSpec.plain.varTypes Tryz.prog) (ds++gs)).all (·≤reachBytes)=true:=hsz0
  clear hsz0
  have hval:∀ (j:Nat) t v,Tryz.f5.params[j]? = some t→args[j]? = some v→Value.okWide Tryz.prog W .any base t v:=hval0
  have hW':=hW
  obtain⟨p,q,hA0,hV,rfl,hfz,hnd⟩:=hW
  have hA:DataW.TrodAll enc Tryz.prog W 0 (fun _=>true) true Tryz.f5.params.toList args.toList ds p:=hA0
  rw [Tryz.params5] at hA hval hsz
  obtain⟨v0,vs0,d0,ds0,p0,q0,hargs,rfl,rfl,h0,rr0⟩:=trodAll_cons hA
  obtain⟨rfl,rfl,rfl⟩:=trodAll_nil rr0
  obtain rfl:args=#[v0]:=by cases args;simp_all
  obtain⟨rfl,rfl⟩:=trodVars_none hV
  have k0:=h0
  have lt0:∀ x∈p0,x.block<W.heap.size:=by obtain⟨m,hm⟩:=k0;exact DataW.trod_lt m _ _ _ hm
  have sz0:Sz 31 d0:=sz_arg hsz (j:=0) rfl rfl
  obtain⟨a0_0,a0_1,a0_2,a0_3,a0_4,a0_5,la0_5,ca0_5,a0_6,a0_7,a0_8,a0_9,a0_10,a0_11,a0_12,a0_13,la0_13,ca0_13,za0_13,rfl,wa0_0,wa0_1,wa0_2,wa0_3,wa0_4,wa0_5,ra0_5,wa0_6,wa0_7,wa0_8,wa0_9,wa0_10,wa0_11,wa0_12,wa0_13,ra0_13⟩:=openStruct31 (hval 0 31 v0 rfl rfl) h0 sz0
  clear hA0 hval0
  refine (walk a0_0 a0_1 a0_2 a0_3 a0_4 a0_5 la0_5 ca0_5 a0_6 a0_7 a0_8 a0_9 a0_10 a0_11 a0_12 a0_13 la0_13 ca0_13 za0_13 W wa0_0 wa0_1 wa0_2 wa0_3 wa0_4 wa0_5 ra0_5 wa0_6 wa0_7 wa0_8 wa0_9 wa0_10 wa0_11 wa0_12 wa0_13 ra0_13).mono fun e W' ⟨he,bel⟩=>?_
  subst he
  exact⟨_,rfl,_,_,_,[],_,[],hW',trodAll_mk1 (shut_bool Tryz.underlying4 _),(trodAll_cons_mk (Below.trod laidOut (by kernel_rfl) (of_decide_eq_true (by kernel_rfl)) k0 bel lt0) trodAll_mk0),rfl,bel.frame _,fun h=>by cases h⟩

theorem proved:Rows.BoundPartsSaid :=
  OpenClaim.holds_of_wide 5 Tryz.f5 rfl rfl rfl rfl rfl rfl rfl ⟨rfl,rfl,rfl,rfl,rfl⟩ rfl rfl rfl rfl rfl (by kernel_rfl) Tryz.func5 (by kernel_rfl)
    (of_decide_eq_true (by kernel_rfl)) (by unfold Func.isWrapper;first | (rw [if_pos (by decide +kernel)];kernel_rfl) | (rw [if_neg (by decide +kernel)];exact⟨rfl,rfl⟩))
    (fun os started H enc _=>lifted os started H enc)
end Go.Proofs.YtccoanknofhmaaaGreat.boundParts
namespace Go.Proofs.YtccoanknofhmaaaGreat
theorem boundParts_holds:Rows.BoundPartsSaid:=boundParts.proved
#print axioms boundParts_holds
end Go.Proofs.YtccoanknofhmaaaGreat
