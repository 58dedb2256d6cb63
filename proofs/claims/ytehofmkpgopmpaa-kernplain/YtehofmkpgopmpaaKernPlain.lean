/- Over the tensors of layer 11, with any plans, what Op of package kern answers is the next tensor of layer 11 where nothing wraps, and where it is not, something does; whatever the model, the certificate, the input and the op, with no condition. -/
import Derived.Test.YtehofmkpgopmpaaRows
import Derived.Test.YtehofmkpgopmpaaGp32
import Derived.WalkKit
import Derived.ProofKit
import Derived.OpenShut
import Derived.ChangeOld
import Derived.Below
import Derived.SizedLaws
import Derived.JoinedCond
namespace Go.Proofs.Ytehofmkpgopmpaa.kernPlain
open Go.ChangeShapes Go.WideShapes Go.ChangeAt Go.RowKit
set_option linter.unusedVariables false

theorem own : ownKnob Try.prog.godebug = none := by kernel_rfl
theorem laidOut : laidOutB Try.prog = true := by kernel_rfl
theorem cells3 : Try.prog.cellsOf 3 = 1 := by kernel_rfl
theorem cells23 : Try.prog.cellsOf 23 = 3 := by kernel_rfl
theorem cells42 : Try.prog.cellsOf 42 = 8 := by kernel_rfl
theorem cells46 : Try.prog.cellsOf 46 = 2 := by kernel_rfl
theorem cells43 : Try.prog.cellsOf 43 = 1 := by kernel_rfl
theorem cells82 : Try.prog.cellsOf 82 = 1 := by kernel_rfl
theorem bytes82 : Try.prog.bytesOf 82 = 2 := by kernel_rfl
theorem cells44 : Try.prog.cellsOf 44 = 1 := by kernel_rfl
theorem cells21 : Try.prog.cellsOf 21 = 1 := by kernel_rfl
theorem bytes21 : Try.prog.bytesOf 21 = 4 := by kernel_rfl
theorem cells48 : Try.prog.cellsOf 48 = 22 := by kernel_rfl
theorem cells24 : Try.prog.cellsOf 24 = 1 := by kernel_rfl
theorem bytes48 : Try.prog.bytesOf 48 = 208 := by kernel_rfl
theorem cells26 : Try.prog.cellsOf 26 = 7 := by kernel_rfl
theorem cells2 : Try.prog.cellsOf 2 = 1 := by kernel_rfl
theorem cells59 : Try.prog.cellsOf 59 = 2 := by kernel_rfl
theorem cells61 : Try.prog.cellsOf 61 = 6 := by kernel_rfl
theorem cells27 : Try.prog.cellsOf 27 = 1 := by kernel_rfl
theorem bytes59 : Try.prog.bytesOf 59 = 16 := by kernel_rfl
theorem cells28 : Try.prog.cellsOf 28 = 1 := by kernel_rfl
theorem cells53 : Try.prog.cellsOf 53 = 1 := by kernel_rfl
theorem bytes53 : Try.prog.bytesOf 53 = 24 := by kernel_rfl
theorem bytes61 : Try.prog.bytesOf 61 = 48 := by kernel_rfl
theorem cells30 : Try.prog.cellsOf 30 = 2 := by kernel_rfl
theorem cells31 : Try.prog.cellsOf 31 = 1 := by kernel_rfl
theorem cells63 : Try.prog.cellsOf 63 = 1 := by kernel_rfl
theorem bytes63 : Try.prog.bytesOf 63 = 1 := by kernel_rfl
theorem cells33 : Try.prog.cellsOf 33 = 10 := by kernel_rfl
set_option maxRecDepth 100000 in
theorem openCells23 {H : Type} {enc : TypeId × Value → H} {W : World} {fuel : Nat} {cs : List Value} {x : DataW H × List MemPlace} (h : DataW.trod enc Try.prog W 0 (fun _ => true) true fuel 23 cs = some x) (hs : Sz 23 x.1) :
    ∃ (b0 : Int) (b1 : Int) (b2 : Int), cs = [.int .i64 b0, .int .i64 b1, .int .i64 b2] ∧ (Lit.int .i64 b0).wf = true ∧ (Lit.int .i64 b1).wf = true ∧ (Lit.int .i64 b2).wf = true := by
  obtain ⟨xs, m, _, hx, hl, hlen, hf⟩ := DataW.trod_struct Try.underlying23 h
  have hs2 : Sz 23 (.agg (xs.map (·.1))) := by rw [hx] at hs; exact hs
  rw [cells23] at hl
  have g0 : DataW.trod enc Try.prog W 0 (fun _ => true) true m 3 ((cs.drop 0).take (Try.prog.cellsOf 3)) = xs[0]? := hf 0 _ rfl
  obtain ⟨y0, e0⟩ : ∃ y, xs[0]? = some y := ⟨_, List.getElem?_eq_getElem (by rw [hlen]; decide)⟩
  rw [e0, cells3] at g0
  obtain ⟨a0, c0, _, wa0⟩ := DataW.trod_int Try.underlying3 g0
  have g1 : DataW.trod enc Try.prog W 0 (fun _ => true) true m 3 ((cs.drop 1).take (Try.prog.cellsOf 3)) = xs[1]? := hf 1 _ rfl
  obtain ⟨y1, e1⟩ : ∃ y, xs[1]? = some y := ⟨_, List.getElem?_eq_getElem (by rw [hlen]; decide)⟩
  rw [e1, cells3] at g1
  obtain ⟨a1, c1, _, wa1⟩ := DataW.trod_int Try.underlying3 g1
  have g2 : DataW.trod enc Try.prog W 0 (fun _ => true) true m 3 ((cs.drop 2).take (Try.prog.cellsOf 3)) = xs[2]? := hf 2 _ rfl
  obtain ⟨y2, e2⟩ : ∃ y, xs[2]? = some y := ⟨_, List.getElem?_eq_getElem (by rw [hlen]; decide)⟩
  rw [e2, cells3] at g2
  obtain ⟨a2, c2, _, wa2⟩ := DataW.trod_int Try.underlying3 g2
  match cs, hl with
  | [v0, v1, v2], _ =>
    simp at c0 c1 c2
    obtain rfl := c0
    obtain rfl := c1
    obtain rfl := c2
    exact ⟨a0, a1, a2, rfl, wa0, wa1, wa2⟩
set_option maxRecDepth 100000 in
theorem openCells42 {H : Type} {enc : TypeId × Value → H} {W : World} {fuel : Nat} {cs : List Value} {x : DataW H × List MemPlace} (h : DataW.trod enc Try.prog W 0 (fun _ => true) true fuel 42 cs = some x) (hs : Sz 42 x.1) :
    ∃ (b0 : Int) (b1 : Int) (b2 : Int) (b3 : Int) (b4 : Int) (b5 : Int) (b6 : Int) (b7 : Int), cs = [.int .i64 b0, .int .i64 b1, .int .i64 b2, .int .i64 b3, .int .i64 b4, .int .i64 b5, .int .i64 b6, .int .i64 b7] ∧ (Lit.int .i64 b0).wf = true ∧ (Lit.int .i64 b1).wf = true ∧ (Lit.int .i64 b2).wf = true ∧ (Lit.int .i64 b3).wf = true ∧ (Lit.int .i64 b4).wf = true ∧ (Lit.int .i64 b5).wf = true ∧ (Lit.int .i64 b6).wf = true ∧ (Lit.int .i64 b7).wf = true := by
  obtain ⟨xs, m, _, hx, hl, hlen, hf⟩ := DataW.trod_struct Try.underlying42 h
  have hs2 : Sz 42 (.agg (xs.map (·.1))) := by rw [hx] at hs; exact hs
  rw [cells42] at hl
  have g0 : DataW.trod enc Try.prog W 0 (fun _ => true) true m 3 ((cs.drop 0).take (Try.prog.cellsOf 3)) = xs[0]? := hf 0 _ rfl
  obtain ⟨y0, e0⟩ : ∃ y, xs[0]? = some y := ⟨_, List.getElem?_eq_getElem (by rw [hlen]; decide)⟩
  rw [e0, cells3] at g0
  obtain ⟨a0, c0, _, wa0⟩ := DataW.trod_int Try.underlying3 g0
  have g1 : DataW.trod enc Try.prog W 0 (fun _ => true) true m 3 ((cs.drop 1).take (Try.prog.cellsOf 3)) = xs[1]? := hf 1 _ rfl
  obtain ⟨y1, e1⟩ : ∃ y, xs[1]? = some y := ⟨_, List.getElem?_eq_getElem (by rw [hlen]; decide)⟩
  rw [e1, cells3] at g1
  obtain ⟨a1, c1, _, wa1⟩ := DataW.trod_int Try.underlying3 g1
  have g2 : DataW.trod enc Try.prog W 0 (fun _ => true) true m 3 ((cs.drop 2).take (Try.prog.cellsOf 3)) = xs[2]? := hf 2 _ rfl
  obtain ⟨y2, e2⟩ : ∃ y, xs[2]? = some y := ⟨_, List.getElem?_eq_getElem (by rw [hlen]; decide)⟩
  rw [e2, cells3] at g2
  obtain ⟨a2, c2, _, wa2⟩ := DataW.trod_int Try.underlying3 g2
  have g3 : DataW.trod enc Try.prog W 0 (fun _ => true) true m 3 ((cs.drop 3).take (Try.prog.cellsOf 3)) = xs[3]? := hf 3 _ rfl
  obtain ⟨y3, e3⟩ : ∃ y, xs[3]? = some y := ⟨_, List.getElem?_eq_getElem (by rw [hlen]; decide)⟩
  rw [e3, cells3] at g3
  obtain ⟨a3, c3, _, wa3⟩ := DataW.trod_int Try.underlying3 g3
  have g4 : DataW.trod enc Try.prog W 0 (fun _ => true) true m 3 ((cs.drop 4).take (Try.prog.cellsOf 3)) = xs[4]? := hf 4 _ rfl
  obtain ⟨y4, e4⟩ : ∃ y, xs[4]? = some y := ⟨_, List.getElem?_eq_getElem (by rw [hlen]; decide)⟩
  rw [e4, cells3] at g4
  obtain ⟨a4, c4, _, wa4⟩ := DataW.trod_int Try.underlying3 g4
  have g5 : DataW.trod enc Try.prog W 0 (fun _ => true) true m 3 ((cs.drop 5).take (Try.prog.cellsOf 3)) = xs[5]? := hf 5 _ rfl
  obtain ⟨y5, e5⟩ : ∃ y, xs[5]? = some y := ⟨_, List.getElem?_eq_getElem (by rw [hlen]; decide)⟩
  rw [e5, cells3] at g5
  obtain ⟨a5, c5, _, wa5⟩ := DataW.trod_int Try.underlying3 g5
  have g6 : DataW.trod enc Try.prog W 0 (fun _ => true) true m 3 ((cs.drop 6).take (Try.prog.cellsOf 3)) = xs[6]? := hf 6 _ rfl
  obtain ⟨y6, e6⟩ : ∃ y, xs[6]? = some y := ⟨_, List.getElem?_eq_getElem (by rw [hlen]; decide)⟩
  rw [e6, cells3] at g6
  obtain ⟨a6, c6, _, wa6⟩ := DataW.trod_int Try.underlying3 g6
  have g7 : DataW.trod enc Try.prog W 0 (fun _ => true) true m 3 ((cs.drop 7).take (Try.prog.cellsOf 3)) = xs[7]? := hf 7 _ rfl
  obtain ⟨y7, e7⟩ : ∃ y, xs[7]? = some y := ⟨_, List.getElem?_eq_getElem (by rw [hlen]; decide)⟩
  rw [e7, cells3] at g7
  obtain ⟨a7, c7, _, wa7⟩ := DataW.trod_int Try.underlying3 g7
  match cs, hl with
  | [v0, v1, v2, v3, v4, v5, v6, v7], _ =>
    simp at c0 c1 c2 c3 c4 c5 c6 c7
    obtain rfl := c0
    obtain rfl := c1
    obtain rfl := c2
    obtain rfl := c3
    obtain rfl := c4
    obtain rfl := c5
    obtain rfl := c6
    obtain rfl := c7
    exact ⟨a0, a1, a2, a3, a4, a5, a6, a7, rfl, wa0, wa1, wa2, wa3, wa4, wa5, wa6, wa7⟩
set_option maxRecDepth 100000 in
theorem openCells46 {H : Type} {enc : TypeId × Value → H} {W : World} {fuel : Nat} {cs : List Value} {x : DataW H × List MemPlace} (h : DataW.trod enc Try.prog W 0 (fun _ => true) true fuel 46 cs = some x) (hs : Sz 46 x.1) :
    ∃ (b0 : Int) (b1 : Int), cs = [.int .i64 b0, .int .i64 b1] ∧ (Lit.int .i64 b0).wf = true ∧ (Lit.int .i64 b1).wf = true := by
  obtain ⟨xs, m, _, hx, hl, hlen, hf⟩ := DataW.trod_struct Try.underlying46 h
  have hs2 : Sz 46 (.agg (xs.map (·.1))) := by rw [hx] at hs; exact hs
  rw [cells46] at hl
  have g0 : DataW.trod enc Try.prog W 0 (fun _ => true) true m 3 ((cs.drop 0).take (Try.prog.cellsOf 3)) = xs[0]? := hf 0 _ rfl
  obtain ⟨y0, e0⟩ : ∃ y, xs[0]? = some y := ⟨_, List.getElem?_eq_getElem (by rw [hlen]; decide)⟩
  rw [e0, cells3] at g0
  obtain ⟨a0, c0, _, wa0⟩ := DataW.trod_int Try.underlying3 g0
  have g1 : DataW.trod enc Try.prog W 0 (fun _ => true) true m 3 ((cs.drop 1).take (Try.prog.cellsOf 3)) = xs[1]? := hf 1 _ rfl
  obtain ⟨y1, e1⟩ : ∃ y, xs[1]? = some y := ⟨_, List.getElem?_eq_getElem (by rw [hlen]; decide)⟩
  rw [e1, cells3] at g1
  obtain ⟨a1, c1, _, wa1⟩ := DataW.trod_int Try.underlying3 g1
  match cs, hl with
  | [v0, v1], _ =>
    simp at c0 c1
    obtain rfl := c0
    obtain rfl := c1
    exact ⟨a0, a1, rfl, wa0, wa1⟩
set_option maxRecDepth 100000 in
theorem openCells48 {H : Type} {enc : TypeId × Value → H} {W : World} {fuel : Nat} {cs : List Value} {x : DataW H × List MemPlace} (h : DataW.trod enc Try.prog W 0 (fun _ => true) true fuel 48 cs = some x) (hs : Sz 48 x.1) :
    ∃ (b0 : Int) (b1 : Int) (b2 : Int) (b3 : Int) (b4 : Int) (b5 : Int) (b6 : Int) (b7 : Int) (b8 : Int) (b9 : Int) (b10 : Int) (b11 : Int) (b12 : Option Addr) (lb12 cb12 : Nat) (zb12 : List Int) (b13 : Option Addr) (lb13 cb13 : Nat) (zb13 : List Int) (b14 : Int) (b15 : Int) (b16 : Int) (b17 : Int) (b18 : Int) (b19 : Int) (b20 : Int) (b21 : Int), cs = [.int .i64 b0, .int .i64 b1, .int .i64 b2, .int .i64 b3, .int .i64 b4, .int .i64 b5, .int .i64 b6, .int .i64 b7, .int .i64 b8, .int .i64 b9, .int .i64 b10, .int .i64 b11, .slice b12 lb12 cb12, .slice b13 lb13 cb13, .int .i64 b14, .int .i64 b15, .int .i64 b16, .int .i64 b17, .int .i64 b18, .int .i64 b19, .int .i64 b20, .int .i64 b21] ∧ (Lit.int .i64 b0).wf = true ∧ (Lit.int .i64 b1).wf = true ∧ (Lit.int .i64 b2).wf = true ∧ (Lit.int .i64 b3).wf = true ∧ (Lit.int .i64 b4).wf = true ∧ (Lit.int .i64 b5).wf = true ∧ (Lit.int .i64 b6).wf = true ∧ (Lit.int .i64 b7).wf = true ∧ (Lit.int .i64 b8).wf = true ∧ (Lit.int .i64 b9).wf = true ∧ (Lit.int .i64 b10).wf = true ∧ (Lit.int .i64 b11).wf = true ∧ IRow .i16 W b12 lb12 cb12 zb12 ∧ lb12 * 2 ≤ 140737488351232 ∧ IRow .i32 W b13 lb13 cb13 zb13 ∧ lb13 * 4 ≤ 140737488351232 ∧ (Lit.int .i64 b14).wf = true ∧ (Lit.int .i64 b15).wf = true ∧ (Lit.int .i64 b16).wf = true ∧ (Lit.int .i64 b17).wf = true ∧ (Lit.int .i64 b18).wf = true ∧ (Lit.int .i64 b19).wf = true ∧ (Lit.int .i64 b20).wf = true ∧ (Lit.int .i64 b21).wf = true := by
  obtain ⟨xs, m, _, hx, hl, hlen, hf⟩ := DataW.trod_struct Try.underlying48 h
  have hs2 : Sz 48 (.agg (xs.map (·.1))) := by rw [hx] at hs; exact hs
  rw [cells48] at hl
  have g0 : DataW.trod enc Try.prog W 0 (fun _ => true) true m 3 ((cs.drop 0).take (Try.prog.cellsOf 3)) = xs[0]? := hf 0 _ rfl
  obtain ⟨y0, e0⟩ : ∃ y, xs[0]? = some y := ⟨_, List.getElem?_eq_getElem (by rw [hlen]; decide)⟩
  rw [e0, cells3] at g0
  obtain ⟨a0, c0, _, wa0⟩ := DataW.trod_int Try.underlying3 g0
  have g1 : DataW.trod enc Try.prog W 0 (fun _ => true) true m 3 ((cs.drop 1).take (Try.prog.cellsOf 3)) = xs[1]? := hf 1 _ rfl
  obtain ⟨y1, e1⟩ : ∃ y, xs[1]? = some y := ⟨_, List.getElem?_eq_getElem (by rw [hlen]; decide)⟩
  rw [e1, cells3] at g1
  obtain ⟨a1, c1, _, wa1⟩ := DataW.trod_int Try.underlying3 g1
  have g2 : DataW.trod enc Try.prog W 0 (fun _ => true) true m 3 ((cs.drop 2).take (Try.prog.cellsOf 3)) = xs[2]? := hf 2 _ rfl
  obtain ⟨y2, e2⟩ : ∃ y, xs[2]? = some y := ⟨_, List.getElem?_eq_getElem (by rw [hlen]; decide)⟩
  rw [e2, cells3] at g2
  obtain ⟨a2, c2, _, wa2⟩ := DataW.trod_int Try.underlying3 g2
  have g3 : DataW.trod enc Try.prog W 0 (fun _ => true) true m 3 ((cs.drop 3).take (Try.prog.cellsOf 3)) = xs[3]? := hf 3 _ rfl
  obtain ⟨y3, e3⟩ : ∃ y, xs[3]? = some y := ⟨_, List.getElem?_eq_getElem (by rw [hlen]; decide)⟩
  rw [e3, cells3] at g3
  obtain ⟨a3, c3, _, wa3⟩ := DataW.trod_int Try.underlying3 g3
  have g4 : DataW.trod enc Try.prog W 0 (fun _ => true) true m 42 ((cs.drop 4).take (Try.prog.cellsOf 42)) = xs[4]? := hf 4 _ rfl
  obtain ⟨y4, e4⟩ : ∃ y, xs[4]? = some y := ⟨_, List.getElem?_eq_getElem (by rw [hlen]; decide)⟩
  rw [e4, cells42] at g4
  have sz4 : Sz 42 y4.1 := hs2.part Try.underlying48 (j := 4) rfl (by rw [List.getElem?_map, e4]; rfl)
  obtain ⟨a4, a5, a6, a7, a8, a9, a10, a11, c4, wa4, wa5, wa6, wa7, wa8, wa9, wa10, wa11⟩ := openCells42 g4 sz4
  have g5 : DataW.trod enc Try.prog W 0 (fun _ => true) true m 43 ((cs.drop 12).take (Try.prog.cellsOf 43)) = xs[5]? := hf 5 _ rfl
  obtain ⟨y5, e5⟩ : ∃ y, xs[5]? = some y := ⟨_, List.getElem?_eq_getElem (by rw [hlen]; decide)⟩
  rw [e5, cells43] at g5
  have sz5 : Sz 43 y5.1 := hs2.part Try.underlying48 (j := 5) rfl (by rw [List.getElem?_map, e5]; rfl)
  obtain ⟨a12, la12, ca12, za12, c5, wa12, ra12⟩ := openF Try.underlying43 Try.underlying82 cells82 bytes82 g5 sz5
  have g6 : DataW.trod enc Try.prog W 0 (fun _ => true) true m 44 ((cs.drop 13).take (Try.prog.cellsOf 44)) = xs[6]? := hf 6 _ rfl
  obtain ⟨y6, e6⟩ : ∃ y, xs[6]? = some y := ⟨_, List.getElem?_eq_getElem (by rw [hlen]; decide)⟩
  rw [e6, cells44] at g6
  have sz6 : Sz 44 y6.1 := hs2.part Try.underlying48 (j := 6) rfl (by rw [List.getElem?_map, e6]; rfl)
  obtain ⟨a13, la13, ca13, za13, c6, wa13, ra13⟩ := openF Try.underlying44 Try.underlying21 cells21 bytes21 g6 sz6
  have g7 : DataW.trod enc Try.prog W 0 (fun _ => true) true m 46 ((cs.drop 14).take (Try.prog.cellsOf 46)) = xs[7]? := hf 7 _ rfl
  obtain ⟨y7, e7⟩ : ∃ y, xs[7]? = some y := ⟨_, List.getElem?_eq_getElem (by rw [hlen]; decide)⟩
  rw [e7, cells46] at g7
  have sz7 : Sz 46 y7.1 := hs2.part Try.underlying48 (j := 7) rfl (by rw [List.getElem?_map, e7]; rfl)
  obtain ⟨a14, a15, c7, wa14, wa15⟩ := openCells46 g7 sz7
  have g8 : DataW.trod enc Try.prog W 0 (fun _ => true) true m 46 ((cs.drop 16).take (Try.prog.cellsOf 46)) = xs[8]? := hf 8 _ rfl
  obtain ⟨y8, e8⟩ : ∃ y, xs[8]? = some y := ⟨_, List.getElem?_eq_getElem (by rw [hlen]; decide)⟩
  rw [e8, cells46] at g8
  have sz8 : Sz 46 y8.1 := hs2.part Try.underlying48 (j := 8) rfl (by rw [List.getElem?_map, e8]; rfl)
  obtain ⟨a16, a17, c8, wa16, wa17⟩ := openCells46 g8 sz8
  have g9 : DataW.trod enc Try.prog W 0 (fun _ => true) true m 3 ((cs.drop 18).take (Try.prog.cellsOf 3)) = xs[9]? := hf 9 _ rfl
  obtain ⟨y9, e9⟩ : ∃ y, xs[9]? = some y := ⟨_, List.getElem?_eq_getElem (by rw [hlen]; decide)⟩
  rw [e9, cells3] at g9
  obtain ⟨a18, c9, _, wa18⟩ := DataW.trod_int Try.underlying3 g9
  have g10 : DataW.trod enc Try.prog W 0 (fun _ => true) true m 3 ((cs.drop 19).take (Try.prog.cellsOf 3)) = xs[10]? := hf 10 _ rfl
  obtain ⟨y10, e10⟩ : ∃ y, xs[10]? = some y := ⟨_, List.getElem?_eq_getElem (by rw [hlen]; decide)⟩
  rw [e10, cells3] at g10
  obtain ⟨a19, c10, _, wa19⟩ := DataW.trod_int Try.underlying3 g10
  have g11 : DataW.trod enc Try.prog W 0 (fun _ => true) true m 3 ((cs.drop 20).take (Try.prog.cellsOf 3)) = xs[11]? := hf 11 _ rfl
  obtain ⟨y11, e11⟩ : ∃ y, xs[11]? = some y := ⟨_, List.getElem?_eq_getElem (by rw [hlen]; decide)⟩
  rw [e11, cells3] at g11
  obtain ⟨a20, c11, _, wa20⟩ := DataW.trod_int Try.underlying3 g11
  have g12 : DataW.trod enc Try.prog W 0 (fun _ => true) true m 3 ((cs.drop 21).take (Try.prog.cellsOf 3)) = xs[12]? := hf 12 _ rfl
  obtain ⟨y12, e12⟩ : ∃ y, xs[12]? = some y := ⟨_, List.getElem?_eq_getElem (by rw [hlen]; decide)⟩
  rw [e12, cells3] at g12
  obtain ⟨a21, c12, _, wa21⟩ := DataW.trod_int Try.underlying3 g12
  match cs, hl with
  | [v0, v1, v2, v3, v4, v5, v6, v7, v8, v9, v10, v11, v12, v13, v14, v15, v16, v17, v18, v19, v20, v21], _ =>
    simp at c0 c1 c2 c3 c4 c5 c6 c7 c8 c9 c10 c11 c12
    obtain rfl := c0
    obtain rfl := c1
    obtain rfl := c2
    obtain rfl := c3
    obtain ⟨rfl, rfl, rfl, rfl, rfl, rfl, rfl, rfl⟩ := c4
    obtain rfl := c5
    obtain rfl := c6
    obtain ⟨rfl, rfl⟩ := c7
    obtain ⟨rfl, rfl⟩ := c8
    obtain rfl := c9
    obtain rfl := c10
    obtain rfl := c11
    obtain rfl := c12
    exact ⟨a0, a1, a2, a3, a4, a5, a6, a7, a8, a9, a10, a11, a12, la12, ca12, za12, a13, la13, ca13, za13, a14, a15, a16, a17, a18, a19, a20, a21, rfl, wa0, wa1, wa2, wa3, wa4, wa5, wa6, wa7, wa8, wa9, wa10, wa11, wa12, ra12, wa13, ra13, wa14, wa15, wa16, wa17, wa18, wa19, wa20, wa21⟩
set_option maxRecDepth 100000 in
theorem openCells26 {H : Type} {enc : TypeId × Value → H} {W : World} {fuel : Nat} {cs : List Value} {x : DataW H × List MemPlace} (h : DataW.trod enc Try.prog W 0 (fun _ => true) true fuel 26 cs = some x) (hs : Sz 26 x.1) :
    ∃ (b0 : Int) (b1 : Int) (b2 : Int) (b3 : Int) (b4 : Int) (b5 : Option Addr) (lb5 cb5 : Nat) (b6 : Int), cs = [.int .i64 b0, .int .i64 b1, .int .i64 b2, .int .i64 b3, .int .i64 b4, .slice b5 lb5 cb5, .int .i64 b6] ∧ (Lit.int .i64 b0).wf = true ∧ (Lit.int .i64 b1).wf = true ∧ (Lit.int .i64 b2).wf = true ∧ (Lit.int .i64 b3).wf = true ∧ (Lit.int .i64 b4).wf = true ∧ ORow 22 (fun cs => ∃ (b5b0 : Int) (b5b1 : Int) (b5b2 : Int) (b5b3 : Int) (b5b4 : Int) (b5b5 : Int) (b5b6 : Int) (b5b7 : Int) (b5b8 : Int) (b5b9 : Int) (b5b10 : Int) (b5b11 : Int) (b5b12 : Option Addr) (lb5b12 cb5b12 : Nat) (zb5b12 : List Int) (b5b13 : Option Addr) (lb5b13 cb5b13 : Nat) (zb5b13 : List Int) (b5b14 : Int) (b5b15 : Int) (b5b16 : Int) (b5b17 : Int) (b5b18 : Int) (b5b19 : Int) (b5b20 : Int) (b5b21 : Int), cs = [.int .i64 b5b0, .int .i64 b5b1, .int .i64 b5b2, .int .i64 b5b3, .int .i64 b5b4, .int .i64 b5b5, .int .i64 b5b6, .int .i64 b5b7, .int .i64 b5b8, .int .i64 b5b9, .int .i64 b5b10, .int .i64 b5b11, .slice b5b12 lb5b12 cb5b12, .slice b5b13 lb5b13 cb5b13, .int .i64 b5b14, .int .i64 b5b15, .int .i64 b5b16, .int .i64 b5b17, .int .i64 b5b18, .int .i64 b5b19, .int .i64 b5b20, .int .i64 b5b21] ∧ (Lit.int .i64 b5b0).wf = true ∧ (Lit.int .i64 b5b1).wf = true ∧ (Lit.int .i64 b5b2).wf = true ∧ (Lit.int .i64 b5b3).wf = true ∧ (Lit.int .i64 b5b4).wf = true ∧ (Lit.int .i64 b5b5).wf = true ∧ (Lit.int .i64 b5b6).wf = true ∧ (Lit.int .i64 b5b7).wf = true ∧ (Lit.int .i64 b5b8).wf = true ∧ (Lit.int .i64 b5b9).wf = true ∧ (Lit.int .i64 b5b10).wf = true ∧ (Lit.int .i64 b5b11).wf = true ∧ IRow .i16 W b5b12 lb5b12 cb5b12 zb5b12 ∧ lb5b12 * 2 ≤ 140737488351232 ∧ IRow .i32 W b5b13 lb5b13 cb5b13 zb5b13 ∧ lb5b13 * 4 ≤ 140737488351232 ∧ (Lit.int .i64 b5b14).wf = true ∧ (Lit.int .i64 b5b15).wf = true ∧ (Lit.int .i64 b5b16).wf = true ∧ (Lit.int .i64 b5b17).wf = true ∧ (Lit.int .i64 b5b18).wf = true ∧ (Lit.int .i64 b5b19).wf = true ∧ (Lit.int .i64 b5b20).wf = true ∧ (Lit.int .i64 b5b21).wf = true) W b5 lb5 cb5 ∧ lb5 * 208 ≤ 140737488351232 ∧ (Lit.int .i64 b6).wf = true := by
  obtain ⟨xs, m, _, hx, hl, hlen, hf⟩ := DataW.trod_struct Try.underlying26 h
  have hs2 : Sz 26 (.agg (xs.map (·.1))) := by rw [hx] at hs; exact hs
  rw [cells26] at hl
  have g0 : DataW.trod enc Try.prog W 0 (fun _ => true) true m 23 ((cs.drop 0).take (Try.prog.cellsOf 23)) = xs[0]? := hf 0 _ rfl
  obtain ⟨y0, e0⟩ : ∃ y, xs[0]? = some y := ⟨_, List.getElem?_eq_getElem (by rw [hlen]; decide)⟩
  rw [e0, cells23] at g0
  have sz0 : Sz 23 y0.1 := hs2.part Try.underlying26 (j := 0) rfl (by rw [List.getElem?_map, e0]; rfl)
  obtain ⟨a0, a1, a2, c0, wa0, wa1, wa2⟩ := openCells23 g0 sz0
  have g1 : DataW.trod enc Try.prog W 0 (fun _ => true) true m 3 ((cs.drop 3).take (Try.prog.cellsOf 3)) = xs[1]? := hf 1 _ rfl
  obtain ⟨y1, e1⟩ : ∃ y, xs[1]? = some y := ⟨_, List.getElem?_eq_getElem (by rw [hlen]; decide)⟩
  rw [e1, cells3] at g1
  obtain ⟨a3, c1, _, wa3⟩ := DataW.trod_int Try.underlying3 g1
  have g2 : DataW.trod enc Try.prog W 0 (fun _ => true) true m 3 ((cs.drop 4).take (Try.prog.cellsOf 3)) = xs[2]? := hf 2 _ rfl
  obtain ⟨y2, e2⟩ : ∃ y, xs[2]? = some y := ⟨_, List.getElem?_eq_getElem (by rw [hlen]; decide)⟩
  rw [e2, cells3] at g2
  obtain ⟨a4, c2, _, wa4⟩ := DataW.trod_int Try.underlying3 g2
  have g3 : DataW.trod enc Try.prog W 0 (fun _ => true) true m 24 ((cs.drop 5).take (Try.prog.cellsOf 24)) = xs[3]? := hf 3 _ rfl
  obtain ⟨y3, e3⟩ : ∃ y, xs[3]? = some y := ⟨_, List.getElem?_eq_getElem (by rw [hlen]; decide)⟩
  rw [e3, cells24] at g3
  have sz3 : Sz 24 y3.1 := hs2.part Try.underlying26 (j := 3) rfl (by rw [List.getElem?_map, e3]; rfl)
  obtain ⟨a5, la5, ca5, c3, wa5, ra5⟩ := openFo (fun cs => ∃ (a5b0 : Int) (a5b1 : Int) (a5b2 : Int) (a5b3 : Int) (a5b4 : Int) (a5b5 : Int) (a5b6 : Int) (a5b7 : Int) (a5b8 : Int) (a5b9 : Int) (a5b10 : Int) (a5b11 : Int) (a5b12 : Option Addr) (la5b12 ca5b12 : Nat) (za5b12 : List Int) (a5b13 : Option Addr) (la5b13 ca5b13 : Nat) (za5b13 : List Int) (a5b14 : Int) (a5b15 : Int) (a5b16 : Int) (a5b17 : Int) (a5b18 : Int) (a5b19 : Int) (a5b20 : Int) (a5b21 : Int), cs = [.int .i64 a5b0, .int .i64 a5b1, .int .i64 a5b2, .int .i64 a5b3, .int .i64 a5b4, .int .i64 a5b5, .int .i64 a5b6, .int .i64 a5b7, .int .i64 a5b8, .int .i64 a5b9, .int .i64 a5b10, .int .i64 a5b11, .slice a5b12 la5b12 ca5b12, .slice a5b13 la5b13 ca5b13, .int .i64 a5b14, .int .i64 a5b15, .int .i64 a5b16, .int .i64 a5b17, .int .i64 a5b18, .int .i64 a5b19, .int .i64 a5b20, .int .i64 a5b21] ∧ (Lit.int .i64 a5b0).wf = true ∧ (Lit.int .i64 a5b1).wf = true ∧ (Lit.int .i64 a5b2).wf = true ∧ (Lit.int .i64 a5b3).wf = true ∧ (Lit.int .i64 a5b4).wf = true ∧ (Lit.int .i64 a5b5).wf = true ∧ (Lit.int .i64 a5b6).wf = true ∧ (Lit.int .i64 a5b7).wf = true ∧ (Lit.int .i64 a5b8).wf = true ∧ (Lit.int .i64 a5b9).wf = true ∧ (Lit.int .i64 a5b10).wf = true ∧ (Lit.int .i64 a5b11).wf = true ∧ IRow .i16 W a5b12 la5b12 ca5b12 za5b12 ∧ la5b12 * 2 ≤ 140737488351232 ∧ IRow .i32 W a5b13 la5b13 ca5b13 za5b13 ∧ la5b13 * 4 ≤ 140737488351232 ∧ (Lit.int .i64 a5b14).wf = true ∧ (Lit.int .i64 a5b15).wf = true ∧ (Lit.int .i64 a5b16).wf = true ∧ (Lit.int .i64 a5b17).wf = true ∧ (Lit.int .i64 a5b18).wf = true ∧ (Lit.int .i64 a5b19).wf = true ∧ (Lit.int .i64 a5b20).wf = true ∧ (Lit.int .i64 a5b21).wf = true) Try.underlying24 cells48 bytes48 (fun _ _ _ h hs => openCells48 h hs) g3 sz3
  have g4 : DataW.trod enc Try.prog W 0 (fun _ => true) true m 3 ((cs.drop 6).take (Try.prog.cellsOf 3)) = xs[4]? := hf 4 _ rfl
  obtain ⟨y4, e4⟩ : ∃ y, xs[4]? = some y := ⟨_, List.getElem?_eq_getElem (by rw [hlen]; decide)⟩
  rw [e4, cells3] at g4
  obtain ⟨a6, c4, _, wa6⟩ := DataW.trod_int Try.underlying3 g4
  match cs, hl with
  | [v0, v1, v2, v3, v4, v5, v6], _ =>
    simp at c0 c1 c2 c3 c4
    obtain ⟨rfl, rfl, rfl⟩ := c0
    obtain rfl := c1
    obtain rfl := c2
    obtain rfl := c3
    obtain rfl := c4
    exact ⟨a0, a1, a2, a3, a4, a5, la5, ca5, a6, rfl, wa0, wa1, wa2, wa3, wa4, wa5, ra5, wa6⟩
set_option maxRecDepth 100000 in
theorem openCells59 {H : Type} {enc : TypeId × Value → H} {W : World} {fuel : Nat} {cs : List Value} {x : DataW H × List MemPlace} (h : DataW.trod enc Try.prog W 0 (fun _ => true) true fuel 59 cs = some x) (hs : Sz 59 x.1) :
    ∃ (b0 : Int) (b1 : Int), cs = [.int .i64 b0, .int .i64 b1] ∧ (Lit.int .i64 b0).wf = true ∧ (Lit.int .i64 b1).wf = true := by
  obtain ⟨xs, m, _, hx, hl, hlen, hf⟩ := DataW.trod_struct Try.underlying59 h
  have hs2 : Sz 59 (.agg (xs.map (·.1))) := by rw [hx] at hs; exact hs
  rw [cells59] at hl
  have g0 : DataW.trod enc Try.prog W 0 (fun _ => true) true m 2 ((cs.drop 0).take (Try.prog.cellsOf 2)) = xs[0]? := hf 0 _ rfl
  obtain ⟨y0, e0⟩ : ∃ y, xs[0]? = some y := ⟨_, List.getElem?_eq_getElem (by rw [hlen]; decide)⟩
  rw [e0, cells2] at g0
  obtain ⟨a0, c0, _, wa0⟩ := DataW.trod_int Try.underlying2 g0
  have g1 : DataW.trod enc Try.prog W 0 (fun _ => true) true m 2 ((cs.drop 1).take (Try.prog.cellsOf 2)) = xs[1]? := hf 1 _ rfl
  obtain ⟨y1, e1⟩ : ∃ y, xs[1]? = some y := ⟨_, List.getElem?_eq_getElem (by rw [hlen]; decide)⟩
  rw [e1, cells2] at g1
  obtain ⟨a1, c1, _, wa1⟩ := DataW.trod_int Try.underlying2 g1
  match cs, hl with
  | [v0, v1], _ =>
    simp at c0 c1
    obtain rfl := c0
    obtain rfl := c1
    exact ⟨a0, a1, rfl, wa0, wa1⟩
set_option maxRecDepth 100000 in
theorem openCells61 {H : Type} {enc : TypeId × Value → H} {W : World} {fuel : Nat} {cs : List Value} {x : DataW H × List MemPlace} (h : DataW.trod enc Try.prog W 0 (fun _ => true) true fuel 61 cs = some x) (hs : Sz 61 x.1) :
    ∃ (b0 : Int) (b1 : Int) (b2 : Int) (b3 : Int) (b4 : Int) (b5 : Int), cs = [.int .i64 b0, .int .i64 b1, .int .i64 b2, .int .i64 b3, .int .i64 b4, .int .i64 b5] ∧ (Lit.int .i64 b0).wf = true ∧ (Lit.int .i64 b1).wf = true ∧ (Lit.int .i64 b2).wf = true ∧ (Lit.int .i64 b3).wf = true ∧ (Lit.int .i64 b4).wf = true ∧ (Lit.int .i64 b5).wf = true := by
  obtain ⟨xs, m, _, hx, hl, hlen, hf⟩ := DataW.trod_struct Try.underlying61 h
  have hs2 : Sz 61 (.agg (xs.map (·.1))) := by rw [hx] at hs; exact hs
  rw [cells61] at hl
  have g0 : DataW.trod enc Try.prog W 0 (fun _ => true) true m 3 ((cs.drop 0).take (Try.prog.cellsOf 3)) = xs[0]? := hf 0 _ rfl
  obtain ⟨y0, e0⟩ : ∃ y, xs[0]? = some y := ⟨_, List.getElem?_eq_getElem (by rw [hlen]; decide)⟩
  rw [e0, cells3] at g0
  obtain ⟨a0, c0, _, wa0⟩ := DataW.trod_int Try.underlying3 g0
  have g1 : DataW.trod enc Try.prog W 0 (fun _ => true) true m 3 ((cs.drop 1).take (Try.prog.cellsOf 3)) = xs[1]? := hf 1 _ rfl
  obtain ⟨y1, e1⟩ : ∃ y, xs[1]? = some y := ⟨_, List.getElem?_eq_getElem (by rw [hlen]; decide)⟩
  rw [e1, cells3] at g1
  obtain ⟨a1, c1, _, wa1⟩ := DataW.trod_int Try.underlying3 g1
  have g2 : DataW.trod enc Try.prog W 0 (fun _ => true) true m 59 ((cs.drop 2).take (Try.prog.cellsOf 59)) = xs[2]? := hf 2 _ rfl
  obtain ⟨y2, e2⟩ : ∃ y, xs[2]? = some y := ⟨_, List.getElem?_eq_getElem (by rw [hlen]; decide)⟩
  rw [e2, cells59] at g2
  have sz2 : Sz 59 y2.1 := hs2.part Try.underlying61 (j := 2) rfl (by rw [List.getElem?_map, e2]; rfl)
  obtain ⟨a2, a3, c2, wa2, wa3⟩ := openCells59 g2 sz2
  have g3 : DataW.trod enc Try.prog W 0 (fun _ => true) true m 59 ((cs.drop 4).take (Try.prog.cellsOf 59)) = xs[3]? := hf 3 _ rfl
  obtain ⟨y3, e3⟩ : ∃ y, xs[3]? = some y := ⟨_, List.getElem?_eq_getElem (by rw [hlen]; decide)⟩
  rw [e3, cells59] at g3
  have sz3 : Sz 59 y3.1 := hs2.part Try.underlying61 (j := 3) rfl (by rw [List.getElem?_map, e3]; rfl)
  obtain ⟨a4, a5, c3, wa4, wa5⟩ := openCells59 g3 sz3
  match cs, hl with
  | [v0, v1, v2, v3, v4, v5], _ =>
    simp at c0 c1 c2 c3
    obtain rfl := c0
    obtain rfl := c1
    obtain ⟨rfl, rfl⟩ := c2
    obtain ⟨rfl, rfl⟩ := c3
    exact ⟨a0, a1, a2, a3, a4, a5, rfl, wa0, wa1, wa2, wa3, wa4, wa5⟩
set_option maxRecDepth 100000 in
theorem openCells30 {H : Type} {enc : TypeId × Value → H} {W : World} {fuel : Nat} {cs : List Value} {x : DataW H × List MemPlace} (h : DataW.trod enc Try.prog W 0 (fun _ => true) true fuel 30 cs = some x) (hs : Sz 30 x.1) :
    ∃ (b0 : Option Addr) (lb0 cb0 : Nat) (b1 : Option Addr) (lb1 cb1 : Nat), cs = [.slice b0 lb0 cb0, .slice b1 lb1 cb1] ∧ ORow 2 (fun cs => ∃ (b0b0 : Int) (b0b1 : Int), cs = [.int .i64 b0b0, .int .i64 b0b1] ∧ (Lit.int .i64 b0b0).wf = true ∧ (Lit.int .i64 b0b1).wf = true) W b0 lb0 cb0 ∧ lb0 * 16 ≤ 140737488351232 ∧ ORow 1 (fun cs => ∃ (b1a : Option Addr) (b1l b1c : Nat), cs = [.slice b1a b1l b1c] ∧ ORow 6 (fun cs => ∃ (b1b0 : Int) (b1b1 : Int) (b1b2 : Int) (b1b3 : Int) (b1b4 : Int) (b1b5 : Int), cs = [.int .i64 b1b0, .int .i64 b1b1, .int .i64 b1b2, .int .i64 b1b3, .int .i64 b1b4, .int .i64 b1b5] ∧ (Lit.int .i64 b1b0).wf = true ∧ (Lit.int .i64 b1b1).wf = true ∧ (Lit.int .i64 b1b2).wf = true ∧ (Lit.int .i64 b1b3).wf = true ∧ (Lit.int .i64 b1b4).wf = true ∧ (Lit.int .i64 b1b5).wf = true) W b1a b1l b1c ∧ b1l * 48 ≤ 140737488351232) W b1 lb1 cb1 ∧ lb1 * 24 ≤ 140737488351232 := by
  obtain ⟨xs, m, _, hx, hl, hlen, hf⟩ := DataW.trod_struct Try.underlying30 h
  have hs2 : Sz 30 (.agg (xs.map (·.1))) := by rw [hx] at hs; exact hs
  rw [cells30] at hl
  have g0 : DataW.trod enc Try.prog W 0 (fun _ => true) true m 27 ((cs.drop 0).take (Try.prog.cellsOf 27)) = xs[0]? := hf 0 _ rfl
  obtain ⟨y0, e0⟩ : ∃ y, xs[0]? = some y := ⟨_, List.getElem?_eq_getElem (by rw [hlen]; decide)⟩
  rw [e0, cells27] at g0
  have sz0 : Sz 27 y0.1 := hs2.part Try.underlying30 (j := 0) rfl (by rw [List.getElem?_map, e0]; rfl)
  obtain ⟨a0, la0, ca0, c0, wa0, ra0⟩ := openFo (fun cs => ∃ (a0b0 : Int) (a0b1 : Int), cs = [.int .i64 a0b0, .int .i64 a0b1] ∧ (Lit.int .i64 a0b0).wf = true ∧ (Lit.int .i64 a0b1).wf = true) Try.underlying27 cells59 bytes59 (fun _ _ _ h hs => openCells59 h hs) g0 sz0
  have g1 : DataW.trod enc Try.prog W 0 (fun _ => true) true m 28 ((cs.drop 1).take (Try.prog.cellsOf 28)) = xs[1]? := hf 1 _ rfl
  obtain ⟨y1, e1⟩ : ∃ y, xs[1]? = some y := ⟨_, List.getElem?_eq_getElem (by rw [hlen]; decide)⟩
  rw [e1, cells28] at g1
  have sz1 : Sz 28 y1.1 := hs2.part Try.underlying30 (j := 1) rfl (by rw [List.getElem?_map, e1]; rfl)
  obtain ⟨a1, la1, ca1, c1, wa1, ra1⟩ := openFo (fun cs => ∃ (a1a : Option Addr) (a1l a1c : Nat), cs = [.slice a1a a1l a1c] ∧ ORow 6 (fun cs => ∃ (a1b0 : Int) (a1b1 : Int) (a1b2 : Int) (a1b3 : Int) (a1b4 : Int) (a1b5 : Int), cs = [.int .i64 a1b0, .int .i64 a1b1, .int .i64 a1b2, .int .i64 a1b3, .int .i64 a1b4, .int .i64 a1b5] ∧ (Lit.int .i64 a1b0).wf = true ∧ (Lit.int .i64 a1b1).wf = true ∧ (Lit.int .i64 a1b2).wf = true ∧ (Lit.int .i64 a1b3).wf = true ∧ (Lit.int .i64 a1b4).wf = true ∧ (Lit.int .i64 a1b5).wf = true) W a1a a1l a1c ∧ a1l * 48 ≤ 140737488351232) Try.underlying28 cells53 bytes53 (fun _ _ _ h hs => openFo (fun cs => ∃ (a1b0 : Int) (a1b1 : Int) (a1b2 : Int) (a1b3 : Int) (a1b4 : Int) (a1b5 : Int), cs = [.int .i64 a1b0, .int .i64 a1b1, .int .i64 a1b2, .int .i64 a1b3, .int .i64 a1b4, .int .i64 a1b5] ∧ (Lit.int .i64 a1b0).wf = true ∧ (Lit.int .i64 a1b1).wf = true ∧ (Lit.int .i64 a1b2).wf = true ∧ (Lit.int .i64 a1b3).wf = true ∧ (Lit.int .i64 a1b4).wf = true ∧ (Lit.int .i64 a1b5).wf = true) Try.underlying53 cells61 bytes61 (fun _ _ _ h hs => openCells61 h hs) h hs) g1 sz1
  match cs, hl with
  | [v0, v1], _ =>
    simp at c0 c1
    obtain rfl := c0
    obtain rfl := c1
    exact ⟨a0, la0, ca0, a1, la1, ca1, rfl, wa0, ra0, wa1, ra1⟩
set_option maxRecDepth 100000 in
theorem openCells33 {H : Type} {enc : TypeId × Value → H} {W : World} {fuel : Nat} {cs : List Value} {x : DataW H × List MemPlace} (h : DataW.trod enc Try.prog W 0 (fun _ => true) true fuel 33 cs = some x) (hs : Sz 33 x.1) :
    ∃ (b0 : Int) (b1 : Int) (b2 : Int) (b3 : Int) (b4 : Int) (b5 : Option Addr) (lb5 cb5 : Nat) (b6 : Int) (b7 : Option Addr) (lb7 cb7 : Nat) (b8 : Option Addr) (lb8 cb8 : Nat) (b9 : Option Addr) (lb9 cb9 : Nat) (zb9 : List Int), cs = [.int .i64 b0, .int .i64 b1, .int .i64 b2, .int .i64 b3, .int .i64 b4, .slice b5 lb5 cb5, .int .i64 b6, .slice b7 lb7 cb7, .slice b8 lb8 cb8, .slice b9 lb9 cb9] ∧ (Lit.int .i64 b0).wf = true ∧ (Lit.int .i64 b1).wf = true ∧ (Lit.int .i64 b2).wf = true ∧ (Lit.int .i64 b3).wf = true ∧ (Lit.int .i64 b4).wf = true ∧ ORow 22 (fun cs => ∃ (b5b0 : Int) (b5b1 : Int) (b5b2 : Int) (b5b3 : Int) (b5b4 : Int) (b5b5 : Int) (b5b6 : Int) (b5b7 : Int) (b5b8 : Int) (b5b9 : Int) (b5b10 : Int) (b5b11 : Int) (b5b12 : Option Addr) (lb5b12 cb5b12 : Nat) (zb5b12 : List Int) (b5b13 : Option Addr) (lb5b13 cb5b13 : Nat) (zb5b13 : List Int) (b5b14 : Int) (b5b15 : Int) (b5b16 : Int) (b5b17 : Int) (b5b18 : Int) (b5b19 : Int) (b5b20 : Int) (b5b21 : Int), cs = [.int .i64 b5b0, .int .i64 b5b1, .int .i64 b5b2, .int .i64 b5b3, .int .i64 b5b4, .int .i64 b5b5, .int .i64 b5b6, .int .i64 b5b7, .int .i64 b5b8, .int .i64 b5b9, .int .i64 b5b10, .int .i64 b5b11, .slice b5b12 lb5b12 cb5b12, .slice b5b13 lb5b13 cb5b13, .int .i64 b5b14, .int .i64 b5b15, .int .i64 b5b16, .int .i64 b5b17, .int .i64 b5b18, .int .i64 b5b19, .int .i64 b5b20, .int .i64 b5b21] ∧ (Lit.int .i64 b5b0).wf = true ∧ (Lit.int .i64 b5b1).wf = true ∧ (Lit.int .i64 b5b2).wf = true ∧ (Lit.int .i64 b5b3).wf = true ∧ (Lit.int .i64 b5b4).wf = true ∧ (Lit.int .i64 b5b5).wf = true ∧ (Lit.int .i64 b5b6).wf = true ∧ (Lit.int .i64 b5b7).wf = true ∧ (Lit.int .i64 b5b8).wf = true ∧ (Lit.int .i64 b5b9).wf = true ∧ (Lit.int .i64 b5b10).wf = true ∧ (Lit.int .i64 b5b11).wf = true ∧ IRow .i16 W b5b12 lb5b12 cb5b12 zb5b12 ∧ lb5b12 * 2 ≤ 140737488351232 ∧ IRow .i32 W b5b13 lb5b13 cb5b13 zb5b13 ∧ lb5b13 * 4 ≤ 140737488351232 ∧ (Lit.int .i64 b5b14).wf = true ∧ (Lit.int .i64 b5b15).wf = true ∧ (Lit.int .i64 b5b16).wf = true ∧ (Lit.int .i64 b5b17).wf = true ∧ (Lit.int .i64 b5b18).wf = true ∧ (Lit.int .i64 b5b19).wf = true ∧ (Lit.int .i64 b5b20).wf = true ∧ (Lit.int .i64 b5b21).wf = true) W b5 lb5 cb5 ∧ lb5 * 208 ≤ 140737488351232 ∧ (Lit.int .i64 b6).wf = true ∧ ORow 2 (fun cs => ∃ (b7b0 : Int) (b7b1 : Int), cs = [.int .i64 b7b0, .int .i64 b7b1] ∧ (Lit.int .i64 b7b0).wf = true ∧ (Lit.int .i64 b7b1).wf = true) W b7 lb7 cb7 ∧ lb7 * 16 ≤ 140737488351232 ∧ ORow 1 (fun cs => ∃ (b8a : Option Addr) (b8l b8c : Nat), cs = [.slice b8a b8l b8c] ∧ ORow 6 (fun cs => ∃ (b8b0 : Int) (b8b1 : Int) (b8b2 : Int) (b8b3 : Int) (b8b4 : Int) (b8b5 : Int), cs = [.int .i64 b8b0, .int .i64 b8b1, .int .i64 b8b2, .int .i64 b8b3, .int .i64 b8b4, .int .i64 b8b5] ∧ (Lit.int .i64 b8b0).wf = true ∧ (Lit.int .i64 b8b1).wf = true ∧ (Lit.int .i64 b8b2).wf = true ∧ (Lit.int .i64 b8b3).wf = true ∧ (Lit.int .i64 b8b4).wf = true ∧ (Lit.int .i64 b8b5).wf = true) W b8a b8l b8c ∧ b8l * 48 ≤ 140737488351232) W b8 lb8 cb8 ∧ lb8 * 24 ≤ 140737488351232 ∧ IRow .i8 W b9 lb9 cb9 zb9 ∧ lb9 * 1 ≤ 140737488351232 := by
  obtain ⟨xs, m, _, hx, hl, hlen, hf⟩ := DataW.trod_struct Try.underlying33 h
  have hs2 : Sz 33 (.agg (xs.map (·.1))) := by rw [hx] at hs; exact hs
  rw [cells33] at hl
  have g0 : DataW.trod enc Try.prog W 0 (fun _ => true) true m 26 ((cs.drop 0).take (Try.prog.cellsOf 26)) = xs[0]? := hf 0 _ rfl
  obtain ⟨y0, e0⟩ : ∃ y, xs[0]? = some y := ⟨_, List.getElem?_eq_getElem (by rw [hlen]; decide)⟩
  rw [e0, cells26] at g0
  have sz0 : Sz 26 y0.1 := hs2.part Try.underlying33 (j := 0) rfl (by rw [List.getElem?_map, e0]; rfl)
  obtain ⟨a0, a1, a2, a3, a4, a5, la5, ca5, a6, c0, wa0, wa1, wa2, wa3, wa4, wa5, ra5, wa6⟩ := openCells26 g0 sz0
  have g1 : DataW.trod enc Try.prog W 0 (fun _ => true) true m 30 ((cs.drop 7).take (Try.prog.cellsOf 30)) = xs[1]? := hf 1 _ rfl
  obtain ⟨y1, e1⟩ : ∃ y, xs[1]? = some y := ⟨_, List.getElem?_eq_getElem (by rw [hlen]; decide)⟩
  rw [e1, cells30] at g1
  have sz1 : Sz 30 y1.1 := hs2.part Try.underlying33 (j := 1) rfl (by rw [List.getElem?_map, e1]; rfl)
  obtain ⟨a7, la7, ca7, a8, la8, ca8, c1, wa7, ra7, wa8, ra8⟩ := openCells30 g1 sz1
  have g2 : DataW.trod enc Try.prog W 0 (fun _ => true) true m 31 ((cs.drop 9).take (Try.prog.cellsOf 31)) = xs[2]? := hf 2 _ rfl
  obtain ⟨y2, e2⟩ : ∃ y, xs[2]? = some y := ⟨_, List.getElem?_eq_getElem (by rw [hlen]; decide)⟩
  rw [e2, cells31] at g2
  have sz2 : Sz 31 y2.1 := hs2.part Try.underlying33 (j := 2) rfl (by rw [List.getElem?_map, e2]; rfl)
  obtain ⟨a9, la9, ca9, za9, c2, wa9, ra9⟩ := openF Try.underlying31 Try.underlying63 cells63 bytes63 g2 sz2
  match cs, hl with
  | [v0, v1, v2, v3, v4, v5, v6, v7, v8, v9], _ =>
    simp at c0 c1 c2
    obtain ⟨rfl, rfl, rfl, rfl, rfl, rfl, rfl⟩ := c0
    obtain ⟨rfl, rfl⟩ := c1
    obtain rfl := c2
    exact ⟨a0, a1, a2, a3, a4, a5, la5, ca5, a6, a7, la7, ca7, a8, la8, ca8, a9, la9, ca9, za9, rfl, wa0, wa1, wa2, wa3, wa4, wa5, ra5, wa6, wa7, ra7, wa8, ra8, wa9, ra9⟩
set_option maxRecDepth 100000 in
theorem openStruct33 {H : Type} {enc : TypeId × Value → H} {W : World} {r : Reach} {b0 : Nat} {v : Value} {d : DataW H} {ps : List MemPlace} (hval : Value.okWide Try.prog W r b0 33 v) (hd : DataW.Trod enc Try.prog W 0 (fun _ => true) true 33 v d ps) (hs : Sz 33 d) :
    ∃ (a0 : Int) (a1 : Int) (a2 : Int) (a3 : Int) (a4 : Int) (a5 : Option Addr) (la5 ca5 : Nat) (a6 : Int) (a7 : Option Addr) (la7 ca7 : Nat) (a8 : Option Addr) (la8 ca8 : Nat) (a9 : Option Addr) (la9 ca9 : Nat) (za9 : List Int), v = .agg #[.int .i64 a0, .int .i64 a1, .int .i64 a2, .int .i64 a3, .int .i64 a4, .slice a5 la5 ca5, .int .i64 a6, .slice a7 la7 ca7, .slice a8 la8 ca8, .slice a9 la9 ca9] ∧ (Lit.int .i64 a0).wf = true ∧ (Lit.int .i64 a1).wf = true ∧ (Lit.int .i64 a2).wf = true ∧ (Lit.int .i64 a3).wf = true ∧ (Lit.int .i64 a4).wf = true ∧ ORow 22 (fun cs => ∃ (a5b0 : Int) (a5b1 : Int) (a5b2 : Int) (a5b3 : Int) (a5b4 : Int) (a5b5 : Int) (a5b6 : Int) (a5b7 : Int) (a5b8 : Int) (a5b9 : Int) (a5b10 : Int) (a5b11 : Int) (a5b12 : Option Addr) (la5b12 ca5b12 : Nat) (za5b12 : List Int) (a5b13 : Option Addr) (la5b13 ca5b13 : Nat) (za5b13 : List Int) (a5b14 : Int) (a5b15 : Int) (a5b16 : Int) (a5b17 : Int) (a5b18 : Int) (a5b19 : Int) (a5b20 : Int) (a5b21 : Int), cs = [.int .i64 a5b0, .int .i64 a5b1, .int .i64 a5b2, .int .i64 a5b3, .int .i64 a5b4, .int .i64 a5b5, .int .i64 a5b6, .int .i64 a5b7, .int .i64 a5b8, .int .i64 a5b9, .int .i64 a5b10, .int .i64 a5b11, .slice a5b12 la5b12 ca5b12, .slice a5b13 la5b13 ca5b13, .int .i64 a5b14, .int .i64 a5b15, .int .i64 a5b16, .int .i64 a5b17, .int .i64 a5b18, .int .i64 a5b19, .int .i64 a5b20, .int .i64 a5b21] ∧ (Lit.int .i64 a5b0).wf = true ∧ (Lit.int .i64 a5b1).wf = true ∧ (Lit.int .i64 a5b2).wf = true ∧ (Lit.int .i64 a5b3).wf = true ∧ (Lit.int .i64 a5b4).wf = true ∧ (Lit.int .i64 a5b5).wf = true ∧ (Lit.int .i64 a5b6).wf = true ∧ (Lit.int .i64 a5b7).wf = true ∧ (Lit.int .i64 a5b8).wf = true ∧ (Lit.int .i64 a5b9).wf = true ∧ (Lit.int .i64 a5b10).wf = true ∧ (Lit.int .i64 a5b11).wf = true ∧ IRow .i16 W a5b12 la5b12 ca5b12 za5b12 ∧ la5b12 * 2 ≤ 140737488351232 ∧ IRow .i32 W a5b13 la5b13 ca5b13 za5b13 ∧ la5b13 * 4 ≤ 140737488351232 ∧ (Lit.int .i64 a5b14).wf = true ∧ (Lit.int .i64 a5b15).wf = true ∧ (Lit.int .i64 a5b16).wf = true ∧ (Lit.int .i64 a5b17).wf = true ∧ (Lit.int .i64 a5b18).wf = true ∧ (Lit.int .i64 a5b19).wf = true ∧ (Lit.int .i64 a5b20).wf = true ∧ (Lit.int .i64 a5b21).wf = true) W a5 la5 ca5 ∧ la5 * 208 ≤ 140737488351232 ∧ (Lit.int .i64 a6).wf = true ∧ ORow 2 (fun cs => ∃ (a7b0 : Int) (a7b1 : Int), cs = [.int .i64 a7b0, .int .i64 a7b1] ∧ (Lit.int .i64 a7b0).wf = true ∧ (Lit.int .i64 a7b1).wf = true) W a7 la7 ca7 ∧ la7 * 16 ≤ 140737488351232 ∧ ORow 1 (fun cs => ∃ (a8a : Option Addr) (a8l a8c : Nat), cs = [.slice a8a a8l a8c] ∧ ORow 6 (fun cs => ∃ (a8b0 : Int) (a8b1 : Int) (a8b2 : Int) (a8b3 : Int) (a8b4 : Int) (a8b5 : Int), cs = [.int .i64 a8b0, .int .i64 a8b1, .int .i64 a8b2, .int .i64 a8b3, .int .i64 a8b4, .int .i64 a8b5] ∧ (Lit.int .i64 a8b0).wf = true ∧ (Lit.int .i64 a8b1).wf = true ∧ (Lit.int .i64 a8b2).wf = true ∧ (Lit.int .i64 a8b3).wf = true ∧ (Lit.int .i64 a8b4).wf = true ∧ (Lit.int .i64 a8b5).wf = true) W a8a a8l a8c ∧ a8l * 48 ≤ 140737488351232) W a8 la8 ca8 ∧ la8 * 24 ≤ 140737488351232 ∧ IRow .i8 W a9 la9 ca9 za9 ∧ la9 * 1 ≤ 140737488351232 := by
  obtain ⟨cs, rfl, _⟩ := okWide_struct Try.underlying33 hval
  obtain ⟨fuel, hf⟩ := hd
  obtain ⟨a0, a1, a2, a3, a4, a5, la5, ca5, a6, a7, la7, ca7, a8, la8, ca8, a9, la9, ca9, za9, hc, wa0, wa1, wa2, wa3, wa4, wa5, ra5, wa6, wa7, ra7, wa8, ra8, wa9, ra9⟩ := openCells33 hf hs
  have e : cs = #[.int .i64 a0, .int .i64 a1, .int .i64 a2, .int .i64 a3, .int .i64 a4, .slice a5 la5 ca5, .int .i64 a6, .slice a7 la7 ca7, .slice a8 la8 ca8, .slice a9 la9 ca9] := by
    cases cs; simpa [Value.cells] using hc
  exact ⟨a0, a1, a2, a3, a4, a5, la5, ca5, a6, a7, la7, ca7, a8, la8, ca8, a9, la9, ca9, za9, by rw [e], wa0, wa1, wa2, wa3, wa4, wa5, ra5, wa6, wa7, ra7, wa8, ra8, wa9, ra9⟩

theorem walk (a0_0 : Int) (a0_1 : Int) (a0_2 : Int) (a0_3 : Int) (a0_4 : Int) (a0_5 : Option Addr) (la0_5 ca0_5 : Nat) (a0_6 : Int) (a0_7 : Option Addr) (la0_7 ca0_7 : Nat) (a0_8 : Option Addr) (la0_8 ca0_8 : Nat) (a0_9 : Option Addr) (la0_9 ca0_9 : Nat) (za0_9 : List Int) (a1 : Int) (w : World) (wa0_0 : (Lit.int .i64 a0_0).wf = true) (wa0_1 : (Lit.int .i64 a0_1).wf = true) (wa0_2 : (Lit.int .i64 a0_2).wf = true) (wa0_3 : (Lit.int .i64 a0_3).wf = true) (wa0_4 : (Lit.int .i64 a0_4).wf = true) (wa0_5 : ORow 22 (fun cs => ∃ (a0_5b0 : Int) (a0_5b1 : Int) (a0_5b2 : Int) (a0_5b3 : Int) (a0_5b4 : Int) (a0_5b5 : Int) (a0_5b6 : Int) (a0_5b7 : Int) (a0_5b8 : Int) (a0_5b9 : Int) (a0_5b10 : Int) (a0_5b11 : Int) (a0_5b12 : Option Addr) (la0_5b12 ca0_5b12 : Nat) (za0_5b12 : List Int) (a0_5b13 : Option Addr) (la0_5b13 ca0_5b13 : Nat) (za0_5b13 : List Int) (a0_5b14 : Int) (a0_5b15 : Int) (a0_5b16 : Int) (a0_5b17 : Int) (a0_5b18 : Int) (a0_5b19 : Int) (a0_5b20 : Int) (a0_5b21 : Int), cs = [.int .i64 a0_5b0, .int .i64 a0_5b1, .int .i64 a0_5b2, .int .i64 a0_5b3, .int .i64 a0_5b4, .int .i64 a0_5b5, .int .i64 a0_5b6, .int .i64 a0_5b7, .int .i64 a0_5b8, .int .i64 a0_5b9, .int .i64 a0_5b10, .int .i64 a0_5b11, .slice a0_5b12 la0_5b12 ca0_5b12, .slice a0_5b13 la0_5b13 ca0_5b13, .int .i64 a0_5b14, .int .i64 a0_5b15, .int .i64 a0_5b16, .int .i64 a0_5b17, .int .i64 a0_5b18, .int .i64 a0_5b19, .int .i64 a0_5b20, .int .i64 a0_5b21] ∧ (Lit.int .i64 a0_5b0).wf = true ∧ (Lit.int .i64 a0_5b1).wf = true ∧ (Lit.int .i64 a0_5b2).wf = true ∧ (Lit.int .i64 a0_5b3).wf = true ∧ (Lit.int .i64 a0_5b4).wf = true ∧ (Lit.int .i64 a0_5b5).wf = true ∧ (Lit.int .i64 a0_5b6).wf = true ∧ (Lit.int .i64 a0_5b7).wf = true ∧ (Lit.int .i64 a0_5b8).wf = true ∧ (Lit.int .i64 a0_5b9).wf = true ∧ (Lit.int .i64 a0_5b10).wf = true ∧ (Lit.int .i64 a0_5b11).wf = true ∧ IRow .i16 w a0_5b12 la0_5b12 ca0_5b12 za0_5b12 ∧ la0_5b12 * 2 ≤ 140737488351232 ∧ IRow .i32 w a0_5b13 la0_5b13 ca0_5b13 za0_5b13 ∧ la0_5b13 * 4 ≤ 140737488351232 ∧ (Lit.int .i64 a0_5b14).wf = true ∧ (Lit.int .i64 a0_5b15).wf = true ∧ (Lit.int .i64 a0_5b16).wf = true ∧ (Lit.int .i64 a0_5b17).wf = true ∧ (Lit.int .i64 a0_5b18).wf = true ∧ (Lit.int .i64 a0_5b19).wf = true ∧ (Lit.int .i64 a0_5b20).wf = true ∧ (Lit.int .i64 a0_5b21).wf = true) w a0_5 la0_5 ca0_5) (ra0_5 : la0_5 * 208 ≤ 140737488351232) (wa0_6 : (Lit.int .i64 a0_6).wf = true) (wa0_7 : ORow 2 (fun cs => ∃ (a0_7b0 : Int) (a0_7b1 : Int), cs = [.int .i64 a0_7b0, .int .i64 a0_7b1] ∧ (Lit.int .i64 a0_7b0).wf = true ∧ (Lit.int .i64 a0_7b1).wf = true) w a0_7 la0_7 ca0_7) (ra0_7 : la0_7 * 16 ≤ 140737488351232) (wa0_8 : ORow 1 (fun cs => ∃ (a0_8a : Option Addr) (a0_8l a0_8c : Nat), cs = [.slice a0_8a a0_8l a0_8c] ∧ ORow 6 (fun cs => ∃ (a0_8b0 : Int) (a0_8b1 : Int) (a0_8b2 : Int) (a0_8b3 : Int) (a0_8b4 : Int) (a0_8b5 : Int), cs = [.int .i64 a0_8b0, .int .i64 a0_8b1, .int .i64 a0_8b2, .int .i64 a0_8b3, .int .i64 a0_8b4, .int .i64 a0_8b5] ∧ (Lit.int .i64 a0_8b0).wf = true ∧ (Lit.int .i64 a0_8b1).wf = true ∧ (Lit.int .i64 a0_8b2).wf = true ∧ (Lit.int .i64 a0_8b3).wf = true ∧ (Lit.int .i64 a0_8b4).wf = true ∧ (Lit.int .i64 a0_8b5).wf = true) w a0_8a a0_8l a0_8c ∧ a0_8l * 48 ≤ 140737488351232) w a0_8 la0_8 ca0_8) (ra0_8 : la0_8 * 24 ≤ 140737488351232) (wa0_9 : IRow .i8 w a0_9 la0_9 ca0_9 za0_9) (ra0_9 : la0_9 * 1 ≤ 140737488351232) (w1 : (Lit.int .i64 a1).wf = true) :
    Calls Try.prog 3 #[.agg #[.int .i64 a0_0, .int .i64 a0_1, .int .i64 a0_2, .int .i64 a0_3, .int .i64 a0_4, .slice a0_5 la0_5 ca0_5, .int .i64 a0_6, .slice a0_7 la0_7 ca0_7, .slice a0_8 la0_8 ca0_8, .slice a0_9 la0_9 ca0_9], .int .i64 a1] w fun e w' => e = .returned (.bool true) ∧ Below w.heap.size w w' := by
  exact kernPlain_walk a0_0 a0_1 a0_2 a0_3 a0_4 a0_5 la0_5 ca0_5 a0_6 a0_7 la0_7 ca0_7 a0_8 la0_8 ca0_8 a0_9 la0_9 ca0_9 za0_9 a1 w wa0_0 wa0_1 wa0_2 wa0_3 wa0_4 wa0_5 ra0_5 wa0_6 wa0_7 ra0_7 wa0_8 ra0_8 wa0_9 ra0_9 w1

set_option maxRecDepth 100000 in
theorem lifted (os : Os) (started : os.Started) (H : Type) (enc : TypeId × Value → H) :
    ReturnsInHanded {} Try.checked os 3 .any (Rows.kernPlainSpec.pre6 enc Try.prog Try.f3 Rows.kernPlainRow.domain false) (Rows.kernPlainSpec.post enc Try.prog Try.f3 false true false false) := by
  refine returnsInHanded_of_change_sized (C := Try.checked) own started (by kernel_rfl) Try.func3
    (ChangeSpec.witness6 (enc := enc) (C := Try.checked) false ⟨#[], #[.agg #[.int .i64 0, .int .i64 0, .int .i64 0, .int .i64 0, .int .i64 0, .slice none 0 0, .int .i64 0, .slice none 0 0, .slice none 0 0, .slice none 0 0], .int .i64 0], []⟩ 8 (by kernel_rfl) (by kernel_rfl) (by kernel_rfl) (by kernel_rfl)) ?_
  intro W base args ds gs before hval0 hW hcnd hsz0 _
  have hsz : (DataW.weightsEach Try.prog (Try.f3.params.toList ++ Rows.kernPlainSpec.plain.varTypes Try.prog) (ds ++ gs)).all (· ≤ reachBytes) = true := hsz0
  clear hsz0
  have hval : ∀ (j : Nat) t v, Try.f3.params[j]? = some t → args[j]? = some v → Value.okWide Try.prog W .any base t v := hval0
  have hW' := hW
  obtain ⟨p, q, hA0, hV, rfl, hfz, hnd⟩ := hW
  have hA : DataW.TrodAll enc Try.prog W 0 (fun _ => true) true Try.f3.params.toList args.toList ds p := hA0
  rw [Try.params3] at hA hval hsz
  obtain ⟨v0, vs0, d0, ds0, p0, q0, hargs, rfl, rfl, h0, rr0⟩ := trodAll_cons hA
  obtain ⟨v1, vs1, d1, ds1, p1, q1, rfl, rfl, rfl, h1, rr1⟩ := trodAll_cons rr0
  obtain ⟨rfl, rfl, rfl⟩ := trodAll_nil rr1
  obtain rfl : args = #[v0, v1] := by cases args; simp_all
  obtain ⟨rfl, rfl⟩ := trodVars_none hV
  have k0 := h0
  have lt0 : ∀ x ∈ p0, x.block < W.heap.size := by obtain ⟨m, hm⟩ := k0; exact DataW.trod_lt m _ _ _ hm
  have sz0 : Sz 33 d0 := sz_arg hsz (j := 0) rfl rfl
  obtain ⟨a0_0, a0_1, a0_2, a0_3, a0_4, a0_5, la0_5, ca0_5, a0_6, a0_7, la0_7, ca0_7, a0_8, la0_8, ca0_8, a0_9, la0_9, ca0_9, za0_9, rfl, wa0_0, wa0_1, wa0_2, wa0_3, wa0_4, wa0_5, ra0_5, wa0_6, wa0_7, ra0_7, wa0_8, ra0_8, wa0_9, ra0_9⟩ := openStruct33 (hval 0 33 v0 rfl rfl) h0 sz0
  obtain ⟨a1, rfl, rfl, rfl, w1⟩ := open_int Try.underlying3 (hval 1 3 v1 rfl rfl) h1
  clear hA0 hval0
  refine (walk a0_0 a0_1 a0_2 a0_3 a0_4 a0_5 la0_5 ca0_5 a0_6 a0_7 la0_7 ca0_7 a0_8 la0_8 ca0_8 a0_9 la0_9 ca0_9 za0_9 a1 W wa0_0 wa0_1 wa0_2 wa0_3 wa0_4 wa0_5 ra0_5 wa0_6 wa0_7 ra0_7 wa0_8 ra0_8 wa0_9 ra0_9 w1).mono fun e W' ⟨he, bel⟩ => ?_
  subst he
  exact ⟨_, rfl, _, _, _, [], _, [], hW', trodAll_mk1 (shut_bool Try.underlying4 _), (trodAll_cons_mk (Below.trod laidOut (by kernel_rfl) (of_decide_eq_true (by kernel_rfl)) k0 bel lt0) (trodAll_cons_mk (shut_int Try.underlying3 w1) trodAll_mk0)), rfl, bel.frame _, fun h => by cases h⟩

theorem proved : Rows.KernPlainSaid :=
  OpenClaim.holds_of_wide 3 Try.f3 rfl rfl rfl rfl rfl rfl rfl ⟨rfl, rfl, rfl, rfl, rfl⟩ rfl rfl rfl rfl rfl (by kernel_rfl) Try.func3 (by kernel_rfl)
    (of_decide_eq_true (by kernel_rfl)) (by unfold Func.isWrapper; first | (rw [if_pos (by decide +kernel)]; kernel_rfl) | (rw [if_neg (by decide +kernel)]; exact ⟨rfl, rfl⟩))
    (fun os started H enc _ => lifted os started H enc)
end Go.Proofs.Ytehofmkpgopmpaa.kernPlain
namespace Go.Proofs.Ytehofmkpgopmpaa
theorem kernPlain_holds : Rows.KernPlainSaid := kernPlain.proved
#print axioms kernPlain_holds
end Go.Proofs.Ytehofmkpgopmpaa
