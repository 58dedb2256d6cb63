/- For every two certificates and every list of bytes: a certificate is given back by its bytes and by no other ones, and bytes that are decoded are what is encoded of it (the statement WholeCerts of the whole in full, without conditions). -/
import Derived.Test.YthlnhodfgmpabaaRows
import Derived.Test.YthlnhodfgmpabaaOpz
import Derived.Test.YthlnhodfgmpabaaSelT
import Derived.WalkKit
import Derived.ProofKit
import Derived.OpenShut
import Derived.ChangeOld
import Derived.Below
import Derived.SizedLaws
import Derived.JoinedCond
namespace Go.Proofs.Ythlnhodfgmpabaa.wholeCerts
open Go.ChangeShapes Go.WideShapes Go.ChangeAt Go.RowKit
set_option linter.unusedVariables false

theorem own : ownKnob Try.prog.godebug = none := by kernel_rfl
theorem laidOut : laidOutB Try.prog = true := by kernel_rfl
theorem cells2 : Try.prog.cellsOf 2 = 1 := by kernel_rfl
theorem cells44 : Try.prog.cellsOf 44 = 2 := by kernel_rfl
theorem cells3 : Try.prog.cellsOf 3 = 1 := by kernel_rfl
theorem cells47 : Try.prog.cellsOf 47 = 6 := by kernel_rfl
theorem cells22 : Try.prog.cellsOf 22 = 1 := by kernel_rfl
theorem bytes44 : Try.prog.bytesOf 44 = 16 := by kernel_rfl
theorem cells23 : Try.prog.cellsOf 23 = 1 := by kernel_rfl
theorem cells45 : Try.prog.cellsOf 45 = 1 := by kernel_rfl
theorem bytes45 : Try.prog.bytesOf 45 = 24 := by kernel_rfl
theorem bytes47 : Try.prog.bytesOf 47 = 48 := by kernel_rfl
theorem cells25 : Try.prog.cellsOf 25 = 2 := by kernel_rfl
set_option maxRecDepth 100000 in
theorem openCells44 {H : Type} {enc : TypeId × Value → H} {W : World} {fuel : Nat} {cs : List Value} {x : DataW H × List MemPlace} (h : DataW.trod enc Try.prog W 0 (fun _ => true) true fuel 44 cs = some x) (hs : Sz 44 x.1) :
    ∃ (b0 : Int) (b1 : Int), cs = [.int .i64 b0, .int .i64 b1] ∧ (Lit.int .i64 b0).wf = true ∧ (Lit.int .i64 b1).wf = true := by
  obtain ⟨xs, m, _, hx, hl, hlen, hf⟩ := DataW.trod_struct Try.underlying44 h
  have hs2 : Sz 44 (.agg (xs.map (·.1))) := by rw [hx] at hs; exact hs
  rw [cells44] at hl
  have g0 : DataW.trod enc Try.prog W 0 (fun _ => true) true m 2 ((cs.drop 0).take (Try.prog.cellsOf 2)) = xs[0]? := hf 0 _ rfl
  obtain ⟨y0, e0⟩ : ∃ y, xs[0]? = some y := ⟨_, List.getElem?_eq_getElem (by rw [hlen]; decide)⟩
  rw [e0, cells2] at g0
  obtain ⟨a0, c0, _, wa0⟩ := DataW.trod_int Try.underlying2 g0
  have g1 : DataW.trod enc Try.prog W 0 (fun _ => true) true m 2 ((cs.drop 1).take (Try.prog.cellsOf 2)) = xs[1]? := hf 1 _ rfl
  obtain ⟨y1, e1⟩ : ∃ y, xs[1]? = some y := ⟨_, List.getElem?_eq_getElem (by rw [hlen]; decide)⟩
  rw [e1, cells2] at g1
  obtain ⟨a1, c1, _, wa1⟩ := DataW.trod_int Try.underlying2 g1
  match cs, hl with
  | [v0, v1], _ =>
    simp at c0 c1
    obtain rfl := c0
    obtain rfl := c1
    exact ⟨a0, a1, rfl, wa0, wa1⟩
set_option maxRecDepth 100000 in
theorem openCells47 {H : Type} {enc : TypeId × Value → H} {W : World} {fuel : Nat} {cs : List Value} {x : DataW H × List MemPlace} (h : DataW.trod enc Try.prog W 0 (fun _ => true) true fuel 47 cs = some x) (hs : Sz 47 x.1) :
    ∃ (b0 : Int) (b1 : Int) (b2 : Int) (b3 : Int) (b4 : Int) (b5 : Int), cs = [.int .i64 b0, .int .i64 b1, .int .i64 b2, .int .i64 b3, .int .i64 b4, .int .i64 b5] ∧ (Lit.int .i64 b0).wf = true ∧ (Lit.int .i64 b1).wf = true ∧ (Lit.int .i64 b2).wf = true ∧ (Lit.int .i64 b3).wf = true ∧ (Lit.int .i64 b4).wf = true ∧ (Lit.int .i64 b5).wf = true := by
  obtain ⟨xs, m, _, hx, hl, hlen, hf⟩ := DataW.trod_struct Try.underlying47 h
  have hs2 : Sz 47 (.agg (xs.map (·.1))) := by rw [hx] at hs; exact hs
  rw [cells47] at hl
  have g0 : DataW.trod enc Try.prog W 0 (fun _ => true) true m 3 ((cs.drop 0).take (Try.prog.cellsOf 3)) = xs[0]? := hf 0 _ rfl
  obtain ⟨y0, e0⟩ : ∃ y, xs[0]? = some y := ⟨_, List.getElem?_eq_getElem (by rw [hlen]; decide)⟩
  rw [e0, cells3] at g0
  obtain ⟨a0, c0, _, wa0⟩ := DataW.trod_int Try.underlying3 g0
  have g1 : DataW.trod enc Try.prog W 0 (fun _ => true) true m 3 ((cs.drop 1).take (Try.prog.cellsOf 3)) = xs[1]? := hf 1 _ rfl
  obtain ⟨y1, e1⟩ : ∃ y, xs[1]? = some y := ⟨_, List.getElem?_eq_getElem (by rw [hlen]; decide)⟩
  rw [e1, cells3] at g1
  obtain ⟨a1, c1, _, wa1⟩ := DataW.trod_int Try.underlying3 g1
  have g2 : DataW.trod enc Try.prog W 0 (fun _ => true) true m 44 ((cs.drop 2).take (Try.prog.cellsOf 44)) = xs[2]? := hf 2 _ rfl
  obtain ⟨y2, e2⟩ : ∃ y, xs[2]? = some y := ⟨_, List.getElem?_eq_getElem (by rw [hlen]; decide)⟩
  rw [e2, cells44] at g2
  have sz2 : Sz 44 y2.1 := hs2.part Try.underlying47 (j := 2) rfl (by rw [List.getElem?_map, e2]; rfl)
  obtain ⟨a2, a3, c2, wa2, wa3⟩ := openCells44 g2 sz2
  have g3 : DataW.trod enc Try.prog W 0 (fun _ => true) true m 44 ((cs.drop 4).take (Try.prog.cellsOf 44)) = xs[3]? := hf 3 _ rfl
  obtain ⟨y3, e3⟩ : ∃ y, xs[3]? = some y := ⟨_, List.getElem?_eq_getElem (by rw [hlen]; decide)⟩
  rw [e3, cells44] at g3
  have sz3 : Sz 44 y3.1 := hs2.part Try.underlying47 (j := 3) rfl (by rw [List.getElem?_map, e3]; rfl)
  obtain ⟨a4, a5, c3, wa4, wa5⟩ := openCells44 g3 sz3
  match cs, hl with
  | [v0, v1, v2, v3, v4, v5], _ =>
    simp at c0 c1 c2 c3
    obtain rfl := c0
    obtain rfl := c1
    obtain ⟨rfl, rfl⟩ := c2
    obtain ⟨rfl, rfl⟩ := c3
    exact ⟨a0, a1, a2, a3, a4, a5, rfl, wa0, wa1, wa2, wa3, wa4, wa5⟩
set_option maxRecDepth 100000 in
theorem openCells25 {H : Type} {enc : TypeId × Value → H} {W : World} {fuel : Nat} {cs : List Value} {x : DataW H × List MemPlace} (h : DataW.trod enc Try.prog W 0 (fun _ => true) true fuel 25 cs = some x) (hs : Sz 25 x.1) :
    ∃ (b0 : Option Addr) (lb0 cb0 : Nat) (b1 : Option Addr) (lb1 cb1 : Nat), cs = [.slice b0 lb0 cb0, .slice b1 lb1 cb1] ∧ ORow 2 (fun cs => ∃ (b0b0 : Int) (b0b1 : Int), cs = [.int .i64 b0b0, .int .i64 b0b1] ∧ (Lit.int .i64 b0b0).wf = true ∧ (Lit.int .i64 b0b1).wf = true) W b0 lb0 cb0 ∧ lb0 * 16 ≤ 140737488351232 ∧ ORow 1 (fun cs => ∃ (b1a : Option Addr) (b1l b1c : Nat), cs = [.slice b1a b1l b1c] ∧ ORow 6 (fun cs => ∃ (b1b0 : Int) (b1b1 : Int) (b1b2 : Int) (b1b3 : Int) (b1b4 : Int) (b1b5 : Int), cs = [.int .i64 b1b0, .int .i64 b1b1, .int .i64 b1b2, .int .i64 b1b3, .int .i64 b1b4, .int .i64 b1b5] ∧ (Lit.int .i64 b1b0).wf = true ∧ (Lit.int .i64 b1b1).wf = true ∧ (Lit.int .i64 b1b2).wf = true ∧ (Lit.int .i64 b1b3).wf = true ∧ (Lit.int .i64 b1b4).wf = true ∧ (Lit.int .i64 b1b5).wf = true) W b1a b1l b1c ∧ b1l * 48 ≤ 140737488351232) W b1 lb1 cb1 ∧ lb1 * 24 ≤ 140737488351232 := by
  obtain ⟨xs, m, _, hx, hl, hlen, hf⟩ := DataW.trod_struct Try.underlying25 h
  have hs2 : Sz 25 (.agg (xs.map (·.1))) := by rw [hx] at hs; exact hs
  rw [cells25] at hl
  have g0 : DataW.trod enc Try.prog W 0 (fun _ => true) true m 22 ((cs.drop 0).take (Try.prog.cellsOf 22)) = xs[0]? := hf 0 _ rfl
  obtain ⟨y0, e0⟩ : ∃ y, xs[0]? = some y := ⟨_, List.getElem?_eq_getElem (by rw [hlen]; decide)⟩
  rw [e0, cells22] at g0
  have sz0 : Sz 22 y0.1 := hs2.part Try.underlying25 (j := 0) rfl (by rw [List.getElem?_map, e0]; rfl)
  obtain ⟨a0, la0, ca0, c0, wa0, ra0⟩ := openFo (fun cs => ∃ (a0b0 : Int) (a0b1 : Int), cs = [.int .i64 a0b0, .int .i64 a0b1] ∧ (Lit.int .i64 a0b0).wf = true ∧ (Lit.int .i64 a0b1).wf = true) Try.underlying22 cells44 bytes44 (fun _ _ _ h hs => openCells44 h hs) g0 sz0
  have g1 : DataW.trod enc Try.prog W 0 (fun _ => true) true m 23 ((cs.drop 1).take (Try.prog.cellsOf 23)) = xs[1]? := hf 1 _ rfl
  obtain ⟨y1, e1⟩ : ∃ y, xs[1]? = some y := ⟨_, List.getElem?_eq_getElem (by rw [hlen]; decide)⟩
  rw [e1, cells23] at g1
  have sz1 : Sz 23 y1.1 := hs2.part Try.underlying25 (j := 1) rfl (by rw [List.getElem?_map, e1]; rfl)
  obtain ⟨a1, la1, ca1, c1, wa1, ra1⟩ := openFo (fun cs => ∃ (a1a : Option Addr) (a1l a1c : Nat), cs = [.slice a1a a1l a1c] ∧ ORow 6 (fun cs => ∃ (a1b0 : Int) (a1b1 : Int) (a1b2 : Int) (a1b3 : Int) (a1b4 : Int) (a1b5 : Int), cs = [.int .i64 a1b0, .int .i64 a1b1, .int .i64 a1b2, .int .i64 a1b3, .int .i64 a1b4, .int .i64 a1b5] ∧ (Lit.int .i64 a1b0).wf = true ∧ (Lit.int .i64 a1b1).wf = true ∧ (Lit.int .i64 a1b2).wf = true ∧ (Lit.int .i64 a1b3).wf = true ∧ (Lit.int .i64 a1b4).wf = true ∧ (Lit.int .i64 a1b5).wf = true) W a1a a1l a1c ∧ a1l * 48 ≤ 140737488351232) Try.underlying23 cells45 bytes45 (fun _ _ _ h hs => openFo (fun cs => ∃ (a1b0 : Int) (a1b1 : Int) (a1b2 : Int) (a1b3 : Int) (a1b4 : Int) (a1b5 : Int), cs = [.int .i64 a1b0, .int .i64 a1b1, .int .i64 a1b2, .int .i64 a1b3, .int .i64 a1b4, .int .i64 a1b5] ∧ (Lit.int .i64 a1b0).wf = true ∧ (Lit.int .i64 a1b1).wf = true ∧ (Lit.int .i64 a1b2).wf = true ∧ (Lit.int .i64 a1b3).wf = true ∧ (Lit.int .i64 a1b4).wf = true ∧ (Lit.int .i64 a1b5).wf = true) Try.underlying45 cells47 bytes47 (fun _ _ _ h hs => openCells47 h hs) h hs) g1 sz1
  match cs, hl with
  | [v0, v1], _ =>
    simp at c0 c1
    obtain rfl := c0
    obtain rfl := c1
    exact ⟨a0, la0, ca0, a1, la1, ca1, rfl, wa0, ra0, wa1, ra1⟩
set_option maxRecDepth 100000 in
theorem openStruct25 {H : Type} {enc : TypeId × Value → H} {W : World} {r : Reach} {b0 : Nat} {v : Value} {d : DataW H} {ps : List MemPlace} (hval : Value.okWide Try.prog W r b0 25 v) (hd : DataW.Trod enc Try.prog W 0 (fun _ => true) true 25 v d ps) (hs : Sz 25 d) :
    ∃ (a0 : Option Addr) (la0 ca0 : Nat) (a1 : Option Addr) (la1 ca1 : Nat), v = .agg #[.slice a0 la0 ca0, .slice a1 la1 ca1] ∧ ORow 2 (fun cs => ∃ (a0b0 : Int) (a0b1 : Int), cs = [.int .i64 a0b0, .int .i64 a0b1] ∧ (Lit.int .i64 a0b0).wf = true ∧ (Lit.int .i64 a0b1).wf = true) W a0 la0 ca0 ∧ la0 * 16 ≤ 140737488351232 ∧ ORow 1 (fun cs => ∃ (a1a : Option Addr) (a1l a1c : Nat), cs = [.slice a1a a1l a1c] ∧ ORow 6 (fun cs => ∃ (a1b0 : Int) (a1b1 : Int) (a1b2 : Int) (a1b3 : Int) (a1b4 : Int) (a1b5 : Int), cs = [.int .i64 a1b0, .int .i64 a1b1, .int .i64 a1b2, .int .i64 a1b3, .int .i64 a1b4, .int .i64 a1b5] ∧ (Lit.int .i64 a1b0).wf = true ∧ (Lit.int .i64 a1b1).wf = true ∧ (Lit.int .i64 a1b2).wf = true ∧ (Lit.int .i64 a1b3).wf = true ∧ (Lit.int .i64 a1b4).wf = true ∧ (Lit.int .i64 a1b5).wf = true) W a1a a1l a1c ∧ a1l * 48 ≤ 140737488351232) W a1 la1 ca1 ∧ la1 * 24 ≤ 140737488351232 := by
  obtain ⟨cs, rfl, _⟩ := okWide_struct Try.underlying25 hval
  obtain ⟨fuel, hf⟩ := hd
  obtain ⟨a0, la0, ca0, a1, la1, ca1, hc, wa0, ra0, wa1, ra1⟩ := openCells25 hf hs
  have e : cs = #[.slice a0 la0 ca0, .slice a1 la1 ca1] := by
    cases cs; simpa [Value.cells] using hc
  exact ⟨a0, la0, ca0, a1, la1, ca1, by rw [e], wa0, ra0, wa1, ra1⟩
theorem cells5 : Try.prog.cellsOf 5 = 1 := by kernel_rfl
theorem bytes5 : Try.prog.bytesOf 5 = 1 := by kernel_rfl

theorem walk (a0_0 : Option Addr) (la0_0 ca0_0 : Nat) (a0_1 : Option Addr) (la0_1 ca0_1 : Nat) (a1_0 : Option Addr) (la1_0 ca1_0 : Nat) (a1_1 : Option Addr) (la1_1 ca1_1 : Nat) (a2 : Option Addr) (la2 ca2 : Nat) (za2 : List Int) (w : World) (wa0_0 : ORow 2 (fun cs => ∃ (a0_0b0 : Int) (a0_0b1 : Int), cs = [.int .i64 a0_0b0, .int .i64 a0_0b1] ∧ (Lit.int .i64 a0_0b0).wf = true ∧ (Lit.int .i64 a0_0b1).wf = true) w a0_0 la0_0 ca0_0) (ra0_0 : la0_0 * 16 ≤ 140737488351232) (wa0_1 : ORow 1 (fun cs => ∃ (a0_1a : Option Addr) (a0_1l a0_1c : Nat), cs = [.slice a0_1a a0_1l a0_1c] ∧ ORow 6 (fun cs => ∃ (a0_1b0 : Int) (a0_1b1 : Int) (a0_1b2 : Int) (a0_1b3 : Int) (a0_1b4 : Int) (a0_1b5 : Int), cs = [.int .i64 a0_1b0, .int .i64 a0_1b1, .int .i64 a0_1b2, .int .i64 a0_1b3, .int .i64 a0_1b4, .int .i64 a0_1b5] ∧ (Lit.int .i64 a0_1b0).wf = true ∧ (Lit.int .i64 a0_1b1).wf = true ∧ (Lit.int .i64 a0_1b2).wf = true ∧ (Lit.int .i64 a0_1b3).wf = true ∧ (Lit.int .i64 a0_1b4).wf = true ∧ (Lit.int .i64 a0_1b5).wf = true) w a0_1a a0_1l a0_1c ∧ a0_1l * 48 ≤ 140737488351232) w a0_1 la0_1 ca0_1) (ra0_1 : la0_1 * 24 ≤ 140737488351232) (wa1_0 : ORow 2 (fun cs => ∃ (a1_0b0 : Int) (a1_0b1 : Int), cs = [.int .i64 a1_0b0, .int .i64 a1_0b1] ∧ (Lit.int .i64 a1_0b0).wf = true ∧ (Lit.int .i64 a1_0b1).wf = true) w a1_0 la1_0 ca1_0) (ra1_0 : la1_0 * 16 ≤ 140737488351232) (wa1_1 : ORow 1 (fun cs => ∃ (a1_1a : Option Addr) (a1_1l a1_1c : Nat), cs = [.slice a1_1a a1_1l a1_1c] ∧ ORow 6 (fun cs => ∃ (a1_1b0 : Int) (a1_1b1 : Int) (a1_1b2 : Int) (a1_1b3 : Int) (a1_1b4 : Int) (a1_1b5 : Int), cs = [.int .i64 a1_1b0, .int .i64 a1_1b1, .int .i64 a1_1b2, .int .i64 a1_1b3, .int .i64 a1_1b4, .int .i64 a1_1b5] ∧ (Lit.int .i64 a1_1b0).wf = true ∧ (Lit.int .i64 a1_1b1).wf = true ∧ (Lit.int .i64 a1_1b2).wf = true ∧ (Lit.int .i64 a1_1b3).wf = true ∧ (Lit.int .i64 a1_1b4).wf = true ∧ (Lit.int .i64 a1_1b5).wf = true) w a1_1a a1_1l a1_1c ∧ a1_1l * 48 ≤ 140737488351232) w a1_1 la1_1 ca1_1) (ra1_1 : la1_1 * 24 ≤ 140737488351232) (wa2 : IRow .u8 w a2 la2 ca2 za2) (ra2 : la2 * 1 ≤ 140737488351232) :
    Calls Try.prog 8 #[.agg #[.slice a0_0 la0_0 ca0_0, .slice a0_1 la0_1 ca0_1], .agg #[.slice a1_0 la1_0 ca1_0, .slice a1_1 la1_1 ca1_1], .slice a2 la2 ca2] w fun e w' => e = .returned (.bool true) ∧ Below w.heap.size w w' := by
  exact wholeCerts_walk a0_0 la0_0 ca0_0 a0_1 la0_1 ca0_1 a1_0 la1_0 ca1_0 a1_1 la1_1 ca1_1 a2 la2 ca2 za2 w wa0_0 ra0_0 wa0_1 ra0_1 wa1_0 ra1_0 wa1_1 ra1_1 wa2 ra2

set_option maxRecDepth 100000 in
theorem lifted (os : Os) (started : os.Started) (H : Type) (enc : TypeId × Value → H) :
    ReturnsInHanded {} Try.checked os 8 .any (Rows.wholeCertsSpec.pre6 enc Try.prog Try.f8 Rows.wholeCertsRow.domain false) (Rows.wholeCertsSpec.post enc Try.prog Try.f8 false true false false) := by
  refine returnsInHanded_of_change_sized (C := Try.checked) own started (by kernel_rfl) Try.func8
    (ChangeSpec.witness6 (enc := enc) (C := Try.checked) false ⟨#[], #[.agg #[.slice none 0 0, .slice none 0 0], .agg #[.slice none 0 0, .slice none 0 0], .slice none 0 0], []⟩ 8 (by kernel_rfl) (by kernel_rfl) (by kernel_rfl) (by kernel_rfl)) ?_
  intro W base args ds gs before hval0 hW hcnd hsz0 _
  have hsz : (DataW.weightsEach Try.prog (Try.f8.params.toList ++ Rows.wholeCertsSpec.plain.varTypes Try.prog) (ds ++ gs)).all (· ≤ reachBytes) = true := hsz0
  clear hsz0
  have hval : ∀ (j : Nat) t v, Try.f8.params[j]? = some t → args[j]? = some v → Value.okWide Try.prog W .any base t v := hval0
  have hW' := hW
  obtain ⟨p, q, hA0, hV, rfl, hfz, hnd⟩ := hW
  have hA : DataW.TrodAll enc Try.prog W 0 (fun _ => true) true Try.f8.params.toList args.toList ds p := hA0
  rw [Try.params8] at hA hval hsz
  obtain ⟨v0, vs0, d0, ds0, p0, q0, hargs, rfl, rfl, h0, rr0⟩ := trodAll_cons hA
  obtain ⟨v1, vs1, d1, ds1, p1, q1, rfl, rfl, rfl, h1, rr1⟩ := trodAll_cons rr0
  obtain ⟨v2, vs2, d2, ds2, p2, q2, rfl, rfl, rfl, h2, rr2⟩ := trodAll_cons rr1
  obtain ⟨rfl, rfl, rfl⟩ := trodAll_nil rr2
  obtain rfl : args = #[v0, v1, v2] := by cases args; simp_all
  obtain ⟨rfl, rfl⟩ := trodVars_none hV
  have k0 := h0
  have lt0 : ∀ x ∈ p0, x.block < W.heap.size := by obtain ⟨m, hm⟩ := k0; exact DataW.trod_lt m _ _ _ hm
  have sz0 : Sz 25 d0 := sz_arg hsz (j := 0) rfl rfl
  obtain ⟨a0_0, la0_0, ca0_0, a0_1, la0_1, ca0_1, rfl, wa0_0, ra0_0, wa0_1, ra0_1⟩ := openStruct25 (hval 0 25 v0 rfl rfl) h0 sz0
  have k1 := h1
  have lt1 : ∀ x ∈ p1, x.block < W.heap.size := by obtain ⟨m, hm⟩ := k1; exact DataW.trod_lt m _ _ _ hm
  have sz1 : Sz 25 d1 := sz_arg hsz (j := 1) rfl rfl
  obtain ⟨a1_0, la1_0, ca1_0, a1_1, la1_1, ca1_1, rfl, wa1_0, ra1_0, wa1_1, ra1_1⟩ := openStruct25 (hval 1 25 v1 rfl rfl) h1 sz1
  obtain ⟨a2, la2, ca2, rfl⟩ := okWide_slice Try.underlying27 (hval 2 27 v2 rfl rfl)
  have k2 := h2
  have lt2 : ∀ x ∈ p2, x.block < W.heap.size := by obtain ⟨m, hm⟩ := k2; exact DataW.trod_lt m _ _ _ hm
  have sz2 : Sz 27 d2 := sz_arg hsz (j := 2) rfl rfl
  obtain ⟨fu2, hf2⟩ := h2
  obtain ⟨za2, wa2, ra2⟩ := openIz Try.underlying27 Try.underlying5 cells5 bytes5 hf2 sz2
  clear hA0 hval0
  refine (walk a0_0 la0_0 ca0_0 a0_1 la0_1 ca0_1 a1_0 la1_0 ca1_0 a1_1 la1_1 ca1_1 a2 la2 ca2 za2 W wa0_0 ra0_0 wa0_1 ra0_1 wa1_0 ra1_0 wa1_1 ra1_1 wa2 ra2).mono fun e W' ⟨he, bel⟩ => ?_
  subst he
  exact ⟨_, rfl, _, _, _, [], _, [], hW', trodAll_mk1 (shut_bool Try.underlying4 _), (trodAll_cons_mk (Below.trod laidOut (by kernel_rfl) (of_decide_eq_true (by kernel_rfl)) k0 bel lt0) (trodAll_cons_mk (Below.trod laidOut (by kernel_rfl) (of_decide_eq_true (by kernel_rfl)) k1 bel lt1) (trodAll_cons_mk (Below.trod laidOut (by kernel_rfl) (of_decide_eq_true (by kernel_rfl)) k2 bel lt2) trodAll_mk0))), rfl, bel.frame _, fun h => by cases h⟩

theorem proved : Rows.WholeCertsSaid :=
  OpenClaim.holds_of_wide 8 Try.f8 rfl rfl rfl rfl rfl rfl rfl ⟨rfl, rfl, rfl, rfl, rfl⟩ rfl rfl rfl rfl rfl (by kernel_rfl) Try.func8 (by kernel_rfl)
    (of_decide_eq_true (by kernel_rfl)) (by unfold Func.isWrapper; first | (rw [if_pos (by decide +kernel)]; kernel_rfl) | (rw [if_neg (by decide +kernel)]; exact ⟨rfl, rfl⟩))
    (fun os started H enc _ => lifted os started H enc)
end Go.Proofs.Ythlnhodfgmpabaa.wholeCerts
namespace Go.Proofs.Ythlnhodfgmpabaa
theorem wholeCerts_holds : Rows.WholeCertsSaid := wholeCerts.proved
#print axioms wholeCerts_holds
end Go.Proofs.Ythlnhodfgmpabaa
