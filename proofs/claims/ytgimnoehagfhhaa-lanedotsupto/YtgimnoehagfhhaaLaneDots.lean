/- Every Dot answers the register, the Track or the error that the document's answer does, and leaves what it was handed: proved for all lists that are together no longer than 1048576 (the second form). -/
import Derived.Test.YtgimnoehagfhhaaRows
import Derived.Test.YtgimnoehagfhhaaOpu
import Derived.Test.YtgimnoehagfhhaaLanM
import Derived.WalkKit
import Derived.ProofKit
import Derived.OpenShut
import Derived.ChangeOld
import Derived.Below
import Derived.SizedLaws
import Derived.JoinedCond
namespace Go.Proofs.Ytgimnoehagfhhaa.laneDots
open Go.ChangeShapes Go.WideShapes Go.ChangeAt Go.RowKit
set_option linter.unusedVariables false

theorem own : ownKnob Try.prog.godebug = none := by kernel_rfl
theorem laidOut : laidOutB Try.prog = true := by kernel_rfl
theorem cells33 : Try.prog.cellsOf 33 = 1 := by kernel_rfl
theorem cells22 : Try.prog.cellsOf 22 = 1 := by kernel_rfl
theorem cells40 : Try.prog.cellsOf 40 = 1 := by kernel_rfl
theorem cells46 : Try.prog.cellsOf 46 = 1 := by kernel_rfl
theorem cells3 : Try.prog.cellsOf 3 = 1 := by kernel_rfl
theorem cells21 : Try.prog.cellsOf 21 = 1 := by kernel_rfl
theorem cells42 : Try.prog.cellsOf 42 = 5 := by kernel_rfl
set_option maxRecDepth 100000 in
theorem openCells42 {H : Type} {enc : TypeId × Value → H} {W : World} {fuel : Nat} {cs : List Value} {x : DataW H × List MemPlace} (h : DataW.trod enc Try.prog W 0 (fun _ => true) true fuel 42 cs = some x) :
    ∃ (b0 : Option Addr) (lb0 cb0 : Nat) (zb0 : List Int) (b1 : Option Addr) (lb1 cb1 : Nat) (zb1 : List Int) (b2 : Int) (b3 : Int) (b4 : Int), cs = [.slice b0 lb0 cb0, .slice b1 lb1 cb1, .int .i64 b2, .int .i64 b3, .int .i32 b4] ∧ IRow .i16 W b0 lb0 cb0 zb0 ∧ IRow .i8 W b1 lb1 cb1 zb1 ∧ (Lit.int .i64 b2).wf = true ∧ (Lit.int .i64 b3).wf = true ∧ (Lit.int .i32 b4).wf = true ∧ lb0 + lb1 ≤ Rows.uptoBulk x.1 := by
  obtain ⟨xs, m, _, hx, hl, hlen, hf⟩ := DataW.trod_struct Try.underlying42 h
  rw [cells42] at hl
  have g0 : DataW.trod enc Try.prog W 0 (fun _ => true) true m 33 ((cs.drop 0).take (Try.prog.cellsOf 33)) = xs[0]? := hf 0 _ rfl
  obtain ⟨y0, e0⟩ : ∃ y, xs[0]? = some y := ⟨_, List.getElem?_eq_getElem (by rw [hlen]; decide)⟩
  rw [e0, cells33] at g0
  obtain ⟨a0, la0, ca0, za0, c0, wa0, bu0⟩ := openFu Try.underlying33 Try.underlying22 cells22 g0
  have g1 : DataW.trod enc Try.prog W 0 (fun _ => true) true m 40 ((cs.drop 1).take (Try.prog.cellsOf 40)) = xs[1]? := hf 1 _ rfl
  obtain ⟨y1, e1⟩ : ∃ y, xs[1]? = some y := ⟨_, List.getElem?_eq_getElem (by rw [hlen]; decide)⟩
  rw [e1, cells40] at g1
  obtain ⟨a1, la1, ca1, za1, c1, wa1, bu1⟩ := openFu Try.underlying40 Try.underlying46 cells46 g1
  have g2 : DataW.trod enc Try.prog W 0 (fun _ => true) true m 3 ((cs.drop 2).take (Try.prog.cellsOf 3)) = xs[2]? := hf 2 _ rfl
  obtain ⟨y2, e2⟩ : ∃ y, xs[2]? = some y := ⟨_, List.getElem?_eq_getElem (by rw [hlen]; decide)⟩
  rw [e2, cells3] at g2
  obtain ⟨a2, c2, _, wa2⟩ := DataW.trod_int Try.underlying3 g2
  have g3 : DataW.trod enc Try.prog W 0 (fun _ => true) true m 3 ((cs.drop 3).take (Try.prog.cellsOf 3)) = xs[3]? := hf 3 _ rfl
  obtain ⟨y3, e3⟩ : ∃ y, xs[3]? = some y := ⟨_, List.getElem?_eq_getElem (by rw [hlen]; decide)⟩
  rw [e3, cells3] at g3
  obtain ⟨a3, c3, _, wa3⟩ := DataW.trod_int Try.underlying3 g3
  have g4 : DataW.trod enc Try.prog W 0 (fun _ => true) true m 21 ((cs.drop 4).take (Try.prog.cellsOf 21)) = xs[4]? := hf 4 _ rfl
  obtain ⟨y4, e4⟩ : ∃ y, xs[4]? = some y := ⟨_, List.getElem?_eq_getElem (by rw [hlen]; decide)⟩
  rw [e4, cells21] at g4
  obtain ⟨a4, c4, _, wa4⟩ := DataW.trod_int Try.underlying21 g4
  have hxs : xs = [y0, y1, y2, y3, y4] := by
    match xs, hlen with
    | [t0, t1, t2, t3, t4], _ =>
      simp at e0 e1 e2 e3 e4
      rw [e0, e1, e2, e3, e4]
  have hbu : la0 + la1 ≤ Rows.uptoBulk x.1 := by rw [hx, hxs]; simp only [List.map_cons, List.map_nil, Rows.uptoBulk, Rows.uptoBulkAll]; omega
  match cs, hl with
  | [v0, v1, v2, v3, v4], _ =>
    simp at c0 c1 c2 c3 c4
    obtain rfl := c0
    obtain rfl := c1
    obtain rfl := c2
    obtain rfl := c3
    obtain rfl := c4
    exact ⟨a0, la0, ca0, za0, a1, la1, ca1, za1, a2, a3, a4, rfl, wa0, wa1, wa2, wa3, wa4, hbu⟩
set_option maxRecDepth 100000 in
theorem openStruct42 {H : Type} {enc : TypeId × Value → H} {W : World} {r : Reach} {b0 : Nat} {v : Value} {d : DataW H} {ps : List MemPlace} (hval : Value.okWide Try.prog W r b0 42 v) (hd : DataW.Trod enc Try.prog W 0 (fun _ => true) true 42 v d ps) :
    ∃ (a0 : Option Addr) (la0 ca0 : Nat) (za0 : List Int) (a1 : Option Addr) (la1 ca1 : Nat) (za1 : List Int) (a2 : Int) (a3 : Int) (a4 : Int), v = .agg #[.slice a0 la0 ca0, .slice a1 la1 ca1, .int .i64 a2, .int .i64 a3, .int .i32 a4] ∧ IRow .i16 W a0 la0 ca0 za0 ∧ IRow .i8 W a1 la1 ca1 za1 ∧ (Lit.int .i64 a2).wf = true ∧ (Lit.int .i64 a3).wf = true ∧ (Lit.int .i32 a4).wf = true ∧ la0 + la1 ≤ Rows.uptoBulk d := by
  obtain ⟨cs, rfl, _⟩ := okWide_struct Try.underlying42 hval
  obtain ⟨fuel, hf⟩ := hd
  obtain ⟨a0, la0, ca0, za0, a1, la1, ca1, za1, a2, a3, a4, hc, wa0, wa1, wa2, wa3, wa4, hbu⟩ := openCells42 hf
  have e : cs = #[.slice a0 la0 ca0, .slice a1 la1 ca1, .int .i64 a2, .int .i64 a3, .int .i32 a4] := by
    cases cs; simpa [Value.cells] using hc
  exact ⟨a0, la0, ca0, za0, a1, la1, ca1, za1, a2, a3, a4, by rw [e], wa0, wa1, wa2, wa3, wa4, hbu⟩

theorem walk (a0_0 : Option Addr) (la0_0 ca0_0 : Nat) (za0_0 : List Int) (a0_1 : Option Addr) (la0_1 ca0_1 : Nat) (za0_1 : List Int) (a0_2 : Int) (a0_3 : Int) (a0_4 : Int) (w : World) (wa0_0 : IRow .i16 w a0_0 la0_0 ca0_0 za0_0) (wa0_1 : IRow .i8 w a0_1 la0_1 ca0_1 za0_1) (wa0_2 : (Lit.int .i64 a0_2).wf = true) (wa0_3 : (Lit.int .i64 a0_3).wf = true) (wa0_4 : (Lit.int .i32 a0_4).wf = true) (hu : la0_0 + la0_1 ≤ 1048576) :
    Calls Try.prog 5 #[.agg #[.slice a0_0 la0_0 ca0_0, .slice a0_1 la0_1 ca0_1, .int .i64 a0_2, .int .i64 a0_3, .int .i32 a0_4]] w fun e w' => e = .returned (.bool true) ∧ Below w.heap.size w w' := by
  exact laneDots_walk a0_0 la0_0 ca0_0 za0_0 a0_1 la0_1 ca0_1 za0_1 a0_2 a0_3 a0_4 w wa0_0 wa0_1 wa0_2 wa0_3 wa0_4 hu

set_option maxRecDepth 100000 in
theorem lifted (os : Os) (started : os.Started) (H : Type) (enc : TypeId × Value → H) (F : Stop.Interp) :
    ReturnsInHanded {} Try.checked os 5 .any ((Rows.OpenSpec.upto Rows.laneDotsSpec).pre6 enc Try.prog Try.f5 Rows.laneDotsUptoRow.domain false) (((Rows.OpenSpec.upto Rows.laneDotsSpec).at F).post enc Try.prog Try.f5 false true false false) := by
  refine returnsInHanded_of_cond (C := Try.checked) (s := Rows.OpenSpec.upto Rows.laneDotsSpec) (k := Rows.uptoSmall) rfl own started (by kernel_rfl) Try.func5
    (OpenSpec.witness (enc := enc) (C := Try.checked) (s := Rows.OpenSpec.upto Rows.laneDotsSpec) (k := Rows.uptoSmall) rfl false ⟨#[], #[.agg #[.slice none 0 0, .slice none 0 0, .int .i64 0, .int .i64 0, .int .i32 0]], []⟩ 8 (by kernel_rfl) (by kernel_rfl) (by kernel_rfl)
      (x := ([.agg [.nil, .nil, .lit (.int .i64 0), .lit (.int .i64 0), .lit (.int .i32 0)]], [], [])) (by kernel_rfl) rfl (by kernel_rfl)) ?_
  intro W base args ds gs before hval0 hW hcnd hk0 _
  have hk : Rows.uptoSmall H (ds ++ gs) = true := hk0
  have hval : ∀ (j : Nat) t v, Try.f5.params[j]? = some t → args[j]? = some v → Value.okWide Try.prog W .any base t v := hval0
  have hW' := hW
  obtain ⟨p, q, hA0, hV, rfl, hfz, hnd⟩ := hW
  have hA : DataW.TrodAll enc Try.prog W 0 (fun _ => true) true Try.f5.params.toList args.toList ds p := hA0
  rw [Try.params5] at hA hval
  obtain ⟨v0, vs0, d0, ds0, p0, q0, hargs, rfl, rfl, h0, rr0⟩ := trodAll_cons hA
  obtain ⟨rfl, rfl, rfl⟩ := trodAll_nil rr0
  obtain rfl : args = #[v0] := by cases args; simp_all
  obtain ⟨rfl, rfl⟩ := trodVars_none hV
  have k0 := h0
  have lt0 : ∀ x ∈ p0, x.block < W.heap.size := by obtain ⟨m, hm⟩ := k0; exact DataW.trod_lt m _ _ _ hm
  obtain ⟨a0_0, la0_0, ca0_0, za0_0, a0_1, la0_1, ca0_1, za0_1, a0_2, a0_3, a0_4, rfl, wa0_0, wa0_1, wa0_2, wa0_3, wa0_4, b0⟩ := openStruct42 (hval 0 42 v0 rfl rfl) h0
  have hu : la0_0 + la0_1 ≤ 1048576 := by
    have hq : Rows.uptoBulkAll ([d0] ++ []) ≤ 1048576 := of_decide_eq_true hk
    simp only [List.cons_append, List.nil_append, Rows.uptoBulkAll] at hq
    omega
  clear hA0 hval0
  refine (walk a0_0 la0_0 ca0_0 za0_0 a0_1 la0_1 ca0_1 za0_1 a0_2 a0_3 a0_4 W wa0_0 wa0_1 wa0_2 wa0_3 wa0_4 hu).mono fun e W' ⟨he, bel⟩ => ?_
  subst he
  exact ⟨_, rfl, _, _, _, [], _, [], hW', trodAll_mk1 (shut_bool Try.underlying4 _), (trodAll_cons_mk (Below.trod laidOut (by kernel_rfl) (of_decide_eq_true (by kernel_rfl)) k0 bel lt0) trodAll_mk0), rfl, bel.frame _, fun h => by cases h⟩

theorem proved : Rows.LaneDotsUptoSaid :=
  OpenClaim.holds_of_cond 5 Try.f5 rfl rfl rfl rfl rfl rfl rfl ⟨rfl, rfl, rfl, rfl, rfl⟩ rfl rfl rfl rfl rfl (by kernel_rfl) Try.func5 (by kernel_rfl)
    (of_decide_eq_true (by kernel_rfl)) (by unfold Func.isWrapper; first | (rw [if_pos (by decide +kernel)]; kernel_rfl) | (rw [if_neg (by decide +kernel)]; exact ⟨rfl, rfl⟩))
    (fun os started H enc _ F => lifted os started H enc F)
end Go.Proofs.Ytgimnoehagfhhaa.laneDots
namespace Go.Proofs.Ytgimnoehagfhhaa
theorem laneDots_holds : Rows.LaneDotsUptoSaid := laneDots.proved
#print axioms laneDots_holds
end Go.Proofs.Ytgimnoehagfhhaa
