/- Lists that are grown within Go's own bound; a drawn region of whose operations two are ready; filled lists (cut out of PlmA and PlmB). What Same of package cert returns. What Same of package cert and Same of its document return. The walk of KernMemory. -/
import Derived.Test.YtehofmkpgopmpaaGp21
import Derived.Test.YtehofmkpgopmpaaGp25
import Derived.Test.YtehofmkpgopmpaaGp27
import Derived.ArgAppend
import Derived.OwnWalk
import Derived.Deep.DeepCutAuto
/- Lists that are grown within Go's own bound; a drawn region of whose operations two are ready; filled lists (cut out of PlmA and PlmB). -/
namespace Go.Proofs.Ytehofmkpgopmpaa
open Go.ChangeShapes Go.WideShapes Go.ChangeAt Go.RowKit
set_option linter.unusedVariables false
/-- Two may come up. -/
theorem twoC {P : Program} {ops : Array Oper} {md : Region.Mode} {C : World → Prop} {Q : Exit → Act → World → Prop} (i j : Nat) {fuel : Nat} {listed : Array Bool} {a : Act} {w : World} (hC : C w) (hr : Region.ready md ops listed = [i, j])
    (h1 : wpOpIn Fence.wide 3 P ops Q i (wpAnyC Fence.wide 3 P md ops C Q fuel (listed.setIfInBounds i true)) a w)
    (h2 : wpOpIn Fence.wide 3 P ops Q j (wpAnyC Fence.wide 3 P md ops C Q fuel (listed.setIfInBounds j true)) a w) : wpAnyC Fence.wide 3 P md ops C Q (fuel + 1) listed a w :=
  ⟨hC, fun h0 => (by rw [hr] at h0; cases h0), fun k hk => by
    rw [hr] at hk
    simp only [List.mem_cons, List.not_mem_nil, or_false] at hk
    rcases hk with rfl | rfl
    · exact h1
    · exact h2⟩
theorem opR {P : Program} {ops : Array Oper} {md : Region.Mode} {C : World → Prop} {Q : Exit → Act → World → Prop} {i : Nat} {o : Oper} {fuel : Nat} {listed : Array Bool} {a : Act} {w : World} (ho : ops[i]? = some o) (hg : o.guard = none)
    (v : Value) (w' : World) (hrun : (execOp a.eval o).run P w = .ok (.value v) w') (h : wpAnyC Fence.wide 3 P md ops C Q fuel (listed.setIfInBounds i true) (a.put o.dst v) w') : wpOpIn Fence.wide 3 P ops Q i (wpAnyC Fence.wide 3 P md ops C Q fuel (listed.setIfInBounds i true)) a w :=
  wpOpIn_step ho fun K hK => step_wp hg (wp_run1 hrun (hK _ _ h))
theorem opK {P : Program} {ops : Array Oper} {md : Region.Mode} {C : World → Prop} {Q : Exit → Act → World → Prop} {i : Nat} {o : Oper} {fuel : Nat} {listed : Array Bool} {a : Act} {w : World} (ho : ops[i]? = some o) (hg : o.guard = none)
    (f : FuncId) (args : Array Value) (hrun : (execOp a.eval o).run P w = .ok (.enter f args) w) {R : Ending → World → Prop} (hcall : Calls P f args w R)
    (h : ∀ e w', R e w' → ∃ v, e = .returned v ∧ wpAnyC Fence.wide 3 P md ops C Q fuel (listed.setIfInBounds i true) (a.put o.dst v) w') : wpOpIn Fence.wide 3 P ops Q i (wpAnyC Fence.wide 3 P md ops C Q fuel (listed.setIfInBounds i true)) a w :=
  wpOpIn_step ho fun K hK => step_wp hg (by
    unfold Oper.wp
    rw [hrun]
    refine Calls.mono hcall fun e w' he => ?_
    obtain ⟨v, rfl, hv⟩ := h e w' he
    exact hK _ _ hv)
theorem grown_setRow (w : World) (N : Nat) (cs : Array Value) : w.grownBy (w.setRow N cs) (some N) := ⟨rfl, rfl, rfl, by simp, fun k _ hk => setRow_other w N k cs (fun e => hk (by rw [e]))⟩
/-! ### Rows of lists -/
theorem Own.setRow {w : World} {base N : Nat} {v : Value} {zs : List Int} {c cs : Array Value} {T : TypeId} (h : Own .i8 63 w base v zs) (hN : w.heap[N]? = some (.cells c T (0, 0))) (h1 : T ≠ 31) (h2 : T ≠ 63) : Own .i8 63 (w.setRow N cs) base v zs :=
  h.grown (grown_setRow w N cs) fun b hb c' e => by
    cases hb
    rw [hN] at e
    simp only [Option.some.injEq, Obj.cells.injEq] at e
    exact h2 e.2.1
/-- Blocks of the elder world turn only from lo to hi. -/
def Outs (lo hi : Nat) (w w' : World) : Prop := w'.os = w.os ∧ w'.tape = w.tape ∧ w'.output = w.output ∧ w.heap.size ≤ w'.heap.size ∧ ∀ i, i < w.heap.size → i < lo ∨ hi ≤ i → w'.heap[i]? = w.heap[i]?
end Go.Proofs.Ytehofmkpgopmpaa

/- What Same of package cert returns. -/
namespace Go.Proofs.Ytehofmkpgopmpaa
open Go.ChangeShapes Go.WideShapes Go.ChangeAt Go.RowKit
set_option linter.unusedVariables false
end Go.Proofs.Ytehofmkpgopmpaa

/- What Same of package cert and Same of its document return. -/
namespace Go.Proofs.Ytehofmkpgopmpaa
open Go.ChangeShapes Go.WideShapes Go.ChangeAt Go.RowKit
set_option linter.unusedVariables false
/-! ### The document's -/
end Go.Proofs.Ytehofmkpgopmpaa

/- The walk of KernMemory. -/
namespace Go.Proofs.Ytehofmkpgopmpaa.Kr
open Go.ChangeShapes Go.WideShapes Go.ChangeAt Go.RowKit
set_option linter.unusedVariables false
/-- Three may come up. -/
theorem threeC {P : Program} {ops : Array Oper} {md : Region.Mode} {C : World → Prop} {Q : Exit → Act → World → Prop} (i j k : Nat) {fuel : Nat} {listed : Array Bool} {a : Act} {w : World} (hC : C w) (hr : Region.ready md ops listed = [i, j, k])
    (h1 : wpOpIn Fence.wide 3 P ops Q i (wpAnyC Fence.wide 3 P md ops C Q fuel (listed.setIfInBounds i true)) a w)
    (h2 : wpOpIn Fence.wide 3 P ops Q j (wpAnyC Fence.wide 3 P md ops C Q fuel (listed.setIfInBounds j true)) a w)
    (h3 : wpOpIn Fence.wide 3 P ops Q k (wpAnyC Fence.wide 3 P md ops C Q fuel (listed.setIfInBounds k true)) a w) : wpAnyC Fence.wide 3 P md ops C Q (fuel + 1) listed a w :=
  ⟨hC, fun h0 => (by rw [hr] at h0; cases h0), fun m hm => by
    rw [hr] at hm
    simp only [List.mem_cons, List.not_mem_nil, or_false] at hm
    rcases hm with rfl | rfl | rfl
    · exact h1
    · exact h2
    · exact h3⟩
end Go.Proofs.Ytehofmkpgopmpaa.Kr
