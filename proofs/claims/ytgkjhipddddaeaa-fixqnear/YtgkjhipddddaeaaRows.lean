/-
  No cell of these rows narrows 'for every input' (looked for: loops, veiled, ifaces, maps, wideKeys, modest, calm, conditions, laid).
  DERIVED. THE GIVEN ROWS OF THIS SEAT. 6 by the template 'for every input the law returns true; each argument reads behind the call as it read before'; 0 by the template 'total and deterministic' (their statements: YtgkjhipddddaeaaTotals.lean).
  GIVEN WITH THE SEED: the statements are not yours to turn. If you find one false, say at which input.
  Laid BY PROGRAM, IN A SANDBOX (cutbox-rows.mjs): the forced cells as the released guide's own fill.sh prints them over the translation 80aaddc77b8df795… (all of the seat's roots in one cut). By AI agents, Wed Nov 11 2026. No macro, syntax, notation, axiom, sorry.
-/
import Derived.Test.YtgkjhipddddaeaaChecked
import GoSem.Claim
import GoSem.ClaimJoined
import GoSem.ClaimMapViews
import Derived.JoinedTies
import Derived.KernelRfl
namespace Go.Proofs.Ytgkjhipddddaeaa
/- THE CELL 'sum', in the pinned program and in every row, IS THE sha256 OF THE DUMP (.gsa) THAT YtgkjhipddddaeaaProg.lean LOADS. Nothing in Lean hashes anything: it is a label: what it is worth is what the hold of that sum in a sandbox is worth. -/
noncomputable def Try.pinned : Pinned := { name := "ytgkjhipddddaeaa", sum := "80aaddc77b8df7952e47cb44ef33cd5be3758ebf63277c33c912716f8e22a576", checked := Try.checked }
namespace Rows
def none {H : Type} : Left H := { results := [], args := [] }

/-- 'spillwaylaw02.FixqScales': WHATEVER THE INPUT: true; the input reads as it did. -/
def fixqScalesSpec : ChangeSpec := { name := "fixqScales", fn := fun _ => fun
  | [d1, d2] => { results := [.lit (.bool true)], args := [d1, d2] }
  | _ => none }
def fixqScalesRow : OpenClaim := { program := "ytgkjhipddddaeaa", sum := "80aaddc77b8df7952e47cb44ef33cd5be3758ebf63277c33c912716f8e22a576", func := "spillway/spillwaylaw02.FixqScales", spec := "fixqScales", apart := false }
def FixqScalesSaid : Prop := fixqScalesRow.holds Try.pinned (OpenSpec.ofChange fixqScalesSpec)

/-- ITS FALSE NEIGHBOUR: 'it returns false'. Refute it at one input. -/
def fixqScalesWrong : ChangeSpec := { name := "fixqScales", fn := fun _ => fun
  | [d1, d2] => { results := [.lit (.bool false)], args := [d1, d2] }
  | _ => none }
def FixqScalesWrongFalsely : Prop := fixqScalesRow.holds Try.pinned (OpenSpec.ofChange fixqScalesWrong)

/-- 'spillwaylaw02.FixqShifts': WHATEVER THE INPUT: true; the input reads as it did. -/
def fixqShiftsSpec : ChangeSpec := { name := "fixqShifts", fn := fun _ => fun
  | [d1, d2] => { results := [.lit (.bool true)], args := [d1, d2] }
  | _ => none }
def fixqShiftsRow : OpenClaim := { program := "ytgkjhipddddaeaa", sum := "80aaddc77b8df7952e47cb44ef33cd5be3758ebf63277c33c912716f8e22a576", func := "spillway/spillwaylaw02.FixqShifts", spec := "fixqShifts", apart := false }
def FixqShiftsSaid : Prop := fixqShiftsRow.holds Try.pinned (OpenSpec.ofChange fixqShiftsSpec)

/-- ITS FALSE NEIGHBOUR: 'it returns false'. Refute it at one input. -/
def fixqShiftsWrong : ChangeSpec := { name := "fixqShifts", fn := fun _ => fun
  | [d1, d2] => { results := [.lit (.bool false)], args := [d1, d2] }
  | _ => none }
def FixqShiftsWrongFalsely : Prop := fixqShiftsRow.holds Try.pinned (OpenSpec.ofChange fixqShiftsWrong)

/-- 'spillwaylaw02.FixqMeans': WHATEVER THE INPUT: true; the input reads as it did. -/
def fixqMeansSpec : ChangeSpec := { name := "fixqMeans", fn := fun _ => fun
  | [d1, d2] => { results := [.lit (.bool true)], args := [d1, d2] }
  | _ => none }
def fixqMeansRow : OpenClaim := { program := "ytgkjhipddddaeaa", sum := "80aaddc77b8df7952e47cb44ef33cd5be3758ebf63277c33c912716f8e22a576", func := "spillway/spillwaylaw02.FixqMeans", spec := "fixqMeans", apart := false }
def FixqMeansSaid : Prop := fixqMeansRow.holds Try.pinned (OpenSpec.ofChange fixqMeansSpec)

/-- ITS FALSE NEIGHBOUR: 'it returns false'. Refute it at one input. -/
def fixqMeansWrong : ChangeSpec := { name := "fixqMeans", fn := fun _ => fun
  | [d1, d2] => { results := [.lit (.bool false)], args := [d1, d2] }
  | _ => none }
def FixqMeansWrongFalsely : Prop := fixqMeansRow.holds Try.pinned (OpenSpec.ofChange fixqMeansWrong)

/-- 'spillwaylaw02.FixqFinishes': WHATEVER THE INPUT: true; the input reads as it did. -/
def fixqFinishesSpec : ChangeSpec := { name := "fixqFinishes", fn := fun _ => fun
  | [d] => { results := [.lit (.bool true)], args := [d] }
  | _ => none }
def fixqFinishesRow : OpenClaim := { program := "ytgkjhipddddaeaa", sum := "80aaddc77b8df7952e47cb44ef33cd5be3758ebf63277c33c912716f8e22a576", func := "spillway/spillwaylaw02.FixqFinishes", spec := "fixqFinishes", apart := false }
def FixqFinishesSaid : Prop := fixqFinishesRow.holds Try.pinned (OpenSpec.ofChange fixqFinishesSpec)

/-- ITS FALSE NEIGHBOUR: 'it returns false'. Refute it at one input. -/
def fixqFinishesWrong : ChangeSpec := { name := "fixqFinishes", fn := fun _ => fun
  | [d] => { results := [.lit (.bool false)], args := [d] }
  | _ => none }
def FixqFinishesWrongFalsely : Prop := fixqFinishesRow.holds Try.pinned (OpenSpec.ofChange fixqFinishesWrong)

/-- 'spillwaylaw02.FixqNear': WHATEVER THE INPUT: true; the input reads as it did. -/
def fixqNearSpec : ChangeSpec := { name := "fixqNear", fn := fun _ => fun
  | [d1, d2] => { results := [.lit (.bool true)], args := [d1, d2] }
  | _ => none }
def fixqNearRow : OpenClaim := { program := "ytgkjhipddddaeaa", sum := "80aaddc77b8df7952e47cb44ef33cd5be3758ebf63277c33c912716f8e22a576", func := "spillway/spillwaylaw02.FixqNear", spec := "fixqNear", apart := false }
def FixqNearSaid : Prop := fixqNearRow.holds Try.pinned (OpenSpec.ofChange fixqNearSpec)

/-- ITS FALSE NEIGHBOUR: 'it returns false'. Refute it at one input. -/
def fixqNearWrong : ChangeSpec := { name := "fixqNear", fn := fun _ => fun
  | [d1, d2] => { results := [.lit (.bool false)], args := [d1, d2] }
  | _ => none }
def FixqNearWrongFalsely : Prop := fixqNearRow.holds Try.pinned (OpenSpec.ofChange fixqNearWrong)

/-- 'spillwaylaw02.FixqOdd': WHATEVER THE INPUT: true; the input reads as it did. -/
def fixqOddSpec : ChangeSpec := { name := "fixqOdd", fn := fun _ => fun
  | [d1, d2, d3] => { results := [.lit (.bool true)], args := [d1, d2, d3] }
  | _ => none }
def fixqOddRow : OpenClaim := { program := "ytgkjhipddddaeaa", sum := "80aaddc77b8df7952e47cb44ef33cd5be3758ebf63277c33c912716f8e22a576", func := "spillway/spillwaylaw02.FixqOdd", spec := "fixqOdd", apart := false }
def FixqOddSaid : Prop := fixqOddRow.holds Try.pinned (OpenSpec.ofChange fixqOddSpec)

/-- ITS FALSE NEIGHBOUR: 'it returns false'. Refute it at one input. -/
def fixqOddWrong : ChangeSpec := { name := "fixqOdd", fn := fun _ => fun
  | [d1, d2, d3] => { results := [.lit (.bool false)], args := [d1, d2, d3] }
  | _ => none }
def FixqOddWrongFalsely : Prop := fixqOddRow.holds Try.pinned (OpenSpec.ofChange fixqOddWrong)

/- THE SECOND FORM. 'bulk': how many values and letters a reading holds, each counted each time it is reached (what is shared counts as often as it is met; a slice's spare places count too). A statement '..UptoSaid' is the law's where the arguments, and the package variables that the reading takes, are together of bulk at most 1048576: NARROWER than '..Said'. Prove '..Said' where nothing that the law and all that it calls make is longer than what came in: it says more and counts as full. Else prove '..UptoSaid'. A law counts once. -/
mutual
def uptoBulk {H : Type} : DataW H → Nat
  | .lit (.string bytes) => bytes.length + 1
  | .lit _ => 1
  | .nil => 1
  | .ptr d => uptoBulk d + 1
  | .slice elems spare => uptoBulkAll elems + uptoBulkAll spare + 1
  | .agg parts => uptoBulkAll parts + 1
  | .iface _ d => uptoBulk d + 1
  | .map entries => uptoBulkEntries entries + 1
  | .held _ => 1
def uptoBulkAll {H : Type} : List (DataW H) → Nat
  | [] => 0
  | d :: r => uptoBulk d + uptoBulkAll r
def uptoBulkEntries {H : Type} : List (Lit × DataW H) → Nat
  | [] => 0
  | x :: r => uptoBulkEntry x + uptoBulkEntries r
def uptoBulkEntry {H : Type} : Lit × DataW H → Nat
  | (.string bytes, d) => bytes.length + uptoBulk d + 1
  | (_, d) => uptoBulk d + 1
 end
def uptoSmall : (H : Type) → List (DataW H) → Bool := fun _ ds => decide (uptoBulkAll ds ≤ 1048576)
def OpenSpec.upto (s : _root_.Go.ChangeSpec) : _root_.Go.OpenSpec := { _root_.Go.OpenSpec.ofChange s with cond := some uptoSmall }

/-- 'spillwaylaw02.FixqScales', WHERE WHAT IT READS IS OF BULK AT MOST 1048576: true; the input reads as it did. -/
def fixqScalesUptoRow : OpenClaim := { program := "ytgkjhipddddaeaa", sum := "80aaddc77b8df7952e47cb44ef33cd5be3758ebf63277c33c912716f8e22a576", func := "spillway/spillwaylaw02.FixqScales", spec := "fixqScales", apart := false, narrowed := true }
def FixqScalesUptoSaid : Prop := fixqScalesUptoRow.holds Try.pinned (OpenSpec.upto fixqScalesSpec)

/-- 'spillwaylaw02.FixqShifts', WHERE WHAT IT READS IS OF BULK AT MOST 1048576: true; the input reads as it did. -/
def fixqShiftsUptoRow : OpenClaim := { program := "ytgkjhipddddaeaa", sum := "80aaddc77b8df7952e47cb44ef33cd5be3758ebf63277c33c912716f8e22a576", func := "spillway/spillwaylaw02.FixqShifts", spec := "fixqShifts", apart := false, narrowed := true }
def FixqShiftsUptoSaid : Prop := fixqShiftsUptoRow.holds Try.pinned (OpenSpec.upto fixqShiftsSpec)

/-- 'spillwaylaw02.FixqMeans', WHERE WHAT IT READS IS OF BULK AT MOST 1048576: true; the input reads as it did. -/
def fixqMeansUptoRow : OpenClaim := { program := "ytgkjhipddddaeaa", sum := "80aaddc77b8df7952e47cb44ef33cd5be3758ebf63277c33c912716f8e22a576", func := "spillway/spillwaylaw02.FixqMeans", spec := "fixqMeans", apart := false, narrowed := true }
def FixqMeansUptoSaid : Prop := fixqMeansUptoRow.holds Try.pinned (OpenSpec.upto fixqMeansSpec)

/-- 'spillwaylaw02.FixqFinishes', WHERE WHAT IT READS IS OF BULK AT MOST 1048576: true; the input reads as it did. -/
def fixqFinishesUptoRow : OpenClaim := { program := "ytgkjhipddddaeaa", sum := "80aaddc77b8df7952e47cb44ef33cd5be3758ebf63277c33c912716f8e22a576", func := "spillway/spillwaylaw02.FixqFinishes", spec := "fixqFinishes", apart := false, narrowed := true }
def FixqFinishesUptoSaid : Prop := fixqFinishesUptoRow.holds Try.pinned (OpenSpec.upto fixqFinishesSpec)

/-- 'spillwaylaw02.FixqNear', WHERE WHAT IT READS IS OF BULK AT MOST 1048576: true; the input reads as it did. -/
def fixqNearUptoRow : OpenClaim := { program := "ytgkjhipddddaeaa", sum := "80aaddc77b8df7952e47cb44ef33cd5be3758ebf63277c33c912716f8e22a576", func := "spillway/spillwaylaw02.FixqNear", spec := "fixqNear", apart := false, narrowed := true }
def FixqNearUptoSaid : Prop := fixqNearUptoRow.holds Try.pinned (OpenSpec.upto fixqNearSpec)

/-- 'spillwaylaw02.FixqOdd', WHERE WHAT IT READS IS OF BULK AT MOST 1048576: true; the input reads as it did. -/
def fixqOddUptoRow : OpenClaim := { program := "ytgkjhipddddaeaa", sum := "80aaddc77b8df7952e47cb44ef33cd5be3758ebf63277c33c912716f8e22a576", func := "spillway/spillwaylaw02.FixqOdd", spec := "fixqOdd", apart := false, narrowed := true }
def FixqOddUptoSaid : Prop := fixqOddUptoRow.holds Try.pinned (OpenSpec.upto fixqOddSpec)

end Rows
end Go.Proofs.Ytgkjhipddddaeaa
