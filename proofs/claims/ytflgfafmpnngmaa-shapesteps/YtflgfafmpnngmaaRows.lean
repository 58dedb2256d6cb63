/-
  No cell of these rows narrows 'for every input' (looked for: loops, veiled, ifaces, maps, wideKeys, modest, calm, conditions, laid).
  DERIVED. THE GIVEN ROWS OF THIS SEAT. 5 by the template 'for every input the law returns true; each argument reads behind the call as it read before'; 0 by the template 'total and deterministic' (their statements: YtflgfafmpnngmaaTotals.lean).
  GIVEN WITH THE SEED: the statements are not yours to turn. If you find one false, say at which input.
  Laid BY PROGRAM, IN A SANDBOX (cutbox-rows.mjs): the forced cells as the released guide's own fill.sh prints them over the translation 0f0275f9ebbcb21d… (all of the seat's roots in one cut). By AI agents, Wed Nov 11 2026. No macro, syntax, notation, axiom, sorry.
-/
import Derived.Test.YtflgfafmpnngmaaChecked
import GoSem.Claim
import GoSem.ClaimJoined
import GoSem.ClaimMapViews
import Derived.JoinedTies
import Derived.KernelRfl
namespace Go.Proofs.Ytflgfafmpnngmaa
/- THE CELL 'sum', in the pinned program and in every row, IS THE sha256 OF THE DUMP (.gsa) THAT YtflgfafmpnngmaaProg.lean LOADS. Nothing in Lean hashes anything: it is a label: what it is worth is what the hold of that sum in a sandbox is worth. -/
noncomputable def Try.pinned : Pinned := { name := "ytflgfafmpnngmaa", sum := "0f0275f9ebbcb21db8b69357eb459afdb43ed0c1c80f02af7c614ba89e7bb6a9", checked := Try.checked }
namespace Rows
def none {H : Type} : Left H := { results := [], args := [] }

/-- 'spillwaylaw05.ShapeElems': WHATEVER THE INPUT: true; the input reads as it did. -/
def shapeElemsSpec : ChangeSpec := { name := "shapeElems", fn := fun _ => fun
  | [d] => { results := [.lit (.bool true)], args := [d] }
  | _ => none }
def shapeElemsRow : OpenClaim := { program := "ytflgfafmpnngmaa", sum := "0f0275f9ebbcb21db8b69357eb459afdb43ed0c1c80f02af7c614ba89e7bb6a9", func := "spillway/spillwaylaw05.ShapeElems", spec := "shapeElems", apart := false }
def ShapeElemsSaid : Prop := shapeElemsRow.holds Try.pinned (OpenSpec.ofChange shapeElemsSpec)

/-- ITS FALSE NEIGHBOUR: 'it returns false'. Refute it at one input. -/
def shapeElemsWrong : ChangeSpec := { name := "shapeElems", fn := fun _ => fun
  | [d] => { results := [.lit (.bool false)], args := [d] }
  | _ => none }
def ShapeElemsWrongFalsely : Prop := shapeElemsRow.holds Try.pinned (OpenSpec.ofChange shapeElemsWrong)

/-- 'spillwaylaw05.ShapePlaces': WHATEVER THE INPUT: true; the input reads as it did. -/
def shapePlacesSpec : ChangeSpec := { name := "shapePlaces", fn := fun _ => fun
  | [d1, d2] => { results := [.lit (.bool true)], args := [d1, d2] }
  | _ => none }
def shapePlacesRow : OpenClaim := { program := "ytflgfafmpnngmaa", sum := "0f0275f9ebbcb21db8b69357eb459afdb43ed0c1c80f02af7c614ba89e7bb6a9", func := "spillway/spillwaylaw05.ShapePlaces", spec := "shapePlaces", apart := false }
def ShapePlacesSaid : Prop := shapePlacesRow.holds Try.pinned (OpenSpec.ofChange shapePlacesSpec)

/-- ITS FALSE NEIGHBOUR: 'it returns false'. Refute it at one input. -/
def shapePlacesWrong : ChangeSpec := { name := "shapePlaces", fn := fun _ => fun
  | [d1, d2] => { results := [.lit (.bool false)], args := [d1, d2] }
  | _ => none }
def ShapePlacesWrongFalsely : Prop := shapePlacesRow.holds Try.pinned (OpenSpec.ofChange shapePlacesWrong)

/-- 'spillwaylaw05.ShapeWheres': WHATEVER THE INPUT: true; the input reads as it did. -/
def shapeWheresSpec : ChangeSpec := { name := "shapeWheres", fn := fun _ => fun
  | [d1, d2] => { results := [.lit (.bool true)], args := [d1, d2] }
  | _ => none }
def shapeWheresRow : OpenClaim := { program := "ytflgfafmpnngmaa", sum := "0f0275f9ebbcb21db8b69357eb459afdb43ed0c1c80f02af7c614ba89e7bb6a9", func := "spillway/spillwaylaw05.ShapeWheres", spec := "shapeWheres", apart := false }
def ShapeWheresSaid : Prop := shapeWheresRow.holds Try.pinned (OpenSpec.ofChange shapeWheresSpec)

/-- ITS FALSE NEIGHBOUR: 'it returns false'. Refute it at one input. -/
def shapeWheresWrong : ChangeSpec := { name := "shapeWheres", fn := fun _ => fun
  | [d1, d2] => { results := [.lit (.bool false)], args := [d1, d2] }
  | _ => none }
def ShapeWheresWrongFalsely : Prop := shapeWheresRow.holds Try.pinned (OpenSpec.ofChange shapeWheresWrong)

/-- 'spillwaylaw05.ShapeBack': WHATEVER THE INPUT: true; the input reads as it did. -/
def shapeBackSpec : ChangeSpec := { name := "shapeBack", fn := fun _ => fun
  | [d1, d2, d3] => { results := [.lit (.bool true)], args := [d1, d2, d3] }
  | _ => none }
def shapeBackRow : OpenClaim := { program := "ytflgfafmpnngmaa", sum := "0f0275f9ebbcb21db8b69357eb459afdb43ed0c1c80f02af7c614ba89e7bb6a9", func := "spillway/spillwaylaw05.ShapeBack", spec := "shapeBack", apart := false }
def ShapeBackSaid : Prop := shapeBackRow.holds Try.pinned (OpenSpec.ofChange shapeBackSpec)

/-- ITS FALSE NEIGHBOUR: 'it returns false'. Refute it at one input. -/
def shapeBackWrong : ChangeSpec := { name := "shapeBack", fn := fun _ => fun
  | [d1, d2, d3] => { results := [.lit (.bool false)], args := [d1, d2, d3] }
  | _ => none }
def ShapeBackWrongFalsely : Prop := shapeBackRow.holds Try.pinned (OpenSpec.ofChange shapeBackWrong)

/-- 'spillwaylaw05.ShapeSteps': WHATEVER THE INPUT: true; the input reads as it did. -/
def shapeStepsSpec : ChangeSpec := { name := "shapeSteps", fn := fun _ => fun
  | [d1, d2] => { results := [.lit (.bool true)], args := [d1, d2] }
  | _ => none }
def shapeStepsRow : OpenClaim := { program := "ytflgfafmpnngmaa", sum := "0f0275f9ebbcb21db8b69357eb459afdb43ed0c1c80f02af7c614ba89e7bb6a9", func := "spillway/spillwaylaw05.ShapeSteps", spec := "shapeSteps", apart := false }
def ShapeStepsSaid : Prop := shapeStepsRow.holds Try.pinned (OpenSpec.ofChange shapeStepsSpec)

/-- ITS FALSE NEIGHBOUR: 'it returns false'. Refute it at one input. -/
def shapeStepsWrong : ChangeSpec := { name := "shapeSteps", fn := fun _ => fun
  | [d1, d2] => { results := [.lit (.bool false)], args := [d1, d2] }
  | _ => none }
def ShapeStepsWrongFalsely : Prop := shapeStepsRow.holds Try.pinned (OpenSpec.ofChange shapeStepsWrong)

/- THE SECOND FORM. 'bulk': how many values and letters a reading holds, each counted each time it is reached (what is shared counts as often as it is met; a slice's spare places count too). A statement '..UptoSaid' is the law's where the arguments, and the package variables that the reading takes, are together of bulk at most 1048576: NARROWER than '..Said'. Prove '..Said' where nothing that the law and all that it calls make is longer than what came in: it says more and counts as full. Else prove '..UptoSaid'. A law counts once. -/
mutual
def uptoBulk {H : Type} : DataW H → Nat
  | .lit (.string bytes) => bytes.length + 1
  | .lit _ => 1
  | .nil => 1
  | .ptr d => uptoBulk d + 1
  | .slice elems spare => uptoBulkAll elems + uptoBulkAll spare + 1
  | .agg parts => uptoBulkAll parts + 1
  | .iface _ d => uptoBulk d + 1
  | .map entries => uptoBulkEntries entries + 1
  | .held _ => 1
def uptoBulkAll {H : Type} : List (DataW H) → Nat
  | [] => 0
  | d :: r => uptoBulk d + uptoBulkAll r
def uptoBulkEntries {H : Type} : List (Lit × DataW H) → Nat
  | [] => 0
  | x :: r => uptoBulkEntry x + uptoBulkEntries r
def uptoBulkEntry {H : Type} : Lit × DataW H → Nat
  | (.string bytes, d) => bytes.length + uptoBulk d + 1
  | (_, d) => uptoBulk d + 1
 end
def uptoSmall : (H : Type) → List (DataW H) → Bool := fun _ ds => decide (uptoBulkAll ds ≤ 1048576)
def OpenSpec.upto (s : _root_.Go.ChangeSpec) : _root_.Go.OpenSpec := { _root_.Go.OpenSpec.ofChange s with cond := some uptoSmall }

/-- 'spillwaylaw05.ShapeElems', WHERE WHAT IT READS IS OF BULK AT MOST 1048576: true; the input reads as it did. -/
def shapeElemsUptoRow : OpenClaim := { program := "ytflgfafmpnngmaa", sum := "0f0275f9ebbcb21db8b69357eb459afdb43ed0c1c80f02af7c614ba89e7bb6a9", func := "spillway/spillwaylaw05.ShapeElems", spec := "shapeElems", apart := false, narrowed := true }
def ShapeElemsUptoSaid : Prop := shapeElemsUptoRow.holds Try.pinned (OpenSpec.upto shapeElemsSpec)

/-- 'spillwaylaw05.ShapePlaces', WHERE WHAT IT READS IS OF BULK AT MOST 1048576: true; the input reads as it did. -/
def shapePlacesUptoRow : OpenClaim := { program := "ytflgfafmpnngmaa", sum := "0f0275f9ebbcb21db8b69357eb459afdb43ed0c1c80f02af7c614ba89e7bb6a9", func := "spillway/spillwaylaw05.ShapePlaces", spec := "shapePlaces", apart := false, narrowed := true }
def ShapePlacesUptoSaid : Prop := shapePlacesUptoRow.holds Try.pinned (OpenSpec.upto shapePlacesSpec)

/-- 'spillwaylaw05.ShapeWheres', WHERE WHAT IT READS IS OF BULK AT MOST 1048576: true; the input reads as it did. -/
def shapeWheresUptoRow : OpenClaim := { program := "ytflgfafmpnngmaa", sum := "0f0275f9ebbcb21db8b69357eb459afdb43ed0c1c80f02af7c614ba89e7bb6a9", func := "spillway/spillwaylaw05.ShapeWheres", spec := "shapeWheres", apart := false, narrowed := true }
def ShapeWheresUptoSaid : Prop := shapeWheresUptoRow.holds Try.pinned (OpenSpec.upto shapeWheresSpec)

/-- 'spillwaylaw05.ShapeBack', WHERE WHAT IT READS IS OF BULK AT MOST 1048576: true; the input reads as it did. -/
def shapeBackUptoRow : OpenClaim := { program := "ytflgfafmpnngmaa", sum := "0f0275f9ebbcb21db8b69357eb459afdb43ed0c1c80f02af7c614ba89e7bb6a9", func := "spillway/spillwaylaw05.ShapeBack", spec := "shapeBack", apart := false, narrowed := true }
def ShapeBackUptoSaid : Prop := shapeBackUptoRow.holds Try.pinned (OpenSpec.upto shapeBackSpec)

/-- 'spillwaylaw05.ShapeSteps', WHERE WHAT IT READS IS OF BULK AT MOST 1048576: true; the input reads as it did. -/
def shapeStepsUptoRow : OpenClaim := { program := "ytflgfafmpnngmaa", sum := "0f0275f9ebbcb21db8b69357eb459afdb43ed0c1c80f02af7c614ba89e7bb6a9", func := "spillway/spillwaylaw05.ShapeSteps", spec := "shapeSteps", apart := false, narrowed := true }
def ShapeStepsUptoSaid : Prop := shapeStepsUptoRow.holds Try.pinned (OpenSpec.upto shapeStepsSpec)

end Rows
end Go.Proofs.Ytflgfafmpnngmaa
