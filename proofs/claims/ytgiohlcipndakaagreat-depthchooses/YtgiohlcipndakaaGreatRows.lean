/-
  No cell of these rows narrows 'for every input' (looked for: loops, veiled, ifaces, maps, wideKeys, modest, calm, conditions, laid).
  DERIVED. THE GIVEN ROWS OF THIS SEAT. 3 by the template 'for every input the law returns true; each argument reads behind the call as it read before'; 0 by the template 'total and deterministic' (their statements: YtgiohlcipndakaaGreatTotals.lean).
  GIVEN WITH THE SEED: the statements are not yours to turn. If you find one false, say at which input.
  Laid BY PROGRAM, IN A SANDBOX (cutbox-rows.mjs): the forced cells as the released guide's own fill.sh prints them over the translation 70044a10f556663e… (all of the seat's roots in one cut). By AI agents, Wed Nov 11 2026. No macro, syntax, notation, axiom, sorry.
-/
import Derived.Test.YtgiohlcipndakaaGreatChecked
import GoSem.Claim
import GoSem.ClaimJoined
import GoSem.ClaimMapViews
import Derived.JoinedTies
import Derived.KernelRfl
namespace Go.Proofs.YtgiohlcipndakaaGreat
/- THE CELL 'sum', in the pinned program and in every row, IS THE sha256 OF THE DUMP (.gsa) THAT YtgiohlcipndakaaGreatProg.lean LOADS. Nothing in Lean hashes anything: it is a label: what it is worth is what the hold of that sum in a sandbox is worth. -/
noncomputable def Tryz.pinned : Pinned := { name := "ytgiohlcipndakaagreat", sum := "70044a10f556663ee93d1ee7f0f8c719c41f03dde2a494190ea9d8a19188b5b3", checked := Tryz.checked }
namespace Rows
def none {H : Type} : Left H := { results := [], args := [] }

/-- 'spillwaylaw18.DepthSafes': WHATEVER THE INPUT: true; the input reads as it did. -/
def depthSafesSpec : ChangeSpec := { name := "depthSafes", fn := fun _ => fun
  | [d] => { results := [.lit (.bool true)], args := [d] }
  | _ => none }
def depthSafesRow : OpenClaim := { program := "ytgiohlcipndakaagreat", sum := "70044a10f556663ee93d1ee7f0f8c719c41f03dde2a494190ea9d8a19188b5b3", func := "spillway/spillwaylaw18.DepthSafes", spec := "depthSafes", unfollowed := true, recurses := true, apart := false }
def DepthSafesSaid : Prop := depthSafesRow.holds Tryz.pinned (OpenSpec.ofChange depthSafesSpec)

/-- ITS FALSE NEIGHBOUR: 'it returns false'. Refute it at one input. -/
def depthSafesWrong : ChangeSpec := { name := "depthSafes", fn := fun _ => fun
  | [d] => { results := [.lit (.bool false)], args := [d] }
  | _ => none }
def DepthSafesWrongFalsely : Prop := depthSafesRow.holds Tryz.pinned (OpenSpec.ofChange depthSafesWrong)

/-- 'spillwaylaw18.DepthMosts': WHATEVER THE INPUT: true; the input reads as it did. -/
def depthMostsSpec : ChangeSpec := { name := "depthMosts", fn := fun _ => fun
  | [d] => { results := [.lit (.bool true)], args := [d] }
  | _ => none }
def depthMostsRow : OpenClaim := { program := "ytgiohlcipndakaagreat", sum := "70044a10f556663ee93d1ee7f0f8c719c41f03dde2a494190ea9d8a19188b5b3", func := "spillway/spillwaylaw18.DepthMosts", spec := "depthMosts", unfollowed := true, recurses := true, apart := false }
def DepthMostsSaid : Prop := depthMostsRow.holds Tryz.pinned (OpenSpec.ofChange depthMostsSpec)

/-- ITS FALSE NEIGHBOUR: 'it returns false'. Refute it at one input. -/
def depthMostsWrong : ChangeSpec := { name := "depthMosts", fn := fun _ => fun
  | [d] => { results := [.lit (.bool false)], args := [d] }
  | _ => none }
def DepthMostsWrongFalsely : Prop := depthMostsRow.holds Tryz.pinned (OpenSpec.ofChange depthMostsWrong)

/-- 'spillwaylaw18.DepthChooses': WHATEVER THE INPUT: true; the input reads as it did. -/
def depthChoosesSpec : ChangeSpec := { name := "depthChooses", fn := fun _ => fun
  | [d] => { results := [.lit (.bool true)], args := [d] }
  | _ => none }
def depthChoosesRow : OpenClaim := { program := "ytgiohlcipndakaagreat", sum := "70044a10f556663ee93d1ee7f0f8c719c41f03dde2a494190ea9d8a19188b5b3", func := "spillway/spillwaylaw18.DepthChooses", spec := "depthChooses", unfollowed := true, recurses := true, apart := false }
def DepthChoosesSaid : Prop := depthChoosesRow.holds Tryz.pinned (OpenSpec.ofChange depthChoosesSpec)

/-- ITS FALSE NEIGHBOUR: 'it returns false'. Refute it at one input. -/
def depthChoosesWrong : ChangeSpec := { name := "depthChooses", fn := fun _ => fun
  | [d] => { results := [.lit (.bool false)], args := [d] }
  | _ => none }
def DepthChoosesWrongFalsely : Prop := depthChoosesRow.holds Tryz.pinned (OpenSpec.ofChange depthChoosesWrong)

/- THE SECOND FORM. 'bulk': how many values and letters a reading holds, each counted each time it is reached (what is shared counts as often as it is met; a slice's spare places count too). A statement '..UptoSaid' is the law's where the arguments, and the package variables that the reading takes, are together of bulk at most 1048576: NARROWER than '..Said'. Prove '..Said' where nothing that the law and all that it calls make is longer than what came in: it says more and counts as full. Else prove '..UptoSaid'. A law counts once. -/
mutual
def uptoBulk {H : Type} : DataW H → Nat
  | .lit (.string bytes) => bytes.length + 1
  | .lit _ => 1
  | .nil => 1
  | .ptr d => uptoBulk d + 1
  | .slice elems spare => uptoBulkAll elems + uptoBulkAll spare + 1
  | .agg parts => uptoBulkAll parts + 1
  | .iface _ d => uptoBulk d + 1
  | .map entries => uptoBulkEntries entries + 1
  | .held _ => 1
def uptoBulkAll {H : Type} : List (DataW H) → Nat
  | [] => 0
  | d :: r => uptoBulk d + uptoBulkAll r
def uptoBulkEntries {H : Type} : List (Lit × DataW H) → Nat
  | [] => 0
  | x :: r => uptoBulkEntry x + uptoBulkEntries r
def uptoBulkEntry {H : Type} : Lit × DataW H → Nat
  | (.string bytes, d) => bytes.length + uptoBulk d + 1
  | (_, d) => uptoBulk d + 1
 end
def uptoSmall : (H : Type) → List (DataW H) → Bool := fun _ ds => decide (uptoBulkAll ds ≤ 1048576)
def OpenSpec.upto (s : _root_.Go.ChangeSpec) : _root_.Go.OpenSpec := { _root_.Go.OpenSpec.ofChange s with cond := some uptoSmall }

/-- 'spillwaylaw18.DepthSafes', WHERE WHAT IT READS IS OF BULK AT MOST 1048576: true; the input reads as it did. -/
def depthSafesUptoRow : OpenClaim := { program := "ytgiohlcipndakaagreat", sum := "70044a10f556663ee93d1ee7f0f8c719c41f03dde2a494190ea9d8a19188b5b3", func := "spillway/spillwaylaw18.DepthSafes", spec := "depthSafes", unfollowed := true, recurses := true, apart := false, narrowed := true }
def DepthSafesUptoSaid : Prop := depthSafesUptoRow.holds Tryz.pinned (OpenSpec.upto depthSafesSpec)

/-- 'spillwaylaw18.DepthMosts', WHERE WHAT IT READS IS OF BULK AT MOST 1048576: true; the input reads as it did. -/
def depthMostsUptoRow : OpenClaim := { program := "ytgiohlcipndakaagreat", sum := "70044a10f556663ee93d1ee7f0f8c719c41f03dde2a494190ea9d8a19188b5b3", func := "spillway/spillwaylaw18.DepthMosts", spec := "depthMosts", unfollowed := true, recurses := true, apart := false, narrowed := true }
def DepthMostsUptoSaid : Prop := depthMostsUptoRow.holds Tryz.pinned (OpenSpec.upto depthMostsSpec)

/-- 'spillwaylaw18.DepthChooses', WHERE WHAT IT READS IS OF BULK AT MOST 1048576: true; the input reads as it did. -/
def depthChoosesUptoRow : OpenClaim := { program := "ytgiohlcipndakaagreat", sum := "70044a10f556663ee93d1ee7f0f8c719c41f03dde2a494190ea9d8a19188b5b3", func := "spillway/spillwaylaw18.DepthChooses", spec := "depthChooses", unfollowed := true, recurses := true, apart := false, narrowed := true }
def DepthChoosesUptoSaid : Prop := depthChoosesUptoRow.holds Tryz.pinned (OpenSpec.upto depthChoosesSpec)

end Rows
end Go.Proofs.YtgiohlcipndakaaGreat
