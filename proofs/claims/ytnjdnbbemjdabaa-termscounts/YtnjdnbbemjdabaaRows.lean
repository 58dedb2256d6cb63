/-
  No cell of these rows narrows 'for every input' (looked for: loops, veiled, ifaces, maps, wideKeys, modest, calm, conditions, laid).
  DERIVED. THE GIVEN ROWS OF THIS SEAT. 4 by the template 'for every input the law returns true; each argument reads behind the call as it read before'; 0 by the template 'total and deterministic' (their statements: YtnjdnbbemjdabaaTotals.lean).
  GIVEN WITH THE SEED: the statements are not yours to turn. If you find one false, say at which input.
  Laid BY PROGRAM, IN A SANDBOX (cutbox-rows.mjs): the forced cells as the released guide's own fill.sh prints them over the translation 9a1a2201b72c002c… (all of the seat's roots in one cut). By AI agents, Wed Nov 11 2026. No macro, syntax, notation, axiom, sorry.
-/
import Derived.Test.YtnjdnbbemjdabaaChecked
import GoSem.Claim
import GoSem.ClaimJoined
import GoSem.ClaimMapViews
import Derived.JoinedTies
import Derived.KernelRfl
namespace Go.Proofs.Ytnjdnbbemjdabaa
/- THE CELL 'sum', in the pinned program and in every row, IS THE sha256 OF THE DUMP (.gsa) THAT YtnjdnbbemjdabaaProg.lean LOADS. Nothing in Lean hashes anything: it is a label: what it is worth is what the hold of that sum in a sandbox is worth. -/
noncomputable def Try.pinned : Pinned := { name := "ytnjdnbbemjdabaa", sum := "9a1a2201b72c002cddd7b580b67ea398d4093f6ee6fb25903a18c39ad5372223", checked := Try.checked }
namespace Rows
def none {H : Type} : Left H := { results := [], args := [] }

/-- 'spillwaylaw10.TermsCounts': WHATEVER THE INPUT: true; the input reads as it did. -/
def termsCountsSpec : ChangeSpec := { name := "termsCounts", fn := fun _ => fun
  | [d1, d2] => { results := [.lit (.bool true)], args := [d1, d2] }
  | _ => none }
def termsCountsRow : OpenClaim := { program := "ytnjdnbbemjdabaa", sum := "9a1a2201b72c002cddd7b580b67ea398d4093f6ee6fb25903a18c39ad5372223", func := "spillway/spillwaylaw10.TermsCounts", spec := "termsCounts", unfollowed := true, recurses := true, apart := false }
def TermsCountsSaid : Prop := termsCountsRow.holds Try.pinned (OpenSpec.ofChange termsCountsSpec)

/-- ITS FALSE NEIGHBOUR: 'it returns false'. Refute it at one input. -/
def termsCountsWrong : ChangeSpec := { name := "termsCounts", fn := fun _ => fun
  | [d1, d2] => { results := [.lit (.bool false)], args := [d1, d2] }
  | _ => none }
def TermsCountsWrongFalsely : Prop := termsCountsRow.holds Try.pinned (OpenSpec.ofChange termsCountsWrong)

/-- 'spillwaylaw10.TermsOf': WHATEVER THE INPUT: true; the input reads as it did. -/
def termsOfSpec : ChangeSpec := { name := "termsOf", fn := fun _ => fun
  | [d] => { results := [.lit (.bool true)], args := [d] }
  | _ => none }
def termsOfRow : OpenClaim := { program := "ytnjdnbbemjdabaa", sum := "9a1a2201b72c002cddd7b580b67ea398d4093f6ee6fb25903a18c39ad5372223", func := "spillway/spillwaylaw10.TermsOf", spec := "termsOf", unfollowed := true, recurses := true, apart := false }
def TermsOfSaid : Prop := termsOfRow.holds Try.pinned (OpenSpec.ofChange termsOfSpec)

/-- ITS FALSE NEIGHBOUR: 'it returns false'. Refute it at one input. -/
def termsOfWrong : ChangeSpec := { name := "termsOf", fn := fun _ => fun
  | [d] => { results := [.lit (.bool false)], args := [d] }
  | _ => none }
def TermsOfWrongFalsely : Prop := termsOfRow.holds Try.pinned (OpenSpec.ofChange termsOfWrong)

/-- 'spillwaylaw10.TermsPlaces': WHATEVER THE INPUT: true; the input reads as it did. -/
def termsPlacesSpec : ChangeSpec := { name := "termsPlaces", fn := fun _ => fun
  | [d] => { results := [.lit (.bool true)], args := [d] }
  | _ => none }
def termsPlacesRow : OpenClaim := { program := "ytnjdnbbemjdabaa", sum := "9a1a2201b72c002cddd7b580b67ea398d4093f6ee6fb25903a18c39ad5372223", func := "spillway/spillwaylaw10.TermsPlaces", spec := "termsPlaces", unfollowed := true, recurses := true, apart := false }
def TermsPlacesSaid : Prop := termsPlacesRow.holds Try.pinned (OpenSpec.ofChange termsPlacesSpec)

/-- ITS FALSE NEIGHBOUR: 'it returns false'. Refute it at one input. -/
def termsPlacesWrong : ChangeSpec := { name := "termsPlaces", fn := fun _ => fun
  | [d] => { results := [.lit (.bool false)], args := [d] }
  | _ => none }
def TermsPlacesWrongFalsely : Prop := termsPlacesRow.holds Try.pinned (OpenSpec.ofChange termsPlacesWrong)

/-- 'spillwaylaw10.TermsMemory': WHATEVER THE INPUT: true; the input reads as it did. -/
def termsMemorySpec : ChangeSpec := { name := "termsMemory", fn := fun _ => fun
  | [d] => { results := [.lit (.bool true)], args := [d] }
  | _ => none }
def termsMemoryRow : OpenClaim := { program := "ytnjdnbbemjdabaa", sum := "9a1a2201b72c002cddd7b580b67ea398d4093f6ee6fb25903a18c39ad5372223", func := "spillway/spillwaylaw10.TermsMemory", spec := "termsMemory", unfollowed := true, recurses := true, apart := false }
def TermsMemorySaid : Prop := termsMemoryRow.holds Try.pinned (OpenSpec.ofChange termsMemorySpec)

/-- ITS FALSE NEIGHBOUR: 'it returns false'. Refute it at one input. -/
def termsMemoryWrong : ChangeSpec := { name := "termsMemory", fn := fun _ => fun
  | [d] => { results := [.lit (.bool false)], args := [d] }
  | _ => none }
def TermsMemoryWrongFalsely : Prop := termsMemoryRow.holds Try.pinned (OpenSpec.ofChange termsMemoryWrong)

/- THE SECOND FORM. 'bulk': how many values and letters a reading holds, each counted each time it is reached (what is shared counts as often as it is met; a slice's spare places count too). A statement '..UptoSaid' is the law's where the arguments, and the package variables that the reading takes, are together of bulk at most 1048576: NARROWER than '..Said'. Prove '..Said' where nothing that the law and all that it calls make is longer than what came in: it says more and counts as full. Else prove '..UptoSaid'. A law counts once. -/
mutual
def uptoBulk {H : Type} : DataW H → Nat
  | .lit (.string bytes) => bytes.length + 1
  | .lit _ => 1
  | .nil => 1
  | .ptr d => uptoBulk d + 1
  | .slice elems spare => uptoBulkAll elems + uptoBulkAll spare + 1
  | .agg parts => uptoBulkAll parts + 1
  | .iface _ d => uptoBulk d + 1
  | .map entries => uptoBulkEntries entries + 1
  | .held _ => 1
def uptoBulkAll {H : Type} : List (DataW H) → Nat
  | [] => 0
  | d :: r => uptoBulk d + uptoBulkAll r
def uptoBulkEntries {H : Type} : List (Lit × DataW H) → Nat
  | [] => 0
  | x :: r => uptoBulkEntry x + uptoBulkEntries r
def uptoBulkEntry {H : Type} : Lit × DataW H → Nat
  | (.string bytes, d) => bytes.length + uptoBulk d + 1
  | (_, d) => uptoBulk d + 1
 end
def uptoSmall : (H : Type) → List (DataW H) → Bool := fun _ ds => decide (uptoBulkAll ds ≤ 1048576)
def OpenSpec.upto (s : _root_.Go.ChangeSpec) : _root_.Go.OpenSpec := { _root_.Go.OpenSpec.ofChange s with cond := some uptoSmall }

/-- 'spillwaylaw10.TermsCounts', WHERE WHAT IT READS IS OF BULK AT MOST 1048576: true; the input reads as it did. -/
def termsCountsUptoRow : OpenClaim := { program := "ytnjdnbbemjdabaa", sum := "9a1a2201b72c002cddd7b580b67ea398d4093f6ee6fb25903a18c39ad5372223", func := "spillway/spillwaylaw10.TermsCounts", spec := "termsCounts", unfollowed := true, recurses := true, apart := false, narrowed := true }
def TermsCountsUptoSaid : Prop := termsCountsUptoRow.holds Try.pinned (OpenSpec.upto termsCountsSpec)

/-- 'spillwaylaw10.TermsOf', WHERE WHAT IT READS IS OF BULK AT MOST 1048576: true; the input reads as it did. -/
def termsOfUptoRow : OpenClaim := { program := "ytnjdnbbemjdabaa", sum := "9a1a2201b72c002cddd7b580b67ea398d4093f6ee6fb25903a18c39ad5372223", func := "spillway/spillwaylaw10.TermsOf", spec := "termsOf", unfollowed := true, recurses := true, apart := false, narrowed := true }
def TermsOfUptoSaid : Prop := termsOfUptoRow.holds Try.pinned (OpenSpec.upto termsOfSpec)

/-- 'spillwaylaw10.TermsPlaces', WHERE WHAT IT READS IS OF BULK AT MOST 1048576: true; the input reads as it did. -/
def termsPlacesUptoRow : OpenClaim := { program := "ytnjdnbbemjdabaa", sum := "9a1a2201b72c002cddd7b580b67ea398d4093f6ee6fb25903a18c39ad5372223", func := "spillway/spillwaylaw10.TermsPlaces", spec := "termsPlaces", unfollowed := true, recurses := true, apart := false, narrowed := true }
def TermsPlacesUptoSaid : Prop := termsPlacesUptoRow.holds Try.pinned (OpenSpec.upto termsPlacesSpec)

/-- 'spillwaylaw10.TermsMemory', WHERE WHAT IT READS IS OF BULK AT MOST 1048576: true; the input reads as it did. -/
def termsMemoryUptoRow : OpenClaim := { program := "ytnjdnbbemjdabaa", sum := "9a1a2201b72c002cddd7b580b67ea398d4093f6ee6fb25903a18c39ad5372223", func := "spillway/spillwaylaw10.TermsMemory", spec := "termsMemory", unfollowed := true, recurses := true, apart := false, narrowed := true }
def TermsMemoryUptoSaid : Prop := termsMemoryUptoRow.holds Try.pinned (OpenSpec.upto termsMemorySpec)

end Rows
end Go.Proofs.Ytnjdnbbemjdabaa
