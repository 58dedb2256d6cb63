/-
  No cell of these rows narrows 'for every input' (looked for: loops, veiled, ifaces, maps, wideKeys, modest, calm, conditions, laid).
  DERIVED. THE GIVEN ROWS OF THIS SEAT. 4 by the template 'for every input the law returns true; each argument reads behind the call as it read before'; 0 by the template 'total and deterministic' (their statements: YtedbcnkgembhbaaTotals.lean).
  GIVEN WITH THE SEED: the statements are not yours to turn. If you find one false, say at which input.
  Laid BY PROGRAM, IN A SANDBOX (cutbox-rows.mjs): the forced cells as the released guide's own fill.sh prints them over the translation a62c541801d9757b… (all of the seat's roots in one cut). By AI agents, Wed Nov 11 2026. No macro, syntax, notation, axiom, sorry.
-/
import Derived.Test.YtedbcnkgembhbaaChecked
import GoSem.Claim
import GoSem.ClaimJoined
import GoSem.ClaimMapViews
import Derived.JoinedTies
import Derived.KernelRfl
namespace Go.Proofs.Ytedbcnkgembhbaa
/- THE CELL 'sum', in the pinned program and in every row, IS THE sha256 OF THE DUMP (.gsa) THAT YtedbcnkgembhbaaProg.lean LOADS. Nothing in Lean hashes anything: it is a label: what it is worth is what the hold of that sum in a sandbox is worth. -/
noncomputable def Try.pinned : Pinned := { name := "ytedbcnkgembhbaa", sum := "a62c541801d9757b201d009898668b65d46a757c7862cefafa03697d58d39aec", checked := Try.checked }
namespace Rows
def none {H : Type} : Left H := { results := [], args := [] }

/-- 'spillwaylaw07.BufScripts': WHATEVER THE INPUT: true; the input reads as it did. -/
def bufScriptsSpec : ChangeSpec := { name := "bufScripts", fn := fun _ => fun
  | [d1, d2, d3] => { results := [.lit (.bool true)], args := [d1, d2, d3] }
  | _ => none }
def bufScriptsRow : OpenClaim := { program := "ytedbcnkgembhbaa", sum := "a62c541801d9757b201d009898668b65d46a757c7862cefafa03697d58d39aec", func := "spillway/spillwaylaw07.BufScripts", spec := "bufScripts", apart := false }
def BufScriptsSaid : Prop := bufScriptsRow.holds Try.pinned (OpenSpec.ofChange bufScriptsSpec)

/-- ITS FALSE NEIGHBOUR: 'it returns false'. Refute it at one input. -/
def bufScriptsWrong : ChangeSpec := { name := "bufScripts", fn := fun _ => fun
  | [d1, d2, d3] => { results := [.lit (.bool false)], args := [d1, d2, d3] }
  | _ => none }
def BufScriptsWrongFalsely : Prop := bufScriptsRow.holds Try.pinned (OpenSpec.ofChange bufScriptsWrong)

/-- 'spillwaylaw07.BufConverts': WHATEVER THE INPUT: true; the input reads as it did. -/
def bufConvertsSpec : ChangeSpec := { name := "bufConverts", fn := fun _ => fun
  | [d1, d2] => { results := [.lit (.bool true)], args := [d1, d2] }
  | _ => none }
def bufConvertsRow : OpenClaim := { program := "ytedbcnkgembhbaa", sum := "a62c541801d9757b201d009898668b65d46a757c7862cefafa03697d58d39aec", func := "spillway/spillwaylaw07.BufConverts", spec := "bufConverts", apart := false }
def BufConvertsSaid : Prop := bufConvertsRow.holds Try.pinned (OpenSpec.ofChange bufConvertsSpec)

/-- ITS FALSE NEIGHBOUR: 'it returns false'. Refute it at one input. -/
def bufConvertsWrong : ChangeSpec := { name := "bufConverts", fn := fun _ => fun
  | [d1, d2] => { results := [.lit (.bool false)], args := [d1, d2] }
  | _ => none }
def BufConvertsWrongFalsely : Prop := bufConvertsRow.holds Try.pinned (OpenSpec.ofChange bufConvertsWrong)

/-- 'spillwaylaw07.BufMemory': WHATEVER THE INPUT: true; the input reads as it did. -/
def bufMemorySpec : ChangeSpec := { name := "bufMemory", fn := fun _ => fun
  | [d1, d2, d3] => { results := [.lit (.bool true)], args := [d1, d2, d3] }
  | _ => none }
def bufMemoryRow : OpenClaim := { program := "ytedbcnkgembhbaa", sum := "a62c541801d9757b201d009898668b65d46a757c7862cefafa03697d58d39aec", func := "spillway/spillwaylaw07.BufMemory", spec := "bufMemory", apart := false }
def BufMemorySaid : Prop := bufMemoryRow.holds Try.pinned (OpenSpec.ofChange bufMemorySpec)

/-- ITS FALSE NEIGHBOUR: 'it returns false'. Refute it at one input. -/
def bufMemoryWrong : ChangeSpec := { name := "bufMemory", fn := fun _ => fun
  | [d1, d2, d3] => { results := [.lit (.bool false)], args := [d1, d2, d3] }
  | _ => none }
def BufMemoryWrongFalsely : Prop := bufMemoryRow.holds Try.pinned (OpenSpec.ofChange bufMemoryWrong)

/-- 'spillwaylaw07.BufNil': WHATEVER THE INPUT: true; the input reads as it did. -/
def bufNilSpec : ChangeSpec := { name := "bufNil", fn := fun _ => fun
  | [d1, d2, d3] => { results := [.lit (.bool true)], args := [d1, d2, d3] }
  | _ => none }
def bufNilRow : OpenClaim := { program := "ytedbcnkgembhbaa", sum := "a62c541801d9757b201d009898668b65d46a757c7862cefafa03697d58d39aec", func := "spillway/spillwaylaw07.BufNil", spec := "bufNil", apart := false }
def BufNilSaid : Prop := bufNilRow.holds Try.pinned (OpenSpec.ofChange bufNilSpec)

/-- ITS FALSE NEIGHBOUR: 'it returns false'. Refute it at one input. -/
def bufNilWrong : ChangeSpec := { name := "bufNil", fn := fun _ => fun
  | [d1, d2, d3] => { results := [.lit (.bool false)], args := [d1, d2, d3] }
  | _ => none }
def BufNilWrongFalsely : Prop := bufNilRow.holds Try.pinned (OpenSpec.ofChange bufNilWrong)

/- THE SECOND FORM. 'bulk': how many values and letters a reading holds, each counted each time it is reached (what is shared counts as often as it is met; a slice's spare places count too). A statement '..UptoSaid' is the law's where the arguments, and the package variables that the reading takes, are together of bulk at most 1048576: NARROWER than '..Said'. Prove '..Said' where nothing that the law and all that it calls make is longer than what came in: it says more and counts as full. Else prove '..UptoSaid'. A law counts once. -/
mutual
def uptoBulk {H : Type} : DataW H → Nat
  | .lit (.string bytes) => bytes.length + 1
  | .lit _ => 1
  | .nil => 1
  | .ptr d => uptoBulk d + 1
  | .slice elems spare => uptoBulkAll elems + uptoBulkAll spare + 1
  | .agg parts => uptoBulkAll parts + 1
  | .iface _ d => uptoBulk d + 1
  | .map entries => uptoBulkEntries entries + 1
  | .held _ => 1
def uptoBulkAll {H : Type} : List (DataW H) → Nat
  | [] => 0
  | d :: r => uptoBulk d + uptoBulkAll r
def uptoBulkEntries {H : Type} : List (Lit × DataW H) → Nat
  | [] => 0
  | x :: r => uptoBulkEntry x + uptoBulkEntries r
def uptoBulkEntry {H : Type} : Lit × DataW H → Nat
  | (.string bytes, d) => bytes.length + uptoBulk d + 1
  | (_, d) => uptoBulk d + 1
 end
def uptoSmall : (H : Type) → List (DataW H) → Bool := fun _ ds => decide (uptoBulkAll ds ≤ 1048576)
def OpenSpec.upto (s : _root_.Go.ChangeSpec) : _root_.Go.OpenSpec := { _root_.Go.OpenSpec.ofChange s with cond := some uptoSmall }

/-- 'spillwaylaw07.BufScripts', WHERE WHAT IT READS IS OF BULK AT MOST 1048576: true; the input reads as it did. -/
def bufScriptsUptoRow : OpenClaim := { program := "ytedbcnkgembhbaa", sum := "a62c541801d9757b201d009898668b65d46a757c7862cefafa03697d58d39aec", func := "spillway/spillwaylaw07.BufScripts", spec := "bufScripts", apart := false, narrowed := true }
def BufScriptsUptoSaid : Prop := bufScriptsUptoRow.holds Try.pinned (OpenSpec.upto bufScriptsSpec)

/-- 'spillwaylaw07.BufConverts', WHERE WHAT IT READS IS OF BULK AT MOST 1048576: true; the input reads as it did. -/
def bufConvertsUptoRow : OpenClaim := { program := "ytedbcnkgembhbaa", sum := "a62c541801d9757b201d009898668b65d46a757c7862cefafa03697d58d39aec", func := "spillway/spillwaylaw07.BufConverts", spec := "bufConverts", apart := false, narrowed := true }
def BufConvertsUptoSaid : Prop := bufConvertsUptoRow.holds Try.pinned (OpenSpec.upto bufConvertsSpec)

/-- 'spillwaylaw07.BufMemory', WHERE WHAT IT READS IS OF BULK AT MOST 1048576: true; the input reads as it did. -/
def bufMemoryUptoRow : OpenClaim := { program := "ytedbcnkgembhbaa", sum := "a62c541801d9757b201d009898668b65d46a757c7862cefafa03697d58d39aec", func := "spillway/spillwaylaw07.BufMemory", spec := "bufMemory", apart := false, narrowed := true }
def BufMemoryUptoSaid : Prop := bufMemoryUptoRow.holds Try.pinned (OpenSpec.upto bufMemorySpec)

/-- 'spillwaylaw07.BufNil', WHERE WHAT IT READS IS OF BULK AT MOST 1048576: true; the input reads as it did. -/
def bufNilUptoRow : OpenClaim := { program := "ytedbcnkgembhbaa", sum := "a62c541801d9757b201d009898668b65d46a757c7862cefafa03697d58d39aec", func := "spillway/spillwaylaw07.BufNil", spec := "bufNil", apart := false, narrowed := true }
def BufNilUptoSaid : Prop := bufNilUptoRow.holds Try.pinned (OpenSpec.upto bufNilSpec)

end Rows
end Go.Proofs.Ytedbcnkgembhbaa
