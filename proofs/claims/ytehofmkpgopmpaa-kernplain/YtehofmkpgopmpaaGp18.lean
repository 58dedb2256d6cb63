/- same and front of law08: what each returns. The document's Copy of layer 8: what it returns. plain and fixed of law08. fixed of law08. The document's Look of layer 8: what it returns. -/
import Derived.Test.YtehofmkpgopmpaaGr08
import Derived.Test.YtehofmkpgopmpaaGr12
import Derived.Test.YtehofmkpgopmpaaGr13
import Derived.Test.YtehofmkpgopmpaaGr17
import Derived.BigQuiet
import Derived.Laws.AppendOwnNone
/- same and front of law08: what each returns. -/
namespace Go.Proofs.Ytehofmkpgopmpaa
open Go.ChangeShapes Go.WideShapes Go.ChangeAt Go.RowKit
set_option linter.unusedVariables false
/-- A slice of shapes. -/
def SV (w : World) (v : Value) (L : List (Int × Int × Int)) : Prop :=
  ∃ a cap, v = .slice a L.length cap ∧ L.length ≤ cap ∧ cap ≤ maxLen ∧ (0 < L.length → ∃ g, a = some ⟨g, 0, none⟩ ∧ ∀ i, i < L.length →
    w.cell? ⟨g, i * 3, none⟩ = some (.int .i64 (L.getD i (0, 0, 0)).1) ∧ w.cell? ⟨g, i * 3 + 1, none⟩ = some (.int .i64 (L.getD i (0, 0, 0)).2.1) ∧ w.cell? ⟨g, i * 3 + 2, none⟩ = some (.int .i64 (L.getD i (0, 0, 0)).2.2))
/-! ### front -/
/-- The cells that lie there. -/
def mc (w : World) (x : Addr) (n : Nat) : List Value := (List.range n).map fun q => (w.cell? (x.add q)).getD (.bool false)
end Go.Proofs.Ytehofmkpgopmpaa

/- The document's Copy of layer 8: what it returns. -/
namespace Go.Proofs.Ytehofmkpgopmpaa
open Go.ChangeShapes Go.WideShapes Go.ChangeAt Go.RowKit
set_option linter.unusedVariables false
theorem Own.grown {k : IntKind} {T : TypeId} {w w' : World} {base : Nat} {v : Value} {zs : List Int} {row : Option Nat} (h : Own k T w base v zs) (q : w.grownBy w' row) (hne : ∀ b, row = some b → ∀ c, w.heap[b]? ≠ some (.cells c T (0, 0))) : Own k T w' base v zs := by
  refine ⟨h.1.kept q ?_, h.2⟩
  rcases h.shape with ⟨rfl, _⟩ | ⟨g, cap, rfl, -, -, -, -, ⟨cur, hc, -⟩, -⟩
  · exact .inl rfl
  · exact .inr (fun e => hne g e.symm cur hc)
/-- A copied op: its cells, its lists. -/
def COp (w : World) (base : Nat) (xs : List Value) (q : Nat) (o : Nat → Int) (z b : List Int) : Prop :=
  ∃ (wa : Option Addr) (lw cw : Nat) (ba : Option Addr) (lb cb : Nat), o 12 = (lw : Int) ∧ o 13 = (lb : Int) ∧ (∀ j u, (opl o wa lw cw ba lb cb)[j]? = some u → xs[q * 22 + j]? = some u) ∧ Own .i16 82 w base (.slice wa lw cw) z ∧ Own .i32 21 w base (.slice ba lb cb) b ∧ lw * 2 ≤ 140737488351232 ∧ lb * 4 ≤ 140737488351232
def CRow (w : World) (base : Nat) (v : Value) (i : Nat) (O : Nat → Nat → Int) (Z B : Nat → List Int) : Prop :=
  ∃ xs, w.ownsRow base 48 22 v i xs ∧ ∀ q, q < i → COp w base xs q (O q) (Z q) (B q)
theorem St.seti {w0 w : World} {B i : Nat} {c : Array Value} {t : TypeId} {l : List (Nat × Array Value × TypeId)} {v : Value} (h : St w0 w ((B, c, t) :: l)) (hl : ∀ x ∈ l, x.1 ≠ B) (d : Array Value) (hd : c.setIfInBounds i v = d) :
    St w0 (w.setCell ⟨B, i, none⟩ v) ((B, d, t) :: l) := by subst hd; exact h.set hl
theorem LRow.at {w : World} {oa : Option Addr} {on oc : Nat} {O : Nat → Nat → Int} {Z B : Nat → List Int} (h : LRow w oa on oc O Z B) {i : Nat} (hi : i < on) : ∃ x, oa = some x ∧ LOp w (x.add (i * 22)) (O i) (Z i) (B i) := by
  cases oa with
  | none => have := h.2.2.1 rfl; have := h.1; omega
  | some x => exact ⟨x, rfl, h.2.2.2 x rfl i hi⟩
theorem grown_set (w : World) (N i : Nat) (v : Value) : w.grownBy (w.setCell ⟨N, i, none⟩ v) (some N) := ⟨rfl, rfl, rfl, by simp, fun k _ hk => Below.heap_setCell w ⟨N, i, none⟩ v k (fun e => hk (by rw [e]))⟩
end Go.Proofs.Ytehofmkpgopmpaa

/- plain and fixed of law08. -/
namespace Go.Proofs.Ytehofmkpgopmpaa
open Go.ChangeShapes Go.WideShapes Go.ChangeAt Go.RowKit
set_option linter.unusedVariables false
/-- The op of the plain model, its A being 'aa'. -/
def plO (aa : Int) (_ : Nat) (j : Nat) : Int := [1, aa, 0, 1, 0, 0, 0, 0, 0, 0, 0, 0, 2, 1, 1, 0, 0, 0, 0, 0, -128, 127].getD j 0
end Go.Proofs.Ytehofmkpgopmpaa

/- fixed of law08. -/
namespace Go.Proofs.Ytehofmkpgopmpaa
open Go.ChangeShapes Go.WideShapes Go.ChangeAt Go.RowKit
set_option linter.unusedVariables false
end Go.Proofs.Ytehofmkpgopmpaa

/- The document's Look of layer 8: what it returns. -/
namespace Go.Proofs.Ytehofmkpgopmpaa
open Go.ChangeShapes Go.WideShapes Go.ChangeAt Go.RowKit
set_option linter.unusedVariables false
/-- Shapes that the call owns. -/
def OSh (w : World) (base : Nat) (v : Value) (L : List (Int × Int × Int)) : Prop := w.ownsRow base 23 3 v L.length (s3 L)
/-! ### A model that fails whatever its ops are -/
/-! ### The ops -/
end Go.Proofs.Ytehofmkpgopmpaa
