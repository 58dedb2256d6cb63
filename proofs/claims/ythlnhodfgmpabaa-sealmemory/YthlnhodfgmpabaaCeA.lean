/- Lists of flat structs, and of lists of them, in memory. -/
import Derived.Test.YthlnhodfgmpabaaCrtP
import Derived.Test.YthlnhodfgmpabaaGenA
namespace Go.Proofs.Ythlnhodfgmpabaa
open Go.ChangeShapes Go.WideShapes Go.ChangeAt Go.RowKit
set_option linter.unusedVariables false
/-! ### Lists in memory -/
def scs (s : Int × Int) : List Value := [.int .i64 s.1, .int .i64 s.2]
def pcs (p : Pl) : List Value := [.int .i64 p.1, .int .i64 p.2.1, .int .i64 p.2.2.1, .int .i64 p.2.2.2.1, .int .i64 p.2.2.2.2.1, .int .i64 p.2.2.2.2.2]
/-- A slice of flat structs of nc cells. -/
def ERow {α : Type} (nc : Nat) (E : α → List Value) (w : World) (a : Option Addr) (len cap : Nat) (xs : List α) : Prop :=
  xs.length = len ∧ len ≤ cap ∧ cap ≤ maxLen ∧ (a = none → cap = 0) ∧ ∀ x, a = some x → ∀ i p, xs[i]? = some p → ∀ j v, (E p)[j]? = some v → w.cell? ((x.add (i * nc)).add j) = some v
theorem ERow.below {α : Type} {nc : Nat} {E : α → List Value} {w w' : World} {a : Option Addr} {len cap : Nat} {xs : List α} (h : ERow nc E w a len cap xs) (g : Below w.heap.size w w') : ERow nc E w' a len cap xs :=
  ⟨h.1, h.2.1, h.2.2.1, h.2.2.2.1, fun x hx i p hp j v hv => (g.cell (World.block_lt_of_cell? w _ (h.2.2.2.2 x hx i p hp j v hv))).trans (h.2.2.2.2 x hx i p hp j v hv)⟩
theorem ERow.at {α : Type} {nc : Nat} {E : α → List Value} {w : World} {a : Option Addr} {len cap : Nat} {xs : List α} (h : ERow nc E w a len cap xs) {i : Nat} (hi : i < len) :
    ∃ x p, a = some x ∧ xs[i]? = some p ∧ xs.drop i = p :: xs.drop (i + 1) ∧ ∀ j v, (E p)[j]? = some v → w.cell? ((x.add (i * nc)).add j) = some v := by
  obtain ⟨h1, h2, h3, h4, h5⟩ := h
  have hi' : i < xs.length := by omega
  cases a with
  | none => have := h4 rfl; omega
  | some x => exact ⟨x, xs[i], rfl, List.getElem?_eq_getElem hi', List.drop_eq_getElem_cons hi', h5 x rfl i _ (List.getElem?_eq_getElem hi')⟩
theorem erow_nil {α : Type} (nc : Nat) (E : α → List Value) (w : World) : ERow nc E w none 0 0 ([] : List α) := ⟨rfl, Nat.le_refl _, by unfold maxLen; omega, fun _ => rfl, fun x h => by cases h⟩
/-- A certificate's plans. -/
def QRow (w : World) (a : Option Addr) (len cap : Nat) (P : List (List Pl)) : Prop :=
  P.length = len ∧ len ≤ cap ∧ cap ≤ maxLen ∧ (a = none → cap = 0) ∧ ∀ x, a = some x → ∀ i l, P[i]? = some l → ∃ ca cc, w.cell? (x.add i) = some (.slice ca l.length cc) ∧ ERow 6 pcs w ca l.length cc l ∧ l.length * 48 ≤ 140737488351232
theorem QRow.below {w w' : World} {a : Option Addr} {len cap : Nat} {P : List (List Pl)} (h : QRow w a len cap P) (g : Below w.heap.size w w') : QRow w' a len cap P :=
  ⟨h.1, h.2.1, h.2.2.1, h.2.2.2.1, fun x hx i l hl => by
    obtain ⟨ca, cc, h1, h2, h3⟩ := h.2.2.2.2 x hx i l hl
    exact ⟨ca, cc, (g.cell (World.block_lt_of_cell? w _ h1)).trans h1, h2.below g, h3⟩⟩
theorem QRow.at {w : World} {a : Option Addr} {len cap : Nat} {P : List (List Pl)} (h : QRow w a len cap P) {i : Nat} (hi : i < len) :
    ∃ x l ca cc, a = some x ∧ P[i]? = some l ∧ P.drop i = l :: P.drop (i + 1) ∧ w.cell? (x.add i) = some (.slice ca l.length cc) ∧ ERow 6 pcs w ca l.length cc l ∧ l.length * 48 ≤ 140737488351232 := by
  obtain ⟨h1, h2, h3, h4, h5⟩ := h
  have hi' : i < P.length := by omega
  cases a with
  | none => have := h4 rfl; omega
  | some x =>
    obtain ⟨ca, cc, g⟩ := h5 x rfl i _ (List.getElem?_eq_getElem hi')
    exact ⟨x, P[i], ca, cc, rfl, List.getElem?_eq_getElem hi', List.drop_eq_getElem_cons hi', g⟩
end Go.Proofs.Ythlnhodfgmpabaa
