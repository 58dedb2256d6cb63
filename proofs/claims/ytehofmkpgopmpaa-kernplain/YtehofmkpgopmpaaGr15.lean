/- The document's spare of layer 8: are the fields that a kind doesn't use 0? -/
import Derived.Test.YtehofmkpgopmpaaGr03
/- The document's spare of layer 8: are the fields that a kind doesn't use 0? -/
namespace Go.Proofs.Ytehofmkpgopmpaa
open Go.ChangeShapes Go.WideShapes Go.ChangeAt Go.RowKit
set_option linter.unusedVariables false
/-- The four questions. -/
def sq1 (k b um us : Int) : Bool := decide (k ≠ 6 ∧ (b ≠ 0 ∨ ¬ (um = 0 ∧ us = 0)))
def sq2 (k m : Int) (lw lb : Nat) (sm ss z : Int) : Bool := decide ((2 < k ∧ m ≠ 0) ∨ (weB k = false ∧ 0 < lw + lb) ∨ (scK k = false ∧ (¬ (sm = 0 ∧ ss = 0) ∨ z ≠ 0)))
def sq3 (k kh kw sh sw tp lf bt rt p : Int) : Bool := decide ((slB k = false ∧ ¬ (kh = 0 ∧ kw = 0 ∧ sh = 0 ∧ sw = 0 ∧ tp = 0 ∧ lf = 0 ∧ bt = 0 ∧ rt = 0)) ∨ (k ≠ 2 ∧ k ≠ 3 ∧ p ≠ 0))
def sq4 (k tp lf bt rt : Int) : Bool := decide ((k ≠ 4 ∧ k ≠ 5) ∨ (tp = 0 ∧ lf = 0 ∧ bt = 0 ∧ rt = 0))
theorem ozB_sq {k b m kh kw sh sw tp lf bt rt : Int} {lw lb : Nat} {sm ss um us z p : Int} (hk : 1 ≤ k ∧ k ≤ 8) : ozB k b m kh kw sh sw tp lf bt rt lw lb sm ss um us z p = (!sq1 k b um us && !sq2 k m lw lb sm ss z && !sq3 k kh kw sh sw tp lf bt rt p && sq4 k tp lf bt rt) := by
  rcases eight hk with rfl | rfl | rfl | rfl | rfl | rfl | rfl | rfl
  all_goals
    rw [Bool.eq_iff_iff]
    simp [ozB, sq1, sq2, sq3, sq4, weB, scK, slB]
    try simp only [decide_eq_false_iff_not]
    try omega
theorem retB' {a b : Bool} (h : a = b) : Ending.returned (.bool a) = .returned (.bool b) := by rw [h]
theorem dt {P : Prop} [Decidable P] {q : Bool} (h : decide P = q) (hp : P) : q = true := by rw [← h]; exact decide_eq_true hp
theorem df {P : Prop} [Decidable P] {q : Bool} (h : decide P = q) (hp : ¬ P) : q = false := by rw [← h]; exact decide_eq_false hp
theorem kinds4 {k : Int} (hk : 1 ≤ k ∧ k ≤ 8) : (k ≤ 2 ∧ weB k = true ∧ scK k = true) ∨ (k = 3) ∨ (2 < k ∧ weB k = false ∧ scK k = false) ∨ (2 < k ∧ weB k = false ∧ scK k = true) := by
  rcases eight hk with rfl | rfl | rfl | rfl | rfl | rfl | rfl | rfl <;> decide
end Go.Proofs.Ytehofmkpgopmpaa
