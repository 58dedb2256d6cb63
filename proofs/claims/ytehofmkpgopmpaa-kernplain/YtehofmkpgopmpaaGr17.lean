/- The document's one of layer 8, its form being right: what it returns. -/
import Derived.Test.YtehofmkpgopmpaaGr08
import Derived.Test.YtehofmkpgopmpaaGr16
/- The document's one of layer 8, its form being right: what it returns. -/
namespace Go.Proofs.Ytehofmkpgopmpaa
open Go.ChangeShapes Go.WideShapes Go.ChangeAt Go.RowKit
set_option linter.unusedVariables false
/-- The lists' lengths, as both say them. -/
theorem le_li {k b m kh kw sh sw tp lf bt rt h w c st C sm ss um us z p : Int} {lw lb : Nat} (hk : 1 ≤ k ∧ k ≤ 8) (hC : (mkS k m kh kw sh sw tp lf bt rt h w c).2.2 = C) (hoz : ozB k b m kh kw sh sw tp lf bt rt lw lb sm ss um us z p = true) : decide ((lw : Int) = liW k m c st ∧ (lb : Int) = liB k m c) = leB k C st lw lb := by
  have ho := of_decide_eq_true hoz
  by_cases k2 : k ≤ 2
  · have e : C = m := by
      rw [← hC]
      unfold mkS
      rcases (show k = 1 ∨ k = 2 by omega) with rfl | rfl <;> rfl
    unfold liW liB leB
    rw [if_pos k2, if_pos k2, e]
    simp [show k ≤ 3 by omega]
  · by_cases k3 : k = 3
    · subst k3
      have e : C = c := by rw [← hC]; rfl
      unfold liW liB leB
      rw [e]
      simp
    · have h0 := ho.2.2.1 (by omega)
      unfold liW liB leB
      rw [if_neg k2, if_neg k3, if_neg k2, if_neg k3]
      simp [h0, show ¬ k ≤ 3 by omega]
theorem mm2 {α : Type} {a b : α} {l : List α} : ∀ x ∈ l, x ∈ a :: b :: l := fun x hx => List.mem_cons_of_mem _ (List.mem_cons_of_mem _ hx)
theorem mm4 {α : Type} {a b c d : α} {l : List α} : ∀ x ∈ l, x ∈ a :: b :: c :: d :: l := fun x hx => mm2 x (mm2 x hx)
theorem onz {k m kh kw sh sw tp lf bt rt E : Int} {s : Int × Int × Int} (h : E ≠ 0) : Ending.returned (.tuple #[.agg #[.int .i64 0, .int .i64 0, .int .i64 0], .int .i64 E]) = .returned (.tuple #[.agg #[.int .i64 (onS k m kh kw sh sw tp lf bt rt E s).1, .int .i64 (onS k m kh kw sh sw tp lf bt rt E s).2.1, .int .i64 (onS k m kh kw sh sw tp lf bt rt E s).2.2], .int .i64 E]) := by rw [onS_no h]
theorem rmO_of {k m kh kw sh sw tp lf bt rt h w c : Int} (q : mkW k kh kw sh sw tp lf bt rt h w c = 0) : rmO k m kh kw sh sw tp lf bt rt h w c = mkS k m kh kw sh sw tp lf bt rt h w c := if_pos q
end Go.Proofs.Ytehofmkpgopmpaa
