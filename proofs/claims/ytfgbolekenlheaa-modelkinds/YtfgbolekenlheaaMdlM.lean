/- The walk of ModelKinds. -/
import Derived.Test.YtfgbolekenlheaaMdlL
namespace Go.Proofs.Ytfgbolekenlheaa
open Go.ChangeShapes Go.WideShapes Go.ChangeAt Go.RowKit
theorem modelKinds_walk (k : Int) (w : World) (_w0 : (Lit.int .i64 k).wf = true) :
    Calls Try.prog 4 #[.int .i64 k] w fun e w' => e = .returned (.bool true) ∧ Below w.heap.size w w' := by
  go_enter Try.func4, Try.ntmps4
  go_wp2_with fail
  refine (fixed_any _).mono ?_
  rintro e w1 ⟨rfl, hb⟩
  go_wp2_with fail
  refine (red_any _ _).mono ?_
  rintro e w' ⟨rfl, rfl⟩
  go_wp2_with fail
  refine (rred_any _ _).mono ?_
  rintro e w' ⟨rfl, rfl⟩
  go_wp2
  go_ret
  exact ⟨rfl, hb⟩
end Go.Proofs.Ytfgbolekenlheaa
