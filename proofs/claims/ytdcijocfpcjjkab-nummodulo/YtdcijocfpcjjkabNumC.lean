/- The document's Add, Sub, Fits, Sat, Wrap, Clamp; the statement's fixed answers: each for every argument that fits its type. -/
import Derived.Test.YtdcijocfpcjjkabNumB
namespace Go.Proofs.Ytdcijocfpcjjkab
open Go.ChangeShapes Go.WideShapes Go.ChangeAt Go.RowKit

theorem fixed_any (w : World) :
    Calls Try.prog 4 #[] w fun e w' => e = .returned (.bool true) ∧ w' = w := by
  go_enter Try.func4, Try.ntmps4
  go_wp2_with fail
  refine (add_any _ _ _ (by unfold I64; omega) (by unfold I64; omega)).mono ?_
  rintro e w' ⟨rfl, rfl⟩
  rw [okV_out _ (by omega), okE_out _ (by omega)]
  go_wp2_with fail
  refine (sub_any _ _ _ (by unfold I64; omega) (by unfold I64; omega)).mono ?_
  rintro e w' ⟨rfl, rfl⟩
  rw [okV_in _ (by omega), okE_in _ (by omega)]
  go_wp2_with fail
  refine (fits_12 _ _).mono ?_
  rintro e w' ⟨rfl, rfl⟩
  rw [show fitsN 128 (-128) = true from by decide]
  go_wp2_with fail
  refine (sat_6 _ _).mono ?_
  rintro e w' ⟨rfl, rfl⟩
  rw [show clampV 40000 (-32768) 32767 = 32767 from by decide]
  go_wp2_with fail
  refine (wrap_7 _ _).mono ?_
  rintro e w' ⟨rfl, rfl⟩
  rw [show wrapN 32768 40000 = -25536 from by decide]
  go_wp2_with fail
  refine (clamp_any _ _ _ _).mono ?_
  rintro e w' ⟨rfl, rfl⟩
  rw [show clampV 5 0 3 = 3 from by decide]
  go_wp2
  go_ret
  exact ⟨rfl, rfl⟩
end Go.Proofs.Ytdcijocfpcjjkab
