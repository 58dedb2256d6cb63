/- The walks of NumNarrow and NumOwn: each returns true for every argument that fits its type. -/
import Derived.Test.YtdcijocfpcjjkaaNumC
namespace Go.Proofs.Ytdcijocfpcjjkaa
open Go.ChangeShapes Go.WideShapes Go.ChangeAt Go.RowKit
theorem wrapN8_bd (x : Int) : -128 ≤ wrapN 128 x ∧ wrapN 128 x ≤ 127 := by unfold wrapN; omega
theorem wrapN16_bd (x : Int) : -32768 ≤ wrapN 32768 x ∧ wrapN 32768 x ≤ 32767 := by unfold wrapN; omega
theorem wrapN32_bd (x : Int) : -2147483648 ≤ wrapN 2147483648 x ∧ wrapN 2147483648 x ≤ 2147483647 := by unfold wrapN; omega
theorem clampV_bd (x lo hi : Int) (h : lo ≤ hi) : lo ≤ clampV x lo hi ∧ clampV x lo hi ≤ hi := by
  unfold clampV; split
  · omega
  · split <;> omega
theorem numNarrow_walk (x : Int) (_w0 : (Lit.int .i64 x).wf = true) (w : World) :
    Calls Try.prog 5 #[.int .i64 x] w fun e w' => e = .returned (.bool true) ∧ Grown w w' := by
  clear _w0
  obtain ⟨b1, b2⟩ := wrapN8_bd x
  obtain ⟨b3, b4⟩ := wrapN16_bd x
  obtain ⟨b5, b6⟩ := wrapN32_bd x
  obtain ⟨b7, b8⟩ := clampV_bd x (-128) 127 (by omega)
  obtain ⟨b9, b10⟩ := clampV_bd x (-32768) 32767 (by omega)
  obtain ⟨b11, b12⟩ := clampV_bd x (-2147483648) 2147483647 (by omega)
  go_enter Try.func5, Try.ntmps5
  go_wp2_with fail
  refine (fixed_any _).mono ?_
  rintro e w' ⟨rfl, rfl⟩
  go_wp2_with fail
  refine (fits_16 _ _).mono ?_
  rintro e w' ⟨rfl, rfl⟩
  go_wp2_with fail
  refine (reffits_8 _ _).mono ?_
  rintro e w' ⟨rfl, rfl⟩
  go_wp2_with fail
  refine (fits_18 _ _).mono ?_
  rintro e w' ⟨rfl, rfl⟩
  go_wp2_with fail
  refine (reffits_16 _ _).mono ?_
  rintro e w' ⟨rfl, rfl⟩
  go_wp2_with fail
  refine (fits_19 _ _).mono ?_
  rintro e w' ⟨rfl, rfl⟩
  go_wp2_with fail
  refine (reffits_32 _ _).mono ?_
  rintro e w' ⟨rfl, rfl⟩
  go_wp2_with fail
  refine (sat_20 _ _).mono ?_
  rintro e w' ⟨rfl, rfl⟩
  go_wp2_with fail
  refine (refsat_8 _ _).mono ?_
  rintro e w' ⟨rfl, rfl⟩
  simp only [Int.reduceSub]
  go_wp2_with fail
  refine (sat_22 _ _).mono ?_
  rintro e w' ⟨rfl, rfl⟩
  go_wp2_with fail
  refine (refsat_16 _ _).mono ?_
  rintro e w' ⟨rfl, rfl⟩
  simp only [Int.reduceSub]
  go_wp2_with fail
  refine (sat_23 _ _).mono ?_
  rintro e w' ⟨rfl, rfl⟩
  go_wp2_with fail
  refine (refsat_32 _ _).mono ?_
  rintro e w' ⟨rfl, rfl⟩
  simp only [Int.reduceSub]
  go_wp2_with fail
  refine (wrap_24 _ _).mono ?_
  rintro e w' ⟨rfl, rfl⟩
  go_wp2_with fail
  refine (refwrap_8 _ _).mono ?_
  rintro e w' ⟨rfl, rfl⟩
  go_wp2_with fail
  refine (wrap_26 _ _).mono ?_
  rintro e w' ⟨rfl, rfl⟩
  go_wp2_with fail
  refine (refwrap_16 _ _).mono ?_
  rintro e w' ⟨rfl, rfl⟩
  go_wp2_with fail
  refine (wrap_27 _ _).mono ?_
  rintro e w' ⟨rfl, rfl⟩
  go_wp2_with fail
  refine (refwrap_32 _ _).mono ?_
  rintro e w' ⟨rfl, rfl⟩
  go_wp2
  go_ret
  exact ⟨rfl, Grown.refl _⟩
theorem numOwn_walk (x : Int) (_w0 : (Lit.int .i64 x).wf = true) (w : World) :
    Calls Try.prog 7 #[.int .i64 x] w fun e w' => e = .returned (.bool true) ∧ Grown w w' := by
  clear _w0
  obtain ⟨b3, b4⟩ := wrapN16_bd x
  obtain ⟨b9, b10⟩ := clampV_bd x (-32768) 32767 (by omega)
  go_enter Try.func7, Try.ntmps7
  go_wp2_with fail
  refine (fixed_any _).mono ?_
  rintro e w' ⟨rfl, rfl⟩
  go_wp2_with fail
  refine (fits_30 _ _).mono ?_
  rintro e w' ⟨rfl, rfl⟩
  go_wp2_with fail
  refine (fits_18 _ _).mono ?_
  rintro e w' ⟨rfl, rfl⟩
  go_wp2_with fail
  refine (sat_31 _ _).mono ?_
  rintro e w' ⟨rfl, rfl⟩
  go_wp2_with fail
  refine (sat_22 _ _).mono ?_
  rintro e w' ⟨rfl, rfl⟩
  go_wp2_with fail
  refine (wrap_32 _ _).mono ?_
  rintro e w' ⟨rfl, rfl⟩
  go_wp2_with fail
  refine (wrap_26 _ _).mono ?_
  rintro e w' ⟨rfl, rfl⟩
  go_wp2
  go_ret
  exact ⟨rfl, Grown.refl _⟩
end Go.Proofs.Ytdcijocfpcjjkaa
