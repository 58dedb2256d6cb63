/- The document's Add, Sub, Fits, Sat, Wrap, Clamp; the statement's fixed answers: each for every argument that fits its type. -/
import Derived.Test.YtdcijocfpcjjkaaNumB
namespace Go.Proofs.Ytdcijocfpcjjkaa
open Go.ChangeShapes Go.WideShapes Go.ChangeAt Go.RowKit

theorem refadd_any (a b : Int) (w : World) (ha : I64 a) (hb : I64 b) :
    Calls Try.prog 10 #[.int .i64 a, .int .i64 b] w fun e w' => e = .returned (.tuple #[.int .i64 (okV (a + b)), .int .i64 (okE (a + b))]) ∧ w' = w := by
  obtain ⟨a1, a2⟩ := ha
  obtain ⟨b1, b2⟩ := hb
  by_cases c1 : 0 < b
  · by_cases c2 : 9223372036854775807 - b < a
    · rw [okV_out _ (by omega), okE_out _ (by omega)]
      go_enter Try.func10, Try.ntmps10
      go_wp2
      go_ret2
      exact ⟨rfl, rfl⟩
    · rw [okV_in _ (by omega), okE_in _ (by omega)]
      have c3 : ¬ b < 0 := by omega
      go_enter Try.func10, Try.ntmps10
      go_wp2
      go_ret2
      exact ⟨rfl, rfl⟩
  · by_cases c2 : b < 0
    · by_cases c3 : a < -9223372036854775808 - b
      · rw [okV_out _ (by omega), okE_out _ (by omega)]
        go_enter Try.func10, Try.ntmps10
        go_wp2
        go_ret2
        exact ⟨rfl, rfl⟩
      · rw [okV_in _ (by omega), okE_in _ (by omega)]
        go_enter Try.func10, Try.ntmps10
        go_wp2
        go_ret2
        exact ⟨rfl, rfl⟩
    · rw [okV_in _ (by omega), okE_in _ (by omega)]
      go_enter Try.func10, Try.ntmps10
      go_wp2
      go_ret2
      exact ⟨rfl, rfl⟩
theorem refsub_any (a b : Int) (w : World) (ha : I64 a) (hb : I64 b) :
    Calls Try.prog 13 #[.int .i64 a, .int .i64 b] w fun e w' => e = .returned (.tuple #[.int .i64 (okV (a - b)), .int .i64 (okE (a - b))]) ∧ w' = w := by
  obtain ⟨a1, a2⟩ := ha
  obtain ⟨b1, b2⟩ := hb
  by_cases c1 : b < 0
  · by_cases c2 : 9223372036854775807 + b < a
    · rw [okV_out _ (by omega), okE_out _ (by omega)]
      go_enter Try.func13, Try.ntmps13
      go_wp2
      go_ret2
      exact ⟨rfl, rfl⟩
    · rw [okV_in _ (by omega), okE_in _ (by omega)]
      have c3 : ¬ 0 < b := by omega
      go_enter Try.func13, Try.ntmps13
      go_wp2
      go_ret2
      exact ⟨rfl, rfl⟩
  · by_cases c2 : 0 < b
    · by_cases c3 : a < -9223372036854775808 + b
      · rw [okV_out _ (by omega), okE_out _ (by omega)]
        go_enter Try.func13, Try.ntmps13
        go_wp2
        go_ret2
        exact ⟨rfl, rfl⟩
      · rw [okV_in _ (by omega), okE_in _ (by omega)]
        go_enter Try.func13, Try.ntmps13
        go_wp2
        go_ret2
        exact ⟨rfl, rfl⟩
    · rw [okV_in _ (by omega), okE_in _ (by omega)]
      go_enter Try.func13, Try.ntmps13
      go_wp2
      go_ret2
      exact ⟨rfl, rfl⟩
theorem refclamp_any (x lo hi : Int) (w : World) :
    Calls Try.prog 29 #[.int .i64 x, .int .i64 lo, .int .i64 hi] w fun e w' => e = .returned (.int .i64 (clampV x lo hi)) ∧ w' = w := by
  unfold clampV
  by_cases h : hi < x
  · rw [if_pos h]
    go_enter Try.func29, Try.ntmps29
    go_wp2
    go_ret
    exact ⟨rfl, rfl⟩
  · rw [if_neg h]
    by_cases g : x < lo
    · rw [if_pos g]
      go_enter Try.func29, Try.ntmps29
      go_wp2
      go_ret
      exact ⟨rfl, rfl⟩
    · rw [if_neg g]
      go_enter Try.func29, Try.ntmps29
      go_wp2
      go_ret
      exact ⟨rfl, rfl⟩
theorem tmod_nonneg (x m : Int) (hm : 0 < m) (hx : 0 ≤ x) : 0 ≤ x.tmod m ∧ x.tmod m = x % m := by
  have e := Int.tmod_eq_emod_of_nonneg (b := m) hx
  exact ⟨by rw [e]; exact Int.emod_nonneg _ (by omega), e⟩
theorem tmod_neg (x m : Int) (hx : x < 0) : x.tmod m = -((-x) % m) := by
  have e := Int.tmod_eq_emod_of_nonneg (a := -x) (b := m) (by omega)
  rw [Int.neg_tmod] at e
  omega
theorem reffits_8 (x : Int) (w : World) :
    Calls Try.prog 17 #[.int .i64 8, .int .i64 x] w fun e w' => e = .returned (.bool (fitsN 128 x)) ∧ w' = w := by
  by_cases c1 : -128 ≤ x
  · have HR : Hid (decide (x < 128) = fitsN 128 x) := by unfold Hid fitsN; rw [Bool.eq_iff_iff]; simp; omega
    go_enter Try.func17, Try.ntmps17
    go_wp2
    go_ret
    exact ⟨retB HR.out, rfl⟩
  · have HR : Hid (false = fitsN 128 x) := by unfold Hid fitsN; rw [Bool.eq_iff_iff]; simp; omega
    go_enter Try.func17, Try.ntmps17
    go_wp2
    go_ret
    exact ⟨retB HR.out, rfl⟩
theorem refsat_8 (x : Int) (w : World) :
    Calls Try.prog 21 #[.int .i64 8, .int .i64 x] w fun e w' => e = .returned (.int .i64 (clampV x (-128) (128 - 1))) ∧ w' = w := by
  go_enter Try.func21, Try.ntmps21
  go_wp2_with fail
  refine (refclamp_any _ _ _ _).mono ?_
  rintro e w' ⟨rfl, rfl⟩
  go_wp2
  go_ret
  exact ⟨rfl, rfl⟩
theorem refwrap_8 (x : Int) (w : World) :
    Calls Try.prog 25 #[.int .i64 8, .int .i64 x] w fun e w' => e = .returned (.int .i64 (wrapN 128 x)) ∧ w' = w := by
  have hw : ∃ r : Int, x.tmod 256 = r ∧ -256 < r ∧ r < 256 ∧ wrapN 128 x = wrapN 128 r := by
    refine ⟨_, rfl, ?_⟩
    unfold wrapN
    by_cases hx : 0 ≤ x
    · have e := (tmod_nonneg x 256 (by omega) hx).2
      rw [e]; omega
    · have e := tmod_neg x 256 (by omega)
      rw [e]; omega
  obtain ⟨r, hr, r1, r2, h3⟩ := hw
  have HW : Hid (wrapN 128 x = wrapN 128 r) := h3
  clear h3
  rw [HW.out]
  clear HW
  by_cases c1 : r < 0
  · by_cases c2 : 128 ≤ r + 256
    · have HR : Hid (r = wrapN 128 r) := by unfold Hid wrapN; omega
      go_enter Try.func25, Try.ntmps25
      go_wp2
      go_ret
      exact ⟨ret1 HR.out, rfl⟩
    · have HR : Hid (r + 256 = wrapN 128 r) := by unfold Hid wrapN; omega
      go_enter Try.func25, Try.ntmps25
      go_wp2
      go_ret
      exact ⟨ret1 HR.out, rfl⟩
  · by_cases c2 : 128 ≤ r
    · have HR : Hid (r - 256 = wrapN 128 r) := by unfold Hid wrapN; omega
      go_enter Try.func25, Try.ntmps25
      go_wp2
      go_ret
      exact ⟨ret1 HR.out, rfl⟩
    · have HR : Hid (r = wrapN 128 r) := by unfold Hid wrapN; omega
      go_enter Try.func25, Try.ntmps25
      go_wp2
      go_ret
      exact ⟨ret1 HR.out, rfl⟩
theorem reffits_16 (x : Int) (w : World) :
    Calls Try.prog 17 #[.int .i64 16, .int .i64 x] w fun e w' => e = .returned (.bool (fitsN 32768 x)) ∧ w' = w := by
  by_cases c1 : -32768 ≤ x
  · have HR : Hid (decide (x < 32768) = fitsN 32768 x) := by unfold Hid fitsN; rw [Bool.eq_iff_iff]; simp; omega
    go_enter Try.func17, Try.ntmps17
    go_wp2
    go_ret
    exact ⟨retB HR.out, rfl⟩
  · have HR : Hid (false = fitsN 32768 x) := by unfold Hid fitsN; rw [Bool.eq_iff_iff]; simp; omega
    go_enter Try.func17, Try.ntmps17
    go_wp2
    go_ret
    exact ⟨retB HR.out, rfl⟩
theorem refsat_16 (x : Int) (w : World) :
    Calls Try.prog 21 #[.int .i64 16, .int .i64 x] w fun e w' => e = .returned (.int .i64 (clampV x (-32768) (32768 - 1))) ∧ w' = w := by
  go_enter Try.func21, Try.ntmps21
  go_wp2_with fail
  refine (refclamp_any _ _ _ _).mono ?_
  rintro e w' ⟨rfl, rfl⟩
  go_wp2
  go_ret
  exact ⟨rfl, rfl⟩
theorem refwrap_16 (x : Int) (w : World) :
    Calls Try.prog 25 #[.int .i64 16, .int .i64 x] w fun e w' => e = .returned (.int .i64 (wrapN 32768 x)) ∧ w' = w := by
  have hw : ∃ r : Int, x.tmod 65536 = r ∧ -65536 < r ∧ r < 65536 ∧ wrapN 32768 x = wrapN 32768 r := by
    refine ⟨_, rfl, ?_⟩
    unfold wrapN
    by_cases hx : 0 ≤ x
    · have e := (tmod_nonneg x 65536 (by omega) hx).2
      rw [e]; omega
    · have e := tmod_neg x 65536 (by omega)
      rw [e]; omega
  obtain ⟨r, hr, r1, r2, h3⟩ := hw
  have HW : Hid (wrapN 32768 x = wrapN 32768 r) := h3
  clear h3
  rw [HW.out]
  clear HW
  by_cases c1 : r < 0
  · by_cases c2 : 32768 ≤ r + 65536
    · have HR : Hid (r = wrapN 32768 r) := by unfold Hid wrapN; omega
      go_enter Try.func25, Try.ntmps25
      go_wp2
      go_ret
      exact ⟨ret1 HR.out, rfl⟩
    · have HR : Hid (r + 65536 = wrapN 32768 r) := by unfold Hid wrapN; omega
      go_enter Try.func25, Try.ntmps25
      go_wp2
      go_ret
      exact ⟨ret1 HR.out, rfl⟩
  · by_cases c2 : 32768 ≤ r
    · have HR : Hid (r - 65536 = wrapN 32768 r) := by unfold Hid wrapN; omega
      go_enter Try.func25, Try.ntmps25
      go_wp2
      go_ret
      exact ⟨ret1 HR.out, rfl⟩
    · have HR : Hid (r = wrapN 32768 r) := by unfold Hid wrapN; omega
      go_enter Try.func25, Try.ntmps25
      go_wp2
      go_ret
      exact ⟨ret1 HR.out, rfl⟩
theorem reffits_32 (x : Int) (w : World) :
    Calls Try.prog 17 #[.int .i64 32, .int .i64 x] w fun e w' => e = .returned (.bool (fitsN 2147483648 x)) ∧ w' = w := by
  by_cases c1 : -2147483648 ≤ x
  · have HR : Hid (decide (x < 2147483648) = fitsN 2147483648 x) := by unfold Hid fitsN; rw [Bool.eq_iff_iff]; simp; omega
    go_enter Try.func17, Try.ntmps17
    go_wp2
    go_ret
    exact ⟨retB HR.out, rfl⟩
  · have HR : Hid (false = fitsN 2147483648 x) := by unfold Hid fitsN; rw [Bool.eq_iff_iff]; simp; omega
    go_enter Try.func17, Try.ntmps17
    go_wp2
    go_ret
    exact ⟨retB HR.out, rfl⟩
theorem refsat_32 (x : Int) (w : World) :
    Calls Try.prog 21 #[.int .i64 32, .int .i64 x] w fun e w' => e = .returned (.int .i64 (clampV x (-2147483648) (2147483648 - 1))) ∧ w' = w := by
  go_enter Try.func21, Try.ntmps21
  go_wp2_with fail
  refine (refclamp_any _ _ _ _).mono ?_
  rintro e w' ⟨rfl, rfl⟩
  go_wp2
  go_ret
  exact ⟨rfl, rfl⟩
theorem refwrap_32 (x : Int) (w : World) :
    Calls Try.prog 25 #[.int .i64 32, .int .i64 x] w fun e w' => e = .returned (.int .i64 (wrapN 2147483648 x)) ∧ w' = w := by
  have hw : ∃ r : Int, x.tmod 4294967296 = r ∧ -4294967296 < r ∧ r < 4294967296 ∧ wrapN 2147483648 x = wrapN 2147483648 r := by
    refine ⟨_, rfl, ?_⟩
    unfold wrapN
    by_cases hx : 0 ≤ x
    · have e := (tmod_nonneg x 4294967296 (by omega) hx).2
      rw [e]; omega
    · have e := tmod_neg x 4294967296 (by omega)
      rw [e]; omega
  obtain ⟨r, hr, r1, r2, h3⟩ := hw
  have HW : Hid (wrapN 2147483648 x = wrapN 2147483648 r) := h3
  clear h3
  rw [HW.out]
  clear HW
  by_cases c1 : r < 0
  · by_cases c2 : 2147483648 ≤ r + 4294967296
    · have HR : Hid (r = wrapN 2147483648 r) := by unfold Hid wrapN; omega
      go_enter Try.func25, Try.ntmps25
      go_wp2
      go_ret
      exact ⟨ret1 HR.out, rfl⟩
    · have HR : Hid (r + 4294967296 = wrapN 2147483648 r) := by unfold Hid wrapN; omega
      go_enter Try.func25, Try.ntmps25
      go_wp2
      go_ret
      exact ⟨ret1 HR.out, rfl⟩
  · by_cases c2 : 2147483648 ≤ r
    · have HR : Hid (r - 4294967296 = wrapN 2147483648 r) := by unfold Hid wrapN; omega
      go_enter Try.func25, Try.ntmps25
      go_wp2
      go_ret
      exact ⟨ret1 HR.out, rfl⟩
    · have HR : Hid (r = wrapN 2147483648 r) := by unfold Hid wrapN; omega
      go_enter Try.func25, Try.ntmps25
      go_wp2
      go_ret
      exact ⟨ret1 HR.out, rfl⟩
theorem fixed_any (w : World) :
    Calls Try.prog 11 #[] w fun e w' => e = .returned (.bool true) ∧ w' = w := by
  go_enter Try.func11, Try.ntmps11
  go_wp2_with fail
  refine (add_any _ _ _ (by unfold I64; omega) (by unfold I64; omega)).mono ?_
  rintro e w' ⟨rfl, rfl⟩
  rw [okV_out _ (by omega), okE_out _ (by omega)]
  go_wp2_with fail
  refine (sub_any _ _ _ (by unfold I64; omega) (by unfold I64; omega)).mono ?_
  rintro e w' ⟨rfl, rfl⟩
  rw [okV_in _ (by omega), okE_in _ (by omega)]
  go_wp2_with fail
  refine (fits_16 _ _).mono ?_
  rintro e w' ⟨rfl, rfl⟩
  rw [show fitsN 128 (-128) = true from by decide]
  go_wp2_with fail
  refine (sat_22 _ _).mono ?_
  rintro e w' ⟨rfl, rfl⟩
  rw [show clampV 40000 (-32768) 32767 = 32767 from by decide]
  go_wp2_with fail
  refine (wrap_26 _ _).mono ?_
  rintro e w' ⟨rfl, rfl⟩
  rw [show wrapN 32768 40000 = -25536 from by decide]
  go_wp2_with fail
  refine (clamp_any _ _ _ _).mono ?_
  rintro e w' ⟨rfl, rfl⟩
  rw [show clampV 5 0 3 = 3 from by decide]
  go_wp2
  go_ret
  exact ⟨rfl, rfl⟩
end Go.Proofs.Ytdcijocfpcjjkaa
