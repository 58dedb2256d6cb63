/- The document's Add, Sub, Fits, Sat, Wrap, Clamp; the statement's fixed answers: each for every argument that fits its type. -/
import Derived.Test.YtgimnoehagfhhaaNumB
namespace Go.Proofs.Ytgimnoehagfhhaa
open Go.ChangeShapes Go.WideShapes Go.ChangeAt Go.RowKit

theorem tmod_nonneg (x m : Int) (hm : 0 < m) (hx : 0 ≤ x) : 0 ≤ x.tmod m ∧ x.tmod m = x % m := by
  have e := Int.tmod_eq_emod_of_nonneg (b := m) hx
  exact ⟨by rw [e]; exact Int.emod_nonneg _ (by omega), e⟩
theorem tmod_neg (x m : Int) (hx : x < 0) : x.tmod m = -((-x) % m) := by
  have e := Int.tmod_eq_emod_of_nonneg (a := -x) (b := m) (by omega)
  rw [Int.neg_tmod] at e
  omega
theorem reffits_8 (x : Int) (w : World) :
    Calls Try.prog 28 #[.int .i64 8, .int .i64 x] w fun e w' => e = .returned (.bool (fitsN 128 x)) ∧ w' = w := by
  by_cases c1 : -128 ≤ x
  · have HR : Hid (decide (x < 128) = fitsN 128 x) := by unfold Hid fitsN; rw [Bool.eq_iff_iff]; simp; omega
    go_enter Try.func28, Try.ntmps28
    go_wp2
    go_ret
    exact ⟨retB HR.out, rfl⟩
  · have HR : Hid (false = fitsN 128 x) := by unfold Hid fitsN; rw [Bool.eq_iff_iff]; simp; omega
    go_enter Try.func28, Try.ntmps28
    go_wp2
    go_ret
    exact ⟨retB HR.out, rfl⟩
theorem refwrap_8 (x : Int) (w : World) :
    Calls Try.prog 27 #[.int .i64 8, .int .i64 x] w fun e w' => e = .returned (.int .i64 (wrapN 128 x)) ∧ w' = w := by
  have hw : ∃ r : Int, x.tmod 256 = r ∧ -256 < r ∧ r < 256 ∧ wrapN 128 x = wrapN 128 r := by
    refine ⟨_, rfl, ?_⟩
    unfold wrapN
    by_cases hx : 0 ≤ x
    · have e := (tmod_nonneg x 256 (by omega) hx).2
      rw [e]; omega
    · have e := tmod_neg x 256 (by omega)
      rw [e]; omega
  obtain ⟨r, hr, r1, r2, h3⟩ := hw
  have HW : Hid (wrapN 128 x = wrapN 128 r) := h3
  clear h3
  rw [HW.out]
  clear HW
  by_cases c1 : r < 0
  · by_cases c2 : 128 ≤ r + 256
    · have HR : Hid (r = wrapN 128 r) := by unfold Hid wrapN; omega
      go_enter Try.func27, Try.ntmps27
      go_wp2
      go_ret
      exact ⟨ret1 HR.out, rfl⟩
    · have HR : Hid (r + 256 = wrapN 128 r) := by unfold Hid wrapN; omega
      go_enter Try.func27, Try.ntmps27
      go_wp2
      go_ret
      exact ⟨ret1 HR.out, rfl⟩
  · by_cases c2 : 128 ≤ r
    · have HR : Hid (r - 256 = wrapN 128 r) := by unfold Hid wrapN; omega
      go_enter Try.func27, Try.ntmps27
      go_wp2
      go_ret
      exact ⟨ret1 HR.out, rfl⟩
    · have HR : Hid (r = wrapN 128 r) := by unfold Hid wrapN; omega
      go_enter Try.func27, Try.ntmps27
      go_wp2
      go_ret
      exact ⟨ret1 HR.out, rfl⟩
theorem reffits_16 (x : Int) (w : World) :
    Calls Try.prog 28 #[.int .i64 16, .int .i64 x] w fun e w' => e = .returned (.bool (fitsN 32768 x)) ∧ w' = w := by
  by_cases c1 : -32768 ≤ x
  · have HR : Hid (decide (x < 32768) = fitsN 32768 x) := by unfold Hid fitsN; rw [Bool.eq_iff_iff]; simp; omega
    go_enter Try.func28, Try.ntmps28
    go_wp2
    go_ret
    exact ⟨retB HR.out, rfl⟩
  · have HR : Hid (false = fitsN 32768 x) := by unfold Hid fitsN; rw [Bool.eq_iff_iff]; simp; omega
    go_enter Try.func28, Try.ntmps28
    go_wp2
    go_ret
    exact ⟨retB HR.out, rfl⟩
theorem refwrap_16 (x : Int) (w : World) :
    Calls Try.prog 27 #[.int .i64 16, .int .i64 x] w fun e w' => e = .returned (.int .i64 (wrapN 32768 x)) ∧ w' = w := by
  have hw : ∃ r : Int, x.tmod 65536 = r ∧ -65536 < r ∧ r < 65536 ∧ wrapN 32768 x = wrapN 32768 r := by
    refine ⟨_, rfl, ?_⟩
    unfold wrapN
    by_cases hx : 0 ≤ x
    · have e := (tmod_nonneg x 65536 (by omega) hx).2
      rw [e]; omega
    · have e := tmod_neg x 65536 (by omega)
      rw [e]; omega
  obtain ⟨r, hr, r1, r2, h3⟩ := hw
  have HW : Hid (wrapN 32768 x = wrapN 32768 r) := h3
  clear h3
  rw [HW.out]
  clear HW
  by_cases c1 : r < 0
  · by_cases c2 : 32768 ≤ r + 65536
    · have HR : Hid (r = wrapN 32768 r) := by unfold Hid wrapN; omega
      go_enter Try.func27, Try.ntmps27
      go_wp2
      go_ret
      exact ⟨ret1 HR.out, rfl⟩
    · have HR : Hid (r + 65536 = wrapN 32768 r) := by unfold Hid wrapN; omega
      go_enter Try.func27, Try.ntmps27
      go_wp2
      go_ret
      exact ⟨ret1 HR.out, rfl⟩
  · by_cases c2 : 32768 ≤ r
    · have HR : Hid (r - 65536 = wrapN 32768 r) := by unfold Hid wrapN; omega
      go_enter Try.func27, Try.ntmps27
      go_wp2
      go_ret
      exact ⟨ret1 HR.out, rfl⟩
    · have HR : Hid (r = wrapN 32768 r) := by unfold Hid wrapN; omega
      go_enter Try.func27, Try.ntmps27
      go_wp2
      go_ret
      exact ⟨ret1 HR.out, rfl⟩
theorem reffits_32 (x : Int) (w : World) :
    Calls Try.prog 28 #[.int .i64 32, .int .i64 x] w fun e w' => e = .returned (.bool (fitsN 2147483648 x)) ∧ w' = w := by
  by_cases c1 : -2147483648 ≤ x
  · have HR : Hid (decide (x < 2147483648) = fitsN 2147483648 x) := by unfold Hid fitsN; rw [Bool.eq_iff_iff]; simp; omega
    go_enter Try.func28, Try.ntmps28
    go_wp2
    go_ret
    exact ⟨retB HR.out, rfl⟩
  · have HR : Hid (false = fitsN 2147483648 x) := by unfold Hid fitsN; rw [Bool.eq_iff_iff]; simp; omega
    go_enter Try.func28, Try.ntmps28
    go_wp2
    go_ret
    exact ⟨retB HR.out, rfl⟩
theorem refwrap_32 (x : Int) (w : World) :
    Calls Try.prog 27 #[.int .i64 32, .int .i64 x] w fun e w' => e = .returned (.int .i64 (wrapN 2147483648 x)) ∧ w' = w := by
  have hw : ∃ r : Int, x.tmod 4294967296 = r ∧ -4294967296 < r ∧ r < 4294967296 ∧ wrapN 2147483648 x = wrapN 2147483648 r := by
    refine ⟨_, rfl, ?_⟩
    unfold wrapN
    by_cases hx : 0 ≤ x
    · have e := (tmod_nonneg x 4294967296 (by omega) hx).2
      rw [e]; omega
    · have e := tmod_neg x 4294967296 (by omega)
      rw [e]; omega
  obtain ⟨r, hr, r1, r2, h3⟩ := hw
  have HW : Hid (wrapN 2147483648 x = wrapN 2147483648 r) := h3
  clear h3
  rw [HW.out]
  clear HW
  by_cases c1 : r < 0
  · by_cases c2 : 2147483648 ≤ r + 4294967296
    · have HR : Hid (r = wrapN 2147483648 r) := by unfold Hid wrapN; omega
      go_enter Try.func27, Try.ntmps27
      go_wp2
      go_ret
      exact ⟨ret1 HR.out, rfl⟩
    · have HR : Hid (r + 4294967296 = wrapN 2147483648 r) := by unfold Hid wrapN; omega
      go_enter Try.func27, Try.ntmps27
      go_wp2
      go_ret
      exact ⟨ret1 HR.out, rfl⟩
  · by_cases c2 : 2147483648 ≤ r
    · have HR : Hid (r - 4294967296 = wrapN 2147483648 r) := by unfold Hid wrapN; omega
      go_enter Try.func27, Try.ntmps27
      go_wp2
      go_ret
      exact ⟨ret1 HR.out, rfl⟩
    · have HR : Hid (r = wrapN 2147483648 r) := by unfold Hid wrapN; omega
      go_enter Try.func27, Try.ntmps27
      go_wp2
      go_ret
      exact ⟨ret1 HR.out, rfl⟩
end Go.Proofs.Ytgimnoehagfhhaa
