/- The ends of a narrow type, Sat; the document's Fits, Sat, Wrap; products: each for every argument that fits its type. -/
import Derived.Test.YtgimnoehagfhhaaNum
namespace Go.Proofs.Ytgimnoehagfhhaa
open Go.ChangeShapes Go.WideShapes Go.ChangeAt Go.RowKit

/-! ### Plain numbers -/
def Pw (N x : Int) : Prop := ∃ k : Nat, x * 2 ^ k = -N
theorem pos_pow (k : Nat) : (1 : Int) ≤ 2 ^ k := by
  induction k with
  | zero => simp
  | succ k ih => rw [Int.pow_succ]; omega
theorem pw_bd {N x : Int} (hN : 0 < N) (h : Pw N x) : -N ≤ x ∧ x ≤ -1 := by
  obtain ⟨k, hk⟩ := h
  have hp := pos_pow k
  generalize (2 : Int) ^ k = p at hk hp
  have hneg : x < 0 := by
    refine Int.not_le.1 fun hx => ?_
    have := Int.mul_nonneg hx (show (0 : Int) ≤ p by omega)
    omega
  refine ⟨?_, by omega⟩
  have := Int.mul_le_mul_of_nonneg_left hp (show 0 ≤ -x by omega)
  rw [Int.neg_mul, Int.neg_mul, hk] at this
  omega
theorem pw_step {N x : Int} (h : Pw N x) (hx : x ≠ -N) : Pw N (x * 2) := by
  obtain ⟨k, hk⟩ := h
  cases k with
  | zero => simp at hk; exact absurd hk hx
  | succ k => exact ⟨k, by rw [Int.pow_succ, Int.mul_comm _ 2, ← Int.mul_assoc] at hk; exact hk⟩
theorem clamp_in (x lo hi : Int) (h : lo ≤ x) (g : x ≤ hi) : clampV x lo hi = x := by
  unfold clampV; rw [if_neg (by omega), if_neg (by omega)]
theorem clamp_hi (x lo hi : Int) (h : hi < x) : clampV x lo hi = hi := by unfold clampV; rw [if_pos h]
theorem clamp_lo (x lo hi : Int) (h : x < lo) (g : x ≤ hi) : clampV x lo hi = lo := by unfold clampV; rw [if_neg (by omega), if_pos h]
theorem fits_yes {t x : Int} (h : fitsN t x = true) : -t ≤ x ∧ x ≤ t - 1 := by simpa [fitsN] using h
theorem fits_no {t x : Int} (h : fitsN t x = false) : ¬ (-t ≤ x ∧ x ≤ t - 1) := by simpa [fitsN] using h
theorem wrapN8_in (x : Int) (h : -128 ≤ x ∧ x ≤ 128 - 1) : wrapN 128 x = x := by unfold wrapN; omega
theorem wrapN16_in (x : Int) (h : -32768 ≤ x ∧ x ≤ 32768 - 1) : wrapN 32768 x = x := by unfold wrapN; omega
theorem wrapN32_in (x : Int) (h : -2147483648 ≤ x ∧ x ≤ 2147483648 - 1) : wrapN 2147483648 x = x := by unfold wrapN; omega

/-! ### The ends, and Sat -/
end Go.Proofs.Ytgimnoehagfhhaa
