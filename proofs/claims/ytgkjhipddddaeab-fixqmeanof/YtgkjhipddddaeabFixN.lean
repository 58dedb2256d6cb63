/- Rounded quotients: order, opposites, the nearest; what lies in a box of two cells. -/
import Derived.Test.YtgkjhipddddaeabFixB
namespace Go.Proofs.Ytgkjhipddddaeab
open Go.ChangeShapes Go.WideShapes Go.ChangeAt Go.RowKit
theorem keep2 {w0 W w1 : World} {B : Nat} {u v : Value} (h : W.cell? ⟨B, 0, none⟩ = some u ∧ W.cell? ⟨B, 1, none⟩ = some v ∧ B < W.heap.size ∧ Below w0.heap.size w0 W) (hb : Below W.heap.size W w1) :
    w1.cell? ⟨B, 0, none⟩ = some u ∧ w1.cell? ⟨B, 1, none⟩ = some v ∧ B < w1.heap.size ∧ Below w0.heap.size w0 w1 := by
  obtain ⟨h1, h2, h3, h4⟩ := h
  obtain ⟨hc, _⟩ := bcell hb
  exact ⟨by rw [hc _ _ h3]; exact h1, by rw [hc _ _ h3]; exact h2, Nat.lt_of_lt_of_le h3 hb.size, h4.trans (hb.mono h4.size)⟩
theorem new2 (w : World) (m s : Int) (T : TypeId) :
    (w.alloc (.cells #[.int .i64 m, .int .i64 s] T)).cell? ⟨w.heap.size, 0, none⟩ = some (.int .i64 m) ∧ (w.alloc (.cells #[.int .i64 m, .int .i64 s] T)).cell? ⟨w.heap.size, 1, none⟩ = some (.int .i64 s) ∧
    w.heap.size < (w.alloc (.cells #[.int .i64 m, .int .i64 s] T)).heap.size ∧ Below w.heap.size w (w.alloc (.cells #[.int .i64 m, .int .i64 s] T)) :=
  ⟨by simp [go_sem], by simp [go_sem], by simp, (Below.refl _ _).alloc (Nat.le_refl _) _⟩
theorem hq_eq (s d : Int) (hd : 1 ≤ d) : hq s d = (2 * s + d) / (2 * d) := by
  have e := Int.mul_ediv_add_emod s d
  have r0 := Int.emod_nonneg s (show d ≠ 0 by omega)
  have r1 := Int.emod_lt_of_pos s (show 0 < d by omega)
  have e2 : 2 * s + d = (2 * (s % d) + d) + (2 * d) * (s / d) := by
    have : 2 * d * (s / d) = 2 * (d * (s / d)) := Int.mul_assoc 2 d _
    omega
  rw [e2, Int.add_mul_ediv_left _ _ (by omega)]
  unfold hq
  generalize s % d = r at *
  split
  · rename_i h
    have : (2 * r + d) / (2 * d) = 1 := by
      have h1 : (2 * r + d) = (2 * r - d) + (2 * d) * 1 := by omega
      rw [h1, Int.add_mul_ediv_left _ _ (by omega), Int.ediv_eq_zero_of_lt (by omega) (by omega)]
      omega
    omega
  · have : (2 * r + d) / (2 * d) = 0 := Int.ediv_eq_zero_of_lt (by omega) (by omega)
    omega
theorem hq_mono (s t d : Int) (hd : 1 ≤ d) (h : s ≤ t) : hq s d ≤ hq t d := by
  rw [hq_eq s d hd, hq_eq t d hd]
  exact Int.ediv_le_ediv (by omega) (by omega)
theorem hq_zero (d : Int) (hd : 1 ≤ d) : hq 0 d = 0 := by
  unfold hq; simp; omega
theorem rq_odd (x d : Int) (hd : 1 ≤ d) : rq (-x) d = -(rq x d) := by
  unfold rq
  by_cases h : x < 0
  · rw [if_pos h, if_neg (by omega)]; omega
  · rw [if_neg h]
    by_cases g : -x < 0
    · rw [if_pos g, Int.neg_neg]
    · have : x = 0 := by omega
      subst this
      simp [hq_zero d hd]
theorem rq_mono (x y d : Int) (hd : 1 ≤ d) (h : x ≤ y) : rq x d ≤ rq y d := by
  unfold rq
  by_cases h1 : x < 0
  · rw [if_pos h1]
    by_cases h2 : y < 0
    · rw [if_pos h2]
      have := hq_mono (-y) (-x) d hd (by omega)
      omega
    · rw [if_neg h2]
      have := hq_bd (-x) d (by omega) hd
      have := hq_bd y d (by omega) hd
      omega
  · rw [if_neg h1, if_neg (by omega)]
    exact hq_mono x y d hd h
theorem hq_times (s d : Int) (hd : 1 ≤ d) : hq (s * d) d = s := by
  unfold hq
  rw [Int.mul_emod_left, Int.mul_ediv_cancel _ (by omega)]
  simp; omega
theorem rq_times (x d : Int) (hd : 1 ≤ d) : rq (x * d) d = x := by
  unfold rq
  rw [← Int.neg_mul, hq_times _ d hd, hq_times _ d hd]
  split <;> omega
theorem p2_half (n : Int) : p2 n = 1 ∨ ∃ h, 1 ≤ h ∧ p2 n = 2 * h := by
  unfold p2
  cases hn : n.toNat with
  | zero => left; simp
  | succ k =>
    right
    refine ⟨2 ^ k, ?_, by rw [Int.pow_succ]; omega⟩
    have := p2_pos k
    unfold p2 at this
    simpa using this
/-- A size with its quotient and its rest. -/
theorem hq_parts (s d : Int) (hs : 0 ≤ s) (hd : 1 ≤ d) : ∃ q r, s / d = q ∧ s = d * q + r ∧ 0 ≤ q ∧ q ≤ s ∧ 0 ≤ r ∧ r < d ∧ ((d ≤ 2 * r ∧ hq s d = q + 1) ∨ (2 * r < d ∧ hq s d = q)) := by
  have e := Int.mul_ediv_add_emod s d
  have r0 := Int.emod_nonneg s (show d ≠ 0 by omega)
  have r1 := Int.emod_lt_of_pos s (show 0 < d by omega)
  refine ⟨s / d, s % d, rfl, e.symm, Int.ediv_nonneg hs (by omega), Int.ediv_le_self d hs, r0, r1, ?_⟩
  unfold hq
  by_cases h : d ≤ 2 * (s % d)
  · left; rw [if_pos h]; exact ⟨h, rfl⟩
  · right; rw [if_neg h]; exact ⟨by omega, rfl⟩
end Go.Proofs.Ytgkjhipddddaeab
