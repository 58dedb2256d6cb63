/- Quotients rounded half away from zero, as plain numbers. -/
import Derived.Test.YtdpfnlefaegmeaaSiz
namespace Go.Proofs.Ytdpfnlefaegmeaa
def hq (s d : Int) : Int := if d ≤ 2 * (s % d) then s / d + 1 else s / d
def rq (x d : Int) : Int := if x < 0 then -(hq (-x) d) else hq x d
def p2 (n : Int) : Int := 2 ^ n.toNat
theorem hq_bd (s d : Int) (hs : 0 ≤ s) (hd : 1 ≤ d) : 0 ≤ hq s d ∧ hq s d ≤ s := by
  have e := Int.mul_ediv_add_emod s d
  have r0 := Int.emod_nonneg s (show d ≠ 0 by omega)
  have r1 := Int.emod_lt_of_pos s (show 0 < d by omega)
  have q0 := Int.ediv_nonneg hs (show 0 ≤ d by omega)
  have q1 : s / d ≤ d * (s / d) := by
    have := Int.mul_le_mul_of_nonneg_right hd q0
    omega
  unfold hq
  split <;> omega
theorem rq_size (x d : Int) (hd : 1 ≤ d) : -(sizeV x) ≤ rq x d ∧ rq x d ≤ sizeV x ∧ (x < 0 → rq x d ≤ 0) ∧ (¬ x < 0 → 0 ≤ rq x d) := by
  unfold rq sizeV
  by_cases h : x < 0
  · have := hq_bd (-x) d (by omega) hd
    rw [if_pos h, if_pos h]; omega
  · have := hq_bd x d (by omega) hd
    rw [if_neg h, if_neg h]; omega
theorem rq_I64 (x d : Int) (hx : I64 x) (hd : 1 ≤ d) : I64 (rq x d) := by
  obtain ⟨h1, h2, h3, h4⟩ := rq_size x d hd
  unfold sizeV at h1 h2
  unfold I64 at *
  by_cases h : x < 0
  · have := h3 h
    rw [if_pos h] at h1 h2; omega
  · have := h4 h
    rw [if_neg h] at h1 h2; omega
theorem p2_nat (n : Int) : p2 n = ((2 ^ n.toNat : Nat) : Int) := by
  unfold p2; simp
theorem p2_pos (n : Int) : 1 ≤ p2 n := by
  rw [p2_nat]
  have := Nat.two_pow_pos n.toNat
  omega
theorem p2_le (n : Int) (h : n ≤ 62) : p2 n ≤ 4611686018427387904 := by
  rw [p2_nat]
  have := Nat.pow_le_pow_right (show 0 < 2 by omega) (show n.toNat ≤ 62 by omega)
  omega
end Go.Proofs.Ytdpfnlefaegmeaa
