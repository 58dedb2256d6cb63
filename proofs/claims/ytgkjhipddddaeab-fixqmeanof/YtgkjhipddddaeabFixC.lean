/- What the document's answers for layer 2 return: each for every argument that fits its type. -/
import Derived.Test.YtgkjhipddddaeabFixB
namespace Go.Proofs.Ytgkjhipddddaeab
open Go.ChangeShapes Go.WideShapes Go.ChangeAt Go.RowKit
theorem p2_uwrap (n : Int) (h : n ≤ 62) : IntKind.u64.wrap (2 ^ n.toNat) = p2 n := by
  have h1 := p2_pos n
  have h2 := p2_le n h
  show IntKind.u64.wrap (p2 n) = p2 n
  rw [u64w]; omega
theorem hq_top (s d : Int) (h1 : 0 ≤ s) (h2 : s ≤ 9223372036854775808) : s / d ≤ 9223372036854775808 := by
  have := Int.ediv_le_self d h1
  omega
theorem rq_of_neg (x d : Int) (c : x < 0) : rq x d = -(hq (sizeV x) d) := by unfold rq sizeV; rw [if_pos c, if_pos c]
theorem rq_of_pos (x d : Int) (c : ¬ x < 0) : rq x d = hq (sizeV x) d := by unfold rq sizeV; rw [if_neg c, if_neg c]
theorem size_pos_lt (x : Int) (h : I64 x) (c : ¬ x < 0) : sizeV x < 9223372036854775808 := by unfold sizeV; rw [if_neg c]; unfold I64 at h; omega
theorem hq_lt (s d t : Int) (h : 0 ≤ s) (hd : 1 ≤ d) (ht : s < t) : hq s d < t := by have := hq_bd s d h hd; omega
theorem sizeV_times (a m : Int) (hm : 1 ≤ m) : sizeV (a * m) = sizeV a * m ∧ (a * m < 0 ↔ a < 0) := by
  have hi : a * m < 0 ↔ a < 0 := by
    constructor
    · intro h
      refine Int.not_le.1 fun hh => ?_
      have := Int.mul_nonneg hh (show 0 ≤ m by omega)
      omega
    · intro h
      have := Int.mul_le_mul_of_nonneg_left hm (show 0 ≤ -a by omega)
      rw [Int.neg_mul, Int.neg_mul] at this
      omega
  refine ⟨?_, hi⟩
  unfold sizeV
  by_cases h : a < 0
  · rw [if_pos h, if_pos (hi.2 h), Int.neg_mul]
  · rw [if_neg h, if_neg (fun g => h (hi.1 g))]
theorem fixed2_any (w : World) :
    Calls Try.prog 4 #[] w fun e w' => e = .returned (.bool true) ∧ Below w.heap.size w w' := by
  have A1 : Hid (apV (-10) 3 2 = -8) := by unfold Hid; decide
  have A2 : Hid (apE (-10) 3 2 = 0) := by unfold Hid; decide
  have B1 : Hid (meV 7 4 = 2) := by unfold Hid; decide
  have B2 : Hid (meE 4 = 0) := by unfold Hid; decide
  have C1 : Hid (fiV (-5) 3 0 127 = 0) := by unfold Hid; decide
  have C2 : Hid (fiE 3 0 127 = 0) := by unfold Hid; decide
  have D1 : Hid (shV 7 63 = 0) := by unfold Hid; decide
  have D2 : Hid (shE 63 = 20) := by unfold Hid; decide
  go_enter Try.func4, Try.ntmps4
  go_wp2_with fail
  refine (apply_any _ _ _ _).mono ?_
  rintro e w1 ⟨rfl, h1⟩
  rw [A1.out, A2.out]
  go_wp2_with fail
  refine (mean_any _ _ _ (by unfold I64; omega) (by unfold I64; omega)).mono ?_
  rintro e w2 ⟨rfl, h2⟩
  rw [B1.out, B2.out]
  go_wp2_with fail
  refine (finish_any _ _ _ _ _).mono ?_
  rintro e w' ⟨rfl, rfl⟩
  rw [C1.out, C2.out]
  go_wp2_with fail
  refine (shift_any _ _ _ (by unfold I64; omega)).mono ?_
  rintro e w3 ⟨rfl, h3⟩
  rw [D1.out, D2.out]
  go_wp2
  go_ret
  exact ⟨rfl, h1.trans ((h2.mono h1.size).trans (h3.mono (Nat.le_trans h1.size h2.size)))⟩
end Go.Proofs.Ytgkjhipddddaeab
