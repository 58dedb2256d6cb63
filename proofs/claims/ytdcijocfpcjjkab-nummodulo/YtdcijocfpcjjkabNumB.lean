/- The ends of a narrow type, Sat; the document's Fits, Sat, Wrap; products: each for every argument that fits its type. -/
import Derived.Test.YtdcijocfpcjjkabNum
namespace Go.Proofs.Ytdcijocfpcjjkab
open Go.ChangeShapes Go.WideShapes Go.ChangeAt Go.RowKit

/-! ### Plain numbers -/
def Pw (N x : Int) : Prop := ∃ k : Nat, x * 2 ^ k = -N
theorem pos_pow (k : Nat) : (1 : Int) ≤ 2 ^ k := by
  induction k with
  | zero => simp
  | succ k ih => rw [Int.pow_succ]; omega
theorem pw_bd {N x : Int} (hN : 0 < N) (h : Pw N x) : -N ≤ x ∧ x ≤ -1 := by
  obtain ⟨k, hk⟩ := h
  have hp := pos_pow k
  generalize (2 : Int) ^ k = p at hk hp
  have hneg : x < 0 := by
    refine Int.not_le.1 fun hx => ?_
    have := Int.mul_nonneg hx (show (0 : Int) ≤ p by omega)
    omega
  refine ⟨?_, by omega⟩
  have := Int.mul_le_mul_of_nonneg_left hp (show 0 ≤ -x by omega)
  rw [Int.neg_mul, Int.neg_mul, hk] at this
  omega
theorem pw_step {N x : Int} (h : Pw N x) (hx : x ≠ -N) : Pw N (x * 2) := by
  obtain ⟨k, hk⟩ := h
  cases k with
  | zero => simp at hk; exact absurd hk hx
  | succ k => exact ⟨k, by rw [Int.pow_succ, Int.mul_comm _ 2, ← Int.mul_assoc] at hk; exact hk⟩
theorem clamp_in (x lo hi : Int) (h : lo ≤ x) (g : x ≤ hi) : clampV x lo hi = x := by
  unfold clampV; rw [if_neg (by omega), if_neg (by omega)]
theorem clamp_hi (x lo hi : Int) (h : hi < x) : clampV x lo hi = hi := by unfold clampV; rw [if_pos h]
theorem clamp_lo (x lo hi : Int) (h : x < lo) (g : x ≤ hi) : clampV x lo hi = lo := by unfold clampV; rw [if_neg (by omega), if_pos h]
theorem fits_yes {t x : Int} (h : fitsN t x = true) : -t ≤ x ∧ x ≤ t - 1 := by simpa [fitsN] using h
theorem fits_no {t x : Int} (h : fitsN t x = false) : ¬ (-t ≤ x ∧ x ≤ t - 1) := by simpa [fitsN] using h
theorem wrapN8_in (x : Int) (h : -128 ≤ x ∧ x ≤ 128 - 1) : wrapN 128 x = x := by unfold wrapN; omega
theorem wrapN16_in (x : Int) (h : -32768 ≤ x ∧ x ≤ 32768 - 1) : wrapN 32768 x = x := by unfold wrapN; omega
theorem wrapN32_in (x : Int) (h : -2147483648 ≤ x ∧ x ≤ 2147483648 - 1) : wrapN 2147483648 x = x := by unfold wrapN; omega

/-! ### The ends, and Sat -/
theorem least_14 (w : World) :
    Calls Try.prog 14 #[] w fun e w' => e = .returned (.int .i16 (-32768)) ∧ w' = w := by
  have hz : IntKind.i16.wrap (-(2 * 32768)) = 0 := by rw [lit16]; decide
  simp only [Int.reduceMul, Int.reduceNeg] at hz
  go_enter Try.func14, Try.ntmps14
  go_wp2
  go_loop [1] (fun v => ∃ x : Int, v = .int .i16 x ∧ Pw 32768 x) (fun v => (32768 + intOf v).toNat)
  case atStart => exact ⟨-1, rfl, ⟨15, by decide⟩⟩
  case round =>
    obtain ⟨x, rfl, hp⟩ := hrel
    have hb := pw_bd (by decide) hp
    obtain ⟨h1, h2⟩ := hb
    by_cases c : x = -32768
    · clear hp
      subst c
      go_wp2
      go_ret
      exact ⟨rfl, rfl⟩
    · have hq := pw_step hp c
      have hb2 := pw_bd (by decide) hq
      obtain ⟨h3, h4⟩ := hb2
      have c3 : x * 2 < 0 := by omega
      have HQ : Hid (Pw 32768 (x * 2)) := hq
      clear hp hq c
      go_wp2
      go_round
      case rel => exact ⟨x * 2, rfl, HQ.out⟩
      case measure => simp [intOf]; omega
theorem greatest_15 (w : World) :
    Calls Try.prog 15 #[] w fun e w' => e = .returned (.int .i16 32767) ∧ w' = w := by
  go_enter Try.func15, Try.ntmps15
  go_wp2_with fail
  refine (least_14 _).mono ?_
  rintro e w' ⟨rfl, rfl⟩
  go_wp2
  go_ret
  exact ⟨rfl, rfl⟩
theorem sat_6 (x : Int) (w : World) :
    Calls Try.prog 6 #[.int .i64 x] w fun e w' => e = .returned (.int .i16 (clampV x (-32768) 32767)) ∧ w' = w := by
  cases hf : fitsN 32768 x
  · have hn := fits_no hf
    by_cases c : x < 0
    · have HR : Hid (clampV x (-32768) 32767 = -32768) := clamp_lo _ _ _ (by omega) (by omega)
      clear hn
      rw [HR.out]
      go_enter Try.func6, Try.ntmps6
      go_wp2_with fail
      refine (fits_5 _ _).mono ?_
      rintro e w' ⟨rfl, rfl⟩
      go_wp2_with fail
      refine (least_14 _).mono ?_
      rintro e w' ⟨rfl, rfl⟩
      go_wp2
      go_ret
      exact ⟨rfl, rfl⟩
    · have HR : Hid (clampV x (-32768) 32767 = 32767) := clamp_hi _ _ _ (by omega)
      clear hn
      rw [HR.out]
      go_enter Try.func6, Try.ntmps6
      go_wp2_with fail
      refine (fits_5 _ _).mono ?_
      rintro e w' ⟨rfl, rfl⟩
      go_wp2_with fail
      refine (greatest_15 _).mono ?_
      rintro e w' ⟨rfl, rfl⟩
      go_wp2
      go_ret
      exact ⟨rfl, rfl⟩
  · have hn := fits_yes hf
    have HR : Hid (clampV x (-32768) 32767 = x) := clamp_in _ _ _ (by omega) (by omega)
    rw [HR.out]
    have HW : Hid (IntKind.i16.wrap x = x) := by unfold Hid; rw [lit16]; exact wrapN16_in _ hn
    clear hn
    go_enter Try.func6, Try.ntmps6
    go_wp2_with fail
    refine (fits_5 _ _).mono ?_
    rintro e w' ⟨rfl, rfl⟩
    go_wp2
    go_ret
    exact ⟨ret1 HW.out, rfl⟩
end Go.Proofs.Ytdcijocfpcjjkab
