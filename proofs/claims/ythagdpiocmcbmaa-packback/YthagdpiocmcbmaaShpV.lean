/- What the document's test of a shape returns. -/
import Derived.Test.YthagdpiocmcbmaaShpA
namespace Go.Proofs.Ythagdpiocmcbmaa
open Go.ChangeShapes Go.WideShapes Go.ChangeAt Go.RowKit
def dmB (n : Int) : Bool := decide (1 ≤ n ∧ n ≤ 1024)
theorem dmB_yes {n : Int} (h : dmB n = true) : 1 ≤ n ∧ n ≤ 1024 := by simpa [dmB] using h
theorem dmB_no {n : Int} (h : dmB n = false) : ¬ (1 ≤ n ∧ n ≤ 1024) := by simpa [dmB] using h
theorem dim_any (n : Int) (W : World) :
    Calls Try.prog 63 #[.int .i64 n] W fun e w' => e = .returned (.bool (dmB n)) ∧ w' = W := by
  by_cases k1 : 1 ≤ n
  · have HR : Hid (decide (n ≤ 1024) = dmB n) := by unfold Hid dmB; simp [k1]
    go_enter Try.func63, Try.ntmps63
    go_wp2
    go_ret
    exact ⟨retB HR.out, rfl⟩
  · have HR : Hid (false = dmB n) := by unfold Hid dmB; simp [k1]
    go_enter Try.func63, Try.ntmps63
    go_wp2
    go_ret
    exact ⟨retB HR.out, rfl⟩
theorem rvalid_any (h w c : Int) (W : World) :
    Calls Try.prog 43 #[.agg #[.int .i64 h, .int .i64 w, .int .i64 c]] W fun e w' => e = .returned (.bool (vS h w c)) ∧ Below W.heap.size W w' := by
  cases k1 : dmB h with
  | false =>
    have HR : Hid (false = vS h w c) := by unfold Hid; rw [vS_not (by have := dmB_no k1; omega)]
    go_enter Try.func43, Try.ntmps43
    go_wp2_with fail
    refine (dim_any _ _).mono ?_
    rintro e w1 ⟨rfl, rfl⟩
    go_wp2
    go_ret
    exact ⟨retB HR.out, (St.start W).new.below⟩
  | true =>
    cases k2 : dmB w with
    | false =>
      have HR : Hid (false = vS h w c) := by unfold Hid; rw [vS_not (by have := dmB_no k2; omega)]
      go_enter Try.func43, Try.ntmps43
      go_wp2_with fail
      refine (dim_any _ _).mono ?_
      rintro e w1 ⟨rfl, rfl⟩
      go_wp2_with fail
      refine (dim_any _ _).mono ?_
      rintro e w1 ⟨rfl, rfl⟩
      go_wp2
      go_ret
      exact ⟨retB HR.out, (St.start W).new.below⟩
    | true =>
      cases k3 : dmB c with
      | false =>
        have HR : Hid (false = vS h w c) := by unfold Hid; rw [vS_not (by have := dmB_no k3; omega)]
        go_enter Try.func43, Try.ntmps43
        go_wp2_with fail
        refine (dim_any _ _).mono ?_
        rintro e w1 ⟨rfl, rfl⟩
        go_wp2_with fail
        refine (dim_any _ _).mono ?_
        rintro e w1 ⟨rfl, rfl⟩
        go_wp2_with fail
        refine (dim_any _ _).mono ?_
        rintro e w1 ⟨rfl, rfl⟩
        go_wp2
        go_ret
        exact ⟨retB HR.out, (St.start W).new.below⟩
      | true =>
        have h1 := dmB_yes k1
        have w1 := dmB_yes k2
        have c1 := dmB_yes k3
        obtain ⟨p1, p2⟩ := mul_bd h1.1 h1.2 w1.1 w1.2
        obtain ⟨q1, q2⟩ := mul_bd p1 p2 c1.1 c1.2
        have HV : Hid (decide (h * w * c ≤ 16384) = vS h w c) := by
          unfold Hid vS
          exact decide_eq_decide.2 ⟨fun g => ⟨by omega, by omega, by omega, g⟩, fun g => g.2.2.2⟩
        clear h1 w1 c1
        obtain ⟨p, hp⟩ : ∃ p, h * w = p := ⟨_, rfl⟩
        rw [hp] at p1 p2 q1 q2 HV
        obtain ⟨q, hq⟩ : ∃ q, p * c = q := ⟨_, rfl⟩
        rw [hq] at q1 q2 HV
        go_enter Try.func43, Try.ntmps43
        go_wp2_with fail
        refine (dim_any _ _).mono ?_
        rintro e w1 ⟨rfl, rfl⟩
        go_wp2_with fail
        refine (dim_any _ _).mono ?_
        rintro e w1 ⟨rfl, rfl⟩
        go_wp2_with fail
        refine (dim_any _ _).mono ?_
        rintro e w1 ⟨rfl, rfl⟩
        go_wp2
        go_ret
        exact ⟨retB HV.out, (St.start W).new.below⟩
end Go.Proofs.Ythagdpiocmcbmaa
