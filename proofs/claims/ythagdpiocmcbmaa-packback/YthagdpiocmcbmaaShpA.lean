/- What sides and Elems of package shape, and the document's, return: each for every argument. -/
import Derived.Test.YthagdpiocmcbmaaNum
import Derived.Test.YthagdpiocmcbmaaHeld
import Derived.LoopN
import Derived.BigQuiet
namespace Go.Proofs.Ythagdpiocmcbmaa
open Go.ChangeShapes Go.WideShapes Go.ChangeAt Go.RowKit
def vS (h w c : Int) : Bool := decide ((1 ≤ h ∧ h ≤ 1024) ∧ (1 ≤ w ∧ w ≤ 1024) ∧ (1 ≤ c ∧ c ≤ 1024) ∧ h * w * c ≤ 16384)
def elR (h w c : Int) : Int × Int := if vS h w c = true then (h * w * c, 0) else (0, 50)
theorem vS_yes {h w c : Int} (g : vS h w c = true) : (1 ≤ h ∧ h ≤ 1024) ∧ (1 ≤ w ∧ w ≤ 1024) ∧ (1 ≤ c ∧ c ≤ 1024) ∧ h * w * c ≤ 16384 := by simpa [vS] using g
theorem elR_ok {h w c : Int} (g : vS h w c = true) : elR h w c = (h * w * c, 0) := if_pos g
theorem elR_no {h w c : Int} (g : vS h w c = false) : elR h w c = (0, 50) := if_neg (by rw [g]; exact Bool.false_ne_true)
theorem vS_mk {h w c : Int} (g : (1 ≤ h ∧ h ≤ 1024) ∧ (1 ≤ w ∧ w ≤ 1024) ∧ (1 ≤ c ∧ c ≤ 1024) ∧ h * w * c ≤ 16384) : vS h w c = true := by unfold vS; exact decide_eq_true g
theorem vS_not {h w c : Int} (g : ¬ ((1 ≤ h ∧ h ≤ 1024) ∧ (1 ≤ w ∧ w ≤ 1024) ∧ (1 ≤ c ∧ c ≤ 1024) ∧ h * w * c ≤ 16384)) : vS h w c = false := by unfold vS; exact decide_eq_false g
theorem mul_bd {a b A B : Int} (ha : 1 ≤ a) (hA : a ≤ A) (hb : 1 ≤ b) (hB : b ≤ B) : 1 ≤ a * b ∧ a * b ≤ A * B := by
  constructor
  · have := Int.mul_le_mul ha hb (by omega) (by omega); omega
  · exact Int.mul_le_mul hA hB (by omega) (by omega)
theorem sides_any (h w c : Int) (W : World) :
    Calls Try.prog 77 #[.agg #[.int .i64 h, .int .i64 w, .int .i64 c]] W fun e w' => e = .returned (.agg #[.int .i64 h, .int .i64 w, .int .i64 c]) ∧ Below W.heap.size W w' := by
  go_enter Try.func77, Try.ntmps77
  go_wp2
  exact bodyPost_ret (v := .agg #[.int .i64 h, .int .i64 w, .int .i64 c]) (by simp [results, Try.results77, go_sem]) rfl ⟨rfl, (St.start W).new.new.below⟩
theorem idx0 (h w c : Int) : ∀ W : World, (Instr.index 123 (.agg #[.int .i64 h, .int .i64 w, .int .i64 c]) (.int .i64 0)).run Try.prog W = .ok (.int .i64 h) W := fun _ => by kernel_rfl
theorem idx1 (h w c : Int) : ∀ W : World, (Instr.index 123 (.agg #[.int .i64 h, .int .i64 w, .int .i64 c]) (.int .i64 1)).run Try.prog W = .ok (.int .i64 w) W := fun _ => by kernel_rfl
theorem idx2 (h w c : Int) : ∀ W : World, (Instr.index 123 (.agg #[.int .i64 h, .int .i64 w, .int .i64 c]) (.int .i64 2)).run Try.prog W = .ok (.int .i64 c) W := fun _ => by kernel_rfl
theorem selems_any (h w c : Int) (W : World) :
    Calls Try.prog 56 #[.agg #[.int .i64 h, .int .i64 w, .int .i64 c]] W fun e w' => e = .returned (.tuple #[.int .i64 (elR h w c).1, .int .i64 (elR h w c).2]) ∧ Below W.heap.size W w' := by
  by_cases k1 : h < 1
  · rw [elR_no (vS_not (by omega))]
    have i0 := idx0 h w c
    go_enter Try.func56, Try.ntmps56
    go_wp2_with fail
    refine (sides_any _ _ _ _).mono ?_
    rintro e w1 ⟨rfl, hb⟩
    have s1 := (St.start W).new.call hb
    clear hb
    go_wp2
    refine wp_loop_rounds 1 ?_
    rw [rounds_succ]
    go_wp2
    go_ret2
    exact ⟨rfl, s1.below⟩
  by_cases k2 : 1024 < h
  · rw [elR_no (vS_not (by omega))]
    have i0 := idx0 h w c
    go_enter Try.func56, Try.ntmps56
    go_wp2_with fail
    refine (sides_any _ _ _ _).mono ?_
    rintro e w1 ⟨rfl, hb⟩
    have s1 := (St.start W).new.call hb
    clear hb
    go_wp2
    refine wp_loop_rounds 1 ?_
    rw [rounds_succ]
    go_wp2
    go_ret2
    exact ⟨rfl, s1.below⟩
  by_cases k3 : w < 1
  · rw [elR_no (vS_not (by omega))]
    have i0 := idx0 h w c
    have i1 := idx1 h w c
    go_enter Try.func56, Try.ntmps56
    go_wp2_with fail
    refine (sides_any _ _ _ _).mono ?_
    rintro e w1 ⟨rfl, hb⟩
    have s1 := (St.start W).new.call hb
    clear hb
    go_wp2
    refine wp_loop_rounds 2 ?_
    rw [rounds_succ]
    go_wp2
    rw [rounds_succ]
    go_wp2
    go_ret2
    exact ⟨rfl, s1.below⟩
  by_cases k4 : 1024 < w
  · rw [elR_no (vS_not (by omega))]
    have i0 := idx0 h w c
    have i1 := idx1 h w c
    go_enter Try.func56, Try.ntmps56
    go_wp2_with fail
    refine (sides_any _ _ _ _).mono ?_
    rintro e w1 ⟨rfl, hb⟩
    have s1 := (St.start W).new.call hb
    clear hb
    go_wp2
    refine wp_loop_rounds 2 ?_
    rw [rounds_succ]
    go_wp2
    rw [rounds_succ]
    go_wp2
    go_ret2
    exact ⟨rfl, s1.below⟩
  obtain ⟨p1, p2⟩ := mul_bd (by omega : 1 ≤ h) (by omega : h ≤ 1024) (by omega : 1 ≤ w) (by omega : w ≤ 1024)
  by_cases k5 : c < 1
  · rw [elR_no (vS_not (by omega))]
    have i0 := idx0 h w c
    have i1 := idx1 h w c
    have i2 := idx2 h w c
    obtain ⟨p, hp⟩ : ∃ p, h * w = p := ⟨_, rfl⟩
    rw [hp] at p1 p2
    go_enter Try.func56, Try.ntmps56
    go_wp2_with fail
    refine (sides_any _ _ _ _).mono ?_
    rintro e w1 ⟨rfl, hb⟩
    have s1 := (St.start W).new.call hb
    clear hb
    go_wp2
    refine wp_loop_rounds 3 ?_
    rw [rounds_succ]
    go_wp2
    rw [rounds_succ]
    go_wp2
    rw [rounds_succ]
    go_wp2
    go_ret2
    exact ⟨rfl, s1.below⟩
  by_cases k6 : 1024 < c
  · rw [elR_no (vS_not (by omega))]
    have i0 := idx0 h w c
    have i1 := idx1 h w c
    have i2 := idx2 h w c
    obtain ⟨p, hp⟩ : ∃ p, h * w = p := ⟨_, rfl⟩
    rw [hp] at p1 p2
    go_enter Try.func56, Try.ntmps56
    go_wp2_with fail
    refine (sides_any _ _ _ _).mono ?_
    rintro e w1 ⟨rfl, hb⟩
    have s1 := (St.start W).new.call hb
    clear hb
    go_wp2
    refine wp_loop_rounds 3 ?_
    rw [rounds_succ]
    go_wp2
    rw [rounds_succ]
    go_wp2
    rw [rounds_succ]
    go_wp2
    go_ret2
    exact ⟨rfl, s1.below⟩
  obtain ⟨q1, q2⟩ := mul_bd p1 p2 (by omega : 1 ≤ c) (by omega : c ≤ 1024)
  have HV : Hid (vS h w c = decide (h * w * c ≤ 16384)) := by
    unfold Hid vS
    exact decide_eq_decide.2 ⟨fun g => g.2.2.2, fun g => ⟨by omega, by omega, by omega, g⟩⟩
  obtain ⟨p, hp⟩ : ∃ p, h * w = p := ⟨_, rfl⟩
  have HR : Hid (elR h w c = if vS h w c = true then (p * c, 0) else (0, 50)) := by unfold Hid; rw [← hp]; rfl
  rw [hp] at p1 p2 q1 q2
  have HV2 : Hid (vS h w c = decide (p * c ≤ 16384)) := by unfold Hid; rw [HV.out, hp]
  clear HV
  obtain ⟨q, hq⟩ : ∃ q, p * c = q := ⟨_, rfl⟩
  rw [hq] at q1 q2
  have HR2 : Hid (elR h w c = if q ≤ 16384 then (q, 0) else (0, 50)) := by unfold Hid; rw [HR.out, HV2.out, hq]; simp only [decide_eq_true_eq]
  clear HV2 HR
  rw [HR2.out]
  clear HR2
  by_cases k7 : 16384 < q
  · rw [if_neg (by omega)]
    have i0 := idx0 h w c
    have i1 := idx1 h w c
    have i2 := idx2 h w c
    go_enter Try.func56, Try.ntmps56
    go_wp2_with fail
    refine (sides_any _ _ _ _).mono ?_
    rintro e w1 ⟨rfl, hb⟩
    have s1 := (St.start W).new.call hb
    clear hb
    go_wp2
    refine wp_loop_rounds 4 ?_
    rw [rounds_succ]
    go_wp2
    rw [rounds_succ]
    go_wp2
    rw [rounds_succ]
    go_wp2
    rw [rounds_succ]
    go_wp2
    go_ret2
    exact ⟨rfl, s1.below⟩
  · rw [if_pos (by omega)]
    have i0 := idx0 h w c
    have i1 := idx1 h w c
    have i2 := idx2 h w c
    go_enter Try.func56, Try.ntmps56
    go_wp2_with fail
    refine (sides_any _ _ _ _).mono ?_
    rintro e w1 ⟨rfl, hb⟩
    have s1 := (St.start W).new.call hb
    clear hb
    go_wp2
    refine wp_loop_rounds 4 ?_
    rw [rounds_succ]
    go_wp2
    rw [rounds_succ]
    go_wp2
    rw [rounds_succ]
    go_wp2
    rw [rounds_succ]
    go_wp2
    go_ret2
    exact ⟨rfl, s1.below⟩
end Go.Proofs.Ythagdpiocmcbmaa
