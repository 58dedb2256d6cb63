/- What the document's answers of layer 5 return, and the law's own fixed answers. -/
import Derived.Test.YtflgfafmpnngmaaShpC
namespace Go.Proofs.Ytflgfafmpnngmaa
open Go.ChangeShapes Go.WideShapes Go.ChangeAt Go.RowKit
def dmB (n : Int) : Bool := decide (1 ≤ n ∧ n ≤ 1024)
theorem dmB_yes {n : Int} (h : dmB n = true) : 1 ≤ n ∧ n ≤ 1024 := by simpa [dmB] using h
theorem dmB_no {n : Int} (h : dmB n = false) : ¬ (1 ≤ n ∧ n ≤ 1024) := by simpa [dmB] using h
theorem dim_any (n : Int) (W : World) :
    Calls Try.prog 18 #[.int .i64 n] W fun e w' => e = .returned (.bool (dmB n)) ∧ w' = W := by
  by_cases k1 : 1 ≤ n
  · have HR : Hid (decide (n ≤ 1024) = dmB n) := by unfold Hid dmB; simp [k1]
    go_enter Try.func18, Try.ntmps18
    go_wp2
    go_ret
    exact ⟨retB HR.out, rfl⟩
  · have HR : Hid (false = dmB n) := by unfold Hid dmB; simp [k1]
    go_enter Try.func18, Try.ntmps18
    go_wp2
    go_ret
    exact ⟨retB HR.out, rfl⟩
theorem rvalid_any (h w c : Int) (W : World) :
    Calls Try.prog 11 #[.agg #[.int .i64 h, .int .i64 w, .int .i64 c]] W fun e w' => e = .returned (.bool (vS h w c)) ∧ Below W.heap.size W w' := by
  cases k1 : dmB h with
  | false =>
    have HR : Hid (false = vS h w c) := by unfold Hid; rw [vS_not (by have := dmB_no k1; omega)]
    go_enter Try.func11, Try.ntmps11
    go_wp2_with fail
    refine (dim_any _ _).mono ?_
    rintro e w1 ⟨rfl, rfl⟩
    go_wp2
    go_ret
    exact ⟨retB HR.out, (St.start W).new.below⟩
  | true =>
    cases k2 : dmB w with
    | false =>
      have HR : Hid (false = vS h w c) := by unfold Hid; rw [vS_not (by have := dmB_no k2; omega)]
      go_enter Try.func11, Try.ntmps11
      go_wp2_with fail
      refine (dim_any _ _).mono ?_
      rintro e w1 ⟨rfl, rfl⟩
      go_wp2_with fail
      refine (dim_any _ _).mono ?_
      rintro e w1 ⟨rfl, rfl⟩
      go_wp2
      go_ret
      exact ⟨retB HR.out, (St.start W).new.below⟩
    | true =>
      cases k3 : dmB c with
      | false =>
        have HR : Hid (false = vS h w c) := by unfold Hid; rw [vS_not (by have := dmB_no k3; omega)]
        go_enter Try.func11, Try.ntmps11
        go_wp2_with fail
        refine (dim_any _ _).mono ?_
        rintro e w1 ⟨rfl, rfl⟩
        go_wp2_with fail
        refine (dim_any _ _).mono ?_
        rintro e w1 ⟨rfl, rfl⟩
        go_wp2_with fail
        refine (dim_any _ _).mono ?_
        rintro e w1 ⟨rfl, rfl⟩
        go_wp2
        go_ret
        exact ⟨retB HR.out, (St.start W).new.below⟩
      | true =>
        have h1 := dmB_yes k1
        have w1 := dmB_yes k2
        have c1 := dmB_yes k3
        obtain ⟨p1, p2⟩ := mul_bd h1.1 h1.2 w1.1 w1.2
        obtain ⟨q1, q2⟩ := mul_bd p1 p2 c1.1 c1.2
        have HV : Hid (decide (h * w * c ≤ 16384) = vS h w c) := by
          unfold Hid vS
          exact decide_eq_decide.2 ⟨fun g => ⟨by omega, by omega, by omega, g⟩, fun g => g.2.2.2⟩
        clear h1 w1 c1
        obtain ⟨p, hp⟩ : ∃ p, h * w = p := ⟨_, rfl⟩
        rw [hp] at p1 p2 q1 q2 HV
        obtain ⟨q, hq⟩ : ∃ q, p * c = q := ⟨_, rfl⟩
        rw [hq] at q1 q2 HV
        go_enter Try.func11, Try.ntmps11
        go_wp2_with fail
        refine (dim_any _ _).mono ?_
        rintro e w1 ⟨rfl, rfl⟩
        go_wp2_with fail
        refine (dim_any _ _).mono ?_
        rintro e w1 ⟨rfl, rfl⟩
        go_wp2_with fail
        refine (dim_any _ _).mono ?_
        rintro e w1 ⟨rfl, rfl⟩
        go_wp2
        go_ret
        exact ⟨retB HV.out, (St.start W).new.below⟩
theorem relems_any (h w c : Int) (W : World) (hv : vS h w c = true) :
    Calls Try.prog 12 #[.agg #[.int .i64 h, .int .i64 w, .int .i64 c]] W fun e w' => e = .returned (.int .i64 (h * w * c)) ∧ Below W.heap.size W w' := by
  obtain ⟨h1, w1, c1, q9⟩ := vS_yes hv
  obtain ⟨p1, p2⟩ := mul_bd h1.1 h1.2 w1.1 w1.2
  obtain ⟨q1, q2⟩ := mul_bd p1 p2 c1.1 c1.2
  clear h1 w1 c1 hv
  obtain ⟨p, hp⟩ : ∃ p, h * w = p := ⟨_, rfl⟩
  rw [hp] at p1 p2 q1 q2 q9
  rw [hp]
  obtain ⟨q, hq⟩ : ∃ q, p * c = q := ⟨_, rfl⟩
  rw [hq] at q1 q2 q9
  rw [hq]
  go_enter Try.func12, Try.ntmps12
  go_wp2
  go_ret
  exact ⟨rfl, (St.start W).new.below⟩
set_option maxHeartbeats 4000000 in
theorem rplace_any (h w c y x z : Int) (W : World) :
    Calls Try.prog 14 #[.agg #[.int .i64 h, .int .i64 w, .int .i64 c], .int .i64 y, .int .i64 x, .int .i64 z] W fun e w' => e = .returned (.tuple #[.int .i64 (plR h w c y x z).1, .int .i64 (plR h w c y x z).2]) ∧ Below W.heap.size W w' := by
  cases hv : vS h w c with
  | false =>
    rw [plR_bad hv]
    go_enter Try.func14, Try.ntmps14
    go_wp2_with fail
    refine (rvalid_any _ _ _ _).mono ?_
    rintro e w1 ⟨rfl, hb⟩
    have s1 := (St.start W).new.call hb
    clear hb
    go_wp2
    go_ret2
    exact ⟨rfl, s1.below⟩
  | true =>
    have hV := vS_yes hv
    obtain ⟨⟨h1, h2⟩, ⟨w1, w2⟩, ⟨c1, c2⟩, q9⟩ := hV
    by_cases k1 : y < 0
    · rw [plR_out hv (by omega)]
      clear q9
      go_enter Try.func14, Try.ntmps14
      go_wp2_with fail
      refine (rvalid_any _ _ _ _).mono ?_
      rintro e w1 ⟨rfl, hb⟩
      have s1 := (St.start W).new.call hb
      obtain ⟨c1, f1, z1, -⟩ := s1.rules
      clear hb
      go_wp2
      go_ret2
      exact ⟨rfl, s1.below⟩
    by_cases k2 : h ≤ y
    · rw [plR_out hv (by omega)]
      clear q9
      go_enter Try.func14, Try.ntmps14
      go_wp2_with fail
      refine (rvalid_any _ _ _ _).mono ?_
      rintro e w1 ⟨rfl, hb⟩
      have s1 := (St.start W).new.call hb
      obtain ⟨c1, f1, z1, -⟩ := s1.rules
      clear hb
      go_wp2
      go_ret2
      exact ⟨rfl, s1.below⟩
    by_cases k3 : x < 0
    · rw [plR_out hv (by omega)]
      clear q9
      go_enter Try.func14, Try.ntmps14
      go_wp2_with fail
      refine (rvalid_any _ _ _ _).mono ?_
      rintro e w1 ⟨rfl, hb⟩
      have s1 := (St.start W).new.call hb
      obtain ⟨c1, f1, z1, -⟩ := s1.rules
      clear hb
      go_wp2
      go_ret2
      exact ⟨rfl, s1.below⟩
    by_cases k4 : w ≤ x
    · rw [plR_out hv (by omega)]
      clear q9
      go_enter Try.func14, Try.ntmps14
      go_wp2_with fail
      refine (rvalid_any _ _ _ _).mono ?_
      rintro e w1 ⟨rfl, hb⟩
      have s1 := (St.start W).new.call hb
      obtain ⟨c1, f1, z1, -⟩ := s1.rules
      clear hb
      go_wp2
      go_ret2
      exact ⟨rfl, s1.below⟩
    by_cases k5 : z < 0
    · rw [plR_out hv (by omega)]
      clear q9
      go_enter Try.func14, Try.ntmps14
      go_wp2_with fail
      refine (rvalid_any _ _ _ _).mono ?_
      rintro e w1 ⟨rfl, hb⟩
      have s1 := (St.start W).new.call hb
      obtain ⟨c1, f1, z1, -⟩ := s1.rules
      clear hb
      go_wp2
      go_ret2
      exact ⟨rfl, s1.below⟩
    by_cases k6 : c ≤ z
    · rw [plR_out hv (by omega)]
      clear q9
      go_enter Try.func14, Try.ntmps14
      go_wp2_with fail
      refine (rvalid_any _ _ _ _).mono ?_
      rintro e w1 ⟨rfl, hb⟩
      have s1 := (St.start W).new.call hb
      obtain ⟨c1, f1, z1, -⟩ := s1.rules
      clear hb
      go_wp2
      go_ret2
      exact ⟨rfl, s1.below⟩
    rw [plR_in hv (by omega)]
    obtain ⟨p1, p2⟩ := row_bd (by omega : y < h) (by omega : 0 ≤ y) (by omega : 0 ≤ x) (by omega : x < w)
    obtain ⟨r1, r2⟩ := row_bd p2 (by omega : 0 ≤ y * w + x) (by omega : 0 ≤ z) (by omega : z < c)
    obtain ⟨-, t2⟩ := mul_bd h1 h2 w1 w2
    obtain ⟨t, ht⟩ : ∃ t, h * w = t := ⟨_, rfl⟩
    rw [ht] at p2 r2 q9 t2
    clear ht
    obtain ⟨p, hp⟩ : ∃ p, y * w = p := ⟨_, rfl⟩
    rw [hp] at p1 p2 r1 r2
    obtain ⟨r, hr⟩ : ∃ r, (p + x) * c = r := ⟨_, rfl⟩
    rw [hr] at r1 r2
    rw [hp, hr]
    have r3 : r + z < 16384 := by omega
    clear r2 q9
    go_enter Try.func14, Try.ntmps14
    go_wp2_with fail
    refine (rvalid_any _ _ _ _).mono ?_
    rintro e w1 ⟨rfl, hb⟩
    have s1 := (St.start W).new.call hb
    obtain ⟨c1, f1, z1, -⟩ := s1.rules
    clear hb
    go_wp2
    go_ret2
    exact ⟨rfl, s1.below⟩
theorem fixed_any (W : World) :
    Calls Try.prog 10 #[] W fun e w' => e = .returned (.bool true) ∧ Below W.heap.size W w' := by
  have H1 : Hid (elR 2 3 4 = (24, 0)) := by unfold Hid; decide
  have H2 : Hid (plR 2 3 4 1 2 3 = (23, 0)) := by unfold Hid; decide
  have H3 : Hid (elR 128 128 2 = (0, 50)) := by unfold Hid; decide
  go_enter Try.func10, Try.ntmps10
  go_wp2_with fail
  refine (selems_any _ _ _ _).mono ?_
  rintro e w1 ⟨rfl, hb⟩
  rw [H1.out]
  have s1 := (St.start W).call hb
  clear hb
  go_wp2_with fail
  refine (place_any _ _ _ _ _ _ _).mono ?_
  rintro e w2 ⟨rfl, hb⟩
  rw [H2.out]
  have s2 := s1.call hb
  clear hb
  go_wp2_with fail
  refine (selems_any _ _ _ _).mono ?_
  rintro e w3 ⟨rfl, hb⟩
  rw [H3.out]
  have s3 := s2.call hb
  clear hb
  go_wp2
  go_ret
  exact ⟨rfl, s3.below⟩
end Go.Proofs.Ytflgfafmpnngmaa
