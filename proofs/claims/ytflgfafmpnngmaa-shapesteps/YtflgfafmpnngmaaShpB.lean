/- What Strides and Place of package shape return: each for every argument. -/
import Derived.Test.YtflgfafmpnngmaaShpA
import Derived.WalkSmall
namespace Go.Proofs.Ytflgfafmpnngmaa
open Go.ChangeShapes Go.WideShapes Go.ChangeAt Go.RowKit
theorem drewN_below (w : World) (n : Nat) : Below w.heap.size w (w.drewN n) := below_drewN (Below.refl _ _) n
def stR (h w c : Int) : Int × Int × Int := if vS h w c = true then (w * c, c, 0) else (0, 0, 50)
def inS (h w c y x z : Int) : Bool := decide ((0 ≤ y ∧ y < h) ∧ (0 ≤ x ∧ x < w) ∧ (0 ≤ z ∧ z < c))
def plR (h w c y x z : Int) : Int × Int := if vS h w c = true then (if inS h w c y x z = true then ((y * w + x) * c + z, 0) else (0, 3)) else (0, 50)
theorem row_bd {h w y x : Int} (h2 : y < h) (h1 : 0 ≤ y) (g1 : 0 ≤ x) (g2 : x < w) : 0 ≤ y * w ∧ y * w + x < h * w := by
  have a := Int.mul_le_mul_of_nonneg_right (show y + 1 ≤ h by omega) (show 0 ≤ w by omega)
  have b := Int.mul_le_mul_of_nonneg_right h1 (show 0 ≤ w by omega)
  rw [Int.add_mul] at a
  omega
theorem strides_any (h w c : Int) (W : World) :
    Calls Try.prog 9 #[.agg #[.int .i64 h, .int .i64 w, .int .i64 c]] W fun e w' => e = .returned (.tuple #[.int .i64 (stR h w c).1, .int .i64 (stR h w c).2.1, .int .i64 (stR h w c).2.2]) ∧ Below W.heap.size W w' := by
  cases hv : vS h w c with
  | false =>
    have HR : Hid (elR h w c = (0, 50)) := elR_no hv
    unfold stR
    rw [hv, if_neg Bool.false_ne_true]
    go_enter Try.func9, Try.ntmps9
    go_wp2_with fail
    refine (selems_any _ _ _ _).mono ?_
    rintro e w1 ⟨rfl, hb⟩
    rw [HR.out]
    have s1 := (St.start W).new.call hb
    clear hb
    go_wp2
    go_ret3
    exact ⟨rfl, s1.below⟩
  | true =>
    have HR : Hid (elR h w c = (h * w * c, 0)) := elR_ok hv
    unfold stR
    rw [hv, if_pos rfl]
    obtain ⟨⟨h1, h2⟩, ⟨w1, w2⟩, ⟨c1, c2⟩, -⟩ := vS_yes hv
    obtain ⟨p1, p2⟩ := mul_bd w1 w2 c1 c2
    obtain ⟨p, hp⟩ : ∃ p, w * c = p := ⟨_, rfl⟩
    obtain ⟨q, hq⟩ : ∃ q, h * w * c = q := ⟨_, rfl⟩
    rw [hp] at p1 p2 
    rw [hp]
    rw [hq] at HR
    clear hq
    go_enter Try.func9, Try.ntmps9
    go_wp2_with fail
    refine (selems_any _ _ _ _).mono ?_
    rintro e w1 ⟨rfl, hb⟩
    rw [HR.out]
    have s1 := (St.start W).new.call hb
    obtain ⟨c1, f1, z1, -⟩ := s1.rules
    clear hb
    go_wp2
    go_quiet (fail)
    go_wp2
    go_ret3
    exact ⟨rfl, s1.below.trans ((drewN_below _ _).mono s1.below.size)⟩
theorem plR_bad {h w c y x z : Int} (g : vS h w c = false) : plR h w c y x z = (0, 50) := if_neg (by rw [g]; exact Bool.false_ne_true)
theorem plR_out {h w c y x z : Int} (g : vS h w c = true) (k : ¬ ((0 ≤ y ∧ y < h) ∧ (0 ≤ x ∧ x < w) ∧ (0 ≤ z ∧ z < c))) : plR h w c y x z = (0, 3) := by
  unfold plR; rw [if_pos g, if_neg (by unfold inS; rw [decide_eq_false k]; exact Bool.false_ne_true)]
theorem plR_in {h w c y x z : Int} (g : vS h w c = true) (k : (0 ≤ y ∧ y < h) ∧ (0 ≤ x ∧ x < w) ∧ (0 ≤ z ∧ z < c)) : plR h w c y x z = ((y * w + x) * c + z, 0) := by
  unfold plR; rw [if_pos g, if_pos (by unfold inS; exact decide_eq_true k)]
set_option maxHeartbeats 4000000 in
theorem place_any (h w c y x z : Int) (W : World) :
    Calls Try.prog 13 #[.agg #[.int .i64 h, .int .i64 w, .int .i64 c], .int .i64 y, .int .i64 x, .int .i64 z] W fun e w' => e = .returned (.tuple #[.int .i64 (plR h w c y x z).1, .int .i64 (plR h w c y x z).2]) ∧ Below W.heap.size W w' := by
  cases hv : vS h w c with
  | false =>
    have HR : Hid (elR h w c = (0, 50)) := elR_no hv
    rw [plR_bad hv]
    go_enter Try.func13, Try.ntmps13
    go_wp2_with fail
    refine (selems_any _ _ _ _).mono ?_
    rintro e w1 ⟨rfl, hb⟩
    rw [HR.out]
    have s1 := (St.start W).new.call hb
    clear hb
    go_wp2
    go_ret2
    exact ⟨rfl, s1.below⟩
  | true =>
    have HR : Hid (elR h w c = (h * w * c, 0)) := elR_ok hv
    obtain ⟨⟨h1, h2⟩, ⟨w1, w2⟩, ⟨c1, c2⟩, q9⟩ := vS_yes hv
    have HV : Hid (vS h w c = true) := hv
    clear hv
    obtain ⟨q, hq⟩ : ∃ q, h * w * c = q := ⟨_, rfl⟩
    rw [hq] at HR
    by_cases k1 : y < 0
    · rw [plR_out HV.out (by omega)]
      clear hq q9
      have i0 := idx0 h w c
      have i1 := idx1 h w c
      have i2 := idx2 h w c
      go_enter Try.func13, Try.ntmps13
      go_wp2_with fail
      refine (selems_any _ _ _ _).mono ?_
      rintro e w1 ⟨rfl, hb⟩
      rw [HR.out]
      have s1 := (St.start W).new.call hb
      obtain ⟨c1, f1, z1, -⟩ := s1.rules
      clear hb
      go_wp2_with fail
      refine (sides_any _ _ _ _).mono ?_
      rintro e w2 ⟨rfl, hb⟩
      have s2 := s1.new.call hb
      clear hb c1 f1 z1
      obtain ⟨c1, f1, z1, c2, f2, z2, -⟩ := s2.rules
      go_wp2
      refine wp_loop_rounds 1 ?_
      iterate 1 (rw [rounds_succ]; go_wp2)
      go_ret2
      exact ⟨rfl, s2.below⟩
    by_cases k2 : h ≤ y
    · rw [plR_out HV.out (by omega)]
      clear hq q9
      have i0 := idx0 h w c
      have i1 := idx1 h w c
      have i2 := idx2 h w c
      go_enter Try.func13, Try.ntmps13
      go_wp2_with fail
      refine (selems_any _ _ _ _).mono ?_
      rintro e w1 ⟨rfl, hb⟩
      rw [HR.out]
      have s1 := (St.start W).new.call hb
      obtain ⟨c1, f1, z1, -⟩ := s1.rules
      clear hb
      go_wp2_with fail
      refine (sides_any _ _ _ _).mono ?_
      rintro e w2 ⟨rfl, hb⟩
      have s2 := s1.new.call hb
      clear hb c1 f1 z1
      obtain ⟨c1, f1, z1, c2, f2, z2, -⟩ := s2.rules
      go_wp2
      refine wp_loop_rounds 1 ?_
      iterate 1 (rw [rounds_succ]; go_wp2)
      go_ret2
      exact ⟨rfl, s2.below⟩
    by_cases k3 : x < 0
    · rw [plR_out HV.out (by omega)]
      clear hq q9
      have i0 := idx0 h w c
      have i1 := idx1 h w c
      have i2 := idx2 h w c
      go_enter Try.func13, Try.ntmps13
      go_wp2_with fail
      refine (selems_any _ _ _ _).mono ?_
      rintro e w1 ⟨rfl, hb⟩
      rw [HR.out]
      have s1 := (St.start W).new.call hb
      obtain ⟨c1, f1, z1, -⟩ := s1.rules
      clear hb
      go_wp2_with fail
      refine (sides_any _ _ _ _).mono ?_
      rintro e w2 ⟨rfl, hb⟩
      have s2 := s1.new.call hb
      clear hb c1 f1 z1
      obtain ⟨c1, f1, z1, c2, f2, z2, -⟩ := s2.rules
      go_wp2
      refine wp_loop_rounds 2 ?_
      iterate 2 (rw [rounds_succ]; go_wp2)
      go_ret2
      exact ⟨rfl, s2.below⟩
    by_cases k4 : w ≤ x
    · rw [plR_out HV.out (by omega)]
      clear hq q9
      have i0 := idx0 h w c
      have i1 := idx1 h w c
      have i2 := idx2 h w c
      go_enter Try.func13, Try.ntmps13
      go_wp2_with fail
      refine (selems_any _ _ _ _).mono ?_
      rintro e w1 ⟨rfl, hb⟩
      rw [HR.out]
      have s1 := (St.start W).new.call hb
      obtain ⟨c1, f1, z1, -⟩ := s1.rules
      clear hb
      go_wp2_with fail
      refine (sides_any _ _ _ _).mono ?_
      rintro e w2 ⟨rfl, hb⟩
      have s2 := s1.new.call hb
      clear hb c1 f1 z1
      obtain ⟨c1, f1, z1, c2, f2, z2, -⟩ := s2.rules
      go_wp2
      refine wp_loop_rounds 2 ?_
      iterate 2 (rw [rounds_succ]; go_wp2)
      go_ret2
      exact ⟨rfl, s2.below⟩
    by_cases k5 : z < 0
    · rw [plR_out HV.out (by omega)]
      clear hq q9
      have i0 := idx0 h w c
      have i1 := idx1 h w c
      have i2 := idx2 h w c
      go_enter Try.func13, Try.ntmps13
      go_wp2_with fail
      refine (selems_any _ _ _ _).mono ?_
      rintro e w1 ⟨rfl, hb⟩
      rw [HR.out]
      have s1 := (St.start W).new.call hb
      obtain ⟨c1, f1, z1, -⟩ := s1.rules
      clear hb
      go_wp2_with fail
      refine (sides_any _ _ _ _).mono ?_
      rintro e w2 ⟨rfl, hb⟩
      have s2 := s1.new.call hb
      clear hb c1 f1 z1
      obtain ⟨c1, f1, z1, c2, f2, z2, -⟩ := s2.rules
      go_wp2
      refine wp_loop_rounds 3 ?_
      iterate 3 (rw [rounds_succ]; go_wp2)
      go_ret2
      exact ⟨rfl, s2.below⟩
    by_cases k6 : c ≤ z
    · rw [plR_out HV.out (by omega)]
      clear hq q9
      have i0 := idx0 h w c
      have i1 := idx1 h w c
      have i2 := idx2 h w c
      go_enter Try.func13, Try.ntmps13
      go_wp2_with fail
      refine (selems_any _ _ _ _).mono ?_
      rintro e w1 ⟨rfl, hb⟩
      rw [HR.out]
      have s1 := (St.start W).new.call hb
      obtain ⟨c1, f1, z1, -⟩ := s1.rules
      clear hb
      go_wp2_with fail
      refine (sides_any _ _ _ _).mono ?_
      rintro e w2 ⟨rfl, hb⟩
      have s2 := s1.new.call hb
      clear hb c1 f1 z1
      obtain ⟨c1, f1, z1, c2, f2, z2, -⟩ := s2.rules
      go_wp2
      refine wp_loop_rounds 3 ?_
      iterate 3 (rw [rounds_succ]; go_wp2)
      go_ret2
      exact ⟨rfl, s2.below⟩
    rw [plR_in HV.out (by omega)]
    obtain ⟨p1, p2⟩ := row_bd (by omega : y < h) (by omega : 0 ≤ y) (by omega : 0 ≤ x) (by omega : x < w)
    obtain ⟨r1, r2⟩ := row_bd p2 (by omega : 0 ≤ y * w + x) (by omega : 0 ≤ z) (by omega : z < c)
    obtain ⟨-, t2⟩ := mul_bd h1 h2 w1 w2
    obtain ⟨t, ht⟩ : ∃ t, h * w = t := ⟨_, rfl⟩
    rw [ht] at p2 r2 q9 t2
    clear hq ht
    obtain ⟨p, hp⟩ : ∃ p, y * w = p := ⟨_, rfl⟩
    rw [hp] at p1 p2 r1 r2
    obtain ⟨r, hr⟩ : ∃ r, (p + x) * c = r := ⟨_, rfl⟩
    rw [hr] at r1 r2
    rw [hp, hr]
    have r3 : r + z < 16384 := by omega
    clear r2 q9
    have i0 := idx0 h w c
    have i1 := idx1 h w c
    have i2 := idx2 h w c
    go_enter Try.func13, Try.ntmps13
    go_wp2_with fail
    refine (selems_any _ _ _ _).mono ?_
    rintro e w1 ⟨rfl, hb⟩
    rw [HR.out]
    have s1 := (St.start W).new.call hb
    obtain ⟨c1, f1, z1, -⟩ := s1.rules
    clear hb
    go_wp2_with fail
    refine (sides_any _ _ _ _).mono ?_
    rintro e w2 ⟨rfl, hb⟩
    have s2 := s1.new.call hb
    clear hb c1 f1 z1
    obtain ⟨c1, f1, z1, c2, f2, z2, -⟩ := s2.rules
    go_wp2
    refine wp_loop_rounds 4 ?_
    iterate 4 (rw [rounds_succ]; go_wp2)
    go_ret2
    exact ⟨rfl, s2.below⟩
end Go.Proofs.Ytflgfafmpnngmaa
