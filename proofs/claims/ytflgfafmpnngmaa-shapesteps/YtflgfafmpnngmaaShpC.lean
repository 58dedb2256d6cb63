/- What Where of package shape returns, for every argument. -/
import Derived.Test.YtflgfafmpnngmaaShpB
namespace Go.Proofs.Ytflgfafmpnngmaa
open Go.ChangeShapes Go.WideShapes Go.ChangeAt Go.RowKit
def whR (h w c n : Int) : Int × Int × Int × Int := if vS h w c = true then (if 0 ≤ n ∧ n < h * w * c then (n / c / w, n / c % w, n % c, 0) else (0, 0, 0, 3)) else (0, 0, 0, 50)
theorem whR_bad {h w c n : Int} (g : vS h w c = false) : whR h w c n = (0, 0, 0, 50) := if_neg (by rw [g]; exact Bool.false_ne_true)
theorem whR_out {h w c n : Int} (g : vS h w c = true) (k : ¬ (0 ≤ n ∧ n < h * w * c)) : whR h w c n = (0, 0, 0, 3) := by unfold whR; rw [if_pos g, if_neg k]
theorem whR_in {h w c n : Int} (g : vS h w c = true) (k : 0 ≤ n ∧ n < h * w * c) : whR h w c n = (n / c / w, n / c % w, n % c, 0) := by unfold whR; rw [if_pos g, if_pos k]
theorem td {n c : Int} (hn : 0 ≤ n) : n.tdiv c = n / c := Int.tdiv_eq_ediv_of_nonneg hn
theorem tm {n c : Int} (hn : 0 ≤ n) : n.tmod c = n % c := Int.tmod_eq_emod_of_nonneg hn
theorem div_lt {n a c : Int} (hc : 0 < c) (h : n < a * c) : n / c < a := Int.ediv_lt_of_lt_mul hc h
set_option maxHeartbeats 4000000 in
theorem where_any (h w c n : Int) (W : World) :
    Calls Try.prog 15 #[.agg #[.int .i64 h, .int .i64 w, .int .i64 c], .int .i64 n] W fun e w' => e = .returned (.tuple #[.int .i64 (whR h w c n).1, .int .i64 (whR h w c n).2.1, .int .i64 (whR h w c n).2.2.1, .int .i64 (whR h w c n).2.2.2]) ∧ Below W.heap.size W w' := by
  cases hv : vS h w c with
  | false =>
    have HR : Hid (elR h w c = (0, 50)) := elR_no hv
    rw [whR_bad hv]
    go_enter Try.func15, Try.ntmps15
    go_wp2_with fail
    refine (selems_any _ _ _ _).mono ?_
    rintro e w1 ⟨rfl, hb⟩
    rw [HR.out]
    have s1 := (St.start W).new.call hb
    clear hb
    go_wp2
    exact bodyPost_ret (v := .tuple #[.int .i64 0, .int .i64 0, .int .i64 0, .int .i64 50]) (by simp [results, Try.results15, go_sem]) rfl ⟨rfl, s1.below⟩
  | true =>
    have HR : Hid (elR h w c = (h * w * c, 0)) := elR_ok hv
    have HV : Hid (vS h w c = true) := hv
    by_cases k1 : n < 0
    · rw [whR_out hv (by omega)]
      obtain ⟨q, hq⟩ : ∃ q, h * w * c = q := ⟨_, rfl⟩
      rw [hq] at HR
      clear hq hv
      go_enter Try.func15, Try.ntmps15
      go_wp2_with fail
      refine (selems_any _ _ _ _).mono ?_
      rintro e w1 ⟨rfl, hb⟩
      rw [HR.out]
      have s1 := (St.start W).new.call hb
      clear hb
      go_wp2
      exact bodyPost_ret (v := .tuple #[.int .i64 0, .int .i64 0, .int .i64 0, .int .i64 3]) (by simp [results, Try.results15, go_sem]) rfl ⟨rfl, s1.below⟩
    by_cases k2 : h * w * c ≤ n
    · rw [whR_out hv (by omega)]
      obtain ⟨q, hq⟩ : ∃ q, h * w * c = q := ⟨_, rfl⟩
      rw [hq] at HR k2
      clear hq hv
      go_enter Try.func15, Try.ntmps15
      go_wp2_with fail
      refine (selems_any _ _ _ _).mono ?_
      rintro e w1 ⟨rfl, hb⟩
      rw [HR.out]
      have s1 := (St.start W).new.call hb
      clear hb
      go_wp2
      exact bodyPost_ret (v := .tuple #[.int .i64 0, .int .i64 0, .int .i64 0, .int .i64 3]) (by simp [results, Try.results15, go_sem]) rfl ⟨rfl, s1.below⟩
    obtain ⟨⟨h1, h2⟩, ⟨w1, w2⟩, ⟨c1, c2⟩, q9⟩ := vS_yes hv
    rw [whR_in hv (by omega)]
    clear hv
    have d1 := div_lt (show 0 < c by omega) (show n < h * w * c by omega)
    have e1 := Int.ediv_nonneg (show 0 ≤ n by omega) (show 0 ≤ c by omega)
    have d2 := div_lt (show 0 < w by omega) d1
    have e2 := Int.ediv_nonneg e1 (show 0 ≤ w by omega)
    have t1 := td (c := c) (show 0 ≤ n by omega)
    have t2 := tm (c := c) (show 0 ≤ n by omega)
    have t3 := td (c := w) e1
    have t4 := tm (c := w) e1
    have t5 := tm (c := h) e2
    rw [Int.emod_eq_of_lt e2 d2] at t5
    have t6 := td (c := h) e2
    have b3 := Int.emod_nonneg n (show c ≠ 0 by omega)
    have b4 := Int.emod_lt_of_pos n (show 0 < c by omega)
    have b5 := Int.emod_nonneg (n / c) (show w ≠ 0 by omega)
    have b6 := Int.emod_lt_of_pos (n / c) (show 0 < w by omega)
    have b7 : n / c ≤ n := Int.ediv_le_self c (by omega)
    have b8 : n / c / w / h = 0 := Int.ediv_eq_zero_of_lt e2 d2
    rw [b8] at t6
    obtain ⟨z, hz⟩ : ∃ z, n % c = z := ⟨_, rfl⟩
    obtain ⟨m, hm⟩ : ∃ m, n / c = m := ⟨_, rfl⟩
    rw [hm] at b5 b6 b7 e1 e2 d1 d2 t1 t3 t4 t5 t6
    rw [hz] at b3 b4 t2
    rw [hm, hz]
    obtain ⟨x, hx⟩ : ∃ x, m % w = x := ⟨_, rfl⟩
    obtain ⟨y, hy⟩ : ∃ y, m / w = y := ⟨_, rfl⟩
    rw [hx] at b5 b6 t4
    rw [hy] at e2 d2 t3 t5 t6
    rw [hx, hy]
    clear hx hy hz hm b8 d1
    obtain ⟨q, hq⟩ : ∃ q, h * w * c = q := ⟨_, rfl⟩
    rw [hq] at HR k2 q9
    clear hq HV
    have z1 : (h == 0) = false := by simp; omega
    have z2 : (w == 0) = false := by simp; omega
    have z3 : (c == 0) = false := by simp; omega
    go_enter Try.func15, Try.ntmps15
    go_wp2_with fail
    refine (selems_any _ _ _ _).mono ?_
    rintro e w1 ⟨rfl, hb⟩
    rw [HR.out]
    have s1 := (St.start W).new.call hb
    obtain ⟨c1, f1, g1, -⟩ := s1.rules
    clear hb
    go_wp2_with fail
    refine (sides_any _ _ _ _).mono ?_
    rintro e w2 ⟨rfl, hb⟩
    have s2 := s1.call hb
    clear hb c1 f1 g1
    go_wp2
    refine wp_loop_rounds 4 ?_
    iterate 4 (rw [rounds_succ]; go_wp2)
    go_quiet (fail)
    go_wp2
    exact bodyPost_ret (v := .tuple #[.int .i64 y, .int .i64 x, .int .i64 z, .int .i64 0]) (by simp [results, Try.results15, go_sem]) rfl ⟨rfl, s2.new.new.below.trans ((drewN_below _ _).mono s2.new.new.below.size)⟩
end Go.Proofs.Ytflgfafmpnngmaa
