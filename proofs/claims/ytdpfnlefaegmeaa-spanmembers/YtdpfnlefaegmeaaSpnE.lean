/- What Times of package span, and the document's, return: each for every argument that fits its type. -/
import Derived.Test.YtdpfnlefaegmeaaSpnD
namespace Go.Proofs.Ytdpfnlefaegmeaa
open Go.ChangeShapes Go.WideShapes Go.ChangeAt Go.RowKit
theorem tiR_f (a b k : Int) (h : vB a b = false) : tiR a b k = (0, 0, 30) := if_neg (vB_no h)
theorem tiR_neg (a b k : Int) (h : vB a b = true) (g : k < 0) : tiR a b k = i2 (b * k) (a * k) := by unfold tiR; rw [if_pos (vB_yes h), if_pos g]
theorem tiR_pos (a b k : Int) (h : vB a b = true) (g : ¬ k < 0) : tiR a b k = i2 (a * k) (b * k) := by unfold tiR; rw [if_pos (vB_yes h), if_neg g]
theorem stimes_any (a b k : Int) (w : World) (ha : I64 a) (hb : I64 b) (hk : I64 k) :
    Calls Try.prog 25 #[.agg #[.int .i64 a, .int .i64 b], .int .i64 k] w fun e w' => e = .returned (.tuple #[.agg #[.int .i64 (tiR a b k).1, .int .i64 (tiR a b k).2.1], .int .i64 (tiR a b k).2.2]) ∧ Below w.heap.size w w' := by
  cases h1 : vB a b with
  | false =>
    rw [tiR_f a b k h1]
    go_enter Try.func25, Try.ntmps25
    go_wp2_with fail
    refine (svalid_any _ _ _).mono ?_
    rintro e w1 ⟨rfl, hb'⟩
    have s1 := (St.start w).new.new.call hb'
    simp only [World.size_alloc] at s1
    obtain ⟨c1, f1, z1, c2, f2, z2, -⟩ := s1.rules
    clear hb'
    go_wp2
    exact bodyPost_ret (v := .tuple #[.agg #[.int .i64 0, .int .i64 0], .int .i64 30]) (by simp [results, Try.results25, go_sem, c1]) rfl ⟨rfl, s1.out2⟩
  | true =>
    by_cases g : k < 0
    all_goals
      first | rw [tiR_neg a b k h1 g] | rw [tiR_pos a b k h1 g]
      unfold i2
      go_enter Try.func25, Try.ntmps25
      go_wp2_with fail
      refine (svalid_any _ _ _).mono ?_
      rintro e w1 ⟨rfl, hb'⟩
      have s1 := (St.start w).new.new.call hb'
      simp only [World.size_alloc] at s1
      obtain ⟨c1, f1, z1, c2, f2, z2, -⟩ := s1.rules
      clear hb'
      go_wp2_with fail
      go_quiet (fail)
      go_wp2_with fail
      refine (mul_any _ _ _ (by assumption) (by assumption)).mono ?_
      rintro e w' ⟨rfl, rfl⟩
      go_wp2_with fail
      refine (mul_any _ _ _ (by assumption) (by assumption)).mono ?_
      rintro e w' ⟨rfl, rfl⟩
      go_wp2_with fail
      refine (sends_any _ _ _ _ _).mono ?_
      rintro e w3 ⟨rfl, hb'⟩
      have s3 := (s1.call (drewN_below _ _)).call hb'
      clear hb' c1 f1 z1 c2 f2 z2
      obtain ⟨c1, f1, z1, c2, f2, z2, -⟩ := s3.rules
      go_wp2
      exact bodyPost_ret (v := .tuple #[.agg #[.int .i64 _, .int .i64 _], .int .i64 _]) (by simp [results, Try.results25, go_sem, c1]) rfl ⟨rfl, s3.out2⟩
theorem i2_swap (x y : Int) (h : y ≤ x) : enR (mn (okV x) (okV y)) (okE x) (mx (okV x) (okV y)) (okE y) = i2 y x := by
  by_cases hx : I64 x
  · by_cases hy : I64 y
    · rw [i2_vals y x hy hx, okV_in x hx, okV_in y hy, okE_in x hx, okE_in y hy]
      unfold enR mn mx
      rw [if_pos rfl, if_pos rfl]
      by_cases g : y < x
      · rw [if_pos g, if_neg (by omega)]
      · rw [if_neg g]
        have : x = y := by omega
        rw [this]; simp
    · rw [i2_err y x (fun k => hy k.1), okE_in x hx, okE_out y hy]; rfl
  · rw [i2_err y x (fun k => hx k.2), okE_out x hx]; rfl
theorem i2_same (x y : Int) (h : x ≤ y) : enR (mn (okV x) (okV y)) (okE x) (mx (okV x) (okV y)) (okE y) = i2 x y := by
  by_cases hx : I64 x
  · by_cases hy : I64 y
    · rw [i2_vals x y hx hy, okV_in x hx, okV_in y hy, okE_in x hx, okE_in y hy]
      unfold enR mn mx
      rw [if_pos rfl, if_pos rfl]
      by_cases g : x < y
      · rw [if_pos g, if_neg (by omega)]
      · rw [if_neg g]
        have : x = y := by omega
        rw [this]; simp
    · rw [i2_err x y (fun k => hy k.2), okE_in x hx, okE_out y hy]; rfl
  · rw [i2_err x y (fun k => hx k.1), okE_out x hx]; rfl
theorem ti_ref (a b k : Int) (h : vB a b = true) : enR (mn (okV (a * k)) (okV (b * k))) (okE (a * k)) (mx (okV (a * k)) (okV (b * k))) (okE (b * k)) = tiR a b k := by
  have hv := vB_yes h
  by_cases g : k < 0
  · rw [tiR_neg a b k h g]
    refine i2_swap _ _ ?_
    have := Int.mul_le_mul_of_nonneg_right hv (show 0 ≤ -k by omega)
    rw [Int.mul_neg, Int.mul_neg] at this
    omega
  · rw [tiR_pos a b k h g]
    exact i2_same _ _ (Int.mul_le_mul_of_nonneg_right hv (by omega))
set_option maxHeartbeats 1000000 in
theorem sreftimes_any (a b k : Int) (w : World) (ha : I64 a) (hb : I64 b) (hk : I64 k) :
    Calls Try.prog 26 #[.agg #[.int .i64 a, .int .i64 b], .int .i64 k] w fun e w' => e = .returned (.tuple #[.agg #[.int .i64 (tiR a b k).1, .int .i64 (tiR a b k).2.1], .int .i64 (tiR a b k).2.2]) ∧ Below w.heap.size w w' := by
  cases h1 : vB a b with
  | false =>
    rw [tiR_f a b k h1]
    go_enter Try.func26, Try.ntmps26
    go_wp2_with fail
    refine (srefvalid_any _ _ _).mono ?_
    rintro e w1 ⟨rfl, hb'⟩
    have s1 := (St.start w).new.new.call hb'
    simp only [World.size_alloc] at s1
    obtain ⟨c1, f1, z1, c2, f2, z2, -⟩ := s1.rules
    clear hb'
    go_wp2
    exact bodyPost_ret (v := .tuple #[.agg #[.int .i64 0, .int .i64 0], .int .i64 30]) (by simp [results, Try.results26, go_sem, c1]) rfl ⟨rfl, s1.out2⟩
  | true =>
    rw [← ti_ref a b k h1]
    have t1 := okE_two (a * k)
    have t2 := okE_two (b * k)
    have T1 : Hid (okE (a * k) = 0 ∨ okE (a * k) = 10) := t1
    have T2 : Hid (okE (b * k) = 0 ∨ okE (b * k) = 10) := t2
    clear t1 t2
    by_cases k1 : okV (b * k) < okV (a * k) <;> by_cases k2 : okV (a * k) < okV (b * k)
    any_goals (exfalso; omega)
    all_goals
      first | rw [mn_lt k1] | rw [mn_ge k1]
      first | rw [mx_lt k2] | rw [mx_ge k2]
      go_enter Try.func26, Try.ntmps26
      go_wp2_with fail
      refine (srefvalid_any _ _ _).mono ?_
      rintro e w1 ⟨rfl, hb'⟩
      have s1 := (St.start w).new.new.call hb'
      simp only [World.size_alloc] at s1
      obtain ⟨c1, f1, z1, c2, f2, z2, -⟩ := s1.rules
      clear hb'
      go_wp2_with fail
      refine (refmul_any _ _ _ (by assumption) (by assumption)).mono ?_
      rintro e w' ⟨rfl, rfl⟩
      go_wp2_with fail
      refine (refmul_any _ _ _ (by assumption) (by assumption)).mono ?_
      rintro e w' ⟨rfl, rfl⟩
      go_wp2_with fail
      refine (srefends_any _ _ _ _ _ T1.out T2.out).mono ?_
      rintro e w3 ⟨rfl, hb'⟩
      have s3 := s1.call hb'
      clear hb' c1 f1 z1 c2 f2 z2
      obtain ⟨c1, f1, z1, c2, f2, z2, -⟩ := s3.rules
      go_wp2
      exact bodyPost_ret (v := .tuple #[.agg #[.int .i64 _, .int .i64 _], .int .i64 _]) (by simp [results, Try.results26, go_sem, c1]) rfl ⟨rfl, s3.out2⟩
end Go.Proofs.Ytdpfnlefaegmeaa
