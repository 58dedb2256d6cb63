/- The walk of FixqNear: it returns true for every argument that fits its type. -/
import Derived.Test.YtgkjhipddddaeaaFixP
namespace Go.Proofs.Ytgkjhipddddaeaa
open Go.ChangeShapes Go.WideShapes Go.ChangeAt Go.RowKit
/-- A product P, its rounded quotient q by one, and q * one, all as plain letters. -/
theorem near_parts (p one : Int) (h1 : 1 ≤ one) : ∃ Q r X, sizeV p / one = Q ∧ sizeV p = X + r ∧ 0 ≤ Q ∧ Q ≤ sizeV p ∧ 0 ≤ r ∧ r < one ∧ 0 ≤ X ∧
    ((one ≤ 2 * r ∧ hq (sizeV p) one = Q + 1 ∧ (Q + 1) * one = X + one) ∨ (2 * r < one ∧ hq (sizeV p) one = Q ∧ Q * one = X)) := by
  have hs : 0 ≤ sizeV p := by unfold sizeV; split <;> omega
  obtain ⟨Q, r, e, hX, q0, q1, r0, r1, h⟩ := hq_parts (sizeV p) one hs h1
  refine ⟨Q, r, one * Q, e, hX, q0, q1, r0, r1, Int.mul_nonneg (by omega) q0, ?_⟩
  rcases h with ⟨a, b⟩ | ⟨a, b⟩
  · left; exact ⟨a, b, by rw [Int.add_mul, Int.mul_comm Q]; omega⟩
  · right; exact ⟨a, b, Int.mul_comm _ _⟩
theorem prod31 (a m : Int) (a1 : -2147483648 ≤ a) (a2 : a < 2147483648) (m1 : 1 ≤ m) (m2 : m ≤ 2147483647) : -4611686016279904256 ≤ a * m ∧ a * m ≤ 4611686016279904256 := by
  have h1 := Int.mul_le_mul_of_nonneg_right a1 (show 0 ≤ m by omega)
  have h2 := Int.mul_le_mul_of_nonneg_right (show a ≤ 2147483648 by omega) (show 0 ≤ m by omega)
  omega
theorem p2_le60 (n : Int) (h : n ≤ 60) : p2 n ≤ 1152921504606846976 := by
  rw [p2_nat]
  have := Nat.pow_le_pow_right (show 0 < 2 by omega) (show n.toNat ≤ 60 by omega)
  omega
set_option maxHeartbeats 1000000 in
theorem fixqNear_out (a m s : Int) (w : World) (c : scB m s = false ∨ a < -2147483648 ∨ 2147483648 ≤ a ∨ 60 < s) :
    Calls Try.prog 7 #[.int .i64 a, .agg #[.int .i64 m, .int .i64 s]] w fun e w' => e = .returned (.bool true) ∧ Below w.heap.size w w' := by
  cases hs : scB m s with
  | false =>
    clear c
    go_enter Try.func7, Try.ntmps7
    go_wp2_with fail
    refine (fixed2_any _).mono ?_
    rintro e w1 ⟨rfl, h1⟩
    obtain ⟨c0, c1, hz, hB⟩ := keep2 (new2 w m s _) h1
    clear h1
    go_wp2_with fail
    refine (valid_any _ _ _).mono ?_
    rintro e w2 ⟨rfl, h2⟩
    obtain ⟨d0, d1, hy, hC⟩ := keep2 ⟨c0, c1, hz, hB⟩ h2
    clear h2 c0 c1 hz hB
    go_wp2
    go_ret
    exact ⟨rfl, hC⟩
  | true =>
    by_cases l1 : a < -2147483648
    · clear c
      go_enter Try.func7, Try.ntmps7
      go_wp2_with fail
      refine (fixed2_any _).mono ?_
      rintro e w1 ⟨rfl, h1⟩
      obtain ⟨c0, c1, hz, hB⟩ := keep2 (new2 w m s _) h1
      clear h1
      go_wp2_with fail
      refine (valid_any _ _ _).mono ?_
      rintro e w2 ⟨rfl, h2⟩
      obtain ⟨d0, d1, hy, hC⟩ := keep2 ⟨c0, c1, hz, hB⟩ h2
      clear h2 c0 c1 hz hB
      go_wp2
      go_ret
      exact ⟨rfl, hC⟩
    · by_cases l2 : 2147483648 ≤ a
      · clear c
        go_enter Try.func7, Try.ntmps7
        go_wp2_with fail
        refine (fixed2_any _).mono ?_
        rintro e w1 ⟨rfl, h1⟩
        obtain ⟨c0, c1, hz, hB⟩ := keep2 (new2 w m s _) h1
        clear h1
        go_wp2_with fail
        refine (valid_any _ _ _).mono ?_
        rintro e w2 ⟨rfl, h2⟩
        obtain ⟨d0, d1, hy, hC⟩ := keep2 ⟨c0, c1, hz, hB⟩ h2
        clear h2 c0 c1 hz hB
        go_wp2
        go_ret
        exact ⟨rfl, hC⟩
      · have l3 : 60 < s := by
          rcases c with h | h | h | h
          · rw [h] at hs; cases hs
          · exact absurd h l1
          · exact absurd h l2
          · exact h
        clear c
        go_enter Try.func7, Try.ntmps7
        go_wp2_with fail
        refine (fixed2_any _).mono ?_
        rintro e w1 ⟨rfl, h1⟩
        obtain ⟨c0, c1, hz, hB⟩ := keep2 (new2 w m s _) h1
        clear h1
        go_wp2_with fail
        refine (valid_any _ _ _).mono ?_
        rintro e w2 ⟨rfl, h2⟩
        obtain ⟨d0, d1, hy, hC⟩ := keep2 ⟨c0, c1, hz, hB⟩ h2
        clear h2 c0 c1 hz hB
        go_wp2
        go_ret
        exact ⟨rfl, hC⟩
set_option maxHeartbeats 2000000 in
theorem fixqNear_in (a m s p one q X T hf : Int) (w : World) (hs : scB m s = true) (l1 : ¬ a < -2147483648) (l2 : ¬ 2147483648 ≤ a) (l3 : ¬ 60 < s) (s0 : 0 ≤ s)
    (HV : Hid (apV a m s = q)) (HE : Hid (apE a m s = 0)) (hp : a * m = p) (hX : q * one = X) (hT : p.tdiv one = T) (hP : (2 : Int) ^ s.toNat = one) (hh : one / 2 = hf)
    (p1 : -4611686016279904256 ≤ p) (p2' : p ≤ 4611686016279904256) (o1 : 1 ≤ one) (o2 : one ≤ 1152921504606846976)
    (x1 : -5764607520886751232 ≤ X) (x2 : X ≤ 5764607520886751232) (b1 : -4611686016279904256 ≤ T) (b2 : T ≤ 4611686016279904256)
    (t1 : ¬ T + 1 < q) (t2 : ¬ q < T - 1)
    (fin : (one = 1 ∧ p = X) ∨ (1 < one ∧ p < X ∧ X - p < hf) ∨ (1 < one ∧ p < X ∧ X - p = hf ∧ 0 < p) ∨ (1 < one ∧ X ≤ p ∧ p - X < hf) ∨ (1 < one ∧ X < p ∧ p - X = hf ∧ p < 0)) :
    Calls Try.prog 7 #[.int .i64 a, .agg #[.int .i64 m, .int .i64 s]] w fun e w' => e = .returned (.bool true) ∧ Below w.heap.size w w' := by
  have o3 : (one == 0) = false := by simp; omega
  rcases fin with ⟨f1, f2⟩ | ⟨f1, f2, f3⟩ | ⟨f1, f2, f3, f4⟩ | ⟨f1, f2, f3⟩ | ⟨f1, f2, f3, f4⟩
  · have n1 : (one == 1) = true := by simpa using f1
    have t3 : ¬ p - X < 0 := by omega
    have t4 : p - X = 0 := by omega
    clear f1 f2
    go_enter Try.func7, Try.ntmps7
    go_wp2_with fail
    refine (fixed2_any _).mono ?_
    rintro e w1 ⟨rfl, h1⟩
    obtain ⟨c0, c1, hz, hB⟩ := keep2 (new2 w m s _) h1
    clear h1
    go_wp2_with fail
    refine (valid_any _ _ _).mono ?_
    rintro e w2 ⟨rfl, h2⟩
    obtain ⟨d0, d1, hy, hC⟩ := keep2 ⟨c0, c1, hz, hB⟩ h2
    clear h2 c0 c1 hz hB
    go_wp2_with fail
    refine (apply_any _ _ _ _).mono ?_
    rintro e w3 ⟨rfl, h3⟩
    rw [HV.out, HE.out]
    obtain ⟨c0, c1, hz, hB⟩ := keep2 ⟨d0, d1, hy, hC⟩ h3
    clear h3 d0 d1 hy hC
    go_wp2
    go_ret
    exact ⟨rfl, hB⟩
  · have n1 : (one == 1) = false := by simp; omega
    obtain ⟨D, hD⟩ : ∃ D, p - X = D := ⟨_, rfl⟩
    have dd1 : -1152921504606846976 ≤ D := by omega
    have dd2 : D ≤ 1152921504606846976 := by omega
    have t3 : D < 0 := by omega
    have t4 : (-D == hf) = false := by simp; omega
    have t5 : -D < hf := by omega
    clear f1 f2 f3
    go_enter Try.func7, Try.ntmps7
    go_wp2_with fail
    refine (fixed2_any _).mono ?_
    rintro e w1 ⟨rfl, h1⟩
    obtain ⟨c0, c1, hz, hB⟩ := keep2 (new2 w m s _) h1
    clear h1
    go_wp2_with fail
    refine (valid_any _ _ _).mono ?_
    rintro e w2 ⟨rfl, h2⟩
    obtain ⟨d0, d1, hy, hC⟩ := keep2 ⟨c0, c1, hz, hB⟩ h2
    clear h2 c0 c1 hz hB
    go_wp2_with fail
    refine (apply_any _ _ _ _).mono ?_
    rintro e w3 ⟨rfl, h3⟩
    rw [HV.out, HE.out]
    obtain ⟨c0, c1, hz, hB⟩ := keep2 ⟨d0, d1, hy, hC⟩ h3
    clear h3 d0 d1 hy hC
    go_wp2
    go_ret
    exact ⟨rfl, hB⟩
  · have n1 : (one == 1) = false := by simp; omega
    obtain ⟨D, hD⟩ : ∃ D, p - X = D := ⟨_, rfl⟩
    have dd1 : -1152921504606846976 ≤ D := by omega
    have dd2 : D ≤ 1152921504606846976 := by omega
    have t3 : D < 0 := by omega
    have t4 : (-D == hf) = true := by simp; omega
    have t5 : ¬ p < 0 := by omega
    have t6 : ¬ X < p := by omega
    have t7 : (p != 0) = true := by simp; omega
    clear f1 f2 f3 f4
    go_enter Try.func7, Try.ntmps7
    go_wp2_with fail
    refine (fixed2_any _).mono ?_
    rintro e w1 ⟨rfl, h1⟩
    obtain ⟨c0, c1, hz, hB⟩ := keep2 (new2 w m s _) h1
    clear h1
    go_wp2_with fail
    refine (valid_any _ _ _).mono ?_
    rintro e w2 ⟨rfl, h2⟩
    obtain ⟨d0, d1, hy, hC⟩ := keep2 ⟨c0, c1, hz, hB⟩ h2
    clear h2 c0 c1 hz hB
    go_wp2_with fail
    refine (apply_any _ _ _ _).mono ?_
    rintro e w3 ⟨rfl, h3⟩
    rw [HV.out, HE.out]
    obtain ⟨c0, c1, hz, hB⟩ := keep2 ⟨d0, d1, hy, hC⟩ h3
    clear h3 d0 d1 hy hC
    go_wp2
    go_ret
    exact ⟨rfl, hB⟩
  · have n1 : (one == 1) = false := by simp; omega
    obtain ⟨D, hD⟩ : ∃ D, p - X = D := ⟨_, rfl⟩
    have dd1 : -1152921504606846976 ≤ D := by omega
    have dd2 : D ≤ 1152921504606846976 := by omega
    have t3 : ¬ D < 0 := by omega
    have t4 : (D == hf) = false := by simp; omega
    have t5 : D < hf := by omega
    clear f1 f2 f3
    go_enter Try.func7, Try.ntmps7
    go_wp2_with fail
    refine (fixed2_any _).mono ?_
    rintro e w1 ⟨rfl, h1⟩
    obtain ⟨c0, c1, hz, hB⟩ := keep2 (new2 w m s _) h1
    clear h1
    go_wp2_with fail
    refine (valid_any _ _ _).mono ?_
    rintro e w2 ⟨rfl, h2⟩
    obtain ⟨d0, d1, hy, hC⟩ := keep2 ⟨c0, c1, hz, hB⟩ h2
    clear h2 c0 c1 hz hB
    go_wp2_with fail
    refine (apply_any _ _ _ _).mono ?_
    rintro e w3 ⟨rfl, h3⟩
    rw [HV.out, HE.out]
    obtain ⟨c0, c1, hz, hB⟩ := keep2 ⟨d0, d1, hy, hC⟩ h3
    clear h3 d0 d1 hy hC
    go_wp2
    go_ret
    exact ⟨rfl, hB⟩
  · have n1 : (one == 1) = false := by simp; omega
    obtain ⟨D, hD⟩ : ∃ D, p - X = D := ⟨_, rfl⟩
    have dd1 : -1152921504606846976 ≤ D := by omega
    have dd2 : D ≤ 1152921504606846976 := by omega
    have t3 : ¬ D < 0 := by omega
    have t4 : (D == hf) = true := by simp; omega
    have t5 : p < 0 := by omega
    have t6 : X < p := by omega
    have t7 : (p != 0) = true := by simp; omega
    clear f1 f2 f3 f4
    go_enter Try.func7, Try.ntmps7
    go_wp2_with fail
    refine (fixed2_any _).mono ?_
    rintro e w1 ⟨rfl, h1⟩
    obtain ⟨c0, c1, hz, hB⟩ := keep2 (new2 w m s _) h1
    clear h1
    go_wp2_with fail
    refine (valid_any _ _ _).mono ?_
    rintro e w2 ⟨rfl, h2⟩
    obtain ⟨d0, d1, hy, hC⟩ := keep2 ⟨c0, c1, hz, hB⟩ h2
    clear h2 c0 c1 hz hB
    go_wp2_with fail
    refine (apply_any _ _ _ _).mono ?_
    rintro e w3 ⟨rfl, h3⟩
    rw [HV.out, HE.out]
    obtain ⟨c0, c1, hz, hB⟩ := keep2 ⟨d0, d1, hy, hC⟩ h3
    clear h3 d0 d1 hy hC
    go_wp2
    go_ret
    exact ⟨rfl, hB⟩
theorem tdiv_of_size (p one : Int) : p.tdiv one = if p < 0 then -(sizeV p / one) else sizeV p / one := by
  unfold sizeV
  by_cases c : p < 0
  · rw [if_pos c, if_pos c, (tdiv_neg' p one c).1]
  · rw [if_neg c, if_neg c, Int.tdiv_eq_ediv_of_nonneg (by omega)]
theorem fixqNear_walk (a m s : Int) (w : World) (_w0 : (Lit.int .i64 a).wf = true) (_w1 : (Lit.int .i64 m).wf = true) (_w2 : (Lit.int .i64 s).wf = true) :
    Calls Try.prog 7 #[.int .i64 a, .agg #[.int .i64 m, .int .i64 s]] w fun e w' => e = .returned (.bool true) ∧ Below w.heap.size w w' := by
  by_cases c : scB m s = false ∨ a < -2147483648 ∨ 2147483648 ≤ a ∨ 60 < s
  · exact fixqNear_out a m s w c
  · have hs : scB m s = true := by
      cases h : scB m s
      · exact absurd (Or.inl h) c
      · rfl
    have l1 : ¬ a < -2147483648 := fun h => c (.inr (.inl h))
    have l2 : ¬ 2147483648 ≤ a := fun h => c (.inr (.inr (.inl h)))
    have l3 : ¬ 60 < s := fun h => c (.inr (.inr (.inr h)))
    have hm : 1 ≤ m ∧ m ≤ 2147483647 ∧ 0 ≤ s ∧ s ≤ 62 := by unfold scB at hs; simpa using hs
    obtain ⟨m1, m2, s1, s2⟩ := hm
    have ga : acB a = true := by unfold acB; simp; omega
    have HA := ap_ok a m s hs ga
    obtain ⟨p1, p2'⟩ := prod31 a m (by omega) (by omega) m1 m2
    have o1 := p2_pos s
    have o2 := p2_le60 s (by omega)
    have hh := p2_half s
    obtain ⟨Q, r, X, e1, e2, q0, q1, r0, r1, x0, hd⟩ := near_parts (a * m) (p2 s) o1
    have ht := tdiv_of_size (a * m) (p2 s)
    rw [e1] at ht
    by_cases cp : a * m < 0
    · have hr := rq_of_neg (a * m) (p2 s) cp
      have hz : sizeV (a * m) = -(a * m) := by unfold sizeV; rw [if_pos cp]
      rw [if_pos cp] at ht
      rw [hz] at e2 q1
      rcases hd with ⟨k1, k2, k3⟩ | ⟨k1, k2, k3⟩
      · refine fixqNear_in a m s (a * m) (p2 s) (-(Q + 1)) (-(X + p2 s)) (-Q) (p2 s / 2) w hs l1 l2 l3 s1 (by unfold Hid; rw [HA.1, hr, k2]) HA.2 rfl (by rw [Int.neg_mul, k3]) ht rfl rfl p1 p2' o1 o2 (by omega) (by omega) (by omega) (by omega) (by omega) (by omega) ?_
        generalize a * m = p at *
        generalize p2 s = one at *
        rcases hh with hh | ⟨h, h1, hh⟩ <;> omega
      · refine fixqNear_in a m s (a * m) (p2 s) (-Q) (-X) (-Q) (p2 s / 2) w hs l1 l2 l3 s1 (by unfold Hid; rw [HA.1, hr, k2]) HA.2 rfl (by rw [Int.neg_mul, k3]) ht rfl rfl p1 p2' o1 o2 (by omega) (by omega) (by omega) (by omega) (by omega) (by omega) ?_
        generalize a * m = p at *
        generalize p2 s = one at *
        rcases hh with hh | ⟨h, h1, hh⟩ <;> omega
    · have hr := rq_of_pos (a * m) (p2 s) cp
      have hz : sizeV (a * m) = a * m := by unfold sizeV; rw [if_neg cp]
      rw [if_neg cp] at ht
      rw [hz] at e2 q1
      rcases hd with ⟨k1, k2, k3⟩ | ⟨k1, k2, k3⟩
      · refine fixqNear_in a m s (a * m) (p2 s) (Q + 1) (X + p2 s) Q (p2 s / 2) w hs l1 l2 l3 s1 (by unfold Hid; rw [HA.1, hr, k2]) HA.2 rfl k3 ht rfl rfl p1 p2' o1 o2 (by omega) (by omega) (by omega) (by omega) (by omega) (by omega) ?_
        generalize a * m = p at *
        generalize p2 s = one at *
        rcases hh with hh | ⟨h, h1, hh⟩ <;> omega
      · refine fixqNear_in a m s (a * m) (p2 s) Q X Q (p2 s / 2) w hs l1 l2 l3 s1 (by unfold Hid; rw [HA.1, hr, k2]) HA.2 rfl k3 ht rfl rfl p1 p2' o1 o2 (by omega) (by omega) (by omega) (by omega) (by omega) (by omega) ?_
        generalize a * m = p at *
        generalize p2 s = one at *
        rcases hh with hh | ⟨h, h1, hh⟩ <;> omega
end Go.Proofs.Ytgkjhipddddaeaa
