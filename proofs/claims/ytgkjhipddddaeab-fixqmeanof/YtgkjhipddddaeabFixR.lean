/- The walk of FixqMeanOf: it returns true for every argument that fits its type. -/
import Derived.Test.YtgkjhipddddaeabFixC
import Derived.Test.YtgkjhipddddaeabFixN
namespace Go.Proofs.Ytgkjhipddddaeab
open Go.ChangeShapes Go.WideShapes Go.ChangeAt Go.RowKit
theorem rq_about (x d : Int) (hd : 1 ≤ d) : ∃ T, x.tdiv d = T ∧ -(sizeV x) ≤ T ∧ T ≤ sizeV x ∧ T - 1 ≤ rq x d ∧ rq x d ≤ T + 1 := by
  have hs : 0 ≤ sizeV x := by unfold sizeV; split <;> omega
  obtain ⟨Q, r, e, hX, q0, q1, r0, r1, h⟩ := hq_parts (sizeV x) d hs hd
  by_cases c : x < 0
  · have hz : sizeV x = -x := by unfold sizeV; rw [if_pos c]
    have hr := rq_of_neg x d c
    have ht := (tdiv_neg' x d c).1
    rw [← hz, e] at ht
    refine ⟨-Q, ht, ?_⟩
    rcases h with ⟨_, h⟩ | ⟨_, h⟩ <;> omega
  · have hz : sizeV x = x := by unfold sizeV; rw [if_neg c]
    have hr := rq_of_pos x d c
    have ht := Int.tdiv_eq_ediv_of_nonneg (a := x) (b := d) (by omega)
    rw [hz] at e
    rw [e] at ht
    refine ⟨Q, ht, ?_⟩
    rcases h with ⟨_, h⟩ | ⟨_, h⟩ <;> omega
theorem prod_small (x n : Int) (x1 : -1099511627776 ≤ x) (x2 : x ≤ 1099511627776) (n1 : 1 ≤ n) (n2 : n ≤ 1048576) : -1152921504606846976 ≤ x * n ∧ x * n ≤ 1152921504606846976 := by
  have h1 := Int.mul_le_mul_of_nonneg_right x1 (show 0 ≤ n by omega)
  have h2 := Int.mul_le_mul_of_nonneg_right x2 (show 0 ≤ n by omega)
  omega
theorem p2_le60' (n : Int) (h : n ≤ 60) : p2 n ≤ 1152921504606846976 := by
  rw [p2_nat]
  have := Nat.pow_le_pow_right (show 0 < 2 by omega) (show n.toNat ≤ 60 by omega)
  omega
set_option maxHeartbeats 2000000 in
theorem fixqMeanOf_out (x n k : Int) (w : World) (hx : I64 x) (c : ¬ (1 ≤ n ∧ n ≤ 1048576 ∧ -1099511627776 ≤ x ∧ x ≤ 1099511627776)) :
    Calls Try.prog 3 #[.int .i64 x, .int .i64 n, .int .i64 k] w fun e w' => e = .returned (.bool true) ∧ Below w.heap.size w w' := by
  have cc : (¬ 1 ≤ n) ∨ (1 ≤ n ∧ ¬ n ≤ 1048576) ∨ (1 ≤ n ∧ n ≤ 1048576 ∧ ¬ -1099511627776 ≤ x) ∨ (1 ≤ n ∧ n ≤ 1048576 ∧ -1099511627776 ≤ x ∧ ¬ x ≤ 1099511627776) := by omega
  clear c
  by_cases k1 : k < 0
  · rcases cc with h | ⟨g1, h⟩ | ⟨g1, g2, h⟩ | ⟨g1, g2, g3, h⟩
    all_goals
      go_enter Try.func3, Try.ntmps3
      go_wp2_with fail
      refine (fixed2_any _).mono ?_
      rintro e w1 ⟨rfl, h1⟩
      go_wp2
      go_ret
      exact ⟨rfl, h1⟩
  · by_cases k2 : 60 < k
    · rcases cc with h | ⟨g1, h⟩ | ⟨g1, g2, h⟩ | ⟨g1, g2, g3, h⟩
      all_goals
        go_enter Try.func3, Try.ntmps3
        go_wp2_with fail
        refine (fixed2_any _).mono ?_
        rintro e w1 ⟨rfl, h1⟩
        go_wp2
        go_ret
        exact ⟨rfl, h1⟩
    · have k3 : 0 ≤ k := by omega
      have HP : Hid (wrap64 (2 ^ k.toNat) = p2 k) := p2_wrap k (by omega)
      have o1 := p2_pos k
      have o2 := p2_le60' k (by omega)
      have HV : Hid (shV x k = rq x (p2 k)) := by unfold Hid shV shB; rw [if_pos (by simp; omega)]
      have HE : Hid (shE k = 0) := by unfold Hid shE shB; rw [if_pos (by simp; omega)]
      have HM : Hid (meV x (p2 k) = rq x (p2 k)) := if_neg (by omega)
      have HN : Hid (meE (p2 k) = 0) := if_neg (by omega)
      rcases cc with h | ⟨g1, h⟩ | ⟨g1, g2, h⟩ | ⟨g1, g2, g3, h⟩
      all_goals
        go_enter Try.func3, Try.ntmps3
        go_wp2_with fail
        refine (fixed2_any _).mono ?_
        rintro e w1 ⟨rfl, h1⟩
        go_wp2_with fail
        refine (shift_any _ _ _ hx).mono ?_
        rintro e w2 ⟨rfl, h2⟩
        rw [HV.out, HE.out]
        go_wp2_with fail
        rw [HP.out]
        refine (mean_any _ _ _ hx (by unfold I64; omega)).mono ?_
        rintro e w3 ⟨rfl, h3⟩
        rw [HM.out, HN.out]
        go_wp2
        go_ret
        exact ⟨rfl, h1.trans ((h2.mono h1.size).trans (h3.mono (Nat.le_trans h1.size h2.size)))⟩
set_option maxHeartbeats 2000000 in
theorem fixqMeanOf_in (x n k : Int) (w : World) (n1 : 1 ≤ n) (n2 : n ≤ 1048576) (x1 : -1099511627776 ≤ x) (x2 : x ≤ 1099511627776) :
    Calls Try.prog 3 #[.int .i64 x, .int .i64 n, .int .i64 k] w fun e w' => e = .returned (.bool true) ∧ Below w.heap.size w w' := by
  have hx : I64 x := by unfold I64; omega
  have hn : I64 n := by unfold I64; omega
  have n0 : (n == 0) = false := by simp; omega
  have hp := prod_small x n x1 x2 n1 n2
  have M1 : Hid (meV (x * n) n = x) := by unfold Hid meV; rw [if_neg (by omega)]; exact rq_times x n n1
  have M2 : Hid (meE n = 0) := if_neg (by omega)
  have M3 : Hid (meV x n = rq x n) := if_neg (by omega)
  obtain ⟨T, hT, t1, t2, t3, t4⟩ := rq_about x n n1
  have hsz : sizeV x ≤ 1099511627776 := by unfold sizeV; split <;> omega
  obtain ⟨q, hq'⟩ : ∃ q, rq x n = q := ⟨_, rfl⟩
  rw [hq'] at M3 t3 t4
  have u1 : ¬ 1 < q - T := by omega
  have u2 : ¬ 1 < T - q := by omega
  have u3 : -1099511627777 ≤ T := by omega
  have u4 : T ≤ 1099511627777 := by omega
  have u5 : -1099511627778 ≤ q := by omega
  have u6 : q ≤ 1099511627778 := by omega
  obtain ⟨P, hP⟩ : ∃ P, x * n = P := ⟨_, rfl⟩
  rw [hP] at hp M1
  obtain ⟨p1, p2'⟩ := hp
  have hPi : I64 P := by unfold I64; omega
  clear hq' t1 t2 hsz
  by_cases k1 : k < 0
  · go_enter Try.func3, Try.ntmps3
    go_wp2_with fail
    refine (fixed2_any _).mono ?_
    rintro e w1 ⟨rfl, h1⟩
    go_wp2_with fail
    refine (mean_any _ _ _ hPi hn).mono ?_
    rintro e w2 ⟨rfl, h2⟩
    rw [M1.out, M2.out]
    go_wp2_with fail
    refine (mean_any _ _ _ hx hn).mono ?_
    rintro e w3 ⟨rfl, h3⟩
    rw [M3.out, M2.out]
    go_wp2
    go_ret
    exact ⟨rfl, h1.trans ((h2.mono h1.size).trans (h3.mono (Nat.le_trans h1.size h2.size)))⟩
  · by_cases k2 : 60 < k
    · go_enter Try.func3, Try.ntmps3
      go_wp2_with fail
      refine (fixed2_any _).mono ?_
      rintro e w1 ⟨rfl, h1⟩
      go_wp2_with fail
      refine (mean_any _ _ _ hPi hn).mono ?_
      rintro e w2 ⟨rfl, h2⟩
      rw [M1.out, M2.out]
      go_wp2_with fail
      refine (mean_any _ _ _ hx hn).mono ?_
      rintro e w3 ⟨rfl, h3⟩
      rw [M3.out, M2.out]
      go_wp2
      go_ret
      exact ⟨rfl, h1.trans ((h2.mono h1.size).trans (h3.mono (Nat.le_trans h1.size h2.size)))⟩
    · have k3 : 0 ≤ k := by omega
      have HP : Hid (wrap64 (2 ^ k.toNat) = p2 k) := p2_wrap k (by omega)
      have o1 := p2_pos k
      have o2 := p2_le60' k (by omega)
      have HV : Hid (shV x k = rq x (p2 k)) := by unfold Hid shV shB; rw [if_pos (by simp; omega)]
      have HE : Hid (shE k = 0) := by unfold Hid shE shB; rw [if_pos (by simp; omega)]
      have HM : Hid (meV x (p2 k) = rq x (p2 k)) := if_neg (by omega)
      have HN : Hid (meE (p2 k) = 0) := if_neg (by omega)
      go_enter Try.func3, Try.ntmps3
      go_wp2_with fail
      refine (fixed2_any _).mono ?_
      rintro e w1 ⟨rfl, h1⟩
      go_wp2_with fail
      refine (mean_any _ _ _ hPi hn).mono ?_
      rintro e w2 ⟨rfl, h2⟩
      rw [M1.out, M2.out]
      go_wp2_with fail
      refine (mean_any _ _ _ hx hn).mono ?_
      rintro e w3 ⟨rfl, h3⟩
      rw [M3.out, M2.out]
      go_wp2_with fail
      refine (shift_any _ _ _ hx).mono ?_
      rintro e w4 ⟨rfl, h4⟩
      rw [HV.out, HE.out]
      go_wp2_with fail
      rw [HP.out]
      refine (mean_any _ _ _ hx (by unfold I64; omega)).mono ?_
      rintro e w5 ⟨rfl, h5⟩
      rw [HM.out, HN.out]
      have b3 := h1.trans ((h2.mono h1.size).trans (h3.mono (Nat.le_trans h1.size h2.size)))
      have b4 := b3.trans (h4.mono b3.size)
      have b5 := b4.trans (h5.mono b4.size)
      go_wp2
      go_ret
      exact ⟨rfl, b5⟩
theorem fixqMeanOf_walk (x n k : Int) (w : World) (w0 : (Lit.int .i64 x).wf = true) (_w1 : (Lit.int .i64 n).wf = true) (_w2 : (Lit.int .i64 k).wf = true) :
    Calls Try.prog 3 #[.int .i64 x, .int .i64 n, .int .i64 k] w fun e w' => e = .returned (.bool true) ∧ Below w.heap.size w w' := by
  by_cases c : 1 ≤ n ∧ n ≤ 1048576 ∧ -1099511627776 ≤ x ∧ x ≤ 1099511627776
  · exact fixqMeanOf_in x n k w c.1 c.2.1 c.2.2.1 c.2.2.2
  · exact fixqMeanOf_out x n k w (I64_of_wf w0) c
end Go.Proofs.Ytgkjhipddddaeab
