/- What the document's answers for layer 2 return: each for every argument that fits its type. -/
import Derived.Test.YtgkjhipddddaeaaFixB
namespace Go.Proofs.Ytgkjhipddddaeaa
open Go.ChangeShapes Go.WideShapes Go.ChangeAt Go.RowKit
theorem p2_uwrap (n : Int) (h : n ≤ 62) : IntKind.u64.wrap (2 ^ n.toNat) = p2 n := by
  have h1 := p2_pos n
  have h2 := p2_le n h
  show IntKind.u64.wrap (p2 n) = p2 n
  rw [u64w]; omega
theorem hq_top (s d : Int) (h1 : 0 ≤ s) (h2 : s ≤ 9223372036854775808) : s / d ≤ 9223372036854775808 := by
  have := Int.ediv_le_self d h1
  omega
theorem half_any (s d : Int) (w : World) (h1 : 0 ≤ s) (h2 : s ≤ 9223372036854775808) (d1 : 1 ≤ d) (d2 : d ≤ 9223372036854775808) :
    Calls Try.prog 21 #[.int .u64 s, .int .u64 d] w fun e w' => e = .returned (.int .u64 (hq s d)) ∧ w' = w := by
  have hd0 : (d == 0) = false := by simp; omega
  have r0 := Int.emod_nonneg s (show d ≠ 0 by omega)
  have r1 := Int.emod_lt_of_pos s (show 0 < d by omega)
  have q0 := Int.ediv_nonneg h1 (show 0 ≤ d by omega)
  have q1 := hq_top s d h1 h2
  by_cases c2 : d ≤ 2 * (s % d)
  · have HH : Hid (hq s d = s / d + 1) := by unfold Hid hq; rw [if_pos c2]
    have c3 : d - s % d ≤ s % d := by omega
    clear c2
    go_enter Try.func21, Try.ntmps21
    go_wp2
    go_ret
    exact ⟨ret1 (by rw [HH.out]), rfl⟩
  · have HH : Hid (hq s d = s / d) := by unfold Hid hq; rw [if_neg c2]
    have c3 : ¬ d - s % d ≤ s % d := by omega
    clear c2
    go_enter Try.func21, Try.ntmps21
    go_wp2
    go_ret
    exact ⟨ret1 (by rw [HH.out]), rfl⟩
theorem back_neg (p : Int) (w : World) (h1 : 0 ≤ p) (h2 : p ≤ 9223372036854775808) :
    Calls Try.prog 20 #[.int .u64 p, .bool true] w fun e w' => e = .returned (.int .i64 (-p)) ∧ w' = w := by
  go_enter Try.func20, Try.ntmps20
  go_wp2_with fail
  refine (signed_neg _ _ h1 h2).mono ?_
  rintro e w' ⟨rfl, rfl⟩
  go_wp2
  go_ret
  exact ⟨rfl, rfl⟩
theorem back_pos (p : Int) (w : World) (h1 : 0 ≤ p) (h2 : p < 9223372036854775808) :
    Calls Try.prog 20 #[.int .u64 p, .bool false] w fun e w' => e = .returned (.int .i64 p) ∧ w' = w := by
  go_enter Try.func20, Try.ntmps20
  go_wp2_with fail
  refine (signed_pos _ _ h1 h2).mono ?_
  rintro e w' ⟨rfl, rfl⟩
  go_wp2
  go_ret
  exact ⟨rfl, rfl⟩
theorem rq_of_neg (x d : Int) (c : x < 0) : rq x d = -(hq (sizeV x) d) := by unfold rq sizeV; rw [if_pos c, if_pos c]
theorem rq_of_pos (x d : Int) (c : ¬ x < 0) : rq x d = hq (sizeV x) d := by unfold rq sizeV; rw [if_neg c, if_neg c]
theorem size_pos_lt (x : Int) (h : I64 x) (c : ¬ x < 0) : sizeV x < 9223372036854775808 := by unfold sizeV; rw [if_neg c]; unfold I64 at h; omega
theorem hq_lt (s d t : Int) (h : 0 ≤ s) (hd : 1 ≤ d) (ht : s < t) : hq s d < t := by have := hq_bd s d h hd; omega
theorem refshift_any (x n : Int) (w : World) (hx : I64 x) :
    Calls Try.prog 15 #[.int .i64 x, .int .i64 n] w fun e w' => e = .returned (.tuple #[.int .i64 (shV x n), .int .i64 (shE n)]) ∧ w' = w := by
  cases hb : shB n with
  | true =>
    have HV : Hid (shV x n = rq x (p2 n)) := by unfold Hid shV; rw [if_pos hb]
    have HE : Hid (shE n = 0) := by unfold Hid shE; rw [if_pos hb]
    rw [HV.out, HE.out]
    have hn : 0 ≤ n ∧ n ≤ 62 := by unfold shB at hb; simpa using hb
    obtain ⟨n1, n2⟩ := hn
    have h1 := p2_pos n
    have h2 := p2_le n n2
    have HP : Hid (IntKind.u64.wrap (2 ^ n.toNat) = p2 n) := p2_uwrap n n2
    obtain ⟨s1, s2⟩ := sizeV_bd x hx
    have n3 : ¬ n < 0 := by omega
    have n4 : ¬ 62 < n := by omega
    by_cases c : x < 0
    · have HQ : Hid (rq x (p2 n) = -(hq (sizeV x) (p2 n))) := rq_of_neg _ _ c
      have hq1 := hq_bd (sizeV x) (p2 n) s1 h1
      go_enter Try.func15, Try.ntmps15
      go_wp2_with fail
      refine (size_any _ _ hx).mono ?_
      rintro e w' ⟨rfl, rfl⟩
      go_wp2_with fail
      rw [HP.out]
      refine (half_any _ _ _ s1 s2 h1 (by omega)).mono ?_
      rintro e w' ⟨rfl, rfl⟩
      go_wp2_with fail
      refine (back_neg _ _ hq1.1 (by omega)).mono ?_
      rintro e w' ⟨rfl, rfl⟩
      go_wp2
      go_ret2
      exact ⟨ret2 HQ.out.symm rfl, rfl⟩
    · have HQ : Hid (rq x (p2 n) = hq (sizeV x) (p2 n)) := rq_of_pos _ _ c
      have hq1 := hq_bd (sizeV x) (p2 n) s1 h1
      have hl := size_pos_lt x hx c
      have qc : decide (x < 0) = false := by simp; omega
      go_enter Try.func15, Try.ntmps15
      go_wp2_with fail
      refine (size_any _ _ hx).mono ?_
      rintro e w' ⟨rfl, rfl⟩
      go_wp2_with fail
      rw [HP.out]
      refine (half_any _ _ _ s1 s2 h1 (by omega)).mono ?_
      rintro e w' ⟨rfl, rfl⟩
      go_wp2_with fail
      refine (back_pos _ _ hq1.1 (by omega)).mono ?_
      rintro e w' ⟨rfl, rfl⟩
      go_wp2
      go_ret2
      exact ⟨ret2 HQ.out.symm rfl, rfl⟩
  | false =>
    have HV : Hid (shV x n = 0) := by unfold Hid shV; rw [hb, if_neg (by decide)]
    have HE : Hid (shE n = 20) := by unfold Hid shE; rw [hb, if_neg (by decide)]
    rw [HV.out, HE.out]
    have hn : ¬ (0 ≤ n ∧ n ≤ 62) := by unfold shB at hb; simpa using hb
    clear hb hx
    by_cases c : n < 0
    all_goals
      try have c' : 62 < n := by omega
      clear hn
      go_enter Try.func15, Try.ntmps15
      go_wp2
      go_ret2
      exact ⟨rfl, rfl⟩
theorem refmean_any (x n : Int) (w : World) (hx : I64 x) (hn : I64 n) :
    Calls Try.prog 17 #[.int .i64 x, .int .i64 n] w fun e w' => e = .returned (.tuple #[.int .i64 (meV x n), .int .i64 (meE n)]) ∧ w' = w := by
  obtain ⟨n1, n2⟩ := hn
  by_cases k : n < 1
  · have HV : Hid (meV x n = 0) := if_pos k
    have HE : Hid (meE n = 2) := if_pos k
    rw [HV.out, HE.out]
    go_enter Try.func17, Try.ntmps17
    go_wp2
    go_ret2
    exact ⟨rfl, rfl⟩
  · have HV : Hid (meV x n = rq x n) := if_neg k
    have HE : Hid (meE n = 0) := if_neg k
    rw [HV.out, HE.out]
    have h1 : 1 ≤ n := by omega
    obtain ⟨s1, s2⟩ := sizeV_bd x hx
    by_cases c : x < 0
    · have HQ : Hid (rq x n = -(hq (sizeV x) n)) := rq_of_neg _ _ c
      have hq1 := hq_bd (sizeV x) n s1 h1
      go_enter Try.func17, Try.ntmps17
      go_wp2_with fail
      refine (size_any _ _ hx).mono ?_
      rintro e w' ⟨rfl, rfl⟩
      go_wp2_with fail
      refine (half_any _ _ _ s1 s2 h1 (by omega)).mono ?_
      rintro e w' ⟨rfl, rfl⟩
      go_wp2_with fail
      refine (back_neg _ _ hq1.1 (by omega)).mono ?_
      rintro e w' ⟨rfl, rfl⟩
      go_wp2
      go_ret2
      exact ⟨ret2 HQ.out.symm rfl, rfl⟩
    · have HQ : Hid (rq x n = hq (sizeV x) n) := rq_of_pos _ _ c
      have hq1 := hq_bd (sizeV x) n s1 h1
      have hl := size_pos_lt x hx c
      have qc : decide (x < 0) = false := by simp; omega
      go_enter Try.func17, Try.ntmps17
      go_wp2_with fail
      refine (size_any _ _ hx).mono ?_
      rintro e w' ⟨rfl, rfl⟩
      go_wp2_with fail
      refine (half_any _ _ _ s1 s2 h1 (by omega)).mono ?_
      rintro e w' ⟨rfl, rfl⟩
      go_wp2_with fail
      refine (back_pos _ _ hq1.1 (by omega)).mono ?_
      rintro e w' ⟨rfl, rfl⟩
      go_wp2
      go_ret2
      exact ⟨ret2 HQ.out.symm rfl, rfl⟩
theorem refvalid_any (m s : Int) (w : World) :
    Calls Try.prog 13 #[.int .i64 m, .int .i64 s] w fun e w' => e = .returned (.bool (scB m s)) ∧ w' = w := by
  by_cases c1 : 1 ≤ m
  · by_cases c2 : m ≤ 2147483647
    · by_cases c3 : 0 ≤ s
      · have HR : Hid (decide (s ≤ 62) = scB m s) := by unfold Hid scB; simp [c1, c2, c3]
        go_enter Try.func13, Try.ntmps13
        go_wp2
        go_ret
        exact ⟨retB HR.out, rfl⟩
      · have HR : Hid (false = scB m s) := by unfold Hid scB; simp [c3]
        go_enter Try.func13, Try.ntmps13
        go_wp2
        go_ret
        exact ⟨retB HR.out, rfl⟩
    · have HR : Hid (false = scB m s) := by unfold Hid scB; simp [c2]
      go_enter Try.func13, Try.ntmps13
      go_wp2
      go_ret
      exact ⟨retB HR.out, rfl⟩
  · have HR : Hid (false = scB m s) := by unfold Hid scB; simp [c1]
    go_enter Try.func13, Try.ntmps13
    go_wp2
    go_ret
    exact ⟨retB HR.out, rfl⟩
theorem sizeV_times (a m : Int) (hm : 1 ≤ m) : sizeV (a * m) = sizeV a * m ∧ (a * m < 0 ↔ a < 0) := by
  have hi : a * m < 0 ↔ a < 0 := by
    constructor
    · intro h
      refine Int.not_le.1 fun hh => ?_
      have := Int.mul_nonneg hh (show 0 ≤ m by omega)
      omega
    · intro h
      have := Int.mul_le_mul_of_nonneg_left hm (show 0 ≤ -a by omega)
      rw [Int.neg_mul, Int.neg_mul] at this
      omega
  refine ⟨?_, hi⟩
  unfold sizeV
  by_cases h : a < 0
  · rw [if_pos h, if_pos (hi.2 h), Int.neg_mul]
  · rw [if_neg h, if_neg (fun g => h (hi.1 g))]
theorem refapply_any (a m s : Int) (w : World) (hia : I64 a) :
    Calls Try.prog 10 #[.int .i64 a, .int .i64 m, .int .i64 s] w fun e w' => e = .returned (.tuple #[.int .i64 (apV a m s), .int .i64 (apE a m s)]) ∧ w' = w := by
  cases hs : scB m s with
  | false =>
    have HV : Hid (apV a m s = 0) := by unfold Hid apV; rw [hs, if_neg (by decide)]
    have HE : Hid (apE a m s = 20) := by unfold Hid apE; rw [hs, if_neg (by decide)]
    rw [HV.out, HE.out]
    go_enter Try.func10, Try.ntmps10
    go_wp2_with fail
    refine (refvalid_any _ _ _).mono ?_
    rintro e w' ⟨rfl, rfl⟩
    go_wp2
    go_ret2
    exact ⟨rfl, rfl⟩
  | true =>
    cases ha : acB a with
    | false =>
      have HV : Hid (apV a m s = 0) := by unfold Hid apV; rw [hs, if_pos rfl, ha, if_neg (by decide)]
      have HE : Hid (apE a m s = 10) := by unfold Hid apE; rw [hs, if_pos rfl, ha, if_neg (by decide)]
      rw [HV.out, HE.out]
      have hn : ¬ (-4294967296 ≤ a ∧ a ≤ 4294967296) := by unfold acB at ha; simpa using ha
      by_cases c : a < -4294967296
      all_goals
        try have c' : 4294967296 < a := by omega
        clear hn
        go_enter Try.func10, Try.ntmps10
        go_wp2_with fail
        refine (refvalid_any _ _ _).mono ?_
        rintro e w' ⟨rfl, rfl⟩
        go_wp2
        go_ret2
        exact ⟨rfl, rfl⟩
    | true =>
      have HV : Hid (apV a m s = rq (a * m) (p2 s)) := by unfold Hid apV; rw [hs, if_pos rfl, ha, if_pos rfl]
      have HE : Hid (apE a m s = 0) := by unfold Hid apE; rw [hs, if_pos rfl, ha, if_pos rfl]
      rw [HV.out, HE.out]
      have hn : -4294967296 ≤ a ∧ a ≤ 4294967296 := by unfold acB at ha; simpa using ha
      have hm : 1 ≤ m ∧ m ≤ 2147483647 ∧ 0 ≤ s ∧ s ≤ 62 := by unfold scB at hs; simpa using hs
      obtain ⟨a1, a2⟩ := hn
      obtain ⟨m1, m2, s1, s2⟩ := hm
      have hp := prod_bd a m a1 a2 m1 m2
      have hi : I64 (a * m) := by unfold I64; omega
      obtain ⟨HT, hneg⟩ := sizeV_times a m m1
      obtain ⟨t1, t2⟩ := sizeV_bd (a * m) hi
      obtain ⟨b1, b2⟩ := sizeV_bd a hia
      have h1 := p2_pos s
      have h2 := p2_le s s2
      have HP : Hid (IntKind.u64.wrap (2 ^ s.toNat) = p2 s) := p2_uwrap s s2
      have n3 : ¬ a < -4294967296 := by omega
      have n4 : ¬ 4294967296 < a := by omega
      have hq1 := hq_bd (sizeV (a * m)) (p2 s) t1 h1
      by_cases c : a < 0
      · have HQ : Hid (rq (a * m) (p2 s) = -(hq (sizeV a * m) (p2 s))) := by unfold Hid; rw [rq_of_neg _ _ (hneg.2 c), HT]
        rw [HT] at t1 t2 hq1
        clear HT hneg hp hi
        go_enter Try.func10, Try.ntmps10
        go_wp2_with fail
        refine (refvalid_any _ _ _).mono ?_
        rintro e w' ⟨rfl, rfl⟩
        go_wp2_with fail
        refine (size_any _ _ hia).mono ?_
        rintro e w' ⟨rfl, rfl⟩
        go_wp2_with fail
        rw [HP.out]
        refine (half_any _ _ _ t1 t2 h1 (by omega)).mono ?_
        rintro e w' ⟨rfl, rfl⟩
        go_wp2_with fail
        refine (back_neg _ _ hq1.1 (by omega)).mono ?_
        rintro e w' ⟨rfl, rfl⟩
        go_wp2
        go_ret2
        exact ⟨ret2 HQ.out.symm rfl, rfl⟩
      · have HQ : Hid (rq (a * m) (p2 s) = hq (sizeV a * m) (p2 s)) := by unfold Hid; rw [rq_of_pos _ _ (fun g => c (hneg.1 g)), HT]
        have hl := size_pos_lt (a * m) hi (fun g => c (hneg.1 g))
        rw [HT] at t1 t2 hq1 hl
        have qc : decide (a < 0) = false := by simp; omega
        clear HT hneg hp hi
        go_enter Try.func10, Try.ntmps10
        go_wp2_with fail
        refine (refvalid_any _ _ _).mono ?_
        rintro e w' ⟨rfl, rfl⟩
        go_wp2_with fail
        refine (size_any _ _ hia).mono ?_
        rintro e w' ⟨rfl, rfl⟩
        go_wp2_with fail
        rw [HP.out]
        refine (half_any _ _ _ t1 t2 h1 (by omega)).mono ?_
        rintro e w' ⟨rfl, rfl⟩
        go_wp2_with fail
        refine (back_pos _ _ hq1.1 (by omega)).mono ?_
        rintro e w' ⟨rfl, rfl⟩
        go_wp2
        go_ret2
        exact ⟨ret2 HQ.out.symm rfl, rfl⟩
theorem refclamp_any (x lo hi : Int) (w : World) :
    Calls Try.prog 27 #[.int .i64 x, .int .i64 lo, .int .i64 hi] w fun e w' => e = .returned (.int .i64 (clampV x lo hi)) ∧ w' = w := by
  unfold clampV
  by_cases h : hi < x
  · rw [if_pos h]
    go_enter Try.func27, Try.ntmps27
    go_wp2
    go_ret
    exact ⟨rfl, rfl⟩
  · rw [if_neg h]
    by_cases g : x < lo
    · rw [if_pos g]
      go_enter Try.func27, Try.ntmps27
      go_wp2
      go_ret
      exact ⟨rfl, rfl⟩
    · rw [if_neg g]
      go_enter Try.func27, Try.ntmps27
      go_wp2
      go_ret
      exact ⟨rfl, rfl⟩
theorem reffinish_any (v z lo hi : Int) (w : World) :
    Calls Try.prog 19 #[.int .i64 v, .int .i64 z, .int .i64 lo, .int .i64 hi] w fun e w' => e = .returned (.tuple #[.int .i64 (fiV v z lo hi), .int .i64 (fiE z lo hi)]) ∧ w' = w := by
  cases hb : fiB z lo hi with
  | true =>
    have HV : Hid (fiV v z lo hi = clampV (v + z) lo hi) := by unfold Hid fiV; rw [if_pos hb]
    have HE : Hid (fiE z lo hi = 0) := by unfold Hid fiE; rw [if_pos hb]
    rw [HV.out, HE.out]
    have hn : -128 ≤ lo ∧ lo ≤ hi ∧ hi ≤ 127 ∧ -128 ≤ z ∧ z ≤ 127 := by unfold fiB at hb; simpa using hb
    obtain ⟨n1, n2, n3, n4, n5⟩ := hn
    have v1 : ¬ lo < -128 := by omega
    have v2 : ¬ hi < lo := by omega
    have v3 : ¬ 127 < hi := by omega
    have v4 : ¬ z < -128 := by omega
    have v5 : ¬ 127 < z := by omega
    clear hb
    by_cases c1 : 1000 < v
    · have HM : Hid (clampV (v + z) lo hi = hi) := by unfold Hid clampV; rw [if_pos (by omega)]
      rw [HM.out]
      go_enter Try.func19, Try.ntmps19
      go_wp2
      go_ret2
      exact ⟨rfl, rfl⟩
    · by_cases c2 : v < -1000
      · have HM : Hid (clampV (v + z) lo hi = lo) := by unfold Hid clampV; rw [if_neg (by omega), if_pos (by omega)]
        rw [HM.out]
        go_enter Try.func19, Try.ntmps19
        go_wp2
        go_ret2
        exact ⟨rfl, rfl⟩
      · obtain ⟨k1, k2⟩ := clamp_in_ends (v + z) lo hi n2
        go_enter Try.func19, Try.ntmps19
        go_wp2_with fail
        refine (refclamp_any _ _ _ _).mono ?_
        rintro e w' ⟨rfl, rfl⟩
        go_wp2
        go_ret2
        exact ⟨rfl, rfl⟩
  | false =>
    have HV : Hid (fiV v z lo hi = 0) := by unfold Hid fiV; rw [hb, if_neg (by decide)]
    have HE : Hid (fiE z lo hi = 85) := by unfold Hid fiE; rw [hb, if_neg (by decide)]
    rw [HV.out, HE.out]
    have hn : ¬ (-128 ≤ lo ∧ lo ≤ hi ∧ hi ≤ 127 ∧ -128 ≤ z ∧ z ≤ 127) := by unfold fiB at hb; simpa using hb
    clear hb
    by_cases v1 : lo < -128
    · clear hn
      go_enter Try.func19, Try.ntmps19
      go_wp2
      go_ret2
      exact ⟨rfl, rfl⟩
    · by_cases v2 : hi < lo
      · clear hn
        go_enter Try.func19, Try.ntmps19
        go_wp2
        go_ret2
        exact ⟨rfl, rfl⟩
      · by_cases v3 : 127 < hi
        · clear hn
          go_enter Try.func19, Try.ntmps19
          go_wp2
          go_ret2
          exact ⟨rfl, rfl⟩
        · by_cases v4 : z < -128
          all_goals
            try have v5 : 127 < z := by omega
            clear hn
            go_enter Try.func19, Try.ntmps19
            go_wp2
            go_ret2
            exact ⟨rfl, rfl⟩
theorem fixed2_any (w : World) :
    Calls Try.prog 11 #[] w fun e w' => e = .returned (.bool true) ∧ Below w.heap.size w w' := by
  have A1 : Hid (apV (-10) 3 2 = -8) := by unfold Hid; decide
  have A2 : Hid (apE (-10) 3 2 = 0) := by unfold Hid; decide
  have B1 : Hid (meV 7 4 = 2) := by unfold Hid; decide
  have B2 : Hid (meE 4 = 0) := by unfold Hid; decide
  have C1 : Hid (fiV (-5) 3 0 127 = 0) := by unfold Hid; decide
  have C2 : Hid (fiE 3 0 127 = 0) := by unfold Hid; decide
  have D1 : Hid (shV 7 63 = 0) := by unfold Hid; decide
  have D2 : Hid (shE 63 = 20) := by unfold Hid; decide
  go_enter Try.func11, Try.ntmps11
  go_wp2_with fail
  refine (apply_any _ _ _ _).mono ?_
  rintro e w1 ⟨rfl, h1⟩
  rw [A1.out, A2.out]
  go_wp2_with fail
  refine (mean_any _ _ _ (by unfold I64; omega) (by unfold I64; omega)).mono ?_
  rintro e w2 ⟨rfl, h2⟩
  rw [B1.out, B2.out]
  go_wp2_with fail
  refine (finish_any _ _ _ _ _).mono ?_
  rintro e w' ⟨rfl, rfl⟩
  rw [C1.out, C2.out]
  go_wp2_with fail
  refine (shift_any _ _ _ (by unfold I64; omega)).mono ?_
  rintro e w3 ⟨rfl, h3⟩
  rw [D1.out, D2.out]
  go_wp2
  go_ret
  exact ⟨rfl, h1.trans ((h2.mono h1.size).trans (h3.mono (Nat.le_trans h1.size h2.size)))⟩
end Go.Proofs.Ytgkjhipddddaeaa
