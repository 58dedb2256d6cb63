/- What the document's answers for layer 2 return: each for every argument that fits its type. -/
import Derived.Test.YtdpfnlefaegmeaaFixB
import Derived.Test.YtdpfnlefaegmeaaNumC
namespace Go.Proofs.Ytdpfnlefaegmeaa
open Go.ChangeShapes Go.WideShapes Go.ChangeAt Go.RowKit
theorem p2_uwrap (n : Int) (h : n ≤ 62) : IntKind.u64.wrap (2 ^ n.toNat) = p2 n := by
  have h1 := p2_pos n
  have h2 := p2_le n h
  show IntKind.u64.wrap (p2 n) = p2 n
  rw [u64w]; omega
theorem hq_top (s d : Int) (h1 : 0 ≤ s) (h2 : s ≤ 9223372036854775808) : s / d ≤ 9223372036854775808 := by
  have := Int.ediv_le_self d h1
  omega
theorem half_any (s d : Int) (w : World) (h1 : 0 ≤ s) (h2 : s ≤ 9223372036854775808) (d1 : 1 ≤ d) (d2 : d ≤ 9223372036854775808) :
    Calls Try.prog 49 #[.int .u64 s, .int .u64 d] w fun e w' => e = .returned (.int .u64 (hq s d)) ∧ w' = w := by
  have hd0 : (d == 0) = false := by simp; omega
  have r0 := Int.emod_nonneg s (show d ≠ 0 by omega)
  have r1 := Int.emod_lt_of_pos s (show 0 < d by omega)
  have q0 := Int.ediv_nonneg h1 (show 0 ≤ d by omega)
  have q1 := hq_top s d h1 h2
  by_cases c2 : d ≤ 2 * (s % d)
  · have HH : Hid (hq s d = s / d + 1) := by unfold Hid hq; rw [if_pos c2]
    have c3 : d - s % d ≤ s % d := by omega
    clear c2
    go_enter Try.func49, Try.ntmps49
    go_wp2
    go_ret
    exact ⟨ret1 (by rw [HH.out]), rfl⟩
  · have HH : Hid (hq s d = s / d) := by unfold Hid hq; rw [if_neg c2]
    have c3 : ¬ d - s % d ≤ s % d := by omega
    clear c2
    go_enter Try.func49, Try.ntmps49
    go_wp2
    go_ret
    exact ⟨ret1 (by rw [HH.out]), rfl⟩
theorem back_neg (p : Int) (w : World) (h1 : 0 ≤ p) (h2 : p ≤ 9223372036854775808) :
    Calls Try.prog 48 #[.int .u64 p, .bool true] w fun e w' => e = .returned (.int .i64 (-p)) ∧ w' = w := by
  go_enter Try.func48, Try.ntmps48
  go_wp2_with fail
  refine (signed_neg _ _ h1 h2).mono ?_
  rintro e w' ⟨rfl, rfl⟩
  go_wp2
  go_ret
  exact ⟨rfl, rfl⟩
theorem back_pos (p : Int) (w : World) (h1 : 0 ≤ p) (h2 : p < 9223372036854775808) :
    Calls Try.prog 48 #[.int .u64 p, .bool false] w fun e w' => e = .returned (.int .i64 p) ∧ w' = w := by
  go_enter Try.func48, Try.ntmps48
  go_wp2_with fail
  refine (signed_pos _ _ h1 h2).mono ?_
  rintro e w' ⟨rfl, rfl⟩
  go_wp2
  go_ret
  exact ⟨rfl, rfl⟩
theorem rq_of_neg (x d : Int) (c : x < 0) : rq x d = -(hq (sizeV x) d) := by unfold rq sizeV; rw [if_pos c, if_pos c]
theorem rq_of_pos (x d : Int) (c : ¬ x < 0) : rq x d = hq (sizeV x) d := by unfold rq sizeV; rw [if_neg c, if_neg c]
theorem size_pos_lt (x : Int) (h : I64 x) (c : ¬ x < 0) : sizeV x < 9223372036854775808 := by unfold sizeV; rw [if_neg c]; unfold I64 at h; omega
theorem hq_lt (s d t : Int) (h : 0 ≤ s) (hd : 1 ≤ d) (ht : s < t) : hq s d < t := by have := hq_bd s d h hd; omega
theorem refvalid_any (m s : Int) (w : World) :
    Calls Try.prog 47 #[.int .i64 m, .int .i64 s] w fun e w' => e = .returned (.bool (scB m s)) ∧ w' = w := by
  by_cases c1 : 1 ≤ m
  · by_cases c2 : m ≤ 2147483647
    · by_cases c3 : 0 ≤ s
      · have HR : Hid (decide (s ≤ 62) = scB m s) := by unfold Hid scB; simp [c1, c2, c3]
        go_enter Try.func47, Try.ntmps47
        go_wp2
        go_ret
        exact ⟨retB HR.out, rfl⟩
      · have HR : Hid (false = scB m s) := by unfold Hid scB; simp [c3]
        go_enter Try.func47, Try.ntmps47
        go_wp2
        go_ret
        exact ⟨retB HR.out, rfl⟩
    · have HR : Hid (false = scB m s) := by unfold Hid scB; simp [c2]
      go_enter Try.func47, Try.ntmps47
      go_wp2
      go_ret
      exact ⟨retB HR.out, rfl⟩
  · have HR : Hid (false = scB m s) := by unfold Hid scB; simp [c1]
    go_enter Try.func47, Try.ntmps47
    go_wp2
    go_ret
    exact ⟨retB HR.out, rfl⟩
theorem sizeV_times (a m : Int) (hm : 1 ≤ m) : sizeV (a * m) = sizeV a * m ∧ (a * m < 0 ↔ a < 0) := by
  have hi : a * m < 0 ↔ a < 0 := by
    constructor
    · intro h
      refine Int.not_le.1 fun hh => ?_
      have := Int.mul_nonneg hh (show 0 ≤ m by omega)
      omega
    · intro h
      have := Int.mul_le_mul_of_nonneg_left hm (show 0 ≤ -a by omega)
      rw [Int.neg_mul, Int.neg_mul] at this
      omega
  refine ⟨?_, hi⟩
  unfold sizeV
  by_cases h : a < 0
  · rw [if_pos h, if_pos (hi.2 h), Int.neg_mul]
  · rw [if_neg h, if_neg (fun g => h (hi.1 g))]
theorem refapply_any (a m s : Int) (w : World) (hia : I64 a) :
    Calls Try.prog 40 #[.int .i64 a, .int .i64 m, .int .i64 s] w fun e w' => e = .returned (.tuple #[.int .i64 (apV a m s), .int .i64 (apE a m s)]) ∧ w' = w := by
  cases hs : scB m s with
  | false =>
    have HV : Hid (apV a m s = 0) := by unfold Hid apV; rw [hs, if_neg (by decide)]
    have HE : Hid (apE a m s = 20) := by unfold Hid apE; rw [hs, if_neg (by decide)]
    rw [HV.out, HE.out]
    go_enter Try.func40, Try.ntmps40
    go_wp2_with fail
    refine (refvalid_any _ _ _).mono ?_
    rintro e w' ⟨rfl, rfl⟩
    go_wp2
    go_ret2
    exact ⟨rfl, rfl⟩
  | true =>
    cases ha : acB a with
    | false =>
      have HV : Hid (apV a m s = 0) := by unfold Hid apV; rw [hs, if_pos rfl, ha, if_neg (by decide)]
      have HE : Hid (apE a m s = 10) := by unfold Hid apE; rw [hs, if_pos rfl, ha, if_neg (by decide)]
      rw [HV.out, HE.out]
      have hn : ¬ (-4294967296 ≤ a ∧ a ≤ 4294967296) := by unfold acB at ha; simpa using ha
      by_cases c : a < -4294967296
      all_goals
        try have c' : 4294967296 < a := by omega
        clear hn
        go_enter Try.func40, Try.ntmps40
        go_wp2_with fail
        refine (refvalid_any _ _ _).mono ?_
        rintro e w' ⟨rfl, rfl⟩
        go_wp2
        go_ret2
        exact ⟨rfl, rfl⟩
    | true =>
      have HV : Hid (apV a m s = rq (a * m) (p2 s)) := by unfold Hid apV; rw [hs, if_pos rfl, ha, if_pos rfl]
      have HE : Hid (apE a m s = 0) := by unfold Hid apE; rw [hs, if_pos rfl, ha, if_pos rfl]
      rw [HV.out, HE.out]
      have hn : -4294967296 ≤ a ∧ a ≤ 4294967296 := by unfold acB at ha; simpa using ha
      have hm : 1 ≤ m ∧ m ≤ 2147483647 ∧ 0 ≤ s ∧ s ≤ 62 := by unfold scB at hs; simpa using hs
      obtain ⟨a1, a2⟩ := hn
      obtain ⟨m1, m2, s1, s2⟩ := hm
      have hp := prod_bd a m a1 a2 m1 m2
      have hi : I64 (a * m) := by unfold I64; omega
      obtain ⟨HT, hneg⟩ := sizeV_times a m m1
      obtain ⟨t1, t2⟩ := sizeV_bd (a * m) hi
      obtain ⟨b1, b2⟩ := sizeV_bd a hia
      have h1 := p2_pos s
      have h2 := p2_le s s2
      have HP : Hid (IntKind.u64.wrap (2 ^ s.toNat) = p2 s) := p2_uwrap s s2
      have n3 : ¬ a < -4294967296 := by omega
      have n4 : ¬ 4294967296 < a := by omega
      have hq1 := hq_bd (sizeV (a * m)) (p2 s) t1 h1
      by_cases c : a < 0
      · have HQ : Hid (rq (a * m) (p2 s) = -(hq (sizeV a * m) (p2 s))) := by unfold Hid; rw [rq_of_neg _ _ (hneg.2 c), HT]
        rw [HT] at t1 t2 hq1
        clear HT hneg hp hi
        go_enter Try.func40, Try.ntmps40
        go_wp2_with fail
        refine (refvalid_any _ _ _).mono ?_
        rintro e w' ⟨rfl, rfl⟩
        go_wp2_with fail
        refine (size_any _ _ hia).mono ?_
        rintro e w' ⟨rfl, rfl⟩
        go_wp2_with fail
        rw [HP.out]
        refine (half_any _ _ _ t1 t2 h1 (by omega)).mono ?_
        rintro e w' ⟨rfl, rfl⟩
        go_wp2_with fail
        refine (back_neg _ _ hq1.1 (by omega)).mono ?_
        rintro e w' ⟨rfl, rfl⟩
        go_wp2
        go_ret2
        exact ⟨ret2 HQ.out.symm rfl, rfl⟩
      · have HQ : Hid (rq (a * m) (p2 s) = hq (sizeV a * m) (p2 s)) := by unfold Hid; rw [rq_of_pos _ _ (fun g => c (hneg.1 g)), HT]
        have hl := size_pos_lt (a * m) hi (fun g => c (hneg.1 g))
        rw [HT] at t1 t2 hq1 hl
        have qc : decide (a < 0) = false := by simp; omega
        clear HT hneg hp hi
        go_enter Try.func40, Try.ntmps40
        go_wp2_with fail
        refine (refvalid_any _ _ _).mono ?_
        rintro e w' ⟨rfl, rfl⟩
        go_wp2_with fail
        refine (size_any _ _ hia).mono ?_
        rintro e w' ⟨rfl, rfl⟩
        go_wp2_with fail
        rw [HP.out]
        refine (half_any _ _ _ t1 t2 h1 (by omega)).mono ?_
        rintro e w' ⟨rfl, rfl⟩
        go_wp2_with fail
        refine (back_pos _ _ hq1.1 (by omega)).mono ?_
        rintro e w' ⟨rfl, rfl⟩
        go_wp2
        go_ret2
        exact ⟨ret2 HQ.out.symm rfl, rfl⟩
end Go.Proofs.Ytdpfnlefaegmeaa
