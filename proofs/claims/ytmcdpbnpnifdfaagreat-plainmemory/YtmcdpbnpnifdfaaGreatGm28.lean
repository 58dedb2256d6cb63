/- The ends of a narrow type, Sat; the document's Fits, Sat, Wrap; products: each for every argument that fits its type. The document's Add, Sub, Fits, Sat, Wrap, Clamp; the statement's fixed answers: each for every argument that fits its type. What the document's answers for layer 2 return: each for every argument that fits its type. The document's Input, Home and each of layer 11. What the document's own functions of an op return: Length, Positions, weight, Bias. -/
import Derived.Test.YtmcdpbnpnifdfaaGreatGr01
import Derived.Test.YtmcdpbnpnifdfaaGreatGr14
import Derived.Test.YtmcdpbnpnifdfaaGreatGr17
import Derived.Test.YtmcdpbnpnifdfaaGreatGm23
import Derived.Test.YtmcdpbnpnifdfaaGreatGm26
/- The ends of a narrow type, Sat; the document's Fits, Sat, Wrap; products: each for every argument that fits its type. -/
namespace Go.Proofs.YtmcdpbnpnifdfaaGreat
open Go.ChangeShapes Go.WideShapes Go.ChangeAt Go.RowKit

/-! ### Plain numbers -/
def Pw (N x : Int) : Prop := ∃ k : Nat, x * 2 ^ k = -N
/-! ### The ends, and Sat -/
end Go.Proofs.YtmcdpbnpnifdfaaGreat

/- The document's Add, Sub, Fits, Sat, Wrap, Clamp; the statement's fixed answers: each for every argument that fits its type. -/
namespace Go.Proofs.YtmcdpbnpnifdfaaGreat
open Go.ChangeShapes Go.WideShapes Go.ChangeAt Go.RowKit

theorem refclamp_any (x lo hi : Int) (w : World) :
    Calls Tryz.prog 72 #[.int .i64 x, .int .i64 lo, .int .i64 hi] w fun e w' => e = .returned (.int .i64 (clampV x lo hi)) ∧ w' = w := by
  unfold clampV
  by_cases h : hi < x
  · rw [if_pos h]
    go_enter Tryz.func72, Tryz.ntmps72
    go_wp2
    go_ret
    exact ⟨rfl, rfl⟩
  · rw [if_neg h]
    by_cases g : x < lo
    · rw [if_pos g]
      go_enter Tryz.func72, Tryz.ntmps72
      go_wp2
      go_ret
      exact ⟨rfl, rfl⟩
    · rw [if_neg g]
      go_enter Tryz.func72, Tryz.ntmps72
      go_wp2
      go_ret
      exact ⟨rfl, rfl⟩
end Go.Proofs.YtmcdpbnpnifdfaaGreat

/- What the document's answers for layer 2 return: each for every argument that fits its type. -/
namespace Go.Proofs.YtmcdpbnpnifdfaaGreat.Fx
open Go.ChangeShapes Go.WideShapes Go.ChangeAt Go.RowKit
theorem p2_uwrap (n : Int) (h : n ≤ 62) : IntKind.u64.wrap (2 ^ n.toNat) = p2 n := by
  have h1 := p2_pos n
  have h2 := p2_le n h
  show IntKind.u64.wrap (p2 n) = p2 n
  rw [u64w]; omega
theorem hq_top (s d : Int) (h1 : 0 ≤ s) (h2 : s ≤ 9223372036854775808) : s / d ≤ 9223372036854775808 := by
  have := Int.ediv_le_self d h1
  omega
theorem half_any (s d : Int) (w : World) (h1 : 0 ≤ s) (h2 : s ≤ 9223372036854775808) (d1 : 1 ≤ d) (d2 : d ≤ 9223372036854775808) :
    Calls Tryz.prog 70 #[.int .u64 s, .int .u64 d] w fun e w' => e = .returned (.int .u64 (hq s d)) ∧ w' = w := by
  have hd0 : (d == 0) = false := by simp; omega
  have r0 := Int.emod_nonneg s (show d ≠ 0 by omega)
  have r1 := Int.emod_lt_of_pos s (show 0 < d by omega)
  have q0 := Int.ediv_nonneg h1 (show 0 ≤ d by omega)
  have q1 := hq_top s d h1 h2
  by_cases c2 : d ≤ 2 * (s % d)
  · have HH : Hid (hq s d = s / d + 1) := by unfold Hid hq; rw [if_pos c2]
    have c3 : d - s % d ≤ s % d := by omega
    clear c2
    go_enter Tryz.func70, Tryz.ntmps70
    go_wp2
    go_ret
    exact ⟨ret1 (by rw [HH.out]), rfl⟩
  · have HH : Hid (hq s d = s / d) := by unfold Hid hq; rw [if_neg c2]
    have c3 : ¬ d - s % d ≤ s % d := by omega
    clear c2
    go_enter Tryz.func70, Tryz.ntmps70
    go_wp2
    go_ret
    exact ⟨ret1 (by rw [HH.out]), rfl⟩
theorem back_neg (p : Int) (w : World) (h1 : 0 ≤ p) (h2 : p ≤ 9223372036854775808) :
    Calls Tryz.prog 69 #[.int .u64 p, .bool true] w fun e w' => e = .returned (.int .i64 (-p)) ∧ w' = w := by
  go_enter Tryz.func69, Tryz.ntmps69
  go_wp2_with fail
  refine (signed_neg _ _ h1 h2).mono ?_
  rintro e w' ⟨rfl, rfl⟩
  go_wp2
  go_ret
  exact ⟨rfl, rfl⟩
theorem back_pos (p : Int) (w : World) (h1 : 0 ≤ p) (h2 : p < 9223372036854775808) :
    Calls Tryz.prog 69 #[.int .u64 p, .bool false] w fun e w' => e = .returned (.int .i64 p) ∧ w' = w := by
  go_enter Tryz.func69, Tryz.ntmps69
  go_wp2_with fail
  refine (signed_pos _ _ h1 h2).mono ?_
  rintro e w' ⟨rfl, rfl⟩
  go_wp2
  go_ret
  exact ⟨rfl, rfl⟩
theorem rq_of_neg (x d : Int) (c : x < 0) : rq x d = -(hq (sizeV x) d) := by unfold rq sizeV; rw [if_pos c, if_pos c]
theorem rq_of_pos (x d : Int) (c : ¬ x < 0) : rq x d = hq (sizeV x) d := by unfold rq sizeV; rw [if_neg c, if_neg c]
theorem size_pos_lt (x : Int) (h : I64 x) (c : ¬ x < 0) : sizeV x < 9223372036854775808 := by unfold sizeV; rw [if_neg c]; unfold I64 at h; omega
theorem refmean_any (x n : Int) (w : World) (hx : I64 x) (hn : I64 n) :
    Calls Tryz.prog 47 #[.int .i64 x, .int .i64 n] w fun e w' => e = .returned (.tuple #[.int .i64 (meV x n), .int .i64 (meE n)]) ∧ w' = w := by
  obtain ⟨n1, n2⟩ := hn
  by_cases k : n < 1
  · have HV : Hid (meV x n = 0) := if_pos k
    have HE : Hid (meE n = 2) := if_pos k
    rw [HV.out, HE.out]
    go_enter Tryz.func47, Tryz.ntmps47
    go_wp2
    go_ret2
    exact ⟨rfl, rfl⟩
  · have HV : Hid (meV x n = rq x n) := if_neg k
    have HE : Hid (meE n = 0) := if_neg k
    rw [HV.out, HE.out]
    have h1 : 1 ≤ n := by omega
    obtain ⟨s1, s2⟩ := sizeV_bd x hx
    by_cases c : x < 0
    · have HQ : Hid (rq x n = -(hq (sizeV x) n)) := rq_of_neg _ _ c
      have hq1 := hq_bd (sizeV x) n s1 h1
      go_enter Tryz.func47, Tryz.ntmps47
      go_wp2_with fail
      refine (size_any _ _ hx).mono ?_
      rintro e w' ⟨rfl, rfl⟩
      go_wp2_with fail
      refine (half_any _ _ _ s1 s2 h1 (by omega)).mono ?_
      rintro e w' ⟨rfl, rfl⟩
      go_wp2_with fail
      refine (back_neg _ _ hq1.1 (by omega)).mono ?_
      rintro e w' ⟨rfl, rfl⟩
      go_wp2
      go_ret2
      exact ⟨ret2 HQ.out.symm rfl, rfl⟩
    · have HQ : Hid (rq x n = hq (sizeV x) n) := rq_of_pos _ _ c
      have hq1 := hq_bd (sizeV x) n s1 h1
      have hl := size_pos_lt x hx c
      have qc : decide (x < 0) = false := by simp; omega
      go_enter Tryz.func47, Tryz.ntmps47
      go_wp2_with fail
      refine (size_any _ _ hx).mono ?_
      rintro e w' ⟨rfl, rfl⟩
      go_wp2_with fail
      refine (half_any _ _ _ s1 s2 h1 (by omega)).mono ?_
      rintro e w' ⟨rfl, rfl⟩
      go_wp2_with fail
      refine (back_pos _ _ hq1.1 (by omega)).mono ?_
      rintro e w' ⟨rfl, rfl⟩
      go_wp2
      go_ret2
      exact ⟨ret2 HQ.out.symm rfl, rfl⟩
theorem refvalid_any (m s : Int) (w : World) :
    Calls Tryz.prog 44 #[.int .i64 m, .int .i64 s] w fun e w' => e = .returned (.bool (scB m s)) ∧ w' = w := by
  by_cases c1 : 1 ≤ m
  · by_cases c2 : m ≤ 2147483647
    · by_cases c3 : 0 ≤ s
      · have HR : Hid (decide (s ≤ 62) = scB m s) := by unfold Hid scB; simp [c1, c2, c3]
        go_enter Tryz.func44, Tryz.ntmps44
        go_wp2
        go_ret
        exact ⟨retB HR.out, rfl⟩
      · have HR : Hid (false = scB m s) := by unfold Hid scB; simp [c3]
        go_enter Tryz.func44, Tryz.ntmps44
        go_wp2
        go_ret
        exact ⟨retB HR.out, rfl⟩
    · have HR : Hid (false = scB m s) := by unfold Hid scB; simp [c2]
      go_enter Tryz.func44, Tryz.ntmps44
      go_wp2
      go_ret
      exact ⟨retB HR.out, rfl⟩
  · have HR : Hid (false = scB m s) := by unfold Hid scB; simp [c1]
    go_enter Tryz.func44, Tryz.ntmps44
    go_wp2
    go_ret
    exact ⟨retB HR.out, rfl⟩
theorem sizeV_times (a m : Int) (hm : 1 ≤ m) : sizeV (a * m) = sizeV a * m ∧ (a * m < 0 ↔ a < 0) := by
  have hi : a * m < 0 ↔ a < 0 := by
    constructor
    · intro h
      refine Int.not_le.1 fun hh => ?_
      have := Int.mul_nonneg hh (show 0 ≤ m by omega)
      omega
    · intro h
      have := Int.mul_le_mul_of_nonneg_left hm (show 0 ≤ -a by omega)
      rw [Int.neg_mul, Int.neg_mul] at this
      omega
  refine ⟨?_, hi⟩
  unfold sizeV
  by_cases h : a < 0
  · rw [if_pos h, if_pos (hi.2 h), Int.neg_mul]
  · rw [if_neg h, if_neg (fun g => h (hi.1 g))]
theorem refapply_any (a m s : Int) (w : World) (hia : I64 a) :
    Calls Tryz.prog 48 #[.int .i64 a, .int .i64 m, .int .i64 s] w fun e w' => e = .returned (.tuple #[.int .i64 (apV a m s), .int .i64 (apE a m s)]) ∧ w' = w := by
  cases hs : scB m s with
  | false =>
    have HV : Hid (apV a m s = 0) := by unfold Hid apV; rw [hs, if_neg (by decide)]
    have HE : Hid (apE a m s = 20) := by unfold Hid apE; rw [hs, if_neg (by decide)]
    rw [HV.out, HE.out]
    go_enter Tryz.func48, Tryz.ntmps48
    go_wp2_with fail
    refine (refvalid_any _ _ _).mono ?_
    rintro e w' ⟨rfl, rfl⟩
    go_wp2
    go_ret2
    exact ⟨rfl, rfl⟩
  | true =>
    cases ha : acB a with
    | false =>
      have HV : Hid (apV a m s = 0) := by unfold Hid apV; rw [hs, if_pos rfl, ha, if_neg (by decide)]
      have HE : Hid (apE a m s = 10) := by unfold Hid apE; rw [hs, if_pos rfl, ha, if_neg (by decide)]
      rw [HV.out, HE.out]
      have hn : ¬ (-4294967296 ≤ a ∧ a ≤ 4294967296) := by unfold acB at ha; simpa using ha
      by_cases c : a < -4294967296
      all_goals
        try have c' : 4294967296 < a := by omega
        clear hn
        go_enter Tryz.func48, Tryz.ntmps48
        go_wp2_with fail
        refine (refvalid_any _ _ _).mono ?_
        rintro e w' ⟨rfl, rfl⟩
        go_wp2
        go_ret2
        exact ⟨rfl, rfl⟩
    | true =>
      have HV : Hid (apV a m s = rq (a * m) (p2 s)) := by unfold Hid apV; rw [hs, if_pos rfl, ha, if_pos rfl]
      have HE : Hid (apE a m s = 0) := by unfold Hid apE; rw [hs, if_pos rfl, ha, if_pos rfl]
      rw [HV.out, HE.out]
      have hn : -4294967296 ≤ a ∧ a ≤ 4294967296 := by unfold acB at ha; simpa using ha
      have hm : 1 ≤ m ∧ m ≤ 2147483647 ∧ 0 ≤ s ∧ s ≤ 62 := by unfold scB at hs; simpa using hs
      obtain ⟨a1, a2⟩ := hn
      obtain ⟨m1, m2, s1, s2⟩ := hm
      have hp := prod_bd a m a1 a2 m1 m2
      have hi : I64 (a * m) := by unfold I64; omega
      obtain ⟨HT, hneg⟩ := sizeV_times a m m1
      obtain ⟨t1, t2⟩ := sizeV_bd (a * m) hi
      obtain ⟨b1, b2⟩ := sizeV_bd a hia
      have h1 := p2_pos s
      have h2 := p2_le s s2
      have HP : Hid (IntKind.u64.wrap (2 ^ s.toNat) = p2 s) := p2_uwrap s s2
      have n3 : ¬ a < -4294967296 := by omega
      have n4 : ¬ 4294967296 < a := by omega
      have hq1 := hq_bd (sizeV (a * m)) (p2 s) t1 h1
      by_cases c : a < 0
      · have HQ : Hid (rq (a * m) (p2 s) = -(hq (sizeV a * m) (p2 s))) := by unfold Hid; rw [rq_of_neg _ _ (hneg.2 c), HT]
        rw [HT] at t1 t2 hq1
        clear HT hneg hp hi
        go_enter Tryz.func48, Tryz.ntmps48
        go_wp2_with fail
        refine (refvalid_any _ _ _).mono ?_
        rintro e w' ⟨rfl, rfl⟩
        go_wp2_with fail
        refine (size_any _ _ hia).mono ?_
        rintro e w' ⟨rfl, rfl⟩
        go_wp2_with fail
        rw [HP.out]
        refine (half_any _ _ _ t1 t2 h1 (by omega)).mono ?_
        rintro e w' ⟨rfl, rfl⟩
        go_wp2_with fail
        refine (back_neg _ _ hq1.1 (by omega)).mono ?_
        rintro e w' ⟨rfl, rfl⟩
        go_wp2
        go_ret2
        exact ⟨ret2 HQ.out.symm rfl, rfl⟩
      · have HQ : Hid (rq (a * m) (p2 s) = hq (sizeV a * m) (p2 s)) := by unfold Hid; rw [rq_of_pos _ _ (fun g => c (hneg.1 g)), HT]
        have hl := size_pos_lt (a * m) hi (fun g => c (hneg.1 g))
        rw [HT] at t1 t2 hq1 hl
        have qc : decide (a < 0) = false := by simp; omega
        clear HT hneg hp hi
        go_enter Tryz.func48, Tryz.ntmps48
        go_wp2_with fail
        refine (refvalid_any _ _ _).mono ?_
        rintro e w' ⟨rfl, rfl⟩
        go_wp2_with fail
        refine (size_any _ _ hia).mono ?_
        rintro e w' ⟨rfl, rfl⟩
        go_wp2_with fail
        rw [HP.out]
        refine (half_any _ _ _ t1 t2 h1 (by omega)).mono ?_
        rintro e w' ⟨rfl, rfl⟩
        go_wp2_with fail
        refine (back_pos _ _ hq1.1 (by omega)).mono ?_
        rintro e w' ⟨rfl, rfl⟩
        go_wp2
        go_ret2
        exact ⟨ret2 HQ.out.symm rfl, rfl⟩
theorem reffinish_any (v z lo hi : Int) (w : World) :
    Calls Tryz.prog 49 #[.int .i64 v, .int .i64 z, .int .i64 lo, .int .i64 hi] w fun e w' => e = .returned (.tuple #[.int .i64 (fiV v z lo hi), .int .i64 (fiE z lo hi)]) ∧ w' = w := by
  cases hb : fiB z lo hi with
  | true =>
    have HV : Hid (fiV v z lo hi = clampV (v + z) lo hi) := by unfold Hid fiV; rw [if_pos hb]
    have HE : Hid (fiE z lo hi = 0) := by unfold Hid fiE; rw [if_pos hb]
    rw [HV.out, HE.out]
    have hn : -128 ≤ lo ∧ lo ≤ hi ∧ hi ≤ 127 ∧ -128 ≤ z ∧ z ≤ 127 := by unfold fiB at hb; simpa using hb
    obtain ⟨n1, n2, n3, n4, n5⟩ := hn
    have v1 : ¬ lo < -128 := by omega
    have v2 : ¬ hi < lo := by omega
    have v3 : ¬ 127 < hi := by omega
    have v4 : ¬ z < -128 := by omega
    have v5 : ¬ 127 < z := by omega
    clear hb
    by_cases c1 : 1000 < v
    · have HM : Hid (clampV (v + z) lo hi = hi) := by unfold Hid clampV; rw [if_pos (by omega)]
      rw [HM.out]
      go_enter Tryz.func49, Tryz.ntmps49
      go_wp2
      go_ret2
      exact ⟨rfl, rfl⟩
    · by_cases c2 : v < -1000
      · have HM : Hid (clampV (v + z) lo hi = lo) := by unfold Hid clampV; rw [if_neg (by omega), if_pos (by omega)]
        rw [HM.out]
        go_enter Tryz.func49, Tryz.ntmps49
        go_wp2
        go_ret2
        exact ⟨rfl, rfl⟩
      · obtain ⟨k1, k2⟩ := clamp_in_ends (v + z) lo hi n2
        go_enter Tryz.func49, Tryz.ntmps49
        go_wp2_with fail
        refine (refclamp_any _ _ _ _).mono ?_
        rintro e w' ⟨rfl, rfl⟩
        go_wp2
        go_ret2
        exact ⟨rfl, rfl⟩
  | false =>
    have HV : Hid (fiV v z lo hi = 0) := by unfold Hid fiV; rw [hb, if_neg (by decide)]
    have HE : Hid (fiE z lo hi = 85) := by unfold Hid fiE; rw [hb, if_neg (by decide)]
    rw [HV.out, HE.out]
    have hn : ¬ (-128 ≤ lo ∧ lo ≤ hi ∧ hi ≤ 127 ∧ -128 ≤ z ∧ z ≤ 127) := by unfold fiB at hb; simpa using hb
    clear hb
    by_cases v1 : lo < -128
    · clear hn
      go_enter Tryz.func49, Tryz.ntmps49
      go_wp2
      go_ret2
      exact ⟨rfl, rfl⟩
    · by_cases v2 : hi < lo
      · clear hn
        go_enter Tryz.func49, Tryz.ntmps49
        go_wp2
        go_ret2
        exact ⟨rfl, rfl⟩
      · by_cases v3 : 127 < hi
        · clear hn
          go_enter Tryz.func49, Tryz.ntmps49
          go_wp2
          go_ret2
          exact ⟨rfl, rfl⟩
        · by_cases v4 : z < -128
          all_goals
            try have v5 : 127 < z := by omega
            clear hn
            go_enter Tryz.func49, Tryz.ntmps49
            go_wp2
            go_ret2
            exact ⟨rfl, rfl⟩
end Go.Proofs.YtmcdpbnpnifdfaaGreat.Fx

/- The document's Input, Home and each of layer 11. -/
namespace Go.Proofs.YtmcdpbnpnifdfaaGreat
open Go.ChangeShapes Go.WideShapes Go.ChangeAt Go.RowKit
set_option linter.unusedVariables false
set_option maxHeartbeats 1000000 in
theorem rinput_any (h w c lo hi ot : Int) (oa : Option Addr) (on oc : Nat) (a : Option Addr) (n cap : Nat) (xs : List Int) (W : World) (hX : IRow .i8 W a n cap xs) (g : vS h w c = true) :
    Calls Tryz.prog 13 #[.agg #[.int .i64 h, .int .i64 w, .int .i64 c, .int .i64 lo, .int .i64 hi, .slice oa on oc, .int .i64 ot], .slice a n cap] W fun e w' => e = .returned (.bool (inB h w c lo hi xs)) ∧ Below W.heap.size W w' := by
  have hlen := hX.1
  have HX : Hid (IRow .i8 W a n cap xs) := hX
  have HL : Hid (xs.length = n) := hlen
  have hcap := hX.2.1
  have hcm := hX.2.2.1
  unfold maxLen at hcm
  have s0 := (St.start W).new (c := #[.int .i64 h, .int .i64 w, .int .i64 c, .int .i64 lo, .int .i64 hi, .slice oa on oc, .int .i64 ot]) (t := 26)
  have p4 := vS_bd g
  obtain ⟨P1, hP1⟩ : ∃ P1, h * w = P1 := ⟨_, rfl⟩
  obtain ⟨N, hN⟩ : ∃ N, P1 * c = N := ⟨_, rfl⟩
  have HNN : Hid (h * w * c = N) := by unfold Hid; rw [hP1, hN]
  rw [hP1, hN] at p4
  clear hX hlen g
  by_cases hnN : (n : Int) = N
  rotate_left
  · have hD : Hid (inB h w c lo hi xs = false) := decide_eq_false fun q => hnN (by rw [← HNN.out, ← q.1, HL.out])
    have hne : ((n : Int) == N) = false := by simp [hnN]
    rw [hD.out]
    go_enter Tryz.func13, Tryz.ntmps13
    go_wp2
    go_ret
    exact ⟨rfl, s0.below⟩
  · have HD : Hid ((∀ v ∈ xs, lo ≤ v ∧ v ≤ hi) → inB h w c lo hi xs = true) := fun q => decide_eq_true ⟨by rw [HL.out, HNN.out]; exact hnN, q⟩
    have hq : ((n : Int) == N) = true := by simp [hnN]
    have HnN : Hid ((n : Int) = N) := hnN
    clear hnN
    go_enter Tryz.func13, Tryz.ntmps13
    go_wp2
    go_loopw [23] (fun i wr => ∃ y : Nat, y ≤ n ∧ i = .int .i64 y ∧ (∀ u ∈ xs.take y, lo ≤ u ∧ u ≤ hi) ∧ St W wr [(W.heap.size, #[.int .i64 h, .int .i64 w, .int .i64 c, .int .i64 lo, .int .i64 hi, .slice oa on oc, .int .i64 ot], 26)]) (fun i _ => n - (intOf i).toNat)
    case atStart => exact ⟨0, Nat.zero_le _, rfl, by simp, s0⟩
    case round =>
      obtain ⟨y, hy, rfl, hall, sr⟩ := hrel
      obtain ⟨c1, f1, z1, -⟩ := sr.rules
      by_cases hlt : y < n
      · obtain ⟨x, u, rfl, hu, hw8, hz, -⟩ := (HX.out.below sr.below).at hlt
        obtain ⟨u1, u2⟩ := wf_i8 hw8
        have HA : Hid (∀ u ∈ xs.take y, lo ≤ u ∧ u ≤ hi) := hall
        have HZ : Hid (xs[y]? = some u) := hz
        clear hall hz hw8 s0
        by_cases ul : u < lo
        · have hD : Hid (inB h w c lo hi xs = false) := inB_no HZ.out (by omega)
          go_wp2
          go_ret
          exact ⟨retB hD.out.symm, sr.below⟩
        · by_cases uh : hi < u
          · have hD : Hid (inB h w c lo hi xs = false) := inB_no HZ.out (by omega)
            go_wp2
            go_ret
            exact ⟨retB hD.out.symm, sr.below⟩
          · have HA2 : Hid (∀ u ∈ xs.take (y + 1), lo ≤ u ∧ u ≤ hi) := take_all HA.out HZ.out ⟨by omega, by omega⟩
            go_wp2
            go_roundw
            case rel => exact ⟨y + 1, by omega, by go_num, HA2.out, sr⟩
            case measure => simp [intOf]; omega
      · obtain rfl : y = n := by omega
        have hD : Hid (inB h w c lo hi xs = true) := HD.out (by rw [← HL.out, List.take_length] at hall; exact hall)
        clear hall s0
        go_wp2
        go_ret
        exact ⟨retB hD.out.symm, sr.below⟩
/-- What an op that reduces makes of a sum. -/
def hoV (k sm ss z lo hi t len : Int) : Int := if k = 4 then Fx.fiV (Fx.meV t len) 0 lo hi else Fx.fiV (Fx.apV t sm ss) z lo hi
theorem i8w {F : Int} (h : I8 F) : IntKind.i8.wrap F = F := by
  obtain ⟨h1, h2⟩ := h
  simp [IntKind.wrap, IntKind.bits, IntKind.signed]; omega
set_option maxRecDepth 100000 in
set_option maxHeartbeats 2000000 in
theorem home_any (k a b m kh kw sh sw tp lf bt rt : Int) (wa : Option Addr) (lw wc : Nat) (ba : Option Addr) (lb bc : Nat) (sm ss um us z p lo hi : Int) (t len : Int) (W : World) (ht : I64 t) (hl : I64 len) :
    Calls Tryz.prog 28 #[.agg #[.int .i64 k, .int .i64 a, .int .i64 b, .int .i64 m, .int .i64 kh, .int .i64 kw, .int .i64 sh, .int .i64 sw, .int .i64 tp, .int .i64 lf, .int .i64 bt, .int .i64 rt, .slice wa lw wc, .slice ba lb bc, .int .i64 sm, .int .i64 ss, .int .i64 um, .int .i64 us, .int .i64 z, .int .i64 p, .int .i64 lo, .int .i64 hi], .int .i64 t, .int .i64 len] W fun e w' => e = .returned (.int .i8 (hoV k sm ss z lo hi t len)) ∧ Below W.heap.size W w' := by
  have s0 := (St.start W).new (c := #[.int .i64 k, .int .i64 a, .int .i64 b, .int .i64 m, .int .i64 kh, .int .i64 kw, .int .i64 sh, .int .i64 sw, .int .i64 tp, .int .i64 lf, .int .i64 bt, .int .i64 rt, .slice wa lw wc, .slice ba lb bc, .int .i64 sm, .int .i64 ss, .int .i64 um, .int .i64 us, .int .i64 z, .int .i64 p, .int .i64 lo, .int .i64 hi]) (t := 49)
  have S0 : Hid (St W _ _) := s0
  by_cases k4 : k = 4
  · have e : Hid (hoV k sm ss z lo hi t len = Fx.fiV (Fx.meV t len) 0 lo hi) := by unfold Hid hoV; rw [if_pos k4]
    subst k4
    rw [e.out]
    have h8 := i8w (fiV_i8 (v := Fx.meV t len) (z := 0) (lo := lo) (hi := hi))
    clear s0 e
    go_enter Tryz.func28, Tryz.ntmps28
    go_wp2_with fail
    refine (Fx.refmean_any t len _ ht hl).mono ?_
    rintro e w1 ⟨rfl, hb1⟩
    have S1 : Hid (St W w1 _) := S0.out.call (by first | exact hb1 | (rw [hb1]; exact Below.refl _ _))
    obtain ⟨c1, f1, z1, -⟩ := S1.out.rules
    obtain ⟨mv, hmv⟩ : ∃ mv, Fx.meV t len = mv := ⟨_, rfl⟩
    rw [hmv] at h8 ⊢
    have HMV : Hid (_ = mv) := hmv
    clear hb1 S0 hmv
    go_wp2_with fail
    refine (Fx.reffinish_any mv 0 lo hi _).mono ?_
    rintro e w2 ⟨rfl, hb2⟩
    have S2 : Hid (St W w2 _) := S1.out.call (by first | exact hb2 | (rw [hb2]; exact Below.refl _ _))
    obtain ⟨F, hF⟩ : ∃ F, Fx.fiV mv 0 lo hi = F := ⟨_, rfl⟩
    rw [hF] at h8 ⊢
    have HF : Hid (_ = F) := hF
    clear hb2 S1 hF c1 f1 z1
    go_wp2
    go_ret
    exact ⟨ret1 (by rw [HMV.out, HF.out]), S2.out.below⟩
  · have e : Hid (hoV k sm ss z lo hi t len = Fx.fiV (Fx.apV t sm ss) z lo hi) := by unfold Hid hoV; rw [if_neg k4]
    rw [e.out]
    have k4' : (k == 4) = false := by simp [k4]
    have h8 := i8w (fiV_i8 (v := Fx.apV t sm ss) (z := z) (lo := lo) (hi := hi))
    clear s0 e k4
    obtain ⟨c1, f1, z1, -⟩ := S0.out.rules
    go_enter Tryz.func28, Tryz.ntmps28
    go_wp2_with fail
    refine (Fx.refapply_any t sm ss _ ht).mono ?_
    rintro e w1 ⟨rfl, hb1⟩
    have S1 : Hid (St W w1 _) := S0.out.call (by first | exact hb1 | (rw [hb1]; exact Below.refl _ _))
    clear c1 f1 z1
    obtain ⟨c1, f1, z1, -⟩ := S1.out.rules
    obtain ⟨mv, hmv⟩ : ∃ mv, Fx.apV t sm ss = mv := ⟨_, rfl⟩
    rw [hmv] at h8 ⊢
    have HMV : Hid (_ = mv) := hmv
    clear hb1 S0 hmv
    go_wp2_with fail
    refine (Fx.reffinish_any mv z lo hi _).mono ?_
    rintro e w2 ⟨rfl, hb2⟩
    have S2 : Hid (St W w2 _) := S1.out.call (by first | exact hb2 | (rw [hb2]; exact Below.refl _ _))
    obtain ⟨F, hF⟩ : ∃ F, Fx.fiV mv z lo hi = F := ⟨_, rfl⟩
    rw [hF] at h8 ⊢
    have HF : Hid (_ = F) := hF
    clear hb2 S1 hF c1 f1 z1
    go_wp2
    go_ret
    exact ⟨ret1 (by rw [HMV.out, HF.out]), S2.out.below⟩
/-- What an elementwise op makes of two numbers. -/
def eaV (k sm ss um us z lo hi a b : Int) : Int := Fx.fiV (if k = 6 then Fx.apV a sm ss + Fx.apV b um us else if k = 8 then a else Fx.apV a sm ss) z lo hi
set_option maxRecDepth 100000 in
set_option maxHeartbeats 2000000 in
theorem each_6 (a b m kh kw sh sw tp lf bt rt : Int) (wa : Option Addr) (lw wc : Nat) (ba : Option Addr) (lb bc : Nat) (sm ss um us z p lo hi u v : Int) (W : World) (hu : I8 u) (hv : I8 v) :
    Calls Tryz.prog 31 #[.agg #[.int .i64 6, .int .i64 a, .int .i64 b, .int .i64 m, .int .i64 kh, .int .i64 kw, .int .i64 sh, .int .i64 sw, .int .i64 tp, .int .i64 lf, .int .i64 bt, .int .i64 rt, .slice wa lw wc, .slice ba lb bc, .int .i64 sm, .int .i64 ss, .int .i64 um, .int .i64 us, .int .i64 z, .int .i64 p, .int .i64 lo, .int .i64 hi], .int .i8 u, .int .i8 v] W fun e w' => e = .returned (.int .i8 (eaV 6 sm ss um us z lo hi u v)) ∧ Below W.heap.size W w' := by
  have s0 := (St.start W).new (c := #[.int .i64 6, .int .i64 a, .int .i64 b, .int .i64 m, .int .i64 kh, .int .i64 kw, .int .i64 sh, .int .i64 sw, .int .i64 tp, .int .i64 lf, .int .i64 bt, .int .i64 rt, .slice wa lw wc, .slice ba lb bc, .int .i64 sm, .int .i64 ss, .int .i64 um, .int .i64 us, .int .i64 z, .int .i64 p, .int .i64 lo, .int .i64 hi]) (t := 49)
  have S0 : Hid (St W _ _) := s0
  have ba1 := apV_i8 (m := sm) (s := ss) hu
  have bb1 := apV_i8 (m := um) (s := us) hv
  obtain ⟨u1, u2⟩ := hu
  obtain ⟨v1, v2⟩ := hv
  unfold eaV
  simp only [if_true]
  have h8 : Hid (∀ x, IntKind.i8.wrap (Fx.fiV x z lo hi) = Fx.fiV x z lo hi) := fun x => i8w fiV_i8
  clear s0
  obtain ⟨c1, f1, z1, -⟩ := S0.out.rules
  go_enter Tryz.func31, Tryz.ntmps31
  go_wp2_with fail
  refine (Fx.refapply_any u sm ss _ (by unfold I64; omega)).mono ?_
  rintro e w1 ⟨rfl, hb1⟩
  have S1 : Hid (St W w1 _) := S0.out.call (by first | exact hb1 | (rw [hb1]; exact Below.refl _ _))
  clear c1 f1 z1
  obtain ⟨c1, f1, z1, -⟩ := S1.out.rules
  obtain ⟨av, hav⟩ : ∃ av, Fx.apV u sm ss = av := ⟨_, rfl⟩
  rw [hav] at ba1 ⊢
  have HAV : Hid (_ = av) := hav
  clear hb1 S0 hav
  go_wp2_with fail
  refine (Fx.refapply_any v um us _ (by unfold I64; omega)).mono ?_
  rintro e w1' ⟨rfl, hb1⟩
  have S1' : Hid (St W w1' _) := S1.out.call (by first | exact hb1 | (rw [hb1]; exact Below.refl _ _))
  clear c1 f1 z1 S1
  have S1 := S1'
  clear S1'
  obtain ⟨c1, f1, z1, -⟩ := S1.out.rules
  obtain ⟨bv, hbv⟩ : ∃ bv, Fx.apV v um us = bv := ⟨_, rfl⟩
  rw [hbv] at bb1 ⊢
  have HBV : Hid (_ = bv) := hbv
  clear hb1 hbv
  go_wp2_with fail
  refine (Fx.reffinish_any _ z lo hi _).mono ?_
  rintro e w2 ⟨rfl, hb2⟩
  have S2 : Hid (St W w2 _) := S1.out.call (by first | exact hb2 | (rw [hb2]; exact Below.refl _ _))
  clear hb2 c1 f1 z1
  go_wp2_with fail
  rw [h8.out]
  go_wp2
  go_ret
  exact ⟨ret1 (by rw [HAV.out, HBV.out]), S2.out.below⟩
set_option maxRecDepth 100000 in
set_option maxHeartbeats 2000000 in
theorem each_7 (a b m kh kw sh sw tp lf bt rt : Int) (wa : Option Addr) (lw wc : Nat) (ba : Option Addr) (lb bc : Nat) (sm ss um us z p lo hi u v : Int) (W : World) (hu : I8 u) (hv : I8 v) :
    Calls Tryz.prog 31 #[.agg #[.int .i64 7, .int .i64 a, .int .i64 b, .int .i64 m, .int .i64 kh, .int .i64 kw, .int .i64 sh, .int .i64 sw, .int .i64 tp, .int .i64 lf, .int .i64 bt, .int .i64 rt, .slice wa lw wc, .slice ba lb bc, .int .i64 sm, .int .i64 ss, .int .i64 um, .int .i64 us, .int .i64 z, .int .i64 p, .int .i64 lo, .int .i64 hi], .int .i8 u, .int .i8 v] W fun e w' => e = .returned (.int .i8 (eaV 7 sm ss um us z lo hi u v)) ∧ Below W.heap.size W w' := by
  have s0 := (St.start W).new (c := #[.int .i64 7, .int .i64 a, .int .i64 b, .int .i64 m, .int .i64 kh, .int .i64 kw, .int .i64 sh, .int .i64 sw, .int .i64 tp, .int .i64 lf, .int .i64 bt, .int .i64 rt, .slice wa lw wc, .slice ba lb bc, .int .i64 sm, .int .i64 ss, .int .i64 um, .int .i64 us, .int .i64 z, .int .i64 p, .int .i64 lo, .int .i64 hi]) (t := 49)
  have S0 : Hid (St W _ _) := s0
  have ba1 := apV_i8 (m := sm) (s := ss) hu
  have bb1 := apV_i8 (m := um) (s := us) hv
  obtain ⟨u1, u2⟩ := hu
  obtain ⟨v1, v2⟩ := hv
  unfold eaV
  simp only [Int.reduceEq, if_false]
  have h8 : Hid (∀ x, IntKind.i8.wrap (Fx.fiV x z lo hi) = Fx.fiV x z lo hi) := fun x => i8w fiV_i8
  clear s0
  obtain ⟨c1, f1, z1, -⟩ := S0.out.rules
  go_enter Tryz.func31, Tryz.ntmps31
  go_wp2_with fail
  refine (Fx.refapply_any u sm ss _ (by unfold I64; omega)).mono ?_
  rintro e w1 ⟨rfl, hb1⟩
  have S1 : Hid (St W w1 _) := S0.out.call (by first | exact hb1 | (rw [hb1]; exact Below.refl _ _))
  clear c1 f1 z1
  obtain ⟨c1, f1, z1, -⟩ := S1.out.rules
  obtain ⟨av, hav⟩ : ∃ av, Fx.apV u sm ss = av := ⟨_, rfl⟩
  rw [hav] at ba1 ⊢
  have HAV : Hid (_ = av) := hav
  clear hb1 S0 hav
  go_wp2_with fail
  refine (Fx.reffinish_any _ z lo hi _).mono ?_
  rintro e w2 ⟨rfl, hb2⟩
  have S2 : Hid (St W w2 _) := S1.out.call (by first | exact hb2 | (rw [hb2]; exact Below.refl _ _))
  clear hb2 c1 f1 z1
  go_wp2_with fail
  rw [h8.out]
  go_wp2
  go_ret
  exact ⟨ret1 (by rw [HAV.out]), S2.out.below⟩
set_option maxRecDepth 100000 in
set_option maxHeartbeats 2000000 in
theorem each_8 (a b m kh kw sh sw tp lf bt rt : Int) (wa : Option Addr) (lw wc : Nat) (ba : Option Addr) (lb bc : Nat) (sm ss um us z p lo hi u v : Int) (W : World) (hu : I8 u) (hv : I8 v) :
    Calls Tryz.prog 31 #[.agg #[.int .i64 8, .int .i64 a, .int .i64 b, .int .i64 m, .int .i64 kh, .int .i64 kw, .int .i64 sh, .int .i64 sw, .int .i64 tp, .int .i64 lf, .int .i64 bt, .int .i64 rt, .slice wa lw wc, .slice ba lb bc, .int .i64 sm, .int .i64 ss, .int .i64 um, .int .i64 us, .int .i64 z, .int .i64 p, .int .i64 lo, .int .i64 hi], .int .i8 u, .int .i8 v] W fun e w' => e = .returned (.int .i8 (eaV 8 sm ss um us z lo hi u v)) ∧ Below W.heap.size W w' := by
  have s0 := (St.start W).new (c := #[.int .i64 8, .int .i64 a, .int .i64 b, .int .i64 m, .int .i64 kh, .int .i64 kw, .int .i64 sh, .int .i64 sw, .int .i64 tp, .int .i64 lf, .int .i64 bt, .int .i64 rt, .slice wa lw wc, .slice ba lb bc, .int .i64 sm, .int .i64 ss, .int .i64 um, .int .i64 us, .int .i64 z, .int .i64 p, .int .i64 lo, .int .i64 hi]) (t := 49)
  have S0 : Hid (St W _ _) := s0
  have ba1 := apV_i8 (m := sm) (s := ss) hu
  have bb1 := apV_i8 (m := um) (s := us) hv
  obtain ⟨u1, u2⟩ := hu
  obtain ⟨v1, v2⟩ := hv
  unfold eaV
  simp only [Int.reduceEq, if_true, if_false]
  have h8 : Hid (∀ x, IntKind.i8.wrap (Fx.fiV x z lo hi) = Fx.fiV x z lo hi) := fun x => i8w fiV_i8
  clear s0
  obtain ⟨c1, f1, z1, -⟩ := S0.out.rules
  go_enter Tryz.func31, Tryz.ntmps31
  go_wp2_with fail
  refine (Fx.reffinish_any _ z lo hi _).mono ?_
  rintro e w2 ⟨rfl, hb2⟩
  have S2 : Hid (St W w2 _) := S0.out.call (by first | exact hb2 | (rw [hb2]; exact Below.refl _ _))
  clear hb2 c1 f1 z1
  go_wp2_with fail
  rw [h8.out]
  go_wp2
  go_ret
  exact ⟨rfl, S2.out.below⟩
theorem each_any (k a b m kh kw sh sw tp lf bt rt : Int) (wa : Option Addr) (lw wc : Nat) (ba : Option Addr) (lb bc : Nat) (sm ss um us z p lo hi : Int) (u v : Int) (W : World) (hk : 6 ≤ k ∧ k ≤ 8) (hu : I8 u) (hv : I8 v) :
    Calls Tryz.prog 31 #[.agg #[.int .i64 k, .int .i64 a, .int .i64 b, .int .i64 m, .int .i64 kh, .int .i64 kw, .int .i64 sh, .int .i64 sw, .int .i64 tp, .int .i64 lf, .int .i64 bt, .int .i64 rt, .slice wa lw wc, .slice ba lb bc, .int .i64 sm, .int .i64 ss, .int .i64 um, .int .i64 us, .int .i64 z, .int .i64 p, .int .i64 lo, .int .i64 hi], .int .i8 u, .int .i8 v] W fun e w' => e = .returned (.int .i8 (eaV k sm ss um us z lo hi u v)) ∧ Below W.heap.size W w' := by
  rcases (show k = 6 ∨ k = 7 ∨ k = 8 by omega) with rfl | rfl | rfl
  · exact each_6 a b m kh kw sh sw tp lf bt rt wa lw wc ba lb bc sm ss um us z p lo hi u v W hu hv
  · exact each_7 a b m kh kw sh sw tp lf bt rt wa lw wc ba lb bc sm ss um us z p lo hi u v W hu hv
  · exact each_8 a b m kh kw sh sw tp lf bt rt wa lw wc ba lb bc sm ss um us z p lo hi u v W hu hv
end Go.Proofs.YtmcdpbnpnifdfaaGreat

/- What the document's own functions of an op return: Length, Positions, weight, Bias. -/
namespace Go.Proofs.YtmcdpbnpnifdfaaGreat
open Go.ChangeShapes Go.WideShapes Go.ChangeAt Go.RowKit
set_option linter.unusedVariables false
theorem list_cells {w : World} {B : Nat} {cs : Array Value} {T : TypeId} (h : w.heap[B]? = some (.cells cs T (0, 0))) {l : List Value} (hl : ∀ (q : Nat) (v : Value), l[q]? = some v → cs[q]? = some v) : ∀ (q : Nat) (v : Value), l[q]? = some v → w.cell? ((⟨B, 0, none⟩ : Addr).add q) = some v := fun q v hq => by
  rw [Addr.add_lit, Nat.zero_add, (cells_at h).1]
  exact hl q v hq
theorem front_get (l r : List Value) : ∀ (q : Nat) (v : Value), l[q]? = some v → (l ++ r).toArray[q]? = some v := fun q v hq => by
  have := (List.getElem?_eq_some_iff.1 hq).1
  rw [List.getElem?_toArray, List.getElem?_append_left this]
  exact hq
set_option maxRecDepth 100000 in
set_option maxHeartbeats 2000000 in
theorem rlen_any (k a b m kh kw sh sw tp lf bt rt : Int) (wa : Option Addr) (lw wc : Nat) (ba : Option Addr) (lb bc : Nat) (sm ss um us z p lo hi h w c H V C : Int) (W : World) (s : Sit k kh kw sh sw tp lf bt rt h w c H V C lw lb) :
    Calls Tryz.prog 29 #[.agg #[.int .i64 k, .int .i64 a, .int .i64 b, .int .i64 m, .int .i64 kh, .int .i64 kw, .int .i64 sh, .int .i64 sw, .int .i64 tp, .int .i64 lf, .int .i64 bt, .int .i64 rt, .slice wa lw wc, .slice ba lb bc, .int .i64 sm, .int .i64 ss, .int .i64 um, .int .i64 us, .int .i64 z, .int .i64 p, .int .i64 lo, .int .i64 hi, .int .i64 h, .int .i64 w, .int .i64 c, .int .i64 H, .int .i64 V, .int .i64 C]] W fun e w' => e = .returned (.int .i64 (stR k kh kw h w c)) ∧ Below W.heap.size W w' := by
  have s0 := (St.start W).new (c := #[.int .i64 k, .int .i64 a, .int .i64 b, .int .i64 m, .int .i64 kh, .int .i64 kw, .int .i64 sh, .int .i64 sw, .int .i64 tp, .int .i64 lf, .int .i64 bt, .int .i64 rt, .slice wa lw wc, .slice ba lb bc, .int .i64 sm, .int .i64 ss, .int .i64 um, .int .i64 us, .int .i64 z, .int .i64 p, .int .i64 lo, .int .i64 hi, .int .i64 h, .int .i64 w, .int .i64 c, .int .i64 H, .int .i64 V, .int .i64 C]) (t := 71)
  have hL : Hid (∀ W', _) := fun W' => length_any k a b m kh kw sh sw tp lf bt rt wa lw wc ba lb bc sm ss um us z p lo hi h w c W' (decide_eq_true s.1) s.2.1 (fun q => s.2.2.2.2.2.1 (by omega))
  have hC : Hid (∀ q v, [.int .i64 k, .int .i64 a, .int .i64 b, .int .i64 m, .int .i64 kh, .int .i64 kw, .int .i64 sh, .int .i64 sw, .int .i64 tp, .int .i64 lf, .int .i64 bt, .int .i64 rt, .slice wa lw wc, .slice ba lb bc, .int .i64 sm, .int .i64 ss, .int .i64 um, .int .i64 us, .int .i64 z, .int .i64 p, .int .i64 lo, .int .i64 hi][q]? = some v → (W.alloc (.cells #[.int .i64 k, .int .i64 a, .int .i64 b, .int .i64 m, .int .i64 kh, .int .i64 kw, .int .i64 sh, .int .i64 sw, .int .i64 tp, .int .i64 lf, .int .i64 bt, .int .i64 rt, .slice wa lw wc, .slice ba lb bc, .int .i64 sm, .int .i64 ss, .int .i64 um, .int .i64 us, .int .i64 z, .int .i64 p, .int .i64 lo, .int .i64 hi, .int .i64 h, .int .i64 w, .int .i64 c, .int .i64 H, .int .i64 V, .int .i64 C] 71)).cell? ((⟨W.heap.size, 0, none⟩ : Addr).add q) = some v) := list_cells (heap_alloc_new W _) (front_get [.int .i64 k, .int .i64 a, .int .i64 b, .int .i64 m, .int .i64 kh, .int .i64 kw, .int .i64 sh, .int .i64 sw, .int .i64 tp, .int .i64 lf, .int .i64 bt, .int .i64 rt, .slice wa lw wc, .slice ba lb bc, .int .i64 sm, .int .i64 ss, .int .i64 um, .int .i64 us, .int .i64 z, .int .i64 p, .int .i64 lo, .int .i64 hi] [.int .i64 h, .int .i64 w, .int .i64 c, .int .i64 H, .int .i64 V, .int .i64 C])
  clear s
  go_enter Tryz.func29, Tryz.ntmps29
  go_wp2_with (refine wpList_load_any rfl 49 (.tmp 3) rfl _ rfl [.int .i64 k, .int .i64 a, .int .i64 b, .int .i64 m, .int .i64 kh, .int .i64 kw, .int .i64 sh, .int .i64 sw, .int .i64 tp, .int .i64 lf, .int .i64 bt, .int .i64 rt, .slice wa lw wc, .slice ba lb bc, .int .i64 sm, .int .i64 ss, .int .i64 um, .int .i64 us, .int .i64 z, .int .i64 p, .int .i64 lo, .int .i64 hi] _ hC.out Tryz.underlying49 rfl (by kernel_rfl) ?_)
  refine (hL.out _).mono ?_
  rintro e w1 ⟨rfl, hb⟩
  have s1 := s0.call hb
  clear hb
  go_wp2
  go_ret
  exact ⟨rfl, s1.below⟩
set_option maxHeartbeats 2000000 in
theorem rpos_any (k a b m kh kw sh sw tp lf bt rt : Int) (wa : Option Addr) (lw wc : Nat) (ba : Option Addr) (lb bc : Nat) (sm ss um us z p lo hi h w c H V C : Int) (W : World) (g : vS H V C = true) :
    Calls Tryz.prog 45 #[.agg #[.int .i64 k, .int .i64 a, .int .i64 b, .int .i64 m, .int .i64 kh, .int .i64 kw, .int .i64 sh, .int .i64 sw, .int .i64 tp, .int .i64 lf, .int .i64 bt, .int .i64 rt, .slice wa lw wc, .slice ba lb bc, .int .i64 sm, .int .i64 ss, .int .i64 um, .int .i64 us, .int .i64 z, .int .i64 p, .int .i64 lo, .int .i64 hi, .int .i64 h, .int .i64 w, .int .i64 c, .int .i64 H, .int .i64 V, .int .i64 C]] W fun e w' => e = .returned (.int .i64 (H * V)) ∧ Below W.heap.size W w' := by
  have s0 := (St.start W).new (c := #[.int .i64 k, .int .i64 a, .int .i64 b, .int .i64 m, .int .i64 kh, .int .i64 kw, .int .i64 sh, .int .i64 sw, .int .i64 tp, .int .i64 lf, .int .i64 bt, .int .i64 rt, .slice wa lw wc, .slice ba lb bc, .int .i64 sm, .int .i64 ss, .int .i64 um, .int .i64 us, .int .i64 z, .int .i64 p, .int .i64 lo, .int .i64 hi, .int .i64 h, .int .i64 w, .int .i64 c, .int .i64 H, .int .i64 V, .int .i64 C]) (t := 71)
  have p3 := vS_bd g
  clear g
  go_enter Tryz.func45, Tryz.ntmps45
  go_wp2
  go_ret
  exact ⟨rfl, s0.below⟩
set_option maxHeartbeats 2000000 in
theorem rbias_any (k a b m kh kw sh sw tp lf bt rt : Int) (wa : Option Addr) (lw wc : Nat) (ba : Option Addr) (lb bc : Nat) (sm ss um us z p lo hi h w c H V C : Int) (W : World) (bs : List Int) (hB : IRow .i32 W ba lb bc bs) (s : Sit k kh kw sh sw tp lf bt rt h w c H V C lw lb) (ch : Int) (hc : 1 ≤ ch ∧ ch ≤ C) :
    Calls Tryz.prog 66 #[.agg #[.int .i64 k, .int .i64 a, .int .i64 b, .int .i64 m, .int .i64 kh, .int .i64 kw, .int .i64 sh, .int .i64 sw, .int .i64 tp, .int .i64 lf, .int .i64 bt, .int .i64 rt, .slice wa lw wc, .slice ba lb bc, .int .i64 sm, .int .i64 ss, .int .i64 um, .int .i64 us, .int .i64 z, .int .i64 p, .int .i64 lo, .int .i64 hi, .int .i64 h, .int .i64 w, .int .i64 c, .int .i64 H, .int .i64 V, .int .i64 C], .int .i64 ch] W fun e w' => e = .returned (.int .i64 (biA k ch bs)) ∧ Below W.heap.size W w' := by
  have s0 := (St.start W).new (c := #[.int .i64 k, .int .i64 a, .int .i64 b, .int .i64 m, .int .i64 kh, .int .i64 kw, .int .i64 sh, .int .i64 sw, .int .i64 tp, .int .i64 lf, .int .i64 bt, .int .i64 rt, .slice wa lw wc, .slice ba lb bc, .int .i64 sm, .int .i64 ss, .int .i64 um, .int .i64 us, .int .i64 z, .int .i64 p, .int .i64 lo, .int .i64 hi, .int .i64 h, .int .i64 w, .int .i64 c, .int .i64 H, .int .i64 V, .int .i64 C]) (t := 71)
  obtain ⟨hk, -, hv, -, -, -, hl, -⟩ := s
  have hC := (vS_yes hv).2.2.1
  by_cases k4 : k = 4
  · subst k4
    rw [show biA 4 ch bs = 0 from if_pos rfl]
    go_enter Tryz.func66, Tryz.ntmps66
    go_wp2
    go_ret
    exact ⟨rfl, s0.below⟩
  · rw [show biA k ch bs = bs.getD (ch - 1).toNat 0 from if_neg k4]
    have hl2 := (hl (by omega)).2
    obtain ⟨n, rfl⟩ : ∃ n : Nat, ch = (n : Int) + 1 := ⟨(ch - 1).toNat, by omega⟩
    have hm := hB.2.2.1
    have hcc := hB.2.1
    unfold maxLen at hm
    obtain ⟨x, u, rfl, hu, hwf, hz, -⟩ := (hB.below s0.below).at (show n < lb by omega)
    obtain ⟨u1, u2⟩ := wf_i32 hwf
    have e : bs.getD ((n : Int) + 1 - 1).toNat 0 = u := by rw [show ((n : Int) + 1 - 1).toNat = n by omega, List.getD_eq_getElem?_getD, hz]; rfl
    rw [e]
    have k4' : (k == 4) = false := by simp [k4]
    have HB : Hid (Below W.heap.size W _) := s0.below
    obtain ⟨c1, f1, z1, -⟩ := s0.rules
    clear e hz hwf hB hl
    go_enter Tryz.func66, Tryz.ntmps66
    go_wp2
    go_ret
    exact ⟨rfl, HB.out⟩
set_option maxRecDepth 100000 in
set_option maxHeartbeats 4000000 in
theorem rwei_any (k a b m kh kw sh sw tp lf bt rt : Int) (wa : Option Addr) (lw wc : Nat) (ba : Option Addr) (lb bc : Nat) (sm ss um us z p lo hi h w c H V C : Int) (W : World) (zs : List Int) (hZ : IRow .i16 W wa lw wc zs) (s : Sit k kh kw sh sw tp lf bt rt h w c H V C lw lb) (ch : Int) (hc : 1 ≤ ch ∧ ch ≤ C) (i : Nat) (hi0 : (i : Int) < stR k kh kw h w c) :
    Calls Tryz.prog 89 #[.agg #[.int .i64 k, .int .i64 a, .int .i64 b, .int .i64 m, .int .i64 kh, .int .i64 kw, .int .i64 sh, .int .i64 sw, .int .i64 tp, .int .i64 lf, .int .i64 bt, .int .i64 rt, .slice wa lw wc, .slice ba lb bc, .int .i64 sm, .int .i64 ss, .int .i64 um, .int .i64 us, .int .i64 z, .int .i64 p, .int .i64 lo, .int .i64 hi, .int .i64 h, .int .i64 w, .int .i64 c, .int .i64 H, .int .i64 V, .int .i64 C], .int .i64 ch, .int .i64 i] W fun e w' => e = .returned (.int .i64 (wgA k ch (stR k kh kw h w c) zs i)) ∧ Below W.heap.size W w' := by
  have hL : Hid (∀ W', Calls Tryz.prog 29 #[.agg #[.int .i64 k, .int .i64 a, .int .i64 b, .int .i64 m, .int .i64 kh, .int .i64 kw, .int .i64 sh, .int .i64 sw, .int .i64 tp, .int .i64 lf, .int .i64 bt, .int .i64 rt, .slice wa lw wc, .slice ba lb bc, .int .i64 sm, .int .i64 ss, .int .i64 um, .int .i64 us, .int .i64 z, .int .i64 p, .int .i64 lo, .int .i64 hi, .int .i64 h, .int .i64 w, .int .i64 c, .int .i64 H, .int .i64 V, .int .i64 C]] W' fun e w' => e = .returned (.int .i64 (stR k kh kw h w c)) ∧ Below W'.heap.size W' w') := fun W' => rlen_any k a b m kh kw sh sw tp lf bt rt wa lw wc ba lb bc sm ss um us z p lo hi h w c H V C W' s
  have s0 := (St.start W).new (c := #[.int .i64 k, .int .i64 a, .int .i64 b, .int .i64 m, .int .i64 kh, .int .i64 kw, .int .i64 sh, .int .i64 sw, .int .i64 tp, .int .i64 lf, .int .i64 bt, .int .i64 rt, .slice wa lw wc, .slice ba lb bc, .int .i64 sm, .int .i64 ss, .int .i64 um, .int .i64 us, .int .i64 z, .int .i64 p, .int .i64 lo, .int .i64 hi, .int .i64 h, .int .i64 w, .int .i64 c, .int .i64 H, .int .i64 V, .int .i64 C]) (t := 71)
  obtain ⟨hk, -, hv, -, -, -, hl, -, hst0, hst1⟩ := s
  have hC := (vS_yes hv).2.2.1
  obtain ⟨st, hst⟩ : ∃ st, stR k kh kw h w c = st := ⟨_, rfl⟩
  rw [hst] at hL hl hst0 hst1 hi0 ⊢
  clear hst hv
  by_cases k4 : k = 4
  · subst k4
    rw [show wgA 4 ch st zs i = 1 from if_pos rfl]
    go_enter Tryz.func89, Tryz.ntmps89
    go_wp2
    go_ret
    exact ⟨rfl, s0.below⟩
  · rw [show wgA k ch st zs i = zs.getD ((ch - 1) * st + i).toNat 0 from if_neg k4]
    have hl2 := (hl (by omega)).1
    obtain ⟨d, rfl⟩ : ∃ d : Nat, ch = (d : Int) + 1 := ⟨(ch - 1).toNat, by omega⟩
    have hm := hZ.2.2.1
    have hcc := hZ.2.1
    unfold maxLen at hm
    have p1 : 0 ≤ (d : Int) * st := Int.mul_nonneg (by omega) (by omega)
    have p2 : (d : Int) * st + st ≤ C * st := by
      have := Int.mul_le_mul_of_nonneg_right (show (d : Int) + 1 ≤ C by omega) (show 0 ≤ st by omega)
      rwa [Int.add_mul, Int.one_mul] at this
    obtain ⟨p', ep⟩ : ∃ p', (d : Int) * st = p' := ⟨_, rfl⟩
    rw [show (d : Int) + 1 - 1 = d by omega, ep]
    rw [ep] at p1 p2
    rw [← hl2] at p2
    obtain ⟨N, eN⟩ : ∃ N : Nat, p' + (i : Int) = (N : Int) := ⟨(p' + i).toNat, by omega⟩
    rw [eN]
    have hN : N < lw := by omega
    have hZ2 := hZ.below s0.below
    obtain ⟨x, u, rfl, hu, hwf, hz, -⟩ := hZ2.at hN
    obtain ⟨u1, u2⟩ := wf_i16 hwf
    have e : zs.getD ((N : Int)).toNat 0 = u := by rw [Int.toNat_natCast, List.getD_eq_getElem?_getD, hz]; rfl
    rw [e]
    have k4' : (k == 4) = false := by simp [k4]
    have hd1 : (d : Int) + 1 ≤ 1024 := by omega
    have hi2 : (i : Int) ≤ 512 := by omega
    have hNl : (N : Int) < (lw : Int) := by omega
    clear e hz hwf hl hl2 hC hc hZ hZ2
    go_enter Tryz.func89, Tryz.ntmps89
    go_upto_region 3 with fail
    obtain ⟨wv, hwv⟩ : ∃ wv, W.alloc (.cells #[.int .i64 k, .int .i64 a, .int .i64 b, .int .i64 m, .int .i64 kh, .int .i64 kw, .int .i64 sh, .int .i64 sw, .int .i64 tp, .int .i64 lf, .int .i64 bt, .int .i64 rt, .slice (some x) lw wc, .slice ba lb bc, .int .i64 sm, .int .i64 ss, .int .i64 um, .int .i64 us, .int .i64 z, .int .i64 p, .int .i64 lo, .int .i64 hi, .int .i64 h, .int .i64 w, .int .i64 c, .int .i64 H, .int .i64 V, .int .i64 C] 71) = wv := ⟨_, rfl⟩
    rw [hwv] at s0 hu ⊢
    have hbel : Hid (Below W.heap.size W wv) := s0.below
    have hG := s0.h1
    have hGz := lt_of_heap hG
    have hux : Hid ((x.add N).block < wv.heap.size) := World.block_lt_of_cell? _ _ hu
    clear s0 hwv
    refine regionC (fun w' => Below wv.heap.size wv w') (by kernel_rfl) ?_
    obtain ⟨wd, hwd⟩ : ∃ wd, wv.drew = wd := ⟨_, rfl⟩
    have HD : Hid (Below wv.heap.size wv wd) := by unfold Hid; rw [← hwd]; exact (Below.refl _ _).drew
    rw [hwd]
    clear hwd
    refine takeC 0 (v := .pointer (some ⟨W.heap.size, 0, none⟩)) rfl rfl (by kernel_rfl) (by kernel_rfl) (by kernel_rfl) (fun _ _ _ h => h) (fun _ => rfl) rfl (fun w' hw' => by go_simp) ?_
    refine takeC 1 (v := .pointer (some ⟨W.heap.size, 12, none⟩)) rfl rfl (by kernel_rfl) (by kernel_rfl) (by kernel_rfl) (fun _ _ _ h => h) (fun _ => rfl) rfl (fun w' hw' => by go_simp) ?_
    refine takeC 2 (v := .slice (some x) lw wc) rfl rfl (by kernel_rfl) (by kernel_rfl) (by kernel_rfl) (fun _ _ _ h => h) (fun _ => rfl) rfl (fun w' hw' => by have hc := (cells_at ((hw'.block _ hGz).trans hG)).1 12; go_simp) ?_
    refine takeC 3 (v := .int .i64 ((d : Int) + 1)) rfl rfl (by kernel_rfl) (by kernel_rfl) (by kernel_rfl) (fun _ _ _ h => h) (fun _ => rfl) rfl (fun w' hw' => by go_simp) ?_
    refine takeC 4 (v := .int .i64 (d : Int)) rfl rfl (by kernel_rfl) (by kernel_rfl) (by kernel_rfl) (fun _ _ _ h => h) (fun _ => rfl) rfl (fun w' hw' => by go_simp; rw [IntKind.wrap_i64]; omega) ?_
    refine takeC 5 (v := .agg #[.int .i64 k, .int .i64 a, .int .i64 b, .int .i64 m, .int .i64 kh, .int .i64 kw, .int .i64 sh, .int .i64 sw, .int .i64 tp, .int .i64 lf, .int .i64 bt, .int .i64 rt, .slice (some x) lw wc, .slice ba lb bc, .int .i64 sm, .int .i64 ss, .int .i64 um, .int .i64 us, .int .i64 z, .int .i64 p, .int .i64 lo, .int .i64 hi, .int .i64 h, .int .i64 w, .int .i64 c, .int .i64 H, .int .i64 V, .int .i64 C]) rfl rfl (by kernel_rfl) (by kernel_rfl) (by kernel_rfl) (fun _ _ _ h => h) (fun _ => rfl) rfl (fun w' hw' => run_la 71 (.tmp 3) rfl ⟨W.heap.size, 0, none⟩ (by kernel_rfl) [.int .i64 k, .int .i64 a, .int .i64 b, .int .i64 m, .int .i64 kh, .int .i64 kw, .int .i64 sh, .int .i64 sw, .int .i64 tp, .int .i64 lf, .int .i64 bt, .int .i64 rt, .slice (some x) lw wc, .slice ba lb bc, .int .i64 sm, .int .i64 ss, .int .i64 um, .int .i64 us, .int .i64 z, .int .i64 p, .int .i64 lo, .int .i64 hi, .int .i64 h, .int .i64 w, .int .i64 c, .int .i64 H, .int .i64 V, .int .i64 C] _ (list_cells ((hw'.block _ hGz).trans hG) (fun q v hq => by simpa using hq)) Tryz.underlying71 rfl (by kernel_rfl)) ?_
    refine takeC 8 (v := .int .i64 (i : Int)) rfl rfl (by kernel_rfl) (by kernel_rfl) (by kernel_rfl) (fun _ _ _ h => h) (fun _ => rfl) rfl (fun w' hw' => by go_simp) ?_
    refine stepC 6 HD.out (by kernel_rfl) rfl (fun K hK => step_wp rfl ?_)
    go_simp
    refine (hL.out _).mono ?_
    rintro e w3 ⟨rfl, hb3⟩
    refine hK _ _ ?_
    clear hK K
    have H3 : Hid (Below wv.heap.size wv w3) := HD.out.trans (hb3.mono HD.out.size)
    clear hb3 HD
    refine takeC 7 (v := .int .i64 p') rfl rfl (by kernel_rfl) (by kernel_rfl) (by kernel_rfl) (fun _ _ _ h => h) (fun _ => rfl) rfl (fun w' hw' => by go_simp; try (rw [IntKind.wrap_i64]; omega)) ?_
    refine takeC 9 (v := .int .i64 (N : Int)) rfl rfl (by kernel_rfl) (by kernel_rfl) (by kernel_rfl) (fun _ _ _ h => h) (fun _ => rfl) rfl (fun w' hw' => by go_simp; try (rw [IntKind.wrap_i64]; omega)) ?_
    refine takeC 10 (v := .pointer (some (x.add N))) rfl rfl (by kernel_rfl) (by kernel_rfl) (by kernel_rfl) (fun _ _ _ h => h) (fun _ => rfl) rfl (fun w' hw' => by go_simp) ?_
    refine takeC 11 (v := .int .i16 u) rfl rfl (by kernel_rfl) (by kernel_rfl) (by kernel_rfl) (fun _ _ _ h => h) (fun _ => rfl) rfl (fun w' hw' => by have hc := (hw'.cell hux.out).trans hu; go_simp) ?_
    refine takeC 12 (v := .int .i64 u) rfl rfl (by kernel_rfl) (by kernel_rfl) (by kernel_rfl) (fun _ _ _ h => h) (fun _ => rfl) rfl (fun w' hw' => by go_simp; try (rw [IntKind.wrap_i64]; omega)) ?_
    refine takeC 13 (v := .int .i64 u) rfl rfl (by kernel_rfl) (by kernel_rfl) (by kernel_rfl) (fun _ _ _ h => h) (fun _ => rfl) rfl (fun w' hw' => by go_simp) ?_
    refine doneC H3.out (by kernel_rfl) ?_ _
    go_wp2
    go_ret
    exact ⟨rfl, hbel.out.trans (H3.out.mono hbel.out.size)⟩
end Go.Proofs.YtmcdpbnpnifdfaaGreat
