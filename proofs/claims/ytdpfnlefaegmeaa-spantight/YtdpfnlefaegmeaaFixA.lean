/- What the inner functions of package fixq, Shift, Mean and Finish return: each for every argument that fits its type. -/
import Derived.Test.YtdpfnlefaegmeaaFixM
import Derived.BigQuiet
import Derived.Below
import Derived.WalkSmall
namespace Go.Proofs.Ytdpfnlefaegmeaa
open Go.ChangeShapes Go.WideShapes Go.ChangeAt Go.RowKit
theorem tdiv_neg' (x d : Int) (hx : x < 0) : x.tdiv d = -((-x) / d) ∧ x.tmod d = -((-x) % d) := by
  have e := Int.tmod_eq_emod_of_nonneg (a := -x) (b := d) (by omega)
  have f := Int.tdiv_eq_ediv_of_nonneg (a := -x) (b := d) (by omega)
  rw [Int.neg_tmod] at e
  rw [Int.neg_tdiv] at f
  omega
theorem drewN_below (w : World) (n : Nat) : Below w.heap.size w (w.drewN n) := below_drewN (Below.refl _ _) n
theorem rq_any (x d : Int) (w : World) (hx : I64 x) (d1 : 1 ≤ d) (d2 : d ≤ 9223372036854775807) :
    Calls Try.prog 51 #[.int .i64 x, .int .i64 d] w fun e w' => e = .returned (.int .i64 (rq x d)) ∧ Below w.heap.size w w' := by
  obtain ⟨x1, x2⟩ := hx
  have hd0 : (d == 0) = false := by simp; omega
  by_cases c : x < 0
  · have HR : Hid (rq x d = -(hq (-x) d)) := by unfold Hid rq; rw [if_pos c]
    obtain ⟨b1, b2⟩ := hq_bd (-x) d (by omega) d1
    have ht := tdiv_neg' x d c
    have r0 := Int.emod_nonneg (-x) (show d ≠ 0 by omega)
    have r1 := Int.emod_lt_of_pos (-x) (show 0 < d by omega)
    have q0 := Int.ediv_nonneg (show 0 ≤ -x by omega) (show 0 ≤ d by omega)
    have q1 := Int.ediv_le_self (d) (show 0 ≤ -x by omega)
    by_cases c2 : d ≤ 2 * (-x % d)
    · have HH : Hid (hq (-x) d = -x / d + 1) := by unfold Hid hq; rw [if_pos c2]
      rw [HH.out] at b2
      obtain ⟨q, hq'⟩ : ∃ q, q = -x / d := ⟨_, rfl⟩
      obtain ⟨r, hr'⟩ : ∃ r, r = -x % d := ⟨_, rfl⟩
      rw [← hq', ← hr'] at ht
      rw [← hr'] at r0 r1 c2
      rw [← hq'] at q0 q1 b2
      have HQ : Hid (q = -x / d) := hq'
      obtain ⟨t1, t2⟩ := ht
      clear b1 hq' hr'
      have c3 : ¬ 0 < -r := by omega
      have c4 : -r < 0 := by omega
      have c5 : d + -r ≤ - -r := by omega
      clear c2
      go_enter Try.func51, Try.ntmps51
      go_wp2
      go_quiet (fail)
      go_wp2
      go_ret
      exact ⟨ret1 (by rw [HR.out, HH.out, ← HQ.out]; omega), drewN_below _ _⟩
    · have HH : Hid (hq (-x) d = -x / d) := by unfold Hid hq; rw [if_neg c2]
      rw [HH.out] at b2
      obtain ⟨q, hq'⟩ : ∃ q, q = -x / d := ⟨_, rfl⟩
      obtain ⟨r, hr'⟩ : ∃ r, r = -x % d := ⟨_, rfl⟩
      rw [← hq', ← hr'] at ht
      rw [← hr'] at r0 r1 c2
      rw [← hq'] at q0 q1 b2
      have HQ : Hid (q = -x / d) := hq'
      obtain ⟨t1, t2⟩ := ht
      clear b1 hq' hr'
      have c3 : ¬ 0 < -r := by omega
      have c5 : ¬ d + -r ≤ - -r := by omega
      clear c2
      by_cases c4 : -r < 0
      all_goals
        go_enter Try.func51, Try.ntmps51
        go_wp2
        go_quiet (fail)
        go_wp2
        go_ret
        exact ⟨ret1 (by rw [HR.out, HH.out, ← HQ.out]), drewN_below _ _⟩
  · have HR : Hid (rq x d = hq x d) := by unfold Hid rq; rw [if_neg c]
    obtain ⟨b1, b2⟩ := hq_bd x d (by omega) d1
    have r0 := Int.emod_nonneg x (show d ≠ 0 by omega)
    have r1 := Int.emod_lt_of_pos x (show 0 < d by omega)
    have q0 := Int.ediv_nonneg (show 0 ≤ x by omega) (show 0 ≤ d by omega)
    have q1 := Int.ediv_le_self (d) (show 0 ≤ x by omega)
    by_cases c2 : d ≤ 2 * (x % d)
    · have HH : Hid (hq x d = x / d + 1) := by unfold Hid hq; rw [if_pos c2]
      rw [HH.out] at b2
      clear b1
      have c3 : 0 < x % d := by omega
      have c4 : d - x % d ≤ x % d := by omega
      clear c2
      go_enter Try.func51, Try.ntmps51
      go_wp2
      go_quiet (fail)
      go_wp2
      go_ret
      exact ⟨ret1 (by rw [HR.out, HH.out]), drewN_below _ _⟩
    · have HH : Hid (hq x d = x / d) := by unfold Hid hq; rw [if_neg c2]
      rw [HH.out] at b2
      clear b1
      have c4 : ¬ d - x % d ≤ x % d := by omega
      have c5 : ¬ x % d < 0 := by omega
      clear c2
      by_cases c3 : 0 < x % d
      all_goals
        go_enter Try.func51, Try.ntmps51
        go_wp2
        go_quiet (fail)
        go_wp2
        go_ret
        exact ⟨ret1 (by rw [HR.out, HH.out]), drewN_below _ _⟩
def shB (n : Int) : Bool := decide (0 ≤ n ∧ n ≤ 62)
def shV (x n : Int) : Int := if shB n = true then rq x (p2 n) else 0
def shE (n : Int) : Int := if shB n = true then 0 else 20
theorem p2_wrap (n : Int) (h : n ≤ 62) : wrap64 (2 ^ n.toNat) = p2 n := by
  have h1 := p2_pos n
  have h2 := p2_le n h
  show wrap64 (p2 n) = p2 n
  exact IntWalk.wrap64_in _ ⟨by omega, by omega⟩
theorem reach_any (n : Int) (w : World) :
    Calls Try.prog 50 #[.int .i64 n] w fun e w' => e = .returned (.bool (shB n)) ∧ w' = w := by
  by_cases c : 0 ≤ n
  · have HR : Hid (decide (n ≤ 62) = shB n) := by unfold Hid shB; simp [c]
    go_enter Try.func50, Try.ntmps50
    go_wp2
    go_ret
    exact ⟨retB HR.out, rfl⟩
  · have HR : Hid (false = shB n) := by unfold Hid shB; simp; omega
    go_enter Try.func50, Try.ntmps50
    go_wp2
    go_ret
    exact ⟨retB HR.out, rfl⟩
theorem shift_any (x n : Int) (w : World) (hx : I64 x) :
    Calls Try.prog 46 #[.int .i64 x, .int .i64 n] w fun e w' => e = .returned (.tuple #[.int .i64 (shV x n), .int .i64 (shE n)]) ∧ Below w.heap.size w w' := by
  cases hb : shB n with
  | true =>
    have HV : Hid (shV x n = rq x (p2 n)) := by unfold Hid shV; rw [if_pos hb]
    have HE : Hid (shE n = 0) := by unfold Hid shE; rw [if_pos hb]
    rw [HV.out, HE.out]
    have hn : 0 ≤ n ∧ n ≤ 62 := by unfold shB at hb; simpa using hb
    obtain ⟨n1, n2⟩ := hn
    have h1 := p2_pos n
    have h2 := p2_le n n2
    have HP : Hid (wrap64 (2 ^ n.toNat) = p2 n) := p2_wrap n n2
    go_enter Try.func46, Try.ntmps46
    go_wp2_with fail
    refine (reach_any _ _).mono ?_
    rintro e w' ⟨rfl, rfl⟩
    go_wp2_with fail
    rw [HP.out]
    refine (rq_any _ _ _ hx h1 (by omega)).mono ?_
    rintro e w1 ⟨rfl, hw⟩
    go_wp2
    go_ret2
    exact ⟨rfl, hw⟩
  | false =>
    have HV : Hid (shV x n = 0) := by unfold Hid shV; rw [hb, if_neg (by decide)]
    have HE : Hid (shE n = 20) := by unfold Hid shE; rw [hb, if_neg (by decide)]
    rw [HV.out, HE.out]
    go_enter Try.func46, Try.ntmps46
    go_wp2_with fail
    refine (reach_any _ _).mono ?_
    rintro e w' ⟨rfl, rfl⟩
    go_wp2
    go_ret2
    exact ⟨rfl, Below.refl _ _⟩
def meV (x n : Int) : Int := if n < 1 then 0 else rq x n
def meE (n : Int) : Int := if n < 1 then 2 else 0
def vaB (x : Int) : Bool := decide (-128 ≤ x ∧ x ≤ 127)
def fiB (z lo hi : Int) : Bool := decide (-128 ≤ lo ∧ lo ≤ hi ∧ hi ≤ 127 ∧ -128 ≤ z ∧ z ≤ 127)
def fiV (v z lo hi : Int) : Int := if fiB z lo hi = true then clampV (v + z) lo hi else 0
def fiE (z lo hi : Int) : Int := if fiB z lo hi = true then 0 else 85
theorem clamp_moved (v z lo hi : Int) : clampV v (lo - z) (hi - z) + z = clampV (v + z) lo hi := by
  unfold clampV
  by_cases c1 : hi - z < v
  · rw [if_pos c1, if_pos (show hi < v + z by omega)]; omega
  · rw [if_neg c1, if_neg (show ¬ hi < v + z by omega)]
    by_cases c2 : v < lo - z
    · rw [if_pos c2, if_pos (show v + z < lo by omega)]; omega
    · rw [if_neg c2, if_neg (show ¬ v + z < lo by omega)]
theorem clamp_in_ends (v lo hi : Int) (h : lo ≤ hi) : lo ≤ clampV v lo hi ∧ clampV v lo hi ≤ hi := by
  unfold clampV; split
  · omega
  · split <;> omega
end Go.Proofs.Ytdpfnlefaegmeaa
