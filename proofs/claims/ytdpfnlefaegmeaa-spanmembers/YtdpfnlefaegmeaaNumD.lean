/- Mul, and the document's Mul: each for every argument that fits its type. -/
import Derived.Test.YtdpfnlefaegmeaaNumC
import Derived.Test.YtdpfnlefaegmeaaSiz
namespace Go.Proofs.Ytdpfnlefaegmeaa
open Go.ChangeShapes Go.WideShapes Go.ChangeAt Go.RowKit

/-! ### Plain numbers -/
theorem mul_tells (a b : Int) (ha : I64 a) (hb : I64 b) (h0 : a ≠ 0) (hm : a ≠ -1) :
    (-9223372036854775808 ≤ a * b ∧ a * b ≤ 9223372036854775807 → wrap64 (a * b) = a * b ∧ wrap64 ((wrap64 (a * b)).tdiv a) = b) ∧
    (¬ (-9223372036854775808 ≤ a * b ∧ a * b ≤ 9223372036854775807) → wrap64 ((wrap64 (a * b)).tdiv a) ≠ b) := by
  obtain ⟨a1, a2⟩ := ha
  obtain ⟨b1, b2⟩ := hb
  constructor
  · intro h
    have e : wrap64 (a * b) = a * b := IntWalk.wrap64_in _ h
    refine ⟨e, ?_⟩
    rw [e, Int.mul_tdiv_cancel_left _ h0]
    exact IntWalk.wrap64_in _ ⟨b1, b2⟩
  · intro h he
    have hp : ∃ k : Int, wrap64 (a * b) = a * b - 18446744073709551616 * k ∧ -9223372036854775808 ≤ wrap64 (a * b) ∧ wrap64 (a * b) ≤ 9223372036854775807 := by
      refine ⟨(a * b + 9223372036854775808) / 18446744073709551616, ?_⟩
      unfold wrap64
      generalize a * b = m
      omega
    obtain ⟨k, hk, p1, p2⟩ := hp
    generalize wrap64 (a * b) = p at he hk p1 p2
    generalize hab : a * b = m at h hk
    have hq : -9223372036854775808 ≤ p.tdiv a ∧ p.tdiv a ≤ 9223372036854775807 := by
      have hn := Int.natAbs_tdiv p a
      by_cases e1 : a = 1
      · rw [e1, Int.tdiv_one]; omega
      · have h2 : 2 ≤ a.natAbs := by omega
        have := Nat.div_le_div_left (a := p.natAbs) h2 (by omega)
        have hn' : (p.tdiv a).natAbs = p.natAbs / a.natAbs := hn
        omega
    rw [IntWalk.wrap64_in _ hq] at he
    have hr := Int.mul_tdiv_add_tmod p a
    rw [he, hab] at hr
    have hb := Int.natAbs_tmod p a
    have hlt := Nat.mod_lt p.natAbs (show 0 < a.natAbs by omega)
    rw [← hb] at hlt
    omega

theorem sizeV_mul (a b : Int) : a * b = if decide (a < 0) != decide (b < 0) then -(sizeV a * sizeV b) else sizeV a * sizeV b := by
  unfold sizeV
  by_cases h : a < 0 <;> by_cases g : b < 0 <;> simp [h, g, Int.neg_mul, Int.mul_neg]
theorem div_lt (x y : Int) (hy : 0 < y) : 9223372036854775808 / y < x ↔ 9223372036854775808 < x * y := Int.ediv_lt_iff_lt_mul hy

/-! ### Mul -/
theorem mul_any (a b : Int) (w : World) (ha : I64 a) (hb : I64 b) :
    Calls Try.prog 33 #[.int .i64 a, .int .i64 b] w fun e w' => e = .returned (.tuple #[.int .i64 (okV (a * b)), .int .i64 (okE (a * b))]) ∧ w' = w := by
  by_cases h0 : a = 0
  · subst h0
    have HR : Hid ((0 : Int) * b = 0) := Int.zero_mul b
    rw [HR.out]
    rw [okV_in _ (by omega), okE_in _ (by omega)]
    clear ha hb HR
    go_enter Try.func33, Try.ntmps33
    go_wp2
    go_ret2
    exact ⟨rfl, rfl⟩
  · by_cases hm : a = -1
    · subst hm
      have HR : Hid ((-1 : Int) * b = -b) := by unfold Hid; omega
      rw [HR.out]
      clear ha HR h0
      go_enter Try.func33, Try.ntmps33
      go_wp2_with fail
      refine (sub_any _ _ _ (by unfold I64; omega) hb).mono ?_
      rintro e w' ⟨rfl, rfl⟩
      rw [Int.zero_sub]
      go_wp2
      go_ret2
      exact ⟨rfl, rfl⟩
    · have ht := mul_tells a b ha hb h0 hm
      have q0 : (a == 0) = false := by simpa using h0
      have qm : (a == -1) = false := by simpa using hm
      by_cases h : -9223372036854775808 ≤ a * b ∧ a * b ≤ 9223372036854775807
      · rw [okV_in _ h, okE_in _ h]
        obtain ⟨t1, t2⟩ := ht.1 h
        have HV : Hid (wrap64 (a * b) = a * b) := t1
        have qn : (wrap64 ((wrap64 (a * b)).tdiv a) != b) = false := by rw [t2]; simp
        clear t1 t2 ht hm h ha hb
        go_enter Try.func33, Try.ntmps33
        go_wp2
        go_ret2
        exact ⟨ret2 HV.out rfl, rfl⟩
      · rw [okV_out _ h, okE_out _ h]
        have qn : (wrap64 ((wrap64 (a * b)).tdiv a) != b) = true := by simpa using ht.2 h
        clear ht hm h ha hb
        go_enter Try.func33, Try.ntmps33
        go_wp2
        go_ret2
        exact ⟨rfl, rfl⟩
/-! ### The document's Mul, by the sizes -/
set_option maxHeartbeats 600000 in
theorem refmul_any (a b : Int) (w : World) (ha : I64 a) (hb : I64 b) :
    Calls Try.prog 38 #[.int .i64 a, .int .i64 b] w fun e w' => e = .returned (.tuple #[.int .i64 (okV (a * b)), .int .i64 (okE (a * b))]) ∧ w' = w := by
  obtain ⟨x1, x2⟩ := sizeV_bd a ha
  obtain ⟨y1, y2⟩ := sizeV_bd b hb
  by_cases h0 : sizeV a = 0 ∨ sizeV b = 0
  · have hz : a * b = 0 := by
      rw [sizeV_mul]; rcases h0 with h | h <;> rw [h] <;> simp
    rw [hz, okV_in _ (by omega), okE_in _ (by omega)]
    clear hz
    by_cases c : sizeV a = 0
    · have q : (sizeV a == 0) = true := by simpa using c
      clear h0 c
      go_enter Try.func38, Try.ntmps38
      go_wp2_with fail
      refine (size_any _ _ ha).mono ?_
      rintro e w' ⟨rfl, rfl⟩
      go_wp2_with fail
      refine (size_any _ _ hb).mono ?_
      rintro e w' ⟨rfl, rfl⟩
      go_wp2
      go_ret2
      exact ⟨rfl, rfl⟩
    · have q : (sizeV a == 0) = false := by simpa using c
      have q2 : (sizeV b == 0) = true := by rcases h0 with h | h; exact absurd h c; simpa using h
      clear h0 c
      go_enter Try.func38, Try.ntmps38
      go_wp2_with fail
      refine (size_any _ _ ha).mono ?_
      rintro e w' ⟨rfl, rfl⟩
      go_wp2_with fail
      refine (size_any _ _ hb).mono ?_
      rintro e w' ⟨rfl, rfl⟩
      go_wp2
      go_ret2
      exact ⟨rfl, rfl⟩
  · have q : (sizeV a == 0) = false := by simp; omega
    have q2 : (sizeV b == 0) = false := by simp; omega
    have hy : 0 < sizeV b := by omega
    have hd := div_lt (sizeV a) (sizeV b) hy
    have hnn := Int.mul_nonneg x1 y1
    have hs := sizeV_mul a b
    clear h0
    by_cases c : 9223372036854775808 / sizeV b < sizeV a
    · have hbig := hd.1 c
      have ho : ¬ (-9223372036854775808 ≤ a * b ∧ a * b ≤ 9223372036854775807) := by
        rw [hs]; split <;> omega
      rw [okV_out _ ho, okE_out _ ho]
      clear hs ho hd hbig hnn
      go_enter Try.func38, Try.ntmps38
      go_wp2_with fail
      refine (size_any _ _ ha).mono ?_
      rintro e w' ⟨rfl, rfl⟩
      go_wp2_with fail
      refine (size_any _ _ hb).mono ?_
      rintro e w' ⟨rfl, rfl⟩
      go_wp2
      go_ret2
      exact ⟨rfl, rfl⟩
    · have hle : sizeV a * sizeV b ≤ 9223372036854775808 := by
        refine Int.not_lt.1 fun hh => c (hd.2 hh)
      have hdx : decide (sizeV a > 9223372036854775808 / sizeV b) = false := by simpa using c
      clear hd
      by_cases ca : a < 0 <;> by_cases cb : b < 0
      · have e : (decide (a < 0) != decide (b < 0)) = false := by simp [ca, cb]
        have qa : decide (a < 0) = true := by simp [ca]
        have qb : decide (b < 0) = true := by simp [cb]
        rw [e, if_neg (by decide)] at hs
        have HS : Hid (a * b = sizeV a * sizeV b) := hs
        clear hs e
        rw [HS.out]
        clear HS
        by_cases ct : sizeV a * sizeV b < 9223372036854775808
        · rw [okV_in _ (by omega), okE_in _ (by omega)]
          go_enter Try.func38, Try.ntmps38
          go_wp2_with fail
          refine (size_any _ _ ha).mono ?_
          rintro e w' ⟨rfl, rfl⟩
          go_wp2_with fail
          refine (size_any _ _ hb).mono ?_
          rintro e w' ⟨rfl, rfl⟩
          go_wp2_with fail
          refine (signed_pos _ _ hnn ct).mono ?_
          rintro e w' ⟨rfl, rfl⟩
          go_wp2
          go_ret2
          exact ⟨rfl, rfl⟩
        · rw [okV_out _ (by omega), okE_out _ (by omega)]
          have ct2 : 9223372036854775808 ≤ sizeV a * sizeV b := by omega
          clear ct
          go_enter Try.func38, Try.ntmps38
          go_wp2_with fail
          refine (size_any _ _ ha).mono ?_
          rintro e w' ⟨rfl, rfl⟩
          go_wp2_with fail
          refine (size_any _ _ hb).mono ?_
          rintro e w' ⟨rfl, rfl⟩
          go_wp2_with fail
          refine (signed_over _ _ ct2).mono ?_
          rintro e w' ⟨rfl, rfl⟩
          go_wp2
          go_ret2
          exact ⟨rfl, rfl⟩
      · have e : (decide (a < 0) != decide (b < 0)) = true := by simp [ca, cb]
        have qa : decide (a < 0) = true := by simp [ca]
        have qb : decide (b < 0) = false := by simp [cb]
        rw [e, if_pos rfl] at hs
        have HS : Hid (a * b = -(sizeV a * sizeV b)) := hs
        clear hs e
        rw [HS.out, okV_in _ (by omega), okE_in _ (by omega)]
        clear HS
        go_enter Try.func38, Try.ntmps38
        go_wp2_with fail
        refine (size_any _ _ ha).mono ?_
        rintro e w' ⟨rfl, rfl⟩
        go_wp2_with fail
        refine (size_any _ _ hb).mono ?_
        rintro e w' ⟨rfl, rfl⟩
        go_wp2_with fail
        refine (signed_neg _ _ hnn hle).mono ?_
        rintro e w' ⟨rfl, rfl⟩
        go_wp2
        go_ret2
        exact ⟨rfl, rfl⟩
      · have e : (decide (a < 0) != decide (b < 0)) = true := by simp [ca, cb]
        have qa : decide (a < 0) = false := by simp [ca]
        have qb : decide (b < 0) = true := by simp [cb]
        rw [e, if_pos rfl] at hs
        have HS : Hid (a * b = -(sizeV a * sizeV b)) := hs
        clear hs e
        rw [HS.out, okV_in _ (by omega), okE_in _ (by omega)]
        clear HS
        go_enter Try.func38, Try.ntmps38
        go_wp2_with fail
        refine (size_any _ _ ha).mono ?_
        rintro e w' ⟨rfl, rfl⟩
        go_wp2_with fail
        refine (size_any _ _ hb).mono ?_
        rintro e w' ⟨rfl, rfl⟩
        go_wp2_with fail
        refine (signed_neg _ _ hnn hle).mono ?_
        rintro e w' ⟨rfl, rfl⟩
        go_wp2
        go_ret2
        exact ⟨rfl, rfl⟩
      · have e : (decide (a < 0) != decide (b < 0)) = false := by simp [ca, cb]
        have qa : decide (a < 0) = false := by simp [ca]
        have qb : decide (b < 0) = false := by simp [cb]
        rw [e, if_neg (by decide)] at hs
        have HS : Hid (a * b = sizeV a * sizeV b) := hs
        clear hs e
        rw [HS.out]
        clear HS
        by_cases ct : sizeV a * sizeV b < 9223372036854775808
        · rw [okV_in _ (by omega), okE_in _ (by omega)]
          go_enter Try.func38, Try.ntmps38
          go_wp2_with fail
          refine (size_any _ _ ha).mono ?_
          rintro e w' ⟨rfl, rfl⟩
          go_wp2_with fail
          refine (size_any _ _ hb).mono ?_
          rintro e w' ⟨rfl, rfl⟩
          go_wp2_with fail
          refine (signed_pos _ _ hnn ct).mono ?_
          rintro e w' ⟨rfl, rfl⟩
          go_wp2
          go_ret2
          exact ⟨rfl, rfl⟩
        · rw [okV_out _ (by omega), okE_out _ (by omega)]
          have ct2 : 9223372036854775808 ≤ sizeV a * sizeV b := by omega
          clear ct
          go_enter Try.func38, Try.ntmps38
          go_wp2_with fail
          refine (size_any _ _ ha).mono ?_
          rintro e w' ⟨rfl, rfl⟩
          go_wp2_with fail
          refine (size_any _ _ hb).mono ?_
          rintro e w' ⟨rfl, rfl⟩
          go_wp2_with fail
          refine (signed_over _ _ ct2).mono ?_
          rintro e w' ⟨rfl, rfl⟩
          go_wp2
          go_ret2
          exact ⟨rfl, rfl⟩
end Go.Proofs.Ytdpfnlefaegmeaa
