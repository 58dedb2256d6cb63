/- Bits of bytes and of 64-bit numbers, as sums and rests. -/
import Derived.Test.YthlnhodfgmpabaaWqM
import Derived.Laws.BitsAllLaws
namespace Go.Proofs.Ythlnhodfgmpabaa.Wr
theorem or64 (acc d : Int) (k : Nat) (h0 : 0 ≤ acc) (h1 : acc < 2 ^ (7 * k)) (hd : 0 ≤ d) (hb : d * 2 ^ (7 * k) < 18446744073709551616) (ha : acc < 18446744073709551616) :
    bits .or .u64 acc (IntKind.u64.wrap (d * 2 ^ (7 * k))) = acc + d * 2 ^ (7 * k) := by
  obtain ⟨a, rfl⟩ := Int.eq_ofNat_of_zero_le h0
  obtain ⟨e, rfl⟩ := Int.eq_ofNat_of_zero_le hd
  have hp : ((e : Int) * 2 ^ (7 * k)) = ((e * 2 ^ (7 * k) : Nat) : Int) := by rw [Int.natCast_mul, Int.natCast_pow]; rfl
  have hq : (2 : Int) ^ (7 * k) = ((2 ^ (7 * k) : Nat) : Int) := by rw [Int.natCast_pow]; rfl
  rw [hp] at hb ⊢
  rw [hq] at h1
  rw [IntKind.wrap_u64, Int.emod_eq_of_lt (by omega) hb, u64_or_nat a (e * 2 ^ (7 * k)) (by omega) (by omega)]
  rw [Nat.or_comm, nat_join (7 * k) (e * 2 ^ (7 * k)) a (Nat.mul_mod_left _ _) (by omega)]
  omega
theorem and8 (c : Int) (h0 : 0 ≤ c) (h1 : c < 256) : bits .and .u8 c 127 = c % 128 := by
  rw [u8_and c 127 h0 h1 (by omega) (by omega)]
  have : c.toNat &&& (127 : Int).toNat = c.toNat % 128 := Nat.and_two_pow_sub_one_eq_mod c.toNat 7
  rw [this]; omega
theorem and64 (c : Int) (h0 : 0 ≤ c) (h1 : c < 18446744073709551616) : bits .and .u64 c 127 = c % 128 := by
  rw [u64_and c 127 h0 h1 (by omega) (by omega)]
  have : c.toNat &&& (127 : Int).toNat = c.toNat % 128 := Nat.and_two_pow_sub_one_eq_mod c.toNat 7
  rw [this]; omega
theorem and1 (c : Int) (h0 : 0 ≤ c) (h1 : c < 18446744073709551616) : bits .and .u64 c 1 = c % 2 := by
  rw [u64_and c 1 h0 h1 (by omega) (by omega)]
  have : c.toNat &&& (1 : Int).toNat = c.toNat % 2 := Nat.and_two_pow_sub_one_eq_mod c.toNat 1
  rw [this]; omega
theorem or8 (d : Int) (h0 : 0 ≤ d) (h1 : d < 128) : bits .or .u8 d 128 = d + 128 := by
  rw [u8_or d 128 h0 (by omega) (by omega) (by omega)]
  have : d.toNat ||| (128 : Int).toNat = 128 + d.toNat := by
    rw [Nat.or_comm]; exact nat_join 7 128 d.toNat (by decide) (by omega)
  rw [this]; omega
/-- A group's place below the tenth. -/
theorem grp (i : Nat) (c : Int) (hi : i ≤ 8) (h0 : 0 ≤ c) (h1 : c < 128) : 0 ≤ c * 2 ^ (7 * i) ∧ c * 2 ^ (7 * i) ≤ 127 * 2 ^ (7 * i) ∧ (2 : Int) ^ (7 * i) ≤ 72057594037927936 := by
  have hp := p7_pos i
  have hle : (2 : Int) ^ (7 * i) ≤ 72057594037927936 := by
    have : i = 0 ∨ i = 1 ∨ i = 2 ∨ i = 3 ∨ i = 4 ∨ i = 5 ∨ i = 6 ∨ i = 7 ∨ i = 8 := by omega
    rcases this with h | h | h | h | h | h | h | h | h <;> subst h <;> decide
  have hm : c * 2 ^ (7 * i) ≤ 127 * 2 ^ (7 * i) := Int.mul_le_mul_of_nonneg_right (by omega) (Int.le_of_lt hp)
  exact ⟨Int.mul_nonneg h0 (Int.le_of_lt hp), by omega, hle⟩
/-- A round that goes on. -/
theorem go_on {k : Nat} {acc c : Int} (hk : k ≤ 8) (h0 : 0 ≤ acc) (h1 : acc < 2 ^ (7 * k)) (hc : 128 ≤ c) (hc2 : c < 256) :
    bits .or .u64 acc (IntKind.u64.wrap (c % 128 * 2 ^ (7 * k))) = acc + (c - 128) * 2 ^ (7 * k) ∧ 0 ≤ acc + (c - 128) * 2 ^ (7 * k) ∧ acc + (c - 128) * 2 ^ (7 * k) < 2 ^ (7 * (k + 1)) := by
  obtain ⟨g1, g2, g3⟩ := grp k (c - 128) hk (by omega) (by omega)
  have e : c % 128 = c - 128 := by omega
  rw [e]
  exact ⟨or64 _ _ _ h0 h1 (by omega) (by omega) (by omega), by omega, by rw [p7]; omega⟩
/-- A round that ends with a number. -/
theorem go_off {k : Nat} {acc c : Int} (hk : k ≤ 9) (h0 : 0 ≤ acc) (h1 : acc < 2 ^ (7 * k)) (hc : 0 ≤ c) (hc2 : c < 128) (h9 : ¬ (k = 9 ∧ 1 < c)) :
    bits .or .u64 acc (IntKind.u64.wrap (c % 128 * 2 ^ (7 * k))) = acc + c * 2 ^ (7 * k) := by
  have e : c % 128 = c := by omega
  rw [e]
  by_cases h : k = 9
  · subst h
    have p : (2 : Int) ^ (7 * 9) = 9223372036854775808 := by decide
    refine or64 _ _ _ h0 h1 hc ?_ ?_ <;> rw [p] at * <;> omega
  · obtain ⟨g1, g2, g3⟩ := grp k c (by omega) (by omega) (by omega)
    exact or64 _ _ _ h0 h1 hc (by omega) (by omega)
theorem gR_form {i : Nat} {acc c : Int} {r : List Int} (h : (0 < i ∧ c = 0) ∨ (i = 9 ∧ 1 < c)) : gR i acc (c :: r) = (0, 0, 41) := by rw [gR, if_pos h]
theorem gR_last {i : Nat} {acc c : Int} {r : List Int} (h : ¬ ((0 < i ∧ c = 0) ∨ (i = 9 ∧ 1 < c))) (h2 : c < 128) : gR i acc (c :: r) = (acc + c * 2 ^ (7 * i), i + 1, 0) := by rw [gR, if_neg h, if_pos h2]
theorem gR_next {i : Nat} {acc c : Int} {r : List Int} (h : ¬ ((0 < i ∧ c = 0) ∨ (i = 9 ∧ 1 < c))) (h2 : ¬ c < 128) : gR i acc (c :: r) = gR (i + 1) (acc + (c - 128) * 2 ^ (7 * i)) r := by rw [gR, if_neg h, if_neg h2]
theorem go_zero {k : Nat} {acc c : Int} (hk : k ≤ 9) (h0 : 0 ≤ acc) (h1 : acc < 2 ^ (7 * k)) (hc : c = 0) : bits .or .u64 acc (IntKind.u64.wrap 0) = acc + c * 2 ^ (7 * k) := by
  have := go_off (c := 0) hk h0 h1 (by omega) (by omega) (by omega)
  subst hc
  simpa using this
theorem go_nine {k : Nat} {acc c : Int} (hk : k = 9) (h0 : 0 ≤ acc) (h1 : acc < 2 ^ (7 * k)) (hc : 0 ≤ c) (hc2 : c ≤ 1) : bits .or .u64 acc (c % 128 * 9223372036854775808) = acc + c * 2 ^ (7 * k) := by
  have := go_off (c := c) (by omega) h0 h1 hc (by omega) (by omega)
  subst hk
  have p : (2 : Int) ^ (7 * 9) = 9223372036854775808 := by decide
  rw [p, IntKind.wrap_u64, Int.emod_eq_of_lt (by omega) (by omega)] at this
  rw [p]; exact this
theorem ret3 {x x' y z : Int} {n : Nat} {g : Int × Nat × Int} (h : (x', n, z) = g) (hx : x = x') (hy : y = n) : Ending.returned (.tuple #[.int .u64 x, .int .i64 y, .int .i64 z]) = .returned (.tuple #[.int .u64 g.1, .int .i64 g.2.1, .int .i64 g.2.2]) := by
  subst h; subst hx; subst hy; rfl
end Go.Proofs.Ythlnhodfgmpabaa.Wr
