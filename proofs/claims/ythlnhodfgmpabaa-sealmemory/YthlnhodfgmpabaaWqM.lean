/- The form of a number in groups of seven bits, and the way back: plain, of lists of integers. -/
import Derived.Test.YthlnhodfgmpabaaWqA
namespace Go.Proofs.Ythlnhodfgmpabaa.Wr
/-- A number's form. -/
def putR (x : Nat) : List Int := if x < 128 then [(x : Int)] else ((x % 128 + 128 : Nat) : Int) :: putR (x / 128)
theorem putR_lt {x : Nat} (h : x < 128) : putR x = [(x : Int)] := by rw [putR, if_pos h]
theorem putR_ge {x : Nat} (h : ¬ x < 128) : putR x = ((x % 128 + 128 : Nat) : Int) :: putR (x / 128) := by rw [putR, if_neg h]
theorem putR_pos (x : Nat) : 0 < (putR x).length := by
  by_cases h : x < 128
  · rw [putR_lt h]; simp
  · rw [putR_ge h]; simp
theorem putR_le : ∀ (k x : Nat), x < 128 ^ (k + 1) → (putR x).length ≤ k + 1
  | 0, x, h => by rw [putR_lt (by simpa using h)]; simp
  | k + 1, x, h => by
    by_cases hx : x < 128
    · rw [putR_lt hx]; simp
    · rw [putR_ge hx, List.length_cons]
      have := putR_le k (x / 128) (by rw [Nat.div_lt_iff_lt_mul (by omega)]; rw [Nat.pow_succ] at h; exact h)
      omega
theorem putR_ten {x : Nat} (h : x < 18446744073709551616) : (putR x).length ≤ 10 := putR_le 9 x (by
  have : (128 : Nat) ^ (9 + 1) = 1180591620717411303424 := by decide
  omega)
theorem putR_byt (x : Nat) : Byt (putR x) := by
  induction x using Nat.strongRecOn with
  | ind x ih =>
    by_cases h : x < 128
    · rw [putR_lt h]; exact Byt.one ⟨by omega, by omega⟩
    · rw [putR_ge h]
      intro z hz
      rcases List.mem_cons.1 hz with rfl | hz
      · exact ⟨by omega, by omega⟩
      · exact ih (x / 128) (by omega) z hz
/-- The number in front, from group 'i' on, 'acc' being the groups ahead: the number, how many bytes, the error. -/
def gR : Nat → Int → List Int → Int × Nat × Int
  | _, _, [] => (0, 0, 40)
  | i, acc, c :: r => if (0 < i ∧ c = 0) ∨ (i = 9 ∧ 1 < c) then (0, 0, 41) else if c < 128 then (acc + c * 2 ^ (7 * i), i + 1, 0) else gR (i + 1) (acc + (c - 128) * 2 ^ (7 * i)) r
def getR (zs : List Int) : Int × Nat × Int := gR 0 0 zs
theorem p7 (i : Nat) : (2 : Int) ^ (7 * (i + 1)) = 2 ^ (7 * i) * 128 := by rw [Nat.mul_add, Int.pow_add]; rfl
theorem p7_pos (i : Nat) : (0 : Int) < 2 ^ (7 * i) := Int.pow_pos (by omega)
theorem gR_at (i : Nat) (acc : Int) (zs : List Int) (k : Nat) (hk : k < zs.length) : gR i acc (zs.drop k) = gR i acc (zs[k] :: zs.drop (k + 1)) := by rw [List.drop_eq_getElem_cons hk]
/-- What is told of an answer. -/
theorem gR_out : ∀ (zs : List Int) (i : Nat) (acc : Int), Byt zs → i ≤ 9 → 0 ≤ acc → acc < 2 ^ (7 * i) →
    ((gR i acc zs).2.2 = 0 ∧ 0 ≤ (gR i acc zs).1 ∧ (gR i acc zs).1 < 18446744073709551616 ∧ i < (gR i acc zs).2.1 ∧ (gR i acc zs).2.1 ≤ i + zs.length) ∨ (gR i acc zs = (0, 0, 40)) ∨ (gR i acc zs = (0, 0, 41))
  | [], i, acc, _, _, _, _ => .inr (.inl rfl)
  | c :: r, i, acc, hb, hi, h0, h1 => by
    have hc := hb c List.mem_cons_self
    have hp := p7_pos i
    unfold gR
    by_cases h : (0 < i ∧ c = 0) ∨ (i = 9 ∧ 1 < c)
    · rw [if_pos h]; exact .inr (.inr rfl)
    · rw [if_neg h]
      by_cases h2 : c < 128
      · rw [if_pos h2]
        refine .inl ⟨rfl, ?_, ?_, by simp, by simp⟩
        · have := Int.mul_nonneg hc.1 (Int.le_of_lt hp); show 0 ≤ acc + c * 2 ^ (7 * i); omega
        · show acc + c * 2 ^ (7 * i) < _
          by_cases h9 : i = 9
          · subst h9
            have : c ≤ 1 := by omega
            have e : (2 : Int) ^ (7 * 9) = 9223372036854775808 := by decide
            rw [e] at h1 ⊢; omega
          · have hle : (2 : Int) ^ (7 * i) ≤ 2 ^ (7 * 8) := by
              have : i = 0 ∨ i = 1 ∨ i = 2 ∨ i = 3 ∨ i = 4 ∨ i = 5 ∨ i = 6 ∨ i = 7 ∨ i = 8 := by omega
              rcases this with h | h | h | h | h | h | h | h | h <;> subst h <;> decide
            have e : (2 : Int) ^ (7 * 8) = 72057594037927936 := by decide
            have hm : c * 2 ^ (7 * i) ≤ 127 * 2 ^ (7 * i) := Int.mul_le_mul_of_nonneg_right (by omega) (Int.le_of_lt hp)
            omega
      · rw [if_neg h2]
        have h9 : i ≠ 9 := fun e => h (.inr ⟨e, by omega⟩)
        have hm : (c - 128) * 2 ^ (7 * i) ≤ 127 * 2 ^ (7 * i) := Int.mul_le_mul_of_nonneg_right (by omega) (Int.le_of_lt hp)
        have hm0 : 0 ≤ (c - 128) * 2 ^ (7 * i) := Int.mul_nonneg (by omega) (Int.le_of_lt hp)
        have := gR_out r (i + 1) (acc + (c - 128) * 2 ^ (7 * i)) (fun z hz => hb z (List.mem_cons_of_mem _ hz)) (by omega) (by omega) (by rw [p7]; omega)
        rcases this with ⟨a, b, c', d, e⟩ | h | h
        · exact .inl ⟨a, b, c', by omega, by rw [List.length_cons]; omega⟩
        · exact .inr (.inl h)
        · exact .inr (.inr h)
end Go.Proofs.Ythlnhodfgmpabaa.Wr
