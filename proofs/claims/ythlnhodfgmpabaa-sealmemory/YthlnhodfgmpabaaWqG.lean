/- There and back: the form of a number is taken again; what is taken is a form; a form cut short is too short. Plain. -/
import Derived.Test.YthlnhodfgmpabaaWqN
namespace Go.Proofs.Ythlnhodfgmpabaa.Wr
theorem div7 (x i : Nat) (hi : i + 1 ≤ 9) (h : x < 18446744073709551616 / 128 ^ i) : x / 128 < 18446744073709551616 / 128 ^ (i + 1) := by
  rw [Nat.pow_succ, ← Nat.div_div_eq_div_mul]
  have : i = 0 ∨ i = 1 ∨ i = 2 ∨ i = 3 ∨ i = 4 ∨ i = 5 ∨ i = 6 ∨ i = 7 ∨ i = 8 := by omega
  rcases this with h' | h' | h' | h' | h' | h' | h' | h' | h' <;> subst h' <;> simp at h ⊢ <;> omega
theorem pow_128 (i : Nat) : (2 : Int) ^ (7 * i) = ((128 ^ i : Nat) : Int) := by
  rw [Int.natCast_pow, Int.pow_mul]; rfl
theorem comb (acc x m q P : Int) (h : x = m + 128 * q) : acc + m * P + q * (P * 128) = acc + x * P := by
  subst h
  rw [Int.add_mul, Int.add_assoc, Int.mul_comm P 128, ← Int.mul_assoc, Int.mul_comm q 128]
/-- The form of x, from group i on, ahead of whatever: x comes back. -/
theorem gR_put : ∀ (n x i : Nat) (acc : Int) (r : List Int), (putR x).length = n → i + n ≤ 10 → (i = 0 ∨ 0 < x) → (i + n = 10 → x / 128 ^ (n - 1) ≤ 1) →
    gR i acc (putR x ++ r) = (acc + x * 2 ^ (7 * i), i + n, 0)
  | 0, x, i, acc, r, hn, _, _, _ => by have := putR_pos x; omega
  | n + 1, x, i, acc, r, hn, hi, hx, ht => by
    by_cases h : x < 128
    · rw [putR_lt h] at hn ⊢
      simp at hn
      subst hn
      rw [List.singleton_append, gR_last ?_ (by omega)]
      intro hc
      rcases hc with ⟨h1, h2⟩ | ⟨h1, h2⟩
      · omega
      · have := ht (by omega); simp at this; omega
    · rw [putR_ge h] at hn ⊢
      simp only [List.length_cons, Nat.add_right_cancel_iff] at hn
      have hpos := putR_pos (x / 128)
      rw [List.cons_append, gR_next ?_ (by omega), gR_put n (x / 128) (i + 1) _ r hn (by omega) (.inr (by omega)) ?_]
      · congr 1
        · rw [p7, show ((x % 128 + 128 : Nat) : Int) - 128 = ((x % 128 : Nat) : Int) by omega]
          exact comb acc x _ _ _ (by omega)
        · congr 1; omega
      · intro he
        have := ht (by omega)
        obtain ⟨k, rfl⟩ : ∃ k, n = k + 1 := ⟨n - 1, by omega⟩
        rw [Nat.div_div_eq_div_mul]
        simp only [Nat.add_sub_cancel] at this ⊢
        rw [Nat.pow_succ, Nat.mul_comm] at this
        exact this
      · intro hc
        rcases hc with ⟨_, h2⟩ | ⟨h1, _⟩ <;> omega
/-- Ten groups: the last is at most 1. -/
theorem putR_top {x : Nat} (hx : x < 18446744073709551616) : x / 128 ^ (10 - 1) ≤ 1 := by
  have : (128 : Nat) ^ (10 - 1) = 9223372036854775808 := by decide
  omega
theorem get_put {x : Nat} (hx : x < 18446744073709551616) (r : List Int) : getR (putR x ++ r) = ((x : Int), (putR x).length, 0) := by
  have h := gR_put (putR x).length x 0 0 r rfl (by have := putR_ten hx; omega) (.inl rfl) (fun h => by
    have h' : (putR x).length = 10 := by omega
    rw [h']; exact putR_top hx)
  unfold getR
  rw [h]
  simp
theorem putR_front : ∀ (n x : Nat), (putR x).length = n + 1 → ∀ c ∈ (putR x).take n, 128 ≤ c
  | 0, _, _, c, hc => by simp at hc
  | n + 1, x, hn, c, hc => by
    by_cases h : x < 128
    · rw [putR_lt h] at hn; simp at hn
    · rw [putR_ge h] at hn hc
      simp only [List.length_cons, Nat.add_right_cancel_iff] at hn
      rw [List.take_succ_cons] at hc
      rcases List.mem_cons.1 hc with rfl | hc
      · omega
      · exact putR_front n (x / 128) hn c hc
theorem gR_short : ∀ (zs : List Int) (i : Nat) (acc : Int), (∀ c ∈ zs, 128 ≤ c) → i + zs.length ≤ 9 → gR i acc zs = (0, 0, 40)
  | [], _, _, _, _ => rfl
  | c :: r, i, acc, h, hl => by
    have hc := h c List.mem_cons_self
    rw [List.length_cons] at hl
    rw [gR_next (by omega) (by omega)]
    exact gR_short r (i + 1) _ (fun d hd => h d (List.mem_cons_of_mem _ hd)) (by omega)
theorem get_short {x n : Nat} (hx : x < 18446744073709551616) (hn : (putR x).length = n + 1) : getR ((putR x).take n) = (0, 0, 40) :=
  gR_short _ 0 0 (putR_front n x hn) (by have := putR_ten hx; simp; omega)
/-- What is taken is the form of what is answered. -/
theorem gR_form_of : ∀ (zs : List Int) (i : Nat) (acc : Int), Byt zs → i ≤ 9 → (gR i acc zs).2.2 = 0 → ∃ x : Nat, (gR i acc zs).1 = acc + x * 2 ^ (7 * i) ∧ zs.take ((gR i acc zs).2.1 - i) = putR x ∧ i < (gR i acc zs).2.1 ∧ (0 < i → 0 < x)
  | [], i, acc, _, _, h => by simp [gR] at h
  | c :: r, i, acc, hb, hi, h => by
    have hc := hb c List.mem_cons_self
    by_cases h1 : (0 < i ∧ c = 0) ∨ (i = 9 ∧ 1 < c)
    · rw [gR_form h1] at h; simp at h
    · by_cases h2 : c < 128
      · rw [gR_last h1 h2]
        obtain ⟨x, rfl⟩ := Int.eq_ofNat_of_zero_le hc.1
        refine ⟨x, rfl, ?_, by simp, by omega⟩
        simp only [Nat.add_sub_cancel_left, List.take_succ_cons, List.take_zero]
        rw [putR_lt (by omega)]
      · rw [gR_next h1 h2] at h ⊢
        have h9 : i ≠ 9 := fun e => h1 (.inr ⟨e, by omega⟩)
        obtain ⟨y, e1, e2, e3, e4⟩ := gR_form_of r (i + 1) (acc + (c - 128) * 2 ^ (7 * i)) (fun z hz => hb z (List.mem_cons_of_mem _ hz)) (by omega) h
        have hy := e4 (by omega)
        generalize gR (i + 1) (acc + (c - 128) * 2 ^ (7 * i)) r = G at *
        obtain ⟨m, hm⟩ : ∃ m : Nat, c - 128 = m := ⟨(c - 128).toNat, by omega⟩
        refine ⟨m + 128 * y, ?_, ?_, by omega, by omega⟩
        · rw [e1, hm, p7]
          exact comb acc _ _ _ _ (by omega)
        · obtain ⟨k, hk⟩ : ∃ k, G.2.1 - i = k + 1 := ⟨G.2.1 - i - 1, by omega⟩
          rw [hk, List.take_succ_cons, putR_ge (by omega)]
          have ek : k = G.2.1 - (i + 1) := by omega
          rw [ek, e2]
          congr 1
          · omega
          · congr 1; omega
theorem get_form {zs : List Int} (hb : Byt zs) (h : (getR zs).2.2 = 0) : ∃ x : Nat, (getR zs).1 = x ∧ zs.take (getR zs).2.1 = putR x ∧ 0 < (getR zs).2.1 ∧ x < 18446744073709551616 := by
  obtain ⟨x, h1, h2, h3, _⟩ := gR_form_of zs 0 0 hb (by omega) h
  refine ⟨x, by unfold getR; rw [h1]; simp, h2, h3, ?_⟩
  rcases gR_out zs 0 0 hb (by omega) (by omega) (by simp) with ⟨_, _, k, _, _⟩ | k | k
  · rw [h1] at k; simp at k; omega
  · unfold getR at h; rw [k] at h; simp at h
  · unfold getR at h; rw [k] at h; simp at h
end Go.Proofs.Ythlnhodfgmpabaa.Wr
