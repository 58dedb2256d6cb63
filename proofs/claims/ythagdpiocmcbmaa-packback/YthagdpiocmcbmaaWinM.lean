/- Windows over a plane, in plain numbers: which are valid, how many positions they have, what each of their taps covers. -/
import Derived.Test.YthagdpiocmcbmaaShpA
namespace Go.Proofs.Ythagdpiocmcbmaa
def btw (n lo hi : Int) : Bool := decide (lo ≤ n ∧ n ≤ hi)
theorem btw_yes {n lo hi : Int} (h : btw n lo hi = true) : lo ≤ n ∧ n ≤ hi := by simpa [btw] using h
theorem btw_no {n lo hi : Int} (h : btw n lo hi = false) : ¬ (lo ≤ n ∧ n ≤ hi) := by intro g; unfold btw at h; rw [decide_eq_true g] at h; cases h
def InW (kh kw sh sw tp lf bt rt : Int) : Prop := (1 ≤ kh ∧ kh ≤ 32) ∧ (1 ≤ kw ∧ kw ≤ 32) ∧ (1 ≤ sh ∧ sh ≤ 32) ∧ (1 ≤ sw ∧ sw ≤ 32) ∧ (0 ≤ tp ∧ tp ≤ kh - 1) ∧ (0 ≤ bt ∧ bt ≤ kh - 1) ∧ (0 ≤ lf ∧ lf ≤ kw - 1) ∧ (0 ≤ rt ∧ rt ≤ kw - 1)
def vW (kh kw sh sw tp lf bt rt : Int) : Bool := btw kh 1 32 && btw kw 1 32 && btw sh 1 32 && btw sw 1 32 && btw tp 0 (kh - 1) && btw bt 0 (kh - 1) && btw lf 0 (kw - 1) && btw rt 0 (kw - 1)
theorem vW_yes {kh kw sh sw tp lf bt rt : Int} (h : vW kh kw sh sw tp lf bt rt = true) : InW kh kw sh sw tp lf bt rt := by
  simp only [vW, Bool.and_eq_true] at h
  obtain ⟨⟨⟨⟨⟨⟨⟨h1, h2⟩, h3⟩, h4⟩, h5⟩, h6⟩, h7⟩, h8⟩ := h
  exact ⟨btw_yes h1, btw_yes h2, btw_yes h3, btw_yes h4, btw_yes h5, btw_yes h6, btw_yes h7, btw_yes h8⟩
/-- How often a window of k with steps of s fits into n. -/
def sp (n k s : Int) : Int := if n < k then 0 else (n - k) / s + 1
theorem sp_no {n k s : Int} (h : n < k) : sp n k s = 0 := if_pos h
theorem sp_ok {n k s : Int} (h : ¬ n < k) : sp n k s = (n - k) / s + 1 := if_neg h
theorem sp_bd {n k s : Int} (hs : 1 ≤ s) (hn : 0 ≤ n) (hk : 1 ≤ k) : 0 ≤ sp n k s ∧ sp n k s ≤ n + 1 := by
  by_cases h : n < k
  · rw [sp_no h]; omega
  · rw [sp_ok h]
    have h1 := Int.ediv_nonneg (show 0 ≤ n - k by omega) (show 0 ≤ s by omega)
    have h2 := Int.ediv_le_self s (show 0 ≤ n - k by omega)
    omega
theorem sp_mul {n k s : Int} (hs : 1 ≤ s) (h : ¬ n < k) : (sp n k s - 1) * s + k ≤ n := by
  rw [sp_ok h]
  have := Int.ediv_mul_le (n - k) (show s ≠ 0 by omega)
  have e : (n - k) / s + 1 - 1 = (n - k) / s := by omega
  rw [e]
  omega
theorem sp_pos {n k s : Int} (hs : 1 ≤ s) (h : ¬ n < k) : 1 ≤ sp n k s := by
  rw [sp_ok h]
  have h1 := Int.ediv_nonneg (show 0 ≤ n - k by omega) (show 0 ≤ s by omega)
  omega
theorem sp_of {n k s c t : Int} (hs : 1 ≤ s) (hc : 0 ≤ c) (ht : t = c * s) (h1 : n < t + k) (h2 : c = 0 ∨ t - s + k ≤ n) : c = sp n k s := by
  rcases h2 with rfl | h2
  · rw [sp_no (by omega)]
  · by_cases hn : n < k
    · rcases Int.le_iff_lt_or_eq.1 hc with h | h
      · have := Int.mul_le_mul_of_nonneg_right (show 1 ≤ c by omega) (show 0 ≤ s by omega)
        omega
      · subst h; rw [sp_no hn]
    · rw [sp_ok hn]
      have e : (c - 1) * s = t - s := by rw [Int.sub_mul, ht]; omega
      have g1 : c - 1 ≤ (n - k) / s := Int.le_ediv_of_mul_le (by omega) (by omega)
      have g2 : (n - k) / s < c := Int.ediv_lt_of_lt_mul (by omega) (by omega)
      omega
/-- Rows, columns and the error. -/
def ouR (h w c kh kw sh sw tp lf bt rt : Int) : Int × Int × Int :=
  if vS h w c = true then (if vW kh kw sh sw tp lf bt rt = true then (if sp (tp + h + bt) kh sh = 0 ∨ sp (lf + w + rt) kw sw = 0 then (0, 0, 60) else (sp (tp + h + bt) kh sh, sp (lf + w + rt) kw sw, 0)) else (0, 0, 60)) else (0, 0, 50)
theorem ouR_shape {h w c kh kw sh sw tp lf bt rt : Int} (g : vS h w c = false) : ouR h w c kh kw sh sw tp lf bt rt = (0, 0, 50) := if_neg (by rw [g]; exact Bool.false_ne_true)
theorem ouR_win {h w c kh kw sh sw tp lf bt rt : Int} (g : vS h w c = true) (k : vW kh kw sh sw tp lf bt rt = false) : ouR h w c kh kw sh sw tp lf bt rt = (0, 0, 60) := by unfold ouR; rw [if_pos g, if_neg (by rw [k]; exact Bool.false_ne_true)]
theorem ouR_out {h w c kh kw sh sw tp lf bt rt : Int} (g : vS h w c = true) (k : vW kh kw sh sw tp lf bt rt = true) (z : sp (tp + h + bt) kh sh = 0 ∨ sp (lf + w + rt) kw sw = 0) : ouR h w c kh kw sh sw tp lf bt rt = (0, 0, 60) := by unfold ouR; rw [if_pos g, if_pos k, if_pos z]
theorem ouR_in {h w c kh kw sh sw tp lf bt rt : Int} (g : vS h w c = true) (k : vW kh kw sh sw tp lf bt rt = true) (z : ¬ (sp (tp + h + bt) kh sh = 0 ∨ sp (lf + w + rt) kw sw = 0)) : ouR h w c kh kw sh sw tp lf bt rt = (sp (tp + h + bt) kh sh, sp (lf + w + rt) kw sw, 0) := by unfold ouR; rw [if_pos g, if_pos k, if_neg z]
/-- What is known of a window that fits: r rows, q columns. -/
def Fit (h w kh kw sh sw tp lf bt rt r q : Int) : Prop :=
  ((1 ≤ h ∧ h ≤ 1024) ∧ (1 ≤ w ∧ w ≤ 1024) ∧ h * w ≤ 16384) ∧ InW kh kw sh sw tp lf bt rt ∧ (1 ≤ r ∧ r ≤ 1200) ∧ (1 ≤ q ∧ q ≤ 1200) ∧ (r - 1) * sh + kh ≤ tp + h + bt ∧ (q - 1) * sw + kw ≤ lf + w + rt
theorem ouR_cases (h w c kh kw sh sw tp lf bt rt : Int) : (∃ e, ouR h w c kh kw sh sw tp lf bt rt = (0, 0, e) ∧ (e = 50 ∨ e = 60)) ∨ ∃ r q, ouR h w c kh kw sh sw tp lf bt rt = (r, q, 0) ∧ Fit h w kh kw sh sw tp lf bt rt r q := by
  cases g : vS h w c with
  | false => exact .inl ⟨50, ouR_shape g, .inl rfl⟩
  | true =>
    cases k : vW kh kw sh sw tp lf bt rt with
    | false => exact .inl ⟨60, ouR_win g k, .inr rfl⟩
    | true =>
      by_cases z : sp (tp + h + bt) kh sh = 0 ∨ sp (lf + w + rt) kw sw = 0
      · exact .inl ⟨60, ouR_out g k z, .inr rfl⟩
      · obtain ⟨h1, w1, c1, q9⟩ := vS_yes g
        have kk := vW_yes k
        obtain ⟨k1, k2, k3, k4, k5, k6, k7, k8⟩ := kk
        have z1 : ¬ tp + h + bt < kh := fun g => z (.inl (sp_no g))
        have z2 : ¬ lf + w + rt < kw := fun g => z (.inr (sp_no g))
        refine .inr ⟨_, _, ouR_in g k z, ⟨h1, w1, ?_⟩, ⟨k1, k2, k3, k4, k5, k6, k7, k8⟩, ⟨sp_pos (by omega) z1, ?_⟩, ⟨sp_pos (by omega) z2, ?_⟩, sp_mul (by omega) z1, sp_mul (by omega) z2⟩
        · have p1 := (mul_bd h1.1 h1.2 w1.1 w1.2).1
          have := Int.mul_le_mul_of_nonneg_left c1.1 (show 0 ≤ h * w by omega)
          omega
        · have := (sp_bd (n := tp + h + bt) (k := kh) (s := sh) (by omega) (by omega) (by omega)).2; omega
        · have := (sp_bd (n := lf + w + rt) (k := kw) (s := sw) (by omega) (by omega) (by omega)).2; omega
/-- The row and the column of the plane that tap 0 of a position covers. -/
def coR (h w c kh kw sh sw tp lf bt rt n : Int) : Int × Int × Int :=
  if (ouR h w c kh kw sh sw tp lf bt rt).2.2 = 0 then (if 0 ≤ n ∧ n < (ouR h w c kh kw sh sw tp lf bt rt).1 * (ouR h w c kh kw sh sw tp lf bt rt).2.1 then (n / (ouR h w c kh kw sh sw tp lf bt rt).2.1 * sh - tp, n % (ouR h w c kh kw sh sw tp lf bt rt).2.1 * sw - lf, 0) else (0, 0, 3)) else (0, 0, (ouR h w c kh kw sh sw tp lf bt rt).2.2)
/-- A place of the plane, -1 outside. -/
def plc (h w y x : Int) : Int := if (0 ≤ y ∧ y < h) ∧ (0 ≤ x ∧ x < w) then y * w + x else -1
theorem plc_in {h w y x : Int} (k : (0 ≤ y ∧ y < h) ∧ (0 ≤ x ∧ x < w)) : plc h w y x = y * w + x := if_pos k
theorem plc_out {h w y x : Int} (k : ¬ ((0 ≤ y ∧ y < h) ∧ (0 ≤ x ∧ x < w))) : plc h w y x = -1 := if_neg k
theorem rowbd {h w y x : Int} (h2 : y < h) (h1 : 0 ≤ y) (g1 : 0 ≤ x) (g2 : x < w) : 0 ≤ y * w ∧ y * w + x < h * w := by
  have a := Int.mul_le_mul_of_nonneg_right (show y + 1 ≤ h by omega) (show 0 ≤ w by omega)
  have b := Int.mul_le_mul_of_nonneg_right h1 (show 0 ≤ w by omega)
  rw [Int.add_mul] at a
  omega
/-- A tap: its number and what it covers. -/
def tap (h w kw t l : Int) (k : Nat) : Int × Int := ((k : Int), plc h w (t + (k : Int) / kw) (l + (k : Int) % kw))
def tapL (h w kw t l : Int) (n : Nat) : List (Int × Int) := (List.range n).map (tap h w kw t l)
theorem tapL_len (h w kw t l : Int) (n : Nat) : (tapL h w kw t l n).length = n := by simp [tapL]
theorem tapL_succ (h w kw t l : Int) (n : Nat) : tapL h w kw t l (n + 1) = tapL h w kw t l n ++ [tap h w kw t l n] := by simp [tapL, List.range_succ]
theorem tapL_take (h w kw t l : Int) {k n : Nat} (hk : k ≤ n) : tapL h w kw t l k = (tapL h w kw t l n).take k := by
  simp [tapL, ← List.map_take, List.take_range, Nat.min_eq_left hk]
/-- All taps of a position. -/
def tapsOf (h w c kh kw sh sw tp lf bt rt n : Int) : List (Int × Int) :=
  if (coR h w c kh kw sh sw tp lf bt rt n).2.2 = 0 then tapL h w kw (coR h w c kh kw sh sw tp lf bt rt n).1 (coR h w c kh kw sh sw tp lf bt rt n).2.1 (kh * kw).toNat else []
/-- A position's row and column. -/
def spotL (q : Int) (n : Nat) : List (Int × Int) := (List.range n).map fun (k : Nat) => ((k : Int) / q, (k : Int) % q)
theorem spotL_len (q : Int) (n : Nat) : (spotL q n).length = n := by simp [spotL]
theorem spotL_succ (q : Int) (n : Nat) : spotL q (n + 1) = spotL q n ++ [((n : Int) / q, (n : Int) % q)] := by simp [spotL, List.range_succ]
theorem spotL_take (q : Int) {k n : Nat} (hk : k ≤ n) : spotL q k = (spotL q n).take k := by
  simp [spotL, ← List.map_take, List.take_range, Nat.min_eq_left hk]
def spotsOf (h w c kh kw sh sw tp lf bt rt : Int) : List (Int × Int) := spotL (ouR h w c kh kw sh sw tp lf bt rt).2.1 ((ouR h w c kh kw sh sw tp lf bt rt).1 * (ouR h w c kh kw sh sw tp lf bt rt).2.1).toNat
/-- What is known where a position is there. -/
theorem coR_cases (h w c kh kw sh sw tp lf bt rt n : Int) : (∃ e, coR h w c kh kw sh sw tp lf bt rt n = (0, 0, e) ∧ (e = 50 ∨ e = 60 ∨ e = 3)) ∨
    ∃ r q, ouR h w c kh kw sh sw tp lf bt rt = (r, q, 0) ∧ Fit h w kh kw sh sw tp lf bt rt r q ∧ (0 ≤ n ∧ n < r * q) ∧ coR h w c kh kw sh sw tp lf bt rt n = (n / q * sh - tp, n % q * sw - lf, 0) := by
  rcases ouR_cases h w c kh kw sh sw tp lf bt rt with ⟨e, he, h2⟩ | ⟨r, q, he, hf⟩
  · left
    refine ⟨e, ?_, by omega⟩
    unfold coR
    rw [he, if_neg (by simp only; omega)]
  · by_cases hn : 0 ≤ n ∧ n < r * q
    · right
      refine ⟨r, q, he, hf, hn, ?_⟩
      unfold coR
      rw [he, if_pos rfl, if_pos hn]
    · left
      refine ⟨3, ?_, by omega⟩
      unfold coR
      rw [he, if_pos rfl, if_neg hn]
/-- The corner of a position that is there covers, with the window about it, some of the plane. -/
def Cor (h w kh kw t l : Int) : Prop := (1 ≤ h ∧ h ≤ 1024) ∧ (1 ≤ w ∧ w ≤ 1024) ∧ h * w ≤ 16384 ∧ (1 ≤ kh ∧ kh ≤ 32) ∧ (1 ≤ kw ∧ kw ≤ 32) ∧ (1 - kh ≤ t ∧ t < h) ∧ (1 - kw ≤ l ∧ l < w)
theorem cor_of {h w kh kw sh sw tp lf bt rt n r q : Int} (hf : Fit h w kh kw sh sw tp lf bt rt r q) (hn : 0 ≤ n ∧ n < r * q) : Cor h w kh kw (n / q * sh - tp) (n % q * sw - lf) := by
  obtain ⟨⟨h1, w1, q9⟩, ⟨k1, k2, k3, k4, k5, k6, k7, k8⟩, r1, q1, z1, z2⟩ := hf
  have a1 := Int.ediv_nonneg hn.1 (show 0 ≤ q by omega)
  have a2 : n / q < r := Int.ediv_lt_of_lt_mul (by omega) hn.2
  have b1 := Int.emod_nonneg n (show q ≠ 0 by omega)
  have b2 := Int.emod_lt_of_pos n (show 0 < q by omega)
  have c1 := Int.mul_le_mul_of_nonneg_right (show n / q ≤ r - 1 by omega) (show 0 ≤ sh by omega)
  have c2 := Int.mul_le_mul_of_nonneg_right (show n % q ≤ q - 1 by omega) (show 0 ≤ sw by omega)
  have c3 := Int.mul_nonneg a1 (show 0 ≤ sh by omega)
  have c4 := Int.mul_nonneg b1 (show 0 ≤ sw by omega)
  refine ⟨h1, w1, q9, k1, k2, ⟨by omega, by omega⟩, ⟨by omega, by omega⟩⟩
end Go.Proofs.Ythagdpiocmcbmaa
