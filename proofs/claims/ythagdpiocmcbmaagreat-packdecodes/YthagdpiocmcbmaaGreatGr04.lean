/- What sides and Elems of package shape, and the document's, return: each for every argument. Windows over a plane, in plain numbers: which are valid, how many positions they have, what each of their taps covers. What the document's test of a shape returns. What Valid, Out, corner and place of package window, and the document's answers to them, return: each for every argument. -/
import Derived.Test.YthagdpiocmcbmaaGreatGr02
import Derived.LoopN
import Derived.BigQuiet
import Derived.WalkSmall
/- What sides and Elems of package shape, and the document's, return: each for every argument. -/
namespace Go.Proofs.YthagdpiocmcbmaaGreat
open Go.ChangeShapes Go.WideShapes Go.ChangeAt Go.RowKit
def vS (h w c : Int) : Bool := decide ((1 ≤ h ∧ h ≤ 1024) ∧ (1 ≤ w ∧ w ≤ 1024) ∧ (1 ≤ c ∧ c ≤ 1024) ∧ h * w * c ≤ 16384)
def elR (h w c : Int) : Int × Int := if vS h w c = true then (h * w * c, 0) else (0, 50)
theorem vS_yes {h w c : Int} (g : vS h w c = true) : (1 ≤ h ∧ h ≤ 1024) ∧ (1 ≤ w ∧ w ≤ 1024) ∧ (1 ≤ c ∧ c ≤ 1024) ∧ h * w * c ≤ 16384 := by simpa [vS] using g
theorem elR_ok {h w c : Int} (g : vS h w c = true) : elR h w c = (h * w * c, 0) := if_pos g
theorem elR_no {h w c : Int} (g : vS h w c = false) : elR h w c = (0, 50) := if_neg (by rw [g]; exact Bool.false_ne_true)
theorem vS_mk {h w c : Int} (g : (1 ≤ h ∧ h ≤ 1024) ∧ (1 ≤ w ∧ w ≤ 1024) ∧ (1 ≤ c ∧ c ≤ 1024) ∧ h * w * c ≤ 16384) : vS h w c = true := by unfold vS; exact decide_eq_true g
theorem vS_not {h w c : Int} (g : ¬ ((1 ≤ h ∧ h ≤ 1024) ∧ (1 ≤ w ∧ w ≤ 1024) ∧ (1 ≤ c ∧ c ≤ 1024) ∧ h * w * c ≤ 16384)) : vS h w c = false := by unfold vS; exact decide_eq_false g
theorem mul_bd {a b A B : Int} (ha : 1 ≤ a) (hA : a ≤ A) (hb : 1 ≤ b) (hB : b ≤ B) : 1 ≤ a * b ∧ a * b ≤ A * B := by
  constructor
  · have := Int.mul_le_mul ha hb (by omega) (by omega); omega
  · exact Int.mul_le_mul hA hB (by omega) (by omega)
theorem sides_any (h w c : Int) (W : World) :
    Calls Tryz.prog 89 #[.agg #[.int .i64 h, .int .i64 w, .int .i64 c]] W fun e w' => e = .returned (.agg #[.int .i64 h, .int .i64 w, .int .i64 c]) ∧ Below W.heap.size W w' := by
  go_enter Tryz.func89, Tryz.ntmps89
  go_wp2
  exact bodyPost_ret (v := .agg #[.int .i64 h, .int .i64 w, .int .i64 c]) (by simp [results, Tryz.results89, go_sem]) rfl ⟨rfl, (St.start W).new.new.below⟩
theorem idx0 (h w c : Int) : ∀ W : World, (Instr.index 136 (.agg #[.int .i64 h, .int .i64 w, .int .i64 c]) (.int .i64 0)).run Tryz.prog W = .ok (.int .i64 h) W := fun _ => by kernel_rfl
theorem idx1 (h w c : Int) : ∀ W : World, (Instr.index 136 (.agg #[.int .i64 h, .int .i64 w, .int .i64 c]) (.int .i64 1)).run Tryz.prog W = .ok (.int .i64 w) W := fun _ => by kernel_rfl
theorem idx2 (h w c : Int) : ∀ W : World, (Instr.index 136 (.agg #[.int .i64 h, .int .i64 w, .int .i64 c]) (.int .i64 2)).run Tryz.prog W = .ok (.int .i64 c) W := fun _ => by kernel_rfl
theorem selems_any (h w c : Int) (W : World) :
    Calls Tryz.prog 61 #[.agg #[.int .i64 h, .int .i64 w, .int .i64 c]] W fun e w' => e = .returned (.tuple #[.int .i64 (elR h w c).1, .int .i64 (elR h w c).2]) ∧ Below W.heap.size W w' := by
  by_cases k1 : h < 1
  · rw [elR_no (vS_not (by omega))]
    have i0 := idx0 h w c
    go_enter Tryz.func61, Tryz.ntmps61
    go_wp2_with fail
    refine (sides_any _ _ _ _).mono ?_
    rintro e w1 ⟨rfl, hb⟩
    have s1 := (St.start W).new.call hb
    clear hb
    go_wp2
    refine wp_loop_rounds 1 ?_
    rw [rounds_succ]
    go_wp2
    go_ret2
    exact ⟨rfl, s1.below⟩
  by_cases k2 : 1024 < h
  · rw [elR_no (vS_not (by omega))]
    have i0 := idx0 h w c
    go_enter Tryz.func61, Tryz.ntmps61
    go_wp2_with fail
    refine (sides_any _ _ _ _).mono ?_
    rintro e w1 ⟨rfl, hb⟩
    have s1 := (St.start W).new.call hb
    clear hb
    go_wp2
    refine wp_loop_rounds 1 ?_
    rw [rounds_succ]
    go_wp2
    go_ret2
    exact ⟨rfl, s1.below⟩
  by_cases k3 : w < 1
  · rw [elR_no (vS_not (by omega))]
    have i0 := idx0 h w c
    have i1 := idx1 h w c
    go_enter Tryz.func61, Tryz.ntmps61
    go_wp2_with fail
    refine (sides_any _ _ _ _).mono ?_
    rintro e w1 ⟨rfl, hb⟩
    have s1 := (St.start W).new.call hb
    clear hb
    go_wp2
    refine wp_loop_rounds 2 ?_
    rw [rounds_succ]
    go_wp2
    rw [rounds_succ]
    go_wp2
    go_ret2
    exact ⟨rfl, s1.below⟩
  by_cases k4 : 1024 < w
  · rw [elR_no (vS_not (by omega))]
    have i0 := idx0 h w c
    have i1 := idx1 h w c
    go_enter Tryz.func61, Tryz.ntmps61
    go_wp2_with fail
    refine (sides_any _ _ _ _).mono ?_
    rintro e w1 ⟨rfl, hb⟩
    have s1 := (St.start W).new.call hb
    clear hb
    go_wp2
    refine wp_loop_rounds 2 ?_
    rw [rounds_succ]
    go_wp2
    rw [rounds_succ]
    go_wp2
    go_ret2
    exact ⟨rfl, s1.below⟩
  obtain ⟨p1, p2⟩ := mul_bd (by omega : 1 ≤ h) (by omega : h ≤ 1024) (by omega : 1 ≤ w) (by omega : w ≤ 1024)
  by_cases k5 : c < 1
  · rw [elR_no (vS_not (by omega))]
    have i0 := idx0 h w c
    have i1 := idx1 h w c
    have i2 := idx2 h w c
    obtain ⟨p, hp⟩ : ∃ p, h * w = p := ⟨_, rfl⟩
    rw [hp] at p1 p2
    go_enter Tryz.func61, Tryz.ntmps61
    go_wp2_with fail
    refine (sides_any _ _ _ _).mono ?_
    rintro e w1 ⟨rfl, hb⟩
    have s1 := (St.start W).new.call hb
    clear hb
    go_wp2
    refine wp_loop_rounds 3 ?_
    rw [rounds_succ]
    go_wp2
    rw [rounds_succ]
    go_wp2
    rw [rounds_succ]
    go_wp2
    go_ret2
    exact ⟨rfl, s1.below⟩
  by_cases k6 : 1024 < c
  · rw [elR_no (vS_not (by omega))]
    have i0 := idx0 h w c
    have i1 := idx1 h w c
    have i2 := idx2 h w c
    obtain ⟨p, hp⟩ : ∃ p, h * w = p := ⟨_, rfl⟩
    rw [hp] at p1 p2
    go_enter Tryz.func61, Tryz.ntmps61
    go_wp2_with fail
    refine (sides_any _ _ _ _).mono ?_
    rintro e w1 ⟨rfl, hb⟩
    have s1 := (St.start W).new.call hb
    clear hb
    go_wp2
    refine wp_loop_rounds 3 ?_
    rw [rounds_succ]
    go_wp2
    rw [rounds_succ]
    go_wp2
    rw [rounds_succ]
    go_wp2
    go_ret2
    exact ⟨rfl, s1.below⟩
  obtain ⟨q1, q2⟩ := mul_bd p1 p2 (by omega : 1 ≤ c) (by omega : c ≤ 1024)
  have HV : Hid (vS h w c = decide (h * w * c ≤ 16384)) := by
    unfold Hid vS
    exact decide_eq_decide.2 ⟨fun g => g.2.2.2, fun g => ⟨by omega, by omega, by omega, g⟩⟩
  obtain ⟨p, hp⟩ : ∃ p, h * w = p := ⟨_, rfl⟩
  have HR : Hid (elR h w c = if vS h w c = true then (p * c, 0) else (0, 50)) := by unfold Hid; rw [← hp]; rfl
  rw [hp] at p1 p2 q1 q2
  have HV2 : Hid (vS h w c = decide (p * c ≤ 16384)) := by unfold Hid; rw [HV.out, hp]
  clear HV
  obtain ⟨q, hq⟩ : ∃ q, p * c = q := ⟨_, rfl⟩
  rw [hq] at q1 q2
  have HR2 : Hid (elR h w c = if q ≤ 16384 then (q, 0) else (0, 50)) := by unfold Hid; rw [HR.out, HV2.out, hq]; simp only [decide_eq_true_eq]
  clear HV2 HR
  rw [HR2.out]
  clear HR2
  by_cases k7 : 16384 < q
  · rw [if_neg (by omega)]
    have i0 := idx0 h w c
    have i1 := idx1 h w c
    have i2 := idx2 h w c
    go_enter Tryz.func61, Tryz.ntmps61
    go_wp2_with fail
    refine (sides_any _ _ _ _).mono ?_
    rintro e w1 ⟨rfl, hb⟩
    have s1 := (St.start W).new.call hb
    clear hb
    go_wp2
    refine wp_loop_rounds 4 ?_
    rw [rounds_succ]
    go_wp2
    rw [rounds_succ]
    go_wp2
    rw [rounds_succ]
    go_wp2
    rw [rounds_succ]
    go_wp2
    go_ret2
    exact ⟨rfl, s1.below⟩
  · rw [if_pos (by omega)]
    have i0 := idx0 h w c
    have i1 := idx1 h w c
    have i2 := idx2 h w c
    go_enter Tryz.func61, Tryz.ntmps61
    go_wp2_with fail
    refine (sides_any _ _ _ _).mono ?_
    rintro e w1 ⟨rfl, hb⟩
    have s1 := (St.start W).new.call hb
    clear hb
    go_wp2
    refine wp_loop_rounds 4 ?_
    rw [rounds_succ]
    go_wp2
    rw [rounds_succ]
    go_wp2
    rw [rounds_succ]
    go_wp2
    rw [rounds_succ]
    go_wp2
    go_ret2
    exact ⟨rfl, s1.below⟩
end Go.Proofs.YthagdpiocmcbmaaGreat

/- Windows over a plane, in plain numbers: which are valid, how many positions they have, what each of their taps covers. -/
namespace Go.Proofs.YthagdpiocmcbmaaGreat
def btw (n lo hi : Int) : Bool := decide (lo ≤ n ∧ n ≤ hi)
theorem btw_yes {n lo hi : Int} (h : btw n lo hi = true) : lo ≤ n ∧ n ≤ hi := by simpa [btw] using h
theorem btw_no {n lo hi : Int} (h : btw n lo hi = false) : ¬ (lo ≤ n ∧ n ≤ hi) := by intro g; unfold btw at h; rw [decide_eq_true g] at h; cases h
def InW (kh kw sh sw tp lf bt rt : Int) : Prop := (1 ≤ kh ∧ kh ≤ 32) ∧ (1 ≤ kw ∧ kw ≤ 32) ∧ (1 ≤ sh ∧ sh ≤ 32) ∧ (1 ≤ sw ∧ sw ≤ 32) ∧ (0 ≤ tp ∧ tp ≤ kh - 1) ∧ (0 ≤ bt ∧ bt ≤ kh - 1) ∧ (0 ≤ lf ∧ lf ≤ kw - 1) ∧ (0 ≤ rt ∧ rt ≤ kw - 1)
def vW (kh kw sh sw tp lf bt rt : Int) : Bool := btw kh 1 32 && btw kw 1 32 && btw sh 1 32 && btw sw 1 32 && btw tp 0 (kh - 1) && btw bt 0 (kh - 1) && btw lf 0 (kw - 1) && btw rt 0 (kw - 1)
theorem vW_yes {kh kw sh sw tp lf bt rt : Int} (h : vW kh kw sh sw tp lf bt rt = true) : InW kh kw sh sw tp lf bt rt := by
  simp only [vW, Bool.and_eq_true] at h
  obtain ⟨⟨⟨⟨⟨⟨⟨h1, h2⟩, h3⟩, h4⟩, h5⟩, h6⟩, h7⟩, h8⟩ := h
  exact ⟨btw_yes h1, btw_yes h2, btw_yes h3, btw_yes h4, btw_yes h5, btw_yes h6, btw_yes h7, btw_yes h8⟩
/-- How often a window of k with steps of s fits into n. -/
def sp (n k s : Int) : Int := if n < k then 0 else (n - k) / s + 1
theorem sp_no {n k s : Int} (h : n < k) : sp n k s = 0 := if_pos h
theorem sp_ok {n k s : Int} (h : ¬ n < k) : sp n k s = (n - k) / s + 1 := if_neg h
theorem sp_bd {n k s : Int} (hs : 1 ≤ s) (hn : 0 ≤ n) (hk : 1 ≤ k) : 0 ≤ sp n k s ∧ sp n k s ≤ n + 1 := by
  by_cases h : n < k
  · rw [sp_no h]; omega
  · rw [sp_ok h]
    have h1 := Int.ediv_nonneg (show 0 ≤ n - k by omega) (show 0 ≤ s by omega)
    have h2 := Int.ediv_le_self s (show 0 ≤ n - k by omega)
    omega
theorem sp_mul {n k s : Int} (hs : 1 ≤ s) (h : ¬ n < k) : (sp n k s - 1) * s + k ≤ n := by
  rw [sp_ok h]
  have := Int.ediv_mul_le (n - k) (show s ≠ 0 by omega)
  have e : (n - k) / s + 1 - 1 = (n - k) / s := by omega
  rw [e]
  omega
theorem sp_pos {n k s : Int} (hs : 1 ≤ s) (h : ¬ n < k) : 1 ≤ sp n k s := by
  rw [sp_ok h]
  have h1 := Int.ediv_nonneg (show 0 ≤ n - k by omega) (show 0 ≤ s by omega)
  omega
theorem sp_of {n k s c t : Int} (hs : 1 ≤ s) (hc : 0 ≤ c) (ht : t = c * s) (h1 : n < t + k) (h2 : c = 0 ∨ t - s + k ≤ n) : c = sp n k s := by
  rcases h2 with rfl | h2
  · rw [sp_no (by omega)]
  · by_cases hn : n < k
    · rcases Int.le_iff_lt_or_eq.1 hc with h | h
      · have := Int.mul_le_mul_of_nonneg_right (show 1 ≤ c by omega) (show 0 ≤ s by omega)
        omega
      · subst h; rw [sp_no hn]
    · rw [sp_ok hn]
      have e : (c - 1) * s = t - s := by rw [Int.sub_mul, ht]; omega
      have g1 : c - 1 ≤ (n - k) / s := Int.le_ediv_of_mul_le (by omega) (by omega)
      have g2 : (n - k) / s < c := Int.ediv_lt_of_lt_mul (by omega) (by omega)
      omega
/-- Rows, columns and the error. -/
def ouR (h w c kh kw sh sw tp lf bt rt : Int) : Int × Int × Int :=
  if vS h w c = true then (if vW kh kw sh sw tp lf bt rt = true then (if sp (tp + h + bt) kh sh = 0 ∨ sp (lf + w + rt) kw sw = 0 then (0, 0, 60) else (sp (tp + h + bt) kh sh, sp (lf + w + rt) kw sw, 0)) else (0, 0, 60)) else (0, 0, 50)
theorem ouR_shape {h w c kh kw sh sw tp lf bt rt : Int} (g : vS h w c = false) : ouR h w c kh kw sh sw tp lf bt rt = (0, 0, 50) := if_neg (by rw [g]; exact Bool.false_ne_true)
theorem ouR_win {h w c kh kw sh sw tp lf bt rt : Int} (g : vS h w c = true) (k : vW kh kw sh sw tp lf bt rt = false) : ouR h w c kh kw sh sw tp lf bt rt = (0, 0, 60) := by unfold ouR; rw [if_pos g, if_neg (by rw [k]; exact Bool.false_ne_true)]
theorem ouR_out {h w c kh kw sh sw tp lf bt rt : Int} (g : vS h w c = true) (k : vW kh kw sh sw tp lf bt rt = true) (z : sp (tp + h + bt) kh sh = 0 ∨ sp (lf + w + rt) kw sw = 0) : ouR h w c kh kw sh sw tp lf bt rt = (0, 0, 60) := by unfold ouR; rw [if_pos g, if_pos k, if_pos z]
theorem ouR_in {h w c kh kw sh sw tp lf bt rt : Int} (g : vS h w c = true) (k : vW kh kw sh sw tp lf bt rt = true) (z : ¬ (sp (tp + h + bt) kh sh = 0 ∨ sp (lf + w + rt) kw sw = 0)) : ouR h w c kh kw sh sw tp lf bt rt = (sp (tp + h + bt) kh sh, sp (lf + w + rt) kw sw, 0) := by unfold ouR; rw [if_pos g, if_pos k, if_neg z]
/-- What is known of a window that fits: r rows, q columns. -/
def Fit (h w kh kw sh sw tp lf bt rt r q : Int) : Prop :=
  ((1 ≤ h ∧ h ≤ 1024) ∧ (1 ≤ w ∧ w ≤ 1024) ∧ h * w ≤ 16384) ∧ InW kh kw sh sw tp lf bt rt ∧ (1 ≤ r ∧ r ≤ 1200) ∧ (1 ≤ q ∧ q ≤ 1200) ∧ (r - 1) * sh + kh ≤ tp + h + bt ∧ (q - 1) * sw + kw ≤ lf + w + rt
theorem ouR_cases (h w c kh kw sh sw tp lf bt rt : Int) : (∃ e, ouR h w c kh kw sh sw tp lf bt rt = (0, 0, e) ∧ (e = 50 ∨ e = 60)) ∨ ∃ r q, ouR h w c kh kw sh sw tp lf bt rt = (r, q, 0) ∧ Fit h w kh kw sh sw tp lf bt rt r q := by
  cases g : vS h w c with
  | false => exact .inl ⟨50, ouR_shape g, .inl rfl⟩
  | true =>
    cases k : vW kh kw sh sw tp lf bt rt with
    | false => exact .inl ⟨60, ouR_win g k, .inr rfl⟩
    | true =>
      by_cases z : sp (tp + h + bt) kh sh = 0 ∨ sp (lf + w + rt) kw sw = 0
      · exact .inl ⟨60, ouR_out g k z, .inr rfl⟩
      · obtain ⟨h1, w1, c1, q9⟩ := vS_yes g
        have kk := vW_yes k
        obtain ⟨k1, k2, k3, k4, k5, k6, k7, k8⟩ := kk
        have z1 : ¬ tp + h + bt < kh := fun g => z (.inl (sp_no g))
        have z2 : ¬ lf + w + rt < kw := fun g => z (.inr (sp_no g))
        refine .inr ⟨_, _, ouR_in g k z, ⟨h1, w1, ?_⟩, ⟨k1, k2, k3, k4, k5, k6, k7, k8⟩, ⟨sp_pos (by omega) z1, ?_⟩, ⟨sp_pos (by omega) z2, ?_⟩, sp_mul (by omega) z1, sp_mul (by omega) z2⟩
        · have p1 := (mul_bd h1.1 h1.2 w1.1 w1.2).1
          have := Int.mul_le_mul_of_nonneg_left c1.1 (show 0 ≤ h * w by omega)
          omega
        · have := (sp_bd (n := tp + h + bt) (k := kh) (s := sh) (by omega) (by omega) (by omega)).2; omega
        · have := (sp_bd (n := lf + w + rt) (k := kw) (s := sw) (by omega) (by omega) (by omega)).2; omega
/-- The row and the column of the plane that tap 0 of a position covers. -/
def coR (h w c kh kw sh sw tp lf bt rt n : Int) : Int × Int × Int :=
  if (ouR h w c kh kw sh sw tp lf bt rt).2.2 = 0 then (if 0 ≤ n ∧ n < (ouR h w c kh kw sh sw tp lf bt rt).1 * (ouR h w c kh kw sh sw tp lf bt rt).2.1 then (n / (ouR h w c kh kw sh sw tp lf bt rt).2.1 * sh - tp, n % (ouR h w c kh kw sh sw tp lf bt rt).2.1 * sw - lf, 0) else (0, 0, 3)) else (0, 0, (ouR h w c kh kw sh sw tp lf bt rt).2.2)
/-- A place of the plane, -1 outside. -/
def plc (h w y x : Int) : Int := if (0 ≤ y ∧ y < h) ∧ (0 ≤ x ∧ x < w) then y * w + x else -1
theorem plc_in {h w y x : Int} (k : (0 ≤ y ∧ y < h) ∧ (0 ≤ x ∧ x < w)) : plc h w y x = y * w + x := if_pos k
theorem plc_out {h w y x : Int} (k : ¬ ((0 ≤ y ∧ y < h) ∧ (0 ≤ x ∧ x < w))) : plc h w y x = -1 := if_neg k
theorem rowbd {h w y x : Int} (h2 : y < h) (h1 : 0 ≤ y) (g1 : 0 ≤ x) (g2 : x < w) : 0 ≤ y * w ∧ y * w + x < h * w := by
  have a := Int.mul_le_mul_of_nonneg_right (show y + 1 ≤ h by omega) (show 0 ≤ w by omega)
  have b := Int.mul_le_mul_of_nonneg_right h1 (show 0 ≤ w by omega)
  rw [Int.add_mul] at a
  omega
/-- A tap: its number and what it covers. -/
def tap (h w kw t l : Int) (k : Nat) : Int × Int := ((k : Int), plc h w (t + (k : Int) / kw) (l + (k : Int) % kw))
def tapL (h w kw t l : Int) (n : Nat) : List (Int × Int) := (List.range n).map (tap h w kw t l)
theorem tapL_len (h w kw t l : Int) (n : Nat) : (tapL h w kw t l n).length = n := by simp [tapL]
theorem tapL_succ (h w kw t l : Int) (n : Nat) : tapL h w kw t l (n + 1) = tapL h w kw t l n ++ [tap h w kw t l n] := by simp [tapL, List.range_succ]
theorem tapL_take (h w kw t l : Int) {k n : Nat} (hk : k ≤ n) : tapL h w kw t l k = (tapL h w kw t l n).take k := by
  simp [tapL, ← List.map_take, List.take_range, Nat.min_eq_left hk]
/-- All taps of a position. -/
def tapsOf (h w c kh kw sh sw tp lf bt rt n : Int) : List (Int × Int) :=
  if (coR h w c kh kw sh sw tp lf bt rt n).2.2 = 0 then tapL h w kw (coR h w c kh kw sh sw tp lf bt rt n).1 (coR h w c kh kw sh sw tp lf bt rt n).2.1 (kh * kw).toNat else []
/-- A position's row and column. -/
def spotL (q : Int) (n : Nat) : List (Int × Int) := (List.range n).map fun (k : Nat) => ((k : Int) / q, (k : Int) % q)
theorem spotL_len (q : Int) (n : Nat) : (spotL q n).length = n := by simp [spotL]
theorem spotL_succ (q : Int) (n : Nat) : spotL q (n + 1) = spotL q n ++ [((n : Int) / q, (n : Int) % q)] := by simp [spotL, List.range_succ]
theorem spotL_take (q : Int) {k n : Nat} (hk : k ≤ n) : spotL q k = (spotL q n).take k := by
  simp [spotL, ← List.map_take, List.take_range, Nat.min_eq_left hk]
def spotsOf (h w c kh kw sh sw tp lf bt rt : Int) : List (Int × Int) := spotL (ouR h w c kh kw sh sw tp lf bt rt).2.1 ((ouR h w c kh kw sh sw tp lf bt rt).1 * (ouR h w c kh kw sh sw tp lf bt rt).2.1).toNat
/-- What is known where a position is there. -/
theorem coR_cases (h w c kh kw sh sw tp lf bt rt n : Int) : (∃ e, coR h w c kh kw sh sw tp lf bt rt n = (0, 0, e) ∧ (e = 50 ∨ e = 60 ∨ e = 3)) ∨
    ∃ r q, ouR h w c kh kw sh sw tp lf bt rt = (r, q, 0) ∧ Fit h w kh kw sh sw tp lf bt rt r q ∧ (0 ≤ n ∧ n < r * q) ∧ coR h w c kh kw sh sw tp lf bt rt n = (n / q * sh - tp, n % q * sw - lf, 0) := by
  rcases ouR_cases h w c kh kw sh sw tp lf bt rt with ⟨e, he, h2⟩ | ⟨r, q, he, hf⟩
  · left
    refine ⟨e, ?_, by omega⟩
    unfold coR
    rw [he, if_neg (by simp only; omega)]
  · by_cases hn : 0 ≤ n ∧ n < r * q
    · right
      refine ⟨r, q, he, hf, hn, ?_⟩
      unfold coR
      rw [he, if_pos rfl, if_pos hn]
    · left
      refine ⟨3, ?_, by omega⟩
      unfold coR
      rw [he, if_pos rfl, if_neg hn]
/-- The corner of a position that is there covers, with the window about it, some of the plane. -/
def Cor (h w kh kw t l : Int) : Prop := (1 ≤ h ∧ h ≤ 1024) ∧ (1 ≤ w ∧ w ≤ 1024) ∧ h * w ≤ 16384 ∧ (1 ≤ kh ∧ kh ≤ 32) ∧ (1 ≤ kw ∧ kw ≤ 32) ∧ (1 - kh ≤ t ∧ t < h) ∧ (1 - kw ≤ l ∧ l < w)
theorem cor_of {h w kh kw sh sw tp lf bt rt n r q : Int} (hf : Fit h w kh kw sh sw tp lf bt rt r q) (hn : 0 ≤ n ∧ n < r * q) : Cor h w kh kw (n / q * sh - tp) (n % q * sw - lf) := by
  obtain ⟨⟨h1, w1, q9⟩, ⟨k1, k2, k3, k4, k5, k6, k7, k8⟩, r1, q1, z1, z2⟩ := hf
  have a1 := Int.ediv_nonneg hn.1 (show 0 ≤ q by omega)
  have a2 : n / q < r := Int.ediv_lt_of_lt_mul (by omega) hn.2
  have b1 := Int.emod_nonneg n (show q ≠ 0 by omega)
  have b2 := Int.emod_lt_of_pos n (show 0 < q by omega)
  have c1 := Int.mul_le_mul_of_nonneg_right (show n / q ≤ r - 1 by omega) (show 0 ≤ sh by omega)
  have c2 := Int.mul_le_mul_of_nonneg_right (show n % q ≤ q - 1 by omega) (show 0 ≤ sw by omega)
  have c3 := Int.mul_nonneg a1 (show 0 ≤ sh by omega)
  have c4 := Int.mul_nonneg b1 (show 0 ≤ sw by omega)
  refine ⟨h1, w1, q9, k1, k2, ⟨by omega, by omega⟩, ⟨by omega, by omega⟩⟩
end Go.Proofs.YthagdpiocmcbmaaGreat

/- What the document's test of a shape returns. -/
namespace Go.Proofs.YthagdpiocmcbmaaGreat
open Go.ChangeShapes Go.WideShapes Go.ChangeAt Go.RowKit
def dmB (n : Int) : Bool := decide (1 ≤ n ∧ n ≤ 1024)
theorem dmB_yes {n : Int} (h : dmB n = true) : 1 ≤ n ∧ n ≤ 1024 := by simpa [dmB] using h
theorem dmB_no {n : Int} (h : dmB n = false) : ¬ (1 ≤ n ∧ n ≤ 1024) := by simpa [dmB] using h
theorem dim_any (n : Int) (W : World) :
    Calls Tryz.prog 68 #[.int .i64 n] W fun e w' => e = .returned (.bool (dmB n)) ∧ w' = W := by
  by_cases k1 : 1 ≤ n
  · have HR : Hid (decide (n ≤ 1024) = dmB n) := by unfold Hid dmB; simp [k1]
    go_enter Tryz.func68, Tryz.ntmps68
    go_wp2
    go_ret
    exact ⟨retB HR.out, rfl⟩
  · have HR : Hid (false = dmB n) := by unfold Hid dmB; simp [k1]
    go_enter Tryz.func68, Tryz.ntmps68
    go_wp2
    go_ret
    exact ⟨retB HR.out, rfl⟩
theorem rvalid_any (h w c : Int) (W : World) :
    Calls Tryz.prog 49 #[.agg #[.int .i64 h, .int .i64 w, .int .i64 c]] W fun e w' => e = .returned (.bool (vS h w c)) ∧ Below W.heap.size W w' := by
  cases k1 : dmB h with
  | false =>
    have HR : Hid (false = vS h w c) := by unfold Hid; rw [vS_not (by have := dmB_no k1; omega)]
    go_enter Tryz.func49, Tryz.ntmps49
    go_wp2_with fail
    refine (dim_any _ _).mono ?_
    rintro e w1 ⟨rfl, rfl⟩
    go_wp2
    go_ret
    exact ⟨retB HR.out, (St.start W).new.below⟩
  | true =>
    cases k2 : dmB w with
    | false =>
      have HR : Hid (false = vS h w c) := by unfold Hid; rw [vS_not (by have := dmB_no k2; omega)]
      go_enter Tryz.func49, Tryz.ntmps49
      go_wp2_with fail
      refine (dim_any _ _).mono ?_
      rintro e w1 ⟨rfl, rfl⟩
      go_wp2_with fail
      refine (dim_any _ _).mono ?_
      rintro e w1 ⟨rfl, rfl⟩
      go_wp2
      go_ret
      exact ⟨retB HR.out, (St.start W).new.below⟩
    | true =>
      cases k3 : dmB c with
      | false =>
        have HR : Hid (false = vS h w c) := by unfold Hid; rw [vS_not (by have := dmB_no k3; omega)]
        go_enter Tryz.func49, Tryz.ntmps49
        go_wp2_with fail
        refine (dim_any _ _).mono ?_
        rintro e w1 ⟨rfl, rfl⟩
        go_wp2_with fail
        refine (dim_any _ _).mono ?_
        rintro e w1 ⟨rfl, rfl⟩
        go_wp2_with fail
        refine (dim_any _ _).mono ?_
        rintro e w1 ⟨rfl, rfl⟩
        go_wp2
        go_ret
        exact ⟨retB HR.out, (St.start W).new.below⟩
      | true =>
        have h1 := dmB_yes k1
        have w1 := dmB_yes k2
        have c1 := dmB_yes k3
        obtain ⟨p1, p2⟩ := mul_bd h1.1 h1.2 w1.1 w1.2
        obtain ⟨q1, q2⟩ := mul_bd p1 p2 c1.1 c1.2
        have HV : Hid (decide (h * w * c ≤ 16384) = vS h w c) := by
          unfold Hid vS
          exact decide_eq_decide.2 ⟨fun g => ⟨by omega, by omega, by omega, g⟩, fun g => g.2.2.2⟩
        clear h1 w1 c1
        obtain ⟨p, hp⟩ : ∃ p, h * w = p := ⟨_, rfl⟩
        rw [hp] at p1 p2 q1 q2 HV
        obtain ⟨q, hq⟩ : ∃ q, p * c = q := ⟨_, rfl⟩
        rw [hq] at q1 q2 HV
        go_enter Tryz.func49, Tryz.ntmps49
        go_wp2_with fail
        refine (dim_any _ _).mono ?_
        rintro e w1 ⟨rfl, rfl⟩
        go_wp2_with fail
        refine (dim_any _ _).mono ?_
        rintro e w1 ⟨rfl, rfl⟩
        go_wp2_with fail
        refine (dim_any _ _).mono ?_
        rintro e w1 ⟨rfl, rfl⟩
        go_wp2
        go_ret
        exact ⟨retB HV.out, (St.start W).new.below⟩
end Go.Proofs.YthagdpiocmcbmaaGreat

/- What Valid, Out, corner and place of package window, and the document's answers to them, return: each for every argument. -/
namespace Go.Proofs.YthagdpiocmcbmaaGreat
open Go.ChangeShapes Go.WideShapes Go.ChangeAt Go.RowKit
theorem td {n c : Int} (hn : 0 ≤ n) : n.tdiv c = n / c := Int.tdiv_eq_ediv_of_nonneg hn
theorem tm {n c : Int} (hn : 0 ≤ n) : n.tmod c = n % c := Int.tmod_eq_emod_of_nonneg hn
theorem btw_any (n lo hi : Int) (W : World) :
    Calls Tryz.prog 105 #[.int .i64 n, .int .i64 lo, .int .i64 hi] W fun e w' => e = .returned (.bool (btw n lo hi)) ∧ w' = W := by
  by_cases k1 : lo ≤ n
  · have HR : Hid (decide (n ≤ hi) = btw n lo hi) := by unfold Hid btw; simp [k1]
    go_enter Tryz.func105, Tryz.ntmps105
    go_wp2
    go_ret
    exact ⟨retB HR.out, rfl⟩
  · have HR : Hid (false = btw n lo hi) := by unfold Hid btw; simp [k1]
    go_enter Tryz.func105, Tryz.ntmps105
    go_wp2
    go_ret
    exact ⟨retB HR.out, rfl⟩
theorem rin_any (n lo hi : Int) (W : World) :
    Calls Tryz.prog 106 #[.int .i64 n, .int .i64 lo, .int .i64 hi] W fun e w' => e = .returned (.bool (btw n lo hi)) ∧ w' = W := by
  by_cases k1 : lo ≤ n
  · have HR : Hid (decide (n ≤ hi) = btw n lo hi) := by unfold Hid btw; simp [k1]
    go_enter Tryz.func106, Tryz.ntmps106
    go_wp2
    go_ret
    exact ⟨retB HR.out, rfl⟩
  · have HR : Hid (false = btw n lo hi) := by unfold Hid btw; simp [k1]
    go_enter Tryz.func106, Tryz.ntmps106
    go_wp2
    go_ret
    exact ⟨retB HR.out, rfl⟩
set_option maxHeartbeats 4000000 in
theorem wvalid_any (kh kw sh sw tp lf bt rt : Int) (W : World) :
    Calls Tryz.prog 100 #[.agg #[.int .i64 kh, .int .i64 kw, .int .i64 sh, .int .i64 sw, .int .i64 tp, .int .i64 lf, .int .i64 bt, .int .i64 rt]] W fun e w' => e = .returned (.bool (vW kh kw sh sw tp lf bt rt)) ∧ Below W.heap.size W w' := by
  have S := (St.start W).new (c := #[.int .i64 kh, .int .i64 kw, .int .i64 sh, .int .i64 sw, .int .i64 tp, .int .i64 lf, .int .i64 bt, .int .i64 rt]) (t := 49)
  cases k1 : btw kh 1 32 with
  | false =>
    have HR : Hid (false = vW kh kw sh sw tp lf bt rt) := by unfold Hid vW; simp [*]
    go_enter Tryz.func100, Tryz.ntmps100
    iterate 1 (go_wp2_with fail; refine (btw_any _ _ _ _).mono ?_; rintro e w1 ⟨rfl, rfl⟩)
    go_wp2
    go_ret
    exact ⟨retB HR.out, S.below⟩
  | true =>
  have y1 := btw_yes k1
  cases k2 : btw kw 1 32 with
  | false =>
    have HR : Hid (false = vW kh kw sh sw tp lf bt rt) := by unfold Hid vW; simp [*]
    go_enter Tryz.func100, Tryz.ntmps100
    iterate 2 (go_wp2_with fail; refine (btw_any _ _ _ _).mono ?_; rintro e w1 ⟨rfl, rfl⟩)
    go_wp2
    go_ret
    exact ⟨retB HR.out, S.below⟩
  | true =>
  have y2 := btw_yes k2
  cases k3 : btw sh 1 32 with
  | false =>
    have HR : Hid (false = vW kh kw sh sw tp lf bt rt) := by unfold Hid vW; simp [*]
    go_enter Tryz.func100, Tryz.ntmps100
    iterate 3 (go_wp2_with fail; refine (btw_any _ _ _ _).mono ?_; rintro e w1 ⟨rfl, rfl⟩)
    go_wp2
    go_ret
    exact ⟨retB HR.out, S.below⟩
  | true =>
  have y3 := btw_yes k3
  cases k4 : btw sw 1 32 with
  | false =>
    have HR : Hid (false = vW kh kw sh sw tp lf bt rt) := by unfold Hid vW; simp [*]
    go_enter Tryz.func100, Tryz.ntmps100
    iterate 4 (go_wp2_with fail; refine (btw_any _ _ _ _).mono ?_; rintro e w1 ⟨rfl, rfl⟩)
    go_wp2
    go_ret
    exact ⟨retB HR.out, S.below⟩
  | true =>
  have y4 := btw_yes k4
  cases k5 : btw tp 0 (kh - 1) with
  | false =>
    have HR : Hid (false = vW kh kw sh sw tp lf bt rt) := by unfold Hid vW; simp [*]
    go_enter Tryz.func100, Tryz.ntmps100
    iterate 5 (go_wp2_with fail; refine (btw_any _ _ _ _).mono ?_; rintro e w1 ⟨rfl, rfl⟩)
    go_wp2
    go_ret
    exact ⟨retB HR.out, S.below⟩
  | true =>
  have y5 := btw_yes k5
  cases k6 : btw bt 0 (kh - 1) with
  | false =>
    have HR : Hid (false = vW kh kw sh sw tp lf bt rt) := by unfold Hid vW; simp [*]
    go_enter Tryz.func100, Tryz.ntmps100
    iterate 6 (go_wp2_with fail; refine (btw_any _ _ _ _).mono ?_; rintro e w1 ⟨rfl, rfl⟩)
    go_wp2
    go_ret
    exact ⟨retB HR.out, S.below⟩
  | true =>
  have y6 := btw_yes k6
  cases k7 : btw lf 0 (kw - 1) with
  | false =>
    have HR : Hid (false = vW kh kw sh sw tp lf bt rt) := by unfold Hid vW; simp [*]
    go_enter Tryz.func100, Tryz.ntmps100
    iterate 7 (go_wp2_with fail; refine (btw_any _ _ _ _).mono ?_; rintro e w1 ⟨rfl, rfl⟩)
    go_wp2
    go_ret
    exact ⟨retB HR.out, S.below⟩
  | true =>
  have y7 := btw_yes k7
  have HR : Hid (btw rt 0 (kw - 1) = vW kh kw sh sw tp lf bt rt) := by unfold Hid vW; simp [*]
  go_enter Tryz.func100, Tryz.ntmps100
  iterate 8 (go_wp2_with fail; refine (btw_any _ _ _ _).mono ?_; rintro e w1 ⟨rfl, rfl⟩)
  go_wp2
  go_ret
  exact ⟨retB HR.out, S.below⟩
set_option maxHeartbeats 4000000 in
theorem wrvalid_any (kh kw sh sw tp lf bt rt : Int) (W : World) :
    Calls Tryz.prog 103 #[.agg #[.int .i64 kh, .int .i64 kw, .int .i64 sh, .int .i64 sw, .int .i64 tp, .int .i64 lf, .int .i64 bt, .int .i64 rt]] W fun e w' => e = .returned (.bool (vW kh kw sh sw tp lf bt rt)) ∧ Below W.heap.size W w' := by
  have S := (St.start W).new (c := #[.int .i64 kh, .int .i64 kw, .int .i64 sh, .int .i64 sw, .int .i64 tp, .int .i64 lf, .int .i64 bt, .int .i64 rt]) (t := 49)
  cases k1 : btw kh 1 32 with
  | false =>
    have HR : Hid (false = vW kh kw sh sw tp lf bt rt) := by unfold Hid vW; simp [*]
    go_enter Tryz.func103, Tryz.ntmps103
    iterate 1 (go_wp2_with fail; refine (rin_any _ _ _ _).mono ?_; rintro e w1 ⟨rfl, rfl⟩)
    go_wp2
    go_ret
    exact ⟨retB HR.out, S.below⟩
  | true =>
  have y1 := btw_yes k1
  cases k2 : btw kw 1 32 with
  | false =>
    have HR : Hid (false = vW kh kw sh sw tp lf bt rt) := by unfold Hid vW; simp [*]
    go_enter Tryz.func103, Tryz.ntmps103
    iterate 2 (go_wp2_with fail; refine (rin_any _ _ _ _).mono ?_; rintro e w1 ⟨rfl, rfl⟩)
    go_wp2
    go_ret
    exact ⟨retB HR.out, S.below⟩
  | true =>
  have y2 := btw_yes k2
  cases k3 : btw sh 1 32 with
  | false =>
    have HR : Hid (false = vW kh kw sh sw tp lf bt rt) := by unfold Hid vW; simp [*]
    go_enter Tryz.func103, Tryz.ntmps103
    iterate 3 (go_wp2_with fail; refine (rin_any _ _ _ _).mono ?_; rintro e w1 ⟨rfl, rfl⟩)
    go_wp2
    go_ret
    exact ⟨retB HR.out, S.below⟩
  | true =>
  have y3 := btw_yes k3
  cases k4 : btw sw 1 32 with
  | false =>
    have HR : Hid (false = vW kh kw sh sw tp lf bt rt) := by unfold Hid vW; simp [*]
    go_enter Tryz.func103, Tryz.ntmps103
    iterate 4 (go_wp2_with fail; refine (rin_any _ _ _ _).mono ?_; rintro e w1 ⟨rfl, rfl⟩)
    go_wp2
    go_ret
    exact ⟨retB HR.out, S.below⟩
  | true =>
  have y4 := btw_yes k4
  cases k5 : btw tp 0 (kh - 1) with
  | false =>
    have HR : Hid (false = vW kh kw sh sw tp lf bt rt) := by unfold Hid vW; simp [*]
    go_enter Tryz.func103, Tryz.ntmps103
    iterate 5 (go_wp2_with fail; refine (rin_any _ _ _ _).mono ?_; rintro e w1 ⟨rfl, rfl⟩)
    go_wp2
    go_ret
    exact ⟨retB HR.out, S.below⟩
  | true =>
  have y5 := btw_yes k5
  cases k6 : btw bt 0 (kh - 1) with
  | false =>
    have HR : Hid (false = vW kh kw sh sw tp lf bt rt) := by unfold Hid vW; simp [*]
    go_enter Tryz.func103, Tryz.ntmps103
    iterate 6 (go_wp2_with fail; refine (rin_any _ _ _ _).mono ?_; rintro e w1 ⟨rfl, rfl⟩)
    go_wp2
    go_ret
    exact ⟨retB HR.out, S.below⟩
  | true =>
  have y6 := btw_yes k6
  cases k7 : btw lf 0 (kw - 1) with
  | false =>
    have HR : Hid (false = vW kh kw sh sw tp lf bt rt) := by unfold Hid vW; simp [*]
    go_enter Tryz.func103, Tryz.ntmps103
    iterate 7 (go_wp2_with fail; refine (rin_any _ _ _ _).mono ?_; rintro e w1 ⟨rfl, rfl⟩)
    go_wp2
    go_ret
    exact ⟨retB HR.out, S.below⟩
  | true =>
  have y7 := btw_yes k7
  have HR : Hid (btw rt 0 (kw - 1) = vW kh kw sh sw tp lf bt rt) := by unfold Hid vW; simp [*]
  go_enter Tryz.func103, Tryz.ntmps103
  iterate 8 (go_wp2_with fail; refine (rin_any _ _ _ _).mono ?_; rintro e w1 ⟨rfl, rfl⟩)
  go_wp2
  go_ret
  exact ⟨retB HR.out, S.below⟩
theorem stops_any (n k s : Int) (W : World) (hn : 0 ≤ n ∧ n ≤ 4000) (hk : 1 ≤ k ∧ k ≤ 32) (hs : 1 ≤ s ∧ s ≤ 32) :
    Calls Tryz.prog 101 #[.int .i64 n, .int .i64 k, .int .i64 s] W fun e w' => e = .returned (.int .i64 (sp n k s)) ∧ w' = W := by
  by_cases h : n < k
  · rw [sp_no h]
    go_enter Tryz.func101, Tryz.ntmps101
    go_wp2
    go_ret
    exact ⟨rfl, rfl⟩
  · rw [sp_ok h]
    have t1 := td (c := s) (show 0 ≤ n - k by omega)
    have h1 := Int.ediv_nonneg (show 0 ≤ n - k by omega) (show 0 ≤ s by omega)
    have h2 := Int.ediv_le_self s (show 0 ≤ n - k by omega)
    obtain ⟨d, hd⟩ : ∃ d, (n - k) / s = d := ⟨_, rfl⟩
    rw [hd] at t1 h1 h2 
    rw [hd]
    clear hd
    go_enter Tryz.func101, Tryz.ntmps101
    go_wp2
    go_ret
    exact ⟨rfl, rfl⟩
theorem count_any (n k s : Int) (W : World) (hn : 0 ≤ n ∧ n ≤ 4000) (hk : 1 ≤ k ∧ k ≤ 32) (hs : 1 ≤ s ∧ s ≤ 32) :
    Calls Tryz.prog 104 #[.int .i64 n, .int .i64 k, .int .i64 s] W fun e w' => e = .returned (.int .i64 (sp n k s)) ∧ w' = W := by
  go_enter Tryz.func104, Tryz.ntmps104
  go_wp2
  go_loop [7, 8] (fun p q => ∃ c t : Int, p = .int .i64 c ∧ q = .int .i64 t ∧ 0 ≤ c ∧ 0 ≤ t ∧ t = c * s ∧ (c = 0 ∨ t - s + k ≤ n) ∧ c ≤ t)
    (fun _ q => (n + 100 - intOf q).toNat)
  case atStart => exact ⟨0, 0, rfl, rfl, by omega, by omega, by omega, .inl rfl, by omega⟩
  case round =>
    obtain ⟨c, t, rfl, rfl, c0, t0, ht, hl, hct⟩ := hrel
    have Ht : Hid (t = c * s) := ht
    have bt : t ≤ 4040 := by
      rcases hl with rfl | hl
      · omega
      · omega
    have HL : Hid (c = 0 ∨ t - s + k ≤ n) := hl
    clear ht hl
    by_cases hc : t + k ≤ n
    · go_wp2
      go_round
      case rel => exact ⟨c + 1, t + s, rfl, rfl, by omega, by omega, by rw [Int.add_mul, ← Ht.out]; omega, .inr (by omega), by omega⟩
      case measure => simp [intOf]; omega
    · have HR : Hid (c = sp n k s) := sp_of (by omega) c0 Ht.out (by omega) HL.out
      go_wp2
      go_ret
      exact ⟨ret1 HR.out, rfl⟩
end Go.Proofs.YthagdpiocmcbmaaGreat
