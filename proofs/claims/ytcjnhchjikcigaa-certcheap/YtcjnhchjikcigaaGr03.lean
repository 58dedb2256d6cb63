/- The small functions of package model, and the document's: kinds, what they use, values. Lists of flat structs, and of lists of them, in memory; the small functions of package cert and of its document. -/
import Derived.Test.YtcjnhchjikcigaaGr01
import Derived.Test.YtcjnhchjikcigaaGr02
import Derived.BigQuiet
/- The small functions of package model, and the document's: kinds, what they use, values. -/
namespace Go.Proofs.Ytcjnhchjikcigaa
open Go.ChangeShapes Go.WideShapes Go.ChangeAt Go.RowKit
/-! ### Which fields a kind uses -/
def rdB (k : Int) : Bool := decide (1 ≤ k ∧ k ≤ 4)
def slB (k : Int) : Bool := decide (2 ≤ k ∧ k ≤ 5)
def weB (k : Int) : Bool := decide (1 ≤ k ∧ k ≤ 3)
def scK (k : Int) : Bool := decide ((1 ≤ k ∧ k ≤ 3) ∨ k = 6 ∨ k = 7)
def vlB (n : Int) : Bool := decide (-128 ≤ n ∧ n ≤ 127)
def rgB (lo hi : Int) : Bool := vlB lo && vlB hi && decide (lo ≤ hi)
theorem vlB_yes {n : Int} (h : vlB n = true) : -128 ≤ n ∧ n ≤ 127 := by simpa [vlB] using h
/-- A kind is one of eight. -/
theorem eight {k : Int} (h : 1 ≤ k ∧ k ≤ 8) : k = 1 ∨ k = 2 ∨ k = 3 ∨ k = 4 ∨ k = 5 ∨ k = 6 ∨ k = 7 ∨ k = 8 := by omega
theorem uses_1 (w : World) :
    Calls Try.prog 71 #[.int .i64 1] w fun e w' => e = .returned (.agg #[.bool false, .bool true, .bool false, .bool false, .bool true, .bool true, .bool false, .bool true, .bool false]) ∧ Below w.heap.size w w' := by
  go_enter Try.func71, Try.ntmps71
  go_wp2
  exact bodyPost_ret (v := .agg #[.bool false, .bool true, .bool false, .bool false, .bool true, .bool true, .bool false, .bool true, .bool false]) (by simp [results, Try.results71, go_sem]) rfl ⟨rfl, (St.start w).new.below⟩
theorem uses_2 (w : World) :
    Calls Try.prog 71 #[.int .i64 2] w fun e w' => e = .returned (.agg #[.bool false, .bool true, .bool true, .bool true, .bool true, .bool true, .bool false, .bool true, .bool true]) ∧ Below w.heap.size w w' := by
  go_enter Try.func71, Try.ntmps71
  go_wp2
  exact bodyPost_ret (v := .agg #[.bool false, .bool true, .bool true, .bool true, .bool true, .bool true, .bool false, .bool true, .bool true]) (by simp [results, Try.results71, go_sem]) rfl ⟨rfl, (St.start w).new.below⟩
theorem uses_3 (w : World) :
    Calls Try.prog 71 #[.int .i64 3] w fun e w' => e = .returned (.agg #[.bool false, .bool false, .bool true, .bool true, .bool true, .bool true, .bool false, .bool true, .bool true]) ∧ Below w.heap.size w w' := by
  go_enter Try.func71, Try.ntmps71
  go_wp2
  exact bodyPost_ret (v := .agg #[.bool false, .bool false, .bool true, .bool true, .bool true, .bool true, .bool false, .bool true, .bool true]) (by simp [results, Try.results71, go_sem]) rfl ⟨rfl, (St.start w).new.below⟩
theorem uses_4 (w : World) :
    Calls Try.prog 71 #[.int .i64 4] w fun e w' => e = .returned (.agg #[.bool false, .bool false, .bool true, .bool false, .bool false, .bool false, .bool false, .bool false, .bool false]) ∧ Below w.heap.size w w' := by
  go_enter Try.func71, Try.ntmps71
  go_wp2
  exact bodyPost_ret (v := .agg #[.bool false, .bool false, .bool true, .bool false, .bool false, .bool false, .bool false, .bool false, .bool false]) (by simp [results, Try.results71, go_sem]) rfl ⟨rfl, (St.start w).new.below⟩
theorem uses_5 (w : World) :
    Calls Try.prog 71 #[.int .i64 5] w fun e w' => e = .returned (.agg #[.bool false, .bool false, .bool true, .bool false, .bool false, .bool false, .bool false, .bool false, .bool false]) ∧ Below w.heap.size w w' := by
  go_enter Try.func71, Try.ntmps71
  go_wp2
  exact bodyPost_ret (v := .agg #[.bool false, .bool false, .bool true, .bool false, .bool false, .bool false, .bool false, .bool false, .bool false]) (by simp [results, Try.results71, go_sem]) rfl ⟨rfl, (St.start w).new.below⟩
theorem uses_6 (w : World) :
    Calls Try.prog 71 #[.int .i64 6] w fun e w' => e = .returned (.agg #[.bool true, .bool false, .bool false, .bool false, .bool false, .bool true, .bool true, .bool true, .bool false]) ∧ Below w.heap.size w w' := by
  go_enter Try.func71, Try.ntmps71
  go_wp2
  exact bodyPost_ret (v := .agg #[.bool true, .bool false, .bool false, .bool false, .bool false, .bool true, .bool true, .bool true, .bool false]) (by simp [results, Try.results71, go_sem]) rfl ⟨rfl, (St.start w).new.below⟩
theorem uses_7 (w : World) :
    Calls Try.prog 71 #[.int .i64 7] w fun e w' => e = .returned (.agg #[.bool false, .bool false, .bool false, .bool false, .bool false, .bool true, .bool false, .bool true, .bool false]) ∧ Below w.heap.size w w' := by
  go_enter Try.func71, Try.ntmps71
  go_wp2
  exact bodyPost_ret (v := .agg #[.bool false, .bool false, .bool false, .bool false, .bool false, .bool true, .bool false, .bool true, .bool false]) (by simp [results, Try.results71, go_sem]) rfl ⟨rfl, (St.start w).new.below⟩
theorem uses_8 (w : World) :
    Calls Try.prog 71 #[.int .i64 8] w fun e w' => e = .returned (.agg #[.bool false, .bool false, .bool false, .bool false, .bool false, .bool false, .bool false, .bool false, .bool false]) ∧ Below w.heap.size w w' := by
  go_enter Try.func71, Try.ntmps71
  go_wp2
  exact bodyPost_ret (v := .agg #[.bool false, .bool false, .bool false, .bool false, .bool false, .bool false, .bool false, .bool false, .bool false]) (by simp [results, Try.results71, go_sem]) rfl ⟨rfl, (St.start w).new.below⟩
theorem red_any (k : Int) (w : World) :
    Calls Try.prog 47 #[.int .i64 k] w fun e w' => e = .returned (.bool (rdB k)) ∧ w' = w := by
  by_cases e1 : k = 1
  · subst e1
    go_enter Try.func47, Try.ntmps47
    go_wp2
    go_ret
    exact ⟨rfl, rfl⟩
  by_cases e2 : k = 2
  · subst e2
    go_enter Try.func47, Try.ntmps47
    go_wp2
    go_ret
    exact ⟨rfl, rfl⟩
  by_cases e3 : k = 3
  · subst e3
    go_enter Try.func47, Try.ntmps47
    go_wp2
    go_ret
    exact ⟨rfl, rfl⟩
  by_cases e4 : k = 4
  · subst e4
    go_enter Try.func47, Try.ntmps47
    go_wp2
    go_ret
    exact ⟨rfl, rfl⟩
  by_cases e5 : k = 5
  · subst e5
    go_enter Try.func47, Try.ntmps47
    go_wp2
    go_ret
    exact ⟨rfl, rfl⟩
  by_cases e6 : k = 6
  · subst e6
    go_enter Try.func47, Try.ntmps47
    go_wp2
    go_ret
    exact ⟨rfl, rfl⟩
  by_cases e7 : k = 7
  · subst e7
    go_enter Try.func47, Try.ntmps47
    go_wp2
    go_ret
    exact ⟨rfl, rfl⟩
  have HR : Hid (false = rdB k) := by unfold Hid rdB; symm; exact decide_eq_false (by omega)
  by_cases l1 : 1 ≤ k
  · have l2 : 8 ≤ k := by omega
    clear e1 e2 e3 e4 e5 e6 e7
    go_enter Try.func47, Try.ntmps47
    go_wp2
    go_ret
    exact ⟨retB (by first | exact HR.out | (rw [← HR.out]; simp; omega)), rfl⟩
  · clear e1 e2 e3 e4 e5 e6 e7
    go_enter Try.func47, Try.ntmps47
    go_wp2
    go_ret
    exact ⟨retB (by first | exact HR.out | (rw [← HR.out]; simp; omega)), rfl⟩
theorem rred_any (k : Int) (w : World) :
    Calls Try.prog 44 #[.int .i64 k] w fun e w' => e = .returned (.bool (rdB k)) ∧ w' = w := by
  by_cases e1 : k = 1
  · subst e1
    go_enter Try.func44, Try.ntmps44
    go_wp2
    go_ret
    exact ⟨rfl, rfl⟩
  by_cases e2 : k = 2
  · subst e2
    go_enter Try.func44, Try.ntmps44
    go_wp2
    go_ret
    exact ⟨rfl, rfl⟩
  by_cases e3 : k = 3
  · subst e3
    go_enter Try.func44, Try.ntmps44
    go_wp2
    go_ret
    exact ⟨rfl, rfl⟩
  by_cases e4 : k = 4
  · subst e4
    go_enter Try.func44, Try.ntmps44
    go_wp2
    go_ret
    exact ⟨rfl, rfl⟩
  by_cases e5 : k = 5
  · subst e5
    go_enter Try.func44, Try.ntmps44
    go_wp2
    go_ret
    exact ⟨rfl, rfl⟩
  by_cases e6 : k = 6
  · subst e6
    go_enter Try.func44, Try.ntmps44
    go_wp2
    go_ret
    exact ⟨rfl, rfl⟩
  by_cases e7 : k = 7
  · subst e7
    go_enter Try.func44, Try.ntmps44
    go_wp2
    go_ret
    exact ⟨rfl, rfl⟩
  have HR : Hid (false = rdB k) := by unfold Hid rdB; symm; exact decide_eq_false (by omega)
  by_cases l1 : 1 ≤ k
  · have l2 : 8 ≤ k := by omega
    clear e1 e2 e3 e4 e5 e6 e7
    go_enter Try.func44, Try.ntmps44
    go_wp2
    go_ret
    exact ⟨retB (by first | exact HR.out | (rw [← HR.out]; simp; omega)), rfl⟩
  · clear e1 e2 e3 e4 e5 e6 e7
    go_enter Try.func44, Try.ntmps44
    go_wp2
    go_ret
    exact ⟨retB (by first | exact HR.out | (rw [← HR.out]; simp; omega)), rfl⟩
theorem slid_any (k : Int) (w : World) :
    Calls Try.prog 75 #[.int .i64 k] w fun e w' => e = .returned (.bool (slB k)) ∧ w' = w := by
  by_cases e1 : k = 1
  · subst e1
    go_enter Try.func75, Try.ntmps75
    go_wp2
    go_ret
    exact ⟨rfl, rfl⟩
  by_cases e2 : k = 2
  · subst e2
    go_enter Try.func75, Try.ntmps75
    go_wp2
    go_ret
    exact ⟨rfl, rfl⟩
  by_cases e3 : k = 3
  · subst e3
    go_enter Try.func75, Try.ntmps75
    go_wp2
    go_ret
    exact ⟨rfl, rfl⟩
  by_cases e4 : k = 4
  · subst e4
    go_enter Try.func75, Try.ntmps75
    go_wp2
    go_ret
    exact ⟨rfl, rfl⟩
  by_cases e5 : k = 5
  · subst e5
    go_enter Try.func75, Try.ntmps75
    go_wp2
    go_ret
    exact ⟨rfl, rfl⟩
  by_cases e6 : k = 6
  · subst e6
    go_enter Try.func75, Try.ntmps75
    go_wp2
    go_ret
    exact ⟨rfl, rfl⟩
  by_cases e7 : k = 7
  · subst e7
    go_enter Try.func75, Try.ntmps75
    go_wp2
    go_ret
    exact ⟨rfl, rfl⟩
  have HR : Hid (false = slB k) := by unfold Hid slB; symm; exact decide_eq_false (by omega)
  by_cases l1 : 1 ≤ k
  · have l2 : 8 ≤ k := by omega
    clear e1 e2 e3 e4 e5 e6 e7
    go_enter Try.func75, Try.ntmps75
    go_wp2
    go_ret
    exact ⟨retB (by first | exact HR.out | (rw [← HR.out]; simp; omega)), rfl⟩
  · clear e1 e2 e3 e4 e5 e6 e7
    go_enter Try.func75, Try.ntmps75
    go_wp2
    go_ret
    exact ⟨retB (by first | exact HR.out | (rw [← HR.out]; simp; omega)), rfl⟩
theorem weig_any (k : Int) (w : World) :
    Calls Try.prog 74 #[.int .i64 k] w fun e w' => e = .returned (.bool (weB k)) ∧ w' = w := by
  by_cases e1 : k = 1
  · subst e1
    go_enter Try.func74, Try.ntmps74
    go_wp2
    go_ret
    exact ⟨rfl, rfl⟩
  by_cases e2 : k = 2
  · subst e2
    go_enter Try.func74, Try.ntmps74
    go_wp2
    go_ret
    exact ⟨rfl, rfl⟩
  by_cases e3 : k = 3
  · subst e3
    go_enter Try.func74, Try.ntmps74
    go_wp2
    go_ret
    exact ⟨rfl, rfl⟩
  by_cases e4 : k = 4
  · subst e4
    go_enter Try.func74, Try.ntmps74
    go_wp2
    go_ret
    exact ⟨rfl, rfl⟩
  by_cases e5 : k = 5
  · subst e5
    go_enter Try.func74, Try.ntmps74
    go_wp2
    go_ret
    exact ⟨rfl, rfl⟩
  by_cases e6 : k = 6
  · subst e6
    go_enter Try.func74, Try.ntmps74
    go_wp2
    go_ret
    exact ⟨rfl, rfl⟩
  by_cases e7 : k = 7
  · subst e7
    go_enter Try.func74, Try.ntmps74
    go_wp2
    go_ret
    exact ⟨rfl, rfl⟩
  have HR : Hid (false = weB k) := by unfold Hid weB; symm; exact decide_eq_false (by omega)
  by_cases l1 : 1 ≤ k
  · have l2 : 8 ≤ k := by omega
    clear e1 e2 e3 e4 e5 e6 e7
    go_enter Try.func74, Try.ntmps74
    go_wp2
    go_ret
    exact ⟨retB (by first | exact HR.out | (rw [← HR.out]; simp; omega)), rfl⟩
  · clear e1 e2 e3 e4 e5 e6 e7
    go_enter Try.func74, Try.ntmps74
    go_wp2
    go_ret
    exact ⟨retB (by first | exact HR.out | (rw [← HR.out]; simp; omega)), rfl⟩
theorem scal_any (k : Int) (w : World) :
    Calls Try.prog 66 #[.int .i64 k] w fun e w' => e = .returned (.bool (scK k)) ∧ w' = w := by
  by_cases e1 : k = 1
  · subst e1
    go_enter Try.func66, Try.ntmps66
    go_wp2
    go_ret
    exact ⟨rfl, rfl⟩
  by_cases e2 : k = 2
  · subst e2
    go_enter Try.func66, Try.ntmps66
    go_wp2
    go_ret
    exact ⟨rfl, rfl⟩
  by_cases e3 : k = 3
  · subst e3
    go_enter Try.func66, Try.ntmps66
    go_wp2
    go_ret
    exact ⟨rfl, rfl⟩
  by_cases e4 : k = 4
  · subst e4
    go_enter Try.func66, Try.ntmps66
    go_wp2
    go_ret
    exact ⟨rfl, rfl⟩
  by_cases e5 : k = 5
  · subst e5
    go_enter Try.func66, Try.ntmps66
    go_wp2
    go_ret
    exact ⟨rfl, rfl⟩
  by_cases e6 : k = 6
  · subst e6
    go_enter Try.func66, Try.ntmps66
    go_wp2
    go_ret
    exact ⟨rfl, rfl⟩
  by_cases e7 : k = 7
  · subst e7
    go_enter Try.func66, Try.ntmps66
    go_wp2
    go_ret
    exact ⟨rfl, rfl⟩
  have HR : Hid (false = scK k) := by unfold Hid scK; symm; exact decide_eq_false (by omega)
  by_cases l1 : 1 ≤ k
  · have l2 : 8 ≤ k := by omega
    clear e1 e2 e3 e4 e5 e6 e7
    go_enter Try.func66, Try.ntmps66
    go_wp2
    go_ret
    exact ⟨retB (by first | exact HR.out | (rw [← HR.out]; simp; omega)), rfl⟩
  · clear e1 e2 e3 e4 e5 e6 e7
    go_enter Try.func66, Try.ntmps66
    go_wp2
    go_ret
    exact ⟨retB (by first | exact HR.out | (rw [← HR.out]; simp; omega)), rfl⟩
theorem isval_any (n : Int) (W : World) :
    Calls Try.prog 69 #[.int .i64 n] W fun e w' => e = .returned (.bool (vlB n)) ∧ w' = W := by
  by_cases k1 : -128 ≤ n
  · have HR : Hid (decide (n ≤ 127) = vlB n) := by unfold Hid vlB; simp [k1]
    go_enter Try.func69, Try.ntmps69
    go_wp2
    go_ret
    exact ⟨retB HR.out, rfl⟩
  · have HR : Hid (false = vlB n) := by unfold Hid vlB; simp [k1]
    go_enter Try.func69, Try.ntmps69
    go_wp2
    go_ret
    exact ⟨retB HR.out, rfl⟩
theorem rval_any (n : Int) (W : World) :
    Calls Try.prog 53 #[.int .i64 n] W fun e w' => e = .returned (.bool (vlB n)) ∧ w' = W := by
  by_cases k1 : -128 ≤ n
  · have HR : Hid (decide (n ≤ 127) = vlB n) := by unfold Hid vlB; simp [k1]
    go_enter Try.func53, Try.ntmps53
    go_wp2
    go_ret
    exact ⟨retB HR.out, rfl⟩
  · have HR : Hid (false = vlB n) := by unfold Hid vlB; simp [k1]
    go_enter Try.func53, Try.ntmps53
    go_wp2
    go_ret
    exact ⟨retB HR.out, rfl⟩
theorem isrange_any (lo hi : Int) (W : World) :
    Calls Try.prog 57 #[.int .i64 lo, .int .i64 hi] W fun e w' => e = .returned (.bool (rgB lo hi)) ∧ w' = W := by
  cases k1 : vlB lo with
  | false =>
    have HR : Hid (false = rgB lo hi) := by unfold Hid rgB; simp [k1]
    go_enter Try.func57, Try.ntmps57
    go_wp2_with fail
    refine (isval_any _ _).mono ?_
    rintro e w' ⟨rfl, rfl⟩
    go_wp2
    go_ret
    exact ⟨retB HR.out, rfl⟩
  | true =>
    cases k2 : vlB hi with
    | false =>
      have HR : Hid (false = rgB lo hi) := by unfold Hid rgB; simp [k2]
      go_enter Try.func57, Try.ntmps57
      go_wp2_with fail
      refine (isval_any _ _).mono ?_
      rintro e w' ⟨rfl, rfl⟩
      go_wp2_with fail
      refine (isval_any _ _).mono ?_
      rintro e w' ⟨rfl, rfl⟩
      go_wp2
      go_ret
      exact ⟨retB HR.out, rfl⟩
    | true =>
      have HR : Hid (decide (lo ≤ hi) = rgB lo hi) := by unfold Hid rgB; simp [k1, k2]
      go_enter Try.func57, Try.ntmps57
      go_wp2_with fail
      refine (isval_any _ _).mono ?_
      rintro e w' ⟨rfl, rfl⟩
      go_wp2_with fail
      refine (isval_any _ _).mono ?_
      rintro e w' ⟨rfl, rfl⟩
      go_wp2
      go_ret
      exact ⟨retB HR.out, rfl⟩
theorem nopad_any (kh kw sh sw tp lf bt rt : Int) (W : World) :
    Calls Try.prog 77 #[.agg #[.int .i64 kh, .int .i64 kw, .int .i64 sh, .int .i64 sw, .int .i64 tp, .int .i64 lf, .int .i64 bt, .int .i64 rt]] W fun e w' => e = .returned (.agg #[.int .i64 kh, .int .i64 kw, .int .i64 sh, .int .i64 sw, .int .i64 0, .int .i64 0, .int .i64 0, .int .i64 0]) ∧ Below W.heap.size W w' := by
  go_enter Try.func77, Try.ntmps77
  go_wp2
  exact bodyPost_ret (v := .agg #[.int .i64 kh, .int .i64 kw, .int .i64 sh, .int .i64 sw, .int .i64 0, .int .i64 0, .int .i64 0, .int .i64 0]) (by simp [results, Try.results77, go_sem]) rfl ⟨rfl, (St.start W).new.new.below⟩
/-! ### Scales -/
def shB (s : Int) : Bool := decide (0 ≤ s ∧ s ≤ 62)
def scB (m s : Int) : Bool := decide (1 ≤ m ∧ m ≤ 2147483647 ∧ 0 ≤ s ∧ s ≤ 62)
theorem reach_any (s : Int) (w : World) :
    Calls Try.prog 80 #[.int .i64 s] w fun e w' => e = .returned (.bool (shB s)) ∧ w' = w := by
  by_cases k1 : 0 ≤ s
  · have HR : Hid (decide (s ≤ 62) = shB s) := by unfold Hid shB; simp [k1]
    go_enter Try.func80, Try.ntmps80
    go_wp2
    go_ret
    exact ⟨retB HR.out, rfl⟩
  · have HR : Hid (false = shB s) := by unfold Hid shB; simp [k1]
    go_enter Try.func80, Try.ntmps80
    go_wp2
    go_ret
    exact ⟨retB HR.out, rfl⟩
theorem valid_any (m s : Int) (w : World) :
    Calls Try.prog 73 #[.agg #[.int .i64 m, .int .i64 s]] w fun e w' => e = .returned (.bool (scB m s)) ∧ Below w.heap.size w w' := by
  by_cases c1 : 1 ≤ m
  · by_cases c2 : m ≤ 2147483647
    · have HR : Hid (shB s = scB m s) := by unfold Hid shB scB; simp [c1, c2]
      go_enter Try.func73, Try.ntmps73
      go_wp2_with fail
      refine (reach_any _ _).mono ?_
      rintro e w' ⟨rfl, rfl⟩
      go_wp2
      go_ret
      exact ⟨retB HR.out, (Below.refl _ _).alloc (Nat.le_refl _) _⟩
    · have HR : Hid (false = scB m s) := by unfold Hid scB; simp [c2]
      go_enter Try.func73, Try.ntmps73
      go_wp2
      go_ret
      exact ⟨retB HR.out, (Below.refl _ _).alloc (Nat.le_refl _) _⟩
  · have HR : Hid (false = scB m s) := by unfold Hid scB; simp [c1]
    go_enter Try.func73, Try.ntmps73
    go_wp2
    go_ret
    exact ⟨retB HR.out, (Below.refl _ _).alloc (Nat.le_refl _) _⟩
theorem refvalid_any (m s : Int) (w : World) :
    Calls Try.prog 67 #[.int .i64 m, .int .i64 s] w fun e w' => e = .returned (.bool (scB m s)) ∧ w' = w := by
  by_cases c1 : 1 ≤ m
  · by_cases c2 : m ≤ 2147483647
    · by_cases c3 : 0 ≤ s
      · have HR : Hid (decide (s ≤ 62) = scB m s) := by unfold Hid scB; simp [c1, c2, c3]
        go_enter Try.func67, Try.ntmps67
        go_wp2
        go_ret
        exact ⟨retB HR.out, rfl⟩
      · have HR : Hid (false = scB m s) := by unfold Hid scB; simp [c3]
        go_enter Try.func67, Try.ntmps67
        go_wp2
        go_ret
        exact ⟨retB HR.out, rfl⟩
    · have HR : Hid (false = scB m s) := by unfold Hid scB; simp [c2]
      go_enter Try.func67, Try.ntmps67
      go_wp2
      go_ret
      exact ⟨retB HR.out, rfl⟩
  · have HR : Hid (false = scB m s) := by unfold Hid scB; simp [c1]
    go_enter Try.func67, Try.ntmps67
    go_wp2
    go_ret
    exact ⟨retB HR.out, rfl⟩
end Go.Proofs.Ytcjnhchjikcigaa

/- Lists of flat structs, and of lists of them, in memory; the small functions of package cert and of its document. -/
namespace Go.Proofs.Ytcjnhchjikcigaa
open Go.ChangeShapes Go.WideShapes Go.ChangeAt Go.RowKit
set_option linter.unusedVariables false
/-! ### Lists in memory -/
def scs (s : Int × Int) : List Value := [.int .i64 s.1, .int .i64 s.2]
def pcs (p : Pl) : List Value := [.int .i64 p.1, .int .i64 p.2.1, .int .i64 p.2.2.1, .int .i64 p.2.2.2.1, .int .i64 p.2.2.2.2.1, .int .i64 p.2.2.2.2.2]
/-- A slice of flat structs of nc cells. -/
def ERow {α : Type} (nc : Nat) (E : α → List Value) (w : World) (a : Option Addr) (len cap : Nat) (xs : List α) : Prop :=
  xs.length = len ∧ len ≤ cap ∧ cap ≤ maxLen ∧ (a = none → cap = 0) ∧ ∀ x, a = some x → ∀ i p, xs[i]? = some p → ∀ j v, (E p)[j]? = some v → w.cell? ((x.add (i * nc)).add j) = some v
theorem ERow.below {α : Type} {nc : Nat} {E : α → List Value} {w w' : World} {a : Option Addr} {len cap : Nat} {xs : List α} (h : ERow nc E w a len cap xs) (g : Below w.heap.size w w') : ERow nc E w' a len cap xs :=
  ⟨h.1, h.2.1, h.2.2.1, h.2.2.2.1, fun x hx i p hp j v hv => (g.cell (World.block_lt_of_cell? w _ (h.2.2.2.2 x hx i p hp j v hv))).trans (h.2.2.2.2 x hx i p hp j v hv)⟩
theorem ERow.at {α : Type} {nc : Nat} {E : α → List Value} {w : World} {a : Option Addr} {len cap : Nat} {xs : List α} (h : ERow nc E w a len cap xs) {i : Nat} (hi : i < len) :
    ∃ x p, a = some x ∧ xs[i]? = some p ∧ xs.drop i = p :: xs.drop (i + 1) ∧ ∀ j v, (E p)[j]? = some v → w.cell? ((x.add (i * nc)).add j) = some v := by
  obtain ⟨h1, h2, h3, h4, h5⟩ := h
  have hi' : i < xs.length := by omega
  cases a with
  | none => have := h4 rfl; omega
  | some x => exact ⟨x, xs[i], rfl, List.getElem?_eq_getElem hi', List.drop_eq_getElem_cons hi', h5 x rfl i _ (List.getElem?_eq_getElem hi')⟩
theorem erow_nil {α : Type} (nc : Nat) (E : α → List Value) (w : World) : ERow nc E w none 0 0 ([] : List α) := ⟨rfl, Nat.le_refl _, by unfold maxLen; omega, fun _ => rfl, fun x h => by cases h⟩
/-- A certificate's plans. -/
def QRow (w : World) (a : Option Addr) (len cap : Nat) (P : List (List Pl)) : Prop :=
  P.length = len ∧ len ≤ cap ∧ cap ≤ maxLen ∧ (a = none → cap = 0) ∧ ∀ x, a = some x → ∀ i l, P[i]? = some l → ∃ ca cc, w.cell? (x.add i) = some (.slice ca l.length cc) ∧ ERow 6 pcs w ca l.length cc l ∧ l.length * 48 ≤ 140737488351232
theorem QRow.below {w w' : World} {a : Option Addr} {len cap : Nat} {P : List (List Pl)} (h : QRow w a len cap P) (g : Below w.heap.size w w') : QRow w' a len cap P :=
  ⟨h.1, h.2.1, h.2.2.1, h.2.2.2.1, fun x hx i l hl => by
    obtain ⟨ca, cc, h1, h2, h3⟩ := h.2.2.2.2 x hx i l hl
    exact ⟨ca, cc, (g.cell (World.block_lt_of_cell? w _ h1)).trans h1, h2.below g, h3⟩⟩
theorem QRow.at {w : World} {a : Option Addr} {len cap : Nat} {P : List (List Pl)} (h : QRow w a len cap P) {i : Nat} (hi : i < len) :
    ∃ x l ca cc, a = some x ∧ P[i]? = some l ∧ P.drop i = l :: P.drop (i + 1) ∧ w.cell? (x.add i) = some (.slice ca l.length cc) ∧ ERow 6 pcs w ca l.length cc l ∧ l.length * 48 ≤ 140737488351232 := by
  obtain ⟨h1, h2, h3, h4, h5⟩ := h
  have hi' : i < P.length := by omega
  cases a with
  | none => have := h4 rfl; omega
  | some x =>
    obtain ⟨ca, cc, g⟩ := h5 x rfl i _ (List.getElem?_eq_getElem hi')
    exact ⟨x, P[i], ca, cc, rfl, List.getElem?_eq_getElem hi', List.drop_eq_getElem_cons hi', g⟩
/-! ### Spans -/
theorem cval_any (lo hi : Int) (W : World) :
    Calls Try.prog 46 #[.agg #[.int .i64 lo, .int .i64 hi]] W fun e w' => e = .returned (.bool (decide (lo ≤ hi))) ∧ Below W.heap.size W w' := by
  go_enter Try.func46, Try.ntmps46
  go_wp2
  go_ret
  exact ⟨rfl, (Below.refl _ _).alloc (Nat.le_refl _) _⟩
theorem rcval_any (lo hi : Int) (W : World) :
    Calls Try.prog 35 #[.agg #[.int .i64 lo, .int .i64 hi]] W fun e w' => e = .returned (.bool (decide (lo ≤ hi))) ∧ Below W.heap.size W w' := by
  go_enter Try.func35, Try.ntmps35
  go_wp2
  go_ret
  exact ⟨rfl, (Below.refl _ _).alloc (Nat.le_refl _) _⟩
theorem rcvb_any (lo hi : Int) (W : World) :
    Calls Try.prog 33 #[.agg #[.int .i64 lo, .int .i64 hi]] W fun e w' => e = .returned (.bool (cvB (lo, hi))) ∧ Below W.heap.size W w' := by
  by_cases c1 : -128 ≤ lo
  · by_cases c2 : lo ≤ hi
    · have HR : Hid (decide (hi ≤ 127) = cvB (lo, hi)) := by unfold Hid cvB; simp [c1, c2]
      go_enter Try.func33, Try.ntmps33
      go_wp2
      go_ret
      exact ⟨retB HR.out, (Below.refl _ _).alloc (Nat.le_refl _) _⟩
    · have HR : Hid (false = cvB (lo, hi)) := by unfold Hid cvB; simp [c2]
      go_enter Try.func33, Try.ntmps33
      go_wp2
      go_ret
      exact ⟨retB HR.out, (Below.refl _ _).alloc (Nat.le_refl _) _⟩
  · have HR : Hid (false = cvB (lo, hi)) := by unfold Hid cvB; simp [c1]
    go_enter Try.func33, Try.ntmps33
    go_wp2
    go_ret
    exact ⟨retB HR.out, (Below.refl _ _).alloc (Nat.le_refl _) _⟩
theorem cofv_any (lo hi : Int) (W : World) :
    Calls Try.prog 29 #[.agg #[.int .i64 lo, .int .i64 hi]] W fun e w' => e = .returned (.bool (cvB (lo, hi))) ∧ Below W.heap.size W w' := by
  by_cases c1 : -128 ≤ lo
  · have s0 := (St.start W).new (c := #[.int .i64 lo, .int .i64 hi]) (t := 59)
    have HV : Hid (∀ w, _) := cval_any lo hi
    by_cases c2 : lo ≤ hi
    · have HR : Hid (decide (hi ≤ 127) = cvB (lo, hi)) := by unfold Hid cvB; simp [c1, c2]
      rw [decide_eq_true c2] at HV
      clear c2
      go_enter Try.func29, Try.ntmps29
      go_wp2_with fail
      refine (HV.out _).mono ?_
      rintro e w1 ⟨rfl, hb⟩
      have s1 := s0.call hb
      obtain ⟨c1, f1, z1, -⟩ := s1.rules
      go_wp2
      go_ret
      exact ⟨retB HR.out, s1.below⟩
    · have HR : Hid (false = cvB (lo, hi)) := by unfold Hid cvB; simp [c2]
      rw [decide_eq_false c2] at HV
      clear c2
      go_enter Try.func29, Try.ntmps29
      go_wp2_with fail
      refine (HV.out _).mono ?_
      rintro e w1 ⟨rfl, hb⟩
      have s1 := s0.call hb
      go_wp2
      go_ret
      exact ⟨retB HR.out, s1.below⟩
  · have HR : Hid (false = cvB (lo, hi)) := by unfold Hid cvB; simp [c1]
    go_enter Try.func29, Try.ntmps29
    go_wp2
    go_ret
    exact ⟨retB HR.out, (Below.refl _ _).alloc (Nat.le_refl _) _⟩
/-! ### How many plans an op ought to have -/
theorem cplan_any (k a b m kh kw sh sw tp lf bo rt : Int) (wa : Option Addr) (lw wc : Nat) (ba : Option Addr) (lb bc : Nat) (sm ss um us z p lo hi h v c : Int) (W : World) :
    Calls Try.prog 30 #[.agg #[.int .i64 k, .int .i64 a, .int .i64 b, .int .i64 m, .int .i64 kh, .int .i64 kw, .int .i64 sh, .int .i64 sw, .int .i64 tp, .int .i64 lf, .int .i64 bo, .int .i64 rt, .slice wa lw wc, .slice ba lb bc, .int .i64 sm, .int .i64 ss, .int .i64 um, .int .i64 us, .int .i64 z, .int .i64 p, .int .i64 lo, .int .i64 hi], .agg #[.int .i64 h, .int .i64 v, .int .i64 c]] W fun e w' => e = .returned (.int .i64 (if rdB k = true then c else 0)) ∧ Below W.heap.size W w' := by
  have HR : Hid (∀ w, _) := red_any k
  cases q : rdB k with
  | true =>
    rw [q] at HR
    rw [if_pos rfl]
    go_enter Try.func30, Try.ntmps30
    go_wp2_with fail
    refine (HR.out _).mono ?_
    rintro e w1 ⟨rfl, rfl⟩
    go_wp2
    go_ret
    exact ⟨rfl, bt (bal _ _) (bal _ _)⟩
  | false =>
    rw [q] at HR
    rw [if_neg (by decide)]
    go_enter Try.func30, Try.ntmps30
    go_wp2_with fail
    refine (HR.out _).mono ?_
    rintro e w1 ⟨rfl, rfl⟩
    go_wp2
    go_ret
    exact ⟨rfl, bt (bal _ _) (bal _ _)⟩
/-! ### Blocks -/
theorem cblk_bad (n d : Int) (hd : ¬ (1 ≤ d ∧ d ≤ n)) (W : World) :
    Calls Try.prog 17 #[.int .i64 n, .int .i64 d] W fun e w' => e = .returned (.tuple #[.int .i64 0, .int .i64 151]) ∧ w' = W := by
  by_cases h1 : d < 1
  · go_enter Try.func17, Try.ntmps17
    go_wp2
    go_ret2
    exact ⟨rfl, rfl⟩
  · have h2 : n < d := by omega
    clear hd
    go_enter Try.func17, Try.ntmps17
    go_wp2
    go_ret2
    exact ⟨rfl, rfl⟩
theorem rblk_bad (n d : Int) (hd : ¬ (1 ≤ d ∧ d ≤ n)) (W : World) :
    Calls Try.prog 18 #[.int .i64 n, .int .i64 d] W fun e w' => e = .returned (.tuple #[.int .i64 0, .int .i64 151]) ∧ w' = W := by
  by_cases h1 : d < 1
  · go_enter Try.func18, Try.ntmps18
    go_wp2
    go_ret2
    exact ⟨rfl, rfl⟩
  · have h2 : n < d := by omega
    clear hd
    go_enter Try.func18, Try.ntmps18
    go_wp2
    go_ret2
    exact ⟨rfl, rfl⟩
theorem cblk_ok (n d : Int) (h1 : 1 ≤ d) (h2 : d ≤ n) (h3 : n ≤ 9223372036854775807) (W : World) :
    Calls Try.prog 17 #[.int .i64 n, .int .i64 d] W fun e w' => e = .returned (.tuple #[.int .i64 (bkV n d), .int .i64 0]) ∧ w' = W := by
  have b := bkV_bd ⟨h1, h2⟩
  have hq : Hid (bkV n d = 1 + (n - 1).tdiv d) := by unfold Hid bkV; rw [Int.tdiv_eq_ediv_of_nonneg (by omega)]
  have hq2 : 0 ≤ (n - 1).tdiv d ∧ (n - 1).tdiv d ≤ n - 1 := by have := hq.out; omega
  have g1 : ¬ d < 1 := by omega
  have g2 : ¬ n < d := by omega
  have g3 : ¬ d = 0 := by omega
  clear b
  go_enter Try.func17, Try.ntmps17
  go_wp2
  go_ret2
  exact ⟨ret2 (by rw [hq.out]) rfl, rfl⟩
theorem bkV_r {n d : Int} (h1 : 1 ≤ d) (h2 : d ≤ n) (hr : 0 < n % d) : bkV n d = n / d + 1 := by
  unfold bkV
  have e := Int.emod_add_mul_ediv n d
  have l := Int.emod_lt_of_pos n (show 0 < d by omega)
  have : (n - 1) / d = n / d := by
    rw [show n - 1 = (n % d - 1) + d * (n / d) by omega, Int.add_mul_ediv_left _ _ (by omega), Int.ediv_eq_zero_of_lt (by omega) (by omega)]
    omega
  omega
theorem bkV_0 {n d : Int} (h1 : 1 ≤ d) (h2 : d ≤ n) (hr : n % d = 0) : bkV n d = n / d := by
  unfold bkV
  have e := Int.emod_add_mul_ediv n d
  have : (n - 1) / d = n / d - 1 := by
    have q : d * (n / d - 1) = d * (n / d) - d := by rw [Int.mul_sub, Int.mul_one]
    rw [show n - 1 = (d - 1) + d * (n / d - 1) by omega, Int.add_mul_ediv_left _ _ (by omega), Int.ediv_eq_zero_of_lt (by omega) (by omega)]
    omega
  omega
theorem rblk_ok (n d : Int) (h1 : 1 ≤ d) (h2 : d ≤ n) (h3 : n ≤ 9223372036854775807) (W : World) :
    Calls Try.prog 18 #[.int .i64 n, .int .i64 d] W fun e w' => e = .returned (.tuple #[.int .i64 (bkV n d), .int .i64 0]) ∧ w' = W := by
  have b := bkV_bd ⟨h1, h2⟩
  have e1 : n.tdiv d = n / d := Int.tdiv_eq_ediv_of_nonneg (by omega)
  have e2 : n.tmod d = n % d := Int.tmod_eq_emod_of_nonneg (by omega)
  have g1 : ¬ d < 1 := by omega
  have g2 : ¬ n < d := by omega
  have g3 : ¬ d = 0 := by omega
  have p0 := Int.emod_nonneg n g3
  have p1 := Int.emod_lt_of_pos n (show 0 < d by omega)
  have q0 : 0 ≤ n / d := Int.ediv_nonneg (by omega) (by omega)
  have q1 : n / d ≤ n := Int.ediv_le_self _ (by omega)
  by_cases hr : 0 < n % d
  · have HB : Hid (bkV n d = n / d + 1) := bkV_r h1 h2 hr
    have q2 : n / d + 1 ≤ 9223372036854775807 := by have := HB.out; omega
    have t0 : 0 ≤ n.tdiv d := by rw [e1]; exact q0
    have t1 : n.tdiv d + 1 ≤ 9223372036854775807 := by rw [e1]; exact q2
    have HE : Hid (n.tdiv d = n / d) := e1
    clear b e1 e2 q0 q1 q2
    go_enter Try.func18, Try.ntmps18
    go_wp2
    go_ret2
    exact ⟨ret2 (by rw [HB.out, HE.out]) rfl, rfl⟩
  · have HB : Hid (bkV n d = n / d) := bkV_0 h1 h2 (by omega)
    have t0 : 0 ≤ n.tdiv d := by rw [e1]; exact q0
    have t1 : n.tdiv d ≤ 9223372036854775807 := by rw [e1]; omega
    have HE : Hid (n.tdiv d = n / d) := e1
    clear b e1 e2 q0 q1
    go_enter Try.func18, Try.ntmps18
    go_wp2
    go_ret2
    exact ⟨ret2 (by rw [HB.out, HE.out]) rfl, rfl⟩
/-! ### What a plan costs -/
theorem deE_w {p : Pl} {n : Int} (h1 : ¬ p.1 = 16) (h2 : ¬ p.1 = 32) : deE p n = 150 := by unfold deE; rw [if_neg h1, if_neg h2]
theorem deE_16y {p : Pl} {n : Int} (h1 : p.1 = 16) (h2 : 1 ≤ p.2.1 ∧ p.2.1 ≤ n) : deE p n = 0 := by unfold deE; rw [if_pos h1, if_pos h2]
theorem deE_16n {p : Pl} {n : Int} (h1 : p.1 = 16) (h2 : ¬ (1 ≤ p.2.1 ∧ p.2.1 ≤ n)) : deE p n = 151 := by unfold deE; rw [if_pos h1, if_neg h2]
theorem deE_32y {p : Pl} {n : Int} (h1 : p.1 = 32) (h2 : p.2.1 = n) : deE p n = 0 := by unfold deE; rw [if_neg (by omega), if_pos h1, if_pos h2]
theorem deE_32n {p : Pl} {n : Int} (h1 : p.1 = 32) (h2 : ¬ p.2.1 = n) : deE p n = 151 := by unfold deE; rw [if_neg (by omega), if_pos h1, if_neg h2]
theorem rdeep_any (p1 p2 p3 p4 p5 p6 n : Int) (hn : 1 ≤ n) (W : World) :
    Calls Try.prog 25 #[.agg #[.int .i64 p1, .int .i64 p2, .int .i64 p3, .int .i64 p4, .int .i64 p5, .int .i64 p6], .int .i64 n] W fun e w' => e = .returned (.int .i64 (deE (p1, p2, p3, p4, p5, p6) n)) ∧ Below W.heap.size W w' := by
  by_cases h16 : p1 = 16
  · subst h16
    by_cases a1 : p2 < 1
    · rw [deE_16n rfl (by simp only; omega)]
      go_enter Try.func25, Try.ntmps25
      go_wp2
      go_ret
      exact ⟨rfl, bal _ _⟩
    · by_cases a2 : n < p2
      · rw [deE_16n rfl (by simp only; omega)]
        go_enter Try.func25, Try.ntmps25
        go_wp2
        go_ret
        exact ⟨rfl, bal _ _⟩
      · rw [deE_16y rfl (by simp only; omega)]
        go_enter Try.func25, Try.ntmps25
        go_wp2
        go_ret
        exact ⟨rfl, bal _ _⟩
  · by_cases h32 : p1 = 32
    · subst h32
      clear h16
      by_cases a1 : p2 < 1
      · rw [deE_32n rfl (by simp only; omega)]
        go_enter Try.func25, Try.ntmps25
        go_wp2
        go_ret
        exact ⟨rfl, bal _ _⟩
      · by_cases a2 : n < p2
        · rw [deE_32n rfl (by simp only; omega)]
          go_enter Try.func25, Try.ntmps25
          go_wp2
          go_ret
          exact ⟨rfl, bal _ _⟩
        · by_cases a3 : p2 = n
          · rw [deE_32y rfl a3]
            subst a3
            clear a2
            go_enter Try.func25, Try.ntmps25
            go_wp2
            go_ret
            exact ⟨rfl, bal _ _⟩
          · rw [deE_32n rfl a3]
            go_enter Try.func25, Try.ntmps25
            go_wp2
            go_ret
            exact ⟨rfl, bal _ _⟩
    · rw [deE_w h16 h32]
      have g1 : (p1 != 16) = true := by simp [h16]
      have g2 : (p1 != 32) = true := by simp [h32]
      go_enter Try.func25, Try.ntmps25
      go_wp2
      go_ret
      exact ⟨rfl, bal _ _⟩
end Go.Proofs.Ytcjnhchjikcigaa
