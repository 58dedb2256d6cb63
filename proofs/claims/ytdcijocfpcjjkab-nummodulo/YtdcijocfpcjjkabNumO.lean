/- The walk of NumModulo: it returns true for every argument that fits its type. -/
import Derived.Test.YtdcijocfpcjjkabNumC
namespace Go.Proofs.Ytdcijocfpcjjkab
open Go.ChangeShapes Go.WideShapes Go.ChangeAt Go.RowKit
theorem wrapN8_bd (x : Int) : -128 ≤ wrapN 128 x ∧ wrapN 128 x ≤ 127 := by unfold wrapN; omega
theorem wrapN16_bd (x : Int) : -32768 ≤ wrapN 32768 x ∧ wrapN 32768 x ≤ 32767 := by unfold wrapN; omega
theorem wrapN32_bd (x : Int) : -2147483648 ≤ wrapN 2147483648 x ∧ wrapN 2147483648 x ≤ 2147483647 := by unfold wrapN; omega
theorem clampV_bd (x lo hi : Int) (h : lo ≤ hi) : lo ≤ clampV x lo hi ∧ clampV x lo hi ≤ hi := by
  unfold clampV; split
  · omega
  · split <;> omega
theorem sat_same (a : Int) : (clampV a (-32768) 32767 == a) = fitsN 32768 a := by
  unfold clampV fitsN; rw [Bool.eq_iff_iff]; simp only [beq_iff_eq, decide_eq_true_eq]
  split
  · omega
  · split <;> omega
theorem wrap_same (a : Int) : (wrapN 32768 a == a) = fitsN 32768 a := by
  unfold wrapN fitsN; rw [Bool.eq_iff_iff]; simp only [beq_iff_eq, decide_eq_true_eq]; omega
theorem sum8 (a b : Int) : wrapN 128 (wrapN 128 a + wrapN 128 b) = wrapN 128 (a + b) := by unfold wrapN; omega
theorem sum16 (a b : Int) : wrapN 32768 (wrapN 32768 a + wrapN 32768 b) = wrapN 32768 (a + b) := by unfold wrapN; omega
theorem sum32 (a b : Int) : wrapN 2147483648 (wrapN 2147483648 a + wrapN 2147483648 b) = wrapN 2147483648 (a + b) := by unfold wrapN; omega
theorem numModulo_walk (a b : Int) (w0 : (Lit.int .i64 a).wf = true) (w1 : (Lit.int .i64 b).wf = true) (w : World) :
    Calls Try.prog 3 #[.int .i64 a, .int .i64 b] w fun e w' => e = .returned (.bool true) ∧ Grown w w' := by
  have ha := I64_of_wf w0
  have hb := I64_of_wf w1
  clear w0 w1
  obtain ⟨b1, b2⟩ := wrapN8_bd a
  obtain ⟨b3, b4⟩ := wrapN16_bd a
  obtain ⟨b5, b6⟩ := wrapN32_bd a
  obtain ⟨c1, c2⟩ := wrapN8_bd b
  obtain ⟨c3, c4⟩ := wrapN16_bd b
  obtain ⟨c5, c6⟩ := wrapN32_bd b
  obtain ⟨b9, b10⟩ := clampV_bd a (-32768) 32767 (by omega)
  have q1 := sat_same a
  have q2 := wrap_same a
  by_cases h : -9223372036854775808 ≤ a + b ∧ a + b ≤ 9223372036854775807
  · have V1 : Hid (okV (a + b) = a + b) := okV_in _ h
    have E1 : Hid (okE (a + b) = 0) := okE_in _ h
    clear h
    go_enter Try.func3, Try.ntmps3
    go_wp2_with fail
    refine (fixed_any _).mono ?_
    rintro e w' ⟨rfl, rfl⟩
    go_wp2_with fail
    refine (fits_5 _ _).mono ?_
    rintro e w' ⟨rfl, rfl⟩
    go_wp2_with fail
    refine (sat_6 _ _).mono ?_
    rintro e w' ⟨rfl, rfl⟩
    go_wp2_with fail
    refine (wrap_7 _ _).mono ?_
    rintro e w' ⟨rfl, rfl⟩
    go_wp2_with fail
    refine (add_any _ _ _ ha hb).mono ?_
    rintro e w' ⟨rfl, rfl⟩
    rw [V1.out, E1.out]
    clear q1 q2
    go_wp2_with fail
    refine (wrap_7 _ _).mono ?_
    rintro e w' ⟨rfl, rfl⟩
    go_wp2_with fail
    refine (wrap_7 _ _).mono ?_
    rintro e w' ⟨rfl, rfl⟩
    go_wp2_with fail
    refine (wrap_9 _ _).mono ?_
    rintro e w' ⟨rfl, rfl⟩
    go_wp2_with fail
    refine (wrap_9 _ _).mono ?_
    rintro e w' ⟨rfl, rfl⟩
    go_wp2_with fail
    refine (wrap_10 _ _).mono ?_
    rintro e w' ⟨rfl, rfl⟩
    go_wp2_with fail
    refine (wrap_10 _ _).mono ?_
    rintro e w' ⟨rfl, rfl⟩
    go_wp2_with fail
    refine (wrap_7 _ _).mono ?_
    rintro e w' ⟨rfl, rfl⟩
    rw [sum16]
    go_wp2_with fail
    refine (wrap_7 _ _).mono ?_
    rintro e w' ⟨rfl, rfl⟩
    go_wp2_with fail
    refine (wrap_9 _ _).mono ?_
    rintro e w' ⟨rfl, rfl⟩
    rw [sum32]
    go_wp2_with fail
    refine (wrap_9 _ _).mono ?_
    rintro e w' ⟨rfl, rfl⟩
    go_wp2_with fail
    refine (wrap_10 _ _).mono ?_
    rintro e w' ⟨rfl, rfl⟩
    rw [sum8]
    go_wp2_with fail
    refine (wrap_10 _ _).mono ?_
    rintro e w' ⟨rfl, rfl⟩
    go_wp2
    go_ret
    exact ⟨rfl, Grown.refl _⟩
  · have V1 : Hid (okV (a + b) = 0) := okV_out _ h
    have E1 : Hid (okE (a + b) = 10) := okE_out _ h
    clear h
    go_enter Try.func3, Try.ntmps3
    go_wp2_with fail
    refine (fixed_any _).mono ?_
    rintro e w' ⟨rfl, rfl⟩
    go_wp2_with fail
    refine (fits_5 _ _).mono ?_
    rintro e w' ⟨rfl, rfl⟩
    go_wp2_with fail
    refine (sat_6 _ _).mono ?_
    rintro e w' ⟨rfl, rfl⟩
    go_wp2_with fail
    refine (wrap_7 _ _).mono ?_
    rintro e w' ⟨rfl, rfl⟩
    go_wp2_with fail
    refine (add_any _ _ _ ha hb).mono ?_
    rintro e w' ⟨rfl, rfl⟩
    rw [V1.out, E1.out]
    go_wp2
    go_ret
    exact ⟨rfl, Grown.refl _⟩
end Go.Proofs.Ytdcijocfpcjjkab
