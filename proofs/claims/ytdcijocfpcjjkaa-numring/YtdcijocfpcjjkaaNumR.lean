/- The walks of NumProducts and NumRing: each returns true for every argument that fits its type. -/
import Derived.Test.YtdcijocfpcjjkaaNumD
namespace Go.Proofs.Ytdcijocfpcjjkaa
open Go.ChangeShapes Go.WideShapes Go.ChangeAt Go.RowKit
theorem numProducts_walk (a b : Int) (w0 : (Lit.int .i64 a).wf = true) (w1 : (Lit.int .i64 b).wf = true) (w : World) :
    Calls Try.prog 4 #[.int .i64 a, .int .i64 b] w fun e w' => e = .returned (.bool true) ∧ Grown w w' := by
  have ha := I64_of_wf w0
  have hb := I64_of_wf w1
  clear w0 w1
  obtain ⟨e1, e2⟩ := okE_bd (a * b)
  go_enter Try.func4, Try.ntmps4
  go_wp2_with fail
  refine (mul_any _ _ _ ha hb).mono ?_
  rintro e w' ⟨rfl, rfl⟩
  go_wp2_with fail
  refine (refmul_any _ _ _ ha hb).mono ?_
  rintro e w' ⟨rfl, rfl⟩
  go_wp2_with fail
  refine (fixed_any _).mono ?_
  rintro e w' ⟨rfl, rfl⟩
  go_wp2
  go_ret
  exact ⟨rfl, Grown.refl _⟩
theorem okE_0 {x : Int} (h : (okE x != 0) = false) : okV x = x := by
  unfold okE at h; unfold okV; split at h
  · rw [if_pos (by assumption)]
  · simp at h
theorem numRing_walk (a b c : Int) (w0 : (Lit.int .i64 a).wf = true) (w1 : (Lit.int .i64 b).wf = true) (w2 : (Lit.int .i64 c).wf = true) (w : World) :
    Calls Try.prog 8 #[.int .i64 a, .int .i64 b, .int .i64 c] w fun e w' => e = .returned (.bool true) ∧ Grown w w' := by
  have ha := I64_of_wf w0
  have hb := I64_of_wf w1
  have hc := I64_of_wf w2
  clear w0 w1 w2
  by_cases h : -9223372036854775808 ≤ a + b ∧ a + b ≤ 9223372036854775807
  · have hab : I64 (a + b) := h
    have V1 : Hid (okV (a + b) = a + b) := okV_in _ h
    have E1 : Hid (okE (a + b) = 0) := okE_in _ h
    have V2 : Hid (okV (a + b - b) = a) := by
      have e : a + b - b = a := by omega
      unfold Hid; rw [e]; exact okV_in _ ha
    have E2 : Hid (okE (a + b - b) = 0) := by
      have e : a + b - b = a := by omega
      unfold Hid; rw [e]; exact okE_in _ ha
    clear h
    have done : ∀ (g i : Bool), (okE (a * c) != 0) = g → (okE (b * c) != 0) = i → g = false → i = false →
        (okE ((a + b) * c) == okE (okV (a * c) + okV (b * c))) = true ∧ (okV ((a + b) * c) == okV (okV (a * c) + okV (b * c))) = true := by
      rintro g i h1 h2 rfl rfl
      rw [okE_0 h1, okE_0 h2, Int.add_mul]
      simp
    cases hg : (okE (a * c) != 0)
    all_goals cases hi : (okE (b * c) != 0)
    case false.false =>
      obtain ⟨d1, d2⟩ := done _ _ hg hi rfl rfl
      clear done
      go_enter Try.func8, Try.ntmps8
      go_wp2_with fail
      refine (fixed_any _).mono ?_
      rintro e w' ⟨rfl, rfl⟩
      go_wp2_with fail
      refine (add_any _ _ _ ha hb).mono ?_
      rintro e w' ⟨rfl, rfl⟩
      rw [V1.out, E1.out]
      go_wp2_with fail
      refine (add_any _ _ _ hb ha).mono ?_
      rintro e w' ⟨rfl, rfl⟩
      rw [Int.add_comm b a, V1.out, E1.out]
      go_wp2_with fail
      refine (sub_any _ _ _ hab hb).mono ?_
      rintro e w' ⟨rfl, rfl⟩
      rw [V2.out, E2.out]
      go_wp2_with fail
      refine (mul_any _ _ _ ha hc).mono ?_
      rintro e w' ⟨rfl, rfl⟩
      go_wp2_with fail
      refine (mul_any _ _ _ hc ha).mono ?_
      rintro e w' ⟨rfl, rfl⟩
      rw [Int.mul_comm c a]
      go_wp2_with fail
      refine (mul_any _ _ _ hb hc).mono ?_
      rintro e w' ⟨rfl, rfl⟩
      go_wp2_with fail
      refine (mul_any _ _ _ hab hc).mono ?_
      rintro e w' ⟨rfl, rfl⟩
      go_wp2_with fail
      refine (add_any _ _ _ (okV_I64 _) (okV_I64 _)).mono ?_
      rintro e w' ⟨rfl, rfl⟩
      go_wp2
      go_ret
      exact ⟨rfl, Grown.refl _⟩
    all_goals
      clear done
      go_enter Try.func8, Try.ntmps8
      go_wp2_with fail
      refine (fixed_any _).mono ?_
      rintro e w' ⟨rfl, rfl⟩
      go_wp2_with fail
      refine (add_any _ _ _ ha hb).mono ?_
      rintro e w' ⟨rfl, rfl⟩
      rw [V1.out, E1.out]
      go_wp2_with fail
      refine (add_any _ _ _ hb ha).mono ?_
      rintro e w' ⟨rfl, rfl⟩
      rw [Int.add_comm b a, V1.out, E1.out]
      go_wp2_with fail
      refine (sub_any _ _ _ hab hb).mono ?_
      rintro e w' ⟨rfl, rfl⟩
      rw [V2.out, E2.out]
      go_wp2_with fail
      refine (mul_any _ _ _ ha hc).mono ?_
      rintro e w' ⟨rfl, rfl⟩
      go_wp2_with fail
      refine (mul_any _ _ _ hc ha).mono ?_
      rintro e w' ⟨rfl, rfl⟩
      rw [Int.mul_comm c a]
      go_wp2_with fail
      refine (mul_any _ _ _ hb hc).mono ?_
      rintro e w' ⟨rfl, rfl⟩
      go_wp2_with fail
      refine (mul_any _ _ _ hab hc).mono ?_
      rintro e w' ⟨rfl, rfl⟩
      go_wp2_with fail
      refine (add_any _ _ _ (okV_I64 _) (okV_I64 _)).mono ?_
      rintro e w' ⟨rfl, rfl⟩
      go_wp2
      go_ret
      exact ⟨rfl, Grown.refl _⟩
  · have V1 : Hid (okV (a + b) = 0) := okV_out _ h
    have E1 : Hid (okE (a + b) = 10) := okE_out _ h
    have hz : I64 0 := by unfold I64; omega
    clear h
    go_enter Try.func8, Try.ntmps8
    go_wp2_with fail
    refine (fixed_any _).mono ?_
    rintro e w' ⟨rfl, rfl⟩
    go_wp2_with fail
    refine (add_any _ _ _ ha hb).mono ?_
    rintro e w' ⟨rfl, rfl⟩
    rw [V1.out, E1.out]
    go_wp2_with fail
    refine (add_any _ _ _ hb ha).mono ?_
    rintro e w' ⟨rfl, rfl⟩
    rw [Int.add_comm b a, V1.out, E1.out]
    go_wp2_with fail
    refine (mul_any _ _ _ ha hc).mono ?_
    rintro e w' ⟨rfl, rfl⟩
    go_wp2_with fail
    refine (mul_any _ _ _ hc ha).mono ?_
    rintro e w' ⟨rfl, rfl⟩
    rw [Int.mul_comm c a]
    go_wp2_with fail
    refine (mul_any _ _ _ hb hc).mono ?_
    rintro e w' ⟨rfl, rfl⟩
    go_wp2_with fail
    refine (mul_any _ _ _ hz hc).mono ?_
    rintro e w' ⟨rfl, rfl⟩
    go_wp2_with fail
    refine (add_any _ _ _ (okV_I64 _) (okV_I64 _)).mono ?_
    rintro e w' ⟨rfl, rfl⟩
    go_wp2
    go_ret
    exact ⟨rfl, Grown.refl _⟩
end Go.Proofs.Ytdcijocfpcjjkaa
