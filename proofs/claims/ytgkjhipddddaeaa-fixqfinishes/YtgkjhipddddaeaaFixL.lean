/- The walks of FixqShifts, FixqMeans, FixqFinishes, FixqScales: each returns true for every argument that fits its type. -/
import Derived.Test.YtgkjhipddddaeaaFixC
import Derived.Deep.RegionHeld3
namespace Go.Proofs.Ytgkjhipddddaeaa
open Go.ChangeShapes Go.WideShapes Go.ChangeAt Go.RowKit
theorem keep2 {w0 W w1 : World} {B : Nat} {u v : Value} (h : W.cell? ⟨B, 0, none⟩ = some u ∧ W.cell? ⟨B, 1, none⟩ = some v ∧ B < W.heap.size ∧ Below w0.heap.size w0 W) (hb : Below W.heap.size W w1) :
    w1.cell? ⟨B, 0, none⟩ = some u ∧ w1.cell? ⟨B, 1, none⟩ = some v ∧ B < w1.heap.size ∧ Below w0.heap.size w0 w1 := by
  obtain ⟨h1, h2, h3, h4⟩ := h
  obtain ⟨hc, _⟩ := bcell hb
  exact ⟨by rw [hc _ _ h3]; exact h1, by rw [hc _ _ h3]; exact h2, Nat.lt_of_lt_of_le h3 hb.size, h4.trans (hb.mono h4.size)⟩
theorem fixqShifts_walk (x n : Int) (w : World) (w0 : (Lit.int .i64 x).wf = true) (_w1 : (Lit.int .i64 n).wf = true) :
    Calls Try.prog 4 #[.int .i64 x, .int .i64 n] w fun e w' => e = .returned (.bool true) ∧ Below w.heap.size w w' := by
  have hx := I64_of_wf w0
  clear w0 _w1
  go_enter Try.func4, Try.ntmps4
  go_wp2_with fail
  refine (shift_any _ _ _ hx).mono ?_
  rintro e w1 ⟨rfl, h1⟩
  go_wp2_with fail
  refine (refshift_any _ _ _ hx).mono ?_
  rintro e w' ⟨rfl, rfl⟩
  go_wp2_with fail
  refine (fixed2_any _).mono ?_
  rintro e w2 ⟨rfl, h2⟩
  go_wp2
  go_ret
  exact ⟨rfl, h1.trans (h2.mono h1.size)⟩
theorem fixqMeans_walk (x n : Int) (w : World) (w0 : (Lit.int .i64 x).wf = true) (w1 : (Lit.int .i64 n).wf = true) :
    Calls Try.prog 5 #[.int .i64 x, .int .i64 n] w fun e w' => e = .returned (.bool true) ∧ Below w.heap.size w w' := by
  have hx := I64_of_wf w0
  have hn := I64_of_wf w1
  clear w0 w1
  go_enter Try.func5, Try.ntmps5
  go_wp2_with fail
  refine (mean_any _ _ _ hx hn).mono ?_
  rintro e w1 ⟨rfl, h1⟩
  go_wp2_with fail
  refine (refmean_any _ _ _ hx hn).mono ?_
  rintro e w' ⟨rfl, rfl⟩
  go_wp2_with fail
  refine (fixed2_any _).mono ?_
  rintro e w2 ⟨rfl, h2⟩
  go_wp2
  go_ret
  exact ⟨rfl, h1.trans (h2.mono h1.size)⟩
theorem fixqFinishes_walk (v z lo hi : Int) (w : World) (_w0 : (Lit.int .i64 v).wf = true) (_w1 : (Lit.int .i64 z).wf = true) (_w2 : (Lit.int .i64 lo).wf = true) (_w3 : (Lit.int .i64 hi).wf = true) :
    Calls Try.prog 6 #[.agg #[.int .i64 v, .int .i64 z, .int .i64 lo, .int .i64 hi]] w fun e w' => e = .returned (.bool true) ∧ Below w.heap.size w w' := by
  clear _w0 _w1 _w2 _w3
  go_enter Try.func6, Try.ntmps6
  go_wp2_with fail
  refine (finish_any _ _ _ _ _).mono ?_
  rintro e w' ⟨rfl, rfl⟩
  go_wp2_with fail
  refine (reffinish_any _ _ _ _ _).mono ?_
  rintro e w' ⟨rfl, rfl⟩
  go_wp2_with fail
  refine (fixed2_any _).mono ?_
  rintro e w2 ⟨rfl, h2⟩
  go_wp2
  go_ret
  exact ⟨rfl, ((Below.refl _ _).alloc (Nat.le_refl _) _).trans (h2.mono (by simp))⟩
set_option maxHeartbeats 1000000 in
theorem fixqScales_walk (a m s : Int) (w : World) (w0 : (Lit.int .i64 a).wf = true) (_w1 : (Lit.int .i64 m).wf = true) (_w2 : (Lit.int .i64 s).wf = true) :
    Calls Try.prog 3 #[.int .i64 a, .agg #[.int .i64 m, .int .i64 s]] w fun e w' => e = .returned (.bool true) ∧ Below w.heap.size w w' := by
  have ha := I64_of_wf w0
  clear w0 _w1 _w2
  go_enter Try.func3, Try.ntmps3
  go_wp2_with fail
  refine (apply_any _ _ _ _).mono ?_
  rintro e w1 ⟨rfl, h1⟩
  obtain ⟨hc, hf⟩ := bcell h1
  go_wp2_with fail
  refine (refapply_any _ _ _ _ ha).mono ?_
  rintro e w' ⟨rfl, rfl⟩
  go_wp2_with fail
  have hS : w'.cell? ⟨w.heap.size, 0, none⟩ = some (.int .i64 m) ∧ w'.cell? ⟨w.heap.size, 1, none⟩ = some (.int .i64 s) ∧ w.heap.size < w'.heap.size ∧ Below w.heap.size w w' := by
    have hz := h1.size
    simp at hz
    refine ⟨?_, ?_, by omega, ((Below.refl _ _).alloc (Nat.le_refl _) _).trans (h1.mono (by simp))⟩
    · rw [hc _ _ (by simp)]; simp [go_sem]
    · rw [hc _ _ (by simp)]; simp [go_sem]
  clear hc hf h1
  have hD : w'.drew.cell? ⟨w.heap.size, 0, none⟩ = some (.int .i64 m) ∧ w'.drew.cell? ⟨w.heap.size, 1, none⟩ = some (.int .i64 s) ∧ w.heap.size < w'.drew.heap.size ∧ Below w.heap.size w w'.drew := ⟨hS.1, hS.2.1, hS.2.2.1, hS.2.2.2.drew⟩
  clear hS
  go_region_held3 (fun w' => w'.cell? ⟨w.heap.size, 0, none⟩ = some (.int .i64 m) ∧ w'.cell? ⟨w.heap.size, 1, none⟩ = some (.int .i64 s) ∧ w.heap.size < w'.heap.size ∧ Below w.heap.size w w')
    (exact hD)
    (first | (go_at_call 11; refine (fixed2_any _).mono ?_; rintro e w2 ⟨rfl, h2⟩; replace hD := keep2 hD h2; clear h2) | (go_at_call 12; refine (valid_any _ _ _).mono ?_; rintro e w2 ⟨rfl, h2⟩; replace hD := keep2 hD h2; clear h2) | (go_at_call 13; refine (refvalid_any _ _ _).mono ?_; rintro e w' ⟨rfl, rfl⟩))
  all_goals
    go_wp2
    go_ret
    exact ⟨rfl, hD.2.2.2⟩
end Go.Proofs.Ytgkjhipddddaeaa
