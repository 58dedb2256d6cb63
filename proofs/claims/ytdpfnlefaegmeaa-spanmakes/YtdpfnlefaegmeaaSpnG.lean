/- What Clamped of package span, and the document's, return: each for every argument that fits its type. -/
import Derived.Test.YtdpfnlefaegmeaaSpnB
import Derived.Deep.RegionWith
namespace Go.Proofs.Ytdpfnlefaegmeaa
open Go.ChangeShapes Go.WideShapes Go.ChangeAt Go.RowKit
def clR (a b lo hi : Int) : Int × Int × Int := if a ≤ b ∧ lo ≤ hi then (clampV a lo hi, clampV b lo hi, 0) else (0, 0, 30)
theorem clR_ok (a b lo hi : Int) (h : vB a b = true) (g : ¬ hi < lo) : clR a b lo hi = (clampV a lo hi, clampV b lo hi, 0) := if_pos ⟨vB_yes h, by omega⟩
theorem clR_f1 (a b lo hi : Int) (h : vB a b = false) : clR a b lo hi = (0, 0, 30) := if_neg fun k => vB_no h k.1
theorem clR_f2 (a b lo hi : Int) (g : hi < lo) : clR a b lo hi = (0, 0, 30) := if_neg (by omega)
set_option maxHeartbeats 4000000 in
theorem sclamped_any (a b lo hi : Int) (w : World) :
    Calls Try.prog 29 #[.agg #[.int .i64 a, .int .i64 b], .int .i64 lo, .int .i64 hi] w fun e w' => e = .returned (.tuple #[.agg #[.int .i64 (clR a b lo hi).1, .int .i64 (clR a b lo hi).2.1], .int .i64 (clR a b lo hi).2.2]) ∧ Below w.heap.size w w' := by
  cases h1 : vB a b with
  | false =>
    rw [clR_f1 a b lo hi h1]
    go_enter Try.func29, Try.ntmps29
    go_wp2_with fail
    refine (svalid_any _ _ _).mono ?_
    rintro e w1 ⟨rfl, hb'⟩
    have s1 := (St.start w).new.new.call hb'
    simp only [World.size_alloc] at s1
    obtain ⟨c1, f1, z1, c2, f2, z2, -⟩ := s1.rules
    clear hb'
    go_wp2
    exact bodyPost_ret (v := .tuple #[.agg #[.int .i64 0, .int .i64 0], .int .i64 30]) (by simp [results, Try.results29, go_sem, c1]) rfl ⟨rfl, s1.out2⟩
  | true =>
    by_cases g : hi < lo
    · rw [clR_f2 a b lo hi g]
      go_enter Try.func29, Try.ntmps29
      go_wp2_with fail
      refine (svalid_any _ _ _).mono ?_
      rintro e w1 ⟨rfl, hb'⟩
      have s1 := (St.start w).new.new.call hb'
      simp only [World.size_alloc] at s1
      obtain ⟨c1, f1, z1, c2, f2, z2, -⟩ := s1.rules
      clear hb'
      go_wp2
      exact bodyPost_ret (v := .tuple #[.agg #[.int .i64 0, .int .i64 0], .int .i64 30]) (by simp [results, Try.results29, go_sem, c1]) rfl ⟨rfl, s1.out2⟩
    · rw [clR_ok a b lo hi h1 g]
      go_enter Try.func29, Try.ntmps29
      go_wp2_with fail
      refine (svalid_any _ _ _).mono ?_
      rintro e w1 ⟨rfl, hb'⟩
      have s1 := (St.start w).new.new.call hb'
      simp only [World.size_alloc] at s1
      obtain ⟨c1, f1, z1, c2, f2, z2, -⟩ := s1.rules
      clear hb'
      go_wp2_with fail
      go_region_with (go_at_call 41; refine (clamp_any _ _ _ _).mono ?_; rintro e w' ⟨rfl, rfl⟩)
      all_goals
        go_wp2
        exact bodyPost_ret (v := .tuple #[.agg #[.int .i64 (clampV a lo hi), .int .i64 (clampV b lo hi)], .int .i64 0]) (by simp [results, Try.results29, go_sem, c1]) rfl ⟨rfl, s1.drew.out2⟩
set_option maxHeartbeats 4000000 in
theorem srefclamped_any (a b lo hi : Int) (w : World) :
    Calls Try.prog 30 #[.agg #[.int .i64 a, .int .i64 b], .int .i64 lo, .int .i64 hi] w fun e w' => e = .returned (.tuple #[.agg #[.int .i64 (clR a b lo hi).1, .int .i64 (clR a b lo hi).2.1], .int .i64 (clR a b lo hi).2.2]) ∧ Below w.heap.size w w' := by
  cases h1 : vB a b with
  | false =>
    rw [clR_f1 a b lo hi h1]
    go_enter Try.func30, Try.ntmps30
    go_wp2_with fail
    refine (srefvalid_any _ _ _).mono ?_
    rintro e w1 ⟨rfl, hb'⟩
    have s1 := (St.start w).new.new.call hb'
    simp only [World.size_alloc] at s1
    obtain ⟨c1, f1, z1, c2, f2, z2, -⟩ := s1.rules
    clear hb'
    go_wp2
    exact bodyPost_ret (v := .tuple #[.agg #[.int .i64 0, .int .i64 0], .int .i64 30]) (by simp [results, Try.results30, go_sem, c1]) rfl ⟨rfl, s1.out2⟩
  | true =>
    by_cases g : hi < lo
    · rw [clR_f2 a b lo hi g]
      go_enter Try.func30, Try.ntmps30
      go_wp2_with fail
      refine (srefvalid_any _ _ _).mono ?_
      rintro e w1 ⟨rfl, hb'⟩
      have s1 := (St.start w).new.new.call hb'
      simp only [World.size_alloc] at s1
      obtain ⟨c1, f1, z1, c2, f2, z2, -⟩ := s1.rules
      clear hb'
      go_wp2
      exact bodyPost_ret (v := .tuple #[.agg #[.int .i64 0, .int .i64 0], .int .i64 30]) (by simp [results, Try.results30, go_sem, c1]) rfl ⟨rfl, s1.out2⟩
    · rw [clR_ok a b lo hi h1 g]
      go_enter Try.func30, Try.ntmps30
      go_wp2_with fail
      refine (srefvalid_any _ _ _).mono ?_
      rintro e w1 ⟨rfl, hb'⟩
      have s1 := (St.start w).new.new.call hb'
      simp only [World.size_alloc] at s1
      obtain ⟨c1, f1, z1, c2, f2, z2, -⟩ := s1.rules
      clear hb'
      go_wp2_with fail
      go_region_with (go_at_call 42; refine (refclamp_any _ _ _ _).mono ?_; rintro e w' ⟨rfl, rfl⟩)
      all_goals
        go_wp2
        exact bodyPost_ret (v := .tuple #[.agg #[.int .i64 (clampV a lo hi), .int .i64 (clampV b lo hi)], .int .i64 0]) (by simp [results, Try.results30, go_sem, c1]) rfl ⟨rfl, s1.drew.out2⟩
end Go.Proofs.Ytdpfnlefaegmeaa
