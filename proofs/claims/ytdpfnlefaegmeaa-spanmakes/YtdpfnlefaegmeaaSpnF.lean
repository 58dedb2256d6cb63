/- What Scaled of package span, and the document's, return: each for every argument that fits its type. -/
import Derived.Test.YtdpfnlefaegmeaaSpnD
namespace Go.Proofs.Ytdpfnlefaegmeaa
open Go.ChangeShapes Go.WideShapes Go.ChangeAt Go.RowKit
theorem apE_three (a m s : Int) : (scB m s = true ∧ (apE a m s = 0 ∨ apE a m s = 10)) ∨ (scB m s = false ∧ apE a m s = 20 ∧ apV a m s = 0) := by
  unfold apE apV
  cases h : scB m s with
  | false => right; simp
  | true => left; cases g : acB a <;> simp
def scR (a b m s : Int) : Int × Int × Int := if a ≤ b then enR (apV a m s) (apE a m s) (apV b m s) (apE b m s) else (0, 0, 30)
theorem scR_ok (a b m s : Int) (h : vB a b = true) : scR a b m s = enR (apV a m s) (apE a m s) (apV b m s) (apE b m s) := if_pos (vB_yes h)
theorem scR_f (a b m s : Int) (h : vB a b = false) : scR a b m s = (0, 0, 30) := if_neg (vB_no h)
theorem sscaled_any (a b m s : Int) (w : World) :
    Calls Try.prog 27 #[.agg #[.int .i64 a, .int .i64 b], .agg #[.int .i64 m, .int .i64 s]] w fun e w' => e = .returned (.tuple #[.agg #[.int .i64 (scR a b m s).1, .int .i64 (scR a b m s).2.1], .int .i64 (scR a b m s).2.2]) ∧ Below w.heap.size w w' := by
  cases h1 : vB a b with
  | false =>
    rw [scR_f a b m s h1]
    go_enter Try.func27, Try.ntmps27
    go_wp2_with fail
    refine (svalid_any _ _ _).mono ?_
    rintro e w1 ⟨rfl, hb'⟩
    have s1 := (St.start w).new.new.new.call hb'
    simp only [World.size_alloc] at s1
    obtain ⟨c1, f1, z1, c2, f2, z2, c3, f3, z3, -⟩ := s1.rules
    clear hb'
    go_wp2
    exact bodyPost_ret (v := .tuple #[.agg #[.int .i64 0, .int .i64 0], .int .i64 30]) (by simp [results, Try.results27, go_sem, c1]) rfl ⟨rfl, s1.out2⟩
  | true =>
    rw [scR_ok a b m s h1]
    go_enter Try.func27, Try.ntmps27
    go_wp2_with fail
    refine (svalid_any _ _ _).mono ?_
    rintro e w1 ⟨rfl, hb'⟩
    have s1 := (St.start w).new.new.new.call hb'
    simp only [World.size_alloc] at s1
    obtain ⟨c1, f1, z1, c2, f2, z2, c3, f3, z3, -⟩ := s1.rules
    clear hb'
    go_wp2_with fail
    refine (apply_any _ _ _ _).mono ?_
    rintro e w2 ⟨rfl, hb'⟩
    have s2 := s1.call hb'
    clear hb' c1 f1 z1 c2 f2 z2 c3 f3 z3
    obtain ⟨c1, f1, z1, c2, f2, z2, c3, f3, z3, -⟩ := s2.rules
    go_wp2_with fail
    refine (apply_any _ _ _ _).mono ?_
    rintro e w3 ⟨rfl, hb'⟩
    have s3 := s2.call hb'
    clear hb' c1 f1 z1 c2 f2 z2 c3 f3 z3
    obtain ⟨c1, f1, z1, c2, f2, z2, c3, f3, z3, -⟩ := s3.rules
    go_wp2_with fail
    refine (sends_any _ _ _ _ _).mono ?_
    rintro e w4 ⟨rfl, hb'⟩
    have s4 := s3.call hb'
    clear hb' c1 f1 z1 c2 f2 z2 c3 f3 z3
    obtain ⟨c1, f1, z1, c2, f2, z2, c3, f3, z3, -⟩ := s4.rules
    go_wp2
    exact bodyPost_ret (v := .tuple #[.agg #[.int .i64 _, .int .i64 _], .int .i64 _]) (by simp [results, Try.results27, go_sem, c1]) rfl ⟨rfl, s4.out2⟩
theorem srefscaled_any (a b m s : Int) (w : World) (ha : I64 a) (hb : I64 b) :
    Calls Try.prog 28 #[.agg #[.int .i64 a, .int .i64 b], .agg #[.int .i64 m, .int .i64 s]] w fun e w' => e = .returned (.tuple #[.agg #[.int .i64 (scR a b m s).1, .int .i64 (scR a b m s).2.1], .int .i64 (scR a b m s).2.2]) ∧ Below w.heap.size w w' := by
  cases h1 : vB a b with
  | false =>
    rw [scR_f a b m s h1]
    go_enter Try.func28, Try.ntmps28
    go_wp2_with fail
    refine (srefvalid_any _ _ _).mono ?_
    rintro e w1 ⟨rfl, hb'⟩
    have s1 := (St.start w).new.new.new.call hb'
    simp only [World.size_alloc] at s1
    obtain ⟨c1, f1, z1, c2, f2, z2, c3, f3, z3, -⟩ := s1.rules
    clear hb'
    go_wp2
    exact bodyPost_ret (v := .tuple #[.agg #[.int .i64 0, .int .i64 0], .int .i64 30]) (by simp [results, Try.results28, go_sem, c1]) rfl ⟨rfl, s1.out2⟩
  | true =>
    rw [scR_ok a b m s h1]
    rcases apE_three a m s with ⟨hs, h2⟩ | ⟨hs, h2, _⟩
    · have h3 : apE b m s = 0 ∨ apE b m s = 10 := by
        rcases apE_three b m s with h | h
        · exact h.2
        · rw [hs] at h; cases h.1
      have h4 : (apE a m s == 20) = false := by rcases h2 with h | h <;> rw [h] <;> rfl
      have T1 : Hid (apE a m s = 0 ∨ apE a m s = 10) := h2
      have T2 : Hid (apE b m s = 0 ∨ apE b m s = 10) := h3
      clear h2 h3 hs
      go_enter Try.func28, Try.ntmps28
      go_wp2_with fail
      refine (srefvalid_any _ _ _).mono ?_
      rintro e w1 ⟨rfl, hb'⟩
      have s1 := (St.start w).new.new.new.call hb'
      simp only [World.size_alloc] at s1
      obtain ⟨c1, f1, z1, c2, f2, z2, c3, f3, z3, -⟩ := s1.rules
      clear hb'
      go_wp2_with fail
      refine (refapply_any _ _ _ _ (by assumption)).mono ?_
      rintro e w' ⟨rfl, rfl⟩
      go_wp2_with fail
      refine (refapply_any _ _ _ _ (by assumption)).mono ?_
      rintro e w' ⟨rfl, rfl⟩
      go_wp2_with fail
      refine (srefends_any _ _ _ _ _ T1.out T2.out).mono ?_
      rintro e w4 ⟨rfl, hb'⟩
      have s4 := s1.call hb'
      clear hb' c1 f1 z1 c2 f2 z2 c3 f3 z3
      obtain ⟨c1, f1, z1, c2, f2, z2, c3, f3, z3, -⟩ := s4.rules
      go_wp2
      exact bodyPost_ret (v := .tuple #[.agg #[.int .i64 _, .int .i64 _], .int .i64 _]) (by simp [results, Try.results28, go_sem, c1]) rfl ⟨rfl, s4.out2⟩
    · have HN : Hid (enR (apV a m s) (apE a m s) (apV b m s) (apE b m s) = (0, 0, 20)) := by unfold Hid enR; rw [h2, if_neg (by decide)]
      rw [HN.out]
      have h4 : (apE a m s == 20) = true := by rw [h2]; rfl
      have T1 : Hid (apE a m s = 20) := h2
      clear h2 hs
      go_enter Try.func28, Try.ntmps28
      go_wp2_with fail
      refine (srefvalid_any _ _ _).mono ?_
      rintro e w1 ⟨rfl, hb'⟩
      have s1 := (St.start w).new.new.new.call hb'
      simp only [World.size_alloc] at s1
      obtain ⟨c1, f1, z1, c2, f2, z2, c3, f3, z3, -⟩ := s1.rules
      clear hb'
      go_wp2_with fail
      refine (refapply_any _ _ _ _ (by assumption)).mono ?_
      rintro e w' ⟨rfl, rfl⟩
      go_wp2_with fail
      refine (refapply_any _ _ _ _ (by assumption)).mono ?_
      rintro e w' ⟨rfl, rfl⟩
      rw [T1.out]
      go_wp2
      exact bodyPost_ret (v := .tuple #[.agg #[.int .i64 0, .int .i64 0], .int .i64 20]) (by simp [results, Try.results28, go_sem, c1]) rfl ⟨rfl, s1.out2⟩
end Go.Proofs.Ytdpfnlefaegmeaa
