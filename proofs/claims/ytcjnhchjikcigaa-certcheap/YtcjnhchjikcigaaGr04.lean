/- What costOfSum and plusTimes of package cert return. -/
import Derived.Test.YtcjnhchjikcigaaGr03
/- What costOfSum and plusTimes of package cert return. -/
namespace Go.Proofs.Ytcjnhchjikcigaa
open Go.ChangeShapes Go.WideShapes Go.ChangeAt Go.RowKit
set_option linter.unusedVariables false
theorem ccost_no (p1 p2 p3 p4 p5 p6 n E : Int) (hE : deE (p1, p2, p3, p4, p5, p6) n = E) (h0 : E ≠ 0) (W : World) :
    Calls Try.prog 22 #[.agg #[.int .i64 p1, .int .i64 p2, .int .i64 p3, .int .i64 p4, .int .i64 p5, .int .i64 p6], .int .i64 n] W fun e w' => e = .returned (.tuple #[.agg #[.int .i64 0, .int .i64 0, .int .i64 0, .int .i64 0, .int .i64 0, .int .i64 0, .int .i64 0, .int .i64 0, .int .i64 0], .int .i64 E]) ∧ Below W.heap.size W w' := by
  have HB : Hid (¬ (1 ≤ p2 ∧ p2 ≤ n) → ∀ w, _) := fun h w => cblk_bad n p2 h w
  by_cases h16 : p1 = 16
  · subst h16
    by_cases a : 1 ≤ p2 ∧ p2 ≤ n
    · exact absurd (hE.symm.trans (deE_16y rfl a)) h0
    · obtain rfl : E = 151 := by rw [← hE]; exact deE_16n rfl a
      have HC : Hid (∀ w, _) := HB.out a
      clear hE h0 a HB
      go_enter Try.func22, Try.ntmps22
      go_wp2_with fail
      refine (HC.out _).mono ?_
      rintro e w1 ⟨rfl, rfl⟩
      go_wp2
      exact bodyPost_ret (v := .tuple #[.agg #[.int .i64 0, .int .i64 0, .int .i64 0, .int .i64 0, .int .i64 0, .int .i64 0, .int .i64 0, .int .i64 0, .int .i64 0], .int .i64 151]) (by simp [results, Try.results22, go_sem]) rfl ⟨rfl, bt (bal _ _) (bal _ _)⟩
  · by_cases h32 : p1 = 32
    · subst h32
      by_cases a : p2 = n
      · exact absurd (hE.symm.trans (deE_32y rfl a)) h0
      · obtain rfl : E = 151 := by rw [← hE]; exact deE_32n rfl a
        clear hE h0 HB h16
        go_enter Try.func22, Try.ntmps22
        go_wp2
        exact bodyPost_ret (v := .tuple #[.agg #[.int .i64 0, .int .i64 0, .int .i64 0, .int .i64 0, .int .i64 0, .int .i64 0, .int .i64 0, .int .i64 0, .int .i64 0], .int .i64 151]) (by simp [results, Try.results22, go_sem]) rfl ⟨rfl, bt (bal _ _) (bal _ _)⟩
    · obtain rfl : E = 150 := by rw [← hE]; exact deE_w h16 h32
      clear hE h0 HB
      go_enter Try.func22, Try.ntmps22
      go_wp2
      exact bodyPost_ret (v := .tuple #[.agg #[.int .i64 0, .int .i64 0, .int .i64 0, .int .i64 0, .int .i64 0, .int .i64 0, .int .i64 0, .int .i64 0, .int .i64 0], .int .i64 150]) (by simp [results, Try.results22, go_sem]) rfl ⟨rfl, bt (bal _ _) (bal _ _)⟩
theorem coS_16 {p : Pl} {n : Int} (h : p.1 = 16) : coS p n = (n, n, 0, bkV n p.2.1) := if_pos h
theorem coS_32 {p : Pl} {n : Int} (h : p.1 = 32) : coS p n = (0, 0, n, n) := if_neg (by omega)
theorem ccost_ok (p1 p2 p3 p4 p5 p6 n s1 s2 s3 s4 : Int) (hE : deE (p1, p2, p3, p4, p5, p6) n = 0) (hS : coS (p1, p2, p3, p4, p5, p6) n = (s1, s2, s3, s4)) (hn : n ≤ 512) (W : World) :
    Calls Try.prog 22 #[.agg #[.int .i64 p1, .int .i64 p2, .int .i64 p3, .int .i64 p4, .int .i64 p5, .int .i64 p6], .int .i64 n] W fun e w' => e = .returned (.tuple #[.agg #[.int .i64 s1, .int .i64 s2, .int .i64 s3, .int .i64 s4, .int .i64 0, .int .i64 0, .int .i64 0, .int .i64 0, .int .i64 0], .int .i64 0]) ∧ Below W.heap.size W w' := by
  by_cases h16 : p1 = 16
  · subst h16
    obtain ⟨a1, a2⟩ := deE_16 rfl hE
    simp only at a1 a2
    have HC : Hid (∀ w, _) := fun w => cblk_ok n p2 a1 a2 (by omega) w
    rw [coS_16 rfl] at hS
    simp only [Prod.mk.injEq] at hS
    obtain ⟨rfl, rfl, rfl, rfl⟩ := hS
    clear hE a1 a2
    go_enter Try.func22, Try.ntmps22
    go_wp2_with fail
    refine (HC.out _).mono ?_
    rintro e w1 ⟨rfl, rfl⟩
    go_wp2
    exact bodyPost_ret (v := .tuple #[.agg #[.int .i64 n, .int .i64 n, .int .i64 0, .int .i64 (bkV n p2), .int .i64 0, .int .i64 0, .int .i64 0, .int .i64 0, .int .i64 0], .int .i64 0]) (by simp [results, Try.results22, go_sem]) rfl ⟨rfl, bt (bal _ _) (bal _ _)⟩
  · by_cases h32 : p1 = 32
    · subst h32
      rw [coS_32 rfl] at hS
      simp only [Prod.mk.injEq] at hS
      obtain ⟨rfl, rfl, rfl, rfl⟩ := hS
      by_cases a : p2 = n
      · subst a
        clear hE h16
        go_enter Try.func22, Try.ntmps22
        go_wp2
        exact bodyPost_ret (v := .tuple #[.agg #[.int .i64 0, .int .i64 0, .int .i64 p2, .int .i64 p2, .int .i64 0, .int .i64 0, .int .i64 0, .int .i64 0, .int .i64 0], .int .i64 0]) (by simp [results, Try.results22, go_sem]) rfl ⟨rfl, bt (bal _ _) (bal _ _)⟩
      · rw [deE_32n rfl a] at hE; cases hE
    · rw [deE_w h16 h32] at hE; cases hE
/-- A number that is far from the ends of 64 bits. -/
def Lit9 (x : Int) : Prop := 0 ≤ x ∧ x ≤ 1000000000000
theorem cplus_any (t1 t2 t3 t4 s1 s2 s3 s4 q : Int) (a1 : Lit9 t1) (a2 : Lit9 t2) (a3 : Lit9 t3) (a4 : Lit9 t4) (b1 : Lit9 (s1 * q)) (b2 : Lit9 (s2 * q)) (b3 : Lit9 (s3 * q)) (b4 : Lit9 (s4 * q)) (W : World) :
    Calls Try.prog 23 #[.agg #[.int .i64 t1, .int .i64 t2, .int .i64 t3, .int .i64 t4, .int .i64 0, .int .i64 0, .int .i64 0, .int .i64 0, .int .i64 0], .agg #[.int .i64 s1, .int .i64 s2, .int .i64 s3, .int .i64 s4, .int .i64 0, .int .i64 0, .int .i64 0, .int .i64 0, .int .i64 0], .int .i64 q] W fun e w' => e = .returned (.agg #[.int .i64 (t1 + s1 * q), .int .i64 (t2 + s2 * q), .int .i64 (t3 + s3 * q), .int .i64 (t4 + s4 * q), .int .i64 0, .int .i64 0, .int .i64 0, .int .i64 0, .int .i64 0]) ∧ Below W.heap.size W w' := by
  unfold Lit9 at a1 a2 a3 a4 b1 b2 b3 b4
  obtain ⟨x1, hx1⟩ : ∃ x, s1 * q = x := ⟨_, rfl⟩
  obtain ⟨x2, hx2⟩ : ∃ x, s2 * q = x := ⟨_, rfl⟩
  obtain ⟨x3, hx3⟩ : ∃ x, s3 * q = x := ⟨_, rfl⟩
  obtain ⟨x4, hx4⟩ : ∃ x, s4 * q = x := ⟨_, rfl⟩
  rw [hx1] at b1 ⊢
  rw [hx2] at b2 ⊢
  rw [hx3] at b3 ⊢
  rw [hx4] at b4 ⊢
  go_enter Try.func23, Try.ntmps23
  go_wp2
  exact bodyPost_ret (v := .agg #[.int .i64 (t1 + x1), .int .i64 (t2 + x2), .int .i64 (t3 + x3), .int .i64 (t4 + x4), .int .i64 0, .int .i64 0, .int .i64 0, .int .i64 0, .int .i64 0]) (by simp [results, Try.results23, go_sem]) rfl ⟨rfl, (St.start W).new.new.new.below⟩
end Go.Proofs.Ytcjnhchjikcigaa
