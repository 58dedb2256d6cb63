/- What Holds, Hull and Meet of package span, and the document's, return: each for every argument that fits its type. -/
import Derived.Test.YtdpfnlefaegmeaaSpnA
import Derived.Test.YtdpfnlefaegmeaaHeld
namespace Go.Proofs.Ytdpfnlefaegmeaa
open Go.ChangeShapes Go.WideShapes Go.ChangeAt Go.RowKit
theorem ho_tt (a b c d : Int) (h1 : vB c d = true) (h2 : hasB a b c = true) (h3 : hasB a b d = true) : true = hoB a b c d := by
  unfold vB hasB hoB at *; simp at *; omega
theorem ho_f1 (a b c d : Int) (h1 : vB c d = false) : false = hoB a b c d := by
  unfold vB hoB at *; simp at *; omega
theorem ho_f2 (a b c d : Int) (h1 : vB c d = true) (h2 : hasB a b c = false) : false = hoB a b c d := by
  unfold vB hasB hoB at *; simp at *; omega
theorem ho_f3 (a b c d : Int) (h1 : vB c d = true) (h2 : hasB a b d = false) : false = hoB a b c d := by
  unfold vB hasB hoB at *; simp at *; omega
theorem ho_f4 (a b c d : Int) (h1 : vB a b = false) : false = hoB a b c d := by
  unfold vB hoB at *; simp at *; omega
def mx (a c : Int) : Int := if a < c then c else a
def mn (a c : Int) : Int := if c < a then c else a
theorem mx_bd (a c : Int) : a ≤ mx a c ∧ c ≤ mx a c ∧ (mx a c = a ∨ mx a c = c) := by unfold mx; split <;> omega
theorem mn_bd (a c : Int) : mn a c ≤ a ∧ mn a c ≤ c ∧ (mn a c = a ∨ mn a c = c) := by unfold mn; split <;> omega
theorem mx_lt {a c : Int} (h : a < c) : mx a c = c := if_pos h
theorem mx_ge {a c : Int} (h : ¬ a < c) : mx a c = a := if_neg h
theorem mn_lt {a c : Int} (h : c < a) : mn a c = c := if_pos h
theorem mn_ge {a c : Int} (h : ¬ c < a) : mn a c = a := if_neg h
def huR (a b c d : Int) : Int × Int × Int := if a ≤ b ∧ c ≤ d then (mn a c, mx b d, 0) else (0, 0, 30)
def meR (a b c d : Int) : Int × Int × Bool := if mx a c ≤ mn b d then (mx a c, mn b d, true) else (0, 0, false)
theorem huR_ok (a b c d : Int) (h : vB a b = true) (g : vB c d = true) : huR a b c d = (mn a c, mx b d, 0) := if_pos ⟨vB_yes h, vB_yes g⟩
theorem huR_f1 (a b c d : Int) (h : vB a b = false) : huR a b c d = (0, 0, 30) := if_neg fun k => vB_no h k.1
theorem huR_f2 (a b c d : Int) (h : vB c d = false) : huR a b c d = (0, 0, 30) := if_neg fun k => vB_no h k.2
theorem sholds_any (a b c d : Int) (w : World) :
    Calls Try.prog 15 #[.agg #[.int .i64 a, .int .i64 b], .agg #[.int .i64 c, .int .i64 d]] w fun e w' => e = .returned (.bool (hoB a b c d)) ∧ Below w.heap.size w w' := by
  cases h1 : vB c d with
  | false =>
    have HR : Hid (false = hoB a b c d) := ho_f1 a b c d h1
    go_enter Try.func15, Try.ntmps15
    go_wp2_with fail
    refine (svalid_any _ _ _).mono ?_
    rintro e w1 ⟨rfl, hb⟩
    have s1 := (St.start w).new.new.call hb
    go_wp2
    go_ret
    exact ⟨retB HR.out, s1.below⟩
  | true =>
    cases h2 : hasB a b c with
    | false =>
      have HR : Hid (false = hoB a b c d) := ho_f2 a b c d h1 h2
      go_enter Try.func15, Try.ntmps15
      go_wp2_with fail
      refine (svalid_any _ _ _).mono ?_
      rintro e w1 ⟨rfl, hb⟩
      have s1 := (St.start w).new.new.call hb
      simp only [World.size_alloc] at s1
      obtain ⟨c1, f1, z1, c2, f2, z2, -⟩ := s1.rules
      clear hb
      go_wp2_with fail
      refine (shas_any _ _ _ _).mono ?_
      rintro e w2 ⟨rfl, hb⟩
      have s2 := s1.call hb
      go_wp2
      go_ret
      exact ⟨retB HR.out, s2.below⟩
    | true =>
      cases h3 : hasB a b d
      all_goals
        try have HR : Hid (false = hoB a b c d) := ho_f3 a b c d h1 h3
        try have HR : Hid (true = hoB a b c d) := ho_tt a b c d h1 h2 h3
        go_enter Try.func15, Try.ntmps15
        go_wp2_with fail
        refine (svalid_any _ _ _).mono ?_
        rintro e w1 ⟨rfl, hb⟩
        have s1 := (St.start w).new.new.call hb
        simp only [World.size_alloc] at s1
        obtain ⟨c1, f1, z1, c2, f2, z2, -⟩ := s1.rules
        clear hb
        go_wp2_with fail
        refine (shas_any _ _ _ _).mono ?_
        rintro e w2 ⟨rfl, hb⟩
        have s2 := s1.call hb
        obtain ⟨c1, f1, z1, c2, f2, z2, -⟩ := s2.rules
        clear hb
        go_wp2_with fail
        refine (shas_any _ _ _ _).mono ?_
        rintro e w3 ⟨rfl, hb⟩
        go_wp2
        go_ret
        exact ⟨retB HR.out, (s2.call hb).below⟩
theorem meR_ok (a b c d : Int) (h : vB (mx a c) (mn b d) = true) : meR a b c d = (mx a c, mn b d, true) := if_pos (vB_yes h)
theorem meR_no (a b c d : Int) (h : vB (mx a c) (mn b d) = false) : meR a b c d = (0, 0, false) := if_neg (vB_no h)
theorem meR_f1 (a b c d : Int) (h : vB a b = false) : meR a b c d = (0, 0, false) := if_neg (by have := vB_no h; have := mx_bd a c; have := mn_bd b d; omega)
theorem meR_f2 (a b c d : Int) (h : vB c d = false) : meR a b c d = (0, 0, false) := if_neg (by have := vB_no h; have := mx_bd a c; have := mn_bd b d; omega)
theorem shull_any (a b c d : Int) (w : World) :
    Calls Try.prog 17 #[.agg #[.int .i64 a, .int .i64 b], .agg #[.int .i64 c, .int .i64 d]] w fun e w' => e = .returned (.tuple #[.agg #[.int .i64 (huR a b c d).1, .int .i64 (huR a b c d).2.1], .int .i64 (huR a b c d).2.2]) ∧ Below w.heap.size w w' := by
  cases h1 : vB a b with
  | false =>
    rw [huR_f1 a b c d h1]
    go_enter Try.func17, Try.ntmps17
    go_wp2_with fail
    refine (svalid_any _ _ _).mono ?_
    rintro e w1 ⟨rfl, hb⟩
    have s1 := (St.start w).new.new.new.call hb
    simp only [World.size_alloc] at s1
    obtain ⟨c1, f1, z1, c2, f2, z2, c3, f3, z3, -⟩ := s1.rules
    clear hb
    go_wp2
    exact bodyPost_ret (v := .tuple #[.agg #[.int .i64 0, .int .i64 0], .int .i64 30]) (by simp [results, Try.results17, go_sem, c1]) rfl ⟨rfl, s1.out2⟩
  | true =>
    cases h2 : vB c d with
    | false =>
      rw [huR_f2 a b c d h2]
      go_enter Try.func17, Try.ntmps17
      go_wp2_with fail
      refine (svalid_any _ _ _).mono ?_
      rintro e w1 ⟨rfl, hb⟩
      have s1 := (St.start w).new.new.new.call hb
      simp only [World.size_alloc] at s1
      obtain ⟨c1, f1, z1, c2, f2, z2, c3, f3, z3, -⟩ := s1.rules
      clear hb
      go_wp2_with fail
      refine (svalid_any _ _ _).mono ?_
      rintro e w2 ⟨rfl, hb⟩
      have s2 := s1.call hb
      clear hb c1 f1 z1 c2 f2 z2 c3 f3 z3
      obtain ⟨c1, f1, z1, c2, f2, z2, c3, f3, z3, -⟩ := s2.rules
      go_wp2
      exact bodyPost_ret (v := .tuple #[.agg #[.int .i64 0, .int .i64 0], .int .i64 30]) (by simp [results, Try.results17, go_sem, c1]) rfl ⟨rfl, s2.out2⟩
    | true =>
      rw [huR_ok a b c d h1 h2]
      by_cases k1 : c < a <;> by_cases k2 : b < d
      all_goals
        first | rw [mn_lt k1] | rw [mn_ge k1]
        first | rw [mx_lt k2] | rw [mx_ge k2]
        go_enter Try.func17, Try.ntmps17
        go_wp2_with fail
        refine (svalid_any _ _ _).mono ?_
        rintro e w1 ⟨rfl, hb⟩
        have s1 := (St.start w).new.new.new.call hb
        simp only [World.size_alloc] at s1
        obtain ⟨c1, f1, z1, c2, f2, z2, c3, f3, z3, -⟩ := s1.rules
        clear hb
        go_wp2_with fail
        refine (svalid_any _ _ _).mono ?_
        rintro e w2 ⟨rfl, hb⟩
        have s2 := s1.call hb
        clear hb c1 f1 z1 c2 f2 z2 c3 f3 z3
        obtain ⟨c1, f1, z1, c2, f2, z2, c3, f3, z3, -⟩ := s2.rules
        go_wp2
        exact bodyPost_ret (v := .tuple #[.agg #[.int .i64 _, .int .i64 _], .int .i64 0]) (by simp [results, Try.results17, go_sem, c1]) rfl ⟨rfl, s2.out2⟩
theorem srefhull_any (a b c d : Int) (w : World) :
    Calls Try.prog 18 #[.agg #[.int .i64 a, .int .i64 b], .agg #[.int .i64 c, .int .i64 d]] w fun e w' => e = .returned (.tuple #[.agg #[.int .i64 (huR a b c d).1, .int .i64 (huR a b c d).2.1], .int .i64 (huR a b c d).2.2]) ∧ Below w.heap.size w w' := by
  cases h1 : vB a b with
  | false =>
    rw [huR_f1 a b c d h1]
    go_enter Try.func18, Try.ntmps18
    go_wp2_with fail
    refine (srefvalid_any _ _ _).mono ?_
    rintro e w1 ⟨rfl, hb⟩
    have s1 := (St.start w).new.new.new.call hb
    simp only [World.size_alloc] at s1
    obtain ⟨c1, f1, z1, c2, f2, z2, c3, f3, z3, -⟩ := s1.rules
    clear hb
    go_wp2
    exact bodyPost_ret (v := .tuple #[.agg #[.int .i64 0, .int .i64 0], .int .i64 30]) (by simp [results, Try.results18, go_sem, c1]) rfl ⟨rfl, s1.out2⟩
  | true =>
    cases h2 : vB c d with
    | false =>
      rw [huR_f2 a b c d h2]
      go_enter Try.func18, Try.ntmps18
      go_wp2_with fail
      refine (srefvalid_any _ _ _).mono ?_
      rintro e w1 ⟨rfl, hb⟩
      have s1 := (St.start w).new.new.new.call hb
      simp only [World.size_alloc] at s1
      obtain ⟨c1, f1, z1, c2, f2, z2, c3, f3, z3, -⟩ := s1.rules
      clear hb
      go_wp2_with fail
      refine (srefvalid_any _ _ _).mono ?_
      rintro e w2 ⟨rfl, hb⟩
      have s2 := s1.call hb
      clear hb c1 f1 z1 c2 f2 z2 c3 f3 z3
      obtain ⟨c1, f1, z1, c2, f2, z2, c3, f3, z3, -⟩ := s2.rules
      go_wp2
      exact bodyPost_ret (v := .tuple #[.agg #[.int .i64 0, .int .i64 0], .int .i64 30]) (by simp [results, Try.results18, go_sem, c1]) rfl ⟨rfl, s2.out2⟩
    | true =>
      rw [huR_ok a b c d h1 h2]
      by_cases k1 : c < a <;> by_cases k2 : b < d
      all_goals
        first | rw [mn_lt k1] | rw [mn_ge k1]
        first | rw [mx_lt k2] | rw [mx_ge k2]
        go_enter Try.func18, Try.ntmps18
        go_wp2_with fail
        refine (srefvalid_any _ _ _).mono ?_
        rintro e w1 ⟨rfl, hb⟩
        have s1 := (St.start w).new.new.new.call hb
        simp only [World.size_alloc] at s1
        obtain ⟨c1, f1, z1, c2, f2, z2, c3, f3, z3, -⟩ := s1.rules
        clear hb
        go_wp2_with fail
        refine (srefvalid_any _ _ _).mono ?_
        rintro e w2 ⟨rfl, hb⟩
        have s2 := s1.call hb
        clear hb c1 f1 z1 c2 f2 z2 c3 f3 z3
        obtain ⟨c1, f1, z1, c2, f2, z2, c3, f3, z3, -⟩ := s2.rules
        go_wp2
        exact bodyPost_ret (v := .tuple #[.agg #[.int .i64 _, .int .i64 _], .int .i64 0]) (by simp [results, Try.results18, go_sem, c1]) rfl ⟨rfl, s2.out2⟩
theorem smeet_any (a b c d : Int) (w : World) :
    Calls Try.prog 19 #[.agg #[.int .i64 a, .int .i64 b], .agg #[.int .i64 c, .int .i64 d]] w fun e w' => e = .returned (.tuple #[.agg #[.int .i64 (meR a b c d).1, .int .i64 (meR a b c d).2.1], .bool (meR a b c d).2.2]) ∧ Below w.heap.size w w' := by
  unfold meR
  by_cases k1 : a < c <;> by_cases k2 : d < b
  all_goals
    first | rw [mx_lt k1] | rw [mx_ge k1]
    first | rw [mn_lt k2] | rw [mn_ge k2]
  · by_cases h1 : c ≤ d
    · have HM : Hid (mkR c d = (c, d, 0)) := if_pos h1
      rw [if_pos h1]
      clear h1
      go_enter Try.func19, Try.ntmps19
      go_wp2_with fail
      refine (smake_any _ _ _).mono ?_
      rintro e w1 ⟨rfl, hb⟩
      rw [HM.out]
      have s1 := (St.start w).new.new.new.call hb
      simp only [World.size_alloc] at s1
      obtain ⟨c1, f1, z1, c2, f2, z2, c3, f3, z3, -⟩ := s1.rules
      clear hb
      go_wp2
      exact bodyPost_ret (v := .tuple #[.agg #[.int .i64 c, .int .i64 d], .bool true]) (by simp [results, Try.results19, go_sem, c1, z1]) rfl ⟨rfl, (s1.out2 (i := 0) (j := 1)).alloc (by simp; have := s1.size; omega) _⟩
    · have HM : Hid (mkR c d = (0, 0, 30)) := if_neg h1
      rw [if_neg h1]
      clear h1
      go_enter Try.func19, Try.ntmps19
      go_wp2_with fail
      refine (smake_any _ _ _).mono ?_
      rintro e w1 ⟨rfl, hb⟩
      rw [HM.out]
      have s1 := (St.start w).new.new.new.call hb
      simp only [World.size_alloc] at s1
      obtain ⟨c1, f1, z1, c2, f2, z2, c3, f3, z3, -⟩ := s1.rules
      clear hb
      go_wp2
      exact bodyPost_ret (v := .tuple #[.agg #[.int .i64 0, .int .i64 0], .bool false]) (by simp [results, Try.results19, go_sem, c1, z1]) rfl ⟨rfl, (s1.out2 (i := 0) (j := 1)).alloc (by simp; have := s1.size; omega) _⟩
  · by_cases h1 : c ≤ b
    · have HM : Hid (mkR c b = (c, b, 0)) := if_pos h1
      rw [if_pos h1]
      clear h1
      go_enter Try.func19, Try.ntmps19
      go_wp2_with fail
      refine (smake_any _ _ _).mono ?_
      rintro e w1 ⟨rfl, hb⟩
      rw [HM.out]
      have s1 := (St.start w).new.new.new.call hb
      simp only [World.size_alloc] at s1
      obtain ⟨c1, f1, z1, c2, f2, z2, c3, f3, z3, -⟩ := s1.rules
      clear hb
      go_wp2
      exact bodyPost_ret (v := .tuple #[.agg #[.int .i64 c, .int .i64 b], .bool true]) (by simp [results, Try.results19, go_sem, c1, z1]) rfl ⟨rfl, (s1.out2 (i := 0) (j := 1)).alloc (by simp; have := s1.size; omega) _⟩
    · have HM : Hid (mkR c b = (0, 0, 30)) := if_neg h1
      rw [if_neg h1]
      clear h1
      go_enter Try.func19, Try.ntmps19
      go_wp2_with fail
      refine (smake_any _ _ _).mono ?_
      rintro e w1 ⟨rfl, hb⟩
      rw [HM.out]
      have s1 := (St.start w).new.new.new.call hb
      simp only [World.size_alloc] at s1
      obtain ⟨c1, f1, z1, c2, f2, z2, c3, f3, z3, -⟩ := s1.rules
      clear hb
      go_wp2
      exact bodyPost_ret (v := .tuple #[.agg #[.int .i64 0, .int .i64 0], .bool false]) (by simp [results, Try.results19, go_sem, c1, z1]) rfl ⟨rfl, (s1.out2 (i := 0) (j := 1)).alloc (by simp; have := s1.size; omega) _⟩
  · by_cases h1 : a ≤ d
    · have HM : Hid (mkR a d = (a, d, 0)) := if_pos h1
      rw [if_pos h1]
      clear h1
      go_enter Try.func19, Try.ntmps19
      go_wp2_with fail
      refine (smake_any _ _ _).mono ?_
      rintro e w1 ⟨rfl, hb⟩
      rw [HM.out]
      have s1 := (St.start w).new.new.new.call hb
      simp only [World.size_alloc] at s1
      obtain ⟨c1, f1, z1, c2, f2, z2, c3, f3, z3, -⟩ := s1.rules
      clear hb
      go_wp2
      exact bodyPost_ret (v := .tuple #[.agg #[.int .i64 a, .int .i64 d], .bool true]) (by simp [results, Try.results19, go_sem, c1, z1]) rfl ⟨rfl, (s1.out2 (i := 0) (j := 1)).alloc (by simp; have := s1.size; omega) _⟩
    · have HM : Hid (mkR a d = (0, 0, 30)) := if_neg h1
      rw [if_neg h1]
      clear h1
      go_enter Try.func19, Try.ntmps19
      go_wp2_with fail
      refine (smake_any _ _ _).mono ?_
      rintro e w1 ⟨rfl, hb⟩
      rw [HM.out]
      have s1 := (St.start w).new.new.new.call hb
      simp only [World.size_alloc] at s1
      obtain ⟨c1, f1, z1, c2, f2, z2, c3, f3, z3, -⟩ := s1.rules
      clear hb
      go_wp2
      exact bodyPost_ret (v := .tuple #[.agg #[.int .i64 0, .int .i64 0], .bool false]) (by simp [results, Try.results19, go_sem, c1, z1]) rfl ⟨rfl, (s1.out2 (i := 0) (j := 1)).alloc (by simp; have := s1.size; omega) _⟩
  · by_cases h1 : a ≤ b
    · have HM : Hid (mkR a b = (a, b, 0)) := if_pos h1
      rw [if_pos h1]
      clear h1
      go_enter Try.func19, Try.ntmps19
      go_wp2_with fail
      refine (smake_any _ _ _).mono ?_
      rintro e w1 ⟨rfl, hb⟩
      rw [HM.out]
      have s1 := (St.start w).new.new.new.call hb
      simp only [World.size_alloc] at s1
      obtain ⟨c1, f1, z1, c2, f2, z2, c3, f3, z3, -⟩ := s1.rules
      clear hb
      go_wp2
      exact bodyPost_ret (v := .tuple #[.agg #[.int .i64 a, .int .i64 b], .bool true]) (by simp [results, Try.results19, go_sem, c1, z1]) rfl ⟨rfl, (s1.out2 (i := 0) (j := 1)).alloc (by simp; have := s1.size; omega) _⟩
    · have HM : Hid (mkR a b = (0, 0, 30)) := if_neg h1
      rw [if_neg h1]
      clear h1
      go_enter Try.func19, Try.ntmps19
      go_wp2_with fail
      refine (smake_any _ _ _).mono ?_
      rintro e w1 ⟨rfl, hb⟩
      rw [HM.out]
      have s1 := (St.start w).new.new.new.call hb
      simp only [World.size_alloc] at s1
      obtain ⟨c1, f1, z1, c2, f2, z2, c3, f3, z3, -⟩ := s1.rules
      clear hb
      go_wp2
      exact bodyPost_ret (v := .tuple #[.agg #[.int .i64 0, .int .i64 0], .bool false]) (by simp [results, Try.results19, go_sem, c1, z1]) rfl ⟨rfl, (s1.out2 (i := 0) (j := 1)).alloc (by simp; have := s1.size; omega) _⟩
end Go.Proofs.Ytdpfnlefaegmeaa
