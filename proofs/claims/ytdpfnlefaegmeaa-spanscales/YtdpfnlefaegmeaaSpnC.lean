/- What the document's Holds, Meet and ends return: each for every argument that fits its type. -/
import Derived.Test.YtdpfnlefaegmeaaSpnB
namespace Go.Proofs.Ytdpfnlefaegmeaa
open Go.ChangeShapes Go.WideShapes Go.ChangeAt Go.RowKit
theorem ho_all (a b c d : Int) : (vB a b && (vB c d && (hasB a b c && hasB a b d))) = hoB a b c d := by
  unfold vB hasB hoB; rw [Bool.eq_iff_iff]; simp; omega
theorem srefholds_any (a b c d : Int) (w : World) :
    Calls Try.prog 16 #[.agg #[.int .i64 a, .int .i64 b], .agg #[.int .i64 c, .int .i64 d]] w fun e w' => e = .returned (.bool (hoB a b c d)) ∧ Below w.heap.size w w' := by
  have HR : Hid ((vB a b && (vB c d && (hasB a b c && hasB a b d))) = hoB a b c d) := ho_all a b c d
  cases h0 : vB a b
  · rw [h0] at HR
    go_enter Try.func16, Try.ntmps16
    go_wp2_with fail
    refine (srefvalid_any _ _ _).mono ?_
    rintro e w1 ⟨rfl, hb⟩
    have s1 := (St.start w).new.new.call hb
    go_wp2
    go_ret
    exact ⟨retB HR.out, s1.below⟩
  · cases h1 : vB c d
    · rw [h0, h1] at HR
      go_enter Try.func16, Try.ntmps16
      go_wp2_with fail
      refine (srefvalid_any _ _ _).mono ?_
      rintro e w1 ⟨rfl, hb⟩
      have s1 := (St.start w).new.new.call hb
      simp only [World.size_alloc] at s1
      obtain ⟨c1, f1, z1, c2, f2, z2, -⟩ := s1.rules
      clear hb
      go_wp2_with fail
      refine (srefvalid_any _ _ _).mono ?_
      rintro e w2 ⟨rfl, hb⟩
      go_wp2
      go_ret
      exact ⟨retB HR.out, (s1.call hb).below⟩
    · cases h2 : hasB a b c
      · rw [h0, h1, h2] at HR
        go_enter Try.func16, Try.ntmps16
        go_wp2_with fail
        refine (srefvalid_any _ _ _).mono ?_
        rintro e w1 ⟨rfl, hb⟩
        have s1 := (St.start w).new.new.call hb
        simp only [World.size_alloc] at s1
        obtain ⟨c1, f1, z1, c2, f2, z2, -⟩ := s1.rules
        clear hb
        go_wp2_with fail
        refine (srefvalid_any _ _ _).mono ?_
        rintro e w2 ⟨rfl, hb⟩
        have s2 := s1.call hb
        clear hb c1 f1 z1 c2 f2 z2
        obtain ⟨c1, f1, z1, c2, f2, z2, -⟩ := s2.rules
        go_wp2_with fail
        refine (srefhas_any _ _ _ _).mono ?_
        rintro e w3 ⟨rfl, hb⟩
        go_wp2
        go_ret
        exact ⟨retB HR.out, (s2.call hb).below⟩
      · rw [h0, h1, h2] at HR
        cases h3 : hasB a b d
        all_goals
          rw [h3] at HR
          go_enter Try.func16, Try.ntmps16
          go_wp2_with fail
          refine (srefvalid_any _ _ _).mono ?_
          rintro e w1 ⟨rfl, hb⟩
          have s1 := (St.start w).new.new.call hb
          simp only [World.size_alloc] at s1
          obtain ⟨c1, f1, z1, c2, f2, z2, -⟩ := s1.rules
          clear hb
          go_wp2_with fail
          refine (srefvalid_any _ _ _).mono ?_
          rintro e w2 ⟨rfl, hb⟩
          have s2 := s1.call hb
          clear hb c1 f1 z1 c2 f2 z2
          obtain ⟨c1, f1, z1, c2, f2, z2, -⟩ := s2.rules
          go_wp2_with fail
          refine (srefhas_any _ _ _ _).mono ?_
          rintro e w3 ⟨rfl, hb⟩
          have s3 := s2.call hb
          clear hb c1 f1 z1 c2 f2 z2
          obtain ⟨c1, f1, z1, c2, f2, z2, -⟩ := s3.rules
          go_wp2_with fail
          refine (srefhas_any _ _ _ _).mono ?_
          rintro e w4 ⟨rfl, hb⟩
          go_wp2
          go_ret
          exact ⟨retB HR.out, (s3.call hb).below⟩
set_option maxHeartbeats 1000000 in
theorem srefmeet_any (a b c d : Int) (w : World) :
    Calls Try.prog 20 #[.agg #[.int .i64 a, .int .i64 b], .agg #[.int .i64 c, .int .i64 d]] w fun e w' => e = .returned (.tuple #[.agg #[.int .i64 (meR a b c d).1, .int .i64 (meR a b c d).2.1], .bool (meR a b c d).2.2]) ∧ Below w.heap.size w w' := by
  by_cases k1 : a < c <;> by_cases k2 : d < b
  · cases h0 : vB a b with
    | false =>
      rw [meR_f1 a b c d h0]
      go_enter Try.func20, Try.ntmps20
      go_wp2_with fail
      refine (srefvalid_any _ _ _).mono ?_
      rintro e w1 ⟨rfl, hb⟩
      have s1 := (St.start w).new.new.new.skip _ |>.call hb
      simp only [World.size_alloc] at s1
      obtain ⟨c1, f1, z1, c2, f2, z2, c3, f3, z3, -⟩ := s1.rules
      clear hb
      go_wp2
      exact bodyPost_ret (v := .tuple #[.agg #[.int .i64 0, .int .i64 0], .bool false]) (by simp [results, Try.results20, go_sem, c1]) rfl ⟨rfl, s1.out2⟩
    | true =>
      cases h1 : vB c d with
      | false =>
        rw [meR_f2 a b c d h1]
        go_enter Try.func20, Try.ntmps20
        go_wp2_with fail
        refine (srefvalid_any _ _ _).mono ?_
        rintro e w1 ⟨rfl, hb⟩
        have s1 := (St.start w).new.new.new.skip _ |>.call hb
        simp only [World.size_alloc] at s1
        obtain ⟨c1, f1, z1, c2, f2, z2, c3, f3, z3, -⟩ := s1.rules
        clear hb
        go_wp2_with fail
        refine (srefvalid_any _ _ _).mono ?_
        rintro e w2 ⟨rfl, hb⟩
        have s2 := s1.call hb
        clear hb c1 f1 z1 c2 f2 z2 c3 f3 z3
        obtain ⟨c1, f1, z1, c2, f2, z2, c3, f3, z3, -⟩ := s2.rules
        go_wp2
        exact bodyPost_ret (v := .tuple #[.agg #[.int .i64 0, .int .i64 0], .bool false]) (by simp [results, Try.results20, go_sem, c1]) rfl ⟨rfl, s2.out2⟩
      | true =>
        have HX : Hid (mx a c = c) := mx_lt k1
        have HY : Hid (mn b d = d) := mn_lt k2
        cases h2 : vB c d with
        | false =>
          first | exact absurd (h1.symm.trans h2) (by decide) | exact absurd (h0.symm.trans h2) (by decide) | skip
          all_goals
            rw [meR_no a b c d (by rw [HX.out, HY.out]; exact h2)]
            go_enter Try.func20, Try.ntmps20
            go_wp2_with fail
            refine (srefvalid_any _ _ _).mono ?_
            rintro e w1 ⟨rfl, hb⟩
            have s1 := (St.start w).new.new.new.new.call hb
            simp only [World.size_alloc] at s1
            obtain ⟨c4, f4, z4, c1, f1, z1, c2, f2, z2, c3, f3, z3, -⟩ := s1.rules
            clear hb
            go_wp2_with fail
            refine (srefvalid_any _ _ _).mono ?_
            rintro e w2 ⟨rfl, hb⟩
            have s2 := s1.call hb
            clear hb c1 f1 z1 c2 f2 z2 c3 f3 z3 c4 f4 z4
            obtain ⟨c4, f4, z4, c1, f1, z1, c2, f2, z2, c3, f3, z3, -⟩ := s2.rules
            go_wp2_with fail
            refine (srefvalid_any _ _ _).mono ?_
            rintro e w3 ⟨rfl, hb⟩
            have s3 := s2.call hb
            clear hb c1 f1 z1 c2 f2 z2 c3 f3 z3 c4 f4 z4
            obtain ⟨c4, f4, z4, c1, f1, z1, c2, f2, z2, c3, f3, z3, -⟩ := s3.rules
            go_wp2
            exact bodyPost_ret (v := .tuple #[.agg #[.int .i64 0, .int .i64 0], .bool false]) (by simp [results, Try.results20, go_sem, c1]) rfl ⟨rfl, s3.tail.out2⟩
        | true =>
          rw [meR_ok a b c d (by rw [HX.out, HY.out]; exact h2), HX.out, HY.out]
          go_enter Try.func20, Try.ntmps20
          go_wp2_with fail
          refine (srefvalid_any _ _ _).mono ?_
          rintro e w1 ⟨rfl, hb⟩
          have s1 := (St.start w).new.new.new.new.call hb
          simp only [World.size_alloc] at s1
          obtain ⟨c4, f4, z4, c1, f1, z1, c2, f2, z2, c3, f3, z3, -⟩ := s1.rules
          clear hb
          go_wp2_with fail
          refine (srefvalid_any _ _ _).mono ?_
          rintro e w2 ⟨rfl, hb⟩
          have s2 := s1.call hb
          clear hb c1 f1 z1 c2 f2 z2 c3 f3 z3 c4 f4 z4
          obtain ⟨c4, f4, z4, c1, f1, z1, c2, f2, z2, c3, f3, z3, -⟩ := s2.rules
          go_wp2_with fail
          refine (srefvalid_any _ _ _).mono ?_
          rintro e w3 ⟨rfl, hb⟩
          have s3 := s2.call hb
          clear hb c1 f1 z1 c2 f2 z2 c3 f3 z3 c4 f4 z4
          obtain ⟨c4, f4, z4, c1, f1, z1, c2, f2, z2, c3, f3, z3, -⟩ := s3.rules
          go_wp2
          exact bodyPost_ret (v := .tuple #[.agg #[.int .i64 c, .int .i64 d], .bool true]) (by simp [results, Try.results20, go_sem, c1]) rfl ⟨rfl, s3.tail.out2⟩
  · cases h0 : vB a b with
    | false =>
      rw [meR_f1 a b c d h0]
      go_enter Try.func20, Try.ntmps20
      go_wp2_with fail
      refine (srefvalid_any _ _ _).mono ?_
      rintro e w1 ⟨rfl, hb⟩
      have s1 := (St.start w).new.new.new.skip _ |>.call hb
      simp only [World.size_alloc] at s1
      obtain ⟨c1, f1, z1, c2, f2, z2, c3, f3, z3, -⟩ := s1.rules
      clear hb
      go_wp2
      exact bodyPost_ret (v := .tuple #[.agg #[.int .i64 0, .int .i64 0], .bool false]) (by simp [results, Try.results20, go_sem, c1]) rfl ⟨rfl, s1.out2⟩
    | true =>
      cases h1 : vB c d with
      | false =>
        rw [meR_f2 a b c d h1]
        go_enter Try.func20, Try.ntmps20
        go_wp2_with fail
        refine (srefvalid_any _ _ _).mono ?_
        rintro e w1 ⟨rfl, hb⟩
        have s1 := (St.start w).new.new.new.skip _ |>.call hb
        simp only [World.size_alloc] at s1
        obtain ⟨c1, f1, z1, c2, f2, z2, c3, f3, z3, -⟩ := s1.rules
        clear hb
        go_wp2_with fail
        refine (srefvalid_any _ _ _).mono ?_
        rintro e w2 ⟨rfl, hb⟩
        have s2 := s1.call hb
        clear hb c1 f1 z1 c2 f2 z2 c3 f3 z3
        obtain ⟨c1, f1, z1, c2, f2, z2, c3, f3, z3, -⟩ := s2.rules
        go_wp2
        exact bodyPost_ret (v := .tuple #[.agg #[.int .i64 0, .int .i64 0], .bool false]) (by simp [results, Try.results20, go_sem, c1]) rfl ⟨rfl, s2.out2⟩
      | true =>
        have HX : Hid (mx a c = c) := mx_lt k1
        have HY : Hid (mn b d = b) := mn_ge k2
        cases h2 : vB c b with
        | false =>
          first | exact absurd (h1.symm.trans h2) (by decide) | exact absurd (h0.symm.trans h2) (by decide) | skip
          all_goals
            rw [meR_no a b c d (by rw [HX.out, HY.out]; exact h2)]
            go_enter Try.func20, Try.ntmps20
            go_wp2_with fail
            refine (srefvalid_any _ _ _).mono ?_
            rintro e w1 ⟨rfl, hb⟩
            have s1 := (St.start w).new.new.new.new.call hb
            simp only [World.size_alloc] at s1
            obtain ⟨c4, f4, z4, c1, f1, z1, c2, f2, z2, c3, f3, z3, -⟩ := s1.rules
            clear hb
            go_wp2_with fail
            refine (srefvalid_any _ _ _).mono ?_
            rintro e w2 ⟨rfl, hb⟩
            have s2 := s1.call hb
            clear hb c1 f1 z1 c2 f2 z2 c3 f3 z3 c4 f4 z4
            obtain ⟨c4, f4, z4, c1, f1, z1, c2, f2, z2, c3, f3, z3, -⟩ := s2.rules
            go_wp2_with fail
            refine (srefvalid_any _ _ _).mono ?_
            rintro e w3 ⟨rfl, hb⟩
            have s3 := s2.call hb
            clear hb c1 f1 z1 c2 f2 z2 c3 f3 z3 c4 f4 z4
            obtain ⟨c4, f4, z4, c1, f1, z1, c2, f2, z2, c3, f3, z3, -⟩ := s3.rules
            go_wp2
            exact bodyPost_ret (v := .tuple #[.agg #[.int .i64 0, .int .i64 0], .bool false]) (by simp [results, Try.results20, go_sem, c1]) rfl ⟨rfl, s3.tail.out2⟩
        | true =>
          rw [meR_ok a b c d (by rw [HX.out, HY.out]; exact h2), HX.out, HY.out]
          go_enter Try.func20, Try.ntmps20
          go_wp2_with fail
          refine (srefvalid_any _ _ _).mono ?_
          rintro e w1 ⟨rfl, hb⟩
          have s1 := (St.start w).new.new.new.new.call hb
          simp only [World.size_alloc] at s1
          obtain ⟨c4, f4, z4, c1, f1, z1, c2, f2, z2, c3, f3, z3, -⟩ := s1.rules
          clear hb
          go_wp2_with fail
          refine (srefvalid_any _ _ _).mono ?_
          rintro e w2 ⟨rfl, hb⟩
          have s2 := s1.call hb
          clear hb c1 f1 z1 c2 f2 z2 c3 f3 z3 c4 f4 z4
          obtain ⟨c4, f4, z4, c1, f1, z1, c2, f2, z2, c3, f3, z3, -⟩ := s2.rules
          go_wp2_with fail
          refine (srefvalid_any _ _ _).mono ?_
          rintro e w3 ⟨rfl, hb⟩
          have s3 := s2.call hb
          clear hb c1 f1 z1 c2 f2 z2 c3 f3 z3 c4 f4 z4
          obtain ⟨c4, f4, z4, c1, f1, z1, c2, f2, z2, c3, f3, z3, -⟩ := s3.rules
          go_wp2
          exact bodyPost_ret (v := .tuple #[.agg #[.int .i64 c, .int .i64 b], .bool true]) (by simp [results, Try.results20, go_sem, c1]) rfl ⟨rfl, s3.tail.out2⟩
  · cases h0 : vB a b with
    | false =>
      rw [meR_f1 a b c d h0]
      go_enter Try.func20, Try.ntmps20
      go_wp2_with fail
      refine (srefvalid_any _ _ _).mono ?_
      rintro e w1 ⟨rfl, hb⟩
      have s1 := (St.start w).new.new.new.skip _ |>.call hb
      simp only [World.size_alloc] at s1
      obtain ⟨c1, f1, z1, c2, f2, z2, c3, f3, z3, -⟩ := s1.rules
      clear hb
      go_wp2
      exact bodyPost_ret (v := .tuple #[.agg #[.int .i64 0, .int .i64 0], .bool false]) (by simp [results, Try.results20, go_sem, c1]) rfl ⟨rfl, s1.out2⟩
    | true =>
      cases h1 : vB c d with
      | false =>
        rw [meR_f2 a b c d h1]
        go_enter Try.func20, Try.ntmps20
        go_wp2_with fail
        refine (srefvalid_any _ _ _).mono ?_
        rintro e w1 ⟨rfl, hb⟩
        have s1 := (St.start w).new.new.new.skip _ |>.call hb
        simp only [World.size_alloc] at s1
        obtain ⟨c1, f1, z1, c2, f2, z2, c3, f3, z3, -⟩ := s1.rules
        clear hb
        go_wp2_with fail
        refine (srefvalid_any _ _ _).mono ?_
        rintro e w2 ⟨rfl, hb⟩
        have s2 := s1.call hb
        clear hb c1 f1 z1 c2 f2 z2 c3 f3 z3
        obtain ⟨c1, f1, z1, c2, f2, z2, c3, f3, z3, -⟩ := s2.rules
        go_wp2
        exact bodyPost_ret (v := .tuple #[.agg #[.int .i64 0, .int .i64 0], .bool false]) (by simp [results, Try.results20, go_sem, c1]) rfl ⟨rfl, s2.out2⟩
      | true =>
        have HX : Hid (mx a c = a) := mx_ge k1
        have HY : Hid (mn b d = d) := mn_lt k2
        cases h2 : vB a d with
        | false =>
          first | exact absurd (h1.symm.trans h2) (by decide) | exact absurd (h0.symm.trans h2) (by decide) | skip
          all_goals
            rw [meR_no a b c d (by rw [HX.out, HY.out]; exact h2)]
            go_enter Try.func20, Try.ntmps20
            go_wp2_with fail
            refine (srefvalid_any _ _ _).mono ?_
            rintro e w1 ⟨rfl, hb⟩
            have s1 := (St.start w).new.new.new.new.call hb
            simp only [World.size_alloc] at s1
            obtain ⟨c4, f4, z4, c1, f1, z1, c2, f2, z2, c3, f3, z3, -⟩ := s1.rules
            clear hb
            go_wp2_with fail
            refine (srefvalid_any _ _ _).mono ?_
            rintro e w2 ⟨rfl, hb⟩
            have s2 := s1.call hb
            clear hb c1 f1 z1 c2 f2 z2 c3 f3 z3 c4 f4 z4
            obtain ⟨c4, f4, z4, c1, f1, z1, c2, f2, z2, c3, f3, z3, -⟩ := s2.rules
            go_wp2_with fail
            refine (srefvalid_any _ _ _).mono ?_
            rintro e w3 ⟨rfl, hb⟩
            have s3 := s2.call hb
            clear hb c1 f1 z1 c2 f2 z2 c3 f3 z3 c4 f4 z4
            obtain ⟨c4, f4, z4, c1, f1, z1, c2, f2, z2, c3, f3, z3, -⟩ := s3.rules
            go_wp2
            exact bodyPost_ret (v := .tuple #[.agg #[.int .i64 0, .int .i64 0], .bool false]) (by simp [results, Try.results20, go_sem, c1]) rfl ⟨rfl, s3.tail.out2⟩
        | true =>
          rw [meR_ok a b c d (by rw [HX.out, HY.out]; exact h2), HX.out, HY.out]
          go_enter Try.func20, Try.ntmps20
          go_wp2_with fail
          refine (srefvalid_any _ _ _).mono ?_
          rintro e w1 ⟨rfl, hb⟩
          have s1 := (St.start w).new.new.new.new.call hb
          simp only [World.size_alloc] at s1
          obtain ⟨c4, f4, z4, c1, f1, z1, c2, f2, z2, c3, f3, z3, -⟩ := s1.rules
          clear hb
          go_wp2_with fail
          refine (srefvalid_any _ _ _).mono ?_
          rintro e w2 ⟨rfl, hb⟩
          have s2 := s1.call hb
          clear hb c1 f1 z1 c2 f2 z2 c3 f3 z3 c4 f4 z4
          obtain ⟨c4, f4, z4, c1, f1, z1, c2, f2, z2, c3, f3, z3, -⟩ := s2.rules
          go_wp2_with fail
          refine (srefvalid_any _ _ _).mono ?_
          rintro e w3 ⟨rfl, hb⟩
          have s3 := s2.call hb
          clear hb c1 f1 z1 c2 f2 z2 c3 f3 z3 c4 f4 z4
          obtain ⟨c4, f4, z4, c1, f1, z1, c2, f2, z2, c3, f3, z3, -⟩ := s3.rules
          go_wp2
          exact bodyPost_ret (v := .tuple #[.agg #[.int .i64 a, .int .i64 d], .bool true]) (by simp [results, Try.results20, go_sem, c1]) rfl ⟨rfl, s3.tail.out2⟩
  · cases h0 : vB a b with
    | false =>
      rw [meR_f1 a b c d h0]
      go_enter Try.func20, Try.ntmps20
      go_wp2_with fail
      refine (srefvalid_any _ _ _).mono ?_
      rintro e w1 ⟨rfl, hb⟩
      have s1 := (St.start w).new.new.new.skip _ |>.call hb
      simp only [World.size_alloc] at s1
      obtain ⟨c1, f1, z1, c2, f2, z2, c3, f3, z3, -⟩ := s1.rules
      clear hb
      go_wp2
      exact bodyPost_ret (v := .tuple #[.agg #[.int .i64 0, .int .i64 0], .bool false]) (by simp [results, Try.results20, go_sem, c1]) rfl ⟨rfl, s1.out2⟩
    | true =>
      cases h1 : vB c d with
      | false =>
        rw [meR_f2 a b c d h1]
        go_enter Try.func20, Try.ntmps20
        go_wp2_with fail
        refine (srefvalid_any _ _ _).mono ?_
        rintro e w1 ⟨rfl, hb⟩
        have s1 := (St.start w).new.new.new.skip _ |>.call hb
        simp only [World.size_alloc] at s1
        obtain ⟨c1, f1, z1, c2, f2, z2, c3, f3, z3, -⟩ := s1.rules
        clear hb
        go_wp2_with fail
        refine (srefvalid_any _ _ _).mono ?_
        rintro e w2 ⟨rfl, hb⟩
        have s2 := s1.call hb
        clear hb c1 f1 z1 c2 f2 z2 c3 f3 z3
        obtain ⟨c1, f1, z1, c2, f2, z2, c3, f3, z3, -⟩ := s2.rules
        go_wp2
        exact bodyPost_ret (v := .tuple #[.agg #[.int .i64 0, .int .i64 0], .bool false]) (by simp [results, Try.results20, go_sem, c1]) rfl ⟨rfl, s2.out2⟩
      | true =>
        have HX : Hid (mx a c = a) := mx_ge k1
        have HY : Hid (mn b d = b) := mn_ge k2
        cases h2 : vB a b with
        | false =>
          first | exact absurd (h1.symm.trans h2) (by decide) | exact absurd (h0.symm.trans h2) (by decide) | skip
          all_goals
            rw [meR_no a b c d (by rw [HX.out, HY.out]; exact h2)]
            go_enter Try.func20, Try.ntmps20
            go_wp2_with fail
            refine (srefvalid_any _ _ _).mono ?_
            rintro e w1 ⟨rfl, hb⟩
            have s1 := (St.start w).new.new.new.new.call hb
            simp only [World.size_alloc] at s1
            obtain ⟨c4, f4, z4, c1, f1, z1, c2, f2, z2, c3, f3, z3, -⟩ := s1.rules
            clear hb
            go_wp2_with fail
            refine (srefvalid_any _ _ _).mono ?_
            rintro e w2 ⟨rfl, hb⟩
            have s2 := s1.call hb
            clear hb c1 f1 z1 c2 f2 z2 c3 f3 z3 c4 f4 z4
            obtain ⟨c4, f4, z4, c1, f1, z1, c2, f2, z2, c3, f3, z3, -⟩ := s2.rules
            go_wp2_with fail
            refine (srefvalid_any _ _ _).mono ?_
            rintro e w3 ⟨rfl, hb⟩
            have s3 := s2.call hb
            clear hb c1 f1 z1 c2 f2 z2 c3 f3 z3 c4 f4 z4
            obtain ⟨c4, f4, z4, c1, f1, z1, c2, f2, z2, c3, f3, z3, -⟩ := s3.rules
            go_wp2
            exact bodyPost_ret (v := .tuple #[.agg #[.int .i64 0, .int .i64 0], .bool false]) (by simp [results, Try.results20, go_sem, c1]) rfl ⟨rfl, s3.tail.out2⟩
        | true =>
          rw [meR_ok a b c d (by rw [HX.out, HY.out]; exact h2), HX.out, HY.out]
          go_enter Try.func20, Try.ntmps20
          go_wp2_with fail
          refine (srefvalid_any _ _ _).mono ?_
          rintro e w1 ⟨rfl, hb⟩
          have s1 := (St.start w).new.new.new.new.call hb
          simp only [World.size_alloc] at s1
          obtain ⟨c4, f4, z4, c1, f1, z1, c2, f2, z2, c3, f3, z3, -⟩ := s1.rules
          clear hb
          go_wp2_with fail
          refine (srefvalid_any _ _ _).mono ?_
          rintro e w2 ⟨rfl, hb⟩
          have s2 := s1.call hb
          clear hb c1 f1 z1 c2 f2 z2 c3 f3 z3 c4 f4 z4
          obtain ⟨c4, f4, z4, c1, f1, z1, c2, f2, z2, c3, f3, z3, -⟩ := s2.rules
          go_wp2_with fail
          refine (srefvalid_any _ _ _).mono ?_
          rintro e w3 ⟨rfl, hb⟩
          have s3 := s2.call hb
          clear hb c1 f1 z1 c2 f2 z2 c3 f3 z3 c4 f4 z4
          obtain ⟨c4, f4, z4, c1, f1, z1, c2, f2, z2, c3, f3, z3, -⟩ := s3.rules
          go_wp2
          exact bodyPost_ret (v := .tuple #[.agg #[.int .i64 a, .int .i64 b], .bool true]) (by simp [results, Try.results20, go_sem, c1]) rfl ⟨rfl, s3.tail.out2⟩
end Go.Proofs.Ytdpfnlefaegmeaa
