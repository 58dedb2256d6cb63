/- The walk of SpanTight: it returns true for every argument that fits its type. -/
import Derived.Test.YtdpfnlefaegmeaaSpnB
import Derived.Test.YtdpfnlefaegmeaaSpnE
import Derived.Test.YtdpfnlefaegmeaaSpnH
import Derived.Deep.RegionHeld3
import Derived.Test.YtdpfnlefaegmeaaHeldQ
import Derived.Deep.DeepCutAuto
namespace Go.Proofs.Ytdpfnlefaegmeaa
open Go.ChangeShapes Go.WideShapes Go.ChangeAt Go.RowKit Go.BigFrame
theorem sholds_is {a b c d : Int} {w : World} {V : Bool} (h : hoB a b c d = V) :
    Calls Try.prog 15 #[.agg #[.int .i64 a, .int .i64 b], .agg #[.int .i64 c, .int .i64 d]] w fun e w' => e = .returned (.bool V) ∧ Below w.heap.size w w' := h ▸ sholds_any a b c d w
theorem svalid_is {a b : Int} {w : World} {V : Bool} (h : vB a b = V) :
    Calls Try.prog 12 #[.agg #[.int .i64 a, .int .i64 b]] w fun e w' => e = .returned (.bool V) ∧ Below w.heap.size w w' := h ▸ svalid_any a b w
theorem ad_cases (a b c d : Int) : (vB a b = true ∧ vB c d = true ∧ I64 (a + c) ∧ I64 (b + d) ∧ adR a b c d = (a + c, b + d, 0)) ∨ adR a b c d = (0, 0, 10) ∨ adR a b c d = (0, 0, 30) := by
  cases h : vB a b with
  | false => exact Or.inr (Or.inr (adR_f1 a b c d h))
  | true =>
    cases g : vB c d with
    | false => exact Or.inr (Or.inr (adR_f2 a b c d g))
    | true =>
      rw [adR_ok a b c d h g]
      by_cases k : I64 (a + c) ∧ I64 (b + d)
      · exact Or.inl ⟨rfl, rfl, k.1, k.2, i2_vals _ _ k.1 k.2⟩
      · exact Or.inr (Or.inl (i2_err _ _ k))
theorem ho_yes {a b c d : Int} (h : hoB a b c d = true) : c ≤ d ∧ a ≤ c ∧ d ≤ b := by simpa [hoB] using h
theorem ho_shift (a b c d x y : Int) (h1 : c ≤ d) (h2 : c + x ≤ d + y) : hoB (a + x) (b + y) (c + x) (d + y) = hoB a b c d := by
  unfold hoB; rw [Bool.eq_iff_iff]; simp; omega
theorem i2_zero {x y X Y : Int} (h : i2 x y = (X, Y, 0)) : I64 x ∧ I64 y ∧ X = x ∧ Y = y := by
  have hb := (i2_both x y).1 (by rw [h])
  rw [i2_vals x y hb.1 hb.2] at h
  cases h
  exact ⟨hb.1, hb.2, rfl, rfl⟩
theorem ti_zero {a b k X Y : Int} (h : tiR a b k = (X, Y, 0)) : vB a b = true ∧ ((k < 0 ∧ I64 (b * k) ∧ I64 (a * k) ∧ X = b * k ∧ Y = a * k) ∨ (¬ k < 0 ∧ I64 (a * k) ∧ I64 (b * k) ∧ X = a * k ∧ Y = b * k)) := by
  cases hv : vB a b with
  | false => rw [tiR_f a b k hv] at h; cases h
  | true =>
    refine ⟨rfl, ?_⟩
    by_cases c : k < 0
    · rw [tiR_neg a b k hv c] at h
      exact Or.inl ⟨c, i2_zero h⟩
    · rw [tiR_pos a b k hv c] at h
      exact Or.inr ⟨c, i2_zero h⟩
theorem ti_odd {a b k X Y X' Y' : Int} (h : tiR a b k = (X, Y, 0)) (g : tiR a b (-k) = (X', Y', 0)) : X = -Y' ∧ Y = -X' ∧ X ≤ Y ∧ I64 X ∧ I64 Y ∧ I64 X' ∧ I64 Y' := by
  obtain ⟨hv, h⟩ := ti_zero h
  obtain ⟨_, g⟩ := ti_zero g
  have hv := vB_yes hv
  rw [Int.mul_neg, Int.mul_neg] at g
  rcases h with ⟨c, i1, i2, rfl, rfl⟩ | ⟨c, i1, i2, rfl, rfl⟩
  · have m := Int.mul_le_mul_of_nonneg_right hv (show 0 ≤ -k by omega)
    rw [Int.mul_neg, Int.mul_neg] at m
    rcases g with ⟨d, _, _, rfl, rfl⟩ | ⟨d, j1, j2, rfl, rfl⟩
    · omega
    · exact ⟨by omega, by omega, by omega, i1, i2, j1, j2⟩
  · have m := Int.mul_le_mul_of_nonneg_right hv (show 0 ≤ k by omega)
    rcases g with ⟨d, j1, j2, rfl, rfl⟩ | ⟨d, j1, j2, rfl, rfl⟩
    · exact ⟨by omega, by omega, by omega, i1, i2, j1, j2⟩
    · have : k = 0 := by omega
      subst this
      simp at *
      exact i1
set_option maxRecDepth 100000 in
set_option maxHeartbeats 20000000 in
theorem spanTight_walk (a b c d p q k : Int) (w : World) (w0 : (Lit.int .i64 a).wf = true) (w1 : (Lit.int .i64 b).wf = true) (w2 : (Lit.int .i64 c).wf = true) (w3 : (Lit.int .i64 d).wf = true) (w4 : (Lit.int .i64 p).wf = true) (w5 : (Lit.int .i64 q).wf = true) (w6 : (Lit.int .i64 k).wf = true) :
    Calls Try.prog 8 #[.agg #[.int .i64 a, .int .i64 b, .int .i64 c, .int .i64 d, .int .i64 p, .int .i64 q, .int .i64 k]] w fun e w' => e = .returned (.bool true) ∧ Below w.heap.size w w' := by
  have ha := I64_of_wf w0
  have hb := I64_of_wf w1
  have hc := I64_of_wf w2
  have hd := I64_of_wf w3
  have hp := I64_of_wf w4
  have hq := I64_of_wf w5
  have hk := I64_of_wf w6
  clear w0 w1 w2 w3 w4 w5 w6
  go_enter Try.func8, Try.ntmps8
  go_upto_region 1 with fail
  go_cut [3, 4, 5, 6] (fun x3 x4 x5 x6 wx => ∃ P Q R : Nat, x3 = .pointer (some ⟨P, 0, none⟩) ∧ x4 = .pointer (some ⟨Q, 0, none⟩) ∧ x5 = .pointer (some ⟨R, 0, none⟩) ∧ x6 = .int .i64 k ∧ St w wx [(P, #[.int .i64 a, .int .i64 b], 23), (Q, #[.int .i64 c, .int .i64 d], 23), (R, #[.int .i64 p, .int .i64 q], 23)])
  case first =>
    go_region_held3 (fun w' => (∀ i, w'.cell? ⟨w.heap.size, i, none⟩ = #[Value.int .i64 a, .int .i64 b, .int .i64 c, .int .i64 d, .int .i64 p, .int .i64 q, .int .i64 k][i]?))
      ((intro i; simp [go_sem, *])) (fail)
    all_goals
      refine (show ∀ a' w', Met _ a' w' → _ from by assumption) _ _ ?_
      go_meet
      exact ⟨_, _, _, rfl, rfl, rfl, rfl, (three_new w _ _ _ _ _ _ _).sub (by simp)⟩
  case rest =>
  obtain ⟨P, Q, R, rfl, rfl, rfl, rfl, s0⟩ := hcut
  obtain ⟨c1, f1, z1, c2, f2, z2, c3, f3, z3, -⟩ := s0.rules
  go_wp2_with fail
  refine (fixed3_any _).mono ?_
  rintro e w1 ⟨rfl, hb'⟩
  have s1 := s0.call hb'
  clear hb' c1 f1 c2 f2 c3 f3
  try simp only [World.size_setCell] at s1
  try simp only [World.size_alloc] at s1
  obtain ⟨c1, f1, zw1_1, c2, f2, zw1_2, c3, f3, zw1_3, -⟩ := s1.rules
  go_wp2_with fail
  refine (sadd_any _ _ _ _ _ ha hb hc hd).mono ?_
  rintro e w2 ⟨rfl, hb'⟩
  have s2 := s1.call hb'
  clear hb' c1 f1 c2 f2 c3 f3
  try simp only [World.size_setCell] at s2
  try simp only [World.size_alloc] at s2
  obtain ⟨c1, f1, zw2_1, c2, f2, zw2_2, c3, f3, zw2_3, -⟩ := s2.rules
  obtain ⟨m1, n1, e1, hi⟩ : ∃ x y e, adR a b c d = (x, y, e) := ⟨_, _, _, rfl⟩
  rw [hi]
  have HA : Hid (adR a b c d = (m1, n1, e1)) := hi
  clear hi
  go_upto_if 34 with fail
  have s3 := s2.new (c := #[.int .i64 m1, .int .i64 n1]) (t := 23)
  clear c1 f1 c2 f2 c3 f3
  obtain ⟨c1, f1, z3_1, c2, f2, z3_2, c3, f3, z3_3, c4, f4, z3_4, -⟩ := s3.rules
  go_cut [] (fun wx => St w wx [(w2.heap.size, #[.int .i64 m1, .int .i64 n1], 23), (P, #[.int .i64 a, .int .i64 b], 23), (Q, #[.int .i64 c, .int .i64 d], 23), (R, #[.int .i64 p, .int .i64 q], 23)])
  case first =>
    rcases ad_cases a b c d with ⟨_, _, i1, i2', h⟩ | h | h
    · have hi := h.symm.trans HA.out
      clear HA h
      cases hi
      have HV : okV (a + c) = a + c := okV_in _ i1
      have HE : okE (a + c) = 0 := okE_in _ i1
      have GV : okV (b + d) = b + d := okV_in _ i2'
      have GE : okE (b + d) = 0 := okE_in _ i2'
      go_wp2_with fail
      refine (add_any _ _ _ ha hc).mono ?_
      rintro e w' ⟨rfl, rfl⟩
      go_wp2_with fail
      refine (add_any _ _ _ hb hd).mono ?_
      rintro e w' ⟨rfl, rfl⟩
      go_wp2_with fail
      go_meet
      exact s3
    all_goals
      have hi := h.symm.trans HA.out
      clear HA h
      cases hi
      go_wp2_with fail
      go_meet
      exact s3
  case rest =>
  rename_i wd
  clear c1 f1 c2 f2 c3 f3 c4 f4
  have s4 := hcut
  clear hcut
  obtain ⟨c1, f1, y4_1, c2, f2, y4_2, c3, f3, y4_3, c4, f4, y4_4, -⟩ := s4.rules
  go_wp2_with fail
  refine (sadd_any _ _ _ _ _ hp hq hc hd).mono ?_
  rintro e w4 ⟨rfl, hb'⟩
  have s4' := s4.call hb'
  clear hb' c1 f1 c2 f2 c3 f3 c4 f4
  try simp only [World.size_setCell] at s4'
  try simp only [World.size_alloc] at s4'
  obtain ⟨c1, f1, zw4_1, c2, f2, zw4_2, c3, f3, zw4_3, c4, f4, zw4_4, -⟩ := s4'.rules
  obtain ⟨m2, n2, e2, hi⟩ : ∃ x y e, adR p q c d = (x, y, e) := ⟨_, _, _, rfl⟩
  rw [hi]
  have HB : Hid (adR p q c d = (m2, n2, e2)) := hi
  clear hi
  go_upto_region 11 with fail
  have s5 := s4'.new (c := #[.int .i64 m2, .int .i64 n2]) (t := 23)
  clear c1 f1 c2 f2 c3 f3 c4 f4
  go_cut [105] (fun x wx => x = .bool false ∧ St w wx [(P, #[.int .i64 a, .int .i64 b], 23)])
  case first =>
    rcases ad_cases a b c d with ⟨v1, v2, i1, i2', h⟩ | h | h
    · have hi := h.symm.trans HA.out
      clear HA h
      cases hi
      have HU := ho_shift a b p q c d
      cases ho : hoB a b p q with
      | true =>
        obtain ⟨o1, o2, o3⟩ := ho_yes ho
        have j1 : I64 (p + c) := by have := vB_yes v2; unfold I64 at *; omega
        have j2 : I64 (q + d) := by have := vB_yes v2; unfold I64 at *; omega
        have hi : (p + c, q + d, 0) = (m2, n2, e2) := by
          rw [← HB.out, adR_ok p q c d (by simp [vB, o1]) v2, i2_vals _ _ j1 j2]
        clear HB
        cases hi
        have g := HU o1 (by have := vB_yes v2; omega)
        rw [ho] at g
        clear HU o1 o2 o3 j1 j2
        obtain ⟨q1, y1, q2, y2, q3, y3, q4, y4, q5, y5, -⟩ := rulesQ w [(w4.heap.size, #[Value.int .i64 (p + c), .int .i64 (q + d)], 23), (w2.heap.size, #[Value.int .i64 (a + c), .int .i64 (b + d)], 23), (P, #[Value.int .i64 a, .int .i64 b], 23), (Q, #[Value.int .i64 c, .int .i64 d], 23), (R, #[Value.int .i64 p, .int .i64 q], 23)]
        have hne := Nonempty.intro (Wd.mk _ s5)
        refine region_held s5 (by kernel_rfl) (by kernel_rfl) ?_
        repeat (go_big_quiet_step (first | (go_at_call 15; exact held_of (sholds_is (by assumption))) | (go_at_call 12; exact held_of (svalid_is (by assumption)))))
        refine wpQuiet_nil ?_
        intro _ hw'
        obtain ⟨nq, rfl⟩ := hw'
        go_wp2_with fail
        go_meet
        exact ⟨rfl, nq.h.sub (by simp)⟩
      | false =>
        rcases ad_cases p q c d with ⟨x1, x2, j1, j2, h'⟩ | h' | h'
        · have hi := h'.symm.trans HB.out
          clear HB h'
          cases hi
          have g := HU (vB_yes x1) (by have := vB_yes v2; have := vB_yes x1; omega)
          rw [ho] at g
          clear HU x1 x2 j1 j2
          obtain ⟨q1, y1, q2, y2, q3, y3, q4, y4, q5, y5, -⟩ := rulesQ w [(w4.heap.size, #[Value.int .i64 (p + c), .int .i64 (q + d)], 23), (w2.heap.size, #[Value.int .i64 (a + c), .int .i64 (b + d)], 23), (P, #[Value.int .i64 a, .int .i64 b], 23), (Q, #[Value.int .i64 c, .int .i64 d], 23), (R, #[Value.int .i64 p, .int .i64 q], 23)]
          have hne := Nonempty.intro (Wd.mk _ s5)
          refine region_held s5 (by kernel_rfl) (by kernel_rfl) ?_
          repeat (go_big_quiet_step (first | (go_at_call 15; exact held_of (sholds_is (by assumption))) | (go_at_call 12; exact held_of (svalid_is (by assumption)))))
          refine wpQuiet_nil ?_
          intro _ hw'
          obtain ⟨nq, rfl⟩ := hw'
          go_wp2_with fail
          go_meet
          exact ⟨rfl, nq.h.sub (by simp)⟩
        all_goals
          have hi := h'.symm.trans HB.out
          clear HB h' HU
          cases hi
          obtain ⟨q1, y1, q2, y2, q3, y3, q4, y4, q5, y5, -⟩ := rulesQ w [(w4.heap.size, #[Value.int .i64 0, .int .i64 0], 23), (w2.heap.size, #[Value.int .i64 (a + c), .int .i64 (b + d)], 23), (P, #[Value.int .i64 a, .int .i64 b], 23), (Q, #[Value.int .i64 c, .int .i64 d], 23), (R, #[Value.int .i64 p, .int .i64 q], 23)]
          have hne := Nonempty.intro (Wd.mk _ s5)
          refine region_held s5 (by kernel_rfl) (by kernel_rfl) ?_
          repeat (go_big_quiet_step (first | (go_at_call 15; exact held_of (sholds_is (by assumption))) | (go_at_call 12; exact held_of (svalid_is (by assumption)))))
          refine wpQuiet_nil ?_
          intro _ hw'
          obtain ⟨nq, rfl⟩ := hw'
          go_wp2_with fail
          go_meet
          exact ⟨rfl, nq.h.sub (by simp)⟩
    all_goals
      have hi := h.symm.trans HA.out
      clear HA h HB
      cases hi
      obtain ⟨q1, y1, q2, y2, q3, y3, q4, y4, q5, y5, -⟩ := rulesQ w [(w4.heap.size, #[Value.int .i64 m2, .int .i64 n2], 23), (w2.heap.size, #[Value.int .i64 0, .int .i64 0], 23), (P, #[Value.int .i64 a, .int .i64 b], 23), (Q, #[Value.int .i64 c, .int .i64 d], 23), (R, #[Value.int .i64 p, .int .i64 q], 23)]
      have hne := Nonempty.intro (Wd.mk _ s5)
      cases ho : hoB a b p q
      all_goals
        refine region_held s5 (by kernel_rfl) (by kernel_rfl) ?_
        repeat (go_big_quiet_step (first | (go_at_call 15; exact held_of (sholds_is (by assumption))) | (go_at_call 12; exact held_of (svalid_is (by assumption)))))
        refine wpQuiet_nil ?_
        intro _ hw'
        obtain ⟨nq, rfl⟩ := hw'
        go_wp2_with fail
        go_meet
        exact ⟨rfl, nq.h.sub (by simp)⟩
  case rest =>
  obtain ⟨rfl, s6⟩ := hcut
  clear HA HB s5 s4' s4 s3 s2 s1 s0
  obtain ⟨c1, f1, y6_1, -⟩ := s6.rules
  go_wp2_with fail
  refine (stimes_any _ _ _ _ ha hb hk).mono ?_
  rintro e w7 ⟨rfl, hb'⟩
  have s7 := s6.call hb'
  clear hb' c1 f1
  try simp only [World.size_setCell] at s7
  try simp only [World.size_alloc] at s7
  obtain ⟨c1, f1, zw7_1, -⟩ := s7.rules
  obtain ⟨X, Y, e3, hi⟩ : ∃ x y e, tiR a b k = (x, y, e) := ⟨_, _, _, rfl⟩
  rw [hi]
  have HA : Hid (tiR a b k = (X, Y, e3)) := hi
  clear hi
  by_cases k0 : k = -9223372036854775808
  · subst k0
    go_wp2_with fail
    refine (stimes_any _ _ _ _ ha hb (by unfold I64 wrap64; omega)).mono ?_
    rintro e w8 ⟨rfl, hb'⟩
    have s8 := s7.new.call hb'
    clear hb' c1 f1
    try simp only [World.size_setCell] at s8
    try simp only [World.size_alloc] at s8
    go_wp2
    go_ret
    exact ⟨rfl, (s8.skip _).below⟩
  · have hk1 : I64 (-k) := by unfold I64 at *; omega
    have hk2 := hk
    obtain ⟨k1, k2⟩ := hk2
    have k3 : -9223372036854775808 < k := by omega
    have kb : (k == -9223372036854775808) = false := by simpa using k0
    clear k0
    go_wp2_with fail
    refine (stimes_any _ _ _ _ ha hb hk1).mono ?_
    rintro e w8 ⟨rfl, hb'⟩
    have s8 := s7.new.call hb'
    clear hb' c1 f1
    try simp only [World.size_setCell] at s8
    try simp only [World.size_alloc] at s8
    obtain ⟨c1, f1, zw8_1, c2, f2, zw8_2, -⟩ := s8.rules
    obtain ⟨X', Y', e4, hi⟩ : ∃ x y e, tiR a b (-k) = (x, y, e) := ⟨_, _, _, rfl⟩
    rw [hi]
    have HB : Hid (tiR a b (-k) = (X', Y', e4)) := hi
    clear hi
    have s9 := s8.new (c := #[.int .i64 X', .int .i64 Y']) (t := 23)
    by_cases h3 : e3 = 0
    · subst h3
      by_cases h4 : e4 = 0
      · subst h4
        obtain ⟨t1, t2, t3, t4, t5, t6, t7⟩ := ti_odd HA.out HB.out
        have T1 : Hid (X = -Y') := t1
        have T2 : Hid (Y = -X') := t2
        obtain ⟨b1, b2⟩ := t4
        obtain ⟨b3, b4⟩ := t5
        obtain ⟨b5, b6⟩ := t6
        obtain ⟨b7, b8⟩ := t7
        have b9 : -Y' ≤ 9223372036854775807 := by omega
        have b10 : -X' ≤ 9223372036854775807 := by omega
        have q1 : (X == -Y') = true := by simpa using t1
        have q2 : (Y == -X') = true := by simpa using t2
        clear t1 t2
        go_wp2
        go_ret
        exact ⟨rfl, s9.below⟩
      · have q4 : (e4 != 0) = true := by simpa using h4
        clear h4
        go_wp2
        go_ret
        exact ⟨rfl, s9.below⟩
    · have q3 : (e3 != 0) = true := by simpa using h3
      clear h3
      go_wp2
      go_ret
      exact ⟨rfl, s9.below⟩
end Go.Proofs.Ytdpfnlefaegmeaa
