/- The small functions of package check: valid, holds, int16s, int32s, errorOfForm, inRegisters. alone and lengthOf of package check. Chan of package check: a plan's error over a span. -/
import Derived.Test.YtgiohlcipndakaaGr01
import Derived.Test.YtgiohlcipndakaaGr04
import Derived.Test.YtgiohlcipndakaaGr09
import Derived.Test.YtgiohlcipndakaaGr24
/- The small functions of package check: valid, holds, int16s, int32s, errorOfForm, inRegisters. -/
namespace Go.Proofs.Ytgiohlcipndakaa
open Go.ChangeShapes Go.WideShapes Go.ChangeAt Go.RowKit
set_option linter.unusedVariables false
theorem kretB {x y : Bool} (h : x = y) : Ending.returned (.bool x) = .returned (.bool y) := by rw [h]
theorem kretI {x y : Int} (h : y = x) : Ending.returned (.int .i64 x) = .returned (.int .i64 y) := by rw [h]
theorem kval_any (a b : Int) (W : World) : Calls Try.prog 50 #[.agg #[.int .i64 a, .int .i64 b]] W fun e w' => e = .returned (.bool (decide (a ≤ b))) ∧ Below W.heap.size W w' := by
  have s0 := (St.start W).new (c := #[.int .i64 a, .int .i64 b]) (t := 28)
  go_enter Try.func50, Try.ntmps50
  go_wp2
  go_ret
  exact ⟨rfl, s0.below⟩
theorem k16_any (W : World) : Calls Try.prog 54 #[] W fun e w' => e = .returned (.agg #[.int .i64 (-32768), .int .i64 32767]) ∧ Below W.heap.size W w' := by
  go_enter Try.func54, Try.ntmps54
  go_wp2
  exact bodyPost_ret (v := .agg #[.int .i64 (-32768), .int .i64 32767]) (by simp [results, Try.results54, go_sem]) rfl ⟨rfl, bal _ _⟩
theorem k32_any (W : World) : Calls Try.prog 53 #[] W fun e w' => e = .returned (.agg #[.int .i64 (-2147483648), .int .i64 2147483647]) ∧ Below W.heap.size W w' := by
  go_enter Try.func53, Try.ntmps53
  go_wp2
  exact bodyPost_ret (v := .agg #[.int .i64 (-2147483648), .int .i64 2147483647]) (by simp [results, Try.results53, go_sem]) rfl ⟨rfl, bal _ _⟩
theorem khol_any (a b c d : Int) (W : World) : Calls Try.prog 37 #[.agg #[.int .i64 a, .int .i64 b], .agg #[.int .i64 c, .int .i64 d]] W fun e w' => e = .returned (.bool (xho a b c d)) ∧ Below W.heap.size W w' := by
  have s0 := ((St.start W).new (c := #[.int .i64 a, .int .i64 b]) (t := 28)).new (c := #[.int .i64 c, .int .i64 d]) (t := 28)
  simp only [World.size_alloc] at s0
  have HV : Hid (∀ w, _) := fun w => kval_any c d w
  by_cases h1 : a ≤ c
  · by_cases h2 : c ≤ d
    · rw [decide_eq_true h2] at HV
      have HR : Hid (decide (d ≤ b) = xho a b c d) := by unfold Hid xho; simp [h1, h2]
      go_enter Try.func37, Try.ntmps37
      go_wp2_with fail
      refine (HV.out _).mono ?_
      rintro e w1 ⟨rfl, hb⟩
      have s1 := s0.call hb
      obtain ⟨c1, f1, z1, c2, f2, z2, -⟩ := s1.rules
      have HB : Hid (Below W.heap.size W w1) := s1.below
      clear hb s0 s1 HV
      go_wp2
      go_ret
      exact ⟨kretB HR.out, HB.out⟩
    · rw [decide_eq_false h2] at HV
      have HR : Hid (false = xho a b c d) := by unfold Hid xho; simp [h2]
      go_enter Try.func37, Try.ntmps37
      go_wp2_with fail
      refine (HV.out _).mono ?_
      rintro e w1 ⟨rfl, hb⟩
      have HB : Hid (Below W.heap.size W w1) := (s0.call hb).below
      clear hb s0 HV
      go_wp2
      go_ret
      exact ⟨kretB HR.out, HB.out⟩
  · have HR : Hid (false = xho a b c d) := by unfold Hid xho; simp [h1]
    go_enter Try.func37, Try.ntmps37
    go_wp2
    go_ret
    exact ⟨kretB HR.out, s0.below⟩
/-- What is wrong with a plan whatever the op's numbers are. -/
def efE (wd dp p1 p2 t1 t2 n : Int) : Int := if ¬ (p1 ≤ p2 ∧ t1 ≤ t2) then 30 else if wd ≠ 16 ∧ wd ≠ 32 then 150 else if dp < 1 ∨ n < dp ∨ (wd = 32 ∧ dp ≠ n) then 151 else 0
theorem efE_0 {wd dp p1 p2 t1 t2 n : Int} (h : efE wd dp p1 p2 t1 t2 n = 0) : (p1 ≤ p2 ∧ t1 ≤ t2) ∧ (wd = 16 ∨ wd = 32) ∧ (1 ≤ dp ∧ dp ≤ n) ∧ (wd = 32 → dp = n) := by
  unfold efE at h
  by_cases q : p1 ≤ p2 ∧ t1 ≤ t2
  · rw [if_neg (fun x => x q)] at h
    by_cases q2 : wd ≠ 16 ∧ wd ≠ 32
    · rw [if_pos q2] at h; omega
    · rw [if_neg q2] at h
      by_cases q3 : dp < 1 ∨ n < dp ∨ (wd = 32 ∧ dp ≠ n)
      · rw [if_pos q3] at h; omega
      · omega
  · rw [if_pos q] at h; omega
theorem efE_of {wd dp p1 p2 t1 t2 n : Int} (h1 : p1 ≤ p2 ∧ t1 ≤ t2) (h2 : wd = 16 ∨ wd = 32) (h3 : 1 ≤ dp ∧ dp ≤ n) (h4 : wd = 32 → dp = n) : efE wd dp p1 p2 t1 t2 n = 0 := by
  unfold efE
  rw [if_neg (fun x => x h1), if_neg (by omega), if_neg (by omega)]
set_option maxHeartbeats 2000000 in
theorem keof_any (wd dp p1 p2 t1 t2 n : Int) (W : World) : Calls Try.prog 34 #[.agg #[.int .i64 wd, .int .i64 dp, .int .i64 p1, .int .i64 p2, .int .i64 t1, .int .i64 t2], .int .i64 n] W fun e w' => e = .returned (.int .i64 (efE wd dp p1 p2 t1 t2 n)) ∧ Below W.heap.size W w' := by
  have s0 := (St.start W).new (c := #[.int .i64 wd, .int .i64 dp, .int .i64 p1, .int .i64 p2, .int .i64 t1, .int .i64 t2]) (t := 30)
  have HV : Hid (∀ w, _) := fun w => kval_any p1 p2 w
  have HT : Hid (∀ w, _) := fun w => kval_any t1 t2 w
  obtain ⟨E, hE⟩ : ∃ E, efE wd dp p1 p2 t1 t2 n = E := ⟨_, rfl⟩
  have HE : Hid (efE wd dp p1 p2 t1 t2 n = E) := hE
  rw [hE]
  clear hE
  by_cases h1 : p1 ≤ p2
  · rw [decide_eq_true h1] at HV
    by_cases h2 : t1 ≤ t2
    · rw [decide_eq_true h2] at HT
      go_enter Try.func34, Try.ntmps34
      go_wp2_with fail
      refine (HV.out _).mono ?_
      rintro e w1 ⟨rfl, hb⟩
      have s1 := s0.call hb
      obtain ⟨c1, f1, z1, -⟩ := s1.rules
      clear hb s0 HV
      go_wp2_with fail
      refine (HT.out _).mono ?_
      rintro e w2 ⟨rfl, hb⟩
      have s2 := s1.call hb
      clear hb s1 HT c1 f1 z1
      obtain ⟨c1, f1, z1, -⟩ := s2.rules
      have HB : Hid (Below W.heap.size W w2) := s2.below
      clear s2
      by_cases a1 : wd = 16
      · subst a1
        by_cases a2 : dp < 1
        · go_wp2
          go_ret
          exact ⟨kretI (by rw [← HE.out]; unfold efE; rw [if_neg (fun x => x ⟨h1, h2⟩), if_neg (by omega), if_pos (by omega)]), HB.out⟩
        · by_cases a3 : n < dp
          · go_wp2
            go_ret
            exact ⟨kretI (by rw [← HE.out]; unfold efE; rw [if_neg (fun x => x ⟨h1, h2⟩), if_neg (by omega), if_pos (by omega)]), HB.out⟩
          · go_wp2
            go_ret
            exact ⟨kretI (by rw [← HE.out, efE_of ⟨h1, h2⟩ (.inl rfl) ⟨by omega, by omega⟩ (by omega)]), HB.out⟩
      · have a1' : (wd == 16) = false := by simp [a1]
        by_cases a5 : wd = 32
        · subst a5
          by_cases a2 : dp < 1
          · go_wp2
            go_ret
            exact ⟨kretI (by rw [← HE.out]; unfold efE; rw [if_neg (fun x => x ⟨h1, h2⟩), if_neg (by omega), if_pos (by omega)]), HB.out⟩
          · by_cases a3 : n < dp
            · go_wp2
              go_ret
              exact ⟨kretI (by rw [← HE.out]; unfold efE; rw [if_neg (fun x => x ⟨h1, h2⟩), if_neg (by omega), if_pos (by omega)]), HB.out⟩
            · by_cases a4 : dp = n
              · subst a4
                go_wp2
                go_ret
                exact ⟨kretI (by rw [← HE.out, efE_of ⟨h1, h2⟩ (.inr rfl) ⟨by omega, by omega⟩ (fun _ => rfl)]), HB.out⟩
              · have a4' : (dp == n) = false := by simp [a4]
                have b4 : (dp != n) = true := by simp [a4]
                go_wp2
                go_ret
                exact ⟨kretI (by rw [← HE.out]; unfold efE; rw [if_neg (fun x => x ⟨h1, h2⟩), if_neg (by omega), if_pos (by omega)]), HB.out⟩
        · have a5' : (wd == 32) = false := by simp [a5]
          have b5 : (wd != 32) = true := by simp [a5]
          have b1 : (wd != 16) = true := by simp [a1]
          go_wp2
          go_ret
          exact ⟨kretI (by rw [← HE.out]; unfold efE; rw [if_neg (fun x => x ⟨h1, h2⟩), if_pos ⟨a1, a5⟩]), HB.out⟩
    · rw [decide_eq_false h2] at HT
      go_enter Try.func34, Try.ntmps34
      go_wp2_with fail
      refine (HV.out _).mono ?_
      rintro e w1 ⟨rfl, hb⟩
      have s1 := s0.call hb
      obtain ⟨c1, f1, z1, -⟩ := s1.rules
      clear hb s0 HV
      go_wp2_with fail
      refine (HT.out _).mono ?_
      rintro e w2 ⟨rfl, hb⟩
      have HB : Hid (Below W.heap.size W w2) := (s1.call hb).below
      clear hb s1 HT c1 f1 z1
      go_wp2
      go_ret
      exact ⟨kretI (by rw [← HE.out]; unfold efE; rw [if_pos (by omega)]), HB.out⟩
  · rw [decide_eq_false h1] at HV
    go_enter Try.func34, Try.ntmps34
    go_wp2_with fail
    refine (HV.out _).mono ?_
    rintro e w1 ⟨rfl, hb⟩
    have HB : Hid (Below W.heap.size W w1) := (s0.call hb).below
    clear hb s0 HV
    go_wp2
    go_ret
    exact ⟨kretI (by rw [← HE.out]; unfold efE; rw [if_pos (by omega)]), HB.out⟩
/-- Do the running sums and what a plan claims fit their registers? -/
def irB (wd p1 p2 t1 t2 r1 r2 : Int) : Bool := xho (-2147483648) 2147483647 r1 r2 && (if wd = 16 then xho (-32768) 32767 p1 p2 else xho (-2147483648) 2147483647 p1 p2) && xho (-2147483648) 2147483647 t1 t2
theorem irB_1 {wd p1 p2 t1 t2 r1 r2 : Int} (h : xho (-2147483648) 2147483647 r1 r2 = false) : irB wd p1 p2 t1 t2 r1 r2 = false := by unfold irB; rw [h]; rfl
theorem irB_2 {wd p1 p2 t1 t2 r1 r2 : Int} (h : (if wd = 16 then xho (-32768) 32767 p1 p2 else xho (-2147483648) 2147483647 p1 p2) = false) : irB wd p1 p2 t1 t2 r1 r2 = false := by unfold irB; rw [h, Bool.and_false]; rfl
theorem irB_3 {wd p1 p2 t1 t2 r1 r2 : Int} (h : xho (-2147483648) 2147483647 r1 r2 = true) (g : (if wd = 16 then xho (-32768) 32767 p1 p2 else xho (-2147483648) 2147483647 p1 p2) = true) : irB wd p1 p2 t1 t2 r1 r2 = xho (-2147483648) 2147483647 t1 t2 := by unfold irB; rw [h, g]; rfl
set_option maxRecDepth 100000 in
set_option maxHeartbeats 4000000 in
theorem kirg_16 (dp p1 p2 t1 t2 r1 r2 : Int) (W : World) : Calls Try.prog 36 #[.agg #[.int .i64 16, .int .i64 dp, .int .i64 p1, .int .i64 p2, .int .i64 t1, .int .i64 t2], .agg #[.int .i64 r1, .int .i64 r2]] W fun e w' => e = .returned (.bool (irB 16 p1 p2 t1 t2 r1 r2)) ∧ Below W.heap.size W w' := by
  have H6 : Hid (∀ w, _) := fun w => k32_any w
  have H16 : Hid (∀ w, _) := fun w => k16_any w
  have HA : Hid (∀ w, _) := fun w => khol_any (-2147483648) 2147483647 r1 r2 w
  have HP : Hid (∀ w, _) := fun w => khol_any (-32768) 32767 p1 p2 w
  have HT : Hid (∀ w, _) := fun w => khol_any (-2147483648) 2147483647 t1 t2 w
  have hif : (if (16 : Int) = 16 then xho (-32768) 32767 p1 p2 else xho (-2147483648) 2147483647 p1 p2) = xho (-32768) 32767 p1 p2 := if_pos rfl
  have s0 := ((St.start W).new (c := #[.int .i64 16, .int .i64 dp, .int .i64 p1, .int .i64 p2, .int .i64 t1, .int .i64 t2]) (t := 30)).new (c := #[.int .i64 r1, .int .i64 r2]) (t := 28)
  simp only [World.size_alloc] at s0
  obtain ⟨B, hB⟩ : ∃ B, irB 16 p1 p2 t1 t2 r1 r2 = B := ⟨_, rfl⟩
  obtain ⟨b1, h1⟩ : ∃ b, xho (-2147483648) 2147483647 r1 r2 = b := ⟨_, rfl⟩
  obtain ⟨b2, h2⟩ : ∃ b, xho (-32768) 32767 p1 p2 = b := ⟨_, rfl⟩
  obtain ⟨b3, h3⟩ : ∃ b, xho (-2147483648) 2147483647 t1 t2 = b := ⟨_, rfl⟩
  have HR1 : Hid (b1 = false → false = B) := fun q => by rw [← hB]; exact (irB_1 (by rw [h1, q])).symm
  have HR2 : Hid (b2 = false → false = B) := fun q => by rw [← hB]; exact (irB_2 (by rw [hif, h2, q])).symm
  have HR3 : Hid (b1 = true → b2 = true → b3 = B) := fun q q' => by rw [← hB, irB_3 (by rw [h1, q]) (by rw [hif, h2, q']), h3]
  rw [h1] at HA
  rw [h2] at HP
  rw [h3] at HT
  rw [hB]
  clear hB hif h1 h2 h3
  go_enter Try.func36, Try.ntmps36
  go_wp2_with fail
  refine (H6.out _).mono ?_
  rintro e w1 ⟨rfl, hb⟩
  have s1 := (s0.call hb).new (c := #[.int .i64 (-2147483648), .int .i64 2147483647]) (t := 28)
  have hz := lt_of_heap (s0.call hb).h1
  clear hb s0
  obtain ⟨c1, f1, z1, c2, f2, z2, c3, f3, z3, -⟩ := s1.rules
  have S1 : Hid (St W _ _) := s1
  clear s1
  go_wp2_with fail
  refine (H16.out _).mono ?_
  rintro e w2 ⟨rfl, hb⟩
  have s2' := S1.out.call hb
  clear hb S1 c1 f1 z1 c2 f2 z2 c3 f3 z3
  obtain ⟨c1, f1, z1, c2, f2, z2, c3, f3, z3, -⟩ := s2'.rules
  have s2 := s2'.set2 (u := .int .i64 (-32768)) (v := .int .i64 32767) (by simp; omega)
  clear s2'
  go_wp2_with fail
  clear H16
  have hne := Nonempty.intro (Wd.mk _ s2)
  obtain ⟨c1, g1, c2, g2, c3, g3, -⟩ := rulesQ_st s2
  cases b1 with
  | false =>
    have hr : Hid (false = B) := HR1.out rfl
    clear HR1 HR2 HR3
    refine region_held s2 (by kernel_rfl) (by kernel_rfl) ?_
    repeat (first
      | (go_big_quiet_step ((go_at_call 53; exact held_of (H6.out _))))
      | (go_big_quiet_step ((go_at_call 37; first | (with_reducible exact held_of (HA.out _)) | (with_reducible exact held_of (HP.out _)) | (with_reducible exact held_of (HT.out _))))))
    refine wpQuiet_nil ?_
    intro _ hw'
    obtain ⟨nq, rfl⟩ := hw'
    have s8 := nq.h
    obtain ⟨w8, hw8⟩ : ∃ w, nq.w = w := ⟨_, rfl⟩
    rw [hw8] at s8 ⊢
    clear c1 g1 c2 g2 c3 g3 hne s2 hw8
    go_wp2
    go_ret
    exact ⟨kretB hr.out, s8.below⟩
  | true =>
    cases b2 with
    | false =>
      have hr : Hid (false = B) := HR2.out rfl
      clear HR1 HR2 HR3
      refine region_held s2 (by kernel_rfl) (by kernel_rfl) ?_
      repeat (first
        | (go_big_quiet_step ((go_at_call 53; exact held_of (H6.out _))))
        | (go_big_quiet_step ((go_at_call 37; first | (with_reducible exact held_of (HA.out _)) | (with_reducible exact held_of (HP.out _)) | (with_reducible exact held_of (HT.out _))))))
      refine wpQuiet_nil ?_
      intro _ hw'
      obtain ⟨nq, rfl⟩ := hw'
      have s8 := nq.h
      obtain ⟨w8, hw8⟩ : ∃ w, nq.w = w := ⟨_, rfl⟩
      rw [hw8] at s8 ⊢
      clear c1 g1 c2 g2 c3 g3 hne s2 hw8
      go_wp2
      go_ret
      exact ⟨kretB hr.out, s8.below⟩
    | true =>
      have hr : Hid (b3 = B) := HR3.out rfl rfl
      clear HR1 HR2 HR3
      refine region_held s2 (by kernel_rfl) (by kernel_rfl) ?_
      repeat (first
        | (go_big_quiet_step ((go_at_call 53; exact held_of (H6.out _))))
        | (go_big_quiet_step ((go_at_call 37; first | (with_reducible exact held_of (HA.out _)) | (with_reducible exact held_of (HP.out _)) | (with_reducible exact held_of (HT.out _))))))
      refine wpQuiet_nil ?_
      intro _ hw'
      obtain ⟨nq, rfl⟩ := hw'
      have s8 := nq.h
      obtain ⟨w8, hw8⟩ : ∃ w, nq.w = w := ⟨_, rfl⟩
      rw [hw8] at s8 ⊢
      clear c1 g1 c2 g2 c3 g3 hne s2 hw8
      go_wp2
      go_ret
      exact ⟨kretB hr.out, s8.below⟩
set_option maxRecDepth 100000 in
set_option maxHeartbeats 4000000 in
theorem kirg_32 (wd dp p1 p2 t1 t2 r1 r2 : Int) (hw : wd ≠ 16) (W : World) : Calls Try.prog 36 #[.agg #[.int .i64 wd, .int .i64 dp, .int .i64 p1, .int .i64 p2, .int .i64 t1, .int .i64 t2], .agg #[.int .i64 r1, .int .i64 r2]] W fun e w' => e = .returned (.bool (irB wd p1 p2 t1 t2 r1 r2)) ∧ Below W.heap.size W w' := by
  have H6 : Hid (∀ w, _) := fun w => k32_any w
  have H16 : Hid (∀ w, _) := fun w => k16_any w
  have HA : Hid (∀ w, _) := fun w => khol_any (-2147483648) 2147483647 r1 r2 w
  have HP : Hid (∀ w, _) := fun w => khol_any (-2147483648) 2147483647 p1 p2 w
  have HT : Hid (∀ w, _) := fun w => khol_any (-2147483648) 2147483647 t1 t2 w
  have hif : (if (wd : Int) = 16 then xho (-32768) 32767 p1 p2 else xho (-2147483648) 2147483647 p1 p2) = xho (-2147483648) 2147483647 p1 p2 := if_neg hw
  have s0 := ((St.start W).new (c := #[.int .i64 wd, .int .i64 dp, .int .i64 p1, .int .i64 p2, .int .i64 t1, .int .i64 t2]) (t := 30)).new (c := #[.int .i64 r1, .int .i64 r2]) (t := 28)
  simp only [World.size_alloc] at s0
  obtain ⟨B, hB⟩ : ∃ B, irB wd p1 p2 t1 t2 r1 r2 = B := ⟨_, rfl⟩
  obtain ⟨b1, h1⟩ : ∃ b, xho (-2147483648) 2147483647 r1 r2 = b := ⟨_, rfl⟩
  obtain ⟨b2, h2⟩ : ∃ b, xho (-2147483648) 2147483647 p1 p2 = b := ⟨_, rfl⟩
  obtain ⟨b3, h3⟩ : ∃ b, xho (-2147483648) 2147483647 t1 t2 = b := ⟨_, rfl⟩
  have HR1 : Hid (b1 = false → false = B) := fun q => by rw [← hB]; exact (irB_1 (by rw [h1, q])).symm
  have HR2 : Hid (b2 = false → false = B) := fun q => by rw [← hB]; exact (irB_2 (by rw [hif, h2, q])).symm
  have HR3 : Hid (b1 = true → b2 = true → b3 = B) := fun q q' => by rw [← hB, irB_3 (by rw [h1, q]) (by rw [hif, h2, q']), h3]
  rw [h1] at HA
  rw [h2] at HP
  rw [h3] at HT
  rw [hB]
  clear hB hif h1 h2 h3
  have hw' : (wd == 16) = false := by simp [hw]
  go_enter Try.func36, Try.ntmps36
  go_wp2_with fail
  refine (H6.out _).mono ?_
  rintro e w1 ⟨rfl, hb⟩
  have s1 := (s0.call hb).new (c := #[.int .i64 (-2147483648), .int .i64 2147483647]) (t := 28)
  have hz := lt_of_heap (s0.call hb).h1
  clear hb s0
  obtain ⟨c1, f1, z1, c2, f2, z2, c3, f3, z3, -⟩ := s1.rules
  have S1 : Hid (St W _ _) := s1
  clear s1
  have s2 := S1.out
  go_wp2_with fail
  clear H16
  have hne := Nonempty.intro (Wd.mk _ s2)
  obtain ⟨c1, g1, c2, g2, c3, g3, -⟩ := rulesQ_st s2
  cases b1 with
  | false =>
    have hr : Hid (false = B) := HR1.out rfl
    clear HR1 HR2 HR3
    refine region_held s2 (by kernel_rfl) (by kernel_rfl) ?_
    repeat (first
      | (go_big_quiet_step ((go_at_call 53; exact held_of (H6.out _))))
      | (go_big_quiet_step ((go_at_call 37; first | (with_reducible exact held_of (HA.out _)) | (with_reducible exact held_of (HP.out _)) | (with_reducible exact held_of (HT.out _))))))
    refine wpQuiet_nil ?_
    intro _ hw'
    obtain ⟨nq, rfl⟩ := hw'
    have s8 := nq.h
    obtain ⟨w8, hw8⟩ : ∃ w, nq.w = w := ⟨_, rfl⟩
    rw [hw8] at s8 ⊢
    clear c1 g1 c2 g2 c3 g3 hne s2 hw8
    go_wp2
    go_ret
    exact ⟨kretB hr.out, s8.below⟩
  | true =>
    cases b2 with
    | false =>
      have hr : Hid (false = B) := HR2.out rfl
      clear HR1 HR2 HR3
      refine region_held s2 (by kernel_rfl) (by kernel_rfl) ?_
      repeat (first
        | (go_big_quiet_step ((go_at_call 53; exact held_of (H6.out _))))
        | (go_big_quiet_step ((go_at_call 37; first | (with_reducible exact held_of (HA.out _)) | (with_reducible exact held_of (HP.out _)) | (with_reducible exact held_of (HT.out _))))))
      refine wpQuiet_nil ?_
      intro _ hw'
      obtain ⟨nq, rfl⟩ := hw'
      have s8 := nq.h
      obtain ⟨w8, hw8⟩ : ∃ w, nq.w = w := ⟨_, rfl⟩
      rw [hw8] at s8 ⊢
      clear c1 g1 c2 g2 c3 g3 hne s2 hw8
      go_wp2
      go_ret
      exact ⟨kretB hr.out, s8.below⟩
    | true =>
      have hr : Hid (b3 = B) := HR3.out rfl rfl
      clear HR1 HR2 HR3
      refine region_held s2 (by kernel_rfl) (by kernel_rfl) ?_
      repeat (first
        | (go_big_quiet_step ((go_at_call 53; exact held_of (H6.out _))))
        | (go_big_quiet_step ((go_at_call 37; first | (with_reducible exact held_of (HA.out _)) | (with_reducible exact held_of (HP.out _)) | (with_reducible exact held_of (HT.out _))))))
      refine wpQuiet_nil ?_
      intro _ hw'
      obtain ⟨nq, rfl⟩ := hw'
      have s8 := nq.h
      obtain ⟨w8, hw8⟩ : ∃ w, nq.w = w := ⟨_, rfl⟩
      rw [hw8] at s8 ⊢
      clear c1 g1 c2 g2 c3 g3 hne s2 hw8
      go_wp2
      go_ret
      exact ⟨kretB hr.out, s8.below⟩
theorem kirg_any (wd dp p1 p2 t1 t2 r1 r2 : Int) (W : World) : Calls Try.prog 36 #[.agg #[.int .i64 wd, .int .i64 dp, .int .i64 p1, .int .i64 p2, .int .i64 t1, .int .i64 t2], .agg #[.int .i64 r1, .int .i64 r2]] W fun e w' => e = .returned (.bool (irB wd p1 p2 t1 t2 r1 r2)) ∧ Below W.heap.size W w' := by
  by_cases h : wd = 16
  · subst h; exact kirg_16 dp p1 p2 t1 t2 r1 r2 W
  · exact kirg_32 wd dp p1 p2 t1 t2 r1 r2 h W
end Go.Proofs.Ytgiohlcipndakaa

/- alone and lengthOf of package check. -/
namespace Go.Proofs.Ytgiohlcipndakaa
open Go.ChangeShapes Go.WideShapes Go.ChangeAt Go.RowKit
set_option linter.unusedVariables false
set_option maxRecDepth 100000 in
set_option maxHeartbeats 16000000 in
theorem kalo_r (h w c lo hi ot : Int) (x : Addr) (on oc i : Nat) (O : Nat → Nat → Int) (W : World) (hM : MRow W (some x) on oc O) (hi0 : i < on) (wa : Option Addr) (lw cw : Nat) (ba : Option Addr) (lb cb : Nat)
    (hcell : ∀ q v, [.int .i64 (O i 0), .int .i64 (O i 1), .int .i64 (O i 2), .int .i64 (O i 3), .int .i64 (O i 4), .int .i64 (O i 5), .int .i64 (O i 6), .int .i64 (O i 7), .int .i64 (O i 8), .int .i64 (O i 9), .int .i64 (O i 10), .int .i64 (O i 11), .slice wa lw cw, .slice ba lb cb, .int .i64 (O i 14), .int .i64 (O i 15), .int .i64 (O i 16), .int .i64 (O i 17), .int .i64 (O i 18), .int .i64 (O i 19), .int .i64 (O i 20), .int .i64 (O i 21)][q]? = some v → W.cell? ((x.add (i * 22)).add q) = some v) (Rw : Int) (RL : List (Int × Int × Int)) (hR : gtR O h w c lo hi ot on = (0, 0, RL, Rw)) (hj0 : 0 ≤ O i 1) (hj1 : O i 1 ≤ (i : Int))
    (x0 y0 z0 : Int) (hA : RL.getD (O i 1).toNat (0, 0, 0) = (x0, y0, z0)) :
    Calls Try.prog 52 #[.agg #[.int .i64 h, .int .i64 w, .int .i64 c, .int .i64 lo, .int .i64 hi, .slice (some x) on oc, .int .i64 ot], .int .i64 ((i : Int) + 1)] W fun e w' => ∃ g0, e = .returned (.agg #[.int .i64 x0, .int .i64 y0, .int .i64 z0, .int .i64 0, .int .i64 0, .slice (some ⟨g0, 0, none⟩) 1 1, .int .i64 0]) ∧ w'.heap[g0]? = some (.cells #[.int .i64 (O i 0), .int .i64 0, .int .i64 (O i 2), .int .i64 (O i 3), .int .i64 (O i 4), .int .i64 (O i 5), .int .i64 (O i 6), .int .i64 (O i 7), .int .i64 (O i 8), .int .i64 (O i 9), .int .i64 (O i 10), .int .i64 (O i 11), .slice wa lw cw, .slice ba lb cb, .int .i64 (O i 14), .int .i64 (O i 15), .int .i64 (O i 16), .int .i64 (O i 17), .int .i64 (O i 18), .int .i64 (O i 19), .int .i64 (O i 20), .int .i64 (O i 21)] 59 (0, 0)) ∧ W.heap.size ≤ g0 ∧ Below W.heap.size W w' := by
  have hS : Hid (∀ W, MRow W (some x) on oc O → _) := fun W hW => shapes_any h w c lo hi ot (some x) on oc O W hW
  rw [hR] at hS
  simp only at hS
  obtain ⟨-, hRl, ho64, -, -, -⟩ := gtR_ok hR
  have hM2 : Hid (MRow W (some x) on oc O) := hM
  have hocm := hM.1
  have hocx := hM.2.1
  unfold maxLen at hocx
  have Hc : Hid (∀ q v, [.int .i64 (O i 0), .int .i64 (O i 1), .int .i64 (O i 2), .int .i64 (O i 3), .int .i64 (O i 4), .int .i64 (O i 5), .int .i64 (O i 6), .int .i64 (O i 7), .int .i64 (O i 8), .int .i64 (O i 9), .int .i64 (O i 10), .int .i64 (O i 11), .slice wa lw cw, .slice ba lb cb, .int .i64 (O i 14), .int .i64 (O i 15), .int .i64 (O i 16), .int .i64 (O i 17), .int .i64 (O i 18), .int .i64 (O i 19), .int .i64 (O i 20), .int .i64 (O i 21)][q]? = some v → W.cell? ((x.add (i * 22)).add q) = some v) := hcell
  have s0 := ((St.start W).new (c := #[.int .i64 h, .int .i64 w, .int .i64 c, .int .i64 lo, .int .i64 hi, .slice (some x) on oc, .int .i64 ot]) (t := 26)).new (c := #[.int .i64 0, .int .i64 0, .int .i64 0, .int .i64 0, .int .i64 0, .slice none 0 0, .int .i64 0]) (t := 26)
  simp only [World.size_alloc] at s0
  clear hR hM hcell
  go_enter Try.func52, Try.ntmps52
  go_wp2_with fail
  refine Calls.mono (hS.out _ (hM2.out.below s0.below)) ?_
  rintro e w3 ⟨v, rfl, hSh, hb⟩
  have s3 := (s0.call hb).new (c := #[.int .i64 0, .int .i64 0, .int .i64 0]) (t := 86)
  have hz23 := lt_of_heap (s0.call hb).h1
  have HZ3 : Hid (W.heap.size + 1 < w3.heap.size) := hz23
  have hz23 := hb.size
  obtain ⟨g, cap, cur, rfl, hgb, hgc, hCu⟩ : ∃ g cap cur, v = .slice (some ⟨g, 0, none⟩) (on + 1) cap ∧ W.heap.size ≤ g ∧ w3.heap[g]? = some (.cells cur 23 (0, 0)) ∧ Cu cur cap RL := by
    rcases hSh with ⟨-, q⟩ | ⟨g, cap, cur, q1, q2, q3, q4, -⟩
    · rw [q] at hRl; simp at hRl
    · exact ⟨g, cap, cur, by rw [q1, hRl], by simp at q2; omega, q3, q4⟩
  have hcap := hCu.2.1
  obtain ⟨a1, a2, a3⟩ := hCu.at (show (O i 1).toNat < RL.length by omega)
  rw [hA] at a1 a2 a3
  simp only at a1 a2 a3
  have hgz := lt_of_heap hgc
  have hgc2 : Hid ((w3.alloc (.cells #[.int .i64 0, .int .i64 0, .int .i64 0] 86)).heap[g]? = some (.cells cur 23 (0, 0))) := (heap_alloc_old w3 _ hgz).trans hgc
  obtain ⟨c1, f1, z1, c2, f2, z2, -⟩ := (s0.call hb).rules
  clear hb hSh hCu hgc hS hM2 s0 c1 f1 c2 f2
  go_upto_region 2 with fail
  obtain ⟨B6, hB6⟩ : ∃ B, w3.heap.size = B := ⟨_, rfl⟩
  obtain ⟨w4, hw4⟩ : ∃ w4, w3.alloc (.cells #[.int .i64 0, .int .i64 0, .int .i64 0] 86) = w4 := ⟨_, rfl⟩
  rw [hB6] at HZ3
  rw [hB6, hw4] at s3
  rw [hw4] at hgc2 ⊢
  have hz4 : w4.heap.size = B6 + 1 := by rw [← hw4, ← hB6]; simp
  have S4 : Hid (St W w4 _) := s3
  have HC4 : Hid (∀ q v, [.int .i64 (O i 0), .int .i64 (O i 1), .int .i64 (O i 2), .int .i64 (O i 3), .int .i64 (O i 4), .int .i64 (O i 5), .int .i64 (O i 6), .int .i64 (O i 7), .int .i64 (O i 8), .int .i64 (O i 9), .int .i64 (O i 10), .int .i64 (O i 11), .slice wa lw cw, .slice ba lb cb, .int .i64 (O i 14), .int .i64 (O i 15), .int .i64 (O i 16), .int .i64 (O i 17), .int .i64 (O i 18), .int .i64 (O i 19), .int .i64 (O i 20), .int .i64 (O i 21)][q]? = some v → w4.cell? ((x.add (i * 22)).add q) = some v) := fun q v hq => (s3.below.cell (World.block_lt_of_cell? W _ (Hc.out q v hq))).trans (Hc.out q v hq)
  clear z1 z2 hw4 s3 Hc
  obtain ⟨c1, f1, z1, c2, f2, z2, c3, f3, z3, -⟩ := S4.out.rules
  clear c1 f1 c2 f2 f3
  obtain ⟨vo, hvo⟩ : ∃ vo, Value.agg #[.int .i64 (O i 0), .int .i64 (O i 1), .int .i64 (O i 2), .int .i64 (O i 3), .int .i64 (O i 4), .int .i64 (O i 5), .int .i64 (O i 6), .int .i64 (O i 7), .int .i64 (O i 8), .int .i64 (O i 9), .int .i64 (O i 10), .int .i64 (O i 11), .slice wa lw cw, .slice ba lb cb, .int .i64 (O i 14), .int .i64 (O i 15), .int .i64 (O i 16), .int .i64 (O i 17), .int .i64 (O i 18), .int .i64 (O i 19), .int .i64 (O i 20), .int .i64 (O i 21)] = vo := ⟨_, rfl⟩
  have HVO : Hid (Value.agg #[.int .i64 (O i 0), .int .i64 (O i 1), .int .i64 (O i 2), .int .i64 (O i 3), .int .i64 (O i 4), .int .i64 (O i 5), .int .i64 (O i 6), .int .i64 (O i 7), .int .i64 (O i 8), .int .i64 (O i 9), .int .i64 (O i 10), .int .i64 (O i 11), .slice wa lw cw, .slice ba lb cb, .int .i64 (O i 14), .int .i64 (O i 15), .int .i64 (O i 16), .int .i64 (O i 17), .int .i64 (O i 18), .int .i64 (O i 19), .int .i64 (O i 20), .int .i64 (O i 21)] = vo) := hvo
  have s5 := S4.out.new (c := #[.int .i64 (O i 0), .int .i64 (O i 1), .int .i64 (O i 2), .int .i64 (O i 3), .int .i64 (O i 4), .int .i64 (O i 5), .int .i64 (O i 6), .int .i64 (O i 7), .int .i64 (O i 8), .int .i64 (O i 9), .int .i64 (O i 10), .int .i64 (O i 11), .slice wa lw cw, .slice ba lb cb, .int .i64 (O i 14), .int .i64 (O i 15), .int .i64 (O i 16), .int .i64 (O i 17), .int .i64 (O i 18), .int .i64 (O i 19), .int .i64 (O i 20), .int .i64 (O i 21)]) (t := 59)
  have hgc5 : Hid ((w4.alloc (.cells #[.int .i64 (O i 0), .int .i64 (O i 1), .int .i64 (O i 2), .int .i64 (O i 3), .int .i64 (O i 4), .int .i64 (O i 5), .int .i64 (O i 6), .int .i64 (O i 7), .int .i64 (O i 8), .int .i64 (O i 9), .int .i64 (O i 10), .int .i64 (O i 11), .slice wa lw cw, .slice ba lb cb, .int .i64 (O i 14), .int .i64 (O i 15), .int .i64 (O i 16), .int .i64 (O i 17), .int .i64 (O i 18), .int .i64 (O i 19), .int .i64 (O i 20), .int .i64 (O i 21)] 59)).heap[g]? = some (.cells cur 23 (0, 0))) := (heap_alloc_old w4 _ (lt_of_heap hgc2.out)).trans hgc2.out
  go_upto_region 3 with ((refine wpList_load_any rfl 59 (.tmp 18) rfl (x.add (i * 22)) rfl [.int .i64 (O i 0), .int .i64 (O i 1), .int .i64 (O i 2), .int .i64 (O i 3), .int .i64 (O i 4), .int .i64 (O i 5), .int .i64 (O i 6), .int .i64 (O i 7), .int .i64 (O i 8), .int .i64 (O i 9), .int .i64 (O i 10), .int .i64 (O i 11), .slice wa lw cw, .slice ba lb cb, .int .i64 (O i 14), .int .i64 (O i 15), .int .i64 (O i 16), .int .i64 (O i 17), .int .i64 (O i 18), .int .i64 (O i 19), .int .i64 (O i 20), .int .i64 (O i 21)] _ HC4.out Try.underlying59 rfl (by kernel_rfl) ?_; (show wpList _ _ _ _ (Act.put _ _ (Value.agg #[.int .i64 (O i 0), .int .i64 (O i 1), .int .i64 (O i 2), .int .i64 (O i 3), .int .i64 (O i 4), .int .i64 (O i 5), .int .i64 (O i 6), .int .i64 (O i 7), .int .i64 (O i 8), .int .i64 (O i 9), .int .i64 (O i 10), .int .i64 (O i 11), .slice wa lw cw, .slice ba lb cb, .int .i64 (O i 14), .int .i64 (O i 15), .int .i64 (O i 16), .int .i64 (O i 17), .int .i64 (O i 18), .int .i64 (O i 19), .int .i64 (O i 20), .int .i64 (O i 21)])) _); rw [hvo]; clear hvo; refine wl1 rfl (some 7) rfl (.pointer (some ⟨w4.heap.size, 0, none⟩)) (w4.alloc (.cells #[.int .i64 0, .int .i64 0, .int .i64 0, .int .i64 0, .int .i64 0, .int .i64 0, .int .i64 0, .int .i64 0, .int .i64 0, .int .i64 0, .int .i64 0, .int .i64 0, .slice none 0 0, .slice none 0 0, .int .i64 0, .int .i64 0, .int .i64 0, .int .i64 0, .int .i64 0, .int .i64 0, .int .i64 0, .int .i64 0] 59)) (by kernel_rfl) ?_; refine wpList_st_new rfl 59 (.tmp 7) (.tmp 19) rfl w4 #[.int .i64 0, .int .i64 0, .int .i64 0, .int .i64 0, .int .i64 0, .int .i64 0, .int .i64 0, .int .i64 0, .int .i64 0, .int .i64 0, .int .i64 0, .int .i64 0, .slice none 0 0, .slice none 0 0, .int .i64 0, .int .i64 0, .int .i64 0, .int .i64 0, .int .i64 0, .int .i64 0, .int .i64 0, .int .i64 0] #[.int .i64 (O i 0), .int .i64 (O i 1), .int .i64 (O i 2), .int .i64 (O i 3), .int .i64 (O i 4), .int .i64 (O i 5), .int .i64 (O i 6), .int .i64 (O i 7), .int .i64 (O i 8), .int .i64 (O i 9), .int .i64 (O i 10), .int .i64 (O i 11), .slice wa lw cw, .slice ba lb cb, .int .i64 (O i 14), .int .i64 (O i 15), .int .i64 (O i 16), .int .i64 (O i 17), .int .i64 (O i 18), .int .i64 (O i 19), .int .i64 (O i 20), .int .i64 (O i 21)] (by kernel_rfl) (Eq.trans (by kernel_rfl : _ = vo) HVO.out.symm) (by kernel_rfl) rfl (by simp [Value.oneCell']) ?_; (obtain ⟨w5, hw5⟩ : ∃ w5, w4.alloc (.cells #[.int .i64 (O i 0), .int .i64 (O i 1), .int .i64 (O i 2), .int .i64 (O i 3), .int .i64 (O i 4), .int .i64 (O i 5), .int .i64 (O i 6), .int .i64 (O i 7), .int .i64 (O i 8), .int .i64 (O i 9), .int .i64 (O i 10), .int .i64 (O i 11), .slice wa lw cw, .slice ba lb cb, .int .i64 (O i 14), .int .i64 (O i 15), .int .i64 (O i 16), .int .i64 (O i 17), .int .i64 (O i 18), .int .i64 (O i 19), .int .i64 (O i 20), .int .i64 (O i 21)] 59) = w5 := ⟨_, rfl⟩); rw [hw5] at s5 hgc5 ⊢; have hz5 : w5.heap.size = B6 + 1 + 1 := (by rw [← hw5, World.size_alloc, hz4]); clear hw5))
  obtain ⟨B7, hB7⟩ : ∃ B, w4.heap.size = B := ⟨_, rfl⟩
  rw [hB7] at s5 ⊢
  have hB7' : B7 = B6 + 1 := by omega
  have HZ7 : Hid (B7 = B6 + 1) := hB7'
  clear hz4 hB6
  have S5 : Hid (St W w5 _) := s5
  clear s5 S4 hgc2 HC4 c3 z1 z2 z3 hB7 hB7'
  obtain ⟨c1, f1, z1, -⟩ := S5.out.rules
  have a1' : w5.cell? ⟨g, (O i 1).toNat * 3, none⟩ = some (.int .i64 x0) := by rw [(cells_at hgc5.out).1]; exact a1
  have a2' : w5.cell? ⟨g, (O i 1).toNat * 3 + 1, none⟩ = some (.int .i64 y0) := by rw [(cells_at hgc5.out).1]; exact a2
  have a3' : w5.cell? ⟨g, (O i 1).toNat * 3 + 2, none⟩ = some (.int .i64 z0) := by rw [(cells_at hgc5.out).1]; exact a3
  clear a1 a2 a3
  have s6 := S5.out.new (c := #[.int .i64 x0, .int .i64 y0, .int .i64 z0]) (t := 23)
  go_upto_region 4 with fail
  rw [hz5] at s6
  obtain ⟨w6, hw6⟩ : ∃ w6, w5.alloc (.cells #[.int .i64 x0, .int .i64 y0, .int .i64 z0] 23) = w6 := ⟨_, rfl⟩
  obtain ⟨B8, hB8⟩ : ∃ B, B6 + 1 + 1 = B := ⟨_, rfl⟩
  rw [hw6, hB8] at s6
  rw [hw6, hB8]
  have h78 : B7 ≠ B8 := by have := HZ7.out; omega
  have hlt := lt_of_heap S5.out.h1
  have hne : ∀ y ∈ (B8, #[.int .i64 x0, .int .i64 y0, .int .i64 z0], 23) :: (B6, #[.int .i64 0, .int .i64 0, .int .i64 0], 86) :: (W.heap.size + 1, #[.int .i64 0, .int .i64 0, .int .i64 0, .int .i64 0, .int .i64 0, .slice none 0 0, .int .i64 0], 26) :: (W.heap.size, #[.int .i64 h, .int .i64 w, .int .i64 c, .int .i64 lo, .int .i64 hi, .slice (some x) on oc, .int .i64 ot], 26) :: ([] : List (Nat × Array Value × TypeId)), y.1 ≠ B7 := by
    have := HZ7.out
    have := HZ3.out
    simp
    omega
  clear c1 f1 z1 a1' a2' a3' hw6
  obtain ⟨c1, f1, z1, -⟩ := s6.up1.rules
  have s7 := s6.up1.seti (i := 1) (v := .int .i64 0) hne #[.int .i64 (O i 0), .int .i64 0, .int .i64 (O i 2), .int .i64 (O i 3), .int .i64 (O i 4), .int .i64 (O i 5), .int .i64 (O i 6), .int .i64 (O i 7), .int .i64 (O i 8), .int .i64 (O i 9), .int .i64 (O i 10), .int .i64 (O i 11), .slice wa lw cw, .slice ba lb cb, .int .i64 (O i 14), .int .i64 (O i 15), .int .i64 (O i 16), .int .i64 (O i 17), .int .i64 (O i 18), .int .i64 (O i 19), .int .i64 (O i 20), .int .i64 (O i 21)] (by kernel_rfl)
  clear s6 S5 hgc5
  go_upto_region 5 with fail
  obtain ⟨w7, hw7⟩ : ∃ w7, w6.setCell ⟨B7, 1, none⟩ (.int .i64 0) = w7 := ⟨_, rfl⟩
  rw [hw7] at s7 ⊢
  have h1 := s7.h1
  have h2 := s7.h2
  have hm7 := lt_of_heap s7.h4
  have s8 := s7.new (c := #[.int .i64 (O i 0), .int .i64 0, .int .i64 (O i 2), .int .i64 (O i 3), .int .i64 (O i 4), .int .i64 (O i 5), .int .i64 (O i 6), .int .i64 (O i 7), .int .i64 (O i 8), .int .i64 (O i 9), .int .i64 (O i 10), .int .i64 (O i 11), .slice wa lw cw, .slice ba lb cb, .int .i64 (O i 14), .int .i64 (O i 15), .int .i64 (O i 16), .int .i64 (O i 17), .int .i64 (O i 18), .int .i64 (O i 19), .int .i64 (O i 20), .int .i64 (O i 21)]) (t := 59)
  have hm := s8.tail.h4
  have s9 := (s8.sub (l' := [(W.heap.size + 1, #[.int .i64 0, .int .i64 0, .int .i64 0, .int .i64 0, .int .i64 0, .slice none 0 0, .int .i64 0], 26), (w7.heap.size, #[.int .i64 (O i 0), .int .i64 0, .int .i64 (O i 2), .int .i64 (O i 3), .int .i64 (O i 4), .int .i64 (O i 5), .int .i64 (O i 6), .int .i64 (O i 7), .int .i64 (O i 8), .int .i64 (O i 9), .int .i64 (O i 10), .int .i64 (O i 11), .slice wa lw cw, .slice ba lb cb, .int .i64 (O i 14), .int .i64 (O i 15), .int .i64 (O i 16), .int .i64 (O i 17), .int .i64 (O i 18), .int .i64 (O i 19), .int .i64 (O i 20), .int .i64 (O i 21)], 59)]) (fun y hy => by simp only [List.mem_cons, List.not_mem_nil, or_false] at hy ⊢; rcases hy with rfl | rfl <;> simp)).rowset (c' := #[.int .i64 x0, .int .i64 y0, .int .i64 z0, .int .i64 0, .int .i64 0, .slice (some ⟨w7.heap.size, 0, none⟩) 1 1, .int .i64 0]) (by simp; omega)
  obtain ⟨cF, -⟩ := s9.rules
  have HB : Hid (St W _ _) := s9
  have hsz : W.heap.size ≤ w7.heap.size := s7.size
  clear c1 f1 z1 hw7 s7 s8 s9 hne
  go_wp2_with (first
    | (refine wpList_load_row rfl 23 (.tmp 8) rfl _ rfl 23 _ (0, 0) _ h2 Try.underlying23 rfl (by kernel_rfl) ?_)
    | (refine wpList_load_row rfl 59 (.tmp 7) rfl _ rfl 59 _ (0, 0) _ h1 Try.underlying59 rfl (by kernel_rfl) ?_)
    | (refine wpList_store_row rfl 26 (.tmp 4) (.tmp 29) rfl (W.heap.size + 1) #[.int .i64 x0, .int .i64 y0, .int .i64 z0, .int .i64 0, .int .i64 0, .slice (some ⟨w7.heap.size, 0, none⟩) 1 1, .int .i64 0] (by kernel_rfl) (by kernel_rfl) 26 #[.int .i64 0, .int .i64 0, .int .i64 0, .int .i64 0, .int .i64 0, .slice none 0 0, .int .i64 0] hm (by kernel_rfl) rfl (by simp [Value.oneCell']) ?_))
  exact bodyPost_ret (v := .agg #[.int .i64 x0, .int .i64 y0, .int .i64 z0, .int .i64 0, .int .i64 0, .slice (some ⟨w7.heap.size, 0, none⟩) 1 1, .int .i64 0]) (by simp [results, Try.results52, go_sem, cF]) rfl ⟨w7.heap.size, rfl, HB.out.h2, hsz, HB.out.below⟩
set_option maxRecDepth 100000 in
set_option maxHeartbeats 16000000 in
theorem klen_r (h w c lo hi ot : Int) (x : Addr) (on oc i : Nat) (O : Nat → Nat → Int) (W : World) (hM : MRow W (some x) on oc O) (hi0 : i < on) (wa : Option Addr) (lw cw : Nat) (ba : Option Addr) (lb cb : Nat)
    (Rw : Int) (RL : List (Int × Int × Int)) (hR : gtR O h w c lo hi ot on = (0, 0, RL, Rw)) (x0 y0 z0 H V C : Int) (hB : RL.getD (i + 1) (0, 0, 0) = (H, V, C)) (hH : 1 ≤ H ∧ H ≤ 1048576) (hHV : 1 ≤ H * V ∧ H * V ≤ 1048576) (hHVC : 1 ≤ H * V * C ∧ H * V * C ≤ 1048576) (N : Nat) (hN : N ≤ 512)
    (hAl : ∀ W', Below W.heap.size W W' → Calls Try.prog 52 #[.agg #[.int .i64 h, .int .i64 w, .int .i64 c, .int .i64 lo, .int .i64 hi, .slice (some x) on oc, .int .i64 ot], .int .i64 ((i : Int) + 1)] W' fun e w' => ∃ g0, e = .returned (.agg #[.int .i64 x0, .int .i64 y0, .int .i64 z0, .int .i64 0, .int .i64 0, .slice (some ⟨g0, 0, none⟩) 1 1, .int .i64 0]) ∧ w'.heap[g0]? = some (.cells #[.int .i64 (O i 0), .int .i64 0, .int .i64 (O i 2), .int .i64 (O i 3), .int .i64 (O i 4), .int .i64 (O i 5), .int .i64 (O i 6), .int .i64 (O i 7), .int .i64 (O i 8), .int .i64 (O i 9), .int .i64 (O i 10), .int .i64 (O i 11), .slice wa lw cw, .slice ba lb cb, .int .i64 (O i 14), .int .i64 (O i 15), .int .i64 (O i 16), .int .i64 (O i 17), .int .i64 (O i 18), .int .i64 (O i 19), .int .i64 (O i 20), .int .i64 (O i 21)] 59 (0, 0)) ∧ W'.heap.size ≤ g0 ∧ Below W'.heap.size W' w')
    (hWk : ∀ W' (g0 : Nat), Below W.heap.size W W' → W'.heap[g0]? = some (.cells #[.int .i64 (O i 0), .int .i64 0, .int .i64 (O i 2), .int .i64 (O i 3), .int .i64 (O i 4), .int .i64 (O i 5), .int .i64 (O i 6), .int .i64 (O i 7), .int .i64 (O i 8), .int .i64 (O i 9), .int .i64 (O i 10), .int .i64 (O i 11), .slice wa lw cw, .slice ba lb cb, .int .i64 (O i 14), .int .i64 (O i 15), .int .i64 (O i 16), .int .i64 (O i 17), .int .i64 (O i 18), .int .i64 (O i 19), .int .i64 (O i 20), .int .i64 (O i 21)] 59 (0, 0)) → Calls Try.prog 51 #[.agg #[.int .i64 x0, .int .i64 y0, .int .i64 z0, .int .i64 0, .int .i64 0, .slice (some ⟨g0, 0, none⟩) 1 1, .int .i64 0]] W' fun e w' => e = .returned (.tuple #[.int .i64 (H * V * C * (N : Int)), .agg #[.int .i64 0, .int .i64 0, .int .i64 0]]) ∧ Below W'.heap.size W' w') :
    Calls Try.prog 35 #[.agg #[.int .i64 h, .int .i64 w, .int .i64 c, .int .i64 lo, .int .i64 hi, .slice (some x) on oc, .int .i64 ot], .int .i64 ((i : Int) + 1)] W fun e w' => e = .returned (.int .i64 (N : Int)) ∧ Below W.heap.size W w' := by
  have hS : Hid (∀ W, MRow W (some x) on oc O → _) := fun W hW => shapes_any h w c lo hi ot (some x) on oc O W hW
  rw [hR] at hS
  simp only at hS
  obtain ⟨-, hRl, ho64, -, -, -⟩ := gtR_ok hR
  have hM2 : Hid (MRow W (some x) on oc O) := hM
  have hocm := hM.1
  have hocx := hM.2.1
  unfold maxLen at hocx
  have HA : Hid (∀ W', Below W.heap.size W W' → _) := hAl
  have HW : Hid (∀ W' (g0 : Nat), Below W.heap.size W W' → _) := hWk
  have s0 := (St.start W).new (c := #[.int .i64 h, .int .i64 w, .int .i64 c, .int .i64 lo, .int .i64 hi, .slice (some x) on oc, .int .i64 ot]) (t := 26)
  clear hR hM hAl hWk
  go_enter Try.func35, Try.ntmps35
  go_wp2_with fail
  refine Calls.mono (hS.out _ (hM2.out.below s0.below)) ?_
  rintro e w3 ⟨v, rfl, hSh, hb⟩
  have s3 := (s0.call hb).new (c := #[.int .i64 0, .int .i64 0, .int .i64 0]) (t := 86)
  obtain ⟨g, cap, cur, rfl, hgb, hgc, hCu⟩ : ∃ g cap cur, v = .slice (some ⟨g, 0, none⟩) (on + 1) cap ∧ W.heap.size ≤ g ∧ w3.heap[g]? = some (.cells cur 23 (0, 0)) ∧ Cu cur cap RL := by
    rcases hSh with ⟨-, q⟩ | ⟨g, cap, cur, q1, q2, q3, q4, -⟩
    · rw [q] at hRl; simp at hRl
    · exact ⟨g, cap, cur, by rw [q1, hRl], by simp at q2; omega, q3, q4⟩
  have hcap := hCu.2.1
  obtain ⟨b1, b2, b3⟩ := hCu.at (show i + 1 < RL.length by omega)
  rw [hB] at b1 b2 b3
  simp only at b1 b2 b3
  have hgc2 : (w3.alloc (.cells #[.int .i64 0, .int .i64 0, .int .i64 0] 86)).heap[g]? = some (.cells cur 23 (0, 0)) := (heap_alloc_old w3 _ (lt_of_heap hgc)).trans hgc
  clear hb hSh hCu hgc hS hM2 s0
  go_upto_region 2 with fail
  obtain ⟨w4, hw4⟩ : ∃ w4, w3.alloc (.cells #[.int .i64 0, .int .i64 0, .int .i64 0] 86) = w4 := ⟨_, rfl⟩
  rw [hw4] at s3 hgc2 ⊢
  have b1' : w4.cell? ⟨g, (i + 1) * 3, none⟩ = some (.int .i64 H) := by rw [(cells_at hgc2).1]; exact b1
  have b2' : w4.cell? ⟨g, (i + 1) * 3 + 1, none⟩ = some (.int .i64 V) := by rw [(cells_at hgc2).1]; exact b2
  have b3' : w4.cell? ⟨g, (i + 1) * 3 + 2, none⟩ = some (.int .i64 C) := by rw [(cells_at hgc2).1]; exact b3
  have s4 := s3.new (c := #[.int .i64 H, .int .i64 V, .int .i64 C]) (t := 23)
  have S4 : Hid (St W _ _) := s4
  have hS4 : Hid (w4.heap.size < w4.heap.size + 1) := Nat.lt_succ_self _
  clear hw4 hgc2 b1 b2 b3 s3 s4
  go_upto_region 3 with fail
  obtain ⟨w5, hw5⟩ : ∃ w5, w4.alloc (.cells #[.int .i64 H, .int .i64 V, .int .i64 C] 23) = w5 := ⟨_, rfl⟩
  obtain ⟨B7, hB7⟩ : ∃ B, w4.heap.size = B := ⟨_, rfl⟩
  rw [hw5, hB7] at S4 ⊢
  clear hw5 hB7 b1' b2' b3' hS4
  obtain ⟨c1, f1, z1, -, -, -, c3, f3, z3, -⟩ := S4.out.rules
  go_wp2_with fail
  refine Calls.mono (HA.out _ S4.out.below) ?_
  rintro e w6 ⟨g0, rfl, hg0, hz0, hb⟩
  have S6 : Hid (St W w6 _) := S4.out.call hb
  have HG0 : Hid (w6.heap[g0]? = _) := hg0
  clear S4 hb c1 f1 z1 c3 f3 z3 HA hg0 hz0
  go_wp2_with fail
  refine Calls.mono (HW.out _ _ S6.out.below HG0.out) ?_
  rintro e w7 ⟨rfl, hb⟩
  have S7 : Hid (St W w7 _) := S6.out.call hb
  have s8 := S7.out.new (c := #[.int .i64 0, .int .i64 0, .int .i64 0]) (t := 86)
  have HB : Hid (Below W.heap.size W _) := s8.below
  clear S6 HG0 hb HW S7
  obtain ⟨-, -, -, c1, f1, z1, -⟩ := s8.rules
  clear s8
  have e1 : IntKind.i64.wrap (H * V) = H * V := by rw [IntKind.wrap_i64]; omega
  have e2 : IntKind.i64.wrap (H * V * C) = H * V * C := by rw [IntKind.wrap_i64]; omega
  have e3 : (H * V * C == 0) = false := by rw [beq_eq_false_iff_ne]; omega
  have e4 : ¬ H * V * C = 0 := by omega
  go_wp2
  go_ret
  exact ⟨rfl, HB.out⟩
end Go.Proofs.Ytgiohlcipndakaa

/- Chan of package check: a plan's error over a span. -/
namespace Go.Proofs.Ytgiohlcipndakaa
open Go.ChangeShapes Go.WideShapes Go.ChangeAt Go.RowKit
set_option linter.unusedVariables false
set_option maxRecDepth 100000 in
set_option maxHeartbeats 4000000 in
theorem kcha_e (h w c lo hi ot op ch : Int) (oa : Option Addr) (on oc : Nat) (W : World) (slo shi : Int) (wd dp p1 p2 t1 t2 : Int) (R1 R2 E : Int) (h0 : E ≠ 0) (hR : ∀ W', Below W.heap.size W W' → Calls Try.prog 31 #[.agg #[.int .i64 h, .int .i64 w, .int .i64 c, .int .i64 lo, .int .i64 hi, .slice oa on oc, .int .i64 ot], .int .i64 op, .int .i64 ch, .agg #[.int .i64 slo, .int .i64 shi]] W' fun e w' => e = .returned (.tuple #[.agg #[.int .i64 R1, .int .i64 R2], .int .i64 E]) ∧ Below W'.heap.size W' w') :
    Calls Try.prog 14 #[.agg #[.int .i64 h, .int .i64 w, .int .i64 c, .int .i64 lo, .int .i64 hi, .slice oa on oc, .int .i64 ot], .int .i64 op, .int .i64 ch, .agg #[.int .i64 slo, .int .i64 shi], .agg #[.int .i64 wd, .int .i64 dp, .int .i64 p1, .int .i64 p2, .int .i64 t1, .int .i64 t2]] W fun e w' => e = .returned (.int .i64 E) ∧ Below W.heap.size W w' := by
  have HR : Hid (∀ W', Below W.heap.size W W' → _) := hR
  have s0 := (((St.start W).new (c := #[.int .i64 h, .int .i64 w, .int .i64 c, .int .i64 lo, .int .i64 hi, .slice oa on oc, .int .i64 ot]) (t := 26)).new (c := #[.int .i64 slo, .int .i64 shi]) (t := 28)).new (c := #[.int .i64 wd, .int .i64 dp, .int .i64 p1, .int .i64 p2, .int .i64 t1, .int .i64 t2]) (t := 30)
  simp only [World.size_alloc] at s0
  clear hR
  have hE' : (E == 0) = false := by simp [h0]
  go_enter Try.func14, Try.ntmps14
  go_wp2_with fail
  refine (HR.out _ s0.below).mono ?_
  rintro e w1 ⟨rfl, hb⟩
  have s1 := (s0.call hb).new (c := #[.int .i64 R1, .int .i64 R2]) (t := 28)
  have HB : Hid (Below W.heap.size W _) := s1.below
  clear hb s0 HR s1
  go_wp2
  go_ret
  exact ⟨rfl, HB.out⟩
/-- The plan's error, behind those of layer 13. -/
def kcE (wd dp p1 p2 t1 t2 : Int) (N : Nat) (R D T : Int × Int) : Int :=
  if efE wd dp p1 p2 t1 t2 (N : Int) ≠ 0 then efE wd dp p1 p2 t1 t2 (N : Int) else if irB wd p1 p2 t1 t2 R.1 R.2 = false then 154
  else if xho p1 p2 (if wd = 16 then D else R).1 (if wd = 16 then D else R).2 = false then 152 else if xho t1 t2 T.1 T.2 = false then 153 else 0
theorem kcE_0 {wd dp p1 p2 t1 t2 : Int} {N : Nat} {R D T : Int × Int} : kcE wd dp p1 p2 t1 t2 N R D T = 0 ↔ efE wd dp p1 p2 t1 t2 (N : Int) = 0 ∧ irB wd p1 p2 t1 t2 R.1 R.2 = true ∧ xho p1 p2 (if wd = 16 then D else R).1 (if wd = 16 then D else R).2 = true ∧ xho t1 t2 T.1 T.2 = true := by
  unfold kcE
  by_cases a1 : efE wd dp p1 p2 t1 t2 (N : Int) = 0
  · rw [if_neg (fun q => q a1)]
    cases a2 : irB wd p1 p2 t1 t2 R.1 R.2 with
    | false => simp
    | true =>
      cases a3 : xho p1 p2 (if wd = 16 then D else R).1 (if wd = 16 then D else R).2 with
      | false => simp
      | true =>
        cases a4 : xho t1 t2 T.1 T.2 with
        | false => simp
        | true => simp [a1]
  · rw [if_pos a1]
    exact ⟨fun q => absurd q a1, fun q => absurd q.1 a1⟩
set_option maxRecDepth 100000 in
set_option maxHeartbeats 8000000 in
theorem kcha_w (h w c lo hi ot op ch : Int) (oa : Option Addr) (on oc : Nat) (W : World) (slo shi : Int) (wd dp p1 p2 t1 t2 : Int) (R1 R2 D1 D2 T1 T2 : Int) (N : Nat) (hR : ∀ W', Below W.heap.size W W' → Calls Try.prog 31 #[.agg #[.int .i64 h, .int .i64 w, .int .i64 c, .int .i64 lo, .int .i64 hi, .slice oa on oc, .int .i64 ot], .int .i64 op, .int .i64 ch, .agg #[.int .i64 slo, .int .i64 shi]] W' fun e w' => e = .returned (.tuple #[.agg #[.int .i64 R1, .int .i64 R2], .int .i64 0]) ∧ Below W'.heap.size W' w') (hLn : ∀ W', Below W.heap.size W W' → Calls Try.prog 35 #[.agg #[.int .i64 h, .int .i64 w, .int .i64 c, .int .i64 lo, .int .i64 hi, .slice oa on oc, .int .i64 ot], .int .i64 op] W' fun e w' => e = .returned (.int .i64 (N : Int)) ∧ Below W'.heap.size W' w') (hP : wd = 16 → 1 ≤ dp ∧ dp ≤ (N : Int) → ∀ W', Below W.heap.size W W' → Calls Try.prog 12 #[.agg #[.int .i64 h, .int .i64 w, .int .i64 c, .int .i64 lo, .int .i64 hi, .slice oa on oc, .int .i64 ot], .int .i64 op, .int .i64 ch, .agg #[.int .i64 slo, .int .i64 shi], .int .i64 dp] W' fun e w' => e = .returned (.tuple #[.agg #[.int .i64 D1, .int .i64 D2], .int .i64 0]) ∧ Below W'.heap.size W' w') (hT : ∀ W', Below W.heap.size W W' → Calls Try.prog 33 #[.agg #[.int .i64 h, .int .i64 w, .int .i64 c, .int .i64 lo, .int .i64 hi, .slice oa on oc, .int .i64 ot], .int .i64 op, .int .i64 ch, .agg #[.int .i64 slo, .int .i64 shi]] W' fun e w' => e = .returned (.tuple #[.agg #[.int .i64 T1, .int .i64 T2], .int .i64 0]) ∧ Below W'.heap.size W' w') :
    Calls Try.prog 14 #[.agg #[.int .i64 h, .int .i64 w, .int .i64 c, .int .i64 lo, .int .i64 hi, .slice oa on oc, .int .i64 ot], .int .i64 op, .int .i64 ch, .agg #[.int .i64 slo, .int .i64 shi], .agg #[.int .i64 wd, .int .i64 dp, .int .i64 p1, .int .i64 p2, .int .i64 t1, .int .i64 t2]] W fun e w' => e = .returned (.int .i64 (kcE wd dp p1 p2 t1 t2 N (R1, R2) (D1, D2) (T1, T2))) ∧ Below W.heap.size W w' := by
  obtain ⟨X, hX⟩ : ∃ X, kcE wd dp p1 p2 t1 t2 N (R1, R2) (D1, D2) (T1, T2) = X := ⟨_, rfl⟩
  obtain ⟨E, hE⟩ : ∃ E, efE wd dp p1 p2 t1 t2 (N : Int) = E := ⟨_, rfl⟩
  obtain ⟨b1, h1⟩ : ∃ b, irB wd p1 p2 t1 t2 R1 R2 = b := ⟨_, rfl⟩
  obtain ⟨b3, h3⟩ : ∃ b, xho t1 t2 T1 T2 = b := ⟨_, rfl⟩
  have HR : Hid (∀ W', Below W.heap.size W W' → _) := hR
  have HL : Hid (∀ W', Below W.heap.size W W' → _) := hLn
  have HT : Hid (∀ W', Below W.heap.size W W' → _) := hT
  have HP : Hid (wd = 16 → 1 ≤ dp ∧ dp ≤ (N : Int) → ∀ W', Below W.heap.size W W' → _) := hP
  have HF : Hid (∀ W', _) := fun W' => keof_any wd dp p1 p2 t1 t2 (N : Int) W'
  have HI : Hid (∀ W', _) := fun W' => kirg_any wd dp p1 p2 t1 t2 R1 R2 W'
  have H3 : Hid (∀ W', _) := fun W' => khol_any t1 t2 T1 T2 W'
  have HX : Hid ((if E ≠ 0 then E else if b1 = false then 154 else if xho p1 p2 (if wd = 16 then (D1, D2) else (R1, R2)).1 (if wd = 16 then (D1, D2) else (R1, R2)).2 = false then 152 else if b3 = false then 153 else 0) = X) := by
    unfold Hid; rw [← hX, ← hE, ← h1, ← h3]; rfl
  have HE0 : Hid (E = 0 → wd = 16 → 1 ≤ dp ∧ dp ≤ (N : Int)) := fun q _ => by rw [q] at hE; exact (efE_0 hE).2.2.1
  rw [hE] at HF
  rw [h1] at HI
  rw [h3] at H3
  rw [hX]
  have s0 := (((St.start W).new (c := #[.int .i64 h, .int .i64 w, .int .i64 c, .int .i64 lo, .int .i64 hi, .slice oa on oc, .int .i64 ot]) (t := 26)).new (c := #[.int .i64 slo, .int .i64 shi]) (t := 28)).new (c := #[.int .i64 wd, .int .i64 dp, .int .i64 p1, .int .i64 p2, .int .i64 t1, .int .i64 t2]) (t := 30)
  simp only [World.size_alloc] at s0
  clear hR hLn hT hP hX hE h1 h3
  go_enter Try.func14, Try.ntmps14
  go_wp2_with fail
  refine (HR.out _ s0.below).mono ?_
  rintro e w1 ⟨rfl, hb⟩
  have s1 := (s0.call hb).new (c := #[.int .i64 R1, .int .i64 R2]) (t := 28)
  have hz1 := lt_of_heap (s0.call hb).h1
  clear hb s0 HR
  go_wp2_with fail
  obtain ⟨c1, g1, c2, g2, c3, g3, c4, g4, -⟩ := rulesQ_st s1
  have hne := Nonempty.intro (Wd.mk _ s1)
  refine region_held s1 (by kernel_rfl) (by kernel_rfl) ?_
  repeat (first
    | (go_big_quiet_step ((go_at_call 35; exact held_of (HL.out _ (Wd.h _).below))))
    | (go_big_quiet_step ((go_at_call 34; exact held_of (HF.out _)))))
  refine wpQuiet_nil ?_
  intro _ hw'
  obtain ⟨nq, rfl⟩ := hw'
  have s8 := nq.h
  obtain ⟨w8, hw8⟩ : ∃ w, nq.w = w := ⟨_, rfl⟩
  rw [hw8] at s8 ⊢
  obtain ⟨B11, hB11⟩ : ∃ B, w1.heap.size = B := ⟨_, rfl⟩
  rw [hB11] at s8 hz1 ⊢
  clear c1 g1 c2 g2 c3 g3 c4 g4 hne s1 hw8 HL HF hB11
  have S8 : Hid (St W w8 _) := s8
  by_cases e0 : E = 0
  · subst e0
    have HE1 : Hid (wd = 16 → 1 ≤ dp ∧ dp ≤ (N : Int)) := HE0.out rfl
    clear HE0
    have HX1 : Hid ((if b1 = false then 154 else if xho p1 p2 (if wd = 16 then (D1, D2) else (R1, R2)).1 (if wd = 16 then (D1, D2) else (R1, R2)).2 = false then 152 else if b3 = false then 153 else 0) = X) := by
      have := HX.out; rw [if_neg (by decide)] at this; exact this
    obtain ⟨c1, f1, z1, c2, f2, z2, c3, f3, z3, c4, f4, z4, -⟩ := s8.rules
    clear s8 HX
    cases b1 with
    | false =>
      have HX2 : Hid (X = 154) := by have := HX1.out; rw [if_pos rfl] at this; exact this.symm
      clear HX1
      go_wp2_with fail
      refine (HI.out _).mono ?_
      rintro e w9 ⟨rfl, hb⟩
      have HB : Hid (Below W.heap.size W w9) := (S8.out.call hb).below
      clear hb S8 HI c1 f1 z1 c2 f2 z2 c3 f3 z3 c4 f4 z4
      go_wp2
      go_ret
      exact ⟨kretI HX2.out, HB.out⟩
    | true =>
      go_wp2_with fail
      refine (HI.out _).mono ?_
      rintro e w9 ⟨rfl, hb⟩
      have s9 := S8.out.call hb
      clear hb S8 HI c1 f1 z1 c2 f2 z2 c3 f3 z3 c4 f4 z4
      have s10 := s9.new (c := #[.int .i64 R1, .int .i64 R2]) (t := 28)
      have hz9 := lt_of_heap s9.h1
      obtain ⟨c1, f1, z1, c2, f2, z2, c3, f3, z3, c4, f4, z4, c5, f5, z5, -⟩ := s10.rules
      have S10 : Hid (St W _ _) := s10
      obtain ⟨d1, e1, y1, -⟩ := s9.rules
      clear s9 s10
      by_cases hw : wd = 16
      · have H2 : Hid (∀ W', _) := fun W' => khol_any p1 p2 D1 D2 W'
        obtain ⟨b2, h2⟩ : ∃ b, xho p1 p2 D1 D2 = b := ⟨_, rfl⟩
        have HX2 : Hid ((if b2 = false then 152 else if b3 = false then 153 else 0) = X) := by
          have := HX1.out; rw [if_neg (by decide), if_pos hw] at this; rw [← h2]; exact this
        rw [h2] at H2
        have HP' : Hid (∀ W', Below W.heap.size W W' → _) := HP.out hw (HE1.out hw)
        have hw' : (wd == 16) = true := by simp [hw]
        clear h2 HX1 HP HE1 c1 f1 c2 f2
        subst hw
        go_wp2_with fail
        refine (HP'.out _ S10.out.below).mono ?_
        rintro e w11 ⟨rfl, hb⟩
        have s11 := S10.out.call hb
        clear hb S10 HP' d1 e1 y1 c3 f3 z3 c4 f4 z4 c5 f5 z5 z1 z2
        obtain ⟨c1, f1, z1, -⟩ := s11.rules
        have s12 := s11.set2 (u := .int .i64 D1) (v := .int .i64 D2) (by simp; omega)
        obtain ⟨c2, f2, z2, -, -, -, c3, f3, z3, -⟩ := s12.rules
        have S12 : Hid (St W _ _) := s12
        clear s11 s12
        go_wp2_with fail
        refine (H2.out _).mono ?_
        rintro e w13 ⟨rfl, hb⟩
        have s13 := S12.out.call hb
        have S13 : Hid (St W w13 _) := s13
        clear hb S12 H2 c1 f1 z1 c2 f2 z2 c3 f3 z3
        obtain ⟨-, -, -, -, -, -, c3, f3, z3, c4, f4, z4, c5, f5, z5, -⟩ := s13.rules
        clear s13
        cases b2 with
        | false =>
          have HX3 : Hid (X = 152) := by have := HX2.out; rw [if_pos rfl] at this; exact this.symm
          have HB : Hid (Below W.heap.size W w13) := S13.out.below
          clear HX2 S13 c3 f3 z3 c4 f4 z4 c5 f5 z5
          go_wp2
          go_ret
          exact ⟨kretI HX3.out, HB.out⟩
        | true =>
          have HX3 : Hid ((if b3 = false then 153 else 0) = X) := by have := HX2.out; rw [if_neg (by decide)] at this; exact this
          clear HX2 c3 f3 z3
          go_wp2_with fail
          refine (HT.out _ S13.out.below).mono ?_
          rintro e w14 ⟨rfl, hb⟩
          have s15 := (S13.out.call hb).new (c := #[.int .i64 T1, .int .i64 T2]) (t := 28)
          clear hb S13 HT c4 f4 z4 c5 f5 z5
          obtain ⟨c1, f1, z1, -, -, -, -, -, -, c3, f3, z3, -⟩ := s15.rules
          have S15 : Hid (St W _ _) := s15
          clear s15
          go_wp2_with fail
          refine (H3.out _).mono ?_
          rintro e w16 ⟨rfl, hb⟩
          have HB : Hid (Below W.heap.size W w16) := (S15.out.call hb).below
          clear hb S15 H3 c1 f1 z1 c3 f3 z3
          cases b3 with
          | false =>
            have HX4 : Hid (X = 153) := by have := HX3.out; rw [if_pos rfl] at this; exact this.symm
            clear HX3
            go_wp2
            go_ret
            exact ⟨kretI HX4.out, HB.out⟩
          | true =>
            have HX4 : Hid (X = 0) := by have := HX3.out; rw [if_neg (by decide)] at this; exact this.symm
            clear HX3
            go_wp2
            go_ret
            exact ⟨kretI HX4.out, HB.out⟩
      · have H2 : Hid (∀ W', _) := fun W' => khol_any p1 p2 R1 R2 W'
        obtain ⟨b2, h2⟩ : ∃ b, xho p1 p2 R1 R2 = b := ⟨_, rfl⟩
        have HX2 : Hid ((if b2 = false then 152 else if b3 = false then 153 else 0) = X) := by
          have := HX1.out; rw [if_neg (by decide), if_neg hw] at this; rw [← h2]; exact this
        rw [h2] at H2
        have hw' : (wd == 16) = false := by simp [hw]
        have S12 : Hid (St W _ _) := S10.out
        clear h2 HX1 HP HE1 S10 c2 f2 c5 f5
        go_wp2_with fail
        refine (H2.out _).mono ?_
        rintro e w13 ⟨rfl, hb⟩
        have s13 := S12.out.call hb
        have S13 : Hid (St W w13 _) := s13
        clear hb S12 H2 d1 e1 y1 c1 f1 z1 z2 c3 f3 z3 c4 f4 z4 z5
        obtain ⟨-, -, -, -, -, -, c3, f3, z3, c4, f4, z4, c5, f5, z5, -⟩ := s13.rules
        clear s13
        cases b2 with
        | false =>
          have HX3 : Hid (X = 152) := by have := HX2.out; rw [if_pos rfl] at this; exact this.symm
          have HB : Hid (Below W.heap.size W w13) := S13.out.below
          clear HX2 S13 c3 f3 z3 c4 f4 z4 c5 f5 z5
          go_wp2
          go_ret
          exact ⟨kretI HX3.out, HB.out⟩
        | true =>
          have HX3 : Hid ((if b3 = false then 153 else 0) = X) := by have := HX2.out; rw [if_neg (by decide)] at this; exact this
          clear HX2 c3 f3 z3
          go_wp2_with fail
          refine (HT.out _ S13.out.below).mono ?_
          rintro e w14 ⟨rfl, hb⟩
          have s15 := (S13.out.call hb).new (c := #[.int .i64 T1, .int .i64 T2]) (t := 28)
          clear hb S13 HT c4 f4 z4 c5 f5 z5
          obtain ⟨c1, f1, z1, -, -, -, -, -, -, c3, f3, z3, -⟩ := s15.rules
          have S15 : Hid (St W _ _) := s15
          clear s15
          go_wp2_with fail
          refine (H3.out _).mono ?_
          rintro e w16 ⟨rfl, hb⟩
          have HB : Hid (Below W.heap.size W w16) := (S15.out.call hb).below
          clear hb S15 H3 c1 f1 z1 c3 f3 z3
          cases b3 with
          | false =>
            have HX4 : Hid (X = 153) := by have := HX3.out; rw [if_pos rfl] at this; exact this.symm
            clear HX3
            go_wp2
            go_ret
            exact ⟨kretI HX4.out, HB.out⟩
          | true =>
            have HX4 : Hid (X = 0) := by have := HX3.out; rw [if_neg (by decide)] at this; exact this.symm
            clear HX3
            go_wp2
            go_ret
            exact ⟨kretI HX4.out, HB.out⟩
  · have HX1 : Hid (X = E) := by have := HX.out; rw [if_pos e0] at this; exact this.symm
    have hE' : (E == 0) = false := by simp [e0]
    have HB : Hid (Below W.heap.size W w8) := s8.below
    clear s8 S8 HX
    go_wp2
    go_ret
    exact ⟨kretI HX1.out, HB.out⟩
end Go.Proofs.Ytgiohlcipndakaa
