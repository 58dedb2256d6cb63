/- The walk of SpanMembers: it returns true for every argument that fits its type. -/
import Derived.Test.YtdpfnlefaegmeaaSpnB
import Derived.Test.YtdpfnlefaegmeaaSpnE
import Derived.Test.YtdpfnlefaegmeaaSpnH
import Derived.Deep.RegionHeld3
import Derived.Test.YtdpfnlefaegmeaaHeldQ
import Derived.Deep.DeepCutAuto
namespace Go.Proofs.Ytdpfnlefaegmeaa
open Go.ChangeShapes Go.WideShapes Go.ChangeAt Go.RowKit Go.BigFrame
theorem shas_is {a b x : Int} {w : World} {V : Bool} (h : hasB a b x = V) :
    Calls Try.prog 13 #[.agg #[.int .i64 a, .int .i64 b], .int .i64 x] w fun e w' => e = .returned (.bool V) ∧ Below w.heap.size w w' := h ▸ shas_any a b x w
theorem me_mem (a b c d u : Int) : ((meR a b c d).2.2 && hasB (meR a b c d).1 (meR a b c d).2.1 u) = (hasB a b u && hasB c d u) := by
  have h1 := mx_bd a c
  have h2 := mn_bd b d
  unfold meR hasB
  by_cases h : mx a c ≤ mn b d
  · rw [if_pos h]; rw [Bool.eq_iff_iff]; simp; omega
  · rw [if_neg h]; rw [Bool.eq_iff_iff]; simp; omega
theorem has_yes {a b u : Int} (h : hasB a b u = true) : a ≤ u ∧ u ≤ b := by simpa [hasB] using h
theorem has_mk {a b u : Int} (h : a ≤ u) (g : u ≤ b) : hasB a b u = true := by simp [hasB, h, g]
theorem ho_mk {a b c d : Int} (h : c ≤ d) (g : a ≤ c) (k : d ≤ b) : hoB a b c d = true := by simp [hoB, h, g, k]
theorem vB_mk {a b : Int} (h : a ≤ b) : vB a b = true := by simp [vB, h]
/-- A product with k lies between the products of the ends. -/
theorem ti_mem (a b u k : Int) (h : a ≤ u) (g : u ≤ b) (ha : I64 (if k < 0 then b * k else a * k)) (hb : I64 (if k < 0 then a * k else b * k)) :
    tiR a b k = ((if k < 0 then b * k else a * k), (if k < 0 then a * k else b * k), 0) ∧ I64 (u * k) ∧ hasB (if k < 0 then b * k else a * k) (if k < 0 then a * k else b * k) (u * k) = true := by
  have hv : vB a b = true := vB_mk (by omega)
  by_cases c : k < 0
  · rw [if_pos c] at *
    rw [if_pos c] at *
    have m1 := Int.mul_le_mul_of_nonneg_right h (show 0 ≤ -k by omega)
    have m2 := Int.mul_le_mul_of_nonneg_right g (show 0 ≤ -k by omega)
    rw [Int.mul_neg, Int.mul_neg] at m1 m2
    rw [tiR_neg a b k hv c, i2_vals _ _ ha hb]
    unfold I64 at *
    exact ⟨rfl, by omega, has_mk (by omega) (by omega)⟩
  · rw [if_neg c] at *
    rw [if_neg c] at *
    have m1 := Int.mul_le_mul_of_nonneg_right h (show 0 ≤ k by omega)
    have m2 := Int.mul_le_mul_of_nonneg_right g (show 0 ≤ k by omega)
    rw [tiR_pos a b k hv c, i2_vals _ _ ha hb]
    unfold I64 at *
    exact ⟨rfl, by omega, has_mk (by omega) (by omega)⟩
theorem ti_err (a b k : Int) (hv : a ≤ b) (h : ¬ (I64 (if k < 0 then b * k else a * k) ∧ I64 (if k < 0 then a * k else b * k))) : tiR a b k = (0, 0, 10) := by
  by_cases c : k < 0
  · rw [if_pos c, if_pos c] at h
    rw [tiR_neg a b k (vB_mk hv) c, i2_err _ _ h]
  · rw [if_neg c, if_neg c] at h
    rw [tiR_pos a b k (vB_mk hv) c, i2_err _ _ h]
set_option maxRecDepth 100000 in
set_option maxHeartbeats 20000000 in
theorem spanMembers_walk (a b c d u v k : Int) (w : World) (w0 : (Lit.int .i64 a).wf = true) (w1 : (Lit.int .i64 b).wf = true) (w2 : (Lit.int .i64 c).wf = true) (w3 : (Lit.int .i64 d).wf = true) (w4 : (Lit.int .i64 u).wf = true) (w5 : (Lit.int .i64 v).wf = true) (w6 : (Lit.int .i64 k).wf = true) :
    Calls Try.prog 7 #[.agg #[.int .i64 a, .int .i64 b, .int .i64 c, .int .i64 d, .int .i64 u, .int .i64 v, .int .i64 k]] w fun e w' => e = .returned (.bool true) ∧ Below w.heap.size w w' := by
  have ha := I64_of_wf w0
  have hb := I64_of_wf w1
  have hc := I64_of_wf w2
  have hd := I64_of_wf w3
  have hu := I64_of_wf w4
  have hv := I64_of_wf w5
  have hk := I64_of_wf w6
  clear w0 w1 w2 w3 w4 w5 w6
  go_enter Try.func7, Try.ntmps7
  go_upto_region 1 with fail
  go_cut [3, 4, 5, 6, 7] (fun x3 x4 x5 x6 x7 wx => ∃ P Q : Nat, x3 = .pointer (some ⟨P, 0, none⟩) ∧ x4 = .pointer (some ⟨Q, 0, none⟩) ∧ x5 = .int .i64 u ∧ x6 = .int .i64 v ∧ x7 = .int .i64 k ∧ St w wx [(P, #[.int .i64 a, .int .i64 b], 23), (Q, #[.int .i64 c, .int .i64 d], 23)])
  case first =>
    go_region_held3 (fun w' => (∀ i, w'.cell? ⟨w.heap.size, i, none⟩ = #[Value.int .i64 a, .int .i64 b, .int .i64 c, .int .i64 d, .int .i64 u, .int .i64 v, .int .i64 k][i]?))
      ((intro i; simp [go_sem, *])) (fail)
    all_goals
      refine (show ∀ a' w', Met _ a' w' → _ from by assumption) _ _ ?_
      go_meet
      exact ⟨_, _, rfl, rfl, rfl, rfl, rfl, (two_new w _ _ _ _ _).sub (by simp)⟩
  case rest =>
  obtain ⟨P, Q, rfl, rfl, rfl, rfl, rfl, s0⟩ := hcut
  obtain ⟨c1, f1, z1, c2, f2, z2, -⟩ := s0.rules
  go_wp2_with fail
  refine (fixed3_any _).mono ?_
  rintro e w1 ⟨rfl, hb'⟩
  have s1 := s0.call hb'
  clear hb' c1 f1 c2 f2
  try simp only [World.size_setCell] at s1
  try simp only [World.size_alloc] at s1
  obtain ⟨c1, f1, zw1_1, c2, f2, zw1_2, -⟩ := s1.rules
  go_wp2_with fail
  refine (smeet_any _ _ _ _ _).mono ?_
  rintro e w2 ⟨rfl, hb'⟩
  have s2 := s1.call hb'
  clear hb' c1 f1 c2 f2
  try simp only [World.size_setCell] at s2
  try simp only [World.size_alloc] at s2
  obtain ⟨c1, f1, zw2_1, c2, f2, zw2_2, -⟩ := s2.rules
  go_upto_region 5 with fail
  have s3 := s2.new (c := #[.int .i64 (meR a b c d).1, .int .i64 (meR a b c d).2.1]) (t := 23)
  clear c1 f1 c2 f2
  obtain ⟨c1, f1, z1, c2, f2, z2, c3, f3, z3, -⟩ := s3.rules
  go_cut [9, 47] (fun _ x47 wx => x47 = .bool false ∧ St w wx [(P, #[.int .i64 a, .int .i64 b], 23), (Q, #[.int .i64 c, .int .i64 d], 23)])
  case first =>
    have hm := me_mem a b c d u
    obtain ⟨q1, y1, q2, y2, q3, y3, -⟩ := rulesQ w [(w2.heap.size, #[Value.int .i64 (meR a b c d).1, .int .i64 (meR a b c d).2.1], 23), (P, #[Value.int .i64 a, .int .i64 b], 23), (Q, #[Value.int .i64 c, .int .i64 d], 23)]
    have hne := Nonempty.intro (Wd.mk _ s3)
    clear c1 f1 z1 c2 f2 z2 c3 f3 z3
    cases h2 : hasB a b u with
    | false =>
      cases h0 : (meR a b c d).2.2 with
      | false =>
        clear hm
        refine region_held s3 (by kernel_rfl) (by kernel_rfl) ?_
        repeat (go_big_quiet_step ((go_at_call 13; exact held_of (shas_is (by assumption)))))
        refine wpQuiet_nil ?_
        intro _ hw'
        obtain ⟨nq, rfl⟩ := hw'
        go_wp2_with fail
        go_meet
        exact ⟨rfl, nq.h.tail⟩
      | true =>
        cases h1 : hasB (meR a b c d).1 (meR a b c d).2.1 u with
        | true => rw [h0, h1, h2] at hm; cases hm
        | false =>
          clear hm
          refine region_held s3 (by kernel_rfl) (by kernel_rfl) ?_
          repeat (go_big_quiet_step ((go_at_call 13; exact held_of (shas_is (by assumption)))))
          refine wpQuiet_nil ?_
          intro _ hw'
          obtain ⟨nq, rfl⟩ := hw'
          go_wp2_with fail
          go_meet
          exact ⟨rfl, nq.h.tail⟩
    | true =>
      cases h3 : hasB c d u with
      | false =>
        cases h0 : (meR a b c d).2.2 with
        | false =>
          clear hm
          refine region_held s3 (by kernel_rfl) (by kernel_rfl) ?_
          repeat (go_big_quiet_step ((go_at_call 13; exact held_of (shas_is (by assumption)))))
          refine wpQuiet_nil ?_
          intro _ hw'
          obtain ⟨nq, rfl⟩ := hw'
          go_wp2_with fail
          go_meet
          exact ⟨rfl, nq.h.tail⟩
        | true =>
          cases h1 : hasB (meR a b c d).1 (meR a b c d).2.1 u with
          | true => rw [h0, h1, h2, h3] at hm; cases hm
          | false =>
            clear hm
            refine region_held s3 (by kernel_rfl) (by kernel_rfl) ?_
            repeat (go_big_quiet_step ((go_at_call 13; exact held_of (shas_is (by assumption)))))
            refine wpQuiet_nil ?_
            intro _ hw'
            obtain ⟨nq, rfl⟩ := hw'
            go_wp2_with fail
            go_meet
            exact ⟨rfl, nq.h.tail⟩
      | true =>
        cases h0 : (meR a b c d).2.2 with
        | false => rw [h0, h2, h3] at hm; cases hm
        | true =>
          cases h1 : hasB (meR a b c d).1 (meR a b c d).2.1 u with
          | false => rw [h0, h1, h2, h3] at hm; cases hm
          | true =>
            clear hm
            refine region_held s3 (by kernel_rfl) (by kernel_rfl) ?_
            repeat (go_big_quiet_step ((go_at_call 13; exact held_of (shas_is (by assumption)))))
            refine wpQuiet_nil ?_
            intro _ hw'
            obtain ⟨nq, rfl⟩ := hw'
            go_wp2_with fail
            go_meet
            exact ⟨rfl, nq.h.tail⟩
  case rest =>
  obtain ⟨rfl, s4⟩ := hcut
  clear c1 f1 z1 c2 f2 z2 c3 f3 z3 s3 s2 s1 s0
  obtain ⟨c1, f1, z1, c2, f2, z2, -⟩ := s4.rules
  cases h2 : hasB a b u with
  | false =>
    go_wp2_with fail
    refine (shas_any _ _ _ _).mono ?_
    rintro e w5 ⟨rfl, hb'⟩
    have s5 := s4.call hb'
    clear hb' c1 f1 c2 f2
    try simp only [World.size_setCell] at s5
    try simp only [World.size_alloc] at s5
    obtain ⟨c1, f1, zw5_1, c2, f2, zw5_2, -⟩ := s5.rules
    go_wp2
    go_ret
    exact ⟨rfl, s5.below⟩
  | true =>
  go_wp2_with fail
  refine (shas_any _ _ _ _).mono ?_
  rintro e w5 ⟨rfl, hb'⟩
  have s5 := s4.call hb'
  clear hb' c1 f1 c2 f2
  try simp only [World.size_setCell] at s5
  try simp only [World.size_alloc] at s5
  obtain ⟨c1, f1, zw5_1, c2, f2, zw5_2, -⟩ := s5.rules
  cases h3 : hasB c d v with
  | false =>
    go_wp2_with fail
    refine (shas_any _ _ _ _).mono ?_
    rintro e w6 ⟨rfl, hb'⟩
    have s6 := s5.call hb'
    clear hb' c1 f1 c2 f2
    try simp only [World.size_setCell] at s6
    try simp only [World.size_alloc] at s6
    obtain ⟨c1, f1, zw6_1, c2, f2, zw6_2, -⟩ := s6.rules
    go_wp2
    go_ret
    exact ⟨rfl, s6.below⟩
  | true =>
  go_wp2_with fail
  refine (shas_any _ _ _ _).mono ?_
  rintro e w6 ⟨rfl, hb'⟩
  have s6 := s5.call hb'
  clear hb' c1 f1 c2 f2
  try simp only [World.size_setCell] at s6
  try simp only [World.size_alloc] at s6
  obtain ⟨c1, f1, zw6_1, c2, f2, zw6_2, -⟩ := s6.rules
  obtain ⟨u1, u2⟩ := has_yes h2
  obtain ⟨v1, v2⟩ := has_yes h3
  have va : vB a b = true := vB_mk (by omega)
  have vc : vB c d = true := vB_mk (by omega)
  have HU : Hid (huR a b c d = (mn a c, mx b d, 0)) := huR_ok a b c d va vc
  have m1 := mn_bd a c
  have m2 := mx_bd b d
  have g1 : hasB (mn a c) (mx b d) u = true := has_mk (by omega) (by omega)
  have g2 : hasB (mn a c) (mx b d) v = true := has_mk (by omega) (by omega)
  have g3 : hoB (mn a c) (mx b d) a b = true := ho_mk (by omega) (by omega) (by omega)
  have g4 : hoB (mn a c) (mx b d) c d = true := ho_mk (by omega) (by omega) (by omega)
  clear m1 m2
  go_wp2_with fail
  refine (shull_any _ _ _ _ _).mono ?_
  rintro e w7 ⟨rfl, hb'⟩
  have s7 := s6.call hb'
  clear hb' c1 f1 c2 f2
  try simp only [World.size_setCell] at s7
  try simp only [World.size_alloc] at s7
  obtain ⟨c1, f1, zw7_1, c2, f2, zw7_2, -⟩ := s7.rules
  rw [HU.out]
  go_wp2_with fail
  refine (shas_any _ _ _ _).mono ?_
  rintro e w8 ⟨rfl, hb'⟩
  have s8 := s7.new.call hb'
  clear hb' c1 f1 c2 f2
  try simp only [World.size_setCell] at s8
  try simp only [World.size_alloc] at s8
  obtain ⟨c1, f1, zw8_1, c2, f2, zw8_2, c3, f3, zw8_3, -⟩ := s8.rules
  go_wp2_with fail
  refine (shas_any _ _ _ _).mono ?_
  rintro e w9 ⟨rfl, hb'⟩
  have s9 := s8.call hb'
  clear hb' c1 f1 c2 f2 c3 f3
  try simp only [World.size_setCell] at s9
  try simp only [World.size_alloc] at s9
  obtain ⟨c1, f1, zw9_1, c2, f2, zw9_2, c3, f3, zw9_3, -⟩ := s9.rules
  go_wp2_with fail
  refine (sholds_any _ _ _ _ _).mono ?_
  rintro e w10 ⟨rfl, hb'⟩
  have s10 := s9.call hb'
  clear hb' c1 f1 c2 f2 c3 f3
  try simp only [World.size_setCell] at s10
  try simp only [World.size_alloc] at s10
  obtain ⟨c1, f1, zw10_1, c2, f2, zw10_2, c3, f3, zw10_3, -⟩ := s10.rules
  go_wp2_with fail
  refine (sholds_any _ _ _ _ _).mono ?_
  rintro e w11 ⟨rfl, hb'⟩
  have s11 := s10.call hb'
  clear hb' c1 f1 c2 f2 c3 f3
  try simp only [World.size_setCell] at s11
  try simp only [World.size_alloc] at s11
  obtain ⟨c1, f1, zw11_1, c2, f2, zw11_2, c3, f3, zw11_3, -⟩ := s11.rules
  go_wp2_with fail
  refine (sadd_any _ _ _ _ _ ha hb hc hd).mono ?_
  rintro e w12 ⟨rfl, hb'⟩
  have s12 := s11.tail.call hb'
  clear hb' c1 f1 c2 f2 c3 f3
  try simp only [World.size_setCell] at s12
  try simp only [World.size_alloc] at s12
  obtain ⟨c1, f1, zw12_1, c2, f2, zw12_2, -⟩ := s12.rules
  rw [adR_ok a b c d va vc]
  obtain ⟨m1, n1, e1, hi⟩ : ∃ p q e, i2 (a + c) (b + d) = (p, q, e) := ⟨_, _, _, rfl⟩
  rw [hi]
  have HI1 : Hid (i2 (a + c) (b + d) = (m1, n1, e1)) := hi
  clear hi
  go_wp2_with fail
  refine (add_any _ _ _ hu hv).mono ?_
  rintro e w' ⟨rfl, rfl⟩
  go_upto_region 14 with fail
  have sA := s12.new (c := #[.int .i64 m1, .int .i64 n1]) (t := 23)
  try clear c1 f1 c2 f2
  try clear c3 f3
  obtain ⟨c1, f1, z14_1, c2, f2, z14_2, c3, f3, z14_3, -⟩ := sA.rules
  go_cut [11, 13, 14, 113] (fun _ _ _ x wx => x = .bool false ∧ ∃ p q : Int, St w wx [(w12.heap.size, #[.int .i64 p, .int .i64 q], 23), (P, #[.int .i64 a, .int .i64 b], 23), (Q, #[.int .i64 c, .int .i64 d], 23)])
  case first =>
    by_cases g : I64 (a + c) ∧ I64 (b + d)
    · have hi := (i2_vals _ _ g.1 g.2).symm.trans HI1.out
      clear HI1
      cases hi
      have HV : okV (u + v) = u + v := okV_in _ (by unfold I64 at g; omega)
      have HE : okE (u + v) = 0 := okE_in _ (by unfold I64 at g; omega)
      have g5 : hasB (a + c) (b + d) (u + v) = true := has_mk (by omega) (by omega)
      clear g
      go_wp2_with fail
      refine (shas_is g5).mono ?_
      rintro e w14 ⟨rfl, hb'⟩
      have sB := sA.call hb'
      clear hb'
      go_wp2_with fail
      go_meet
      exact ⟨rfl, _, _, sB⟩
    · have hi := (i2_err _ _ g).symm.trans HI1.out
      clear HI1
      cases hi
      clear g
      go_wp2_with fail
      go_meet
      exact ⟨rfl, _, _, sA⟩
  case rest =>
  obtain ⟨rfl, p1, q1, s14⟩ := hcut
  clear c1 f1 c2 f2 c3 f3 sA
  obtain ⟨c1, f1, y14_1, c2, f2, y14_2, c3, f3, y14_3, -⟩ := s14.rules
  go_wp2_with fail
  refine (ssub_any _ _ _ _ _ ha hb hc hd).mono ?_
  rintro e w15 ⟨rfl, hb'⟩
  have s15 := s14.call hb'
  clear hb' c1 f1 c2 f2 c3 f3
  try simp only [World.size_setCell] at s15
  try simp only [World.size_alloc] at s15
  obtain ⟨c1, f1, zw15_1, c2, f2, zw15_2, c3, f3, zw15_3, -⟩ := s15.rules
  rw [suR_ok a b c d va vc]
  obtain ⟨m2, n2, e2, hi⟩ : ∃ p q e, i2 (a - d) (b - c) = (p, q, e) := ⟨_, _, _, rfl⟩
  rw [hi]
  have HI2 : Hid (i2 (a - d) (b - c) = (m2, n2, e2)) := hi
  clear hi
  go_wp2_with fail
  refine (sub_any _ _ _ hu hv).mono ?_
  rintro e w' ⟨rfl, rfl⟩
  go_upto_region 18 with fail
  have sA := s15.set2 (u := .int .i64 m2) (v := .int .i64 n2) (by simp; omega)
  try clear c1 f1 c2 f2
  try clear c3 f3
  obtain ⟨c1, f1, z18_1, c2, f2, z18_2, c3, f3, z18_3, -⟩ := sA.rules
  go_cut [11, 13, 14, 137] (fun _ _ _ x wx => x = .bool false ∧ ∃ p q : Int, St w wx [(w12.heap.size, #[.int .i64 p, .int .i64 q], 23), (P, #[.int .i64 a, .int .i64 b], 23), (Q, #[.int .i64 c, .int .i64 d], 23)])
  case first =>
    by_cases g : I64 (a - d) ∧ I64 (b - c)
    · have hi := (i2_vals _ _ g.1 g.2).symm.trans HI2.out
      clear HI2
      cases hi
      have HV : okV (u - v) = u - v := okV_in _ (by unfold I64 at g; omega)
      have HE : okE (u - v) = 0 := okE_in _ (by unfold I64 at g; omega)
      have g5 : hasB (a - d) (b - c) (u - v) = true := has_mk (by omega) (by omega)
      clear g
      go_wp2_with fail
      refine (shas_is g5).mono ?_
      rintro e w14 ⟨rfl, hb'⟩
      have sB := sA.call hb'
      clear hb'
      go_wp2_with fail
      go_meet
      exact ⟨rfl, _, _, sB⟩
    · have hi := (i2_err _ _ g).symm.trans HI2.out
      clear HI2
      cases hi
      clear g
      go_wp2_with fail
      go_meet
      exact ⟨rfl, _, _, sA⟩
  case rest =>
  obtain ⟨rfl, p2, q2, s18⟩ := hcut
  clear c1 f1 c2 f2 c3 f3 sA
  obtain ⟨c1, f1, y18_1, c2, f2, y18_2, c3, f3, y18_3, -⟩ := s18.rules
  go_wp2_with fail
  refine (stimes_any _ _ _ _ ha hb hk).mono ?_
  rintro e w19 ⟨rfl, hb'⟩
  have s19 := s18.call hb'
  clear hb' c1 f1 c2 f2 c3 f3
  try simp only [World.size_setCell] at s19
  try simp only [World.size_alloc] at s19
  obtain ⟨c1, f1, zw19_1, c2, f2, zw19_2, c3, f3, zw19_3, -⟩ := s19.rules
  by_cases g : I64 (if k < 0 then b * k else a * k) ∧ I64 (if k < 0 then a * k else b * k)
  · obtain ⟨X, Y, hT, hI, hH⟩ : ∃ X Y, tiR a b k = (X, Y, 0) ∧ I64 (u * k) ∧ hasB X Y (u * k) = true := ⟨_, _, ti_mem a b u k u1 u2 g.1 g.2⟩
    have HV : okV (u * k) = u * k := okV_in _ hI
    have HE : okE (u * k) = 0 := okE_in _ hI
    clear g
    rw [hT]
    go_wp2_with fail
    refine (mul_any _ _ _ hu hk).mono ?_
    rintro e w' ⟨rfl, rfl⟩
    have sA := s19.set2 (u := .int .i64 X) (v := .int .i64 Y) (by simp; omega)
    clear c1 f1 c2 f2 c3 f3
    obtain ⟨c1, f1, z22_1, c2, f2, z22_2, c3, f3, z22_3, -⟩ := sA.rules
    go_wp2_with fail
    refine (shas_is hH).mono ?_
    rintro e w14 ⟨rfl, hb'⟩
    have sB := sA.call hb'
    clear hb'
    go_wp2
    go_ret
    exact ⟨rfl, sB.below⟩
  · have hT : tiR a b k = (0, 0, 10) := ti_err a b k (by omega) g
    clear g
    rw [hT]
    go_wp2_with fail
    refine (mul_any _ _ _ hu hk).mono ?_
    rintro e w' ⟨rfl, rfl⟩
    go_wp2
    go_ret
    exact ⟨rfl, s19.out2⟩
end Go.Proofs.Ytdpfnlefaegmeaa
