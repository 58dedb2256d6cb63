/- What lane's Join and the document's return; the walk of LaneJoins. -/
import Derived.Test.YtgimnoehagfhhaaLanF
import Derived.Test.YtgimnoehagfhhaaGenA
namespace Go.Proofs.Ytgimnoehagfhhaa
open Go.ChangeShapes Go.WideShapes Go.ChangeAt Go.RowKit
set_option linter.unusedVariables false
theorem Wd.hp {w0 : World} {l : List (Nat × Array Value × TypeId)} {B : Nat} {c : Array Value} {t : TypeId} (hm : (B, c, t) ∈ l) : ∀ w, (∃ n : Wd w0 l, w = n.w) → w.heap[B]? = some (.cells c t (0, 0)) := by
  rintro w ⟨n, rfl⟩
  exact (n.h.2 _ hm).1
theorem xmn_comm (a b : Int) : xmn a b = xmn b a := by unfold xmn; split <;> split <;> omega
theorem xmx_comm (a b : Int) : xmx a b = xmx b a := by unfold xmx; split <;> split <;> omega
theorem jn_comm (a b : Int × Int × Int) : jn a b = jn b a := by
  unfold jn
  rw [Int.add_comm b.1 a.1, xmn_comm b.2.1 a.2.1, xmx_comm b.2.2 a.2.2]
  by_cases h : a.1 = 0
  · by_cases g : b.1 = 0
    · rw [if_pos h, if_pos g, if_pos g, if_pos h]
    · rw [if_pos h, if_neg g, if_neg g, if_pos h]
  · by_cases g : b.1 = 0
    · rw [if_neg h, if_pos g, if_pos g, if_neg h]
    · rw [if_neg h, if_neg g, if_neg g, if_neg h]
def I6 (x : Int) : Prop := -9223372036854775808 ≤ x ∧ x ≤ 9223372036854775807
theorem jn_sum {a b : Int × Int × Int} (h : I6 a.1) (g : I6 b.1) : (jn a b).1 = wrap64 (a.1 + b.1) := by
  unfold I6 at h g
  unfold jn
  by_cases ha : a.1 = 0
  · rw [if_pos ha]
    by_cases hb : b.1 = 0
    · rw [if_pos hb, ha, hb]; unfold wrap64; simp
    · rw [if_neg hb, ha]; unfold wrap64; omega
  · rw [if_neg ha]
    by_cases hb : b.1 = 0
    · rw [if_pos hb, hb]; unfold wrap64; omega
    · rw [if_neg hb]
def loE (m a n b : Int) : Int := if m = 0 then (if n = 0 then 0 else b) else if n = 0 then a else xmn a b
def hiE (m a n b : Int) : Int := if m = 0 then (if n = 0 then 0 else b) else if n = 0 then a else xmx a b
theorem jn_lo (m a c n b d : Int) : (jn (m, a, c) (n, b, d)).2.1 = loE m a n b := by unfold jn loE; repeat' split
                                                                                     all_goals rfl
theorem jn_hi (m a c n b d : Int) : (jn (m, a, c) (n, b, d)).2.2 = hiE m c n d := by unfold jn hiE; repeat' split
                                                                                     all_goals rfl
theorem lo_hi {m a n b : Int} (h : ¬ (m ≠ 0 ∧ n ≠ 0)) : loE m a n b = hiE m a n b := by
  unfold loE hiE
  split
  · rfl
  · split
    · rfl
    · exact absurd ⟨by assumption, by assumption⟩ h
set_option maxHeartbeats 1000000 in
theorem rlow_any (m a n b L : Int) (w : World) (hL : loE m a n b = L) : Calls Try.prog 36 #[.int .i64 m, .int .i64 a, .int .i64 n, .int .i64 b] w fun e w' => e = .returned (.int .i64 L) ∧ w' = w := by
  unfold loE at hL
  by_cases hm : m = 0
  · rw [if_pos hm] at hL
    by_cases hn : n = 0
    · rw [if_pos hn] at hL
      subst hm hn hL
      go_enter Try.func36, Try.ntmps36
      go_wp2
      go_ret
      exact ⟨rfl, rfl⟩
    · rw [if_neg hn] at hL
      subst hm hL
      go_enter Try.func36, Try.ntmps36
      go_wp2
      go_ret
      exact ⟨rfl, rfl⟩
  · rw [if_neg hm] at hL
    by_cases hn : n = 0
    · rw [if_pos hn] at hL
      subst hn hL
      go_enter Try.func36, Try.ntmps36
      go_wp2
      go_ret
      exact ⟨rfl, rfl⟩
    · rw [if_neg hn] at hL
      have e1 : (m != 0) = true := by simp [hm]
      have e2 : (n != 0) = true := by simp [hn]
      have q := min2 a b L hL
      clear hL
      go_enter Try.func36, Try.ntmps36
      go_wp2
      go_ret
      exact ⟨rfl, rfl⟩
set_option maxHeartbeats 1000000 in
theorem rhigh_any (m a n b L : Int) (w : World) (hL : hiE m a n b = L) : Calls Try.prog 37 #[.int .i64 m, .int .i64 a, .int .i64 n, .int .i64 b] w fun e w' => e = .returned (.int .i64 L) ∧ w' = w := by
  by_cases hm : m ≠ 0 ∧ n ≠ 0
  · unfold hiE at hL
    rw [if_neg hm.1, if_neg hm.2] at hL
    have e1 : (m != 0) = true := by simp [hm.1]
    have e2 : (n != 0) = true := by simp [hm.2]
    have e3 := hm.1
    have e4 := hm.2
    have q := max2b a b L hL
    clear hL hm
    go_enter Try.func37, Try.ntmps37
    go_wp2
    go_ret
    exact ⟨rfl, rfl⟩
  · have HL : Hid (∀ w, _) := fun w => rlow_any m a n b L w (by rw [← hL]; exact lo_hi hm)
    clear hL
    by_cases h1 : m = 0
    · subst h1
      clear hm
      go_enter Try.func37, Try.ntmps37
      go_wp2_with fail
      refine (HL.out _).mono ?_
      rintro e w' ⟨rfl, rfl⟩
      go_wp2
      go_ret
      exact ⟨rfl, rfl⟩
    · obtain rfl : n = 0 := by omega
      clear hm
      have e1 : (m != 0) = true := by simp [h1]
      go_enter Try.func37, Try.ntmps37
      go_wp2_with fail
      refine (HL.out _).mono ?_
      rintro e w' ⟨rfl, rfl⟩
      go_wp2
      go_ret
      exact ⟨rfl, rfl⟩
set_option maxHeartbeats 2000000 in
theorem ljoin_any (a1 a2 a3 a4 a5 a6 a7 a8 a9 b1 b2 b3 b4 b5 b6 b7 b8 b9 j1 j2 j3 j4 j5 j6 j7 j8 j9 : Int) (W : World)
    (h1 : wrap64 (a1 + b1) = j1) (h3 : wrap64 (a3 + b3) = j3) (h5 : wrap64 (a5 + b5) = j5) (h2 : jn (a2, a6, a7) (b2, b6, b7) = (j2, j6, j7)) (h4 : jn (a4, a8, a9) (b4, b8, b9) = (j4, j8, j9)) :
    Calls Try.prog 23 #[.agg #[.int .i64 a1, .int .i64 a2, .int .i64 a3, .int .i64 a4, .int .i64 a5, .int .i64 a6, .int .i64 a7, .int .i64 a8, .int .i64 a9], .agg #[.int .i64 b1, .int .i64 b2, .int .i64 b3, .int .i64 b4, .int .i64 b5, .int .i64 b6, .int .i64 b7, .int .i64 b8, .int .i64 b9]] W fun e w' => e = .returned (.agg #[.int .i64 j1, .int .i64 j2, .int .i64 j3, .int .i64 j4, .int .i64 j5, .int .i64 j6, .int .i64 j7, .int .i64 j8, .int .i64 j9]) ∧ Below W.heap.size W w' := by
  have H2 : Hid (∀ w, _) := fun w => joined_any a2 a6 a7 b2 b6 b7 j2 j6 j7 w h2
  have H4 : Hid (∀ w, _) := fun w => joined_any a4 a8 a9 b4 b8 b9 j4 j8 j9 w h4
  clear h2 h4
  have s0 := (((St.start W).new (c := #[.int .i64 a1, .int .i64 a2, .int .i64 a3, .int .i64 a4, .int .i64 a5, .int .i64 a6, .int .i64 a7, .int .i64 a8, .int .i64 a9]) (t := 48)).new (c := #[.int .i64 b1, .int .i64 b2, .int .i64 b3, .int .i64 b4, .int .i64 b5, .int .i64 b6, .int .i64 b7, .int .i64 b8, .int .i64 b9]) (t := 48)).new (c := #[.int .i64 0, .int .i64 0, .int .i64 0, .int .i64 0, .int .i64 0, .int .i64 0, .int .i64 0, .int .i64 0, .int .i64 0]) (t := 48)
  simp only [World.size_alloc] at s0
  obtain ⟨c1, f1, z1, c2, f2, z2, c3, f3, z3, -⟩ := s0.rules
  go_enter Try.func23, Try.ntmps23
  go_wp2_with fail
  refine (H2.out _).mono ?_
  rintro e w1 ⟨rfl, hb⟩
  have s1 := (s0.call hb).new (c := #[.int .i64 j2, .int .i64 j6, .int .i64 j7]) (t := 65)
  clear hb s0 H2 c1 f1 z1 c2 f2 z2 c3 f3 z3
  obtain ⟨c1, f1, z1, c2, f2, z2, c3, f3, z3, c4, f4, z4, -⟩ := s1.rules
  go_wp2_with fail
  refine (H4.out _).mono ?_
  rintro e w2 ⟨rfl, hb⟩
  have s2 := (s1.call hb).new (c := #[.int .i64 j4, .int .i64 j8, .int .i64 j9]) (t := 65)
  clear hb s1 H4 c1 f1 z1 c2 f2 z2 c3 f3 z3 c4 f4 z4
  obtain ⟨c1, f1, z1, c2, f2, z2, c3, f3, z3, c4, f4, z4, c5, f5, z5, -⟩ := s2.rules
  have s3 := (s2.sub (l' := [(W.heap.size + 1 + 1, #[.int .i64 0, .int .i64 0, .int .i64 0, .int .i64 0, .int .i64 0, .int .i64 0, .int .i64 0, .int .i64 0, .int .i64 0], 48)]) (fun x hx => by simp only [List.mem_singleton] at hx; subst hx; simp)).set9 (.int .i64 j1) (.int .i64 j2) (.int .i64 j3) (.int .i64 j4) (.int .i64 j5) (.int .i64 j6) (.int .i64 j7) (.int .i64 j8) (.int .i64 j9) (fun x hx => by cases hx)
  have HS : Hid (Below W.heap.size W _) := s3.below
  obtain ⟨c6, -⟩ := s3.rules
  have HC : Hid (∀ i, _) := c6
  clear s2 s3 c6
  subst h1 h3 h5
  go_wp2
  exact bodyPost_ret (v := .agg #[.int .i64 (wrap64 (a1 + b1)), .int .i64 j2, .int .i64 (wrap64 (a3 + b3)), .int .i64 j4, .int .i64 (wrap64 (a5 + b5)), .int .i64 j6, .int .i64 j7, .int .i64 j8, .int .i64 j9]) (by have c6 := HC.out; simp [results, Try.results23, go_sem, c6]) rfl ⟨rfl, HS.out⟩
set_option maxHeartbeats 2000000 in
theorem rjoin_any (a1 a2 a3 a4 a5 a6 a7 a8 a9 b1 b2 b3 b4 b5 b6 b7 b8 b9 j1 j2 j3 j4 j5 j6 j7 j8 j9 : Int) (W : World)
    (h1 : wrap64 (a1 + b1) = j1) (h3 : wrap64 (a3 + b3) = j3) (h5 : wrap64 (a5 + b5) = j5) (h2 : wrap64 (a2 + b2) = j2) (h4 : wrap64 (a4 + b4) = j4)
    (h6 : loE a2 a6 b2 b6 = j6) (h7 : hiE a2 a7 b2 b7 = j7) (h8 : loE a4 a8 b4 b8 = j8) (h9 : hiE a4 a9 b4 b9 = j9) :
    Calls Try.prog 24 #[.agg #[.int .i64 a1, .int .i64 a2, .int .i64 a3, .int .i64 a4, .int .i64 a5, .int .i64 a6, .int .i64 a7, .int .i64 a8, .int .i64 a9], .agg #[.int .i64 b1, .int .i64 b2, .int .i64 b3, .int .i64 b4, .int .i64 b5, .int .i64 b6, .int .i64 b7, .int .i64 b8, .int .i64 b9]] W fun e w' => e = .returned (.agg #[.int .i64 j1, .int .i64 j2, .int .i64 j3, .int .i64 j4, .int .i64 j5, .int .i64 j6, .int .i64 j7, .int .i64 j8, .int .i64 j9]) ∧ Below W.heap.size W w' := by
  have H6 : Hid (∀ w, _) := fun w => rlow_any a2 a6 b2 b6 j6 w h6
  have H7 : Hid (∀ w, _) := fun w => rhigh_any a2 a7 b2 b7 j7 w h7
  have H8 : Hid (∀ w, _) := fun w => rlow_any a4 a8 b4 b8 j8 w h8
  have H9 : Hid (∀ w, _) := fun w => rhigh_any a4 a9 b4 b9 j9 w h9
  clear h6 h7 h8 h9
  have s0 := (((St.start W).new (c := #[.int .i64 a1, .int .i64 a2, .int .i64 a3, .int .i64 a4, .int .i64 a5, .int .i64 a6, .int .i64 a7, .int .i64 a8, .int .i64 a9]) (t := 48)).new (c := #[.int .i64 b1, .int .i64 b2, .int .i64 b3, .int .i64 b4, .int .i64 b5, .int .i64 b6, .int .i64 b7, .int .i64 b8, .int .i64 b9]) (t := 48)).new (c := #[.int .i64 0, .int .i64 0, .int .i64 0, .int .i64 0, .int .i64 0, .int .i64 0, .int .i64 0, .int .i64 0, .int .i64 0]) (t := 48)
  simp only [World.size_alloc] at s0
  have s1 := s0.new (c := #[.int .i64 (wrap64 (a1 + b1)), .int .i64 (wrap64 (a2 + b2)), .int .i64 (wrap64 (a3 + b3)), .int .i64 (wrap64 (a4 + b4)), .int .i64 (wrap64 (a5 + b5)), .int .i64 0, .int .i64 0, .int .i64 0, .int .i64 0]) (t := 48)
  simp only [World.size_alloc] at s1
  obtain ⟨c1, f1, z1, c2, f2, z2, c3, f3, z3, c4, f4, z4, -⟩ := s1.rules
  clear c1 f1 z1
  clear s0
  go_enter Try.func24, Try.ntmps24
  go_wp2_with fail
  refine (H6.out _).mono ?_
  rintro e w1 ⟨rfl, rfl⟩
  go_wp2_with fail
  refine (H7.out _).mono ?_
  rintro e w1 ⟨rfl, rfl⟩
  go_wp2_with fail
  refine (H8.out _).mono ?_
  rintro e w1 ⟨rfl, rfl⟩
  go_wp2_with fail
  refine (H9.out _).mono ?_
  rintro e w1 ⟨rfl, rfl⟩
  clear c2 f2 z2 H6 H7 H8 H9
  have HS : Hid (Below W.heap.size W ((((W.alloc (.cells #[.int .i64 a1, .int .i64 a2, .int .i64 a3, .int .i64 a4, .int .i64 a5, .int .i64 a6, .int .i64 a7, .int .i64 a8, .int .i64 a9] 48)).alloc (.cells #[.int .i64 b1, .int .i64 b2, .int .i64 b3, .int .i64 b4, .int .i64 b5, .int .i64 b6, .int .i64 b7, .int .i64 b8, .int .i64 b9] 48)).alloc (.cells #[.int .i64 j1, .int .i64 j2, .int .i64 j3, .int .i64 j4, .int .i64 j5, .int .i64 j6, .int .i64 j7, .int .i64 j8, .int .i64 j9] 48)).alloc (.cells #[.int .i64 j1, .int .i64 j2, .int .i64 j3, .int .i64 j4, .int .i64 j5, .int .i64 j6, .int .i64 j7, .int .i64 j8, .int .i64 j9] 48))) := ((((St.start W).new (c := #[.int .i64 a1, .int .i64 a2, .int .i64 a3, .int .i64 a4, .int .i64 a5, .int .i64 a6, .int .i64 a7, .int .i64 a8, .int .i64 a9]) (t := 48)).new (c := #[.int .i64 b1, .int .i64 b2, .int .i64 b3, .int .i64 b4, .int .i64 b5, .int .i64 b6, .int .i64 b7, .int .i64 b8, .int .i64 b9]) (t := 48)).new (c := #[.int .i64 j1, .int .i64 j2, .int .i64 j3, .int .i64 j4, .int .i64 j5, .int .i64 j6, .int .i64 j7, .int .i64 j8, .int .i64 j9]) (t := 48)).new (c := #[.int .i64 j1, .int .i64 j2, .int .i64 j3, .int .i64 j4, .int .i64 j5, .int .i64 j6, .int .i64 j7, .int .i64 j8, .int .i64 j9]) (t := 48) |>.below
  go_wp2
  exact bodyPost_ret (v := .agg #[.int .i64 j1, .int .i64 j2, .int .i64 j3, .int .i64 j4, .int .i64 j5, .int .i64 j6, .int .i64 j7, .int .i64 j8, .int .i64 j9]) (by simp [results, Try.results24, go_sem]) rfl ⟨rfl, HS.out⟩
theorem laneJoins_walk (a1 a2 a3 a4 a5 a6 a7 a8 a9 b1 b2 b3 b4 b5 b6 b7 b8 b9 : Int) (W : World)
    (u1 : (Lit.int .i64 a1).wf = true) (u2 : (Lit.int .i64 a2).wf = true) (u3 : (Lit.int .i64 a3).wf = true) (u4 : (Lit.int .i64 a4).wf = true) (u5 : (Lit.int .i64 a5).wf = true) (u6 : (Lit.int .i64 a6).wf = true) (u7 : (Lit.int .i64 a7).wf = true) (u8 : (Lit.int .i64 a8).wf = true) (u9 : (Lit.int .i64 a9).wf = true)
    (v1 : (Lit.int .i64 b1).wf = true) (v2 : (Lit.int .i64 b2).wf = true) (v3 : (Lit.int .i64 b3).wf = true) (v4 : (Lit.int .i64 b4).wf = true) (v5 : (Lit.int .i64 b5).wf = true) (v6 : (Lit.int .i64 b6).wf = true) (v7 : (Lit.int .i64 b7).wf = true) (v8 : (Lit.int .i64 b8).wf = true) (v9 : (Lit.int .i64 b9).wf = true) :
    Calls Try.prog 6 #[.agg #[.int .i64 a1, .int .i64 a2, .int .i64 a3, .int .i64 a4, .int .i64 a5, .int .i64 a6, .int .i64 a7, .int .i64 a8, .int .i64 a9], .agg #[.int .i64 b1, .int .i64 b2, .int .i64 b3, .int .i64 b4, .int .i64 b5, .int .i64 b6, .int .i64 b7, .int .i64 b8, .int .i64 b9]] W fun e w' => e = .returned (.bool true) ∧ Below W.heap.size W w' := by
  have i2 : I6 a2 := wf_i64 u2
  have i4 : I6 a4 := wf_i64 u4
  have k2 : I6 b2 := wf_i64 v2
  have k4 : I6 b4 := wf_i64 v4
  clear u1 u2 u3 u4 u5 u6 u7 u8 u9 v1 v2 v3 v4 v5 v6 v7 v8 v9
  -- both, either way round
  obtain ⟨⟨j2, j6, j7⟩, h2⟩ : ∃ J, jn (a2, a6, a7) (b2, b6, b7) = J := ⟨_, rfl⟩
  obtain ⟨⟨j4, j8, j9⟩, h4⟩ : ∃ J, jn (a4, a8, a9) (b4, b8, b9) = J := ⟨_, rfl⟩
  obtain ⟨j1, h1⟩ : ∃ j, wrap64 (a1 + b1) = j := ⟨_, rfl⟩
  obtain ⟨j3, h3⟩ : ∃ j, wrap64 (a3 + b3) = j := ⟨_, rfl⟩
  obtain ⟨j5, h5⟩ : ∃ j, wrap64 (a5 + b5) = j := ⟨_, rfl⟩
  have HA : Hid (∀ w, _) := fun w => ljoin_any a1 a2 a3 a4 a5 a6 a7 a8 a9 b1 b2 b3 b4 b5 b6 b7 b8 b9 j1 j2 j3 j4 j5 j6 j7 j8 j9 w h1 h3 h5 h2 h4
  have HB : Hid (∀ w, _) := fun w => ljoin_any b1 b2 b3 b4 b5 b6 b7 b8 b9 a1 a2 a3 a4 a5 a6 a7 a8 a9 j1 j2 j3 j4 j5 j6 j7 j8 j9 w (by rw [Int.add_comm]; exact h1) (by rw [Int.add_comm]; exact h3) (by rw [Int.add_comm]; exact h5) (by rw [jn_comm]; exact h2) (by rw [jn_comm]; exact h4)
  have HR : Hid (∀ w, _) := fun w => rjoin_any a1 a2 a3 a4 a5 a6 a7 a8 a9 b1 b2 b3 b4 b5 b6 b7 b8 b9 j1 j2 j3 j4 j5 j6 j7 j8 j9 w h1 h3 h5 (by rw [← jn_sum (a := (a2, a6, a7)) (b := (b2, b6, b7)) i2 k2, h2]) (by rw [← jn_sum (a := (a4, a8, a9)) (b := (b4, b8, b9)) i4 k4, h4])
    (by rw [← jn_lo a2 a6 a7 b2 b6 b7, h2]) (by rw [← jn_hi a2 a6 a7 b2 b6 b7, h2]) (by rw [← jn_lo a4 a8 a9 b4 b8 b9, h4]) (by rw [← jn_hi a4 a8 a9 b4 b8 b9, h4])
  clear h1 h2 h3 h4 h5 k2 k4
  have k0 : I6 0 := by unfold I6; omega
  -- one and none
  obtain ⟨⟨n2, n6, n7⟩, h2⟩ : ∃ J, jn (a2, a6, a7) (0, 0, 0) = J := ⟨_, rfl⟩
  obtain ⟨⟨n4, n8, n9⟩, h4⟩ : ∃ J, jn (a4, a8, a9) (0, 0, 0) = J := ⟨_, rfl⟩
  obtain ⟨n1, h1⟩ : ∃ j, wrap64 (a1 + 0) = j := ⟨_, rfl⟩
  obtain ⟨n3, h3⟩ : ∃ j, wrap64 (a3 + 0) = j := ⟨_, rfl⟩
  obtain ⟨n5, h5⟩ : ∃ j, wrap64 (a5 + 0) = j := ⟨_, rfl⟩
  have HC : Hid (∀ w, _) := fun w => ljoin_any a1 a2 a3 a4 a5 a6 a7 a8 a9 0 0 0 0 0 0 0 0 0 n1 n2 n3 n4 n5 n6 n7 n8 n9 w h1 h3 h5 h2 h4
  have HD : Hid (∀ w, _) := fun w => rjoin_any a1 a2 a3 a4 a5 a6 a7 a8 a9 0 0 0 0 0 0 0 0 0 n1 n2 n3 n4 n5 n6 n7 n8 n9 w h1 h3 h5 (by rw [← jn_sum (a := (a2, a6, a7)) (b := (0, 0, 0)) i2 k0, h2]) (by rw [← jn_sum (a := (a4, a8, a9)) (b := (0, 0, 0)) i4 k0, h4])
    (by rw [← jn_lo a2 a6 a7 0 0 0, h2]) (by rw [← jn_hi a2 a6 a7 0 0 0, h2]) (by rw [← jn_lo a4 a8 a9 0 0 0, h4]) (by rw [← jn_hi a4 a8 a9 0 0 0, h4])
  clear h1 h2 h3 h4 h5 k0 i2 i4
  have q1 := eq9 j1 j2 j3 j4 j5 j6 j7 j8 j9
  have q2 := eq9 n1 n2 n3 n4 n5 n6 n7 n8 n9
  have s0 := ((St.start W).new (c := #[.int .i64 a1, .int .i64 a2, .int .i64 a3, .int .i64 a4, .int .i64 a5, .int .i64 a6, .int .i64 a7, .int .i64 a8, .int .i64 a9]) (t := 48)).new (c := #[.int .i64 b1, .int .i64 b2, .int .i64 b3, .int .i64 b4, .int .i64 b5, .int .i64 b6, .int .i64 b7, .int .i64 b8, .int .i64 b9]) (t := 48)
  simp only [World.size_alloc] at s0
  obtain ⟨c1, g1, c2, g2, -⟩ := rulesQ W [(W.heap.size + 1, #[.int .i64 b1, .int .i64 b2, .int .i64 b3, .int .i64 b4, .int .i64 b5, .int .i64 b6, .int .i64 b7, .int .i64 b8, .int .i64 b9], 48), (W.heap.size, #[.int .i64 a1, .int .i64 a2, .int .i64 a3, .int .i64 a4, .int .i64 a5, .int .i64 a6, .int .i64 a7, .int .i64 a8, .int .i64 a9], 48)]
  have hne := Nonempty.intro (Wd.mk _ s0)
  go_enter Try.func6, Try.ntmps6
  go_upto_region 1 with fail
  refine region_held s0 (by kernel_rfl) (by kernel_rfl) ?_
  repeat (first
    | (go_big_quiet_want; refine quiet_ld 48 (.tmp 2) rfl _ rfl 48 _ _ (Wd.hp (List.mem_cons_of_mem _ List.mem_cons_self)) Try.underlying48 rfl (by kernel_rfl) rfl ?_; go_simp; go_big_quiet_on)
    | (go_big_quiet_want; refine quiet_ld 48 (.tmp 3) rfl _ rfl 48 _ _ (Wd.hp List.mem_cons_self) Try.underlying48 rfl (by kernel_rfl) rfl ?_; go_simp; go_big_quiet_on)
    | (go_big_quiet_step ((first
      | (go_at_call 15; exact held_of (fixed_any _))
      | (go_at_call 23; with_reducible exact held_of (HA.out _))
      | (go_at_call 23; with_reducible exact held_of (HB.out _))
      | (go_at_call 23; with_reducible exact held_of (HC.out _))
      | (go_at_call 24; with_reducible exact held_of (HR.out _))
      | (go_at_call 24; with_reducible exact held_of (HD.out _))))))
  refine wpQuiet_nil ?_
  intro _ hw'
  obtain ⟨nq, rfl⟩ := hw'
  have s12 := nq.h
  obtain ⟨w12, hw12⟩ : ∃ w, nq.w = w := ⟨_, rfl⟩
  rw [hw12] at s12 ⊢
  clear c1 g1 c2 g2 hne s0 hw12
  go_wp2
  go_ret
  exact ⟨rfl, s12.below⟩
end Go.Proofs.Ytgimnoehagfhhaa
