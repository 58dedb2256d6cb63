/- The walk of BoundNests. -/
import Derived.Test.YtbogpgaifbjahaaGr29
import Derived.Test.YtbogpgaifbjahaaGr30
/- The walk of BoundNests. -/
namespace Go.Proofs.Ytbogpgaifbjahaa
open Go.ChangeShapes Go.WideShapes Go.ChangeAt Go.RowKit
set_option linter.unusedVariables false
theorem bneS (T : TypeId) (hT : T = 28) (a1 a2 b1 b2 : Int) (v : Bool) (h : decide (a1 = b1 ∧ a2 = b2) = v) : ∀ W, (binOp .neq T (.agg #[.int .i64 a1, .int .i64 a2]) (.agg #[.int .i64 b1, .int .i64 b2])).run Try.prog W = .ok (.bool (!v)) W := by
  intro W; subst h hT; simp [go_sem]; split <;> simp_all <;> split <;> simp_all
theorem xh_t {a b c d : Int} (h : xho a b c d = true) (w : World) : Calls Try.prog 17 #[.agg #[.int .i64 a, .int .i64 b], .agg #[.int .i64 c, .int .i64 d]] w fun e w' => e = .returned (.bool true) ∧ Below w.heap.size w w' := by
  have := xholds_any a b c d w
  rwa [h] at this
set_option maxHeartbeats 4000000 in
set_option maxRecDepth 100000 in
theorem nests_e (h w c lo hi : Int) (oa : Option Addr) (on oc : Nat) (ot op ch slo shi dp at' : Int) (ad : Option Addr) (n cap : Nat) (W : World) (ylo yhi E : Int) (hE : E ≠ 0) (HT : Hid (∀ W', Below W.heap.size W W' → Calls Try.prog 8 #[.agg #[.int .i64 h, .int .i64 w, .int .i64 c, .int .i64 lo, .int .i64 hi, .slice oa on oc, .int .i64 ot], .int .i64 op, .int .i64 ch, .agg #[.int .i64 slo, .int .i64 shi]] W' fun e w' => e = .returned (.tuple #[.agg #[.int .i64 0, .int .i64 0], .int .i64 E]) ∧ Below W'.heap.size W' w')) :
    Calls Try.prog 5 #[.agg #[.int .i64 h, .int .i64 w, .int .i64 c, .int .i64 lo, .int .i64 hi, .slice oa on oc, .int .i64 ot, .int .i64 op, .int .i64 ch, .int .i64 slo, .int .i64 shi, .int .i64 dp, .int .i64 at', .slice ad n cap], .agg #[.int .i64 ylo, .int .i64 yhi]] W fun e w' => e = .returned (.bool true) ∧ Below W.heap.size W w' := by
  have s0 := ((St.start W).new (c := #[.int .i64 h, .int .i64 w, .int .i64 c, .int .i64 lo, .int .i64 hi, .slice oa on oc, .int .i64 ot, .int .i64 op, .int .i64 ch, .int .i64 slo, .int .i64 shi, .int .i64 dp, .int .i64 at', .slice ad n cap]) (t := 31)).new (c := #[.int .i64 ylo, .int .i64 yhi]) (t := 28)
  simp only [World.size_alloc] at s0
  have hE' : (E == 0) = false := by simp [hE]
  have q1 := beqS 28 rfl 0 0 0 0 true (by decide)
  go_enter Try.func5, Try.ntmps5
  go_wp2_with fail
  refine (fixed13_any _).mono ?_
  rintro e w1 ⟨rfl, hb⟩
  have s1 := s0.call hb
  clear hb s0
  obtain ⟨c1, f1, z1, c2, f2, z2, -⟩ := s1.rules
  go_wp2_with fail
  refine Calls.mono (HT.out _ s1.below) ?_
  rintro e w2 ⟨rfl, hb⟩
  have s2 := (s1.call hb).new (c := #[.int .i64 0, .int .i64 0]) (t := 28)
  clear hb s1 HT c1 f1 z1 c2 f2 z2
  obtain ⟨c1, f1, z1, -⟩ := s2.rules
  go_wp2
  go_ret
  exact ⟨rfl, s2.below⟩
set_option maxHeartbeats 16000000 in
set_option maxRecDepth 100000 in
theorem nests_w (h w c lo hi : Int) (oa : Option Addr) (on oc : Nat) (ot op ch slo shi dp at' : Int) (ad : Option Addr) (n cap : Nat) (W : World) (ylo yhi T1 T2 R1 R2 Q1 Q2 V1 V2 Z1 Z2 EZ U1 U2 EU S1 S2 ES O1 O2 EO Y1 Y2 EY : Int) (HT : Hid (∀ W', Below W.heap.size W W' → Calls Try.prog 8 #[.agg #[.int .i64 h, .int .i64 w, .int .i64 c, .int .i64 lo, .int .i64 hi, .slice oa on oc, .int .i64 ot], .int .i64 op, .int .i64 ch, .agg #[.int .i64 slo, .int .i64 shi]] W' fun e w' => e = .returned (.tuple #[.agg #[.int .i64 T1, .int .i64 T2], .int .i64 0]) ∧ Below W'.heap.size W' w')) (HR : Hid (∀ W', Below W.heap.size W W' → Calls Try.prog 9 #[.agg #[.int .i64 h, .int .i64 w, .int .i64 c, .int .i64 lo, .int .i64 hi, .slice oa on oc, .int .i64 ot], .int .i64 op, .int .i64 ch, .agg #[.int .i64 slo, .int .i64 shi]] W' fun e w' => e = .returned (.tuple #[.agg #[.int .i64 R1, .int .i64 R2], .int .i64 0]) ∧ Below W'.heap.size W' w')) (HP : Hid (∀ W', Below W.heap.size W W' → Calls Try.prog 10 #[.agg #[.int .i64 h, .int .i64 w, .int .i64 c, .int .i64 lo, .int .i64 hi, .slice oa on oc, .int .i64 ot], .int .i64 op, .int .i64 ch, .agg #[.int .i64 slo, .int .i64 shi], .int .i64 1] W' fun e w' => e = .returned (.tuple #[.agg #[.int .i64 Q1, .int .i64 Q2], .int .i64 0]) ∧ Below W'.heap.size W' w')) (HQ : Hid (∀ W', Below W.heap.size W W' → Calls Try.prog 11 #[.agg #[.int .i64 h, .int .i64 w, .int .i64 c, .int .i64 lo, .int .i64 hi, .slice oa on oc, .int .i64 ot], .int .i64 op, .int .i64 ch, .agg #[.int .i64 slo, .int .i64 shi]] W' fun e w' => e = .returned (.tuple #[.agg #[.int .i64 Q1, .int .i64 Q2], .int .i64 0]) ∧ Below W'.heap.size W' w')) (HW : Hid (∀ W', Below W.heap.size W W' → Calls Try.prog 16 #[.agg #[.int .i64 h, .int .i64 w, .int .i64 c, .int .i64 lo, .int .i64 hi, .slice oa on oc, .int .i64 ot], .int .i64 op, .int .i64 ch, .agg #[.int .i64 slo, .int .i64 shi]] W' fun e w' => e = .returned (.tuple #[.agg #[.int .i64 V1, .int .i64 V2], .int .i64 0]) ∧ Below W'.heap.size W' w')) (HZ : Hid (∀ W', Below W.heap.size W W' → Calls Try.prog 10 #[.agg #[.int .i64 h, .int .i64 w, .int .i64 c, .int .i64 lo, .int .i64 hi, .slice oa on oc, .int .i64 ot], .int .i64 op, .int .i64 ch, .agg #[.int .i64 slo, .int .i64 shi], .int .i64 dp] W' fun e w' => e = .returned (.tuple #[.agg #[.int .i64 Z1, .int .i64 Z2], .int .i64 EZ]) ∧ Below W'.heap.size W' w')) (HU : Hid (∀ W', Below W.heap.size W W' → Calls Try.prog 8 #[.agg #[.int .i64 h, .int .i64 w, .int .i64 c, .int .i64 lo, .int .i64 hi, .slice oa on oc, .int .i64 ot], .int .i64 op, .int .i64 ch, .agg #[.int .i64 ylo, .int .i64 yhi]] W' fun e w' => e = .returned (.tuple #[.agg #[.int .i64 U1, .int .i64 U2], .int .i64 EU]) ∧ Below W'.heap.size W' w')) (HS : Hid (∀ W', Below W.heap.size W W' → Calls Try.prog 9 #[.agg #[.int .i64 h, .int .i64 w, .int .i64 c, .int .i64 lo, .int .i64 hi, .slice oa on oc, .int .i64 ot], .int .i64 op, .int .i64 ch, .agg #[.int .i64 ylo, .int .i64 yhi]] W' fun e w' => e = .returned (.tuple #[.agg #[.int .i64 S1, .int .i64 S2], .int .i64 ES]) ∧ Below W'.heap.size W' w')) (HO : Hid (∀ W', Below W.heap.size W W' → Calls Try.prog 11 #[.agg #[.int .i64 h, .int .i64 w, .int .i64 c, .int .i64 lo, .int .i64 hi, .slice oa on oc, .int .i64 ot], .int .i64 op, .int .i64 ch, .agg #[.int .i64 ylo, .int .i64 yhi]] W' fun e w' => e = .returned (.tuple #[.agg #[.int .i64 O1, .int .i64 O2], .int .i64 EO]) ∧ Below W'.heap.size W' w')) (HY : Hid (∀ W', Below W.heap.size W W' → Calls Try.prog 10 #[.agg #[.int .i64 h, .int .i64 w, .int .i64 c, .int .i64 lo, .int .i64 hi, .slice oa on oc, .int .i64 ot], .int .i64 op, .int .i64 ch, .agg #[.int .i64 ylo, .int .i64 yhi], .int .i64 dp] W' fun e w' => e = .returned (.tuple #[.agg #[.int .i64 Y1, .int .i64 Y2], .int .i64 EY]) ∧ Below W'.heap.size W' w'))
    (h1 : xho R1 R2 T1 T2 = true) (h2 : xho V1 V2 R1 R2 = true) (h3 : EZ = 0 → xho Z1 Z2 Q1 Q2 = true) (h4 : EU = 0 → xho ylo yhi slo shi = true → xho U1 U2 T1 T2 = true ∧ xho S1 S2 R1 R2 = true ∧ xho O1 O2 Q1 Q2 = true ∧ xho Y1 Y2 Z1 Z2 = true) :
    Calls Try.prog 5 #[.agg #[.int .i64 h, .int .i64 w, .int .i64 c, .int .i64 lo, .int .i64 hi, .slice oa on oc, .int .i64 ot, .int .i64 op, .int .i64 ch, .int .i64 slo, .int .i64 shi, .int .i64 dp, .int .i64 at', .slice ad n cap], .agg #[.int .i64 ylo, .int .i64 yhi]] W fun e w' => e = .returned (.bool true) ∧ Below W.heap.size W w' := by
  have s0 := ((St.start W).new (c := #[.int .i64 h, .int .i64 w, .int .i64 c, .int .i64 lo, .int .i64 hi, .slice oa on oc, .int .i64 ot, .int .i64 op, .int .i64 ch, .int .i64 slo, .int .i64 shi, .int .i64 dp, .int .i64 at', .slice ad n cap]) (t := 31)).new (c := #[.int .i64 ylo, .int .i64 yhi]) (t := 28)
  simp only [World.size_alloc] at s0
  have H1 : Hid (∀ w, _) := xh_t h1
  have H2 : Hid (∀ w, _) := xh_t h2
  have H3 : Hid (EZ = 0 → ∀ w, _) := fun q => xh_t (h3 q)
  have H4 : Hid (EU = 0 → xho ylo yhi slo shi = true → _) := h4
  have qn := bneS 28 rfl Q1 Q2 Q1 Q2 true (by simp)
  clear h1 h2 h3 h4
  go_enter Try.func5, Try.ntmps5
  go_wp2_with fail
  refine (fixed13_any _).mono ?_
  rintro e w1 ⟨rfl, hb⟩
  have s1 := s0.call hb
  clear hb s0
  obtain ⟨c1, f1, z1, c2, f2, z2, -⟩ := s1.rules
  go_wp2_with fail
  refine Calls.mono (HT.out _ s1.below) ?_
  rintro e w2 ⟨rfl, hb⟩
  have s2 := (s1.call hb).new (c := #[.int .i64 T1, .int .i64 T2]) (t := 28)
  clear hb s1 HT c1 f1 z1 c2 f2 z2
  obtain ⟨c1, f1, z1, c2, f2, z2, c3, f3, z3, -⟩ := s2.rules
  go_wp2_with fail
  refine Calls.mono (HR.out _ s2.below) ?_
  rintro e w3 ⟨rfl, hb⟩
  have s3 := (s2.call hb).new (c := #[.int .i64 R1, .int .i64 R2]) (t := 28)
  clear hb s2 HR c1 f1 z1 c2 f2 z2 c3 f3 z3
  obtain ⟨c1, f1, z1, c2, f2, z2, c3, f3, z3, c4, f4, z4, -⟩ := s3.rules
  go_wp2_with fail
  refine Calls.mono (HP.out _ s3.below) ?_
  rintro e w4 ⟨rfl, hb⟩
  have s4 := (s3.call hb).new (c := #[.int .i64 Q1, .int .i64 Q2]) (t := 28)
  clear hb s3 HP c1 f1 z1 c2 f2 z2 c3 f3 z3 c4 f4 z4
  obtain ⟨c1, f1, z1, c2, f2, z2, c3, f3, z3, c4, f4, z4, c5, f5, z5, -⟩ := s4.rules
  go_wp2_with fail
  refine Calls.mono (HQ.out _ s4.below) ?_
  rintro e w5 ⟨rfl, hb⟩
  have s5 := (s4.call hb).new (c := #[.int .i64 Q1, .int .i64 Q2]) (t := 28)
  clear hb s4 HQ c1 f1 z1 c2 f2 z2 c3 f3 z3 c4 f4 z4 c5 f5 z5
  obtain ⟨c1, f1, z1, c2, f2, z2, c3, f3, z3, c4, f4, z4, c5, f5, z5, c6, f6, z6, -⟩ := s5.rules
  go_wp2_with fail
  refine Calls.mono (HW.out _ s5.below) ?_
  rintro e w6 ⟨rfl, hb⟩
  have s6 := (s5.call hb).new (c := #[.int .i64 V1, .int .i64 V2]) (t := 28)
  clear hb s5 HW c1 f1 z1 c2 f2 z2 c3 f3 z3 c4 f4 z4 c5 f5 z5 c6 f6 z6
  obtain ⟨c1, f1, z1, c2, f2, z2, c3, f3, z3, c4, f4, z4, c5, f5, z5, c6, f6, z6, c7, f7, z7, -⟩ := s6.rules
  go_wp2_with fail
  refine Calls.mono (H1.out _) ?_
  rintro e w7 ⟨rfl, hb⟩
  have s7 := s6.call hb
  clear hb s6 c1 f1 z1 c2 f2 z2 c3 f3 z3 c4 f4 z4 c5 f5 z5 c6 f6 z6 c7 f7 z7
  obtain ⟨c1, f1, z1, c2, f2, z2, c3, f3, z3, c4, f4, z4, c5, f5, z5, c6, f6, z6, c7, f7, z7, -⟩ := s7.rules
  go_wp2_with fail
  refine Calls.mono (H2.out _) ?_
  rintro e w8 ⟨rfl, hb⟩
  have s8 := s7.call hb
  clear hb s7 c1 f1 z1 c2 f2 z2 c3 f3 z3 c4 f4 z4 c5 f5 z5 c6 f6 z6 c7 f7 z7
  obtain ⟨c1, f1, z1, c2, f2, z2, c3, f3, z3, c4, f4, z4, c5, f5, z5, c6, f6, z6, c7, f7, z7, -⟩ := s8.rules
  go_wp2_with fail
  refine Calls.mono (HZ.out _ s8.below) ?_
  rintro e w9 ⟨rfl, hb⟩
  have s9 := (s8.call hb).new (c := #[.int .i64 Z1, .int .i64 Z2]) (t := 28)
  clear hb s8 HZ c1 f1 z1 c2 f2 z2 c3 f3 z3 c4 f4 z4 c5 f5 z5 c6 f6 z6 c7 f7 z7
  obtain ⟨c1, f1, z1, c2, f2, z2, c3, f3, z3, c4, f4, z4, c5, f5, z5, c6, f6, z6, c7, f7, z7, c8, f8, z8, -⟩ := s9.rules
  clear H1 H2
  by_cases hz : EZ = 0
  · have HZ0 : Hid (∀ w, _) := H3.out hz
    subst hz
    clear H3
    go_wp2_with fail
    refine Calls.mono (HZ0.out _) ?_
    rintro e w10 ⟨rfl, hb⟩
    have s10 := s9.call hb
    clear hb s9 c1 f1 z1 c2 f2 z2 c3 f3 z3 c4 f4 z4 c5 f5 z5 c6 f6 z6 c7 f7 z7 c8 f8 z8
    obtain ⟨c1, f1, z1, c2, f2, z2, c3, f3, z3, c4, f4, z4, c5, f5, z5, c6, f6, z6, c7, f7, z7, c8, f8, z8, -⟩ := s10.rules
    go_wp2_with fail
    refine Calls.mono (HU.out _ s10.below) ?_
    rintro e w11 ⟨rfl, hb⟩
    have s11 := (s10.call hb).new (c := #[.int .i64 U1, .int .i64 U2]) (t := 28)
    clear hb s10 HU c1 f1 z1 c2 f2 z2 c3 f3 z3 c4 f4 z4 c5 f5 z5 c6 f6 z6 c7 f7 z7 c8 f8 z8
    obtain ⟨c1, f1, z1, c2, f2, z2, c3, f3, z3, c4, f4, z4, c5, f5, z5, c6, f6, z6, c7, f7, z7, c8, f8, z8, c9, f9, z9, -⟩ := s11.rules
    by_cases hu : EU = 0
    rotate_left
    · have hu' : (EU == 0) = false := by simp [hu]
      clear HS HO HY H4
      go_wp2
      go_ret
      exact ⟨rfl, s11.below⟩
    have HX : Hid (∀ w, _) := xholds_any ylo yhi slo shi
    cases hx : xho ylo yhi slo shi with
    | false =>
      rw [hx] at HX
      subst hu
      clear HS HO HY H4 hx
      go_wp2_with fail
      refine Calls.mono (HX.out _) ?_
      rintro e w12 ⟨rfl, hb⟩
      have s12 := s11.call hb
      clear hb s11 c1 f1 z1 c2 f2 z2 c3 f3 z3 c4 f4 z4 c5 f5 z5 c6 f6 z6 c7 f7 z7 c8 f8 z8 c9 f9 z9
      go_wp2
      go_ret
      exact ⟨rfl, s12.below⟩
    | true =>
      rw [hx] at HX
      obtain ⟨k1, k2, k3, k4⟩ := H4.out hu hx
      have K1 : Hid (∀ w, _) := xh_t k1
      have K2 : Hid (∀ w, _) := xh_t k2
      have K3 : Hid (∀ w, _) := xh_t k3
      have K4 : Hid (∀ w, _) := xh_t k4
      subst hu
      clear H4 hx k1 k2 k3 k4
      go_wp2_with fail
      refine Calls.mono (HX.out _) ?_
      rintro e w12 ⟨rfl, hb⟩
      have s12 := s11.call hb
      clear hb s11 c1 f1 z1 c2 f2 z2 c3 f3 z3 c4 f4 z4 c5 f5 z5 c6 f6 z6 c7 f7 z7 c8 f8 z8 c9 f9 z9
      obtain ⟨c1, f1, z1, c2, f2, z2, c3, f3, z3, c4, f4, z4, c5, f5, z5, c6, f6, z6, c7, f7, z7, c8, f8, z8, c9, f9, z9, -⟩ := s12.rules
      go_wp2_with fail
      refine Calls.mono (HS.out _ s12.below) ?_
      rintro e w13 ⟨rfl, hb⟩
      have s13 := (s12.call hb).new (c := #[.int .i64 S1, .int .i64 S2]) (t := 28)
      clear hb s12 HS c1 f1 z1 c2 f2 z2 c3 f3 z3 c4 f4 z4 c5 f5 z5 c6 f6 z6 c7 f7 z7 c8 f8 z8 c9 f9 z9
      obtain ⟨c1, f1, z1, c2, f2, z2, c3, f3, z3, c4, f4, z4, c5, f5, z5, c6, f6, z6, c7, f7, z7, c8, f8, z8, c9, f9, z9, c10, f10, z10, -⟩ := s13.rules
      go_wp2_with fail
      refine Calls.mono (HO.out _ s13.below) ?_
      rintro e w14 ⟨rfl, hb⟩
      have s14 := (s13.call hb).new (c := #[.int .i64 O1, .int .i64 O2]) (t := 28)
      clear hb s13 HO c1 f1 z1 c2 f2 z2 c3 f3 z3 c4 f4 z4 c5 f5 z5 c6 f6 z6 c7 f7 z7 c8 f8 z8 c9 f9 z9 c10 f10 z10
      obtain ⟨c1, f1, z1, c2, f2, z2, c3, f3, z3, c4, f4, z4, c5, f5, z5, c6, f6, z6, c7, f7, z7, c8, f8, z8, c9, f9, z9, c10, f10, z10, c11, f11, z11, -⟩ := s14.rules
      go_wp2_with fail
      refine Calls.mono (HY.out _ s14.below) ?_
      rintro e w15 ⟨rfl, hb⟩
      have s15 := (s14.call hb).new (c := #[.int .i64 Y1, .int .i64 Y2]) (t := 28)
      clear hb s14 HY c1 f1 z1 c2 f2 z2 c3 f3 z3 c4 f4 z4 c5 f5 z5 c6 f6 z6 c7 f7 z7 c8 f8 z8 c9 f9 z9 c10 f10 z10 c11 f11 z11
      obtain ⟨c1, f1, z1, c2, f2, z2, c3, f3, z3, c4, f4, z4, c5, f5, z5, c6, f6, z6, c7, f7, z7, c8, f8, z8, c9, f9, z9, c10, f10, z10, c11, f11, z11, c12, f12, z12, -⟩ := s15.rules
      go_wp2_with fail
      refine Calls.mono (K1.out _) ?_
      rintro e w16 ⟨rfl, hb⟩
      have s16 := s15.call hb
      clear hb s15 c1 f1 z1 c2 f2 z2 c3 f3 z3 c4 f4 z4 c5 f5 z5 c6 f6 z6 c7 f7 z7 c8 f8 z8 c9 f9 z9 c10 f10 z10 c11 f11 z11 c12 f12 z12
      obtain ⟨c1, f1, z1, c2, f2, z2, c3, f3, z3, c4, f4, z4, c5, f5, z5, c6, f6, z6, c7, f7, z7, c8, f8, z8, c9, f9, z9, c10, f10, z10, c11, f11, z11, c12, f12, z12, -⟩ := s16.rules
      go_wp2_with fail
      refine Calls.mono (K2.out _) ?_
      rintro e w17 ⟨rfl, hb⟩
      have s17 := s16.call hb
      clear hb s16 c1 f1 z1 c2 f2 z2 c3 f3 z3 c4 f4 z4 c5 f5 z5 c6 f6 z6 c7 f7 z7 c8 f8 z8 c9 f9 z9 c10 f10 z10 c11 f11 z11 c12 f12 z12
      obtain ⟨c1, f1, z1, c2, f2, z2, c3, f3, z3, c4, f4, z4, c5, f5, z5, c6, f6, z6, c7, f7, z7, c8, f8, z8, c9, f9, z9, c10, f10, z10, c11, f11, z11, c12, f12, z12, -⟩ := s17.rules
      go_wp2_with fail
      refine Calls.mono (K3.out _) ?_
      rintro e w18 ⟨rfl, hb⟩
      have s18 := s17.call hb
      clear hb s17 c1 f1 z1 c2 f2 z2 c3 f3 z3 c4 f4 z4 c5 f5 z5 c6 f6 z6 c7 f7 z7 c8 f8 z8 c9 f9 z9 c10 f10 z10 c11 f11 z11 c12 f12 z12
      obtain ⟨c1, f1, z1, c2, f2, z2, c3, f3, z3, c4, f4, z4, c5, f5, z5, c6, f6, z6, c7, f7, z7, c8, f8, z8, c9, f9, z9, c10, f10, z10, c11, f11, z11, c12, f12, z12, -⟩ := s18.rules
      go_wp2_with fail
      refine Calls.mono (K4.out _) ?_
      rintro e w19 ⟨rfl, hb⟩
      have s19 := s18.call hb
      clear hb s18 c1 f1 z1 c2 f2 z2 c3 f3 z3 c4 f4 z4 c5 f5 z5 c6 f6 z6 c7 f7 z7 c8 f8 z8 c9 f9 z9 c10 f10 z10 c11 f11 z11 c12 f12 z12
      go_wp2
      go_ret
      exact ⟨rfl, s19.below⟩
  · have hz' : (EZ == 0) = false := by simp [hz]
    clear H3
    go_wp2_with fail
    refine Calls.mono (HU.out _ s9.below) ?_
    rintro e w10 ⟨rfl, hb⟩
    have s10 := (s9.call hb).new (c := #[.int .i64 U1, .int .i64 U2]) (t := 28)
    clear hb s9 HU c1 f1 z1 c2 f2 z2 c3 f3 z3 c4 f4 z4 c5 f5 z5 c6 f6 z6 c7 f7 z7 c8 f8 z8
    obtain ⟨c1, f1, z1, c2, f2, z2, c3, f3, z3, c4, f4, z4, c5, f5, z5, c6, f6, z6, c7, f7, z7, c8, f8, z8, c9, f9, z9, -⟩ := s10.rules
    by_cases hu : EU = 0
    rotate_left
    · have hu' : (EU == 0) = false := by simp [hu]
      clear HS HO HY H4
      go_wp2
      go_ret
      exact ⟨rfl, s10.below⟩
    have HX : Hid (∀ w, _) := xholds_any ylo yhi slo shi
    cases hx : xho ylo yhi slo shi with
    | false =>
      rw [hx] at HX
      subst hu
      clear HS HO HY H4 hx
      go_wp2_with fail
      refine Calls.mono (HX.out _) ?_
      rintro e w11 ⟨rfl, hb⟩
      have s11 := s10.call hb
      clear hb s10 c1 f1 z1 c2 f2 z2 c3 f3 z3 c4 f4 z4 c5 f5 z5 c6 f6 z6 c7 f7 z7 c8 f8 z8 c9 f9 z9
      go_wp2
      go_ret
      exact ⟨rfl, s11.below⟩
    | true =>
      rw [hx] at HX
      obtain ⟨k1, k2, k3, k4⟩ := H4.out hu hx
      have K1 : Hid (∀ w, _) := xh_t k1
      have K2 : Hid (∀ w, _) := xh_t k2
      have K3 : Hid (∀ w, _) := xh_t k3
      have K4 : Hid (∀ w, _) := xh_t k4
      subst hu
      clear H4 hx k1 k2 k3 k4
      go_wp2_with fail
      refine Calls.mono (HX.out _) ?_
      rintro e w11 ⟨rfl, hb⟩
      have s11 := s10.call hb
      clear hb s10 c1 f1 z1 c2 f2 z2 c3 f3 z3 c4 f4 z4 c5 f5 z5 c6 f6 z6 c7 f7 z7 c8 f8 z8 c9 f9 z9
      obtain ⟨c1, f1, z1, c2, f2, z2, c3, f3, z3, c4, f4, z4, c5, f5, z5, c6, f6, z6, c7, f7, z7, c8, f8, z8, c9, f9, z9, -⟩ := s11.rules
      go_wp2_with fail
      refine Calls.mono (HS.out _ s11.below) ?_
      rintro e w12 ⟨rfl, hb⟩
      have s12 := (s11.call hb).new (c := #[.int .i64 S1, .int .i64 S2]) (t := 28)
      clear hb s11 HS c1 f1 z1 c2 f2 z2 c3 f3 z3 c4 f4 z4 c5 f5 z5 c6 f6 z6 c7 f7 z7 c8 f8 z8 c9 f9 z9
      obtain ⟨c1, f1, z1, c2, f2, z2, c3, f3, z3, c4, f4, z4, c5, f5, z5, c6, f6, z6, c7, f7, z7, c8, f8, z8, c9, f9, z9, c10, f10, z10, -⟩ := s12.rules
      go_wp2_with fail
      refine Calls.mono (HO.out _ s12.below) ?_
      rintro e w13 ⟨rfl, hb⟩
      have s13 := (s12.call hb).new (c := #[.int .i64 O1, .int .i64 O2]) (t := 28)
      clear hb s12 HO c1 f1 z1 c2 f2 z2 c3 f3 z3 c4 f4 z4 c5 f5 z5 c6 f6 z6 c7 f7 z7 c8 f8 z8 c9 f9 z9 c10 f10 z10
      obtain ⟨c1, f1, z1, c2, f2, z2, c3, f3, z3, c4, f4, z4, c5, f5, z5, c6, f6, z6, c7, f7, z7, c8, f8, z8, c9, f9, z9, c10, f10, z10, c11, f11, z11, -⟩ := s13.rules
      go_wp2_with fail
      refine Calls.mono (HY.out _ s13.below) ?_
      rintro e w14 ⟨rfl, hb⟩
      have s14 := (s13.call hb).new (c := #[.int .i64 Y1, .int .i64 Y2]) (t := 28)
      clear hb s13 HY c1 f1 z1 c2 f2 z2 c3 f3 z3 c4 f4 z4 c5 f5 z5 c6 f6 z6 c7 f7 z7 c8 f8 z8 c9 f9 z9 c10 f10 z10 c11 f11 z11
      obtain ⟨c1, f1, z1, c2, f2, z2, c3, f3, z3, c4, f4, z4, c5, f5, z5, c6, f6, z6, c7, f7, z7, c8, f8, z8, c9, f9, z9, c10, f10, z10, c11, f11, z11, c12, f12, z12, -⟩ := s14.rules
      go_wp2_with fail
      refine Calls.mono (K1.out _) ?_
      rintro e w15 ⟨rfl, hb⟩
      have s15 := s14.call hb
      clear hb s14 c1 f1 z1 c2 f2 z2 c3 f3 z3 c4 f4 z4 c5 f5 z5 c6 f6 z6 c7 f7 z7 c8 f8 z8 c9 f9 z9 c10 f10 z10 c11 f11 z11 c12 f12 z12
      obtain ⟨c1, f1, z1, c2, f2, z2, c3, f3, z3, c4, f4, z4, c5, f5, z5, c6, f6, z6, c7, f7, z7, c8, f8, z8, c9, f9, z9, c10, f10, z10, c11, f11, z11, c12, f12, z12, -⟩ := s15.rules
      go_wp2_with fail
      refine Calls.mono (K2.out _) ?_
      rintro e w16 ⟨rfl, hb⟩
      have s16 := s15.call hb
      clear hb s15 c1 f1 z1 c2 f2 z2 c3 f3 z3 c4 f4 z4 c5 f5 z5 c6 f6 z6 c7 f7 z7 c8 f8 z8 c9 f9 z9 c10 f10 z10 c11 f11 z11 c12 f12 z12
      obtain ⟨c1, f1, z1, c2, f2, z2, c3, f3, z3, c4, f4, z4, c5, f5, z5, c6, f6, z6, c7, f7, z7, c8, f8, z8, c9, f9, z9, c10, f10, z10, c11, f11, z11, c12, f12, z12, -⟩ := s16.rules
      go_wp2_with fail
      refine Calls.mono (K3.out _) ?_
      rintro e w17 ⟨rfl, hb⟩
      have s17 := s16.call hb
      clear hb s16 c1 f1 z1 c2 f2 z2 c3 f3 z3 c4 f4 z4 c5 f5 z5 c6 f6 z6 c7 f7 z7 c8 f8 z8 c9 f9 z9 c10 f10 z10 c11 f11 z11 c12 f12 z12
      obtain ⟨c1, f1, z1, c2, f2, z2, c3, f3, z3, c4, f4, z4, c5, f5, z5, c6, f6, z6, c7, f7, z7, c8, f8, z8, c9, f9, z9, c10, f10, z10, c11, f11, z11, c12, f12, z12, -⟩ := s17.rules
      go_wp2_with fail
      refine Calls.mono (K4.out _) ?_
      rintro e w18 ⟨rfl, hb⟩
      have s18 := s17.call hb
      clear hb s17 c1 f1 z1 c2 f2 z2 c3 f3 z3 c4 f4 z4 c5 f5 z5 c6 f6 z6 c7 f7 z7 c8 f8 z8 c9 f9 z9 c10 f10 z10 c11 f11 z11 c12 f12 z12
      go_wp2
      go_ret
      exact ⟨rfl, s18.below⟩
end Go.Proofs.Ytbogpgaifbjahaa
