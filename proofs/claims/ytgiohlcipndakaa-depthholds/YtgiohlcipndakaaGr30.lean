/- Walks of DepthNests and DepthHolds over letters: of what their calls answer. -/
import Derived.Test.YtgiohlcipndakaaGr27
import Derived.Test.YtgiohlcipndakaaGr29
/- Walks of DepthNests and DepthHolds over letters: of what their calls answer. -/
namespace Go.Proofs.Ytgiohlcipndakaa
open Go.ChangeShapes Go.WideShapes Go.ChangeAt Go.RowKit
set_option linter.unusedVariables false
set_option maxRecDepth 100000 in
set_option maxHeartbeats 8000000 in
theorem nests_e (h w c lo hi : Int) (oa : Option Addr) (on oc : Nat) (ot op ch slo shi ylo yhi dp wd pd p1 p2 t1 t2 : Int) (W : World) (E j f : Int) (hE : E ≠ 0) (hX : ∀ W', Calls Try.prog 6 #[] W' fun e w' => e = .returned (.bool true) ∧ Below W'.heap.size W' w')
    (hM : ∀ W', Below W.heap.size W W' → Calls Try.prog 7 #[.agg #[.int .i64 h, .int .i64 w, .int .i64 c, .int .i64 lo, .int .i64 hi, .slice oa on oc, .int .i64 ot], .int .i64 op, .int .i64 ch, .agg #[.int .i64 slo, .int .i64 shi]] W' fun e w' => e = .returned (.tuple #[.int .i64 0, .int .i64 E]) ∧ Below W'.heap.size W' w')
    (hN : ∀ W', Below W.heap.size W W' → Calls Try.prog 7 #[.agg #[.int .i64 h, .int .i64 w, .int .i64 c, .int .i64 lo, .int .i64 hi, .slice oa on oc, .int .i64 ot], .int .i64 op, .int .i64 ch, .agg #[.int .i64 ylo, .int .i64 yhi]] W' fun e w' => e = .returned (.tuple #[.int .i64 j, .int .i64 f]) ∧ Below W'.heap.size W' w')
    :
    Calls Try.prog 5 #[.agg #[.int .i64 h, .int .i64 w, .int .i64 c, .int .i64 lo, .int .i64 hi, .slice oa on oc, .int .i64 ot, .int .i64 op, .int .i64 ch, .int .i64 slo, .int .i64 shi, .int .i64 ylo, .int .i64 yhi, .int .i64 dp, .int .i64 wd, .int .i64 pd, .int .i64 p1, .int .i64 p2, .int .i64 t1, .int .i64 t2]] W fun e w' => e = .returned (.bool true) ∧ Below W.heap.size W w' := by
  have HX : Hid (∀ W', _) := hX
  have HM : Hid (∀ W', Below W.heap.size W W' → _) := hM
  have HN : Hid (∀ W', Below W.heap.size W W' → _) := hN
  have s0 := (St.start W).new (c := #[.int .i64 h, .int .i64 w, .int .i64 c, .int .i64 lo, .int .i64 hi, .slice oa on oc, .int .i64 ot, .int .i64 op, .int .i64 ch, .int .i64 slo, .int .i64 shi, .int .i64 ylo, .int .i64 yhi, .int .i64 dp, .int .i64 wd, .int .i64 pd, .int .i64 p1, .int .i64 p2, .int .i64 t1, .int .i64 t2]) (t := 32)
  clear hX hM hN
  have hE' : (E == 0) = false := by simp [hE]
  go_enter Try.func5, Try.ntmps5
  go_wp2_with fail
  refine (HX.out _).mono ?_
  rintro e w1 ⟨rfl, hb⟩
  have s1 := s0.call hb
  clear hb s0 HX
  obtain ⟨c1, f1, z1, -⟩ := s1.rules
  go_wp2_with fail
  refine (HM.out _ s1.below).mono ?_
  rintro e w2 ⟨rfl, hb⟩
  have s2 := s1.call hb
  clear hb s1 HM c1 f1 z1
  obtain ⟨c1, f1, z1, -⟩ := s2.rules
  go_wp2_with fail
  refine (HN.out _ s2.below).mono ?_
  rintro e w3 ⟨rfl, hb⟩
  have s3 := s2.call hb
  clear hb s2 HN c1 f1 z1
  obtain ⟨c1, f1, z1, -⟩ := s3.rules
  have HB : Hid (Below W.heap.size W _) := s3.below
  clear s3
  go_wp2
  go_ret
  exact ⟨rfl, HB.out⟩
set_option maxRecDepth 100000 in
set_option maxHeartbeats 8000000 in
theorem nests_f (h w c lo hi : Int) (oa : Option Addr) (on oc : Nat) (ot op ch slo shi ylo yhi dp wd pd p1 p2 t1 t2 : Int) (W : World) (k j f : Int) (hE : f ≠ 0) (hX : ∀ W', Calls Try.prog 6 #[] W' fun e w' => e = .returned (.bool true) ∧ Below W'.heap.size W' w')
    (hM : ∀ W', Below W.heap.size W W' → Calls Try.prog 7 #[.agg #[.int .i64 h, .int .i64 w, .int .i64 c, .int .i64 lo, .int .i64 hi, .slice oa on oc, .int .i64 ot], .int .i64 op, .int .i64 ch, .agg #[.int .i64 slo, .int .i64 shi]] W' fun e w' => e = .returned (.tuple #[.int .i64 k, .int .i64 0]) ∧ Below W'.heap.size W' w')
    (hN : ∀ W', Below W.heap.size W W' → Calls Try.prog 7 #[.agg #[.int .i64 h, .int .i64 w, .int .i64 c, .int .i64 lo, .int .i64 hi, .slice oa on oc, .int .i64 ot], .int .i64 op, .int .i64 ch, .agg #[.int .i64 ylo, .int .i64 yhi]] W' fun e w' => e = .returned (.tuple #[.int .i64 j, .int .i64 f]) ∧ Below W'.heap.size W' w')
    :
    Calls Try.prog 5 #[.agg #[.int .i64 h, .int .i64 w, .int .i64 c, .int .i64 lo, .int .i64 hi, .slice oa on oc, .int .i64 ot, .int .i64 op, .int .i64 ch, .int .i64 slo, .int .i64 shi, .int .i64 ylo, .int .i64 yhi, .int .i64 dp, .int .i64 wd, .int .i64 pd, .int .i64 p1, .int .i64 p2, .int .i64 t1, .int .i64 t2]] W fun e w' => e = .returned (.bool true) ∧ Below W.heap.size W w' := by
  have HX : Hid (∀ W', _) := hX
  have HM : Hid (∀ W', Below W.heap.size W W' → _) := hM
  have HN : Hid (∀ W', Below W.heap.size W W' → _) := hN
  have s0 := (St.start W).new (c := #[.int .i64 h, .int .i64 w, .int .i64 c, .int .i64 lo, .int .i64 hi, .slice oa on oc, .int .i64 ot, .int .i64 op, .int .i64 ch, .int .i64 slo, .int .i64 shi, .int .i64 ylo, .int .i64 yhi, .int .i64 dp, .int .i64 wd, .int .i64 pd, .int .i64 p1, .int .i64 p2, .int .i64 t1, .int .i64 t2]) (t := 32)
  clear hX hM hN
  have hE' : (f == 0) = false := by simp [hE]
  go_enter Try.func5, Try.ntmps5
  go_wp2_with fail
  refine (HX.out _).mono ?_
  rintro e w1 ⟨rfl, hb⟩
  have s1 := s0.call hb
  clear hb s0 HX
  obtain ⟨c1, f1, z1, -⟩ := s1.rules
  go_wp2_with fail
  refine (HM.out _ s1.below).mono ?_
  rintro e w2 ⟨rfl, hb⟩
  have s2 := s1.call hb
  clear hb s1 HM c1 f1 z1
  obtain ⟨c1, f1, z1, -⟩ := s2.rules
  go_wp2_with fail
  refine (HN.out _ s2.below).mono ?_
  rintro e w3 ⟨rfl, hb⟩
  have s3 := s2.call hb
  clear hb s2 HN c1 f1 z1
  obtain ⟨c1, f1, z1, -⟩ := s3.rules
  have HB : Hid (Below W.heap.size W _) := s3.below
  clear s3
  go_wp2
  go_ret
  exact ⟨rfl, HB.out⟩
set_option maxRecDepth 100000 in
set_option maxHeartbeats 8000000 in
theorem nests_h (h w c lo hi : Int) (oa : Option Addr) (on oc : Nat) (ot op ch slo shi ylo yhi dp wd pd p1 p2 t1 t2 : Int) (W : World) (k j : Int) (hX : ∀ W', Calls Try.prog 6 #[] W' fun e w' => e = .returned (.bool true) ∧ Below W'.heap.size W' w')
    (hM : ∀ W', Below W.heap.size W W' → Calls Try.prog 7 #[.agg #[.int .i64 h, .int .i64 w, .int .i64 c, .int .i64 lo, .int .i64 hi, .slice oa on oc, .int .i64 ot], .int .i64 op, .int .i64 ch, .agg #[.int .i64 slo, .int .i64 shi]] W' fun e w' => e = .returned (.tuple #[.int .i64 k, .int .i64 0]) ∧ Below W'.heap.size W' w')
    (hN : ∀ W', Below W.heap.size W W' → Calls Try.prog 7 #[.agg #[.int .i64 h, .int .i64 w, .int .i64 c, .int .i64 lo, .int .i64 hi, .slice oa on oc, .int .i64 ot], .int .i64 op, .int .i64 ch, .agg #[.int .i64 ylo, .int .i64 yhi]] W' fun e w' => e = .returned (.tuple #[.int .i64 j, .int .i64 0]) ∧ Below W'.heap.size W' w')
    (hh : xho slo shi ylo yhi = false) :
    Calls Try.prog 5 #[.agg #[.int .i64 h, .int .i64 w, .int .i64 c, .int .i64 lo, .int .i64 hi, .slice oa on oc, .int .i64 ot, .int .i64 op, .int .i64 ch, .int .i64 slo, .int .i64 shi, .int .i64 ylo, .int .i64 yhi, .int .i64 dp, .int .i64 wd, .int .i64 pd, .int .i64 p1, .int .i64 p2, .int .i64 t1, .int .i64 t2]] W fun e w' => e = .returned (.bool true) ∧ Below W.heap.size W w' := by
  have HX : Hid (∀ W', _) := hX
  have HM : Hid (∀ W', Below W.heap.size W W' → _) := hM
  have HN : Hid (∀ W', Below W.heap.size W W' → _) := hN
  have s0 := (St.start W).new (c := #[.int .i64 h, .int .i64 w, .int .i64 c, .int .i64 lo, .int .i64 hi, .slice oa on oc, .int .i64 ot, .int .i64 op, .int .i64 ch, .int .i64 slo, .int .i64 shi, .int .i64 ylo, .int .i64 yhi, .int .i64 dp, .int .i64 wd, .int .i64 pd, .int .i64 p1, .int .i64 p2, .int .i64 t1, .int .i64 t2]) (t := 32)
  clear hX hM hN
  have HH : Hid (∀ W', _) := fun W' => xholds_any slo shi ylo yhi W'
  rw [hh] at HH
  clear hh
  go_enter Try.func5, Try.ntmps5
  go_wp2_with fail
  refine (HX.out _).mono ?_
  rintro e w1 ⟨rfl, hb⟩
  have s1 := s0.call hb
  clear hb s0 HX
  obtain ⟨c1, f1, z1, -⟩ := s1.rules
  go_wp2_with fail
  refine (HM.out _ s1.below).mono ?_
  rintro e w2 ⟨rfl, hb⟩
  have s2 := s1.call hb
  clear hb s1 HM c1 f1 z1
  obtain ⟨c1, f1, z1, -⟩ := s2.rules
  go_wp2_with fail
  refine (HN.out _ s2.below).mono ?_
  rintro e w3 ⟨rfl, hb⟩
  have s3 := s2.call hb
  clear hb s2 HN c1 f1 z1
  obtain ⟨c1, f1, z1, -⟩ := s3.rules
  go_wp2_with fail
  refine (HH.out _).mono ?_
  rintro e w4 ⟨rfl, hb⟩
  have s4 := s3.call hb
  clear hb s3 HH c1 f1 z1
  obtain ⟨c1, f1, z1, -⟩ := s4.rules
  have HB : Hid (Below W.heap.size W _) := s4.below
  clear s4
  go_wp2
  go_ret
  exact ⟨rfl, HB.out⟩
set_option maxRecDepth 100000 in
set_option maxHeartbeats 8000000 in
theorem nests_1 (h w c lo hi : Int) (oa : Option Addr) (on oc : Nat) (ot op ch slo shi ylo yhi dp wd pd p1 p2 t1 t2 : Int) (W : World) (k j g E2 F2 : Int) (a b : Bool) (hE : E2 ≠ 0) (b0 b1 b2 b3 b4 b5 : Int) (hX : ∀ W', Calls Try.prog 6 #[] W' fun e w' => e = .returned (.bool true) ∧ Below W'.heap.size W' w')
    (hM : ∀ W', Below W.heap.size W W' → Calls Try.prog 7 #[.agg #[.int .i64 h, .int .i64 w, .int .i64 c, .int .i64 lo, .int .i64 hi, .slice oa on oc, .int .i64 ot], .int .i64 op, .int .i64 ch, .agg #[.int .i64 slo, .int .i64 shi]] W' fun e w' => e = .returned (.tuple #[.int .i64 k, .int .i64 0]) ∧ Below W'.heap.size W' w')
    (hN : ∀ W', Below W.heap.size W W' → Calls Try.prog 7 #[.agg #[.int .i64 h, .int .i64 w, .int .i64 c, .int .i64 lo, .int .i64 hi, .slice oa on oc, .int .i64 ot], .int .i64 op, .int .i64 ch, .agg #[.int .i64 ylo, .int .i64 yhi]] W' fun e w' => e = .returned (.tuple #[.int .i64 j, .int .i64 0]) ∧ Below W'.heap.size W' w')
    (hA : ∀ W', Below W.heap.size W W' → Calls Try.prog 11 #[.agg #[.int .i64 h, .int .i64 w, .int .i64 c, .int .i64 lo, .int .i64 hi, .slice oa on oc, .int .i64 ot], .int .i64 op, .int .i64 ch, .agg #[.int .i64 slo, .int .i64 shi], .int .i64 dp] W' fun e w' => e = .returned (.tuple #[.bool a, .int .i64 g]) ∧ Below W'.heap.size W' w')
    (hB : ∀ W', Below W.heap.size W W' → Calls Try.prog 11 #[.agg #[.int .i64 h, .int .i64 w, .int .i64 c, .int .i64 lo, .int .i64 hi, .slice oa on oc, .int .i64 ot], .int .i64 op, .int .i64 ch, .agg #[.int .i64 ylo, .int .i64 yhi], .int .i64 dp] W' fun e w' => e = .returned (.tuple #[.bool b, .int .i64 g]) ∧ Below W'.heap.size W' w')
    (hP : ∀ W', Below W.heap.size W W' → Calls Try.prog 13 #[.agg #[.int .i64 h, .int .i64 w, .int .i64 c, .int .i64 lo, .int .i64 hi, .slice oa on oc, .int .i64 ot], .int .i64 op, .int .i64 ch, .agg #[.int .i64 slo, .int .i64 shi]] W' fun e w' => e = .returned (.tuple #[.agg #[.int .i64 0, .int .i64 0, .int .i64 0, .int .i64 0, .int .i64 0, .int .i64 0], .int .i64 E2]) ∧ Below W'.heap.size W' w')
    (hQ : ∀ W', Below W.heap.size W W' → Calls Try.prog 13 #[.agg #[.int .i64 h, .int .i64 w, .int .i64 c, .int .i64 lo, .int .i64 hi, .slice oa on oc, .int .i64 ot], .int .i64 op, .int .i64 ch, .agg #[.int .i64 ylo, .int .i64 yhi]] W' fun e w' => e = .returned (.tuple #[.agg #[.int .i64 b0, .int .i64 b1, .int .i64 b2, .int .i64 b3, .int .i64 b4, .int .i64 b5], .int .i64 F2]) ∧ Below W'.heap.size W' w')
    (hh : xho slo shi ylo yhi = true) (hk : k ≤ j) (hab : a = true → b = true) :
    Calls Try.prog 5 #[.agg #[.int .i64 h, .int .i64 w, .int .i64 c, .int .i64 lo, .int .i64 hi, .slice oa on oc, .int .i64 ot, .int .i64 op, .int .i64 ch, .int .i64 slo, .int .i64 shi, .int .i64 ylo, .int .i64 yhi, .int .i64 dp, .int .i64 wd, .int .i64 pd, .int .i64 p1, .int .i64 p2, .int .i64 t1, .int .i64 t2]] W fun e w' => e = .returned (.bool true) ∧ Below W.heap.size W w' := by
  have HX : Hid (∀ W', _) := hX
  have HM : Hid (∀ W', Below W.heap.size W W' → _) := hM
  have HN : Hid (∀ W', Below W.heap.size W W' → _) := hN
  have HA : Hid (∀ W', Below W.heap.size W W' → _) := hA
  have HB : Hid (∀ W', Below W.heap.size W W' → _) := hB
  have HP : Hid (∀ W', Below W.heap.size W W' → _) := hP
  have HQ : Hid (∀ W', Below W.heap.size W W' → _) := hQ
  have s0 := (St.start W).new (c := #[.int .i64 h, .int .i64 w, .int .i64 c, .int .i64 lo, .int .i64 hi, .slice oa on oc, .int .i64 ot, .int .i64 op, .int .i64 ch, .int .i64 slo, .int .i64 shi, .int .i64 ylo, .int .i64 yhi, .int .i64 dp, .int .i64 wd, .int .i64 pd, .int .i64 p1, .int .i64 p2, .int .i64 t1, .int .i64 t2]) (t := 32)
  clear hX hM hN hA hB hP hQ
  have HH : Hid (∀ W', _) := fun W' => xholds_any slo shi ylo yhi W'
  rw [hh] at HH
  have hjk : ¬ j < k := by omega
  have hgg : (g == g) = true := by simp
  clear hh
  have hE' : (E2 == 0) = false := by simp [hE]
  cases a with
  | true =>
    obtain rfl := hab rfl
    go_enter Try.func5, Try.ntmps5
    go_wp2_with fail
    refine (HX.out _).mono ?_
    rintro e w1 ⟨rfl, hb⟩
    have s1 := s0.call hb
    clear hb s0 HX
    obtain ⟨c1, f1, z1, -⟩ := s1.rules
    go_wp2_with fail
    refine (HM.out _ s1.below).mono ?_
    rintro e w2 ⟨rfl, hb⟩
    have s2 := s1.call hb
    clear hb s1 HM c1 f1 z1
    obtain ⟨c1, f1, z1, -⟩ := s2.rules
    go_wp2_with fail
    refine (HN.out _ s2.below).mono ?_
    rintro e w3 ⟨rfl, hb⟩
    have s3 := s2.call hb
    clear hb s2 HN c1 f1 z1
    obtain ⟨c1, f1, z1, -⟩ := s3.rules
    go_wp2_with fail
    refine (HH.out _).mono ?_
    rintro e w4 ⟨rfl, hb⟩
    have s4 := s3.call hb
    clear hb s3 HH c1 f1 z1
    obtain ⟨c1, f1, z1, -⟩ := s4.rules
    go_wp2_with fail
    refine (HA.out _ s4.below).mono ?_
    rintro e w5 ⟨rfl, hb⟩
    have s5 := s4.call hb
    clear hb s4 HA c1 f1 z1
    obtain ⟨c1, f1, z1, -⟩ := s5.rules
    go_wp2_with fail
    refine (HB.out _ s5.below).mono ?_
    rintro e w6 ⟨rfl, hb⟩
    have s6 := s5.call hb
    clear hb s5 HB c1 f1 z1
    obtain ⟨c1, f1, z1, -⟩ := s6.rules
    go_wp2_with fail
    refine (HP.out _ s6.below).mono ?_
    rintro e w7 ⟨rfl, hb⟩
    have s7 := (s6.call hb).new (c := #[.int .i64 0, .int .i64 0, .int .i64 0, .int .i64 0, .int .i64 0, .int .i64 0]) (t := 30)
    clear hb s6 HP c1 f1 z1
    obtain ⟨c1, f1, z1, c2, f2, z2, -⟩ := s7.rules
    go_wp2_with fail
    refine (HQ.out _ s7.below).mono ?_
    rintro e w8 ⟨rfl, hb⟩
    have s8 := (s7.call hb).new (c := #[.int .i64 b0, .int .i64 b1, .int .i64 b2, .int .i64 b3, .int .i64 b4, .int .i64 b5]) (t := 30)
    clear hb s7 HQ c1 f1 z1 c2 f2 z2
    obtain ⟨c1, f1, z1, c2, f2, z2, c3, f3, z3, -⟩ := s8.rules
    have HBB : Hid (Below W.heap.size W _) := s8.below
    clear s8
    go_wp2
    go_ret
    exact ⟨rfl, HBB.out⟩
  | false =>
    go_enter Try.func5, Try.ntmps5
    go_wp2_with fail
    refine (HX.out _).mono ?_
    rintro e w1 ⟨rfl, hb⟩
    have s1 := s0.call hb
    clear hb s0 HX
    obtain ⟨c1, f1, z1, -⟩ := s1.rules
    go_wp2_with fail
    refine (HM.out _ s1.below).mono ?_
    rintro e w2 ⟨rfl, hb⟩
    have s2 := s1.call hb
    clear hb s1 HM c1 f1 z1
    obtain ⟨c1, f1, z1, -⟩ := s2.rules
    go_wp2_with fail
    refine (HN.out _ s2.below).mono ?_
    rintro e w3 ⟨rfl, hb⟩
    have s3 := s2.call hb
    clear hb s2 HN c1 f1 z1
    obtain ⟨c1, f1, z1, -⟩ := s3.rules
    go_wp2_with fail
    refine (HH.out _).mono ?_
    rintro e w4 ⟨rfl, hb⟩
    have s4 := s3.call hb
    clear hb s3 HH c1 f1 z1
    obtain ⟨c1, f1, z1, -⟩ := s4.rules
    go_wp2_with fail
    refine (HA.out _ s4.below).mono ?_
    rintro e w5 ⟨rfl, hb⟩
    have s5 := s4.call hb
    clear hb s4 HA c1 f1 z1
    obtain ⟨c1, f1, z1, -⟩ := s5.rules
    go_wp2_with fail
    refine (HB.out _ s5.below).mono ?_
    rintro e w6 ⟨rfl, hb⟩
    have s6 := s5.call hb
    clear hb s5 HB c1 f1 z1
    obtain ⟨c1, f1, z1, -⟩ := s6.rules
    go_wp2_with fail
    refine (HP.out _ s6.below).mono ?_
    rintro e w7 ⟨rfl, hb⟩
    have s7 := (s6.call hb).new (c := #[.int .i64 0, .int .i64 0, .int .i64 0, .int .i64 0, .int .i64 0, .int .i64 0]) (t := 30)
    clear hb s6 HP c1 f1 z1
    obtain ⟨c1, f1, z1, c2, f2, z2, -⟩ := s7.rules
    go_wp2_with fail
    refine (HQ.out _ s7.below).mono ?_
    rintro e w8 ⟨rfl, hb⟩
    have s8 := (s7.call hb).new (c := #[.int .i64 b0, .int .i64 b1, .int .i64 b2, .int .i64 b3, .int .i64 b4, .int .i64 b5]) (t := 30)
    clear hb s7 HQ c1 f1 z1 c2 f2 z2
    obtain ⟨c1, f1, z1, c2, f2, z2, c3, f3, z3, -⟩ := s8.rules
    have HBB : Hid (Below W.heap.size W _) := s8.below
    clear s8
    go_wp2
    go_ret
    exact ⟨rfl, HBB.out⟩
set_option maxRecDepth 100000 in
set_option maxHeartbeats 8000000 in
theorem nests_2 (h w c lo hi : Int) (oa : Option Addr) (on oc : Nat) (ot op ch slo shi ylo yhi dp wd pd p1 p2 t1 t2 : Int) (W : World) (k j g : Int) (a b : Bool) (a0 a1 a2 a3 a4 a5 b0 b1 b2 b3 b4 b5 : Int) (hX : ∀ W', Calls Try.prog 6 #[] W' fun e w' => e = .returned (.bool true) ∧ Below W'.heap.size W' w')
    (hM : ∀ W', Below W.heap.size W W' → Calls Try.prog 7 #[.agg #[.int .i64 h, .int .i64 w, .int .i64 c, .int .i64 lo, .int .i64 hi, .slice oa on oc, .int .i64 ot], .int .i64 op, .int .i64 ch, .agg #[.int .i64 slo, .int .i64 shi]] W' fun e w' => e = .returned (.tuple #[.int .i64 k, .int .i64 0]) ∧ Below W'.heap.size W' w')
    (hN : ∀ W', Below W.heap.size W W' → Calls Try.prog 7 #[.agg #[.int .i64 h, .int .i64 w, .int .i64 c, .int .i64 lo, .int .i64 hi, .slice oa on oc, .int .i64 ot], .int .i64 op, .int .i64 ch, .agg #[.int .i64 ylo, .int .i64 yhi]] W' fun e w' => e = .returned (.tuple #[.int .i64 j, .int .i64 0]) ∧ Below W'.heap.size W' w')
    (hA : ∀ W', Below W.heap.size W W' → Calls Try.prog 11 #[.agg #[.int .i64 h, .int .i64 w, .int .i64 c, .int .i64 lo, .int .i64 hi, .slice oa on oc, .int .i64 ot], .int .i64 op, .int .i64 ch, .agg #[.int .i64 slo, .int .i64 shi], .int .i64 dp] W' fun e w' => e = .returned (.tuple #[.bool a, .int .i64 g]) ∧ Below W'.heap.size W' w')
    (hB : ∀ W', Below W.heap.size W W' → Calls Try.prog 11 #[.agg #[.int .i64 h, .int .i64 w, .int .i64 c, .int .i64 lo, .int .i64 hi, .slice oa on oc, .int .i64 ot], .int .i64 op, .int .i64 ch, .agg #[.int .i64 ylo, .int .i64 yhi], .int .i64 dp] W' fun e w' => e = .returned (.tuple #[.bool b, .int .i64 g]) ∧ Below W'.heap.size W' w')
    (hP : ∀ W', Below W.heap.size W W' → Calls Try.prog 13 #[.agg #[.int .i64 h, .int .i64 w, .int .i64 c, .int .i64 lo, .int .i64 hi, .slice oa on oc, .int .i64 ot], .int .i64 op, .int .i64 ch, .agg #[.int .i64 slo, .int .i64 shi]] W' fun e w' => e = .returned (.tuple #[.agg #[.int .i64 a0, .int .i64 a1, .int .i64 a2, .int .i64 a3, .int .i64 a4, .int .i64 a5], .int .i64 0]) ∧ Below W'.heap.size W' w')
    (hQ : ∀ W', Below W.heap.size W W' → Calls Try.prog 13 #[.agg #[.int .i64 h, .int .i64 w, .int .i64 c, .int .i64 lo, .int .i64 hi, .slice oa on oc, .int .i64 ot], .int .i64 op, .int .i64 ch, .agg #[.int .i64 ylo, .int .i64 yhi]] W' fun e w' => e = .returned (.tuple #[.agg #[.int .i64 b0, .int .i64 b1, .int .i64 b2, .int .i64 b3, .int .i64 b4, .int .i64 b5], .int .i64 0]) ∧ Below W'.heap.size W' w')
    (hh : xho slo shi ylo yhi = true) (hk : k ≤ j) (hab : a = true → b = true) (hw : b0 ≤ a0) (ht : xho a4 a5 b4 b5 = true) :
    Calls Try.prog 5 #[.agg #[.int .i64 h, .int .i64 w, .int .i64 c, .int .i64 lo, .int .i64 hi, .slice oa on oc, .int .i64 ot, .int .i64 op, .int .i64 ch, .int .i64 slo, .int .i64 shi, .int .i64 ylo, .int .i64 yhi, .int .i64 dp, .int .i64 wd, .int .i64 pd, .int .i64 p1, .int .i64 p2, .int .i64 t1, .int .i64 t2]] W fun e w' => e = .returned (.bool true) ∧ Below W.heap.size W w' := by
  have HX : Hid (∀ W', _) := hX
  have HM : Hid (∀ W', Below W.heap.size W W' → _) := hM
  have HN : Hid (∀ W', Below W.heap.size W W' → _) := hN
  have HA : Hid (∀ W', Below W.heap.size W W' → _) := hA
  have HB : Hid (∀ W', Below W.heap.size W W' → _) := hB
  have HP : Hid (∀ W', Below W.heap.size W W' → _) := hP
  have HQ : Hid (∀ W', Below W.heap.size W W' → _) := hQ
  have s0 := (St.start W).new (c := #[.int .i64 h, .int .i64 w, .int .i64 c, .int .i64 lo, .int .i64 hi, .slice oa on oc, .int .i64 ot, .int .i64 op, .int .i64 ch, .int .i64 slo, .int .i64 shi, .int .i64 ylo, .int .i64 yhi, .int .i64 dp, .int .i64 wd, .int .i64 pd, .int .i64 p1, .int .i64 p2, .int .i64 t1, .int .i64 t2]) (t := 32)
  clear hX hM hN hA hB hP hQ
  have HH : Hid (∀ W', _) := fun W' => xholds_any slo shi ylo yhi W'
  rw [hh] at HH
  have hjk : ¬ j < k := by omega
  have hgg : (g == g) = true := by simp
  clear hh
  have H2 : Hid (∀ W', _) := fun W' => xholds_any a4 a5 b4 b5 W'
  rw [ht] at H2
  clear ht
  cases a with
  | true =>
    obtain rfl := hab rfl
    go_enter Try.func5, Try.ntmps5
    go_wp2_with fail
    refine (HX.out _).mono ?_
    rintro e w1 ⟨rfl, hb⟩
    have s1 := s0.call hb
    clear hb s0 HX
    obtain ⟨c1, f1, z1, -⟩ := s1.rules
    go_wp2_with fail
    refine (HM.out _ s1.below).mono ?_
    rintro e w2 ⟨rfl, hb⟩
    have s2 := s1.call hb
    clear hb s1 HM c1 f1 z1
    obtain ⟨c1, f1, z1, -⟩ := s2.rules
    go_wp2_with fail
    refine (HN.out _ s2.below).mono ?_
    rintro e w3 ⟨rfl, hb⟩
    have s3 := s2.call hb
    clear hb s2 HN c1 f1 z1
    obtain ⟨c1, f1, z1, -⟩ := s3.rules
    go_wp2_with fail
    refine (HH.out _).mono ?_
    rintro e w4 ⟨rfl, hb⟩
    have s4 := s3.call hb
    clear hb s3 HH c1 f1 z1
    obtain ⟨c1, f1, z1, -⟩ := s4.rules
    go_wp2_with fail
    refine (HA.out _ s4.below).mono ?_
    rintro e w5 ⟨rfl, hb⟩
    have s5 := s4.call hb
    clear hb s4 HA c1 f1 z1
    obtain ⟨c1, f1, z1, -⟩ := s5.rules
    go_wp2_with fail
    refine (HB.out _ s5.below).mono ?_
    rintro e w6 ⟨rfl, hb⟩
    have s6 := s5.call hb
    clear hb s5 HB c1 f1 z1
    obtain ⟨c1, f1, z1, -⟩ := s6.rules
    go_wp2_with fail
    refine (HP.out _ s6.below).mono ?_
    rintro e w7 ⟨rfl, hb⟩
    have s7 := (s6.call hb).new (c := #[.int .i64 a0, .int .i64 a1, .int .i64 a2, .int .i64 a3, .int .i64 a4, .int .i64 a5]) (t := 30)
    clear hb s6 HP c1 f1 z1
    obtain ⟨c1, f1, z1, c2, f2, z2, -⟩ := s7.rules
    go_wp2_with fail
    refine (HQ.out _ s7.below).mono ?_
    rintro e w8 ⟨rfl, hb⟩
    have s8 := (s7.call hb).new (c := #[.int .i64 b0, .int .i64 b1, .int .i64 b2, .int .i64 b3, .int .i64 b4, .int .i64 b5]) (t := 30)
    clear hb s7 HQ c1 f1 z1 c2 f2 z2
    obtain ⟨c1, f1, z1, c2, f2, z2, c3, f3, z3, -⟩ := s8.rules
    go_wp2_with fail
    refine (H2.out _).mono ?_
    rintro e w9 ⟨rfl, hb⟩
    have s9 := s8.call hb
    clear hb s8 H2 c1 f1 z1 c2 f2 z2 c3 f3 z3
    obtain ⟨c1, f1, z1, c2, f2, z2, c3, f3, z3, -⟩ := s9.rules
    have HBB : Hid (Below W.heap.size W _) := s9.below
    clear s9
    go_wp2
    go_ret
    exact ⟨rfl, HBB.out⟩
  | false =>
    go_enter Try.func5, Try.ntmps5
    go_wp2_with fail
    refine (HX.out _).mono ?_
    rintro e w1 ⟨rfl, hb⟩
    have s1 := s0.call hb
    clear hb s0 HX
    obtain ⟨c1, f1, z1, -⟩ := s1.rules
    go_wp2_with fail
    refine (HM.out _ s1.below).mono ?_
    rintro e w2 ⟨rfl, hb⟩
    have s2 := s1.call hb
    clear hb s1 HM c1 f1 z1
    obtain ⟨c1, f1, z1, -⟩ := s2.rules
    go_wp2_with fail
    refine (HN.out _ s2.below).mono ?_
    rintro e w3 ⟨rfl, hb⟩
    have s3 := s2.call hb
    clear hb s2 HN c1 f1 z1
    obtain ⟨c1, f1, z1, -⟩ := s3.rules
    go_wp2_with fail
    refine (HH.out _).mono ?_
    rintro e w4 ⟨rfl, hb⟩
    have s4 := s3.call hb
    clear hb s3 HH c1 f1 z1
    obtain ⟨c1, f1, z1, -⟩ := s4.rules
    go_wp2_with fail
    refine (HA.out _ s4.below).mono ?_
    rintro e w5 ⟨rfl, hb⟩
    have s5 := s4.call hb
    clear hb s4 HA c1 f1 z1
    obtain ⟨c1, f1, z1, -⟩ := s5.rules
    go_wp2_with fail
    refine (HB.out _ s5.below).mono ?_
    rintro e w6 ⟨rfl, hb⟩
    have s6 := s5.call hb
    clear hb s5 HB c1 f1 z1
    obtain ⟨c1, f1, z1, -⟩ := s6.rules
    go_wp2_with fail
    refine (HP.out _ s6.below).mono ?_
    rintro e w7 ⟨rfl, hb⟩
    have s7 := (s6.call hb).new (c := #[.int .i64 a0, .int .i64 a1, .int .i64 a2, .int .i64 a3, .int .i64 a4, .int .i64 a5]) (t := 30)
    clear hb s6 HP c1 f1 z1
    obtain ⟨c1, f1, z1, c2, f2, z2, -⟩ := s7.rules
    go_wp2_with fail
    refine (HQ.out _ s7.below).mono ?_
    rintro e w8 ⟨rfl, hb⟩
    have s8 := (s7.call hb).new (c := #[.int .i64 b0, .int .i64 b1, .int .i64 b2, .int .i64 b3, .int .i64 b4, .int .i64 b5]) (t := 30)
    clear hb s7 HQ c1 f1 z1 c2 f2 z2
    obtain ⟨c1, f1, z1, c2, f2, z2, c3, f3, z3, -⟩ := s8.rules
    go_wp2_with fail
    refine (H2.out _).mono ?_
    rintro e w9 ⟨rfl, hb⟩
    have s9 := s8.call hb
    clear hb s8 H2 c1 f1 z1 c2 f2 z2 c3 f3 z3
    obtain ⟨c1, f1, z1, c2, f2, z2, c3, f3, z3, -⟩ := s9.rules
    have HBB : Hid (Below W.heap.size W _) := s9.below
    clear s9
    go_wp2
    go_ret
    exact ⟨rfl, HBB.out⟩
set_option maxRecDepth 100000 in
set_option maxHeartbeats 8000000 in
theorem holds_e (h w c lo hi : Int) (oa : Option Addr) (on oc : Nat) (ot op ch slo shi ylo yhi dp wd pd p1 p2 t1 t2 : Int) (W : World) (E F : Int) (hE : E ≠ 0) (hF : F ≠ 0) (hX : ∀ W', Calls Try.prog 6 #[] W' fun e w' => e = .returned (.bool true) ∧ Below W'.heap.size W' w')
    (hC : ∀ W', Below W.heap.size W W' → Calls Try.prog 13 #[.agg #[.int .i64 h, .int .i64 w, .int .i64 c, .int .i64 lo, .int .i64 hi, .slice oa on oc, .int .i64 ot], .int .i64 op, .int .i64 ch, .agg #[.int .i64 slo, .int .i64 shi]] W' fun e w' => e = .returned (.tuple #[.agg #[.int .i64 0, .int .i64 0, .int .i64 0, .int .i64 0, .int .i64 0, .int .i64 0], .int .i64 E]) ∧ Below W'.heap.size W' w')
    (hK : ∀ W', Below W.heap.size W W' → Calls Try.prog 14 #[.agg #[.int .i64 h, .int .i64 w, .int .i64 c, .int .i64 lo, .int .i64 hi, .slice oa on oc, .int .i64 ot], .int .i64 op, .int .i64 ch, .agg #[.int .i64 slo, .int .i64 shi], .agg #[.int .i64 wd, .int .i64 pd, .int .i64 p1, .int .i64 p2, .int .i64 t1, .int .i64 t2]] W' fun e w' => e = .returned (.int .i64 F) ∧ Below W'.heap.size W' w')
    :
    Calls Try.prog 4 #[.agg #[.int .i64 h, .int .i64 w, .int .i64 c, .int .i64 lo, .int .i64 hi, .slice oa on oc, .int .i64 ot, .int .i64 op, .int .i64 ch, .int .i64 slo, .int .i64 shi, .int .i64 ylo, .int .i64 yhi, .int .i64 dp, .int .i64 wd, .int .i64 pd, .int .i64 p1, .int .i64 p2, .int .i64 t1, .int .i64 t2]] W fun e w' => e = .returned (.bool true) ∧ Below W.heap.size W w' := by
  have HX : Hid (∀ W', _) := hX
  have HC : Hid (∀ W', Below W.heap.size W W' → _) := hC
  have HK : Hid (∀ W', Below W.heap.size W W' → _) := hK
  have s0 := (St.start W).new (c := #[.int .i64 h, .int .i64 w, .int .i64 c, .int .i64 lo, .int .i64 hi, .slice oa on oc, .int .i64 ot, .int .i64 op, .int .i64 ch, .int .i64 slo, .int .i64 shi, .int .i64 ylo, .int .i64 yhi, .int .i64 dp, .int .i64 wd, .int .i64 pd, .int .i64 p1, .int .i64 p2, .int .i64 t1, .int .i64 t2]) (t := 32)
  clear hX hC hK
  have hE' : (E == 0) = false := by simp [hE]
  have hF' : (F == 0) = false := by simp [hF]
  go_enter Try.func4, Try.ntmps4
  go_wp2_with fail
  refine (HX.out _).mono ?_
  rintro e w1 ⟨rfl, hb⟩
  have s1 := s0.call hb
  clear hb s0 HX
  obtain ⟨c1, f1, z1, -⟩ := s1.rules
  go_wp2_with fail
  refine (HC.out _ s1.below).mono ?_
  rintro e w2 ⟨rfl, hb⟩
  have s2 := (s1.call hb).new (c := #[.int .i64 0, .int .i64 0, .int .i64 0, .int .i64 0, .int .i64 0, .int .i64 0]) (t := 30)
  clear hb s1 HC c1 f1 z1
  obtain ⟨c1, f1, z1, c2, f2, z2, -⟩ := s2.rules
  go_wp2_with fail
  refine (HK.out _ s2.below).mono ?_
  rintro e w3 ⟨rfl, hb⟩
  have s3 := s2.call hb
  clear hb s2 HK c1 f1 z1 c2 f2 z2
  obtain ⟨c1, f1, z1, c2, f2, z2, -⟩ := s3.rules
  have HB : Hid (Below W.heap.size W _) := s3.below
  clear s3
  go_wp2
  go_ret
  exact ⟨kretB (bne_iff_ne.2 hF), HB.out⟩
set_option maxRecDepth 100000 in
set_option maxHeartbeats 8000000 in
theorem holds_f (h w c lo hi : Int) (oa : Option Addr) (on oc : Nat) (ot op ch slo shi ylo yhi dp wd pd p1 p2 t1 t2 : Int) (W : World) (F : Int) (hF : F ≠ 0) (a0 a1 a2 a3 a4 a5 : Int) (hX : ∀ W', Calls Try.prog 6 #[] W' fun e w' => e = .returned (.bool true) ∧ Below W'.heap.size W' w')
    (hC : ∀ W', Below W.heap.size W W' → Calls Try.prog 13 #[.agg #[.int .i64 h, .int .i64 w, .int .i64 c, .int .i64 lo, .int .i64 hi, .slice oa on oc, .int .i64 ot], .int .i64 op, .int .i64 ch, .agg #[.int .i64 slo, .int .i64 shi]] W' fun e w' => e = .returned (.tuple #[.agg #[.int .i64 a0, .int .i64 a1, .int .i64 a2, .int .i64 a3, .int .i64 a4, .int .i64 a5], .int .i64 0]) ∧ Below W'.heap.size W' w')
    (hK : ∀ W', Below W.heap.size W W' → Calls Try.prog 14 #[.agg #[.int .i64 h, .int .i64 w, .int .i64 c, .int .i64 lo, .int .i64 hi, .slice oa on oc, .int .i64 ot], .int .i64 op, .int .i64 ch, .agg #[.int .i64 slo, .int .i64 shi], .agg #[.int .i64 wd, .int .i64 pd, .int .i64 p1, .int .i64 p2, .int .i64 t1, .int .i64 t2]] W' fun e w' => e = .returned (.int .i64 F) ∧ Below W'.heap.size W' w')
    (hL : ∀ W', Below W.heap.size W W' → Calls Try.prog 14 #[.agg #[.int .i64 h, .int .i64 w, .int .i64 c, .int .i64 lo, .int .i64 hi, .slice oa on oc, .int .i64 ot], .int .i64 op, .int .i64 ch, .agg #[.int .i64 slo, .int .i64 shi], .agg #[.int .i64 a0, .int .i64 a1, .int .i64 a2, .int .i64 a3, .int .i64 a4, .int .i64 a5]] W' fun e w' => e = .returned (.int .i64 0) ∧ Below W'.heap.size W' w')
    :
    Calls Try.prog 4 #[.agg #[.int .i64 h, .int .i64 w, .int .i64 c, .int .i64 lo, .int .i64 hi, .slice oa on oc, .int .i64 ot, .int .i64 op, .int .i64 ch, .int .i64 slo, .int .i64 shi, .int .i64 ylo, .int .i64 yhi, .int .i64 dp, .int .i64 wd, .int .i64 pd, .int .i64 p1, .int .i64 p2, .int .i64 t1, .int .i64 t2]] W fun e w' => e = .returned (.bool true) ∧ Below W.heap.size W w' := by
  have HX : Hid (∀ W', _) := hX
  have HC : Hid (∀ W', Below W.heap.size W W' → _) := hC
  have HK : Hid (∀ W', Below W.heap.size W W' → _) := hK
  have HL : Hid (∀ W', Below W.heap.size W W' → _) := hL
  have s0 := (St.start W).new (c := #[.int .i64 h, .int .i64 w, .int .i64 c, .int .i64 lo, .int .i64 hi, .slice oa on oc, .int .i64 ot, .int .i64 op, .int .i64 ch, .int .i64 slo, .int .i64 shi, .int .i64 ylo, .int .i64 yhi, .int .i64 dp, .int .i64 wd, .int .i64 pd, .int .i64 p1, .int .i64 p2, .int .i64 t1, .int .i64 t2]) (t := 32)
  clear hX hC hK hL
  have hF' : (F == 0) = false := by simp [hF]
  go_enter Try.func4, Try.ntmps4
  go_wp2_with fail
  refine (HX.out _).mono ?_
  rintro e w1 ⟨rfl, hb⟩
  have s1 := s0.call hb
  clear hb s0 HX
  obtain ⟨c1, f1, z1, -⟩ := s1.rules
  go_wp2_with fail
  refine (HC.out _ s1.below).mono ?_
  rintro e w2 ⟨rfl, hb⟩
  have s2 := (s1.call hb).new (c := #[.int .i64 a0, .int .i64 a1, .int .i64 a2, .int .i64 a3, .int .i64 a4, .int .i64 a5]) (t := 30)
  clear hb s1 HC c1 f1 z1
  obtain ⟨c1, f1, z1, c2, f2, z2, -⟩ := s2.rules
  go_wp2_with fail
  refine (HK.out _ s2.below).mono ?_
  rintro e w3 ⟨rfl, hb⟩
  have s3 := s2.call hb
  clear hb s2 HK c1 f1 z1 c2 f2 z2
  obtain ⟨c1, f1, z1, c2, f2, z2, -⟩ := s3.rules
  go_wp2_with fail
  refine (HL.out _ s3.below).mono ?_
  rintro e w4 ⟨rfl, hb⟩
  have s4 := s3.call hb
  clear hb s3 HL c1 f1 z1 c2 f2 z2
  obtain ⟨c1, f1, z1, c2, f2, z2, -⟩ := s4.rules
  have HB : Hid (Below W.heap.size W _) := s4.below
  clear s4
  go_wp2
  go_ret
  exact ⟨rfl, HB.out⟩
set_option maxRecDepth 100000 in
set_option maxHeartbeats 8000000 in
theorem holds_32 (h w c lo hi : Int) (oa : Option Addr) (on oc : Nat) (ot op ch slo shi ylo yhi dp wd pd p1 p2 t1 t2 : Int) (W : World) (a0 a1 a2 a3 a4 a5 : Int) (hX : ∀ W', Calls Try.prog 6 #[] W' fun e w' => e = .returned (.bool true) ∧ Below W'.heap.size W' w')
    (hC : ∀ W', Below W.heap.size W W' → Calls Try.prog 13 #[.agg #[.int .i64 h, .int .i64 w, .int .i64 c, .int .i64 lo, .int .i64 hi, .slice oa on oc, .int .i64 ot], .int .i64 op, .int .i64 ch, .agg #[.int .i64 slo, .int .i64 shi]] W' fun e w' => e = .returned (.tuple #[.agg #[.int .i64 a0, .int .i64 a1, .int .i64 a2, .int .i64 a3, .int .i64 a4, .int .i64 a5], .int .i64 0]) ∧ Below W'.heap.size W' w')
    (hK : ∀ W', Below W.heap.size W W' → Calls Try.prog 14 #[.agg #[.int .i64 h, .int .i64 w, .int .i64 c, .int .i64 lo, .int .i64 hi, .slice oa on oc, .int .i64 ot], .int .i64 op, .int .i64 ch, .agg #[.int .i64 slo, .int .i64 shi], .agg #[.int .i64 wd, .int .i64 pd, .int .i64 p1, .int .i64 p2, .int .i64 t1, .int .i64 t2]] W' fun e w' => e = .returned (.int .i64 0) ∧ Below W'.heap.size W' w')
    (hL : ∀ W', Below W.heap.size W W' → Calls Try.prog 14 #[.agg #[.int .i64 h, .int .i64 w, .int .i64 c, .int .i64 lo, .int .i64 hi, .slice oa on oc, .int .i64 ot], .int .i64 op, .int .i64 ch, .agg #[.int .i64 slo, .int .i64 shi], .agg #[.int .i64 a0, .int .i64 a1, .int .i64 a2, .int .i64 a3, .int .i64 a4, .int .i64 a5]] W' fun e w' => e = .returned (.int .i64 0) ∧ Below W'.heap.size W' w')
    (ht : xho t1 t2 a4 a5 = true) (hw : wd = 32) :
    Calls Try.prog 4 #[.agg #[.int .i64 h, .int .i64 w, .int .i64 c, .int .i64 lo, .int .i64 hi, .slice oa on oc, .int .i64 ot, .int .i64 op, .int .i64 ch, .int .i64 slo, .int .i64 shi, .int .i64 ylo, .int .i64 yhi, .int .i64 dp, .int .i64 wd, .int .i64 pd, .int .i64 p1, .int .i64 p2, .int .i64 t1, .int .i64 t2]] W fun e w' => e = .returned (.bool true) ∧ Below W.heap.size W w' := by
  have HX : Hid (∀ W', _) := hX
  have HC : Hid (∀ W', Below W.heap.size W W' → _) := hC
  have HK : Hid (∀ W', Below W.heap.size W W' → _) := hK
  have HL : Hid (∀ W', Below W.heap.size W W' → _) := hL
  have s0 := (St.start W).new (c := #[.int .i64 h, .int .i64 w, .int .i64 c, .int .i64 lo, .int .i64 hi, .slice oa on oc, .int .i64 ot, .int .i64 op, .int .i64 ch, .int .i64 slo, .int .i64 shi, .int .i64 ylo, .int .i64 yhi, .int .i64 dp, .int .i64 wd, .int .i64 pd, .int .i64 p1, .int .i64 p2, .int .i64 t1, .int .i64 t2]) (t := 32)
  clear hX hC hK hL
  have H2 : Hid (∀ W', _) := fun W' => xholds_any t1 t2 a4 a5 W'
  rw [ht] at H2
  clear ht
  subst hw
  go_enter Try.func4, Try.ntmps4
  go_wp2_with fail
  refine (HX.out _).mono ?_
  rintro e w1 ⟨rfl, hb⟩
  have s1 := s0.call hb
  clear hb s0 HX
  obtain ⟨c1, f1, z1, -⟩ := s1.rules
  go_wp2_with fail
  refine (HC.out _ s1.below).mono ?_
  rintro e w2 ⟨rfl, hb⟩
  have s2 := (s1.call hb).new (c := #[.int .i64 a0, .int .i64 a1, .int .i64 a2, .int .i64 a3, .int .i64 a4, .int .i64 a5]) (t := 30)
  clear hb s1 HC c1 f1 z1
  obtain ⟨c1, f1, z1, c2, f2, z2, -⟩ := s2.rules
  go_wp2_with fail
  refine (HK.out _ s2.below).mono ?_
  rintro e w3 ⟨rfl, hb⟩
  have s3 := s2.call hb
  clear hb s2 HK c1 f1 z1 c2 f2 z2
  obtain ⟨c1, f1, z1, c2, f2, z2, -⟩ := s3.rules
  go_wp2_with fail
  refine (HL.out _ s3.below).mono ?_
  rintro e w4 ⟨rfl, hb⟩
  have s4 := s3.call hb
  clear hb s3 HL c1 f1 z1 c2 f2 z2
  obtain ⟨c1, f1, z1, c2, f2, z2, -⟩ := s4.rules
  go_wp2_with fail
  refine (H2.out _).mono ?_
  rintro e w5 ⟨rfl, hb⟩
  have s5 := s4.call hb
  clear hb s4 H2 c1 f1 z1 c2 f2 z2
  obtain ⟨c1, f1, z1, c2, f2, z2, -⟩ := s5.rules
  have HB : Hid (Below W.heap.size W _) := s5.below
  clear s5
  go_wp2
  go_ret
  exact ⟨rfl, HB.out⟩
set_option maxRecDepth 100000 in
set_option maxHeartbeats 8000000 in
theorem holds_16 (h w c lo hi : Int) (oa : Option Addr) (on oc : Nat) (ot op ch slo shi ylo yhi dp wd pd p1 p2 t1 t2 : Int) (W : World) (a0 a1 a2 a3 a4 a5 : Int) (hX : ∀ W', Calls Try.prog 6 #[] W' fun e w' => e = .returned (.bool true) ∧ Below W'.heap.size W' w')
    (hC : ∀ W', Below W.heap.size W W' → Calls Try.prog 13 #[.agg #[.int .i64 h, .int .i64 w, .int .i64 c, .int .i64 lo, .int .i64 hi, .slice oa on oc, .int .i64 ot], .int .i64 op, .int .i64 ch, .agg #[.int .i64 slo, .int .i64 shi]] W' fun e w' => e = .returned (.tuple #[.agg #[.int .i64 a0, .int .i64 a1, .int .i64 a2, .int .i64 a3, .int .i64 a4, .int .i64 a5], .int .i64 0]) ∧ Below W'.heap.size W' w')
    (hK : ∀ W', Below W.heap.size W W' → Calls Try.prog 14 #[.agg #[.int .i64 h, .int .i64 w, .int .i64 c, .int .i64 lo, .int .i64 hi, .slice oa on oc, .int .i64 ot], .int .i64 op, .int .i64 ch, .agg #[.int .i64 slo, .int .i64 shi], .agg #[.int .i64 wd, .int .i64 pd, .int .i64 p1, .int .i64 p2, .int .i64 t1, .int .i64 t2]] W' fun e w' => e = .returned (.int .i64 0) ∧ Below W'.heap.size W' w')
    (hL : ∀ W', Below W.heap.size W W' → Calls Try.prog 14 #[.agg #[.int .i64 h, .int .i64 w, .int .i64 c, .int .i64 lo, .int .i64 hi, .slice oa on oc, .int .i64 ot], .int .i64 op, .int .i64 ch, .agg #[.int .i64 slo, .int .i64 shi], .agg #[.int .i64 a0, .int .i64 a1, .int .i64 a2, .int .i64 a3, .int .i64 a4, .int .i64 a5]] W' fun e w' => e = .returned (.int .i64 0) ∧ Below W'.heap.size W' w')
    (ht : xho t1 t2 a4 a5 = true) (hw : wd ≠ 32) (ha : a0 = 16) (hd : pd ≤ a1) :
    Calls Try.prog 4 #[.agg #[.int .i64 h, .int .i64 w, .int .i64 c, .int .i64 lo, .int .i64 hi, .slice oa on oc, .int .i64 ot, .int .i64 op, .int .i64 ch, .int .i64 slo, .int .i64 shi, .int .i64 ylo, .int .i64 yhi, .int .i64 dp, .int .i64 wd, .int .i64 pd, .int .i64 p1, .int .i64 p2, .int .i64 t1, .int .i64 t2]] W fun e w' => e = .returned (.bool true) ∧ Below W.heap.size W w' := by
  have HX : Hid (∀ W', _) := hX
  have HC : Hid (∀ W', Below W.heap.size W W' → _) := hC
  have HK : Hid (∀ W', Below W.heap.size W W' → _) := hK
  have HL : Hid (∀ W', Below W.heap.size W W' → _) := hL
  have s0 := (St.start W).new (c := #[.int .i64 h, .int .i64 w, .int .i64 c, .int .i64 lo, .int .i64 hi, .slice oa on oc, .int .i64 ot, .int .i64 op, .int .i64 ch, .int .i64 slo, .int .i64 shi, .int .i64 ylo, .int .i64 yhi, .int .i64 dp, .int .i64 wd, .int .i64 pd, .int .i64 p1, .int .i64 p2, .int .i64 t1, .int .i64 t2]) (t := 32)
  clear hX hC hK hL
  have H2 : Hid (∀ W', _) := fun W' => xholds_any t1 t2 a4 a5 W'
  rw [ht] at H2
  clear ht
  have hw' : (wd == 32) = false := by simp [hw]
  subst ha
  go_enter Try.func4, Try.ntmps4
  go_wp2_with fail
  refine (HX.out _).mono ?_
  rintro e w1 ⟨rfl, hb⟩
  have s1 := s0.call hb
  clear hb s0 HX
  obtain ⟨c1, f1, z1, -⟩ := s1.rules
  go_wp2_with fail
  refine (HC.out _ s1.below).mono ?_
  rintro e w2 ⟨rfl, hb⟩
  have s2 := (s1.call hb).new (c := #[.int .i64 16, .int .i64 a1, .int .i64 a2, .int .i64 a3, .int .i64 a4, .int .i64 a5]) (t := 30)
  clear hb s1 HC c1 f1 z1
  obtain ⟨c1, f1, z1, c2, f2, z2, -⟩ := s2.rules
  go_wp2_with fail
  refine (HK.out _ s2.below).mono ?_
  rintro e w3 ⟨rfl, hb⟩
  have s3 := s2.call hb
  clear hb s2 HK c1 f1 z1 c2 f2 z2
  obtain ⟨c1, f1, z1, c2, f2, z2, -⟩ := s3.rules
  go_wp2_with fail
  refine (HL.out _ s3.below).mono ?_
  rintro e w4 ⟨rfl, hb⟩
  have s4 := s3.call hb
  clear hb s3 HL c1 f1 z1 c2 f2 z2
  obtain ⟨c1, f1, z1, c2, f2, z2, -⟩ := s4.rules
  go_wp2_with fail
  refine (H2.out _).mono ?_
  rintro e w5 ⟨rfl, hb⟩
  have s5 := s4.call hb
  clear hb s4 H2 c1 f1 z1 c2 f2 z2
  obtain ⟨c1, f1, z1, c2, f2, z2, -⟩ := s5.rules
  have HB : Hid (Below W.heap.size W _) := s5.below
  clear s5
  go_wp2
  go_ret
  exact ⟨rfl, HB.out⟩
end Go.Proofs.Ytgiohlcipndakaa
