/- The walks of SpanSets and SpanSums: each returns true for every argument that fits its type. -/
import Derived.Test.YtdpfnlefaegmeaaSpnC
import Derived.Test.YtdpfnlefaegmeaaSpnE
import Derived.Test.YtdpfnlefaegmeaaSpnH
namespace Go.Proofs.Ytdpfnlefaegmeaa
open Go.ChangeShapes Go.WideShapes Go.ChangeAt Go.RowKit
set_option maxHeartbeats 1000000 in
theorem spanSets_walk (a b c d : Int) (w : World) (_w0 : (Lit.int .i64 a).wf = true) (_w1 : (Lit.int .i64 b).wf = true) (_w2 : (Lit.int .i64 c).wf = true) (_w3 : (Lit.int .i64 d).wf = true) :
    Calls Try.prog 4 #[.agg #[.int .i64 a, .int .i64 b], .agg #[.int .i64 c, .int .i64 d]] w fun e w' => e = .returned (.bool true) ∧ Below w.heap.size w w' := by
  clear _w0 _w1 _w2 _w3
  go_enter Try.func4, Try.ntmps4
  go_wp2_with fail
  refine (shull_any _ _ _ _ _).mono ?_
  rintro e w1 ⟨rfl, hb'⟩
  have s1 := (St.start w).new.new.call hb'
  clear hb'
  try simp only [World.size_setCell] at s1
  try simp only [World.size_alloc] at s1
  obtain ⟨c1, f1, zw1_1, c2, f2, zw1_2, -⟩ := s1.rules
  go_wp2_with fail
  refine (srefhull_any _ _ _ _ _).mono ?_
  rintro e w2 ⟨rfl, hb'⟩
  have s2 := s1.new.call hb'
  clear hb' c1 f1 c2 f2
  try simp only [World.size_setCell] at s2
  try simp only [World.size_alloc] at s2
  obtain ⟨c1, f1, zw2_1, c2, f2, zw2_2, c3, f3, zw2_3, -⟩ := s2.rules
  go_wp2_with fail
  refine (smeet_any _ _ _ _ _).mono ?_
  rintro e w3 ⟨rfl, hb'⟩
  have s3 := s2.new.call hb'
  clear hb' c1 f1 c2 f2 c3 f3
  try simp only [World.size_setCell] at s3
  try simp only [World.size_alloc] at s3
  obtain ⟨c1, f1, zw3_1, c2, f2, zw3_2, c3, f3, zw3_3, c4, f4, zw3_4, -⟩ := s3.rules
  go_wp2_with fail
  refine (srefmeet_any _ _ _ _ _).mono ?_
  rintro e w4 ⟨rfl, hb'⟩
  have s4 := s3.new.call hb'
  clear hb' c1 f1 c2 f2 c3 f3 c4 f4
  try simp only [World.size_setCell] at s4
  try simp only [World.size_alloc] at s4
  obtain ⟨c1, f1, zw4_1, c2, f2, zw4_2, c3, f3, zw4_3, c4, f4, zw4_4, c5, f5, zw4_5, -⟩ := s4.rules
  go_wp2_with fail
  refine (fixed3_any _).mono ?_
  rintro e w5 ⟨rfl, hb'⟩
  have s5 := s4.new.call hb'
  clear hb' c1 f1 c2 f2 c3 f3 c4 f4 c5 f5
  try simp only [World.size_setCell] at s5
  try simp only [World.size_alloc] at s5
  obtain ⟨c1, f1, zw5_1, c2, f2, zw5_2, c3, f3, zw5_3, c4, f4, zw5_4, c5, f5, zw5_5, c6, f6, zw5_6, -⟩ := s5.rules
  go_wp2
  go_ret
  exact ⟨rfl, s5.below⟩
set_option maxHeartbeats 1000000 in
theorem spanSums_walk (a b c d k : Int) (w : World) (w0 : (Lit.int .i64 a).wf = true) (w1 : (Lit.int .i64 b).wf = true) (w2 : (Lit.int .i64 c).wf = true) (w3 : (Lit.int .i64 d).wf = true) (w4 : (Lit.int .i64 k).wf = true) :
    Calls Try.prog 5 #[.agg #[.int .i64 a, .int .i64 b], .agg #[.int .i64 c, .int .i64 d], .int .i64 k] w fun e w' => e = .returned (.bool true) ∧ Below w.heap.size w w' := by
  have ha := I64_of_wf w0
  have hb := I64_of_wf w1
  have hc := I64_of_wf w2
  have hd := I64_of_wf w3
  have hk := I64_of_wf w4
  clear w0 w1 w2 w3 w4
  go_enter Try.func5, Try.ntmps5
  go_wp2_with fail
  refine (sadd_any _ _ _ _ _ ha hb hc hd).mono ?_
  rintro e w1 ⟨rfl, hb'⟩
  have s1 := (St.start w).new.new.call hb'
  clear hb'
  try simp only [World.size_setCell] at s1
  try simp only [World.size_alloc] at s1
  obtain ⟨c1, f1, zw1_1, c2, f2, zw1_2, -⟩ := s1.rules
  go_wp2_with fail
  refine (srefadd_any _ _ _ _ _ ha hb hc hd).mono ?_
  rintro e w2 ⟨rfl, hb'⟩
  have s2 := s1.new.call hb'
  clear hb' c1 f1 c2 f2
  try simp only [World.size_setCell] at s2
  try simp only [World.size_alloc] at s2
  obtain ⟨c1, f1, zw2_1, c2, f2, zw2_2, c3, f3, zw2_3, -⟩ := s2.rules
  go_wp2_with fail
  refine (fixed3_any _).mono ?_
  rintro e w3 ⟨rfl, hb'⟩
  have s3 := s2.new.call hb'
  clear hb' c1 f1 c2 f2 c3 f3
  try simp only [World.size_setCell] at s3
  try simp only [World.size_alloc] at s3
  obtain ⟨c1, f1, zw3_1, c2, f2, zw3_2, c3, f3, zw3_3, c4, f4, zw3_4, -⟩ := s3.rules
  go_wp2_with fail
  refine (ssub_any _ _ _ _ _ ha hb hc hd).mono ?_
  rintro e w4 ⟨rfl, hb'⟩
  have s4 := s3.call hb'
  clear hb' c1 f1 c2 f2 c3 f3 c4 f4
  try simp only [World.size_setCell] at s4
  try simp only [World.size_alloc] at s4
  obtain ⟨c1, f1, zw4_1, c2, f2, zw4_2, c3, f3, zw4_3, c4, f4, zw4_4, -⟩ := s4.rules
  go_wp2_with fail
  refine (srefsub_any _ _ _ _ _ ha hb hc hd).mono ?_
  rintro e w5 ⟨rfl, hb'⟩
  have s5 := (s4.up1.set2 (by simp; omega)).call hb'
  clear hb' c1 f1 c2 f2 c3 f3 c4 f4
  try simp only [World.size_setCell] at s5
  try simp only [World.size_alloc] at s5
  obtain ⟨c1, f1, zw5_1, c2, f2, zw5_2, c3, f3, zw5_3, c4, f4, zw5_4, -⟩ := s5.rules
  go_wp2_with fail
  refine (stimes_any _ _ _ _ ha hb hk).mono ?_
  rintro e w6 ⟨rfl, hb'⟩
  have s6 := (s5.up1.set2 (by simp; omega)).call hb'
  clear hb' c1 f1 c2 f2 c3 f3 c4 f4
  try simp only [World.size_setCell] at s6
  try simp only [World.size_alloc] at s6
  obtain ⟨c1, f1, zw6_1, c2, f2, zw6_2, c3, f3, zw6_3, c4, f4, zw6_4, -⟩ := s6.rules
  go_wp2_with fail
  refine (sreftimes_any _ _ _ _ ha hb hk).mono ?_
  rintro e w7 ⟨rfl, hb'⟩
  have s7 := (s6.up1.set2 (by simp; omega)).call hb'
  clear hb' c1 f1 c2 f2 c3 f3 c4 f4
  try simp only [World.size_setCell] at s7
  try simp only [World.size_alloc] at s7
  obtain ⟨c1, f1, zw7_1, c2, f2, zw7_2, c3, f3, zw7_3, c4, f4, zw7_4, -⟩ := s7.rules
  go_wp2
  go_ret
  exact ⟨rfl, s7.up1.out2⟩
end Go.Proofs.Ytdpfnlefaegmeaa
