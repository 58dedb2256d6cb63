/- The walks of SpanScales and SpanMakes: each returns true for every argument that fits its type. -/
import Derived.Test.YtdpfnlefaegmeaaSpnC
import Derived.Test.YtdpfnlefaegmeaaSpnF
import Derived.Test.YtdpfnlefaegmeaaSpnG
import Derived.Test.YtdpfnlefaegmeaaSpnH
import Derived.Deep.RegionHeld3
namespace Go.Proofs.Ytdpfnlefaegmeaa
open Go.ChangeShapes Go.WideShapes Go.ChangeAt Go.RowKit
set_option maxHeartbeats 1000000 in
theorem spanScales_walk (a b m s c d : Int) (w : World) (w0 : (Lit.int .i64 a).wf = true) (w1 : (Lit.int .i64 b).wf = true) (_w2 : (Lit.int .i64 m).wf = true) (_w3 : (Lit.int .i64 s).wf = true) (_w4 : (Lit.int .i64 c).wf = true) (_w5 : (Lit.int .i64 d).wf = true) :
    Calls Try.prog 6 #[.agg #[.int .i64 a, .int .i64 b], .agg #[.int .i64 m, .int .i64 s], .agg #[.int .i64 c, .int .i64 d]] w fun e w' => e = .returned (.bool true) ∧ Below w.heap.size w w' := by
  have ha := I64_of_wf w0
  have hb := I64_of_wf w1
  clear w0 w1 _w2 _w3 _w4 _w5
  go_enter Try.func6, Try.ntmps6
  go_wp2_with fail
  refine (sscaled_any _ _ _ _ _).mono ?_
  rintro e w1 ⟨rfl, hb'⟩
  have s1 := (St.start w).new.new.new.call hb'
  clear hb'
  try simp only [World.size_setCell] at s1
  try simp only [World.size_alloc] at s1
  obtain ⟨c1, f1, zw1_1, c2, f2, zw1_2, c3, f3, zw1_3, -⟩ := s1.rules
  go_wp2_with fail
  refine (srefscaled_any _ _ _ _ _ ha hb).mono ?_
  rintro e w2 ⟨rfl, hb'⟩
  have s2 := s1.new.call hb'
  clear hb' c1 f1 c2 f2 c3 f3
  try simp only [World.size_setCell] at s2
  try simp only [World.size_alloc] at s2
  obtain ⟨c1, f1, zw2_1, c2, f2, zw2_2, c3, f3, zw2_3, c4, f4, zw2_4, -⟩ := s2.rules
  go_wp2_with fail
  refine (fixed3_any _).mono ?_
  rintro e w3 ⟨rfl, hb'⟩
  have s3 := s2.new.call hb'
  clear hb' c1 f1 c2 f2 c3 f3 c4 f4
  try simp only [World.size_setCell] at s3
  try simp only [World.size_alloc] at s3
  obtain ⟨c1, f1, zw3_1, c2, f2, zw3_2, c3, f3, zw3_3, c4, f4, zw3_4, c5, f5, zw3_5, -⟩ := s3.rules
  go_wp2_with fail
  refine (sclamped_any _ _ _ _ _).mono ?_
  rintro e w4 ⟨rfl, hb'⟩
  have s4 := s3.call hb'
  clear hb' c1 f1 c2 f2 c3 f3 c4 f4 c5 f5
  try simp only [World.size_setCell] at s4
  try simp only [World.size_alloc] at s4
  obtain ⟨c1, f1, zw4_1, c2, f2, zw4_2, c3, f3, zw4_3, c4, f4, zw4_4, c5, f5, zw4_5, -⟩ := s4.rules
  go_wp2_with fail
  refine (srefclamped_any _ _ _ _ _).mono ?_
  rintro e w5 ⟨rfl, hb'⟩
  have s5 := (s4.up1.set2 (by simp; omega)).call hb'
  clear hb' c1 f1 c2 f2 c3 f3 c4 f4 c5 f5
  try simp only [World.size_setCell] at s5
  try simp only [World.size_alloc] at s5
  obtain ⟨c1, f1, zw5_1, c2, f2, zw5_2, c3, f3, zw5_3, c4, f4, zw5_4, c5, f5, zw5_5, -⟩ := s5.rules
  go_wp2
  go_ret
  exact ⟨rfl, s5.up1.out2⟩
theorem keepTwo {w0 W w1 : World} {B D : Nat} {c d : Array Value} {t u : TypeId} (h : (∀ i, W.cell? ⟨B, i, none⟩ = c[i]?) ∧ (∀ i, W.cell? ⟨D, i, none⟩ = d[i]?) ∧ St w0 W [(B, c, t), (D, d, u)]) (hb : Below W.heap.size W w1) :
    (∀ i, w1.cell? ⟨B, i, none⟩ = c[i]?) ∧ (∀ i, w1.cell? ⟨D, i, none⟩ = d[i]?) ∧ St w0 w1 [(B, c, t), (D, d, u)] := by
  have s := h.2.2.call hb
  obtain ⟨c1, _, _, c2, _, _, -⟩ := s.rules
  exact ⟨c1, c2, s⟩
set_option maxHeartbeats 4000000 in
theorem spanMakes_walk (a b c d x : Int) (w : World) (_w0 : (Lit.int .i64 a).wf = true) (_w1 : (Lit.int .i64 b).wf = true) (_w2 : (Lit.int .i64 c).wf = true) (_w3 : (Lit.int .i64 d).wf = true) (_w4 : (Lit.int .i64 x).wf = true) :
    Calls Try.prog 3 #[.agg #[.int .i64 a, .int .i64 b], .agg #[.int .i64 c, .int .i64 d], .int .i64 x] w fun e w' => e = .returned (.bool true) ∧ Below w.heap.size w w' := by
  clear _w0 _w1 _w2 _w3 _w4
  cases h1 : vB a b
  all_goals
    try have HM : Hid (mkR a b = (0, 0, 30)) := if_neg (vB_no h1)
    try have HM : Hid (mkR a b = (a, b, 0)) := if_pos (vB_yes h1)
    go_enter Try.func3, Try.ntmps3
    go_wp2_with fail
    refine (smake_any _ _ _).mono ?_
    rintro e w1 ⟨rfl, hb'⟩
    have s1 := (St.start w).new.new.call hb'
    clear hb'
    try simp only [World.size_setCell] at s1
    try simp only [World.size_alloc] at s1
    obtain ⟨c1, f1, zw1_1, c2, f2, zw1_2, -⟩ := s1.rules
    rw [HM.out]
    go_wp2_with fail
    refine (fixed3_any _).mono ?_
    rintro e w2 ⟨rfl, hb'⟩
    have s2 := s1.new.call hb'
    clear hb' c1 f1 c2 f2
    try simp only [World.size_setCell] at s2
    try simp only [World.size_alloc] at s2
    obtain ⟨c1, f1, zw2_1, c2, f2, zw2_2, c3, f3, zw2_3, -⟩ := s2.rules
    go_wp2_with fail
    refine (srefvalid_any _ _ _).mono ?_
    rintro e w3 ⟨rfl, hb'⟩
    have s3 := s2.call hb'
    clear hb' c1 f1 c2 f2 c3 f3
    try simp only [World.size_setCell] at s3
    try simp only [World.size_alloc] at s3
    obtain ⟨c1, f1, zw3_1, c2, f2, zw3_2, c3, f3, zw3_3, -⟩ := s3.rules
    go_wp2_with fail
    have hD : (∀ i, w3.drew.cell? ⟨w.heap.size + 1, i, none⟩ = #[Value.int .i64 c, .int .i64 d][i]?) ∧ (∀ i, w3.drew.cell? ⟨w.heap.size, i, none⟩ = #[Value.int .i64 a, .int .i64 b][i]?) ∧ St w w3.drew [(w.heap.size + 1, #[Value.int .i64 c, .int .i64 d], 23), (w.heap.size, #[Value.int .i64 a, .int .i64 b], 23)] := ⟨c2, c3, s3.drew.tail⟩
    clear c1 f1 c2 f2 c3 f3
    go_region_held3 (fun w' => (∀ i, w'.cell? ⟨w.heap.size + 1, i, none⟩ = #[Value.int .i64 c, .int .i64 d][i]?) ∧ (∀ i, w'.cell? ⟨w.heap.size, i, none⟩ = #[Value.int .i64 a, .int .i64 b][i]?) ∧ St w w' [(w.heap.size + 1, #[Value.int .i64 c, .int .i64 d], 23), (w.heap.size, #[Value.int .i64 a, .int .i64 b], 23)])
      (exact hD)
      (first | (go_at_call 12; refine (svalid_any _ _ _).mono ?_; rintro e w4 ⟨rfl, h2⟩; replace hD := keepTwo hD h2; clear h2) | (go_at_call 11; refine (srefvalid_any _ _ _).mono ?_; rintro e w4 ⟨rfl, h2⟩; replace hD := keepTwo hD h2; clear h2) | (go_at_call 13; refine (shas_any _ _ _ _).mono ?_; rintro e w4 ⟨rfl, h2⟩; replace hD := keepTwo hD h2; clear h2) | (go_at_call 14; refine (srefhas_any _ _ _ _).mono ?_; rintro e w4 ⟨rfl, h2⟩; replace hD := keepTwo hD h2; clear h2) | (go_at_call 15; refine (sholds_any _ _ _ _ _).mono ?_; rintro e w4 ⟨rfl, h2⟩; replace hD := keepTwo hD h2; clear h2) | (go_at_call 16; refine (srefholds_any _ _ _ _ _).mono ?_; rintro e w4 ⟨rfl, h2⟩; replace hD := keepTwo hD h2; clear h2))
    all_goals
      go_wp2
      go_ret
      exact ⟨rfl, hD.2.2.below⟩
end Go.Proofs.Ytdpfnlefaegmeaa
