/- The walk of NormSums. The walk of NormWider. -/
import Derived.Test.YtjjckaklhafibaaGr28
/- The walk of NormSums. -/
namespace Go.Proofs.Ytjjckaklhafibaa
open Go.ChangeShapes Go.WideShapes Go.ChangeAt Go.RowKit
set_option linter.unusedVariables false
set_option maxHeartbeats 4000000 in
set_option maxRecDepth 100000 in
theorem sums_e (h w c lo hi : Int) (oa : Option Addr) (on oc : Nat) (ot op ch slo shi : Int) (ad : Option Addr) (n cap : Nat) (W : World) (E : Int) (hE : E ≠ 0)
    (HF : Hid (∀ W', Below W.heap.size W W' → Calls Try.prog 7 #[.agg #[.int .i64 h, .int .i64 w, .int .i64 c, .int .i64 lo, .int .i64 hi, .slice oa on oc, .int .i64 ot], .int .i64 op, .int .i64 ch] W' fun e w' => e = .returned (.tuple #[.agg #[.int .i64 0, .int .i64 0, .int .i64 0, .int .i64 0, .int .i64 0, .int .i64 0, .int .i64 0, .int .i64 0, .int .i64 0, .int .i64 0, .int .i64 0, .int .i64 0, .slice none 0 0, .slice none 0 0, .int .i64 0, .int .i64 0, .int .i64 0, .int .i64 0, .int .i64 0, .int .i64 0, .int .i64 0, .int .i64 0, .int .i64 0, .int .i64 0, .int .i64 0, .int .i64 0, .int .i64 0, .int .i64 0], .int .i64 E]) ∧ Below W'.heap.size W' w'))
    (HL : Hid (∀ W', Below W.heap.size W W' → Calls Try.prog 8 #[.agg #[.int .i64 h, .int .i64 w, .int .i64 c, .int .i64 lo, .int .i64 hi, .slice oa on oc, .int .i64 ot], .int .i64 op, .int .i64 ch] W' fun e w' => e = .returned (.tuple #[.int .i64 0, .int .i64 E]) ∧ Below W'.heap.size W' w'))
    (HS : Hid (∀ W', Below W.heap.size W W' → Calls Try.prog 9 #[.agg #[.int .i64 h, .int .i64 w, .int .i64 c, .int .i64 lo, .int .i64 hi, .slice oa on oc, .int .i64 ot], .int .i64 op, .int .i64 ch] W' fun e w' => e = .returned (.tuple #[.int .i64 0, .int .i64 0, .int .i64 E]) ∧ Below W'.heap.size W' w')) :
    Calls Try.prog 3 #[.agg #[.int .i64 h, .int .i64 w, .int .i64 c, .int .i64 lo, .int .i64 hi, .slice oa on oc, .int .i64 ot, .int .i64 op, .int .i64 ch, .int .i64 slo, .int .i64 shi, .slice ad n cap]] W fun e w' => e = .returned (.bool true) ∧ Below W.heap.size W w' := by
  have s0 := (St.start W).new (c := #[.int .i64 h, .int .i64 w, .int .i64 c, .int .i64 lo, .int .i64 hi, .slice oa on oc, .int .i64 ot, .int .i64 op, .int .i64 ch, .int .i64 slo, .int .i64 shi, .slice ad n cap]) (t := 31)
  have hE' : (E == 0) = false := by simp [hE]
  go_enter Try.func3, Try.ntmps3
  go_wp2_with fail
  refine Calls.mono (HF.out _ s0.below) ?_
  rintro e w1 ⟨rfl, hb⟩
  have s1 := (s0.call hb).new (c := #[.int .i64 0, .int .i64 0, .int .i64 0, .int .i64 0, .int .i64 0, .int .i64 0, .int .i64 0, .int .i64 0, .int .i64 0, .int .i64 0, .int .i64 0, .int .i64 0, .slice none 0 0, .slice none 0 0, .int .i64 0, .int .i64 0, .int .i64 0, .int .i64 0, .int .i64 0, .int .i64 0, .int .i64 0, .int .i64 0, .int .i64 0, .int .i64 0, .int .i64 0, .int .i64 0, .int .i64 0, .int .i64 0]) (t := 41)
  obtain ⟨-, -, -, c2, f2, z2, -⟩ := s1.rules
  clear hb s0 HF
  go_wp2_with (refine wpList_st_new rfl 41 (.tmp 3) (.tmp 20) rfl w1 _ #[.int .i64 0, .int .i64 0, .int .i64 0, .int .i64 0, .int .i64 0, .int .i64 0, .int .i64 0, .int .i64 0, .int .i64 0, .int .i64 0, .int .i64 0, .int .i64 0, .slice none 0 0, .slice none 0 0, .int .i64 0, .int .i64 0, .int .i64 0, .int .i64 0, .int .i64 0, .int .i64 0, .int .i64 0, .int .i64 0, .int .i64 0, .int .i64 0, .int .i64 0, .int .i64 0, .int .i64 0, .int .i64 0] rfl rfl (by kernel_rfl) rfl (by simp [Value.oneCell']) ?_)
  refine Calls.mono (HL.out _ s1.below) ?_
  rintro e w2 ⟨rfl, hb⟩
  have s2 := s1.call hb
  clear hb s1 c2 f2 z2 HL
  obtain ⟨-, -, -, c2, f2, z2, -⟩ := s2.rules
  go_wp2_with fail
  refine Calls.mono (HS.out _ s2.below) ?_
  rintro e w3 ⟨rfl, hb⟩
  have s3 := s2.call hb
  clear hb s2 c2 f2 z2 HS
  go_wp2_with fail
  refine (fixed12_any _).mono ?_
  rintro e w4 ⟨rfl, hb⟩
  have s4 := s3.call hb
  clear hb s3
  go_wp2
  go_ret
  exact ⟨rfl, s4.below⟩
set_option maxHeartbeats 4000000 in
set_option maxRecDepth 100000 in
theorem sums_k {O : Nat → Nat → Int} {i : Nat} {x : Addr} {wa : Option Addr} {lw cw : Nat} {ba : Option Addr} {lb cb : Nat} {x0 y0 z0 H V C : Int} (h w c lo hi : Int) (oa : Option Addr) (on oc : Nat) (ot op ch slo shi : Int) (ad : Option Addr) (n cap : Nat) (W : World) (su sd : Int) (hsu : 0 ≤ su ∧ su ≤ 16777216) (hsd : -16777216 ≤ sd ∧ sd ≤ 0)
    (HF : Hid (∀ W', Below W.heap.size W W' → Calls Try.prog 7 #[.agg #[.int .i64 h, .int .i64 w, .int .i64 c, .int .i64 lo, .int .i64 hi, .slice oa on oc, .int .i64 ot], .int .i64 op, .int .i64 ch] W' fun e w' => e = .returned (.tuple #[.agg #[.int .i64 (O i 0), .int .i64 (O i 1), .int .i64 (O i 2), .int .i64 (O i 3), .int .i64 (O i 4), .int .i64 (O i 5), .int .i64 (O i 6), .int .i64 (O i 7), .int .i64 (O i 8), .int .i64 (O i 9), .int .i64 (O i 10), .int .i64 (O i 11), .slice wa lw cw, .slice ba lb cb, .int .i64 (O i 14), .int .i64 (O i 15), .int .i64 (O i 16), .int .i64 (O i 17), .int .i64 (O i 18), .int .i64 (O i 19), .int .i64 (O i 20), .int .i64 (O i 21), .int .i64 x0, .int .i64 y0, .int .i64 z0, .int .i64 H, .int .i64 V, .int .i64 C], .int .i64 0]) ∧ Below W'.heap.size W' w'))
    (HL : Hid (∀ W', Below W.heap.size W W' → Calls Try.prog 8 #[.agg #[.int .i64 h, .int .i64 w, .int .i64 c, .int .i64 lo, .int .i64 hi, .slice oa on oc, .int .i64 ot], .int .i64 op, .int .i64 ch] W' fun e w' => e = .returned (.tuple #[.int .i64 (su - sd), .int .i64 0]) ∧ Below W'.heap.size W' w'))
    (HS : Hid (∀ W', Below W.heap.size W W' → Calls Try.prog 9 #[.agg #[.int .i64 h, .int .i64 w, .int .i64 c, .int .i64 lo, .int .i64 hi, .slice oa on oc, .int .i64 ot], .int .i64 op, .int .i64 ch] W' fun e w' => e = .returned (.tuple #[.int .i64 su, .int .i64 sd, .int .i64 0]) ∧ Below W'.heap.size W' w'))
    (HG : Hid (∀ W', Below W.heap.size W W' → Calls Try.prog 11 #[.agg #[.int .i64 (O i 0), .int .i64 (O i 1), .int .i64 (O i 2), .int .i64 (O i 3), .int .i64 (O i 4), .int .i64 (O i 5), .int .i64 (O i 6), .int .i64 (O i 7), .int .i64 (O i 8), .int .i64 (O i 9), .int .i64 (O i 10), .int .i64 (O i 11), .slice wa lw cw, .slice ba lb cb, .int .i64 (O i 14), .int .i64 (O i 15), .int .i64 (O i 16), .int .i64 (O i 17), .int .i64 (O i 18), .int .i64 (O i 19), .int .i64 (O i 20), .int .i64 (O i 21), .int .i64 x0, .int .i64 y0, .int .i64 z0, .int .i64 H, .int .i64 V, .int .i64 C], .int .i64 ch] W' fun e w' => e = .returned (.tuple #[.int .i64 su, .int .i64 sd]) ∧ Below W'.heap.size W' w')) :
    Calls Try.prog 3 #[.agg #[.int .i64 h, .int .i64 w, .int .i64 c, .int .i64 lo, .int .i64 hi, .slice oa on oc, .int .i64 ot, .int .i64 op, .int .i64 ch, .int .i64 slo, .int .i64 shi, .slice ad n cap]] W fun e w' => e = .returned (.bool true) ∧ Below W.heap.size W w' := by
  have s0 := (St.start W).new (c := #[.int .i64 h, .int .i64 w, .int .i64 c, .int .i64 lo, .int .i64 hi, .slice oa on oc, .int .i64 ot, .int .i64 op, .int .i64 ch, .int .i64 slo, .int .i64 shi, .slice ad n cap]) (t := 31)
  have hwr : IntKind.i64.wrap (su - sd) = su - sd := by rw [IntKind.wrap_i64]; omega
  go_enter Try.func3, Try.ntmps3
  go_wp2_with fail
  refine Calls.mono (HF.out _ s0.below) ?_
  rintro e w1 ⟨rfl, hb⟩
  have s1 := (s0.call hb).new (c := #[.int .i64 (O i 0), .int .i64 (O i 1), .int .i64 (O i 2), .int .i64 (O i 3), .int .i64 (O i 4), .int .i64 (O i 5), .int .i64 (O i 6), .int .i64 (O i 7), .int .i64 (O i 8), .int .i64 (O i 9), .int .i64 (O i 10), .int .i64 (O i 11), .slice wa lw cw, .slice ba lb cb, .int .i64 (O i 14), .int .i64 (O i 15), .int .i64 (O i 16), .int .i64 (O i 17), .int .i64 (O i 18), .int .i64 (O i 19), .int .i64 (O i 20), .int .i64 (O i 21), .int .i64 x0, .int .i64 y0, .int .i64 z0, .int .i64 H, .int .i64 V, .int .i64 C]) (t := 41)
  obtain ⟨-, -, -, c2, f2, z2, -⟩ := s1.rules
  clear hb s0 HF
  go_wp2_with (refine wpList_st_new rfl 41 (.tmp 3) (.tmp 20) rfl w1 _ #[.int .i64 (O i 0), .int .i64 (O i 1), .int .i64 (O i 2), .int .i64 (O i 3), .int .i64 (O i 4), .int .i64 (O i 5), .int .i64 (O i 6), .int .i64 (O i 7), .int .i64 (O i 8), .int .i64 (O i 9), .int .i64 (O i 10), .int .i64 (O i 11), .slice wa lw cw, .slice ba lb cb, .int .i64 (O i 14), .int .i64 (O i 15), .int .i64 (O i 16), .int .i64 (O i 17), .int .i64 (O i 18), .int .i64 (O i 19), .int .i64 (O i 20), .int .i64 (O i 21), .int .i64 x0, .int .i64 y0, .int .i64 z0, .int .i64 H, .int .i64 V, .int .i64 C] rfl rfl (by kernel_rfl) rfl (by simp [Value.oneCell']) ?_)
  refine Calls.mono (HL.out _ s1.below) ?_
  rintro e w2 ⟨rfl, hb⟩
  have s2 := s1.call hb
  clear hb s1 c2 f2 z2 HL
  obtain ⟨-, -, -, c2, f2, z2, -⟩ := s2.rules
  go_wp2_with fail
  refine Calls.mono (HS.out _ s2.below) ?_
  rintro e w3 ⟨rfl, hb⟩
  have s3 := s2.call hb
  clear hb s2 c2 f2 z2 HS
  go_wp2_with fail
  refine (fixed12_any _).mono ?_
  rintro e w4 ⟨rfl, hb⟩
  have s4 := s3.call hb
  clear hb s3
  obtain ⟨-, -, -, c2, f2, z2, -⟩ := s4.rules
  have hR4 := s4.h1
  go_wp2_with (refine wpList_load_row rfl 41 (.tmp 3) rfl _ rfl 41 _ (0, 0) _ hR4 Try.underlying41 rfl (by kernel_rfl) ?_)
  refine Calls.mono (HG.out _ s4.below) ?_
  rintro e w5 ⟨rfl, hb⟩
  have s5 := s4.call hb
  clear hb s4 c2 f2 z2 HG hR4
  go_wp2
  go_ret
  exact ⟨rfl, s5.below⟩
theorem normSums_walk (h w c lo hi : Int) (oa : Option Addr) (on oc : Nat) (ot op ch slo shi : Int) (ad : Option Addr) (n cap : Nat) (xs : List Int) (W : World) (_ : (Lit.int .i64 h).wf = true) (_ : (Lit.int .i64 w).wf = true) (_ : (Lit.int .i64 c).wf = true) (_ : (Lit.int .i64 lo).wf = true) (_ : (Lit.int .i64 hi).wf = true) (wo : ORow 22 (OpIn W) W oa on oc) (hr : on * 208 ≤ 140737488351232) (_ : (Lit.int .i64 ot).wf = true) (_ : (Lit.int .i64 op).wf = true) (_ : (Lit.int .i64 ch).wf = true) (_ : (Lit.int .i64 slo).wf = true) (_ : (Lit.int .i64 shi).wf = true) (hX : IRow .i8 W ad n cap xs) (hrx : n * 1 ≤ 140737488351232) : Calls Try.prog 3 #[.agg #[.int .i64 h, .int .i64 w, .int .i64 c, .int .i64 lo, .int .i64 hi, .slice oa on oc, .int .i64 ot, .int .i64 op, .int .i64 ch, .int .i64 slo, .int .i64 shi, .slice ad n cap]] W fun e w' => e = .returned (.bool true) ∧ Below W.heap.size W w' := by
  obtain ⟨O, Z, B, hL⟩ := lrow_of wo
  have hon : on ≤ 1000000000000 := by omega
  rcases ask_cases h w c lo hi ot oa on oc O Z B W hL hon op ch with ⟨E, hE, h1, h2⟩ | ⟨RL, Rw, hR, i, x, wa, lw, cw, ba, lb, cb, x0, y0, z0, H, V, C, rfl, hF, hch⟩
  · exact sums_e h w c lo hi oa on oc ot op ch slo shi ad n cap W E hE h2 (fun W' hb => l1_e h w c lo hi ot op ch oa on oc W' E hE (fun W'' hb' => h1 W'' (hb.trans (hb'.mono hb.size)))) (fun W' hb => sg_e h w c lo hi ot op ch oa on oc W' E hE (fun W'' hb' => h1 W'' (hb.trans (hb'.mono hb.size))))
  · obtain ⟨f1, f2, -⟩ := op_facts RL Rw hR i x wa lw cw ba lb cb x0 y0 z0 H V C hF hch
    have hsg := sg_all f2 f1
    exact sums_k (O := O) (i := i) (wa := wa) (lw := lw) (cw := cw) (ba := ba) (lb := lb) (cb := cb) (x0 := x0) (y0 := y0) (z0 := z0) (H := H) (V := V) (C := C) (x := x) h w c lo hi oa on oc ot _ ch slo shi ad n cap W _ _ hsg.1 hsg.2 (fch_ok h w c lo hi ot oa on oc O Z B W hL hon ch RL Rw hR i x wa lw cw ba lb cb x0 y0 z0 H V C hF hch) (fun W' hb => nl1_ok h w c lo hi ot oa on oc O Z B W' (hL.below hb) ch RL Rw hR i x wa lw cw ba lb cb x0 y0 z0 H V C (hF.below hb) hch) (fun W' hb => nsg_ok h w c lo hi ot oa on oc O Z B W' (hL.below hb) ch RL Rw hR i x wa lw cw ba lb cb x0 y0 z0 H V C (hF.below hb) hch) (rsg_ok h w c lo hi ot oa on oc O Z B W hL ch RL Rw hR i x wa lw cw ba lb cb x0 y0 z0 H V C hF hch)
end Go.Proofs.Ytjjckaklhafibaa

/- The walk of NormWider. -/
namespace Go.Proofs.Ytjjckaklhafibaa
open Go.ChangeShapes Go.WideShapes Go.ChangeAt Go.RowKit
set_option linter.unusedVariables false
set_option maxHeartbeats 8000000 in
set_option maxRecDepth 100000 in
theorem wider_w (h w c lo hi : Int) (oa : Option Addr) (on oc : Nat) (ot op ch slo shi : Int) (ad : Option Addr) (n cap : Nat) (W : World) (ylo yhi E su sd X1 Y1 E1 X2 Y2 E2 : Int) (hsu : 0 ≤ su ∧ su ≤ 16777216) (hsd : -16777216 ≤ sd ∧ sd ≤ 0)
    (HL : Hid (∀ W', Below W.heap.size W W' → Calls Try.prog 8 #[.agg #[.int .i64 h, .int .i64 w, .int .i64 c, .int .i64 lo, .int .i64 hi, .slice oa on oc, .int .i64 ot], .int .i64 op, .int .i64 ch] W' fun e w' => e = .returned (.tuple #[.int .i64 (su - sd), .int .i64 E]) ∧ Below W'.heap.size W' w'))
    (HS : Hid (∀ W', Below W.heap.size W W' → Calls Try.prog 9 #[.agg #[.int .i64 h, .int .i64 w, .int .i64 c, .int .i64 lo, .int .i64 hi, .slice oa on oc, .int .i64 ot], .int .i64 op, .int .i64 ch] W' fun e w' => e = .returned (.tuple #[.int .i64 su, .int .i64 sd, .int .i64 E]) ∧ Below W'.heap.size W' w'))
    (HQ : Hid (∀ W', Below W.heap.size W W' → Calls Try.prog 12 #[.agg #[.int .i64 h, .int .i64 w, .int .i64 c, .int .i64 lo, .int .i64 hi, .slice oa on oc, .int .i64 ot], .int .i64 op, .int .i64 ch, .agg #[.int .i64 slo, .int .i64 shi]] W' fun e w' => e = .returned (.tuple #[.agg #[.int .i64 X1, .int .i64 Y1], .int .i64 E1]) ∧ Below W'.heap.size W' w')) (HR : Hid (∀ W', Below W.heap.size W W' → Calls Try.prog 12 #[.agg #[.int .i64 h, .int .i64 w, .int .i64 c, .int .i64 lo, .int .i64 hi, .slice oa on oc, .int .i64 ot], .int .i64 op, .int .i64 ch, .agg #[.int .i64 ylo, .int .i64 yhi]] W' fun e w' => e = .returned (.tuple #[.agg #[.int .i64 X2, .int .i64 Y2], .int .i64 E2]) ∧ Below W'.heap.size W' w')) (b1 : -10000000000 ≤ X1 ∧ X1 ≤ 10000000000) (b2 : -10000000000 ≤ Y1 ∧ Y1 ≤ 10000000000) (b3 : -10000000000 ≤ X2 ∧ X2 ≤ 10000000000) (b4 : -10000000000 ≤ Y2 ∧ Y2 ≤ 10000000000)
    (Hw : Hid (E1 = 0 → E2 = 0 → ylo ≤ slo → shi ≤ yhi → X2 ≤ X1 ∧ Y1 ≤ Y2 ∧ X2 + Y2 = X1 + Y1)) :
    Calls Try.prog 6 #[.agg #[.int .i64 h, .int .i64 w, .int .i64 c, .int .i64 lo, .int .i64 hi, .slice oa on oc, .int .i64 ot, .int .i64 op, .int .i64 ch, .int .i64 slo, .int .i64 shi, .slice ad n cap], .agg #[.int .i64 ylo, .int .i64 yhi]] W fun e w' => e = .returned (.bool true) ∧ Below W.heap.size W w' := by
  have s0 := ((St.start W).new (c := #[.int .i64 h, .int .i64 w, .int .i64 c, .int .i64 lo, .int .i64 hi, .slice oa on oc, .int .i64 ot, .int .i64 op, .int .i64 ch, .int .i64 slo, .int .i64 shi, .slice ad n cap]) (t := 31)).new (c := #[.int .i64 ylo, .int .i64 yhi]) (t := 28)
  simp only [World.size_alloc] at s0
  have hwr : IntKind.i64.wrap (su - sd) = su - sd := by rw [IntKind.wrap_i64]; omega
  have hn1 : ¬ su < 0 := by omega
  have hn2 : ¬ 0 < sd := by omega
  by_cases hc : E1 ≠ 0
  · have k1 : (E1 == 0) = false := (by simp [hc])
    clear Hw
    go_enter Try.func6, Try.ntmps6
    go_wp2_with fail
    refine (fixed12_any _).mono ?_
    rintro e w1 ⟨rfl, hb⟩
    have s1 := s0.call hb
    clear hb s0
    obtain ⟨c1, f1, z1, c2, f2, z2, -⟩ := s1.rules
    go_wp2_with fail
    refine Calls.mono (HL.out _ s1.below) ?_
    rintro e w2 ⟨rfl, hb⟩
    have s2 := s1.call hb
    clear hb s1 HL c1 f1 z1 c2 f2 z2
    obtain ⟨c1, f1, z1, c2, f2, z2, -⟩ := s2.rules
    go_wp2_with fail
    refine Calls.mono (HS.out _ s2.below) ?_
    rintro e w3 ⟨rfl, hb⟩
    have s3 := s2.call hb
    clear hb s2 HS c1 f1 z1 c2 f2 z2
    obtain ⟨c1, f1, z1, c2, f2, z2, -⟩ := s3.rules
    go_wp2_with fail
    refine Calls.mono (HQ.out _ s3.below) ?_
    rintro e w4 ⟨rfl, hb⟩
    have s4 := (s3.call hb).new (c := #[.int .i64 X1, .int .i64 Y1]) (t := 28)
    clear hb s3 HQ c1 f1 z1 c2 f2 z2
    obtain ⟨c1, f1, z1, c2, f2, z2, c3, f3, z3, -⟩ := s4.rules
    go_wp2_with fail
    refine Calls.mono (HR.out _ s4.below) ?_
    rintro e w5 ⟨rfl, hb⟩
    have s5 := (s4.call hb).new (c := #[.int .i64 X2, .int .i64 Y2]) (t := 28)
    clear hb s4 HR c1 f1 z1 c2 f2 z2 c3 f3 z3
    obtain ⟨c1, f1, z1, c2, f2, z2, c3, f3, z3, c4, f4, z4, -⟩ := s5.rules
    go_wp2
    go_ret
    exact ⟨rfl, s5.below⟩
  obtain rfl : E1 = 0 := (by omega)
  by_cases hc : E2 ≠ 0
  · have k1 : (E2 == 0) = false := (by simp [hc])
    clear Hw
    go_enter Try.func6, Try.ntmps6
    go_wp2_with fail
    refine (fixed12_any _).mono ?_
    rintro e w1 ⟨rfl, hb⟩
    have s1 := s0.call hb
    clear hb s0
    obtain ⟨c1, f1, z1, c2, f2, z2, -⟩ := s1.rules
    go_wp2_with fail
    refine Calls.mono (HL.out _ s1.below) ?_
    rintro e w2 ⟨rfl, hb⟩
    have s2 := s1.call hb
    clear hb s1 HL c1 f1 z1 c2 f2 z2
    obtain ⟨c1, f1, z1, c2, f2, z2, -⟩ := s2.rules
    go_wp2_with fail
    refine Calls.mono (HS.out _ s2.below) ?_
    rintro e w3 ⟨rfl, hb⟩
    have s3 := s2.call hb
    clear hb s2 HS c1 f1 z1 c2 f2 z2
    obtain ⟨c1, f1, z1, c2, f2, z2, -⟩ := s3.rules
    go_wp2_with fail
    refine Calls.mono (HQ.out _ s3.below) ?_
    rintro e w4 ⟨rfl, hb⟩
    have s4 := (s3.call hb).new (c := #[.int .i64 X1, .int .i64 Y1]) (t := 28)
    clear hb s3 HQ c1 f1 z1 c2 f2 z2
    obtain ⟨c1, f1, z1, c2, f2, z2, c3, f3, z3, -⟩ := s4.rules
    go_wp2_with fail
    refine Calls.mono (HR.out _ s4.below) ?_
    rintro e w5 ⟨rfl, hb⟩
    have s5 := (s4.call hb).new (c := #[.int .i64 X2, .int .i64 Y2]) (t := 28)
    clear hb s4 HR c1 f1 z1 c2 f2 z2 c3 f3 z3
    obtain ⟨c1, f1, z1, c2, f2, z2, c3, f3, z3, c4, f4, z4, -⟩ := s5.rules
    go_wp2
    go_ret
    exact ⟨rfl, s5.below⟩
  obtain rfl : E2 = 0 := (by omega)
  by_cases hd : slo < ylo
  · skip
    clear Hw
    go_enter Try.func6, Try.ntmps6
    go_wp2_with fail
    refine (fixed12_any _).mono ?_
    rintro e w1 ⟨rfl, hb⟩
    have s1 := s0.call hb
    clear hb s0
    obtain ⟨c1, f1, z1, c2, f2, z2, -⟩ := s1.rules
    go_wp2_with fail
    refine Calls.mono (HL.out _ s1.below) ?_
    rintro e w2 ⟨rfl, hb⟩
    have s2 := s1.call hb
    clear hb s1 HL c1 f1 z1 c2 f2 z2
    obtain ⟨c1, f1, z1, c2, f2, z2, -⟩ := s2.rules
    go_wp2_with fail
    refine Calls.mono (HS.out _ s2.below) ?_
    rintro e w3 ⟨rfl, hb⟩
    have s3 := s2.call hb
    clear hb s2 HS c1 f1 z1 c2 f2 z2
    obtain ⟨c1, f1, z1, c2, f2, z2, -⟩ := s3.rules
    go_wp2_with fail
    refine Calls.mono (HQ.out _ s3.below) ?_
    rintro e w4 ⟨rfl, hb⟩
    have s4 := (s3.call hb).new (c := #[.int .i64 X1, .int .i64 Y1]) (t := 28)
    clear hb s3 HQ c1 f1 z1 c2 f2 z2
    obtain ⟨c1, f1, z1, c2, f2, z2, c3, f3, z3, -⟩ := s4.rules
    go_wp2_with fail
    refine Calls.mono (HR.out _ s4.below) ?_
    rintro e w5 ⟨rfl, hb⟩
    have s5 := (s4.call hb).new (c := #[.int .i64 X2, .int .i64 Y2]) (t := 28)
    clear hb s4 HR c1 f1 z1 c2 f2 z2 c3 f3 z3
    obtain ⟨c1, f1, z1, c2, f2, z2, c3, f3, z3, c4, f4, z4, -⟩ := s5.rules
    go_wp2
    go_ret
    exact ⟨rfl, s5.below⟩
  skip
  by_cases he : yhi < shi
  · skip
    clear Hw
    go_enter Try.func6, Try.ntmps6
    go_wp2_with fail
    refine (fixed12_any _).mono ?_
    rintro e w1 ⟨rfl, hb⟩
    have s1 := s0.call hb
    clear hb s0
    obtain ⟨c1, f1, z1, c2, f2, z2, -⟩ := s1.rules
    go_wp2_with fail
    refine Calls.mono (HL.out _ s1.below) ?_
    rintro e w2 ⟨rfl, hb⟩
    have s2 := s1.call hb
    clear hb s1 HL c1 f1 z1 c2 f2 z2
    obtain ⟨c1, f1, z1, c2, f2, z2, -⟩ := s2.rules
    go_wp2_with fail
    refine Calls.mono (HS.out _ s2.below) ?_
    rintro e w3 ⟨rfl, hb⟩
    have s3 := s2.call hb
    clear hb s2 HS c1 f1 z1 c2 f2 z2
    obtain ⟨c1, f1, z1, c2, f2, z2, -⟩ := s3.rules
    go_wp2_with fail
    refine Calls.mono (HQ.out _ s3.below) ?_
    rintro e w4 ⟨rfl, hb⟩
    have s4 := (s3.call hb).new (c := #[.int .i64 X1, .int .i64 Y1]) (t := 28)
    clear hb s3 HQ c1 f1 z1 c2 f2 z2
    obtain ⟨c1, f1, z1, c2, f2, z2, c3, f3, z3, -⟩ := s4.rules
    go_wp2_with fail
    refine Calls.mono (HR.out _ s4.below) ?_
    rintro e w5 ⟨rfl, hb⟩
    have s5 := (s4.call hb).new (c := #[.int .i64 X2, .int .i64 Y2]) (t := 28)
    clear hb s4 HR c1 f1 z1 c2 f2 z2 c3 f3 z3
    obtain ⟨c1, f1, z1, c2, f2, z2, c3, f3, z3, c4, f4, z4, -⟩ := s5.rules
    go_wp2
    go_ret
    exact ⟨rfl, s5.below⟩
  skip
  by_cases hf : True
  · obtain ⟨q1, q2, q3⟩ := Hw.out rfl rfl (by omega) (by omega)
    clear Hw
    go_enter Try.func6, Try.ntmps6
    go_wp2_with fail
    refine (fixed12_any _).mono ?_
    rintro e w1 ⟨rfl, hb⟩
    have s1 := s0.call hb
    clear hb s0
    obtain ⟨c1, f1, z1, c2, f2, z2, -⟩ := s1.rules
    go_wp2_with fail
    refine Calls.mono (HL.out _ s1.below) ?_
    rintro e w2 ⟨rfl, hb⟩
    have s2 := s1.call hb
    clear hb s1 HL c1 f1 z1 c2 f2 z2
    obtain ⟨c1, f1, z1, c2, f2, z2, -⟩ := s2.rules
    go_wp2_with fail
    refine Calls.mono (HS.out _ s2.below) ?_
    rintro e w3 ⟨rfl, hb⟩
    have s3 := s2.call hb
    clear hb s2 HS c1 f1 z1 c2 f2 z2
    obtain ⟨c1, f1, z1, c2, f2, z2, -⟩ := s3.rules
    go_wp2_with fail
    refine Calls.mono (HQ.out _ s3.below) ?_
    rintro e w4 ⟨rfl, hb⟩
    have s4 := (s3.call hb).new (c := #[.int .i64 X1, .int .i64 Y1]) (t := 28)
    clear hb s3 HQ c1 f1 z1 c2 f2 z2
    obtain ⟨c1, f1, z1, c2, f2, z2, c3, f3, z3, -⟩ := s4.rules
    go_wp2_with fail
    refine Calls.mono (HR.out _ s4.below) ?_
    rintro e w5 ⟨rfl, hb⟩
    have s5 := (s4.call hb).new (c := #[.int .i64 X2, .int .i64 Y2]) (t := 28)
    clear hb s4 HR c1 f1 z1 c2 f2 z2 c3 f3 z3
    obtain ⟨c1, f1, z1, c2, f2, z2, c3, f3, z3, c4, f4, z4, -⟩ := s5.rules
    go_wp2
    go_ret
    exact ⟨rfl, s5.below⟩
  skip
  exact absurd trivial hf
theorem qu_wide {slo shi ylo yhi bi A tp lf bt rt p : Int} (hA : 0 ≤ A) (h1 : (quR slo shi bi A (rcV tp lf bt rt p slo shi)).2.2 = 0) (h2 : (quR ylo yhi bi A (rcV tp lf bt rt p ylo yhi)).2.2 = 0) (h3 : ylo ≤ slo) (h4 : shi ≤ yhi) :
    (quR ylo yhi bi A (rcV tp lf bt rt p ylo yhi)).1 ≤ (quR slo shi bi A (rcV tp lf bt rt p slo shi)).1 ∧ (quR slo shi bi A (rcV tp lf bt rt p slo shi)).2.1 ≤ (quR ylo yhi bi A (rcV tp lf bt rt p ylo yhi)).2.1 ∧ (quR ylo yhi bi A (rcV tp lf bt rt p ylo yhi)).1 + (quR ylo yhi bi A (rcV tp lf bt rt p ylo yhi)).2.1 = (quR slo shi bi A (rcV tp lf bt rt p slo shi)).1 + (quR slo shi bi A (rcV tp lf bt rt p slo shi)).2.1 := by
  unfold quR at *
  cases g1 : vaB slo shi with
  | false => rw [g1, if_neg (by decide)] at h1; cases h1
  | true =>
    cases g2 : vaB ylo yhi with
    | false => rw [g2, if_neg (by decide)] at h2; cases h2
    | true =>
      rw [if_pos rfl, if_pos rfl]
      simp only
      have hr := rcV_wide (tp := tp) (lf := lf) (bt := bt) (rt := rt) (p := p) (vaB_yes g1).2.1 h3 h4
      have hm := Int.mul_le_mul_of_nonneg_left hr hA
      omega
theorem normWider_walk (h w c lo hi : Int) (oa : Option Addr) (on oc : Nat) (ot op ch slo shi : Int) (ad : Option Addr) (n cap : Nat) (xs : List Int) (ylo yhi : Int) (W : World) (_ : (Lit.int .i64 h).wf = true) (_ : (Lit.int .i64 w).wf = true) (_ : (Lit.int .i64 c).wf = true) (_ : (Lit.int .i64 lo).wf = true) (_ : (Lit.int .i64 hi).wf = true) (wo : ORow 22 (OpIn W) W oa on oc) (hr : on * 208 ≤ 140737488351232) (_ : (Lit.int .i64 ot).wf = true) (_ : (Lit.int .i64 op).wf = true) (_ : (Lit.int .i64 ch).wf = true) (_ : (Lit.int .i64 slo).wf = true) (_ : (Lit.int .i64 shi).wf = true) (hX : IRow .i8 W ad n cap xs) (hrx : n * 1 ≤ 140737488351232) (_ : (Lit.int .i64 ylo).wf = true) (_ : (Lit.int .i64 yhi).wf = true) : Calls Try.prog 6 #[.agg #[.int .i64 h, .int .i64 w, .int .i64 c, .int .i64 lo, .int .i64 hi, .slice oa on oc, .int .i64 ot, .int .i64 op, .int .i64 ch, .int .i64 slo, .int .i64 shi, .slice ad n cap], .agg #[.int .i64 ylo, .int .i64 yhi]] W fun e w' => e = .returned (.bool true) ∧ Below W.heap.size W w' := by
  obtain ⟨O, Z, B, hL⟩ := lrow_of wo
  have hon : on ≤ 1000000000000 := by omega
  rcases ask_cases h w c lo hi ot oa on oc O Z B W hL hon op ch with ⟨E, hE, h1, h2⟩ | ⟨RL, Rw, hR, i, x, wa, lw, cw, ba, lb, cb, x0, y0, z0, H, V, C, rfl, hF, hch⟩
  · exact wider_w h w c lo hi oa on oc ot op ch slo shi ad n cap W ylo yhi E 0 0 0 0 E 0 0 E (by omega) (by omega) (fun W' hb => l1_e h w c lo hi ot op ch oa on oc W' E hE (fun W'' hb' => h1 W'' (hb.trans (hb'.mono hb.size)))) (fun W' hb => sg_e h w c lo hi ot op ch oa on oc W' E hE (fun W'' hb' => h1 W'' (hb.trans (hb'.mono hb.size))))
      (fun W' hb => qu_e h w c lo hi ot op ch oa on oc W' slo shi E hE (fun W'' hb' => h1 W'' (hb.trans (hb'.mono hb.size)))) (fun W' hb => qu_e h w c lo hi ot op ch oa on oc W' ylo yhi E hE (fun W'' hb' => h1 W'' (hb.trans (hb'.mono hb.size)))) (by omega) (by omega) (by omega) (by omega) (fun q => absurd q hE)
  · obtain ⟨f1, f2, f3, f4, f5⟩ := op_facts RL Rw hR i x wa lw cw ba lb cb x0 y0 z0 H V C hF hch
    have hsg := sg_all f2 f1
    have q1 := quR_bd (slo := slo) (shi := shi) (bi := biA (O i 0) ch (B i)) (A := upS (siL (O i 0) (O i 4) (O i 5) (O i 6) (O i 7) (O i 8) (O i 9) (O i 10) (O i 11) x0 y0 z0 ch 0 (Z i)) - dnS (siL (O i 0) (O i 4) (O i 5) (O i 6) (O i 7) (O i 8) (O i 9) (O i 10) (O i 11) x0 y0 z0 ch 0 (Z i))) (R := rcV (O i 8) (O i 9) (O i 10) (O i 11) (O i 19) slo shi) (by omega) (fun g => rcV_bd (by have := vaB_yes g; omega) (by have := vaB_yes g; omega) f3) f5
    have q2 := quR_bd (slo := ylo) (shi := yhi) (bi := biA (O i 0) ch (B i)) (A := upS (siL (O i 0) (O i 4) (O i 5) (O i 6) (O i 7) (O i 8) (O i 9) (O i 10) (O i 11) x0 y0 z0 ch 0 (Z i)) - dnS (siL (O i 0) (O i 4) (O i 5) (O i 6) (O i 7) (O i 8) (O i 9) (O i 10) (O i 11) x0 y0 z0 ch 0 (Z i))) (R := rcV (O i 8) (O i 9) (O i 10) (O i 11) (O i 19) ylo yhi) (by omega) (fun g => rcV_bd (by have := vaB_yes g; omega) (by have := vaB_yes g; omega) f3) f5
    exact wider_w h w c lo hi oa on oc ot _ ch slo shi ad n cap W ylo yhi 0 _ _ _ _ _ _ _ _ hsg.1 hsg.2 (fun W' hb => nl1_ok h w c lo hi ot oa on oc O Z B W' (hL.below hb) ch RL Rw hR i x wa lw cw ba lb cb x0 y0 z0 H V C (hF.below hb) hch) (fun W' hb => nsg_ok h w c lo hi ot oa on oc O Z B W' (hL.below hb) ch RL Rw hR i x wa lw cw ba lb cb x0 y0 z0 H V C (hF.below hb) hch)
      (fun W' hb => nqu_ok h w c lo hi ot oa on oc O Z B W' (hL.below hb) ch RL Rw hR i x wa lw cw ba lb cb x0 y0 z0 H V C (hF.below hb) hch slo shi) (fun W' hb => nqu_ok h w c lo hi ot oa on oc O Z B W' (hL.below hb) ch RL Rw hR i x wa lw cw ba lb cb x0 y0 z0 H V C (hF.below hb) hch ylo yhi) q1.1 q1.2 q2.1 q2.2 (fun g1 g2 g3 g4 => qu_wide (by omega) g1 g2 g3 g4)
end Go.Proofs.Ytjjckaklhafibaa
