/- The walk of NormSums. The walk of NormWider. What greatestUnder and greatest of package plain return. What greatest of package plain returns; lists that grow. -/
import Derived.Test.YtkdnpkpmlckmnaaGr19
import Derived.Test.YtkdnpkpmlckmnaaGr23
import Derived.Deep.RegionLawGrows
/- The walk of NormSums. -/
namespace Go.Proofs.Ytkdnpkpmlckmnaa
open Go.ChangeShapes Go.WideShapes Go.ChangeAt Go.RowKit
set_option linter.unusedVariables false
set_option maxHeartbeats 4000000 in
set_option maxRecDepth 100000 in
theorem sums_e (h w c lo hi : Int) (oa : Option Addr) (on oc : Nat) (ot op ch slo shi : Int) (ad : Option Addr) (n cap : Nat) (W : World) (E : Int) (hE : E ≠ 0)
    (HF : Hid (∀ W', Below W.heap.size W W' → Calls Try.prog 7 #[.agg #[.int .i64 h, .int .i64 w, .int .i64 c, .int .i64 lo, .int .i64 hi, .slice oa on oc, .int .i64 ot], .int .i64 op, .int .i64 ch] W' fun e w' => e = .returned (.tuple #[.agg #[.int .i64 0, .int .i64 0, .int .i64 0, .int .i64 0, .int .i64 0, .int .i64 0, .int .i64 0, .int .i64 0, .int .i64 0, .int .i64 0, .int .i64 0, .int .i64 0, .slice none 0 0, .slice none 0 0, .int .i64 0, .int .i64 0, .int .i64 0, .int .i64 0, .int .i64 0, .int .i64 0, .int .i64 0, .int .i64 0, .int .i64 0, .int .i64 0, .int .i64 0, .int .i64 0, .int .i64 0, .int .i64 0], .int .i64 E]) ∧ Below W'.heap.size W' w'))
    (HL : Hid (∀ W', Below W.heap.size W W' → Calls Try.prog 8 #[.agg #[.int .i64 h, .int .i64 w, .int .i64 c, .int .i64 lo, .int .i64 hi, .slice oa on oc, .int .i64 ot], .int .i64 op, .int .i64 ch] W' fun e w' => e = .returned (.tuple #[.int .i64 0, .int .i64 E]) ∧ Below W'.heap.size W' w'))
    (HS : Hid (∀ W', Below W.heap.size W W' → Calls Try.prog 9 #[.agg #[.int .i64 h, .int .i64 w, .int .i64 c, .int .i64 lo, .int .i64 hi, .slice oa on oc, .int .i64 ot], .int .i64 op, .int .i64 ch] W' fun e w' => e = .returned (.tuple #[.int .i64 0, .int .i64 0, .int .i64 E]) ∧ Below W'.heap.size W' w')) :
    Calls Try.prog 3 #[.agg #[.int .i64 h, .int .i64 w, .int .i64 c, .int .i64 lo, .int .i64 hi, .slice oa on oc, .int .i64 ot, .int .i64 op, .int .i64 ch, .int .i64 slo, .int .i64 shi, .slice ad n cap]] W fun e w' => e = .returned (.bool true) ∧ Below W.heap.size W w' := by
  have s0 := (St.start W).new (c := #[.int .i64 h, .int .i64 w, .int .i64 c, .int .i64 lo, .int .i64 hi, .slice oa on oc, .int .i64 ot, .int .i64 op, .int .i64 ch, .int .i64 slo, .int .i64 shi, .slice ad n cap]) (t := 31)
  have hE' : (E == 0) = false := by simp [hE]
  go_enter Try.func3, Try.ntmps3
  go_wp2_with fail
  refine Calls.mono (HF.out _ s0.below) ?_
  rintro e w1 ⟨rfl, hb⟩
  have s1 := (s0.call hb).new (c := #[.int .i64 0, .int .i64 0, .int .i64 0, .int .i64 0, .int .i64 0, .int .i64 0, .int .i64 0, .int .i64 0, .int .i64 0, .int .i64 0, .int .i64 0, .int .i64 0, .slice none 0 0, .slice none 0 0, .int .i64 0, .int .i64 0, .int .i64 0, .int .i64 0, .int .i64 0, .int .i64 0, .int .i64 0, .int .i64 0, .int .i64 0, .int .i64 0, .int .i64 0, .int .i64 0, .int .i64 0, .int .i64 0]) (t := 41)
  obtain ⟨-, -, -, c2, f2, z2, -⟩ := s1.rules
  clear hb s0 HF
  go_wp2_with (refine wpList_st_new rfl 41 (.tmp 3) (.tmp 20) rfl w1 _ #[.int .i64 0, .int .i64 0, .int .i64 0, .int .i64 0, .int .i64 0, .int .i64 0, .int .i64 0, .int .i64 0, .int .i64 0, .int .i64 0, .int .i64 0, .int .i64 0, .slice none 0 0, .slice none 0 0, .int .i64 0, .int .i64 0, .int .i64 0, .int .i64 0, .int .i64 0, .int .i64 0, .int .i64 0, .int .i64 0, .int .i64 0, .int .i64 0, .int .i64 0, .int .i64 0, .int .i64 0, .int .i64 0] rfl rfl (by kernel_rfl) rfl (by simp [Value.oneCell']) ?_)
  refine Calls.mono (HL.out _ s1.below) ?_
  rintro e w2 ⟨rfl, hb⟩
  have s2 := s1.call hb
  clear hb s1 c2 f2 z2 HL
  obtain ⟨-, -, -, c2, f2, z2, -⟩ := s2.rules
  go_wp2_with fail
  refine Calls.mono (HS.out _ s2.below) ?_
  rintro e w3 ⟨rfl, hb⟩
  have s3 := s2.call hb
  clear hb s2 c2 f2 z2 HS
  go_wp2_with fail
  refine (fixed12_any _).mono ?_
  rintro e w4 ⟨rfl, hb⟩
  have s4 := s3.call hb
  clear hb s3
  go_wp2
  go_ret
  exact ⟨rfl, s4.below⟩
set_option maxHeartbeats 4000000 in
set_option maxRecDepth 100000 in
theorem sums_k {O : Nat → Nat → Int} {i : Nat} {x : Addr} {wa : Option Addr} {lw cw : Nat} {ba : Option Addr} {lb cb : Nat} {x0 y0 z0 H V C : Int} (h w c lo hi : Int) (oa : Option Addr) (on oc : Nat) (ot op ch slo shi : Int) (ad : Option Addr) (n cap : Nat) (W : World) (su sd : Int) (hsu : 0 ≤ su ∧ su ≤ 16777216) (hsd : -16777216 ≤ sd ∧ sd ≤ 0)
    (HF : Hid (∀ W', Below W.heap.size W W' → Calls Try.prog 7 #[.agg #[.int .i64 h, .int .i64 w, .int .i64 c, .int .i64 lo, .int .i64 hi, .slice oa on oc, .int .i64 ot], .int .i64 op, .int .i64 ch] W' fun e w' => e = .returned (.tuple #[.agg #[.int .i64 (O i 0), .int .i64 (O i 1), .int .i64 (O i 2), .int .i64 (O i 3), .int .i64 (O i 4), .int .i64 (O i 5), .int .i64 (O i 6), .int .i64 (O i 7), .int .i64 (O i 8), .int .i64 (O i 9), .int .i64 (O i 10), .int .i64 (O i 11), .slice wa lw cw, .slice ba lb cb, .int .i64 (O i 14), .int .i64 (O i 15), .int .i64 (O i 16), .int .i64 (O i 17), .int .i64 (O i 18), .int .i64 (O i 19), .int .i64 (O i 20), .int .i64 (O i 21), .int .i64 x0, .int .i64 y0, .int .i64 z0, .int .i64 H, .int .i64 V, .int .i64 C], .int .i64 0]) ∧ Below W'.heap.size W' w'))
    (HL : Hid (∀ W', Below W.heap.size W W' → Calls Try.prog 8 #[.agg #[.int .i64 h, .int .i64 w, .int .i64 c, .int .i64 lo, .int .i64 hi, .slice oa on oc, .int .i64 ot], .int .i64 op, .int .i64 ch] W' fun e w' => e = .returned (.tuple #[.int .i64 (su - sd), .int .i64 0]) ∧ Below W'.heap.size W' w'))
    (HS : Hid (∀ W', Below W.heap.size W W' → Calls Try.prog 9 #[.agg #[.int .i64 h, .int .i64 w, .int .i64 c, .int .i64 lo, .int .i64 hi, .slice oa on oc, .int .i64 ot], .int .i64 op, .int .i64 ch] W' fun e w' => e = .returned (.tuple #[.int .i64 su, .int .i64 sd, .int .i64 0]) ∧ Below W'.heap.size W' w'))
    (HG : Hid (∀ W', Below W.heap.size W W' → Calls Try.prog 11 #[.agg #[.int .i64 (O i 0), .int .i64 (O i 1), .int .i64 (O i 2), .int .i64 (O i 3), .int .i64 (O i 4), .int .i64 (O i 5), .int .i64 (O i 6), .int .i64 (O i 7), .int .i64 (O i 8), .int .i64 (O i 9), .int .i64 (O i 10), .int .i64 (O i 11), .slice wa lw cw, .slice ba lb cb, .int .i64 (O i 14), .int .i64 (O i 15), .int .i64 (O i 16), .int .i64 (O i 17), .int .i64 (O i 18), .int .i64 (O i 19), .int .i64 (O i 20), .int .i64 (O i 21), .int .i64 x0, .int .i64 y0, .int .i64 z0, .int .i64 H, .int .i64 V, .int .i64 C], .int .i64 ch] W' fun e w' => e = .returned (.tuple #[.int .i64 su, .int .i64 sd]) ∧ Below W'.heap.size W' w')) :
    Calls Try.prog 3 #[.agg #[.int .i64 h, .int .i64 w, .int .i64 c, .int .i64 lo, .int .i64 hi, .slice oa on oc, .int .i64 ot, .int .i64 op, .int .i64 ch, .int .i64 slo, .int .i64 shi, .slice ad n cap]] W fun e w' => e = .returned (.bool true) ∧ Below W.heap.size W w' := by
  have s0 := (St.start W).new (c := #[.int .i64 h, .int .i64 w, .int .i64 c, .int .i64 lo, .int .i64 hi, .slice oa on oc, .int .i64 ot, .int .i64 op, .int .i64 ch, .int .i64 slo, .int .i64 shi, .slice ad n cap]) (t := 31)
  have hwr : IntKind.i64.wrap (su - sd) = su - sd := by rw [IntKind.wrap_i64]; omega
  go_enter Try.func3, Try.ntmps3
  go_wp2_with fail
  refine Calls.mono (HF.out _ s0.below) ?_
  rintro e w1 ⟨rfl, hb⟩
  have s1 := (s0.call hb).new (c := #[.int .i64 (O i 0), .int .i64 (O i 1), .int .i64 (O i 2), .int .i64 (O i 3), .int .i64 (O i 4), .int .i64 (O i 5), .int .i64 (O i 6), .int .i64 (O i 7), .int .i64 (O i 8), .int .i64 (O i 9), .int .i64 (O i 10), .int .i64 (O i 11), .slice wa lw cw, .slice ba lb cb, .int .i64 (O i 14), .int .i64 (O i 15), .int .i64 (O i 16), .int .i64 (O i 17), .int .i64 (O i 18), .int .i64 (O i 19), .int .i64 (O i 20), .int .i64 (O i 21), .int .i64 x0, .int .i64 y0, .int .i64 z0, .int .i64 H, .int .i64 V, .int .i64 C]) (t := 41)
  obtain ⟨-, -, -, c2, f2, z2, -⟩ := s1.rules
  clear hb s0 HF
  go_wp2_with (refine wpList_st_new rfl 41 (.tmp 3) (.tmp 20) rfl w1 _ #[.int .i64 (O i 0), .int .i64 (O i 1), .int .i64 (O i 2), .int .i64 (O i 3), .int .i64 (O i 4), .int .i64 (O i 5), .int .i64 (O i 6), .int .i64 (O i 7), .int .i64 (O i 8), .int .i64 (O i 9), .int .i64 (O i 10), .int .i64 (O i 11), .slice wa lw cw, .slice ba lb cb, .int .i64 (O i 14), .int .i64 (O i 15), .int .i64 (O i 16), .int .i64 (O i 17), .int .i64 (O i 18), .int .i64 (O i 19), .int .i64 (O i 20), .int .i64 (O i 21), .int .i64 x0, .int .i64 y0, .int .i64 z0, .int .i64 H, .int .i64 V, .int .i64 C] rfl rfl (by kernel_rfl) rfl (by simp [Value.oneCell']) ?_)
  refine Calls.mono (HL.out _ s1.below) ?_
  rintro e w2 ⟨rfl, hb⟩
  have s2 := s1.call hb
  clear hb s1 c2 f2 z2 HL
  obtain ⟨-, -, -, c2, f2, z2, -⟩ := s2.rules
  go_wp2_with fail
  refine Calls.mono (HS.out _ s2.below) ?_
  rintro e w3 ⟨rfl, hb⟩
  have s3 := s2.call hb
  clear hb s2 c2 f2 z2 HS
  go_wp2_with fail
  refine (fixed12_any _).mono ?_
  rintro e w4 ⟨rfl, hb⟩
  have s4 := s3.call hb
  clear hb s3
  obtain ⟨-, -, -, c2, f2, z2, -⟩ := s4.rules
  have hR4 := s4.h1
  go_wp2_with (refine wpList_load_row rfl 41 (.tmp 3) rfl _ rfl 41 _ (0, 0) _ hR4 Try.underlying41 rfl (by kernel_rfl) ?_)
  refine Calls.mono (HG.out _ s4.below) ?_
  rintro e w5 ⟨rfl, hb⟩
  have s5 := s4.call hb
  clear hb s4 c2 f2 z2 HG hR4
  go_wp2
  go_ret
  exact ⟨rfl, s5.below⟩
theorem normSums_walk (h w c lo hi : Int) (oa : Option Addr) (on oc : Nat) (ot op ch slo shi : Int) (ad : Option Addr) (n cap : Nat) (xs : List Int) (W : World) (_ : (Lit.int .i64 h).wf = true) (_ : (Lit.int .i64 w).wf = true) (_ : (Lit.int .i64 c).wf = true) (_ : (Lit.int .i64 lo).wf = true) (_ : (Lit.int .i64 hi).wf = true) (wo : ORow 22 (OpIn W) W oa on oc) (hr : on * 208 ≤ 140737488351232) (_ : (Lit.int .i64 ot).wf = true) (_ : (Lit.int .i64 op).wf = true) (_ : (Lit.int .i64 ch).wf = true) (_ : (Lit.int .i64 slo).wf = true) (_ : (Lit.int .i64 shi).wf = true) (hX : IRow .i8 W ad n cap xs) (hrx : n * 1 ≤ 140737488351232) : Calls Try.prog 3 #[.agg #[.int .i64 h, .int .i64 w, .int .i64 c, .int .i64 lo, .int .i64 hi, .slice oa on oc, .int .i64 ot, .int .i64 op, .int .i64 ch, .int .i64 slo, .int .i64 shi, .slice ad n cap]] W fun e w' => e = .returned (.bool true) ∧ Below W.heap.size W w' := by
  obtain ⟨O, Z, B, hL⟩ := lrow_of wo
  have hon : on ≤ 1000000000000 := by omega
  rcases ask_cases h w c lo hi ot oa on oc O Z B W hL hon op ch with ⟨E, hE, h1, h2⟩ | ⟨RL, Rw, hR, i, x, wa, lw, cw, ba, lb, cb, x0, y0, z0, H, V, C, rfl, hF, hch⟩
  · exact sums_e h w c lo hi oa on oc ot op ch slo shi ad n cap W E hE h2 (fun W' hb => l1_e h w c lo hi ot op ch oa on oc W' E hE (fun W'' hb' => h1 W'' (hb.trans (hb'.mono hb.size)))) (fun W' hb => sg_e h w c lo hi ot op ch oa on oc W' E hE (fun W'' hb' => h1 W'' (hb.trans (hb'.mono hb.size))))
  · obtain ⟨f1, f2, -⟩ := op_facts RL Rw hR i x wa lw cw ba lb cb x0 y0 z0 H V C hF hch
    have hsg := sg_all f2 f1
    exact sums_k (O := O) (i := i) (wa := wa) (lw := lw) (cw := cw) (ba := ba) (lb := lb) (cb := cb) (x0 := x0) (y0 := y0) (z0 := z0) (H := H) (V := V) (C := C) (x := x) h w c lo hi oa on oc ot _ ch slo shi ad n cap W _ _ hsg.1 hsg.2 (fch_ok h w c lo hi ot oa on oc O Z B W hL hon ch RL Rw hR i x wa lw cw ba lb cb x0 y0 z0 H V C hF hch) (fun W' hb => nl1_ok h w c lo hi ot oa on oc O Z B W' (hL.below hb) ch RL Rw hR i x wa lw cw ba lb cb x0 y0 z0 H V C (hF.below hb) hch) (fun W' hb => nsg_ok h w c lo hi ot oa on oc O Z B W' (hL.below hb) ch RL Rw hR i x wa lw cw ba lb cb x0 y0 z0 H V C (hF.below hb) hch) (rsg_ok h w c lo hi ot oa on oc O Z B W hL ch RL Rw hR i x wa lw cw ba lb cb x0 y0 z0 H V C hF hch)
end Go.Proofs.Ytkdnpkpmlckmnaa

/- The walk of NormWider. -/
namespace Go.Proofs.Ytkdnpkpmlckmnaa
open Go.ChangeShapes Go.WideShapes Go.ChangeAt Go.RowKit
set_option linter.unusedVariables false
set_option maxHeartbeats 8000000 in
set_option maxRecDepth 100000 in
theorem wider_w (h w c lo hi : Int) (oa : Option Addr) (on oc : Nat) (ot op ch slo shi : Int) (ad : Option Addr) (n cap : Nat) (W : World) (ylo yhi E su sd X1 Y1 E1 X2 Y2 E2 : Int) (hsu : 0 ≤ su ∧ su ≤ 16777216) (hsd : -16777216 ≤ sd ∧ sd ≤ 0)
    (HL : Hid (∀ W', Below W.heap.size W W' → Calls Try.prog 8 #[.agg #[.int .i64 h, .int .i64 w, .int .i64 c, .int .i64 lo, .int .i64 hi, .slice oa on oc, .int .i64 ot], .int .i64 op, .int .i64 ch] W' fun e w' => e = .returned (.tuple #[.int .i64 (su - sd), .int .i64 E]) ∧ Below W'.heap.size W' w'))
    (HS : Hid (∀ W', Below W.heap.size W W' → Calls Try.prog 9 #[.agg #[.int .i64 h, .int .i64 w, .int .i64 c, .int .i64 lo, .int .i64 hi, .slice oa on oc, .int .i64 ot], .int .i64 op, .int .i64 ch] W' fun e w' => e = .returned (.tuple #[.int .i64 su, .int .i64 sd, .int .i64 E]) ∧ Below W'.heap.size W' w'))
    (HQ : Hid (∀ W', Below W.heap.size W W' → Calls Try.prog 12 #[.agg #[.int .i64 h, .int .i64 w, .int .i64 c, .int .i64 lo, .int .i64 hi, .slice oa on oc, .int .i64 ot], .int .i64 op, .int .i64 ch, .agg #[.int .i64 slo, .int .i64 shi]] W' fun e w' => e = .returned (.tuple #[.agg #[.int .i64 X1, .int .i64 Y1], .int .i64 E1]) ∧ Below W'.heap.size W' w')) (HR : Hid (∀ W', Below W.heap.size W W' → Calls Try.prog 12 #[.agg #[.int .i64 h, .int .i64 w, .int .i64 c, .int .i64 lo, .int .i64 hi, .slice oa on oc, .int .i64 ot], .int .i64 op, .int .i64 ch, .agg #[.int .i64 ylo, .int .i64 yhi]] W' fun e w' => e = .returned (.tuple #[.agg #[.int .i64 X2, .int .i64 Y2], .int .i64 E2]) ∧ Below W'.heap.size W' w')) (b1 : -10000000000 ≤ X1 ∧ X1 ≤ 10000000000) (b2 : -10000000000 ≤ Y1 ∧ Y1 ≤ 10000000000) (b3 : -10000000000 ≤ X2 ∧ X2 ≤ 10000000000) (b4 : -10000000000 ≤ Y2 ∧ Y2 ≤ 10000000000)
    (Hw : Hid (E1 = 0 → E2 = 0 → ylo ≤ slo → shi ≤ yhi → X2 ≤ X1 ∧ Y1 ≤ Y2 ∧ X2 + Y2 = X1 + Y1)) :
    Calls Try.prog 6 #[.agg #[.int .i64 h, .int .i64 w, .int .i64 c, .int .i64 lo, .int .i64 hi, .slice oa on oc, .int .i64 ot, .int .i64 op, .int .i64 ch, .int .i64 slo, .int .i64 shi, .slice ad n cap], .agg #[.int .i64 ylo, .int .i64 yhi]] W fun e w' => e = .returned (.bool true) ∧ Below W.heap.size W w' := by
  have s0 := ((St.start W).new (c := #[.int .i64 h, .int .i64 w, .int .i64 c, .int .i64 lo, .int .i64 hi, .slice oa on oc, .int .i64 ot, .int .i64 op, .int .i64 ch, .int .i64 slo, .int .i64 shi, .slice ad n cap]) (t := 31)).new (c := #[.int .i64 ylo, .int .i64 yhi]) (t := 28)
  simp only [World.size_alloc] at s0
  have hwr : IntKind.i64.wrap (su - sd) = su - sd := by rw [IntKind.wrap_i64]; omega
  have hn1 : ¬ su < 0 := by omega
  have hn2 : ¬ 0 < sd := by omega
  by_cases hc : E1 ≠ 0
  · have k1 : (E1 == 0) = false := (by simp [hc])
    clear Hw
    go_enter Try.func6, Try.ntmps6
    go_wp2_with fail
    refine (fixed12_any _).mono ?_
    rintro e w1 ⟨rfl, hb⟩
    have s1 := s0.call hb
    clear hb s0
    obtain ⟨c1, f1, z1, c2, f2, z2, -⟩ := s1.rules
    go_wp2_with fail
    refine Calls.mono (HL.out _ s1.below) ?_
    rintro e w2 ⟨rfl, hb⟩
    have s2 := s1.call hb
    clear hb s1 HL c1 f1 z1 c2 f2 z2
    obtain ⟨c1, f1, z1, c2, f2, z2, -⟩ := s2.rules
    go_wp2_with fail
    refine Calls.mono (HS.out _ s2.below) ?_
    rintro e w3 ⟨rfl, hb⟩
    have s3 := s2.call hb
    clear hb s2 HS c1 f1 z1 c2 f2 z2
    obtain ⟨c1, f1, z1, c2, f2, z2, -⟩ := s3.rules
    go_wp2_with fail
    refine Calls.mono (HQ.out _ s3.below) ?_
    rintro e w4 ⟨rfl, hb⟩
    have s4 := (s3.call hb).new (c := #[.int .i64 X1, .int .i64 Y1]) (t := 28)
    clear hb s3 HQ c1 f1 z1 c2 f2 z2
    obtain ⟨c1, f1, z1, c2, f2, z2, c3, f3, z3, -⟩ := s4.rules
    go_wp2_with fail
    refine Calls.mono (HR.out _ s4.below) ?_
    rintro e w5 ⟨rfl, hb⟩
    have s5 := (s4.call hb).new (c := #[.int .i64 X2, .int .i64 Y2]) (t := 28)
    clear hb s4 HR c1 f1 z1 c2 f2 z2 c3 f3 z3
    obtain ⟨c1, f1, z1, c2, f2, z2, c3, f3, z3, c4, f4, z4, -⟩ := s5.rules
    go_wp2
    go_ret
    exact ⟨rfl, s5.below⟩
  obtain rfl : E1 = 0 := (by omega)
  by_cases hc : E2 ≠ 0
  · have k1 : (E2 == 0) = false := (by simp [hc])
    clear Hw
    go_enter Try.func6, Try.ntmps6
    go_wp2_with fail
    refine (fixed12_any _).mono ?_
    rintro e w1 ⟨rfl, hb⟩
    have s1 := s0.call hb
    clear hb s0
    obtain ⟨c1, f1, z1, c2, f2, z2, -⟩ := s1.rules
    go_wp2_with fail
    refine Calls.mono (HL.out _ s1.below) ?_
    rintro e w2 ⟨rfl, hb⟩
    have s2 := s1.call hb
    clear hb s1 HL c1 f1 z1 c2 f2 z2
    obtain ⟨c1, f1, z1, c2, f2, z2, -⟩ := s2.rules
    go_wp2_with fail
    refine Calls.mono (HS.out _ s2.below) ?_
    rintro e w3 ⟨rfl, hb⟩
    have s3 := s2.call hb
    clear hb s2 HS c1 f1 z1 c2 f2 z2
    obtain ⟨c1, f1, z1, c2, f2, z2, -⟩ := s3.rules
    go_wp2_with fail
    refine Calls.mono (HQ.out _ s3.below) ?_
    rintro e w4 ⟨rfl, hb⟩
    have s4 := (s3.call hb).new (c := #[.int .i64 X1, .int .i64 Y1]) (t := 28)
    clear hb s3 HQ c1 f1 z1 c2 f2 z2
    obtain ⟨c1, f1, z1, c2, f2, z2, c3, f3, z3, -⟩ := s4.rules
    go_wp2_with fail
    refine Calls.mono (HR.out _ s4.below) ?_
    rintro e w5 ⟨rfl, hb⟩
    have s5 := (s4.call hb).new (c := #[.int .i64 X2, .int .i64 Y2]) (t := 28)
    clear hb s4 HR c1 f1 z1 c2 f2 z2 c3 f3 z3
    obtain ⟨c1, f1, z1, c2, f2, z2, c3, f3, z3, c4, f4, z4, -⟩ := s5.rules
    go_wp2
    go_ret
    exact ⟨rfl, s5.below⟩
  obtain rfl : E2 = 0 := (by omega)
  by_cases hd : slo < ylo
  · skip
    clear Hw
    go_enter Try.func6, Try.ntmps6
    go_wp2_with fail
    refine (fixed12_any _).mono ?_
    rintro e w1 ⟨rfl, hb⟩
    have s1 := s0.call hb
    clear hb s0
    obtain ⟨c1, f1, z1, c2, f2, z2, -⟩ := s1.rules
    go_wp2_with fail
    refine Calls.mono (HL.out _ s1.below) ?_
    rintro e w2 ⟨rfl, hb⟩
    have s2 := s1.call hb
    clear hb s1 HL c1 f1 z1 c2 f2 z2
    obtain ⟨c1, f1, z1, c2, f2, z2, -⟩ := s2.rules
    go_wp2_with fail
    refine Calls.mono (HS.out _ s2.below) ?_
    rintro e w3 ⟨rfl, hb⟩
    have s3 := s2.call hb
    clear hb s2 HS c1 f1 z1 c2 f2 z2
    obtain ⟨c1, f1, z1, c2, f2, z2, -⟩ := s3.rules
    go_wp2_with fail
    refine Calls.mono (HQ.out _ s3.below) ?_
    rintro e w4 ⟨rfl, hb⟩
    have s4 := (s3.call hb).new (c := #[.int .i64 X1, .int .i64 Y1]) (t := 28)
    clear hb s3 HQ c1 f1 z1 c2 f2 z2
    obtain ⟨c1, f1, z1, c2, f2, z2, c3, f3, z3, -⟩ := s4.rules
    go_wp2_with fail
    refine Calls.mono (HR.out _ s4.below) ?_
    rintro e w5 ⟨rfl, hb⟩
    have s5 := (s4.call hb).new (c := #[.int .i64 X2, .int .i64 Y2]) (t := 28)
    clear hb s4 HR c1 f1 z1 c2 f2 z2 c3 f3 z3
    obtain ⟨c1, f1, z1, c2, f2, z2, c3, f3, z3, c4, f4, z4, -⟩ := s5.rules
    go_wp2
    go_ret
    exact ⟨rfl, s5.below⟩
  skip
  by_cases he : yhi < shi
  · skip
    clear Hw
    go_enter Try.func6, Try.ntmps6
    go_wp2_with fail
    refine (fixed12_any _).mono ?_
    rintro e w1 ⟨rfl, hb⟩
    have s1 := s0.call hb
    clear hb s0
    obtain ⟨c1, f1, z1, c2, f2, z2, -⟩ := s1.rules
    go_wp2_with fail
    refine Calls.mono (HL.out _ s1.below) ?_
    rintro e w2 ⟨rfl, hb⟩
    have s2 := s1.call hb
    clear hb s1 HL c1 f1 z1 c2 f2 z2
    obtain ⟨c1, f1, z1, c2, f2, z2, -⟩ := s2.rules
    go_wp2_with fail
    refine Calls.mono (HS.out _ s2.below) ?_
    rintro e w3 ⟨rfl, hb⟩
    have s3 := s2.call hb
    clear hb s2 HS c1 f1 z1 c2 f2 z2
    obtain ⟨c1, f1, z1, c2, f2, z2, -⟩ := s3.rules
    go_wp2_with fail
    refine Calls.mono (HQ.out _ s3.below) ?_
    rintro e w4 ⟨rfl, hb⟩
    have s4 := (s3.call hb).new (c := #[.int .i64 X1, .int .i64 Y1]) (t := 28)
    clear hb s3 HQ c1 f1 z1 c2 f2 z2
    obtain ⟨c1, f1, z1, c2, f2, z2, c3, f3, z3, -⟩ := s4.rules
    go_wp2_with fail
    refine Calls.mono (HR.out _ s4.below) ?_
    rintro e w5 ⟨rfl, hb⟩
    have s5 := (s4.call hb).new (c := #[.int .i64 X2, .int .i64 Y2]) (t := 28)
    clear hb s4 HR c1 f1 z1 c2 f2 z2 c3 f3 z3
    obtain ⟨c1, f1, z1, c2, f2, z2, c3, f3, z3, c4, f4, z4, -⟩ := s5.rules
    go_wp2
    go_ret
    exact ⟨rfl, s5.below⟩
  skip
  by_cases hf : True
  · obtain ⟨q1, q2, q3⟩ := Hw.out rfl rfl (by omega) (by omega)
    clear Hw
    go_enter Try.func6, Try.ntmps6
    go_wp2_with fail
    refine (fixed12_any _).mono ?_
    rintro e w1 ⟨rfl, hb⟩
    have s1 := s0.call hb
    clear hb s0
    obtain ⟨c1, f1, z1, c2, f2, z2, -⟩ := s1.rules
    go_wp2_with fail
    refine Calls.mono (HL.out _ s1.below) ?_
    rintro e w2 ⟨rfl, hb⟩
    have s2 := s1.call hb
    clear hb s1 HL c1 f1 z1 c2 f2 z2
    obtain ⟨c1, f1, z1, c2, f2, z2, -⟩ := s2.rules
    go_wp2_with fail
    refine Calls.mono (HS.out _ s2.below) ?_
    rintro e w3 ⟨rfl, hb⟩
    have s3 := s2.call hb
    clear hb s2 HS c1 f1 z1 c2 f2 z2
    obtain ⟨c1, f1, z1, c2, f2, z2, -⟩ := s3.rules
    go_wp2_with fail
    refine Calls.mono (HQ.out _ s3.below) ?_
    rintro e w4 ⟨rfl, hb⟩
    have s4 := (s3.call hb).new (c := #[.int .i64 X1, .int .i64 Y1]) (t := 28)
    clear hb s3 HQ c1 f1 z1 c2 f2 z2
    obtain ⟨c1, f1, z1, c2, f2, z2, c3, f3, z3, -⟩ := s4.rules
    go_wp2_with fail
    refine Calls.mono (HR.out _ s4.below) ?_
    rintro e w5 ⟨rfl, hb⟩
    have s5 := (s4.call hb).new (c := #[.int .i64 X2, .int .i64 Y2]) (t := 28)
    clear hb s4 HR c1 f1 z1 c2 f2 z2 c3 f3 z3
    obtain ⟨c1, f1, z1, c2, f2, z2, c3, f3, z3, c4, f4, z4, -⟩ := s5.rules
    go_wp2
    go_ret
    exact ⟨rfl, s5.below⟩
  skip
  exact absurd trivial hf
theorem qu_wide {slo shi ylo yhi bi A tp lf bt rt p : Int} (hA : 0 ≤ A) (h1 : (quR slo shi bi A (rcV tp lf bt rt p slo shi)).2.2 = 0) (h2 : (quR ylo yhi bi A (rcV tp lf bt rt p ylo yhi)).2.2 = 0) (h3 : ylo ≤ slo) (h4 : shi ≤ yhi) :
    (quR ylo yhi bi A (rcV tp lf bt rt p ylo yhi)).1 ≤ (quR slo shi bi A (rcV tp lf bt rt p slo shi)).1 ∧ (quR slo shi bi A (rcV tp lf bt rt p slo shi)).2.1 ≤ (quR ylo yhi bi A (rcV tp lf bt rt p ylo yhi)).2.1 ∧ (quR ylo yhi bi A (rcV tp lf bt rt p ylo yhi)).1 + (quR ylo yhi bi A (rcV tp lf bt rt p ylo yhi)).2.1 = (quR slo shi bi A (rcV tp lf bt rt p slo shi)).1 + (quR slo shi bi A (rcV tp lf bt rt p slo shi)).2.1 := by
  unfold quR at *
  cases g1 : vaB slo shi with
  | false => rw [g1, if_neg (by decide)] at h1; cases h1
  | true =>
    cases g2 : vaB ylo yhi with
    | false => rw [g2, if_neg (by decide)] at h2; cases h2
    | true =>
      rw [if_pos rfl, if_pos rfl]
      simp only
      have hr := rcV_wide (tp := tp) (lf := lf) (bt := bt) (rt := rt) (p := p) (vaB_yes g1).2.1 h3 h4
      have hm := Int.mul_le_mul_of_nonneg_left hr hA
      omega
theorem normWider_walk (h w c lo hi : Int) (oa : Option Addr) (on oc : Nat) (ot op ch slo shi : Int) (ad : Option Addr) (n cap : Nat) (xs : List Int) (ylo yhi : Int) (W : World) (_ : (Lit.int .i64 h).wf = true) (_ : (Lit.int .i64 w).wf = true) (_ : (Lit.int .i64 c).wf = true) (_ : (Lit.int .i64 lo).wf = true) (_ : (Lit.int .i64 hi).wf = true) (wo : ORow 22 (OpIn W) W oa on oc) (hr : on * 208 ≤ 140737488351232) (_ : (Lit.int .i64 ot).wf = true) (_ : (Lit.int .i64 op).wf = true) (_ : (Lit.int .i64 ch).wf = true) (_ : (Lit.int .i64 slo).wf = true) (_ : (Lit.int .i64 shi).wf = true) (hX : IRow .i8 W ad n cap xs) (hrx : n * 1 ≤ 140737488351232) (_ : (Lit.int .i64 ylo).wf = true) (_ : (Lit.int .i64 yhi).wf = true) : Calls Try.prog 6 #[.agg #[.int .i64 h, .int .i64 w, .int .i64 c, .int .i64 lo, .int .i64 hi, .slice oa on oc, .int .i64 ot, .int .i64 op, .int .i64 ch, .int .i64 slo, .int .i64 shi, .slice ad n cap], .agg #[.int .i64 ylo, .int .i64 yhi]] W fun e w' => e = .returned (.bool true) ∧ Below W.heap.size W w' := by
  obtain ⟨O, Z, B, hL⟩ := lrow_of wo
  have hon : on ≤ 1000000000000 := by omega
  rcases ask_cases h w c lo hi ot oa on oc O Z B W hL hon op ch with ⟨E, hE, h1, h2⟩ | ⟨RL, Rw, hR, i, x, wa, lw, cw, ba, lb, cb, x0, y0, z0, H, V, C, rfl, hF, hch⟩
  · exact wider_w h w c lo hi oa on oc ot op ch slo shi ad n cap W ylo yhi E 0 0 0 0 E 0 0 E (by omega) (by omega) (fun W' hb => l1_e h w c lo hi ot op ch oa on oc W' E hE (fun W'' hb' => h1 W'' (hb.trans (hb'.mono hb.size)))) (fun W' hb => sg_e h w c lo hi ot op ch oa on oc W' E hE (fun W'' hb' => h1 W'' (hb.trans (hb'.mono hb.size))))
      (fun W' hb => qu_e h w c lo hi ot op ch oa on oc W' slo shi E hE (fun W'' hb' => h1 W'' (hb.trans (hb'.mono hb.size)))) (fun W' hb => qu_e h w c lo hi ot op ch oa on oc W' ylo yhi E hE (fun W'' hb' => h1 W'' (hb.trans (hb'.mono hb.size)))) (by omega) (by omega) (by omega) (by omega) (fun q => absurd q hE)
  · obtain ⟨f1, f2, f3, f4, f5⟩ := op_facts RL Rw hR i x wa lw cw ba lb cb x0 y0 z0 H V C hF hch
    have hsg := sg_all f2 f1
    have q1 := quR_bd (slo := slo) (shi := shi) (bi := biA (O i 0) ch (B i)) (A := upS (siL (O i 0) (O i 4) (O i 5) (O i 6) (O i 7) (O i 8) (O i 9) (O i 10) (O i 11) x0 y0 z0 ch 0 (Z i)) - dnS (siL (O i 0) (O i 4) (O i 5) (O i 6) (O i 7) (O i 8) (O i 9) (O i 10) (O i 11) x0 y0 z0 ch 0 (Z i))) (R := rcV (O i 8) (O i 9) (O i 10) (O i 11) (O i 19) slo shi) (by omega) (fun g => rcV_bd (by have := vaB_yes g; omega) (by have := vaB_yes g; omega) f3) f5
    have q2 := quR_bd (slo := ylo) (shi := yhi) (bi := biA (O i 0) ch (B i)) (A := upS (siL (O i 0) (O i 4) (O i 5) (O i 6) (O i 7) (O i 8) (O i 9) (O i 10) (O i 11) x0 y0 z0 ch 0 (Z i)) - dnS (siL (O i 0) (O i 4) (O i 5) (O i 6) (O i 7) (O i 8) (O i 9) (O i 10) (O i 11) x0 y0 z0 ch 0 (Z i))) (R := rcV (O i 8) (O i 9) (O i 10) (O i 11) (O i 19) ylo yhi) (by omega) (fun g => rcV_bd (by have := vaB_yes g; omega) (by have := vaB_yes g; omega) f3) f5
    exact wider_w h w c lo hi oa on oc ot _ ch slo shi ad n cap W ylo yhi 0 _ _ _ _ _ _ _ _ hsg.1 hsg.2 (fun W' hb => nl1_ok h w c lo hi ot oa on oc O Z B W' (hL.below hb) ch RL Rw hR i x wa lw cw ba lb cb x0 y0 z0 H V C (hF.below hb) hch) (fun W' hb => nsg_ok h w c lo hi ot oa on oc O Z B W' (hL.below hb) ch RL Rw hR i x wa lw cw ba lb cb x0 y0 z0 H V C (hF.below hb) hch)
      (fun W' hb => nqu_ok h w c lo hi ot oa on oc O Z B W' (hL.below hb) ch RL Rw hR i x wa lw cw ba lb cb x0 y0 z0 H V C (hF.below hb) hch slo shi) (fun W' hb => nqu_ok h w c lo hi ot oa on oc O Z B W' (hL.below hb) ch RL Rw hR i x wa lw cw ba lb cb x0 y0 z0 H V C (hF.below hb) hch ylo yhi) q1.1 q1.2 q2.1 q2.2 (fun g1 g2 g3 g4 => qu_wide (by omega) g1 g2 g3 g4)
end Go.Proofs.Ytkdnpkpmlckmnaa

/- What greatestUnder and greatest of package plain return. -/
namespace Go.Proofs.Ytkdnpkpmlckmnaa
open Go.ChangeShapes Go.WideShapes Go.ChangeAt Go.RowKit
set_option linter.unusedVariables false
theorem grA_at {w c kw : Int} {xs : List Int} {t u d : Int} {i j : Nat} (hj : (j : Int) < kw) {q N : Nat} (hq : (q : Int) = i * kw + j) (hN : ((t + i) * w + (u + j)) * c + d = (N : Int)) : grA w c kw xs t u d q = xs.getD N 0 := by
  unfold grA
  obtain ⟨e1, e2⟩ := divmod_at (q := i) hj
  rw [hq, e1, e2, hN, Int.toNat_natCast]
theorem w64 {x : Int} (h : -9223372036854775808 ≤ x ∧ x ≤ 9223372036854775807) : IntKind.i64.wrap x = x := by rw [IntKind.wrap_i64]; omega
end Go.Proofs.Ytkdnpkpmlckmnaa

/- What greatest of package plain returns; lists that grow. -/
namespace Go.Proofs.Ytkdnpkpmlckmnaa
open Go.ChangeShapes Go.WideShapes Go.ChangeAt Go.RowKit
set_option linter.unusedVariables false
/-! ### Lists that grow -/
/-- 'make' of none, with room. -/
theorem wpList_mk0 {k : IntKind} {T S : TypeId} {by8 : Nat} (kt : KT k T S by8) {w : World} {ops : Array Oper} {rest : List Oper} {o : Oper} {a : Act} {Q : Exit → Act → World → Prop} (hg : o.guard = none) (l c : Operand) (hop : o.op = Op.makeSlice S l c)
    (m : Nat) (M : Int) (hl : a.eval l = .int .i64 0) (hc : a.eval c = .int .i64 M) (hM : M = (m : Int)) (hm : m ≤ 10000000) (base : Nat) (hb : base ≤ w.heap.size)
    (hK : ∀ v w', Own k T w' base v [] → Below w.heap.size w w' → wpList Try.prog ops Q rest (a.put o.dst v) w') : wpList Try.prog ops Q (o :: rest) a w := by
  obtain ⟨hu, hin, b1, b8⟩ := kt
  obtain ⟨i0, hi, hz0, hz1, hz2⟩ := info_parts hin
  subst hM
  have hby : by8 * m ≤ 8 * m := Nat.mul_le_mul_right _ b8
  have hby' : (by8 : Int) * (m : Int) ≤ 281474976710656 := by
    have : ((by8 * m : Nat) : Int) ≤ 281474976710656 := by omega
    rwa [Int.natCast_mul] at this
  refine wpList_plain hg fun K hK' => ?_
  have hr := run_make (P := Try.prog) w S T i0 (.int k 0) hu hi hz0 .i64 .i64 ((0 : Nat) : Int) m (by omega) (by omega) (by rw [hz2]; exact hby') (by omega)
  simp only [Int.toNat_natCast, hz1] at hr
  unfold Oper.wp
  simp only [execOp, hop, hl, hc]
  simp [Result.andThen]
  have hr' := hr
  simp only [Int.natCast_zero] at hr'
  rw [hr']
  refine hK' _ _ (hK _ _ ⟨⟨by simp, .inr ⟨w.heap.size, m, _, rfl, hb, heap_alloc_new w _, Nat.zero_le _, by unfold maxLen; omega, by rw [size_madeCells], by simp⟩⟩, Wf.nil k⟩ (bal _ _))
/-- 'append' of numbers, in a region that draws its order. -/
theorem step_ap {k : IntKind} {T S : TypeId} {by8 : Nat} (kt : KT k T S by8) {w : World} {ops : Array Oper} {o : Oper} {a : Act} {K : Act → World → Prop} {Q : Exit → Act → World → Prop} {E : Prop} (hgd : o.guard = none) (s x : Operand)
    (ho : o.op = .call { callee := .builtin .append, args := #[s, x], argTypes := #[S, S] })
    (base : Nat) (v : Value) (xs ys : List Int) (hs : a.eval s = v) (hown : Own k T w base v xs) (ad : Addr) (m c : Nat) (hx : a.eval x = .slice (some ad) m c) (hy : IRow k w (some ad) m c ys)
    (hlen : xs.length + ys.length ≤ 10000000) (hbase : base ≤ w.heap.size)
    (hK : ∀ v' w', Own k T w' base v' (xs ++ ys) → w.grownBy w' v.ownBlock → K (a.put o.dst v') w') : if Region.wanted o (yielded ops a.tmps) = true then Oper.wp Try.prog o a w K Q else E := by
  have hw : Region.wanted o (yielded ops a.tmps) = true := by simp [Region.wanted, hgd]
  rw [if_pos hw]
  obtain ⟨hu, hin, b1, b8⟩ := kt
  obtain ⟨i0, hi, hz0, hz1, hz2⟩ := info_parts hin
  obtain ⟨hl, hc, hm, hb, hn, hcell⟩ := hy
  have hby : by8 * (xs.length + ys.length) ≤ 8 * (xs.length + ys.length) := Nat.mul_le_mul_right _ b8
  have hby' : (xs.length + m) * by8 ≤ 140737488355328 := by rw [hl] at hby hlen; rw [Nat.mul_comm]; omega
  have hcs : ∀ j u, (ys.map (Value.int k))[j]? = some u → w.cell? (ad.add j) = some u := by
    intro j u hj
    have hj' : j < m := by
      have := (List.getElem?_eq_some_iff.1 hj).1
      simpa [hl] using this
    rw [hcell ad rfl j hj']
    simp [List.getD, show j < ys.length by omega] at hj ⊢
    exact hj
  obtain ⟨v', w', hrun, r1, r2, r3⟩ := run_append_own (P := Try.prog) w base S o.type T i0 (.int k 0) 1 by8 hu hi hz0 hz1 hz2 rfl (by omega) v xs.length _ hown.1 ad m c (ys.map (Value.int k)) (by simp [hl]) hcs (ints_oneCell _ _) (by unfold maxLen; omega) hby' hbase
  unfold Oper.wp
  simp [execOp, ho, resolve, invoke, builtin, hs, hx, hrun, Result.andThen]
  refine hK v' w' ⟨?_, hown.2.app hb⟩ r2
  rw [List.length_append, hl, List.map_append]
  exact r1
theorem gr_idx {VN CN i j d : Nat} (hj : j < VN) (hd : d < CN) : ((((i * VN + j) * CN + d : Nat) : Int) / (CN : Int) / (VN : Int) = i ∧ (((i * VN + j) * CN + d : Nat) : Int) / (CN : Int) % (VN : Int) = j) ∧ (((i * VN + j) * CN + d : Nat) : Int) % (CN : Int) = d := by
  obtain ⟨e1, e2⟩ := divmod_at (C := (CN : Int)) (q := i * VN + j) (d := d) (by omega)
  obtain ⟨e3, e4⟩ := divmod_at (C := (VN : Int)) (q := i) (d := j) (by omega)
  rw [Int.natCast_add, Int.natCast_mul, e1, e2, Int.natCast_add, Int.natCast_mul, e3, e4]
  exact ⟨⟨rfl, rfl⟩, rfl⟩
theorem step_in {i H sh kh h : Int} (hi : 0 ≤ i ∧ i < H) (hs : 1 ≤ sh) (hf : (H - 1) * sh + kh ≤ h) : 0 ≤ i * sh ∧ i * sh + kh ≤ h := by
  have a := Int.mul_le_mul_of_nonneg_right (show i ≤ H - 1 by omega) (show 0 ≤ sh by omega)
  have b := Int.mul_nonneg hi.1 (show 0 ≤ sh by omega)
  omega
end Go.Proofs.Ytkdnpkpmlckmnaa
