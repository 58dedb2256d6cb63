/- The walk of PackEncodes. -/
import Derived.Test.YthagdpiocmcbmaaGr26
/- The walk of PackEncodes. -/
namespace Go.Proofs.Ythagdpiocmcbmaa
open Wr
open Go.ChangeShapes Go.WideShapes Go.ChangeAt Go.RowKit
set_option linter.unusedVariables false
set_option maxHeartbeats 2000000 in
theorem rencode_bad (h w c lo hi ot : Int) (oa : Option Addr) (on oc : Nat) (O : Nat → Nat → Int) (Z B : Nat → List Int) (W : World) (hL : LRow W oa on oc O Z B) (hon : on ≤ 1000000000000) (x t : Int) (L : List (Int × Int × Int)) (wk : Int) (hg : gtR O h w c lo hi ot on = (x, t, L, wk)) (hx : x ≠ 0) :
    Calls Try.prog 10 #[.agg #[.int .i64 h, .int .i64 w, .int .i64 c, .int .i64 lo, .int .i64 hi, .slice oa on oc, .int .i64 ot]] W fun e w' => e = .returned (.tuple #[.slice none 0 0, .agg #[.int .i64 x, .int .i64 t, .int .i64 0]]) ∧ Below W.heap.size W w' := by
  have hC : Hid (∀ W, LRow W oa on oc O Z B → _) := fun W hM => rcheck_any h w c lo hi ot oa on oc O Z B W hM hon
  rw [hg] at hC
  simp only at hC
  have hM : Hid (LRow W oa on oc O Z B) := hL
  have hx2 : (x == 0) = false := by simpa using hx
  have hx3 : (x != 0) = true := by simpa using hx
  clear hL hg hx
  go_enter Try.func10, Try.ntmps10
  go_wp2_with fail
  refine Calls.mono (hC.out _ (hM.out.below (St.start W).new.new.below)) ?_
  rintro e w1 ⟨rfl, hb⟩
  have s1 := ((St.start W).new.new).call hb
  simp only [World.size_alloc] at s1
  obtain ⟨c1, f1, z1, c2, f2, z2, -⟩ := s1.rules
  have hs1 : Hid (Below W.heap.size W w1) := s1.below
  clear hb hC s1
  go_wp2
  go_region_law (fail)
  all_goals
    go_wp2
    exact bodyPost_ret (v := .tuple #[.slice none 0 0, .agg #[.int .i64 x, .int .i64 t, .int .i64 0]]) (by simp [results, Try.results10, go_sem, *]) rfl ⟨rfl, (bt (set3b hs1.out (by omega)) (bal _ _)).drew⟩
set_option maxHeartbeats 2000000 in
theorem rencode_ok (h w c lo hi ot : Int) (oa : Option Addr) (on oc : Nat) (O : Nat → Nat → Int) (Z B : Nat → List Int) (W : World) (hL : LRow W oa on oc O Z B) (hon : on ≤ 1000000000000) (t : Int) (L : List (Int × Int × Int)) (wk : Int) (hg : gtR O h w c lo hi ot on = (0, t, L, wk)) :
    Calls Try.prog 10 #[.agg #[.int .i64 h, .int .i64 w, .int .i64 c, .int .i64 lo, .int .i64 hi, .slice oa on oc, .int .i64 ot]] W fun e w' => ∃ v, e = .returned (.tuple #[v, .agg #[.int .i64 0, .int .i64 0, .int .i64 0]]) ∧ Wr.Own w' W.heap.size v (eAll (dMod h w c lo hi ot on O Z B)) ∧ v ≠ .slice none 0 0 ∧ Below W.heap.size W w' := by
  have hC : Hid (∀ W, LRow W oa on oc O Z B → _) := fun W hM => rcheck_any h w c lo hi ot oa on oc O Z B W hM hon
  obtain ⟨-, rfl, -⟩ := gtR_st hg
  obtain ⟨-, hF, h64⟩ := mod_fits hg (lens_of hL)
  rw [hg] at hC
  simp only at hC
  have HL : Hid (LRow W oa on oc O Z B) := hL
  have HF : Hid (OFit on O Z B ∧ In64 [lo, hi]) := ⟨hF, h64⟩
  clear hL hg hF h64
  go_enter Try.func10, Try.ntmps10
  go_wp2_with fail
  refine Calls.mono (hC.out _ (HL.out.below (St.start W).new.new.below)) ?_
  rintro e w1 ⟨rfl, hb⟩
  have s1 := ((St.start W).new (c := #[.int .i64 h, .int .i64 w, .int .i64 c, .int .i64 lo, .int .i64 hi, .slice oa on oc, .int .i64 ot]) (t := 26)).new (c := #[.int .i64 0, .int .i64 0, .int .i64 0]) (t := 31)
  have s2 := (s1.call hb).new (c := #[.int .i64 0, .int .i64 0, .int .i64 0]) (t := 31)
  simp only [World.size_alloc] at s2
  have S2 : Hid (St W _ _) := s2
  have L2 : Hid (LRow _ oa on oc O Z B) := HL.out.below s2.below
  obtain ⟨-, -, -, c1, f1, z1, c2, f2, z2, -⟩ := (St.call s1 hb |>.new (c := #[.int .i64 0, .int .i64 0, .int .i64 0]) (t := 31)).rules
  clear hb hC s1 s2
  go_wp2_with fail
  refine (bytes_any h w c lo hi ot oa on oc O Z B _ L2.out HF.out.1 HF.out.2).mono ?_
  rintro e w3 ⟨v, rfl, own, nn, b3⟩
  have s3 := S2.out.call b3
  have hB : Hid (w3.heap[W.heap.size + 1]? = some (.cells #[.int .i64 0, .int .i64 0, .int .i64 0] 31 (0, 0))) := s3.h2
  have hbel : Hid (Below W.heap.size W w3) := s3.below
  obtain ⟨va, vn, vc, rfl⟩ := own_ltr own nn
  have hown : Hid (Wr.Own w3 W.heap.size (.slice (some va) vn vc) (eAll (dMod h w c lo hi ot on O Z B))) := own.base S2.out.below.size
  clear own c1 f1 z1 c2 f2 z2 S2 b3 L2
  obtain ⟨-, -, -, c1, f1, z1, -⟩ := s3.rules
  clear s3
  go_wp2
  exact bodyPost_ret (v := .tuple #[.slice (some va) vn vc, .agg #[.int .i64 0, .int .i64 0, .int .i64 0]]) (by simp [results, Try.results10, go_sem, *]) rfl ⟨_, rfl, own_set3 hown.out hB.out (by decide), by simp, set3b hbel.out (by omega)⟩
set_option maxHeartbeats 8000000 in
set_option maxRecDepth 100000 in
theorem packEncodes_walk (h w c lo hi : Int) (oa : Option Addr) (on oc : Nat) (ot : Int) (W : World) (_ : (Lit.int .i64 h).wf = true) (_ : (Lit.int .i64 w).wf = true) (_ : (Lit.int .i64 c).wf = true) (_ : (Lit.int .i64 lo).wf = true) (_ : (Lit.int .i64 hi).wf = true)
    (wo : ORow 22 (OpIn W) W oa on oc) (hr : on * 208 ≤ 140737488351232) (_ : (Lit.int .i64 ot).wf = true) :
    Calls Try.prog 3 #[.agg #[.int .i64 h, .int .i64 w, .int .i64 c, .int .i64 lo, .int .i64 hi, .slice oa on oc, .int .i64 ot]] W fun e w' => e = .returned (.bool true) ∧ Below W.heap.size W w' := by
  rename_i x1 x2 x3 x4 x5 x6
  clear x1 x2 x3 x4 x5 x6
  obtain ⟨O, Z, B, hL⟩ := lrow_of wo
  clear wo
  obtain ⟨x, t, L, wk, hG⟩ : ∃ x t L wk, gtR O h w c lo hi ot on = (x, t, L, wk) := ⟨_, _, _, _, rfl⟩
  have s0 := (St.start W).new (c := #[.int .i64 h, .int .i64 w, .int .i64 c, .int .i64 lo, .int .i64 hi, .slice oa on oc, .int .i64 ot]) (t := 26)
  have L0 : Hid (LRow _ oa on oc O Z B) := hL.below s0.below
  have S0 : Hid (St W _ _) := s0
  have hG' : Hid (gtR O h w c lo hi ot on = (x, t, L, wk)) := hG
  have eqx := eqF x t 0 x t 0 true (by simp)
  clear hG hL s0
  go_enter Try.func3, Try.ntmps3
  go_wp2_with fail
  refine (copy_any h w c lo hi ot oa on oc O Z B _ L0.out hr).mono ?_
  rintro e w1 ⟨oa', oc', rfl, LC, b1⟩
  have s1 := (S0.out.call b1).new (c := #[.int .i64 h, .int .i64 w, .int .i64 c, .int .i64 lo, .int .i64 hi, .slice oa' on oc', .int .i64 ot]) (t := 26)
  have L1 : Hid (LRow _ oa on oc O Z B) := (L0.out.below b1).below (bal w1 (.cells #[.int .i64 h, .int .i64 w, .int .i64 c, .int .i64 lo, .int .i64 hi, .slice oa' on oc', .int .i64 ot] 26))
  have C1 : Hid (LRow _ oa' on oc' O Z B) := LC.below (bal w1 (.cells #[.int .i64 h, .int .i64 w, .int .i64 c, .int .i64 lo, .int .i64 hi, .slice oa' on oc', .int .i64 ot] 26))
  have S1 : Hid (St W _ _) := s1
  obtain ⟨-, -, -, c2, f2, z2, -⟩ := s1.rules
  clear LC b1 s1 L0 S0
  by_cases hx : x = 0
  · subst hx
    obtain ⟨-, rfl, -⟩ := gtR_st hG'.out
    go_wp2_with fail
    refine (encode_ok h w c lo hi ot oa on oc O Z B _ L1.out 0 L wk hG'.out).mono ?_
    rintro e w2 ⟨v, rfl, own, nn, b2⟩
    obtain ⟨d, n, cc, rfl, R2, -⟩ := Own.rw own nn
    have s2 := (S1.out.call b2).new (c := #[.int .i64 0, .int .i64 0, .int .i64 0]) (t := 31)
    have B2 := bt b2 (bal w2 (.cells #[.int .i64 0, .int .i64 0, .int .i64 0] 31))
    have L2 : Hid (LRow _ oa on oc O Z B) := L1.out.below B2
    have C2 : Hid (LRow _ oa' on oc' O Z B) := C1.out.below B2
    have V2 : Hid (Wr.Row _ (some d) n cc _) := R2.below (bal w2 (.cells #[.int .i64 0, .int .i64 0, .int .i64 0] 31))
    have S2 : Hid (St W _ _) := s2
    clear c2 f2 z2
    obtain ⟨-, -, -, c2, f2, z2, c3, f3, z3, -⟩ := s2.rules
    clear own nn R2 b2 s2 B2 L1 C1 S1
    go_wp2_with fail
    refine (rencode_ok h w c lo hi ot oa' on oc' O Z B _ C2.out (by omega) 0 L wk hG'.out).mono ?_
    rintro e w3 ⟨v, rfl, own, nn, b3⟩
    obtain ⟨d3, n3, cc3, rfl, R3, -⟩ := Own.rw own nn
    have s3 := (S2.out.call b3).new (c := #[.int .i64 0, .int .i64 0, .int .i64 0]) (t := 31)
    have B3 := bt b3 (bal w3 (.cells #[.int .i64 0, .int .i64 0, .int .i64 0] 31))
    have L3 : Hid (LRow _ oa on oc O Z B) := L2.out.below B3
    have C3 : Hid (LRow _ oa' on oc' O Z B) := C2.out.below B3
    have V3 : Hid (Wr.Row _ (some d) n cc _) := V2.out.below B3
    have X3 : Hid (Wr.Row _ (some d3) n3 cc3 _) := R3.below (bal w3 (.cells #[.int .i64 0, .int .i64 0, .int .i64 0] 31))
    have S3 : Hid (St W _ _) := s3
    clear own nn R3 b3 s3 B3 L2 C2 S2 V2 c2 f2 z2 c3 f3 z3
    go_wp2_with fail
    refine (fixed9_any _).mono ?_
    rintro e w4 ⟨rfl, b4⟩
    have s4 := S3.out.call b4
    have L4 : Hid (LRow w4 oa on oc O Z B) := L3.out.below b4
    have C4 : Hid (LRow w4 oa' on oc' O Z B) := C3.out.below b4
    have V4 : Hid (Wr.Row w4 (some d) n cc _) := V3.out.below b4
    have X4 : Hid (Wr.Row w4 (some d3) n3 cc3 _) := X3.out.below b4
    have S4 : Hid (St W w4 _) := s4
    obtain ⟨c1, f1, z1, c2, f2, z2, c3, f3, z3, c4, f4, z4, -⟩ := s4.rules
    clear b4 s4 L3 C3 S3 V3 X3
    go_wp2_with fail
    refine (sameb_any (some d) (some d3) n cc n3 cc3 _ _ _ V4.out X4.out).mono ?_
    rintro e w5 ⟨rfl, b5⟩
    rw [decide_eq_true rfl]
    have s5 := S4.out.call b5
    have L5 : Hid (LRow w5 oa on oc O Z B) := L4.out.below b5
    have C5 : Hid (LRow w5 oa' on oc' O Z B) := C4.out.below b5
    have S5 : Hid (St W w5 _) := s5
    clear c1 f1 z1 c2 f2 z2 c3 f3 z3 c4 f4 z4
    obtain ⟨c1, f1, z1, c2, f2, z2, c3, f3, z3, c4, f4, z4, -⟩ := s5.rules
    clear b5 s5 L4 C4 S4 V4 X4
    go_wp2_with fail
    refine (samem_any h w c lo hi ot oa oa' on oc oc' O Z B _ L5.out C5.out).mono ?_
    rintro e w6 ⟨rfl, b6⟩
    have hb : Hid (Below W.heap.size W w6) := (S5.out.call b6).below
    clear b6 c1 c2 c3 c4
    go_wp2
    go_ret
    exact ⟨rfl, hb.out⟩
  · have hx' : Hid (x ≠ 0) := hx
    clear hx
    go_wp2_with fail
    refine (encode_bad h w c lo hi ot oa on oc O Z B _ L1.out x t L wk hG'.out hx'.out).mono ?_
    rintro e w2 ⟨rfl, b2⟩
    have s2 := (S1.out.call b2).new (c := #[.int .i64 x, .int .i64 t, .int .i64 0]) (t := 31)
    have B2 := bt b2 (bal w2 (.cells #[.int .i64 x, .int .i64 t, .int .i64 0] 31))
    have L2 : Hid (LRow _ oa on oc O Z B) := L1.out.below B2
    have C2 : Hid (LRow _ oa' on oc' O Z B) := C1.out.below B2
    have S2 : Hid (St W _ _) := s2
    clear c2 f2 z2
    obtain ⟨-, -, -, c2, f2, z2, c3, f3, z3, -⟩ := s2.rules
    clear b2 s2 B2 L1 C1 S1
    go_wp2_with fail
    refine (rencode_bad h w c lo hi ot oa' on oc' O Z B _ C2.out (by omega) x t L wk hG'.out hx'.out).mono ?_
    rintro e w3 ⟨rfl, b3⟩
    have s3 := (S2.out.call b3).new (c := #[.int .i64 x, .int .i64 t, .int .i64 0]) (t := 31)
    have B3 := bt b3 (bal w3 (.cells #[.int .i64 x, .int .i64 t, .int .i64 0] 31))
    have L3 : Hid (LRow _ oa on oc O Z B) := L2.out.below B3
    have C3 : Hid (LRow _ oa' on oc' O Z B) := C2.out.below B3
    have S3 : Hid (St W _ _) := s3
    clear b3 s3 B3 L2 C2 S2 c2 f2 z2 c3 f3 z3
    go_wp2_with fail
    refine (fixed9_any _).mono ?_
    rintro e w4 ⟨rfl, b4⟩
    have s4 := S3.out.call b4
    have L4 : Hid (LRow w4 oa on oc O Z B) := L3.out.below b4
    have C4 : Hid (LRow w4 oa' on oc' O Z B) := C3.out.below b4
    have S4 : Hid (St W w4 _) := s4
    obtain ⟨c1, f1, z1, c2, f2, z2, c3, f3, z3, c4, f4, z4, -⟩ := s4.rules
    clear b4 s4 L3 C3 S3
    go_wp2_with fail
    refine (sameb_any none none 0 0 0 0 [] [] _ (row_e _) (row_e _)).mono ?_
    rintro e w5 ⟨rfl, b5⟩
    rw [decide_eq_true rfl]
    have s5 := S4.out.call b5
    have L5 : Hid (LRow w5 oa on oc O Z B) := L4.out.below b5
    have C5 : Hid (LRow w5 oa' on oc' O Z B) := C4.out.below b5
    have S5 : Hid (St W w5 _) := s5
    clear c1 f1 z1 c2 f2 z2 c3 f3 z3 c4 f4 z4
    obtain ⟨c1, f1, z1, c2, f2, z2, c3, f3, z3, c4, f4, z4, -⟩ := s5.rules
    clear b5 s5 L4 C4 S4
    go_wp2_with fail
    refine (samem_any h w c lo hi ot oa oa' on oc oc' O Z B _ L5.out C5.out).mono ?_
    rintro e w6 ⟨rfl, b6⟩
    have hb : Hid (Below W.heap.size W w6) := (S5.out.call b6).below
    clear b6 c1 c2 c3 c4
    go_wp2
    go_ret
    exact ⟨rfl, hb.out⟩
end Go.Proofs.Ythagdpiocmcbmaa
