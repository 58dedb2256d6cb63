/- The walk of SealEncodes. -/
import Derived.Test.YthlnhodfgmpabaaSelA
import Derived.Test.YthlnhodfgmpabaaSelN
namespace Go.Proofs.Ythlnhodfgmpabaa.Sl
open Wr
open Go.ChangeShapes Go.WideShapes Go.ChangeAt Go.RowKit
set_option linter.unusedVariables false
set_option maxHeartbeats 8000000 in
set_option maxRecDepth 100000 in
theorem sealEncodes_w (ra : Option Addr) (rn rc : Nat) (R : List (Int × Int)) (pa : Option Addr) (pn pc : Nat) (P : List (List Pl)) (W : World) (hR : ERow 2 scs W ra rn rc R) (hP : QRow W pa pn pc P) (h64 : C64 (R, P)) (hrn : rn * 16 ≤ 140737488351232) (hpn : pn * 24 ≤ 140737488351232) :
    Calls Try.prog 3 #[.agg #[.slice ra rn rc, .slice pa pn pc]] W fun e w' => e = .returned (.bool true) ∧ Below W.heap.size W w' := by
  have s0 := (St.start W).new (c := #[.slice ra rn rc, .slice pa pn pc]) (t := 25)
  have S0 : Hid (St W _ _) := s0
  have HE : Hid (∀ w', Below W.heap.size W w' → ERow 2 scs w' ra rn rc R ∧ QRow w' pa pn pc P) := fun w' hb => ⟨hR.below hb, hP.below hb⟩
  have hl : Hid (R.length = rn) := hR.1
  have H64 : Hid (C64 (R, P)) := h64
  have hcc := ce_cases h64
  obtain ⟨c1, f1, z1, -⟩ := s0.rules
  clear s0 hR hP h64
  go_enter Try.func3, Try.ntmps3
  go_wp2_with fail
  refine (ccopy_any ra rn rc R pa pn pc P _ (HE.out _ S0.out.below).1 (HE.out _ S0.out.below).2 hrn hpn).mono ?_
  rintro e w1 ⟨ra', rc', pa', pc', rfl, oR, oP, b1⟩
  have s1 := (S0.out.call b1).new (c := #[.slice ra' rn rc', .slice pa' pn pc']) (t := 25)
  have S1 : Hid (St W _ _) := s1
  have D1 : Hid (ERow 2 scs _ ra' rn rc' R) := (owns_erow scs_len oR hl.out).below (bal w1 (.cells #[.slice ra' rn rc', .slice pa' pn pc'] 25))
  have G1 : Hid (QRow _ pa' pn pc' P) := oP.q.below (bal w1 (.cells #[.slice ra' rn rc', .slice pa' pn pc'] 25))
  clear c1 f1 z1
  obtain ⟨c1, f1, z1, c2, f2, z2, -⟩ := s1.rules
  clear oR oP b1 s1 S0
  rcases hcc with hF | ⟨x1, x2, x3, hX, hx⟩
  · have HF : Hid (CeF (R, P)) := hF
    clear hF
    go_wp2_with fail
    refine (encode_ok ra rn rc R pa pn pc P _ (HE.out _ S1.out.below).1 (HE.out _ S1.out.below).2 HF.out).mono ?_
    rintro e w2 ⟨v, rfl, own, nn, b2⟩
    obtain ⟨d2, n2, e2, rfl, R2, -⟩ := Own.rw own nn
    have s3 := (S1.out.call b2).new (c := #[.int .i64 0, .int .i64 0, .int .i64 0]) (t := 30)
    have B3 := bt b2 (bal w2 (.cells #[.int .i64 0, .int .i64 0, .int .i64 0] 30))
    have S3 : Hid (St W _ _) := s3
    have D3 : Hid (ERow 2 scs _ ra' rn rc' R) := D1.out.below B3
    have G3 : Hid (QRow _ pa' pn pc' P) := G1.out.below B3
    have V3 : Hid (Wr.Row _ (some d2) n2 e2 (eAll (R, P))) := R2.below (bal w2 (.cells #[.int .i64 0, .int .i64 0, .int .i64 0] 30))
    clear c1 f1 z1 c2 f2 z2
    obtain ⟨c1, f1, z1, c2, f2, z2, c3, f3, z3, -⟩ := s3.rules
    clear own nn R2 b2 s3 B3 S1 D1 G1
    go_wp2_with fail
    refine (renc_any ra' rn rc' R pa' pn pc' P _ D3.out G3.out 0 0 0 (fCe_ok HF.out) H64.out).mono ?_
    rintro e w4 ⟨⟨v, rfl, -, hv⟩, b4⟩
    obtain ⟨own, nn⟩ := hv rfl
    obtain ⟨d4, n4, e4, rfl, R4, -⟩ := Own.rw own nn
    have s5 := (S3.out.call b4).new (c := #[.int .i64 0, .int .i64 0, .int .i64 0]) (t := 30)
    have B5 := bt b4 (bal w4 (.cells #[.int .i64 0, .int .i64 0, .int .i64 0] 30))
    have S5 : Hid (St W _ _) := s5
    have D5 : Hid (ERow 2 scs _ ra' rn rc' R) := D3.out.below B5
    have G5 : Hid (QRow _ pa' pn pc' P) := G3.out.below B5
    have V5 : Hid (Wr.Row _ (some d2) n2 e2 (eAll (R, P))) := V3.out.below B5
    have U5 : Hid (Wr.Row _ (some d4) n4 e4 (eAll (R, P))) := R4.below (bal w4 (.cells #[.int .i64 0, .int .i64 0, .int .i64 0] 30))
    clear own nn hv R4 b4 s5 B5 S3 D3 G3 V3 c1 f1 z1 c2 f2 z2 c3 f3 z3
    go_wp2_with fail
    refine (fixed16_any _).mono ?_
    rintro e w6 ⟨rfl, b6⟩
    have s6 := S5.out.call b6
    have S6 : Hid (St W w6 _) := s6
    have eq0 := eqF 0 0 0 0 0 0 true (by simp)
    obtain ⟨c1, f1, z1, c2, f2, z2, c3, f3, z3, c4, f4, z4, -⟩ := s6.rules
    have V6 : Hid (Wr.Row w6 (some d2) n2 e2 (eAll (R, P))) := V5.out.below b6
    have U6 : Hid (Wr.Row w6 (some d4) n4 e4 (eAll (R, P))) := U5.out.below b6
    have D6 : Hid (ERow 2 scs w6 ra' rn rc' R) := D5.out.below b6
    have G6 : Hid (QRow w6 pa' pn pc' P) := G5.out.below b6
    clear b6 s6 S5 V5 U5 D5 G5
    go_wp2_with fail
    refine (sameb_any (some d2) (some d4) n2 e2 n4 e4 _ _ _ V6.out U6.out).mono ?_
    rintro e w7 ⟨rfl, b7⟩
    rw [decide_eq_true rfl]
    have s7 := S6.out.call b7
    have S7 : Hid (St W w7 _) := s7
    have D7 : Hid (ERow 2 scs w7 ra' rn rc' R) := D6.out.below b7
    have G7 : Hid (QRow w7 pa' pn pc' P) := G6.out.below b7
    clear c1 f1 z1 c2 f2 z2 c3 f3 z3 c4 f4 z4
    obtain ⟨c1, f1, z1, c2, f2, z2, c3, f3, z3, c4, f4, z4, -⟩ := s7.rules
    clear b7 s7 S6 V6 U6 D6 G6
    go_wp2_with fail
    refine (rsame_any ra rn rc R pa pn pc P ra' rn rc' R pa' pn pc' P _ (HE.out _ S7.out.below).1 (HE.out _ S7.out.below).2 D7.out G7.out).mono ?_
    rintro e w8 ⟨rfl, b8⟩
    rw [ceB_t]
    have hb : Hid (Below W.heap.size W w8) := (S7.out.call b8).below
    clear b8 c1 f1 z1 c2 f2 z2 c3 f3 z3 c4 f4 z4
    go_wp2
    go_ret
    exact ⟨rfl, hb.out⟩
  · have HX : Hid (fCe (R, P) = (x1, x2, x3) ∧ x1 ≠ 0) := ⟨hX, hx⟩
    clear hX hx
    go_wp2_with fail
    refine (encode_bad ra rn rc R pa pn pc P _ (HE.out _ S1.out.below).1 (HE.out _ S1.out.below).2 x1 x2 x3 HX.out.1 HX.out.2).mono ?_
    rintro e w2 ⟨rfl, b2⟩
    have s3 := (S1.out.call b2).new (c := #[.int .i64 x1, .int .i64 x2, .int .i64 x3]) (t := 30)
    have B3 := bt b2 (bal w2 (.cells #[.int .i64 x1, .int .i64 x2, .int .i64 x3] 30))
    have S3 : Hid (St W _ _) := s3
    have D3 : Hid (ERow 2 scs _ ra' rn rc' R) := D1.out.below B3
    have G3 : Hid (QRow _ pa' pn pc' P) := G1.out.below B3
    clear c1 f1 z1 c2 f2 z2
    obtain ⟨c1, f1, z1, c2, f2, z2, c3, f3, z3, -⟩ := s3.rules
    clear b2 s3 B3 S1 D1 G1
    go_wp2_with fail
    refine (renc_any ra' rn rc' R pa' pn pc' P _ D3.out G3.out x1 x2 x3 HX.out.1 H64.out).mono ?_
    rintro e w4 ⟨⟨v, rfl, hv, -⟩, b4⟩
    obtain rfl := hv HX.out.2
    have s5 := (S3.out.call b4).new (c := #[.int .i64 x1, .int .i64 x2, .int .i64 x3]) (t := 30)
    have B5 := bt b4 (bal w4 (.cells #[.int .i64 x1, .int .i64 x2, .int .i64 x3] 30))
    have S5 : Hid (St W _ _) := s5
    have D5 : Hid (ERow 2 scs _ ra' rn rc' R) := D3.out.below B5
    have G5 : Hid (QRow _ pa' pn pc' P) := G3.out.below B5
    clear hv b4 s5 B5 S3 D3 G3 c1 f1 z1 c2 f2 z2 c3 f3 z3
    go_wp2_with fail
    refine (fixed16_any _).mono ?_
    rintro e w6 ⟨rfl, b6⟩
    have s6 := S5.out.call b6
    have S6 : Hid (St W w6 _) := s6
    have eq0 := eqF x1 x2 x3 x1 x2 x3 true (by simp)
    obtain ⟨c1, f1, z1, c2, f2, z2, c3, f3, z3, c4, f4, z4, -⟩ := s6.rules
    have D6 : Hid (ERow 2 scs w6 ra' rn rc' R) := D5.out.below b6
    have G6 : Hid (QRow w6 pa' pn pc' P) := G5.out.below b6
    clear b6 s6 S5 D5 G5
    go_wp2_with fail
    refine (sameb_any none none 0 0 0 0 [] [] _ (row_e _) (row_e _)).mono ?_
    rintro e w7 ⟨rfl, b7⟩
    rw [decide_eq_true rfl]
    have s7 := S6.out.call b7
    have S7 : Hid (St W w7 _) := s7
    have D7 : Hid (ERow 2 scs w7 ra' rn rc' R) := D6.out.below b7
    have G7 : Hid (QRow w7 pa' pn pc' P) := G6.out.below b7
    clear c1 f1 z1 c2 f2 z2 c3 f3 z3 c4 f4 z4
    obtain ⟨c1, f1, z1, c2, f2, z2, c3, f3, z3, c4, f4, z4, -⟩ := s7.rules
    clear b7 s7 S6 D6 G6
    go_wp2_with fail
    refine (rsame_any ra rn rc R pa pn pc P ra' rn rc' R pa' pn pc' P _ (HE.out _ S7.out.below).1 (HE.out _ S7.out.below).2 D7.out G7.out).mono ?_
    rintro e w8 ⟨rfl, b8⟩
    rw [ceB_t]
    have hb : Hid (Below W.heap.size W w8) := (S7.out.call b8).below
    clear b8 c1 f1 z1 c2 f2 z2 c3 f3 z3 c4 f4 z4
    go_wp2
    go_ret
    exact ⟨rfl, hb.out⟩
end Go.Proofs.Ythlnhodfgmpabaa.Sl
namespace Go.Proofs.Ythlnhodfgmpabaa
open Go.ChangeShapes Go.WideShapes Go.ChangeAt Go.RowKit
set_option linter.unusedVariables false
theorem sealEncodes_walk (ra : Option Addr) (rn rc : Nat) (pa : Option Addr) (pn pc : Nat) (W : World) (h1 : ORow 2 Sl.SpIn W ra rn rc) (r1 : rn * 16 ≤ 140737488351232) (h2 : ORow 1 (Sl.PlIn W) W pa pn pc) (r2 : pn * 24 ≤ 140737488351232) :
    Calls Try.prog 3 #[.agg #[.slice ra rn rc, .slice pa pn pc]] W fun e w' => e = .returned (.bool true) ∧ Below W.heap.size W w' := by
  obtain ⟨R, g1, g2⟩ := Sl.spans_of h1
  obtain ⟨P, g3, g4⟩ := Sl.plans_of h2
  exact Sl.sealEncodes_w ra rn rc R pa pn pc P W g1 g3 ⟨g2, g4⟩ r1 r2
end Go.Proofs.Ythlnhodfgmpabaa
