/- The walk of SealBack. Written by tools/gen/SelI.py. -/
import Derived.Test.YthlnhodfgmpabaaSelA
namespace Go.Proofs.Ythlnhodfgmpabaa.Sl
open Wr
open Go.ChangeShapes Go.WideShapes Go.ChangeAt Go.RowKit
set_option linter.unusedVariables false
set_option maxHeartbeats 8000000 in
set_option maxRecDepth 100000 in
theorem sealBack_w (ra : Option Addr) (rn rc : Nat) (R : List (Int × Int)) (pa : Option Addr) (pn pc : Nat) (P : List (List Pl)) (a : Option Addr) (len cap : Nat) (zs : List Int) (W : World) (hR : ERow 2 scs W ra rn rc R) (hP : QRow W pa pn pc P) (h64 : C64 (R, P)) (hr : Wr.Row W a len cap zs) (hl : len ≤ 140737488351232) :
    Calls Try.prog 5 #[.agg #[.slice ra rn rc, .slice pa pn pc], .slice a len cap] W fun e w' => e = .returned (.bool true) ∧ Below W.heap.size W w' := by
  have hbz : Hid (Byt zs) := hr.2.2.2.1
  have s0 := (St.start W).new (c := #[.slice ra rn rc, .slice pa pn pc]) (t := 25)
  have S0 : Hid (St W _ _) := s0
  have E0 : Hid (ERow 2 scs _ ra rn rc R) := hR.below s0.below
  have Q0 : Hid (QRow _ pa pn pc P) := hP.below s0.below
  have R0 : Hid (Wr.Row _ a len cap zs) := hr.below s0.below
  clear s0 hR hP hr
  have hcc := ce_cases h64
  clear h64
  go_enter Try.func5, Try.ntmps5
  go_wp2_with fail
  refine (fixed16_any _).mono ?_
  rintro e w1 ⟨rfl, b1⟩
  have s1 := S0.out.call b1
  have S1 : Hid (St W w1 _) := s1
  have E1 : Hid (ERow 2 scs w1 ra rn rc R) := E0.out.below b1
  have Q1 : Hid (QRow w1 pa pn pc P) := Q0.out.below b1
  have R1 : Hid (Wr.Row w1 a len cap zs) := R0.out.below b1
  obtain ⟨c1, f1, z1, -⟩ := s1.rules
  clear b1 s1 S0 E0 Q0 R0
  rcases hcc with hF | ⟨x1, x2, x3, hX, hx⟩
  · have HF : Hid (CeF (R, P)) := hF
    clear hF
    go_wp2_with fail
    refine (encode_ok ra rn rc R pa pn pc P _ E1.out Q1.out HF.out).mono ?_
    rintro e w2 ⟨v, rfl, own, nn, b2⟩
    obtain ⟨d, n, cc, rfl, R2, hn⟩ := Own.rw own nn
    have hn' : n ≤ 10000000 := by rw [hn]; exact eAll_le HF.out
    have s3 := (S1.out.call b2).new (c := #[.int .i64 0, .int .i64 0, .int .i64 0]) (t := 30)
    have B3 := bt b2 (bal w2 (.cells #[.int .i64 0, .int .i64 0, .int .i64 0] 30))
    have S3 : Hid (St W _ _) := s3
    have E3 : Hid (ERow 2 scs _ ra rn rc R) := E1.out.below B3
    have Q3 : Hid (QRow _ pa pn pc P) := Q1.out.below B3
    have R3 : Hid (Wr.Row _ a len cap zs) := R1.out.below B3
    have V3 : Hid (Wr.Row _ (some d) n cc (eAll (R, P))) := R2.below (bal w2 (.cells #[.int .i64 0, .int .i64 0, .int .i64 0] 30))
    clear c1 f1 z1
    obtain ⟨c1, f1, z1, c2, f2, z2, -⟩ := s3.rules
    clear own nn R2 b2 s3 B3 S1 E1 Q1 R1 hn
    go_wp2_with fail
    refine (decode_any (some d) n cc _ _ V3.out (by omega)).mono ?_
    rintro e w4 ⟨hd, b4⟩
    obtain ⟨sa, sc, qa, qc, rfl, oR, oP⟩ := dec_back hd HF.out rfl
    rw [E3.out.1] at oR ⊢
    rw [Q3.out.1] at oP ⊢
    have s5 := ((S3.out.call b4).new (c := #[.slice sa rn sc, .slice qa pn qc]) (t := 25)).new (c := #[.int .i64 0, .int .i64 0, .int .i64 0]) (t := 30)
    simp only [World.size_alloc] at s5
    have B4 := bt (bal w4 (.cells #[.slice sa rn sc, .slice qa pn qc] 25)) (bal _ (.cells #[.int .i64 0, .int .i64 0, .int .i64 0] 30))
    have B5 := bt b4 B4
    have S5 : Hid (St W _ _) := s5
    have E5 : Hid (ERow 2 scs _ ra rn rc R) := E3.out.below B5
    have Q5 : Hid (QRow _ pa pn pc P) := Q3.out.below B5
    have R5 : Hid (Wr.Row _ a len cap zs) := R3.out.below B5
    have D5 : Hid (ERow 2 scs _ sa rn sc R) := (owns_erow scs_len oR E3.out.1).below B4
    have G5 : Hid (QRow _ qa pn qc P) := oP.q.below B4
    clear c1 f1 z1 c2 f2 z2
    obtain ⟨c1, f1, z1, c2, f2, z2, -, -, -, c4, f4, z4, -⟩ := s5.rules
    clear hd b4 oR oP B4 B5 s5 V3 S3 E3 Q3 R3
    go_wp2_with fail
    refine (csame_any ra rn rc R pa pn pc P sa rn sc R qa pn qc P _ E5.out Q5.out D5.out G5.out).mono ?_
    rintro e w6 ⟨rfl, b6⟩
    rw [ceB_t]
    have s6 := S5.out.call b6
    have S6 : Hid (St W w6 _) := s6
    have R6 : Hid (Wr.Row w6 a len cap zs) := R5.out.below b6
    clear c1 f1 z1 c2 f2 z2 c4 f4 z4 b6 s6 S5 E5 Q5 R5 D5 G5
    go_wp2_with fail
    refine (decode_any a len cap zs _ R6.out (by omega)).mono ?_
    rintro e w20 ⟨hd, b20⟩
    rcases dec_cases hd hbz.out with ⟨x, t1, t2, hx, rfl⟩ | ⟨ta, tn, tc, T, ua, un, uc, U, hz, hF2, lT, lU, rfl, eT, eU2, -, -⟩
    · have s21 := ((S6.out.call b20).new (c := #[.slice none 0 0, .slice none 0 0]) (t := 25)).new (c := #[.int .i64 x, .int .i64 t1, .int .i64 t2]) (t := 30)
      simp only [World.size_alloc] at s21
      have hb : Hid (Below W.heap.size W _) := s21.below
      obtain ⟨d1, g1, y1, d2, g2, y2, -⟩ := s21.rules
      have hx2 : (x == 0) = false := by simpa using hx
      have hx3 : (x != 0) = true := by simpa using hx
      clear hd b20 s21 hx
      go_wp2
      go_ret
      exact ⟨rfl, hb.out⟩
    · have s21 := ((S6.out.call b20).new (c := #[.slice ta tn tc, .slice ua un uc]) (t := 25)).new (c := #[.int .i64 0, .int .i64 0, .int .i64 0]) (t := 30)
      simp only [World.size_alloc] at s21
      have B21 := bt (bal w20 (.cells #[.slice ta tn tc, .slice ua un uc] 25)) (bal _ (.cells #[.int .i64 0, .int .i64 0, .int .i64 0] 30))
      have S21 : Hid (St W _ _) := s21
      have E21 : Hid (ERow 2 scs _ ta tn tc T) := eT.below B21
      have Q21 : Hid (QRow _ ua un uc U) := eU2.below B21
      have R21 : Hid (Wr.Row _ a len cap zs) := (R6.out.below b20).below B21
      have hz' : Hid (zs = eAll (T, U)) := hz
      have HF2 : Hid (CeF (T, U)) := hF2
      obtain ⟨d1, g1, y1, d2, g2, y2, -⟩ := s21.rules
      clear hd b20 s21 B21 eT eU2 hz hF2
      go_wp2_with fail
      refine (encode_ok ta tn tc T ua un uc U _ E21.out Q21.out HF2.out).mono ?_
      rintro e w22 ⟨v, rfl, own, nn, b22⟩
      obtain ⟨d, n, cc, rfl, R22, -⟩ := Own.rw own nn
      have s23 := (S21.out.call b22).new (c := #[.int .i64 0, .int .i64 0, .int .i64 0]) (t := 30)
      have S23 : Hid (St W _ _) := s23
      have V23 : Hid (Wr.Row _ (some d) n cc _) := R22.below (bal w22 (.cells #[.int .i64 0, .int .i64 0, .int .i64 0] 30))
      have A23 : Hid (Wr.Row _ a len cap zs) := (R21.out.below b22).below (bal w22 (.cells #[.int .i64 0, .int .i64 0, .int .i64 0] 30))
      have eq0 := eqF 0 0 0 0 0 0 true (by simp)
      clear d1 g1 y1 d2 g2 y2 own nn R22 b22 s23
      go_wp2_with fail
      refine (sameb_any (some d) a n cc len cap _ zs _ V23.out A23.out).mono ?_
      rintro e w24 ⟨rfl, b24⟩
      rw [decide_eq_true hz'.out.symm]
      have hb : Hid (Below W.heap.size W w24) := (S23.out.call b24).below
      clear b24
      go_wp2
      go_ret
      exact ⟨rfl, hb.out⟩
  · have HX : Hid (fCe (R, P) = (x1, x2, x3) ∧ x1 ≠ 0) := ⟨hX, hx⟩
    clear hX hx
    go_wp2_with fail
    refine (encode_bad ra rn rc R pa pn pc P _ E1.out Q1.out x1 x2 x3 HX.out.1 HX.out.2).mono ?_
    rintro e w2 ⟨rfl, b2⟩
    have s3 := (S1.out.call b2).new (c := #[.int .i64 x1, .int .i64 x2, .int .i64 x3]) (t := 30)
    have S3 : Hid (St W _ _) := s3
    have R3 : Hid (Wr.Row _ a len cap zs) := (R1.out.below b2).below (bal w2 (.cells #[.int .i64 x1, .int .i64 x2, .int .i64 x3] 30))
    clear c1 f1 z1
    obtain ⟨c1, f1, z1, c2, f2, z2, -⟩ := s3.rules
    have hx2 : (x1 == 0) = false := by simpa using HX.out.2
    have hx3 : (x1 != 0) = true := by simpa using HX.out.2
    clear b2 s3 S1 E1 Q1 R1
    go_wp2_with fail
    refine (decode_any a len cap zs _ R3.out (by omega)).mono ?_
    rintro e w20 ⟨hd, b20⟩
    rcases dec_cases hd hbz.out with ⟨x, t1, t2, hx, rfl⟩ | ⟨ta, tn, tc, T, ua, un, uc, U, hz, hF2, lT, lU, rfl, eT, eU2, -, -⟩
    · have s21 := ((S3.out.call b20).new (c := #[.slice none 0 0, .slice none 0 0]) (t := 25)).new (c := #[.int .i64 x, .int .i64 t1, .int .i64 t2]) (t := 30)
      simp only [World.size_alloc] at s21
      have hb : Hid (Below W.heap.size W _) := s21.below
      obtain ⟨d1, g1, y1, d2, g2, y2, -⟩ := s21.rules
      have hx2 : (x == 0) = false := by simpa using hx
      have hx3 : (x != 0) = true := by simpa using hx
      clear hd b20 s21 hx
      go_wp2
      go_ret
      exact ⟨rfl, hb.out⟩
    · have s21 := ((S3.out.call b20).new (c := #[.slice ta tn tc, .slice ua un uc]) (t := 25)).new (c := #[.int .i64 0, .int .i64 0, .int .i64 0]) (t := 30)
      simp only [World.size_alloc] at s21
      have B21 := bt (bal w20 (.cells #[.slice ta tn tc, .slice ua un uc] 25)) (bal _ (.cells #[.int .i64 0, .int .i64 0, .int .i64 0] 30))
      have S21 : Hid (St W _ _) := s21
      have E21 : Hid (ERow 2 scs _ ta tn tc T) := eT.below B21
      have Q21 : Hid (QRow _ ua un uc U) := eU2.below B21
      have R21 : Hid (Wr.Row _ a len cap zs) := (R3.out.below b20).below B21
      have hz' : Hid (zs = eAll (T, U)) := hz
      have HF2 : Hid (CeF (T, U)) := hF2
      obtain ⟨d1, g1, y1, d2, g2, y2, -⟩ := s21.rules
      clear hd b20 s21 B21 eT eU2 hz hF2
      go_wp2_with fail
      refine (encode_ok ta tn tc T ua un uc U _ E21.out Q21.out HF2.out).mono ?_
      rintro e w22 ⟨v, rfl, own, nn, b22⟩
      obtain ⟨d, n, cc, rfl, R22, -⟩ := Own.rw own nn
      have s23 := (S21.out.call b22).new (c := #[.int .i64 0, .int .i64 0, .int .i64 0]) (t := 30)
      have S23 : Hid (St W _ _) := s23
      have V23 : Hid (Wr.Row _ (some d) n cc _) := R22.below (bal w22 (.cells #[.int .i64 0, .int .i64 0, .int .i64 0] 30))
      have A23 : Hid (Wr.Row _ a len cap zs) := (R21.out.below b22).below (bal w22 (.cells #[.int .i64 0, .int .i64 0, .int .i64 0] 30))
      have eq0 := eqF 0 0 0 0 0 0 true (by simp)
      clear d1 g1 y1 d2 g2 y2 own nn R22 b22 s23
      go_wp2_with fail
      refine (sameb_any (some d) a n cc len cap _ zs _ V23.out A23.out).mono ?_
      rintro e w24 ⟨rfl, b24⟩
      rw [decide_eq_true hz'.out.symm]
      have hb : Hid (Below W.heap.size W w24) := (S23.out.call b24).below
      clear b24
      go_wp2
      go_ret
      exact ⟨rfl, hb.out⟩
theorem sealBack_walk0 (ra : Option Addr) (rn rc : Nat) (pa : Option Addr) (pn pc : Nat) (a : Option Addr) (len cap : Nat) (zs : List Int) (W : World) (h1 : ORow 2 SpIn W ra rn rc) (r1 : rn * 16 ≤ 140737488351232) (h2 : ORow 1 (PlIn W) W pa pn pc) (r2 : pn * 24 ≤ 140737488351232) (h3 : IRow .u8 W a len cap zs) (r3 : len * 1 ≤ 140737488351232) :
    Calls Try.prog 5 #[.agg #[.slice ra rn rc, .slice pa pn pc], .slice a len cap] W fun e w' => e = .returned (.bool true) ∧ Below W.heap.size W w' := by
  obtain ⟨R, g1, g2⟩ := spans_of h1
  obtain ⟨P, g3, g4⟩ := plans_of h2
  exact sealBack_w ra rn rc R pa pn pc P a len cap zs W g1 g3 ⟨g2, g4⟩ (irow_row h3) (by omega)
end Go.Proofs.Ythlnhodfgmpabaa.Sl
namespace Go.Proofs.Ythlnhodfgmpabaa
open Go.ChangeShapes Go.WideShapes Go.ChangeAt Go.RowKit
set_option linter.unusedVariables false
theorem sealBack_walk (ra : Option Addr) (rn rc : Nat) (pa : Option Addr) (pn pc : Nat) (a : Option Addr) (len cap : Nat) (zs : List Int) (W : World) (h1 : ORow 2 Sl.SpIn W ra rn rc) (r1 : rn * 16 ≤ 140737488351232) (h2 : ORow 1 (Sl.PlIn W) W pa pn pc) (r2 : pn * 24 ≤ 140737488351232) (h3 : IRow .u8 W a len cap zs) (r3 : len * 1 ≤ 140737488351232) :
    Calls Try.prog 5 #[.agg #[.slice ra rn rc, .slice pa pn pc], .slice a len cap] W fun e w' => e = .returned (.bool true) ∧ Below W.heap.size W w' := Sl.sealBack_walk0 ra rn rc pa pn pc a len cap zs W h1 r1 h2 r2 h3 r3
end Go.Proofs.Ythlnhodfgmpabaa
