/- The walk of WholeCerts. Written by tools/gen/SelT.py. -/
import Derived.Test.YthlnhodfgmpabaaSelA
namespace Go.Proofs.Ythlnhodfgmpabaa.Sl
open Wr
open Go.ChangeShapes Go.WideShapes Go.ChangeAt Go.RowKit
set_option linter.unusedVariables false
theorem eAll_inj {R S : List (Int × Int)} {P Q : List (List Pl)} (h1 : CeF (R, P)) (h2 : CeF (S, Q)) : decide (eAll (R, P) = eAll (S, Q)) = ceB R P S Q := by
  by_cases h : eAll (R, P) = eAll (S, Q)
  · have e1 := all_back h1
    rw [h, all_back h2] at e1
    simp only [Sum.inr.injEq, Prod.mk.injEq] at e1
    obtain ⟨rfl, rfl⟩ := e1
    rw [ceB_t, decide_eq_true rfl]
  · rw [decide_eq_false h]
    by_cases e : R = S
    · subst e
      exact (ceB_m (fun q => h (by rw [q]))).symm
    · exact (ceB_n e).symm
theorem encode_gen (ra : Option Addr) (rn rc : Nat) (R : List (Int × Int)) (pa : Option Addr) (pn pc : Nat) (P : List (List Pl)) (W : World) (hR : ERow 2 scs W ra rn rc R) (hP : QRow W pa pn pc P) (h64 : C64 (R, P)) :
    Calls Try.prog 10 #[.agg #[.slice ra rn rc, .slice pa pn pc]] W fun e w' => ∃ va vn vc x1 x2 x3, e = .returned (.tuple #[.slice va vn vc, .agg #[.int .i64 x1, .int .i64 x2, .int .i64 x3]]) ∧ Below W.heap.size W w' := by
  rcases ce_cases h64 with hF | ⟨x1, x2, x3, hX, hx⟩
  · refine (encode_ok ra rn rc R pa pn pc P W hR hP hF).mono ?_
    rintro e w1 ⟨v, rfl, own, nn, b1⟩
    obtain ⟨d, n, cc, rfl, -, -⟩ := Own.rw own nn
    exact ⟨_, _, _, 0, 0, 0, rfl, b1⟩
  · refine (encode_bad ra rn rc R pa pn pc P W hR hP x1 x2 x3 hX hx).mono ?_
    rintro e w1 ⟨rfl, b1⟩
    exact ⟨_, _, _, x1, x2, x3, rfl, b1⟩
theorem qrow_nil (w : World) : QRow w none 0 0 [] := ⟨rfl, Nat.le_refl _, by unfold maxLen; omega, fun _ => rfl, fun x h => by cases h⟩
set_option maxHeartbeats 8000000 in
set_option maxRecDepth 100000 in
theorem wholeCerts_w (ra : Option Addr) (rn rc : Nat) (R : List (Int × Int)) (pa : Option Addr) (pn pc : Nat) (P : List (List Pl)) (ka : Option Addr) (kn kc : Nat) (K : List (Int × Int)) (la : Option Addr) (ln lc : Nat) (L : List (List Pl)) (a : Option Addr) (len cap : Nat) (zs : List Int) (W : World) (hR : ERow 2 scs W ra rn rc R) (hP : QRow W pa pn pc P) (h64 : C64 (R, P)) (hK : ERow 2 scs W ka kn kc K) (hL : QRow W la ln lc L) (k64 : C64 (K, L)) (hr : Wr.Row W a len cap zs) (hl : len ≤ 140737488351232) :
    Calls Try.prog 8 #[.agg #[.slice ra rn rc, .slice pa pn pc], .agg #[.slice ka kn kc, .slice la ln lc], .slice a len cap] W fun e w' => e = .returned (.bool true) ∧ Below W.heap.size W w' := by
  have hbz : Hid (Byt zs) := hr.2.2.2.1
  have s0 := ((St.start W).new (c := #[.slice ra rn rc, .slice pa pn pc]) (t := 25)).new (c := #[.slice ka kn kc, .slice la ln lc]) (t := 25)
  simp only [World.size_alloc] at s0
  have S0 : Hid (St W _ _) := s0
  have HE : Hid (∀ w', Below W.heap.size W w' → ERow 2 scs w' ra rn rc R ∧ QRow w' pa pn pc P ∧ ERow 2 scs w' ka kn kc K ∧ QRow w' la ln lc L ∧ Wr.Row w' a len cap zs) := fun w' hb => ⟨hR.below hb, hP.below hb, hK.below hb, hL.below hb, hr.below hb⟩
  have hrn : Hid (R.length = rn ∧ P.length = pn) := ⟨hR.1, hP.1⟩
  have hcc := ce_cases h64
  have hkc := ce_cases k64
  have K64 : Hid (C64 (K, L)) := k64
  clear s0 hR hP h64 hK hL k64 hr
  go_enter Try.func8, Try.ntmps8
  go_wp2_with fail
  refine (cbytes_any _).mono ?_
  rintro e w1 ⟨g0, p0, b0, rfl, eX, qX, vX, b1⟩
  have s1 := (S0.out.call b1).new (c := #[.slice (some ⟨g0, 0, none⟩) 2 2, .slice (some ⟨p0, 0, none⟩) 1 1]) (t := 25)
  have S1 : Hid (St W _ _) := s1
  have X1 : Hid (ERow 2 scs _ (some ⟨g0, 0, none⟩) 2 2 exR) := eX.below (bal w1 (.cells #[.slice (some ⟨g0, 0, none⟩) 2 2, .slice (some ⟨p0, 0, none⟩) 1 1] 25))
  have Y1 : Hid (QRow _ (some ⟨p0, 0, none⟩) 1 1 exP) := qX.below (bal w1 (.cells #[.slice (some ⟨g0, 0, none⟩) 2 2, .slice (some ⟨p0, 0, none⟩) 1 1] 25))
  have V1 : Hid (Wr.Row _ (some ⟨b0, 0, none⟩) 17 17 bytes17) := vX.below (bal w1 (.cells #[.slice (some ⟨g0, 0, none⟩) 2 2, .slice (some ⟨p0, 0, none⟩) 1 1] 25))
  obtain ⟨c1, f1, z1, c2, f2, z2, c3, f3, z3, -⟩ := s1.rules
  clear eX qX vX b1 s1 S0
  go_wp2_with fail
  refine (encode_ok _ 2 2 exR _ 1 1 exP _ X1.out Y1.out ex_f).mono ?_
  rintro e w2 ⟨v, rfl, own, nn, b2⟩
  rw [ex_bytes] at own
  obtain ⟨d2, n2, e2, rfl, R2, hn⟩ := Own.rw own nn
  have hn17 : n2 = 17 := hn
  clear hn
  subst hn17
  have s3 := (S1.out.call b2).new (c := #[.int .i64 0, .int .i64 0, .int .i64 0]) (t := 30)
  have S3 : Hid (St W _ _) := s3
  have V3 : Hid (Wr.Row _ (some ⟨b0, 0, none⟩) 17 17 bytes17) := V1.out.below (bt b2 (bal w2 (.cells #[.int .i64 0, .int .i64 0, .int .i64 0] 30)))
  have X3 : Hid (Wr.Row _ (some d2) 17 e2 bytes17) := R2.below (bal w2 (.cells #[.int .i64 0, .int .i64 0, .int .i64 0] 30))
  clear c1 f1 z1 c2 f2 z2 c3 f3 z3
  obtain ⟨c1, f1, z1, c2, f2, z2, c3, f3, z3, c4, f4, z4, -⟩ := s3.rules
  clear own nn b2 R2 s3 S1 V1 X1 Y1
  go_wp2_with fail
  refine (samet_any _ _ 17 e2 17 17 bytes17 bytes17 _ X3.out V3.out).mono ?_
  rintro e w4 ⟨rfl, b4⟩
  rw [show decide (bytes17 = bytes17) = true from decide_eq_true rfl]
  have s4 := S3.out.call b4
  have S4 : Hid (St W w4 _) := s4
  clear c1 f1 z1 c2 f2 z2 c3 f3 z3 c4 f4 z4
  obtain ⟨c1, f1, z1, c2, f2, z2, c3, f3, z3, c4, f4, z4, -⟩ := s4.rules
  clear b4 s4 S3 V3 X3
  rcases hcc with hF | ⟨x1, x2, x3, hX, hx⟩
  · have HF : Hid (CeF (R, P)) := hF
    clear hF
    go_wp2_with fail
    refine (encode_ok ra rn rc R pa pn pc P _ (HE.out _ S4.out.below).1 (HE.out _ S4.out.below).2.1 HF.out).mono ?_
    rintro e w5 ⟨v, rfl, own, nn, b5⟩
    obtain ⟨d5, n5, e5, rfl, R5, hn⟩ := Own.rw own nn
    have hn5 : n5 ≤ 10000000 := by rw [hn]; exact eAll_le HF.out
    have s6 := (S4.out.call b5).new (c := #[.int .i64 0, .int .i64 0, .int .i64 0]) (t := 30)
    have S6 : Hid (St W _ _) := s6
    have V6 : Hid (Wr.Row _ (some d5) n5 e5 (eAll (R, P))) := R5.below (bal w5 (.cells #[.int .i64 0, .int .i64 0, .int .i64 0] 30))
    clear c1 f1 z1 c2 f2 z2 c3 f3 z3 c4 f4 z4
    obtain ⟨c1, f1, z1, c2, f2, z2, c3, f3, z3, c4, f4, z4, c5, f5, z5, -⟩ := s6.rules
    clear own nn b5 R5 s6 hn S4
    rcases hkc with kF | ⟨y1, y2, y3, hY, hy⟩
    · have KF : Hid (CeF (K, L)) := kF
      clear kF
      go_wp2_with fail
      refine (encode_ok ka kn kc K la ln lc L _ (HE.out _ S6.out.below).2.2.1 (HE.out _ S6.out.below).2.2.2.1 KF.out).mono ?_
      rintro e w7 ⟨v, rfl, own, nn, b7⟩
      obtain ⟨d7, n7, e7, rfl, R7, -⟩ := Own.rw own nn
      have s8 := (S6.out.call b7).new (c := #[.int .i64 0, .int .i64 0, .int .i64 0]) (t := 30)
      have S8 : Hid (St W _ _) := s8
      have V8 : Hid (Wr.Row _ (some d5) n5 e5 (eAll (R, P))) := V6.out.below (bt b7 (bal w7 (.cells #[.int .i64 0, .int .i64 0, .int .i64 0] 30)))
      have U8 : Hid (Wr.Row _ (some d7) n7 e7 (eAll (K, L))) := R7.below (bal w7 (.cells #[.int .i64 0, .int .i64 0, .int .i64 0] 30))
      clear c1 f1 z1 c2 f2 z2 c3 f3 z3 c4 f4 z4 c5 f5 z5
      obtain ⟨c1, f1, z1, c2, f2, z2, c3, f3, z3, c4, f4, z4, c5, f5, z5, c6, f6, z6, -⟩ := s8.rules
      clear own nn b7 R7 s8 S6 V6
      go_wp2_with fail
      refine (decode_any (some d5) n5 e5 _ _ V8.out (by omega)).mono ?_
      rintro e w9 ⟨hd, b9⟩
      obtain ⟨sa, sc, qa, qc, rfl, oR, oP⟩ := dec_back hd HF.out rfl
      rw [hrn.out.1] at oR ⊢
      rw [hrn.out.2] at oP ⊢
      have s10 := ((S8.out.call b9).new (c := #[.slice sa rn sc, .slice qa pn qc]) (t := 25)).new (c := #[.int .i64 0, .int .i64 0, .int .i64 0]) (t := 30)
      simp only [World.size_alloc] at s10
      have B9 := bt (bal w9 (.cells #[.slice sa rn sc, .slice qa pn qc] 25)) (bal _ (.cells #[.int .i64 0, .int .i64 0, .int .i64 0] 30))
      have S10 : Hid (St W _ _) := s10
      have V10 : Hid (Wr.Row _ (some d5) n5 e5 (eAll (R, P))) := V8.out.below (bt b9 B9)
      have U10 : Hid (Wr.Row _ (some d7) n7 e7 (eAll (K, L))) := U8.out.below (bt b9 B9)
      have D10 : Hid (ERow 2 scs _ sa rn sc R) := (owns_erow scs_len oR hrn.out.1).below B9
      have G10 : Hid (QRow _ qa pn qc P) := oP.q.below B9
      clear c1 f1 z1 c2 f2 z2 c3 f3 z3 c4 f4 z4 c5 f5 z5 c6 f6 z6
      obtain ⟨c1, f1, z1, c2, f2, z2, c3, f3, z3, c4, f4, z4, c5, f5, z5, c6, f6, z6, c7, f7, z7, c8, f8, z8, -⟩ := s10.rules
      clear hd b9 oR oP B9 s10 S8 V8 U8
      go_wp2_with fail
      refine (csame_any sa rn sc R qa pn qc P ra rn rc R pa pn pc P _ D10.out G10.out (HE.out _ S10.out.below).1 (HE.out _ S10.out.below).2.1).mono ?_
      rintro e w11 ⟨rfl, b11⟩
      rw [ceB_t]
      have s11 := S10.out.call b11
      have S11 : Hid (St W w11 _) := s11
      have V11 : Hid (Wr.Row w11 (some d5) n5 e5 (eAll (R, P))) := V10.out.below b11
      have U11 : Hid (Wr.Row w11 (some d7) n7 e7 (eAll (K, L))) := U10.out.below b11
      clear c1 f1 z1 c2 f2 z2 c3 f3 z3 c4 f4 z4 c5 f5 z5 c6 f6 z6 c7 f7 z7 c8 f8 z8
      obtain ⟨bv, hbv⟩ : ∃ bv, ceB R P K L = bv := ⟨_, rfl⟩
      have hin := eAll_inj HF.out KF.out
      rw [hbv] at hin
      have H1 : Hid (∀ n : Wd w11 [], Calls Try.prog 19 #[.slice (some d5) n5 e5, .slice (some d7) n7 e7] n.w fun e w' => e = .returned (.bool bv) ∧ Below n.w.heap.size n.w w') := fun n => hin ▸ samet_any (some d5) (some d7) n5 e5 n7 e7 _ _ n.w (V11.out.below n.h.below) (U11.out.below n.h.below)
      have H2 : Hid (∀ n : Wd w11 [], Calls Try.prog 17 #[.agg #[.slice ra rn rc, .slice pa pn pc], .agg #[.slice ka kn kc, .slice la ln lc]] n.w fun e w' => e = .returned (.bool bv) ∧ Below n.w.heap.size n.w w') := fun n => hbv ▸ csame_any ra rn rc R pa pn pc P ka kn kc K la ln lc L n.w (HE.out _ (bt S11.out.below n.h.below)).1 (HE.out _ (bt S11.out.below n.h.below)).2.1 (HE.out _ (bt S11.out.below n.h.below)).2.2.1 (HE.out _ (bt S11.out.below n.h.below)).2.2.2.1
      clear b11 s11 S10 V10 U10 D10 G10 hbv hin
      go_upto_region 11 with fail
      have hSt := St.start w11
      obtain ⟨q1, y1, q2, y2, q3, y3, q4, y4, q5, y5, q6, y6, q7, y7, q8, y8, -⟩ := S11.out.rulesE
      have hne := Nonempty.intro (Wd.mk _ hSt)
      refine region_held hSt (by kernel_rfl) (by kernel_rfl) ?_
      repeat (go_big_quiet_step ((first
        | (go_at_call 19; exact held_of (H1.out _))
        | (go_at_call 17; exact held_of (H2.out _)))))
      refine wpQuiet_nil ?_
      intro _ hw'
      obtain ⟨nq, rfl⟩ := hw'
      obtain ⟨w12, hw12⟩ : ∃ w12, nq.w = w12 := ⟨_, rfl⟩
      have hb12 : Below w11.heap.size w11 w12 := hw12 ▸ nq.h.below
      rw [hw12]
      have S12 : Hid (St W w12 _) := S11.out.call hb12
      have R12 : Hid (Wr.Row w12 a len cap zs) := (HE.out _ S12.out.below).2.2.2.2
      clear hne hw12 hSt hb12 q1 y1 q2 y2 q3 y3 q4 y4 q5 y5 q6 y6 q7 y7 q8 y8 S11 H1 H2 V11 U11
      clear nq
      go_wp2_with fail
      refine (decode_any a len cap zs _ R12.out (by omega)).mono ?_
      rintro e w20 ⟨hd, b20⟩
      rcases dec_cases hd hbz.out with ⟨x, t1, t2, hx, rfl⟩ | ⟨ta, tn, tc, T, ua, un, uc, U, hz, hF2, lT, lU, rfl, eT, eU2, -, -⟩
      · have s21 := ((S12.out.call b20).new (c := #[.slice none 0 0, .slice none 0 0]) (t := 25)).new (c := #[.int .i64 x, .int .i64 t1, .int .i64 t2]) (t := 30)
        simp only [World.size_alloc] at s21
        have S21 : Hid (St W _ _) := s21
        obtain ⟨d1, g1, k1, d2, g2, k2, -⟩ := s21.rules
        have hx2 : (x == 0) = false := by simpa using hx
        have hx3 : (x != 0) = true := by simpa using hx
        clear hd b20 s21 hx
        go_wp2_with fail
        refine (csame_any none 0 0 [] none 0 0 [] none 0 0 [] none 0 0 [] _ (erow_nil _ _ _) (qrow_nil _) (erow_nil _ _ _) (qrow_nil _)).mono ?_
        rintro e w22 ⟨rfl, b22⟩
        rw [ceB_t]
        have hb : Hid (Below W.heap.size W w22) := (S21.out.call b22).below
        clear d1 g1 k1 d2 g2 k2 b22
        go_wp2
        go_ret
        exact ⟨rfl, hb.out⟩
      · have s21 := ((S12.out.call b20).new (c := #[.slice ta tn tc, .slice ua un uc]) (t := 25)).new (c := #[.int .i64 0, .int .i64 0, .int .i64 0]) (t := 30)
        simp only [World.size_alloc] at s21
        have B21 := bt (bal w20 (.cells #[.slice ta tn tc, .slice ua un uc] 25)) (bal _ (.cells #[.int .i64 0, .int .i64 0, .int .i64 0] 30))
        have S21 : Hid (St W _ _) := s21
        have E21 : Hid (ERow 2 scs _ ta tn tc T) := eT.below B21
        have Q21 : Hid (QRow _ ua un uc U) := eU2.below B21
        have R21 : Hid (Wr.Row _ a len cap zs) := (R12.out.below b20).below B21
        have hz' : Hid (zs = eAll (T, U)) := hz
        have HF2 : Hid (CeF (T, U)) := hF2
        obtain ⟨d1, g1, k1, d2, g2, k2, -⟩ := s21.rules
        clear hd b20 s21 B21 eT eU2 hz hF2
        go_wp2_with fail
        refine (encode_ok ta tn tc T ua un uc U _ E21.out Q21.out HF2.out).mono ?_
        rintro e w22 ⟨v, rfl, own, nn, b22⟩
        obtain ⟨d, n, cc, rfl, R22, -⟩ := Own.rw own nn
        have s23 := (S21.out.call b22).new (c := #[.int .i64 0, .int .i64 0, .int .i64 0]) (t := 30)
        have S23 : Hid (St W _ _) := s23
        have V23 : Hid (Wr.Row _ (some d) n cc _) := R22.below (bal w22 (.cells #[.int .i64 0, .int .i64 0, .int .i64 0] 30))
        have A23 : Hid (Wr.Row _ a len cap zs) := (R21.out.below b22).below (bal w22 (.cells #[.int .i64 0, .int .i64 0, .int .i64 0] 30))
        clear d1 g1 k1 d2 g2 k2
        obtain ⟨d1, g1, k1, -⟩ := s23.rules
        clear own nn R22 b22 s23
        go_wp2_with fail
        refine (samet_any (some d) a n cc len cap _ zs _ V23.out A23.out).mono ?_
        rintro e w24 ⟨rfl, b24⟩
        rw [decide_eq_true hz'.out.symm]
        have hb : Hid (Below W.heap.size W w24) := (S23.out.call b24).below
        clear b24 d1 g1 k1
        go_wp2
        go_ret
        exact ⟨rfl, hb.out⟩
    · have HY : Hid (fCe (K, L) = (y1, y2, y3) ∧ y1 ≠ 0) := ⟨hY, hy⟩
      have hy2 : (y1 == 0) = false := by simpa using hy
      clear hY hy
      go_wp2_with fail
      refine (encode_bad ka kn kc K la ln lc L _ (HE.out _ S6.out.below).2.2.1 (HE.out _ S6.out.below).2.2.2.1 y1 y2 y3 HY.out.1 HY.out.2).mono ?_
      rintro e w7 ⟨rfl, b7⟩
      have s8 := (S6.out.call b7).new (c := #[.int .i64 y1, .int .i64 y2, .int .i64 y3]) (t := 30)
      have S8 : Hid (St W _ _) := s8
      have V8 : Hid (Wr.Row _ (some d5) n5 e5 (eAll (R, P))) := V6.out.below (bt b7 (bal w7 (.cells #[.int .i64 y1, .int .i64 y2, .int .i64 y3] 30)))
      clear c1 f1 z1 c2 f2 z2 c3 f3 z3 c4 f4 z4 c5 f5 z5
      obtain ⟨c1, f1, z1, c2, f2, z2, c3, f3, z3, c4, f4, z4, c5, f5, z5, c6, f6, z6, -⟩ := s8.rules
      clear b7 s8 S6 V6
      go_wp2_with fail
      refine (decode_any (some d5) n5 e5 _ _ V8.out (by omega)).mono ?_
      rintro e w9 ⟨hd, b9⟩
      obtain ⟨sa, sc, qa, qc, rfl, oR, oP⟩ := dec_back hd HF.out rfl
      rw [hrn.out.1] at oR ⊢
      rw [hrn.out.2] at oP ⊢
      have s10 := ((S8.out.call b9).new (c := #[.slice sa rn sc, .slice qa pn qc]) (t := 25)).new (c := #[.int .i64 0, .int .i64 0, .int .i64 0]) (t := 30)
      simp only [World.size_alloc] at s10
      have B9 := bt (bal w9 (.cells #[.slice sa rn sc, .slice qa pn qc] 25)) (bal _ (.cells #[.int .i64 0, .int .i64 0, .int .i64 0] 30))
      have S10 : Hid (St W _ _) := s10
      have D10 : Hid (ERow 2 scs _ sa rn sc R) := (owns_erow scs_len oR hrn.out.1).below B9
      have G10 : Hid (QRow _ qa pn qc P) := oP.q.below B9
      clear c1 f1 z1 c2 f2 z2 c3 f3 z3 c4 f4 z4 c5 f5 z5 c6 f6 z6
      obtain ⟨c1, f1, z1, c2, f2, z2, c3, f3, z3, c4, f4, z4, c5, f5, z5, c6, f6, z6, c7, f7, z7, c8, f8, z8, -⟩ := s10.rules
      clear hd b9 oR oP B9 s10 S8 V8
      go_wp2_with fail
      refine (csame_any sa rn sc R qa pn qc P ra rn rc R pa pn pc P _ D10.out G10.out (HE.out _ S10.out.below).1 (HE.out _ S10.out.below).2.1).mono ?_
      rintro e w11 ⟨rfl, b11⟩
      rw [ceB_t]
      have s11 := S10.out.call b11
      have S11 : Hid (St W w11 _) := s11
      clear c1 f1 z1 c2 f2 z2 c3 f3 z3 c4 f4 z4 c5 f5 z5 c6 f6 z6 c7 f7 z7 c8 f8 z8
      clear b11 s11 S10 D10 G10
      go_upto_region 11 with fail
      have hSt := St.start w11
      obtain ⟨q1, e1, q2, e2', q3, e3, q4, e4, q5, e5', q6, e6, q7, e7, q8, e8, -⟩ := S11.out.rulesE
      have hne := Nonempty.intro (Wd.mk _ hSt)
      refine region_held hSt (by kernel_rfl) (by kernel_rfl) ?_
      repeat (go_big_quiet_step (fail))
      refine wpQuiet_nil ?_
      intro _ hw'
      obtain ⟨nq, rfl⟩ := hw'
      obtain ⟨w12, hw12⟩ : ∃ w12, nq.w = w12 := ⟨_, rfl⟩
      have hb12 : Below w11.heap.size w11 w12 := hw12 ▸ nq.h.below
      rw [hw12]
      have S12 : Hid (St W w12 _) := S11.out.call hb12
      have R12 : Hid (Wr.Row w12 a len cap zs) := (HE.out _ S12.out.below).2.2.2.2
      clear hne hw12 hSt hb12 q1 e1 q2 e2' q3 e3 q4 e4 q5 e5' q6 e6 q7 e7 q8 e8 S11
      clear nq
      go_wp2_with fail
      refine (decode_any a len cap zs _ R12.out (by omega)).mono ?_
      rintro e w20 ⟨hd, b20⟩
      rcases dec_cases hd hbz.out with ⟨x, t1, t2, hx, rfl⟩ | ⟨ta, tn, tc, T, ua, un, uc, U, hz, hF2, lT, lU, rfl, eT, eU2, -, -⟩
      · have s21 := ((S12.out.call b20).new (c := #[.slice none 0 0, .slice none 0 0]) (t := 25)).new (c := #[.int .i64 x, .int .i64 t1, .int .i64 t2]) (t := 30)
        simp only [World.size_alloc] at s21
        have S21 : Hid (St W _ _) := s21
        obtain ⟨d1, g1, k1, d2, g2, k2, -⟩ := s21.rules
        have hx2 : (x == 0) = false := by simpa using hx
        have hx3 : (x != 0) = true := by simpa using hx
        clear hd b20 s21 hx
        go_wp2_with fail
        refine (csame_any none 0 0 [] none 0 0 [] none 0 0 [] none 0 0 [] _ (erow_nil _ _ _) (qrow_nil _) (erow_nil _ _ _) (qrow_nil _)).mono ?_
        rintro e w22 ⟨rfl, b22⟩
        rw [ceB_t]
        have hb : Hid (Below W.heap.size W w22) := (S21.out.call b22).below
        clear d1 g1 k1 d2 g2 k2 b22
        go_wp2
        go_ret
        exact ⟨rfl, hb.out⟩
      · have s21 := ((S12.out.call b20).new (c := #[.slice ta tn tc, .slice ua un uc]) (t := 25)).new (c := #[.int .i64 0, .int .i64 0, .int .i64 0]) (t := 30)
        simp only [World.size_alloc] at s21
        have B21 := bt (bal w20 (.cells #[.slice ta tn tc, .slice ua un uc] 25)) (bal _ (.cells #[.int .i64 0, .int .i64 0, .int .i64 0] 30))
        have S21 : Hid (St W _ _) := s21
        have E21 : Hid (ERow 2 scs _ ta tn tc T) := eT.below B21
        have Q21 : Hid (QRow _ ua un uc U) := eU2.below B21
        have R21 : Hid (Wr.Row _ a len cap zs) := (R12.out.below b20).below B21
        have hz' : Hid (zs = eAll (T, U)) := hz
        have HF2 : Hid (CeF (T, U)) := hF2
        obtain ⟨d1, g1, k1, d2, g2, k2, -⟩ := s21.rules
        clear hd b20 s21 B21 eT eU2 hz hF2
        go_wp2_with fail
        refine (encode_ok ta tn tc T ua un uc U _ E21.out Q21.out HF2.out).mono ?_
        rintro e w22 ⟨v, rfl, own, nn, b22⟩
        obtain ⟨d, n, cc, rfl, R22, -⟩ := Own.rw own nn
        have s23 := (S21.out.call b22).new (c := #[.int .i64 0, .int .i64 0, .int .i64 0]) (t := 30)
        have S23 : Hid (St W _ _) := s23
        have V23 : Hid (Wr.Row _ (some d) n cc _) := R22.below (bal w22 (.cells #[.int .i64 0, .int .i64 0, .int .i64 0] 30))
        have A23 : Hid (Wr.Row _ a len cap zs) := (R21.out.below b22).below (bal w22 (.cells #[.int .i64 0, .int .i64 0, .int .i64 0] 30))
        clear d1 g1 k1 d2 g2 k2
        obtain ⟨d1, g1, k1, -⟩ := s23.rules
        clear own nn R22 b22 s23
        go_wp2_with fail
        refine (samet_any (some d) a n cc len cap _ zs _ V23.out A23.out).mono ?_
        rintro e w24 ⟨rfl, b24⟩
        rw [decide_eq_true hz'.out.symm]
        have hb : Hid (Below W.heap.size W w24) := (S23.out.call b24).below
        clear b24 d1 g1 k1
        go_wp2
        go_ret
        exact ⟨rfl, hb.out⟩
  · have HX : Hid (fCe (R, P) = (x1, x2, x3) ∧ x1 ≠ 0) := ⟨hX, hx⟩
    have hx2 : (x1 == 0) = false := by simpa using hx
    have hx3 : (x1 != 0) = true := by simpa using hx
    clear hX hx hkc
    go_wp2_with fail
    refine (encode_bad ra rn rc R pa pn pc P _ (HE.out _ S4.out.below).1 (HE.out _ S4.out.below).2.1 x1 x2 x3 HX.out.1 HX.out.2).mono ?_
    rintro e w5 ⟨rfl, b5⟩
    have s6 := (S4.out.call b5).new (c := #[.int .i64 x1, .int .i64 x2, .int .i64 x3]) (t := 30)
    have S6 : Hid (St W _ _) := s6
    clear c1 f1 z1 c2 f2 z2 c3 f3 z3 c4 f4 z4
    obtain ⟨c1, f1, z1, c2, f2, z2, c3, f3, z3, c4, f4, z4, c5, f5, z5, -⟩ := s6.rules
    clear b5 s6 S4
    go_wp2_with fail
    refine (encode_gen ka kn kc K la ln lc L _ (HE.out _ S6.out.below).2.2.1 (HE.out _ S6.out.below).2.2.2.1 K64.out).mono ?_
    rintro e w7 ⟨va, vn, vc, y1, y2, y3, rfl, b7⟩
    have s8 := (S6.out.call b7).new (c := #[.int .i64 y1, .int .i64 y2, .int .i64 y3]) (t := 30)
    have S8 : Hid (St W _ _) := s8
    have R8 : Hid (Wr.Row _ a len cap zs) := (HE.out _ s8.below).2.2.2.2
    clear c1 f1 z1 c2 f2 z2 c3 f3 z3 c4 f4 z4 c5 f5 z5
    obtain ⟨c1, f1, z1, c2, f2, z2, c3, f3, z3, c4, f4, z4, c5, f5, z5, c6, f6, z6, -⟩ := s8.rules
    clear b7 s8 S6
    go_wp2_with fail
    refine (decode_any a len cap zs _ R8.out (by omega)).mono ?_
    rintro e w20 ⟨hd, b20⟩
    rcases dec_cases hd hbz.out with ⟨x, t1, t2, hx, rfl⟩ | ⟨ta, tn, tc, T, ua, un, uc, U, hz, hF2, lT, lU, rfl, eT, eU2, -, -⟩
    · have s21 := ((S8.out.call b20).new (c := #[.slice none 0 0, .slice none 0 0]) (t := 25)).new (c := #[.int .i64 x, .int .i64 t1, .int .i64 t2]) (t := 30)
      simp only [World.size_alloc] at s21
      have S21 : Hid (St W _ _) := s21
      obtain ⟨d1, g1, k1, d2, g2, k2, -⟩ := s21.rules
      have hx2 : (x == 0) = false := by simpa using hx
      have hx3 : (x != 0) = true := by simpa using hx
      clear hd b20 s21 hx
      go_wp2_with fail
      refine (csame_any none 0 0 [] none 0 0 [] none 0 0 [] none 0 0 [] _ (erow_nil _ _ _) (qrow_nil _) (erow_nil _ _ _) (qrow_nil _)).mono ?_
      rintro e w22 ⟨rfl, b22⟩
      rw [ceB_t]
      have hb : Hid (Below W.heap.size W w22) := (S21.out.call b22).below
      clear d1 g1 k1 d2 g2 k2 b22
      go_wp2
      go_ret
      exact ⟨rfl, hb.out⟩
    · have s21 := ((S8.out.call b20).new (c := #[.slice ta tn tc, .slice ua un uc]) (t := 25)).new (c := #[.int .i64 0, .int .i64 0, .int .i64 0]) (t := 30)
      simp only [World.size_alloc] at s21
      have B21 := bt (bal w20 (.cells #[.slice ta tn tc, .slice ua un uc] 25)) (bal _ (.cells #[.int .i64 0, .int .i64 0, .int .i64 0] 30))
      have S21 : Hid (St W _ _) := s21
      have E21 : Hid (ERow 2 scs _ ta tn tc T) := eT.below B21
      have Q21 : Hid (QRow _ ua un uc U) := eU2.below B21
      have R21 : Hid (Wr.Row _ a len cap zs) := (R8.out.below b20).below B21
      have hz' : Hid (zs = eAll (T, U)) := hz
      have HF2 : Hid (CeF (T, U)) := hF2
      obtain ⟨d1, g1, k1, d2, g2, k2, -⟩ := s21.rules
      clear hd b20 s21 B21 eT eU2 hz hF2
      go_wp2_with fail
      refine (encode_ok ta tn tc T ua un uc U _ E21.out Q21.out HF2.out).mono ?_
      rintro e w22 ⟨v, rfl, own, nn, b22⟩
      obtain ⟨d, n, cc, rfl, R22, -⟩ := Own.rw own nn
      have s23 := (S21.out.call b22).new (c := #[.int .i64 0, .int .i64 0, .int .i64 0]) (t := 30)
      have S23 : Hid (St W _ _) := s23
      have V23 : Hid (Wr.Row _ (some d) n cc _) := R22.below (bal w22 (.cells #[.int .i64 0, .int .i64 0, .int .i64 0] 30))
      have A23 : Hid (Wr.Row _ a len cap zs) := (R21.out.below b22).below (bal w22 (.cells #[.int .i64 0, .int .i64 0, .int .i64 0] 30))
      clear d1 g1 k1 d2 g2 k2
      obtain ⟨d1, g1, k1, -⟩ := s23.rules
      clear own nn R22 b22 s23
      go_wp2_with fail
      refine (samet_any (some d) a n cc len cap _ zs _ V23.out A23.out).mono ?_
      rintro e w24 ⟨rfl, b24⟩
      rw [decide_eq_true hz'.out.symm]
      have hb : Hid (Below W.heap.size W w24) := (S23.out.call b24).below
      clear b24 d1 g1 k1
      go_wp2
      go_ret
      exact ⟨rfl, hb.out⟩
end Go.Proofs.Ythlnhodfgmpabaa.Sl
namespace Go.Proofs.Ythlnhodfgmpabaa
open Go.ChangeShapes Go.WideShapes Go.ChangeAt Go.RowKit
set_option linter.unusedVariables false
theorem wholeCerts_walk (ra : Option Addr) (rn rc : Nat) (pa : Option Addr) (pn pc : Nat) (ka : Option Addr) (kn kc : Nat) (la : Option Addr) (ln lc : Nat) (a : Option Addr) (len cap : Nat) (zs : List Int) (W : World) (h1 : ORow 2 Sl.SpIn W ra rn rc) (r1 : rn * 16 ≤ 140737488351232) (h2 : ORow 1 (Sl.PlIn W) W pa pn pc) (r2 : pn * 24 ≤ 140737488351232) (h3 : ORow 2 Sl.SpIn W ka kn kc) (r3 : kn * 16 ≤ 140737488351232) (h4 : ORow 1 (Sl.PlIn W) W la ln lc) (r4 : ln * 24 ≤ 140737488351232) (h5 : IRow .u8 W a len cap zs) (r5 : len * 1 ≤ 140737488351232) :
    Calls Try.prog 8 #[.agg #[.slice ra rn rc, .slice pa pn pc], .agg #[.slice ka kn kc, .slice la ln lc], .slice a len cap] W fun e w' => e = .returned (.bool true) ∧ Below W.heap.size W w' := by
  obtain ⟨R, g1, g2⟩ := Sl.spans_of h1
  obtain ⟨P, g3, g4⟩ := Sl.plans_of h2
  obtain ⟨K, g5, g6⟩ := Sl.spans_of h3
  obtain ⟨L, g7, g8⟩ := Sl.plans_of h4
  exact Sl.wholeCerts_w ra rn rc R pa pn pc P ka kn kc K la ln lc L a len cap zs W g1 g3 ⟨g2, g4⟩ g5 g7 ⟨g6, g8⟩ (Sl.irow_row h5) (by omega)
end Go.Proofs.Ythlnhodfgmpabaa
