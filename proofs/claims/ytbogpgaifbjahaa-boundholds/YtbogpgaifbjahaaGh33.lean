/- The walk of BoundHolds. -/
import Derived.Test.YtbogpgaifbjahaaGh32
/- The walk of BoundHolds. -/
namespace Go.Proofs.Ytbogpgaifbjahaa
open Go.ChangeShapes Go.WideShapes Go.ChangeAt Go.RowKit
set_option linter.unusedVariables false
set_option maxHeartbeats 16000000 in
set_option maxRecDepth 100000 in
theorem holds13_k (h w c lo hi : Int) (i : Nat) (x : Addr) (on oc : Nat) (ot ch slo shi dp at' : Int) (ad : Option Addr) (n cap : Nat) (W : World) (k a b m kh kw sh sw tp lf b2 rt : Int) (wa : Option Addr) (lw wc : Nat) (ba : Option Addr) (lb bc : Nat) (sm ss um us z pd l2 h2 x0 y0 z0 H V C : Int) (T1 T2 R1 R2 P1 P2 EH Q1 Q2 bi : Int) (TL E : List (Int × Int)) (L : Nat) (xs : List Int) (hX : IRow .i8 W ad n cap xs) (hTL : TL.length = L) (hL5 : L ≤ 512) (HO : Hid (∀ W', Below W.heap.size W W' → Calls Try.prog 7 #[.agg #[.int .i64 h, .int .i64 w, .int .i64 c, .int .i64 lo, .int .i64 hi, .slice (some x) on oc, .int .i64 ot], .int .i64 ((i : Int) + 1), .int .i64 ch, .int .i64 at'] W' fun e w' => (∃ v, e = .returned (.tuple #[v, .int .i64 bi, .int .i64 0]) ∧ OTm w' W'.heap.size v TL) ∧ Below W'.heap.size W' w')) (HT : Hid (∀ W', Below W.heap.size W W' → Calls Try.prog 8 #[.agg #[.int .i64 h, .int .i64 w, .int .i64 c, .int .i64 lo, .int .i64 hi, .slice (some x) on oc, .int .i64 ot], .int .i64 ((i : Int) + 1), .int .i64 ch, .agg #[.int .i64 slo, .int .i64 shi]] W' fun e w' => e = .returned (.tuple #[.agg #[.int .i64 T1, .int .i64 T2], .int .i64 0]) ∧ Below W'.heap.size W' w')) (HR : Hid (∀ W', Below W.heap.size W W' → Calls Try.prog 9 #[.agg #[.int .i64 h, .int .i64 w, .int .i64 c, .int .i64 lo, .int .i64 hi, .slice (some x) on oc, .int .i64 ot], .int .i64 ((i : Int) + 1), .int .i64 ch, .agg #[.int .i64 slo, .int .i64 shi]] W' fun e w' => e = .returned (.tuple #[.agg #[.int .i64 R1, .int .i64 R2], .int .i64 0]) ∧ Below W'.heap.size W' w')) (HP : Hid (∀ W', Below W.heap.size W W' → Calls Try.prog 10 #[.agg #[.int .i64 h, .int .i64 w, .int .i64 c, .int .i64 lo, .int .i64 hi, .slice (some x) on oc, .int .i64 ot], .int .i64 ((i : Int) + 1), .int .i64 ch, .agg #[.int .i64 slo, .int .i64 shi], .int .i64 dp] W' fun e w' => e = .returned (.tuple #[.agg #[.int .i64 P1, .int .i64 P2], .int .i64 EH]) ∧ Below W'.heap.size W' w')) (HQ : Hid (∀ W', Below W.heap.size W W' → Calls Try.prog 11 #[.agg #[.int .i64 h, .int .i64 w, .int .i64 c, .int .i64 lo, .int .i64 hi, .slice (some x) on oc, .int .i64 ot], .int .i64 ((i : Int) + 1), .int .i64 ch, .agg #[.int .i64 slo, .int .i64 shi]] W' fun e w' => e = .returned (.tuple #[.agg #[.int .i64 Q1, .int .i64 Q2], .int .i64 0]) ∧ Below W'.heap.size W' w')) (HFi : Hid (∀ W', Below W.heap.size W W' → Calls Try.prog 12 #[.agg #[.int .i64 h, .int .i64 w, .int .i64 c, .int .i64 lo, .int .i64 hi, .slice (some x) on oc, .int .i64 ot], .int .i64 ((i : Int) + 1), .int .i64 0] W' fun e w' => e = .returned (.tuple #[.agg #[.int .i64 k, .int .i64 a, .int .i64 b, .int .i64 m, .int .i64 kh, .int .i64 kw, .int .i64 sh, .int .i64 sw, .int .i64 tp, .int .i64 lf, .int .i64 b2, .int .i64 rt, .slice wa lw wc, .slice ba lb bc, .int .i64 sm, .int .i64 ss, .int .i64 um, .int .i64 us, .int .i64 z, .int .i64 pd, .int .i64 l2, .int .i64 h2, .int .i64 x0, .int .i64 y0, .int .i64 z0, .int .i64 H, .int .i64 V, .int .i64 C], .int .i64 0]) ∧ Below W'.heap.size W' w'))
    (hxy : 0 ≤ x0 * y0 ∧ x0 * y0 ≤ 1048576) (hxz : 0 ≤ x0 * y0 * z0 ∧ x0 * y0 * z0 ≤ 16384) (hi0 : i < on) (hon : on ≤ 1000000000000) (hPad : W.cell? ⟨(x.add (i * 22)).block, (x.add (i * 22)).off + 19, none⟩ = some (.int .i64 pd)) (hpd : -128 ≤ pd ∧ pd ≤ 127) (hsp : -128 ≤ slo ∧ slo ≤ shi ∧ shi ≤ 127)
    (hTt : ∀ k, k < L → ∃ a b, TL.getD k (0, 0) = (a, b) ∧ E.getD k (0, 0) = tmE slo shi pd (a, b) ∧ (-32768 ≤ a ∧ a ≤ 32767) ∧ (b = -1 ∨ (0 ≤ b ∧ b < x0 * y0 * z0)))
    (hEL : E.length = L) (hE : Rb E) (hbi : -2147483648 ≤ bi ∧ bi ≤ 2147483647)
    (HSr : Hid (∀ k, k ≤ L → Inn (suS (bi, bi) (E.take k)) (R1, R2))) (HSt : Hid (Inn (suS (bi, bi) E) (T1, T2))) (HSq : Hid (∀ k, k < L → Inn (E.getD k (0, 0)) (Q1, Q2)))
    (HSp : Hid (EH = 0 → 0 < dp → ∀ k, k < L → Inn (psm dp.toNat E k) (P1, P2) ∧ Inn (E.getD k (0, 0)) (P1, P2))) :
    Calls Try.prog 3 #[.agg #[.int .i64 h, .int .i64 w, .int .i64 c, .int .i64 lo, .int .i64 hi, .slice (some x) on oc, .int .i64 ot, .int .i64 ((i : Int) + 1), .int .i64 ch, .int .i64 slo, .int .i64 shi, .int .i64 dp, .int .i64 at', .slice ad n cap]] W fun e w' => e = .returned (.bool true) ∧ Below W.heap.size W w' := by
  have s0 := (St.start W).new (c := #[.int .i64 h, .int .i64 w, .int .i64 c, .int .i64 lo, .int .i64 hi, .slice (some x) on oc, .int .i64 ot, .int .i64 ((i : Int) + 1), .int .i64 ch, .int .i64 slo, .int .i64 shi, .int .i64 dp, .int .i64 at', .slice ad n cap]) (t := 31)
  have hn2 := hX.2.1
  have hn3 := hX.2.2.1
  unfold maxLen at hn3
  have HX : Hid (IRow .i8 W ad n cap xs) := hX
  have HTt : Hid (∀ k, k < L → _) := hTt
  have HTL : Hid (TL.length = L) := hTL
  have HEL : Hid (E.length = L) := hEL
  have HE : Hid (Rb E) := hE
  have HPad : Hid (W.cell? ⟨(x.add (i * 22)).block, (x.add (i * 22)).off + 19, none⟩ = some (.int .i64 pd)) := hPad
  clear hX hTt hTL hEL hE hPad
  obtain ⟨xy, hxy2⟩ : ∃ xy, x0 * y0 = xy := ⟨_, rfl⟩
  rw [hxy2] at hxy hxz HTt
  obtain ⟨pr, hpr⟩ : ∃ pr, xy * z0 = pr := ⟨_, rfl⟩
  rw [hpr] at hxz HTt
  go_enter Try.func3, Try.ntmps3
  go_wp2_with fail
  refine (fixed13_any _).mono ?_
  rintro e w1 ⟨rfl, hb⟩
  have s1 := s0.call hb
  clear hb s0
  obtain ⟨c1, f1, z1, -⟩ := s1.rules
  go_wp2_with fail
  refine Calls.mono (HO.out _ s1.below) ?_
  rintro e w2 ⟨⟨v, rfl, hOv⟩, hb⟩
  have s2 := s1.call hb
  obtain ⟨va, vc, rfl⟩ := hOv.slice
  rw [HTL.out] at hOv ⊢
  have T2' : Hid (TV w2 (.slice va L vc) TL) := hOv.tv
  clear hb s1 HO hOv c1 f1 z1
  obtain ⟨c1, f1, z1, -⟩ := s2.rules
  go_wp2_with fail
  refine Calls.mono (HT.out _ s2.below) ?_
  rintro e w3 ⟨rfl, hb⟩
  have s3 := (s2.call hb).new (c := #[.int .i64 T1, .int .i64 T2]) (t := 28)
  have T3' : Hid (TV (w3.alloc (.cells #[.int .i64 T1, .int .i64 T2] 28)) (.slice va L vc) TL) := T2'.out.below (bt hb (bal _ _))
  clear hb s2 T2' HT c1 f1 z1
  obtain ⟨c1, f1, z1, c2, f2, z2, -⟩ := s3.rules
  go_wp2_with fail
  refine Calls.mono (HR.out _ s3.below) ?_
  rintro e w4 ⟨rfl, hb⟩
  have s4 := (s3.call hb).new (c := #[.int .i64 R1, .int .i64 R2]) (t := 28)
  have T4' : Hid (TV (w4.alloc (.cells #[.int .i64 R1, .int .i64 R2] 28)) (.slice va L vc) TL) := T3'.out.below (bt hb (bal _ _))
  clear hb s3 T3' HR c1 f1 z1 c2 f2 z2
  obtain ⟨c1, f1, z1, c2, f2, z2, c3, f3, z3, -⟩ := s4.rules
  go_wp2_with fail
  refine Calls.mono (HP.out _ s4.below) ?_
  rintro e w5 ⟨rfl, hb⟩
  have s5 := (s4.call hb).new (c := #[.int .i64 P1, .int .i64 P2]) (t := 28)
  have T5' : Hid (TV (w5.alloc (.cells #[.int .i64 P1, .int .i64 P2] 28)) (.slice va L vc) TL) := T4'.out.below (bt hb (bal _ _))
  clear hb s4 T4' HP c1 f1 z1 c2 f2 z2 c3 f3 z3
  obtain ⟨c1, f1, z1, c2, f2, z2, c3, f3, z3, c4, f4, z4, -⟩ := s5.rules
  go_wp2_with fail
  refine Calls.mono (HQ.out _ s5.below) ?_
  rintro e w6 ⟨rfl, hb⟩
  have s6 := (s5.call hb).new (c := #[.int .i64 Q1, .int .i64 Q2]) (t := 28)
  have T6' : Hid (TV (w6.alloc (.cells #[.int .i64 Q1, .int .i64 Q2] 28)) (.slice va L vc) TL) := T5'.out.below (bt hb (bal _ _))
  clear hb s5 T5' HQ c1 f1 z1 c2 f2 z2 c3 f3 z3 c4 f4 z4
  obtain ⟨c1, f1, z1, c2, f2, z2, c3, f3, z3, c4, f4, z4, c5, f5, z5, -⟩ := s6.rules
  go_wp2_with fail
  refine Calls.mono (HFi.out _ s6.below) ?_
  rintro e w7 ⟨rfl, hb⟩
  have s7 := (s6.call hb).new (c := #[.int .i64 k, .int .i64 a, .int .i64 b, .int .i64 m, .int .i64 kh, .int .i64 kw, .int .i64 sh, .int .i64 sw, .int .i64 tp, .int .i64 lf, .int .i64 b2, .int .i64 rt, .slice wa lw wc, .slice ba lb bc, .int .i64 sm, .int .i64 ss, .int .i64 um, .int .i64 us, .int .i64 z, .int .i64 pd, .int .i64 l2, .int .i64 h2, .int .i64 x0, .int .i64 y0, .int .i64 z0, .int .i64 H, .int .i64 V, .int .i64 C]) (t := 49)
  have T7' : Hid (TV (w7.alloc (.cells #[.int .i64 k, .int .i64 a, .int .i64 b, .int .i64 m, .int .i64 kh, .int .i64 kw, .int .i64 sh, .int .i64 sw, .int .i64 tp, .int .i64 lf, .int .i64 b2, .int .i64 rt, .slice wa lw wc, .slice ba lb bc, .int .i64 sm, .int .i64 ss, .int .i64 um, .int .i64 us, .int .i64 z, .int .i64 pd, .int .i64 l2, .int .i64 h2, .int .i64 x0, .int .i64 y0, .int .i64 z0, .int .i64 H, .int .i64 V, .int .i64 C] 49)) (.slice va L vc) TL) := T6'.out.below (bt hb (bal _ _))
  clear hb s6 T6' HFi c1 f1 z1 c2 f2 z2 c3 f3 z3 c4 f4 z4 c5 f5 z5
  have S7 : Hid (St W _ _) := s7
  go_upto_region 13 with (refine wpList_st_new rfl 49 (.tmp 14) (.tmp 121) rfl w7 _ #[.int .i64 k, .int .i64 a, .int .i64 b, .int .i64 m, .int .i64 kh, .int .i64 kw, .int .i64 sh, .int .i64 sw, .int .i64 tp, .int .i64 lf, .int .i64 b2, .int .i64 rt, .slice wa lw wc, .slice ba lb bc, .int .i64 sm, .int .i64 ss, .int .i64 um, .int .i64 us, .int .i64 z, .int .i64 pd, .int .i64 l2, .int .i64 h2, .int .i64 x0, .int .i64 y0, .int .i64 z0, .int .i64 H, .int .i64 V, .int .i64 C] rfl rfl (by kernel_rfl) rfl (by simp [Value.oneCell']) ?_)
  obtain ⟨w8, hw8⟩ : ∃ w8, w7.alloc (.cells #[.int .i64 k, .int .i64 a, .int .i64 b, .int .i64 m, .int .i64 kh, .int .i64 kw, .int .i64 sh, .int .i64 sw, .int .i64 tp, .int .i64 lf, .int .i64 b2, .int .i64 rt, .slice wa lw wc, .slice ba lb bc, .int .i64 sm, .int .i64 ss, .int .i64 um, .int .i64 us, .int .i64 z, .int .i64 pd, .int .i64 l2, .int .i64 h2, .int .i64 x0, .int .i64 y0, .int .i64 z0, .int .i64 H, .int .i64 V, .int .i64 C] 49) = w8 := ⟨_, rfl⟩
  rw [hw8] at S7 T7' ⊢
  obtain ⟨B5, hB5⟩ : ∃ B, w7.heap.size = B := ⟨_, rfl⟩
  rw [hB5] at S7 ⊢
  clear s7 hw8 hB5
  obtain ⟨B1, hB1⟩ : ∃ B, w3.heap.size = B := ⟨_, rfl⟩
  obtain ⟨B2, hB2⟩ : ∃ B, w4.heap.size = B := ⟨_, rfl⟩
  obtain ⟨B3, hB3⟩ : ∃ B, w5.heap.size = B := ⟨_, rfl⟩
  obtain ⟨B4, hB4⟩ : ∃ B, w6.heap.size = B := ⟨_, rfl⟩
  rw [hB1, hB2, hB3, hB4] at S7
  rw [hB1, hB2, hB3, hB4]
  clear hB1 hB2 hB3 hB4
  obtain ⟨c1, f1, z1, -, -, -, -, -, -, -, -, -, -, -, -, c6, f6, z6, -⟩ := S7.out.rules
  by_cases hnp : (n : Int) = pr
  · have hnp' : ((n : Int) == pr) = true := by simp [hnp]
    go_wp2
    go_loopw [4, 16, 140] (fun su pa i wr => ∃ (k : Nat) (u q : Int), k ≤ L ∧ su = .int .i64 u ∧ pa = .int .i64 q ∧ i = .int .i64 k ∧ PIn u (suS (bi, bi) (E.take k)) ∧ (EH = 0 → 0 < dp → PIn q (psU dp.toNat E k)) ∧ Below w8.heap.size w8 wr) (fun _ _ i _ => L - (intOf i).toNat)
    case atStart => exact ⟨0, bi, 0, Nat.zero_le _, rfl, rfl, rfl, by simp [suS, PIn], fun _ _ => by unfold psU PIn; simp, Below.refl _ _⟩
    case round =>
      obtain ⟨k, u, q, hk, rfl, rfl, rfl, hu, hq, hbw⟩ := hrel
      have S : Hid (St W wr _) := S7.out.call hbw
      have Tw : Hid (TV wr (.slice va L vc) TL) := T7'.out.below hbw
      have HBw : Hid (Below w8.heap.size w8 wr) := hbw
      have HU : Hid (PIn u (suS (bi, bi) (E.take k))) := hu
      have HQ' : Hid (EH = 0 → 0 < dp → PIn q (psU dp.toNat E k)) := hq
      clear hu hq hbw c1 f1 z1 c6 f6 z6
      by_cases hlt : k < L
      · obtain ⟨a', b', eT, eE, ha, hbt⟩ := HTt.out k hlt
        obtain ⟨a9, c9, e9, -, -, h9⟩ := Tw.out
        obtain ⟨g, hg, hc⟩ := h9 (by rw [HTL.out]; omega)
        have e10 : va = some ⟨g, 0, none⟩ := by rw [(Value.slice.inj e9).1]; exact hg
        subst e10
        obtain ⟨q1, q2⟩ := TV.at hc (show k < TL.length by rw [HTL.out]; exact hlt)
        rw [eT] at q1 q2
        simp only at q1 q2
        have s9 := S.out.new (c := #[.int .i64 a', .int .i64 b']) (t := 53)
        have HB9 : Hid (Below w8.heap.size w8 (wr.alloc (.cells #[.int .i64 a', .int .i64 b'] 53))) := HBw.out.trans ((bal _ _).mono HBw.out.size)
        clear e9 h9 hg hc eT S Tw HBw
        go_upto_region 19 with fail
        obtain ⟨w9, hw9⟩ : ∃ w9, wr.alloc (.cells #[.int .i64 a', .int .i64 b'] 53) = w9 := ⟨_, rfl⟩
        obtain ⟨Be, hBe⟩ : ∃ B, wr.heap.size = B := ⟨_, rfl⟩
        rw [hw9] at s9 HB9 ⊢
        rw [hBe] at s9 ⊢
        clear hw9 hBe q1 q2
        have hp9 := wd_old (St.start w9) ((s9.below.cell (World.block_lt_of_cell? W _ HPad.out)).trans HPad.out)
        have h9 : St w9 w9 [] := St.start w9
        obtain ⟨c1, g1, c2, g2, c3, g3, c4, g4, c5, g5, c6, g6, c7, g7, -⟩ := s9.rulesM
        have S9 : Hid (St W w9 _) := s9
        have hne := Nonempty.intro (Wd.mk _ h9)
        have hio : ((i : Int) < (on : Int)) := by omega
        have hap : -4194304 ≤ a' * pd ∧ a' * pd ≤ 4194304 := by rw [Int.mul_comm]; exact prod_bd hpd ha
        clear s9
        refine region_held h9 (by kernel_rfl) (by kernel_rfl) ?_
        repeat (go_big_quiet_step (fail))
        refine wpQuiet_nil ?_
        intro _ hw'
        obtain ⟨nq, rfl⟩ := hw'
        have b10 := nq.h.below
        obtain ⟨w10, hw10⟩ : ∃ w, nq.w = w := ⟨_, rfl⟩
        rw [hw10] at b10 ⊢
        have S10 : Hid (St W w10 _) := S9.out.call b10
        have HB10 : Hid (Below w8.heap.size w8 w10) := HB9.out.trans (b10.mono HB9.out.size)
        clear c1 g1 c2 g2 c3 g3 c4 g4 c5 g5 c6 g6 c7 g7 hne h9 hp9 hw10 b10 S9 HB9 hio
        obtain ⟨c1, f1, z1, -, -, -, -, -, -, -, -, -, -, -, -, -, -, -, c7, f7, z7, -⟩ := S10.out.rules
        have hbt2 : (decide (0 ≤ b')) = !decide (b' = -1) := by
          by_cases q : b' = -1
          · simp [q]
          · simp [q]; omega
        by_cases hb1 : b' = -1
        · subst hb1
          go_upto_region 24 with fail
          obtain ⟨vv, hvv⟩ : ∃ vv, a' * pd = vv := ⟨_, rfl⟩
          have Pv : Hid (PIn vv (E.getD k (0, 0))) := by unfold Hid; rw [eE, ← hvv]; exact tmE_pad (by simp)
          rw [hvv]
          rw [hvv] at hap
          have Sw10 : Hid (St W w10 _) := S10.out
          have HBw10 : Hid (Below w8.heap.size w8 w10) := HB10.out
          clear c1 f1 z1 c7 f7 z7 S10 HB10 hvv eE hbt2 hbt
          have hkE : k < E.length := by rw [HEL.out]; exact hlt
          have Hr : Hid (∀ w, _) := xhas_t (HU.out.has (HSr.out k (by omega)))
          have Hq : Hid (∀ w, _) := xhas_t (Pv.out.has (HSq.out k hlt))
          have hub := HU.out.bd (suS_vd (HE.out.take k) (by rw [List.length_take]; omega) (by unfold Vd; simp only; omega))
          have hvb := Pv.out.bd (HE.out.vd _ (getD_in hkE))
          have HUn : Hid (PIn (u + vv) (suS (bi, bi) (E.take (k + 1)))) := by unfold Hid; rw [suS_take (bi, bi) (d := (0, 0)) hkE rfl]; exact HU.out.add Pv.out
          obtain ⟨-, -, -, -, -, -, c3, f3, z3, c4, f4, z4, c5, f5, z5, -, -, -, c7, f7, z7, -⟩ := Sw10.out.rules
          go_wp2_with fail
          refine Calls.mono (Hr.out _) ?_
          rintro e w20 ⟨rfl, hb⟩
          have Sw20 : Hid (St W w20 _) := Sw10.out.call hb
          have HBw20 : Hid (Below w8.heap.size w8 w20) := HBw10.out.trans (hb.mono HBw10.out.size)
          clear hb Sw10 HBw10 Hr c3 f3 z3 c4 f4 z4 c5 f5 z5 c7 f7 z7
          obtain ⟨-, -, -, -, -, -, c3, f3, z3, c4, f4, z4, c5, f5, z5, -, -, -, c7, f7, z7, -⟩ := Sw20.out.rules
          go_wp2_with fail
          refine Calls.mono (Hq.out _) ?_
          rintro e w21 ⟨rfl, hb⟩
          have Sw21 : Hid (St W w21 _) := Sw20.out.call hb
          have HBw21 : Hid (Below w8.heap.size w8 w21) := HBw20.out.trans (hb.mono HBw20.out.size)
          clear hb Sw20 HBw20 Hq c3 f3 z3 c4 f4 z4 c5 f5 z5 c7 f7 z7
          obtain ⟨-, -, -, -, -, -, c3, f3, z3, c4, f4, z4, c5, f5, z5, -, -, -, c7, f7, z7, -⟩ := Sw21.out.rules
          by_cases hEH : EH = 0
          · have hE1 : (EH == 0) = true := by simp [hEH]
            have HEH : Hid (EH = 0) := hEH
            clear hEH
            by_cases hdp : 0 < dp
            · have hdt : decide (0 < dp) = true := decide_eq_true hdp
              obtain ⟨i1, i2⟩ := HSp.out HEH.out hdp k hlt
              have hdm : Int.tmod (k : Int) dp = ((k % dp.toNat : Nat) : Int) := by
                obtain ⟨d, hd⟩ : ∃ d : Nat, dp = (d : Int) := ⟨dp.toNat, by omega⟩
                rw [hd, Int.toNat_natCast, Int.tmod_eq_emod_of_nonneg (by omega)]; rfl
              have hd0 : ¬ dp = 0 := by omega
              have hd1 : 0 < dp.toNat := by omega
              have Hv : Hid (∀ w, _) := xhas_t (Pv.out.has i2)
              have HQ2 : Hid (PIn q (psU dp.toNat E k)) := HQ'.out HEH.out hdp
              have hqb := HQ2.out.bd (psU_vd HE.out (by rw [HEL.out]; exact hL5) k)
              obtain ⟨r, hr⟩ : ∃ r, k % dp.toNat = r := ⟨_, rfl⟩
              have hrb : r ≤ k := by rw [← hr]; exact Nat.mod_le _ _
              rw [hr] at hdm
              by_cases hr0 : r = 0
              · have Pp : PIn (0 + vv) (psm dp.toNat E k) := by
                  rw [psm_0 hd1 hkE (by rw [hr]; exact hr0) rfl]
                  exact PIn.add (by unfold PIn; simp) Pv.out
                have Hp : Hid (∀ w, _) := xhas_t (Pp.has i1)
                have HPn : Hid (PIn (0 + vv) (psU dp.toNat E (k + 1))) := by unfold Hid; rw [psU_succ]; exact Pp
                subst hr0
                rw [Int.zero_add] at Hp HPn
                clear Pp i1 i2 hr HQ2 HU Pv HQ'
                go_wp2_with fail
                refine Calls.mono (Hp.out _) ?_
                rintro e w22 ⟨rfl, hb⟩
                have Sw22 : Hid (St W w22 _) := Sw21.out.call hb
                have HBw22 : Hid (Below w8.heap.size w8 w22) := HBw21.out.trans (hb.mono HBw21.out.size)
                clear hb Sw21 HBw21 Hp c3 f3 z3 c4 f4 z4 c5 f5 z5 c7 f7 z7
                obtain ⟨-, -, -, -, -, -, c3, f3, z3, c4, f4, z4, c5, f5, z5, -, -, -, c7, f7, z7, -⟩ := Sw22.out.rules
                go_wp2_with fail
                refine Calls.mono (Hv.out _) ?_
                rintro e w23 ⟨rfl, hb⟩
                have Sw23 : Hid (St W w23 _) := Sw22.out.call hb
                have HBw23 : Hid (Below w8.heap.size w8 w23) := HBw22.out.trans (hb.mono HBw22.out.size)
                clear hb Sw22 HBw22 Hv c3 f3 z3 c4 f4 z4 c5 f5 z5 c7 f7 z7
                obtain ⟨-, -, -, -, -, -, c3, f3, z3, c4, f4, z4, c5, f5, z5, -, -, -, c7, f7, z7, -⟩ := Sw23.out.rules
                go_wp2
                go_roundw
                case rel => exact ⟨k + 1, u + vv, vv, by omega, by go_num, by go_num, by go_num, HUn.out, fun _ _ => HPn.out, HBw23.out⟩
                case measure => simp [intOf]; omega
              · have Pp : PIn (q + vv) (psm dp.toNat E k) := by
                  rw [psm_on hd1 hkE (by rw [hr]; exact hr0) rfl]
                  exact PIn.add HQ2.out Pv.out
                have Hp : Hid (∀ w, _) := xhas_t (Pp.has i1)
                have HPn : Hid (PIn (q + vv) (psU dp.toNat E (k + 1))) := by unfold Hid; rw [psU_succ]; exact Pp
                have hr1 : ((r : Int) == 0) = false := by simp; omega
                clear Pp i1 i2 hr HQ2 HU Pv HQ'
                go_wp2_with fail
                refine Calls.mono (Hp.out _) ?_
                rintro e w22 ⟨rfl, hb⟩
                have Sw22 : Hid (St W w22 _) := Sw21.out.call hb
                have HBw22 : Hid (Below w8.heap.size w8 w22) := HBw21.out.trans (hb.mono HBw21.out.size)
                clear hb Sw21 HBw21 Hp c3 f3 z3 c4 f4 z4 c5 f5 z5 c7 f7 z7
                obtain ⟨-, -, -, -, -, -, c3, f3, z3, c4, f4, z4, c5, f5, z5, -, -, -, c7, f7, z7, -⟩ := Sw22.out.rules
                go_wp2_with fail
                refine Calls.mono (Hv.out _) ?_
                rintro e w23 ⟨rfl, hb⟩
                have Sw23 : Hid (St W w23 _) := Sw22.out.call hb
                have HBw23 : Hid (Below w8.heap.size w8 w23) := HBw22.out.trans (hb.mono HBw22.out.size)
                clear hb Sw22 HBw22 Hv c3 f3 z3 c4 f4 z4 c5 f5 z5 c7 f7 z7
                obtain ⟨-, -, -, -, -, -, c3, f3, z3, c4, f4, z4, c5, f5, z5, -, -, -, c7, f7, z7, -⟩ := Sw23.out.rules
                go_wp2
                go_roundw
                case rel => exact ⟨k + 1, u + vv, q + vv, by omega, by go_num, by go_num, by go_num, HUn.out, fun _ _ => HPn.out, HBw23.out⟩
                case measure => simp [intOf]; omega
            · have hdt : decide (0 < dp) = false := decide_eq_false hdp
              go_wp2
              go_roundw
              case rel => exact ⟨k + 1, u + vv, q, by omega, by go_num, by go_num, by go_num, HUn.out, fun _ h => by omega, HBw21.out⟩
              case measure => simp [intOf]; omega
          · have hE1 : (EH == 0) = false := by simp [hEH]
            go_wp2
            go_roundw
            case rel => exact ⟨k + 1, u + vv, q, by omega, by go_num, by go_num, by go_num, HUn.out, fun h _ => absurd h hEH, HBw21.out⟩
            case measure => simp [intOf]; omega
        · obtain ⟨bn, rfl⟩ : ∃ bn : Nat, b' = (bn : Int) := ⟨b'.toNat, by omega⟩
          have hbn : (bn : Int) < (n : Int) := by omega
          have hbd : decide (0 ≤ (bn : Int)) = true := decide_eq_true (by omega)
          have hbd2 : decide ((bn : Int) < (n : Int)) = true := decide_eq_true hbn
          obtain ⟨x1, cv, rfl, hcv, hw8', -, -⟩ := HX.out.at (show bn < n by omega)
          have hwf := wf_i8 hw8'
          have HC10 : Hid (w10.cell? (x1.add bn) = some (.int .i8 cv)) := (S10.out.below.cell (World.block_lt_of_cell? W _ hcv)).trans hcv
          clear hbt2 hb1
          go_upto_region 21 with fail
          have h10 : St w10 w10 [] := St.start w10
          clear c1 f1 z1 c7 f7 z7
          obtain ⟨c1, g1, c2, g2, c3, g3, c4, g4, c5, g5, c6, g6, c7, g7, -⟩ := S10.out.rulesM
          have hx10 := wd_old h10 HC10.out
          have hne := Nonempty.intro (Wd.mk _ h10)
          by_cases hin : slo ≤ cv ∧ cv ≤ shi
          · have Hs : Hid (∀ w, _) := xhas_t (a := slo) (b := shi) (x := cv) (decide_eq_true hin)
            refine region_held h10 (by kernel_rfl) (by kernel_rfl) ?_
            repeat (go_big_quiet_step ((go_at_call 13; exact held_of (Hs.out _))))
            refine wpQuiet_nil ?_
            intro _ hw'
            obtain ⟨nq, rfl⟩ := hw'
            have b11 := nq.h.below
            obtain ⟨w11, hw11⟩ : ∃ w, nq.w = w := ⟨_, rfl⟩
            rw [hw11] at b11 ⊢
            have S11 : Hid (St W w11 _) := S10.out.call b11
            have HB11 : Hid (Below w8.heap.size w8 w11) := HB10.out.trans (b11.mono HB10.out.size)
            have HC11 : Hid (w11.cell? (x1.add bn) = some (.int .i8 cv)) := (b11.cell (World.block_lt_of_cell? w10 _ HC10.out)).trans HC10.out
            clear c1 g1 c2 g2 c3 g3 c4 g4 c5 g5 c6 g6 c7 g7 hne h10 hx10 hw11 b11 S10 HB10 HC10 Hs
            go_upto_region 23 with fail
            have h11 : St w11 w11 [] := St.start w11
            obtain ⟨c1, g1, c2, g2, c3, g3, c4, g4, c5, g5, c6, g6, c7, g7, -⟩ := S11.out.rulesM
            have hx11 := wd_old h11 HC11.out
            have hne := Nonempty.intro (Wd.mk _ h11)
            have hac : -4194304 ≤ a' * cv ∧ a' * cv ≤ 4194304 := by rw [Int.mul_comm]; exact prod_bd (by omega) ha
            refine region_held h11 (by kernel_rfl) (by kernel_rfl) ?_
            repeat (go_big_quiet_step (fail))
            refine wpQuiet_nil ?_
            intro _ hw'
            obtain ⟨nq, rfl⟩ := hw'
            have b12 := nq.h.below
            obtain ⟨w12, hw12⟩ : ∃ w, nq.w = w := ⟨_, rfl⟩
            rw [hw12] at b12 ⊢
            have Sw12 : Hid (St W w12 _) := S11.out.call b12
            have HBw12 : Hid (Below w8.heap.size w8 w12) := HB11.out.trans (b12.mono HB11.out.size)
            obtain ⟨vv, hvv⟩ : ∃ vv, a' * cv = vv := ⟨_, rfl⟩
            have Pv : Hid (PIn vv (E.getD k (0, 0))) := by unfold Hid; rw [eE, ← hvv]; exact tmE_val (by simp) hin
            rw [hvv]
            rw [hvv] at hac
            clear c1 g1 c2 g2 c3 g3 c4 g4 c5 g5 c6 g6 c7 g7 hne h11 hx11 hw12 b12 S11 HB11 HC11 hvv eE
            have hkE : k < E.length := by rw [HEL.out]; exact hlt
            have Hr : Hid (∀ w, _) := xhas_t (HU.out.has (HSr.out k (by omega)))
            have Hq : Hid (∀ w, _) := xhas_t (Pv.out.has (HSq.out k hlt))
            have hub := HU.out.bd (suS_vd (HE.out.take k) (by rw [List.length_take]; omega) (by unfold Vd; simp only; omega))
            have hvb := Pv.out.bd (HE.out.vd _ (getD_in hkE))
            have HUn : Hid (PIn (u + vv) (suS (bi, bi) (E.take (k + 1)))) := by unfold Hid; rw [suS_take (bi, bi) (d := (0, 0)) hkE rfl]; exact HU.out.add Pv.out
            obtain ⟨-, -, -, -, -, -, c3, f3, z3, c4, f4, z4, c5, f5, z5, -, -, -, c7, f7, z7, -⟩ := Sw12.out.rules
            go_wp2_with fail
            refine Calls.mono (Hr.out _) ?_
            rintro e w20 ⟨rfl, hb⟩
            have Sw20 : Hid (St W w20 _) := Sw12.out.call hb
            have HBw20 : Hid (Below w8.heap.size w8 w20) := HBw12.out.trans (hb.mono HBw12.out.size)
            clear hb Sw12 HBw12 Hr c3 f3 z3 c4 f4 z4 c5 f5 z5 c7 f7 z7
            obtain ⟨-, -, -, -, -, -, c3, f3, z3, c4, f4, z4, c5, f5, z5, -, -, -, c7, f7, z7, -⟩ := Sw20.out.rules
            go_wp2_with fail
            refine Calls.mono (Hq.out _) ?_
            rintro e w21 ⟨rfl, hb⟩
            have Sw21 : Hid (St W w21 _) := Sw20.out.call hb
            have HBw21 : Hid (Below w8.heap.size w8 w21) := HBw20.out.trans (hb.mono HBw20.out.size)
            clear hb Sw20 HBw20 Hq c3 f3 z3 c4 f4 z4 c5 f5 z5 c7 f7 z7
            obtain ⟨-, -, -, -, -, -, c3, f3, z3, c4, f4, z4, c5, f5, z5, -, -, -, c7, f7, z7, -⟩ := Sw21.out.rules
            by_cases hEH : EH = 0
            · have hE1 : (EH == 0) = true := by simp [hEH]
              have HEH : Hid (EH = 0) := hEH
              clear hEH
              by_cases hdp : 0 < dp
              · have hdt : decide (0 < dp) = true := decide_eq_true hdp
                obtain ⟨i1, i2⟩ := HSp.out HEH.out hdp k hlt
                have hdm : Int.tmod (k : Int) dp = ((k % dp.toNat : Nat) : Int) := by
                  obtain ⟨d, hd⟩ : ∃ d : Nat, dp = (d : Int) := ⟨dp.toNat, by omega⟩
                  rw [hd, Int.toNat_natCast, Int.tmod_eq_emod_of_nonneg (by omega)]; rfl
                have hd0 : ¬ dp = 0 := by omega
                have hd1 : 0 < dp.toNat := by omega
                have Hv : Hid (∀ w, _) := xhas_t (Pv.out.has i2)
                have HQ2 : Hid (PIn q (psU dp.toNat E k)) := HQ'.out HEH.out hdp
                have hqb := HQ2.out.bd (psU_vd HE.out (by rw [HEL.out]; exact hL5) k)
                obtain ⟨r, hr⟩ : ∃ r, k % dp.toNat = r := ⟨_, rfl⟩
                have hrb : r ≤ k := by rw [← hr]; exact Nat.mod_le _ _
                rw [hr] at hdm
                by_cases hr0 : r = 0
                · have Pp : PIn (0 + vv) (psm dp.toNat E k) := by
                    rw [psm_0 hd1 hkE (by rw [hr]; exact hr0) rfl]
                    exact PIn.add (by unfold PIn; simp) Pv.out
                  have Hp : Hid (∀ w, _) := xhas_t (Pp.has i1)
                  have HPn : Hid (PIn (0 + vv) (psU dp.toNat E (k + 1))) := by unfold Hid; rw [psU_succ]; exact Pp
                  subst hr0
                  rw [Int.zero_add] at Hp HPn
                  clear Pp i1 i2 hr HQ2 HU Pv HQ'
                  go_wp2_with fail
                  refine Calls.mono (Hp.out _) ?_
                  rintro e w22 ⟨rfl, hb⟩
                  have Sw22 : Hid (St W w22 _) := Sw21.out.call hb
                  have HBw22 : Hid (Below w8.heap.size w8 w22) := HBw21.out.trans (hb.mono HBw21.out.size)
                  clear hb Sw21 HBw21 Hp c3 f3 z3 c4 f4 z4 c5 f5 z5 c7 f7 z7
                  obtain ⟨-, -, -, -, -, -, c3, f3, z3, c4, f4, z4, c5, f5, z5, -, -, -, c7, f7, z7, -⟩ := Sw22.out.rules
                  go_wp2_with fail
                  refine Calls.mono (Hv.out _) ?_
                  rintro e w23 ⟨rfl, hb⟩
                  have Sw23 : Hid (St W w23 _) := Sw22.out.call hb
                  have HBw23 : Hid (Below w8.heap.size w8 w23) := HBw22.out.trans (hb.mono HBw22.out.size)
                  clear hb Sw22 HBw22 Hv c3 f3 z3 c4 f4 z4 c5 f5 z5 c7 f7 z7
                  obtain ⟨-, -, -, -, -, -, c3, f3, z3, c4, f4, z4, c5, f5, z5, -, -, -, c7, f7, z7, -⟩ := Sw23.out.rules
                  go_wp2
                  go_roundw
                  case rel => exact ⟨k + 1, u + vv, vv, by omega, by go_num, by go_num, by go_num, HUn.out, fun _ _ => HPn.out, HBw23.out⟩
                  case measure => simp [intOf]; omega
                · have Pp : PIn (q + vv) (psm dp.toNat E k) := by
                    rw [psm_on hd1 hkE (by rw [hr]; exact hr0) rfl]
                    exact PIn.add HQ2.out Pv.out
                  have Hp : Hid (∀ w, _) := xhas_t (Pp.has i1)
                  have HPn : Hid (PIn (q + vv) (psU dp.toNat E (k + 1))) := by unfold Hid; rw [psU_succ]; exact Pp
                  have hr1 : ((r : Int) == 0) = false := by simp; omega
                  clear Pp i1 i2 hr HQ2 HU Pv HQ'
                  go_wp2_with fail
                  refine Calls.mono (Hp.out _) ?_
                  rintro e w22 ⟨rfl, hb⟩
                  have Sw22 : Hid (St W w22 _) := Sw21.out.call hb
                  have HBw22 : Hid (Below w8.heap.size w8 w22) := HBw21.out.trans (hb.mono HBw21.out.size)
                  clear hb Sw21 HBw21 Hp c3 f3 z3 c4 f4 z4 c5 f5 z5 c7 f7 z7
                  obtain ⟨-, -, -, -, -, -, c3, f3, z3, c4, f4, z4, c5, f5, z5, -, -, -, c7, f7, z7, -⟩ := Sw22.out.rules
                  go_wp2_with fail
                  refine Calls.mono (Hv.out _) ?_
                  rintro e w23 ⟨rfl, hb⟩
                  have Sw23 : Hid (St W w23 _) := Sw22.out.call hb
                  have HBw23 : Hid (Below w8.heap.size w8 w23) := HBw22.out.trans (hb.mono HBw22.out.size)
                  clear hb Sw22 HBw22 Hv c3 f3 z3 c4 f4 z4 c5 f5 z5 c7 f7 z7
                  obtain ⟨-, -, -, -, -, -, c3, f3, z3, c4, f4, z4, c5, f5, z5, -, -, -, c7, f7, z7, -⟩ := Sw23.out.rules
                  go_wp2
                  go_roundw
                  case rel => exact ⟨k + 1, u + vv, q + vv, by omega, by go_num, by go_num, by go_num, HUn.out, fun _ _ => HPn.out, HBw23.out⟩
                  case measure => simp [intOf]; omega
              · have hdt : decide (0 < dp) = false := decide_eq_false hdp
                go_wp2
                go_roundw
                case rel => exact ⟨k + 1, u + vv, q, by omega, by go_num, by go_num, by go_num, HUn.out, fun _ h => by omega, HBw21.out⟩
                case measure => simp [intOf]; omega
            · have hE1 : (EH == 0) = false := by simp [hEH]
              go_wp2
              go_roundw
              case rel => exact ⟨k + 1, u + vv, q, by omega, by go_num, by go_num, by go_num, HUn.out, fun h _ => absurd h hEH, HBw21.out⟩
              case measure => simp [intOf]; omega
          · have Hs : Hid (∀ w, _) := fun w => xhas_any slo shi cv w
            rw [show xhas slo shi cv = false from decide_eq_false hin] at Hs
            refine region_held h10 (by kernel_rfl) (by kernel_rfl) ?_
            repeat (go_big_quiet_step ((go_at_call 13; exact held_of (Hs.out _))))
            refine wpQuiet_nil ?_
            intro _ hw'
            obtain ⟨nq, rfl⟩ := hw'
            have b11 := nq.h.below
            obtain ⟨w11, hw11⟩ : ∃ w, nq.w = w := ⟨_, rfl⟩
            rw [hw11] at b11 ⊢
            have S11 : Hid (St W w11 _) := S10.out.call b11
            clear c1 g1 c2 g2 c3 g3 c4 g4 c5 g5 c6 g6 c7 g7 hne h10 hx10 hw11 b11 S10 HB10 HC10 Hs
            go_wp2
            go_ret
            exact ⟨rfl, S11.out.below⟩
      · obtain rfl : k = L := by omega
        have eL : E.take k = E := by rw [← HEL.out, List.take_length]
        have Hr : Hid (∀ w, _) := xhas_t (HU.out.has (HSr.out k (Nat.le_refl _)))
        have hq2 : PIn u (suS (bi, bi) E) := by have q := HU.out; rw [eL] at q; exact q
        have Ht : Hid (∀ w, _) := xhas_t (hq2.has HSt.out)
        clear hq2 eL
        obtain ⟨-, -, -, -, -, -, -, -, -, c4, f4, z4, c5, f5, z5, -⟩ := S.out.rules
        go_wp2_with fail
        refine Calls.mono (Hr.out _) ?_
        rintro e w20 ⟨rfl, hb⟩
        have S20 : Hid (St W w20 _) := S.out.call hb
        clear hb c4 f4 z4 c5 f5 z5
        obtain ⟨-, -, -, -, -, -, -, -, -, c4, f4, z4, c5, f5, z5, -⟩ := S20.out.rules
        go_wp2_with fail
        refine Calls.mono (Ht.out _) ?_
        rintro e w21 ⟨rfl, hb⟩
        have S21 : Hid (St W w21 _) := S20.out.call hb
        clear hb S20 c4 f4 z4 c5 f5 z5
        go_wp2
        go_ret
        exact ⟨rfl, S21.out.below⟩
  · have hnp' : ((n : Int) == pr) = false := by simp [hnp]
    go_wp2
    go_ret
    exact ⟨rfl, S7.out.below⟩
end Go.Proofs.Ytbogpgaifbjahaa
