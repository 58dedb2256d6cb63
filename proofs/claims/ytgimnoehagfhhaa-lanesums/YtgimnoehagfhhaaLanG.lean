/- The walks of LaneWords and LaneSums. -/
import Derived.Test.YtgimnoehagfhhaaLanF
import Derived.BigQuiet
namespace Go.Proofs.Ytgimnoehagfhhaa
open Go.ChangeShapes Go.WideShapes Go.ChangeAt Go.RowKit
set_option linter.unusedVariables false
theorem bne_nb (b : Bool) : (b != !b) = true := by cases b <;> rfl
theorem suL_bd {N : Int} (hN : 0 < N) : ∀ (zs : List Int) (r n : Int), (-N ≤ r ∧ r ≤ N - 1) → -N ≤ (suL N r n zs).1 ∧ (suL N r n zs).1 ≤ N - 1
  | [], _, _, h => h
  | z :: zs, r, n, _ => suL_bd hN zs _ _ (wrapN_bd hN _)
set_option maxHeartbeats 2000000 in
theorem laneWords_walk (a b c d : Int) (w : World) (w0 : (Lit.int .i16 a).wf = true) (w1 : (Lit.int .i16 b).wf = true) (w2 : (Lit.int .i32 c).wf = true) (w3 : (Lit.int .i32 d).wf = true) :
    Calls Try.prog 3 #[.agg #[.int .i16 a, .int .i16 b, .int .i32 c, .int .i32 d]] w fun e w' => e = .returned (.bool true) ∧ Below w.heap.size w w' := by
  have ha := wf_i16 w0
  have hb := wf_i16 w1
  have hc := wf_i32 w2
  have hd := wf_i32 w3
  clear w0 w1 w2 w3
  have H1 : Hid (∀ w, _) := fun w => ladd_i16 a b w ha hb
  have H2 : Hid (∀ w, _) := fun w => lmul_i16 a b w ha hb
  have H3 : Hid (∀ w, _) := fun w => ladd_i32 c d w hc hd
  have H4 : Hid (∀ w, _) := fun w => lmul_i32 c d w hc hd
  have H5 : Hid (∀ w, _) := fun w => refadd_16 a b w (by omega) (by omega)
  have H6 : Hid (∀ w, _) := fun w => refmul_16 a b w (by omega) (by omega)
  have H7 : Hid (∀ w, _) := fun w => refadd_32 c d w hc hd
  have H8 : Hid (∀ w, _) := fun w => refmul_32 c d w hc hd
  have b1 := wrapN_bd (N := 32768) (by omega) (a + b)
  have b2 := wrapN_bd (N := 32768) (by omega) (a * b)
  have b3 := wrapN_bd (N := 2147483648) (by omega) (c + d)
  have b4 := wrapN_bd (N := 2147483648) (by omega) (c * d)
  generalize wrapN 32768 (a + b) = v1 at *
  generalize wrapN 32768 (a * b) = v2 at *
  generalize wrapN 2147483648 (c + d) = v3 at *
  generalize wrapN 2147483648 (c * d) = v4 at *
  generalize fitsN 32768 (a + b) = f1 at *
  generalize fitsN 32768 (a * b) = f2 at *
  generalize fitsN 2147483648 (c + d) = f3 at *
  generalize fitsN 2147483648 (c * d) = f4 at *
  have q1 := bne_nb f1
  have q2 := bne_nb f2
  have q3 := bne_nb f3
  have q4 := bne_nb f4
  have s0 := (St.start w).new (c := #[.int .i16 a, .int .i16 b, .int .i32 c, .int .i32 d]) (t := 24)
  have HB : Hid (∀ k, Below w.heap.size w (World.drewN _ k)) := fun k => (s0.call (dbel _ k)).below
  obtain ⟨r1, r2, r3, -⟩ := s0.rules
  clear s0
  go_enter Try.func3, Try.ntmps3
  go_upto_region 1 with fail
  go_quiet (fail)
  go_wp2_with fail
  refine (H1.out _).mono ?_
  rintro e w' ⟨rfl, rfl⟩
  go_wp2_with fail
  refine (H2.out _).mono ?_
  rintro e w' ⟨rfl, rfl⟩
  go_wp2_with fail
  refine (H3.out _).mono ?_
  rintro e w' ⟨rfl, rfl⟩
  go_wp2_with fail
  refine (H4.out _).mono ?_
  rintro e w' ⟨rfl, rfl⟩
  go_wp2_with fail
  refine (H5.out _).mono ?_
  rintro e w' ⟨rfl, rfl⟩
  go_wp2_with fail
  refine (H6.out _).mono ?_
  rintro e w' ⟨rfl, rfl⟩
  go_wp2_with fail
  refine (H7.out _).mono ?_
  rintro e w' ⟨rfl, rfl⟩
  go_wp2_with fail
  refine (H8.out _).mono ?_
  rintro e w' ⟨rfl, rfl⟩
  clear H1 H2 H3 H4 H5 H6 H7 H8
  go_wp2_with fail
  refine (fixed_any _).mono ?_
  rintro e w9 ⟨rfl, h9⟩
  have HC : Hid (Below w.heap.size w w9) := bt (HB.out _) h9
  clear h9 HB
  go_wp2
  go_ret
  exact ⟨rfl, HC.out⟩
set_option maxHeartbeats 4000000 in
theorem laneSums_walk (a0 : Option Addr) (len0 cap0 : Nat) (z0 : List Int) (a1 : Option Addr) (len1 cap1 : Nat) (z1 : List Int) (w : World) (w0 : IRow .i16 w a0 len0 cap0 z0) (_r0 : len0 * 2 ≤ 140737488351232) (w1 : IRow .i32 w a1 len1 cap1 z1) (_r1 : len1 * 4 ≤ 140737488351232) :
    Calls Try.prog 4 #[.slice a0 len0 cap0, .slice a1 len1 cap1] w fun e w' => e = .returned (.bool true) ∧ Below w.heap.size w w' := by
  have HL0 : Hid (z0.length = len0) := w0.1
  have HL1 : Hid (z1.length = len1) := w1.1
  have hc0 := w0.2.1
  have hm0 := w0.2.2.1
  have hc1 := w1.2.1
  have hm1 := w1.2.2.1
  unfold maxLen at hm0 hm1
  have H1 : Hid (Unit → _) := fun _ => lsum_i16 a0 len0 cap0 z0 w w0
  have H2 : Hid (Unit → _) := fun _ => lsum_i32 a1 len1 cap1 z1 w w1
  obtain ⟨F, hF⟩ : ∃ F, suL 32768 0 0 z0 = F := ⟨_, rfl⟩
  obtain ⟨G, hG⟩ : ∃ G, suL 2147483648 0 0 z1 = G := ⟨_, rfl⟩
  rw [hF] at H1
  rw [hG] at H2
  have HF : Hid (suL 32768 0 0 z0 = F) := hF
  have HG : Hid (suL 2147483648 0 0 z1 = G) := hG
  have hFb : (-32768 ≤ F.1 ∧ F.1 ≤ 32767) := by have := suL_bd (N := 32768) (by omega) z0 0 0 (by omega); rw [hF] at this; omega
  have hGb : (-2147483648 ≤ G.1 ∧ G.1 ≤ 2147483647) := by have := suL_bd (N := 2147483648) (by omega) z1 0 0 (by omega); rw [hG] at this; omega
  clear hF hG
  obtain ⟨F1, F2⟩ := F
  obtain ⟨G1, G2⟩ := G
  simp only at hFb hGb H1 H2
  go_enter Try.func4, Try.ntmps4
  go_wp2_with fail
  refine (H1.out ()).mono ?_
  rintro e w' ⟨rfl, rfl⟩
  go_wp2_with fail
  refine (H2.out ()).mono ?_
  rintro e w' ⟨rfl, rfl⟩
  clear H1 H2
  go_wp2_with fail
  go_loopw [9, 11, 31] (fun v n i wr => ∃ (k : Nat) (r m : Int), k ≤ len0 ∧ i = .int .i64 k ∧ v = .int .i64 r ∧ n = .int .i64 m ∧ (-32768 ≤ r ∧ r ≤ 32767) ∧ (0 ≤ m ∧ m ≤ k) ∧ wr = w' ∧ suL 32768 r m (z0.drop k) = (F1, F2)) (fun _ _ i _ => len0 - (intOf i).toNat)
  case atStart => exact ⟨0, 0, 0, Nat.zero_le _, rfl, rfl, rfl, by omega, by omega, rfl, HF.out⟩
  case round =>
    obtain ⟨k, r, m, hk, rfl, rfl, rfl, hrb, hmb, rfl, hs⟩ := hrel
    by_cases hlt : k < len0
    · obtain ⟨x, d, rfl, hc, hwf, -, hdr⟩ := w0.at hlt
      have hdb := wf_i16 hwf
      have HS : Hid (suL 32768 (wrapN 32768 (r + d)) (m + bw 32768 (r + d)) (z0.drop (k + 1)) = (F1, F2)) := by rw [hdr] at hs; exact hs
      have hwb := wrapN_bd (N := 32768) (by omega) (r + d)
      clear hwf hdr hs
      have HR : Hid (∀ w, _) := fun w => refadd_16 r d w (by omega) (by omega)
      unfold bw bb at HS
      generalize wrapN 32768 (r + d) = v at *
      generalize fitsN 32768 (r + d) = f at *
      go_wp2_with fail
      refine (HR.out _).mono ?_
      rintro e w' ⟨rfl, rfl⟩
      clear HR
      cases f
      · go_wp2_with fail
        go_roundw
        case rel => exact ⟨k + 1, _, _, by omega, by go_num, rfl, rfl, by omega, by omega, trivial, HS.out⟩
        case measure => simp [intOf]; omega
      · go_wp2_with fail
        go_roundw
        case rel => exact ⟨k + 1, _, m, by omega, by go_num, rfl, rfl, by omega, by omega, trivial, by have := HS.out; simpa using this⟩
        case measure => simp [intOf]; omega
    · have hT : z0.drop k = [] := List.drop_of_length_le (by have := HL0.out; omega)
      rw [hT] at hs
      simp only [suL, Prod.mk.injEq] at hs
      obtain ⟨rfl, rfl⟩ := hs
      clear hT
      obtain ⟨wo, hwo⟩ : ∃ wo, wo = wr := ⟨_, rfl⟩
      subst hwo
      go_wp2_with fail
      go_loopw [10, 12, 51] (fun v n i wr => ∃ (k : Nat) (r m : Int), k ≤ len1 ∧ i = .int .i64 k ∧ v = .int .i64 r ∧ n = .int .i64 m ∧ (-2147483648 ≤ r ∧ r ≤ 2147483647) ∧ (0 ≤ m ∧ m ≤ k) ∧ wr = wo ∧ suL 2147483648 r m (z1.drop k) = (G1, G2)) (fun _ _ i _ => len1 - (intOf i).toNat)
      case atStart => exact ⟨0, 0, 0, Nat.zero_le _, rfl, rfl, rfl, by omega, by omega, rfl, HG.out⟩
      case round =>
        obtain ⟨j, r, m, hj, rfl, rfl, rfl, hrb, hmb, rfl, hs⟩ := hrel
        by_cases hlt2 : j < len1
        · obtain ⟨x, d, rfl, hc, hwf, -, hdr⟩ := w1.at hlt2
          have hdb := wf_i32 hwf
          have HS : Hid (suL 2147483648 (wrapN 2147483648 (r + d)) (m + bw 2147483648 (r + d)) (z1.drop (j + 1)) = (G1, G2)) := by rw [hdr] at hs; exact hs
          have hwb := wrapN_bd (N := 2147483648) (by omega) (r + d)
          clear hwf hdr hs
          have HR : Hid (∀ w, _) := fun w => refadd_32 r d w hrb hdb
          unfold bw bb at HS
          generalize wrapN 2147483648 (r + d) = v at *
          generalize fitsN 2147483648 (r + d) = f at *
          go_wp2_with fail
          refine (HR.out _).mono ?_
          rintro e w' ⟨rfl, rfl⟩
          clear HR
          cases f
          · go_wp2_with fail
            go_roundw
            case rel => exact ⟨j + 1, _, _, by omega, by go_num, rfl, rfl, by omega, by omega, trivial, HS.out⟩
            case measure => simp [intOf]; omega
          · go_wp2_with fail
            go_roundw
            case rel => exact ⟨j + 1, _, m, by omega, by go_num, rfl, rfl, by omega, by omega, trivial, by have := HS.out; simpa using this⟩
            case measure => simp [intOf]; omega
        · have hT : z1.drop j = [] := List.drop_of_length_le (by have := HL1.out; omega)
          rw [hT] at hs
          simp only [suL, Prod.mk.injEq] at hs
          obtain ⟨rfl, rfl⟩ := hs
          clear hT
          go_wp2_with fail
          refine (fixed_any _).mono ?_
          rintro e w9 ⟨rfl, h9⟩
          have HC : Hid (Below _ _ w9) := h9
          clear h9
          go_wp2
          go_ret
          exact ⟨rfl, HC.out⟩
end Go.Proofs.Ytgimnoehagfhhaa
