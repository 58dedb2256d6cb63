/- DepthNests. DepthHolds. -/
import Derived.Test.YtgiohlcipndakaaGr28
import Derived.Test.YtgiohlcipndakaaGr30
/- DepthNests. -/
namespace Go.Proofs.Ytgiohlcipndakaa
open Go.ChangeShapes Go.WideShapes Go.ChangeAt Go.RowKit
set_option linter.unusedVariables false
/-- What Choose answers. -/
theorem dcho_any (h w c lo hi ot : Int) (oa : Option Addr) (on oc : Nat) (O : Nat → Nat → Int) (Z B : Nat → List Int) (W : World) (hL : LRow W oa on oc O Z B) (ch : Int) (RL : List (Int × Int × Int)) (Rw : Int) (hR : gtR O h w c lo hi ot on = (0, 0, RL, Rw)) (i : Nat) (x : Addr) (wa : Option Addr) (lw cw : Nat) (ba : Option Addr) (lb cb : Nat) (x0 y0 z0 H V C : Int) (hF : Fnd W oa on O Z B RL i x wa lw cw ba lb cb x0 y0 z0 H V C) (hch : 1 ≤ ch ∧ ch ≤ C) (slo shi : Int) (N : Nat) (hN : (siL (O i 0) (O i 4) (O i 5) (O i 6) (O i 7) (O i 8) (O i 9) (O i 10) (O i 11) x0 y0 z0 ch 0 (Z i)).length = N) :
    ((vbB slo shi = true ∧ w32 (hbR (biA (O i 0) ch (B i)) (fun (j : Nat) => enL slo shi (O i 19) (siL (O i 0) (O i 4) (O i 5) (O i 6) (O i 7) (O i 8) (O i 9) (O i 10) (O i 11) x0 y0 z0 ch (j : Int) (Z i))) (H * V).toNat) = true) ∧ ∀ W', Below W.heap.size W W' → Calls Try.prog 13 #[.agg #[.int .i64 h, .int .i64 w, .int .i64 c, .int .i64 lo, .int .i64 hi, .slice oa on oc, .int .i64 ot], .int .i64 ((i : Int) + 1), .int .i64 ch, .agg #[.int .i64 slo, .int .i64 shi]] W' fun e w' => e = .returned (.tuple #[.agg (chC (grN (sfD (fun (j : Nat) => enL slo shi (O i 19) (siL (O i 0) (O i 4) (O i 5) (O i 6) (O i 7) (O i 8) (O i 9) (O i 10) (O i 11) x0 y0 z0 ch (j : Int) (Z i))) (H * V).toNat) N) N (hbR (biA (O i 0) ch (B i)) (fun (j : Nat) => enL slo shi (O i 19) (siL (O i 0) (O i 4) (O i 5) (O i 6) (O i 7) (O i 8) (O i 9) (O i 10) (O i 11) x0 y0 z0 ch (j : Int) (Z i))) (H * V).toNat) (hbD (grN (sfD (fun (j : Nat) => enL slo shi (O i 19) (siL (O i 0) (O i 4) (O i 5) (O i 6) (O i 7) (O i 8) (O i 9) (O i 10) (O i 11) x0 y0 z0 ch (j : Int) (Z i))) (H * V).toNat) N) (fun (j : Nat) => enL slo shi (O i 19) (siL (O i 0) (O i 4) (O i 5) (O i 6) (O i 7) (O i 8) (O i 9) (O i 10) (O i 11) x0 y0 z0 ch (j : Int) (Z i))) (H * V).toNat) (hbT (biA (O i 0) ch (B i)) (fun (j : Nat) => enL slo shi (O i 19) (siL (O i 0) (O i 4) (O i 5) (O i 6) (O i 7) (O i 8) (O i 9) (O i 10) (O i 11) x0 y0 z0 ch (j : Int) (Z i))) (H * V).toNat)), .int .i64 0]) ∧ Below W'.heap.size W' w') ∨
    (¬ (vbB slo shi = true ∧ w32 (hbR (biA (O i 0) ch (B i)) (fun (j : Nat) => enL slo shi (O i 19) (siL (O i 0) (O i 4) (O i 5) (O i 6) (O i 7) (O i 8) (O i 9) (O i 10) (O i 11) x0 y0 z0 ch (j : Int) (Z i))) (H * V).toNat) = true) ∧ ∃ E : Int, E ≠ 0 ∧ ∀ W', Below W.heap.size W W' → Calls Try.prog 13 #[.agg #[.int .i64 h, .int .i64 w, .int .i64 c, .int .i64 lo, .int .i64 hi, .slice oa on oc, .int .i64 ot], .int .i64 ((i : Int) + 1), .int .i64 ch, .agg #[.int .i64 slo, .int .i64 shi]] W' fun e w' => e = .returned (.tuple #[.agg #[.int .i64 0, .int .i64 0, .int .i64 0, .int .i64 0, .int .i64 0, .int .i64 0], .int .i64 E]) ∧ Below W'.heap.size W' w') := by
  cases hs : vbB slo shi with
  | false => exact .inr ⟨(fun q => by cases q.1), 30, by decide, fun W' hb => dcho_30 h w c lo hi ot oa on oc O Z B W' (hL.below hb) ch RL Rw hR i x wa lw cw ba lb cb x0 y0 z0 H V C (hF.below hb) hch slo shi hs⟩
  | true =>
    cases hw : w32 (hbR (biA (O i 0) ch (B i)) (fun (j : Nat) => enL slo shi (O i 19) (siL (O i 0) (O i 4) (O i 5) (O i 6) (O i 7) (O i 8) (O i 9) (O i 10) (O i 11) x0 y0 z0 ch (j : Int) (Z i))) (H * V).toNat) with
    | false => exact .inr ⟨(fun q => by cases q.2), 154, by decide, fun W' hb => dcho_154 h w c lo hi ot oa on oc O Z B W' (hL.below hb) ch RL Rw hR i x wa lw cw ba lb cb x0 y0 z0 H V C (hF.below hb) hch slo shi hs hw⟩
    | true => exact .inl ⟨⟨rfl, rfl⟩, fun W' hb => dcho_ok h w c lo hi ot oa on oc O Z B W' (hL.below hb) ch RL Rw hR i x wa lw cw ba lb cb x0 y0 z0 H V C (hF.below hb) hch slo shi N hN hs hw⟩
theorem chC_n {K N : Nat} (h : K = 0) (R P T : Int × Int) : chC K N R P T = #[.int .i64 32, .int .i64 (N : Int), .int .i64 R.1, .int .i64 R.2, .int .i64 T.1, .int .i64 T.2] := if_neg (by omega)
theorem chC_y {K N : Nat} (h : 0 < K) (R P T : Int × Int) : chC K N R P T = #[.int .i64 16, .int .i64 (K : Int), .int .i64 P.1, .int .i64 P.2, .int .i64 T.1, .int .i64 T.2] := if_pos h
/-- A plan's cells, by its letters. -/
theorem chC_of (K N : Nat) (R P T : Int × Int) : ∃ a0 a1 a2 a3 : Int, chC K N R P T = #[.int .i64 a0, .int .i64 a1, .int .i64 a2, .int .i64 a3, .int .i64 T.1, .int .i64 T.2] ∧ ((0 < K ∧ a0 = 16 ∧ a1 = (K : Int) ∧ a2 = P.1 ∧ a3 = P.2) ∨ (K = 0 ∧ a0 = 32 ∧ a1 = (N : Int) ∧ a2 = R.1 ∧ a3 = R.2)) := by
  by_cases h : 0 < K
  · exact ⟨_, _, _, _, chC_y h R P T, .inl ⟨h, rfl, rfl, rfl, rfl⟩⟩
  · exact ⟨_, _, _, _, chC_n (by omega) R P T, .inr ⟨by omega, rfl, rfl, rfl, rfl⟩⟩
theorem depthNests_walk (h w c lo hi : Int) (oa : Option Addr) (on oc : Nat) (ot op ch slo shi ylo yhi dp wd pd p1 p2 t1 t2 : Int) (W : World) (_ : (Lit.int .i64 h).wf = true) (_ : (Lit.int .i64 w).wf = true) (_ : (Lit.int .i64 c).wf = true) (_ : (Lit.int .i64 lo).wf = true) (_ : (Lit.int .i64 hi).wf = true) (wo : ORow 22 (OpIn W) W oa on oc) (hr : on * 208 ≤ 140737488351232) (_ : (Lit.int .i64 ot).wf = true) (_ : (Lit.int .i64 op).wf = true) (_ : (Lit.int .i64 ch).wf = true) (_ : (Lit.int .i64 slo).wf = true) (_ : (Lit.int .i64 shi).wf = true) (_ : (Lit.int .i64 ylo).wf = true) (_ : (Lit.int .i64 yhi).wf = true) (_ : (Lit.int .i64 dp).wf = true) (_ : (Lit.int .i64 wd).wf = true) (_ : (Lit.int .i64 pd).wf = true) (_ : (Lit.int .i64 p1).wf = true) (_ : (Lit.int .i64 p2).wf = true) (_ : (Lit.int .i64 t1).wf = true) (_ : (Lit.int .i64 t2).wf = true) : Calls Try.prog 5 #[.agg #[.int .i64 h, .int .i64 w, .int .i64 c, .int .i64 lo, .int .i64 hi, .slice oa on oc, .int .i64 ot, .int .i64 op, .int .i64 ch, .int .i64 slo, .int .i64 shi, .int .i64 ylo, .int .i64 yhi, .int .i64 dp, .int .i64 wd, .int .i64 pd, .int .i64 p1, .int .i64 p2, .int .i64 t1, .int .i64 t2]] W fun e w' => e = .returned (.bool true) ∧ Below W.heap.size W w' := by
  obtain ⟨O, Z, B, hL⟩ := lrow_of wo
  have hX : ∀ W', _ := fun W' => fixed18_any W'
  rcases bask h w c lo hi ot oa on oc O Z B W hL op ch with ⟨E, hE, h1⟩ | ⟨RL, Rw, hR, i, x, wa, lw, cw, ba, lb, cb, x0, y0, z0, H, V, C, rfl, hF, hch⟩
  · exact nests_e h w c lo hi oa on oc ot op ch slo shi ylo yhi dp wd pd p1 p2 t1 t2 W E 0 E hE hX (fun W' hb => dmos_bad h w c lo hi ot op ch oa on oc W' slo shi E hE (fun W2 hb2 => h1 W2 (hb.trans (hb2.mono hb.size)))) (fun W' hb => dmos_bad h w c lo hi ot op ch oa on oc W' ylo yhi E hE (fun W2 hb2 => h1 W2 (hb.trans (hb2.mono hb.size))))
  obtain ⟨N', hN'⟩ : ∃ N, (siL (O i 0) (O i 4) (O i 5) (O i 6) (O i 7) (O i 8) (O i 9) (O i 10) (O i 11) x0 y0 z0 ch 0 (Z i)).length = N := ⟨_, rfl⟩
  have hMY : ∀ W', Below W.heap.size W W' → _ := fun W' hb => dmos_ok h w c lo hi ot oa on oc O Z B W' (hL.below hb) ch RL Rw hR i x wa lw cw ba lb cb x0 y0 z0 H V C (hF.below hb) hch ylo yhi N' hN'
  have hMS : ∀ W', Below W.heap.size W W' → _ := fun W' hb => dmos_ok h w c lo hi ot oa on oc O Z B W' (hL.below hb) ch RL Rw hR i x wa lw cw ba lb cb x0 y0 z0 H V C (hF.below hb) hch slo shi N' hN'
  cases hs : vbB slo shi with
  | false =>
    rw [moR_f hs] at hMS
    exact nests_e h w c lo hi oa on oc ot ((i : Int) + 1) ch slo shi ylo yhi dp wd pd p1 p2 t1 t2 W 30 _ _ (by decide) hX hMS hMY
  | true =>
    rw [moR_t hs] at hMS
    cases hy : vbB ylo yhi with
    | false =>
      rw [moR_f hy] at hMY
      exact nests_f h w c lo hi oa on oc ot ((i : Int) + 1) ch slo shi ylo yhi dp wd pd p1 p2 t1 t2 W _ _ 30 (by decide) hX hMS hMY
    | true =>
      rw [moR_t hy] at hMY
      cases hh : xho slo shi ylo yhi with
      | false => exact nests_h h w c lo hi oa on oc ot ((i : Int) + 1) ch slo shi ylo yhi dp wd pd p1 p2 t1 t2 W _ _ hX hMS hMY hh
      | true =>
        have hhd := of_decide_eq_true hh
        obtain ⟨hopd, hk4, -, -, hbf2, hbi, -⟩ := bfacts hL RL Rw hR i x wa lw cw ba lb cb x0 y0 z0 H V C hF hch
        have hz := hF.2.2.2.2.2.1.2.2.2.1
        have hv := vbB_yes hs
        have hu := vbB_yes hy
        have hbf := hopd.si hk4
        obtain ⟨⟨v1, v2⟩, v3, v4⟩ := hb_vd (slo := ylo) (shi := yhi) hbf hz hch hu hbf2 hbi
        have hwd := fun (d : Nat) (hd : 0 < d) => hb_wide (slo := ylo) (shi := yhi) hbf hz hch hu hbf2 hbi hv hhd.2.1 hhd.2.2 d hd
        have hmw := most_wide (slo := ylo) (shi := yhi) hbf hz hch hu hbf2 hbi hv hhd.2.1 hhd.2.2 N'
        obtain ⟨i1, i2, -, -⟩ := hwd 1 (by omega)
        have hA : ∀ W', Below W.heap.size W W' → _ := fun W' hb => dsaf_ok h w c lo hi ot oa on oc O Z B W' (hL.below hb) ch RL Rw hR i x wa lw cw ba lb cb x0 y0 z0 H V C (hF.below hb) hch slo shi dp N' hN'
        have hB : ∀ W', Below W.heap.size W W' → _ := fun W' hb => dsaf_ok h w c lo hi ot oa on oc O Z B W' (hL.below hb) ch RL Rw hR i x wa lw cw ba lb cb x0 y0 z0 H V C (hF.below hb) hch ylo yhi dp N' hN'
        have key : ∃ (a b : Bool) (g : Int), saR slo shi dp N' (hbD dp.toNat (fun (j : Nat) => enL slo shi (O i 19) (siL (O i 0) (O i 4) (O i 5) (O i 6) (O i 7) (O i 8) (O i 9) (O i 10) (O i 11) x0 y0 z0 ch (j : Int) (Z i))) (H * V).toNat) = (a, g) ∧ saR ylo yhi dp N' (hbD dp.toNat (fun (j : Nat) => enL ylo yhi (O i 19) (siL (O i 0) (O i 4) (O i 5) (O i 6) (O i 7) (O i 8) (O i 9) (O i 10) (O i 11) x0 y0 z0 ch (j : Int) (Z i))) (H * V).toNat) = (b, g) ∧ (a = true → b = true) := by
          by_cases hd : 1 ≤ dp ∧ dp ≤ (N' : Int)
          · exact ⟨_, _, 0, saR_t hs hd _, saR_t hy hd _, fun q => w16_in (hwd dp.toNat (by omega)).2.2.2 q⟩
          · exact ⟨_, _, 151, saR_d hs hd _, saR_d hy hd _, fun q => q⟩
        obtain ⟨a, b, g, ka, kb, kab⟩ := key
        rw [ka] at hA
        rw [kb] at hB
        rcases dcho_any h w c lo hi ot oa on oc O Z B W hL ch RL Rw hR i x wa lw cw ba lb cb x0 y0 z0 H V C hF hch slo shi N' hN' with ⟨⟨-, q1⟩, hC⟩ | ⟨q1, E2, hE2, hC⟩
        · rcases dcho_any h w c lo hi ot oa on oc O Z B W hL ch RL Rw hR i x wa lw cw ba lb cb x0 y0 z0 H V C hF hch ylo yhi N' hN' with ⟨⟨-, q2⟩, hD⟩ | ⟨q2, -⟩
          · obtain ⟨a0, a1, a2, a3, ea, fa⟩ := chC_of (grN (sfD (fun (j : Nat) => enL slo shi (O i 19) (siL (O i 0) (O i 4) (O i 5) (O i 6) (O i 7) (O i 8) (O i 9) (O i 10) (O i 11) x0 y0 z0 ch (j : Int) (Z i))) (H * V).toNat) N') N' (hbR (biA (O i 0) ch (B i)) (fun (j : Nat) => enL slo shi (O i 19) (siL (O i 0) (O i 4) (O i 5) (O i 6) (O i 7) (O i 8) (O i 9) (O i 10) (O i 11) x0 y0 z0 ch (j : Int) (Z i))) (H * V).toNat) (hbD (grN (sfD (fun (j : Nat) => enL slo shi (O i 19) (siL (O i 0) (O i 4) (O i 5) (O i 6) (O i 7) (O i 8) (O i 9) (O i 10) (O i 11) x0 y0 z0 ch (j : Int) (Z i))) (H * V).toNat) N') (fun (j : Nat) => enL slo shi (O i 19) (siL (O i 0) (O i 4) (O i 5) (O i 6) (O i 7) (O i 8) (O i 9) (O i 10) (O i 11) x0 y0 z0 ch (j : Int) (Z i))) (H * V).toNat) (hbT (biA (O i 0) ch (B i)) (fun (j : Nat) => enL slo shi (O i 19) (siL (O i 0) (O i 4) (O i 5) (O i 6) (O i 7) (O i 8) (O i 9) (O i 10) (O i 11) x0 y0 z0 ch (j : Int) (Z i))) (H * V).toNat)
            obtain ⟨b0, b1, b2, b3, eb, fb⟩ := chC_of (grN (sfD (fun (j : Nat) => enL ylo yhi (O i 19) (siL (O i 0) (O i 4) (O i 5) (O i 6) (O i 7) (O i 8) (O i 9) (O i 10) (O i 11) x0 y0 z0 ch (j : Int) (Z i))) (H * V).toNat) N') N' (hbR (biA (O i 0) ch (B i)) (fun (j : Nat) => enL ylo yhi (O i 19) (siL (O i 0) (O i 4) (O i 5) (O i 6) (O i 7) (O i 8) (O i 9) (O i 10) (O i 11) x0 y0 z0 ch (j : Int) (Z i))) (H * V).toNat) (hbD (grN (sfD (fun (j : Nat) => enL ylo yhi (O i 19) (siL (O i 0) (O i 4) (O i 5) (O i 6) (O i 7) (O i 8) (O i 9) (O i 10) (O i 11) x0 y0 z0 ch (j : Int) (Z i))) (H * V).toNat) N') (fun (j : Nat) => enL ylo yhi (O i 19) (siL (O i 0) (O i 4) (O i 5) (O i 6) (O i 7) (O i 8) (O i 9) (O i 10) (O i 11) x0 y0 z0 ch (j : Int) (Z i))) (H * V).toNat) (hbT (biA (O i 0) ch (B i)) (fun (j : Nat) => enL ylo yhi (O i 19) (siL (O i 0) (O i 4) (O i 5) (O i 6) (O i 7) (O i 8) (O i 9) (O i 10) (O i 11) x0 y0 z0 ch (j : Int) (Z i))) (H * V).toNat)
            rw [ea] at hC
            rw [eb] at hD
            exact nests_2 h w c lo hi oa on oc ot ((i : Int) + 1) ch slo shi ylo yhi dp wd pd p1 p2 t1 t2 W _ _ g a b a0 a1 a2 a3 _ _ b0 b1 b2 b3 _ _ hX hMS hMY hA hB hC hD hh (Int.ofNat_le.2 hmw) kab (by omega) (xho_of i1 v1.2.1)
          · exact absurd ⟨hy, w32_in i2 q1⟩ q2
        · obtain ⟨b0, b1, b2, b3, b4, b5, F2, hD⟩ : ∃ b0 b1 b2 b3 b4 b5 F2 : Int, ∀ W', Below W.heap.size W W' → Calls Try.prog 13 #[.agg #[.int .i64 h, .int .i64 w, .int .i64 c, .int .i64 lo, .int .i64 hi, .slice oa on oc, .int .i64 ot], .int .i64 ((i : Int) + 1), .int .i64 ch, .agg #[.int .i64 ylo, .int .i64 yhi]] W' fun e w' => e = .returned (.tuple #[.agg #[.int .i64 b0, .int .i64 b1, .int .i64 b2, .int .i64 b3, .int .i64 b4, .int .i64 b5], .int .i64 F2]) ∧ Below W'.heap.size W' w' := by
            rcases dcho_any h w c lo hi ot oa on oc O Z B W hL ch RL Rw hR i x wa lw cw ba lb cb x0 y0 z0 H V C hF hch ylo yhi N' hN' with ⟨-, hD⟩ | ⟨-, F2, -, hD⟩
            · obtain ⟨b0, b1, b2, b3, eb, -⟩ := chC_of (grN (sfD (fun (j : Nat) => enL ylo yhi (O i 19) (siL (O i 0) (O i 4) (O i 5) (O i 6) (O i 7) (O i 8) (O i 9) (O i 10) (O i 11) x0 y0 z0 ch (j : Int) (Z i))) (H * V).toNat) N') N' (hbR (biA (O i 0) ch (B i)) (fun (j : Nat) => enL ylo yhi (O i 19) (siL (O i 0) (O i 4) (O i 5) (O i 6) (O i 7) (O i 8) (O i 9) (O i 10) (O i 11) x0 y0 z0 ch (j : Int) (Z i))) (H * V).toNat) (hbD (grN (sfD (fun (j : Nat) => enL ylo yhi (O i 19) (siL (O i 0) (O i 4) (O i 5) (O i 6) (O i 7) (O i 8) (O i 9) (O i 10) (O i 11) x0 y0 z0 ch (j : Int) (Z i))) (H * V).toNat) N') (fun (j : Nat) => enL ylo yhi (O i 19) (siL (O i 0) (O i 4) (O i 5) (O i 6) (O i 7) (O i 8) (O i 9) (O i 10) (O i 11) x0 y0 z0 ch (j : Int) (Z i))) (H * V).toNat) (hbT (biA (O i 0) ch (B i)) (fun (j : Nat) => enL ylo yhi (O i 19) (siL (O i 0) (O i 4) (O i 5) (O i 6) (O i 7) (O i 8) (O i 9) (O i 10) (O i 11) x0 y0 z0 ch (j : Int) (Z i))) (H * V).toNat)
              rw [eb] at hD
              exact ⟨_, _, _, _, _, _, _, hD⟩
            · exact ⟨_, _, _, _, _, _, _, hD⟩
          exact nests_1 h w c lo hi oa on oc ot ((i : Int) + 1) ch slo shi ylo yhi dp wd pd p1 p2 t1 t2 W _ _ g E2 F2 a b hE2 b0 b1 b2 b3 b4 b5 hX hMS hMY hA hB hC hD hh (Int.ofNat_le.2 hmw) kab
end Go.Proofs.Ytgiohlcipndakaa

/- DepthHolds. -/
namespace Go.Proofs.Ytgiohlcipndakaa
open Go.ChangeShapes Go.WideShapes Go.ChangeAt Go.RowKit
set_option linter.unusedVariables false
/-- The op alone: its work. -/
theorem alone_wk {k b m kh kw sh sw tp lf bt rt : Int} {lw lb : Nat} {sm ss um us z p lo hi h w c H V C : Int} (s : Opd k b m kh kw sh sw tp lf bt rt lw lb sm ss um us z p lo hi h w c H V C) (hk : k ≤ 4) :
    gtR (fun _ => oL k 0 b m kh kw sh sw tp lf bt rt (lw : Int) (lb : Int) sm ss um us z p lo hi) h w c 0 0 0 1 = (0, 0, [(h, w, c), (H, V, C)], H * V * C * stR k kh kw h w c) := by
  have hou : ouE h w c 0 0 0 1 = 0 := by
    unfold ouE
    rw [s.hA, if_neg (by decide), show rgB 0 0 = true by decide, if_neg (by decide), if_neg (by decide), if_neg (by decide)]
  obtain ⟨a1, a2⟩ := s.al hk
  rw [gtR_of hou]
  have hT : oT (oL k 0 b m kh kw sh sw tp lf bt rt (lw : Int) (lb : Int) sm ss um us z p lo hi) [(h, w, c)] 0 = 0 := by
    show tkE k 0 b m kh kw sh sw tp lf bt rt (lw : Int).toNat (lb : Int).toNat sm ss um us z p lo hi [(h, w, c)] 0 = 0
    rw [Int.toNat_natCast, Int.toNat_natCast]
    exact a1
  rw [stG_ok (i := 0) (L := [(h, w, c)]) (wk := 0) rfl hT]
  have hM : oM (oL k 0 b m kh kw sh sw tp lf bt rt (lw : Int) (lb : Int) sm ss um us z p lo hi) [(h, w, c)] = (H, V, C) := a2
  have hW : oW (oL k 0 b m kh kw sh sw tp lf bt rt (lw : Int) (lb : Int) sm ss um us z p lo hi) [(h, w, c)] = H * V * C * stR k kh kw h w c := by
    show (mk3 k m kh kw sh sw tp lf bt rt (h, w, c)).1 * (mk3 k m kh kw sh sw tp lf bt rt (h, w, c)).2.1 * (mk3 k m kh kw sh sw tp lf bt rt (h, w, c)).2.2 * stR k kh kw h w c = _
    rw [a2]
  rw [hM, hW, Int.zero_add]
  rfl
theorem kwk_ok (h w c lo hi ot : Int) (oa : Option Addr) (on oc : Nat) (O : Nat → Nat → Int) (Z B : Nat → List Int) (W : World) (hL : LRow W oa on oc O Z B) (ch : Int) (RL : List (Int × Int × Int)) (Rw : Int) (hR : gtR O h w c lo hi ot on = (0, 0, RL, Rw)) (i : Nat) (x : Addr) (wa : Option Addr) (lw cw : Nat) (ba : Option Addr) (lb cb : Nat) (x0 y0 z0 H V C : Int) (hF : Fnd W oa on O Z B RL i x wa lw cw ba lb cb x0 y0 z0 H V C) (hch : 1 ≤ ch ∧ ch ≤ C) (N : Nat) (hN : (siL (O i 0) (O i 4) (O i 5) (O i 6) (O i 7) (O i 8) (O i 9) (O i 10) (O i 11) x0 y0 z0 ch 0 (Z i)).length = N) (W' : World) (hb : Below W.heap.size W W') (g0 : Nat) (hg : W'.heap[g0]? = some (.cells #[.int .i64 (O i 0), .int .i64 0, .int .i64 (O i 2), .int .i64 (O i 3), .int .i64 (O i 4), .int .i64 (O i 5), .int .i64 (O i 6), .int .i64 (O i 7), .int .i64 (O i 8), .int .i64 (O i 9), .int .i64 (O i 10), .int .i64 (O i 11), .slice wa lw cw, .slice ba lb cb, .int .i64 (O i 14), .int .i64 (O i 15), .int .i64 (O i 16), .int .i64 (O i 17), .int .i64 (O i 18), .int .i64 (O i 19), .int .i64 (O i 20), .int .i64 (O i 21)] 59 (0, 0))) :
    Calls Try.prog 51 #[.agg #[.int .i64 x0, .int .i64 y0, .int .i64 z0, .int .i64 0, .int .i64 0, .slice (some ⟨g0, 0, none⟩) 1 1, .int .i64 0]] W' fun e w' => e = .returned (.tuple #[.int .i64 (H * V * C * (N : Int)), .agg #[.int .i64 0, .int .i64 0, .int .i64 0]]) ∧ Below W'.heap.size W' w' := by
  obtain ⟨hopd, hk4, hlw, hlb, -, -, -⟩ := bfacts hL RL Rw hR i x wa lw cw ba lb cb x0 y0 z0 H V C hF hch
  obtain ⟨e1, e2, e3⟩ := op_len RL Rw hR i x wa lw cw ba lb cb x0 y0 z0 H V C hF hch N hN
  have e0 : ((⟨g0, 0, none⟩ : Addr).add (0 * 22)) = ⟨g0, 0, none⟩ := by rw [Addr.add_lit]
  have hcell : ∀ q v, [.int .i64 (O i 0), .int .i64 0, .int .i64 (O i 2), .int .i64 (O i 3), .int .i64 (O i 4), .int .i64 (O i 5), .int .i64 (O i 6), .int .i64 (O i 7), .int .i64 (O i 8), .int .i64 (O i 9), .int .i64 (O i 10), .int .i64 (O i 11), .slice wa lw cw, .slice ba lb cb, .int .i64 (O i 14), .int .i64 (O i 15), .int .i64 (O i 16), .int .i64 (O i 17), .int .i64 (O i 18), .int .i64 (O i 19), .int .i64 (O i 20), .int .i64 (O i 21)][q]? = some v → W'.cell? ((⟨g0, 0, none⟩ : Addr).add q) = some v := blcells hg (fun q v hq => by simpa using hq)
  have hLR : LRow W' (some ⟨g0, 0, none⟩) 1 1 (fun _ => oL (O i 0) 0 (O i 2) (O i 3) (O i 4) (O i 5) (O i 6) (O i 7) (O i 8) (O i 9) (O i 10) (O i 11) (lw : Int) (lb : Int) (O i 14) (O i 15) (O i 16) (O i 17) (O i 18) (O i 19) (O i 20) (O i 21)) (fun _ => Z i) (fun _ => B i) := by
    refine ⟨Nat.le_refl _, by unfold maxLen; omega, (fun h => by cases h), fun x hx i' hi => ?_⟩
    cases hx
    obtain rfl : i' = 0 := by omega
    rw [e0]
    exact ⟨wa, lw, cw, ba, lb, cb, rfl, rfl, hcell, hF.2.2.2.2.2.1.below hb, hF.2.2.2.2.2.2.1.below hb, hlw, hlb⟩
  have q := work_any x0 y0 z0 0 0 0 (some ⟨g0, 0, none⟩) 1 1 (fun _ => oL (O i 0) 0 (O i 2) (O i 3) (O i 4) (O i 5) (O i 6) (O i 7) (O i 8) (O i 9) (O i 10) (O i 11) (lw : Int) (lb : Int) (O i 14) (O i 15) (O i 16) (O i 17) (O i 18) (O i 19) (O i 20) (O i 21)) W' hLR.m
  rw [alone_wk hopd hk4, e1] at q
  exact q
theorem klen_ok (h w c lo hi ot : Int) (oa : Option Addr) (on oc : Nat) (O : Nat → Nat → Int) (Z B : Nat → List Int) (W : World) (hL : LRow W oa on oc O Z B) (ch : Int) (RL : List (Int × Int × Int)) (Rw : Int) (hR : gtR O h w c lo hi ot on = (0, 0, RL, Rw)) (i : Nat) (x : Addr) (wa : Option Addr) (lw cw : Nat) (ba : Option Addr) (lb cb : Nat) (x0 y0 z0 H V C : Int) (hF : Fnd W oa on O Z B RL i x wa lw cw ba lb cb x0 y0 z0 H V C) (hch : 1 ≤ ch ∧ ch ≤ C) (N : Nat) (hN : (siL (O i 0) (O i 4) (O i 5) (O i 6) (O i 7) (O i 8) (O i 9) (O i 10) (O i 11) x0 y0 z0 ch 0 (Z i)).length = N) : Calls Try.prog 35 #[.agg #[.int .i64 h, .int .i64 w, .int .i64 c, .int .i64 lo, .int .i64 hi, .slice oa on oc, .int .i64 ot], .int .i64 ((i : Int) + 1)] W fun e w' => e = .returned (.int .i64 (N : Int)) ∧ Below W.heap.size W w' := by
  obtain ⟨e1, e2, e3⟩ := op_len RL Rw hR i x wa lw cw ba lb cb x0 y0 z0 H V C hF hch N hN
  obtain ⟨-, -, k3, -⟩ := hF.2.2.2.2.2.2.2.2.2.1
  have hvs := vS_bd k3
  obtain rfl : oa = some x := hF.2.1
  refine klen_r h w c lo hi ot x on oc i O W hL.m hF.1 wa lw cw ba lb cb Rw RL hR x0 y0 z0 H V C hF.2.2.2.2.2.2.2.2.1 ?_ ?_ ?_ N e3 (fun W' hb => ?_) (fun W' g0 hb hg => kwk_ok h w c lo hi ot (some x) on oc O Z B W hL ch RL Rw hR i x wa lw cw ba lb cb x0 y0 z0 H V C hF hch N hN W' hb g0 hg)
  · have := (vS_yes k3).1; omega
  · omega
  · omega
  · exact kalo_r h w c lo hi ot x on oc i O W' (hL.below hb).m hF.1 wa lw cw ba lb cb (hF.below hb).2.2.2.2.1 Rw RL hR hF.2.2.2.2.2.2.2.2.2.2.1.1 hF.2.2.2.2.2.2.2.2.2.2.1.2 x0 y0 z0 hF.2.2.2.2.2.2.2.1
/-- What check.Chan answers. -/
theorem kcha_ok (h w c lo hi ot : Int) (oa : Option Addr) (on oc : Nat) (O : Nat → Nat → Int) (Z B : Nat → List Int) (W : World) (hL : LRow W oa on oc O Z B) (ch : Int) (RL : List (Int × Int × Int)) (Rw : Int) (hR : gtR O h w c lo hi ot on = (0, 0, RL, Rw)) (i : Nat) (x : Addr) (wa : Option Addr) (lw cw : Nat) (ba : Option Addr) (lb cb : Nat) (x0 y0 z0 H V C : Int) (hF : Fnd W oa on O Z B RL i x wa lw cw ba lb cb x0 y0 z0 H V C) (hch : 1 ≤ ch ∧ ch ≤ C) (slo shi : Int) (N : Nat) (hN : (siL (O i 0) (O i 4) (O i 5) (O i 6) (O i 7) (O i 8) (O i 9) (O i 10) (O i 11) x0 y0 z0 ch 0 (Z i)).length = N) (hs : vbB slo shi = true) (wd pd p1 p2 t1 t2 : Int) :
    Calls Try.prog 14 #[.agg #[.int .i64 h, .int .i64 w, .int .i64 c, .int .i64 lo, .int .i64 hi, .slice oa on oc, .int .i64 ot], .int .i64 ((i : Int) + 1), .int .i64 ch, .agg #[.int .i64 slo, .int .i64 shi], .agg #[.int .i64 wd, .int .i64 pd, .int .i64 p1, .int .i64 p2, .int .i64 t1, .int .i64 t2]] W fun e w' => e = .returned (.int .i64 (kcE wd pd p1 p2 t1 t2 N (hbR (biA (O i 0) ch (B i)) (fun (j : Nat) => enL slo shi (O i 19) (siL (O i 0) (O i 4) (O i 5) (O i 6) (O i 7) (O i 8) (O i 9) (O i 10) (O i 11) x0 y0 z0 ch (j : Int) (Z i))) (H * V).toNat) (hbD pd.toNat (fun (j : Nat) => enL slo shi (O i 19) (siL (O i 0) (O i 4) (O i 5) (O i 6) (O i 7) (O i 8) (O i 9) (O i 10) (O i 11) x0 y0 z0 ch (j : Int) (Z i))) (H * V).toNat) (hbT (biA (O i 0) ch (B i)) (fun (j : Nat) => enL slo shi (O i 19) (siL (O i 0) (O i 4) (O i 5) (O i 6) (O i 7) (O i 8) (O i 9) (O i 10) (O i 11) x0 y0 z0 ch (j : Int) (Z i))) (H * V).toNat))) ∧ Below W.heap.size W w' := by
  have hP : ∀ W', Below W.heap.size W W' → _ := fun W' hb => brun_ok h w c lo hi ot oa on oc O Z B W' (hL.below hb) ch RL Rw hR i x wa lw cw ba lb cb x0 y0 z0 H V C (hF.below hb) hch slo shi
  rw [spR_t hs] at hP
  have hT : ∀ W', Below W.heap.size W W' → _ := fun W' hb => btot_ok h w c lo hi ot oa on oc O Z B W' (hL.below hb) ch RL Rw hR i x wa lw cw ba lb cb x0 y0 z0 H V C (hF.below hb) hch slo shi
  rw [spR_t hs] at hT
  refine kcha_w h w c lo hi ot ((i : Int) + 1) ch oa on oc W slo shi wd pd p1 p2 t1 t2 _ _ _ _ _ _ N hP (fun W' hb => klen_ok h w c lo hi ot oa on oc O Z B W' (hL.below hb) ch RL Rw hR i x wa lw cw ba lb cb x0 y0 z0 H V C (hF.below hb) hch N hN) (fun q1 q2 W' hb => ?_) hT
  have q := bprt_ok h w c lo hi ot oa on oc O Z B W' (hL.below hb) ch RL Rw hR i x wa lw cw ba lb cb x0 y0 z0 H V C (hF.below hb) hch slo shi pd N hN
  rw [spD_t hs q2] at q
  exact q
theorem depthHolds_walk (h w c lo hi : Int) (oa : Option Addr) (on oc : Nat) (ot op ch slo shi ylo yhi dp wd pd p1 p2 t1 t2 : Int) (W : World) (_ : (Lit.int .i64 h).wf = true) (_ : (Lit.int .i64 w).wf = true) (_ : (Lit.int .i64 c).wf = true) (_ : (Lit.int .i64 lo).wf = true) (_ : (Lit.int .i64 hi).wf = true) (wo : ORow 22 (OpIn W) W oa on oc) (hr : on * 208 ≤ 140737488351232) (_ : (Lit.int .i64 ot).wf = true) (_ : (Lit.int .i64 op).wf = true) (_ : (Lit.int .i64 ch).wf = true) (_ : (Lit.int .i64 slo).wf = true) (_ : (Lit.int .i64 shi).wf = true) (_ : (Lit.int .i64 ylo).wf = true) (_ : (Lit.int .i64 yhi).wf = true) (_ : (Lit.int .i64 dp).wf = true) (_ : (Lit.int .i64 wd).wf = true) (_ : (Lit.int .i64 pd).wf = true) (_ : (Lit.int .i64 p1).wf = true) (_ : (Lit.int .i64 p2).wf = true) (_ : (Lit.int .i64 t1).wf = true) (_ : (Lit.int .i64 t2).wf = true) : Calls Try.prog 4 #[.agg #[.int .i64 h, .int .i64 w, .int .i64 c, .int .i64 lo, .int .i64 hi, .slice oa on oc, .int .i64 ot, .int .i64 op, .int .i64 ch, .int .i64 slo, .int .i64 shi, .int .i64 ylo, .int .i64 yhi, .int .i64 dp, .int .i64 wd, .int .i64 pd, .int .i64 p1, .int .i64 p2, .int .i64 t1, .int .i64 t2]] W fun e w' => e = .returned (.bool true) ∧ Below W.heap.size W w' := by
  obtain ⟨O, Z, B, hL⟩ := lrow_of wo
  have hX : ∀ W', _ := fun W' => fixed18_any W'
  rcases bask h w c lo hi ot oa on oc O Z B W hL op ch with ⟨E, hE, h1⟩ | ⟨RL, Rw, hR, i, x, wa, lw, cw, ba, lb, cb, x0, y0, z0, H, V, C, rfl, hF, hch⟩
  · exact holds_e h w c lo hi oa on oc ot op ch slo shi ylo yhi dp wd pd p1 p2 t1 t2 W E E hE hE hX (fun W' hb => dcho_bad h w c lo hi ot op ch oa on oc W' slo shi E hE (fun W2 hb2 => h1 W2 (hb.trans (hb2.mono hb.size)))) (fun W' hb => kcha_e h w c lo hi ot op ch oa on oc W' slo shi wd pd p1 p2 t1 t2 0 0 E hE (fun W'' hb' => brun_bad h w c lo hi ot op ch oa on oc W'' slo shi E hE (fun W2 hb2 => h1 W2 ((hb.trans (hb'.mono hb.size)).trans (hb2.mono (hb.trans (hb'.mono hb.size)).size)))))
  cases hs : vbB slo shi with
  | false =>
    refine holds_e h w c lo hi oa on oc ot ((i : Int) + 1) ch slo shi ylo yhi dp wd pd p1 p2 t1 t2 W 30 30 (by decide) (by decide) hX (fun W' hb => dcho_30 h w c lo hi ot oa on oc O Z B W' (hL.below hb) ch RL Rw hR i x wa lw cw ba lb cb x0 y0 z0 H V C (hF.below hb) hch slo shi hs) (fun W' hb => kcha_e h w c lo hi ot ((i : Int) + 1) ch oa on oc W' slo shi wd pd p1 p2 t1 t2 0 0 30 (by decide) (fun W'' hb' => ?_))
    have q := brun_ok h w c lo hi ot oa on oc O Z B W'' ((hL.below hb).below hb') ch RL Rw hR i x wa lw cw ba lb cb x0 y0 z0 H V C ((hF.below hb).below hb') hch slo shi
    rw [spR_f hs] at q
    exact q
  | true =>
    obtain ⟨N, hN⟩ : ∃ N, (siL (O i 0) (O i 4) (O i 5) (O i 6) (O i 7) (O i 8) (O i 9) (O i 10) (O i 11) x0 y0 z0 ch 0 (Z i)).length = N := ⟨_, rfl⟩
    obtain ⟨hopd, hk4, -, -, hbf2, hbi, -⟩ := bfacts hL RL Rw hR i x wa lw cw ba lb cb x0 y0 z0 H V C hF hch
    have hz := hF.2.2.2.2.2.1.2.2.2.1
    have hv := vbB_yes hs
    have hbf := hopd.si hk4
    obtain ⟨e1, e2, e3⟩ := op_len RL Rw hR i x wa lw cw ba lb cb x0 y0 z0 H V C hF hch N hN
    obtain ⟨⟨v1, v2⟩, v3, v4⟩ := hb_vd hbf hz hch hv hbf2 hbi
    have hK : ∀ W', Below W.heap.size W W' → _ := fun W' hb => kcha_ok h w c lo hi ot oa on oc O Z B W' (hL.below hb) ch RL Rw hR i x wa lw cw ba lb cb x0 y0 z0 H V C (hF.below hb) hch slo shi N hN hs wd pd p1 p2 t1 t2
    obtain ⟨i1, i2, -⟩ := hb_in hbf hz hch hv hbf2 hbi 1
    have hle := grN_le (sfD (fun (j : Nat) => enL slo shi (O i 19) (siL (O i 0) (O i 4) (O i 5) (O i 6) (O i 7) (O i 8) (O i 9) (O i 10) (O i 11) x0 y0 z0 ch (j : Int) (Z i))) (H * V).toNat) N
    have hsf := grN_safe (sfD (fun (j : Nat) => enL slo shi (O i 19) (siL (O i 0) (O i 4) (O i 5) (O i 6) (O i 7) (O i 8) (O i 9) (O i 10) (O i 11) x0 y0 z0 ch (j : Int) (Z i))) (H * V).toNat) N
    cases hn : w32 (hbR (biA (O i 0) ch (B i)) (fun (j : Nat) => enL slo shi (O i 19) (siL (O i 0) (O i 4) (O i 5) (O i 6) (O i 7) (O i 8) (O i 9) (O i 10) (O i 11) x0 y0 z0 ch (j : Int) (Z i))) (H * V).toNat) with
    | false =>
      refine holds_e h w c lo hi oa on oc ot ((i : Int) + 1) ch slo shi ylo yhi dp wd pd p1 p2 t1 t2 W 154 _ (by decide) (fun q => ?_) hX (fun W' hb => dcho_154 h w c lo hi ot oa on oc O Z B W' (hL.below hb) ch RL Rw hR i x wa lw cw ba lb cb x0 y0 z0 H V C (hF.below hb) hch slo shi hs hn) hK
      have := (kcE_0.1 q).2.1
      unfold irB at this
      simp only [Bool.and_eq_true] at this
      have h3 := of_decide_eq_true this.1.1
      rw [show w32 (hbR (biA (O i 0) ch (B i)) (fun (j : Nat) => enL slo shi (O i 19) (siL (O i 0) (O i 4) (O i 5) (O i 6) (O i 7) (O i 8) (O i 9) (O i 10) (O i 11) x0 y0 z0 ch (j : Int) (Z i))) (H * V).toNat) = true from decide_eq_true ⟨h3.2.1, h3.2.2⟩] at hn
      cases hn
    | true =>
      have hC : ∀ W', Below W.heap.size W W' → _ := fun W' hb => dcho_ok h w c lo hi ot oa on oc O Z B W' (hL.below hb) ch RL Rw hR i x wa lw cw ba lb cb x0 y0 z0 H V C (hF.below hb) hch slo shi N hN hs hn
      obtain ⟨a0, a1, a2, a3, ea, fa⟩ := chC_of (grN (sfD (fun (j : Nat) => enL slo shi (O i 19) (siL (O i 0) (O i 4) (O i 5) (O i 6) (O i 7) (O i 8) (O i 9) (O i 10) (O i 11) x0 y0 z0 ch (j : Int) (Z i))) (H * V).toNat) N) N (hbR (biA (O i 0) ch (B i)) (fun (j : Nat) => enL slo shi (O i 19) (siL (O i 0) (O i 4) (O i 5) (O i 6) (O i 7) (O i 8) (O i 9) (O i 10) (O i 11) x0 y0 z0 ch (j : Int) (Z i))) (H * V).toNat) (hbD (grN (sfD (fun (j : Nat) => enL slo shi (O i 19) (siL (O i 0) (O i 4) (O i 5) (O i 6) (O i 7) (O i 8) (O i 9) (O i 10) (O i 11) x0 y0 z0 ch (j : Int) (Z i))) (H * V).toNat) N) (fun (j : Nat) => enL slo shi (O i 19) (siL (O i 0) (O i 4) (O i 5) (O i 6) (O i 7) (O i 8) (O i 9) (O i 10) (O i 11) x0 y0 z0 ch (j : Int) (Z i))) (H * V).toNat) (hbT (biA (O i 0) ch (B i)) (fun (j : Nat) => enL slo shi (O i 19) (siL (O i 0) (O i 4) (O i 5) (O i 6) (O i 7) (O i 8) (O i 9) (O i 10) (O i 11) x0 y0 z0 ch (j : Int) (Z i))) (H * V).toNat)
      rw [ea] at hC
      have hn' := of_decide_eq_true hn
      have hKp : ∀ W', Below W.heap.size W W' → Calls Try.prog 14 #[.agg #[.int .i64 h, .int .i64 w, .int .i64 c, .int .i64 lo, .int .i64 hi, .slice oa on oc, .int .i64 ot], .int .i64 ((i : Int) + 1), .int .i64 ch, .agg #[.int .i64 slo, .int .i64 shi], .agg #[.int .i64 a0, .int .i64 a1, .int .i64 a2, .int .i64 a3, .int .i64 (hbT (biA (O i 0) ch (B i)) (fun (j : Nat) => enL slo shi (O i 19) (siL (O i 0) (O i 4) (O i 5) (O i 6) (O i 7) (O i 8) (O i 9) (O i 10) (O i 11) x0 y0 z0 ch (j : Int) (Z i))) (H * V).toNat).1, .int .i64 (hbT (biA (O i 0) ch (B i)) (fun (j : Nat) => enL slo shi (O i 19) (siL (O i 0) (O i 4) (O i 5) (O i 6) (O i 7) (O i 8) (O i 9) (O i 10) (O i 11) x0 y0 z0 ch (j : Int) (Z i))) (H * V).toNat).2]] W' fun e w' => e = .returned (.int .i64 0) ∧ Below W'.heap.size W' w' := fun W' hb => by
        have q := kcha_ok h w c lo hi ot oa on oc O Z B W' (hL.below hb) ch RL Rw hR i x wa lw cw ba lb cb x0 y0 z0 H V C (hF.below hb) hch slo shi N hN hs a0 a1 a2 a3 (hbT (biA (O i 0) ch (B i)) (fun (j : Nat) => enL slo shi (O i 19) (siL (O i 0) (O i 4) (O i 5) (O i 6) (O i 7) (O i 8) (O i 9) (O i 10) (O i 11) x0 y0 z0 ch (j : Int) (Z i))) (H * V).toNat).1 (hbT (biA (O i 0) ch (B i)) (fun (j : Nat) => enL slo shi (O i 19) (siL (O i 0) (O i 4) (O i 5) (O i 6) (O i 7) (O i 8) (O i 9) (O i 10) (O i 11) x0 y0 z0 ch (j : Int) (Z i))) (H * V).toNat).2
        have h0 : kcE a0 a1 a2 a3 (hbT (biA (O i 0) ch (B i)) (fun (j : Nat) => enL slo shi (O i 19) (siL (O i 0) (O i 4) (O i 5) (O i 6) (O i 7) (O i 8) (O i 9) (O i 10) (O i 11) x0 y0 z0 ch (j : Int) (Z i))) (H * V).toNat).1 (hbT (biA (O i 0) ch (B i)) (fun (j : Nat) => enL slo shi (O i 19) (siL (O i 0) (O i 4) (O i 5) (O i 6) (O i 7) (O i 8) (O i 9) (O i 10) (O i 11) x0 y0 z0 ch (j : Int) (Z i))) (H * V).toNat).2 N (hbR (biA (O i 0) ch (B i)) (fun (j : Nat) => enL slo shi (O i 19) (siL (O i 0) (O i 4) (O i 5) (O i 6) (O i 7) (O i 8) (O i 9) (O i 10) (O i 11) x0 y0 z0 ch (j : Int) (Z i))) (H * V).toNat) (hbD a1.toNat (fun (j : Nat) => enL slo shi (O i 19) (siL (O i 0) (O i 4) (O i 5) (O i 6) (O i 7) (O i 8) (O i 9) (O i 10) (O i 11) x0 y0 z0 ch (j : Int) (Z i))) (H * V).toNat) (hbT (biA (O i 0) ch (B i)) (fun (j : Nat) => enL slo shi (O i 19) (siL (O i 0) (O i 4) (O i 5) (O i 6) (O i 7) (O i 8) (O i 9) (O i 10) (O i 11) x0 y0 z0 ch (j : Int) (Z i))) (H * V).toNat) = 0 := by
          have x32 : xho (-2147483648) 2147483647 (hbR (biA (O i 0) ch (B i)) (fun (j : Nat) => enL slo shi (O i 19) (siL (O i 0) (O i 4) (O i 5) (O i 6) (O i 7) (O i 8) (O i 9) (O i 10) (O i 11) x0 y0 z0 ch (j : Int) (Z i))) (H * V).toNat).1 (hbR (biA (O i 0) ch (B i)) (fun (j : Nat) => enL slo shi (O i 19) (siL (O i 0) (O i 4) (O i 5) (O i 6) (O i 7) (O i 8) (O i 9) (O i 10) (O i 11) x0 y0 z0 ch (j : Int) (Z i))) (H * V).toNat).2 = true := decide_eq_true ⟨v2.2.1, hn'.1, hn'.2⟩
          have xt : xho (-2147483648) 2147483647 (hbT (biA (O i 0) ch (B i)) (fun (j : Nat) => enL slo shi (O i 19) (siL (O i 0) (O i 4) (O i 5) (O i 6) (O i 7) (O i 8) (O i 9) (O i 10) (O i 11) x0 y0 z0 ch (j : Int) (Z i))) (H * V).toNat).1 (hbT (biA (O i 0) ch (B i)) (fun (j : Nat) => enL slo shi (O i 19) (siL (O i 0) (O i 4) (O i 5) (O i 6) (O i 7) (O i 8) (O i 9) (O i 10) (O i 11) x0 y0 z0 ch (j : Int) (Z i))) (H * V).toNat).2 = true := decide_eq_true ⟨v1.2.1, by unfold Inn at i1; omega, by unfold Inn at i1; omega⟩
          refine kcE_0.2 ?_
          rcases fa with ⟨hK0, rfl, rfl, rfl, rfl⟩ | ⟨hK0, rfl, rfl, rfl, rfl⟩
          · have hv4 := (v4 (grN (sfD (fun (j : Nat) => enL slo shi (O i 19) (siL (O i 0) (O i 4) (O i 5) (O i 6) (O i 7) (O i 8) (O i 9) (O i 10) (O i 11) x0 y0 z0 ch (j : Int) (Z i))) (H * V).toNat) N) hK0 (by omega)).2.1
            have x16 : xho (-32768) 32767 (hbD (grN (sfD (fun (j : Nat) => enL slo shi (O i 19) (siL (O i 0) (O i 4) (O i 5) (O i 6) (O i 7) (O i 8) (O i 9) (O i 10) (O i 11) x0 y0 z0 ch (j : Int) (Z i))) (H * V).toNat) N) (fun (j : Nat) => enL slo shi (O i 19) (siL (O i 0) (O i 4) (O i 5) (O i 6) (O i 7) (O i 8) (O i 9) (O i 10) (O i 11) x0 y0 z0 ch (j : Int) (Z i))) (H * V).toNat).1 (hbD (grN (sfD (fun (j : Nat) => enL slo shi (O i 19) (siL (O i 0) (O i 4) (O i 5) (O i 6) (O i 7) (O i 8) (O i 9) (O i 10) (O i 11) x0 y0 z0 ch (j : Int) (Z i))) (H * V).toNat) N) (fun (j : Nat) => enL slo shi (O i 19) (siL (O i 0) (O i 4) (O i 5) (O i 6) (O i 7) (O i 8) (O i 9) (O i 10) (O i 11) x0 y0 z0 ch (j : Int) (Z i))) (H * V).toNat).2 = true := by
              have := of_decide_eq_true (hsf hK0)
              exact decide_eq_true ⟨hv4, this.1, this.2⟩
            refine ⟨efE_of ⟨hv4, v1.2.1⟩ (.inl rfl) ⟨by omega, by omega⟩ (by omega), by unfold irB; rw [x32, if_pos rfl, x16, xt]; rfl, ?_, decide_eq_true ⟨v1.2.1, Int.le_refl _, Int.le_refl _⟩⟩
            rw [if_pos rfl, Int.toNat_natCast]
            exact decide_eq_true ⟨hv4, Int.le_refl _, Int.le_refl _⟩
          · refine ⟨efE_of ⟨v2.2.1, v1.2.1⟩ (.inr rfl) ⟨by omega, by omega⟩ (fun _ => rfl), by unfold irB; rw [x32, if_neg (by decide), xt]; rfl, ?_, decide_eq_true ⟨v1.2.1, Int.le_refl _, Int.le_refl _⟩⟩
            rw [if_neg (by decide)]
            exact decide_eq_true ⟨v2.2.1, Int.le_refl _, Int.le_refl _⟩
        rw [h0] at q
        exact q
      by_cases hF0 : kcE wd pd p1 p2 t1 t2 N (hbR (biA (O i 0) ch (B i)) (fun (j : Nat) => enL slo shi (O i 19) (siL (O i 0) (O i 4) (O i 5) (O i 6) (O i 7) (O i 8) (O i 9) (O i 10) (O i 11) x0 y0 z0 ch (j : Int) (Z i))) (H * V).toNat) (hbD pd.toNat (fun (j : Nat) => enL slo shi (O i 19) (siL (O i 0) (O i 4) (O i 5) (O i 6) (O i 7) (O i 8) (O i 9) (O i 10) (O i 11) x0 y0 z0 ch (j : Int) (Z i))) (H * V).toNat) (hbT (biA (O i 0) ch (B i)) (fun (j : Nat) => enL slo shi (O i 19) (siL (O i 0) (O i 4) (O i 5) (O i 6) (O i 7) (O i 8) (O i 9) (O i 10) (O i 11) x0 y0 z0 ch (j : Int) (Z i))) (H * V).toNat) = 0
      · rw [hF0] at hK
        obtain ⟨g1, g2, g3, g4⟩ := kcE_0.1 hF0
        obtain ⟨-, w3, w4, -⟩ := efE_0 g1
        by_cases hw : wd = 32
        · exact holds_32 h w c lo hi oa on oc ot ((i : Int) + 1) ch slo shi ylo yhi dp wd pd p1 p2 t1 t2 W a0 a1 a2 a3 _ _ hX hC hK hKp g4 hw
        · have hw16 : wd = 16 := by omega
          rw [if_pos hw16] at g3
          unfold irB at g2
          rw [if_pos hw16] at g2
          simp only [Bool.and_eq_true] at g2
          have r1 := of_decide_eq_true g2.1.2
          have r2 := of_decide_eq_true g3
          have hsp : (sfD (fun (j : Nat) => enL slo shi (O i 19) (siL (O i 0) (O i 4) (O i 5) (O i 6) (O i 7) (O i 8) (O i 9) (O i 10) (O i 11) x0 y0 z0 ch (j : Int) (Z i))) (H * V).toNat) pd.toNat = true := decide_eq_true ⟨by omega, by omega⟩
          have hge := grN_ge (sfD (fun (j : Nat) => enL slo shi (O i 19) (siL (O i 0) (O i 4) (O i 5) (O i 6) (O i 7) (O i 8) (O i 9) (O i 10) (O i 11) x0 y0 z0 ch (j : Int) (Z i))) (H * V).toNat) N pd.toNat (by omega) hsp
          exact holds_16 h w c lo hi oa on oc ot ((i : Int) + 1) ch slo shi ylo yhi dp wd pd p1 p2 t1 t2 W a0 a1 a2 a3 _ _ hX hC hK hKp g4 hw (by omega) (by omega)
      · exact holds_f h w c lo hi oa on oc ot ((i : Int) + 1) ch slo shi ylo yhi dp wd pd p1 p2 t1 t2 W _ hF0 a0 a1 a2 a3 _ _ hX hC hK hKp
end Go.Proofs.Ytgiohlcipndakaa
