/- DepthSafes, DepthMosts, DepthChooses. -/
import Derived.Test.YtgiohlcipndakaaGreatGs32
/- DepthSafes, DepthMosts, DepthChooses. -/
namespace Go.Proofs.YtgiohlcipndakaaGreat
open Go.Value renaming int → U
open Go.IntKind renaming i64 → i6
set_option maxRecDepth 100000
set_option maxHeartbeats 16000000
open Go.ChangeShapes Go.WideShapes Go.ChangeAt Go.RowKit
set_option linter.unusedVariables false
theorem depthSafes_walk (h w c lo hi : Int) (oa : Option Addr) (on oc : Nat) (ot op ch slo shi ylo yhi dp wd pd u1 u2 t1 t2 : Int) (W : World) (_ : (Lit.int .i64 h).wf = true) (_ : (Lit.int .i64 w).wf = true) (_ : (Lit.int .i64 c).wf = true) (_ : (Lit.int .i64 lo).wf = true) (_ : (Lit.int .i64 hi).wf = true) (wo : ORow 22 (OpIn W) W oa on oc) (hr : on * 208 ≤ 140737488351232) (_ : (Lit.int .i64 ot).wf = true) (_ : (Lit.int .i64 op).wf = true) (_ : (Lit.int .i64 ch).wf = true) (_ : (Lit.int .i64 slo).wf = true) (_ : (Lit.int .i64 shi).wf = true) (_ : (Lit.int .i64 ylo).wf = true) (_ : (Lit.int .i64 yhi).wf = true) (_ : (Lit.int .i64 dp).wf = true) (_ : (Lit.int .i64 wd).wf = true) (_ : (Lit.int .i64 pd).wf = true) (_ : (Lit.int .i64 u1).wf = true) (_ : (Lit.int .i64 u2).wf = true) (_ : (Lit.int .i64 t1).wf = true) (_ : (Lit.int .i64 t2).wf = true) : Calls Tryz.prog 3 #[.agg #[U i6 h, U i6 w, U i6 c, U i6 lo, U i6 hi, .slice oa on oc, U i6 ot, U i6 op, U i6 ch, U i6 slo, U i6 shi, U i6 ylo, U i6 yhi, U i6 dp, U i6 wd, U i6 pd, U i6 u1, U i6 u2, U i6 t1, U i6 t2]] W fun e w' => e = .returned (.bool true) ∧ Below W.heap.size W w' := by
 obtain ⟨O, Z, B, hL⟩ := lrow_of wo
 have hon : on ≤ 1000000000000 := by omega
 rcases rask h w c lo hi ot oa on oc O Z B W hL hon op ch with ⟨E, hE, h1, h2⟩ | ⟨RL, Rw, hR, i, x, wa, lw, cw, ba, lb, cb, x0, y0, z0, H, V, C, rfl, hF, hch⟩
 ·exact safes_e h w c lo hi oa on oc ot op ch slo shi ylo yhi dp wd pd u1 u2 t1 t2 W 0 0 0 0 0 0 0 0 0 0 0 0 none 0 0 none 0 0 0 0 0 0 0 0 0 0 0 0 0 0 0 0 E hE (fun W' hb => dsaf_bad h w c lo hi ot op ch oa on oc W' slo shi dp E hE (fun W2 hb2 => h1 W2 (hb.trans (hb2.mono hb.size)))) (fun W' hb => rfi13_e 0 0 0 0 0 0 0 0 0 0 0 0 none 0 0 none 0 0 0 0 0 0 0 0 0 0 0 0 0 0 0 0 h w c lo hi ot oa on oc W' op ch slo shi E hE (fun W'' hb' => h2 W'' (hb.trans (hb'.mono hb.size))))
 obtain ⟨N, hN⟩ : ∃ N, (siL (O i 0) (O i 4) (O i 5) (O i 6) (O i 7) (O i 8) (O i 9) (O i 10) (O i 11) x0 y0 z0 ch 0 (Z i)).length = N := ⟨_, rfl⟩
 have hS : ∀ W', Below W.heap.size W W' → _ := fun W' hb => dsaf_ok h w c lo hi ot oa on oc O Z B W' (hL.below hb) ch RL Rw hR i x wa lw cw ba lb cb x0 y0 z0 H V C (hF.below hb) hch slo shi dp N hN
 cases hs : vbB slo shi with
 | false =>
  rw [saR_f hs] at hS
  exact safes_e h w c lo hi oa on oc ot ((i : Int) + 1) ch slo shi ylo yhi dp wd pd u1 u2 t1 t2 W (O i 0) (O i 1) (O i 2) (O i 3) (O i 4) (O i 5) (O i 6) (O i 7) (O i 8) (O i 9) (O i 10) (O i 11) wa lw cw ba lb cb (O i 14) (O i 15) (O i 16) (O i 17) (O i 18) (O i 19) (O i 20) (O i 21) x0 y0 z0 H V C 30 (by decide) hS (fun W' hb => rfi13_no (O i 0) (O i 1) (O i 2) (O i 3) (O i 4) (O i 5) (O i 6) (O i 7) (O i 8) (O i 9) (O i 10) (O i 11) wa lw cw ba lb cb (O i 14) (O i 15) (O i 16) (O i 17) (O i 18) (O i 19) (O i 20) (O i 21) x0 y0 z0 H V C h w c lo hi ot oa on oc W' _ ch slo shi hs (fun W'' hb' => rfc_ok h w c lo hi ot oa on oc O Z B W hL hon ch RL Rw hR i x wa lw cw ba lb cb x0 y0 z0 H V C hF hch W'' (hb.trans (hb'.mono hb.size))))
 | true =>
  have hv := vbB_yes hs
  have hN5 : N ≤ 512 := by rw [← hN]; exact slen RL Rw hR i x wa lw cw ba lb cb x0 y0 z0 H V C hF hch
  have hLn := dle_ok h w c lo hi ot oa on oc O Z B W hL ch RL Rw hR i x wa lw cw ba lb cb x0 y0 z0 H V C hF hch
  rw [hN] at hLn
  obtain ⟨hopd, hk4, -, -, hp, hbi, hHV⟩ := bfacts hL RL Rw hR i x wa lw cw ba lb cb x0 y0 z0 H V C hF hch
  have hz := hF.2.2.2.2.2.1.2.2.2.1
  have hSit := hopd.si hk4
  have hM0 : 0 < (H * V).toNat := by omega
  have hM : (H * V).toNat ≤ 10000000 := by omega
  have hrf := fun (j : Nat) => row_facts hSit hz hch hv hp (j : Int)
  have hRw := rrw_ok h w c lo hi ot oa on oc O Z B W hL ch RL Rw hR i x wa lw cw ba lb cb x0 y0 z0 H V C hF hch slo shi hv
  by_cases hd : dp < 1
  ·rw [saR_d hs (by omega)] at hS
   exact safes_0 h w c lo hi oa on oc ot ((i : Int) + 1) ch slo shi ylo yhi dp wd pd u1 u2 t1 t2 W (O i 0) (O i 1) (O i 2) (O i 3) (O i 4) (O i 5) (O i 6) (O i 7) (O i 8) (O i 9) (O i 10) (O i 11) wa lw cw ba lb cb (O i 14) (O i 15) (O i 16) (O i 17) (O i 18) (O i 19) (O i 20) (O i 21) x0 y0 z0 H V C hd hS (fun W' hb => rfi13_ok (O i 0) (O i 1) (O i 2) (O i 3) (O i 4) (O i 5) (O i 6) (O i 7) (O i 8) (O i 9) (O i 10) (O i 11) wa lw cw ba lb cb (O i 14) (O i 15) (O i 16) (O i 17) (O i 18) (O i 19) (O i 20) (O i 21) x0 y0 z0 H V C h w c lo hi ot oa on oc W' _ ch slo shi hs (fun W'' hb' => rfc_ok h w c lo hi ot oa on oc O Z B W hL hon ch RL Rw hR i x wa lw cw ba lb cb x0 y0 z0 H V C hF hch W'' (hb.trans (hb'.mono hb.size))))
  ·by_cases hn : (N : Int) < dp
   ·rw [saR_d hs (by omega)] at hS
    exact safes_n h w c lo hi oa on oc ot ((i : Int) + 1) ch slo shi ylo yhi dp wd pd u1 u2 t1 t2 W (O i 0) (O i 1) (O i 2) (O i 3) (O i 4) (O i 5) (O i 6) (O i 7) (O i 8) (O i 9) (O i 10) (O i 11) wa lw cw ba lb cb (O i 14) (O i 15) (O i 16) (O i 17) (O i 18) (O i 19) (O i 20) (O i 21) x0 y0 z0 H V C (N : Int) hd hn hS (fun W' hb => rfi13_ok (O i 0) (O i 1) (O i 2) (O i 3) (O i 4) (O i 5) (O i 6) (O i 7) (O i 8) (O i 9) (O i 10) (O i 11) wa lw cw ba lb cb (O i 14) (O i 15) (O i 16) (O i 17) (O i 18) (O i 19) (O i 20) (O i 21) x0 y0 z0 H V C h w c lo hi ot oa on oc W' _ ch slo shi hs (fun W'' hb' => rfc_ok h w c lo hi ot oa on oc O Z B W hL hon ch RL Rw hR i x wa lw cw ba lb cb x0 y0 z0 H V C hF hch W'' (hb.trans (hb'.mono hb.size)))) hLn
   ·rw [saR_t hs ⟨by omega, by omega⟩] at hS
    have hD : ∀ W', Below W.heap.size W W' → Calls Tryz.prog 10 #[.agg #[U i6 (O i 0), U i6 (O i 1), U i6 (O i 2), U i6 (O i 3), U i6 (O i 4), U i6 (O i 5), U i6 (O i 6), U i6 (O i 7), U i6 (O i 8), U i6 (O i 9), U i6 (O i 10), U i6 (O i 11), .slice wa lw cw, .slice ba lb cb, U i6 (O i 14), U i6 (O i 15), U i6 (O i 16), U i6 (O i 17), U i6 (O i 18), U i6 (O i 19), U i6 (O i 20), U i6 (O i 21), U i6 x0, U i6 y0, U i6 z0, U i6 H, U i6 V, U i6 C], U i6 ch, .agg #[U i6 slo, U i6 shi], U i6 dp] W' fun e w' => e = .returned (.bool (w16 (hbD dp.toNat (fun (j : Nat) => enL slo shi (O i 19) (siL (O i 0) (O i 4) (O i 5) (O i 6) (O i 7) (O i 8) (O i 9) (O i 10) (O i 11) x0 y0 z0 ch (j : Int) (Z i))) (H * V).toNat))) ∧ Below W'.heap.size W' w' := fun W' hb => by
     have q := rsfe_any (O i 0) (O i 1) (O i 2) (O i 3) (O i 4) (O i 5) (O i 6) (O i 7) (O i 8) (O i 9) (O i 10) (O i 11) wa lw cw ba lb cb (O i 14) (O i 15) (O i 16) (O i 17) (O i 18) (O i 19) (O i 20) (O i 21) x0 y0 z0 H V C W' ch slo shi (fun (j : Nat) => enL slo shi (O i 19) (siL (O i 0) (O i 4) (O i 5) (O i 6) (O i 7) (O i 8) (O i 9) (O i 10) (O i 11) x0 y0 z0 ch (j : Int) (Z i))) (H * V).toNat hM hM0 (hrf 0).2.1 (fun j => ⟨(hrf j).1, (hrf j).2.2⟩) (fun W2 hb2 => hRw W2 (hb.trans (hb2.mono hb.size))) dp.toNat (by omega) (by omega)
     rw [Int.toNat_of_nonneg (by omega)] at q
     exact q
    exact safes_w h w c lo hi oa on oc ot ((i : Int) + 1) ch slo shi ylo yhi dp wd pd u1 u2 t1 t2 W (O i 0) (O i 1) (O i 2) (O i 3) (O i 4) (O i 5) (O i 6) (O i 7) (O i 8) (O i 9) (O i 10) (O i 11) wa lw cw ba lb cb (O i 14) (O i 15) (O i 16) (O i 17) (O i 18) (O i 19) (O i 20) (O i 21) x0 y0 z0 H V C (N : Int) _ hd hn hS (fun W' hb => rfi13_ok (O i 0) (O i 1) (O i 2) (O i 3) (O i 4) (O i 5) (O i 6) (O i 7) (O i 8) (O i 9) (O i 10) (O i 11) wa lw cw ba lb cb (O i 14) (O i 15) (O i 16) (O i 17) (O i 18) (O i 19) (O i 20) (O i 21) x0 y0 z0 H V C h w c lo hi ot oa on oc W' _ ch slo shi hs (fun W'' hb' => rfc_ok h w c lo hi ot oa on oc O Z B W hL hon ch RL Rw hR i x wa lw cw ba lb cb x0 y0 z0 H V C hF hch W'' (hb.trans (hb'.mono hb.size)))) hLn hD
end Go.Proofs.YtgiohlcipndakaaGreat
