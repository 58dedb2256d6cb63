/- BoundHolds. -/
import Derived.Test.YtcphealigifdiaaGr26
import Derived.Test.YtcphealigifdiaaGr27
/- BoundHolds. -/
namespace Go.Proofs.Ytcphealigifdiaa
open Go.ChangeShapes Go.WideShapes Go.ChangeAt Go.RowKit
set_option linter.unusedVariables false
theorem boundHolds_walk (h w c lo hi : Int) (oa : Option Addr) (on oc : Nat) (ot op ch slo shi dp at' : Int) (ad : Option Addr) (n cap : Nat) (xs : List Int) (W : World) (_ : (Lit.int .i64 h).wf = true) (_ : (Lit.int .i64 w).wf = true) (_ : (Lit.int .i64 c).wf = true) (_ : (Lit.int .i64 lo).wf = true) (_ : (Lit.int .i64 hi).wf = true) (wo : ORow 22 (OpIn W) W oa on oc) (hr : on * 208 ≤ 140737488351232) (_ : (Lit.int .i64 ot).wf = true) (_ : (Lit.int .i64 op).wf = true) (_ : (Lit.int .i64 ch).wf = true) (_ : (Lit.int .i64 slo).wf = true) (_ : (Lit.int .i64 shi).wf = true) (_ : (Lit.int .i64 dp).wf = true) (_ : (Lit.int .i64 at').wf = true) (hX : IRow .i8 W ad n cap xs) (hrx : n * 1 ≤ 140737488351232) : Calls Try.prog 3 #[.agg #[Jv h, Jv w, Jv c, Jv lo, Jv hi, .slice oa on oc, Jv ot, Jv op, Jv ch, Jv slo, Jv shi, Jv dp, Jv at', .slice ad n cap]] W fun e w' => e = .returned (.bool true) ∧ Below W.heap.size W w' := by
  obtain ⟨O, Z, B, hL⟩ := lrow_of wo
  obtain ⟨E, hf⟩ : ∃ E, fiE O h w c lo hi ot on op = E := ⟨_, rfl⟩
  by_cases hE : E = 0
  rotate_left
  · have hO : ∀ W', Below W.heap.size W W' → _ := fun W' hb => of_bad h w c lo hi ot oa on oc O Z B W' (hL.below hb) op ch 0 E hf hE
    exact holds13_e h w c lo hi oa on oc ot op ch slo shi dp at' ad n cap W 0 0 0 0 0 0 E 0 0 E
      (fun W' hb => (of_bad h w c lo hi ot oa on oc O Z B W' (hL.below hb) op ch at' E hf hE).mono fun e w' q => ⟨⟨_, _, _, _, _, q.1, .inl hE⟩, q.2⟩)
      (fun W' hb => btot_bad h w c lo hi ot op ch oa on oc W' slo shi E hE (fun W'' hb' => hO W'' (hb.trans (hb'.mono hb.size))))
      (fun W' hb => brun_bad h w c lo hi ot op ch oa on oc W' slo shi E hE (fun W'' hb' => hO W'' (hb.trans (hb'.mono hb.size))))
      (fun W' hb => bprt_bad h w c lo hi ot op ch oa on oc W' slo shi dp E hE (fun W'' hb' => hO W'' (hb.trans (hb'.mono hb.size))))
      (fun W' hb => bprd_bad h w c lo hi ot op ch oa on oc W' slo shi E hE (fun W'' hb' => hO W'' (hb.trans (hb'.mono hb.size)))) (fun _ => ⟨rfl, rfl, rfl⟩)
  subst hE
  obtain ⟨RL, Rw, hR, i, x, wa, lw, cw, ba, lb, cb, x0, y0, z0, H, V, C, rfl, hF⟩ := found h w c lo hi ot oa on oc O Z B W hL op hf
  by_cases hch : 1 ≤ ch ∧ ch ≤ C
  rotate_left
  · have hO : ∀ W', Below W.heap.size W W' → _ := fun W' hb => of_place h w c lo hi ot oa on oc O Z B W' (hL.below hb) ch 0 RL Rw hR i x wa lw cw ba lb cb x0 y0 z0 H V C (hF.below hb) (fun q => hch q.1)
    exact holds13_e h w c lo hi oa on oc ot _ ch slo shi dp at' ad n cap W 0 0 0 0 0 0 3 0 0 3
      (fun W' hb => (of_place h w c lo hi ot oa on oc O Z B W' (hL.below hb) ch at' RL Rw hR i x wa lw cw ba lb cb x0 y0 z0 H V C (hF.below hb) (fun q => hch q.1)).mono fun e w' q => ⟨⟨_, _, _, _, _, q.1, .inl (by decide)⟩, q.2⟩)
      (fun W' hb => btot_bad h w c lo hi ot _ ch oa on oc W' slo shi 3 (by decide) (fun W'' hb' => hO W'' (hb.trans (hb'.mono hb.size))))
      (fun W' hb => brun_bad h w c lo hi ot _ ch oa on oc W' slo shi 3 (by decide) (fun W'' hb' => hO W'' (hb.trans (hb'.mono hb.size))))
      (fun W' hb => bprt_bad h w c lo hi ot _ ch oa on oc W' slo shi dp 3 (by decide) (fun W'' hb' => hO W'' (hb.trans (hb'.mono hb.size))))
      (fun W' hb => bprd_bad h w c lo hi ot _ ch oa on oc W' slo shi 3 (by decide) (fun W'' hb' => hO W'' (hb.trans (hb'.mono hb.size)))) (fun _ => ⟨rfl, rfl, rfl⟩)
  obtain ⟨N, hN⟩ : ∃ N, (siL (O i 0) (O i 4) (O i 5) (O i 6) (O i 7) (O i 8) (O i 9) (O i 10) (O i 11) x0 y0 z0 ch 0 (Z i)).length = N := ⟨_, rfl⟩
  have hT := fun (W' : World) (hb : Below W.heap.size W W') => btot_ok h w c lo hi ot oa on oc O Z B W' (hL.below hb) ch RL Rw hR i x wa lw cw ba lb cb x0 y0 z0 H V C (hF.below hb) hch slo shi
  have hRu := fun (W' : World) (hb : Below W.heap.size W W') => brun_ok h w c lo hi ot oa on oc O Z B W' (hL.below hb) ch RL Rw hR i x wa lw cw ba lb cb x0 y0 z0 H V C (hF.below hb) hch slo shi
  have hPa := fun (W' : World) (hb : Below W.heap.size W W') => bprt_ok h w c lo hi ot oa on oc O Z B W' (hL.below hb) ch RL Rw hR i x wa lw cw ba lb cb x0 y0 z0 H V C (hF.below hb) hch slo shi dp N hN
  have hPr := fun (W' : World) (hb : Below W.heap.size W W') => bprd_ok h w c lo hi ot oa on oc O Z B W' (hL.below hb) ch RL Rw hR i x wa lw cw ba lb cb x0 y0 z0 H V C (hF.below hb) hch slo shi
  cases hs : vbB slo shi with
  | false =>
    have eD : spD slo shi dp N (hbD dp.toNat (fun (j : Nat) => enL slo shi (O i 19) (siL (O i 0) (O i 4) (O i 5) (O i 6) (O i 7) (O i 8) (O i 9) (O i 10) (O i 11) x0 y0 z0 ch (j : Int) (Z i))) (H * V).toNat) = (0, 0, 30) := by unfold spD; rw [if_neg (by rw [hs]; decide)]
    rw [spR_f hs] at hT hRu hPr
    rw [eD] at hPa
    refine holds13_e h w c lo hi oa on oc ot _ ch slo shi dp at' ad n cap W 0 0 0 0 0 0 30 0 0 30 (fun W' hb => ?_) hT hRu hPa hPr (fun _ => ⟨rfl, rfl, rfl⟩)
    by_cases hat : 0 ≤ at' ∧ at' < H * V
    · refine (of_ok h w c lo hi ot oa on oc O Z B W' (hL.below hb) ch at' RL Rw hR i x wa lw cw ba lb cb x0 y0 z0 H V C (hF.below hb) hch hat).mono ?_
      rintro e w' ⟨⟨v, rfl, hv⟩, q⟩
      obtain ⟨va, vc, rfl⟩ := hv.slice
      exact ⟨⟨_, _, _, _, _, rfl, .inr (by decide)⟩, q⟩
    · exact (of_place h w c lo hi ot oa on oc O Z B W' (hL.below hb) ch at' RL Rw hR i x wa lw cw ba lb cb x0 y0 z0 H V C (hF.below hb) (fun q => hat q.2)).mono fun e w' q => ⟨⟨_, _, _, _, _, q.1, .inl (by decide)⟩, q.2⟩
  | true =>
    rw [spR_t hs] at hT hRu hPr
    by_cases hat : 0 ≤ at' ∧ at' < H * V
    rotate_left
    · exact holds13_e h w c lo hi oa on oc ot _ ch slo shi dp at' ad n cap W _ _ _ _ _ _ _ _ _ 0 (fun W' hb => (of_place h w c lo hi ot oa on oc O Z B W' (hL.below hb) ch at' RL Rw hR i x wa lw cw ba lb cb x0 y0 z0 H V C (hF.below hb) (fun q => hat q.2)).mono fun e w' q => ⟨⟨_, _, _, _, _, q.1, .inl (by decide)⟩, q.2⟩) hT hRu hPa hPr (fun q => absurd rfl q)
    have hSit := hF.2.2.2.2.2.2.2.2.2.1
    have hz := hF.2.2.2.2.2.1.2.2.2.1
    obtain ⟨-, -, -, -, hp, hbi, -⟩ := bfacts hL RL Rw hR i x wa lw cw ba lb cb x0 y0 z0 H V C hF hch
    have hv := vbB_yes hs
    obtain ⟨j, rfl⟩ := Int.eq_ofNat_of_zero_le hat.1
    have hj : j < (H * V).toNat := by omega
    have hox : oa = some x := hF.2.1
    subst hox
    have hcell := hF.2.2.2.2.1
    have hon : on ≤ 1000000000000 := by omega
    obtain ⟨f1, f2⟩ := siL_facts hSit hz hch (j : Int)
    obtain ⟨g1, g2, g3⟩ := row_facts hSit hz hch hv hp (j : Int)
    have hva := vS_bd hSit.2.1
    have hl := enL_len slo shi (O i 19) (siL (O i 0) (O i 4) (O i 5) (O i 6) (O i 7) (O i 8) (O i 9) (O i 10) (O i 11) x0 y0 z0 ch (j : Int) (Z i))
    obtain ⟨L, hLn⟩ : ∃ L, (siL (O i 0) (O i 4) (O i 5) (O i 6) (O i 7) (O i 8) (O i 9) (O i 10) (O i 11) x0 y0 z0 ch (j : Int) (Z i)).length = L := ⟨_, rfl⟩
    rw [hLn] at f1 hl
    refine holds13_k h w c lo hi i x on oc ot ch slo shi dp (j : Int) ad n cap W (O i 0) (O i 1) (O i 2) (O i 3) (O i 4) (O i 5) (O i 6) (O i 7) (O i 8) (O i 9) (O i 10) (O i 11) wa lw cw ba lb cb (O i 14) (O i 15) (O i 16) (O i 17) (O i 18) (O i 19) (O i 20) (O i 21) x0 y0 z0 H V C _ _ _ _ _ _ _ _ _ (biA (O i 0) ch (B i)) (siL (O i 0) (O i 4) (O i 5) (O i 6) (O i 7) (O i 8) (O i 9) (O i 10) (O i 11) x0 y0 z0 ch (j : Int) (Z i)) (enL slo shi (O i 19) (siL (O i 0) (O i 4) (O i 5) (O i 6) (O i 7) (O i 8) (O i 9) (O i 10) (O i 11) x0 y0 z0 ch (j : Int) (Z i))) L xs hX hLn f1 (fun W' hb => of_ok h w c lo hi ot (some x) on oc O Z B W' (hL.below hb) ch (j : Int) RL Rw hR i x wa lw cw ba lb cb x0 y0 z0 H V C (hF.below hb) hch hat) hT hRu hPa hPr
      (fun W' hb => rfind_ok h w c lo hi ot (some x) on oc O Z B W' (hL.below hb) hon 0 RL Rw hR i x wa lw cw ba lb cb x0 y0 z0 H V C (hF.below hb) ⟨by omega, by omega⟩) ⟨by omega, by omega⟩ ⟨by omega, by omega⟩ hF.1 hon (hcell 19 _ rfl) hp hv (fun k hk => ?_) hl g1 hbi (fun k hk => run_at (biA (O i 0) ch (B i)) (fun (j : Nat) => enL slo shi (O i 19) (siL (O i 0) (O i 4) (O i 5) (O i 6) (O i 7) (O i 8) (O i 9) (O i 10) (O i 11) x0 y0 z0 ch (j : Int) (Z i))) (H * V).toNat j hj (by rw [hl]; exact hk)) (tot_at (biA (O i 0) ch (B i)) (fun (j : Nat) => enL slo shi (O i 19) (siL (O i 0) (O i 4) (O i 5) (O i 6) (O i 7) (O i 8) (O i 9) (O i 10) (O i 11) x0 y0 z0 ch (j : Int) (Z i))) (H * V).toNat j hj) (fun k hk => prd_at (fun (j : Nat) => enL slo shi (O i 19) (siL (O i 0) (O i 4) (O i 5) (O i 6) (O i 7) (O i 8) (O i 9) (O i 10) (O i 11) x0 y0 z0 ch (j : Int) (Z i))) (H * V).toNat j hj (by rw [hl]; exact hk)) (fun q1 q2 k hk => ?_)
    · have hk' : k < (siL (O i 0) (O i 4) (O i 5) (O i 6) (O i 7) (O i 8) (O i 9) (O i 10) (O i 11) x0 y0 z0 ch (j : Int) (Z i)).length := by rw [hLn]; exact hk
      refine ⟨((siL (O i 0) (O i 4) (O i 5) (O i 6) (O i 7) (O i 8) (O i 9) (O i 10) (O i 11) x0 y0 z0 ch (j : Int) (Z i)).getD k (0, 0)).1, ((siL (O i 0) (O i 4) (O i 5) (O i 6) (O i 7) (O i 8) (O i 9) (O i 10) (O i 11) x0 y0 z0 ch (j : Int) (Z i)).getD k (0, 0)).2, rfl, ?_, f2 _ (getD_in hk')⟩
      rw [enL_getD slo shi (O i 19) hk' (0, 0) (0, 0)]
    · by_cases hd : 1 ≤ dp ∧ dp ≤ (N : Int)
      · have eD : spD slo shi dp N (hbD dp.toNat (fun (j : Nat) => enL slo shi (O i 19) (siL (O i 0) (O i 4) (O i 5) (O i 6) (O i 7) (O i 8) (O i 9) (O i 10) (O i 11) x0 y0 z0 ch (j : Int) (Z i))) (H * V).toNat) = ((hbD dp.toNat (fun (j : Nat) => enL slo shi (O i 19) (siL (O i 0) (O i 4) (O i 5) (O i 6) (O i 7) (O i 8) (O i 9) (O i 10) (O i 11) x0 y0 z0 ch (j : Int) (Z i))) (H * V).toNat).1, (hbD dp.toNat (fun (j : Nat) => enL slo shi (O i 19) (siL (O i 0) (O i 4) (O i 5) (O i 6) (O i 7) (O i 8) (O i 9) (O i 10) (O i 11) x0 y0 z0 ch (j : Int) (Z i))) (H * V).toNat).2, 0) := by unfold spD; rw [if_pos hs, if_pos hd]
        rw [eD]
        exact prt_at (show 0 < dp.toNat by omega) (fun (j : Nat) => enL slo shi (O i 19) (siL (O i 0) (O i 4) (O i 5) (O i 6) (O i 7) (O i 8) (O i 9) (O i 10) (O i 11) x0 y0 z0 ch (j : Int) (Z i))) (H * V).toNat j hj (by rw [hl]; exact hk)
      · unfold spD at q1
        rw [if_pos hs, if_neg hd] at q1
        cases q1
end Go.Proofs.Ytcphealigifdiaa
