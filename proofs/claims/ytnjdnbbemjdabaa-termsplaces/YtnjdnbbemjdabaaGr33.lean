/- The walk of TermsPlaces. -/
import Derived.Test.YtnjdnbbemjdabaaGr29
import Derived.Test.YtnjdnbbemjdabaaGr30
import Derived.Test.YtnjdnbbemjdabaaGr31
import Derived.Test.YtnjdnbbemjdabaaGr32
/- The walk of TermsPlaces. -/
namespace Go.Proofs.Ytnjdnbbemjdabaa
open Go.ChangeShapes Go.WideShapes Go.ChangeAt Go.RowKit
set_option linter.unusedVariables false
theorem termsPlaces_walk (h w c lo hi : Int) (oa : Option Addr) (on oc : Nat) (ot op ch at' : Int) (W : World) (_ : (Lit.int .i64 h).wf = true) (_ : (Lit.int .i64 w).wf = true) (_ : (Lit.int .i64 c).wf = true) (_ : (Lit.int .i64 lo).wf = true) (_ : (Lit.int .i64 hi).wf = true)
    (wo : ORow 22 (OpIn W) W oa on oc) (hr : on * 208 ≤ 140737488351232) (_ : (Lit.int .i64 ot).wf = true) (_ : (Lit.int .i64 op).wf = true) (_ : (Lit.int .i64 ch).wf = true) (_ : (Lit.int .i64 at').wf = true) :
    Calls Try.prog 5 #[.agg #[.int .i64 h, .int .i64 w, .int .i64 c, .int .i64 lo, .int .i64 hi, .slice oa on oc, .int .i64 ot, .int .i64 op, .int .i64 ch, .int .i64 at']] W fun e w' => e = .returned (.bool true) ∧ Below W.heap.size W w' := by
  obtain ⟨O, Z, B, hL⟩ := lrow_of wo
  have hon : on ≤ 1000000000000 := by omega
  obtain ⟨E, hf⟩ : ∃ E, fiE O h w c lo hi ot on op = E := ⟨_, rfl⟩
  by_cases hE : E = 0
  · subst hE
    obtain ⟨RL, Rw, hR, i, x, wa, lw, cw, ba, lb, cb, x0, y0, z0, H, V, C, rfl, hF⟩ := found h w c lo hi ot oa on oc O Z B W hL op hf
    by_cases hq : (1 ≤ ch ∧ ch ≤ C) ∧ (0 ≤ at' ∧ at' < H * V)
    · have hk := hF.2.2.2.2.2.2.2.2.2.1.1
      rcases (show O i 0 = 1 ∨ O i 0 = 2 ∨ O i 0 = 3 ∨ O i 0 = 4 by omega) with k | k | k | k
      · exact termsPlaces_1 h w c lo hi oa on oc ot ch at' O Z B W hL hon RL Rw hR i x wa lw cw ba lb cb x0 y0 z0 H V C hF hq.1 hq.2 k
      · exact termsPlaces_2 h w c lo hi oa on oc ot ch at' O Z B W hL hon RL Rw hR i x wa lw cw ba lb cb x0 y0 z0 H V C hF hq.1 hq.2 k
      · exact termsPlaces_3 h w c lo hi oa on oc ot ch at' O Z B W hL hon RL Rw hR i x wa lw cw ba lb cb x0 y0 z0 H V C hF hq.1 hq.2 k
      · exact termsPlaces_4 h w c lo hi oa on oc ot ch at' O Z B W hL hon RL Rw hR i x wa lw cw ba lb cb x0 y0 z0 H V C hF hq.1 hq.2 k
    · exact termsPlaces_e h w c lo hi oa on oc ot ((i : Int) + 1) ch at' W 3 _ 0 (by omega) (fun W' hb => of_place h w c lo hi ot oa on oc O Z B W' (hL.below hb) ch at' RL Rw hR i x wa lw cw ba lb cb x0 y0 z0 H V C (hF.below hb) hq) (fun W' hb => lenT_ok h w c lo hi ot oa on oc O Z B W' (hL.below hb) RL Rw hR i x wa lw cw ba lb cb x0 y0 z0 H V C (hF.below hb))
  · exact termsPlaces_e h w c lo hi oa on oc ot op ch at' W E 0 E hE (fun W' hb => of_bad h w c lo hi ot oa on oc O Z B W' (hL.below hb) op ch at' E hf hE) (fun W' hb => lenT_bad h w c lo hi ot oa on oc O Z B W' (hL.below hb) op E hf hE)
end Go.Proofs.Ytnjdnbbemjdabaa
