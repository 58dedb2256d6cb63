/- WitnessMemory. -/
import Derived.Test.YtgjcjhnnopandaaGq32
namespace Go.Proofs.Ytgjcjhnnopandaa
open Go.ChangeShapes Go.WideShapes Go.ChangeAt Go.RowKit
set_option linter.unusedVariables false
theorem saR_f {slo shi dp : Int} {N : Nat} (h : vbB slo shi = false) (r : Int × Int) : saR slo shi dp N r = (false, 30) := by unfold saR; rw [show spD slo shi dp N r = _ from if_neg (by rw [h]; decide)]; rfl
theorem witnessMemory_walk (h w c lo hi : Int) (oa : Option Addr) (on oc : Nat) (ot op ch slo shi dp : Int) (W : World) (_ : (Lit.int .i64 h).wf = true) (_ : (Lit.int .i64 w).wf = true) (_ : (Lit.int .i64 c).wf = true) (_ : (Lit.int .i64 lo).wf = true) (_ : (Lit.int .i64 hi).wf = true) (wo : ORow 22 (OpIn W) W oa on oc) (hr : on * 208 ≤ 140737488351232) (_ : (Lit.int .i64 ot).wf = true) (_ : (Lit.int .i64 op).wf = true) (_ : (Lit.int .i64 ch).wf = true) (_ : (Lit.int .i64 slo).wf = true) (_ : (Lit.int .i64 shi).wf = true) (_ : (Lit.int .i64 dp).wf = true) : Calls Try.prog 5 #[.agg #[.int .i64 h, .int .i64 w, .int .i64 c, .int .i64 lo, .int .i64 hi, .slice oa on oc, .int .i64 ot, .int .i64 op, .int .i64 ch, .int .i64 slo, .int .i64 shi, .int .i64 dp]] W fun e w' => e = .returned (.bool true) ∧ Below W.heap.size W w' := by
  obtain ⟨O, Z, B, hL⟩ := lrow_of wo
  rcases bask h w c lo hi ot oa on oc O Z B W hL op ch with ⟨E, hE, h1⟩ | ⟨RL, Rw, hR, i, x, wa, lw, cw, ba, lb, cb, x0, y0, z0, H, V, C, rfl, hF, hch⟩
  · exact wmem_e h w c lo hi oa on oc ot op ch slo shi dp W E hE (fun W' hb => wlo_bad h w c lo hi ot op ch oa on oc W' slo shi E hE (fun W2 hb2 => h1 W2 (hb.trans (hb2.mono hb.size)))) (fun W' hb => who_bad h w c lo hi ot op ch oa on oc W' slo shi E hE (fun W2 hb2 => h1 W2 (hb.trans (hb2.mono hb.size)))) (fun W' hb => wbr_bad h w c lo hi ot op ch oa on oc W' slo shi dp E hE (fun W2 hb2 => h1 W2 (hb.trans (hb2.mono hb.size))))
  obtain ⟨N, hN⟩ : ∃ N, (siL (O i 0) (O i 4) (O i 5) (O i 6) (O i 7) (O i 8) (O i 9) (O i 10) (O i 11) x0 y0 z0 ch 0 (Z i)).length = N := ⟨_, rfl⟩
  cases hs : vbB slo shi with
  | false =>
    exact wmem_e h w c lo hi oa on oc ot ((i : Int) + 1) ch slo shi dp W 30 (by decide) (fun W' hb => wlo_30 h w c lo hi ot oa on oc O Z B W' (hL.below hb) ch RL Rw hR i x wa lw cw ba lb cb x0 y0 z0 H V C (hF.below hb) hch slo shi hs) (fun W' hb => who_30 h w c lo hi ot oa on oc O Z B W' (hL.below hb) ch RL Rw hR i x wa lw cw ba lb cb x0 y0 z0 H V C (hF.below hb) hch slo shi hs) (fun W' hb => wbr_no h w c lo hi ot oa on oc O Z B W' (hL.below hb) ch RL Rw hR i x wa lw cw ba lb cb x0 y0 z0 H V C (hF.below hb) hch slo shi dp N hN false 30 (saR_f hs _) (.inl (by decide)))
  | true =>
    obtain ⟨f1, f2, f3, f4, f5, f6, f7, f8, f9, f10⟩ := wfacts h w c lo hi ot oa on oc O Z B W hL ch RL Rw hR i x wa lw cw ba lb cb x0 y0 z0 H V C hF hch
    have key : ∀ (u : Bool) (r : Nat) (A : List Int), WOk (H * V).toNat (x0 * y0 * z0).toNat (stR (O i 0) (O i 4) (O i 5) x0 y0 z0).toNat slo shi (O i 19) (biA (O i 0) ch (B i)) u (fun r => siL (O i 0) (O i 4) (O i 5) (O i 6) (O i 7) (O i 8) (O i 9) (O i 10) (O i 11) x0 y0 z0 ch (r : Int) (Z i)) r A → A.length = (x0 * y0 * z0).toNat := fun u r A h => h.2.2.len
    have none : ∀ (sf : Bool) (E : Int), saR slo shi dp N (hbD dp.toNat (fun (j : Nat) => enL slo shi (O i 19) (siL (O i 0) (O i 4) (O i 5) (O i 6) (O i 7) (O i 8) (O i 9) (O i 10) (O i 11) x0 y0 z0 ch (j : Int) (Z i))) (H * V).toNat) = (sf, E) → (E ≠ 0 ∨ sf = true) → ∀ W', Below W.heap.size W W' → Calls Try.prog 14 #[.agg #[.int .i64 h, .int .i64 w, .int .i64 c, .int .i64 lo, .int .i64 hi, .slice oa on oc, .int .i64 ot], .int .i64 ((i : Int) + 1), .int .i64 ch, .agg #[.int .i64 slo, .int .i64 shi], .int .i64 dp] W' fun e w' => (∃ (r f g : Nat) (A : List Int) (vl : Value) (ok : Bool) (e2 : Int), A.length ≤ (x0 * y0 * z0).toNat ∧ e = .returned (.tuple #[.agg #[.int .i64 (r : Int), .int .i64 (f : Int), .int .i64 (g : Int), vl], .bool ok, .int .i64 e2]) ∧ Own .i8 51 w' W'.heap.size vl A) ∧ Below W'.heap.size W' w' := fun sf E hq hE W' hb => by
      refine (wbr_no h w c lo hi ot oa on oc O Z B W' (hL.below hb) ch RL Rw hR i x wa lw cw ba lb cb x0 y0 z0 H V C (hF.below hb) hch slo shi dp N hN sf E hq hE).mono ?_
      rintro e w' ⟨rfl, hb'⟩
      exact ⟨⟨0, 0, 0, [], .slice none 0 0, false, E, Nat.zero_le _, rfl, own_none .i8 51 w' _⟩, hb'⟩
    refine wmem_w h w c lo hi oa on oc ot ((i : Int) + 1) ch slo shi dp W (x0 * y0 * z0).toNat f3 (fun W' hb => ?_) (fun W' hb => ?_) ?_
    · refine (wlo_ok h w c lo hi ot oa on oc O Z B W' (hL.below hb) ch RL Rw hR i x wa lw cw ba lb cb x0 y0 z0 H V C (hF.below hb) hch slo shi hs).mono ?_
      rintro e w' ⟨⟨r, A, v', g1, g2, g3⟩, g4⟩
      exact ⟨⟨r, A, v', key _ r A g1, g2, g3⟩, g4⟩
    · refine (who_ok h w c lo hi ot oa on oc O Z B W' (hL.below hb) ch RL Rw hR i x wa lw cw ba lb cb x0 y0 z0 H V C (hF.below hb) hch slo shi hs).mono ?_
      rintro e w' ⟨⟨r, A, v', g1, g2, g3⟩, g4⟩
      exact ⟨⟨r, A, v', key _ r A g1, g2, g3⟩, g4⟩
    · by_cases hd : 1 ≤ dp ∧ dp ≤ (N : Int)
      · cases hw : w16 (hbD dp.toNat (fun (j : Nat) => enL slo shi (O i 19) (siL (O i 0) (O i 4) (O i 5) (O i 6) (O i 7) (O i 8) (O i 9) (O i 10) (O i 11) x0 y0 z0 ch (j : Int) (Z i))) (H * V).toNat) with
        | true => exact none true 0 (by rw [saR_t hs hd, hw]) (.inr rfl)
        | false =>
          obtain ⟨d, rfl⟩ := Int.eq_ofNat_of_zero_le (show 0 ≤ dp by omega)
          intro W' hb
          refine (wbr_yes h w c lo hi ot oa on oc O Z B W' (hL.below hb) ch RL Rw hR i x wa lw cw ba lb cb x0 y0 z0 H V C (hF.below hb) hch slo shi d N hN hs ⟨by omega, by omega⟩ hw).mono ?_
          rintro e w' ⟨⟨r, f, g, A, v', ⟨-, u, -, q3⟩, g2, g3⟩, g4⟩
          exact ⟨⟨r, f, g, A, v', true, 0, Nat.le_of_eq q3.len, g2, g3⟩, g4⟩
      · exact none false 151 (saR_d hs hd _) (.inl (by decide))
end Go.Proofs.Ytgjcjhnnopandaa
