/- What Safe, Most and Choose answer of a model. Walks of DepthLargest, DepthNests and DepthHolds over letters: of what their calls answer. -/
import Derived.Test.YtgiohlcipndakaaGr23
import Derived.Test.YtgiohlcipndakaaGr26
/- What Safe, Most and Choose answer of a model. -/
namespace Go.Proofs.Ytgiohlcipndakaa
open Go.ChangeShapes Go.WideShapes Go.ChangeAt Go.RowKit Go.Shelf
set_option linter.unusedVariables false
theorem spD_t {slo shi dp : Int} {N : Nat} (h : vbB slo shi = true) (g : 1 ≤ dp ∧ dp ≤ (N : Int)) (r : Int × Int) : spD slo shi dp N r = (r.1, r.2, 0) := by unfold spD; rw [if_pos h, if_pos g]
theorem spD_d {slo shi dp : Int} {N : Nat} (h : vbB slo shi = true) (g : ¬ (1 ≤ dp ∧ dp ≤ (N : Int))) (r : Int × Int) : spD slo shi dp N r = (0, 0, 151) := by unfold spD; rw [if_pos h, if_neg g]
theorem spD_f {slo shi dp : Int} {N : Nat} (h : vbB slo shi = false) (r : Int × Int) : spD slo shi dp N r = (0, 0, 30) := by unfold spD; rw [if_neg (by rw [h]; decide)]
theorem dsaf_bad (h w c lo hi ot op ch : Int) (oa : Option Addr) (on oc : Nat) (W : World) (slo shi dp E : Int) (hE : E ≠ 0) (hO : (∀ W', Below W.heap.size W W' → Calls Try.prog 40 #[.agg #[.int .i64 h, .int .i64 w, .int .i64 c, .int .i64 lo, .int .i64 hi, .slice oa on oc, .int .i64 ot], .int .i64 op, .int .i64 ch, .int .i64 0] W' fun e w' => e = .returned (.tuple #[.slice none 0 0, .int .i64 0, .int .i64 E]) ∧ Below W'.heap.size W' w')) :
    Calls Try.prog 11 #[.agg #[.int .i64 h, .int .i64 w, .int .i64 c, .int .i64 lo, .int .i64 hi, .slice oa on oc, .int .i64 ot], .int .i64 op, .int .i64 ch, .agg #[.int .i64 slo, .int .i64 shi], .int .i64 dp] W fun e w' => e = .returned (.tuple #[.bool false, .int .i64 E]) ∧ Below W.heap.size W w' := by
  have := dsaf_w h w c lo hi ot op ch oa on oc W slo shi dp 0 0 E (fun W' hb => bprt_bad h w c lo hi ot op ch oa on oc W' slo shi dp E hE (fun W'' hb' => hO W'' (hb.trans (hb'.mono hb.size))))
  rw [saB_e hE] at this
  exact this
/-- What Safe answers: is it, and the error. -/
def saR (slo shi dp : Int) (N : Nat) (r : Int × Int) : Bool × Int := (saB (spD slo shi dp N r).1 (spD slo shi dp N r).2.1 (spD slo shi dp N r).2.2, (spD slo shi dp N r).2.2)
theorem saR_t {slo shi dp : Int} {N : Nat} (h : vbB slo shi = true) (g : 1 ≤ dp ∧ dp ≤ (N : Int)) (r : Int × Int) : saR slo shi dp N r = (w16 r, 0) := by unfold saR; rw [spD_t h g]; exact Prod.ext (saB_0 _ _) rfl
theorem saR_d {slo shi dp : Int} {N : Nat} (h : vbB slo shi = true) (g : ¬ (1 ≤ dp ∧ dp ≤ (N : Int))) (r : Int × Int) : saR slo shi dp N r = (false, 151) := by unfold saR; rw [spD_d h g]; rfl
theorem saR_f {slo shi dp : Int} {N : Nat} (h : vbB slo shi = false) (r : Int × Int) : saR slo shi dp N r = (false, 30) := by unfold saR; rw [spD_f h]; rfl
theorem dsaf_ok (h w c lo hi ot : Int) (oa : Option Addr) (on oc : Nat) (O : Nat → Nat → Int) (Z B : Nat → List Int) (W : World) (hL : LRow W oa on oc O Z B) (ch : Int) (RL : List (Int × Int × Int)) (Rw : Int) (hR : gtR O h w c lo hi ot on = (0, 0, RL, Rw)) (i : Nat) (x : Addr) (wa : Option Addr) (lw cw : Nat) (ba : Option Addr) (lb cb : Nat) (x0 y0 z0 H V C : Int) (hF : Fnd W oa on O Z B RL i x wa lw cw ba lb cb x0 y0 z0 H V C) (hch : 1 ≤ ch ∧ ch ≤ C) (slo shi dp : Int) (N : Nat) (hN : (siL (O i 0) (O i 4) (O i 5) (O i 6) (O i 7) (O i 8) (O i 9) (O i 10) (O i 11) x0 y0 z0 ch 0 (Z i)).length = N) :
    Calls Try.prog 11 #[.agg #[.int .i64 h, .int .i64 w, .int .i64 c, .int .i64 lo, .int .i64 hi, .slice oa on oc, .int .i64 ot], .int .i64 ((i : Int) + 1), .int .i64 ch, .agg #[.int .i64 slo, .int .i64 shi], .int .i64 dp] W fun e w' => e = .returned (.tuple #[.bool (saR slo shi dp N (hbD dp.toNat (fun (j : Nat) => enL slo shi (O i 19) (siL (O i 0) (O i 4) (O i 5) (O i 6) (O i 7) (O i 8) (O i 9) (O i 10) (O i 11) x0 y0 z0 ch (j : Int) (Z i))) (H * V).toNat)).1, .int .i64 (saR slo shi dp N (hbD dp.toNat (fun (j : Nat) => enL slo shi (O i 19) (siL (O i 0) (O i 4) (O i 5) (O i 6) (O i 7) (O i 8) (O i 9) (O i 10) (O i 11) x0 y0 z0 ch (j : Int) (Z i))) (H * V).toNat)).2]) ∧ Below W.heap.size W w' :=
  dsaf_w h w c lo hi ot ((i : Int) + 1) ch oa on oc W slo shi dp _ _ _ (fun W' hb => bprt_ok h w c lo hi ot oa on oc O Z B W' (hL.below hb) ch RL Rw hR i x wa lw cw ba lb cb x0 y0 z0 H V C (hF.below hb) hch slo shi dp N hN)
theorem op_len {h w c lo hi ot ch : Int} {oa : Option Addr} {on : Nat} {O : Nat → Nat → Int} {Z B : Nat → List Int} {W : World} (RL : List (Int × Int × Int)) (Rw : Int) (hR : gtR O h w c lo hi ot on = (0, 0, RL, Rw)) (i : Nat) (x : Addr) (wa : Option Addr) (lw cw : Nat) (ba : Option Addr) (lb cb : Nat) (x0 y0 z0 H V C : Int) (hF : Fnd W oa on O Z B RL i x wa lw cw ba lb cb x0 y0 z0 H V C) (hch : 1 ≤ ch ∧ ch ≤ C) (N : Nat) (hN : (siL (O i 0) (O i 4) (O i 5) (O i 6) (O i 7) (O i 8) (O i 9) (O i 10) (O i 11) x0 y0 z0 ch 0 (Z i)).length = N) : stR (O i 0) (O i 4) (O i 5) x0 y0 z0 = (N : Int) ∧ 0 < N ∧ N ≤ 512 := by
  have hs := hF.2.2.2.2.2.2.2.2.2.1
  have h1 : (siL (O i 0) (O i 4) (O i 5) (O i 6) (O i 7) (O i 8) (O i 9) (O i 10) (O i 11) x0 y0 z0 ch 0 (Z i)).length = (stR (O i 0) (O i 4) (O i 5) x0 y0 z0).toNat := by unfold siL; rw [tmL_len]
  have := hs.2.2.2.2.2.2.2.2
  omega
theorem dlen_ok {h w c lo hi ot ch : Int} {oa : Option Addr} {on : Nat} {O : Nat → Nat → Int} {Z B : Nat → List Int} {W : World} (RL : List (Int × Int × Int)) (Rw : Int) (hR : gtR O h w c lo hi ot on = (0, 0, RL, Rw)) (i : Nat) (x : Addr) (wa : Option Addr) (lw cw : Nat) (ba : Option Addr) (lb cb : Nat) (x0 y0 z0 H V C : Int) (hF : Fnd W oa on O Z B RL i x wa lw cw ba lb cb x0 y0 z0 H V C) (hch : 1 ≤ ch ∧ ch ≤ C) (N : Nat) (hN : (siL (O i 0) (O i 4) (O i 5) (O i 6) (O i 7) (O i 8) (O i 9) (O i 10) (O i 11) x0 y0 z0 ch 0 (Z i)).length = N) (W' : World) :
    Calls Try.prog 19 #[.agg #[.int .i64 (O i 0), .int .i64 (O i 1), .int .i64 (O i 2), .int .i64 (O i 3), .int .i64 (O i 4), .int .i64 (O i 5), .int .i64 (O i 6), .int .i64 (O i 7), .int .i64 (O i 8), .int .i64 (O i 9), .int .i64 (O i 10), .int .i64 (O i 11), .slice wa lw cw, .slice ba lb cb, .int .i64 (O i 14), .int .i64 (O i 15), .int .i64 (O i 16), .int .i64 (O i 17), .int .i64 (O i 18), .int .i64 (O i 19), .int .i64 (O i 20), .int .i64 (O i 21)]] W' fun e w' => e = .returned (.int .i64 (N : Int)) ∧ Below W'.heap.size W' w' := by
  obtain ⟨e1, e2, e3⟩ := op_len RL Rw hR i x wa lw cw ba lb cb x0 y0 z0 H V C hF hch N hN
  obtain ⟨k1, -, k3, -, -, k6, k7, -, -⟩ := hF.2.2.2.2.2.2.2.2.2.1
  have hv := vS_bd k3
  refine dlen_w (O i 0) (O i 1) (O i 2) (O i 3) (O i 4) (O i 5) (O i 6) (O i 7) (O i 8) (O i 9) (O i 10) (O i 11) wa lw cw ba lb cb (O i 14) (O i 15) (O i 16) (O i 17) (O i 18) (O i 19) (O i 20) (O i 21) N W' (fun q => ?_) (fun q => ?_) e3
  · obtain ⟨r1, r2⟩ := k6 (by omega)
    refine ⟨r1, r2, ?_⟩
    rw [← e1]; unfold stR; rw [if_neg (by omega), if_neg (by omega), if_pos (by omega)]
  · obtain ⟨r1, r2⟩ := k7 (by omega)
    rw [e1] at r1
    refine ⟨?_, by rw [r1, r2]⟩
    have : 1 ≤ C := by omega
    omega
theorem dmos_bad (h w c lo hi ot op ch : Int) (oa : Option Addr) (on oc : Nat) (W : World) (slo shi E : Int) (hE : E ≠ 0) (hO : (∀ W', Below W.heap.size W W' → Calls Try.prog 40 #[.agg #[.int .i64 h, .int .i64 w, .int .i64 c, .int .i64 lo, .int .i64 hi, .slice oa on oc, .int .i64 ot], .int .i64 op, .int .i64 ch, .int .i64 0] W' fun e w' => e = .returned (.tuple #[.slice none 0 0, .int .i64 0, .int .i64 E]) ∧ Below W'.heap.size W' w')) : Calls Try.prog 7 #[.agg #[.int .i64 h, .int .i64 w, .int .i64 c, .int .i64 lo, .int .i64 hi, .slice oa on oc, .int .i64 ot], .int .i64 op, .int .i64 ch, .agg #[.int .i64 slo, .int .i64 shi]] W fun e w' => e = .returned (.tuple #[.int .i64 0, .int .i64 E]) ∧ Below W.heap.size W w' :=
  dmos_e h w c lo hi ot op ch oa on oc W slo shi 0 0 E hE (fun W' hb => bprd_bad h w c lo hi ot op ch oa on oc W' slo shi E hE (fun W'' hb' => hO W'' (hb.trans (hb'.mono hb.size))))
/-- What Most answers: the depth, and the error. -/
def moR (slo shi : Int) (n : Nat) : Int × Int := if vbB slo shi = true then ((n : Int), 0) else (0, 30)
theorem moR_t {slo shi : Int} (h : vbB slo shi = true) (n : Nat) : moR slo shi n = ((n : Int), 0) := if_pos h
theorem moR_f {slo shi : Int} (h : vbB slo shi = false) (n : Nat) : moR slo shi n = (0, 30) := if_neg (by rw [h]; decide)
theorem dmos_ok (h w c lo hi ot : Int) (oa : Option Addr) (on oc : Nat) (O : Nat → Nat → Int) (Z B : Nat → List Int) (W : World) (hL : LRow W oa on oc O Z B) (ch : Int) (RL : List (Int × Int × Int)) (Rw : Int) (hR : gtR O h w c lo hi ot on = (0, 0, RL, Rw)) (i : Nat) (x : Addr) (wa : Option Addr) (lw cw : Nat) (ba : Option Addr) (lb cb : Nat) (x0 y0 z0 H V C : Int) (hF : Fnd W oa on O Z B RL i x wa lw cw ba lb cb x0 y0 z0 H V C) (hch : 1 ≤ ch ∧ ch ≤ C) (slo shi : Int) (N : Nat) (hN : (siL (O i 0) (O i 4) (O i 5) (O i 6) (O i 7) (O i 8) (O i 9) (O i 10) (O i 11) x0 y0 z0 ch 0 (Z i)).length = N) :
    Calls Try.prog 7 #[.agg #[.int .i64 h, .int .i64 w, .int .i64 c, .int .i64 lo, .int .i64 hi, .slice oa on oc, .int .i64 ot], .int .i64 ((i : Int) + 1), .int .i64 ch, .agg #[.int .i64 slo, .int .i64 shi]] W fun e w' => e = .returned (.tuple #[.int .i64 (moR slo shi (grN (sfD (fun (j : Nat) => enL slo shi (O i 19) (siL (O i 0) (O i 4) (O i 5) (O i 6) (O i 7) (O i 8) (O i 9) (O i 10) (O i 11) x0 y0 z0 ch (j : Int) (Z i))) (H * V).toNat) N)).1, .int .i64 (moR slo shi (grN (sfD (fun (j : Nat) => enL slo shi (O i 19) (siL (O i 0) (O i 4) (O i 5) (O i 6) (O i 7) (O i 8) (O i 9) (O i 10) (O i 11) x0 y0 z0 ch (j : Int) (Z i))) (H * V).toNat) N)).2]) ∧ Below W.heap.size W w' := by
  have hP : ∀ W', Below W.heap.size W W' → _ := fun W' hb => bprd_ok h w c lo hi ot oa on oc O Z B W' (hL.below hb) ch RL Rw hR i x wa lw cw ba lb cb x0 y0 z0 H V C (hF.below hb) hch slo shi
  cases hs : vbB slo shi with
  | false =>
    rw [moR_f hs]
    rw [spR_f hs] at hP
    exact dmos_e h w c lo hi ot ((i : Int) + 1) ch oa on oc W slo shi 0 0 30 (by decide) hP
  | true =>
    rw [moR_t hs]
    rw [spR_t hs] at hP
    obtain ⟨hopd, hk4, -, -, hbf2, hbi, -⟩ := bfacts hL RL Rw hR i x wa lw cw ba lb cb x0 y0 z0 H V C hF hch
    have hz := hF.2.2.2.2.2.1.2.2.2.1
    have hv := vbB_yes hs
    have hbf := hopd.si hk4
    obtain ⟨e1, e2, e3⟩ := op_len RL Rw hR i x wa lw cw ba lb cb x0 y0 z0 H V C hF hch N hN
    cases hn : w16 (hbP (fun (j : Nat) => enL slo shi (O i 19) (siL (O i 0) (O i 4) (O i 5) (O i 6) (O i 7) (O i 8) (O i 9) (O i 10) (O i 11) x0 y0 z0 ch (j : Int) (Z i))) (H * V).toNat) with
    | false =>
      rw [most_none hbf hz hch hv hbf2 hbi N hn]
      exact dmos_n h w c lo hi ot ((i : Int) + 1) ch oa on oc W slo shi _ _ 0 rfl hP hn
    | true =>
      obtain rfl : oa = some x := hF.2.1
      refine dmos_y h w c lo hi ot ((i : Int) + 1) ch x on oc W slo shi _ _ hP hn i hF.1 rfl (by have := hL.1; have := hL.2.1; have := (gtR_ok hR).2.2.1; omega) (O i 0) (O i 1) (O i 2) (O i 3) (O i 4) (O i 5) (O i 6) (O i 7) (O i 8) (O i 9) (O i 10) (O i 11) wa lw cw ba lb cb (O i 14) (O i 15) (O i 16) (O i 17) (O i 18) (O i 19) (O i 20) (O i 21) hF.2.2.2.2.1 N e3 (sfD (fun (j : Nat) => enL slo shi (O i 19) (siL (O i 0) (O i 4) (O i 5) (O i 6) (O i 7) (O i 8) (O i 9) (O i 10) (O i 11) x0 y0 z0 ch (j : Int) (Z i))) (H * V).toNat) (fun W' => dlen_ok RL Rw hR i x wa lw cw ba lb cb x0 y0 z0 H V C hF hch N hN W') (fun W' d hb h1 h2 => ?_)
      have := dsaf_ok h w c lo hi ot (some x) on oc O Z B W' (hL.below hb) ch RL Rw hR i x wa lw cw ba lb cb x0 y0 z0 H V C (hF.below hb) hch slo shi d N hN
      rw [saR_t hs ⟨by omega, by omega⟩, Int.toNat_natCast] at this
      exact this
theorem dcho_bad (h w c lo hi ot op ch : Int) (oa : Option Addr) (on oc : Nat) (W : World) (slo shi E : Int) (hE : E ≠ 0) (hO : (∀ W', Below W.heap.size W W' → Calls Try.prog 40 #[.agg #[.int .i64 h, .int .i64 w, .int .i64 c, .int .i64 lo, .int .i64 hi, .slice oa on oc, .int .i64 ot], .int .i64 op, .int .i64 ch, .int .i64 0] W' fun e w' => e = .returned (.tuple #[.slice none 0 0, .int .i64 0, .int .i64 E]) ∧ Below W'.heap.size W' w')) : Calls Try.prog 13 #[.agg #[.int .i64 h, .int .i64 w, .int .i64 c, .int .i64 lo, .int .i64 hi, .slice oa on oc, .int .i64 ot], .int .i64 op, .int .i64 ch, .agg #[.int .i64 slo, .int .i64 shi]] W fun e w' => e = .returned (.tuple #[.agg #[.int .i64 0, .int .i64 0, .int .i64 0, .int .i64 0, .int .i64 0, .int .i64 0], .int .i64 E]) ∧ Below W.heap.size W w' :=
  dcho_e h w c lo hi ot op ch oa on oc W slo shi 0 0 E hE (fun W' hb => brun_bad h w c lo hi ot op ch oa on oc W' slo shi E hE (fun W'' hb' => hO W'' (hb.trans (hb'.mono hb.size))))
/-- The best plan's cells. -/
def chC (K N : Nat) (R P T : Int × Int) : Array Value := if 0 < K then #[.int .i64 16, .int .i64 (K : Int), .int .i64 P.1, .int .i64 P.2, .int .i64 T.1, .int .i64 T.2] else #[.int .i64 32, .int .i64 (N : Int), .int .i64 R.1, .int .i64 R.2, .int .i64 T.1, .int .i64 T.2]
theorem dcho_30 (h w c lo hi ot : Int) (oa : Option Addr) (on oc : Nat) (O : Nat → Nat → Int) (Z B : Nat → List Int) (W : World) (hL : LRow W oa on oc O Z B) (ch : Int) (RL : List (Int × Int × Int)) (Rw : Int) (hR : gtR O h w c lo hi ot on = (0, 0, RL, Rw)) (i : Nat) (x : Addr) (wa : Option Addr) (lw cw : Nat) (ba : Option Addr) (lb cb : Nat) (x0 y0 z0 H V C : Int) (hF : Fnd W oa on O Z B RL i x wa lw cw ba lb cb x0 y0 z0 H V C) (hch : 1 ≤ ch ∧ ch ≤ C) (slo shi : Int) (hs : vbB slo shi = false) :
    Calls Try.prog 13 #[.agg #[.int .i64 h, .int .i64 w, .int .i64 c, .int .i64 lo, .int .i64 hi, .slice oa on oc, .int .i64 ot], .int .i64 ((i : Int) + 1), .int .i64 ch, .agg #[.int .i64 slo, .int .i64 shi]] W fun e w' => e = .returned (.tuple #[.agg #[.int .i64 0, .int .i64 0, .int .i64 0, .int .i64 0, .int .i64 0, .int .i64 0], .int .i64 30]) ∧ Below W.heap.size W w' := by
  have hP : ∀ W', Below W.heap.size W W' → _ := fun W' hb => brun_ok h w c lo hi ot oa on oc O Z B W' (hL.below hb) ch RL Rw hR i x wa lw cw ba lb cb x0 y0 z0 H V C (hF.below hb) hch slo shi
  rw [spR_f hs] at hP
  exact dcho_e h w c lo hi ot ((i : Int) + 1) ch oa on oc W slo shi 0 0 30 (by decide) hP
theorem dcho_154 (h w c lo hi ot : Int) (oa : Option Addr) (on oc : Nat) (O : Nat → Nat → Int) (Z B : Nat → List Int) (W : World) (hL : LRow W oa on oc O Z B) (ch : Int) (RL : List (Int × Int × Int)) (Rw : Int) (hR : gtR O h w c lo hi ot on = (0, 0, RL, Rw)) (i : Nat) (x : Addr) (wa : Option Addr) (lw cw : Nat) (ba : Option Addr) (lb cb : Nat) (x0 y0 z0 H V C : Int) (hF : Fnd W oa on O Z B RL i x wa lw cw ba lb cb x0 y0 z0 H V C) (hch : 1 ≤ ch ∧ ch ≤ C) (slo shi : Int) (hs : vbB slo shi = true) (hn : w32 (hbR (biA (O i 0) ch (B i)) (fun (j : Nat) => enL slo shi (O i 19) (siL (O i 0) (O i 4) (O i 5) (O i 6) (O i 7) (O i 8) (O i 9) (O i 10) (O i 11) x0 y0 z0 ch (j : Int) (Z i))) (H * V).toNat) = false) :
    Calls Try.prog 13 #[.agg #[.int .i64 h, .int .i64 w, .int .i64 c, .int .i64 lo, .int .i64 hi, .slice oa on oc, .int .i64 ot], .int .i64 ((i : Int) + 1), .int .i64 ch, .agg #[.int .i64 slo, .int .i64 shi]] W fun e w' => e = .returned (.tuple #[.agg #[.int .i64 0, .int .i64 0, .int .i64 0, .int .i64 0, .int .i64 0, .int .i64 0], .int .i64 154]) ∧ Below W.heap.size W w' := by
  have hP : ∀ W', Below W.heap.size W W' → _ := fun W' hb => brun_ok h w c lo hi ot oa on oc O Z B W' (hL.below hb) ch RL Rw hR i x wa lw cw ba lb cb x0 y0 z0 H V C (hF.below hb) hch slo shi
  rw [spR_t hs] at hP
  exact dcho_n h w c lo hi ot ((i : Int) + 1) ch oa on oc W slo shi _ _ 0 rfl hP hn
theorem dcho_ok (h w c lo hi ot : Int) (oa : Option Addr) (on oc : Nat) (O : Nat → Nat → Int) (Z B : Nat → List Int) (W : World) (hL : LRow W oa on oc O Z B) (ch : Int) (RL : List (Int × Int × Int)) (Rw : Int) (hR : gtR O h w c lo hi ot on = (0, 0, RL, Rw)) (i : Nat) (x : Addr) (wa : Option Addr) (lw cw : Nat) (ba : Option Addr) (lb cb : Nat) (x0 y0 z0 H V C : Int) (hF : Fnd W oa on O Z B RL i x wa lw cw ba lb cb x0 y0 z0 H V C) (hch : 1 ≤ ch ∧ ch ≤ C) (slo shi : Int) (N : Nat) (hN : (siL (O i 0) (O i 4) (O i 5) (O i 6) (O i 7) (O i 8) (O i 9) (O i 10) (O i 11) x0 y0 z0 ch 0 (Z i)).length = N) (hs : vbB slo shi = true) (hn : w32 (hbR (biA (O i 0) ch (B i)) (fun (j : Nat) => enL slo shi (O i 19) (siL (O i 0) (O i 4) (O i 5) (O i 6) (O i 7) (O i 8) (O i 9) (O i 10) (O i 11) x0 y0 z0 ch (j : Int) (Z i))) (H * V).toNat) = true) :
    Calls Try.prog 13 #[.agg #[.int .i64 h, .int .i64 w, .int .i64 c, .int .i64 lo, .int .i64 hi, .slice oa on oc, .int .i64 ot], .int .i64 ((i : Int) + 1), .int .i64 ch, .agg #[.int .i64 slo, .int .i64 shi]] W fun e w' => e = .returned (.tuple #[.agg (chC (grN (sfD (fun (j : Nat) => enL slo shi (O i 19) (siL (O i 0) (O i 4) (O i 5) (O i 6) (O i 7) (O i 8) (O i 9) (O i 10) (O i 11) x0 y0 z0 ch (j : Int) (Z i))) (H * V).toNat) N) N (hbR (biA (O i 0) ch (B i)) (fun (j : Nat) => enL slo shi (O i 19) (siL (O i 0) (O i 4) (O i 5) (O i 6) (O i 7) (O i 8) (O i 9) (O i 10) (O i 11) x0 y0 z0 ch (j : Int) (Z i))) (H * V).toNat) (hbD (grN (sfD (fun (j : Nat) => enL slo shi (O i 19) (siL (O i 0) (O i 4) (O i 5) (O i 6) (O i 7) (O i 8) (O i 9) (O i 10) (O i 11) x0 y0 z0 ch (j : Int) (Z i))) (H * V).toNat) N) (fun (j : Nat) => enL slo shi (O i 19) (siL (O i 0) (O i 4) (O i 5) (O i 6) (O i 7) (O i 8) (O i 9) (O i 10) (O i 11) x0 y0 z0 ch (j : Int) (Z i))) (H * V).toNat) (hbT (biA (O i 0) ch (B i)) (fun (j : Nat) => enL slo shi (O i 19) (siL (O i 0) (O i 4) (O i 5) (O i 6) (O i 7) (O i 8) (O i 9) (O i 10) (O i 11) x0 y0 z0 ch (j : Int) (Z i))) (H * V).toNat)), .int .i64 0]) ∧ Below W.heap.size W w' := by
  have hP : ∀ W', Below W.heap.size W W' → _ := fun W' hb => brun_ok h w c lo hi ot oa on oc O Z B W' (hL.below hb) ch RL Rw hR i x wa lw cw ba lb cb x0 y0 z0 H V C (hF.below hb) hch slo shi
  rw [spR_t hs] at hP
  have hT : ∀ W', Below W.heap.size W W' → _ := fun W' hb => btot_ok h w c lo hi ot oa on oc O Z B W' (hL.below hb) ch RL Rw hR i x wa lw cw ba lb cb x0 y0 z0 H V C (hF.below hb) hch slo shi
  rw [spR_t hs] at hT
  have hM : ∀ W', Below W.heap.size W W' → _ := fun W' hb => dmos_ok h w c lo hi ot oa on oc O Z B W' (hL.below hb) ch RL Rw hR i x wa lw cw ba lb cb x0 y0 z0 H V C (hF.below hb) hch slo shi N hN
  rw [moR_t hs] at hM
  obtain ⟨e1, e2, e3⟩ := op_len RL Rw hR i x wa lw cw ba lb cb x0 y0 z0 H V C hF hch N hN
  have hKN := grN_le (sfD (fun (j : Nat) => enL slo shi (O i 19) (siL (O i 0) (O i 4) (O i 5) (O i 6) (O i 7) (O i 8) (O i 9) (O i 10) (O i 11) x0 y0 z0 ch (j : Int) (Z i))) (H * V).toNat) N
  obtain rfl : oa = some x := hF.2.1
  refine dcho_y h w c lo hi ot ((i : Int) + 1) ch x on oc W slo shi _ _ _ _ _ _ hP hn i hF.1 rfl (by have := hL.1; have := hL.2.1; have := (gtR_ok hR).2.2.1; omega) (O i 0) (O i 1) (O i 2) (O i 3) (O i 4) (O i 5) (O i 6) (O i 7) (O i 8) (O i 9) (O i 10) (O i 11) wa lw cw ba lb cb (O i 14) (O i 15) (O i 16) (O i 17) (O i 18) (O i 19) (O i 20) (O i 21) hF.2.2.2.2.1 N (grN (sfD (fun (j : Nat) => enL slo shi (O i 19) (siL (O i 0) (O i 4) (O i 5) (O i 6) (O i 7) (O i 8) (O i 9) (O i 10) (O i 11) x0 y0 z0 ch (j : Int) (Z i))) (H * V).toNat) N) e3 (by omega) (fun W' => dlen_ok RL Rw hR i x wa lw cw ba lb cb x0 y0 z0 H V C hF hch N hN W') hM (fun hK W' hb => ?_) hT
  have := bprt_ok h w c lo hi ot (some x) on oc O Z B W' (hL.below hb) ch RL Rw hR i x wa lw cw ba lb cb x0 y0 z0 H V C (hF.below hb) hch slo shi ((grN (sfD (fun (j : Nat) => enL slo shi (O i 19) (siL (O i 0) (O i 4) (O i 5) (O i 6) (O i 7) (O i 8) (O i 9) (O i 10) (O i 11) x0 y0 z0 ch (j : Int) (Z i))) (H * V).toNat) N) : Nat) N hN
  rw [spD_t hs ⟨by omega, by omega⟩, Int.toNat_natCast] at this
  exact this
end Go.Proofs.Ytgiohlcipndakaa

/- Walks of DepthLargest, DepthNests and DepthHolds over letters: of what their calls answer. -/
namespace Go.Proofs.Ytgiohlcipndakaa
open Go.ChangeShapes Go.WideShapes Go.ChangeAt Go.RowKit
set_option linter.unusedVariables false
set_option maxRecDepth 100000 in
set_option maxHeartbeats 8000000 in
theorem largest_e (h w c lo hi : Int) (oa : Option Addr) (on oc : Nat) (ot op ch slo shi ylo yhi dp wd pd p1 p2 t1 t2 : Int) (W : World) (E n f : Int) (hE : E ≠ 0) (hX : ∀ W', Calls Try.prog 6 #[] W' fun e w' => e = .returned (.bool true) ∧ Below W'.heap.size W' w')
    (hM : ∀ W', Below W.heap.size W W' → Calls Try.prog 7 #[.agg #[.int .i64 h, .int .i64 w, .int .i64 c, .int .i64 lo, .int .i64 hi, .slice oa on oc, .int .i64 ot], .int .i64 op, .int .i64 ch, .agg #[.int .i64 slo, .int .i64 shi]] W' fun e w' => e = .returned (.tuple #[.int .i64 0, .int .i64 E]) ∧ Below W'.heap.size W' w')
    (hL : ∀ W', Below W.heap.size W W' → Calls Try.prog 8 #[.agg #[.int .i64 h, .int .i64 w, .int .i64 c, .int .i64 lo, .int .i64 hi, .slice oa on oc, .int .i64 ot], .int .i64 op] W' fun e w' => e = .returned (.tuple #[.int .i64 n, .int .i64 f]) ∧ Below W'.heap.size W' w')
    (hP : ∀ W', Below W.heap.size W W' → Calls Try.prog 9 #[.agg #[.int .i64 h, .int .i64 w, .int .i64 c, .int .i64 lo, .int .i64 hi, .slice oa on oc, .int .i64 ot], .int .i64 op, .int .i64 ch, .agg #[.int .i64 slo, .int .i64 shi]] W' fun e w' => e = .returned (.tuple #[.agg #[.int .i64 0, .int .i64 0], .int .i64 E]) ∧ Below W'.heap.size W' w') :
    Calls Try.prog 3 #[.agg #[.int .i64 h, .int .i64 w, .int .i64 c, .int .i64 lo, .int .i64 hi, .slice oa on oc, .int .i64 ot, .int .i64 op, .int .i64 ch, .int .i64 slo, .int .i64 shi, .int .i64 ylo, .int .i64 yhi, .int .i64 dp, .int .i64 wd, .int .i64 pd, .int .i64 p1, .int .i64 p2, .int .i64 t1, .int .i64 t2]] W fun e w' => e = .returned (.bool true) ∧ Below W.heap.size W w' := by
  have HX : Hid (∀ W', _) := hX
  have HM : Hid (∀ W', Below W.heap.size W W' → _) := hM
  have HL : Hid (∀ W', Below W.heap.size W W' → _) := hL
  have HP : Hid (∀ W', Below W.heap.size W W' → _) := hP
  have hE' : (E == 0) = false := by simp [hE]
  have s0 := (St.start W).new (c := #[.int .i64 h, .int .i64 w, .int .i64 c, .int .i64 lo, .int .i64 hi, .slice oa on oc, .int .i64 ot, .int .i64 op, .int .i64 ch, .int .i64 slo, .int .i64 shi, .int .i64 ylo, .int .i64 yhi, .int .i64 dp, .int .i64 wd, .int .i64 pd, .int .i64 p1, .int .i64 p2, .int .i64 t1, .int .i64 t2]) (t := 32)
  clear hX hM hL hP
  go_enter Try.func3, Try.ntmps3
  go_wp2_with fail
  refine (HX.out _).mono ?_
  rintro e w1 ⟨rfl, hb⟩
  have s1 := s0.call hb
  clear hb s0 HX
  obtain ⟨c1, f1, z1, -⟩ := s1.rules
  go_wp2_with fail
  refine (HM.out _ s1.below).mono ?_
  rintro e w2 ⟨rfl, hb⟩
  have s2 := s1.call hb
  clear hb s1 HM c1 f1 z1
  obtain ⟨c1, f1, z1, -⟩ := s2.rules
  go_wp2_with fail
  refine (HL.out _ s2.below).mono ?_
  rintro e w3 ⟨rfl, hb⟩
  have s3 := s2.call hb
  clear hb s2 HL c1 f1 z1
  obtain ⟨c1, f1, z1, -⟩ := s3.rules
  go_wp2_with fail
  refine (HP.out _ s3.below).mono ?_
  rintro e w4 ⟨rfl, hb⟩
  have s4 := (s3.call hb).new (c := #[.int .i64 0, .int .i64 0]) (t := 28)
  have HB : Hid (Below W.heap.size W _) := s4.below
  clear hb s3 HP c1 f1 z1 s4
  go_wp2
  go_ret
  exact ⟨rfl, HB.out⟩
/-! ### DepthLargest -/
set_option maxRecDepth 100000 in
set_option maxHeartbeats 8000000 in
theorem largest_z (h w c lo hi : Int) (oa : Option Addr) (on oc : Nat) (ot op ch slo shi ylo yhi dp wd pd p1 p2 t1 t2 : Int) (W : World) (N : Nat) (q1 q2 : Int) (D : Nat → Int × Int) (hN : N ≤ 512) (hN1 : 1 ≤ N) (hq : xho (-32768) 32767 q1 q2 = false) (hX : ∀ W', Calls Try.prog 6 #[] W' fun e w' => e = .returned (.bool true) ∧ Below W'.heap.size W' w')
    (hM : ∀ W', Below W.heap.size W W' → Calls Try.prog 7 #[.agg #[.int .i64 h, .int .i64 w, .int .i64 c, .int .i64 lo, .int .i64 hi, .slice oa on oc, .int .i64 ot], .int .i64 op, .int .i64 ch, .agg #[.int .i64 slo, .int .i64 shi]] W' fun e w' => e = .returned (.tuple #[.int .i64 0, .int .i64 0]) ∧ Below W'.heap.size W' w')
    (hL : ∀ W', Below W.heap.size W W' → Calls Try.prog 8 #[.agg #[.int .i64 h, .int .i64 w, .int .i64 c, .int .i64 lo, .int .i64 hi, .slice oa on oc, .int .i64 ot], .int .i64 op] W' fun e w' => e = .returned (.tuple #[.int .i64 (N : Int), .int .i64 0]) ∧ Below W'.heap.size W' w')
    (hP : ∀ W', Below W.heap.size W W' → Calls Try.prog 9 #[.agg #[.int .i64 h, .int .i64 w, .int .i64 c, .int .i64 lo, .int .i64 hi, .slice oa on oc, .int .i64 ot], .int .i64 op, .int .i64 ch, .agg #[.int .i64 slo, .int .i64 shi]] W' fun e w' => e = .returned (.tuple #[.agg #[.int .i64 q1, .int .i64 q2], .int .i64 0]) ∧ Below W'.heap.size W' w')
    (hS : ∀ W' (d : Nat), Below W.heap.size W W' → 1 ≤ d → 0 ≤ d → d ≤ N → Calls Try.prog 11 #[.agg #[.int .i64 h, .int .i64 w, .int .i64 c, .int .i64 lo, .int .i64 hi, .slice oa on oc, .int .i64 ot], .int .i64 op, .int .i64 ch, .agg #[.int .i64 slo, .int .i64 shi], .int .i64 (d : Int)] W' fun e w' => e = .returned (.tuple #[.bool (false), .int .i64 0]) ∧ Below W'.heap.size W' w')
    (hD : ∀ W' (d : Nat), Below W.heap.size W W' → 1 ≤ d → d ≤ N → Calls Try.prog 12 #[.agg #[.int .i64 h, .int .i64 w, .int .i64 c, .int .i64 lo, .int .i64 hi, .slice oa on oc, .int .i64 ot], .int .i64 op, .int .i64 ch, .agg #[.int .i64 slo, .int .i64 shi], .int .i64 (d : Int)] W' fun e w' => e = .returned (.tuple #[.agg #[.int .i64 (D d).1, .int .i64 (D d).2], .int .i64 0]) ∧ Below W'.heap.size W' w')
    (hd : ∀ d : Nat, 1 ≤ d → 0 ≤ d → d ≤ N → xho (-32768) 32767 (D d).1 (D d).2 = false) :
    Calls Try.prog 3 #[.agg #[.int .i64 h, .int .i64 w, .int .i64 c, .int .i64 lo, .int .i64 hi, .slice oa on oc, .int .i64 ot, .int .i64 op, .int .i64 ch, .int .i64 slo, .int .i64 shi, .int .i64 ylo, .int .i64 yhi, .int .i64 dp, .int .i64 wd, .int .i64 pd, .int .i64 p1, .int .i64 p2, .int .i64 t1, .int .i64 t2]] W fun e w' => e = .returned (.bool true) ∧ Below W.heap.size W w' := by
  have HX : Hid (∀ W', _) := hX
  have HM : Hid (∀ W', Below W.heap.size W W' → _) := hM
  have HL : Hid (∀ W', Below W.heap.size W W' → _) := hL
  have HP : Hid (∀ W', Below W.heap.size W W' → _) := hP
  have HS : Hid (∀ W' (d : Nat), Below W.heap.size W W' → 1 ≤ d → 0 ≤ d → d ≤ N → _) := hS
  have HD : Hid (∀ W' (d : Nat), Below W.heap.size W W' → 1 ≤ d → d ≤ N → _) := hD
  have Hd : Hid (∀ d : Nat, 1 ≤ d → 0 ≤ d → d ≤ N → xho (-32768) 32767 (D d).1 (D d).2 = false) := hd
  have HQ : Hid (∀ W', _) := fun W' => xholds_any (-32768) 32767 q1 q2 W'
  rw [hq] at HQ
  have s0 := (St.start W).new (c := #[.int .i64 h, .int .i64 w, .int .i64 c, .int .i64 lo, .int .i64 hi, .slice oa on oc, .int .i64 ot, .int .i64 op, .int .i64 ch, .int .i64 slo, .int .i64 shi, .int .i64 ylo, .int .i64 yhi, .int .i64 dp, .int .i64 wd, .int .i64 pd, .int .i64 p1, .int .i64 p2, .int .i64 t1, .int .i64 t2]) (t := 32)
  clear hX hM hL hP hS hD hd hq
  go_enter Try.func3, Try.ntmps3
  go_wp2_with fail
  refine (HX.out _).mono ?_
  rintro e w1 ⟨rfl, hb⟩
  have s1 := s0.call hb
  clear hb s0 HX
  obtain ⟨c1, f1, z1, -⟩ := s1.rules
  go_wp2_with fail
  refine (HM.out _ s1.below).mono ?_
  rintro e w2 ⟨rfl, hb⟩
  have s2 := s1.call hb
  clear hb s1 HM c1 f1 z1
  obtain ⟨c1, f1, z1, -⟩ := s2.rules
  go_wp2_with fail
  refine (HL.out _ s2.below).mono ?_
  rintro e w3 ⟨rfl, hb⟩
  have s3 := s2.call hb
  clear hb s2 HL c1 f1 z1
  obtain ⟨c1, f1, z1, -⟩ := s3.rules
  go_wp2_with fail
  refine (HP.out _ s3.below).mono ?_
  rintro e w4 ⟨rfl, hb⟩
  have s4 := ((s3.call hb).new (c := #[.int .i64 q1, .int .i64 q2]) (t := 28)).new (c := #[.int .i64 (-32768), .int .i64 32767]) (t := 28)
  simp only [World.size_alloc] at s4
  have hz4 := lt_of_heap (s3.call hb).h1
  have S4 : Hid (St W _ _) := s4
  clear hb s3 HP c1 f1 z1 s4
  go_wp2_with fail
  refine (HQ.out _).mono ?_
  rintro e w5 ⟨rfl, hb⟩
  have s5 := S4.out.call hb
  obtain ⟨Bq, hBq⟩ : ∃ B, w4.heap.size = B := ⟨_, rfl⟩
  obtain ⟨Bw, hBw⟩ : ∃ B, w4.heap.size + 1 = B := ⟨_, rfl⟩
  rw [hBw, hBq] at s5
  rw [hBw, hBq]
  have S5 : Hid (St W w5 [(Bw, #[.int .i64 (-32768), .int .i64 32767], 28), (Bq, #[.int .i64 q1, .int .i64 q2], 28), (W.heap.size, #[.int .i64 h, .int .i64 w, .int .i64 c, .int .i64 lo, .int .i64 hi, .slice oa on oc, .int .i64 ot, .int .i64 op, .int .i64 ch, .int .i64 slo, .int .i64 shi, .int .i64 ylo, .int .i64 yhi, .int .i64 dp, .int .i64 wd, .int .i64 pd, .int .i64 p1, .int .i64 p2, .int .i64 t1, .int .i64 t2], 32)]) := s5
  clear hb S4 HQ s5 hBw hBq hz4
  go_wp2
  go_loopw [10] (fun i wr => ∃ d : Nat, 1 ≤ d ∧ 0 ≤ d ∧ d ≤ N + 1 ∧ i = .int .i64 d ∧ St W wr [(Bw, #[.int .i64 (-32768), .int .i64 32767], 28), (Bq, #[.int .i64 q1, .int .i64 q2], 28), (W.heap.size, #[.int .i64 h, .int .i64 w, .int .i64 c, .int .i64 lo, .int .i64 hi, .slice oa on oc, .int .i64 ot, .int .i64 op, .int .i64 ch, .int .i64 slo, .int .i64 shi, .int .i64 ylo, .int .i64 yhi, .int .i64 dp, .int .i64 wd, .int .i64 pd, .int .i64 p1, .int .i64 p2, .int .i64 t1, .int .i64 t2], 32)]) (fun i _ => N + 1 - (intOf i).toNat)
  case atStart => exact ⟨1, by omega, by omega, by omega, by first | rfl | (rw [k7.out (by omega)]), S5.out⟩
  case round =>
    obtain ⟨d, h1, h2, h3, rfl, s⟩ := hrel
    clear S5
    have S : Hid (St W wr [(Bw, #[.int .i64 (-32768), .int .i64 32767], 28), (Bq, #[.int .i64 q1, .int .i64 q2], 28), (W.heap.size, #[.int .i64 h, .int .i64 w, .int .i64 c, .int .i64 lo, .int .i64 hi, .slice oa on oc, .int .i64 ot, .int .i64 op, .int .i64 ch, .int .i64 slo, .int .i64 shi, .int .i64 ylo, .int .i64 yhi, .int .i64 dp, .int .i64 wd, .int .i64 pd, .int .i64 p1, .int .i64 p2, .int .i64 t1, .int .i64 t2], 32)]) := s
    have w40 : IntKind.i64.wrap (0 + 40) = 0 + 40 := by rw [IntKind.wrap_i64]; omega
    by_cases hc : d ≤ N ∧ d < 0 + 40
    · obtain ⟨hc1, hc2⟩ := hc
      have hd5 : d ≤ 512 := by omega
      have hc1' : (d : Int) ≤ (N : Int) := by omega
      have hc2' : (d : Int) < 0 + 40 := by omega
      have HSd : Hid _ := HS.out wr d s.below h1 h2 hc1
      have HDd : Hid (∀ W', Below W.heap.size W W' → _) := fun W' hb => HD.out W' d hb h1 hc1
      have HHd : Hid (∀ W', _) := fun W' => xholds_any (-32768) 32767 (D d).1 (D d).2 W'
      rw [Hd.out d h1 h2 hc1] at HHd
      obtain ⟨D1, hD1⟩ : ∃ x, (D d).1 = x := ⟨_, rfl⟩
      obtain ⟨D2, hD2⟩ : ∃ x, (D d).2 = x := ⟨_, rfl⟩
      rw [hD1, hD2] at HDd HHd
      clear hD1 hD2 hc2
      obtain ⟨-, -, -, -, -, -, c3, f3, z3, -⟩ := s.rules
      clear s
      have k5 : ((d : Int) == 0) = false := by rw [beq_eq_false_iff_ne]; omega
      go_wp2_with fail
      refine Calls.mono HSd.out ?_
      rintro e w6 ⟨rfl, hb⟩
      have S6 : Hid (St W w6 [(Bw, #[.int .i64 (-32768), .int .i64 32767], 28), (Bq, #[.int .i64 q1, .int .i64 q2], 28), (W.heap.size, #[.int .i64 h, .int .i64 w, .int .i64 c, .int .i64 lo, .int .i64 hi, .slice oa on oc, .int .i64 ot, .int .i64 op, .int .i64 ch, .int .i64 slo, .int .i64 shi, .int .i64 ylo, .int .i64 yhi, .int .i64 dp, .int .i64 wd, .int .i64 pd, .int .i64 p1, .int .i64 p2, .int .i64 t1, .int .i64 t2], 32)]) := S.out.call hb
      clear hb S HSd c3 f3 z3
      obtain ⟨-, -, -, -, -, -, c3, f3, z3, -⟩ := S6.out.rules
      go_wp2_with fail
      refine Calls.mono (HDd.out _ S6.out.below) ?_
      rintro e w7 ⟨rfl, hb⟩
      have s7 := (S6.out.call hb).new (c := #[.int .i64 D1, .int .i64 D2]) (t := 28)
      clear hb S6 HDd c3 f3 z3
      obtain ⟨c1, f1, z1, c2, f2, z2, -⟩ := s7.rules
      have S7 : Hid (St W _ _) := s7
      clear s7
      go_wp2_with fail
      refine Calls.mono (HHd.out _) ?_
      rintro e w8 ⟨rfl, hb⟩
      have S8 : Hid (St W w8 [(Bw, #[.int .i64 (-32768), .int .i64 32767], 28), (Bq, #[.int .i64 q1, .int .i64 q2], 28), (W.heap.size, #[.int .i64 h, .int .i64 w, .int .i64 c, .int .i64 lo, .int .i64 hi, .slice oa on oc, .int .i64 ot, .int .i64 op, .int .i64 ch, .int .i64 slo, .int .i64 shi, .int .i64 ylo, .int .i64 yhi, .int .i64 dp, .int .i64 wd, .int .i64 pd, .int .i64 p1, .int .i64 p2, .int .i64 t1, .int .i64 t2], 32)]) := (S7.out.call hb).tail
      clear hb S7 HHd c1 f1 z1 c2 f2 z2
      go_wp2
      go_roundw
      case rel => exact ⟨d + 1, by omega, by omega, by omega, by go_num, S8.out⟩
      case measure => simp [intOf]; omega
    · have HB : Hid (Below W.heap.size W wr) := s.below
      clear s S
      by_cases hc1 : d ≤ N
      · have hc1' : (d : Int) ≤ (N : Int) := by omega
        have hc2' : ¬ (d : Int) < 0 + 40 := by omega
        clear hc
        go_wp2
        go_ret
        exact ⟨rfl, HB.out⟩
      · have hc1' : ¬ (d : Int) ≤ (N : Int) := by omega
        clear hc
        go_wp2
        go_ret
        exact ⟨rfl, HB.out⟩
set_option maxRecDepth 100000 in
set_option maxHeartbeats 8000000 in
theorem largest_p (h w c lo hi : Int) (oa : Option Addr) (on oc : Nat) (ot op ch slo shi ylo yhi dp wd pd p1 p2 t1 t2 : Int) (W : World) (K : Nat) (N : Nat) (q1 q2 : Int) (D : Nat → Int × Int) (hN : N ≤ 512) (hN1 : 1 ≤ N) (hK : 0 < K) (hKN : K ≤ N) (hq : xho (-32768) 32767 q1 q2 = true) (hX : ∀ W', Calls Try.prog 6 #[] W' fun e w' => e = .returned (.bool true) ∧ Below W'.heap.size W' w')
    (hM : ∀ W', Below W.heap.size W W' → Calls Try.prog 7 #[.agg #[.int .i64 h, .int .i64 w, .int .i64 c, .int .i64 lo, .int .i64 hi, .slice oa on oc, .int .i64 ot], .int .i64 op, .int .i64 ch, .agg #[.int .i64 slo, .int .i64 shi]] W' fun e w' => e = .returned (.tuple #[.int .i64 (K : Int), .int .i64 0]) ∧ Below W'.heap.size W' w')
    (hL : ∀ W', Below W.heap.size W W' → Calls Try.prog 8 #[.agg #[.int .i64 h, .int .i64 w, .int .i64 c, .int .i64 lo, .int .i64 hi, .slice oa on oc, .int .i64 ot], .int .i64 op] W' fun e w' => e = .returned (.tuple #[.int .i64 (N : Int), .int .i64 0]) ∧ Below W'.heap.size W' w')
    (hP : ∀ W', Below W.heap.size W W' → Calls Try.prog 9 #[.agg #[.int .i64 h, .int .i64 w, .int .i64 c, .int .i64 lo, .int .i64 hi, .slice oa on oc, .int .i64 ot], .int .i64 op, .int .i64 ch, .agg #[.int .i64 slo, .int .i64 shi]] W' fun e w' => e = .returned (.tuple #[.agg #[.int .i64 q1, .int .i64 q2], .int .i64 0]) ∧ Below W'.heap.size W' w')
    (hS : ∀ W' (d : Nat), Below W.heap.size W W' → 1 ≤ d → K ≤ d → d ≤ N → Calls Try.prog 11 #[.agg #[.int .i64 h, .int .i64 w, .int .i64 c, .int .i64 lo, .int .i64 hi, .slice oa on oc, .int .i64 ot], .int .i64 op, .int .i64 ch, .agg #[.int .i64 slo, .int .i64 shi], .int .i64 (d : Int)] W' fun e w' => e = .returned (.tuple #[.bool (decide (d = K)), .int .i64 0]) ∧ Below W'.heap.size W' w')
    (hD : ∀ W' (d : Nat), Below W.heap.size W W' → 1 ≤ d → d ≤ N → Calls Try.prog 12 #[.agg #[.int .i64 h, .int .i64 w, .int .i64 c, .int .i64 lo, .int .i64 hi, .slice oa on oc, .int .i64 ot], .int .i64 op, .int .i64 ch, .agg #[.int .i64 slo, .int .i64 shi], .int .i64 (d : Int)] W' fun e w' => e = .returned (.tuple #[.agg #[.int .i64 (D d).1, .int .i64 (D d).2], .int .i64 0]) ∧ Below W'.heap.size W' w')
    (hd : ∀ d : Nat, 1 ≤ d → K ≤ d → d ≤ N → xho (-32768) 32767 (D d).1 (D d).2 = decide (d = K)) :
    Calls Try.prog 3 #[.agg #[.int .i64 h, .int .i64 w, .int .i64 c, .int .i64 lo, .int .i64 hi, .slice oa on oc, .int .i64 ot, .int .i64 op, .int .i64 ch, .int .i64 slo, .int .i64 shi, .int .i64 ylo, .int .i64 yhi, .int .i64 dp, .int .i64 wd, .int .i64 pd, .int .i64 p1, .int .i64 p2, .int .i64 t1, .int .i64 t2]] W fun e w' => e = .returned (.bool true) ∧ Below W.heap.size W w' := by
  have HX : Hid (∀ W', _) := hX
  have HM : Hid (∀ W', Below W.heap.size W W' → _) := hM
  have HL : Hid (∀ W', Below W.heap.size W W' → _) := hL
  have HP : Hid (∀ W', Below W.heap.size W W' → _) := hP
  have HS : Hid (∀ W' (d : Nat), Below W.heap.size W W' → 1 ≤ d → K ≤ d → d ≤ N → _) := hS
  have HD : Hid (∀ W' (d : Nat), Below W.heap.size W W' → 1 ≤ d → d ≤ N → _) := hD
  have Hd : Hid (∀ d : Nat, 1 ≤ d → K ≤ d → d ≤ N → xho (-32768) 32767 (D d).1 (D d).2 = decide (d = K)) := hd
  have HQ : Hid (∀ W', _) := fun W' => xholds_any (-32768) 32767 q1 q2 W'
  rw [hq] at HQ
  have s0 := (St.start W).new (c := #[.int .i64 h, .int .i64 w, .int .i64 c, .int .i64 lo, .int .i64 hi, .slice oa on oc, .int .i64 ot, .int .i64 op, .int .i64 ch, .int .i64 slo, .int .i64 shi, .int .i64 ylo, .int .i64 yhi, .int .i64 dp, .int .i64 wd, .int .i64 pd, .int .i64 p1, .int .i64 p2, .int .i64 t1, .int .i64 t2]) (t := 32)
  clear hX hM hL hP hS hD hd hq
  have k1 : ((K : Int) == 0) = false := by rw [beq_eq_false_iff_ne]; omega
  have k3 : ¬ ((K : Int) < 0) := by omega
  have k4 : ¬ ((N : Int) < (K : Int)) := by omega
  go_enter Try.func3, Try.ntmps3
  go_wp2_with fail
  refine (HX.out _).mono ?_
  rintro e w1 ⟨rfl, hb⟩
  have s1 := s0.call hb
  clear hb s0 HX
  obtain ⟨c1, f1, z1, -⟩ := s1.rules
  go_wp2_with fail
  refine (HM.out _ s1.below).mono ?_
  rintro e w2 ⟨rfl, hb⟩
  have s2 := s1.call hb
  clear hb s1 HM c1 f1 z1
  obtain ⟨c1, f1, z1, -⟩ := s2.rules
  go_wp2_with fail
  refine (HL.out _ s2.below).mono ?_
  rintro e w3 ⟨rfl, hb⟩
  have s3 := s2.call hb
  clear hb s2 HL c1 f1 z1
  obtain ⟨c1, f1, z1, -⟩ := s3.rules
  go_wp2_with fail
  refine (HP.out _ s3.below).mono ?_
  rintro e w4 ⟨rfl, hb⟩
  have s4 := ((s3.call hb).new (c := #[.int .i64 q1, .int .i64 q2]) (t := 28)).new (c := #[.int .i64 (-32768), .int .i64 32767]) (t := 28)
  simp only [World.size_alloc] at s4
  have hz4 := lt_of_heap (s3.call hb).h1
  have S4 : Hid (St W _ _) := s4
  clear hb s3 HP c1 f1 z1 s4
  go_wp2_with fail
  refine (HQ.out _).mono ?_
  rintro e w5 ⟨rfl, hb⟩
  have s5 := S4.out.call hb
  obtain ⟨Bq, hBq⟩ : ∃ B, w4.heap.size = B := ⟨_, rfl⟩
  obtain ⟨Bw, hBw⟩ : ∃ B, w4.heap.size + 1 = B := ⟨_, rfl⟩
  rw [hBw, hBq] at s5
  rw [hBw, hBq]
  have S5 : Hid (St W w5 [(Bw, #[.int .i64 (-32768), .int .i64 32767], 28), (Bq, #[.int .i64 q1, .int .i64 q2], 28), (W.heap.size, #[.int .i64 h, .int .i64 w, .int .i64 c, .int .i64 lo, .int .i64 hi, .slice oa on oc, .int .i64 ot, .int .i64 op, .int .i64 ch, .int .i64 slo, .int .i64 shi, .int .i64 ylo, .int .i64 yhi, .int .i64 dp, .int .i64 wd, .int .i64 pd, .int .i64 p1, .int .i64 p2, .int .i64 t1, .int .i64 t2], 32)]) := s5
  clear hb S4 HQ s5 hBw hBq hz4
  by_cases k6 : (1 : Int) < (K : Int)
  · go_wp2
    have HKK : Hid (0 < K ∧ K ≤ N ∧ N ≤ 512 ∧ 1 ≤ N) := ⟨hK, hKN, hN, hN1⟩
    have k7 : Hid (¬ (1 : Int) < (K : Int) → (1 : Int) = (K : Int)) := fun q => by omega
    rename_i qa K1 qb
    clear k1 k3 k4 hK hKN hN hN1 qa
    go_loopw [10] (fun i wr => ∃ d : Nat, 1 ≤ d ∧ K ≤ d ∧ d ≤ N + 1 ∧ i = .int .i64 d ∧ St W wr [(Bw, #[.int .i64 (-32768), .int .i64 32767], 28), (Bq, #[.int .i64 q1, .int .i64 q2], 28), (W.heap.size, #[.int .i64 h, .int .i64 w, .int .i64 c, .int .i64 lo, .int .i64 hi, .slice oa on oc, .int .i64 ot, .int .i64 op, .int .i64 ch, .int .i64 slo, .int .i64 shi, .int .i64 ylo, .int .i64 yhi, .int .i64 dp, .int .i64 wd, .int .i64 pd, .int .i64 p1, .int .i64 p2, .int .i64 t1, .int .i64 t2], 32)]) (fun i _ => N + 1 - (intOf i).toNat)
    case atStart => exact ⟨K, by have := HKK.out; omega, by have := HKK.out; omega, by have := HKK.out; omega, by first | rfl | (rw [k7.out (by omega)]), S5.out⟩
    case round =>
      obtain ⟨d, h1, h2, h3, rfl, s⟩ := hrel
      clear S5 k6
      have S : Hid (St W wr [(Bw, #[.int .i64 (-32768), .int .i64 32767], 28), (Bq, #[.int .i64 q1, .int .i64 q2], 28), (W.heap.size, #[.int .i64 h, .int .i64 w, .int .i64 c, .int .i64 lo, .int .i64 hi, .slice oa on oc, .int .i64 ot, .int .i64 op, .int .i64 ch, .int .i64 slo, .int .i64 shi, .int .i64 ylo, .int .i64 yhi, .int .i64 dp, .int .i64 wd, .int .i64 pd, .int .i64 p1, .int .i64 p2, .int .i64 t1, .int .i64 t2], 32)]) := s
      have w40 : IntKind.i64.wrap ((K : Int) + 40) = (K : Int) + 40 := by rw [IntKind.wrap_i64]; have := HKK.out; omega
      by_cases hc : d ≤ N ∧ d < K + 40
      · obtain ⟨hc1, hc2⟩ := hc
        have hd5 : d ≤ 512 := by have := HKK.out; omega
        have hc1' : (d : Int) ≤ (N : Int) := by omega
        have hc2' : (d : Int) < (K : Int) + 40 := by omega
        have HSd : Hid _ := HS.out wr d s.below h1 h2 hc1
        have HDd : Hid (∀ W', Below W.heap.size W W' → _) := fun W' hb => HD.out W' d hb h1 hc1
        have HHd : Hid (∀ W', _) := fun W' => xholds_any (-32768) 32767 (D d).1 (D d).2 W'
        rw [Hd.out d h1 h2 hc1] at HHd
        obtain ⟨D1, hD1⟩ : ∃ x, (D d).1 = x := ⟨_, rfl⟩
        obtain ⟨D2, hD2⟩ : ∃ x, (D d).2 = x := ⟨_, rfl⟩
        rw [hD1, hD2] at HDd HHd
        clear hD1 hD2 hc2
        obtain ⟨-, -, -, -, -, -, c3, f3, z3, -⟩ := s.rules
        clear s
        by_cases he : d = K
        · rw [decide_eq_true he] at HSd HHd
          have k5 : ((d : Int) == (K : Int)) = true := by rw [he]; simp
          clear he
          go_wp2_with fail
          refine Calls.mono HSd.out ?_
          rintro e w6 ⟨rfl, hb⟩
          have S6 : Hid (St W w6 [(Bw, #[.int .i64 (-32768), .int .i64 32767], 28), (Bq, #[.int .i64 q1, .int .i64 q2], 28), (W.heap.size, #[.int .i64 h, .int .i64 w, .int .i64 c, .int .i64 lo, .int .i64 hi, .slice oa on oc, .int .i64 ot, .int .i64 op, .int .i64 ch, .int .i64 slo, .int .i64 shi, .int .i64 ylo, .int .i64 yhi, .int .i64 dp, .int .i64 wd, .int .i64 pd, .int .i64 p1, .int .i64 p2, .int .i64 t1, .int .i64 t2], 32)]) := S.out.call hb
          clear hb S HSd c3 f3 z3
          obtain ⟨-, -, -, -, -, -, c3, f3, z3, -⟩ := S6.out.rules
          go_wp2_with fail
          refine Calls.mono (HDd.out _ S6.out.below) ?_
          rintro e w7 ⟨rfl, hb⟩
          have s7 := (S6.out.call hb).new (c := #[.int .i64 D1, .int .i64 D2]) (t := 28)
          clear hb S6 HDd c3 f3 z3
          obtain ⟨c1, f1, z1, c2, f2, z2, -⟩ := s7.rules
          have S7 : Hid (St W _ _) := s7
          clear s7
          go_wp2_with fail
          refine Calls.mono (HHd.out _) ?_
          rintro e w8 ⟨rfl, hb⟩
          have S8 : Hid (St W w8 [(Bw, #[.int .i64 (-32768), .int .i64 32767], 28), (Bq, #[.int .i64 q1, .int .i64 q2], 28), (W.heap.size, #[.int .i64 h, .int .i64 w, .int .i64 c, .int .i64 lo, .int .i64 hi, .slice oa on oc, .int .i64 ot, .int .i64 op, .int .i64 ch, .int .i64 slo, .int .i64 shi, .int .i64 ylo, .int .i64 yhi, .int .i64 dp, .int .i64 wd, .int .i64 pd, .int .i64 p1, .int .i64 p2, .int .i64 t1, .int .i64 t2], 32)]) := (S7.out.call hb).tail
          clear hb S7 HHd c1 f1 z1 c2 f2 z2
          go_wp2
          go_roundw
          case rel => have hq5 := HKK.out; exact ⟨d + 1, by omega, by omega, by omega, by go_num, S8.out⟩
          case measure => have hq5 := HKK.out; simp [intOf]; omega
        · rw [decide_eq_false he] at HSd HHd
          have k5 : ((d : Int) == (K : Int)) = false := by rw [beq_eq_false_iff_ne]; omega
          clear he
          go_wp2_with fail
          refine Calls.mono HSd.out ?_
          rintro e w6 ⟨rfl, hb⟩
          have S6 : Hid (St W w6 [(Bw, #[.int .i64 (-32768), .int .i64 32767], 28), (Bq, #[.int .i64 q1, .int .i64 q2], 28), (W.heap.size, #[.int .i64 h, .int .i64 w, .int .i64 c, .int .i64 lo, .int .i64 hi, .slice oa on oc, .int .i64 ot, .int .i64 op, .int .i64 ch, .int .i64 slo, .int .i64 shi, .int .i64 ylo, .int .i64 yhi, .int .i64 dp, .int .i64 wd, .int .i64 pd, .int .i64 p1, .int .i64 p2, .int .i64 t1, .int .i64 t2], 32)]) := S.out.call hb
          clear hb S HSd c3 f3 z3
          obtain ⟨-, -, -, -, -, -, c3, f3, z3, -⟩ := S6.out.rules
          go_wp2_with fail
          refine Calls.mono (HDd.out _ S6.out.below) ?_
          rintro e w7 ⟨rfl, hb⟩
          have s7 := (S6.out.call hb).new (c := #[.int .i64 D1, .int .i64 D2]) (t := 28)
          clear hb S6 HDd c3 f3 z3
          obtain ⟨c1, f1, z1, c2, f2, z2, -⟩ := s7.rules
          have S7 : Hid (St W _ _) := s7
          clear s7
          go_wp2_with fail
          refine Calls.mono (HHd.out _) ?_
          rintro e w8 ⟨rfl, hb⟩
          have S8 : Hid (St W w8 [(Bw, #[.int .i64 (-32768), .int .i64 32767], 28), (Bq, #[.int .i64 q1, .int .i64 q2], 28), (W.heap.size, #[.int .i64 h, .int .i64 w, .int .i64 c, .int .i64 lo, .int .i64 hi, .slice oa on oc, .int .i64 ot, .int .i64 op, .int .i64 ch, .int .i64 slo, .int .i64 shi, .int .i64 ylo, .int .i64 yhi, .int .i64 dp, .int .i64 wd, .int .i64 pd, .int .i64 p1, .int .i64 p2, .int .i64 t1, .int .i64 t2], 32)]) := (S7.out.call hb).tail
          clear hb S7 HHd c1 f1 z1 c2 f2 z2
          go_wp2
          go_roundw
          case rel => have hq5 := HKK.out; exact ⟨d + 1, by omega, by omega, by omega, by go_num, S8.out⟩
          case measure => have hq5 := HKK.out; simp [intOf]; omega
      · have HB : Hid (Below W.heap.size W wr) := s.below
        clear s S
        by_cases hc1 : d ≤ N
        · have hc1' : (d : Int) ≤ (N : Int) := by omega
          have hc2' : ¬ (d : Int) < (K : Int) + 40 := by omega
          clear hc
          go_wp2
          go_ret
          exact ⟨rfl, HB.out⟩
        · have hc1' : ¬ (d : Int) ≤ (N : Int) := by omega
          clear hc
          go_wp2
          go_ret
          exact ⟨rfl, HB.out⟩
  · go_wp2
    have HKK : Hid (0 < K ∧ K ≤ N ∧ N ≤ 512 ∧ 1 ≤ N) := ⟨hK, hKN, hN, hN1⟩
    have k7 : Hid (¬ (1 : Int) < (K : Int) → (1 : Int) = (K : Int)) := fun q => by omega
    rename_i qa K1 qb
    clear k1 k3 k4 hK hKN hN hN1 qa
    go_loopw [10] (fun i wr => ∃ d : Nat, 1 ≤ d ∧ K ≤ d ∧ d ≤ N + 1 ∧ i = .int .i64 d ∧ St W wr [(Bw, #[.int .i64 (-32768), .int .i64 32767], 28), (Bq, #[.int .i64 q1, .int .i64 q2], 28), (W.heap.size, #[.int .i64 h, .int .i64 w, .int .i64 c, .int .i64 lo, .int .i64 hi, .slice oa on oc, .int .i64 ot, .int .i64 op, .int .i64 ch, .int .i64 slo, .int .i64 shi, .int .i64 ylo, .int .i64 yhi, .int .i64 dp, .int .i64 wd, .int .i64 pd, .int .i64 p1, .int .i64 p2, .int .i64 t1, .int .i64 t2], 32)]) (fun i _ => N + 1 - (intOf i).toNat)
    case atStart => exact ⟨K, by have := HKK.out; omega, by have := HKK.out; omega, by have := HKK.out; omega, by first | rfl | (rw [k7.out (by omega)]), S5.out⟩
    case round =>
      obtain ⟨d, h1, h2, h3, rfl, s⟩ := hrel
      clear S5 k6
      have S : Hid (St W wr [(Bw, #[.int .i64 (-32768), .int .i64 32767], 28), (Bq, #[.int .i64 q1, .int .i64 q2], 28), (W.heap.size, #[.int .i64 h, .int .i64 w, .int .i64 c, .int .i64 lo, .int .i64 hi, .slice oa on oc, .int .i64 ot, .int .i64 op, .int .i64 ch, .int .i64 slo, .int .i64 shi, .int .i64 ylo, .int .i64 yhi, .int .i64 dp, .int .i64 wd, .int .i64 pd, .int .i64 p1, .int .i64 p2, .int .i64 t1, .int .i64 t2], 32)]) := s
      have w40 : IntKind.i64.wrap ((K : Int) + 40) = (K : Int) + 40 := by rw [IntKind.wrap_i64]; have := HKK.out; omega
      by_cases hc : d ≤ N ∧ d < K + 40
      · obtain ⟨hc1, hc2⟩ := hc
        have hd5 : d ≤ 512 := by have := HKK.out; omega
        have hc1' : (d : Int) ≤ (N : Int) := by omega
        have hc2' : (d : Int) < (K : Int) + 40 := by omega
        have HSd : Hid _ := HS.out wr d s.below h1 h2 hc1
        have HDd : Hid (∀ W', Below W.heap.size W W' → _) := fun W' hb => HD.out W' d hb h1 hc1
        have HHd : Hid (∀ W', _) := fun W' => xholds_any (-32768) 32767 (D d).1 (D d).2 W'
        rw [Hd.out d h1 h2 hc1] at HHd
        obtain ⟨D1, hD1⟩ : ∃ x, (D d).1 = x := ⟨_, rfl⟩
        obtain ⟨D2, hD2⟩ : ∃ x, (D d).2 = x := ⟨_, rfl⟩
        rw [hD1, hD2] at HDd HHd
        clear hD1 hD2 hc2
        obtain ⟨-, -, -, -, -, -, c3, f3, z3, -⟩ := s.rules
        clear s
        by_cases he : d = K
        · rw [decide_eq_true he] at HSd HHd
          have k5 : ((d : Int) == (K : Int)) = true := by rw [he]; simp
          clear he
          go_wp2_with fail
          refine Calls.mono HSd.out ?_
          rintro e w6 ⟨rfl, hb⟩
          have S6 : Hid (St W w6 [(Bw, #[.int .i64 (-32768), .int .i64 32767], 28), (Bq, #[.int .i64 q1, .int .i64 q2], 28), (W.heap.size, #[.int .i64 h, .int .i64 w, .int .i64 c, .int .i64 lo, .int .i64 hi, .slice oa on oc, .int .i64 ot, .int .i64 op, .int .i64 ch, .int .i64 slo, .int .i64 shi, .int .i64 ylo, .int .i64 yhi, .int .i64 dp, .int .i64 wd, .int .i64 pd, .int .i64 p1, .int .i64 p2, .int .i64 t1, .int .i64 t2], 32)]) := S.out.call hb
          clear hb S HSd c3 f3 z3
          obtain ⟨-, -, -, -, -, -, c3, f3, z3, -⟩ := S6.out.rules
          go_wp2_with fail
          refine Calls.mono (HDd.out _ S6.out.below) ?_
          rintro e w7 ⟨rfl, hb⟩
          have s7 := (S6.out.call hb).new (c := #[.int .i64 D1, .int .i64 D2]) (t := 28)
          clear hb S6 HDd c3 f3 z3
          obtain ⟨c1, f1, z1, c2, f2, z2, -⟩ := s7.rules
          have S7 : Hid (St W _ _) := s7
          clear s7
          go_wp2_with fail
          refine Calls.mono (HHd.out _) ?_
          rintro e w8 ⟨rfl, hb⟩
          have S8 : Hid (St W w8 [(Bw, #[.int .i64 (-32768), .int .i64 32767], 28), (Bq, #[.int .i64 q1, .int .i64 q2], 28), (W.heap.size, #[.int .i64 h, .int .i64 w, .int .i64 c, .int .i64 lo, .int .i64 hi, .slice oa on oc, .int .i64 ot, .int .i64 op, .int .i64 ch, .int .i64 slo, .int .i64 shi, .int .i64 ylo, .int .i64 yhi, .int .i64 dp, .int .i64 wd, .int .i64 pd, .int .i64 p1, .int .i64 p2, .int .i64 t1, .int .i64 t2], 32)]) := (S7.out.call hb).tail
          clear hb S7 HHd c1 f1 z1 c2 f2 z2
          go_wp2
          go_roundw
          case rel => have hq5 := HKK.out; exact ⟨d + 1, by omega, by omega, by omega, by go_num, S8.out⟩
          case measure => have hq5 := HKK.out; simp [intOf]; omega
        · rw [decide_eq_false he] at HSd HHd
          have k5 : ((d : Int) == (K : Int)) = false := by rw [beq_eq_false_iff_ne]; omega
          clear he
          go_wp2_with fail
          refine Calls.mono HSd.out ?_
          rintro e w6 ⟨rfl, hb⟩
          have S6 : Hid (St W w6 [(Bw, #[.int .i64 (-32768), .int .i64 32767], 28), (Bq, #[.int .i64 q1, .int .i64 q2], 28), (W.heap.size, #[.int .i64 h, .int .i64 w, .int .i64 c, .int .i64 lo, .int .i64 hi, .slice oa on oc, .int .i64 ot, .int .i64 op, .int .i64 ch, .int .i64 slo, .int .i64 shi, .int .i64 ylo, .int .i64 yhi, .int .i64 dp, .int .i64 wd, .int .i64 pd, .int .i64 p1, .int .i64 p2, .int .i64 t1, .int .i64 t2], 32)]) := S.out.call hb
          clear hb S HSd c3 f3 z3
          obtain ⟨-, -, -, -, -, -, c3, f3, z3, -⟩ := S6.out.rules
          go_wp2_with fail
          refine Calls.mono (HDd.out _ S6.out.below) ?_
          rintro e w7 ⟨rfl, hb⟩
          have s7 := (S6.out.call hb).new (c := #[.int .i64 D1, .int .i64 D2]) (t := 28)
          clear hb S6 HDd c3 f3 z3
          obtain ⟨c1, f1, z1, c2, f2, z2, -⟩ := s7.rules
          have S7 : Hid (St W _ _) := s7
          clear s7
          go_wp2_with fail
          refine Calls.mono (HHd.out _) ?_
          rintro e w8 ⟨rfl, hb⟩
          have S8 : Hid (St W w8 [(Bw, #[.int .i64 (-32768), .int .i64 32767], 28), (Bq, #[.int .i64 q1, .int .i64 q2], 28), (W.heap.size, #[.int .i64 h, .int .i64 w, .int .i64 c, .int .i64 lo, .int .i64 hi, .slice oa on oc, .int .i64 ot, .int .i64 op, .int .i64 ch, .int .i64 slo, .int .i64 shi, .int .i64 ylo, .int .i64 yhi, .int .i64 dp, .int .i64 wd, .int .i64 pd, .int .i64 p1, .int .i64 p2, .int .i64 t1, .int .i64 t2], 32)]) := (S7.out.call hb).tail
          clear hb S7 HHd c1 f1 z1 c2 f2 z2
          go_wp2
          go_roundw
          case rel => have hq5 := HKK.out; exact ⟨d + 1, by omega, by omega, by omega, by go_num, S8.out⟩
          case measure => have hq5 := HKK.out; simp [intOf]; omega
      · have HB : Hid (Below W.heap.size W wr) := s.below
        clear s S
        by_cases hc1 : d ≤ N
        · have hc1' : (d : Int) ≤ (N : Int) := by omega
          have hc2' : ¬ (d : Int) < (K : Int) + 40 := by omega
          clear hc
          go_wp2
          go_ret
          exact ⟨rfl, HB.out⟩
        · have hc1' : ¬ (d : Int) ≤ (N : Int) := by omega
          clear hc
          go_wp2
          go_ret
          exact ⟨rfl, HB.out⟩
end Go.Proofs.Ytgiohlcipndakaa
