/- The four hulls in plain numbers: what is known of them, how they lie in one another, wider spans. BoundNests. Numbers that spans hold: sums, blocks and products of a row's terms (for BoundHolds). The walk of BoundHolds: errors. -/
import Derived.Test.YtbogpgaifbjahaaGr28
import Derived.Test.YtbogpgaifbjahaaGr29
import Derived.Test.YtbogpgaifbjahaaGr31
/- The four hulls in plain numbers: what is known of them, how they lie in one another, wider spans. -/
namespace Go.Proofs.Ytbogpgaifbjahaa
open Go.ChangeShapes Go.WideShapes Go.ChangeAt Go.RowKit
set_option linter.unusedVariables false
theorem sit_N {k kh kw sh sw tp lf bt rt h w c H V C : Int} {lw lb : Nat} (s : Sit k kh kw sh sw tp lf bt rt h w c H V C lw lb) : 0 < (H * V).toNat := by have := (vS_bd s.2.2.1).1; omega
theorem spR_t {slo shi : Int} (h : vbB slo shi = true) (r : Int × Int) : spR slo shi r = (r.1, r.2, 0) := if_pos h
theorem spR_f {slo shi : Int} (h : vbB slo shi = false) (r : Int × Int) : spR slo shi r = (0, 0, 30) := if_neg (by rw [h]; decide)
/-- What is known of the four hulls: each is a span of numbers that are small. -/
theorem hb_vd {k kh kw sh sw tp lf bt rt h w c H V C p : Int} {lw lb : Nat} (s : Sit k kh kw sh sw tp lf bt rt h w c H V C lw lb) {zs : List Int} (hz : ∀ v ∈ zs, (Lit.int .i16 v).wf = true) {ch : Int} (hch : 1 ≤ ch ∧ ch ≤ C) {slo shi bi : Int} (hs : -128 ≤ slo ∧ slo ≤ shi ∧ shi ≤ 127) (hp : -128 ≤ p ∧ p ≤ 127) (hbi : -2147483648 ≤ bi ∧ bi ≤ 2147483647) : (Vd 10000000000 (hbT bi (fun (j : Nat) => enL slo shi p (siL k kh kw sh sw tp lf bt rt h w c ch (j : Int) zs)) (H * V).toNat) ∧ Vd 10000000000 (hbR bi (fun (j : Nat) => enL slo shi p (siL k kh kw sh sw tp lf bt rt h w c ch (j : Int) zs)) (H * V).toNat)) ∧ (Vd 10000000000 (hbP (fun (j : Nat) => enL slo shi p (siL k kh kw sh sw tp lf bt rt h w c ch (j : Int) zs)) (H * V).toNat) ∧ ∀ d : Nat, 0 < d → d ≤ 512 → Vd 10000000000 (hbD d (fun (j : Nat) => enL slo shi p (siL k kh kw sh sw tp lf bt rt h w c ch (j : Int) zs)) (H * V).toNat)) := by
  have hf : ∀ j : Nat, _ := fun j => row_facts s hz hch hs hp (j : Int)
  have hN := sit_N s
  have g : ∀ F : List (Int × Int) → List (Int × Int), (∀ E, Rb E → 0 < E.length → E.length ≤ 512 → 0 < (F E).length ∧ ∀ x ∈ F E, Vd 10000000000 x) → Vd 10000000000 (huA (piT F (fun (j : Nat) => enL slo shi p (siL k kh kw sh sw tp lf bt rt h w c ch (j : Int) zs)) (H * V).toNat)) := fun F hF => by
    refine hul_ok (piT_ne hN (hF _ (hf 0).1 (hf 0).2.1 (hf 0).2.2).1) fun x hx => ?_
    obtain ⟨j, hj, hx'⟩ := mem_piT.1 hx
    exact (hF _ (hf j).1 (hf j).2.1 (hf j).2.2).2 x hx'
  exact ⟨⟨g _ fun E h1 h2 h3 => ⟨by simp, ftot hbi h1 h3⟩, g _ fun E h1 h2 h3 => ⟨by rw [ruL_len]; omega, frun hbi h1 h3⟩⟩, g _ fun E h1 h2 h3 => ⟨h2, h1.vd⟩, fun d d1 d2 => g _ fun E h1 h2 h3 => ⟨by rw [List.length_append]; omega, fun x hx => (List.mem_append.1 hx).elim (paL_vd d1 h1 h3 x) (h1.vd x)⟩⟩
theorem hb_ne {k kh kw sh sw tp lf bt rt h w c H V C p : Int} {lw lb : Nat} (s : Sit k kh kw sh sw tp lf bt rt h w c H V C lw lb) {zs : List Int} (hz : ∀ v ∈ zs, (Lit.int .i16 v).wf = true) {ch : Int} (hch : 1 ≤ ch ∧ ch ≤ C) {slo shi bi : Int} (hs : -128 ≤ slo ∧ slo ≤ shi ∧ shi ≤ 127) (hp : -128 ≤ p ∧ p ≤ 127) (hbi : -2147483648 ≤ bi ∧ bi ≤ 2147483647) (d : Nat) : piT (fun E => [suS (bi, bi) E]) (fun (j : Nat) => enL slo shi p (siL k kh kw sh sw tp lf bt rt h w c ch (j : Int) zs)) (H * V).toNat ≠ [] ∧ piT (fun E => ruL (bi, bi) E) (fun (j : Nat) => enL slo shi p (siL k kh kw sh sw tp lf bt rt h w c ch (j : Int) zs)) (H * V).toNat ≠ [] ∧ piT (fun E => E) (fun (j : Nat) => enL slo shi p (siL k kh kw sh sw tp lf bt rt h w c ch (j : Int) zs)) (H * V).toNat ≠ [] ∧ piT (fun E => paL d E ++ E) (fun (j : Nat) => enL slo shi p (siL k kh kw sh sw tp lf bt rt h w c ch (j : Int) zs)) (H * V).toNat ≠ [] := by
  have hf := row_facts s hz hch hs hp ((0 : Nat) : Int)
  have hN := sit_N s
  exact ⟨piT_ne hN (by simp), piT_ne hN (by rw [ruL_len]; omega), piT_ne hN hf.2.1, piT_ne hN (by rw [List.length_append]; have := hf.2.1; omega)⟩
/-- Run holds Total; Part with the depth 1 is Product; with every depth it holds it. -/
theorem hb_in {k kh kw sh sw tp lf bt rt h w c H V C p : Int} {lw lb : Nat} (s : Sit k kh kw sh sw tp lf bt rt h w c H V C lw lb) {zs : List Int} (hz : ∀ v ∈ zs, (Lit.int .i16 v).wf = true) {ch : Int} (hch : 1 ≤ ch ∧ ch ≤ C) {slo shi bi : Int} (hs : -128 ≤ slo ∧ slo ≤ shi ∧ shi ≤ 127) (hp : -128 ≤ p ∧ p ≤ 127) (hbi : -2147483648 ≤ bi ∧ bi ≤ 2147483647) (d : Nat) : Inn (hbT bi (fun (j : Nat) => enL slo shi p (siL k kh kw sh sw tp lf bt rt h w c ch (j : Int) zs)) (H * V).toNat) (hbR bi (fun (j : Nat) => enL slo shi p (siL k kh kw sh sw tp lf bt rt h w c ch (j : Int) zs)) (H * V).toNat) ∧ hbD 1 (fun (j : Nat) => enL slo shi p (siL k kh kw sh sw tp lf bt rt h w c ch (j : Int) zs)) (H * V).toNat = hbP (fun (j : Nat) => enL slo shi p (siL k kh kw sh sw tp lf bt rt h w c ch (j : Int) zs)) (H * V).toNat ∧ Inn (hbP (fun (j : Nat) => enL slo shi p (siL k kh kw sh sw tp lf bt rt h w c ch (j : Int) zs)) (H * V).toNat) (hbD d (fun (j : Nat) => enL slo shi p (siL k kh kw sh sw tp lf bt rt h w c ch (j : Int) zs)) (H * V).toNat) := by
  obtain ⟨n1, n2, n3, n4⟩ := hb_ne s hz hch hs hp hbi d
  refine ⟨hul_in n1 n2 (piT_in fun j _ x hx => ?_), hbD_one (hb_ne s hz hch hs hp hbi 1).2.2.2, hul_in n3 n4 (piT_in fun j _ x hx => ⟨x, List.mem_append_right _ hx, Inn.refl _⟩)⟩
  simp only [List.mem_singleton] at hx
  subst hx
  exact ⟨_, suS_mem _ _, Inn.refl _⟩
/-- Quick holds Run. -/
theorem hb_quick {k kh kw sh sw tp lf bt rt h w c H V C p : Int} {lw lb : Nat} (s : Sit k kh kw sh sw tp lf bt rt h w c H V C lw lb) {zs : List Int} (hz : ∀ v ∈ zs, (Lit.int .i16 v).wf = true) {ch : Int} (hch : 1 ≤ ch ∧ ch ≤ C) {slo shi bi : Int} (hs : -128 ≤ slo ∧ slo ≤ shi ∧ shi ≤ 127) (hp : -128 ≤ p ∧ p ≤ 127) (hbi : -2147483648 ≤ bi ∧ bi ≤ 2147483647) : Inn (hbR bi (fun (j : Nat) => enL slo shi p (siL k kh kw sh sw tp lf bt rt h w c ch (j : Int) zs)) (H * V).toNat) (bi - (upS (siL k kh kw sh sw tp lf bt rt h w c ch 0 zs) - dnS (siL k kh kw sh sw tp lf bt rt h w c ch 0 zs)) * rcV tp lf bt rt p slo shi, bi + (upS (siL k kh kw sh sw tp lf bt rt h w c ch 0 zs) - dnS (siL k kh kw sh sw tp lf bt rt h w c ch 0 zs)) * rcV tp lf bt rt p slo shi) := by
  obtain ⟨-, n2, -, -⟩ := hb_ne s hz hch hs hp hbi 1
  have key : ∀ x ∈ piT (fun E => ruL (bi, bi) E) (fun (j : Nat) => enL slo shi p (siL k kh kw sh sw tp lf bt rt h w c ch (j : Int) zs)) (H * V).toNat, Inn x _ := fun x hx => by
    obtain ⟨j, hj, hx'⟩ := mem_piT.1 hx
    exact quick_run s hz hch hs hp (j : Int) ⟨by omega, by omega⟩ x hx'
  obtain ⟨-, ⟨x, hx, ex⟩, ⟨y, hy, ey⟩⟩ := huA_is n2
  have k1 := key x hx
  have k2 := key y hy
  show Inn (huA _) _
  unfold Inn at *
  omega
/-- Over a wider span. -/
theorem hb_wide {k kh kw sh sw tp lf bt rt h w c H V C p : Int} {lw lb : Nat} (s : Sit k kh kw sh sw tp lf bt rt h w c H V C lw lb) {zs : List Int} (hz : ∀ v ∈ zs, (Lit.int .i16 v).wf = true) {ch : Int} (hch : 1 ≤ ch ∧ ch ≤ C) {slo shi bi : Int} (hs : -128 ≤ slo ∧ slo ≤ shi ∧ shi ≤ 127) (hp : -128 ≤ p ∧ p ≤ 127) (hbi : -2147483648 ≤ bi ∧ bi ≤ 2147483647) {ylo yhi : Int} (hy : -128 ≤ ylo ∧ ylo ≤ yhi ∧ yhi ≤ 127) (g1 : ylo ≤ slo) (g2 : shi ≤ yhi) (d : Nat) (hd : 0 < d) :
    Inn (hbT bi (fun (j : Nat) => enL slo shi p (siL k kh kw sh sw tp lf bt rt h w c ch (j : Int) zs)) (H * V).toNat) (hbT bi (fun (j : Nat) => enL ylo yhi p (siL k kh kw sh sw tp lf bt rt h w c ch (j : Int) zs)) (H * V).toNat) ∧ Inn (hbR bi (fun (j : Nat) => enL slo shi p (siL k kh kw sh sw tp lf bt rt h w c ch (j : Int) zs)) (H * V).toNat) (hbR bi (fun (j : Nat) => enL ylo yhi p (siL k kh kw sh sw tp lf bt rt h w c ch (j : Int) zs)) (H * V).toNat) ∧ Inn (hbP (fun (j : Nat) => enL slo shi p (siL k kh kw sh sw tp lf bt rt h w c ch (j : Int) zs)) (H * V).toNat) (hbP (fun (j : Nat) => enL ylo yhi p (siL k kh kw sh sw tp lf bt rt h w c ch (j : Int) zs)) (H * V).toNat) ∧ Inn (hbD d (fun (j : Nat) => enL slo shi p (siL k kh kw sh sw tp lf bt rt h w c ch (j : Int) zs)) (H * V).toNat) (hbD d (fun (j : Nat) => enL ylo yhi p (siL k kh kw sh sw tp lf bt rt h w c ch (j : Int) zs)) (H * V).toNat) := by
  obtain ⟨n1, n2, n3, n4⟩ := hb_ne s hz hch hs hp hbi d
  obtain ⟨m1, m2, m3, m4⟩ := hb_ne s hz hch hy hp hbi d
  refine ⟨hul_in n1 m1 (piT_in fun j _ x hx => ?_), hul_in n2 m2 (piT_in fun j _ => win_run g1 hs.2.1 g2 _ bi), hul_in n3 m3 (piT_in fun j _ => win_prd g1 hs.2.1 g2 _), hul_in n4 m4 (piT_in fun j _ => win_prt g1 hs.2.1 g2 _ hd)⟩
  simp only [List.mem_singleton] at hx
  subst hx
  exact ⟨_, List.mem_singleton_self _, win_tot g1 hs.2.1 g2 _ bi⟩
end Go.Proofs.Ytbogpgaifbjahaa

/- BoundNests. -/
namespace Go.Proofs.Ytbogpgaifbjahaa
open Go.ChangeShapes Go.WideShapes Go.ChangeAt Go.RowKit
set_option linter.unusedVariables false
theorem boundNests_walk (h w c lo hi : Int) (oa : Option Addr) (on oc : Nat) (ot op ch slo shi dp at' : Int) (ad : Option Addr) (n cap : Nat) (xs : List Int) (ylo yhi : Int) (W : World) (_ : (Lit.int .i64 h).wf = true) (_ : (Lit.int .i64 w).wf = true) (_ : (Lit.int .i64 c).wf = true) (_ : (Lit.int .i64 lo).wf = true) (_ : (Lit.int .i64 hi).wf = true) (wo : ORow 22 (OpIn W) W oa on oc) (hr : on * 208 ≤ 140737488351232) (_ : (Lit.int .i64 ot).wf = true) (_ : (Lit.int .i64 op).wf = true) (_ : (Lit.int .i64 ch).wf = true) (_ : (Lit.int .i64 slo).wf = true) (_ : (Lit.int .i64 shi).wf = true) (_ : (Lit.int .i64 dp).wf = true) (_ : (Lit.int .i64 at').wf = true) (hX : IRow .i8 W ad n cap xs) (hrx : n * 1 ≤ 140737488351232) (_ : (Lit.int .i64 ylo).wf = true) (_ : (Lit.int .i64 yhi).wf = true) : Calls Try.prog 5 #[.agg #[.int .i64 h, .int .i64 w, .int .i64 c, .int .i64 lo, .int .i64 hi, .slice oa on oc, .int .i64 ot, .int .i64 op, .int .i64 ch, .int .i64 slo, .int .i64 shi, .int .i64 dp, .int .i64 at', .slice ad n cap], .agg #[.int .i64 ylo, .int .i64 yhi]] W fun e w' => e = .returned (.bool true) ∧ Below W.heap.size W w' := by
  obtain ⟨O, Z, B, hL⟩ := lrow_of wo
  rcases bask h w c lo hi ot oa on oc O Z B W hL op ch with ⟨E, hE, h1⟩ | ⟨RL, Rw, hR, i, x, wa, lw, cw, ba, lb, cb, x0, y0, z0, H, V, C, rfl, hF, hch⟩
  · exact nests_e h w c lo hi oa on oc ot op ch slo shi dp at' ad n cap W ylo yhi E hE (fun W' hb => btot_bad h w c lo hi ot op ch oa on oc W' slo shi E hE (fun W'' hb' => h1 W'' (hb.trans (hb'.mono hb.size))))
  cases hs : vbB slo shi with
  | false =>
    refine nests_e h w c lo hi oa on oc ot _ ch slo shi dp at' ad n cap W ylo yhi 30 (by decide) (fun W' hb => ?_)
    have := btot_ok h w c lo hi ot oa on oc O Z B W' (hL.below hb) ch RL Rw hR i x wa lw cw ba lb cb x0 y0 z0 H V C (hF.below hb) hch slo shi
    rwa [spR_f hs] at this
  | true =>
    obtain ⟨N, hN⟩ : ∃ N, (siL (O i 0) (O i 4) (O i 5) (O i 6) (O i 7) (O i 8) (O i 9) (O i 10) (O i 11) x0 y0 z0 ch 0 (Z i)).length = N := ⟨_, rfl⟩
    have hSit := hF.2.2.2.2.2.2.2.2.2.1
    have hz := hF.2.2.2.2.2.1.2.2.2.1
    obtain ⟨-, -, -, -, hp, hbi, -⟩ := bfacts hL RL Rw hR i x wa lw cw ba lb cb x0 y0 z0 H V C hF hch
    have hv := vbB_yes hs
    have hN1 : 1 ≤ N := by
      rw [← hN]; unfold siL; rw [tmL_len]
      have := hSit.2.2.2.2.2.2.2.2.1; omega
    have hN5 : N ≤ 512 := by rw [← hN]; exact slen RL Rw hR i x wa lw cw ba lb cb x0 y0 z0 H V C hF hch
    obtain ⟨⟨v1, v2⟩, v3, v4⟩ := hb_vd hSit hz hch hv hp hbi
    obtain ⟨i1, i2, i3⟩ := hb_in hSit hz hch hv hp hbi dp.toNat
    have iq := hb_quick hSit hz hch hv hp hbi
    have qv : vaB slo shi = true := hs
    refine nests_w h w c lo hi oa on oc ot _ ch slo shi dp at' ad n cap W ylo yhi _ _ _ _ _ _ _ _ (spD slo shi dp N (hbD dp.toNat (fun (j : Nat) => enL slo shi (O i 19) (siL (O i 0) (O i 4) (O i 5) (O i 6) (O i 7) (O i 8) (O i 9) (O i 10) (O i 11) x0 y0 z0 ch (j : Int) (Z i))) (H * V).toNat)).1 (spD slo shi dp N (hbD dp.toNat (fun (j : Nat) => enL slo shi (O i 19) (siL (O i 0) (O i 4) (O i 5) (O i 6) (O i 7) (O i 8) (O i 9) (O i 10) (O i 11) x0 y0 z0 ch (j : Int) (Z i))) (H * V).toNat)).2.1 _ (spR ylo yhi (hbT (biA (O i 0) ch (B i)) (fun (j : Nat) => enL ylo yhi (O i 19) (siL (O i 0) (O i 4) (O i 5) (O i 6) (O i 7) (O i 8) (O i 9) (O i 10) (O i 11) x0 y0 z0 ch (j : Int) (Z i))) (H * V).toNat)).1 (spR ylo yhi (hbT (biA (O i 0) ch (B i)) (fun (j : Nat) => enL ylo yhi (O i 19) (siL (O i 0) (O i 4) (O i 5) (O i 6) (O i 7) (O i 8) (O i 9) (O i 10) (O i 11) x0 y0 z0 ch (j : Int) (Z i))) (H * V).toNat)).2.1 _ (spR ylo yhi (hbR (biA (O i 0) ch (B i)) (fun (j : Nat) => enL ylo yhi (O i 19) (siL (O i 0) (O i 4) (O i 5) (O i 6) (O i 7) (O i 8) (O i 9) (O i 10) (O i 11) x0 y0 z0 ch (j : Int) (Z i))) (H * V).toNat)).1 (spR ylo yhi (hbR (biA (O i 0) ch (B i)) (fun (j : Nat) => enL ylo yhi (O i 19) (siL (O i 0) (O i 4) (O i 5) (O i 6) (O i 7) (O i 8) (O i 9) (O i 10) (O i 11) x0 y0 z0 ch (j : Int) (Z i))) (H * V).toNat)).2.1 _ (spR ylo yhi (hbP (fun (j : Nat) => enL ylo yhi (O i 19) (siL (O i 0) (O i 4) (O i 5) (O i 6) (O i 7) (O i 8) (O i 9) (O i 10) (O i 11) x0 y0 z0 ch (j : Int) (Z i))) (H * V).toNat)).1 (spR ylo yhi (hbP (fun (j : Nat) => enL ylo yhi (O i 19) (siL (O i 0) (O i 4) (O i 5) (O i 6) (O i 7) (O i 8) (O i 9) (O i 10) (O i 11) x0 y0 z0 ch (j : Int) (Z i))) (H * V).toNat)).2.1 _ (spD ylo yhi dp N (hbD dp.toNat (fun (j : Nat) => enL ylo yhi (O i 19) (siL (O i 0) (O i 4) (O i 5) (O i 6) (O i 7) (O i 8) (O i 9) (O i 10) (O i 11) x0 y0 z0 ch (j : Int) (Z i))) (H * V).toNat)).1 (spD ylo yhi dp N (hbD dp.toNat (fun (j : Nat) => enL ylo yhi (O i 19) (siL (O i 0) (O i 4) (O i 5) (O i 6) (O i 7) (O i 8) (O i 9) (O i 10) (O i 11) x0 y0 z0 ch (j : Int) (Z i))) (H * V).toNat)).2.1 _
      (fun W' hb => by have q := btot_ok h w c lo hi ot oa on oc O Z B W' (hL.below hb) ch RL Rw hR i x wa lw cw ba lb cb x0 y0 z0 H V C (hF.below hb) hch slo shi; rw [spR_t hs] at q; exact q)
      (fun W' hb => by have q := brun_ok h w c lo hi ot oa on oc O Z B W' (hL.below hb) ch RL Rw hR i x wa lw cw ba lb cb x0 y0 z0 H V C (hF.below hb) hch slo shi; rw [spR_t hs] at q; exact q)
      (fun W' hb => by have q := bprt_ok h w c lo hi ot oa on oc O Z B W' (hL.below hb) ch RL Rw hR i x wa lw cw ba lb cb x0 y0 z0 H V C (hF.below hb) hch slo shi 1 N hN; unfold spD at q; rw [if_pos hs, if_pos ⟨by omega, by omega⟩, show (1 : Int).toNat = 1 from rfl, i2] at q; exact q)
      (fun W' hb => by have q := bprd_ok h w c lo hi ot oa on oc O Z B W' (hL.below hb) ch RL Rw hR i x wa lw cw ba lb cb x0 y0 z0 H V C (hF.below hb) hch slo shi; rw [spR_t hs] at q; exact q)
      (fun W' hb => by have q := nqu_ok h w c lo hi ot oa on oc O Z B W' (hL.below hb) ch RL Rw hR i x wa lw cw ba lb cb x0 y0 z0 H V C (hF.below hb) hch slo shi; unfold quR at q; rw [if_pos qv] at q; exact q)
      (fun W' hb => bprt_ok h w c lo hi ot oa on oc O Z B W' (hL.below hb) ch RL Rw hR i x wa lw cw ba lb cb x0 y0 z0 H V C (hF.below hb) hch slo shi dp N hN)
      (fun W' hb => btot_ok h w c lo hi ot oa on oc O Z B W' (hL.below hb) ch RL Rw hR i x wa lw cw ba lb cb x0 y0 z0 H V C (hF.below hb) hch ylo yhi)
      (fun W' hb => brun_ok h w c lo hi ot oa on oc O Z B W' (hL.below hb) ch RL Rw hR i x wa lw cw ba lb cb x0 y0 z0 H V C (hF.below hb) hch ylo yhi)
      (fun W' hb => bprd_ok h w c lo hi ot oa on oc O Z B W' (hL.below hb) ch RL Rw hR i x wa lw cw ba lb cb x0 y0 z0 H V C (hF.below hb) hch ylo yhi)
      (fun W' hb => bprt_ok h w c lo hi ot oa on oc O Z B W' (hL.below hb) ch RL Rw hR i x wa lw cw ba lb cb x0 y0 z0 H V C (hF.below hb) hch ylo yhi dp N hN)
      (xho_of i1 v1.2.1) (xho_of iq v2.2.1) (fun q => ?_) (fun q g => ?_)
    · unfold spD at q ⊢
      rw [if_pos hs] at q ⊢
      by_cases hd : 1 ≤ dp ∧ dp ≤ (N : Int)
      · rw [if_pos hd]
        exact xho_of i3 v3.2.1
      · rw [if_neg hd] at q; cases q
    · have hy : vbB ylo yhi = true := by
        cases e : vbB ylo yhi with
        | true => rfl
        | false => rw [spR_f e] at q; cases q
      have gg := of_decide_eq_true g
      rw [spR_t hy, spR_t hy, spR_t hy]
      unfold spD
      rw [if_pos hs, if_pos hy]
      by_cases hd : 1 ≤ dp ∧ dp ≤ (N : Int)
      · obtain ⟨w1, w2, w3, w4⟩ := hb_wide hSit hz hch hv hp hbi (vbB_yes hy) gg.2.1 gg.2.2 dp.toNat (by omega)
        rw [if_pos hd, if_pos hd]
        exact ⟨xho_of w1 v1.2.1, xho_of w2 v2.2.1, xho_of w3 v3.2.1, xho_of w4 (v4 dp.toNat (by omega) (by omega)).2.1⟩
      · obtain ⟨w1, w2, w3, -⟩ := hb_wide hSit hz hch hv hp hbi (vbB_yes hy) gg.2.1 gg.2.2 1 (by omega)
        rw [if_neg hd, if_neg hd]
        exact ⟨xho_of w1 v1.2.1, xho_of w2 v2.2.1, xho_of w3 v3.2.1, by decide⟩
end Go.Proofs.Ytbogpgaifbjahaa

/- Numbers that spans hold: sums, blocks and products of a row's terms (for BoundHolds). -/
namespace Go.Proofs.Ytbogpgaifbjahaa
open Go.ChangeShapes Go.WideShapes Go.ChangeAt Go.RowKit
set_option linter.unusedVariables false
def PIn (x : Int) (s : Int × Int) : Prop := s.1 ≤ x ∧ x ≤ s.2
/-- The sum ahead of the j-th term within its block. -/
def psU (d : Nat) (E : List (Int × Int)) (j : Nat) : Int × Int := if j = 0 then (0, 0) else psm d E (j - 1)
def RulesM (w : World) : List (Nat × Array Value × TypeId) → Prop
  | [] => True
  | (B, c, _) :: l => (∀ (n : Wd w []) i, n.w.cell? ⟨B, i, none⟩ = c[i]?) ∧ (∀ (n : Wd w []), B < n.w.heap.size) ∧ RulesM w l
end Go.Proofs.Ytbogpgaifbjahaa

/- The walk of BoundHolds: errors. -/
namespace Go.Proofs.Ytbogpgaifbjahaa
open Go.ChangeShapes Go.WideShapes Go.ChangeAt Go.RowKit
set_option linter.unusedVariables false
end Go.Proofs.Ytbogpgaifbjahaa
