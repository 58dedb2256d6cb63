/- The document's bytes of a model. -/
import Derived.Test.YthagdpiocmcbmaaGr25
/- The document's bytes of a model. -/
namespace Go.Proofs.Ythagdpiocmcbmaa
open Wr
open Go.ChangeShapes Go.WideShapes Go.ChangeAt Go.RowKit
set_option linter.unusedVariables false
set_option maxHeartbeats 8000000 in
set_option maxRecDepth 100000 in
theorem bytes_any (h w c lo hi ot : Int) (oa : Option Addr) (on oc : Nat) (O : Nat → Nat → Int) (Z B : Nat → List Int) (W : World) (hL : LRow W oa on oc O Z B) (hF : OFit on O Z B) (h64 : In64 [lo, hi]) :
    Calls Try.prog 18 #[.agg #[.int .i64 h, .int .i64 w, .int .i64 c, .int .i64 lo, .int .i64 hi, .slice oa on oc, .int .i64 ot]] W fun e w' => ∃ v, e = .returned v ∧ Wr.Own w' W.heap.size v (eAll (dMod h w c lo hi ot on O Z B)) ∧ v ≠ .slice none 0 0 ∧ Below W.heap.size W w' := by
  have hon := hF.1
  have hoc := hL.1
  have hom := hL.2.1
  unfold maxLen at hom
  have HL : Hid (LRow W oa on oc O Z B) := hL
  have HF : Hid (OFit on O Z B) := hF
  have H64 : Hid (In64 [lo, hi]) := h64
  have e1 : Hid ((eU [h, w, c]).length ≤ 30) := eU_le _
  have e2 : Hid ((eS [lo, hi]).length ≤ 20) := eS_le _ h64
  have e3 : Hid ((putR on).length ≤ 10) := put_le (by omega)
  have hp : Hid (eU [(on : Int)] = putR on) := by
    unfold Hid eU; rw [List.flatMap_singleton, u64_of (by omega) (by omega), Int.toNat_natCast]
  have cv := cv2
  have s1 := ((St.start W).new (c := #[.int .i64 h, .int .i64 w, .int .i64 c, .int .i64 lo, .int .i64 hi, .slice oa on oc, .int .i64 ot]) (t := 26)).skip (.cells #[.int .u8 83, .int .u8 87, .int .u8 77, .int .u8 49] 5 (4, 5))
  have hR := row_mark (W.alloc (.cells #[.int .i64 h, .int .i64 w, .int .i64 c, .int .i64 lo, .int .i64 hi, .slice oa on oc, .int .i64 ot] 26)) head4 head_byt (by unfold maxLen; simp [head4]) (4, 5)
  simp only [World.size_alloc] at hR s1
  obtain ⟨w1, hw1⟩ : ∃ w1, w1 = (W.alloc (.cells #[.int .i64 h, .int .i64 w, .int .i64 c, .int .i64 lo, .int .i64 hi, .slice oa on oc, .int .i64 ot] 26)).alloc (.cells #[.int .u8 83, .int .u8 87, .int .u8 77, .int .u8 49] 5 (4, 5)) := ⟨_, rfl⟩
  have hR1 : Hid (Wo w1 W.heap.size (.slice (some ⟨W.heap.size + 1, 0, none⟩) 4 4) head4) := by rw [hw1]; exact .inr ⟨_, rfl, hR⟩
  rw [← hw1] at s1
  have S1 : Hid (St W w1 _) := s1
  obtain ⟨c1, f1, z1, -⟩ := s1.rules
  have zW : W.heap.size < w1.heap.size := z1
  clear hL hF h64 hR s1
  go_enter Try.func18, Try.ntmps18
  go_upto_region 2 with fail
  rw [← hw1]
  clear hw1 cv
  go_wp2_with fail
  refine (us_any W.heap.size w1.heap.size 3 _ head4 [h, w, c] _ (hR1.out.below (bal _ _)) (heap_alloc_new w1 _) rfl (by simp; omega) (by simp [head4]) (by omega) trivial).mono ?_
  rintro e w2 ⟨v2, rfl, T2, K2, -⟩
  obtain ⟨a2, n2, p2, rfl⟩ := T2.ltr
  have k2 : Hid (Wk0 W.heap.size w1 w2) := (Wk0.of (bal _ _) (by omega)).trans K2
  have B2 : Hid (w2.heap[W.heap.size]? = some (.cells #[.int .i64 h, .int .i64 w, .int .i64 c, .int .i64 lo, .int .i64 hi, .slice oa on oc, .int .i64 ot] 26 (0, 0))) := k2.out.2 _ _ _ (by decide) S1.out.h1
  have t2 : Hid (Wo w2 W.heap.size _ _) := T2
  have zz2 := k2.out.size
  clear c1 f1 z1 T2 K2
  obtain ⟨c1, f1, z1⟩ := cells_at B2.out
  go_wp2_with fail
  refine (ss_any W.heap.size w2.heap.size 2 _ _ [lo, hi] _ (t2.out.below (bal _ _)) (heap_alloc_new w2 _) rfl (by simp; omega) (by have := e1.out; simp [head4]; omega) (by omega) H64.out).mono ?_
  rintro e w3 ⟨v3, rfl, T3, K3, -⟩
  obtain ⟨a3, n3, p3, rfl⟩ := T3.ltr
  have k3 : Hid (Wk0 W.heap.size w1 w3) := k2.out.trans ((Wk0.of (bal _ _) (by omega)).trans K3)
  have B3 : Hid (w3.heap[W.heap.size]? = some (.cells #[.int .i64 h, .int .i64 w, .int .i64 c, .int .i64 lo, .int .i64 hi, .slice oa on oc, .int .i64 ot] 26 (0, 0))) := k3.out.2 _ _ _ (by decide) S1.out.h1
  have t3 : Hid (Wo w3 W.heap.size _ _) := T3
  have zz3 := k3.out.size
  clear c1 f1 z1 T3 K3 t2 k2 B2
  obtain ⟨c1, f1, z1⟩ := cells_at B3.out
  go_wp2_with fail
  refine (us_any W.heap.size w3.heap.size 1 _ _ [(on : Int)] _ (t3.out.below (bal _ _)) (heap_alloc_new w3 _) rfl (by simp; omega) (by have := e1.out; have := e2.out; simp [head4]; omega) (by omega) trivial).mono ?_
  rintro e w4 ⟨v4, rfl, T4, K4, -⟩
  obtain ⟨a4, n4, p4, rfl⟩ := T4.ltr
  have k4 : Hid (Wk0 W.heap.size w1 w4) := k3.out.trans ((Wk0.of (bal _ _) (by omega)).trans K4)
  have B4 : Hid (w4.heap[W.heap.size]? = some (.cells #[.int .i64 h, .int .i64 w, .int .i64 c, .int .i64 lo, .int .i64 hi, .slice oa on oc, .int .i64 ot] 26 (0, 0))) := k4.out.2 _ _ _ (by decide) S1.out.h1
  have t4 : Hid (Wo w4 W.heap.size (.slice (some a4) n4 p4) (head4 ++ (eU [h, w, c] ++ (eS [lo, hi] ++ (putR on ++ eOps (dOps O Z B 0)))))) := by
    unfold Hid; rw [hp.out] at T4; simpa [eOps, dOps] using T4
  clear c1 f1 z1 T4 K4 t3 k3 B3
  obtain ⟨c1, f1, z1⟩ := cells_at B4.out
  go_wp2
  go_loopw [3, 41] (fun b i wr => ∃ k : Nat, k ≤ on ∧ i = .int .i64 k ∧ Wo wr W.heap.size b (head4 ++ (eU [h, w, c] ++ (eS [lo, hi] ++ (putR on ++ eOps (dOps O Z B k))))) ∧ Wk0 W.heap.size w1 wr) (fun _ i _ => on - (intOf i).toNat)
  case atStart => exact ⟨0, Nat.zero_le _, rfl, t4.out, k4.out⟩
  case round =>
    obtain ⟨k, hk, rfl, hT, hK⟩ := hrel
    clear t4 k4 B4 c1 f1 z1
    obtain ⟨ab, nb, pb, rfl⟩ := hT.ltr
    have hT' : Hid (Wo wr W.heap.size (.slice (some ab) nb pb) (head4 ++ (eU [h, w, c] ++ (eS [lo, hi] ++ (putR on ++ eOps (dOps O Z B k)))))) := hT
    have hK' : Hid (Wk0 W.heap.size w1 wr) := hK
    have hlen : Hid ((eOps (dOps O Z B k)).length ≤ k * 1400000) := eOps_le HF.out k hk
    have hzr := hK.size
    by_cases hlk : k < on
    · obtain ⟨x, rfl, wa, lw, cw, ba, lb, cb, e12, e13, hcx, hz1, hb1, -, -⟩ := HL.out.at hlk
      obtain ⟨g1, g2, g3, g4, g5⟩ := HF.out.2 k hlk
      have bW : Hid (Below W.heap.size W wr) := S1.out.below.trans hK.1
      have hcell : Hid (∀ j v, [.int .i64 (O k 0), .int .i64 (O k 1), .int .i64 (O k 2), .int .i64 (O k 3), .int .i64 (O k 4), .int .i64 (O k 5), .int .i64 (O k 6), .int .i64 (O k 7), .int .i64 (O k 8), .int .i64 (O k 9), .int .i64 (O k 10), .int .i64 (O k 11), .slice wa lw cw, .slice ba lb cb, .int .i64 (O k 14), .int .i64 (O k 15), .int .i64 (O k 16), .int .i64 (O k 17), .int .i64 (O k 18), .int .i64 (O k 19), .int .i64 (O k 20), .int .i64 (O k 21)][j]? = some v → wr.cell? ((x.add (k * 22)).add j) = some v) := fun j v hj => by
        have := hcx j v hj
        exact (bW.out.cell (World.block_lt_of_cell? W _ this)).trans this
      have Hbox : (wr.alloc (.cells #[.int .i64 (O k 0), .int .i64 (O k 1), .int .i64 (O k 2), .int .i64 (O k 3), .int .i64 (O k 4), .int .i64 (O k 5), .int .i64 (O k 6), .int .i64 (O k 7), .int .i64 (O k 8), .int .i64 (O k 9), .int .i64 (O k 10), .int .i64 (O k 11), .slice wa lw cw, .slice ba lb cb, .int .i64 (O k 14), .int .i64 (O k 15), .int .i64 (O k 16), .int .i64 (O k 17), .int .i64 (O k 18), .int .i64 (O k 19), .int .i64 (O k 20), .int .i64 (O k 21)] 50)).heap[wr.heap.size]? = some (.cells #[.int .i64 (O k 0), .int .i64 (O k 1), .int .i64 (O k 2), .int .i64 (O k 3), .int .i64 (O k 4), .int .i64 (O k 5), .int .i64 (O k 6), .int .i64 (O k 7), .int .i64 (O k 8), .int .i64 (O k 9), .int .i64 (O k 10), .int .i64 (O k 11), .slice wa lw cw, .slice ba lb cb, .int .i64 (O k 14), .int .i64 (O k 15), .int .i64 (O k 16), .int .i64 (O k 17), .int .i64 (O k 18), .int .i64 (O k 19), .int .i64 (O k 20), .int .i64 (O k 21)] 50 (0, 0)) := heap_alloc_new wr _
      have hlw : lw ≤ 131072 := by rw [← hz1.1]; exact g1
      have hlb : lb ≤ 1024 := by rw [← hb1.1]; exact g2
      have hlc := hz1.2.1
      have hlm := hz1.2.2.1
      have hbc := hb1.2.1
      have hbm := hb1.2.2.1
      unfold maxLen at hlm hbm
      have HZ : Hid (IRow .i16 W wa lw cw (Z k)) := hz1
      have HB : Hid (IRow .i32 W ba lb cb (B k)) := hb1
      have G5 : Hid (In64 [O k 18, O k 19, O k 20, O k 21]) := g5
      have hzl : Hid ((Z k).length = lw) := hz1.1
      have hbl : Hid ((B k).length = lb) := hb1.1
      have e4 : Hid ((eS (Z k)).length ≤ 10 * lw) := by unfold Hid; rw [← hz1.1]; exact eS_le _ fun q hq => by have := i16_of (hz1.2.2.2.1 q hq); omega
      have e5 : Hid ((eS (B k)).length ≤ 10 * lb) := by unfold Hid; rw [← hb1.1]; exact eS_le _ fun q hq => by have := i32_of (hb1.2.2.2.1 q hq); omega
      have e6 : Hid ((putR (Z k).length).length ≤ 10 ∧ (putR (B k).length).length ≤ 10) := ⟨put_le (by rw [hz1.1]; omega), put_le (by rw [hb1.1]; omega)⟩
      have e7 : Hid ((eU [O k 0, O k 1, O k 2, O k 3, O k 4, O k 5, O k 6, O k 7, O k 8, O k 9, O k 10, O k 11]).length ≤ 120) := eU_le _
      have e8 : Hid ((eU [O k 14, O k 15, O k 16, O k 17]).length ≤ 40) := eU_le _
      have p13 : Hid (eU [O k 0, O k 1, O k 2, O k 3, O k 4, O k 5, O k 6, O k 7, O k 8, O k 9, O k 10, O k 11, (lw : Int)] = eU [O k 0, O k 1, O k 2, O k 3, O k 4, O k 5, O k 6, O k 7, O k 8, O k 9, O k 10, O k 11] ++ putR (Z k).length) := by
        unfold Hid
        rw [show [O k 0, O k 1, O k 2, O k 3, O k 4, O k 5, O k 6, O k 7, O k 8, O k 9, O k 10, O k 11, (lw : Int)] = [O k 0, O k 1, O k 2, O k 3, O k 4, O k 5, O k 6, O k 7, O k 8, O k 9, O k 10, O k 11] ++ [(lw : Int)] from rfl, eU_app, hz1.1]
        congr 1
        unfold eU; rw [List.flatMap_singleton, u64_of (by omega) (by omega), Int.toNat_natCast]
      have p1 : Hid (eU [(lb : Int)] = putR (B k).length) := by
        unfold Hid; rw [hb1.1]; unfold eU; rw [List.flatMap_singleton, u64_of (by omega) (by omega), Int.toNat_natCast]
      have sy := ((St.start wr).new (c := #[.int .i64 (O k 0), .int .i64 (O k 1), .int .i64 (O k 2), .int .i64 (O k 3), .int .i64 (O k 4), .int .i64 (O k 5), .int .i64 (O k 6), .int .i64 (O k 7), .int .i64 (O k 8), .int .i64 (O k 9), .int .i64 (O k 10), .int .i64 (O k 11), .slice wa lw cw, .slice ba lb cb, .int .i64 (O k 14), .int .i64 (O k 15), .int .i64 (O k 16), .int .i64 (O k 17), .int .i64 (O k 18), .int .i64 (O k 19), .int .i64 (O k 20), .int .i64 (O k 21)]) (t := 50)).new (c := #[.int .i64 (O k 4), .int .i64 (O k 5), .int .i64 (O k 6), .int .i64 (O k 7), .int .i64 (O k 8), .int .i64 (O k 9), .int .i64 (O k 10), .int .i64 (O k 11)]) (t := 44)
      simp only [World.size_alloc] at sy
      obtain ⟨wy, hwy⟩ : ∃ wy, wy = (wr.alloc (.cells #[.int .i64 (O k 0), .int .i64 (O k 1), .int .i64 (O k 2), .int .i64 (O k 3), .int .i64 (O k 4), .int .i64 (O k 5), .int .i64 (O k 6), .int .i64 (O k 7), .int .i64 (O k 8), .int .i64 (O k 9), .int .i64 (O k 10), .int .i64 (O k 11), .slice wa lw cw, .slice ba lb cb, .int .i64 (O k 14), .int .i64 (O k 15), .int .i64 (O k 16), .int .i64 (O k 17), .int .i64 (O k 18), .int .i64 (O k 19), .int .i64 (O k 20), .int .i64 (O k 21)] 50)).alloc (.cells #[.int .i64 (O k 4), .int .i64 (O k 5), .int .i64 (O k 6), .int .i64 (O k 7), .int .i64 (O k 8), .int .i64 (O k 9), .int .i64 (O k 10), .int .i64 (O k 11)] 44) := ⟨_, rfl⟩
      rw [← hwy] at sy
      clear hT hK hz1 hb1 g1 g2 g3 g4 g5 e12 e13 hcx
      go_upto_region 8 with (first
        | (refine wpList_load_any rfl 50 (.tmp 43) rfl _ rfl [.int .i64 (O k 0), .int .i64 (O k 1), .int .i64 (O k 2), .int .i64 (O k 3), .int .i64 (O k 4), .int .i64 (O k 5), .int .i64 (O k 6), .int .i64 (O k 7), .int .i64 (O k 8), .int .i64 (O k 9), .int .i64 (O k 10), .int .i64 (O k 11), .slice wa lw cw, .slice ba lb cb, .int .i64 (O k 14), .int .i64 (O k 15), .int .i64 (O k 16), .int .i64 (O k 17), .int .i64 (O k 18), .int .i64 (O k 19), .int .i64 (O k 20), .int .i64 (O k 21)] _ hcell.out Try.underlying50 rfl (by kernel_rfl) ?_)
        | (refine wpList_st_new rfl 50 (.tmp 5) (.tmp 44) rfl wr _ #[.int .i64 (O k 0), .int .i64 (O k 1), .int .i64 (O k 2), .int .i64 (O k 3), .int .i64 (O k 4), .int .i64 (O k 5), .int .i64 (O k 6), .int .i64 (O k 7), .int .i64 (O k 8), .int .i64 (O k 9), .int .i64 (O k 10), .int .i64 (O k 11), .slice wa lw cw, .slice ba lb cb, .int .i64 (O k 14), .int .i64 (O k 15), .int .i64 (O k 16), .int .i64 (O k 17), .int .i64 (O k 18), .int .i64 (O k 19), .int .i64 (O k 20), .int .i64 (O k 21)] rfl rfl (by kernel_rfl) rfl (by simp [Value.oneCell']) ?_))
      go_upto_region 9 with fail
      rw [← hwy]
      have SY : Hid (St wr wy _) := sy
      obtain ⟨c1, f1, z1, c2, f2, z2, -⟩ := sy.rules
      have ty : Hid (Wo wy W.heap.size (.slice (some ab) nb pb) (head4 ++ (eU [h, w, c] ++ (eS [lo, hi] ++ (putR on ++ eOps (dOps O Z B k)))))) := hT'.out.below sy.below
      have ky : Hid (Wk0 W.heap.size w1 wy) := hK'.out.trans (Wk0.of sy.below (by omega))
      have zy := ky.out.size
      clear hwy sy Hbox hcell hT'
      go_wp2_with fail
      refine (us_any W.heap.size wy.heap.size 13 _ _ [O k 0, O k 1, O k 2, O k 3, O k 4, O k 5, O k 6, O k 7, O k 8, O k 9, O k 10, O k 11, (lw : Int)] _ (ty.out.below (bal _ _)) (heap_alloc_new wy _) rfl (by simp; omega) (by have := hlen.out; have := e1.out; have := e2.out; have := e3.out; simp [head4]; omega) (by omega) trivial).mono ?_
      rintro e w6 ⟨v6, rfl, T6, K6, -⟩
      obtain ⟨a6, n6, p6, rfl⟩ := T6.ltr
      have k6 : Hid (Wk0 W.heap.size wy w6) := (Wk0.of (bal _ _) (by omega)).trans K6
      have t6 : Hid (Wo w6 W.heap.size (.slice (some a6) n6 p6) (head4 ++ (eU [h, w, c] ++ (eS [lo, hi] ++ (putR on ++ eOps (dOps O Z B k)))) ++ (eU [O k 0, O k 1, O k 2, O k 3, O k 4, O k 5, O k 6, O k 7, O k 8, O k 9, O k 10, O k 11] ++ putR (Z k).length) ++ eS ((Z k).take 0))) := by
        unfold Hid; rw [p13.out] at T6; simpa [eS] using T6
      clear c1 f1 z1 c2 f2 z2 T6 K6
      obtain ⟨c1, f1, z1⟩ := cells_at (k6.out.2 _ _ _ (by decide) SY.out.h2)
      go_wp2
      obtain ⟨wo, rfl⟩ : ∃ wo, wo = wr := ⟨_, rfl⟩
      go_loopw [3, 80] (fun b i wx => ∃ j : Nat, j ≤ lw ∧ i = .int .i64 j ∧ Wo wx W.heap.size b (head4 ++ (eU [h, w, c] ++ (eS [lo, hi] ++ (putR on ++ eOps (dOps O Z B k)))) ++ (eU [O k 0, O k 1, O k 2, O k 3, O k 4, O k 5, O k 6, O k 7, O k 8, O k 9, O k 10, O k 11] ++ putR (Z k).length) ++ eS ((Z k).take j)) ∧ Wk0 W.heap.size wy wx) (fun _ i _ => lw - (intOf i).toNat)
      case atStart => exact ⟨0, Nat.zero_le _, rfl, t6.out, k6.out⟩
      case round =>
        obtain ⟨j, hj, rfl, hT, hK⟩ := hrel
        clear c1 f1 z1 t6 k6
        obtain ⟨ax, nx, px, rfl⟩ := hT.ltr
        have hTx : Hid (Wo wr W.heap.size (.slice (some ax) nx px) _) := hT
        have hKx : Hid (Wk0 W.heap.size wy wr) := hK
        have zx := hK.size
        by_cases hlj : j < lw
        · obtain ⟨q, y, rfl, hcq, hwf, hky, -⟩ := (HZ.out.below (bW.out.trans (SY.out.below.mono (by omega) |>.trans hK.1))).at hlj
          have hyb := i16_of hwf
          have h64 : Hid (In64 [y]) := fun q hq => by simp at hq; subst hq; omega
          have hbd : Hid (In64 ((Z k).take j)) := fun q hq => by have := i16_of (HZ.out.2.2.2.1 q (List.mem_of_mem_take hq)); omega
          have hlen2 : Hid ((head4 ++ (eU [h, w, c] ++ (eS [lo, hi] ++ (putR on ++ eOps (dOps O Z B k)))) ++ (eU [O k 0, O k 1, O k 2, O k 3, O k 4, O k 5, O k 6, O k 7, O k 8, O k 9, O k 10, O k 11] ++ putR (Z k).length) ++ eS ((Z k).take j)).length + 10 * 1 ≤ 140737488355328) := by
            have := eS_le _ hbd.out; have := hlen.out; have := e1.out; have := e2.out; have := e3.out; have := e4.out; have := e5.out; have := e6.out; have := e7.out; simp only [Hid, List.length_append, List.length_take, head4, List.length_cons, List.length_nil] at *; omega
          have hnext : Hid (head4 ++ (eU [h, w, c] ++ (eS [lo, hi] ++ (putR on ++ eOps (dOps O Z B k)))) ++ (eU [O k 0, O k 1, O k 2, O k 3, O k 4, O k 5, O k 6, O k 7, O k 8, O k 9, O k 10, O k 11] ++ putR (Z k).length) ++ eS ((Z k).take j) ++ eS [y] = head4 ++ (eU [h, w, c] ++ (eS [lo, hi] ++ (putR on ++ eOps (dOps O Z B k)))) ++ (eU [O k 0, O k 1, O k 2, O k 3, O k 4, O k 5, O k 6, O k 7, O k 8, O k 9, O k 10, O k 11] ++ putR (Z k).length) ++ eS ((Z k).take (j + 1))) := by
            unfold Hid; rw [take_more hky, eS_app]; simp only [List.append_assoc]
          clear hT hK hky hwf
          go_wp2_with fail
          refine (ss_any W.heap.size wr.heap.size 1 _ _ [y] _ (hTx.out.below (bal _ _)) (heap_alloc_new wr _) rfl (by simp; omega) hlen2.out (by omega) h64.out).mono ?_
          rintro e w7 ⟨v7, rfl, T7, K7, -⟩
          have t7 : Hid (Wo w7 W.heap.size v7 (head4 ++ (eU [h, w, c] ++ (eS [lo, hi] ++ (putR on ++ eOps (dOps O Z B k)))) ++ (eU [O k 0, O k 1, O k 2, O k 3, O k 4, O k 5, O k 6, O k 7, O k 8, O k 9, O k 10, O k 11] ++ putR (Z k).length) ++ eS ((Z k).take (j + 1)))) := by unfold Hid; rw [← hnext.out]; exact T7
          have k7 : Hid (Wk0 W.heap.size wy w7) := hKx.out.trans ((Wk0.of (bal _ _) (by omega)).trans K7)
          clear T7 K7 hTx
          go_wp2
          go_roundw
          case rel => exact ⟨j + 1, by omega, by go_num, t7.out, k7.out⟩
          case measure => simp [intOf]; omega
        · have t7 : Hid (Wo wr W.heap.size (.slice (some ax) nx px) (head4 ++ (eU [h, w, c] ++ (eS [lo, hi] ++ (putR on ++ eOps (dOps O Z B k)))) ++ (eU [O k 0, O k 1, O k 2, O k 3, O k 4, O k 5, O k 6, O k 7, O k 8, O k 9, O k 10, O k 11] ++ putR (Z k).length) ++ eS (Z k))) := by
            unfold Hid; rw [List.take_of_length_le (by rw [hzl.out]; omega)] at hT; exact hT
          clear hT hK hTx
          obtain ⟨c1, f1, z1⟩ := cells_at (hKx.out.2 _ _ _ (by decide) SY.out.h2)
          go_wp2_with fail
          refine (us_any W.heap.size wr.heap.size 1 _ _ [(lb : Int)] _ (t7.out.below (bal _ _)) (heap_alloc_new wr _) rfl (by simp; omega) (by have := hlen.out; have := e1.out; have := e2.out; have := e3.out; have := e4.out; have := e6.out; have := e7.out; simp only [List.length_append, head4, List.length_cons, List.length_nil]; omega) (by omega) trivial).mono ?_
          rintro e w7 ⟨v7, rfl, T7, K7, -⟩
          obtain ⟨a7, n7, p7, rfl⟩ := T7.ltr
          have k7 : Hid (Wk0 W.heap.size wy w7) := hKx.out.trans ((Wk0.of (bal _ _) (by omega)).trans K7)
          clear t7
          have t7 : Hid (Wo w7 W.heap.size (.slice (some a7) n7 p7) (head4 ++ (eU [h, w, c] ++ (eS [lo, hi] ++ (putR on ++ eOps (dOps O Z B k)))) ++ (eU [O k 0, O k 1, O k 2, O k 3, O k 4, O k 5, O k 6, O k 7, O k 8, O k 9, O k 10, O k 11] ++ putR (Z k).length) ++ eS (Z k) ++ putR (B k).length ++ eS ((B k).take 0))) := by
            unfold Hid; rw [p1.out] at T7; simpa [eS] using T7
          have z7 := k7.out.size
          clear c1 f1 z1 T7 K7 hKx
          obtain ⟨c1, f1, z1⟩ := cells_at (k7.out.2 _ _ _ (by decide) SY.out.h2)
          go_wp2
          obtain ⟨wo, rfl⟩ : ∃ wo, wo = wr := ⟨_, rfl⟩
          go_loopw [3, 99] (fun b i wx => ∃ j : Nat, j ≤ lb ∧ i = .int .i64 j ∧ Wo wx W.heap.size b (head4 ++ (eU [h, w, c] ++ (eS [lo, hi] ++ (putR on ++ eOps (dOps O Z B k)))) ++ (eU [O k 0, O k 1, O k 2, O k 3, O k 4, O k 5, O k 6, O k 7, O k 8, O k 9, O k 10, O k 11] ++ putR (Z k).length) ++ eS (Z k) ++ putR (B k).length ++ eS ((B k).take j)) ∧ Wk0 W.heap.size wy wx) (fun _ i _ => lb - (intOf i).toNat)
          case atStart => exact ⟨0, Nat.zero_le _, rfl, t7.out, k7.out⟩
          case round =>
            obtain ⟨j, hj, rfl, hT, hK⟩ := hrel
            clear c1 f1 z1 t7 k7
            obtain ⟨ax, nx, px, rfl⟩ := hT.ltr
            have hTx : Hid (Wo wr W.heap.size (.slice (some ax) nx px) _) := hT
            have hKx : Hid (Wk0 W.heap.size wy wr) := hK
            have zx := hK.size
            by_cases hlj : j < lb
            · obtain ⟨q, y, rfl, hcq, hwf, hky, -⟩ := (HB.out.below (bW.out.trans (SY.out.below.mono (by omega) |>.trans hK.1))).at hlj
              have hyb := i32_of hwf
              have h64 : Hid (In64 [y]) := fun q hq => by simp at hq; subst hq; omega
              have hbd : Hid (In64 ((B k).take j)) := fun q hq => by have := i32_of (HB.out.2.2.2.1 q (List.mem_of_mem_take hq)); omega
              have hlen2 : Hid ((head4 ++ (eU [h, w, c] ++ (eS [lo, hi] ++ (putR on ++ eOps (dOps O Z B k)))) ++ (eU [O k 0, O k 1, O k 2, O k 3, O k 4, O k 5, O k 6, O k 7, O k 8, O k 9, O k 10, O k 11] ++ putR (Z k).length) ++ eS (Z k) ++ putR (B k).length ++ eS ((B k).take j)).length + 10 * 1 ≤ 140737488355328) := by
                have := eS_le _ hbd.out; have := hlen.out; have := e1.out; have := e2.out; have := e3.out; have := e4.out; have := e5.out; have := e6.out; have := e7.out; simp only [Hid, List.length_append, List.length_take, head4, List.length_cons, List.length_nil] at *; omega
              have hnext : Hid (head4 ++ (eU [h, w, c] ++ (eS [lo, hi] ++ (putR on ++ eOps (dOps O Z B k)))) ++ (eU [O k 0, O k 1, O k 2, O k 3, O k 4, O k 5, O k 6, O k 7, O k 8, O k 9, O k 10, O k 11] ++ putR (Z k).length) ++ eS (Z k) ++ putR (B k).length ++ eS ((B k).take j) ++ eS [y] = head4 ++ (eU [h, w, c] ++ (eS [lo, hi] ++ (putR on ++ eOps (dOps O Z B k)))) ++ (eU [O k 0, O k 1, O k 2, O k 3, O k 4, O k 5, O k 6, O k 7, O k 8, O k 9, O k 10, O k 11] ++ putR (Z k).length) ++ eS (Z k) ++ putR (B k).length ++ eS ((B k).take (j + 1))) := by
                unfold Hid; rw [take_more hky, eS_app]; simp only [List.append_assoc]
              clear hT hK hky hwf
              go_wp2_with fail
              refine (ss_any W.heap.size wr.heap.size 1 _ _ [y] _ (hTx.out.below (bal _ _)) (heap_alloc_new wr _) rfl (by simp; omega) hlen2.out (by omega) h64.out).mono ?_
              rintro e w7 ⟨v7, rfl, T7, K7, -⟩
              have t7 : Hid (Wo w7 W.heap.size v7 (head4 ++ (eU [h, w, c] ++ (eS [lo, hi] ++ (putR on ++ eOps (dOps O Z B k)))) ++ (eU [O k 0, O k 1, O k 2, O k 3, O k 4, O k 5, O k 6, O k 7, O k 8, O k 9, O k 10, O k 11] ++ putR (Z k).length) ++ eS (Z k) ++ putR (B k).length ++ eS ((B k).take (j + 1)))) := by unfold Hid; rw [← hnext.out]; exact T7
              have k7 : Hid (Wk0 W.heap.size wy w7) := hKx.out.trans ((Wk0.of (bal _ _) (by omega)).trans K7)
              clear T7 K7 hTx
              go_wp2
              go_roundw
              case rel => exact ⟨j + 1, by omega, by go_num, t7.out, k7.out⟩
              case measure => simp [intOf]; omega
            · have t7 : Hid (Wo wr W.heap.size (.slice (some ax) nx px) (head4 ++ (eU [h, w, c] ++ (eS [lo, hi] ++ (putR on ++ eOps (dOps O Z B k)))) ++ (eU [O k 0, O k 1, O k 2, O k 3, O k 4, O k 5, O k 6, O k 7, O k 8, O k 9, O k 10, O k 11] ++ putR (Z k).length) ++ eS (Z k) ++ putR (B k).length ++ eS (B k))) := by
                unfold Hid; rw [List.take_of_length_le (by rw [hbl.out]; omega)] at hT; exact hT
              clear hT hK hTx
              obtain ⟨c1, f1, z1⟩ := cells_at (hKx.out.2 _ _ _ (by decide) SY.out.h2)
              go_wp2_with fail
              refine (us_any W.heap.size wr.heap.size 4 _ _ [O k 14, O k 15, O k 16, O k 17] _ (t7.out.below (bal _ _)) (heap_alloc_new wr _) rfl (by simp; omega) (by have := hlen.out; have := e1.out; have := e2.out; have := e3.out; have := e4.out; have := e5.out; have := e6.out; have := e7.out; simp only [List.length_append, head4, List.length_cons, List.length_nil]; omega) (by omega) trivial).mono ?_
              rintro e w8 ⟨v8, rfl, T8, K8, -⟩
              obtain ⟨a8, n8, p8, rfl⟩ := T8.ltr
              have k8 : Hid (Wk0 W.heap.size wy w8) := hKx.out.trans ((Wk0.of (bal _ _) (by omega)).trans K8)
              have t8 : Hid (Wo w8 W.heap.size (.slice (some a8) n8 p8) _) := T8
              have z8 := k8.out.size
              clear c1 f1 z1 T8 K8
              obtain ⟨c1, f1, z1⟩ := cells_at (k8.out.2 _ _ _ (by decide) SY.out.h2)
              go_wp2_with fail
              refine (ss_any W.heap.size w8.heap.size 4 _ _ [O k 18, O k 19, O k 20, O k 21] _ (t8.out.below (bal _ _)) (heap_alloc_new w8 _) rfl (by simp; omega) (by have := hlen.out; have := e1.out; have := e2.out; have := e3.out; have := e4.out; have := e5.out; have := e6.out; have := e7.out; have := e8.out; simp only [List.length_append, head4, List.length_cons, List.length_nil]; omega) (by omega) G5.out).mono ?_
              rintro e w9 ⟨v9, rfl, T9, K9, -⟩
              have k9 : Hid (Wk0 W.heap.size w1 w9) := ky.out.trans (k8.out.trans ((Wk0.of (bal _ _) (by omega)).trans K9))
              have t9 : Hid (Wo w9 W.heap.size v9 (head4 ++ (eU [h, w, c] ++ (eS [lo, hi] ++ (putR on ++ eOps (dOps O Z B (k + 1))))))) := by
                unfold Hid
                rw [dOps_succ]
                have e : eOps (dOps O Z B k ++ [dOp (O k) (Z k) (B k)]) = eOps (dOps O Z B k) ++ eOp (dOp (O k) (Z k) (B k)) := by simp [eOps]
                rw [e]
                unfold eOp dOp
                simp only [List.append_assoc] at T9 ⊢
                exact T9
              clear c1 f1 z1 T9 K9 t8 k8
              go_wp2
              go_roundw
              case rel => exact ⟨k + 1, by omega, by go_num, t9.out, k9.out⟩
              case measure => simp [intOf]; omega
    · obtain rfl : k = on := by omega
      have hB := hK.2 _ _ _ (by decide) S1.out.h1
      obtain ⟨c1, f1, z1⟩ := cells_at hB
      clear hT hK hB
      go_wp2_with fail
      refine (us_any W.heap.size wr.heap.size 1 _ _ [ot] _ (hT'.out.below (bal _ _)) (heap_alloc_new wr _) rfl (by simp; omega) (by have := hlen.out; have := e1.out; have := e2.out; have := e3.out; simp [head4]; omega) (by omega) trivial).mono ?_
      rintro e w5 ⟨v5, rfl, -, K5, O5⟩
      have hE : Hid (Wr.Own w5 W.heap.size v5 (eAll (dMod h w c lo hi ot k O Z B)) ∧ v5 ≠ .slice none 0 0 ∧ Below W.heap.size W w5) := by
        obtain ⟨o1, o2⟩ := O5 (by omega)
        refine ⟨?_, o2, S1.out.below.trans (hK'.out.trans ((Wk0.of (bal _ _) (by omega)).trans K5)).1⟩
        unfold eAll eMod dMod
        rw [dOps_len]
        simp only [List.append_assoc] at o1 ⊢
        simpa [eU] using o1
      clear K5 O5 c1
      go_wp2
      go_ret
      exact ⟨_, rfl, hE.out.1, hE.out.2.1, hE.out.2.2⟩
end Go.Proofs.Ythagdpiocmcbmaa
