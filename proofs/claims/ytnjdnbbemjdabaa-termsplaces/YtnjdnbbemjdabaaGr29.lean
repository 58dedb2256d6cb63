/- The walk of TermsPlaces, an op of kind 1. -/
import Derived.Test.YtnjdnbbemjdabaaGr28
import Derived.BigQuiet
/- The walk of TermsPlaces, an op of kind 1. -/
namespace Go.Proofs.Ytnjdnbbemjdabaa
open Go.ChangeShapes Go.WideShapes Go.ChangeAt Go.RowKit
set_option linter.unusedVariables false
set_option maxHeartbeats 16000000 in
set_option maxRecDepth 100000 in
theorem termsPlaces_1 (h w c lo hi : Int) (oa : Option Addr) (on oc : Nat) (ot ch at' : Int) (O : Nat → Nat → Int) (Z B : Nat → List Int) (W : World) (hL : LRow W oa on oc O Z B) (hon : on ≤ 1000000000000) (RL : List (Int × Int × Int)) (Rw : Int) (hR : gtR O h w c lo hi ot on = (0, 0, RL, Rw)) (i : Nat) (x : Addr) (wa : Option Addr) (lw cw : Nat) (ba : Option Addr) (lb cb : Nat) (x0 y0 z0 H V C : Int) (hF : Fnd W oa on O Z B RL i x wa lw cw ba lb cb x0 y0 z0 H V C) (hch : 1 ≤ ch ∧ ch ≤ C) (hp : 0 ≤ at' ∧ at' < H * V) (hk : O i 0 = 1) :
    Calls Try.prog 5 #[.agg #[.int .i64 h, .int .i64 w, .int .i64 c, .int .i64 lo, .int .i64 hi, .slice oa on oc, .int .i64 ot, .int .i64 ((i : Int) + 1), .int .i64 ch, .int .i64 at']] W fun e w' => e = .returned (.bool true) ∧ Below W.heap.size W w' := by
  obtain ⟨d, rfl⟩ : ∃ d : Nat, ch = (d : Int) + 1 := ⟨(ch - 1).toNat, by omega⟩
  have hSit := hF.2.2.2.2.2.2.2.2.2.1
  have HrZ : Hid (IRow .i16 W wa lw cw (Z i)) := hF.2.2.2.2.2.1
  have hio := hF.1
  have Hcell : Hid (∀ q v, [.int .i64 (O i 0), .int .i64 (O i 1), .int .i64 (O i 2), .int .i64 (O i 3), .int .i64 (O i 4), .int .i64 (O i 5), .int .i64 (O i 6), .int .i64 (O i 7), .int .i64 (O i 8), .int .i64 (O i 9), .int .i64 (O i 10), .int .i64 (O i 11), .slice wa lw cw, .slice ba lb cb, .int .i64 (O i 14), .int .i64 (O i 15), .int .i64 (O i 16), .int .i64 (O i 17), .int .i64 (O i 18), .int .i64 (O i 19), .int .i64 (O i 20), .int .i64 (O i 21)][q]? = some v → W.cell? ((x.add (i * 22)).add q) = some v) := hF.2.2.2.2.1
  have HO : Hid (∀ W', Below W.heap.size W W' → _) := fun W' hb => of_ok h w c lo hi ot oa on oc O Z B W' (hL.below hb) ((d : Int) + 1) at' RL Rw hR i x wa lw cw ba lb cb x0 y0 z0 H V C (hF.below hb) hch hp
  have HLe : Hid (∀ W', Below W.heap.size W W' → _) := fun W' hb => lenT_ok h w c lo hi ot oa on oc O Z B W' (hL.below hb) RL Rw hR i x wa lw cw ba lb cb x0 y0 z0 H V C (hF.below hb)
  have HF : Hid (∀ W', Below W.heap.size W W' → _) := fun W' hb => fch_r (O := O) (i := i) (x := x) (wa := wa) (lw := lw) (cw := cw) (ba := ba) (lb := lb) (cb := cb) (x0 := x0) (y0 := y0) (z0 := z0) (H := H) (V := V) (C := C) h w c lo hi ot oa on oc W' ((i : Int) + 1) ((d : Int) + 1) 0 (by omega) (fun W'' hb' => rfind_ok h w c lo hi ot oa on oc O Z B W'' (hL.below (hb.trans (hb'.mono hb.size))) hon ((d : Int) + 1) RL Rw hR i x wa lw cw ba lb cb x0 y0 z0 H V C (hF.below (hb.trans (hb'.mono hb.size))) (by omega))
  obtain ⟨st, hst⟩ : ∃ st : Nat, stR (O i 0) (O i 4) (O i 5) x0 y0 z0 = (st : Int) := ⟨(stR (O i 0) (O i 4) (O i 5) x0 y0 z0).toNat, by have := hSit.2.2.2.2.2.2.2.2.1; omega⟩
  have hst5 : 1 ≤ st ∧ st ≤ 512 := by have := hSit.2.2.2.2.2.2.2.2; rw [hst] at this; omega
  have hvA := vS_bd hSit.2.1
  have hz01 := (vS_yes hSit.2.1).2.2.1
  obtain ⟨M, hM⟩ : ∃ M : Nat, x0 * y0 * z0 = (M : Int) := ⟨(x0 * y0 * z0).toNat, by omega⟩
  have Hpl : Hid (Plf _ (O i 4) (O i 5) (O i 6) (O i 7) (O i 8) (O i 9) (O i 10) (O i 11) x0 y0 z0 ((d : Int) + 1) at' _ st M) := plf_of hSit hch hp hst hM
  have hCb := (vS_yes hSit.2.2.1).2.2.1
  have hlw := hSit.2.2.2.2.2.2.1
  rw [hst] at HLe hlw
  obtain ⟨TL, hTL⟩ : ∃ TL, siL (O i 0) (O i 4) (O i 5) (O i 6) (O i 7) (O i 8) (O i 9) (O i 10) (O i 11) x0 y0 z0 ((d : Int) + 1) at' (Z i) = TL := ⟨_, rfl⟩
  rw [hTL] at HO
  obtain ⟨f, hf⟩ : ∃ f : Nat → Int, (fun i' : Nat => plA (O i 0) z0 ((d : Int) + 1) x0 y0 (O i 5) (coR x0 y0 z0 (O i 4) (O i 5) (O i 6) (O i 7) (O i 8) (O i 9) (O i 10) (O i 11) at').1 (coR x0 y0 z0 (O i 4) (O i 5) (O i 6) (O i 7) (O i 8) (O i 9) (O i 10) (O i 11) at').2.1 (i' : Int)) = f := ⟨_, rfl⟩
  rw [hf] at Hpl
  have hTLt : TL.length = st ∧ ∀ y, y < st → TL.getD y (0, 0) = (wgA (O i 0) ((d : Int) + 1) st (Z i) y, f y) := by
    rw [← hTL, ← hf]
    unfold siL
    rw [hst, Int.toNat_natCast]
    refine ⟨tmL_len _ _ _ _ _ _ _ _ _ _ _, fun y hy => ?_⟩
    simp [tmL, List.getD, hy]
  have HT : Hid (TL.length = st ∧ _) := hTLt
  obtain ⟨bi, hbi⟩ : ∃ bi, biA (O i 0) ((d : Int) + 1) (B i) = bi := ⟨_, rfl⟩
  rw [hbi] at HO
  obtain ⟨q1, hq1⟩ : ∃ q1, x0 * y0 = q1 := ⟨_, rfl⟩
  rw [hq1] at hM hvA
  rw [hM] at hvA
  have HK : Hid (O i 0 = 1) := hk
  have e1 : (O i 0 == 1) = true := by rw [hk]; rfl
  have e2 : (O i 0 == 2) = false := by rw [hk]; rfl
  have e3 : (O i 0 == 3) = false := by rw [hk]; rfl
  have e4 : (O i 0 == 4) = false := by rw [hk]; rfl
  have hxx := hF.2.1
  subst hxx
  have hocc := hL.1
  have hocm := hL.2.1
  unfold maxLen at hocm
  have hlw2 := (hlw (by rw [hk]; decide)).1
  have p1 : 0 ≤ (d : Int) * st := Int.mul_nonneg (by omega) (by omega)
  have p2' : (d : Int) * st + st ≤ C * st := by
    have := Int.mul_le_mul_of_nonneg_right (show (d : Int) + 1 ≤ C by omega) (show 0 ≤ (st : Int) by omega)
    rwa [Int.add_mul, Int.one_mul] at this
  obtain ⟨p', ep⟩ : ∃ p', (d : Int) * st = p' := ⟨_, rfl⟩
  have epc : ((d : Int) + 1) * st = p' + st := by rw [Int.add_mul, Int.one_mul, ep]
  rw [ep] at p1 p2'
  rw [← hlw2] at p2'
  have hNN : Hid (∀ y, y < st → 0 ≤ p' + (y : Int) ∧ p' + (y : Int) < (lw : Int)) := fun y hy => by omega
  have hwm := HrZ.out.2.1
  have hwm2 := HrZ.out.2.2.1
  unfold maxLen at hwm2
  have s0 := (St.start W).new (c := #[.int .i64 h, .int .i64 w, .int .i64 c, .int .i64 lo, .int .i64 hi, .slice (some x) on oc, .int .i64 ot, .int .i64 ((i : Int) + 1), .int .i64 ((d : Int) + 1), .int .i64 at']) (t := 46)
  have HX : Hid (((O i 0 == 1) = true ∧ (O i 0 == 2) = false ∧ (O i 0 == 3) = false ∧ (O i 0 == 4) = false) ∧ x0 * y0 = q1 ∧ q1 * z0 = (M : Int) ∧ ((1 ≤ q1 ∧ q1 ≤ 1048576) ∧ (1 ≤ (M : Int) ∧ (M : Int) ≤ 16384)) ∧ (1 ≤ z0 ∧ z0 ≤ 1024)) := ⟨⟨e1, e2, e3, e4⟩, hq1, hM, hvA, hz01⟩
  have HW : Hid ((0 ≤ p' ∧ p' + st ≤ (lw : Int)) ∧ (d : Int) * st = p' ∧ ((d : Int) + 1) * st = p' + st ∧ (lw ≤ cw ∧ cw ≤ 9223372036854775807)) := ⟨⟨p1, p2'⟩, ep, epc, hwm, hwm2⟩
  clear hF hR hL hSit hst hlw hTL hf hTLt hbi hk e1 e2 e3 e4 hq1 hM hvA hz01 hp hlw2 p1 p2' ep epc hwm hwm2
  go_enter Try.func5, Try.ntmps5
  go_wp2_with fail
  refine (fixed10_any _).mono ?_
  rintro e w1 ⟨rfl, hb⟩
  have s1 := s0.call hb
  obtain ⟨c1, f1, z1, -⟩ := s1.rules
  clear hb s0
  go_wp2_with fail
  refine (HO.out _ s1.below).mono ?_
  rintro e w2 ⟨⟨vl, rfl, hOl⟩, hb⟩
  obtain ⟨gl, cl, curl, rfl, -, hGl, hCl, hclm⟩ := hOl.cu (by rw [HT.out.1]; omega)
  rw [HT.out.1]
  have hcl := hCl.2.1
  rw [HT.out.1] at hcl
  unfold maxLen at hclm
  have HGl : Hid (w2.heap[gl]? = some (.cells curl 56 (0, 0))) := hGl
  have HCl : Hid (Cu2 curl cl TL) := hCl
  have s2 := s1.call hb
  clear hb s1 c1 f1 z1 hOl hGl hCl
  obtain ⟨c1, f1, z1, -⟩ := s2.rules
  go_wp2_with fail
  refine (HLe.out _ s2.below).mono ?_
  rintro e w3 ⟨rfl, hb⟩
  have s3 := (s2.call hb).new (c := #[.int .i64 (O i 0), .int .i64 (O i 1), .int .i64 (O i 2), .int .i64 (O i 3), .int .i64 (O i 4), .int .i64 (O i 5), .int .i64 (O i 6), .int .i64 (O i 7), .int .i64 (O i 8), .int .i64 (O i 9), .int .i64 (O i 10), .int .i64 (O i 11), .slice wa lw cw, .slice ba lb cb, .int .i64 (O i 14), .int .i64 (O i 15), .int .i64 (O i 16), .int .i64 (O i 17), .int .i64 (O i 18), .int .i64 (O i 19), .int .i64 (O i 20), .int .i64 (O i 21)]) (t := 34)
  have HG3 : Hid ((w3.alloc (.cells #[.int .i64 (O i 0), .int .i64 (O i 1), .int .i64 (O i 2), .int .i64 (O i 3), .int .i64 (O i 4), .int .i64 (O i 5), .int .i64 (O i 6), .int .i64 (O i 7), .int .i64 (O i 8), .int .i64 (O i 9), .int .i64 (O i 10), .int .i64 (O i 11), .slice wa lw cw, .slice ba lb cb, .int .i64 (O i 14), .int .i64 (O i 15), .int .i64 (O i 16), .int .i64 (O i 17), .int .i64 (O i 18), .int .i64 (O i 19), .int .i64 (O i 20), .int .i64 (O i 21)] 34)).heap[gl]? = some (.cells curl 56 (0, 0))) := ((bt hb (bal w3 _)).block gl (lt_of_heap HGl.out)).trans HGl.out
  have HC3 : Hid (∀ q v, [.int .i64 (O i 0), .int .i64 (O i 1), .int .i64 (O i 2), .int .i64 (O i 3), .int .i64 (O i 4), .int .i64 (O i 5), .int .i64 (O i 6), .int .i64 (O i 7), .int .i64 (O i 8), .int .i64 (O i 9), .int .i64 (O i 10), .int .i64 (O i 11), .slice wa lw cw, .slice ba lb cb, .int .i64 (O i 14), .int .i64 (O i 15), .int .i64 (O i 16), .int .i64 (O i 17), .int .i64 (O i 18), .int .i64 (O i 19), .int .i64 (O i 20), .int .i64 (O i 21)][q]? = some v → w3.cell? ((x.add (i * 22)).add q) = some v) := fun q v hq => ((s2.call hb).below.cell (World.block_lt_of_cell? W _ (Hcell.out q v hq))).trans (Hcell.out q v hq)
  have s3' := s2.call hb
  clear hb s2 c1 f1 z1 HGl
  obtain ⟨c1, f1, z1, -⟩ := s3'.rules
  clear s3'
  obtain ⟨vo, hvo⟩ : ∃ vo, Value.agg #[.int .i64 (O i 0), .int .i64 (O i 1), .int .i64 (O i 2), .int .i64 (O i 3), .int .i64 (O i 4), .int .i64 (O i 5), .int .i64 (O i 6), .int .i64 (O i 7), .int .i64 (O i 8), .int .i64 (O i 9), .int .i64 (O i 10), .int .i64 (O i 11), .slice wa lw cw, .slice ba lb cb, .int .i64 (O i 14), .int .i64 (O i 15), .int .i64 (O i 16), .int .i64 (O i 17), .int .i64 (O i 18), .int .i64 (O i 19), .int .i64 (O i 20), .int .i64 (O i 21)] = vo := ⟨_, rfl⟩
  have HVO : Hid (Value.agg #[.int .i64 (O i 0), .int .i64 (O i 1), .int .i64 (O i 2), .int .i64 (O i 3), .int .i64 (O i 4), .int .i64 (O i 5), .int .i64 (O i 6), .int .i64 (O i 7), .int .i64 (O i 8), .int .i64 (O i 9), .int .i64 (O i 10), .int .i64 (O i 11), .slice wa lw cw, .slice ba lb cb, .int .i64 (O i 14), .int .i64 (O i 15), .int .i64 (O i 16), .int .i64 (O i 17), .int .i64 (O i 18), .int .i64 (O i 19), .int .i64 (O i 20), .int .i64 (O i 21)] = vo) := hvo
  have S3 : Hid (St W (w3.alloc (.cells #[.int .i64 (O i 0), .int .i64 (O i 1), .int .i64 (O i 2), .int .i64 (O i 3), .int .i64 (O i 4), .int .i64 (O i 5), .int .i64 (O i 6), .int .i64 (O i 7), .int .i64 (O i 8), .int .i64 (O i 9), .int .i64 (O i 10), .int .i64 (O i 11), .slice wa lw cw, .slice ba lb cb, .int .i64 (O i 14), .int .i64 (O i 15), .int .i64 (O i 16), .int .i64 (O i 17), .int .i64 (O i 18), .int .i64 (O i 19), .int .i64 (O i 20), .int .i64 (O i 21)] 34)) _) := s3
  clear s3
  go_wp2_with ((refine wpList_load_any rfl 34 (.tmp 76) rfl _ rfl [.int .i64 (O i 0), .int .i64 (O i 1), .int .i64 (O i 2), .int .i64 (O i 3), .int .i64 (O i 4), .int .i64 (O i 5), .int .i64 (O i 6), .int .i64 (O i 7), .int .i64 (O i 8), .int .i64 (O i 9), .int .i64 (O i 10), .int .i64 (O i 11), .slice wa lw cw, .slice ba lb cb, .int .i64 (O i 14), .int .i64 (O i 15), .int .i64 (O i 16), .int .i64 (O i 17), .int .i64 (O i 18), .int .i64 (O i 19), .int .i64 (O i 20), .int .i64 (O i 21)] _ HC3.out Try.underlying34 rfl (by kernel_rfl) ?_; (show wpList _ _ _ _ (Act.put _ _ (Value.agg #[.int .i64 (O i 0), .int .i64 (O i 1), .int .i64 (O i 2), .int .i64 (O i 3), .int .i64 (O i 4), .int .i64 (O i 5), .int .i64 (O i 6), .int .i64 (O i 7), .int .i64 (O i 8), .int .i64 (O i 9), .int .i64 (O i 10), .int .i64 (O i 11), .slice wa lw cw, .slice ba lb cb, .int .i64 (O i 14), .int .i64 (O i 15), .int .i64 (O i 16), .int .i64 (O i 17), .int .i64 (O i 18), .int .i64 (O i 19), .int .i64 (O i 20), .int .i64 (O i 21)])) _); rw [hvo]; clear hvo; refine wpList_runs rfl (some 8) rfl (.pointer (some ⟨w3.heap.size, 0, none⟩)) (w3.alloc (.cells #[.int .i64 0, .int .i64 0, .int .i64 0, .int .i64 0, .int .i64 0, .int .i64 0, .int .i64 0, .int .i64 0, .int .i64 0, .int .i64 0, .int .i64 0, .int .i64 0, .slice none 0 0, .slice none 0 0, .int .i64 0, .int .i64 0, .int .i64 0, .int .i64 0, .int .i64 0, .int .i64 0, .int .i64 0, .int .i64 0] 34)) (by kernel_rfl) ?_; refine wpList_st_new rfl 34 (.tmp 8) (.tmp 77) rfl w3 #[.int .i64 0, .int .i64 0, .int .i64 0, .int .i64 0, .int .i64 0, .int .i64 0, .int .i64 0, .int .i64 0, .int .i64 0, .int .i64 0, .int .i64 0, .int .i64 0, .slice none 0 0, .slice none 0 0, .int .i64 0, .int .i64 0, .int .i64 0, .int .i64 0, .int .i64 0, .int .i64 0, .int .i64 0, .int .i64 0] #[.int .i64 (O i 0), .int .i64 (O i 1), .int .i64 (O i 2), .int .i64 (O i 3), .int .i64 (O i 4), .int .i64 (O i 5), .int .i64 (O i 6), .int .i64 (O i 7), .int .i64 (O i 8), .int .i64 (O i 9), .int .i64 (O i 10), .int .i64 (O i 11), .slice wa lw cw, .slice ba lb cb, .int .i64 (O i 14), .int .i64 (O i 15), .int .i64 (O i 16), .int .i64 (O i 17), .int .i64 (O i 18), .int .i64 (O i 19), .int .i64 (O i 20), .int .i64 (O i 21)] (by kernel_rfl) (Eq.trans (by kernel_rfl : _ = vo) HVO.out.symm) (by kernel_rfl) rfl (by simp [Value.oneCell']) ?_; (obtain ⟨w3', hw3'⟩ : ∃ w3', w3.alloc (.cells #[.int .i64 (O i 0), .int .i64 (O i 1), .int .i64 (O i 2), .int .i64 (O i 3), .int .i64 (O i 4), .int .i64 (O i 5), .int .i64 (O i 6), .int .i64 (O i 7), .int .i64 (O i 8), .int .i64 (O i 9), .int .i64 (O i 10), .int .i64 (O i 11), .slice wa lw cw, .slice ba lb cb, .int .i64 (O i 14), .int .i64 (O i 15), .int .i64 (O i 16), .int .i64 (O i 17), .int .i64 (O i 18), .int .i64 (O i 19), .int .i64 (O i 20), .int .i64 (O i 21)] 34) = w3' := ⟨_, rfl⟩); rw [hw3'] at S3 HG3 ⊢; clear hw3' c1 f1 z1; obtain ⟨-, -, z2, c1, f1, z1, -⟩ := S3.out.rules))
  refine (HF.out _ S3.out.below).mono ?_
  rintro e w4 ⟨he, hb⟩
  obtain ⟨vr, hvr⟩ : ∃ vr, Value.agg #[.int .i64 (O i 0), .int .i64 (O i 1), .int .i64 (O i 2), .int .i64 (O i 3), .int .i64 (O i 4), .int .i64 (O i 5), .int .i64 (O i 6), .int .i64 (O i 7), .int .i64 (O i 8), .int .i64 (O i 9), .int .i64 (O i 10), .int .i64 (O i 11), .slice wa lw cw, .slice ba lb cb, .int .i64 (O i 14), .int .i64 (O i 15), .int .i64 (O i 16), .int .i64 (O i 17), .int .i64 (O i 18), .int .i64 (O i 19), .int .i64 (O i 20), .int .i64 (O i 21), .int .i64 x0, .int .i64 y0, .int .i64 z0, .int .i64 H, .int .i64 V, .int .i64 C] = vr := ⟨_, rfl⟩
  rw [hvr] at he
  subst he
  have HVR : Hid (Value.agg #[.int .i64 (O i 0), .int .i64 (O i 1), .int .i64 (O i 2), .int .i64 (O i 3), .int .i64 (O i 4), .int .i64 (O i 5), .int .i64 (O i 6), .int .i64 (O i 7), .int .i64 (O i 8), .int .i64 (O i 9), .int .i64 (O i 10), .int .i64 (O i 11), .slice wa lw cw, .slice ba lb cb, .int .i64 (O i 14), .int .i64 (O i 15), .int .i64 (O i 16), .int .i64 (O i 17), .int .i64 (O i 18), .int .i64 (O i 19), .int .i64 (O i 20), .int .i64 (O i 21), .int .i64 x0, .int .i64 y0, .int .i64 z0, .int .i64 H, .int .i64 V, .int .i64 C] = vr) := hvr
  clear hvr
  have s4 := (S3.out.call hb).new (c := #[.int .i64 (O i 0), .int .i64 (O i 1), .int .i64 (O i 2), .int .i64 (O i 3), .int .i64 (O i 4), .int .i64 (O i 5), .int .i64 (O i 6), .int .i64 (O i 7), .int .i64 (O i 8), .int .i64 (O i 9), .int .i64 (O i 10), .int .i64 (O i 11), .slice wa lw cw, .slice ba lb cb, .int .i64 (O i 14), .int .i64 (O i 15), .int .i64 (O i 16), .int .i64 (O i 17), .int .i64 (O i 18), .int .i64 (O i 19), .int .i64 (O i 20), .int .i64 (O i 21), .int .i64 x0, .int .i64 y0, .int .i64 z0, .int .i64 H, .int .i64 V, .int .i64 C]) (t := 36)
  have HG4 : Hid ((w4.alloc (.cells #[.int .i64 (O i 0), .int .i64 (O i 1), .int .i64 (O i 2), .int .i64 (O i 3), .int .i64 (O i 4), .int .i64 (O i 5), .int .i64 (O i 6), .int .i64 (O i 7), .int .i64 (O i 8), .int .i64 (O i 9), .int .i64 (O i 10), .int .i64 (O i 11), .slice wa lw cw, .slice ba lb cb, .int .i64 (O i 14), .int .i64 (O i 15), .int .i64 (O i 16), .int .i64 (O i 17), .int .i64 (O i 18), .int .i64 (O i 19), .int .i64 (O i 20), .int .i64 (O i 21), .int .i64 x0, .int .i64 y0, .int .i64 z0, .int .i64 H, .int .i64 V, .int .i64 C] 36)).heap[gl]? = some (.cells curl 56 (0, 0))) := ((bt hb (bal w4 _)).block gl (lt_of_heap HG3.out)).trans HG3.out
  clear hb S3 c1 f1 z1 HG3 HC3 Hcell
  obtain ⟨⟨e1, e2, e3, e4⟩, hq1, hM, hvA, hz01⟩ := HX.out
  obtain ⟨⟨p1, p2'⟩, ep, epc, hwm, hwm2⟩ := HW.out
  have hwn : ¬ ((lw : Int) < p' + st) := by omega
  have hn4 : ¬ O i 0 = 4 := by rw [HK.out]; decide
  have hb4 : (O i 0 != 4) = true := by rw [HK.out]; rfl
  have hwd : decide ((lw : Int) < p' + st) = false := decide_eq_false hwn
  go_upto_region 11 with ((refine wpList_runs rfl (some 9) rfl (.pointer (some ⟨w4.heap.size, 0, none⟩)) (w4.alloc (.cells #[.int .i64 0, .int .i64 0, .int .i64 0, .int .i64 0, .int .i64 0, .int .i64 0, .int .i64 0, .int .i64 0, .int .i64 0, .int .i64 0, .int .i64 0, .int .i64 0, .slice none 0 0, .slice none 0 0, .int .i64 0, .int .i64 0, .int .i64 0, .int .i64 0, .int .i64 0, .int .i64 0, .int .i64 0, .int .i64 0, .int .i64 0, .int .i64 0, .int .i64 0, .int .i64 0, .int .i64 0, .int .i64 0] 36)) (by kernel_rfl) ?_; refine wpList_st_new rfl 36 (.tmp 9) (.tmp 86) rfl w4 #[.int .i64 0, .int .i64 0, .int .i64 0, .int .i64 0, .int .i64 0, .int .i64 0, .int .i64 0, .int .i64 0, .int .i64 0, .int .i64 0, .int .i64 0, .int .i64 0, .slice none 0 0, .slice none 0 0, .int .i64 0, .int .i64 0, .int .i64 0, .int .i64 0, .int .i64 0, .int .i64 0, .int .i64 0, .int .i64 0, .int .i64 0, .int .i64 0, .int .i64 0, .int .i64 0, .int .i64 0, .int .i64 0] #[.int .i64 (O i 0), .int .i64 (O i 1), .int .i64 (O i 2), .int .i64 (O i 3), .int .i64 (O i 4), .int .i64 (O i 5), .int .i64 (O i 6), .int .i64 (O i 7), .int .i64 (O i 8), .int .i64 (O i 9), .int .i64 (O i 10), .int .i64 (O i 11), .slice wa lw cw, .slice ba lb cb, .int .i64 (O i 14), .int .i64 (O i 15), .int .i64 (O i 16), .int .i64 (O i 17), .int .i64 (O i 18), .int .i64 (O i 19), .int .i64 (O i 20), .int .i64 (O i 21), .int .i64 x0, .int .i64 y0, .int .i64 z0, .int .i64 H, .int .i64 V, .int .i64 C] (by kernel_rfl) (Eq.trans (by kernel_rfl : _ = vr) HVR.out.symm) (by kernel_rfl) rfl (by simp [Value.oneCell']) ?_; (obtain ⟨w6, hw6⟩ : ∃ w6, w4.alloc (.cells #[.int .i64 (O i 0), .int .i64 (O i 1), .int .i64 (O i 2), .int .i64 (O i 3), .int .i64 (O i 4), .int .i64 (O i 5), .int .i64 (O i 6), .int .i64 (O i 7), .int .i64 (O i 8), .int .i64 (O i 9), .int .i64 (O i 10), .int .i64 (O i 11), .slice wa lw cw, .slice ba lb cb, .int .i64 (O i 14), .int .i64 (O i 15), .int .i64 (O i 16), .int .i64 (O i 17), .int .i64 (O i 18), .int .i64 (O i 19), .int .i64 (O i 20), .int .i64 (O i 21), .int .i64 x0, .int .i64 y0, .int .i64 z0, .int .i64 H, .int .i64 V, .int .i64 C] 36) = w6 := ⟨_, rfl⟩); rw [hw6] at s4 HG4 ⊢; clear hw6; obtain ⟨c1, f1, z1, c2, f2, z2, c3, f3, z3, -⟩ := s4.rules))
  go_upto_region 13 with fail
  go_wp2_with ((at_make; refine wpList_mak (⟨Try.underlying54, by kernel_rfl, by decide, by decide⟩ : KT .i64 3 54 8) rfl (.tmp 115) rfl M _ rfl rfl (by omega) ?_; intro hsn0))
  have S6 : Hid (St W w6 _) := s4
  have hz6 : Hid (w4.heap.size < w6.heap.size ∧ w3.heap.size < w6.heap.size ∧ W.heap.size < w6.heap.size) := ⟨lt_of_heap s4.h1, lt_of_heap s4.h2, lt_of_heap s4.h3⟩
  have hGz := lt_of_heap HG4.out
  have hsn : Hid (Sn (w6.alloc (.cells (Array.replicate M (Value.int .i64 0)) 3)) w6.heap.size (snL f M 0)) := by
    unfold Hid Sn
    rw [snL_0, ← rep_cells]
    exact hsn0
  have HB6 : Hid (Below w6.heap.size w6 (w6.alloc (.cells (Array.replicate M (Value.int .i64 0)) 3))) := bal w6 _
  clear hsn0 s4 c1 f1 z1 c2 f2 z2 c3 f3 z3 HVR HVO
  go_loopw [12, 119] (fun pq yq wr => ∃ y : Nat, y ≤ st ∧ yq = .int .i64 y ∧ pq = .int .i64 (pdN f y) ∧ Sn wr w6.heap.size (snL f M y) ∧ Below w6.heap.size w6 wr) (fun _ yq _ => st - (intOf yq).toNat)
  case atStart => exact ⟨0, Nat.zero_le _, rfl, rfl, hsn.out, HB6.out⟩
  case round =>
    obtain ⟨y, hy, rfl, rfl, hS, hb⟩ := hrel
    have s6 := S6.out
    have HS : Hid (Sn wr w6.heap.size (snL f M y)) := hS
    have hpl := pdN_le f y
    clear hsn HB6 hS
    by_cases hlt : y < st
    · obtain ⟨PA, hPA⟩ : ∃ PA, f y = PA := ⟨_, rfl⟩
      have hN2 := hNN.out y hlt
      obtain ⟨N, eN⟩ : ∃ N : Nat, p' + (y : Int) = (N : Int) := ⟨(p' + y).toNat, by omega⟩
      have hNl : N < lw := by omega
      obtain ⟨xz, uz, hxz, hu0, hwf, hz, -⟩ := HrZ.out.at hNl
      obtain ⟨uz1, uz2⟩ := wf_i16 hwf
      have hWG : wgA (O i 0) ((d : Int) + 1) st (Z i) y = uz := by
        unfold wgA
        rw [if_neg (by rw [HK.out]; decide), show (d : Int) + 1 - 1 = d by omega, ep, eN, Int.toNat_natCast, List.getD_eq_getElem?_getD, hz]
        rfl
      subst hxz
      have hNi : (N : Int) < (lw : Int) := by omega
      clear hwf hz hN2
      have s7 := s6.call hb
      have hrow := (hb.block gl hGz).trans HG4.out
      have hq := p2_at TL y (by rw [HT.out.1]; exact hlt)
      rw [HT.out.2 y hlt, hWG, hPA] at hq
      have hl1 : wr.cell? ⟨gl, y * 2, none⟩ = some (.int .i64 uz) := by rw [(cells_at hrow).1]; exact HCl.out.get hq.1
      have hl2 : wr.cell? ⟨gl, y * 2 + 1, none⟩ = some (.int .i64 PA) := by rw [(cells_at hrow).1]; exact HCl.out.get hq.2
      have hbd := Hpl.out.bd y hlt
      rw [hPA] at hbd
      have s8 := s7.new (c := #[.int .i64 uz, .int .i64 PA]) (t := 56)
      have b8 : Below w6.heap.size w6 (wr.alloc (.cells #[.int .i64 uz, .int .i64 PA] 56)) := hb.alloc hb.size _
      have hS8 := HS.out.below (bal wr (.cells #[.int .i64 uz, .int .i64 PA] 56))
      have hgw : Hid (w6.heap.size < wr.heap.size) := lt_of_heap HS.out
      clear hrow hq hWG s7 HS hb s6
      go_upto_region 18 with fail
      obtain ⟨w8, hw8⟩ : ∃ w8, wr.alloc (.cells #[.int .i64 uz, .int .i64 PA] 56) = w8 := ⟨_, rfl⟩
      rw [hw8] at s8 b8 hS8 ⊢
      have S8 : Hid (St W w8 _) := s8
      have B8 : Hid (Below w6.heap.size w6 w8) := b8
      have HS8 : Hid (Sn w8 w6.heap.size (snL f M y)) := hS8
      obtain ⟨c1, f1, z1, c2, f2, z2, c3, f3, z3, c4, f4, z4, -⟩ := s8.rules
      have hu : w8.cell? (xz.add N) = some (.int .i16 uz) := (S8.out.below.cell (World.block_lt_of_cell? W _ hu0)).trans hu0
      have hd1 : decide (PA < -1) = false := decide_eq_false (by omega)
      have hd2 : decide ((M : Int) ≤ PA) = false := decide_eq_false (by omega)
      clear hl1 hl2 s8 b8 hS8 hw8
      by_cases hpad : PA = -1
      · have HPd : Hid (pdN f (y + 1) = pdN f y + 1) := pdN_pad (by rw [hPA]; exact hpad)
        have HSp : Hid (snL f M (y + 1) = snL f M y) := snL_pad (by rw [hPA]; exact hpad)
        have hneg : PA < 0 := by omega
        clear hpad hPA
        go_quiet (fail)
        go_wp2
        go_roundw
        case rel => exact ⟨y + 1, by omega, by go_num, by rw [HPd.out]; go_num, by rw [HSp.out]; exact HS8.out.below (dbel _ _), B8.out.trans ((dbel _ _).mono B8.out.size)⟩
        case measure => simp [intOf]; omega
      · obtain ⟨p, rfl⟩ : ∃ p : Nat, PA = (p : Int) := ⟨PA.toNat, by omega⟩
        have hfp : f y = (p : Int) := hPA
        have hpM : p < M := by omega
        have hhit := snL_hit hfp hpM (fun j hj e => by have := Hpl.out.inj j y (by omega) hlt (by rw [e, hfp]; omega) e; omega)
        have HPd : Hid (pdN f (y + 1) = pdN f y) := pdN_hit (by rw [hfp]; omega)
        have HSh : Hid (snL f M (y + 1) = (snL f M y).set p 1) := hhit.1
        have hc0 := HS8.out.at (p := p) (by rw [snL_len]; exact hpM)
        rw [hhit.2] at hc0
        have hfz := (cells_at HS8.out).2.1
        have hpMi : (p : Int) < (M : Int) := by omega
        have hpn : ¬ (p : Int) < 0 := by omega
        clear hpad hPA hfp hhit
        go_quiet (fail)
        go_upto_region 23 with fail
        have hgz : w6.heap.size < wr.heap.size := hgw.out
        have D8 := dbel w8 nq
        have S9 : Hid (St W ((w8.drewN nq).setCell ⟨w6.heap.size, p, none⟩ (.int .i64 1)) _) := (S8.out.call D8).setX (i := p) (v := .int .i64 1) (show W.heap.size ≤ w6.heap.size from S6.out.below.size) (fun q hq => by
          simp only [List.mem_cons, List.not_mem_nil, or_false] at hq
          have z6 := hz6.out
          rcases hq with rfl | rfl | rfl | rfl
          · show wr.heap.size ≠ w6.heap.size; omega
          · show w4.heap.size ≠ w6.heap.size; omega
          · show w3.heap.size ≠ w6.heap.size; omega
          · show W.heap.size ≠ w6.heap.size; omega)
        have HS9 : Hid (Sn ((w8.drewN nq).setCell ⟨w6.heap.size, p, none⟩ (.int .i64 1)) w6.heap.size ((snL f M y).set p 1)) := Sn.set 1 (HS8.out.below D8)
        have B9 : Hid (Below w6.heap.size w6 ((w8.drewN nq).setCell ⟨w6.heap.size, p, none⟩ (.int .i64 1))) := (B8.out.trans (D8.mono B8.out.size)).setCell (p := ⟨w6.heap.size, p, none⟩) (Nat.le_refl _) _
        obtain ⟨w9, hw9⟩ : ∃ w9, (w8.drewN nq).setCell ⟨w6.heap.size, p, none⟩ (.int .i64 1) = w9 := ⟨_, rfl⟩
        rw [hw9] at S9 HS9 B9 ⊢
        have hc9 := HS9.out.at (p := p) (by rw [List.length_set, snL_len]; exact hpM)
        rw [set_at_self (by rw [snL_len]; exact hpM)] at hc9
        clear hw9 c1 f1 z1 c2 f2 z2 c3 f3 z3 c4 f4 z4 hc0 hfz S8 HS8 B8 D8
        obtain ⟨c1, f1, z1, c2, f2, z2, c3, f3, z3, c4, f4, z4, -⟩ := S9.out.rules
        go_quiet (fail)
        go_wp2
        go_roundw
        case rel => exact ⟨y + 1, by omega, by go_num, by rw [HPd.out], by rw [HSh.out]; exact HS9.out.below (dbel _ _), B9.out.trans ((dbel _ _).mono B9.out.size)⟩
        case measure => simp [intOf]; omega
    · have hys : st = y := by omega
      subst hys
      obtain ⟨g1, g2⟩ := Hpl.out.one HK.out
      have hsM : (st : Int) = (M : Int) := by omega
      rw [g1]
      have s8 := s6.call hb
      clear g1 g2 s6
      obtain ⟨c1, f1, z1, c2, f2, z2, c3, f3, z3, -⟩ := s8.rules
      go_wp2
      go_ret
      exact ⟨rfl, s8.below⟩
end Go.Proofs.Ytnjdnbbemjdabaa
