/- The document's Terms, by kind; the walk of TermsCounts. -/
import Derived.Test.YteobcmocjpdcmaaGr24
import Derived.Test.YteobcmocjpdcmaaGr25
import Derived.Test.YteobcmocjpdcmaaGr26
/- The document's Terms, by kind; the walk of TermsCounts. -/
namespace Go.Proofs.Yteobcmocjpdcmaa
open Go.ChangeShapes Go.WideShapes Go.ChangeAt Go.RowKit
set_option linter.unusedVariables false
/-- The document's Terms of an op that is there. -/
theorem rterms_any (k a b m kh kw sh sw tp lf bt rt : Int) (wa : Option Addr) (lw wc : Nat) (ba : Option Addr) (lb bc : Nat) (sm ss um us z p lo hi h w c H V C : Int) (W : World) (zs : List Int) (hZ : IRow .i16 W wa lw wc zs) (s : Sit k kh kw sh sw tp lf bt rt h w c H V C lw lb) (ch at' : Int) (hch : 1 ≤ ch ∧ ch ≤ C) (hat : 0 ≤ at' ∧ at' < H * V) :
    Calls Try.prog 17 #[.agg #[.int .i64 k, .int .i64 a, .int .i64 b, .int .i64 m, .int .i64 kh, .int .i64 kw, .int .i64 sh, .int .i64 sw, .int .i64 tp, .int .i64 lf, .int .i64 bt, .int .i64 rt, .slice wa lw wc, .slice ba lb bc, .int .i64 sm, .int .i64 ss, .int .i64 um, .int .i64 us, .int .i64 z, .int .i64 p, .int .i64 lo, .int .i64 hi, .int .i64 h, .int .i64 w, .int .i64 c, .int .i64 H, .int .i64 V, .int .i64 C], .int .i64 ch, .int .i64 at'] W fun e w' => (∃ v, e = .returned v ∧ OTm w' W.heap.size v (siL k kh kw sh sw tp lf bt rt h w c ch at' zs)) ∧ Below W.heap.size W w' := by
  obtain ⟨st, hst⟩ : ∃ st : Nat, stR k kh kw h w c = (st : Int) := ⟨(stR k kh kw h w c).toNat, by have := s.2.2.2.2.2.2.2.2.1; omega⟩
  unfold siL
  rw [hst, Int.toNat_natCast]
  by_cases k1 : k = 1
  · subst k1
    exact rterms_1 a b m kh kw sh sw tp lf bt rt wa lw wc ba lb bc sm ss um us z p lo hi h w c H V C W zs hZ s ch at' _ _ hch st hst
  · obtain ⟨cn, rfl⟩ : ∃ cn : Nat, c = (cn : Int) := ⟨c.toNat, by have := (vS_yes s.2.1).2.2.1; omega⟩
    have hou := s.2.2.2.1 (by have := s.1; omega)
    have hcc : (coR h w (cn : Int) kh kw sh sw tp lf bt rt at').2.2 = 0 := by
      unfold coR
      rw [hou]
      simp only
      rw [if_pos trivial, if_pos hat]
    exact rterms_w k a b m kh kw sh sw tp lf bt rt wa lw wc ba lb bc sm ss um us z p lo hi h w cn H V C W zs hZ s k1 ch at' _ _ hch (by rw [← hcc]) st hst
set_option maxHeartbeats 8000000 in
set_option maxRecDepth 100000 in
theorem termsCounts_walk (h w c lo hi : Int) (oa : Option Addr) (on oc : Nat) (ot op : Int) (W : World) (_ : (Lit.int .i64 h).wf = true) (_ : (Lit.int .i64 w).wf = true) (_ : (Lit.int .i64 c).wf = true) (_ : (Lit.int .i64 lo).wf = true) (_ : (Lit.int .i64 hi).wf = true)
    (wo : ORow 22 (OpIn W) W oa on oc) (hr : on * 208 ≤ 140737488351232) (_ : (Lit.int .i64 ot).wf = true) (_ : (Lit.int .i64 op).wf = true) :
    Calls Try.prog 3 #[.agg #[.int .i64 h, .int .i64 w, .int .i64 c, .int .i64 lo, .int .i64 hi, .slice oa on oc, .int .i64 ot], .int .i64 op] W fun e w' => e = .returned (.bool true) ∧ Below W.heap.size W w' := by
  rename_i x1 x2 x3 x4 x5 x6 x7
  clear x1 x2 x3 x4 x5 x6 x7
  obtain ⟨O, Z, B, hL⟩ := lrow_of wo
  have HL : Hid (LRow W oa on oc O Z B) := hL
  have hon : on ≤ 1000000000000 := by omega
  have s0 := (St.start W).new (c := #[.int .i64 h, .int .i64 w, .int .i64 c, .int .i64 lo, .int .i64 hi, .slice oa on oc, .int .i64 ot]) (t := 26)
  obtain ⟨E, hf⟩ : ∃ E, fiE O h w c lo hi ot on op = E := ⟨_, rfl⟩
  by_cases hE : E = 0
  · subst hE
    obtain ⟨RL, Rw, hR, i, x, wa, lw, cw, ba, lb, cb, x0, y0, z0, H, V, C, rfl, hF⟩ := found h w c lo hi ot oa on oc O Z B W hL op hf
    have hSit := hF.2.2.2.2.2.2.2.2.2.1
    have hCb := (vS_yes hSit.2.2.1).2.2.1
    have hFi : Hid (∀ W', Below W.heap.size W W' → _) := fun W' hb => rfind_ok h w c lo hi ot oa on oc O Z B W' (hL.below hb) hon 0 RL Rw hR i x wa lw cw ba lb cb x0 y0 z0 H V C (hF.below hb) (by omega)
    have hLe : Hid (∀ W', Below W.heap.size W W' → _) := fun W' hb => lenT_ok h w c lo hi ot oa on oc O Z B W' (hL.below hb) RL Rw hR i x wa lw cw ba lb cb x0 y0 z0 H V C (hF.below hb)
    have hCh : Hid (∀ W', Below W.heap.size W W' → _) := fun W' hb => chaT_ok h w c lo hi ot oa on oc O Z B W' (hL.below hb) RL Rw hR i x wa lw cw ba lb cb x0 y0 z0 H V C (hF.below hb)
    have hPo : Hid (∀ W', Below W.heap.size W W' → _) := fun W' hb => posT_ok h w c lo hi ot oa on oc O Z B W' (hL.below hb) RL Rw hR i x wa lw cw ba lb cb x0 y0 z0 H V C (hF.below hb)
    have hRl : Hid (∀ W', _) := fun W' => rlen_any (O i 0) (O i 1) (O i 2) (O i 3) (O i 4) (O i 5) (O i 6) (O i 7) (O i 8) (O i 9) (O i 10) (O i 11) wa lw cw ba lb cb (O i 14) (O i 15) (O i 16) (O i 17) (O i 18) (O i 19) (O i 20) (O i 21) x0 y0 z0 H V C W' hSit
    have hRp : Hid (∀ W', _) := fun W' => rpos_any (O i 0) (O i 1) (O i 2) (O i 3) (O i 4) (O i 5) (O i 6) (O i 7) (O i 8) (O i 9) (O i 10) (O i 11) wa lw cw ba lb cb (O i 14) (O i 15) (O i 16) (O i 17) (O i 18) (O i 19) (O i 20) (O i 21) x0 y0 z0 H V C W' hSit.2.2.1
    obtain ⟨st, hst⟩ : ∃ st, stR (O i 0) (O i 4) (O i 5) x0 y0 z0 = st := ⟨_, rfl⟩
    obtain ⟨hv, hhv⟩ : ∃ hv, H * V = hv := ⟨_, rfl⟩
    rw [hst] at hLe hRl
    rw [hhv] at hPo hRp
    clear hst hhv hF hR hf hL wo hSit
    go_enter Try.func3, Try.ntmps3
    go_wp2_with fail
    refine (hFi.out _ s0.below).mono ?_
    rintro e w1 ⟨rfl, hb⟩
    have s1 := (s0.call hb).new (c := #[.int .i64 (O i 0), .int .i64 (O i 1), .int .i64 (O i 2), .int .i64 (O i 3), .int .i64 (O i 4), .int .i64 (O i 5), .int .i64 (O i 6), .int .i64 (O i 7), .int .i64 (O i 8), .int .i64 (O i 9), .int .i64 (O i 10), .int .i64 (O i 11), .slice wa lw cw, .slice ba lb cb, .int .i64 (O i 14), .int .i64 (O i 15), .int .i64 (O i 16), .int .i64 (O i 17), .int .i64 (O i 18), .int .i64 (O i 19), .int .i64 (O i 20), .int .i64 (O i 21), .int .i64 x0, .int .i64 y0, .int .i64 z0, .int .i64 H, .int .i64 V, .int .i64 C]) (t := 36)
    have hM1 := s1.h2
    obtain ⟨-, -, -, c2, f2, z2, -⟩ := s1.rules
    clear hb
    go_wp2_with (first
      | (refine wpList_st_new rfl 36 (.tmp 5) (.tmp 17) rfl w1 _ #[.int .i64 (O i 0), .int .i64 (O i 1), .int .i64 (O i 2), .int .i64 (O i 3), .int .i64 (O i 4), .int .i64 (O i 5), .int .i64 (O i 6), .int .i64 (O i 7), .int .i64 (O i 8), .int .i64 (O i 9), .int .i64 (O i 10), .int .i64 (O i 11), .slice wa lw cw, .slice ba lb cb, .int .i64 (O i 14), .int .i64 (O i 15), .int .i64 (O i 16), .int .i64 (O i 17), .int .i64 (O i 18), .int .i64 (O i 19), .int .i64 (O i 20), .int .i64 (O i 21), .int .i64 x0, .int .i64 y0, .int .i64 z0, .int .i64 H, .int .i64 V, .int .i64 C] rfl rfl (by kernel_rfl) rfl (by simp [Value.oneCell']) ?_))
    refine (hLe.out _ s1.below).mono ?_
    rintro e w2 ⟨rfl, hb⟩
    have s2 := s1.call hb
    clear hb s1 c2 f2 z2
    obtain ⟨-, -, -, c2, f2, z2, -⟩ := s2.rules
    go_wp2_with fail
    refine (hCh.out _ s2.below).mono ?_
    rintro e w3 ⟨rfl, hb⟩
    have s3 := s2.call hb
    clear hb s2 c2 f2 z2
    obtain ⟨-, -, -, c2, f2, z2, -⟩ := s3.rules
    go_wp2_with fail
    refine (hPo.out _ s3.below).mono ?_
    rintro e w4 ⟨rfl, hb⟩
    have s4 := s3.call hb
    clear hb s3 c2 f2 z2
    go_wp2_with fail
    refine (fixed10_any _).mono ?_
    rintro e w5 ⟨rfl, hb⟩
    have s5 := s4.call hb
    clear hb s4
    have h5 := s5.h1
    go_wp2_with (refine wpList_load_row rfl 36 (.tmp 5) rfl w1.heap.size rfl 36 _ (0, 0) _ h5 Try.underlying36 rfl (by kernel_rfl) ?_)
    refine (hRl.out _).mono ?_
    rintro e w6 ⟨rfl, hb⟩
    have s6 := s5.call hb
    clear hb s5 h5
    have h6 := s6.h1
    obtain ⟨c1, f1, z1, -⟩ := s6.rules
    go_wp2_with (refine wpList_load_row_g (by rfl) 36 (.tmp 5) rfl _ rfl 36 _ (0, 0) _ h6 Try.underlying36 rfl (by kernel_rfl) ?_)
    refine (hRp.out _).mono ?_
    rintro e w7 ⟨rfl, hb⟩
    have s7 := s6.call hb
    clear hb s6 h6 c1 f1 z1
    go_wp2
    go_ret
    exact ⟨rfl, s7.below⟩
  · have hFi : Hid (∀ W', Below W.heap.size W W' → _) := fun W' hb => rfind_bad h w c lo hi ot oa on oc O Z B W' (hL.below hb) hon op 0 E hf hE
    have hLe : Hid (∀ W', Below W.heap.size W W' → _) := fun W' hb => lenT_bad h w c lo hi ot oa on oc O Z B W' (hL.below hb) op E hf hE
    have hCh : Hid (∀ W', Below W.heap.size W W' → _) := fun W' hb => chaT_bad h w c lo hi ot oa on oc O Z B W' (hL.below hb) op E hf hE
    have hPo : Hid (∀ W', Below W.heap.size W W' → _) := fun W' hb => posT_bad h w c lo hi ot oa on oc O Z B W' (hL.below hb) op E hf hE
    have hE' : (E == 0) = false := by simp [hE]
    clear hf hL wo
    go_enter Try.func3, Try.ntmps3
    go_wp2_with fail
    refine (hFi.out _ s0.below).mono ?_
    rintro e w1 ⟨rfl, hb⟩
    have s1 := (s0.call hb).new (c := #[.int .i64 0, .int .i64 0, .int .i64 0, .int .i64 0, .int .i64 0, .int .i64 0, .int .i64 0, .int .i64 0, .int .i64 0, .int .i64 0, .int .i64 0, .int .i64 0, .slice none 0 0, .slice none 0 0, .int .i64 0, .int .i64 0, .int .i64 0, .int .i64 0, .int .i64 0, .int .i64 0, .int .i64 0, .int .i64 0, .int .i64 0, .int .i64 0, .int .i64 0, .int .i64 0, .int .i64 0, .int .i64 0]) (t := 36)
    obtain ⟨-, -, -, c2, f2, z2, -⟩ := s1.rules
    clear hb
    go_wp2_with (first
      | (refine wpList_st_new rfl 36 (.tmp 5) (.tmp 17) rfl w1 _ #[.int .i64 0, .int .i64 0, .int .i64 0, .int .i64 0, .int .i64 0, .int .i64 0, .int .i64 0, .int .i64 0, .int .i64 0, .int .i64 0, .int .i64 0, .int .i64 0, .slice none 0 0, .slice none 0 0, .int .i64 0, .int .i64 0, .int .i64 0, .int .i64 0, .int .i64 0, .int .i64 0, .int .i64 0, .int .i64 0, .int .i64 0, .int .i64 0, .int .i64 0, .int .i64 0, .int .i64 0, .int .i64 0] rfl rfl (by kernel_rfl) rfl (by simp [Value.oneCell']) ?_))
    refine (hLe.out _ s1.below).mono ?_
    rintro e w2 ⟨rfl, hb⟩
    have s2 := s1.call hb
    clear hb s1 c2 f2 z2
    obtain ⟨-, -, -, c2, f2, z2, -⟩ := s2.rules
    go_wp2_with fail
    refine (hCh.out _ s2.below).mono ?_
    rintro e w3 ⟨rfl, hb⟩
    have s3 := s2.call hb
    clear hb s2 c2 f2 z2
    obtain ⟨-, -, -, c2, f2, z2, -⟩ := s3.rules
    go_wp2_with fail
    refine (hPo.out _ s3.below).mono ?_
    rintro e w4 ⟨rfl, hb⟩
    have s4 := s3.call hb
    clear hb s3 c2 f2 z2
    go_wp2_with fail
    refine (fixed10_any _).mono ?_
    rintro e w5 ⟨rfl, hb⟩
    have s5 := s4.call hb
    clear hb s4
    go_wp2
    go_ret
    exact ⟨rfl, s5.below⟩
end Go.Proofs.Yteobcmocjpdcmaa
