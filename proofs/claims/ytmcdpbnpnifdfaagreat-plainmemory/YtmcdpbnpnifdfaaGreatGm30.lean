/- What the document's Terms returns, of an op with a window. The document's greatest of layer 11. The document's Terms, of whatever kind. -/
import Derived.Test.YtmcdpbnpnifdfaaGreatGr16
import Derived.Test.YtmcdpbnpnifdfaaGreatGm28
import Derived.Test.YtmcdpbnpnifdfaaGreatGm29
/- What the document's Terms returns, of an op with a window. -/
namespace Go.Proofs.YtmcdpbnpnifdfaaGreat
open Go.ChangeShapes Go.WideShapes Go.ChangeAt Go.RowKit
set_option linter.unusedVariables false
theorem covL_get (h w kw t u : Int) {n i : Nat} (hi : i < n) : (Nx.covL h w kw t u n).getD i 0 = tpc h w kw t u (i : Int) := by simp [Nx.covL, List.getD, hi, tpc]
theorem otm_other {w : World} {base B i : Nat} {v u : Value} {L : List (Int × Int)} (h : OTm w base v L) (hn : v.ownBlock ≠ some B) : OTm (w.setCell ⟨B, i, none⟩ u) base v L := by
  refine World.ownsRow.kept h (grown_set w B i u) ?_
  cases e : v.ownBlock with
  | none => exact .inl rfl
  | some b => exact .inr (fun q => hn (by rw [e, q]))
set_option maxRecDepth 100000 in
set_option maxHeartbeats 8000000 in
theorem rterms_w (k a b m kh kw sh sw tp lf bt rt : Int) (wa : Option Addr) (lw wc : Nat) (ba : Option Addr) (lb bc : Nat) (sm ss um us z p lo hi h w : Int) (cn : Nat) (H V C : Int) (W : World) (zs : List Int) (hZ : IRow .i16 W wa lw wc zs) (s : Sit k kh kw sh sw tp lf bt rt h w (cn : Int) H V C lw lb) (k1 : k ≠ 1) (ch at' t u : Int) (hch : 1 ≤ ch ∧ ch ≤ C) (hcc : coR h w (cn : Int) kh kw sh sw tp lf bt rt at' = (t, u, 0)) (st : Nat) (hst : stR k kh kw h w (cn : Int) = (st : Int)) :
    Calls Tryz.prog 67 #[.agg #[.int .i64 k, .int .i64 a, .int .i64 b, .int .i64 m, .int .i64 kh, .int .i64 kw, .int .i64 sh, .int .i64 sw, .int .i64 tp, .int .i64 lf, .int .i64 bt, .int .i64 rt, .slice wa lw wc, .slice ba lb bc, .int .i64 sm, .int .i64 ss, .int .i64 um, .int .i64 us, .int .i64 z, .int .i64 p, .int .i64 lo, .int .i64 hi, .int .i64 h, .int .i64 w, .int .i64 (cn : Int), .int .i64 H, .int .i64 V, .int .i64 C], .int .i64 ch, .int .i64 at'] W fun e w' => (∃ v, e = .returned v ∧ OTm w' W.heap.size v (tmL k (cn : Int) ch h w kw t u st zs st)) ∧ Below W.heap.size W w' := by
  have hLe : Hid (∀ W', Calls Tryz.prog 29 #[.agg #[.int .i64 k, .int .i64 a, .int .i64 b, .int .i64 m, .int .i64 kh, .int .i64 kw, .int .i64 sh, .int .i64 sw, .int .i64 tp, .int .i64 lf, .int .i64 bt, .int .i64 rt, .slice wa lw wc, .slice ba lb bc, .int .i64 sm, .int .i64 ss, .int .i64 um, .int .i64 us, .int .i64 z, .int .i64 p, .int .i64 lo, .int .i64 hi, .int .i64 h, .int .i64 w, .int .i64 (cn : Int), .int .i64 H, .int .i64 V, .int .i64 C]] W' fun e w' => e = .returned (.int .i64 st) ∧ Below W'.heap.size W' w') := fun W' => by rw [← hst]; exact rlen_any k a b m kh kw sh sw tp lf bt rt wa lw wc ba lb bc sm ss um us z p lo hi h w (cn : Int) H V C W' s
  have hWg : Hid (∀ (w' : World) (i : Nat), i < st → Below W.heap.size W w' → Calls Tryz.prog 89 #[.agg #[.int .i64 k, .int .i64 a, .int .i64 b, .int .i64 m, .int .i64 kh, .int .i64 kw, .int .i64 sh, .int .i64 sw, .int .i64 tp, .int .i64 lf, .int .i64 bt, .int .i64 rt, .slice wa lw wc, .slice ba lb bc, .int .i64 sm, .int .i64 ss, .int .i64 um, .int .i64 us, .int .i64 z, .int .i64 p, .int .i64 lo, .int .i64 hi, .int .i64 h, .int .i64 w, .int .i64 (cn : Int), .int .i64 H, .int .i64 V, .int .i64 C], .int .i64 ch, .int .i64 i] w' fun e w'' => e = .returned (.int .i64 (wgA k ch st zs i)) ∧ Below w'.heap.size w' w'') := fun w' i hj hb => by
    have := rwei_any k a b m kh kw sh sw tp lf bt rt wa lw wc ba lb bc sm ss um us z p lo hi h w (cn : Int) H V C w' zs (hZ.below hb) s ch hch i (by rw [hst]; omega)
    rw [hst] at this
    exact this
  have hTp : Hid (∀ W', _) := fun W' => Nx.rtaps_any h w (cn : Int) kh kw sh sw tp lf bt rt at' t u W' hcc
  have hlen : st ≤ 512 := by have := s.2.2.2.2.2.2.2.2.2; rw [hst] at this; omega
  obtain ⟨hk, hvA, hvB, hou, -, hwn, -, h3c, -⟩ := s
  have hC1 := (vS_yes hvB).2.2.1
  have hcn1 := (vS_yes hvA).2.2.1
  have hd1 := (vS_yes hvA).1
  have hw1 := (vS_yes hvA).2.1
  obtain ⟨hk1, hk2⟩ := hwn (by omega)
  have hm : h * w ≤ 16384 := by
    have h4 := (vS_yes hvA).2.2.2
    have p1 := (mul_bd hd1.1 hd1.2 hw1.1 hw1.2).1
    have := Int.mul_le_mul_of_nonneg_left hcn1.1 (show 0 ≤ h * w by omega)
    omega
  obtain ⟨N, hN⟩ : ∃ N : Nat, kh * kw = (N : Int) := ⟨(kh * kw).toNat, by have := (mul_bd hk1.1 hk1.2 hk2.1 hk2.2).1; omega⟩
  rw [hN, Int.toNat_natCast] at hTp
  have hstN : (k = 2 → st = N * cn) ∧ (k ≠ 2 → st = N) := by
    unfold stR at hst
    rw [if_neg k1] at hst
    constructor
    · intro k2
      rw [if_pos k2, hN] at hst
      exact_mod_cast hst.symm
    · intro k2
      rw [if_neg k2, if_pos (by omega), hN] at hst
      exact_mod_cast hst.symm
  have hN2 : N ≤ 1024 := by have := (mul_bd hk1.1 hk1.2 hk2.1 hk2.2).2; omega
  have HST : Hid ((k = 2 → st = N * cn) ∧ (k ≠ 2 → st = N)) := hstN
  have hPb : Hid (∀ q : Int, -1 ≤ tpc h w kw t u q ∧ tpc h w kw t u q ≤ 16384) := fun q => plc_bd hd1 hw1 hm
  have k1' : (k == 1) = false := by simp [k1]
  clear hst hZ hvA hvB hou hwn h3c hcc hN hm hstN
  have s0 := (St.start W).new (c := #[.int .i64 k, .int .i64 a, .int .i64 b, .int .i64 m, .int .i64 kh, .int .i64 kw, .int .i64 sh, .int .i64 sw, .int .i64 tp, .int .i64 lf, .int .i64 bt, .int .i64 rt, .slice wa lw wc, .slice ba lb bc, .int .i64 sm, .int .i64 ss, .int .i64 um, .int .i64 us, .int .i64 z, .int .i64 p, .int .i64 lo, .int .i64 hi, .int .i64 h, .int .i64 w, .int .i64 (cn : Int), .int .i64 H, .int .i64 V, .int .i64 C]) (t := 71)
  go_enter Tryz.func67, Tryz.ntmps67
  go_wp2_with (refine wpList_load_row rfl 71 (.tmp 3) rfl W.heap.size rfl 71 _ (0, 0) _ s0.h1 Tryz.underlying71 rfl (by kernel_rfl) ?_)
  refine (hLe.out _).mono ?_
  rintro e w1 ⟨rfl, hb⟩
  have s1 := s0.call hb
  obtain ⟨c1, f1, z1, -⟩ := s1.rules
  clear hb s0
  go_wp2_with fail
  refine (hTp.out _).mono ?_
  rintro e w2 ⟨⟨v, rfl, hOw⟩, hb⟩
  obtain ⟨ta, tc, rfl, hrow, -⟩ := hOw.row
  rw [Nx.covL_len] at hrow ⊢
  have hcap := hrow.2.1
  have hcm := hrow.2.2.1
  unfold maxLen at hcm
  have Hrow : Hid (Nx.Row w2 ta N tc (Nx.covL h w kw t u N)) := hrow
  have S2 : Hid (St W w2 _) := s1.call hb
  clear hb s1 hOw hrow c1 f1 z1
  go_wp2
  go_loopw [7, 11] (fun v i wr => ∃ y : Nat, y ≤ st ∧ i = .int .i64 y ∧ OTm wr w2.heap.size v (tmL k (cn : Int) ch h w kw t u st zs y) ∧ Below w2.heap.size w2 wr) (fun _ i _ => st - (intOf i).toNat)
  case atStart => exact ⟨0, Nat.zero_le _, rfl, OTm.nil _ _, Below.refl _ _⟩
  case round =>
    obtain ⟨y, hy, rfl, hO, hb⟩ := hrel
    have s3 := S2.out.call hb
    obtain ⟨va, vc, hve⟩ := hO.slice
    rw [tmL_len] at hve
    subst hve
    have HO : Hid (OTm _ _ _ _) := hO
    have hbz := hb.size
    have Hb : Hid (Below w2.heap.size w2 wr) := hb
    clear hO
    by_cases hlt : y < st
    · obtain ⟨c1, f1, z1, -⟩ := s3.rules
      by_cases k2 : k = 2
      · have hstN := HST.out.1 k2
        have hcn0 : 0 < cn := by omega
        obtain ⟨Q, hQe⟩ : ∃ Q, y / cn = Q := ⟨_, rfl⟩
        obtain ⟨R, hRe⟩ : ∃ R, y % cn = R := ⟨_, rfl⟩
        have hQ : Q < N := by rw [← hQe]; exact Nat.div_lt_of_lt_mul (by rw [Nat.mul_comm]; omega)
        have hR : R < cn := by rw [← hRe]; exact Nat.mod_lt _ hcn0
        have hq1 : Int.tdiv (y : Int) (cn : Int) = (Q : Int) := by rw [← hQe]; rfl
        have hq2 : Int.tmod (y : Int) (cn : Int) = (R : Int) := by rw [← hRe]; rfl
        have HP : Hid (plA k (cn : Int) ch h w kw t u y = cov (cn : Int) (tpc h w kw t u (Q : Int)) (R : Int)) := by unfold Hid plA; rw [if_neg k1, if_pos k2, ← hQe, ← hRe]; rfl
        have hc0 : ¬ ((cn : Int) = 0) := by omega
        have k2' : (k == 2) = true := by simp [k2]
        obtain ⟨D, hDe⟩ : ∃ D : Int, (R : Int) = D := ⟨_, rfl⟩
        have hD : 0 ≤ D ∧ D ≤ 1024 := by omega
        rw [hDe] at hq2 HP
        clear hQe hRe hDe hstN hR HST k2
        go_upto_region 15 with fail
        go_quiet (fail)
        have s4 := s3.call (dbel wr nq)
        have HO4 : Hid (OTm _ _ _ _) := HO.out.below (dbel wr nq)
        have Hb4 : Hid (Below w2.heap.size w2 _) := Hb.out.trans ((dbel wr nq).mono hbz)
        obtain ⟨w4, hw4⟩ : ∃ w4, wr.drewN nq = w4 := ⟨_, rfl⟩
        rw [hw4] at s4 HO4 Hb4 ⊢
        have hbz4 := Hb4.out.size
        clear hw4 c1 f1 z1 hb s3 Hb HO
        obtain ⟨P, hPe⟩ : ∃ P, tpc h w kw t u (Q : Int) = P := ⟨_, rfl⟩
        obtain ⟨x, rfl⟩ : ∃ x, ta = some x := by
          cases ta with
          | none => have h1 := Hrow.out.2.2.2.1 rfl; have h2 := Hrow.out.2.1; omega
          | some x => exact ⟨x, rfl⟩
        have hcx0 := Hrow.out.2.2.2.2 x rfl Q hQ
        rw [covL_get _ _ _ _ _ hQ, hPe] at hcx0
        have hxb : x.block < w2.heap.size := by have := World.block_lt_of_cell? _ _ hcx0; rwa [add_block] at this
        have hPb1 := hPb.out (Q : Int)
        rw [hPe] at HP hPb1
        obtain ⟨WG, hWG⟩ : ∃ WG, wgA k ch st zs y = WG := ⟨_, rfl⟩
        have hWg1 : Hid (∀ (w' : World), Below W.heap.size W w' → _) := fun w' hb => hWg.out w' y hlt hb
        rw [hWG] at hWg1
        have HS : Hid (tmL k (cn : Int) ch h w kw t u st zs (y + 1) = tmL k (cn : Int) ch h w kw t u st zs y ++ [(WG, cov (cn : Int) P D)]) := by unfold Hid; rw [tmL_succ, hWG, HP.out]
        have HLn : Hid ((tmL k (cn : Int) ch h w kw t u st zs y).length + 1 ≤ 1000000) := by unfold Hid; rw [tmL_len]; omega
        clear hPe hWG HP
        have h1 := s4.h1
        go_wp2_with (refine wpList_load_row rfl 71 (.tmp 3) rfl W.heap.size rfl 71 _ (0, 0) _ h1 Tryz.underlying71 rfl (by kernel_rfl) ?_)
        refine (hWg1.out _ s4.below).mono ?_
        rintro e w5 ⟨rfl, hb5⟩
        have s5 := (s4.call hb5).new (c := #[.int .i64 WG, .int .i64 (-1)]) (t := 116)
        have HOn : Hid ((Value.slice va y vc).ownBlock ≠ some w5.heap.size) := fun e => by have := (World.ownsRow.lt (HO4.out.below hb5) _ e).2; omega
        have HO5 : Hid (OTm _ _ _ _) := (HO4.out.below hb5).below (bal w5 (.cells #[.int .i64 WG, .int .i64 (-1)] 116))
        have hz5 : w2.heap.size ≤ w5.heap.size := Nat.le_trans hbz4 hb5.size
        have B5 : Hid (Below w2.heap.size w2 (w5.alloc (.cells #[.int .i64 WG, .int .i64 (-1)] 116))) := (Hb4.out.trans (hb5.mono hbz4)).alloc hz5 _
        have hWz : W.heap.size < w2.heap.size := lt_of_heap S2.out.h1
        obtain ⟨w6, hw6⟩ : ∃ w6, w5.alloc (.cells #[.int .i64 WG, .int .i64 (-1)] 116) = w6 := ⟨_, rfl⟩
        have hcx : w6.cell? (x.add Q) = some (.int .i64 P) := by rw [← hw6]; exact (B5.out.cell (by rw [add_block]; exact hxb)).trans hcx0
        have hz6 : Hid (w6.heap.size = w5.heap.size + 1) := by unfold Hid; rw [← hw6]; simp
        clear hb5 h1 s4 HO4 Hb4 hcx0
        go_upto_region 17 with fail
        rw [hw6] at s5 HO5 B5
        try rw [hw6]
        clear hw6
        have S5 : Hid (St W w6 _) := s5
        obtain ⟨c1, f1, z1, c2, f2, z2, -⟩ := s5.rules
        clear s5
        by_cases hp : P = -1
        · subst hp
          have HC : Hid (cov (cn : Int) (-1) D = -1) := if_pos rfl
          rw [HC.out] at HS
          go_wp2_with (at_builtin; refine wpList_apT rfl (.tmp 86) (.tmp 88) rfl w2.heap.size _ _ [(WG, (-1 : Int))] rfl (HO5.out.below (bal w6 _)) w6.heap.size 1 1 rfl rfl (term_one w6 _ _) HLn.out (by simp; have := hz6.out; omega) ?_; intro v7 w7 own7 gr7; have B7 : Hid (Below w2.heap.size w2 w7) := (HO5.out.below (bal w6 _)).grow (B5.out.alloc B5.out.size _) gr7 (by simp; have := hz6.out; omega))
          go_roundw
          case rel => exact ⟨y + 1, by omega, by go_num, by rw [HS.out]; exact own7, B7.out⟩
          case measure => simp [intOf]; omega
        · have HC : Hid (cov (cn : Int) P D = P * (cn : Int) + D) := if_neg hp
          rw [HC.out] at HS
          have hp0 : 0 ≤ P := by omega
          have m1 : 0 ≤ P * (cn : Int) := Int.mul_nonneg (by omega) (by omega)
          have m2 : P * (cn : Int) ≤ 16384 * 1024 := Int.mul_le_mul hPb1.2 hcn1.2 (by omega) (by omega)
          obtain ⟨PC, hPC⟩ : ∃ PC, P * (cn : Int) = PC := ⟨_, rfl⟩
          rw [hPC] at m1 m2 HS
          go_upto_region 18 with fail
          have hG := S5.out.h2
          have hG1 := S5.out.h1
          refine regionC (fun w' => w'.cell? (x.add Q) = some (.int .i64 P) ∧ w'.heap[W.heap.size]? = some (.cells #[.int .i64 k, .int .i64 a, .int .i64 b, .int .i64 m, .int .i64 kh, .int .i64 kw, .int .i64 sh, .int .i64 sw, .int .i64 tp, .int .i64 lf, .int .i64 bt, .int .i64 rt, .slice wa lw wc, .slice ba lb bc, .int .i64 sm, .int .i64 ss, .int .i64 um, .int .i64 us, .int .i64 z, .int .i64 p, .int .i64 lo, .int .i64 hi, .int .i64 h, .int .i64 w, .int .i64 (cn : Int), .int .i64 H, .int .i64 V, .int .i64 C] 71 (0, 0))) (by kernel_rfl) ?_
          obtain ⟨wd, hwd⟩ : ∃ wd, w6.drew = wd := ⟨_, rfl⟩
          have HCl : Hid (wd.cell? (x.add Q) = some (.int .i64 P) ∧ wd.heap[W.heap.size]? = some (.cells #[.int .i64 k, .int .i64 a, .int .i64 b, .int .i64 m, .int .i64 kh, .int .i64 kw, .int .i64 sh, .int .i64 sw, .int .i64 tp, .int .i64 lf, .int .i64 bt, .int .i64 rt, .slice wa lw wc, .slice ba lb bc, .int .i64 sm, .int .i64 ss, .int .i64 um, .int .i64 us, .int .i64 z, .int .i64 p, .int .i64 lo, .int .i64 hi, .int .i64 h, .int .i64 w, .int .i64 (cn : Int), .int .i64 H, .int .i64 V, .int .i64 C] 71 (0, 0))) := by unfold Hid; rw [← hwd]; exact ⟨hcx, hG⟩
          have HD : Hid (Below w6.heap.size w6 wd) := by unfold Hid; rw [← hwd]; exact (Below.refl _ _).drew
          have hGd : wd.heap[w5.heap.size]? = some (.cells #[.int .i64 WG, .int .i64 (-1)] 116 (0, 0)) := by rw [← hwd]; exact hG1
          rw [hwd]
          clear hwd hG hG1 c1 f1 c2 f2
          refine takeC 0 (v := .slice (some x) N tc) rfl rfl (by kernel_rfl) (by kernel_rfl) (by kernel_rfl) (fun _ _ _ h => h) (fun _ => rfl) rfl (fun w' hw' => by go_simp) ?_
          refine takeC 1 (v := .int .i64 (Q : Int)) rfl rfl (by kernel_rfl) (by kernel_rfl) (by kernel_rfl) (fun _ _ _ h => h) (fun _ => rfl) rfl (fun w' hw' => by go_simp) ?_
          refine takeC 2 (v := .pointer (some (x.add Q))) rfl rfl (by kernel_rfl) (by kernel_rfl) (by kernel_rfl) (fun _ _ _ h => h) (fun _ => rfl) rfl (fun w' hw' => by go_simp) ?_
          refine takeC 3 (v := .int .i64 P) rfl rfl (by kernel_rfl) (by kernel_rfl) (by kernel_rfl) (fun _ _ _ h => h) (fun _ => rfl) rfl (fun w' hw' => by have hc := hw'.1; go_simp) ?_
          refine takeC 4 (v := .pointer (some ⟨W.heap.size, 22, none⟩)) rfl rfl (by kernel_rfl) (by kernel_rfl) (by kernel_rfl) (fun _ _ _ h => h) (fun _ => rfl) rfl (fun w' hw' => by go_simp) ?_
          refine takeC 5 (v := .pointer (some ⟨W.heap.size, 24, none⟩)) rfl rfl (by kernel_rfl) (by kernel_rfl) (by kernel_rfl) (fun _ _ _ h => h) (fun _ => rfl) rfl (fun w' hw' => by go_simp) ?_
          refine takeC 6 (v := .int .i64 (cn : Int)) rfl rfl (by kernel_rfl) (by kernel_rfl) (by kernel_rfl) (fun _ _ _ h => h) (fun _ => rfl) rfl (fun w' hw' => by have hc := (cells_at hw'.2).1 24; go_simp) ?_
          refine takeC 7 (v := .int .i64 PC) rfl rfl (by kernel_rfl) (by kernel_rfl) (by kernel_rfl) (fun _ _ _ h => h) (fun _ => rfl) rfl (fun w' hw' => by go_simp; try (rw [IntKind.wrap_i64]; omega)) ?_
          refine takeC 8 (v := .int .i64 D) rfl rfl (by kernel_rfl) (by kernel_rfl) (by kernel_rfl) (fun _ _ _ h => h) (fun _ => rfl) rfl (fun w' hw' => by go_simp) ?_
          refine takeC 9 (v := .int .i64 (PC + D)) rfl rfl (by kernel_rfl) (by kernel_rfl) (by kernel_rfl) (fun _ _ _ h => h) (fun _ => rfl) rfl (fun w' hw' => by go_simp; try (rw [IntKind.wrap_i64]; omega)) ?_
          refine takeC 10 (v := .pointer (some ⟨w5.heap.size, 1, none⟩)) rfl rfl (by kernel_rfl) (by kernel_rfl) (by kernel_rfl) (fun _ _ _ h => h) (fun _ => rfl) rfl (fun w' hw' => by go_simp) ?_
          have g1 : wd.cell? ⟨w5.heap.size, 1, none⟩ = some (.int .i64 (-1)) := (cells_at hGd).1 1
          have g2 : wd.frozen? ⟨w5.heap.size, 1, none⟩ = false := (cells_at hGd).2.1 1
          refine stepC 11 HCl.out (by kernel_rfl) rfl (fun K hK => step_wp rfl ?_)
          go_simp
          refine hK _ _ ?_
          clear hK K g1 g2
          have hGs : Hid ((wd.setCell ⟨w5.heap.size, 1, none⟩ (.int .i64 (PC + D))).heap[w5.heap.size]? = some (.cells #[.int .i64 WG, .int .i64 (PC + D)] 116 (0, 0))) := heap_setCell_at hGd
          have hD6 : Hid (Below w2.heap.size w2 (wd.setCell ⟨w5.heap.size, 1, none⟩ (.int .i64 (PC + D)))) := (B5.out.trans (HD.out.mono B5.out.size)).setCell (p := ⟨w5.heap.size, 1, none⟩) hz5 _
          have HCs : Hid ((wd.setCell ⟨w5.heap.size, 1, none⟩ (.int .i64 (PC + D))).cell? (x.add Q) = some (.int .i64 P) ∧ (wd.setCell ⟨w5.heap.size, 1, none⟩ (.int .i64 (PC + D))).heap[W.heap.size]? = some (.cells #[.int .i64 k, .int .i64 a, .int .i64 b, .int .i64 m, .int .i64 kh, .int .i64 kw, .int .i64 sh, .int .i64 sw, .int .i64 tp, .int .i64 lf, .int .i64 bt, .int .i64 rt, .slice wa lw wc, .slice ba lb bc, .int .i64 sm, .int .i64 ss, .int .i64 um, .int .i64 us, .int .i64 z, .int .i64 p, .int .i64 lo, .int .i64 hi, .int .i64 h, .int .i64 w, .int .i64 (cn : Int), .int .i64 H, .int .i64 V, .int .i64 C] 71 (0, 0))) := by
            refine ⟨?_, ?_⟩
            · have hb7 : Below w2.heap.size wd (wd.setCell ⟨w5.heap.size, 1, none⟩ (.int .i64 (PC + D))) := (Below.refl _ wd).setCell (p := ⟨w5.heap.size, 1, none⟩) hz5 _
              exact (hb7.cell (by rw [add_block]; exact hxb)).trans HCl.out.1
            · rw [Below.heap_setCell _ _ _ _ (show W.heap.size ≠ w5.heap.size by omega)]
              exact HCl.out.2
          have HO6 : Hid (OTm (wd.setCell ⟨w5.heap.size, 1, none⟩ (.int .i64 (PC + D))) w2.heap.size (.slice va y vc) (tmL k (cn : Int) ch h w kw t u st zs y)) := otm_other (HO5.out.below HD.out) HOn.out
          refine doneC HCs.out (by kernel_rfl) ?_ _
          obtain ⟨w7, hw7⟩ : ∃ w7, wd.setCell ⟨w5.heap.size, 1, none⟩ (.int .i64 (PC + D)) = w7 := ⟨_, rfl⟩
          rw [hw7] at hGs hD6 HO6 ⊢
          have hz7 : w5.heap.size < w7.heap.size := lt_of_heap hGs.out
          obtain ⟨c1, f1, z1'⟩ := cells_at hGs.out
          clear hw7 HCs HCl HD hGd hcx
          go_wp2_with (at_builtin; refine wpList_apT rfl (.tmp 86) (.tmp 88) rfl w2.heap.size _ _ [(WG, PC + D)] rfl (HO6.out.below (bal w7 _)) w7.heap.size 1 1 rfl rfl (term_one w7 _ _) HLn.out (by simp; omega) ?_; intro v8 w8 own8 gr8; have B8 : Hid (Below w2.heap.size w2 w8) := (HO6.out.below (bal w7 _)).grow (hD6.out.alloc hD6.out.size _) gr8 (by simp; omega))
          go_roundw
          case rel => exact ⟨y + 1, by omega, by go_num, by rw [HS.out]; exact own8, B8.out⟩
          case measure => simp [intOf]; omega
      · have hstN := HST.out.2 k2
        have k2' : (k == 2) = false := by simp [k2]
        have hQ : y < N := by omega
        obtain ⟨D, hDe⟩ : ∃ D : Int, ch - 1 = D := ⟨_, rfl⟩
        have hD : 0 ≤ D ∧ D ≤ 1024 := by omega
        have HP : Hid (plA k (cn : Int) ch h w kw t u y = cov (cn : Int) (tpc h w kw t u (y : Int)) D) := by unfold Hid plA; rw [if_neg k1, if_neg k2, hDe]
        clear hstN HST k2
        go_upto_region 16 with fail
        have s4 := s3
        have HO4 : Hid (OTm _ _ _ _) := HO.out
        have Hb4 : Hid (Below w2.heap.size w2 _) := Hb.out
        have hbz4 := Hb4.out.size
        clear c1 f1 z1 hb s3 Hb HO
        obtain ⟨P, hPe⟩ : ∃ P, tpc h w kw t u (y : Int) = P := ⟨_, rfl⟩
        obtain ⟨x, rfl⟩ : ∃ x, ta = some x := by
          cases ta with
          | none => have h1 := Hrow.out.2.2.2.1 rfl; have h2 := Hrow.out.2.1; omega
          | some x => exact ⟨x, rfl⟩
        have hcx0 := Hrow.out.2.2.2.2 x rfl y hQ
        rw [covL_get _ _ _ _ _ hQ, hPe] at hcx0
        have hxb : x.block < w2.heap.size := by have := World.block_lt_of_cell? _ _ hcx0; rwa [add_block] at this
        have hPb1 := hPb.out (y : Int)
        rw [hPe] at HP hPb1
        obtain ⟨WG, hWG⟩ : ∃ WG, wgA k ch st zs y = WG := ⟨_, rfl⟩
        have hWg1 : Hid (∀ (w' : World), Below W.heap.size W w' → _) := fun w' hb => hWg.out w' y hlt hb
        rw [hWG] at hWg1
        have HS : Hid (tmL k (cn : Int) ch h w kw t u st zs (y + 1) = tmL k (cn : Int) ch h w kw t u st zs y ++ [(WG, cov (cn : Int) P D)]) := by unfold Hid; rw [tmL_succ, hWG, HP.out]
        have HLn : Hid ((tmL k (cn : Int) ch h w kw t u st zs y).length + 1 ≤ 1000000) := by unfold Hid; rw [tmL_len]; omega
        clear hPe hWG HP
        have h1 := s4.h1
        go_wp2_with (refine wpList_load_row rfl 71 (.tmp 3) rfl W.heap.size rfl 71 _ (0, 0) _ h1 Tryz.underlying71 rfl (by kernel_rfl) ?_)
        refine (hWg1.out _ s4.below).mono ?_
        rintro e w5 ⟨rfl, hb5⟩
        have s5 := (s4.call hb5).new (c := #[.int .i64 WG, .int .i64 (-1)]) (t := 116)
        have HOn : Hid ((Value.slice va y vc).ownBlock ≠ some w5.heap.size) := fun e => by have := (World.ownsRow.lt (HO4.out.below hb5) _ e).2; omega
        have HO5 : Hid (OTm _ _ _ _) := (HO4.out.below hb5).below (bal w5 (.cells #[.int .i64 WG, .int .i64 (-1)] 116))
        have hz5 : w2.heap.size ≤ w5.heap.size := Nat.le_trans hbz4 hb5.size
        have B5 : Hid (Below w2.heap.size w2 (w5.alloc (.cells #[.int .i64 WG, .int .i64 (-1)] 116))) := (Hb4.out.trans (hb5.mono hbz4)).alloc hz5 _
        have hWz : W.heap.size < w2.heap.size := lt_of_heap S2.out.h1
        obtain ⟨w6, hw6⟩ : ∃ w6, w5.alloc (.cells #[.int .i64 WG, .int .i64 (-1)] 116) = w6 := ⟨_, rfl⟩
        have hcx : w6.cell? (x.add y) = some (.int .i64 P) := by rw [← hw6]; exact (B5.out.cell (by rw [add_block]; exact hxb)).trans hcx0
        have hz6 : Hid (w6.heap.size = w5.heap.size + 1) := by unfold Hid; rw [← hw6]; simp
        clear hb5 h1 s4 HO4 Hb4 hcx0
        go_upto_region 17 with fail
        rw [hw6] at s5 HO5 B5
        try rw [hw6]
        clear hw6
        have S5 : Hid (St W w6 _) := s5
        obtain ⟨c1, f1, z1, c2, f2, z2, -⟩ := s5.rules
        clear s5
        by_cases hp : P = -1
        · subst hp
          have HC : Hid (cov (cn : Int) (-1) D = -1) := if_pos rfl
          rw [HC.out] at HS
          go_wp2_with (at_builtin; refine wpList_apT rfl (.tmp 86) (.tmp 88) rfl w2.heap.size _ _ [(WG, (-1 : Int))] rfl (HO5.out.below (bal w6 _)) w6.heap.size 1 1 rfl rfl (term_one w6 _ _) HLn.out (by simp; have := hz6.out; omega) ?_; intro v7 w7 own7 gr7; have B7 : Hid (Below w2.heap.size w2 w7) := (HO5.out.below (bal w6 _)).grow (B5.out.alloc B5.out.size _) gr7 (by simp; have := hz6.out; omega))
          go_roundw
          case rel => exact ⟨y + 1, by omega, by go_num, by rw [HS.out]; exact own7, B7.out⟩
          case measure => simp [intOf]; omega
        · have HC : Hid (cov (cn : Int) P D = P * (cn : Int) + D) := if_neg hp
          rw [HC.out] at HS
          have hp0 : 0 ≤ P := by omega
          have m1 : 0 ≤ P * (cn : Int) := Int.mul_nonneg (by omega) (by omega)
          have m2 : P * (cn : Int) ≤ 16384 * 1024 := Int.mul_le_mul hPb1.2 hcn1.2 (by omega) (by omega)
          obtain ⟨PC, hPC⟩ : ∃ PC, P * (cn : Int) = PC := ⟨_, rfl⟩
          rw [hPC] at m1 m2 HS
          go_upto_region 18 with fail
          have hG := S5.out.h2
          have hG1 := S5.out.h1
          refine regionC (fun w' => w'.cell? (x.add y) = some (.int .i64 P) ∧ w'.heap[W.heap.size]? = some (.cells #[.int .i64 k, .int .i64 a, .int .i64 b, .int .i64 m, .int .i64 kh, .int .i64 kw, .int .i64 sh, .int .i64 sw, .int .i64 tp, .int .i64 lf, .int .i64 bt, .int .i64 rt, .slice wa lw wc, .slice ba lb bc, .int .i64 sm, .int .i64 ss, .int .i64 um, .int .i64 us, .int .i64 z, .int .i64 p, .int .i64 lo, .int .i64 hi, .int .i64 h, .int .i64 w, .int .i64 (cn : Int), .int .i64 H, .int .i64 V, .int .i64 C] 71 (0, 0))) (by kernel_rfl) ?_
          obtain ⟨wd, hwd⟩ : ∃ wd, w6.drew = wd := ⟨_, rfl⟩
          have HCl : Hid (wd.cell? (x.add y) = some (.int .i64 P) ∧ wd.heap[W.heap.size]? = some (.cells #[.int .i64 k, .int .i64 a, .int .i64 b, .int .i64 m, .int .i64 kh, .int .i64 kw, .int .i64 sh, .int .i64 sw, .int .i64 tp, .int .i64 lf, .int .i64 bt, .int .i64 rt, .slice wa lw wc, .slice ba lb bc, .int .i64 sm, .int .i64 ss, .int .i64 um, .int .i64 us, .int .i64 z, .int .i64 p, .int .i64 lo, .int .i64 hi, .int .i64 h, .int .i64 w, .int .i64 (cn : Int), .int .i64 H, .int .i64 V, .int .i64 C] 71 (0, 0))) := by unfold Hid; rw [← hwd]; exact ⟨hcx, hG⟩
          have HD : Hid (Below w6.heap.size w6 wd) := by unfold Hid; rw [← hwd]; exact (Below.refl _ _).drew
          have hGd : wd.heap[w5.heap.size]? = some (.cells #[.int .i64 WG, .int .i64 (-1)] 116 (0, 0)) := by rw [← hwd]; exact hG1
          rw [hwd]
          clear hwd hG hG1 c1 f1 c2 f2
          refine takeC 0 (v := .slice (some x) N tc) rfl rfl (by kernel_rfl) (by kernel_rfl) (by kernel_rfl) (fun _ _ _ h => h) (fun _ => rfl) rfl (fun w' hw' => by go_simp) ?_
          refine takeC 1 (v := .int .i64 (y : Int)) rfl rfl (by kernel_rfl) (by kernel_rfl) (by kernel_rfl) (fun _ _ _ h => h) (fun _ => rfl) rfl (fun w' hw' => by go_simp) ?_
          refine takeC 2 (v := .pointer (some (x.add y))) rfl rfl (by kernel_rfl) (by kernel_rfl) (by kernel_rfl) (fun _ _ _ h => h) (fun _ => rfl) rfl (fun w' hw' => by go_simp) ?_
          refine takeC 3 (v := .int .i64 P) rfl rfl (by kernel_rfl) (by kernel_rfl) (by kernel_rfl) (fun _ _ _ h => h) (fun _ => rfl) rfl (fun w' hw' => by have hc := hw'.1; go_simp) ?_
          refine takeC 4 (v := .pointer (some ⟨W.heap.size, 22, none⟩)) rfl rfl (by kernel_rfl) (by kernel_rfl) (by kernel_rfl) (fun _ _ _ h => h) (fun _ => rfl) rfl (fun w' hw' => by go_simp) ?_
          refine takeC 5 (v := .pointer (some ⟨W.heap.size, 24, none⟩)) rfl rfl (by kernel_rfl) (by kernel_rfl) (by kernel_rfl) (fun _ _ _ h => h) (fun _ => rfl) rfl (fun w' hw' => by go_simp) ?_
          refine takeC 6 (v := .int .i64 (cn : Int)) rfl rfl (by kernel_rfl) (by kernel_rfl) (by kernel_rfl) (fun _ _ _ h => h) (fun _ => rfl) rfl (fun w' hw' => by have hc := (cells_at hw'.2).1 24; go_simp) ?_
          refine takeC 7 (v := .int .i64 PC) rfl rfl (by kernel_rfl) (by kernel_rfl) (by kernel_rfl) (fun _ _ _ h => h) (fun _ => rfl) rfl (fun w' hw' => by go_simp; try (rw [IntKind.wrap_i64]; omega)) ?_
          refine takeC 8 (v := .int .i64 D) rfl rfl (by kernel_rfl) (by kernel_rfl) (by kernel_rfl) (fun _ _ _ h => h) (fun _ => rfl) rfl (fun w' hw' => by go_simp) ?_
          refine takeC 9 (v := .int .i64 (PC + D)) rfl rfl (by kernel_rfl) (by kernel_rfl) (by kernel_rfl) (fun _ _ _ h => h) (fun _ => rfl) rfl (fun w' hw' => by go_simp; try (rw [IntKind.wrap_i64]; omega)) ?_
          refine takeC 10 (v := .pointer (some ⟨w5.heap.size, 1, none⟩)) rfl rfl (by kernel_rfl) (by kernel_rfl) (by kernel_rfl) (fun _ _ _ h => h) (fun _ => rfl) rfl (fun w' hw' => by go_simp) ?_
          have g1 : wd.cell? ⟨w5.heap.size, 1, none⟩ = some (.int .i64 (-1)) := (cells_at hGd).1 1
          have g2 : wd.frozen? ⟨w5.heap.size, 1, none⟩ = false := (cells_at hGd).2.1 1
          refine stepC 11 HCl.out (by kernel_rfl) rfl (fun K hK => step_wp rfl ?_)
          go_simp
          refine hK _ _ ?_
          clear hK K g1 g2
          have hGs : Hid ((wd.setCell ⟨w5.heap.size, 1, none⟩ (.int .i64 (PC + D))).heap[w5.heap.size]? = some (.cells #[.int .i64 WG, .int .i64 (PC + D)] 116 (0, 0))) := heap_setCell_at hGd
          have hD6 : Hid (Below w2.heap.size w2 (wd.setCell ⟨w5.heap.size, 1, none⟩ (.int .i64 (PC + D)))) := (B5.out.trans (HD.out.mono B5.out.size)).setCell (p := ⟨w5.heap.size, 1, none⟩) hz5 _
          have HCs : Hid ((wd.setCell ⟨w5.heap.size, 1, none⟩ (.int .i64 (PC + D))).cell? (x.add y) = some (.int .i64 P) ∧ (wd.setCell ⟨w5.heap.size, 1, none⟩ (.int .i64 (PC + D))).heap[W.heap.size]? = some (.cells #[.int .i64 k, .int .i64 a, .int .i64 b, .int .i64 m, .int .i64 kh, .int .i64 kw, .int .i64 sh, .int .i64 sw, .int .i64 tp, .int .i64 lf, .int .i64 bt, .int .i64 rt, .slice wa lw wc, .slice ba lb bc, .int .i64 sm, .int .i64 ss, .int .i64 um, .int .i64 us, .int .i64 z, .int .i64 p, .int .i64 lo, .int .i64 hi, .int .i64 h, .int .i64 w, .int .i64 (cn : Int), .int .i64 H, .int .i64 V, .int .i64 C] 71 (0, 0))) := by
            refine ⟨?_, ?_⟩
            · have hb7 : Below w2.heap.size wd (wd.setCell ⟨w5.heap.size, 1, none⟩ (.int .i64 (PC + D))) := (Below.refl _ wd).setCell (p := ⟨w5.heap.size, 1, none⟩) hz5 _
              exact (hb7.cell (by rw [add_block]; exact hxb)).trans HCl.out.1
            · rw [Below.heap_setCell _ _ _ _ (show W.heap.size ≠ w5.heap.size by omega)]
              exact HCl.out.2
          have HO6 : Hid (OTm (wd.setCell ⟨w5.heap.size, 1, none⟩ (.int .i64 (PC + D))) w2.heap.size (.slice va y vc) (tmL k (cn : Int) ch h w kw t u st zs y)) := otm_other (HO5.out.below HD.out) HOn.out
          refine doneC HCs.out (by kernel_rfl) ?_ _
          obtain ⟨w7, hw7⟩ : ∃ w7, wd.setCell ⟨w5.heap.size, 1, none⟩ (.int .i64 (PC + D)) = w7 := ⟨_, rfl⟩
          rw [hw7] at hGs hD6 HO6 ⊢
          have hz7 : w5.heap.size < w7.heap.size := lt_of_heap hGs.out
          obtain ⟨c1, f1, z1'⟩ := cells_at hGs.out
          clear hw7 HCs HCl HD hGd hcx
          go_wp2_with (at_builtin; refine wpList_apT rfl (.tmp 86) (.tmp 88) rfl w2.heap.size _ _ [(WG, PC + D)] rfl (HO6.out.below (bal w7 _)) w7.heap.size 1 1 rfl rfl (term_one w7 _ _) HLn.out (by simp; omega) ?_; intro v8 w8 own8 gr8; have B8 : Hid (Below w2.heap.size w2 w8) := (HO6.out.below (bal w7 _)).grow (hD6.out.alloc hD6.out.size _) gr8 (by simp; omega))
          go_roundw
          case rel => exact ⟨y + 1, by omega, by go_num, by rw [HS.out]; exact own8, B8.out⟩
          case measure => simp [intOf]; omega
    · obtain rfl : y = st := by omega
      have hS1 := S2.out.below
      go_wp2
      go_ret
      exact ⟨⟨_, rfl, HO.out.base hS1.size⟩, hS1.trans (hb.mono hS1.size)⟩
end Go.Proofs.YtmcdpbnpnifdfaaGreat

/- The document's greatest of layer 11. -/
namespace Go.Proofs.YtmcdpbnpnifdfaaGreat
open Go.ChangeShapes Go.WideShapes Go.ChangeAt Go.RowKit
set_option linter.unusedVariables false
theorem own_heap {w : World} {base : Nat} {e : TypeId} {size : Nat} {v : Value} {n b : Nat} {xs : List Value} (h : w.ownsRow base e size v n xs) (hb : v.ownBlock = some b) : ∃ c, w.heap[b]? = some (.cells c e (0, 0)) := by
  rcases h.2 with ⟨rfl, -⟩ | ⟨f, cap, cur, rfl, -, h3, -⟩
  · simp [Value.ownBlock] at hb
  · obtain rfl : f = b := by simpa [Value.ownBlock] using hb
    exact ⟨cur, h3⟩
theorem nx_grow {w w' : World} {base base' : Nat} {v u : Value} {zs ys : List Int} {k : IntKind} {T : TypeId} (h : Nx.Own w base v zs) (o : Own k T w base' u ys) (g : w.grownBy w' u.ownBlock) (hT : T ≠ 3) : Nx.Own w' base v zs := by
  refine World.ownsRow.kept h g ?_
  cases e : v.ownBlock with
  | none => exact .inl rfl
  | some b =>
    refine .inr fun q => ?_
    obtain ⟨c, h1⟩ := own_heap h e
    have hu : u.ownBlock = some b := by first | exact q | exact q.symm
    obtain ⟨c', h2⟩ := own_heap o.1 hu
    rw [h1] at h2
    simp only [Option.some.injEq, Obj.cells.injEq] at h2
    exact hT h2.2.1.symm
theorem nx_row {w : World} {base n cap : Nat} {a : Option Addr} {zs : List Int} (h : Nx.Own w base (.slice a n cap) zs) (hn : zs.length = n) : Nx.Row w a n cap zs := by
  obtain ⟨a', cap', e, hr, -⟩ := h.row
  simp only [Value.slice.injEq] at e
  obtain ⟨rfl, rfl, rfl⟩ := e
  exact hr
theorem fiL_app (x : List Int) (v z lo hi : Int) : fiL (x ++ [v]) z lo hi = fiL x z lo hi ++ [Fx.fiV v z lo hi] := by simp [fiL]
theorem fiL_len (x : List Int) (z lo hi : Int) : (fiL x z lo hi).length = x.length := by simp [fiL]
set_option maxRecDepth 100000 in
set_option maxHeartbeats 8000000 in
theorem rgreat_any (a b m kh kw sh sw : Int) (wa : Option Addr) (lw wc : Nat) (ba : Option Addr) (lb bc : Nat) (sm ss um us z p lo hi h w c H V C : Int) (W : World) (ad : Option Addr) (n cap : Nat) (xs : List Int) (hX : IRow .i8 W ad n cap xs) (hn : (n : Int) = h * w * c) (hA : vS h w c = true) (hB : vS H V C = true) (hou : ouR h w c kh kw sh sw 0 0 0 0 = (H, V, 0)) (hkh : 1 ≤ kh ∧ kh ≤ 32) (hkw : 1 ≤ kw ∧ kw ≤ 32) (hsh : 1 ≤ sh ∧ sh ≤ 32) (hsw : 1 ≤ sw ∧ sw ≤ 32) (hf1 : (H - 1) * sh + kh ≤ h) (hf2 : (V - 1) * sw + kw ≤ w) (hCc : C = c) :
    Calls Tryz.prog 30 #[.agg #[.int .i64 5, .int .i64 a, .int .i64 b, .int .i64 m, .int .i64 kh, .int .i64 kw, .int .i64 sh, .int .i64 sw, .int .i64 0, .int .i64 0, .int .i64 0, .int .i64 0, .slice wa lw wc, .slice ba lb bc, .int .i64 sm, .int .i64 ss, .int .i64 um, .int .i64 us, .int .i64 z, .int .i64 p, .int .i64 lo, .int .i64 hi], .agg #[.int .i64 h, .int .i64 w, .int .i64 c], .agg #[.int .i64 H, .int .i64 V, .int .i64 C], .slice ad n cap] W fun e w' => (∃ v, e = .returned v ∧ Own .i8 41 w' W.heap.size v (fiL (grL kh kw sh sw w c V C xs (H * V * C).toNat) 0 lo hi)) ∧ Below W.heap.size W w' := by
  have HX : Hid (IRow .i8 W ad n cap xs) := hX
  have HX8 : Hid (∀ v ∈ xs, I8 v) := hX.i8
  have HTp : Hid (∀ (W' : World) (at' : Int), 0 ≤ at' ∧ at' < H * V → Calls Tryz.prog 50 #[.agg #[.int .i64 h, .int .i64 w, .int .i64 c], .agg #[.int .i64 kh, .int .i64 kw, .int .i64 sh, .int .i64 sw, .int .i64 0, .int .i64 0, .int .i64 0, .int .i64 0], .int .i64 at'] W' fun e w' => (∃ v, e = .returned v ∧ Nx.Own w' W'.heap.size v (Nx.covL h w kw (at' / V * sh) (at' % V * sw) (kh * kw).toNat)) ∧ Below W'.heap.size W' w') := fun W' at' hat => by
    have hc : coR h w c kh kw sh sw 0 0 0 0 at' = (at' / V * sh, at' % V * sw, 0) := by
      unfold coR; rw [hou]; simp only; rw [if_pos trivial, if_pos hat, Int.sub_zero, Int.sub_zero]
    exact Nx.rtaps_any h w c kh kw sh sw 0 0 0 0 at' _ _ W' hc
  obtain ⟨hh, hw, hc, -⟩ := vS_yes hA
  obtain ⟨hH, hV, hC, -⟩ := vS_yes hB
  have p3 := vS_bd hB
  have pA := vS_bd hA
  subst hCc
  obtain ⟨VN, rfl⟩ : ∃ VN : Nat, V = (VN : Int) := ⟨V.toNat, by omega⟩
  obtain ⟨CN, rfl⟩ : ∃ CN : Nat, C = (CN : Int) := ⟨C.toNat, by omega⟩
  have hH2 : H ≤ 1024 ∧ 1 ≤ H := by omega
  obtain ⟨P, hP⟩ : ∃ P : Nat, H * (VN : Int) = (P : Int) := ⟨(H * VN).toNat, by omega⟩
  have HrowP : Hid (∀ y : Nat, y < P → (0 ≤ (y : Int) / VN ∧ (y : Int) / VN < H) ∧ (0 ≤ (y : Int) % VN ∧ (y : Int) % VN < VN)) := fun y hy => ⟨⟨Int.ediv_nonneg (by omega) (by omega), Int.ediv_lt_of_lt_mul (by omega) (by rw [hP]; omega)⟩, Int.emod_nonneg _ (by omega), Int.emod_lt_of_pos _ (by omega)⟩
  rw [hP] at HTp p3 ⊢
  obtain ⟨N, hN⟩ : ∃ N : Nat, (P : Int) * (CN : Int) = (N : Int) := ⟨P * CN, by rw [Int.natCast_mul]⟩
  have HNN : Hid (P * CN = N) := by
    have : ((P * CN : Nat) : Int) = (N : Int) := by rw [Int.natCast_mul]; exact hN
    unfold Hid; omega
  rw [hN] at p3 ⊢
  rw [Int.toNat_natCast]
  obtain ⟨KK, hKK⟩ : ∃ KK : Nat, kh * kw = (KK : Int) := ⟨(kh * kw).toNat, by have := (mul_bd hkh.1 hkh.2 hkw.1 hkw.2).1; omega⟩
  have hKK2 : KK ≤ 1024 := by have := (mul_bd hkh.1 hkh.2 hkw.1 hkw.2).2; omega
  rw [hKK, Int.toNat_natCast] at HTp
  have HKK : Hid ((kh * kw).toNat = KK) := by unfold Hid; rw [hKK, Int.toNat_natCast]
  have HNn : Hid ((n : Int) = h * w * CN) := hn
  have hcap := hX.2.1
  have hcm := hX.2.2.1
  unfold maxLen at hcm
  have s0 := (((St.start W).new (c := #[.int .i64 5, .int .i64 a, .int .i64 b, .int .i64 m, .int .i64 kh, .int .i64 kw, .int .i64 sh, .int .i64 sw, .int .i64 0, .int .i64 0, .int .i64 0, .int .i64 0, .slice wa lw wc, .slice ba lb bc, .int .i64 sm, .int .i64 ss, .int .i64 um, .int .i64 us, .int .i64 z, .int .i64 p, .int .i64 lo, .int .i64 hi]) (t := 49)).new (c := #[.int .i64 h, .int .i64 w, .int .i64 (CN : Int)]) (t := 23)).new (c := #[.int .i64 H, .int .i64 (VN : Int), .int .i64 (CN : Int)]) (t := 23)
  simp only [World.size_alloc] at s0
  have S0 : Hid (St W _ [(W.heap.size + 1 + 1, #[.int .i64 H, .int .i64 (VN : Int), .int .i64 (CN : Int)], 23), (W.heap.size + 1, #[.int .i64 h, .int .i64 w, .int .i64 (CN : Int)], 23), (W.heap.size, #[.int .i64 5, .int .i64 a, .int .i64 b, .int .i64 m, .int .i64 kh, .int .i64 kw, .int .i64 sh, .int .i64 sw, .int .i64 0, .int .i64 0, .int .i64 0, .int .i64 0, .slice wa lw wc, .slice ba lb bc, .int .i64 sm, .int .i64 ss, .int .i64 um, .int .i64 us, .int .i64 z, .int .i64 p, .int .i64 lo, .int .i64 hi], 49)]) := s0
  have HKq : Hid (∀ q : Nat, q < KK → (0 ≤ (q : Int) / kw ∧ (q : Int) / kw < kh) ∧ (0 ≤ (q : Int) % kw ∧ (q : Int) % kw < kw)) := fun q hq => ⟨⟨Int.ediv_nonneg (by omega) (by omega), Int.ediv_lt_of_lt_mul (by omega) (by rw [hKK]; omega)⟩, Int.emod_nonneg _ (by omega), Int.emod_lt_of_pos _ (by omega)⟩
  have HP : Hid (H * (VN : Int) = (P : Int)) := hP
  have hwP : IntKind.i64.wrap (P : Int) = P := w64 (by omega)
  clear hX hn hA hB hou hN hKK s0
  go_enter Tryz.func30, Tryz.ntmps30
  go_wp2
  have Ho0 : Hid (Own .i8 41 (((W.alloc (.cells #[.int .i64 5, .int .i64 a, .int .i64 b, .int .i64 m, .int .i64 kh, .int .i64 kw, .int .i64 sh, .int .i64 sw, .int .i64 0, .int .i64 0, .int .i64 0, .int .i64 0, .slice wa lw wc, .slice ba lb bc, .int .i64 sm, .int .i64 ss, .int .i64 um, .int .i64 us, .int .i64 z, .int .i64 p, .int .i64 lo, .int .i64 hi] 49)).alloc (.cells #[.int .i64 h, .int .i64 w, .int .i64 (CN : Int)] 23)).alloc (.cells #[.int .i64 H, .int .i64 (VN : Int), .int .i64 (CN : Int)] 23)) W.heap.size (.slice none 0 0) []) := own_none _ _ _ _
  go_loopw [9, 10] (fun v i wr => ∃ (y : Nat) (v1 : Value), v1 = v ∧ y ≤ P ∧ i = .int .i64 y ∧ Own .i8 41 wr W.heap.size v (fiL (grL kh kw sh sw w CN VN CN xs (y * CN)) 0 lo hi) ∧ St W wr [(W.heap.size + 1 + 1, #[.int .i64 H, .int .i64 (VN : Int), .int .i64 (CN : Int)], 23), (W.heap.size + 1, #[.int .i64 h, .int .i64 w, .int .i64 (CN : Int)], 23), (W.heap.size, #[.int .i64 5, .int .i64 a, .int .i64 b, .int .i64 m, .int .i64 kh, .int .i64 kw, .int .i64 sh, .int .i64 sw, .int .i64 0, .int .i64 0, .int .i64 0, .int .i64 0, .slice wa lw wc, .slice ba lb bc, .int .i64 sm, .int .i64 ss, .int .i64 um, .int .i64 us, .int .i64 z, .int .i64 p, .int .i64 lo, .int .i64 hi], 49)]) (fun _ i _ => P - (intOf i).toNat)
  case atStart => exact ⟨0, _, rfl, Nat.zero_le _, rfl, by simpa [grL, fiL] using Ho0.out, S0.out⟩
  case round =>
    obtain ⟨y, v1, rfl, hy, rfl, hO, sr⟩ := hrel
    clear S0 Ho0
    obtain ⟨c1, f1, z1, c2, f2, z2, c3, f3, z3, -⟩ := sr.rules
    have HO : Hid (Own .i8 41 wr W.heap.size v1 (fiL (grL kh kw sh sw w CN VN CN xs (y * CN)) 0 lo hi)) := hO
    have SR : Hid (St W wr [(W.heap.size + 1 + 1, #[.int .i64 H, .int .i64 (VN : Int), .int .i64 (CN : Int)], 23), (W.heap.size + 1, #[.int .i64 h, .int .i64 w, .int .i64 (CN : Int)], 23), (W.heap.size, #[.int .i64 5, .int .i64 a, .int .i64 b, .int .i64 m, .int .i64 kh, .int .i64 kw, .int .i64 sh, .int .i64 sw, .int .i64 0, .int .i64 0, .int .i64 0, .int .i64 0, .slice wa lw wc, .slice ba lb bc, .int .i64 sm, .int .i64 ss, .int .i64 um, .int .i64 us, .int .i64 z, .int .i64 p, .int .i64 lo, .int .i64 hi], 49)]) := sr
    clear hO sr
    by_cases hlt : y < P
    · obtain ⟨⟨y1, y2⟩, y3, y4⟩ := HrowP.out y hlt
      obtain ⟨t1, t2⟩ := step_in (i := (y : Int) / VN) ⟨y1, y2⟩ hsh.1 hf1
      obtain ⟨t3, t4⟩ := step_in (i := (y : Int) % VN) ⟨y3, y4⟩ hsw.1 hf2
      have HTq : Hid (∀ (W' : World), _) := fun W' => HTp.out W' y ⟨by omega, by omega⟩
      have HGs : Hid (∀ d, d < CN → grL kh kw sh sw w CN VN CN xs (y * CN + d + 1) = grL kh kw sh sw w CN VN CN xs (y * CN + d) ++ [grM w CN kw xs ((y : Int) / VN * sh) ((y : Int) % VN * sw) d KK]) := fun d hd => by
        obtain ⟨e1, e2⟩ := divmod_at (C := (CN : Int)) (q := y) (d := d) (by omega)
        rw [grL_succ, Int.natCast_add, Int.natCast_mul, e1, e2, HKK.out]
      obtain ⟨T, hT⟩ : ∃ T, (y : Int) / VN * sh = T := ⟨_, rfl⟩
      obtain ⟨U, hU⟩ : ∃ U, (y : Int) % VN * sw = U := ⟨_, rfl⟩
      rw [hT] at t1 t2 HTq HGs
      rw [hU] at t3 t4 HTq HGs
      clear hT hU y1 y2 y3 y4
      have hPP := HP.out
      go_wp2_with fail
      refine Calls.mono (HTq.out _) ?_
      rintro e w1 ⟨⟨v, rfl, hOt⟩, hb1⟩
      obtain ⟨va, vc, rfl, hrow, -⟩ := hOt.row
      rw [Nx.covL_len] at hOt ⊢
      obtain ⟨w0z, hw0z⟩ : ∃ w0z, wr.heap.size = w0z := ⟨_, rfl⟩
      rw [hw0z] at hOt
      have HT1 : Hid (Nx.Own w1 w0z (.slice va KK vc) (Nx.covL h w kw T U KK)) := hOt
      clear hw0z
      have S1 : Hid (St W w1 [(W.heap.size + 1 + 1, #[.int .i64 H, .int .i64 (VN : Int), .int .i64 (CN : Int)], 23), (W.heap.size + 1, #[.int .i64 h, .int .i64 w, .int .i64 (CN : Int)], 23), (W.heap.size, #[.int .i64 5, .int .i64 a, .int .i64 b, .int .i64 m, .int .i64 kh, .int .i64 kw, .int .i64 sh, .int .i64 sw, .int .i64 0, .int .i64 0, .int .i64 0, .int .i64 0, .slice wa lw wc, .slice ba lb bc, .int .i64 sm, .int .i64 ss, .int .i64 um, .int .i64 us, .int .i64 z, .int .i64 p, .int .i64 lo, .int .i64 hi], 49)]) := SR.out.call hb1
      have O1 : Hid (Own .i8 41 w1 W.heap.size v1 (fiL (grL kh kw sh sw w CN VN CN xs (y * CN)) 0 lo hi)) := HO.out.below hb1
      clear hb1 hOt hrow SR HO c1 f1 z1 c2 f2 z2 c3 f3 z3 HTq hPP
      go_wp2
      go_loopw [9, 12] (fun v i wr => ∃ (d : Nat) (v2 : Value), v2 = v ∧ d ≤ CN ∧ i = .int .i64 d ∧ Own .i8 41 wr W.heap.size v (fiL (grL kh kw sh sw w CN VN CN xs (y * CN + d)) 0 lo hi) ∧ Nx.Own wr w0z (.slice va KK vc) (Nx.covL h w kw T U KK) ∧ St W wr [(W.heap.size + 1 + 1, #[.int .i64 H, .int .i64 (VN : Int), .int .i64 (CN : Int)], 23), (W.heap.size + 1, #[.int .i64 h, .int .i64 w, .int .i64 (CN : Int)], 23), (W.heap.size, #[.int .i64 5, .int .i64 a, .int .i64 b, .int .i64 m, .int .i64 kh, .int .i64 kw, .int .i64 sh, .int .i64 sw, .int .i64 0, .int .i64 0, .int .i64 0, .int .i64 0, .slice wa lw wc, .slice ba lb bc, .int .i64 sm, .int .i64 ss, .int .i64 um, .int .i64 us, .int .i64 z, .int .i64 p, .int .i64 lo, .int .i64 hi], 49)]) (fun _ i _ => CN - (intOf i).toNat)
      case atStart => exact ⟨0, _, rfl, Nat.zero_le _, rfl, O1.out, HT1.out, S1.out⟩
      case round =>
        obtain ⟨d, v2, rfl, hd, rfl, hO, hbw, sr⟩ := hrel
        clear O1 S1
        obtain ⟨c1, f1, z1, c2, f2, z2, c3, f3, z3, -⟩ := sr.rules
        have HO : Hid (Own .i8 41 wr W.heap.size v2 (fiL (grL kh kw sh sw w CN VN CN xs (y * CN + d)) 0 lo hi)) := hO
        have SR : Hid (St W wr [(W.heap.size + 1 + 1, #[.int .i64 H, .int .i64 (VN : Int), .int .i64 (CN : Int)], 23), (W.heap.size + 1, #[.int .i64 h, .int .i64 w, .int .i64 (CN : Int)], 23), (W.heap.size, #[.int .i64 5, .int .i64 a, .int .i64 b, .int .i64 m, .int .i64 kh, .int .i64 kw, .int .i64 sh, .int .i64 sw, .int .i64 0, .int .i64 0, .int .i64 0, .int .i64 0, .slice wa lw wc, .slice ba lb bc, .int .i64 sm, .int .i64 ss, .int .i64 um, .int .i64 us, .int .i64 z, .int .i64 p, .int .i64 lo, .int .i64 hi], 49)]) := sr
        have HTo : Hid (Nx.Own wr w0z (.slice va KK vc) (Nx.covL h w kw T U KK)) := hbw
        have HTr : Hid (Nx.Row wr va KK vc (Nx.covL h w kw T U KK)) := nx_row hbw (Nx.covL_len _ _ _ _ _ _)
        clear hO sr hbw
        by_cases hltd : d < CN
        · have hvc := HTr.out.2.1
          have hvm := HTr.out.2.2.1
          unfold maxLen at hvm
          go_wp2
          go_loopw [13, 40] (fun g i wq => ∃ q : Nat, q ≤ KK ∧ i = .int .i64 q ∧ g = .int .i64 (grM w CN kw xs T U d q) ∧ wq = wr) (fun _ i _ => KK - (intOf i).toNat)
          case atStart => exact ⟨0, Nat.zero_le _, rfl, rfl, rfl⟩
          case round =>
            obtain ⟨q, hq, rfl, rfl, hwq⟩ := hrel
            subst hwq
            by_cases hltq : q < KK
            · obtain ⟨⟨k1, k2⟩, k3, k4⟩ := HKq.out q hltq
              obtain ⟨xt, rfl⟩ : ∃ xt, va = some xt := by
                cases va with
                | none => have h1 := HTr.out.2.2.2.1 rfl; omega
                | some xt => exact ⟨xt, rfl⟩
              have hcx := HTr.out.2.2.2.2 xt rfl q hltq
              rw [show (Nx.covL h w kw T U KK).getD q 0 = plc h w (T + (q : Int) / kw) (U + (q : Int) % kw) by simp [Nx.covL, List.getD, hltq], plc_in ⟨⟨by omega, by omega⟩, by omega, by omega⟩] at hcx
              obtain ⟨r1, r2⟩ := rowbd (h := h) (w := w) (y := T + (q : Int) / kw) (x := U + (q : Int) % kw) (by omega) (by omega) (by omega) (by omega)
              have HS : Hid (grM w CN kw xs T U d (q + 1) = mxI (grM w CN kw xs T U d q) (xs.getD ((((T + (q : Int) / kw) * w + (U + (q : Int) % kw)) * CN + d)).toNat 0)) := rfl
              obtain ⟨R, hR⟩ : ∃ R, (T + (q : Int) / kw) * w + (U + (q : Int) % kw) = R := ⟨_, rfl⟩
              rw [hR] at hcx r2 HS
              have hR0 : 0 ≤ R := by omega
              obtain ⟨r3, r4⟩ := rowbd (w := (CN : Int)) (x := (d : Int)) r2 hR0 (by omega) (by omega)
              obtain ⟨R2, hR2⟩ : ∃ R2, R * (CN : Int) = R2 := ⟨_, rfl⟩
              rw [hR2] at r3 r4 HS
              obtain ⟨I, hI⟩ : ∃ I : Nat, R2 + (d : Int) = (I : Int) := ⟨(R2 + d).toNat, by omega⟩
              rw [hI, Int.toNat_natCast] at HS
              have hIn : I < n := by have := HNn.out; omega
              obtain ⟨xa, u, rfl, hu, hw8, hz, -⟩ := (HX.out.below SR.out.below).at hIn
              obtain ⟨u1, u2⟩ := wf_i8 hw8
              rw [show xs.getD I 0 = u by rw [List.getD_eq_getElem?_getD, hz]; rfl] at HS
              have hG := grM_i8 (w := w) (c := (CN : Int)) (kw := kw) HX8.out T U d q
              obtain ⟨G, hGe⟩ : ∃ G, grM w CN kw xs T U d q = G := ⟨_, rfl⟩
              rw [hGe] at HS hG ⊢
              obtain ⟨g1, g2⟩ := hG
              have hRb : R ≤ 1048576 := by omega
              clear k1 k2 k3 k4 r1 hR hGe hz hw8
              by_cases hlg : G < u
              · have HM : Hid (mxI G u = u) := if_pos hlg
                have hng : ¬ u < G := by omega
                go_wp2
                go_roundw
                case rel => exact ⟨q + 1, by omega, by go_num, by rw [HS.out, HM.out], by first | rfl | trivial⟩
                case measure => simp [intOf]; omega
              · have HM : Hid (mxI G u = G) := if_neg hlg
                go_wp2
                go_roundw
                case rel => exact ⟨q + 1, by omega, by go_num, by rw [HS.out, HM.out], by first | rfl | trivial⟩
                case measure => simp [intOf]; omega
            · obtain rfl : KK = q := by omega
              have HSS := HGs.out d hltd
              have hG := grM_i8 (w := w) (c := (CN : Int)) (kw := kw) HX8.out T U d KK
              obtain ⟨G, hGe⟩ : ∃ G, grM w CN kw xs T U d KK = G := ⟨_, rfl⟩
              rw [hGe] at HSS hG ⊢
              have HSS2 : Hid (fiL (grL kh kw sh sw w CN VN CN xs (y * CN + d + 1)) 0 lo hi = fiL (grL kh kw sh sw w CN VN CN xs (y * CN + d)) 0 lo hi ++ [Fx.fiV G 0 lo hi]) := by unfold Hid; rw [HSS, fiL_app]
              have h8 := fiV_i8 (v := G) (z := 0) (lo := lo) (hi := hi)
              have h8w := i8w h8
              have HLn : Hid (y * CN + d ≤ 16384) := by
                unfold Hid
                have q1 : (y + 1) * CN ≤ P * CN := Nat.mul_le_mul_right _ hlt
                rw [HNN.out, Nat.add_mul] at q1
                omega
              clear hGe HSS
              go_wp2_with fail
              refine (Fx.reffinish_any G 0 lo hi _).mono ?_
              rintro e wf ⟨rfl, hwf⟩
              have hwf' := hwf.symm
              subst hwf'
              obtain ⟨F, hF⟩ : ∃ F, Fx.fiV G 0 lo hi = F := ⟨_, rfl⟩
              rw [hF] at h8 h8w HSS2 ⊢
              have H8 : Hid (I8 F) := h8
              clear hF hwf h8
              go_wp2_with (at_builtin; refine wpList_app kt_i8 rfl (.tmp 66) (.tmp 69) rfl W.heap.size v2 (fiL (grL kh kw sh sw w CN VN CN xs (y * CN + d)) 0 lo hi) [F] rfl (HO.out.alloc _) _ _ _ rfl (row_one .i8 41 wr F (mk_i8 H8.out)) (by rw [fiL_len, grL_len]; have := HLn.out; simp; omega) (by have := SR.out.size; simp; omega) ?_; intro v7 w7 own7 gr7 nn7; have S7 : Hid (St W w7 [(W.heap.size + 1 + 1, #[.int .i64 H, .int .i64 (VN : Int), .int .i64 (CN : Int)], 23), (W.heap.size + 1, #[.int .i64 h, .int .i64 w, .int .i64 (CN : Int)], 23), (W.heap.size, #[.int .i64 5, .int .i64 a, .int .i64 b, .int .i64 m, .int .i64 kh, .int .i64 kw, .int .i64 sh, .int .i64 sw, .int .i64 0, .int .i64 0, .int .i64 0, .int .i64 0, .slice wa lw wc, .slice ba lb bc, .int .i64 sm, .int .i64 ss, .int .i64 um, .int .i64 us, .int .i64 z, .int .i64 p, .int .i64 lo, .int .i64 hi], 49)]) := (SR.out.skip (.cells #[.int .i8 F] 41)).grow (HO.out.alloc _) gr7 (Nat.le_refl _) (by simp); have O7 : Hid (Own .i8 41 w7 W.heap.size v7 (fiL (grL kh kw sh sw w CN VN CN xs (y * CN + d + 1)) 0 lo hi)) := (by rw [HSS2.out]; exact own7); have B7 : Hid (Nx.Own w7 w0z (.slice va KK vc) (Nx.covL h w kw T U KK)) := nx_grow (HTo.out.alloc _) (HO.out.alloc _) gr7 (by decide); clear own7 gr7 nn7)
              go_roundw
              case rel => exact ⟨d + 1, _, rfl, by omega, by go_num, O7.out, B7.out, S7.out⟩
              case measure => simp [intOf]; omega
        · obtain rfl : d = CN := by omega
          have Ho2 : Hid (Own .i8 41 wr W.heap.size v2 (fiL (grL kh kw sh sw w d VN d xs ((y + 1) * d)) 0 lo hi)) := by
            have e : (y + 1) * d = y * d + d := by rw [Nat.add_mul, Nat.one_mul]
            unfold Hid
            rw [e]; exact HO.out
          clear HO
          go_wp2
          go_roundw
          case rel => exact ⟨y + 1, _, rfl, by omega, by go_num, Ho2.out, SR.out⟩
          case measure => simp [intOf]; omega
    · obtain rfl : y = P := by omega
      have HO2 : Hid (Own .i8 41 wr W.heap.size v1 (fiL (grL kh kw sh sw w CN VN CN xs N) 0 lo hi)) := by rw [← HNN.out]; exact HO.out
      have hPP := HP.out
      go_wp2
      go_ret
      exact ⟨⟨_, rfl, HO2.out⟩, SR.out.below⟩
end Go.Proofs.YtmcdpbnpnifdfaaGreat

/- The document's Terms, of whatever kind. -/
namespace Go.Proofs.YtmcdpbnpnifdfaaGreat
open Go.ChangeShapes Go.WideShapes Go.ChangeAt Go.RowKit
set_option linter.unusedVariables false
/-- The document's Terms of an op that is there. -/
theorem rterms_any (k a b m kh kw sh sw tp lf bt rt : Int) (wa : Option Addr) (lw wc : Nat) (ba : Option Addr) (lb bc : Nat) (sm ss um us z p lo hi h w c H V C : Int) (W : World) (zs : List Int) (hZ : IRow .i16 W wa lw wc zs) (s : Sit k kh kw sh sw tp lf bt rt h w c H V C lw lb) (ch at' : Int) (hch : 1 ≤ ch ∧ ch ≤ C) (hat : 0 ≤ at' ∧ at' < H * V) :
    Calls Tryz.prog 67 #[.agg #[.int .i64 k, .int .i64 a, .int .i64 b, .int .i64 m, .int .i64 kh, .int .i64 kw, .int .i64 sh, .int .i64 sw, .int .i64 tp, .int .i64 lf, .int .i64 bt, .int .i64 rt, .slice wa lw wc, .slice ba lb bc, .int .i64 sm, .int .i64 ss, .int .i64 um, .int .i64 us, .int .i64 z, .int .i64 p, .int .i64 lo, .int .i64 hi, .int .i64 h, .int .i64 w, .int .i64 c, .int .i64 H, .int .i64 V, .int .i64 C], .int .i64 ch, .int .i64 at'] W fun e w' => (∃ v, e = .returned v ∧ OTm w' W.heap.size v (siL k kh kw sh sw tp lf bt rt h w c ch at' zs)) ∧ Below W.heap.size W w' := by
  obtain ⟨st, hst⟩ : ∃ st : Nat, stR k kh kw h w c = (st : Int) := ⟨(stR k kh kw h w c).toNat, by have := s.2.2.2.2.2.2.2.2.1; omega⟩
  unfold siL
  rw [hst, Int.toNat_natCast]
  by_cases k1 : k = 1
  · subst k1
    exact rterms_1 a b m kh kw sh sw tp lf bt rt wa lw wc ba lb bc sm ss um us z p lo hi h w c H V C W zs hZ s ch at' _ _ hch st hst
  · obtain ⟨cn, rfl⟩ : ∃ cn : Nat, c = (cn : Int) := ⟨c.toNat, by have := (vS_yes s.2.1).2.2.1; omega⟩
    have hou := s.2.2.2.1 (by have := s.1; omega)
    have hcc : (coR h w (cn : Int) kh kw sh sw tp lf bt rt at').2.2 = 0 := by
      unfold coR
      rw [hou]
      simp only
      rw [if_pos trivial, if_pos hat]
    exact rterms_w k a b m kh kw sh sw tp lf bt rt wa lw wc ba lb bc sm ss um us z p lo hi h w cn H V C W zs hZ s k1 ch at' _ _ hch (by rw [← hcc]) st hst
end Go.Proofs.YtmcdpbnpnifdfaaGreat
