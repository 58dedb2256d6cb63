/- What the document's Terms returns, of an op with a window. The document's Terms, of whatever kind. The document's Value, Sum and Sums of layers 10 and 11. -/
import Derived.Test.YtdknofbnhjdfjaaGr17
import Derived.Test.YtdknofbnhjdfjaaGr26
import Derived.Test.YtdknofbnhjdfjaaGr30
/- What the document's Terms returns, of an op with a window. -/
namespace Go.Proofs.Ytdknofbnhjdfjaa
open Go.ChangeShapes Go.WideShapes Go.ChangeAt Go.RowKit
set_option linter.unusedVariables false
theorem covL_get (h w kw t u : Int) {n i : Nat} (hi : i < n) : (Nx.covL h w kw t u n).getD i 0 = tpc h w kw t u (i : Int) := by simp [Nx.covL, List.getD, hi, tpc]
theorem otm_other {w : World} {base B i : Nat} {v u : Value} {L : List (Int × Int)} (h : OTm w base v L) (hn : v.ownBlock ≠ some B) : OTm (w.setCell ⟨B, i, none⟩ u) base v L := by
  refine World.ownsRow.kept h (grown_set w B i u) ?_
  cases e : v.ownBlock with
  | none => exact .inl rfl
  | some b => exact .inr (fun q => hn (by rw [e, q]))
set_option maxRecDepth 100000 in
set_option maxHeartbeats 8000000 in
theorem rterms_w (k a b m kh kw sh sw tp lf bt rt : Int) (wa : Option Addr) (lw wc : Nat) (ba : Option Addr) (lb bc : Nat) (sm ss um us z p lo hi h w : Int) (cn : Nat) (H V C : Int) (W : World) (zs : List Int) (hZ : IRow .i16 W wa lw wc zs) (s : Sit k kh kw sh sw tp lf bt rt h w (cn : Int) H V C lw lb) (k1 : k ≠ 1) (ch at' t u : Int) (hch : 1 ≤ ch ∧ ch ≤ C) (hcc : coR h w (cn : Int) kh kw sh sw tp lf bt rt at' = (t, u, 0)) (st : Nat) (hst : stR k kh kw h w (cn : Int) = (st : Int)) :
    Calls Try.prog 50 #[.agg #[.int .i64 k, .int .i64 a, .int .i64 b, .int .i64 m, .int .i64 kh, .int .i64 kw, .int .i64 sh, .int .i64 sw, .int .i64 tp, .int .i64 lf, .int .i64 bt, .int .i64 rt, .slice wa lw wc, .slice ba lb bc, .int .i64 sm, .int .i64 ss, .int .i64 um, .int .i64 us, .int .i64 z, .int .i64 p, .int .i64 lo, .int .i64 hi, .int .i64 h, .int .i64 w, .int .i64 (cn : Int), .int .i64 H, .int .i64 V, .int .i64 C], .int .i64 ch, .int .i64 at'] W fun e w' => (∃ v, e = .returned v ∧ OTm w' W.heap.size v (tmL k (cn : Int) ch h w kw t u st zs st)) ∧ Below W.heap.size W w' := by
  have hLe : Hid (∀ W', Calls Try.prog 67 #[.agg #[.int .i64 k, .int .i64 a, .int .i64 b, .int .i64 m, .int .i64 kh, .int .i64 kw, .int .i64 sh, .int .i64 sw, .int .i64 tp, .int .i64 lf, .int .i64 bt, .int .i64 rt, .slice wa lw wc, .slice ba lb bc, .int .i64 sm, .int .i64 ss, .int .i64 um, .int .i64 us, .int .i64 z, .int .i64 p, .int .i64 lo, .int .i64 hi, .int .i64 h, .int .i64 w, .int .i64 (cn : Int), .int .i64 H, .int .i64 V, .int .i64 C]] W' fun e w' => e = .returned (.int .i64 st) ∧ Below W'.heap.size W' w') := fun W' => by rw [← hst]; exact rlen_any k a b m kh kw sh sw tp lf bt rt wa lw wc ba lb bc sm ss um us z p lo hi h w (cn : Int) H V C W' s
  have hWg : Hid (∀ (w' : World) (i : Nat), i < st → Below W.heap.size W w' → Calls Try.prog 68 #[.agg #[.int .i64 k, .int .i64 a, .int .i64 b, .int .i64 m, .int .i64 kh, .int .i64 kw, .int .i64 sh, .int .i64 sw, .int .i64 tp, .int .i64 lf, .int .i64 bt, .int .i64 rt, .slice wa lw wc, .slice ba lb bc, .int .i64 sm, .int .i64 ss, .int .i64 um, .int .i64 us, .int .i64 z, .int .i64 p, .int .i64 lo, .int .i64 hi, .int .i64 h, .int .i64 w, .int .i64 (cn : Int), .int .i64 H, .int .i64 V, .int .i64 C], .int .i64 ch, .int .i64 i] w' fun e w'' => e = .returned (.int .i64 (wgA k ch st zs i)) ∧ Below w'.heap.size w' w'') := fun w' i hj hb => by
    have := rwei_any k a b m kh kw sh sw tp lf bt rt wa lw wc ba lb bc sm ss um us z p lo hi h w (cn : Int) H V C w' zs (hZ.below hb) s ch hch i (by rw [hst]; omega)
    rw [hst] at this
    exact this
  have hTp : Hid (∀ W', _) := fun W' => Nx.rtaps_any h w (cn : Int) kh kw sh sw tp lf bt rt at' t u W' hcc
  have hlen : st ≤ 512 := by have := s.2.2.2.2.2.2.2.2.2; rw [hst] at this; omega
  obtain ⟨hk, hvA, hvB, hou, -, hwn, -, h3c, -⟩ := s
  have hC1 := (vS_yes hvB).2.2.1
  have hcn1 := (vS_yes hvA).2.2.1
  have hd1 := (vS_yes hvA).1
  have hw1 := (vS_yes hvA).2.1
  obtain ⟨hk1, hk2⟩ := hwn (by omega)
  have hm : h * w ≤ 16384 := by
    have h4 := (vS_yes hvA).2.2.2
    have p1 := (mul_bd hd1.1 hd1.2 hw1.1 hw1.2).1
    have := Int.mul_le_mul_of_nonneg_left hcn1.1 (show 0 ≤ h * w by omega)
    omega
  obtain ⟨N, hN⟩ : ∃ N : Nat, kh * kw = (N : Int) := ⟨(kh * kw).toNat, by have := (mul_bd hk1.1 hk1.2 hk2.1 hk2.2).1; omega⟩
  rw [hN, Int.toNat_natCast] at hTp
  have hstN : (k = 2 → st = N * cn) ∧ (k ≠ 2 → st = N) := by
    unfold stR at hst
    rw [if_neg k1] at hst
    constructor
    · intro k2
      rw [if_pos k2, hN] at hst
      exact_mod_cast hst.symm
    · intro k2
      rw [if_neg k2, if_pos (by omega), hN] at hst
      exact_mod_cast hst.symm
  have hN2 : N ≤ 1024 := by have := (mul_bd hk1.1 hk1.2 hk2.1 hk2.2).2; omega
  have HST : Hid ((k = 2 → st = N * cn) ∧ (k ≠ 2 → st = N)) := hstN
  have hPb : Hid (∀ q : Int, -1 ≤ tpc h w kw t u q ∧ tpc h w kw t u q ≤ 16384) := fun q => plc_bd hd1 hw1 hm
  have k1' : (k == 1) = false := by simp [k1]
  clear hst hZ hvA hvB hou hwn h3c hcc hN hm hstN
  have s0 := (St.start W).new (c := #[.int .i64 k, .int .i64 a, .int .i64 b, .int .i64 m, .int .i64 kh, .int .i64 kw, .int .i64 sh, .int .i64 sw, .int .i64 tp, .int .i64 lf, .int .i64 bt, .int .i64 rt, .slice wa lw wc, .slice ba lb bc, .int .i64 sm, .int .i64 ss, .int .i64 um, .int .i64 us, .int .i64 z, .int .i64 p, .int .i64 lo, .int .i64 hi, .int .i64 h, .int .i64 w, .int .i64 (cn : Int), .int .i64 H, .int .i64 V, .int .i64 C]) (t := 41)
  go_enter Try.func50, Try.ntmps50
  go_wp2_with (refine wpList_load_row rfl 41 (.tmp 3) rfl W.heap.size rfl 41 _ (0, 0) _ s0.h1 Try.underlying41 rfl (by kernel_rfl) ?_)
  refine (hLe.out _).mono ?_
  rintro e w1 ⟨rfl, hb⟩
  have s1 := s0.call hb
  obtain ⟨c1, f1, z1, -⟩ := s1.rules
  clear hb s0
  go_wp2_with fail
  refine (hTp.out _).mono ?_
  rintro e w2 ⟨⟨v, rfl, hOw⟩, hb⟩
  obtain ⟨ta, tc, rfl, hrow, -⟩ := hOw.row
  rw [Nx.covL_len] at hrow ⊢
  have hcap := hrow.2.1
  have hcm := hrow.2.2.1
  unfold maxLen at hcm
  have Hrow : Hid (Nx.Row w2 ta N tc (Nx.covL h w kw t u N)) := hrow
  have S2 : Hid (St W w2 _) := s1.call hb
  clear hb s1 hOw hrow c1 f1 z1
  go_wp2
  go_loopw [7, 11] (fun v i wr => ∃ y : Nat, y ≤ st ∧ i = .int .i64 y ∧ OTm wr w2.heap.size v (tmL k (cn : Int) ch h w kw t u st zs y) ∧ Below w2.heap.size w2 wr) (fun _ i _ => st - (intOf i).toNat)
  case atStart => exact ⟨0, Nat.zero_le _, rfl, OTm.nil _ _, Below.refl _ _⟩
  case round =>
    obtain ⟨y, hy, rfl, hO, hb⟩ := hrel
    have s3 := S2.out.call hb
    obtain ⟨va, vc, hve⟩ := hO.slice
    rw [tmL_len] at hve
    subst hve
    have HO : Hid (OTm _ _ _ _) := hO
    have hbz := hb.size
    have Hb : Hid (Below w2.heap.size w2 wr) := hb
    clear hO
    by_cases hlt : y < st
    · obtain ⟨c1, f1, z1, -⟩ := s3.rules
      by_cases k2 : k = 2
      · have hstN := HST.out.1 k2
        have hcn0 : 0 < cn := by omega
        obtain ⟨Q, hQe⟩ : ∃ Q, y / cn = Q := ⟨_, rfl⟩
        obtain ⟨R, hRe⟩ : ∃ R, y % cn = R := ⟨_, rfl⟩
        have hQ : Q < N := by rw [← hQe]; exact Nat.div_lt_of_lt_mul (by rw [Nat.mul_comm]; omega)
        have hR : R < cn := by rw [← hRe]; exact Nat.mod_lt _ hcn0
        have hq1 : Int.tdiv (y : Int) (cn : Int) = (Q : Int) := by rw [← hQe]; rfl
        have hq2 : Int.tmod (y : Int) (cn : Int) = (R : Int) := by rw [← hRe]; rfl
        have HP : Hid (plA k (cn : Int) ch h w kw t u y = cov (cn : Int) (tpc h w kw t u (Q : Int)) (R : Int)) := by unfold Hid plA; rw [if_neg k1, if_pos k2, ← hQe, ← hRe]; rfl
        have hc0 : ¬ ((cn : Int) = 0) := by omega
        have k2' : (k == 2) = true := by simp [k2]
        obtain ⟨D, hDe⟩ : ∃ D : Int, (R : Int) = D := ⟨_, rfl⟩
        have hD : 0 ≤ D ∧ D ≤ 1024 := by omega
        rw [hDe] at hq2 HP
        clear hQe hRe hDe hstN hR HST k2
        go_upto_region 15 with fail
        go_quiet (fail)
        have s4 := s3.call (dbel wr nq)
        have HO4 : Hid (OTm _ _ _ _) := HO.out.below (dbel wr nq)
        have Hb4 : Hid (Below w2.heap.size w2 _) := Hb.out.trans ((dbel wr nq).mono hbz)
        obtain ⟨w4, hw4⟩ : ∃ w4, wr.drewN nq = w4 := ⟨_, rfl⟩
        rw [hw4] at s4 HO4 Hb4 ⊢
        have hbz4 := Hb4.out.size
        clear hw4 c1 f1 z1 hb s3 Hb HO
        obtain ⟨P, hPe⟩ : ∃ P, tpc h w kw t u (Q : Int) = P := ⟨_, rfl⟩
        obtain ⟨x, rfl⟩ : ∃ x, ta = some x := by
          cases ta with
          | none => have h1 := Hrow.out.2.2.2.1 rfl; have h2 := Hrow.out.2.1; omega
          | some x => exact ⟨x, rfl⟩
        have hcx0 := Hrow.out.2.2.2.2 x rfl Q hQ
        rw [covL_get _ _ _ _ _ hQ, hPe] at hcx0
        have hxb : x.block < w2.heap.size := by have := World.block_lt_of_cell? _ _ hcx0; rwa [add_block] at this
        have hPb1 := hPb.out (Q : Int)
        rw [hPe] at HP hPb1
        obtain ⟨WG, hWG⟩ : ∃ WG, wgA k ch st zs y = WG := ⟨_, rfl⟩
        have hWg1 : Hid (∀ (w' : World), Below W.heap.size W w' → _) := fun w' hb => hWg.out w' y hlt hb
        rw [hWG] at hWg1
        have HS : Hid (tmL k (cn : Int) ch h w kw t u st zs (y + 1) = tmL k (cn : Int) ch h w kw t u st zs y ++ [(WG, cov (cn : Int) P D)]) := by unfold Hid; rw [tmL_succ, hWG, HP.out]
        have HLn : Hid ((tmL k (cn : Int) ch h w kw t u st zs y).length + 1 ≤ 1000000) := by unfold Hid; rw [tmL_len]; omega
        clear hPe hWG HP
        have h1 := s4.h1
        go_wp2_with (refine wpList_load_row rfl 41 (.tmp 3) rfl W.heap.size rfl 41 _ (0, 0) _ h1 Try.underlying41 rfl (by kernel_rfl) ?_)
        refine (hWg1.out _ s4.below).mono ?_
        rintro e w5 ⟨rfl, hb5⟩
        have s5 := (s4.call hb5).new (c := #[.int .i64 WG, .int .i64 (-1)]) (t := 61)
        have HOn : Hid ((Value.slice va y vc).ownBlock ≠ some w5.heap.size) := fun e => by have := (World.ownsRow.lt (HO4.out.below hb5) _ e).2; omega
        have HO5 : Hid (OTm _ _ _ _) := (HO4.out.below hb5).below (bal w5 (.cells #[.int .i64 WG, .int .i64 (-1)] 61))
        have hz5 : w2.heap.size ≤ w5.heap.size := Nat.le_trans hbz4 hb5.size
        have B5 : Hid (Below w2.heap.size w2 (w5.alloc (.cells #[.int .i64 WG, .int .i64 (-1)] 61))) := (Hb4.out.trans (hb5.mono hbz4)).alloc hz5 _
        have hWz : W.heap.size < w2.heap.size := lt_of_heap S2.out.h1
        obtain ⟨w6, hw6⟩ : ∃ w6, w5.alloc (.cells #[.int .i64 WG, .int .i64 (-1)] 61) = w6 := ⟨_, rfl⟩
        have hcx : w6.cell? (x.add Q) = some (.int .i64 P) := by rw [← hw6]; exact (B5.out.cell (by rw [add_block]; exact hxb)).trans hcx0
        have hz6 : Hid (w6.heap.size = w5.heap.size + 1) := by unfold Hid; rw [← hw6]; simp
        clear hb5 h1 s4 HO4 Hb4 hcx0
        go_upto_region 17 with fail
        rw [hw6] at s5 HO5 B5
        try rw [hw6]
        clear hw6
        have S5 : Hid (St W w6 _) := s5
        obtain ⟨c1, f1, z1, c2, f2, z2, -⟩ := s5.rules
        clear s5
        by_cases hp : P = -1
        · subst hp
          have HC : Hid (cov (cn : Int) (-1) D = -1) := if_pos rfl
          rw [HC.out] at HS
          go_wp2_with (at_builtin; refine wpList_apT rfl (.tmp 86) (.tmp 88) rfl w2.heap.size _ _ [(WG, (-1 : Int))] rfl (HO5.out.below (bal w6 _)) w6.heap.size 1 1 rfl rfl (term_one w6 _ _) HLn.out (by simp; have := hz6.out; omega) ?_; intro v7 w7 own7 gr7; have B7 : Hid (Below w2.heap.size w2 w7) := (HO5.out.below (bal w6 _)).grow (B5.out.alloc B5.out.size _) gr7 (by simp; have := hz6.out; omega))
          go_roundw
          case rel => exact ⟨y + 1, by omega, by go_num, by rw [HS.out]; exact own7, B7.out⟩
          case measure => simp [intOf]; omega
        · have HC : Hid (cov (cn : Int) P D = P * (cn : Int) + D) := if_neg hp
          rw [HC.out] at HS
          have hp0 : 0 ≤ P := by omega
          have m1 : 0 ≤ P * (cn : Int) := Int.mul_nonneg (by omega) (by omega)
          have m2 : P * (cn : Int) ≤ 16384 * 1024 := Int.mul_le_mul hPb1.2 hcn1.2 (by omega) (by omega)
          obtain ⟨PC, hPC⟩ : ∃ PC, P * (cn : Int) = PC := ⟨_, rfl⟩
          rw [hPC] at m1 m2 HS
          go_upto_region 18 with fail
          have hG := S5.out.h2
          have hG1 := S5.out.h1
          refine regionC (fun w' => w'.cell? (x.add Q) = some (.int .i64 P) ∧ w'.heap[W.heap.size]? = some (.cells #[.int .i64 k, .int .i64 a, .int .i64 b, .int .i64 m, .int .i64 kh, .int .i64 kw, .int .i64 sh, .int .i64 sw, .int .i64 tp, .int .i64 lf, .int .i64 bt, .int .i64 rt, .slice wa lw wc, .slice ba lb bc, .int .i64 sm, .int .i64 ss, .int .i64 um, .int .i64 us, .int .i64 z, .int .i64 p, .int .i64 lo, .int .i64 hi, .int .i64 h, .int .i64 w, .int .i64 (cn : Int), .int .i64 H, .int .i64 V, .int .i64 C] 41 (0, 0))) (by kernel_rfl) ?_
          obtain ⟨wd, hwd⟩ : ∃ wd, w6.drew = wd := ⟨_, rfl⟩
          have HCl : Hid (wd.cell? (x.add Q) = some (.int .i64 P) ∧ wd.heap[W.heap.size]? = some (.cells #[.int .i64 k, .int .i64 a, .int .i64 b, .int .i64 m, .int .i64 kh, .int .i64 kw, .int .i64 sh, .int .i64 sw, .int .i64 tp, .int .i64 lf, .int .i64 bt, .int .i64 rt, .slice wa lw wc, .slice ba lb bc, .int .i64 sm, .int .i64 ss, .int .i64 um, .int .i64 us, .int .i64 z, .int .i64 p, .int .i64 lo, .int .i64 hi, .int .i64 h, .int .i64 w, .int .i64 (cn : Int), .int .i64 H, .int .i64 V, .int .i64 C] 41 (0, 0))) := by unfold Hid; rw [← hwd]; exact ⟨hcx, hG⟩
          have HD : Hid (Below w6.heap.size w6 wd) := by unfold Hid; rw [← hwd]; exact (Below.refl _ _).drew
          have hGd : wd.heap[w5.heap.size]? = some (.cells #[.int .i64 WG, .int .i64 (-1)] 61 (0, 0)) := by rw [← hwd]; exact hG1
          rw [hwd]
          clear hwd hG hG1 c1 f1 c2 f2
          refine takeC 0 (v := .slice (some x) N tc) rfl rfl (by kernel_rfl) (by kernel_rfl) (by kernel_rfl) (fun _ _ _ h => h) (fun _ => rfl) rfl (fun w' hw' => by go_simp) ?_
          refine takeC 1 (v := .int .i64 (Q : Int)) rfl rfl (by kernel_rfl) (by kernel_rfl) (by kernel_rfl) (fun _ _ _ h => h) (fun _ => rfl) rfl (fun w' hw' => by go_simp) ?_
          refine takeC 2 (v := .pointer (some (x.add Q))) rfl rfl (by kernel_rfl) (by kernel_rfl) (by kernel_rfl) (fun _ _ _ h => h) (fun _ => rfl) rfl (fun w' hw' => by go_simp) ?_
          refine takeC 3 (v := .int .i64 P) rfl rfl (by kernel_rfl) (by kernel_rfl) (by kernel_rfl) (fun _ _ _ h => h) (fun _ => rfl) rfl (fun w' hw' => by have hc := hw'.1; go_simp) ?_
          refine takeC 4 (v := .pointer (some ⟨W.heap.size, 22, none⟩)) rfl rfl (by kernel_rfl) (by kernel_rfl) (by kernel_rfl) (fun _ _ _ h => h) (fun _ => rfl) rfl (fun w' hw' => by go_simp) ?_
          refine takeC 5 (v := .pointer (some ⟨W.heap.size, 24, none⟩)) rfl rfl (by kernel_rfl) (by kernel_rfl) (by kernel_rfl) (fun _ _ _ h => h) (fun _ => rfl) rfl (fun w' hw' => by go_simp) ?_
          refine takeC 6 (v := .int .i64 (cn : Int)) rfl rfl (by kernel_rfl) (by kernel_rfl) (by kernel_rfl) (fun _ _ _ h => h) (fun _ => rfl) rfl (fun w' hw' => by have hc := (cells_at hw'.2).1 24; go_simp) ?_
          refine takeC 7 (v := .int .i64 PC) rfl rfl (by kernel_rfl) (by kernel_rfl) (by kernel_rfl) (fun _ _ _ h => h) (fun _ => rfl) rfl (fun w' hw' => by go_simp; try (rw [IntKind.wrap_i64]; omega)) ?_
          refine takeC 8 (v := .int .i64 D) rfl rfl (by kernel_rfl) (by kernel_rfl) (by kernel_rfl) (fun _ _ _ h => h) (fun _ => rfl) rfl (fun w' hw' => by go_simp) ?_
          refine takeC 9 (v := .int .i64 (PC + D)) rfl rfl (by kernel_rfl) (by kernel_rfl) (by kernel_rfl) (fun _ _ _ h => h) (fun _ => rfl) rfl (fun w' hw' => by go_simp; try (rw [IntKind.wrap_i64]; omega)) ?_
          refine takeC 10 (v := .pointer (some ⟨w5.heap.size, 1, none⟩)) rfl rfl (by kernel_rfl) (by kernel_rfl) (by kernel_rfl) (fun _ _ _ h => h) (fun _ => rfl) rfl (fun w' hw' => by go_simp) ?_
          have g1 : wd.cell? ⟨w5.heap.size, 1, none⟩ = some (.int .i64 (-1)) := (cells_at hGd).1 1
          have g2 : wd.frozen? ⟨w5.heap.size, 1, none⟩ = false := (cells_at hGd).2.1 1
          refine stepC 11 HCl.out (by kernel_rfl) rfl (fun K hK => step_wp rfl ?_)
          go_simp
          refine hK _ _ ?_
          clear hK K g1 g2
          have hGs : Hid ((wd.setCell ⟨w5.heap.size, 1, none⟩ (.int .i64 (PC + D))).heap[w5.heap.size]? = some (.cells #[.int .i64 WG, .int .i64 (PC + D)] 61 (0, 0))) := heap_setCell_at hGd
          have hD6 : Hid (Below w2.heap.size w2 (wd.setCell ⟨w5.heap.size, 1, none⟩ (.int .i64 (PC + D)))) := (B5.out.trans (HD.out.mono B5.out.size)).setCell (p := ⟨w5.heap.size, 1, none⟩) hz5 _
          have HCs : Hid ((wd.setCell ⟨w5.heap.size, 1, none⟩ (.int .i64 (PC + D))).cell? (x.add Q) = some (.int .i64 P) ∧ (wd.setCell ⟨w5.heap.size, 1, none⟩ (.int .i64 (PC + D))).heap[W.heap.size]? = some (.cells #[.int .i64 k, .int .i64 a, .int .i64 b, .int .i64 m, .int .i64 kh, .int .i64 kw, .int .i64 sh, .int .i64 sw, .int .i64 tp, .int .i64 lf, .int .i64 bt, .int .i64 rt, .slice wa lw wc, .slice ba lb bc, .int .i64 sm, .int .i64 ss, .int .i64 um, .int .i64 us, .int .i64 z, .int .i64 p, .int .i64 lo, .int .i64 hi, .int .i64 h, .int .i64 w, .int .i64 (cn : Int), .int .i64 H, .int .i64 V, .int .i64 C] 41 (0, 0))) := by
            refine ⟨?_, ?_⟩
            · have hb7 : Below w2.heap.size wd (wd.setCell ⟨w5.heap.size, 1, none⟩ (.int .i64 (PC + D))) := (Below.refl _ wd).setCell (p := ⟨w5.heap.size, 1, none⟩) hz5 _
              exact (hb7.cell (by rw [add_block]; exact hxb)).trans HCl.out.1
            · rw [Below.heap_setCell _ _ _ _ (show W.heap.size ≠ w5.heap.size by omega)]
              exact HCl.out.2
          have HO6 : Hid (OTm (wd.setCell ⟨w5.heap.size, 1, none⟩ (.int .i64 (PC + D))) w2.heap.size (.slice va y vc) (tmL k (cn : Int) ch h w kw t u st zs y)) := otm_other (HO5.out.below HD.out) HOn.out
          refine doneC HCs.out (by kernel_rfl) ?_ _
          obtain ⟨w7, hw7⟩ : ∃ w7, wd.setCell ⟨w5.heap.size, 1, none⟩ (.int .i64 (PC + D)) = w7 := ⟨_, rfl⟩
          rw [hw7] at hGs hD6 HO6 ⊢
          have hz7 : w5.heap.size < w7.heap.size := lt_of_heap hGs.out
          obtain ⟨c1, f1, z1'⟩ := cells_at hGs.out
          clear hw7 HCs HCl HD hGd hcx
          go_wp2_with (at_builtin; refine wpList_apT rfl (.tmp 86) (.tmp 88) rfl w2.heap.size _ _ [(WG, PC + D)] rfl (HO6.out.below (bal w7 _)) w7.heap.size 1 1 rfl rfl (term_one w7 _ _) HLn.out (by simp; omega) ?_; intro v8 w8 own8 gr8; have B8 : Hid (Below w2.heap.size w2 w8) := (HO6.out.below (bal w7 _)).grow (hD6.out.alloc hD6.out.size _) gr8 (by simp; omega))
          go_roundw
          case rel => exact ⟨y + 1, by omega, by go_num, by rw [HS.out]; exact own8, B8.out⟩
          case measure => simp [intOf]; omega
      · have hstN := HST.out.2 k2
        have k2' : (k == 2) = false := by simp [k2]
        have hQ : y < N := by omega
        obtain ⟨D, hDe⟩ : ∃ D : Int, ch - 1 = D := ⟨_, rfl⟩
        have hD : 0 ≤ D ∧ D ≤ 1024 := by omega
        have HP : Hid (plA k (cn : Int) ch h w kw t u y = cov (cn : Int) (tpc h w kw t u (y : Int)) D) := by unfold Hid plA; rw [if_neg k1, if_neg k2, hDe]
        clear hstN HST k2
        go_upto_region 16 with fail
        have s4 := s3
        have HO4 : Hid (OTm _ _ _ _) := HO.out
        have Hb4 : Hid (Below w2.heap.size w2 _) := Hb.out
        have hbz4 := Hb4.out.size
        clear c1 f1 z1 hb s3 Hb HO
        obtain ⟨P, hPe⟩ : ∃ P, tpc h w kw t u (y : Int) = P := ⟨_, rfl⟩
        obtain ⟨x, rfl⟩ : ∃ x, ta = some x := by
          cases ta with
          | none => have h1 := Hrow.out.2.2.2.1 rfl; have h2 := Hrow.out.2.1; omega
          | some x => exact ⟨x, rfl⟩
        have hcx0 := Hrow.out.2.2.2.2 x rfl y hQ
        rw [covL_get _ _ _ _ _ hQ, hPe] at hcx0
        have hxb : x.block < w2.heap.size := by have := World.block_lt_of_cell? _ _ hcx0; rwa [add_block] at this
        have hPb1 := hPb.out (y : Int)
        rw [hPe] at HP hPb1
        obtain ⟨WG, hWG⟩ : ∃ WG, wgA k ch st zs y = WG := ⟨_, rfl⟩
        have hWg1 : Hid (∀ (w' : World), Below W.heap.size W w' → _) := fun w' hb => hWg.out w' y hlt hb
        rw [hWG] at hWg1
        have HS : Hid (tmL k (cn : Int) ch h w kw t u st zs (y + 1) = tmL k (cn : Int) ch h w kw t u st zs y ++ [(WG, cov (cn : Int) P D)]) := by unfold Hid; rw [tmL_succ, hWG, HP.out]
        have HLn : Hid ((tmL k (cn : Int) ch h w kw t u st zs y).length + 1 ≤ 1000000) := by unfold Hid; rw [tmL_len]; omega
        clear hPe hWG HP
        have h1 := s4.h1
        go_wp2_with (refine wpList_load_row rfl 41 (.tmp 3) rfl W.heap.size rfl 41 _ (0, 0) _ h1 Try.underlying41 rfl (by kernel_rfl) ?_)
        refine (hWg1.out _ s4.below).mono ?_
        rintro e w5 ⟨rfl, hb5⟩
        have s5 := (s4.call hb5).new (c := #[.int .i64 WG, .int .i64 (-1)]) (t := 61)
        have HOn : Hid ((Value.slice va y vc).ownBlock ≠ some w5.heap.size) := fun e => by have := (World.ownsRow.lt (HO4.out.below hb5) _ e).2; omega
        have HO5 : Hid (OTm _ _ _ _) := (HO4.out.below hb5).below (bal w5 (.cells #[.int .i64 WG, .int .i64 (-1)] 61))
        have hz5 : w2.heap.size ≤ w5.heap.size := Nat.le_trans hbz4 hb5.size
        have B5 : Hid (Below w2.heap.size w2 (w5.alloc (.cells #[.int .i64 WG, .int .i64 (-1)] 61))) := (Hb4.out.trans (hb5.mono hbz4)).alloc hz5 _
        have hWz : W.heap.size < w2.heap.size := lt_of_heap S2.out.h1
        obtain ⟨w6, hw6⟩ : ∃ w6, w5.alloc (.cells #[.int .i64 WG, .int .i64 (-1)] 61) = w6 := ⟨_, rfl⟩
        have hcx : w6.cell? (x.add y) = some (.int .i64 P) := by rw [← hw6]; exact (B5.out.cell (by rw [add_block]; exact hxb)).trans hcx0
        have hz6 : Hid (w6.heap.size = w5.heap.size + 1) := by unfold Hid; rw [← hw6]; simp
        clear hb5 h1 s4 HO4 Hb4 hcx0
        go_upto_region 17 with fail
        rw [hw6] at s5 HO5 B5
        try rw [hw6]
        clear hw6
        have S5 : Hid (St W w6 _) := s5
        obtain ⟨c1, f1, z1, c2, f2, z2, -⟩ := s5.rules
        clear s5
        by_cases hp : P = -1
        · subst hp
          have HC : Hid (cov (cn : Int) (-1) D = -1) := if_pos rfl
          rw [HC.out] at HS
          go_wp2_with (at_builtin; refine wpList_apT rfl (.tmp 86) (.tmp 88) rfl w2.heap.size _ _ [(WG, (-1 : Int))] rfl (HO5.out.below (bal w6 _)) w6.heap.size 1 1 rfl rfl (term_one w6 _ _) HLn.out (by simp; have := hz6.out; omega) ?_; intro v7 w7 own7 gr7; have B7 : Hid (Below w2.heap.size w2 w7) := (HO5.out.below (bal w6 _)).grow (B5.out.alloc B5.out.size _) gr7 (by simp; have := hz6.out; omega))
          go_roundw
          case rel => exact ⟨y + 1, by omega, by go_num, by rw [HS.out]; exact own7, B7.out⟩
          case measure => simp [intOf]; omega
        · have HC : Hid (cov (cn : Int) P D = P * (cn : Int) + D) := if_neg hp
          rw [HC.out] at HS
          have hp0 : 0 ≤ P := by omega
          have m1 : 0 ≤ P * (cn : Int) := Int.mul_nonneg (by omega) (by omega)
          have m2 : P * (cn : Int) ≤ 16384 * 1024 := Int.mul_le_mul hPb1.2 hcn1.2 (by omega) (by omega)
          obtain ⟨PC, hPC⟩ : ∃ PC, P * (cn : Int) = PC := ⟨_, rfl⟩
          rw [hPC] at m1 m2 HS
          go_upto_region 18 with fail
          have hG := S5.out.h2
          have hG1 := S5.out.h1
          refine regionC (fun w' => w'.cell? (x.add y) = some (.int .i64 P) ∧ w'.heap[W.heap.size]? = some (.cells #[.int .i64 k, .int .i64 a, .int .i64 b, .int .i64 m, .int .i64 kh, .int .i64 kw, .int .i64 sh, .int .i64 sw, .int .i64 tp, .int .i64 lf, .int .i64 bt, .int .i64 rt, .slice wa lw wc, .slice ba lb bc, .int .i64 sm, .int .i64 ss, .int .i64 um, .int .i64 us, .int .i64 z, .int .i64 p, .int .i64 lo, .int .i64 hi, .int .i64 h, .int .i64 w, .int .i64 (cn : Int), .int .i64 H, .int .i64 V, .int .i64 C] 41 (0, 0))) (by kernel_rfl) ?_
          obtain ⟨wd, hwd⟩ : ∃ wd, w6.drew = wd := ⟨_, rfl⟩
          have HCl : Hid (wd.cell? (x.add y) = some (.int .i64 P) ∧ wd.heap[W.heap.size]? = some (.cells #[.int .i64 k, .int .i64 a, .int .i64 b, .int .i64 m, .int .i64 kh, .int .i64 kw, .int .i64 sh, .int .i64 sw, .int .i64 tp, .int .i64 lf, .int .i64 bt, .int .i64 rt, .slice wa lw wc, .slice ba lb bc, .int .i64 sm, .int .i64 ss, .int .i64 um, .int .i64 us, .int .i64 z, .int .i64 p, .int .i64 lo, .int .i64 hi, .int .i64 h, .int .i64 w, .int .i64 (cn : Int), .int .i64 H, .int .i64 V, .int .i64 C] 41 (0, 0))) := by unfold Hid; rw [← hwd]; exact ⟨hcx, hG⟩
          have HD : Hid (Below w6.heap.size w6 wd) := by unfold Hid; rw [← hwd]; exact (Below.refl _ _).drew
          have hGd : wd.heap[w5.heap.size]? = some (.cells #[.int .i64 WG, .int .i64 (-1)] 61 (0, 0)) := by rw [← hwd]; exact hG1
          rw [hwd]
          clear hwd hG hG1 c1 f1 c2 f2
          refine takeC 0 (v := .slice (some x) N tc) rfl rfl (by kernel_rfl) (by kernel_rfl) (by kernel_rfl) (fun _ _ _ h => h) (fun _ => rfl) rfl (fun w' hw' => by go_simp) ?_
          refine takeC 1 (v := .int .i64 (y : Int)) rfl rfl (by kernel_rfl) (by kernel_rfl) (by kernel_rfl) (fun _ _ _ h => h) (fun _ => rfl) rfl (fun w' hw' => by go_simp) ?_
          refine takeC 2 (v := .pointer (some (x.add y))) rfl rfl (by kernel_rfl) (by kernel_rfl) (by kernel_rfl) (fun _ _ _ h => h) (fun _ => rfl) rfl (fun w' hw' => by go_simp) ?_
          refine takeC 3 (v := .int .i64 P) rfl rfl (by kernel_rfl) (by kernel_rfl) (by kernel_rfl) (fun _ _ _ h => h) (fun _ => rfl) rfl (fun w' hw' => by have hc := hw'.1; go_simp) ?_
          refine takeC 4 (v := .pointer (some ⟨W.heap.size, 22, none⟩)) rfl rfl (by kernel_rfl) (by kernel_rfl) (by kernel_rfl) (fun _ _ _ h => h) (fun _ => rfl) rfl (fun w' hw' => by go_simp) ?_
          refine takeC 5 (v := .pointer (some ⟨W.heap.size, 24, none⟩)) rfl rfl (by kernel_rfl) (by kernel_rfl) (by kernel_rfl) (fun _ _ _ h => h) (fun _ => rfl) rfl (fun w' hw' => by go_simp) ?_
          refine takeC 6 (v := .int .i64 (cn : Int)) rfl rfl (by kernel_rfl) (by kernel_rfl) (by kernel_rfl) (fun _ _ _ h => h) (fun _ => rfl) rfl (fun w' hw' => by have hc := (cells_at hw'.2).1 24; go_simp) ?_
          refine takeC 7 (v := .int .i64 PC) rfl rfl (by kernel_rfl) (by kernel_rfl) (by kernel_rfl) (fun _ _ _ h => h) (fun _ => rfl) rfl (fun w' hw' => by go_simp; try (rw [IntKind.wrap_i64]; omega)) ?_
          refine takeC 8 (v := .int .i64 D) rfl rfl (by kernel_rfl) (by kernel_rfl) (by kernel_rfl) (fun _ _ _ h => h) (fun _ => rfl) rfl (fun w' hw' => by go_simp) ?_
          refine takeC 9 (v := .int .i64 (PC + D)) rfl rfl (by kernel_rfl) (by kernel_rfl) (by kernel_rfl) (fun _ _ _ h => h) (fun _ => rfl) rfl (fun w' hw' => by go_simp; try (rw [IntKind.wrap_i64]; omega)) ?_
          refine takeC 10 (v := .pointer (some ⟨w5.heap.size, 1, none⟩)) rfl rfl (by kernel_rfl) (by kernel_rfl) (by kernel_rfl) (fun _ _ _ h => h) (fun _ => rfl) rfl (fun w' hw' => by go_simp) ?_
          have g1 : wd.cell? ⟨w5.heap.size, 1, none⟩ = some (.int .i64 (-1)) := (cells_at hGd).1 1
          have g2 : wd.frozen? ⟨w5.heap.size, 1, none⟩ = false := (cells_at hGd).2.1 1
          refine stepC 11 HCl.out (by kernel_rfl) rfl (fun K hK => step_wp rfl ?_)
          go_simp
          refine hK _ _ ?_
          clear hK K g1 g2
          have hGs : Hid ((wd.setCell ⟨w5.heap.size, 1, none⟩ (.int .i64 (PC + D))).heap[w5.heap.size]? = some (.cells #[.int .i64 WG, .int .i64 (PC + D)] 61 (0, 0))) := heap_setCell_at hGd
          have hD6 : Hid (Below w2.heap.size w2 (wd.setCell ⟨w5.heap.size, 1, none⟩ (.int .i64 (PC + D)))) := (B5.out.trans (HD.out.mono B5.out.size)).setCell (p := ⟨w5.heap.size, 1, none⟩) hz5 _
          have HCs : Hid ((wd.setCell ⟨w5.heap.size, 1, none⟩ (.int .i64 (PC + D))).cell? (x.add y) = some (.int .i64 P) ∧ (wd.setCell ⟨w5.heap.size, 1, none⟩ (.int .i64 (PC + D))).heap[W.heap.size]? = some (.cells #[.int .i64 k, .int .i64 a, .int .i64 b, .int .i64 m, .int .i64 kh, .int .i64 kw, .int .i64 sh, .int .i64 sw, .int .i64 tp, .int .i64 lf, .int .i64 bt, .int .i64 rt, .slice wa lw wc, .slice ba lb bc, .int .i64 sm, .int .i64 ss, .int .i64 um, .int .i64 us, .int .i64 z, .int .i64 p, .int .i64 lo, .int .i64 hi, .int .i64 h, .int .i64 w, .int .i64 (cn : Int), .int .i64 H, .int .i64 V, .int .i64 C] 41 (0, 0))) := by
            refine ⟨?_, ?_⟩
            · have hb7 : Below w2.heap.size wd (wd.setCell ⟨w5.heap.size, 1, none⟩ (.int .i64 (PC + D))) := (Below.refl _ wd).setCell (p := ⟨w5.heap.size, 1, none⟩) hz5 _
              exact (hb7.cell (by rw [add_block]; exact hxb)).trans HCl.out.1
            · rw [Below.heap_setCell _ _ _ _ (show W.heap.size ≠ w5.heap.size by omega)]
              exact HCl.out.2
          have HO6 : Hid (OTm (wd.setCell ⟨w5.heap.size, 1, none⟩ (.int .i64 (PC + D))) w2.heap.size (.slice va y vc) (tmL k (cn : Int) ch h w kw t u st zs y)) := otm_other (HO5.out.below HD.out) HOn.out
          refine doneC HCs.out (by kernel_rfl) ?_ _
          obtain ⟨w7, hw7⟩ : ∃ w7, wd.setCell ⟨w5.heap.size, 1, none⟩ (.int .i64 (PC + D)) = w7 := ⟨_, rfl⟩
          rw [hw7] at hGs hD6 HO6 ⊢
          have hz7 : w5.heap.size < w7.heap.size := lt_of_heap hGs.out
          obtain ⟨c1, f1, z1'⟩ := cells_at hGs.out
          clear hw7 HCs HCl HD hGd hcx
          go_wp2_with (at_builtin; refine wpList_apT rfl (.tmp 86) (.tmp 88) rfl w2.heap.size _ _ [(WG, PC + D)] rfl (HO6.out.below (bal w7 _)) w7.heap.size 1 1 rfl rfl (term_one w7 _ _) HLn.out (by simp; omega) ?_; intro v8 w8 own8 gr8; have B8 : Hid (Below w2.heap.size w2 w8) := (HO6.out.below (bal w7 _)).grow (hD6.out.alloc hD6.out.size _) gr8 (by simp; omega))
          go_roundw
          case rel => exact ⟨y + 1, by omega, by go_num, by rw [HS.out]; exact own8, B8.out⟩
          case measure => simp [intOf]; omega
    · obtain rfl : y = st := by omega
      have hS1 := S2.out.below
      go_wp2
      go_ret
      exact ⟨⟨_, rfl, HO.out.base hS1.size⟩, hS1.trans (hb.mono hS1.size)⟩
end Go.Proofs.Ytdknofbnhjdfjaa

/- The document's Terms, of whatever kind. -/
namespace Go.Proofs.Ytdknofbnhjdfjaa
open Go.ChangeShapes Go.WideShapes Go.ChangeAt Go.RowKit
set_option linter.unusedVariables false
/-- The document's Terms of an op that is there. -/
theorem rterms_any (k a b m kh kw sh sw tp lf bt rt : Int) (wa : Option Addr) (lw wc : Nat) (ba : Option Addr) (lb bc : Nat) (sm ss um us z p lo hi h w c H V C : Int) (W : World) (zs : List Int) (hZ : IRow .i16 W wa lw wc zs) (s : Sit k kh kw sh sw tp lf bt rt h w c H V C lw lb) (ch at' : Int) (hch : 1 ≤ ch ∧ ch ≤ C) (hat : 0 ≤ at' ∧ at' < H * V) :
    Calls Try.prog 50 #[.agg #[.int .i64 k, .int .i64 a, .int .i64 b, .int .i64 m, .int .i64 kh, .int .i64 kw, .int .i64 sh, .int .i64 sw, .int .i64 tp, .int .i64 lf, .int .i64 bt, .int .i64 rt, .slice wa lw wc, .slice ba lb bc, .int .i64 sm, .int .i64 ss, .int .i64 um, .int .i64 us, .int .i64 z, .int .i64 p, .int .i64 lo, .int .i64 hi, .int .i64 h, .int .i64 w, .int .i64 c, .int .i64 H, .int .i64 V, .int .i64 C], .int .i64 ch, .int .i64 at'] W fun e w' => (∃ v, e = .returned v ∧ OTm w' W.heap.size v (siL k kh kw sh sw tp lf bt rt h w c ch at' zs)) ∧ Below W.heap.size W w' := by
  obtain ⟨st, hst⟩ : ∃ st : Nat, stR k kh kw h w c = (st : Int) := ⟨(stR k kh kw h w c).toNat, by have := s.2.2.2.2.2.2.2.2.1; omega⟩
  unfold siL
  rw [hst, Int.toNat_natCast]
  by_cases k1 : k = 1
  · subst k1
    exact rterms_1 a b m kh kw sh sw tp lf bt rt wa lw wc ba lb bc sm ss um us z p lo hi h w c H V C W zs hZ s ch at' _ _ hch st hst
  · obtain ⟨cn, rfl⟩ : ∃ cn : Nat, c = (cn : Int) := ⟨c.toNat, by have := (vS_yes s.2.1).2.2.1; omega⟩
    have hou := s.2.2.2.1 (by have := s.1; omega)
    have hcc : (coR h w (cn : Int) kh kw sh sw tp lf bt rt at').2.2 = 0 := by
      unfold coR
      rw [hou]
      simp only
      rw [if_pos trivial, if_pos hat]
    exact rterms_w k a b m kh kw sh sw tp lf bt rt wa lw wc ba lb bc sm ss um us z p lo hi h w cn H V C W zs hZ s k1 ch at' _ _ hch (by rw [← hcc]) st hst
end Go.Proofs.Ytdknofbnhjdfjaa

/- The document's Value, Sum and Sums of layers 10 and 11. -/
namespace Go.Proofs.Ytdknofbnhjdfjaa
open Go.ChangeShapes Go.WideShapes Go.ChangeAt Go.RowKit
set_option linter.unusedVariables false
set_option maxRecDepth 100000 in
set_option maxHeartbeats 2000000 in
theorem rvalue_any (k a b m kh kw sh sw tp lf bt rt : Int) (wa : Option Addr) (lw wc : Nat) (ba : Option Addr) (lb bc : Nat) (sm ss um us z p lo hi h w c H V C : Int) (A1 A2 : Int) (W : World) (ad : Option Addr) (n cap : Nat) (xs : List Int) (hX : IRow .i8 W ad n cap xs) (hp : I8 p) (h1 : -32768 ≤ A1 ∧ A1 ≤ 32767) (h2 : A2 = -1 ∨ (0 ≤ A2 ∧ A2 < (n : Int))) :
    Calls Try.prog 51 #[.agg #[.int .i64 k, .int .i64 a, .int .i64 b, .int .i64 m, .int .i64 kh, .int .i64 kw, .int .i64 sh, .int .i64 sw, .int .i64 tp, .int .i64 lf, .int .i64 bt, .int .i64 rt, .slice wa lw wc, .slice ba lb bc, .int .i64 sm, .int .i64 ss, .int .i64 um, .int .i64 us, .int .i64 z, .int .i64 p, .int .i64 lo, .int .i64 hi, .int .i64 h, .int .i64 w, .int .i64 c, .int .i64 H, .int .i64 V, .int .i64 C], .agg #[.int .i64 A1, .int .i64 A2], .slice ad n cap] W fun e w' => e = .returned (.int .i64 (smT p xs (A1, A2))) ∧ Below W.heap.size W w' := by
  have s0 := ((St.start W).new (c := #[.int .i64 k, .int .i64 a, .int .i64 b, .int .i64 m, .int .i64 kh, .int .i64 kw, .int .i64 sh, .int .i64 sw, .int .i64 tp, .int .i64 lf, .int .i64 bt, .int .i64 rt, .slice wa lw wc, .slice ba lb bc, .int .i64 sm, .int .i64 ss, .int .i64 um, .int .i64 us, .int .i64 z, .int .i64 p, .int .i64 lo, .int .i64 hi, .int .i64 h, .int .i64 w, .int .i64 c, .int .i64 H, .int .i64 V, .int .i64 C]) (t := 41)).new (c := #[.int .i64 A1, .int .i64 A2]) (t := 61)
  simp only [World.size_alloc] at s0
  obtain ⟨c1, f1, z1, c2, f2, z2, -⟩ := s0.rules
  have S0 : Hid (St W _ _) := s0
  have hb := smT_bd (t := (A1, A2)) hp hX.i8 h1
  by_cases neg : A2 < 0
  · have e : Hid (A1 * p = smT p xs (A1, A2)) := by unfold Hid smT; rw [if_pos neg]
    rw [← e.out] at hb ⊢
    obtain ⟨pp, hpp⟩ : ∃ pp, A1 * p = pp := ⟨_, rfl⟩
    rw [hpp] at hb ⊢
    clear hX h2 e s0
    go_enter Try.func51, Try.ntmps51
    go_wp2
    go_ret
    exact ⟨rfl, S0.out.below⟩
  · obtain ⟨j, rfl⟩ : ∃ j : Nat, A2 = (j : Int) := ⟨A2.toNat, by omega⟩
    have hj : j < n := by omega
    obtain ⟨x, u, rfl, hu, hw8, hz, -⟩ := (hX.below S0.out.below).at hj
    obtain ⟨u1, u2⟩ := wf_i8 hw8
    have e : Hid (A1 * u = smT p xs (A1, (j : Int))) := by unfold Hid smT; simp only; rw [if_neg (by omega), Int.toNat_natCast, List.getD_eq_getElem?_getD, hz]; rfl
    rw [← e.out] at hb ⊢
    obtain ⟨pp, hpp⟩ : ∃ pp, A1 * u = pp := ⟨_, rfl⟩
    rw [hpp] at hb ⊢
    have hwp : IntKind.i64.wrap pp = pp := w64 (by omega)
    clear hX h2 e s0 hz hw8
    go_enter Try.func51, Try.ntmps51
    go_wp2
    go_quiet (fail)
    go_wp2
    go_ret
    exact ⟨rfl, btr S0.out.below (dbel _ _)⟩
set_option maxRecDepth 100000 in
set_option maxHeartbeats 4000000 in
theorem rsum_any (k a b m kh kw sh sw tp lf bt rt : Int) (wa : Option Addr) (lw wc : Nat) (ba : Option Addr) (lb bc : Nat) (sm ss um us z p lo hi h w c H V C : Int) (W : World) (s : Sit k kh kw sh sw tp lf bt rt h w c H V C lw lb) (zs bs : List Int) (hZ : IRow .i16 W wa lw wc zs) (hB : IRow .i32 W ba lb bc bs) (ad : Option Addr) (n cap : Nat) (xs : List Int) (hX : IRow .i8 W ad n cap xs) (hn : (n : Int) = h * w * c) (hp : I8 p) (ch at' : Int) (hch : 1 ≤ ch ∧ ch ≤ C) (hat : 0 ≤ at' ∧ at' < H * V) :
    Calls Try.prog 27 #[.agg #[.int .i64 k, .int .i64 a, .int .i64 b, .int .i64 m, .int .i64 kh, .int .i64 kw, .int .i64 sh, .int .i64 sw, .int .i64 tp, .int .i64 lf, .int .i64 bt, .int .i64 rt, .slice wa lw wc, .slice ba lb bc, .int .i64 sm, .int .i64 ss, .int .i64 um, .int .i64 us, .int .i64 z, .int .i64 p, .int .i64 lo, .int .i64 hi, .int .i64 h, .int .i64 w, .int .i64 c, .int .i64 H, .int .i64 V, .int .i64 C], .int .i64 ch, .int .i64 at', .slice ad n cap] W fun e w' => e = .returned (.int .i64 (suA k kh kw sh sw tp lf bt rt h w c p zs bs xs ch at')) ∧ Below W.heap.size W w' := by
  have HBi : Hid (∀ (w' : World), Below W.heap.size W w' → _) := fun w' hb => rbias_any k a b m kh kw sh sw tp lf bt rt wa lw wc ba lb bc sm ss um us z p lo hi h w c H V C w' bs (hB.below hb) s ch hch
  have HTe : Hid (∀ (w' : World), Below W.heap.size W w' → _) := fun w' hb => rterms_any k a b m kh kw sh sw tp lf bt rt wa lw wc ba lb bc sm ss um us z p lo hi h w c H V C w' zs (hZ.below hb) s ch at' hch hat
  obtain ⟨hl, ht⟩ := siL_facts s hZ.2.2.2.1 hch at'
  have hb0 := biA_bd (k := k) (ch := ch) hB.2.2.2.1
  have HVa : Hid (∀ (w' : World), Below W.heap.size W w' → ∀ A1 A2, (-32768 ≤ A1 ∧ A1 ≤ 32767) → (A2 = -1 ∨ (0 ≤ A2 ∧ A2 < (n : Int))) → _) := fun w' hb A1 A2 h1 h2 => rvalue_any k a b m kh kw sh sw tp lf bt rt wa lw wc ba lb bc sm ss um us z p lo hi h w c H V C A1 A2 w' ad n cap xs (hX.below hb) hp h1 h2
  unfold suA
  obtain ⟨TL, hTL⟩ : ∃ TL, siL k kh kw sh sw tp lf bt rt h w c ch at' zs = TL := ⟨_, rfl⟩
  obtain ⟨bi, hbi⟩ : ∃ bi, biA k ch bs = bi := ⟨_, rfl⟩
  rw [hTL] at HTe hl ht ⊢
  rw [hbi] at HBi hb0 ⊢
  rw [← hn] at ht
  have HT : Hid (∀ t ∈ TL, (-32768 ≤ t.1 ∧ t.1 ≤ 32767) ∧ (t.2 = -1 ∨ (0 ≤ t.2 ∧ t.2 < (n : Int)))) := ht
  have HX8 : Hid (∀ v ∈ xs, I8 v) := hX.i8
  have HP8 : Hid (I8 p) := hp
  have HLn : Hid (TL.length ≤ 512) := hl
  have s0 := (St.start W).new (c := #[.int .i64 k, .int .i64 a, .int .i64 b, .int .i64 m, .int .i64 kh, .int .i64 kw, .int .i64 sh, .int .i64 sw, .int .i64 tp, .int .i64 lf, .int .i64 bt, .int .i64 rt, .slice wa lw wc, .slice ba lb bc, .int .i64 sm, .int .i64 ss, .int .i64 um, .int .i64 us, .int .i64 z, .int .i64 p, .int .i64 lo, .int .i64 hi, .int .i64 h, .int .i64 w, .int .i64 c, .int .i64 H, .int .i64 V, .int .i64 C]) (t := 41)
  have S0 : Hid (St W _ _) := s0
  clear hZ hB hX s ht hl hTL hbi hp s0
  go_enter Try.func27, Try.ntmps27
  go_wp2_with (refine wpList_load_row rfl 41 (.tmp 4) rfl W.heap.size rfl 41 _ (0, 0) _ S0.out.h1 Try.underlying41 rfl (by kernel_rfl) ?_)
  refine Calls.mono (HBi.out _ S0.out.below) ?_
  rintro e w1 ⟨rfl, hb1⟩
  have S1 : Hid (St W w1 _) := S0.out.call hb1
  clear hb1 S0 HBi
  go_wp2_with (refine wpList_load_row rfl 41 (.tmp 4) rfl W.heap.size rfl 41 _ (0, 0) _ S1.out.h1 Try.underlying41 rfl (by kernel_rfl) ?_)
  refine Calls.mono (HTe.out _ S1.out.below) ?_
  rintro e w2 ⟨⟨v, rfl, hO⟩, hb2⟩
  have S2 : Hid (St W w2 _) := S1.out.call hb2
  obtain ⟨va, vc, hve, v1, v2, v3⟩ := hO.tv
  subst hve
  unfold maxLen at v2
  obtain ⟨N, hN⟩ : ∃ N, TL.length = N := ⟨_, rfl⟩
  rw [hN] at v1 v3 HLn ⊢
  have HNl : Hid (TL.length = N) := hN
  have HV : Hid (0 < N → _) := v3
  clear hb2 hO S1 HTe v3 hN
  go_wp2
  go_loopw [9, 20] (fun sm' i wr => ∃ y : Nat, y ≤ N ∧ i = .int .i64 y ∧ sm' = .int .i64 (bi + smV p xs (TL.take y)) ∧ Below w2.heap.size w2 wr) (fun _ i _ => N - (intOf i).toNat)
  case atStart => exact ⟨0, Nat.zero_le _, rfl, by simp [smV], Below.refl _ _⟩
  case round =>
    obtain ⟨y, hy, rfl, rfl, hb⟩ := hrel
    have SR : Hid (St W wr _) := S2.out.call hb
    by_cases hlt : y < N
    · obtain ⟨g, rfl, hc⟩ := HV.out (by omega)
      obtain ⟨q1, q2⟩ := TV.at hc (show y < TL.length by rw [HNl.out]; exact hlt)
      obtain ⟨A1, A2, hA⟩ : ∃ A1 A2, TL.getD y (0, 0) = (A1, A2) := ⟨_, _, rfl⟩
      rw [hA] at q1 q2
      simp only at q1 q2
      have hmem : (A1, A2) ∈ TL := by
        rw [← hA, List.getD_eq_getElem?_getD, List.getElem?_eq_getElem (by rw [HNl.out]; exact hlt)]
        exact List.getElem_mem _
      obtain ⟨hw1, hat2⟩ := HT.out _ hmem
      have hS := smV_take (p := p) (x := xs) (show y < TL.length by rw [HNl.out]; exact hlt) hA
      have b1 := smV_bd HP8.out HX8.out (TL.take y) (take_mem (fun t ht => (HT.out t ht).1) y)
      have b2 := smT_bd HP8.out HX8.out (t := (A1, A2)) hw1
      have hty : (TL.take y).length ≤ 512 := by rw [List.length_take]; have := HLn.out; omega
      have p1 := (hb.cell (World.block_lt_of_cell? w2 _ q1)).trans q1
      have p2' := (hb.cell (World.block_lt_of_cell? w2 _ q2)).trans q2
      have HC : Hid (∀ (w' : World), Below W.heap.size W w' → _) := fun w' hb => HVa.out w' hb A1 A2 hw1 hat2
      obtain ⟨sv, hsv⟩ : ∃ sv, smV p xs (TL.take y) = sv := ⟨_, rfl⟩
      obtain ⟨tv, htv⟩ : ∃ tv, smT p xs (A1, A2) = tv := ⟨_, rfl⟩
      rw [hsv] at b1 hS ⊢
      rw [htv] at b2 hS HC
      have b1' : -2147483648 ≤ sv ∧ sv ≤ 2147483648 := by omega
      have HS : Hid (smV p xs (TL.take (y + 1)) = sv + tv) := hS
      have hbox := heap_alloc_old wr (.cells #[.int .i64 A1, .int .i64 A2] 61) (lt_of_heap SR.out.h1)
      rw [SR.out.h1] at hbox
      have Hbox : Hid ((wr.alloc (.cells #[.int .i64 A1, .int .i64 A2] 61)).heap[W.heap.size]? = some (.cells #[.int .i64 k, .int .i64 a, .int .i64 b, .int .i64 m, .int .i64 kh, .int .i64 kw, .int .i64 sh, .int .i64 sw, .int .i64 tp, .int .i64 lf, .int .i64 bt, .int .i64 rt, .slice wa lw wc, .slice ba lb bc, .int .i64 sm, .int .i64 ss, .int .i64 um, .int .i64 us, .int .i64 z, .int .i64 p, .int .i64 lo, .int .i64 hi, .int .i64 h, .int .i64 w, .int .i64 c, .int .i64 H, .int .i64 V, .int .i64 C] 41 (0, 0))) := hbox
      clear hS b1 q1 q2 hsv hmem hc hA HV htv hbox hw1 hat2
      go_wp2_with (refine wpList_load_row rfl 41 (.tmp 4) rfl W.heap.size rfl 41 _ (0, 0) _ Hbox.out Try.underlying41 rfl (by kernel_rfl) ?_)
      refine Calls.mono (HC.out _ (btr SR.out.below (bal _ _))) ?_
      rintro e w5 ⟨rfl, hb5⟩
      have Hb5 : Hid (Below w2.heap.size w2 w5) := btr hb (btr (bal _ _) hb5)
      clear hb5 hb p1 p2' SR Hbox HC
      go_wp2
      go_roundw
      case rel => exact ⟨y + 1, by omega, by go_num, by rw [HS.out, Int.add_assoc], Hb5.out⟩
      case measure => simp [intOf]; omega
    · obtain rfl : y = N := by omega
      have e : Hid (bi + smV p xs (TL.take y) = bi + smV p xs TL) := by unfold Hid; rw [← HNl.out, List.take_length]
      clear HV
      go_wp2
      go_ret
      exact ⟨ret1 e.out, SR.out.below⟩
set_option maxRecDepth 100000 in
set_option maxHeartbeats 8000000 in
theorem rsums_any (k a b m kh kw sh sw tp lf bt rt : Int) (wa : Option Addr) (lw wc : Nat) (ba : Option Addr) (lb bc : Nat) (sm ss um us z p lo hi h w c H V C : Int) (W : World) (s : Sit k kh kw sh sw tp lf bt rt h w c H V C lw lb) (zs bs : List Int) (hZ : IRow .i16 W wa lw wc zs) (hB : IRow .i32 W ba lb bc bs) (ad : Option Addr) (n cap : Nat) (xs : List Int) (hX : IRow .i8 W ad n cap xs) (hn : (n : Int) = h * w * c) (hp : I8 p) :
    Calls Try.prog 9 #[.agg #[.int .i64 k, .int .i64 a, .int .i64 b, .int .i64 m, .int .i64 kh, .int .i64 kw, .int .i64 sh, .int .i64 sw, .int .i64 tp, .int .i64 lf, .int .i64 bt, .int .i64 rt, .slice wa lw wc, .slice ba lb bc, .int .i64 sm, .int .i64 ss, .int .i64 um, .int .i64 us, .int .i64 z, .int .i64 p, .int .i64 lo, .int .i64 hi, .int .i64 h, .int .i64 w, .int .i64 c, .int .i64 H, .int .i64 V, .int .i64 C], .slice ad n cap] W fun e w' => (∃ v, e = .returned v ∧ Own .i64 2 w' W.heap.size v (suL k kh kw sh sw tp lf bt rt h w c C p zs bs xs (H * V * C).toNat)) ∧ Below W.heap.size W w' := by
  have HPo : Hid (∀ W', Calls Try.prog 26 #[.agg #[.int .i64 k, .int .i64 a, .int .i64 b, .int .i64 m, .int .i64 kh, .int .i64 kw, .int .i64 sh, .int .i64 sw, .int .i64 tp, .int .i64 lf, .int .i64 bt, .int .i64 rt, .slice wa lw wc, .slice ba lb bc, .int .i64 sm, .int .i64 ss, .int .i64 um, .int .i64 us, .int .i64 z, .int .i64 p, .int .i64 lo, .int .i64 hi, .int .i64 h, .int .i64 w, .int .i64 c, .int .i64 H, .int .i64 V, .int .i64 C]] W' fun e w' => e = .returned (.int .i64 (H * V)) ∧ Below W'.heap.size W' w') := fun W' => rpos_any k a b m kh kw sh sw tp lf bt rt wa lw wc ba lb bc sm ss um us z p lo hi h w c H V C W' s.2.2.1
  have HSm : Hid (∀ (w' : World), Below W.heap.size W w' → ∀ (ch at' : Int), (1 ≤ ch ∧ ch ≤ C) → (0 ≤ at' ∧ at' < H * V) → Calls Try.prog 27 #[.agg #[.int .i64 k, .int .i64 a, .int .i64 b, .int .i64 m, .int .i64 kh, .int .i64 kw, .int .i64 sh, .int .i64 sw, .int .i64 tp, .int .i64 lf, .int .i64 bt, .int .i64 rt, .slice wa lw wc, .slice ba lb bc, .int .i64 sm, .int .i64 ss, .int .i64 um, .int .i64 us, .int .i64 z, .int .i64 p, .int .i64 lo, .int .i64 hi, .int .i64 h, .int .i64 w, .int .i64 c, .int .i64 H, .int .i64 V, .int .i64 C], .int .i64 ch, .int .i64 at', .slice ad n cap] w' fun e w'' => e = .returned (.int .i64 (suA k kh kw sh sw tp lf bt rt h w c p zs bs xs ch at')) ∧ Below w'.heap.size w' w'') :=
    fun w' hb ch at' hch hat => rsum_any k a b m kh kw sh sw tp lf bt rt wa lw wc ba lb bc sm ss um us z p lo hi h w c H V C w' s zs bs (hZ.below hb) (hB.below hb) ad n cap xs (hX.below hb) hn hp ch at' hch hat
  have HSb : Hid (∀ ch at' : Int, (1 ≤ ch ∧ ch ≤ C) → -4294967296 ≤ suA k kh kw sh sw tp lf bt rt h w c p zs bs xs ch at' ∧ suA k kh kw sh sw tp lf bt rt h w c p zs bs xs ch at' ≤ 4294967296) := fun ch at' hch => suA_bd s hZ.2.2.2.1 hB.2.2.2.1 hp hX.i8 hch at'
  obtain ⟨hH, hV, hC, -⟩ := vS_yes s.2.2.1
  have p3 := vS_bd s.2.2.1
  clear hZ hB hX hn s hp
  obtain ⟨CN, rfl⟩ : ∃ CN : Nat, C = (CN : Int) := ⟨C.toNat, by omega⟩
  obtain ⟨P, hP⟩ : ∃ P : Nat, H * V = (P : Int) := ⟨(H * V).toNat, by omega⟩
  rw [hP] at HPo HSm p3 ⊢
  obtain ⟨N, hN⟩ : ∃ N : Nat, (P : Int) * (CN : Int) = (N : Int) := ⟨P * CN, by rw [Int.natCast_mul]⟩
  have HNN : Hid (P * CN = N) := by
    have : ((P * CN : Nat) : Int) = (N : Int) := by rw [Int.natCast_mul]; exact hN
    unfold Hid; omega
  rw [hN] at p3 ⊢
  rw [Int.toNat_natCast]
  clear hN
  have s0 := (St.start W).new (c := #[.int .i64 k, .int .i64 a, .int .i64 b, .int .i64 m, .int .i64 kh, .int .i64 kw, .int .i64 sh, .int .i64 sw, .int .i64 tp, .int .i64 lf, .int .i64 bt, .int .i64 rt, .slice wa lw wc, .slice ba lb bc, .int .i64 sm, .int .i64 ss, .int .i64 um, .int .i64 us, .int .i64 z, .int .i64 p, .int .i64 lo, .int .i64 hi, .int .i64 h, .int .i64 w, .int .i64 c, .int .i64 H, .int .i64 V, .int .i64 (CN : Int)]) (t := 41)
  have S0 : Hid (St W _ [(W.heap.size, #[.int .i64 k, .int .i64 a, .int .i64 b, .int .i64 m, .int .i64 kh, .int .i64 kw, .int .i64 sh, .int .i64 sw, .int .i64 tp, .int .i64 lf, .int .i64 bt, .int .i64 rt, .slice wa lw wc, .slice ba lb bc, .int .i64 sm, .int .i64 ss, .int .i64 um, .int .i64 us, .int .i64 z, .int .i64 p, .int .i64 lo, .int .i64 hi, .int .i64 h, .int .i64 w, .int .i64 c, .int .i64 H, .int .i64 V, .int .i64 (CN : Int)], 41)]) := s0
  clear s0
  go_enter Try.func9, Try.ntmps9
  go_wp2_with fail
  have Ho0 : Hid (Own .i64 2 (W.alloc (.cells #[.int .i64 k, .int .i64 a, .int .i64 b, .int .i64 m, .int .i64 kh, .int .i64 kw, .int .i64 sh, .int .i64 sw, .int .i64 tp, .int .i64 lf, .int .i64 bt, .int .i64 rt, .slice wa lw wc, .slice ba lb bc, .int .i64 sm, .int .i64 ss, .int .i64 um, .int .i64 us, .int .i64 z, .int .i64 p, .int .i64 lo, .int .i64 hi, .int .i64 h, .int .i64 w, .int .i64 c, .int .i64 H, .int .i64 V, .int .i64 (CN : Int)] 41)) W.heap.size (.slice none 0 0) []) := own_none _ _ _ _
  go_loopw [5, 6] (fun v i wr => ∃ (y : Nat) (v1 : Value), v1 = v ∧ y ≤ P ∧ i = .int .i64 y ∧ Own .i64 2 wr W.heap.size v (suL k kh kw sh sw tp lf bt rt h w c CN p zs bs xs (y * CN)) ∧ St W wr [(W.heap.size, #[.int .i64 k, .int .i64 a, .int .i64 b, .int .i64 m, .int .i64 kh, .int .i64 kw, .int .i64 sh, .int .i64 sw, .int .i64 tp, .int .i64 lf, .int .i64 bt, .int .i64 rt, .slice wa lw wc, .slice ba lb bc, .int .i64 sm, .int .i64 ss, .int .i64 um, .int .i64 us, .int .i64 z, .int .i64 p, .int .i64 lo, .int .i64 hi, .int .i64 h, .int .i64 w, .int .i64 c, .int .i64 H, .int .i64 V, .int .i64 (CN : Int)], 41)]) (fun _ i _ => P - (intOf i).toNat)
  case atStart => exact ⟨0, _, rfl, Nat.zero_le _, rfl, by simpa [suL] using Ho0.out, S0.out⟩
  case round =>
    obtain ⟨y, v1, rfl, hy, rfl, hO, sr⟩ := hrel
    clear S0 Ho0
    have HO : Hid (Own .i64 2 wr W.heap.size v1 (suL k kh kw sh sw tp lf bt rt h w c CN p zs bs xs (y * CN))) := hO
    have SR : Hid (St W wr [(W.heap.size, #[.int .i64 k, .int .i64 a, .int .i64 b, .int .i64 m, .int .i64 kh, .int .i64 kw, .int .i64 sh, .int .i64 sw, .int .i64 tp, .int .i64 lf, .int .i64 bt, .int .i64 rt, .slice wa lw wc, .slice ba lb bc, .int .i64 sm, .int .i64 ss, .int .i64 um, .int .i64 us, .int .i64 z, .int .i64 p, .int .i64 lo, .int .i64 hi, .int .i64 h, .int .i64 w, .int .i64 c, .int .i64 H, .int .i64 V, .int .i64 (CN : Int)], 41)]) := sr
    clear hO sr
    go_wp2_with (refine wpList_load_row rfl 41 (.tmp 2) rfl W.heap.size rfl 41 _ (0, 0) _ SR.out.h1 Try.underlying41 rfl (by kernel_rfl) ?_)
    refine Calls.mono (HPo.out _) ?_
    rintro e w1 ⟨rfl, hb1⟩
    have S1 : Hid (St W w1 [(W.heap.size, #[.int .i64 k, .int .i64 a, .int .i64 b, .int .i64 m, .int .i64 kh, .int .i64 kw, .int .i64 sh, .int .i64 sw, .int .i64 tp, .int .i64 lf, .int .i64 bt, .int .i64 rt, .slice wa lw wc, .slice ba lb bc, .int .i64 sm, .int .i64 ss, .int .i64 um, .int .i64 us, .int .i64 z, .int .i64 p, .int .i64 lo, .int .i64 hi, .int .i64 h, .int .i64 w, .int .i64 c, .int .i64 H, .int .i64 V, .int .i64 (CN : Int)], 41)]) := SR.out.call hb1
    have O1 : Hid (Own .i64 2 w1 W.heap.size v1 (suL k kh kw sh sw tp lf bt rt h w c CN p zs bs xs (y * CN))) := HO.out.below hb1
    clear hb1 SR HO
    by_cases hlt : y < P
    · go_wp2
      go_loopw [5, 7] (fun v i wr => ∃ (d : Nat) (v2 : Value), v2 = v ∧ d ≤ CN ∧ i = .int .i64 ((d : Int) + 1) ∧ Own .i64 2 wr W.heap.size v (suL k kh kw sh sw tp lf bt rt h w c CN p zs bs xs (y * CN + d)) ∧ St W wr [(W.heap.size, #[.int .i64 k, .int .i64 a, .int .i64 b, .int .i64 m, .int .i64 kh, .int .i64 kw, .int .i64 sh, .int .i64 sw, .int .i64 tp, .int .i64 lf, .int .i64 bt, .int .i64 rt, .slice wa lw wc, .slice ba lb bc, .int .i64 sm, .int .i64 ss, .int .i64 um, .int .i64 us, .int .i64 z, .int .i64 p, .int .i64 lo, .int .i64 hi, .int .i64 h, .int .i64 w, .int .i64 c, .int .i64 H, .int .i64 V, .int .i64 (CN : Int)], 41)]) (fun _ i _ => CN + 1 - (intOf i).toNat)
      case atStart => exact ⟨0, _, rfl, Nat.zero_le _, rfl, O1.out, S1.out⟩
      case round =>
        obtain ⟨d, v2, rfl, hd, rfl, hO, sr⟩ := hrel
        clear O1 S1
        have HO : Hid (Own .i64 2 wr W.heap.size v2 (suL k kh kw sh sw tp lf bt rt h w c CN p zs bs xs (y * CN + d))) := hO
        have SR : Hid (St W wr [(W.heap.size, #[.int .i64 k, .int .i64 a, .int .i64 b, .int .i64 m, .int .i64 kh, .int .i64 kw, .int .i64 sh, .int .i64 sw, .int .i64 tp, .int .i64 lf, .int .i64 bt, .int .i64 rt, .slice wa lw wc, .slice ba lb bc, .int .i64 sm, .int .i64 ss, .int .i64 um, .int .i64 us, .int .i64 z, .int .i64 p, .int .i64 lo, .int .i64 hi, .int .i64 h, .int .i64 w, .int .i64 c, .int .i64 H, .int .i64 V, .int .i64 (CN : Int)], 41)]) := sr
        obtain ⟨c2, f2, z6, -⟩ := sr.rules
        clear hO sr
        by_cases hltd : d < CN
        · have hch : 1 ≤ (d : Int) + 1 ∧ (d : Int) + 1 ≤ (CN : Int) := by omega
          have HS := suL_succ k kh kw sh sw tp lf bt rt h w c (CN : Int) p zs bs xs (y * CN + d)
          obtain ⟨e1, e2⟩ := divmod_at (C := (CN : Int)) (q := y) (d := d) (by omega)
          rw [Int.natCast_add, Int.natCast_mul, e1, e2] at HS
          obtain ⟨b1, b2⟩ := HSb.out ((d : Int) + 1) (y : Int) hch
          have HC1 : Hid (∀ (w' : World), Below W.heap.size W w' → _) := fun w' hb => HSm.out w' hb ((d : Int) + 1) y hch ⟨by omega, by omega⟩
          obtain ⟨sv, hsv⟩ : ∃ sv, suA k kh kw sh sw tp lf bt rt h w c p zs bs xs ((d : Int) + 1) (y : Int) = sv := ⟨_, rfl⟩
          rw [hsv] at HC1 HS b1 b2
          have HSS : Hid (suL k kh kw sh sw tp lf bt rt h w c CN p zs bs xs (y * CN + d + 1) = suL k kh kw sh sw tp lf bt rt h w c CN p zs bs xs (y * CN + d) ++ [sv]) := HS
          have HLn : Hid (y * CN + d ≤ 16384) := by
            unfold Hid
            have q1 : (y + 1) * CN ≤ P * CN := Nat.mul_le_mul_right _ hlt
            rw [HNN.out, Nat.add_mul] at q1
            omega
          clear HS e1 e2 hsv
          obtain ⟨D, hD⟩ : ∃ D : Int, (d : Int) + 1 = D := ⟨_, rfl⟩
          rw [hD] at HC1 hch ⊢
          have HD : Hid ((d : Int) + 1 = D) := hD
          clear hD
          go_wp2_with (refine wpList_load_row rfl 41 (.tmp 2) rfl W.heap.size rfl 41 _ (0, 0) _ SR.out.h1 Try.underlying41 rfl (by kernel_rfl) ?_)
          refine Calls.mono (HC1.out _ SR.out.below) ?_
          rintro e w6 ⟨rfl, hb6⟩
          have S6 : Hid (St W w6 [(W.heap.size, #[.int .i64 k, .int .i64 a, .int .i64 b, .int .i64 m, .int .i64 kh, .int .i64 kw, .int .i64 sh, .int .i64 sw, .int .i64 tp, .int .i64 lf, .int .i64 bt, .int .i64 rt, .slice wa lw wc, .slice ba lb bc, .int .i64 sm, .int .i64 ss, .int .i64 um, .int .i64 us, .int .i64 z, .int .i64 p, .int .i64 lo, .int .i64 hi, .int .i64 h, .int .i64 w, .int .i64 c, .int .i64 H, .int .i64 V, .int .i64 (CN : Int)], 41)]) := SR.out.call hb6
          have O6 : Hid (Own .i64 2 w6 W.heap.size v2 (suL k kh kw sh sw tp lf bt rt h w c CN p zs bs xs (y * CN + d))) := HO.out.below hb6
          clear hb6 HC1 HO SR c2 f2
          go_wp2_with (at_builtin; refine wpList_app kt_i64 rfl (.tmp 21) (.tmp 27) rfl W.heap.size v2 (suL k kh kw sh sw tp lf bt rt h w c CN p zs bs xs (y * CN + d)) [sv] rfl (O6.out.alloc _) _ _ _ rfl (row_one .i64 2 w6 sv (mk_i64 (by omega))) (by rw [suL_len]; have := HLn.out; simp; omega) (by have := S6.out.size; simp; omega) ?_; intro v7 w7 own7 gr7 nn7; have S7 : Hid (St W w7 [(W.heap.size, #[.int .i64 k, .int .i64 a, .int .i64 b, .int .i64 m, .int .i64 kh, .int .i64 kw, .int .i64 sh, .int .i64 sw, .int .i64 tp, .int .i64 lf, .int .i64 bt, .int .i64 rt, .slice wa lw wc, .slice ba lb bc, .int .i64 sm, .int .i64 ss, .int .i64 um, .int .i64 us, .int .i64 z, .int .i64 p, .int .i64 lo, .int .i64 hi, .int .i64 h, .int .i64 w, .int .i64 c, .int .i64 H, .int .i64 V, .int .i64 (CN : Int)], 41)]) := (S6.out.skip (.cells #[.int .i64 sv] 2)).grow (O6.out.alloc _) gr7 (Nat.le_refl _) (by simp); have O7 : Hid (Own .i64 2 w7 W.heap.size v7 (suL k kh kw sh sw tp lf bt rt h w c CN p zs bs xs (y * CN + d + 1))) := (by rw [HSS.out]; exact own7); clear own7 gr7 nn7 S6 O6)
          go_roundw
          case rel => exact ⟨d + 1, _, rfl, by omega, by rw [← HD.out]; go_num, O7.out, S7.out⟩
          case measure => have := HD.out; simp [intOf]; omega
        · obtain rfl : d = CN := by omega
          have Ho2 : Hid (Own .i64 2 wr W.heap.size v2 (suL k kh kw sh sw tp lf bt rt h w c d p zs bs xs ((y + 1) * d))) := by
            have e : (y + 1) * d = y * d + d := by rw [Nat.add_mul, Nat.one_mul]
            unfold Hid
            rw [e]; exact HO.out
          clear HO
          go_wp2
          go_roundw
          case rel => exact ⟨y + 1, _, rfl, by omega, by go_num, Ho2.out, SR.out⟩
          case measure => simp [intOf]; omega
    · obtain rfl : y = P := by omega
      have HO2 : Hid (Own .i64 2 w1 W.heap.size v1 (suL k kh kw sh sw tp lf bt rt h w c CN p zs bs xs N)) := by rw [← HNN.out]; exact O1.out
      go_wp2
      go_ret
      exact ⟨⟨_, rfl, HO2.out⟩, S1.out.below⟩
end Go.Proofs.Ytdknofbnhjdfjaa
