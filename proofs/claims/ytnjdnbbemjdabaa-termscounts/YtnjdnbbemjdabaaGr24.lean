/- What the document's Terms returns, of an op with a window. The document's Terms, of whatever kind. What find of package terms returns of an op that is there. The op that is asked, with all that is known of it; what Length, Channels and Positions of package terms return. -/
import Derived.Test.YtnjdnbbemjdabaaGr15
import Derived.Test.YtnjdnbbemjdabaaGr22
import Derived.Test.YtnjdnbbemjdabaaGr23
/- What the document's Terms returns, of an op with a window. -/
namespace Go.Proofs.Ytnjdnbbemjdabaa
open Go.ChangeShapes Go.WideShapes Go.ChangeAt Go.RowKit
set_option linter.unusedVariables false
theorem covL_get (h w kw t u : Int) {n i : Nat} (hi : i < n) : (Nx.covL h w kw t u n).getD i 0 = tpc h w kw t u (i : Int) := by simp [Nx.covL, List.getD, hi, tpc]
theorem otm_other {w : World} {base B i : Nat} {v u : Value} {L : List (Int × Int)} (h : OTm w base v L) (hn : v.ownBlock ≠ some B) : OTm (w.setCell ⟨B, i, none⟩ u) base v L := by
  refine World.ownsRow.kept h (grown_set w B i u) ?_
  cases e : v.ownBlock with
  | none => exact .inl rfl
  | some b => exact .inr (fun q => hn (by rw [e, q]))
set_option maxRecDepth 100000 in
set_option maxHeartbeats 8000000 in
theorem rterms_w (k a b m kh kw sh sw tp lf bt rt : Int) (wa : Option Addr) (lw wc : Nat) (ba : Option Addr) (lb bc : Nat) (sm ss um us z p lo hi h w : Int) (cn : Nat) (H V C : Int) (W : World) (zs : List Int) (hZ : IRow .i16 W wa lw wc zs) (s : Sit k kh kw sh sw tp lf bt rt h w (cn : Int) H V C lw lb) (k1 : k ≠ 1) (ch at' t u : Int) (hch : 1 ≤ ch ∧ ch ≤ C) (hcc : coR h w (cn : Int) kh kw sh sw tp lf bt rt at' = (t, u, 0)) (st : Nat) (hst : stR k kh kw h w (cn : Int) = (st : Int)) :
    Calls Try.prog 17 #[.agg #[.int .i64 k, .int .i64 a, .int .i64 b, .int .i64 m, .int .i64 kh, .int .i64 kw, .int .i64 sh, .int .i64 sw, .int .i64 tp, .int .i64 lf, .int .i64 bt, .int .i64 rt, .slice wa lw wc, .slice ba lb bc, .int .i64 sm, .int .i64 ss, .int .i64 um, .int .i64 us, .int .i64 z, .int .i64 p, .int .i64 lo, .int .i64 hi, .int .i64 h, .int .i64 w, .int .i64 (cn : Int), .int .i64 H, .int .i64 V, .int .i64 C], .int .i64 ch, .int .i64 at'] W fun e w' => (∃ v, e = .returned v ∧ OTm w' W.heap.size v (tmL k (cn : Int) ch h w kw t u st zs st)) ∧ Below W.heap.size W w' := by
  have hLe : Hid (∀ W', Calls Try.prog 12 #[.agg #[.int .i64 k, .int .i64 a, .int .i64 b, .int .i64 m, .int .i64 kh, .int .i64 kw, .int .i64 sh, .int .i64 sw, .int .i64 tp, .int .i64 lf, .int .i64 bt, .int .i64 rt, .slice wa lw wc, .slice ba lb bc, .int .i64 sm, .int .i64 ss, .int .i64 um, .int .i64 us, .int .i64 z, .int .i64 p, .int .i64 lo, .int .i64 hi, .int .i64 h, .int .i64 w, .int .i64 (cn : Int), .int .i64 H, .int .i64 V, .int .i64 C]] W' fun e w' => e = .returned (.int .i64 st) ∧ Below W'.heap.size W' w') := fun W' => by rw [← hst]; exact rlen_any k a b m kh kw sh sw tp lf bt rt wa lw wc ba lb bc sm ss um us z p lo hi h w (cn : Int) H V C W' s
  have hWg : Hid (∀ (w' : World) (i : Nat), i < st → Below W.heap.size W w' → Calls Try.prog 30 #[.agg #[.int .i64 k, .int .i64 a, .int .i64 b, .int .i64 m, .int .i64 kh, .int .i64 kw, .int .i64 sh, .int .i64 sw, .int .i64 tp, .int .i64 lf, .int .i64 bt, .int .i64 rt, .slice wa lw wc, .slice ba lb bc, .int .i64 sm, .int .i64 ss, .int .i64 um, .int .i64 us, .int .i64 z, .int .i64 p, .int .i64 lo, .int .i64 hi, .int .i64 h, .int .i64 w, .int .i64 (cn : Int), .int .i64 H, .int .i64 V, .int .i64 C], .int .i64 ch, .int .i64 i] w' fun e w'' => e = .returned (.int .i64 (wgA k ch st zs i)) ∧ Below w'.heap.size w' w'') := fun w' i hj hb => by
    have := rwei_any k a b m kh kw sh sw tp lf bt rt wa lw wc ba lb bc sm ss um us z p lo hi h w (cn : Int) H V C w' zs (hZ.below hb) s ch hch i (by rw [hst]; omega)
    rw [hst] at this
    exact this
  have hTp : Hid (∀ W', _) := fun W' => Nx.rtaps_any h w (cn : Int) kh kw sh sw tp lf bt rt at' t u W' hcc
  have hlen : st ≤ 512 := by have := s.2.2.2.2.2.2.2.2.2; rw [hst] at this; omega
  obtain ⟨hk, hvA, hvB, hou, -, hwn, -, h3c, -⟩ := s
  have hC1 := (vS_yes hvB).2.2.1
  have hcn1 := (vS_yes hvA).2.2.1
  have hd1 := (vS_yes hvA).1
  have hw1 := (vS_yes hvA).2.1
  obtain ⟨hk1, hk2⟩ := hwn (by omega)
  have hm : h * w ≤ 16384 := by
    have h4 := (vS_yes hvA).2.2.2
    have p1 := (mul_bd hd1.1 hd1.2 hw1.1 hw1.2).1
    have := Int.mul_le_mul_of_nonneg_left hcn1.1 (show 0 ≤ h * w by omega)
    omega
  obtain ⟨N, hN⟩ : ∃ N : Nat, kh * kw = (N : Int) := ⟨(kh * kw).toNat, by have := (mul_bd hk1.1 hk1.2 hk2.1 hk2.2).1; omega⟩
  rw [hN, Int.toNat_natCast] at hTp
  have hstN : (k = 2 → st = N * cn) ∧ (k ≠ 2 → st = N) := by
    unfold stR at hst
    rw [if_neg k1] at hst
    constructor
    · intro k2
      rw [if_pos k2, hN] at hst
      exact_mod_cast hst.symm
    · intro k2
      rw [if_neg k2, if_pos (by omega), hN] at hst
      exact_mod_cast hst.symm
  have hN2 : N ≤ 1024 := by have := (mul_bd hk1.1 hk1.2 hk2.1 hk2.2).2; omega
  have HST : Hid ((k = 2 → st = N * cn) ∧ (k ≠ 2 → st = N)) := hstN
  have hPb : Hid (∀ q : Int, -1 ≤ tpc h w kw t u q ∧ tpc h w kw t u q ≤ 16384) := fun q => plc_bd hd1 hw1 hm
  have k1' : (k == 1) = false := by simp [k1]
  clear hst hZ hvA hvB hou hwn h3c hcc hN hm hstN
  have s0 := (St.start W).new (c := #[.int .i64 k, .int .i64 a, .int .i64 b, .int .i64 m, .int .i64 kh, .int .i64 kw, .int .i64 sh, .int .i64 sw, .int .i64 tp, .int .i64 lf, .int .i64 bt, .int .i64 rt, .slice wa lw wc, .slice ba lb bc, .int .i64 sm, .int .i64 ss, .int .i64 um, .int .i64 us, .int .i64 z, .int .i64 p, .int .i64 lo, .int .i64 hi, .int .i64 h, .int .i64 w, .int .i64 (cn : Int), .int .i64 H, .int .i64 V, .int .i64 C]) (t := 36)
  go_enter Try.func17, Try.ntmps17
  go_wp2_with (refine wpList_load_row rfl 36 (.tmp 3) rfl W.heap.size rfl 36 _ (0, 0) _ s0.h1 Try.underlying36 rfl (by kernel_rfl) ?_)
  refine (hLe.out _).mono ?_
  rintro e w1 ⟨rfl, hb⟩
  have s1 := s0.call hb
  obtain ⟨c1, f1, z1, -⟩ := s1.rules
  clear hb s0
  go_wp2_with fail
  refine (hTp.out _).mono ?_
  rintro e w2 ⟨⟨v, rfl, hOw⟩, hb⟩
  obtain ⟨ta, tc, rfl, hrow, -⟩ := hOw.row
  rw [Nx.covL_len] at hrow ⊢
  have hcap := hrow.2.1
  have hcm := hrow.2.2.1
  unfold maxLen at hcm
  have Hrow : Hid (Nx.Row w2 ta N tc (Nx.covL h w kw t u N)) := hrow
  have S2 : Hid (St W w2 _) := s1.call hb
  clear hb s1 hOw hrow c1 f1 z1
  go_wp2
  go_loopw [7, 11] (fun v i wr => ∃ y : Nat, y ≤ st ∧ i = .int .i64 y ∧ OTm wr w2.heap.size v (tmL k (cn : Int) ch h w kw t u st zs y) ∧ Below w2.heap.size w2 wr) (fun _ i _ => st - (intOf i).toNat)
  case atStart => exact ⟨0, Nat.zero_le _, rfl, OTm.nil _ _, Below.refl _ _⟩
  case round =>
    obtain ⟨y, hy, rfl, hO, hb⟩ := hrel
    have s3 := S2.out.call hb
    obtain ⟨va, vc, hve⟩ := hO.slice
    rw [tmL_len] at hve
    subst hve
    have HO : Hid (OTm _ _ _ _) := hO
    have hbz := hb.size
    have Hb : Hid (Below w2.heap.size w2 wr) := hb
    clear hO
    by_cases hlt : y < st
    · obtain ⟨c1, f1, z1, -⟩ := s3.rules
      by_cases k2 : k = 2
      · have hstN := HST.out.1 k2
        have hcn0 : 0 < cn := by omega
        obtain ⟨Q, hQe⟩ : ∃ Q, y / cn = Q := ⟨_, rfl⟩
        obtain ⟨R, hRe⟩ : ∃ R, y % cn = R := ⟨_, rfl⟩
        have hQ : Q < N := by rw [← hQe]; exact Nat.div_lt_of_lt_mul (by rw [Nat.mul_comm]; omega)
        have hR : R < cn := by rw [← hRe]; exact Nat.mod_lt _ hcn0
        have hq1 : Int.tdiv (y : Int) (cn : Int) = (Q : Int) := by rw [← hQe]; rfl
        have hq2 : Int.tmod (y : Int) (cn : Int) = (R : Int) := by rw [← hRe]; rfl
        have HP : Hid (plA k (cn : Int) ch h w kw t u y = cov (cn : Int) (tpc h w kw t u (Q : Int)) (R : Int)) := by unfold Hid plA; rw [if_neg k1, if_pos k2, ← hQe, ← hRe]; rfl
        have hc0 : ¬ ((cn : Int) = 0) := by omega
        have k2' : (k == 2) = true := by simp [k2]
        obtain ⟨D, hDe⟩ : ∃ D : Int, (R : Int) = D := ⟨_, rfl⟩
        have hD : 0 ≤ D ∧ D ≤ 1024 := by omega
        rw [hDe] at hq2 HP
        clear hQe hRe hDe hstN hR HST k2
        go_upto_region 15 with fail
        go_quiet (fail)
        have s4 := s3.call (dbel wr nq)
        have HO4 : Hid (OTm _ _ _ _) := HO.out.below (dbel wr nq)
        have Hb4 : Hid (Below w2.heap.size w2 _) := Hb.out.trans ((dbel wr nq).mono hbz)
        obtain ⟨w4, hw4⟩ : ∃ w4, wr.drewN nq = w4 := ⟨_, rfl⟩
        rw [hw4] at s4 HO4 Hb4 ⊢
        have hbz4 := Hb4.out.size
        clear hw4 c1 f1 z1 hb s3 Hb HO
        obtain ⟨P, hPe⟩ : ∃ P, tpc h w kw t u (Q : Int) = P := ⟨_, rfl⟩
        obtain ⟨x, rfl⟩ : ∃ x, ta = some x := by
          cases ta with
          | none => have h1 := Hrow.out.2.2.2.1 rfl; have h2 := Hrow.out.2.1; omega
          | some x => exact ⟨x, rfl⟩
        have hcx0 := Hrow.out.2.2.2.2 x rfl Q hQ
        rw [covL_get _ _ _ _ _ hQ, hPe] at hcx0
        have hxb : x.block < w2.heap.size := by have := World.block_lt_of_cell? _ _ hcx0; rwa [add_block] at this
        have hPb1 := hPb.out (Q : Int)
        rw [hPe] at HP hPb1
        obtain ⟨WG, hWG⟩ : ∃ WG, wgA k ch st zs y = WG := ⟨_, rfl⟩
        have hWg1 : Hid (∀ (w' : World), Below W.heap.size W w' → _) := fun w' hb => hWg.out w' y hlt hb
        rw [hWG] at hWg1
        have HS : Hid (tmL k (cn : Int) ch h w kw t u st zs (y + 1) = tmL k (cn : Int) ch h w kw t u st zs y ++ [(WG, cov (cn : Int) P D)]) := by unfold Hid; rw [tmL_succ, hWG, HP.out]
        have HLn : Hid ((tmL k (cn : Int) ch h w kw t u st zs y).length + 1 ≤ 1000000) := by unfold Hid; rw [tmL_len]; omega
        clear hPe hWG HP
        have h1 := s4.h1
        go_wp2_with (refine wpList_load_row rfl 36 (.tmp 3) rfl W.heap.size rfl 36 _ (0, 0) _ h1 Try.underlying36 rfl (by kernel_rfl) ?_)
        refine (hWg1.out _ s4.below).mono ?_
        rintro e w5 ⟨rfl, hb5⟩
        have s5 := (s4.call hb5).new (c := #[.int .i64 WG, .int .i64 (-1)]) (t := 56)
        have HOn : Hid ((Value.slice va y vc).ownBlock ≠ some w5.heap.size) := fun e => by have := (World.ownsRow.lt (HO4.out.below hb5) _ e).2; omega
        have HO5 : Hid (OTm _ _ _ _) := (HO4.out.below hb5).below (bal w5 (.cells #[.int .i64 WG, .int .i64 (-1)] 56))
        have hz5 : w2.heap.size ≤ w5.heap.size := Nat.le_trans hbz4 hb5.size
        have B5 : Hid (Below w2.heap.size w2 (w5.alloc (.cells #[.int .i64 WG, .int .i64 (-1)] 56))) := (Hb4.out.trans (hb5.mono hbz4)).alloc hz5 _
        have hWz : W.heap.size < w2.heap.size := lt_of_heap S2.out.h1
        obtain ⟨w6, hw6⟩ : ∃ w6, w5.alloc (.cells #[.int .i64 WG, .int .i64 (-1)] 56) = w6 := ⟨_, rfl⟩
        have hcx : w6.cell? (x.add Q) = some (.int .i64 P) := by rw [← hw6]; exact (B5.out.cell (by rw [add_block]; exact hxb)).trans hcx0
        have hz6 : Hid (w6.heap.size = w5.heap.size + 1) := by unfold Hid; rw [← hw6]; simp
        clear hb5 h1 s4 HO4 Hb4 hcx0
        go_upto_region 17 with fail
        rw [hw6] at s5 HO5 B5
        try rw [hw6]
        clear hw6
        have S5 : Hid (St W w6 _) := s5
        obtain ⟨c1, f1, z1, c2, f2, z2, -⟩ := s5.rules
        clear s5
        by_cases hp : P = -1
        · subst hp
          have HC : Hid (cov (cn : Int) (-1) D = -1) := if_pos rfl
          rw [HC.out] at HS
          go_wp2_with (at_builtin; refine wpList_apT rfl (.tmp 86) (.tmp 88) rfl w2.heap.size _ _ [(WG, (-1 : Int))] rfl (HO5.out.below (bal w6 _)) w6.heap.size 1 1 rfl rfl (term_one w6 _ _) HLn.out (by simp; have := hz6.out; omega) ?_; intro v7 w7 own7 gr7; have B7 : Hid (Below w2.heap.size w2 w7) := (HO5.out.below (bal w6 _)).grow (B5.out.alloc B5.out.size _) gr7 (by simp; have := hz6.out; omega))
          go_roundw
          case rel => exact ⟨y + 1, by omega, by go_num, by rw [HS.out]; exact own7, B7.out⟩
          case measure => simp [intOf]; omega
        · have HC : Hid (cov (cn : Int) P D = P * (cn : Int) + D) := if_neg hp
          rw [HC.out] at HS
          have hp0 : 0 ≤ P := by omega
          have m1 : 0 ≤ P * (cn : Int) := Int.mul_nonneg (by omega) (by omega)
          have m2 : P * (cn : Int) ≤ 16384 * 1024 := Int.mul_le_mul hPb1.2 hcn1.2 (by omega) (by omega)
          obtain ⟨PC, hPC⟩ : ∃ PC, P * (cn : Int) = PC := ⟨_, rfl⟩
          rw [hPC] at m1 m2 HS
          go_upto_region 18 with fail
          have hG := S5.out.h2
          have hG1 := S5.out.h1
          refine regionC (fun w' => w'.cell? (x.add Q) = some (.int .i64 P) ∧ w'.heap[W.heap.size]? = some (.cells #[.int .i64 k, .int .i64 a, .int .i64 b, .int .i64 m, .int .i64 kh, .int .i64 kw, .int .i64 sh, .int .i64 sw, .int .i64 tp, .int .i64 lf, .int .i64 bt, .int .i64 rt, .slice wa lw wc, .slice ba lb bc, .int .i64 sm, .int .i64 ss, .int .i64 um, .int .i64 us, .int .i64 z, .int .i64 p, .int .i64 lo, .int .i64 hi, .int .i64 h, .int .i64 w, .int .i64 (cn : Int), .int .i64 H, .int .i64 V, .int .i64 C] 36 (0, 0))) (by kernel_rfl) ?_
          obtain ⟨wd, hwd⟩ : ∃ wd, w6.drew = wd := ⟨_, rfl⟩
          have HCl : Hid (wd.cell? (x.add Q) = some (.int .i64 P) ∧ wd.heap[W.heap.size]? = some (.cells #[.int .i64 k, .int .i64 a, .int .i64 b, .int .i64 m, .int .i64 kh, .int .i64 kw, .int .i64 sh, .int .i64 sw, .int .i64 tp, .int .i64 lf, .int .i64 bt, .int .i64 rt, .slice wa lw wc, .slice ba lb bc, .int .i64 sm, .int .i64 ss, .int .i64 um, .int .i64 us, .int .i64 z, .int .i64 p, .int .i64 lo, .int .i64 hi, .int .i64 h, .int .i64 w, .int .i64 (cn : Int), .int .i64 H, .int .i64 V, .int .i64 C] 36 (0, 0))) := by unfold Hid; rw [← hwd]; exact ⟨hcx, hG⟩
          have HD : Hid (Below w6.heap.size w6 wd) := by unfold Hid; rw [← hwd]; exact (Below.refl _ _).drew
          have hGd : wd.heap[w5.heap.size]? = some (.cells #[.int .i64 WG, .int .i64 (-1)] 56 (0, 0)) := by rw [← hwd]; exact hG1
          rw [hwd]
          clear hwd hG hG1 c1 f1 c2 f2
          refine takeC 0 (v := .slice (some x) N tc) rfl rfl (by kernel_rfl) (by kernel_rfl) (by kernel_rfl) (fun _ _ _ h => h) (fun _ => rfl) rfl (fun w' hw' => by go_simp) ?_
          refine takeC 1 (v := .int .i64 (Q : Int)) rfl rfl (by kernel_rfl) (by kernel_rfl) (by kernel_rfl) (fun _ _ _ h => h) (fun _ => rfl) rfl (fun w' hw' => by go_simp) ?_
          refine takeC 2 (v := .pointer (some (x.add Q))) rfl rfl (by kernel_rfl) (by kernel_rfl) (by kernel_rfl) (fun _ _ _ h => h) (fun _ => rfl) rfl (fun w' hw' => by go_simp) ?_
          refine takeC 3 (v := .int .i64 P) rfl rfl (by kernel_rfl) (by kernel_rfl) (by kernel_rfl) (fun _ _ _ h => h) (fun _ => rfl) rfl (fun w' hw' => by have hc := hw'.1; go_simp) ?_
          refine takeC 4 (v := .pointer (some ⟨W.heap.size, 22, none⟩)) rfl rfl (by kernel_rfl) (by kernel_rfl) (by kernel_rfl) (fun _ _ _ h => h) (fun _ => rfl) rfl (fun w' hw' => by go_simp) ?_
          refine takeC 5 (v := .pointer (some ⟨W.heap.size, 24, none⟩)) rfl rfl (by kernel_rfl) (by kernel_rfl) (by kernel_rfl) (fun _ _ _ h => h) (fun _ => rfl) rfl (fun w' hw' => by go_simp) ?_
          refine takeC 6 (v := .int .i64 (cn : Int)) rfl rfl (by kernel_rfl) (by kernel_rfl) (by kernel_rfl) (fun _ _ _ h => h) (fun _ => rfl) rfl (fun w' hw' => by have hc := (cells_at hw'.2).1 24; go_simp) ?_
          refine takeC 7 (v := .int .i64 PC) rfl rfl (by kernel_rfl) (by kernel_rfl) (by kernel_rfl) (fun _ _ _ h => h) (fun _ => rfl) rfl (fun w' hw' => by go_simp; try (rw [IntKind.wrap_i64]; omega)) ?_
          refine takeC 8 (v := .int .i64 D) rfl rfl (by kernel_rfl) (by kernel_rfl) (by kernel_rfl) (fun _ _ _ h => h) (fun _ => rfl) rfl (fun w' hw' => by go_simp) ?_
          refine takeC 9 (v := .int .i64 (PC + D)) rfl rfl (by kernel_rfl) (by kernel_rfl) (by kernel_rfl) (fun _ _ _ h => h) (fun _ => rfl) rfl (fun w' hw' => by go_simp; try (rw [IntKind.wrap_i64]; omega)) ?_
          refine takeC 10 (v := .pointer (some ⟨w5.heap.size, 1, none⟩)) rfl rfl (by kernel_rfl) (by kernel_rfl) (by kernel_rfl) (fun _ _ _ h => h) (fun _ => rfl) rfl (fun w' hw' => by go_simp) ?_
          have g1 : wd.cell? ⟨w5.heap.size, 1, none⟩ = some (.int .i64 (-1)) := (cells_at hGd).1 1
          have g2 : wd.frozen? ⟨w5.heap.size, 1, none⟩ = false := (cells_at hGd).2.1 1
          refine stepC 11 HCl.out (by kernel_rfl) rfl (fun K hK => step_wp rfl ?_)
          go_simp
          refine hK _ _ ?_
          clear hK K g1 g2
          have hGs : Hid ((wd.setCell ⟨w5.heap.size, 1, none⟩ (.int .i64 (PC + D))).heap[w5.heap.size]? = some (.cells #[.int .i64 WG, .int .i64 (PC + D)] 56 (0, 0))) := heap_setCell_at hGd
          have hD6 : Hid (Below w2.heap.size w2 (wd.setCell ⟨w5.heap.size, 1, none⟩ (.int .i64 (PC + D)))) := (B5.out.trans (HD.out.mono B5.out.size)).setCell (p := ⟨w5.heap.size, 1, none⟩) hz5 _
          have HCs : Hid ((wd.setCell ⟨w5.heap.size, 1, none⟩ (.int .i64 (PC + D))).cell? (x.add Q) = some (.int .i64 P) ∧ (wd.setCell ⟨w5.heap.size, 1, none⟩ (.int .i64 (PC + D))).heap[W.heap.size]? = some (.cells #[.int .i64 k, .int .i64 a, .int .i64 b, .int .i64 m, .int .i64 kh, .int .i64 kw, .int .i64 sh, .int .i64 sw, .int .i64 tp, .int .i64 lf, .int .i64 bt, .int .i64 rt, .slice wa lw wc, .slice ba lb bc, .int .i64 sm, .int .i64 ss, .int .i64 um, .int .i64 us, .int .i64 z, .int .i64 p, .int .i64 lo, .int .i64 hi, .int .i64 h, .int .i64 w, .int .i64 (cn : Int), .int .i64 H, .int .i64 V, .int .i64 C] 36 (0, 0))) := by
            refine ⟨?_, ?_⟩
            · have hb7 : Below w2.heap.size wd (wd.setCell ⟨w5.heap.size, 1, none⟩ (.int .i64 (PC + D))) := (Below.refl _ wd).setCell (p := ⟨w5.heap.size, 1, none⟩) hz5 _
              exact (hb7.cell (by rw [add_block]; exact hxb)).trans HCl.out.1
            · rw [Below.heap_setCell _ _ _ _ (show W.heap.size ≠ w5.heap.size by omega)]
              exact HCl.out.2
          have HO6 : Hid (OTm (wd.setCell ⟨w5.heap.size, 1, none⟩ (.int .i64 (PC + D))) w2.heap.size (.slice va y vc) (tmL k (cn : Int) ch h w kw t u st zs y)) := otm_other (HO5.out.below HD.out) HOn.out
          refine doneC HCs.out (by kernel_rfl) ?_ _
          obtain ⟨w7, hw7⟩ : ∃ w7, wd.setCell ⟨w5.heap.size, 1, none⟩ (.int .i64 (PC + D)) = w7 := ⟨_, rfl⟩
          rw [hw7] at hGs hD6 HO6 ⊢
          have hz7 : w5.heap.size < w7.heap.size := lt_of_heap hGs.out
          obtain ⟨c1, f1, z1'⟩ := cells_at hGs.out
          clear hw7 HCs HCl HD hGd hcx
          go_wp2_with (at_builtin; refine wpList_apT rfl (.tmp 86) (.tmp 88) rfl w2.heap.size _ _ [(WG, PC + D)] rfl (HO6.out.below (bal w7 _)) w7.heap.size 1 1 rfl rfl (term_one w7 _ _) HLn.out (by simp; omega) ?_; intro v8 w8 own8 gr8; have B8 : Hid (Below w2.heap.size w2 w8) := (HO6.out.below (bal w7 _)).grow (hD6.out.alloc hD6.out.size _) gr8 (by simp; omega))
          go_roundw
          case rel => exact ⟨y + 1, by omega, by go_num, by rw [HS.out]; exact own8, B8.out⟩
          case measure => simp [intOf]; omega
      · have hstN := HST.out.2 k2
        have k2' : (k == 2) = false := by simp [k2]
        have hQ : y < N := by omega
        obtain ⟨D, hDe⟩ : ∃ D : Int, ch - 1 = D := ⟨_, rfl⟩
        have hD : 0 ≤ D ∧ D ≤ 1024 := by omega
        have HP : Hid (plA k (cn : Int) ch h w kw t u y = cov (cn : Int) (tpc h w kw t u (y : Int)) D) := by unfold Hid plA; rw [if_neg k1, if_neg k2, hDe]
        clear hstN HST k2
        go_upto_region 16 with fail
        have s4 := s3
        have HO4 : Hid (OTm _ _ _ _) := HO.out
        have Hb4 : Hid (Below w2.heap.size w2 _) := Hb.out
        have hbz4 := Hb4.out.size
        clear c1 f1 z1 hb s3 Hb HO
        obtain ⟨P, hPe⟩ : ∃ P, tpc h w kw t u (y : Int) = P := ⟨_, rfl⟩
        obtain ⟨x, rfl⟩ : ∃ x, ta = some x := by
          cases ta with
          | none => have h1 := Hrow.out.2.2.2.1 rfl; have h2 := Hrow.out.2.1; omega
          | some x => exact ⟨x, rfl⟩
        have hcx0 := Hrow.out.2.2.2.2 x rfl y hQ
        rw [covL_get _ _ _ _ _ hQ, hPe] at hcx0
        have hxb : x.block < w2.heap.size := by have := World.block_lt_of_cell? _ _ hcx0; rwa [add_block] at this
        have hPb1 := hPb.out (y : Int)
        rw [hPe] at HP hPb1
        obtain ⟨WG, hWG⟩ : ∃ WG, wgA k ch st zs y = WG := ⟨_, rfl⟩
        have hWg1 : Hid (∀ (w' : World), Below W.heap.size W w' → _) := fun w' hb => hWg.out w' y hlt hb
        rw [hWG] at hWg1
        have HS : Hid (tmL k (cn : Int) ch h w kw t u st zs (y + 1) = tmL k (cn : Int) ch h w kw t u st zs y ++ [(WG, cov (cn : Int) P D)]) := by unfold Hid; rw [tmL_succ, hWG, HP.out]
        have HLn : Hid ((tmL k (cn : Int) ch h w kw t u st zs y).length + 1 ≤ 1000000) := by unfold Hid; rw [tmL_len]; omega
        clear hPe hWG HP
        have h1 := s4.h1
        go_wp2_with (refine wpList_load_row rfl 36 (.tmp 3) rfl W.heap.size rfl 36 _ (0, 0) _ h1 Try.underlying36 rfl (by kernel_rfl) ?_)
        refine (hWg1.out _ s4.below).mono ?_
        rintro e w5 ⟨rfl, hb5⟩
        have s5 := (s4.call hb5).new (c := #[.int .i64 WG, .int .i64 (-1)]) (t := 56)
        have HOn : Hid ((Value.slice va y vc).ownBlock ≠ some w5.heap.size) := fun e => by have := (World.ownsRow.lt (HO4.out.below hb5) _ e).2; omega
        have HO5 : Hid (OTm _ _ _ _) := (HO4.out.below hb5).below (bal w5 (.cells #[.int .i64 WG, .int .i64 (-1)] 56))
        have hz5 : w2.heap.size ≤ w5.heap.size := Nat.le_trans hbz4 hb5.size
        have B5 : Hid (Below w2.heap.size w2 (w5.alloc (.cells #[.int .i64 WG, .int .i64 (-1)] 56))) := (Hb4.out.trans (hb5.mono hbz4)).alloc hz5 _
        have hWz : W.heap.size < w2.heap.size := lt_of_heap S2.out.h1
        obtain ⟨w6, hw6⟩ : ∃ w6, w5.alloc (.cells #[.int .i64 WG, .int .i64 (-1)] 56) = w6 := ⟨_, rfl⟩
        have hcx : w6.cell? (x.add y) = some (.int .i64 P) := by rw [← hw6]; exact (B5.out.cell (by rw [add_block]; exact hxb)).trans hcx0
        have hz6 : Hid (w6.heap.size = w5.heap.size + 1) := by unfold Hid; rw [← hw6]; simp
        clear hb5 h1 s4 HO4 Hb4 hcx0
        go_upto_region 17 with fail
        rw [hw6] at s5 HO5 B5
        try rw [hw6]
        clear hw6
        have S5 : Hid (St W w6 _) := s5
        obtain ⟨c1, f1, z1, c2, f2, z2, -⟩ := s5.rules
        clear s5
        by_cases hp : P = -1
        · subst hp
          have HC : Hid (cov (cn : Int) (-1) D = -1) := if_pos rfl
          rw [HC.out] at HS
          go_wp2_with (at_builtin; refine wpList_apT rfl (.tmp 86) (.tmp 88) rfl w2.heap.size _ _ [(WG, (-1 : Int))] rfl (HO5.out.below (bal w6 _)) w6.heap.size 1 1 rfl rfl (term_one w6 _ _) HLn.out (by simp; have := hz6.out; omega) ?_; intro v7 w7 own7 gr7; have B7 : Hid (Below w2.heap.size w2 w7) := (HO5.out.below (bal w6 _)).grow (B5.out.alloc B5.out.size _) gr7 (by simp; have := hz6.out; omega))
          go_roundw
          case rel => exact ⟨y + 1, by omega, by go_num, by rw [HS.out]; exact own7, B7.out⟩
          case measure => simp [intOf]; omega
        · have HC : Hid (cov (cn : Int) P D = P * (cn : Int) + D) := if_neg hp
          rw [HC.out] at HS
          have hp0 : 0 ≤ P := by omega
          have m1 : 0 ≤ P * (cn : Int) := Int.mul_nonneg (by omega) (by omega)
          have m2 : P * (cn : Int) ≤ 16384 * 1024 := Int.mul_le_mul hPb1.2 hcn1.2 (by omega) (by omega)
          obtain ⟨PC, hPC⟩ : ∃ PC, P * (cn : Int) = PC := ⟨_, rfl⟩
          rw [hPC] at m1 m2 HS
          go_upto_region 18 with fail
          have hG := S5.out.h2
          have hG1 := S5.out.h1
          refine regionC (fun w' => w'.cell? (x.add y) = some (.int .i64 P) ∧ w'.heap[W.heap.size]? = some (.cells #[.int .i64 k, .int .i64 a, .int .i64 b, .int .i64 m, .int .i64 kh, .int .i64 kw, .int .i64 sh, .int .i64 sw, .int .i64 tp, .int .i64 lf, .int .i64 bt, .int .i64 rt, .slice wa lw wc, .slice ba lb bc, .int .i64 sm, .int .i64 ss, .int .i64 um, .int .i64 us, .int .i64 z, .int .i64 p, .int .i64 lo, .int .i64 hi, .int .i64 h, .int .i64 w, .int .i64 (cn : Int), .int .i64 H, .int .i64 V, .int .i64 C] 36 (0, 0))) (by kernel_rfl) ?_
          obtain ⟨wd, hwd⟩ : ∃ wd, w6.drew = wd := ⟨_, rfl⟩
          have HCl : Hid (wd.cell? (x.add y) = some (.int .i64 P) ∧ wd.heap[W.heap.size]? = some (.cells #[.int .i64 k, .int .i64 a, .int .i64 b, .int .i64 m, .int .i64 kh, .int .i64 kw, .int .i64 sh, .int .i64 sw, .int .i64 tp, .int .i64 lf, .int .i64 bt, .int .i64 rt, .slice wa lw wc, .slice ba lb bc, .int .i64 sm, .int .i64 ss, .int .i64 um, .int .i64 us, .int .i64 z, .int .i64 p, .int .i64 lo, .int .i64 hi, .int .i64 h, .int .i64 w, .int .i64 (cn : Int), .int .i64 H, .int .i64 V, .int .i64 C] 36 (0, 0))) := by unfold Hid; rw [← hwd]; exact ⟨hcx, hG⟩
          have HD : Hid (Below w6.heap.size w6 wd) := by unfold Hid; rw [← hwd]; exact (Below.refl _ _).drew
          have hGd : wd.heap[w5.heap.size]? = some (.cells #[.int .i64 WG, .int .i64 (-1)] 56 (0, 0)) := by rw [← hwd]; exact hG1
          rw [hwd]
          clear hwd hG hG1 c1 f1 c2 f2
          refine takeC 0 (v := .slice (some x) N tc) rfl rfl (by kernel_rfl) (by kernel_rfl) (by kernel_rfl) (fun _ _ _ h => h) (fun _ => rfl) rfl (fun w' hw' => by go_simp) ?_
          refine takeC 1 (v := .int .i64 (y : Int)) rfl rfl (by kernel_rfl) (by kernel_rfl) (by kernel_rfl) (fun _ _ _ h => h) (fun _ => rfl) rfl (fun w' hw' => by go_simp) ?_
          refine takeC 2 (v := .pointer (some (x.add y))) rfl rfl (by kernel_rfl) (by kernel_rfl) (by kernel_rfl) (fun _ _ _ h => h) (fun _ => rfl) rfl (fun w' hw' => by go_simp) ?_
          refine takeC 3 (v := .int .i64 P) rfl rfl (by kernel_rfl) (by kernel_rfl) (by kernel_rfl) (fun _ _ _ h => h) (fun _ => rfl) rfl (fun w' hw' => by have hc := hw'.1; go_simp) ?_
          refine takeC 4 (v := .pointer (some ⟨W.heap.size, 22, none⟩)) rfl rfl (by kernel_rfl) (by kernel_rfl) (by kernel_rfl) (fun _ _ _ h => h) (fun _ => rfl) rfl (fun w' hw' => by go_simp) ?_
          refine takeC 5 (v := .pointer (some ⟨W.heap.size, 24, none⟩)) rfl rfl (by kernel_rfl) (by kernel_rfl) (by kernel_rfl) (fun _ _ _ h => h) (fun _ => rfl) rfl (fun w' hw' => by go_simp) ?_
          refine takeC 6 (v := .int .i64 (cn : Int)) rfl rfl (by kernel_rfl) (by kernel_rfl) (by kernel_rfl) (fun _ _ _ h => h) (fun _ => rfl) rfl (fun w' hw' => by have hc := (cells_at hw'.2).1 24; go_simp) ?_
          refine takeC 7 (v := .int .i64 PC) rfl rfl (by kernel_rfl) (by kernel_rfl) (by kernel_rfl) (fun _ _ _ h => h) (fun _ => rfl) rfl (fun w' hw' => by go_simp; try (rw [IntKind.wrap_i64]; omega)) ?_
          refine takeC 8 (v := .int .i64 D) rfl rfl (by kernel_rfl) (by kernel_rfl) (by kernel_rfl) (fun _ _ _ h => h) (fun _ => rfl) rfl (fun w' hw' => by go_simp) ?_
          refine takeC 9 (v := .int .i64 (PC + D)) rfl rfl (by kernel_rfl) (by kernel_rfl) (by kernel_rfl) (fun _ _ _ h => h) (fun _ => rfl) rfl (fun w' hw' => by go_simp; try (rw [IntKind.wrap_i64]; omega)) ?_
          refine takeC 10 (v := .pointer (some ⟨w5.heap.size, 1, none⟩)) rfl rfl (by kernel_rfl) (by kernel_rfl) (by kernel_rfl) (fun _ _ _ h => h) (fun _ => rfl) rfl (fun w' hw' => by go_simp) ?_
          have g1 : wd.cell? ⟨w5.heap.size, 1, none⟩ = some (.int .i64 (-1)) := (cells_at hGd).1 1
          have g2 : wd.frozen? ⟨w5.heap.size, 1, none⟩ = false := (cells_at hGd).2.1 1
          refine stepC 11 HCl.out (by kernel_rfl) rfl (fun K hK => step_wp rfl ?_)
          go_simp
          refine hK _ _ ?_
          clear hK K g1 g2
          have hGs : Hid ((wd.setCell ⟨w5.heap.size, 1, none⟩ (.int .i64 (PC + D))).heap[w5.heap.size]? = some (.cells #[.int .i64 WG, .int .i64 (PC + D)] 56 (0, 0))) := heap_setCell_at hGd
          have hD6 : Hid (Below w2.heap.size w2 (wd.setCell ⟨w5.heap.size, 1, none⟩ (.int .i64 (PC + D)))) := (B5.out.trans (HD.out.mono B5.out.size)).setCell (p := ⟨w5.heap.size, 1, none⟩) hz5 _
          have HCs : Hid ((wd.setCell ⟨w5.heap.size, 1, none⟩ (.int .i64 (PC + D))).cell? (x.add y) = some (.int .i64 P) ∧ (wd.setCell ⟨w5.heap.size, 1, none⟩ (.int .i64 (PC + D))).heap[W.heap.size]? = some (.cells #[.int .i64 k, .int .i64 a, .int .i64 b, .int .i64 m, .int .i64 kh, .int .i64 kw, .int .i64 sh, .int .i64 sw, .int .i64 tp, .int .i64 lf, .int .i64 bt, .int .i64 rt, .slice wa lw wc, .slice ba lb bc, .int .i64 sm, .int .i64 ss, .int .i64 um, .int .i64 us, .int .i64 z, .int .i64 p, .int .i64 lo, .int .i64 hi, .int .i64 h, .int .i64 w, .int .i64 (cn : Int), .int .i64 H, .int .i64 V, .int .i64 C] 36 (0, 0))) := by
            refine ⟨?_, ?_⟩
            · have hb7 : Below w2.heap.size wd (wd.setCell ⟨w5.heap.size, 1, none⟩ (.int .i64 (PC + D))) := (Below.refl _ wd).setCell (p := ⟨w5.heap.size, 1, none⟩) hz5 _
              exact (hb7.cell (by rw [add_block]; exact hxb)).trans HCl.out.1
            · rw [Below.heap_setCell _ _ _ _ (show W.heap.size ≠ w5.heap.size by omega)]
              exact HCl.out.2
          have HO6 : Hid (OTm (wd.setCell ⟨w5.heap.size, 1, none⟩ (.int .i64 (PC + D))) w2.heap.size (.slice va y vc) (tmL k (cn : Int) ch h w kw t u st zs y)) := otm_other (HO5.out.below HD.out) HOn.out
          refine doneC HCs.out (by kernel_rfl) ?_ _
          obtain ⟨w7, hw7⟩ : ∃ w7, wd.setCell ⟨w5.heap.size, 1, none⟩ (.int .i64 (PC + D)) = w7 := ⟨_, rfl⟩
          rw [hw7] at hGs hD6 HO6 ⊢
          have hz7 : w5.heap.size < w7.heap.size := lt_of_heap hGs.out
          obtain ⟨c1, f1, z1'⟩ := cells_at hGs.out
          clear hw7 HCs HCl HD hGd hcx
          go_wp2_with (at_builtin; refine wpList_apT rfl (.tmp 86) (.tmp 88) rfl w2.heap.size _ _ [(WG, PC + D)] rfl (HO6.out.below (bal w7 _)) w7.heap.size 1 1 rfl rfl (term_one w7 _ _) HLn.out (by simp; omega) ?_; intro v8 w8 own8 gr8; have B8 : Hid (Below w2.heap.size w2 w8) := (HO6.out.below (bal w7 _)).grow (hD6.out.alloc hD6.out.size _) gr8 (by simp; omega))
          go_roundw
          case rel => exact ⟨y + 1, by omega, by go_num, by rw [HS.out]; exact own8, B8.out⟩
          case measure => simp [intOf]; omega
    · obtain rfl : y = st := by omega
      have hS1 := S2.out.below
      go_wp2
      go_ret
      exact ⟨⟨_, rfl, HO.out.base hS1.size⟩, hS1.trans (hb.mono hS1.size)⟩
end Go.Proofs.Ytnjdnbbemjdabaa

/- The document's Terms, of whatever kind. -/
namespace Go.Proofs.Ytnjdnbbemjdabaa
open Go.ChangeShapes Go.WideShapes Go.ChangeAt Go.RowKit
set_option linter.unusedVariables false
/-- The document's Terms of an op that is there. -/
theorem rterms_any (k a b m kh kw sh sw tp lf bt rt : Int) (wa : Option Addr) (lw wc : Nat) (ba : Option Addr) (lb bc : Nat) (sm ss um us z p lo hi h w c H V C : Int) (W : World) (zs : List Int) (hZ : IRow .i16 W wa lw wc zs) (s : Sit k kh kw sh sw tp lf bt rt h w c H V C lw lb) (ch at' : Int) (hch : 1 ≤ ch ∧ ch ≤ C) (hat : 0 ≤ at' ∧ at' < H * V) :
    Calls Try.prog 17 #[.agg #[.int .i64 k, .int .i64 a, .int .i64 b, .int .i64 m, .int .i64 kh, .int .i64 kw, .int .i64 sh, .int .i64 sw, .int .i64 tp, .int .i64 lf, .int .i64 bt, .int .i64 rt, .slice wa lw wc, .slice ba lb bc, .int .i64 sm, .int .i64 ss, .int .i64 um, .int .i64 us, .int .i64 z, .int .i64 p, .int .i64 lo, .int .i64 hi, .int .i64 h, .int .i64 w, .int .i64 c, .int .i64 H, .int .i64 V, .int .i64 C], .int .i64 ch, .int .i64 at'] W fun e w' => (∃ v, e = .returned v ∧ OTm w' W.heap.size v (siL k kh kw sh sw tp lf bt rt h w c ch at' zs)) ∧ Below W.heap.size W w' := by
  obtain ⟨st, hst⟩ : ∃ st : Nat, stR k kh kw h w c = (st : Int) := ⟨(stR k kh kw h w c).toNat, by have := s.2.2.2.2.2.2.2.2.1; omega⟩
  unfold siL
  rw [hst, Int.toNat_natCast]
  by_cases k1 : k = 1
  · subst k1
    exact rterms_1 a b m kh kw sh sw tp lf bt rt wa lw wc ba lb bc sm ss um us z p lo hi h w c H V C W zs hZ s ch at' _ _ hch st hst
  · obtain ⟨cn, rfl⟩ : ∃ cn : Nat, c = (cn : Int) := ⟨c.toNat, by have := (vS_yes s.2.1).2.2.1; omega⟩
    have hou := s.2.2.2.1 (by have := s.1; omega)
    have hcc : (coR h w (cn : Int) kh kw sh sw tp lf bt rt at').2.2 = 0 := by
      unfold coR
      rw [hou]
      simp only
      rw [if_pos trivial, if_pos hat]
    exact rterms_w k a b m kh kw sh sw tp lf bt rt wa lw wc ba lb bc sm ss um us z p lo hi h w cn H V C W zs hZ s k1 ch at' _ _ hch (by rw [← hcc]) st hst
end Go.Proofs.Ytnjdnbbemjdabaa

/- What find of package terms returns of an op that is there. -/
namespace Go.Proofs.Ytnjdnbbemjdabaa
open Go.ChangeShapes Go.WideShapes Go.ChangeAt Go.RowKit
set_option linter.unusedVariables false
theorem three_at {w : World} {g n : Nat} {cur : Array Value} {T : TypeId} {x y z : Value} (h : w.heap[g]? = some (.cells cur T (0, 0))) (h0 : cur[n]? = some x) (h1 : cur[n + 1]? = some y) (h2 : cur[n + 2]? = some z) : ∀ q v, [x, y, z][q]? = some v → w.cell? ((⟨g, n, none⟩ : Addr).add q) = some v := by
  intro q v hq
  rw [Addr.add_lit, (cells_at h).1]
  match q, hq with
  | 0, hq => rw [Nat.add_zero, h0]; exact hq
  | 1, hq => rw [h1]; exact hq
  | 2, hq => rw [h2]; exact hq
  | q + 3, hq => simp at hq
set_option maxRecDepth 100000 in
set_option maxHeartbeats 8000000 in
theorem find_r (h w c lo hi ot : Int) (x : Addr) (on oc i : Nat) (O : Nat → Nat → Int) (W : World) (hM : MRow W (some x) on oc O) (hi0 : i < on) (wa : Option Addr) (lw cw : Nat) (ba : Option Addr) (lb cb : Nat)
    (hcell : ∀ q v, [.int .i64 (O i 0), .int .i64 (O i 1), .int .i64 (O i 2), .int .i64 (O i 3), .int .i64 (O i 4), .int .i64 (O i 5), .int .i64 (O i 6), .int .i64 (O i 7), .int .i64 (O i 8), .int .i64 (O i 9), .int .i64 (O i 10), .int .i64 (O i 11), .slice wa lw cw, .slice ba lb cb, .int .i64 (O i 14), .int .i64 (O i 15), .int .i64 (O i 16), .int .i64 (O i 17), .int .i64 (O i 18), .int .i64 (O i 19), .int .i64 (O i 20), .int .i64 (O i 21)][q]? = some v → W.cell? ((x.add (i * 22)).add q) = some v) (Rw : Int) (RL : List (Int × Int × Int)) (hR : gtR O h w c lo hi ot on = (0, 0, RL, Rw)) (hj0 : 0 ≤ O i 1) (hj1 : O i 1 ≤ (i : Int))
    (x0 y0 z0 H V C : Int) (hA : RL.getD (O i 1).toNat (0, 0, 0) = (x0, y0, z0)) (hB : RL.getD (i + 1) (0, 0, 0) = (H, V, C)) (rb : Bool) (hrb : rdB (O i 0) = rb) :
    Calls Try.prog 22 #[.agg #[.int .i64 h, .int .i64 w, .int .i64 c, .int .i64 lo, .int .i64 hi, .slice (some x) on oc, .int .i64 ot], .int .i64 ((i : Int) + 1)] W fun e w' => e = .returned (if rb = true then .tuple #[.agg #[.int .i64 (O i 0), .int .i64 (O i 1), .int .i64 (O i 2), .int .i64 (O i 3), .int .i64 (O i 4), .int .i64 (O i 5), .int .i64 (O i 6), .int .i64 (O i 7), .int .i64 (O i 8), .int .i64 (O i 9), .int .i64 (O i 10), .int .i64 (O i 11), .slice wa lw cw, .slice ba lb cb, .int .i64 (O i 14), .int .i64 (O i 15), .int .i64 (O i 16), .int .i64 (O i 17), .int .i64 (O i 18), .int .i64 (O i 19), .int .i64 (O i 20), .int .i64 (O i 21), .int .i64 x0, .int .i64 y0, .int .i64 z0, .int .i64 H, .int .i64 V, .int .i64 C], .int .i64 0] else .tuple #[.agg #[.int .i64 0, .int .i64 0, .int .i64 0, .int .i64 0, .int .i64 0, .int .i64 0, .int .i64 0, .int .i64 0, .int .i64 0, .int .i64 0, .int .i64 0, .int .i64 0, .slice none 0 0, .slice none 0 0, .int .i64 0, .int .i64 0, .int .i64 0, .int .i64 0, .int .i64 0, .int .i64 0, .int .i64 0, .int .i64 0, .int .i64 0, .int .i64 0, .int .i64 0, .int .i64 0, .int .i64 0, .int .i64 0], .int .i64 81]) ∧ Below W.heap.size W w' := by
  have hS : Hid (∀ W, MRow W (some x) on oc O → _) := fun W hW => shapes_any h w c lo hi ot (some x) on oc O W hW
  rw [hR] at hS
  simp only at hS
  obtain ⟨-, hRl, ho64, -, -, -⟩ := gtR_ok hR
  have hM2 : Hid (MRow W (some x) on oc O) := hM
  have hocm := hM.1
  have hocx := hM.2.1
  unfold maxLen at hocx
  have Hc : Hid (∀ q v, [.int .i64 (O i 0), .int .i64 (O i 1), .int .i64 (O i 2), .int .i64 (O i 3), .int .i64 (O i 4), .int .i64 (O i 5), .int .i64 (O i 6), .int .i64 (O i 7), .int .i64 (O i 8), .int .i64 (O i 9), .int .i64 (O i 10), .int .i64 (O i 11), .slice wa lw cw, .slice ba lb cb, .int .i64 (O i 14), .int .i64 (O i 15), .int .i64 (O i 16), .int .i64 (O i 17), .int .i64 (O i 18), .int .i64 (O i 19), .int .i64 (O i 20), .int .i64 (O i 21)][q]? = some v → W.cell? ((x.add (i * 22)).add q) = some v) := hcell
  clear hR hM hcell
  have s0 := ((St.start W).new (c := #[.int .i64 h, .int .i64 w, .int .i64 c, .int .i64 lo, .int .i64 hi, .slice (some x) on oc, .int .i64 ot]) (t := 26)).new (c := #[.int .i64 0, .int .i64 0, .int .i64 0, .int .i64 0, .int .i64 0, .int .i64 0, .int .i64 0, .int .i64 0, .int .i64 0, .int .i64 0, .int .i64 0, .int .i64 0, .slice none 0 0, .slice none 0 0, .int .i64 0, .int .i64 0, .int .i64 0, .int .i64 0, .int .i64 0, .int .i64 0, .int .i64 0, .int .i64 0, .int .i64 0, .int .i64 0, .int .i64 0, .int .i64 0, .int .i64 0, .int .i64 0]) (t := 66)
  simp only [World.size_alloc] at s0
  go_enter Try.func22, Try.ntmps22
  go_wp2_with fail
  refine Calls.mono (hS.out _ (hM2.out.below s0.below)) ?_
  rintro e w1 ⟨v, rfl, hSh, hb⟩
  have s1 := (s0.call hb).new (c := #[.int .i64 0, .int .i64 0, .int .i64 0]) (t := 61)
  obtain ⟨g, cap, cur, rfl, hgb, hgc, hCu⟩ : ∃ g cap cur, v = .slice (some ⟨g, 0, none⟩) (on + 1) cap ∧ W.heap.size ≤ g ∧ w1.heap[g]? = some (.cells cur 23 (0, 0)) ∧ Cu cur cap RL := by
    rcases hSh with ⟨-, q⟩ | ⟨g, cap, cur, q1, q2, q3, q4, -⟩
    · rw [q] at hRl; simp at hRl
    · exact ⟨g, cap, cur, by rw [q1, hRl], by simp at q2; omega, q3, q4⟩
  have hcap := hCu.2.1
  obtain ⟨b1, b2, b3⟩ := hCu.at (show i + 1 < RL.length by omega)
  obtain ⟨a1, a2, a3⟩ := hCu.at (show (O i 1).toNat < RL.length by omega)
  rw [hB] at b1 b2 b3
  rw [hA] at a1 a2 a3
  simp only at a1 a2 a3 b1 b2 b3
  have hgz := lt_of_heap hgc
  have hgc2 : Hid ((w1.alloc (.cells #[.int .i64 0, .int .i64 0, .int .i64 0] 61)).heap[g]? = some (.cells cur 23 (0, 0))) := (heap_alloc_old w1 _ hgz).trans hgc
  obtain ⟨c1, f1, z1, c2, f2, z2, -⟩ := (s0.call hb).rules
  clear hb hSh hCu hgc hS hM2
  go_wp2
  obtain ⟨w2, hw2⟩ : ∃ w2, w1.alloc (.cells #[.int .i64 0, .int .i64 0, .int .i64 0] 61) = w2 := ⟨_, rfl⟩
  rw [hw2] at s1 hgc2 ⊢
  have hw2z : w2.heap.size = w1.heap.size + 1 := by rw [← hw2]; simp
  have S1 : Hid (St W w2 _) := s1
  have hG := s1.h3
  have HC2 : Hid (∀ q v, [.int .i64 (O i 0), .int .i64 (O i 1), .int .i64 (O i 2), .int .i64 (O i 3), .int .i64 (O i 4), .int .i64 (O i 5), .int .i64 (O i 6), .int .i64 (O i 7), .int .i64 (O i 8), .int .i64 (O i 9), .int .i64 (O i 10), .int .i64 (O i 11), .slice wa lw cw, .slice ba lb cb, .int .i64 (O i 14), .int .i64 (O i 15), .int .i64 (O i 16), .int .i64 (O i 17), .int .i64 (O i 18), .int .i64 (O i 19), .int .i64 (O i 20), .int .i64 (O i 21)][q]? = some v → w2.cell? ((x.add (i * 22)).add q) = some v) := fun q v hq => (s1.below.cell (World.block_lt_of_cell? W _ (Hc.out q v hq))).trans (Hc.out q v hq)
  clear hw2 s0 s1 c1 f1 c2 f2
  refine regionC (fun w' => Below w2.heap.size w2 w') (by kernel_rfl) ?_
  obtain ⟨wd, hwd⟩ : ∃ wd, w2.drew = wd := ⟨_, rfl⟩
  have hdB : Below w2.heap.size w2 wd := by rw [← hwd]; exact (Below.refl _ _).drew
  have S2 : Hid (St W wd _) := S1.out.call hdB
  rw [hwd]
  have hwz : Hid (wd.heap.size = w1.heap.size + 1) := by unfold Hid; rw [← hwd]; exact hw2z
  clear hw2z
  have HD : Hid (Below w2.heap.size w2 wd) := hdB
  clear hwd hdB
  refine takeC 0 (v := .pointer (some ⟨W.heap.size, 5, none⟩)) rfl rfl (by kernel_rfl) (by kernel_rfl) (by kernel_rfl) (fun _ _ _ h => h) (fun _ => rfl) rfl (fun w' hw' => by go_simp) ?_
  refine takeC 1 (v := .slice (some x) on oc) rfl rfl (by kernel_rfl) (by kernel_rfl) (by kernel_rfl) (fun _ _ _ h => h) (fun _ => rfl) rfl (fun w' hw' => by have hc := (cells_at ((hw'.block _ (lt_of_heap hG)).trans hG)).1 5; go_simp) ?_
  refine takeC 2 (v := .int .i64 ((i : Int) + 1)) rfl rfl (by kernel_rfl) (by kernel_rfl) (by kernel_rfl) (fun _ _ _ h => h) (fun _ => rfl) rfl (fun w' hw' => by go_simp) ?_
  refine takeC 3 (v := .int .i64 (i : Int)) rfl rfl (by kernel_rfl) (by kernel_rfl) (by kernel_rfl) (fun _ _ _ h => h) (fun _ => rfl) rfl (fun w' hw' => by go_simp; rw [IntKind.wrap_i64]; omega) ?_
  refine takeC 4 (v := .pointer (some (x.add (i * 22)))) rfl rfl (by kernel_rfl) (by kernel_rfl) (by kernel_rfl) (fun _ _ _ h => h) (fun _ => rfl) rfl (fun w' hw' => by go_simp) ?_
  refine takeC 5 (v := .agg #[.int .i64 (O i 0), .int .i64 (O i 1), .int .i64 (O i 2), .int .i64 (O i 3), .int .i64 (O i 4), .int .i64 (O i 5), .int .i64 (O i 6), .int .i64 (O i 7), .int .i64 (O i 8), .int .i64 (O i 9), .int .i64 (O i 10), .int .i64 (O i 11), .slice wa lw cw, .slice ba lb cb, .int .i64 (O i 14), .int .i64 (O i 15), .int .i64 (O i 16), .int .i64 (O i 17), .int .i64 (O i 18), .int .i64 (O i 19), .int .i64 (O i 20), .int .i64 (O i 21)]) rfl rfl (by kernel_rfl) (by kernel_rfl) (by kernel_rfl) (fun _ _ _ h => h) (fun _ => rfl) rfl (fun w' hw' => run_la 34 (.tmp 34) rfl (x.add (i * 22)) (by kernel_rfl) [.int .i64 (O i 0), .int .i64 (O i 1), .int .i64 (O i 2), .int .i64 (O i 3), .int .i64 (O i 4), .int .i64 (O i 5), .int .i64 (O i 6), .int .i64 (O i 7), .int .i64 (O i 8), .int .i64 (O i 9), .int .i64 (O i 10), .int .i64 (O i 11), .slice wa lw cw, .slice ba lb cb, .int .i64 (O i 14), .int .i64 (O i 15), .int .i64 (O i 16), .int .i64 (O i 17), .int .i64 (O i 18), .int .i64 (O i 19), .int .i64 (O i 20), .int .i64 (O i 21)] _ (fun q v hq => (hw'.cell (World.block_lt_of_cell? _ _ (HC2.out q v hq))).trans (HC2.out q v hq)) Try.underlying34 rfl (by kernel_rfl)) ?_
  refine takeC 6 (v := .slice (some ⟨g, 0, none⟩) (on + 1) cap) rfl rfl (by kernel_rfl) (by kernel_rfl) (by kernel_rfl) (fun _ _ _ h => h) (fun _ => rfl) rfl (fun w' hw' => by go_simp) ?_
  refine takeC 7 (v := .int .i64 ((i : Int) + 1)) rfl rfl (by kernel_rfl) (by kernel_rfl) (by kernel_rfl) (fun _ _ _ h => h) (fun _ => rfl) rfl (fun w' hw' => by go_simp) ?_
  refine takeC 8 (v := .pointer (some ⟨g, (i + 1) * 3, none⟩)) rfl rfl (by kernel_rfl) (by kernel_rfl) (by kernel_rfl) (fun _ _ _ h => h) (fun _ => rfl) rfl (fun w' hw' => by go_simp; intro q; omega) ?_
  refine takeC 9 (v := .agg #[.int .i64 H, .int .i64 V, .int .i64 C]) rfl rfl (by kernel_rfl) (by kernel_rfl) (by kernel_rfl) (fun _ _ _ h => h) (fun _ => rfl) rfl (fun w' hw' => run_la 23 (.tmp 38) rfl ⟨g, (i + 1) * 3, none⟩ (by kernel_rfl) [.int .i64 H, .int .i64 V, .int .i64 C] _ (three_at ((hw'.block _ (lt_of_heap hgc2.out)).trans hgc2.out) b1 b2 b3) Try.underlying23 rfl (by kernel_rfl)) ?_
  refine takeC 10 (v := .agg #[.int .i64 (O i 0), .int .i64 (O i 1), .int .i64 (O i 2), .int .i64 (O i 3), .int .i64 (O i 4), .int .i64 (O i 5), .int .i64 (O i 6), .int .i64 (O i 7), .int .i64 (O i 8), .int .i64 (O i 9), .int .i64 (O i 10), .int .i64 (O i 11), .slice wa lw cw, .slice ba lb cb, .int .i64 (O i 14), .int .i64 (O i 15), .int .i64 (O i 16), .int .i64 (O i 17), .int .i64 (O i 18), .int .i64 (O i 19), .int .i64 (O i 20), .int .i64 (O i 21), .int .i64 0, .int .i64 0, .int .i64 0, .int .i64 H, .int .i64 V, .int .i64 C]) rfl rfl (by kernel_rfl) (by kernel_rfl) (by kernel_rfl) (fun _ _ _ h => h) (fun _ => rfl) rfl (fun w' hw' => by kernel_rfl) ?_
  refine stepC 11 HD.out (by kernel_rfl) rfl (fun K hK => step_wp rfl ?_)
  go_simp
  refine hK _ _ ?_
  clear hK K
  have HA : Hid (Below w2.heap.size w2 (wd.alloc (.cells #[.int .i64 0, .int .i64 0, .int .i64 0, .int .i64 0, .int .i64 0, .int .i64 0, .int .i64 0, .int .i64 0, .int .i64 0, .int .i64 0, .int .i64 0, .int .i64 0, .slice none 0 0, .slice none 0 0, .int .i64 0, .int .i64 0, .int .i64 0, .int .i64 0, .int .i64 0, .int .i64 0, .int .i64 0, .int .i64 0, .int .i64 0, .int .i64 0, .int .i64 0, .int .i64 0, .int .i64 0, .int .i64 0] 66))) := HD.out.alloc HD.out.size _
  refine stepC 12 HA.out (by kernel_rfl) rfl (fun K hK => step_wp rfl (wp_store_row 66 (.tmp 8) (.tmp 40) rfl wd.heap.size #[.int .i64 (O i 0), .int .i64 (O i 1), .int .i64 (O i 2), .int .i64 (O i 3), .int .i64 (O i 4), .int .i64 (O i 5), .int .i64 (O i 6), .int .i64 (O i 7), .int .i64 (O i 8), .int .i64 (O i 9), .int .i64 (O i 10), .int .i64 (O i 11), .slice wa lw cw, .slice ba lb cb, .int .i64 (O i 14), .int .i64 (O i 15), .int .i64 (O i 16), .int .i64 (O i 17), .int .i64 (O i 18), .int .i64 (O i 19), .int .i64 (O i 20), .int .i64 (O i 21), .int .i64 0, .int .i64 0, .int .i64 0, .int .i64 H, .int .i64 V, .int .i64 C] (by kernel_rfl) (by kernel_rfl) 66 #[.int .i64 0, .int .i64 0, .int .i64 0, .int .i64 0, .int .i64 0, .int .i64 0, .int .i64 0, .int .i64 0, .int .i64 0, .int .i64 0, .int .i64 0, .int .i64 0, .slice none 0 0, .slice none 0 0, .int .i64 0, .int .i64 0, .int .i64 0, .int .i64 0, .int .i64 0, .int .i64 0, .int .i64 0, .int .i64 0, .int .i64 0, .int .i64 0, .int .i64 0, .int .i64 0, .int .i64 0, .int .i64 0] (heap_alloc_new wd _) (by kernel_rfl) rfl (by simp [Value.oneCell']) (hK _ _ ?_)))
  rw [World.setRow_alloc_new]
  refine doneC (HD.out.alloc HD.out.size _) (by kernel_rfl) ?_ _
  have s3 := S2.out.new (c := #[.int .i64 (O i 0), .int .i64 (O i 1), .int .i64 (O i 2), .int .i64 (O i 3), .int .i64 (O i 4), .int .i64 (O i 5), .int .i64 (O i 6), .int .i64 (O i 7), .int .i64 (O i 8), .int .i64 (O i 9), .int .i64 (O i 10), .int .i64 (O i 11), .slice wa lw cw, .slice ba lb cb, .int .i64 (O i 14), .int .i64 (O i 15), .int .i64 (O i 16), .int .i64 (O i 17), .int .i64 (O i 18), .int .i64 (O i 19), .int .i64 (O i 20), .int .i64 (O i 21), .int .i64 0, .int .i64 0, .int .i64 0, .int .i64 H, .int .i64 V, .int .i64 C]) (t := 66)
  have hgc3 : Hid ((wd.alloc (.cells #[.int .i64 (O i 0), .int .i64 (O i 1), .int .i64 (O i 2), .int .i64 (O i 3), .int .i64 (O i 4), .int .i64 (O i 5), .int .i64 (O i 6), .int .i64 (O i 7), .int .i64 (O i 8), .int .i64 (O i 9), .int .i64 (O i 10), .int .i64 (O i 11), .slice wa lw cw, .slice ba lb cb, .int .i64 (O i 14), .int .i64 (O i 15), .int .i64 (O i 16), .int .i64 (O i 17), .int .i64 (O i 18), .int .i64 (O i 19), .int .i64 (O i 20), .int .i64 (O i 21), .int .i64 0, .int .i64 0, .int .i64 0, .int .i64 H, .int .i64 V, .int .i64 C] 66)).heap[g]? = some (.cells cur 23 (0, 0))) := ((HD.out.alloc HD.out.size _).block g (lt_of_heap hgc2.out)).trans hgc2.out
  obtain ⟨w4, hw4⟩ : ∃ w4, wd.alloc (.cells #[.int .i64 (O i 0), .int .i64 (O i 1), .int .i64 (O i 2), .int .i64 (O i 3), .int .i64 (O i 4), .int .i64 (O i 5), .int .i64 (O i 6), .int .i64 (O i 7), .int .i64 (O i 8), .int .i64 (O i 9), .int .i64 (O i 10), .int .i64 (O i 11), .slice wa lw cw, .slice ba lb cb, .int .i64 (O i 14), .int .i64 (O i 15), .int .i64 (O i 16), .int .i64 (O i 17), .int .i64 (O i 18), .int .i64 (O i 19), .int .i64 (O i 20), .int .i64 (O i 21), .int .i64 0, .int .i64 0, .int .i64 0, .int .i64 H, .int .i64 V, .int .i64 C] 66) = w4 := ⟨_, rfl⟩
  rw [hw4] at s3 hgc3 ⊢
  have S3 : Hid (St W w4 _) := s3
  obtain ⟨c1, f1, z1, -, -, -, c3, f3, z3, c4, f4, z4, -⟩ := s3.rules
  clear hw4 S1 S2 HD HA hgc2 HC2 Hc s3 c3 f3 c4 f4 hG
  go_wp2_with fail
  refine (red_any _ _).mono ?_
  rintro e w' ⟨rfl, hw'⟩
  have hw'' := hw'.symm
  subst hw''
  rw [hrb]
  have hz : w1.heap.size < wd.heap.size := by have := hwz.out; omega
  cases rb with
  | false =>
    go_wp2_with (refine wpList_store_row rfl 66 (.tmp 4) (.tmp 46) rfl (W.heap.size + 1) #[.int .i64 0, .int .i64 0, .int .i64 0, .int .i64 0, .int .i64 0, .int .i64 0, .int .i64 0, .int .i64 0, .int .i64 0, .int .i64 0, .int .i64 0, .int .i64 0, .slice none 0 0, .slice none 0 0, .int .i64 0, .int .i64 0, .int .i64 0, .int .i64 0, .int .i64 0, .int .i64 0, .int .i64 0, .int .i64 0, .int .i64 0, .int .i64 0, .int .i64 0, .int .i64 0, .int .i64 0, .int .i64 0] rfl rfl 66 #[.int .i64 0, .int .i64 0, .int .i64 0, .int .i64 0, .int .i64 0, .int .i64 0, .int .i64 0, .int .i64 0, .int .i64 0, .int .i64 0, .int .i64 0, .int .i64 0, .slice none 0 0, .slice none 0 0, .int .i64 0, .int .i64 0, .int .i64 0, .int .i64 0, .int .i64 0, .int .i64 0, .int .i64 0, .int .i64 0, .int .i64 0, .int .i64 0, .int .i64 0, .int .i64 0, .int .i64 0, .int .i64 0] S3.out.h3 (by kernel_rfl) rfl (by simp [Value.oneCell']) ?_; have hZ' := setRow_heap _ (W.heap.size + 1) #[.int .i64 0, .int .i64 0, .int .i64 0, .int .i64 0, .int .i64 0, .int .i64 0, .int .i64 0, .int .i64 0, .int .i64 0, .int .i64 0, .int .i64 0, .int .i64 0, .slice none 0 0, .slice none 0 0, .int .i64 0, .int .i64 0, .int .i64 0, .int .i64 0, .int .i64 0, .int .i64 0, .int .i64 0, .int .i64 0, .int .i64 0, .int .i64 0, .int .i64 0, .int .i64 0, .int .i64 0, .int .i64 0] #[.int .i64 0, .int .i64 0, .int .i64 0, .int .i64 0, .int .i64 0, .int .i64 0, .int .i64 0, .int .i64 0, .int .i64 0, .int .i64 0, .int .i64 0, .int .i64 0, .slice none 0 0, .slice none 0 0, .int .i64 0, .int .i64 0, .int .i64 0, .int .i64 0, .int .i64 0, .int .i64 0, .int .i64 0, .int .i64 0, .int .i64 0, .int .i64 0, .int .i64 0, .int .i64 0, .int .i64 0, .int .i64 0] 66 (0, 0) S3.out.h3; have hB' : Hid (Below W.heap.size W (_ : World)) := below_setRow S3.out.below (show W.heap.size ≤ W.heap.size + 1 by omega) #[.int .i64 0, .int .i64 0, .int .i64 0, .int .i64 0, .int .i64 0, .int .i64 0, .int .i64 0, .int .i64 0, .int .i64 0, .int .i64 0, .int .i64 0, .int .i64 0, .slice none 0 0, .slice none 0 0, .int .i64 0, .int .i64 0, .int .i64 0, .int .i64 0, .int .i64 0, .int .i64 0, .int .i64 0, .int .i64 0, .int .i64 0, .int .i64 0, .int .i64 0, .int .i64 0, .int .i64 0, .int .i64 0]; clear c1 f1; generalize World.setRow _ _ _ = w5 at hZ' hB' ⊢)
    exact bodyPost_ret (results_row_tmp Try.results22 _ _ (W.heap.size + 1) 66 _ _ (.int .i64 81) rfl hZ' Try.underlying66 rfl (by kernel_rfl) rfl) rfl ⟨rfl, hB'.out⟩
  | true =>
    have a1' : w4.cell? ⟨g, (O i 1).toNat * 3, none⟩ = some (.int .i64 x0) := by rw [(cells_at hgc3.out).1]; exact a1
    have a2' : w4.cell? ⟨g, (O i 1).toNat * 3 + 1, none⟩ = some (.int .i64 y0) := by rw [(cells_at hgc3.out).1]; exact a2
    have a3' : w4.cell? ⟨g, (O i 1).toNat * 3 + 2, none⟩ = some (.int .i64 z0) := by rw [(cells_at hgc3.out).1]; exact a3
    clear a1 a2 a3 b1 b2 b3
    go_upto_region 10 with fail
    have hR1 : (((w4.setCell ⟨wd.heap.size, 22, none⟩ (.int .i64 x0)).setCell ⟨wd.heap.size, 23, none⟩ (.int .i64 y0)).setCell ⟨wd.heap.size, 24, none⟩ (.int .i64 z0)).heap[wd.heap.size]? = some (.cells #[.int .i64 (O i 0), .int .i64 (O i 1), .int .i64 (O i 2), .int .i64 (O i 3), .int .i64 (O i 4), .int .i64 (O i 5), .int .i64 (O i 6), .int .i64 (O i 7), .int .i64 (O i 8), .int .i64 (O i 9), .int .i64 (O i 10), .int .i64 (O i 11), .slice wa lw cw, .slice ba lb cb, .int .i64 (O i 14), .int .i64 (O i 15), .int .i64 (O i 16), .int .i64 (O i 17), .int .i64 (O i 18), .int .i64 (O i 19), .int .i64 (O i 20), .int .i64 (O i 21), .int .i64 x0, .int .i64 y0, .int .i64 z0, .int .i64 H, .int .i64 V, .int .i64 C] 66 (0, 0)) := heap_setCell_at (heap_setCell_at (heap_setCell_at S3.out.h1))
    have hZ1 : (((w4.setCell ⟨wd.heap.size, 22, none⟩ (.int .i64 x0)).setCell ⟨wd.heap.size, 23, none⟩ (.int .i64 y0)).setCell ⟨wd.heap.size, 24, none⟩ (.int .i64 z0)).heap[W.heap.size + 1]? = some (.cells #[.int .i64 0, .int .i64 0, .int .i64 0, .int .i64 0, .int .i64 0, .int .i64 0, .int .i64 0, .int .i64 0, .int .i64 0, .int .i64 0, .int .i64 0, .int .i64 0, .slice none 0 0, .slice none 0 0, .int .i64 0, .int .i64 0, .int .i64 0, .int .i64 0, .int .i64 0, .int .i64 0, .int .i64 0, .int .i64 0, .int .i64 0, .int .i64 0, .int .i64 0, .int .i64 0, .int .i64 0, .int .i64 0] 66 (0, 0)) := by
      have hne : W.heap.size + 1 ≠ wd.heap.size := by omega
      rw [Below.heap_setCell _ _ _ _ hne, Below.heap_setCell _ _ _ _ hne, Below.heap_setCell _ _ _ _ hne]
      exact S3.out.h3
    have hB1 : Hid (Below W.heap.size W (((w4.setCell ⟨wd.heap.size, 22, none⟩ (.int .i64 x0)).setCell ⟨wd.heap.size, 23, none⟩ (.int .i64 y0)).setCell ⟨wd.heap.size, 24, none⟩ (.int .i64 z0))) := ((S3.out.below.setCell (p := ⟨wd.heap.size, 22, none⟩) (by show W.heap.size ≤ wd.heap.size; omega) _).setCell (p := ⟨wd.heap.size, 23, none⟩) (by show W.heap.size ≤ wd.heap.size; omega) _).setCell (p := ⟨wd.heap.size, 24, none⟩) (by show W.heap.size ≤ wd.heap.size; omega) _
    obtain ⟨w5, hw5⟩ : ∃ w5, ((w4.setCell ⟨wd.heap.size, 22, none⟩ (.int .i64 x0)).setCell ⟨wd.heap.size, 23, none⟩ (.int .i64 y0)).setCell ⟨wd.heap.size, 24, none⟩ (.int .i64 z0) = w5 := ⟨_, rfl⟩
    rw [hw5] at hR1 hZ1 hB1 ⊢
    have HZ1 : Hid (w5.heap[W.heap.size + 1]? = some (.cells #[.int .i64 0, .int .i64 0, .int .i64 0, .int .i64 0, .int .i64 0, .int .i64 0, .int .i64 0, .int .i64 0, .int .i64 0, .int .i64 0, .int .i64 0, .int .i64 0, .slice none 0 0, .slice none 0 0, .int .i64 0, .int .i64 0, .int .i64 0, .int .i64 0, .int .i64 0, .int .i64 0, .int .i64 0, .int .i64 0, .int .i64 0, .int .i64 0, .int .i64 0, .int .i64 0, .int .i64 0, .int .i64 0] 66 (0, 0))) := hZ1
    clear hw5 c1 f1 a1' a2' a3' S3 hgc3 hZ1
    go_wp2_with (first
      | (refine wpList_load_row rfl 66 (.tmp 8) rfl wd.heap.size rfl 66 _ (0, 0) _ hR1 Try.underlying66 rfl (by kernel_rfl) ?_)
      | (refine wpList_store_row rfl 66 (.tmp 4) (.tmp 54) rfl (W.heap.size + 1) #[.int .i64 (O i 0), .int .i64 (O i 1), .int .i64 (O i 2), .int .i64 (O i 3), .int .i64 (O i 4), .int .i64 (O i 5), .int .i64 (O i 6), .int .i64 (O i 7), .int .i64 (O i 8), .int .i64 (O i 9), .int .i64 (O i 10), .int .i64 (O i 11), .slice wa lw cw, .slice ba lb cb, .int .i64 (O i 14), .int .i64 (O i 15), .int .i64 (O i 16), .int .i64 (O i 17), .int .i64 (O i 18), .int .i64 (O i 19), .int .i64 (O i 20), .int .i64 (O i 21), .int .i64 x0, .int .i64 y0, .int .i64 z0, .int .i64 H, .int .i64 V, .int .i64 C] rfl rfl 66 #[.int .i64 0, .int .i64 0, .int .i64 0, .int .i64 0, .int .i64 0, .int .i64 0, .int .i64 0, .int .i64 0, .int .i64 0, .int .i64 0, .int .i64 0, .int .i64 0, .slice none 0 0, .slice none 0 0, .int .i64 0, .int .i64 0, .int .i64 0, .int .i64 0, .int .i64 0, .int .i64 0, .int .i64 0, .int .i64 0, .int .i64 0, .int .i64 0, .int .i64 0, .int .i64 0, .int .i64 0, .int .i64 0] HZ1.out (by kernel_rfl) rfl (by simp [Value.oneCell']) ?_; have hZ' := setRow_heap _ (W.heap.size + 1) #[.int .i64 0, .int .i64 0, .int .i64 0, .int .i64 0, .int .i64 0, .int .i64 0, .int .i64 0, .int .i64 0, .int .i64 0, .int .i64 0, .int .i64 0, .int .i64 0, .slice none 0 0, .slice none 0 0, .int .i64 0, .int .i64 0, .int .i64 0, .int .i64 0, .int .i64 0, .int .i64 0, .int .i64 0, .int .i64 0, .int .i64 0, .int .i64 0, .int .i64 0, .int .i64 0, .int .i64 0, .int .i64 0] #[.int .i64 (O i 0), .int .i64 (O i 1), .int .i64 (O i 2), .int .i64 (O i 3), .int .i64 (O i 4), .int .i64 (O i 5), .int .i64 (O i 6), .int .i64 (O i 7), .int .i64 (O i 8), .int .i64 (O i 9), .int .i64 (O i 10), .int .i64 (O i 11), .slice wa lw cw, .slice ba lb cb, .int .i64 (O i 14), .int .i64 (O i 15), .int .i64 (O i 16), .int .i64 (O i 17), .int .i64 (O i 18), .int .i64 (O i 19), .int .i64 (O i 20), .int .i64 (O i 21), .int .i64 x0, .int .i64 y0, .int .i64 z0, .int .i64 H, .int .i64 V, .int .i64 C] 66 (0, 0) HZ1.out; have hB' : Hid (Below W.heap.size W (_ : World)) := below_setRow hB1.out (show W.heap.size ≤ W.heap.size + 1 by omega) #[.int .i64 (O i 0), .int .i64 (O i 1), .int .i64 (O i 2), .int .i64 (O i 3), .int .i64 (O i 4), .int .i64 (O i 5), .int .i64 (O i 6), .int .i64 (O i 7), .int .i64 (O i 8), .int .i64 (O i 9), .int .i64 (O i 10), .int .i64 (O i 11), .slice wa lw cw, .slice ba lb cb, .int .i64 (O i 14), .int .i64 (O i 15), .int .i64 (O i 16), .int .i64 (O i 17), .int .i64 (O i 18), .int .i64 (O i 19), .int .i64 (O i 20), .int .i64 (O i 21), .int .i64 x0, .int .i64 y0, .int .i64 z0, .int .i64 H, .int .i64 V, .int .i64 C]; clear hR1; generalize World.setRow _ _ _ = w6 at hZ' hB' ⊢))
    exact bodyPost_ret (results_row_tmp Try.results22 _ _ (W.heap.size + 1) 66 _ _ (.int .i64 0) rfl hZ' Try.underlying66 rfl (by kernel_rfl) rfl) rfl ⟨rfl, hB'.out⟩
end Go.Proofs.Ytnjdnbbemjdabaa

/- The op that is asked, with all that is known of it; what Length, Channels and Positions of package terms return. -/
namespace Go.Proofs.Ytnjdnbbemjdabaa
open Go.ChangeShapes Go.WideShapes Go.ChangeAt Go.RowKit
set_option linter.unusedVariables false
/-- The op of that number reduces; where it lies, its lists, its shapes. -/
def Fnd (W : World) (oa : Option Addr) (on : Nat) (O : Nat → Nat → Int) (Z B : Nat → List Int) (RL : List (Int × Int × Int)) (i : Nat) (x : Addr) (wa : Option Addr) (lw cw : Nat) (ba : Option Addr) (lb cb : Nat) (x0 y0 z0 H V C : Int) : Prop :=
  i < on ∧ oa = some x ∧ O i 12 = (lw : Int) ∧ O i 13 = (lb : Int) ∧ (∀ q v, [.int .i64 (O i 0), .int .i64 (O i 1), .int .i64 (O i 2), .int .i64 (O i 3), .int .i64 (O i 4), .int .i64 (O i 5), .int .i64 (O i 6), .int .i64 (O i 7), .int .i64 (O i 8), .int .i64 (O i 9), .int .i64 (O i 10), .int .i64 (O i 11), .slice wa lw cw, .slice ba lb cb, .int .i64 (O i 14), .int .i64 (O i 15), .int .i64 (O i 16), .int .i64 (O i 17), .int .i64 (O i 18), .int .i64 (O i 19), .int .i64 (O i 20), .int .i64 (O i 21)][q]? = some v → W.cell? ((x.add (i * 22)).add q) = some v) ∧ IRow .i16 W wa lw cw (Z i) ∧ IRow .i32 W ba lb cb (B i) ∧
    RL.getD (O i 1).toNat (0, 0, 0) = (x0, y0, z0) ∧ RL.getD (i + 1) (0, 0, 0) = (H, V, C) ∧ Sit (O i 0) (O i 4) (O i 5) (O i 6) (O i 7) (O i 8) (O i 9) (O i 10) (O i 11) x0 y0 z0 H V C lw lb ∧ (0 ≤ O i 1 ∧ O i 1 ≤ (i : Int)) ∧ rdB (O i 0) = true
theorem Fnd.below {W W' : World} {oa : Option Addr} {on : Nat} {O : Nat → Nat → Int} {Z B : Nat → List Int} {RL : List (Int × Int × Int)} {i : Nat} {x : Addr} {wa : Option Addr} {lw cw : Nat} {ba : Option Addr} {lb cb : Nat} {x0 y0 z0 H V C : Int} (h : Fnd W oa on O Z B RL i x wa lw cw ba lb cb x0 y0 z0 H V C) (g : Below W.heap.size W W') : Fnd W' oa on O Z B RL i x wa lw cw ba lb cb x0 y0 z0 H V C := by
  obtain ⟨h1, h2, h3, h4, h5, h6, h7, h8⟩ := h
  exact ⟨h1, h2, h3, h4, fun q v hq => (g.cell (World.block_lt_of_cell? W _ (h5 q v hq))).trans (h5 q v hq), h6.below g, h7.below g, h8⟩
theorem found (h w c lo hi ot : Int) (oa : Option Addr) (on oc : Nat) (O : Nat → Nat → Int) (Z B : Nat → List Int) (W : World) (hL : LRow W oa on oc O Z B) (op : Int) (hf : fiE O h w c lo hi ot on op = 0) : ∃ (RL : List (Int × Int × Int)) (Rw : Int), gtR O h w c lo hi ot on = (0, 0, RL, Rw) ∧ ∃ (i : Nat) (x : Addr) (wa : Option Addr) (lw cw : Nat) (ba : Option Addr) (lb cb : Nat) (x0 y0 z0 H V C : Int), op = (i : Int) + 1 ∧ Fnd W oa on O Z B RL i x wa lw cw ba lb cb x0 y0 z0 H V C := by
  obtain ⟨Re, Ra, RL, Rw, hR⟩ : ∃ Re Ra RL Rw, gtR O h w c lo hi ot on = (Re, Ra, RL, Rw) := ⟨_, _, _, _, rfl⟩
  have hRe : Re = 0 := by
    by_cases q : Re = 0
    · exact q
    · rw [fiE_err (by rw [hR]) q] at hf; exact absurd hf q
  subst hRe
  obtain ⟨rfl, hl, h64, -, -, -⟩ := gtR_ok hR
  have ho : 1 ≤ op ∧ op ≤ (on : Int) := by
    by_cases q : 1 ≤ op ∧ op ≤ (on : Int)
    · exact q
    · rw [fiE_3 (by rw [hR]) q] at hf; cases hf
  obtain ⟨i, rfl⟩ : ∃ i : Nat, op = (i : Int) + 1 := ⟨(op - 1).toNat, by omega⟩
  have hi0 : i < on := by omega
  have hk : rdB (O i 0) = true := by
    cases q : rdB (O i 0) with
    | true => rfl
    | false => rw [fiE_81 (by rw [hR]) hi0 q] at hf; cases hf
  refine ⟨RL, Rw, hR, ?_⟩
  obtain ⟨x, rfl⟩ : ∃ x, oa = some x := by
    cases oa with
    | none => have h1 := hL.2.2.1 rfl; have h2 := hL.1; omega
    | some x => exact ⟨x, rfl⟩
  obtain ⟨wa, lw, cw, ba, lb, cb, e12, e13, hcell, hz, hb, -, -⟩ := hL.2.2.2 x rfl i hi0
  obtain ⟨j, hj, hji, hs⟩ := sit_of hR hi0 (of_decide_eq_true hk)
  obtain ⟨x0, y0, z0, hA⟩ : ∃ x0 y0 z0, RL.getD (O i 1).toNat (0, 0, 0) = (x0, y0, z0) := ⟨_, _, _, rfl⟩
  obtain ⟨H, V, C, hB⟩ : ∃ H V C, RL.getD (i + 1) (0, 0, 0) = (H, V, C) := ⟨_, _, _, rfl⟩
  have hS := hs x0 y0 z0 H V C (by unfold ShA; rw [← hj]; exact hA) (by unfold ShA; rw [Int.toNat_natCast]; exact hB)
  rw [e12, e13, Int.toNat_natCast, Int.toNat_natCast] at hS
  exact ⟨i, x, wa, lw, cw, ba, lb, cb, x0, y0, z0, H, V, C, rfl, hi0, rfl, e12, e13, hcell, hz, hb, hA, hB, hS, ⟨by omega, by omega⟩, hk⟩
theorem find_bad (h w c lo hi ot : Int) (oa : Option Addr) (on oc : Nat) (O : Nat → Nat → Int) (Z B : Nat → List Int) (W : World) (hL : LRow W oa on oc O Z B) (op E : Int) (hf : fiE O h w c lo hi ot on op = E) (hE : E ≠ 0) :
    Calls Try.prog 22 #[.agg #[.int .i64 h, .int .i64 w, .int .i64 c, .int .i64 lo, .int .i64 hi, .slice oa on oc, .int .i64 ot], .int .i64 op] W fun e w' => e = .returned (.tuple #[.agg #[.int .i64 0, .int .i64 0, .int .i64 0, .int .i64 0, .int .i64 0, .int .i64 0, .int .i64 0, .int .i64 0, .int .i64 0, .int .i64 0, .int .i64 0, .int .i64 0, .slice none 0 0, .slice none 0 0, .int .i64 0, .int .i64 0, .int .i64 0, .int .i64 0, .int .i64 0, .int .i64 0, .int .i64 0, .int .i64 0, .int .i64 0, .int .i64 0, .int .i64 0, .int .i64 0, .int .i64 0, .int .i64 0], .int .i64 E]) ∧ Below W.heap.size W w' := by
  obtain ⟨Re, Ra, RL, Rw, hR⟩ : ∃ Re Ra RL Rw, gtR O h w c lo hi ot on = (Re, Ra, RL, Rw) := ⟨_, _, _, _, rfl⟩
  by_cases q : Re = 0
  · subst q
    by_cases ho : 1 ≤ op ∧ op ≤ (on : Int)
    · obtain ⟨rfl, hl, h64, -, -, -⟩ := gtR_ok hR
      obtain ⟨i, rfl⟩ : ∃ i : Nat, op = (i : Int) + 1 := ⟨(op - 1).toNat, by omega⟩
      have hi0 : i < on := by omega
      cases hk : rdB (O i 0) with
      | true => rw [fiE_0 (by rw [hR]) hi0 hk] at hf; exact absurd hf.symm hE
      | false =>
        rw [fiE_81 (by rw [hR]) hi0 hk] at hf
        subst hf
        obtain ⟨x, rfl⟩ : ∃ x, oa = some x := by
          cases oa with
          | none => have h1 := hL.2.2.1 rfl; have h2 := hL.1; omega
          | some x => exact ⟨x, rfl⟩
        obtain ⟨wa, lw, cw, ba, lb, cb, e12, e13, hcell, hz, hb, -, -⟩ := hL.2.2.2 x rfl i hi0
        obtain ⟨j, hj, hji, -⟩ := (gtR_at hR).2 i hi0
        exact find_r h w c lo hi ot x on oc i O W hL.m hi0 wa lw cw ba lb cb hcell Rw RL hR (by omega) (by omega) _ _ _ _ _ _ rfl rfl false hk
    · rw [fiE_3 (by rw [hR]) ho] at hf
      subst hf
      exact find_3 h w c lo hi ot op oa on oc O W hL.m Ra Rw RL hR ho
  · rw [fiE_err (by rw [hR]) q] at hf
    subst hf
    exact find_e h w c lo hi ot op oa on oc O W hL.m _ Ra Rw RL hR hE
theorem find_ok (h w c lo hi ot : Int) (oa : Option Addr) (on oc : Nat) (O : Nat → Nat → Int) (Z B : Nat → List Int) (W : World) (hL : LRow W oa on oc O Z B) (RL : List (Int × Int × Int)) (Rw : Int) (hR : gtR O h w c lo hi ot on = (0, 0, RL, Rw)) (i : Nat) (x : Addr) (wa : Option Addr) (lw cw : Nat) (ba : Option Addr) (lb cb : Nat) (x0 y0 z0 H V C : Int) (hF : Fnd W oa on O Z B RL i x wa lw cw ba lb cb x0 y0 z0 H V C) :
    Calls Try.prog 22 #[.agg #[.int .i64 h, .int .i64 w, .int .i64 c, .int .i64 lo, .int .i64 hi, .slice oa on oc, .int .i64 ot], .int .i64 ((i : Int) + 1)] W fun e w' => e = .returned (.tuple #[.agg #[.int .i64 (O i 0), .int .i64 (O i 1), .int .i64 (O i 2), .int .i64 (O i 3), .int .i64 (O i 4), .int .i64 (O i 5), .int .i64 (O i 6), .int .i64 (O i 7), .int .i64 (O i 8), .int .i64 (O i 9), .int .i64 (O i 10), .int .i64 (O i 11), .slice wa lw cw, .slice ba lb cb, .int .i64 (O i 14), .int .i64 (O i 15), .int .i64 (O i 16), .int .i64 (O i 17), .int .i64 (O i 18), .int .i64 (O i 19), .int .i64 (O i 20), .int .i64 (O i 21), .int .i64 x0, .int .i64 y0, .int .i64 z0, .int .i64 H, .int .i64 V, .int .i64 C], .int .i64 0]) ∧ Below W.heap.size W w' := by
  obtain ⟨h1, rfl, h3, h4, h5, h6, h7, h8, h9, h10, h11, h12⟩ := hF
  exact find_r h w c lo hi ot x on oc i O W hL.m h1 wa lw cw ba lb cb h5 Rw RL hR h11.1 h11.2 _ _ _ _ _ _ h8 h9 true h12
end Go.Proofs.Ytnjdnbbemjdabaa
