/- What the document's Terms returns, of an op with a window. The document's Terms, of whatever kind. What norm and the document return, of each model, op, channel and span. one and fixed of law12. What greatestUnder and greatest of package plain return. What greatest of package plain returns; lists that grow. -/
import Derived.Test.YtjjckaklhafibaaGr15
import Derived.Test.YtjjckaklhafibaaGr23
import Derived.Test.YtjjckaklhafibaaGr24
import Derived.Test.YtjjckaklhafibaaGr26
import Derived.Test.YtjjckaklhafibaaGr27
import Derived.Deep.RegionLawGrows
/- What the document's Terms returns, of an op with a window. -/
namespace Go.Proofs.Ytjjckaklhafibaa
open Go.ChangeShapes Go.WideShapes Go.ChangeAt Go.RowKit
set_option linter.unusedVariables false
theorem covL_get (h w kw t u : Int) {n i : Nat} (hi : i < n) : (Nx.covL h w kw t u n).getD i 0 = tpc h w kw t u (i : Int) := by simp [Nx.covL, List.getD, hi, tpc]
theorem otm_other {w : World} {base B i : Nat} {v u : Value} {L : List (Int × Int)} (h : OTm w base v L) (hn : v.ownBlock ≠ some B) : OTm (w.setCell ⟨B, i, none⟩ u) base v L := by
  refine World.ownsRow.kept h (grown_set w B i u) ?_
  cases e : v.ownBlock with
  | none => exact .inl rfl
  | some b => exact .inr (fun q => hn (by rw [e, q]))
set_option maxRecDepth 100000 in
set_option maxHeartbeats 8000000 in
theorem rterms_w (k a b m kh kw sh sw tp lf bt rt : Int) (wa : Option Addr) (lw wc : Nat) (ba : Option Addr) (lb bc : Nat) (sm ss um us z p lo hi h w : Int) (cn : Nat) (H V C : Int) (W : World) (zs : List Int) (hZ : IRow .i16 W wa lw wc zs) (s : Sit k kh kw sh sw tp lf bt rt h w (cn : Int) H V C lw lb) (k1 : k ≠ 1) (ch at' t u : Int) (hch : 1 ≤ ch ∧ ch ≤ C) (hcc : coR h w (cn : Int) kh kw sh sw tp lf bt rt at' = (t, u, 0)) (st : Nat) (hst : stR k kh kw h w (cn : Int) = (st : Int)) :
    Calls Try.prog 20 #[.agg #[.int .i64 k, .int .i64 a, .int .i64 b, .int .i64 m, .int .i64 kh, .int .i64 kw, .int .i64 sh, .int .i64 sw, .int .i64 tp, .int .i64 lf, .int .i64 bt, .int .i64 rt, .slice wa lw wc, .slice ba lb bc, .int .i64 sm, .int .i64 ss, .int .i64 um, .int .i64 us, .int .i64 z, .int .i64 p, .int .i64 lo, .int .i64 hi, .int .i64 h, .int .i64 w, .int .i64 (cn : Int), .int .i64 H, .int .i64 V, .int .i64 C], .int .i64 ch, .int .i64 at'] W fun e w' => (∃ v, e = .returned v ∧ OTm w' W.heap.size v (tmL k (cn : Int) ch h w kw t u st zs st)) ∧ Below W.heap.size W w' := by
  have hLe : Hid (∀ W', Calls Try.prog 37 #[.agg #[.int .i64 k, .int .i64 a, .int .i64 b, .int .i64 m, .int .i64 kh, .int .i64 kw, .int .i64 sh, .int .i64 sw, .int .i64 tp, .int .i64 lf, .int .i64 bt, .int .i64 rt, .slice wa lw wc, .slice ba lb bc, .int .i64 sm, .int .i64 ss, .int .i64 um, .int .i64 us, .int .i64 z, .int .i64 p, .int .i64 lo, .int .i64 hi, .int .i64 h, .int .i64 w, .int .i64 (cn : Int), .int .i64 H, .int .i64 V, .int .i64 C]] W' fun e w' => e = .returned (.int .i64 st) ∧ Below W'.heap.size W' w') := fun W' => by rw [← hst]; exact rlen_any k a b m kh kw sh sw tp lf bt rt wa lw wc ba lb bc sm ss um us z p lo hi h w (cn : Int) H V C W' s
  have hWg : Hid (∀ (w' : World) (i : Nat), i < st → Below W.heap.size W w' → Calls Try.prog 38 #[.agg #[.int .i64 k, .int .i64 a, .int .i64 b, .int .i64 m, .int .i64 kh, .int .i64 kw, .int .i64 sh, .int .i64 sw, .int .i64 tp, .int .i64 lf, .int .i64 bt, .int .i64 rt, .slice wa lw wc, .slice ba lb bc, .int .i64 sm, .int .i64 ss, .int .i64 um, .int .i64 us, .int .i64 z, .int .i64 p, .int .i64 lo, .int .i64 hi, .int .i64 h, .int .i64 w, .int .i64 (cn : Int), .int .i64 H, .int .i64 V, .int .i64 C], .int .i64 ch, .int .i64 i] w' fun e w'' => e = .returned (.int .i64 (wgA k ch st zs i)) ∧ Below w'.heap.size w' w'') := fun w' i hj hb => by
    have := rwei_any k a b m kh kw sh sw tp lf bt rt wa lw wc ba lb bc sm ss um us z p lo hi h w (cn : Int) H V C w' zs (hZ.below hb) s ch hch i (by rw [hst]; omega)
    rw [hst] at this
    exact this
  have hTp : Hid (∀ W', _) := fun W' => Nx.rtaps_any h w (cn : Int) kh kw sh sw tp lf bt rt at' t u W' hcc
  have hlen : st ≤ 512 := by have := s.2.2.2.2.2.2.2.2.2; rw [hst] at this; omega
  obtain ⟨hk, hvA, hvB, hou, -, hwn, -, h3c, -⟩ := s
  have hC1 := (vS_yes hvB).2.2.1
  have hcn1 := (vS_yes hvA).2.2.1
  have hd1 := (vS_yes hvA).1
  have hw1 := (vS_yes hvA).2.1
  obtain ⟨hk1, hk2⟩ := hwn (by omega)
  have hm : h * w ≤ 16384 := by
    have h4 := (vS_yes hvA).2.2.2
    have p1 := (mul_bd hd1.1 hd1.2 hw1.1 hw1.2).1
    have := Int.mul_le_mul_of_nonneg_left hcn1.1 (show 0 ≤ h * w by omega)
    omega
  obtain ⟨N, hN⟩ : ∃ N : Nat, kh * kw = (N : Int) := ⟨(kh * kw).toNat, by have := (mul_bd hk1.1 hk1.2 hk2.1 hk2.2).1; omega⟩
  rw [hN, Int.toNat_natCast] at hTp
  have hstN : (k = 2 → st = N * cn) ∧ (k ≠ 2 → st = N) := by
    unfold stR at hst
    rw [if_neg k1] at hst
    constructor
    · intro k2
      rw [if_pos k2, hN] at hst
      exact_mod_cast hst.symm
    · intro k2
      rw [if_neg k2, if_pos (by omega), hN] at hst
      exact_mod_cast hst.symm
  have hN2 : N ≤ 1024 := by have := (mul_bd hk1.1 hk1.2 hk2.1 hk2.2).2; omega
  have HST : Hid ((k = 2 → st = N * cn) ∧ (k ≠ 2 → st = N)) := hstN
  have hPb : Hid (∀ q : Int, -1 ≤ tpc h w kw t u q ∧ tpc h w kw t u q ≤ 16384) := fun q => plc_bd hd1 hw1 hm
  have k1' : (k == 1) = false := by simp [k1]
  clear hst hZ hvA hvB hou hwn h3c hcc hN hm hstN
  have s0 := (St.start W).new (c := #[.int .i64 k, .int .i64 a, .int .i64 b, .int .i64 m, .int .i64 kh, .int .i64 kw, .int .i64 sh, .int .i64 sw, .int .i64 tp, .int .i64 lf, .int .i64 bt, .int .i64 rt, .slice wa lw wc, .slice ba lb bc, .int .i64 sm, .int .i64 ss, .int .i64 um, .int .i64 us, .int .i64 z, .int .i64 p, .int .i64 lo, .int .i64 hi, .int .i64 h, .int .i64 w, .int .i64 (cn : Int), .int .i64 H, .int .i64 V, .int .i64 C]) (t := 41)
  go_enter Try.func20, Try.ntmps20
  go_wp2_with (refine wpList_load_row rfl 41 (.tmp 3) rfl W.heap.size rfl 41 _ (0, 0) _ s0.h1 Try.underlying41 rfl (by kernel_rfl) ?_)
  refine (hLe.out _).mono ?_
  rintro e w1 ⟨rfl, hb⟩
  have s1 := s0.call hb
  obtain ⟨c1, f1, z1, -⟩ := s1.rules
  clear hb s0
  go_wp2_with fail
  refine (hTp.out _).mono ?_
  rintro e w2 ⟨⟨v, rfl, hOw⟩, hb⟩
  obtain ⟨ta, tc, rfl, hrow, -⟩ := hOw.row
  rw [Nx.covL_len] at hrow ⊢
  have hcap := hrow.2.1
  have hcm := hrow.2.2.1
  unfold maxLen at hcm
  have Hrow : Hid (Nx.Row w2 ta N tc (Nx.covL h w kw t u N)) := hrow
  have S2 : Hid (St W w2 _) := s1.call hb
  clear hb s1 hOw hrow c1 f1 z1
  go_wp2
  go_loopw [7, 11] (fun v i wr => ∃ y : Nat, y ≤ st ∧ i = .int .i64 y ∧ OTm wr w2.heap.size v (tmL k (cn : Int) ch h w kw t u st zs y) ∧ Below w2.heap.size w2 wr) (fun _ i _ => st - (intOf i).toNat)
  case atStart => exact ⟨0, Nat.zero_le _, rfl, OTm.nil _ _, Below.refl _ _⟩
  case round =>
    obtain ⟨y, hy, rfl, hO, hb⟩ := hrel
    have s3 := S2.out.call hb
    obtain ⟨va, vc, hve⟩ := hO.slice
    rw [tmL_len] at hve
    subst hve
    have HO : Hid (OTm _ _ _ _) := hO
    have hbz := hb.size
    have Hb : Hid (Below w2.heap.size w2 wr) := hb
    clear hO
    by_cases hlt : y < st
    · obtain ⟨c1, f1, z1, -⟩ := s3.rules
      by_cases k2 : k = 2
      · have hstN := HST.out.1 k2
        have hcn0 : 0 < cn := by omega
        obtain ⟨Q, hQe⟩ : ∃ Q, y / cn = Q := ⟨_, rfl⟩
        obtain ⟨R, hRe⟩ : ∃ R, y % cn = R := ⟨_, rfl⟩
        have hQ : Q < N := by rw [← hQe]; exact Nat.div_lt_of_lt_mul (by rw [Nat.mul_comm]; omega)
        have hR : R < cn := by rw [← hRe]; exact Nat.mod_lt _ hcn0
        have hq1 : Int.tdiv (y : Int) (cn : Int) = (Q : Int) := by rw [← hQe]; rfl
        have hq2 : Int.tmod (y : Int) (cn : Int) = (R : Int) := by rw [← hRe]; rfl
        have HP : Hid (plA k (cn : Int) ch h w kw t u y = cov (cn : Int) (tpc h w kw t u (Q : Int)) (R : Int)) := by unfold Hid plA; rw [if_neg k1, if_pos k2, ← hQe, ← hRe]; rfl
        have hc0 : ¬ ((cn : Int) = 0) := by omega
        have k2' : (k == 2) = true := by simp [k2]
        obtain ⟨D, hDe⟩ : ∃ D : Int, (R : Int) = D := ⟨_, rfl⟩
        have hD : 0 ≤ D ∧ D ≤ 1024 := by omega
        rw [hDe] at hq2 HP
        clear hQe hRe hDe hstN hR HST k2
        go_upto_region 15 with fail
        go_quiet (fail)
        have s4 := s3.call (dbel wr nq)
        have HO4 : Hid (OTm _ _ _ _) := HO.out.below (dbel wr nq)
        have Hb4 : Hid (Below w2.heap.size w2 _) := Hb.out.trans ((dbel wr nq).mono hbz)
        obtain ⟨w4, hw4⟩ : ∃ w4, wr.drewN nq = w4 := ⟨_, rfl⟩
        rw [hw4] at s4 HO4 Hb4 ⊢
        have hbz4 := Hb4.out.size
        clear hw4 c1 f1 z1 hb s3 Hb HO
        obtain ⟨P, hPe⟩ : ∃ P, tpc h w kw t u (Q : Int) = P := ⟨_, rfl⟩
        obtain ⟨x, rfl⟩ : ∃ x, ta = some x := by
          cases ta with
          | none => have h1 := Hrow.out.2.2.2.1 rfl; have h2 := Hrow.out.2.1; omega
          | some x => exact ⟨x, rfl⟩
        have hcx0 := Hrow.out.2.2.2.2 x rfl Q hQ
        rw [covL_get _ _ _ _ _ hQ, hPe] at hcx0
        have hxb : x.block < w2.heap.size := by have := World.block_lt_of_cell? _ _ hcx0; rwa [add_block] at this
        have hPb1 := hPb.out (Q : Int)
        rw [hPe] at HP hPb1
        obtain ⟨WG, hWG⟩ : ∃ WG, wgA k ch st zs y = WG := ⟨_, rfl⟩
        have hWg1 : Hid (∀ (w' : World), Below W.heap.size W w' → _) := fun w' hb => hWg.out w' y hlt hb
        rw [hWG] at hWg1
        have HS : Hid (tmL k (cn : Int) ch h w kw t u st zs (y + 1) = tmL k (cn : Int) ch h w kw t u st zs y ++ [(WG, cov (cn : Int) P D)]) := by unfold Hid; rw [tmL_succ, hWG, HP.out]
        have HLn : Hid ((tmL k (cn : Int) ch h w kw t u st zs y).length + 1 ≤ 1000000) := by unfold Hid; rw [tmL_len]; omega
        clear hPe hWG HP
        have h1 := s4.h1
        go_wp2_with (refine wpList_load_row rfl 41 (.tmp 3) rfl W.heap.size rfl 41 _ (0, 0) _ h1 Try.underlying41 rfl (by kernel_rfl) ?_)
        refine (hWg1.out _ s4.below).mono ?_
        rintro e w5 ⟨rfl, hb5⟩
        have s5 := (s4.call hb5).new (c := #[.int .i64 WG, .int .i64 (-1)]) (t := 70)
        have HOn : Hid ((Value.slice va y vc).ownBlock ≠ some w5.heap.size) := fun e => by have := (World.ownsRow.lt (HO4.out.below hb5) _ e).2; omega
        have HO5 : Hid (OTm _ _ _ _) := (HO4.out.below hb5).below (bal w5 (.cells #[.int .i64 WG, .int .i64 (-1)] 70))
        have hz5 : w2.heap.size ≤ w5.heap.size := Nat.le_trans hbz4 hb5.size
        have B5 : Hid (Below w2.heap.size w2 (w5.alloc (.cells #[.int .i64 WG, .int .i64 (-1)] 70))) := (Hb4.out.trans (hb5.mono hbz4)).alloc hz5 _
        have hWz : W.heap.size < w2.heap.size := lt_of_heap S2.out.h1
        obtain ⟨w6, hw6⟩ : ∃ w6, w5.alloc (.cells #[.int .i64 WG, .int .i64 (-1)] 70) = w6 := ⟨_, rfl⟩
        have hcx : w6.cell? (x.add Q) = some (.int .i64 P) := by rw [← hw6]; exact (B5.out.cell (by rw [add_block]; exact hxb)).trans hcx0
        have hz6 : Hid (w6.heap.size = w5.heap.size + 1) := by unfold Hid; rw [← hw6]; simp
        clear hb5 h1 s4 HO4 Hb4 hcx0
        go_upto_region 17 with fail
        rw [hw6] at s5 HO5 B5
        try rw [hw6]
        clear hw6
        have S5 : Hid (St W w6 _) := s5
        obtain ⟨c1, f1, z1, c2, f2, z2, -⟩ := s5.rules
        clear s5
        by_cases hp : P = -1
        · subst hp
          have HC : Hid (cov (cn : Int) (-1) D = -1) := if_pos rfl
          rw [HC.out] at HS
          go_wp2_with (at_builtin; refine wpList_apT rfl (.tmp 86) (.tmp 88) rfl w2.heap.size _ _ [(WG, (-1 : Int))] rfl (HO5.out.below (bal w6 _)) w6.heap.size 1 1 rfl rfl (term_one w6 _ _) HLn.out (by simp; have := hz6.out; omega) ?_; intro v7 w7 own7 gr7; have B7 : Hid (Below w2.heap.size w2 w7) := (HO5.out.below (bal w6 _)).grow (B5.out.alloc B5.out.size _) gr7 (by simp; have := hz6.out; omega))
          go_roundw
          case rel => exact ⟨y + 1, by omega, by go_num, by rw [HS.out]; exact own7, B7.out⟩
          case measure => simp [intOf]; omega
        · have HC : Hid (cov (cn : Int) P D = P * (cn : Int) + D) := if_neg hp
          rw [HC.out] at HS
          have hp0 : 0 ≤ P := by omega
          have m1 : 0 ≤ P * (cn : Int) := Int.mul_nonneg (by omega) (by omega)
          have m2 : P * (cn : Int) ≤ 16384 * 1024 := Int.mul_le_mul hPb1.2 hcn1.2 (by omega) (by omega)
          obtain ⟨PC, hPC⟩ : ∃ PC, P * (cn : Int) = PC := ⟨_, rfl⟩
          rw [hPC] at m1 m2 HS
          go_upto_region 18 with fail
          have hG := S5.out.h2
          have hG1 := S5.out.h1
          refine regionC (fun w' => w'.cell? (x.add Q) = some (.int .i64 P) ∧ w'.heap[W.heap.size]? = some (.cells #[.int .i64 k, .int .i64 a, .int .i64 b, .int .i64 m, .int .i64 kh, .int .i64 kw, .int .i64 sh, .int .i64 sw, .int .i64 tp, .int .i64 lf, .int .i64 bt, .int .i64 rt, .slice wa lw wc, .slice ba lb bc, .int .i64 sm, .int .i64 ss, .int .i64 um, .int .i64 us, .int .i64 z, .int .i64 p, .int .i64 lo, .int .i64 hi, .int .i64 h, .int .i64 w, .int .i64 (cn : Int), .int .i64 H, .int .i64 V, .int .i64 C] 41 (0, 0))) (by kernel_rfl) ?_
          obtain ⟨wd, hwd⟩ : ∃ wd, w6.drew = wd := ⟨_, rfl⟩
          have HCl : Hid (wd.cell? (x.add Q) = some (.int .i64 P) ∧ wd.heap[W.heap.size]? = some (.cells #[.int .i64 k, .int .i64 a, .int .i64 b, .int .i64 m, .int .i64 kh, .int .i64 kw, .int .i64 sh, .int .i64 sw, .int .i64 tp, .int .i64 lf, .int .i64 bt, .int .i64 rt, .slice wa lw wc, .slice ba lb bc, .int .i64 sm, .int .i64 ss, .int .i64 um, .int .i64 us, .int .i64 z, .int .i64 p, .int .i64 lo, .int .i64 hi, .int .i64 h, .int .i64 w, .int .i64 (cn : Int), .int .i64 H, .int .i64 V, .int .i64 C] 41 (0, 0))) := by unfold Hid; rw [← hwd]; exact ⟨hcx, hG⟩
          have HD : Hid (Below w6.heap.size w6 wd) := by unfold Hid; rw [← hwd]; exact (Below.refl _ _).drew
          have hGd : wd.heap[w5.heap.size]? = some (.cells #[.int .i64 WG, .int .i64 (-1)] 70 (0, 0)) := by rw [← hwd]; exact hG1
          rw [hwd]
          clear hwd hG hG1 c1 f1 c2 f2
          refine takeC 0 (v := .slice (some x) N tc) rfl rfl (by kernel_rfl) (by kernel_rfl) (by kernel_rfl) (fun _ _ _ h => h) (fun _ => rfl) rfl (fun w' hw' => by go_simp) ?_
          refine takeC 1 (v := .int .i64 (Q : Int)) rfl rfl (by kernel_rfl) (by kernel_rfl) (by kernel_rfl) (fun _ _ _ h => h) (fun _ => rfl) rfl (fun w' hw' => by go_simp) ?_
          refine takeC 2 (v := .pointer (some (x.add Q))) rfl rfl (by kernel_rfl) (by kernel_rfl) (by kernel_rfl) (fun _ _ _ h => h) (fun _ => rfl) rfl (fun w' hw' => by go_simp) ?_
          refine takeC 3 (v := .int .i64 P) rfl rfl (by kernel_rfl) (by kernel_rfl) (by kernel_rfl) (fun _ _ _ h => h) (fun _ => rfl) rfl (fun w' hw' => by have hc := hw'.1; go_simp) ?_
          refine takeC 4 (v := .pointer (some ⟨W.heap.size, 22, none⟩)) rfl rfl (by kernel_rfl) (by kernel_rfl) (by kernel_rfl) (fun _ _ _ h => h) (fun _ => rfl) rfl (fun w' hw' => by go_simp) ?_
          refine takeC 5 (v := .pointer (some ⟨W.heap.size, 24, none⟩)) rfl rfl (by kernel_rfl) (by kernel_rfl) (by kernel_rfl) (fun _ _ _ h => h) (fun _ => rfl) rfl (fun w' hw' => by go_simp) ?_
          refine takeC 6 (v := .int .i64 (cn : Int)) rfl rfl (by kernel_rfl) (by kernel_rfl) (by kernel_rfl) (fun _ _ _ h => h) (fun _ => rfl) rfl (fun w' hw' => by have hc := (cells_at hw'.2).1 24; go_simp) ?_
          refine takeC 7 (v := .int .i64 PC) rfl rfl (by kernel_rfl) (by kernel_rfl) (by kernel_rfl) (fun _ _ _ h => h) (fun _ => rfl) rfl (fun w' hw' => by go_simp; try (rw [IntKind.wrap_i64]; omega)) ?_
          refine takeC 8 (v := .int .i64 D) rfl rfl (by kernel_rfl) (by kernel_rfl) (by kernel_rfl) (fun _ _ _ h => h) (fun _ => rfl) rfl (fun w' hw' => by go_simp) ?_
          refine takeC 9 (v := .int .i64 (PC + D)) rfl rfl (by kernel_rfl) (by kernel_rfl) (by kernel_rfl) (fun _ _ _ h => h) (fun _ => rfl) rfl (fun w' hw' => by go_simp; try (rw [IntKind.wrap_i64]; omega)) ?_
          refine takeC 10 (v := .pointer (some ⟨w5.heap.size, 1, none⟩)) rfl rfl (by kernel_rfl) (by kernel_rfl) (by kernel_rfl) (fun _ _ _ h => h) (fun _ => rfl) rfl (fun w' hw' => by go_simp) ?_
          have g1 : wd.cell? ⟨w5.heap.size, 1, none⟩ = some (.int .i64 (-1)) := (cells_at hGd).1 1
          have g2 : wd.frozen? ⟨w5.heap.size, 1, none⟩ = false := (cells_at hGd).2.1 1
          refine stepC 11 HCl.out (by kernel_rfl) rfl (fun K hK => step_wp rfl ?_)
          go_simp
          refine hK _ _ ?_
          clear hK K g1 g2
          have hGs : Hid ((wd.setCell ⟨w5.heap.size, 1, none⟩ (.int .i64 (PC + D))).heap[w5.heap.size]? = some (.cells #[.int .i64 WG, .int .i64 (PC + D)] 70 (0, 0))) := heap_setCell_at hGd
          have hD6 : Hid (Below w2.heap.size w2 (wd.setCell ⟨w5.heap.size, 1, none⟩ (.int .i64 (PC + D)))) := (B5.out.trans (HD.out.mono B5.out.size)).setCell (p := ⟨w5.heap.size, 1, none⟩) hz5 _
          have HCs : Hid ((wd.setCell ⟨w5.heap.size, 1, none⟩ (.int .i64 (PC + D))).cell? (x.add Q) = some (.int .i64 P) ∧ (wd.setCell ⟨w5.heap.size, 1, none⟩ (.int .i64 (PC + D))).heap[W.heap.size]? = some (.cells #[.int .i64 k, .int .i64 a, .int .i64 b, .int .i64 m, .int .i64 kh, .int .i64 kw, .int .i64 sh, .int .i64 sw, .int .i64 tp, .int .i64 lf, .int .i64 bt, .int .i64 rt, .slice wa lw wc, .slice ba lb bc, .int .i64 sm, .int .i64 ss, .int .i64 um, .int .i64 us, .int .i64 z, .int .i64 p, .int .i64 lo, .int .i64 hi, .int .i64 h, .int .i64 w, .int .i64 (cn : Int), .int .i64 H, .int .i64 V, .int .i64 C] 41 (0, 0))) := by
            refine ⟨?_, ?_⟩
            · have hb7 : Below w2.heap.size wd (wd.setCell ⟨w5.heap.size, 1, none⟩ (.int .i64 (PC + D))) := (Below.refl _ wd).setCell (p := ⟨w5.heap.size, 1, none⟩) hz5 _
              exact (hb7.cell (by rw [add_block]; exact hxb)).trans HCl.out.1
            · rw [Below.heap_setCell _ _ _ _ (show W.heap.size ≠ w5.heap.size by omega)]
              exact HCl.out.2
          have HO6 : Hid (OTm (wd.setCell ⟨w5.heap.size, 1, none⟩ (.int .i64 (PC + D))) w2.heap.size (.slice va y vc) (tmL k (cn : Int) ch h w kw t u st zs y)) := otm_other (HO5.out.below HD.out) HOn.out
          refine doneC HCs.out (by kernel_rfl) ?_ _
          obtain ⟨w7, hw7⟩ : ∃ w7, wd.setCell ⟨w5.heap.size, 1, none⟩ (.int .i64 (PC + D)) = w7 := ⟨_, rfl⟩
          rw [hw7] at hGs hD6 HO6 ⊢
          have hz7 : w5.heap.size < w7.heap.size := lt_of_heap hGs.out
          obtain ⟨c1, f1, z1'⟩ := cells_at hGs.out
          clear hw7 HCs HCl HD hGd hcx
          go_wp2_with (at_builtin; refine wpList_apT rfl (.tmp 86) (.tmp 88) rfl w2.heap.size _ _ [(WG, PC + D)] rfl (HO6.out.below (bal w7 _)) w7.heap.size 1 1 rfl rfl (term_one w7 _ _) HLn.out (by simp; omega) ?_; intro v8 w8 own8 gr8; have B8 : Hid (Below w2.heap.size w2 w8) := (HO6.out.below (bal w7 _)).grow (hD6.out.alloc hD6.out.size _) gr8 (by simp; omega))
          go_roundw
          case rel => exact ⟨y + 1, by omega, by go_num, by rw [HS.out]; exact own8, B8.out⟩
          case measure => simp [intOf]; omega
      · have hstN := HST.out.2 k2
        have k2' : (k == 2) = false := by simp [k2]
        have hQ : y < N := by omega
        obtain ⟨D, hDe⟩ : ∃ D : Int, ch - 1 = D := ⟨_, rfl⟩
        have hD : 0 ≤ D ∧ D ≤ 1024 := by omega
        have HP : Hid (plA k (cn : Int) ch h w kw t u y = cov (cn : Int) (tpc h w kw t u (y : Int)) D) := by unfold Hid plA; rw [if_neg k1, if_neg k2, hDe]
        clear hstN HST k2
        go_upto_region 16 with fail
        have s4 := s3
        have HO4 : Hid (OTm _ _ _ _) := HO.out
        have Hb4 : Hid (Below w2.heap.size w2 _) := Hb.out
        have hbz4 := Hb4.out.size
        clear c1 f1 z1 hb s3 Hb HO
        obtain ⟨P, hPe⟩ : ∃ P, tpc h w kw t u (y : Int) = P := ⟨_, rfl⟩
        obtain ⟨x, rfl⟩ : ∃ x, ta = some x := by
          cases ta with
          | none => have h1 := Hrow.out.2.2.2.1 rfl; have h2 := Hrow.out.2.1; omega
          | some x => exact ⟨x, rfl⟩
        have hcx0 := Hrow.out.2.2.2.2 x rfl y hQ
        rw [covL_get _ _ _ _ _ hQ, hPe] at hcx0
        have hxb : x.block < w2.heap.size := by have := World.block_lt_of_cell? _ _ hcx0; rwa [add_block] at this
        have hPb1 := hPb.out (y : Int)
        rw [hPe] at HP hPb1
        obtain ⟨WG, hWG⟩ : ∃ WG, wgA k ch st zs y = WG := ⟨_, rfl⟩
        have hWg1 : Hid (∀ (w' : World), Below W.heap.size W w' → _) := fun w' hb => hWg.out w' y hlt hb
        rw [hWG] at hWg1
        have HS : Hid (tmL k (cn : Int) ch h w kw t u st zs (y + 1) = tmL k (cn : Int) ch h w kw t u st zs y ++ [(WG, cov (cn : Int) P D)]) := by unfold Hid; rw [tmL_succ, hWG, HP.out]
        have HLn : Hid ((tmL k (cn : Int) ch h w kw t u st zs y).length + 1 ≤ 1000000) := by unfold Hid; rw [tmL_len]; omega
        clear hPe hWG HP
        have h1 := s4.h1
        go_wp2_with (refine wpList_load_row rfl 41 (.tmp 3) rfl W.heap.size rfl 41 _ (0, 0) _ h1 Try.underlying41 rfl (by kernel_rfl) ?_)
        refine (hWg1.out _ s4.below).mono ?_
        rintro e w5 ⟨rfl, hb5⟩
        have s5 := (s4.call hb5).new (c := #[.int .i64 WG, .int .i64 (-1)]) (t := 70)
        have HOn : Hid ((Value.slice va y vc).ownBlock ≠ some w5.heap.size) := fun e => by have := (World.ownsRow.lt (HO4.out.below hb5) _ e).2; omega
        have HO5 : Hid (OTm _ _ _ _) := (HO4.out.below hb5).below (bal w5 (.cells #[.int .i64 WG, .int .i64 (-1)] 70))
        have hz5 : w2.heap.size ≤ w5.heap.size := Nat.le_trans hbz4 hb5.size
        have B5 : Hid (Below w2.heap.size w2 (w5.alloc (.cells #[.int .i64 WG, .int .i64 (-1)] 70))) := (Hb4.out.trans (hb5.mono hbz4)).alloc hz5 _
        have hWz : W.heap.size < w2.heap.size := lt_of_heap S2.out.h1
        obtain ⟨w6, hw6⟩ : ∃ w6, w5.alloc (.cells #[.int .i64 WG, .int .i64 (-1)] 70) = w6 := ⟨_, rfl⟩
        have hcx : w6.cell? (x.add y) = some (.int .i64 P) := by rw [← hw6]; exact (B5.out.cell (by rw [add_block]; exact hxb)).trans hcx0
        have hz6 : Hid (w6.heap.size = w5.heap.size + 1) := by unfold Hid; rw [← hw6]; simp
        clear hb5 h1 s4 HO4 Hb4 hcx0
        go_upto_region 17 with fail
        rw [hw6] at s5 HO5 B5
        try rw [hw6]
        clear hw6
        have S5 : Hid (St W w6 _) := s5
        obtain ⟨c1, f1, z1, c2, f2, z2, -⟩ := s5.rules
        clear s5
        by_cases hp : P = -1
        · subst hp
          have HC : Hid (cov (cn : Int) (-1) D = -1) := if_pos rfl
          rw [HC.out] at HS
          go_wp2_with (at_builtin; refine wpList_apT rfl (.tmp 86) (.tmp 88) rfl w2.heap.size _ _ [(WG, (-1 : Int))] rfl (HO5.out.below (bal w6 _)) w6.heap.size 1 1 rfl rfl (term_one w6 _ _) HLn.out (by simp; have := hz6.out; omega) ?_; intro v7 w7 own7 gr7; have B7 : Hid (Below w2.heap.size w2 w7) := (HO5.out.below (bal w6 _)).grow (B5.out.alloc B5.out.size _) gr7 (by simp; have := hz6.out; omega))
          go_roundw
          case rel => exact ⟨y + 1, by omega, by go_num, by rw [HS.out]; exact own7, B7.out⟩
          case measure => simp [intOf]; omega
        · have HC : Hid (cov (cn : Int) P D = P * (cn : Int) + D) := if_neg hp
          rw [HC.out] at HS
          have hp0 : 0 ≤ P := by omega
          have m1 : 0 ≤ P * (cn : Int) := Int.mul_nonneg (by omega) (by omega)
          have m2 : P * (cn : Int) ≤ 16384 * 1024 := Int.mul_le_mul hPb1.2 hcn1.2 (by omega) (by omega)
          obtain ⟨PC, hPC⟩ : ∃ PC, P * (cn : Int) = PC := ⟨_, rfl⟩
          rw [hPC] at m1 m2 HS
          go_upto_region 18 with fail
          have hG := S5.out.h2
          have hG1 := S5.out.h1
          refine regionC (fun w' => w'.cell? (x.add y) = some (.int .i64 P) ∧ w'.heap[W.heap.size]? = some (.cells #[.int .i64 k, .int .i64 a, .int .i64 b, .int .i64 m, .int .i64 kh, .int .i64 kw, .int .i64 sh, .int .i64 sw, .int .i64 tp, .int .i64 lf, .int .i64 bt, .int .i64 rt, .slice wa lw wc, .slice ba lb bc, .int .i64 sm, .int .i64 ss, .int .i64 um, .int .i64 us, .int .i64 z, .int .i64 p, .int .i64 lo, .int .i64 hi, .int .i64 h, .int .i64 w, .int .i64 (cn : Int), .int .i64 H, .int .i64 V, .int .i64 C] 41 (0, 0))) (by kernel_rfl) ?_
          obtain ⟨wd, hwd⟩ : ∃ wd, w6.drew = wd := ⟨_, rfl⟩
          have HCl : Hid (wd.cell? (x.add y) = some (.int .i64 P) ∧ wd.heap[W.heap.size]? = some (.cells #[.int .i64 k, .int .i64 a, .int .i64 b, .int .i64 m, .int .i64 kh, .int .i64 kw, .int .i64 sh, .int .i64 sw, .int .i64 tp, .int .i64 lf, .int .i64 bt, .int .i64 rt, .slice wa lw wc, .slice ba lb bc, .int .i64 sm, .int .i64 ss, .int .i64 um, .int .i64 us, .int .i64 z, .int .i64 p, .int .i64 lo, .int .i64 hi, .int .i64 h, .int .i64 w, .int .i64 (cn : Int), .int .i64 H, .int .i64 V, .int .i64 C] 41 (0, 0))) := by unfold Hid; rw [← hwd]; exact ⟨hcx, hG⟩
          have HD : Hid (Below w6.heap.size w6 wd) := by unfold Hid; rw [← hwd]; exact (Below.refl _ _).drew
          have hGd : wd.heap[w5.heap.size]? = some (.cells #[.int .i64 WG, .int .i64 (-1)] 70 (0, 0)) := by rw [← hwd]; exact hG1
          rw [hwd]
          clear hwd hG hG1 c1 f1 c2 f2
          refine takeC 0 (v := .slice (some x) N tc) rfl rfl (by kernel_rfl) (by kernel_rfl) (by kernel_rfl) (fun _ _ _ h => h) (fun _ => rfl) rfl (fun w' hw' => by go_simp) ?_
          refine takeC 1 (v := .int .i64 (y : Int)) rfl rfl (by kernel_rfl) (by kernel_rfl) (by kernel_rfl) (fun _ _ _ h => h) (fun _ => rfl) rfl (fun w' hw' => by go_simp) ?_
          refine takeC 2 (v := .pointer (some (x.add y))) rfl rfl (by kernel_rfl) (by kernel_rfl) (by kernel_rfl) (fun _ _ _ h => h) (fun _ => rfl) rfl (fun w' hw' => by go_simp) ?_
          refine takeC 3 (v := .int .i64 P) rfl rfl (by kernel_rfl) (by kernel_rfl) (by kernel_rfl) (fun _ _ _ h => h) (fun _ => rfl) rfl (fun w' hw' => by have hc := hw'.1; go_simp) ?_
          refine takeC 4 (v := .pointer (some ⟨W.heap.size, 22, none⟩)) rfl rfl (by kernel_rfl) (by kernel_rfl) (by kernel_rfl) (fun _ _ _ h => h) (fun _ => rfl) rfl (fun w' hw' => by go_simp) ?_
          refine takeC 5 (v := .pointer (some ⟨W.heap.size, 24, none⟩)) rfl rfl (by kernel_rfl) (by kernel_rfl) (by kernel_rfl) (fun _ _ _ h => h) (fun _ => rfl) rfl (fun w' hw' => by go_simp) ?_
          refine takeC 6 (v := .int .i64 (cn : Int)) rfl rfl (by kernel_rfl) (by kernel_rfl) (by kernel_rfl) (fun _ _ _ h => h) (fun _ => rfl) rfl (fun w' hw' => by have hc := (cells_at hw'.2).1 24; go_simp) ?_
          refine takeC 7 (v := .int .i64 PC) rfl rfl (by kernel_rfl) (by kernel_rfl) (by kernel_rfl) (fun _ _ _ h => h) (fun _ => rfl) rfl (fun w' hw' => by go_simp; try (rw [IntKind.wrap_i64]; omega)) ?_
          refine takeC 8 (v := .int .i64 D) rfl rfl (by kernel_rfl) (by kernel_rfl) (by kernel_rfl) (fun _ _ _ h => h) (fun _ => rfl) rfl (fun w' hw' => by go_simp) ?_
          refine takeC 9 (v := .int .i64 (PC + D)) rfl rfl (by kernel_rfl) (by kernel_rfl) (by kernel_rfl) (fun _ _ _ h => h) (fun _ => rfl) rfl (fun w' hw' => by go_simp; try (rw [IntKind.wrap_i64]; omega)) ?_
          refine takeC 10 (v := .pointer (some ⟨w5.heap.size, 1, none⟩)) rfl rfl (by kernel_rfl) (by kernel_rfl) (by kernel_rfl) (fun _ _ _ h => h) (fun _ => rfl) rfl (fun w' hw' => by go_simp) ?_
          have g1 : wd.cell? ⟨w5.heap.size, 1, none⟩ = some (.int .i64 (-1)) := (cells_at hGd).1 1
          have g2 : wd.frozen? ⟨w5.heap.size, 1, none⟩ = false := (cells_at hGd).2.1 1
          refine stepC 11 HCl.out (by kernel_rfl) rfl (fun K hK => step_wp rfl ?_)
          go_simp
          refine hK _ _ ?_
          clear hK K g1 g2
          have hGs : Hid ((wd.setCell ⟨w5.heap.size, 1, none⟩ (.int .i64 (PC + D))).heap[w5.heap.size]? = some (.cells #[.int .i64 WG, .int .i64 (PC + D)] 70 (0, 0))) := heap_setCell_at hGd
          have hD6 : Hid (Below w2.heap.size w2 (wd.setCell ⟨w5.heap.size, 1, none⟩ (.int .i64 (PC + D)))) := (B5.out.trans (HD.out.mono B5.out.size)).setCell (p := ⟨w5.heap.size, 1, none⟩) hz5 _
          have HCs : Hid ((wd.setCell ⟨w5.heap.size, 1, none⟩ (.int .i64 (PC + D))).cell? (x.add y) = some (.int .i64 P) ∧ (wd.setCell ⟨w5.heap.size, 1, none⟩ (.int .i64 (PC + D))).heap[W.heap.size]? = some (.cells #[.int .i64 k, .int .i64 a, .int .i64 b, .int .i64 m, .int .i64 kh, .int .i64 kw, .int .i64 sh, .int .i64 sw, .int .i64 tp, .int .i64 lf, .int .i64 bt, .int .i64 rt, .slice wa lw wc, .slice ba lb bc, .int .i64 sm, .int .i64 ss, .int .i64 um, .int .i64 us, .int .i64 z, .int .i64 p, .int .i64 lo, .int .i64 hi, .int .i64 h, .int .i64 w, .int .i64 (cn : Int), .int .i64 H, .int .i64 V, .int .i64 C] 41 (0, 0))) := by
            refine ⟨?_, ?_⟩
            · have hb7 : Below w2.heap.size wd (wd.setCell ⟨w5.heap.size, 1, none⟩ (.int .i64 (PC + D))) := (Below.refl _ wd).setCell (p := ⟨w5.heap.size, 1, none⟩) hz5 _
              exact (hb7.cell (by rw [add_block]; exact hxb)).trans HCl.out.1
            · rw [Below.heap_setCell _ _ _ _ (show W.heap.size ≠ w5.heap.size by omega)]
              exact HCl.out.2
          have HO6 : Hid (OTm (wd.setCell ⟨w5.heap.size, 1, none⟩ (.int .i64 (PC + D))) w2.heap.size (.slice va y vc) (tmL k (cn : Int) ch h w kw t u st zs y)) := otm_other (HO5.out.below HD.out) HOn.out
          refine doneC HCs.out (by kernel_rfl) ?_ _
          obtain ⟨w7, hw7⟩ : ∃ w7, wd.setCell ⟨w5.heap.size, 1, none⟩ (.int .i64 (PC + D)) = w7 := ⟨_, rfl⟩
          rw [hw7] at hGs hD6 HO6 ⊢
          have hz7 : w5.heap.size < w7.heap.size := lt_of_heap hGs.out
          obtain ⟨c1, f1, z1'⟩ := cells_at hGs.out
          clear hw7 HCs HCl HD hGd hcx
          go_wp2_with (at_builtin; refine wpList_apT rfl (.tmp 86) (.tmp 88) rfl w2.heap.size _ _ [(WG, PC + D)] rfl (HO6.out.below (bal w7 _)) w7.heap.size 1 1 rfl rfl (term_one w7 _ _) HLn.out (by simp; omega) ?_; intro v8 w8 own8 gr8; have B8 : Hid (Below w2.heap.size w2 w8) := (HO6.out.below (bal w7 _)).grow (hD6.out.alloc hD6.out.size _) gr8 (by simp; omega))
          go_roundw
          case rel => exact ⟨y + 1, by omega, by go_num, by rw [HS.out]; exact own8, B8.out⟩
          case measure => simp [intOf]; omega
    · obtain rfl : y = st := by omega
      have hS1 := S2.out.below
      go_wp2
      go_ret
      exact ⟨⟨_, rfl, HO.out.base hS1.size⟩, hS1.trans (hb.mono hS1.size)⟩
end Go.Proofs.Ytjjckaklhafibaa

/- The document's Terms, of whatever kind. -/
namespace Go.Proofs.Ytjjckaklhafibaa
open Go.ChangeShapes Go.WideShapes Go.ChangeAt Go.RowKit
set_option linter.unusedVariables false
/-- The document's Terms of an op that is there. -/
theorem rterms_any (k a b m kh kw sh sw tp lf bt rt : Int) (wa : Option Addr) (lw wc : Nat) (ba : Option Addr) (lb bc : Nat) (sm ss um us z p lo hi h w c H V C : Int) (W : World) (zs : List Int) (hZ : IRow .i16 W wa lw wc zs) (s : Sit k kh kw sh sw tp lf bt rt h w c H V C lw lb) (ch at' : Int) (hch : 1 ≤ ch ∧ ch ≤ C) (hat : 0 ≤ at' ∧ at' < H * V) :
    Calls Try.prog 20 #[.agg #[.int .i64 k, .int .i64 a, .int .i64 b, .int .i64 m, .int .i64 kh, .int .i64 kw, .int .i64 sh, .int .i64 sw, .int .i64 tp, .int .i64 lf, .int .i64 bt, .int .i64 rt, .slice wa lw wc, .slice ba lb bc, .int .i64 sm, .int .i64 ss, .int .i64 um, .int .i64 us, .int .i64 z, .int .i64 p, .int .i64 lo, .int .i64 hi, .int .i64 h, .int .i64 w, .int .i64 c, .int .i64 H, .int .i64 V, .int .i64 C], .int .i64 ch, .int .i64 at'] W fun e w' => (∃ v, e = .returned v ∧ OTm w' W.heap.size v (siL k kh kw sh sw tp lf bt rt h w c ch at' zs)) ∧ Below W.heap.size W w' := by
  obtain ⟨st, hst⟩ : ∃ st : Nat, stR k kh kw h w c = (st : Int) := ⟨(stR k kh kw h w c).toNat, by have := s.2.2.2.2.2.2.2.2.1; omega⟩
  unfold siL
  rw [hst, Int.toNat_natCast]
  by_cases k1 : k = 1
  · subst k1
    exact rterms_1 a b m kh kw sh sw tp lf bt rt wa lw wc ba lb bc sm ss um us z p lo hi h w c H V C W zs hZ s ch at' _ _ hch st hst
  · obtain ⟨cn, rfl⟩ : ∃ cn : Nat, c = (cn : Int) := ⟨c.toNat, by have := (vS_yes s.2.1).2.2.1; omega⟩
    have hou := s.2.2.2.1 (by have := s.1; omega)
    have hcc : (coR h w (cn : Int) kh kw sh sw tp lf bt rt at').2.2 = 0 := by
      unfold coR
      rw [hou]
      simp only
      rw [if_pos trivial, if_pos hat]
    exact rterms_w k a b m kh kw sh sw tp lf bt rt wa lw wc ba lb bc sm ss um us z p lo hi h w cn H V C W zs hZ s k1 ch at' _ _ hch (by rw [← hcc]) st hst
end Go.Proofs.Ytjjckaklhafibaa

/- What norm and the document return, of each model, op, channel and span. -/
namespace Go.Proofs.Ytjjckaklhafibaa
open Go.ChangeShapes Go.WideShapes Go.ChangeAt Go.RowKit
set_option linter.unusedVariables false
/-- What Quick answers: the ends and the error. -/
def quR (slo shi bi A R : Int) : Int × Int × Int := if vaB slo shi = true then (bi - A * R, bi + A * R, 0) else (0, 0, 30)
/-- What is known of an op that reduces. -/
theorem op_facts {h w c lo hi ot ch : Int} {oa : Option Addr} {on : Nat} {O : Nat → Nat → Int} {Z B : Nat → List Int} {W : World} (RL : List (Int × Int × Int)) (Rw : Int) (hR : gtR O h w c lo hi ot on = (0, 0, RL, Rw)) (i : Nat) (x : Addr) (wa : Option Addr) (lw cw : Nat) (ba : Option Addr) (lb cb : Nat) (x0 y0 z0 H V C : Int) (hF : Fnd W oa on O Z B RL i x wa lw cw ba lb cb x0 y0 z0 H V C) (hch : 1 ≤ ch ∧ ch ≤ C) :
    (siL (O i 0) (O i 4) (O i 5) (O i 6) (O i 7) (O i 8) (O i 9) (O i 10) (O i 11) x0 y0 z0 ch 0 (Z i)).length ≤ 512 ∧ (∀ t ∈ siL (O i 0) (O i 4) (O i 5) (O i 6) (O i 7) (O i 8) (O i 9) (O i 10) (O i 11) x0 y0 z0 ch 0 (Z i), -32768 ≤ t.1 ∧ t.1 ≤ 32767) ∧ I8 (O i 19) ∧ ((0 ≤ O i 8 ∧ O i 8 ≤ 31) ∧ (0 ≤ O i 9 ∧ O i 9 ≤ 31) ∧ (0 ≤ O i 10 ∧ O i 10 ≤ 31) ∧ (0 ≤ O i 11 ∧ O i 11 ≤ 31)) ∧ (-2147483648 ≤ biA (O i 0) ch (B i) ∧ biA (O i 0) ch (B i) ≤ 2147483647) := by
  have hSit := hF.2.2.2.2.2.2.2.2.2.1
  have hz := hF.2.2.2.2.2.1.2.2.2.1
  have hb := hF.2.2.2.2.2.2.1.2.2.2.1
  obtain ⟨f1, f2⟩ := siL_facts hSit hz hch 0
  obtain ⟨ja, jb, e1, hja, e3, hjb, hO⟩ := opd_of hR hF.1
  have hopd := (hO x0 y0 z0 H V C (by rw [← hF.2.2.2.2.2.2.2.1, e1, Int.toNat_natCast]) hF.2.2.2.2.2.2.2.2.1).1
  refine ⟨f1, fun t ht => (f2 t ht).1, ?_, side_nn hopd hSit.1.2, biA_bd hb⟩
  have := hopd.rz
  unfold rzB vlB at this; simp at this; exact ⟨this.2.1, this.2.2⟩
theorem quR_bd {slo shi bi A R : Int} (hA : 0 ≤ A ∧ A ≤ 33554432) (hR : vaB slo shi = true → 0 ≤ R ∧ R ≤ 128) (hb : -2147483648 ≤ bi ∧ bi ≤ 2147483647) : (-10000000000 ≤ (quR slo shi bi A R).1 ∧ (quR slo shi bi A R).1 ≤ 10000000000) ∧ (-10000000000 ≤ (quR slo shi bi A R).2.1 ∧ (quR slo shi bi A R).2.1 ≤ 10000000000) := by
  unfold quR
  split
  · rename_i g
    have := aw_bd hA (hR g)
    simp only
    omega
  · simp
theorem of_0 (h w c lo hi ot : Int) (oa : Option Addr) (on oc : Nat) (O : Nat → Nat → Int) (Z B : Nat → List Int) (W : World) (hL : LRow W oa on oc O Z B) (ch : Int) (RL : List (Int × Int × Int)) (Rw : Int) (hR : gtR O h w c lo hi ot on = (0, 0, RL, Rw)) (i : Nat) (x : Addr) (wa : Option Addr) (lw cw : Nat) (ba : Option Addr) (lb cb : Nat) (x0 y0 z0 H V C : Int) (hF : Fnd W oa on O Z B RL i x wa lw cw ba lb cb x0 y0 z0 H V C) (hch : 1 ≤ ch ∧ ch ≤ C) : ∀ W', Below W.heap.size W W' → Calls Try.prog 16 #[.agg #[.int .i64 h, .int .i64 w, .int .i64 c, .int .i64 lo, .int .i64 hi, .slice oa on oc, .int .i64 ot], .int .i64 ((i : Int) + 1), .int .i64 ch, .int .i64 0] W' fun e w' => (∃ v, e = .returned (.tuple #[v, .int .i64 (biA (O i 0) ch (B i)), .int .i64 0]) ∧ OTm w' W'.heap.size v (siL (O i 0) (O i 4) (O i 5) (O i 6) (O i 7) (O i 8) (O i 9) (O i 10) (O i 11) x0 y0 z0 ch 0 (Z i))) ∧ Below W'.heap.size W' w' := fun W' hb => by
  have hv := (vS_bd hF.2.2.2.2.2.2.2.2.2.1.2.2.1).1
  exact of_ok h w c lo hi ot oa on oc O Z B W' (hL.below hb) ch 0 RL Rw hR i x wa lw cw ba lb cb x0 y0 z0 H V C (hF.below hb) hch ⟨by omega, by omega⟩
theorem nl1_ok (h w c lo hi ot : Int) (oa : Option Addr) (on oc : Nat) (O : Nat → Nat → Int) (Z B : Nat → List Int) (W : World) (hL : LRow W oa on oc O Z B) (ch : Int) (RL : List (Int × Int × Int)) (Rw : Int) (hR : gtR O h w c lo hi ot on = (0, 0, RL, Rw)) (i : Nat) (x : Addr) (wa : Option Addr) (lw cw : Nat) (ba : Option Addr) (lb cb : Nat) (x0 y0 z0 H V C : Int) (hF : Fnd W oa on O Z B RL i x wa lw cw ba lb cb x0 y0 z0 H V C) (hch : 1 ≤ ch ∧ ch ≤ C) : Calls Try.prog 8 #[.agg #[.int .i64 h, .int .i64 w, .int .i64 c, .int .i64 lo, .int .i64 hi, .slice oa on oc, .int .i64 ot], .int .i64 ((i : Int) + 1), .int .i64 ch] W fun e w' => e = .returned (.tuple #[.int .i64 (upS (siL (O i 0) (O i 4) (O i 5) (O i 6) (O i 7) (O i 8) (O i 9) (O i 10) (O i 11) x0 y0 z0 ch 0 (Z i)) - dnS (siL (O i 0) (O i 4) (O i 5) (O i 6) (O i 7) (O i 8) (O i 9) (O i 10) (O i 11) x0 y0 z0 ch 0 (Z i))), .int .i64 0]) ∧ Below W.heap.size W w' := by
  obtain ⟨f1, f2, -⟩ := op_facts RL Rw hR i x wa lw cw ba lb cb x0 y0 z0 H V C hF hch
  exact l1_ok h w c lo hi ot _ ch oa on oc W _ _ f1 f2 (of_0 h w c lo hi ot oa on oc O Z B W hL ch RL Rw hR i x wa lw cw ba lb cb x0 y0 z0 H V C hF hch)
theorem nsg_ok (h w c lo hi ot : Int) (oa : Option Addr) (on oc : Nat) (O : Nat → Nat → Int) (Z B : Nat → List Int) (W : World) (hL : LRow W oa on oc O Z B) (ch : Int) (RL : List (Int × Int × Int)) (Rw : Int) (hR : gtR O h w c lo hi ot on = (0, 0, RL, Rw)) (i : Nat) (x : Addr) (wa : Option Addr) (lw cw : Nat) (ba : Option Addr) (lb cb : Nat) (x0 y0 z0 H V C : Int) (hF : Fnd W oa on O Z B RL i x wa lw cw ba lb cb x0 y0 z0 H V C) (hch : 1 ≤ ch ∧ ch ≤ C) : Calls Try.prog 9 #[.agg #[.int .i64 h, .int .i64 w, .int .i64 c, .int .i64 lo, .int .i64 hi, .slice oa on oc, .int .i64 ot], .int .i64 ((i : Int) + 1), .int .i64 ch] W fun e w' => e = .returned (.tuple #[.int .i64 (upS (siL (O i 0) (O i 4) (O i 5) (O i 6) (O i 7) (O i 8) (O i 9) (O i 10) (O i 11) x0 y0 z0 ch 0 (Z i))), .int .i64 (dnS (siL (O i 0) (O i 4) (O i 5) (O i 6) (O i 7) (O i 8) (O i 9) (O i 10) (O i 11) x0 y0 z0 ch 0 (Z i))), .int .i64 0]) ∧ Below W.heap.size W w' := by
  obtain ⟨f1, f2, -⟩ := op_facts RL Rw hR i x wa lw cw ba lb cb x0 y0 z0 H V C hF hch
  exact sg_ok h w c lo hi ot _ ch oa on oc W _ _ f1 f2 (of_0 h w c lo hi ot oa on oc O Z B W hL ch RL Rw hR i x wa lw cw ba lb cb x0 y0 z0 H V C hF hch)
theorem nqu_ok (h w c lo hi ot : Int) (oa : Option Addr) (on oc : Nat) (O : Nat → Nat → Int) (Z B : Nat → List Int) (W : World) (hL : LRow W oa on oc O Z B) (ch : Int) (RL : List (Int × Int × Int)) (Rw : Int) (hR : gtR O h w c lo hi ot on = (0, 0, RL, Rw)) (i : Nat) (x : Addr) (wa : Option Addr) (lw cw : Nat) (ba : Option Addr) (lb cb : Nat) (x0 y0 z0 H V C : Int) (hF : Fnd W oa on O Z B RL i x wa lw cw ba lb cb x0 y0 z0 H V C) (hch : 1 ≤ ch ∧ ch ≤ C) (slo shi : Int) : Calls Try.prog 12 #[.agg #[.int .i64 h, .int .i64 w, .int .i64 c, .int .i64 lo, .int .i64 hi, .slice oa on oc, .int .i64 ot], .int .i64 ((i : Int) + 1), .int .i64 ch, .agg #[.int .i64 slo, .int .i64 shi]] W fun e w' => e = .returned (.tuple #[.agg #[.int .i64 (quR slo shi (biA (O i 0) ch (B i)) (upS (siL (O i 0) (O i 4) (O i 5) (O i 6) (O i 7) (O i 8) (O i 9) (O i 10) (O i 11) x0 y0 z0 ch 0 (Z i)) - dnS (siL (O i 0) (O i 4) (O i 5) (O i 6) (O i 7) (O i 8) (O i 9) (O i 10) (O i 11) x0 y0 z0 ch 0 (Z i))) (rcV (O i 8) (O i 9) (O i 10) (O i 11) (O i 19) slo shi)).1, .int .i64 (quR slo shi (biA (O i 0) ch (B i)) (upS (siL (O i 0) (O i 4) (O i 5) (O i 6) (O i 7) (O i 8) (O i 9) (O i 10) (O i 11) x0 y0 z0 ch 0 (Z i)) - dnS (siL (O i 0) (O i 4) (O i 5) (O i 6) (O i 7) (O i 8) (O i 9) (O i 10) (O i 11) x0 y0 z0 ch 0 (Z i))) (rcV (O i 8) (O i 9) (O i 10) (O i 11) (O i 19) slo shi)).2.1], .int .i64 (quR slo shi (biA (O i 0) ch (B i)) (upS (siL (O i 0) (O i 4) (O i 5) (O i 6) (O i 7) (O i 8) (O i 9) (O i 10) (O i 11) x0 y0 z0 ch 0 (Z i)) - dnS (siL (O i 0) (O i 4) (O i 5) (O i 6) (O i 7) (O i 8) (O i 9) (O i 10) (O i 11) x0 y0 z0 ch 0 (Z i))) (rcV (O i 8) (O i 9) (O i 10) (O i 11) (O i 19) slo shi)).2.2]) ∧ Below W.heap.size W w' := by
  obtain ⟨f1, f2, f3, ⟨f4, f5, f6, f7⟩, f8⟩ := op_facts RL Rw hR i x wa lw cw ba lb cb x0 y0 z0 H V C hF hch
  have hO := of_0 h w c lo hi ot oa on oc O Z B W hL ch RL Rw hR i x wa lw cw ba lb cb x0 y0 z0 H V C hF hch
  unfold quR
  cases hs : vaB slo shi with
  | false =>
    rw [if_neg (by decide)]
    exact qu_30 h w c lo hi ot _ ch oa on oc W slo shi _ _ hO hs
  | true =>
    rw [if_pos rfl]
    have hva := vaB_yes hs
    have hsg := sg_all f2 f1
    have hx := hF.2.1
    subst hx
    exact qu_ok h w c lo hi ot ch x on oc i W slo shi _ _ _ _ O wa lw cw ba lb cb hF.1 hL.1 hL.2.1 hF.2.2.2.2.1 hO (fun v W hv => nuns_any v _ W hv f1 f2) (fun W => nrch_any (O i 0) (O i 1) (O i 2) (O i 3) (O i 4) (O i 5) (O i 6) (O i 7) (O i 8) (O i 9) (O i 10) (O i 11) wa lw cw ba lb cb (O i 14) (O i 15) (O i 16) (O i 17) (O i 18) (O i 19) (O i 20) (O i 21) slo shi W f4 f5 f6 f7 f3 hva) hs (by omega) (rcV_bd (by omega) (by omega) f3) f8
theorem fch_ok (h w c lo hi ot : Int) (oa : Option Addr) (on oc : Nat) (O : Nat → Nat → Int) (Z B : Nat → List Int) (W : World) (hL : LRow W oa on oc O Z B) (hon : on ≤ 1000000000000) (ch : Int) (RL : List (Int × Int × Int)) (Rw : Int) (hR : gtR O h w c lo hi ot on = (0, 0, RL, Rw)) (i : Nat) (x : Addr) (wa : Option Addr) (lw cw : Nat) (ba : Option Addr) (lb cb : Nat) (x0 y0 z0 H V C : Int) (hF : Fnd W oa on O Z B RL i x wa lw cw ba lb cb x0 y0 z0 H V C) (hch : 1 ≤ ch ∧ ch ≤ C) : ∀ W', Below W.heap.size W W' → Calls Try.prog 7 #[.agg #[.int .i64 h, .int .i64 w, .int .i64 c, .int .i64 lo, .int .i64 hi, .slice oa on oc, .int .i64 ot], .int .i64 ((i : Int) + 1), .int .i64 ch] W' fun e w' => e = .returned (.tuple #[.agg #[.int .i64 (O i 0), .int .i64 (O i 1), .int .i64 (O i 2), .int .i64 (O i 3), .int .i64 (O i 4), .int .i64 (O i 5), .int .i64 (O i 6), .int .i64 (O i 7), .int .i64 (O i 8), .int .i64 (O i 9), .int .i64 (O i 10), .int .i64 (O i 11), .slice wa lw cw, .slice ba lb cb, .int .i64 (O i 14), .int .i64 (O i 15), .int .i64 (O i 16), .int .i64 (O i 17), .int .i64 (O i 18), .int .i64 (O i 19), .int .i64 (O i 20), .int .i64 (O i 21), .int .i64 x0, .int .i64 y0, .int .i64 z0, .int .i64 H, .int .i64 V, .int .i64 C], .int .i64 0]) ∧ Below W'.heap.size W' w' :=
  fun W' hb => fch_r (O := O) (i := i) (x := x) (wa := wa) (lw := lw) (cw := cw) (ba := ba) (lb := lb) (cb := cb) (x0 := x0) (y0 := y0) (z0 := z0) (H := H) (V := V) (C := C) h w c lo hi ot oa on oc W' ((i : Int) + 1) ch 0 (by omega) (fun W'' hb' => rfind_ok h w c lo hi ot oa on oc O Z B W'' (hL.below (hb.trans (hb'.mono hb.size))) hon ch RL Rw hR i x wa lw cw ba lb cb x0 y0 z0 H V C (hF.below (hb.trans (hb'.mono hb.size))) (by omega))
theorem rsg_ok (h w c lo hi ot : Int) (oa : Option Addr) (on oc : Nat) (O : Nat → Nat → Int) (Z B : Nat → List Int) (W : World) (hL : LRow W oa on oc O Z B) (ch : Int) (RL : List (Int × Int × Int)) (Rw : Int) (hR : gtR O h w c lo hi ot on = (0, 0, RL, Rw)) (i : Nat) (x : Addr) (wa : Option Addr) (lw cw : Nat) (ba : Option Addr) (lb cb : Nat) (x0 y0 z0 H V C : Int) (hF : Fnd W oa on O Z B RL i x wa lw cw ba lb cb x0 y0 z0 H V C) (hch : 1 ≤ ch ∧ ch ≤ C) : ∀ W', Below W.heap.size W W' → Calls Try.prog 11 #[.agg #[.int .i64 (O i 0), .int .i64 (O i 1), .int .i64 (O i 2), .int .i64 (O i 3), .int .i64 (O i 4), .int .i64 (O i 5), .int .i64 (O i 6), .int .i64 (O i 7), .int .i64 (O i 8), .int .i64 (O i 9), .int .i64 (O i 10), .int .i64 (O i 11), .slice wa lw cw, .slice ba lb cb, .int .i64 (O i 14), .int .i64 (O i 15), .int .i64 (O i 16), .int .i64 (O i 17), .int .i64 (O i 18), .int .i64 (O i 19), .int .i64 (O i 20), .int .i64 (O i 21), .int .i64 x0, .int .i64 y0, .int .i64 z0, .int .i64 H, .int .i64 V, .int .i64 C], .int .i64 ch] W' fun e w' => e = .returned (.tuple #[.int .i64 (upS (siL (O i 0) (O i 4) (O i 5) (O i 6) (O i 7) (O i 8) (O i 9) (O i 10) (O i 11) x0 y0 z0 ch 0 (Z i))), .int .i64 (dnS (siL (O i 0) (O i 4) (O i 5) (O i 6) (O i 7) (O i 8) (O i 9) (O i 10) (O i 11) x0 y0 z0 ch 0 (Z i)))]) ∧ Below W'.heap.size W' w' := fun W' hb => by
  obtain ⟨f1, f2, -⟩ := op_facts RL Rw hR i x wa lw cw ba lb cb x0 y0 z0 H V C hF hch
  have hSit := hF.2.2.2.2.2.2.2.2.2.1
  have hv := (vS_bd hSit.2.2.1).1
  exact rsig_any (O i 0) (O i 1) (O i 2) (O i 3) (O i 4) (O i 5) (O i 6) (O i 7) (O i 8) (O i 9) (O i 10) (O i 11) wa lw cw ba lb cb (O i 14) (O i 15) (O i 16) (O i 17) (O i 18) (O i 19) (O i 20) (O i 21) x0 y0 z0 H V C ch W' _ f1 f2 (fun W'' hb' => rterms_any (O i 0) (O i 1) (O i 2) (O i 3) (O i 4) (O i 5) (O i 6) (O i 7) (O i 8) (O i 9) (O i 10) (O i 11) wa lw cw ba lb cb (O i 14) (O i 15) (O i 16) (O i 17) (O i 18) (O i 19) (O i 20) (O i 21) x0 y0 z0 H V C W'' (Z i) (hF.2.2.2.2.2.1.below (hb.trans (hb'.mono hb.size))) hSit ch 0 hch ⟨by omega, by omega⟩)
theorem rqu_any (h w c lo hi ot : Int) (oa : Option Addr) (on oc : Nat) (O : Nat → Nat → Int) (Z B : Nat → List Int) (W : World) (hL : LRow W oa on oc O Z B) (hon : on ≤ 1000000000000) (ch : Int) (RL : List (Int × Int × Int)) (Rw : Int) (hR : gtR O h w c lo hi ot on = (0, 0, RL, Rw)) (i : Nat) (x : Addr) (wa : Option Addr) (lw cw : Nat) (ba : Option Addr) (lb cb : Nat) (x0 y0 z0 H V C : Int) (hF : Fnd W oa on O Z B RL i x wa lw cw ba lb cb x0 y0 z0 H V C) (hch : 1 ≤ ch ∧ ch ≤ C) (slo shi : Int) : Calls Try.prog 13 #[.agg #[.int .i64 h, .int .i64 w, .int .i64 c, .int .i64 lo, .int .i64 hi, .slice oa on oc, .int .i64 ot], .int .i64 ((i : Int) + 1), .int .i64 ch, .agg #[.int .i64 slo, .int .i64 shi]] W fun e w' => e = .returned (.tuple #[.agg #[.int .i64 (quR slo shi (biA (O i 0) ch (B i)) (upS (siL (O i 0) (O i 4) (O i 5) (O i 6) (O i 7) (O i 8) (O i 9) (O i 10) (O i 11) x0 y0 z0 ch 0 (Z i)) - dnS (siL (O i 0) (O i 4) (O i 5) (O i 6) (O i 7) (O i 8) (O i 9) (O i 10) (O i 11) x0 y0 z0 ch 0 (Z i))) (rcV (O i 8) (O i 9) (O i 10) (O i 11) (O i 19) slo shi)).1, .int .i64 (quR slo shi (biA (O i 0) ch (B i)) (upS (siL (O i 0) (O i 4) (O i 5) (O i 6) (O i 7) (O i 8) (O i 9) (O i 10) (O i 11) x0 y0 z0 ch 0 (Z i)) - dnS (siL (O i 0) (O i 4) (O i 5) (O i 6) (O i 7) (O i 8) (O i 9) (O i 10) (O i 11) x0 y0 z0 ch 0 (Z i))) (rcV (O i 8) (O i 9) (O i 10) (O i 11) (O i 19) slo shi)).2.1], .int .i64 (quR slo shi (biA (O i 0) ch (B i)) (upS (siL (O i 0) (O i 4) (O i 5) (O i 6) (O i 7) (O i 8) (O i 9) (O i 10) (O i 11) x0 y0 z0 ch 0 (Z i)) - dnS (siL (O i 0) (O i 4) (O i 5) (O i 6) (O i 7) (O i 8) (O i 9) (O i 10) (O i 11) x0 y0 z0 ch 0 (Z i))) (rcV (O i 8) (O i 9) (O i 10) (O i 11) (O i 19) slo shi)).2.2]) ∧ Below W.heap.size W w' := by
  obtain ⟨f1, f2, f3, ⟨f4, f5, f6, f7⟩, f8⟩ := op_facts RL Rw hR i x wa lw cw ba lb cb x0 y0 z0 H V C hF hch
  have hSit := hF.2.2.2.2.2.2.2.2.2.1
  have hO := fch_ok h w c lo hi ot oa on oc O Z B W hL hon ch RL Rw hR i x wa lw cw ba lb cb x0 y0 z0 H V C hF hch
  unfold quR
  cases hs : vaB slo shi with
  | false =>
    rw [if_neg (by decide)]
    exact rqu_30 (O := O) (i := i) (wa := wa) (lw := lw) (cw := cw) (ba := ba) (lb := lb) (cb := cb) (x0 := x0) (y0 := y0) (z0 := z0) (H := H) (V := V) (C := C) h w c lo hi ot _ ch oa on oc W slo shi hO hs
  | true =>
    rw [if_pos rfl]
    have hva := vaB_yes hs
    have hsg := sg_all f2 f1
    exact rqu_ok (O := O) (i := i) (wa := wa) (lw := lw) (cw := cw) (ba := ba) (lb := lb) (cb := cb) (x0 := x0) (y0 := y0) (z0 := z0) (H := H) (V := V) (C := C) h w c lo hi ot _ ch oa on oc W slo shi _ _ _ _ hO hs (rsg_ok h w c lo hi ot oa on oc O Z B W hL ch RL Rw hR i x wa lw cw ba lb cb x0 y0 z0 H V C hF hch) (fun W => rrch_any (O i 0) (O i 1) (O i 2) (O i 3) (O i 4) (O i 5) (O i 6) (O i 7) (O i 8) (O i 9) (O i 10) (O i 11) wa lw cw ba lb cb (O i 14) (O i 15) (O i 16) (O i 17) (O i 18) (O i 19) (O i 20) (O i 21) slo shi W f4 f5 f6 f7 f3 hva)
      (fun W' hb => rbias_any (O i 0) (O i 1) (O i 2) (O i 3) (O i 4) (O i 5) (O i 6) (O i 7) (O i 8) (O i 9) (O i 10) (O i 11) wa lw cw ba lb cb (O i 14) (O i 15) (O i 16) (O i 17) (O i 18) (O i 19) (O i 20) (O i 21) x0 y0 z0 H V C W' (B i) (hF.2.2.2.2.2.2.1.below hb) hSit ch hch) hsg.1 hsg.2 (rcV_bd (by omega) (by omega) f3) f8
/-- Either all of them tell an error, the same; or the op and the channel are there. -/
theorem ask_cases (h w c lo hi ot : Int) (oa : Option Addr) (on oc : Nat) (O : Nat → Nat → Int) (Z B : Nat → List Int) (W : World) (hL : LRow W oa on oc O Z B) (hon : on ≤ 1000000000000) (op ch : Int) :
    (∃ E : Int, E ≠ 0 ∧ (∀ W', Below W.heap.size W W' → Calls Try.prog 16 #[.agg #[.int .i64 h, .int .i64 w, .int .i64 c, .int .i64 lo, .int .i64 hi, .slice oa on oc, .int .i64 ot], .int .i64 op, .int .i64 ch, .int .i64 0] W' fun e w' => e = .returned (.tuple #[.slice none 0 0, .int .i64 0, .int .i64 E]) ∧ Below W'.heap.size W' w') ∧
      (∀ W', Below W.heap.size W W' → Calls Try.prog 7 #[.agg #[.int .i64 h, .int .i64 w, .int .i64 c, .int .i64 lo, .int .i64 hi, .slice oa on oc, .int .i64 ot], .int .i64 op, .int .i64 ch] W' fun e w' => e = .returned (.tuple #[.agg #[.int .i64 0, .int .i64 0, .int .i64 0, .int .i64 0, .int .i64 0, .int .i64 0, .int .i64 0, .int .i64 0, .int .i64 0, .int .i64 0, .int .i64 0, .int .i64 0, .slice none 0 0, .slice none 0 0, .int .i64 0, .int .i64 0, .int .i64 0, .int .i64 0, .int .i64 0, .int .i64 0, .int .i64 0, .int .i64 0, .int .i64 0, .int .i64 0, .int .i64 0, .int .i64 0, .int .i64 0, .int .i64 0], .int .i64 E]) ∧ Below W'.heap.size W' w')) ∨
    (∃ (RL : List (Int × Int × Int)) (Rw : Int), gtR O h w c lo hi ot on = (0, 0, RL, Rw) ∧ ∃ (i : Nat) (x : Addr) (wa : Option Addr) (lw cw : Nat) (ba : Option Addr) (lb cb : Nat) (x0 y0 z0 H V C : Int), op = (i : Int) + 1 ∧ Fnd W oa on O Z B RL i x wa lw cw ba lb cb x0 y0 z0 H V C ∧ (1 ≤ ch ∧ ch ≤ C)) := by
  obtain ⟨E, hf⟩ : ∃ E, fiE O h w c lo hi ot on op = E := ⟨_, rfl⟩
  by_cases hE : E = 0
  · subst hE
    obtain ⟨RL, Rw, hR, i, x, wa, lw, cw, ba, lb, cb, x0, y0, z0, H, V, C, rfl, hF⟩ := found h w c lo hi ot oa on oc O Z B W hL op hf
    by_cases hch : 1 ≤ ch ∧ ch ≤ C
    · exact .inr ⟨RL, Rw, hR, i, x, wa, lw, cw, ba, lb, cb, x0, y0, z0, H, V, C, rfl, hF, hch⟩
    · refine .inl ⟨3, by omega, fun W' hb => of_place h w c lo hi ot oa on oc O Z B W' (hL.below hb) ch 0 RL Rw hR i x wa lw cw ba lb cb x0 y0 z0 H V C (hF.below hb) (fun q => hch q.1), fun W' hb => ?_⟩
      by_cases h0 : 0 ≤ ch ∧ ch ≤ C
      · obtain rfl : ch = 0 := by omega
        exact fch_0 (O := O) (i := i) (x := x) (wa := wa) (lw := lw) (cw := cw) (ba := ba) (lb := lb) (cb := cb) (x0 := x0) (y0 := y0) (z0 := z0) (H := H) (V := V) (C := C) h w c lo hi ot oa on oc W' ((i : Int) + 1) (fun W'' hb' => rfind_ok h w c lo hi ot oa on oc O Z B W'' (hL.below (hb.trans (hb'.mono hb.size))) hon 0 RL Rw hR i x wa lw cw ba lb cb x0 y0 z0 H V C (hF.below (hb.trans (hb'.mono hb.size))) h0)
      · exact fch_z (x9 := 0) h w c lo hi ot oa on oc W' ((i : Int) + 1) ch 3 (by omega) (fun W'' hb' => rfind_no h w c lo hi ot oa on oc O Z B W'' (hL.below (hb.trans (hb'.mono hb.size))) hon ch RL Rw hR i x wa lw cw ba lb cb x0 y0 z0 H V C (hF.below (hb.trans (hb'.mono hb.size))) h0)
  · exact .inl ⟨E, hE, fun W' hb => of_bad h w c lo hi ot oa on oc O Z B W' (hL.below hb) op ch 0 E hf hE, fun W' hb => fch_z (x9 := 0) h w c lo hi ot oa on oc W' op ch E (by omega) (fun W'' hb' => rfind_bad h w c lo hi ot oa on oc O Z B W'' (hL.below (hb.trans (hb'.mono hb.size))) hon op ch E hf hE)⟩
end Go.Proofs.Ytjjckaklhafibaa

/- one and fixed of law12. -/
namespace Go.Proofs.Ytjjckaklhafibaa
open Go.ChangeShapes Go.WideShapes Go.ChangeAt Go.RowKit
set_option linter.unusedVariables false
theorem one12_any (W : World) :
    Calls Try.prog 19 #[] W fun e w' => ∃ g : Nat, e = .returned (.agg #[.int .i64 1, .int .i64 1, .int .i64 2, .int .i64 (-128), .int .i64 127, .slice (some ⟨g, 0, none⟩) 1 1, .int .i64 1]) ∧ LRow w' (some ⟨g, 0, none⟩) 1 1 (plO 0) plZ plB ∧ Below W.heap.size W w' := by
  go_enter Try.func19, Try.ntmps19
  go_wp2
  have s1 := (((St.start W).new (c := #[.int .i64 1, .int .i64 1, .int .i64 2, .int .i64 (-128), .int .i64 127, .slice (some ⟨W.heap.size + 1 + 1 + 1, 0, none⟩) 1 1, .int .i64 1]) (t := 26)).new (c := #[.int .i16 3, .int .i16 (-2)]) (t := 91)).new (c := #[.int .i32 1]) (t := 21)
  simp only [World.size_alloc] at s1
  have s2 := s1.new (c := #[.int .i64 1, .int .i64 0, .int .i64 0, .int .i64 1, .int .i64 0, .int .i64 0, .int .i64 0, .int .i64 0, .int .i64 0, .int .i64 0, .int .i64 0, .int .i64 0, .slice (some ⟨W.heap.size + 1, 0, none⟩) 2 2, .slice (some ⟨W.heap.size + 1 + 1, 0, none⟩) 1 1, .int .i64 1, .int .i64 0, .int .i64 0, .int .i64 0, .int .i64 0, .int .i64 0, .int .i64 (-128), .int .i64 127]) (t := 39)
  simp only [World.size_alloc] at s2
  exact bodyPost_ret (v := .agg #[.int .i64 1, .int .i64 1, .int .i64 2, .int .i64 (-128), .int .i64 127, .slice (some ⟨W.heap.size + 1 + 1 + 1, 0, none⟩) 1 1, .int .i64 1]) (by simp [results, Try.results19, go_sem]) rfl ⟨W.heap.size + 1 + 1 + 1, rfl, pl_lrow (p := W.heap.size + 1) (q := W.heap.size + 1 + 1) s2.h1 s2.h3 s2.h2, s2.below⟩
theorem eqSp (T : TypeId) (hT : T = 28) (a1 a2 b1 b2 : Int) (v : Bool) (h : decide (a1 = b1 ∧ a2 = b2) = v) : ∀ W, (binOp .eql T (.agg #[.int .i64 a1, .int .i64 a2]) (.agg #[.int .i64 b1, .int .i64 b2])).run Try.prog W = .ok (.bool v) W := by
  intro W; subst h hT; simp [go_sem]; repeat' split
  all_goals simp_all
theorem pl_q1 : quR 0 10 (biA (plO 0 0 0) 1 (plB 0)) (upS [(3, 0), (-2, 1)] - dnS [(3, 0), (-2, 1)]) (rcV (plO 0 0 8) (plO 0 0 9) (plO 0 0 10) (plO 0 0 11) (plO 0 0 19) 0 10) = (-49, 51, 0) := by decide
theorem pl_q2 : quR 5 200 (biA (plO 0 0 0) 1 (plB 0)) (upS [(3, 0), (-2, 1)] - dnS [(3, 0), (-2, 1)]) (rcV (plO 0 0 8) (plO 0 0 9) (plO 0 0 10) (plO 0 0 11) (plO 0 0 19) 5 200) = (0, 0, 30) := by decide
set_option maxHeartbeats 4000000 in
set_option maxRecDepth 100000 in
theorem fixed12_any (W : World) : Calls Try.prog 10 #[] W fun e w' => e = .returned (.bool true) ∧ Below W.heap.size W w' := by
  go_enter Try.func10, Try.ntmps10
  go_wp2_with fail
  refine (one12_any _).mono ?_
  rintro e w1 ⟨g, rfl, hL, b1⟩
  obtain ⟨wa, lw, cw, ba, lb, cb, hF⟩ := pl_found hL
  have hK := nl1_ok 1 1 2 (-128) 127 1 (some ⟨g, 0, none⟩) 1 1 (plO 0) plZ plB w1 hL 1 _ _ pl_0 0 ⟨g, 0, none⟩ wa lw cw ba lb cb 1 1 2 1 1 1 hF (by omega)
  rw [pl_terms, show upS [(3, 0), (-2, 1)] - dnS [(3, 0), (-2, 1)] = 5 from by decide] at hK
  go_wp2_with fail
  refine hK.mono ?_
  rintro e w2 ⟨rfl, b2⟩
  have D2 : Hid (Below W.heap.size W w2) := bt b1 b2
  clear b1 b2 hF hL hK
  go_wp2_with fail
  refine (one12_any _).mono ?_
  rintro e w3 ⟨g, rfl, hL, b3⟩
  obtain ⟨wa, lw, cw, ba, lb, cb, hF⟩ := pl_found hL
  have hK := nsg_ok 1 1 2 (-128) 127 1 (some ⟨g, 0, none⟩) 1 1 (plO 0) plZ plB w3 hL 1 _ _ pl_0 0 ⟨g, 0, none⟩ wa lw cw ba lb cb 1 1 2 1 1 1 hF (by omega)
  rw [pl_terms, show upS [(3, 0), (-2, 1)] = 3 from by decide, show dnS [(3, 0), (-2, 1)] = -2 from by decide] at hK
  go_wp2_with fail
  refine hK.mono ?_
  rintro e w4 ⟨rfl, b4⟩
  have D4 : Hid (Below W.heap.size W w4) := bt D2.out (bt b3 b4)
  clear b3 b4 hF hL hK D2
  go_wp2_with fail
  refine (one12_any _).mono ?_
  rintro e w5 ⟨g, rfl, hL, b5⟩
  obtain ⟨wa, lw, cw, ba, lb, cb, hF⟩ := pl_found hL
  have hK := nqu_ok 1 1 2 (-128) 127 1 (some ⟨g, 0, none⟩) 1 1 (plO 0) plZ plB w5 hL 1 _ _ pl_0 0 ⟨g, 0, none⟩ wa lw cw ba lb cb 1 1 2 1 1 1 hF (by omega) 0 10
  rw [pl_terms, pl_q1] at hK
  go_wp2_with fail
  refine hK.mono ?_
  rintro e w6 ⟨rfl, b6⟩
  have D6 : Hid (Below W.heap.size W w6) := bt D4.out (bt b5 b6)
  have S6 : Hid (St W _ _) := (St.call (l := []) (St.start W) D6.out).new (c := #[.int .i64 (-49), .int .i64 51]) (t := 28)
  clear b5 b6 hF hL hK D4 D6
  go_wp2_with fail
  refine (one12_any _).mono ?_
  rintro e w7 ⟨g, rfl, hL, b7⟩
  obtain ⟨wa, lw, cw, ba, lb, cb, hF⟩ := pl_found hL
  have hK := nqu_ok 1 1 2 (-128) 127 1 (some ⟨g, 0, none⟩) 1 1 (plO 0) plZ plB w7 hL 1 _ _ pl_0 0 ⟨g, 0, none⟩ wa lw cw ba lb cb 1 1 2 1 1 1 hF (by omega) 5 200
  rw [pl_terms, pl_q2] at hK
  go_wp2_with fail
  refine hK.mono ?_
  rintro e w8 ⟨rfl, b8⟩
  have S8 : Hid (St W _ _) := (S6.out.call (bt b7 b8)).new (c := #[.int .i64 0, .int .i64 0]) (t := 28)
  clear b7 b8 hF hL hK S6
  obtain ⟨c1, f1, z1, c2, f2, z2, -⟩ := S8.out.rules
  have hq := eqSp 28 rfl (-49) 51 (-49) 51 true (by decide)
  go_wp2
  go_ret
  exact ⟨rfl, S8.out.below⟩
end Go.Proofs.Ytjjckaklhafibaa

/- What greatestUnder and greatest of package plain return. -/
namespace Go.Proofs.Ytjjckaklhafibaa
open Go.ChangeShapes Go.WideShapes Go.ChangeAt Go.RowKit
set_option linter.unusedVariables false
theorem grA_at {w c kw : Int} {xs : List Int} {t u d : Int} {i j : Nat} (hj : (j : Int) < kw) {q N : Nat} (hq : (q : Int) = i * kw + j) (hN : ((t + i) * w + (u + j)) * c + d = (N : Int)) : grA w c kw xs t u d q = xs.getD N 0 := by
  unfold grA
  obtain ⟨e1, e2⟩ := divmod_at (q := i) hj
  rw [hq, e1, e2, hN, Int.toNat_natCast]
theorem w64 {x : Int} (h : -9223372036854775808 ≤ x ∧ x ≤ 9223372036854775807) : IntKind.i64.wrap x = x := by rw [IntKind.wrap_i64]; omega
end Go.Proofs.Ytjjckaklhafibaa

/- What greatest of package plain returns; lists that grow. -/
namespace Go.Proofs.Ytjjckaklhafibaa
open Go.ChangeShapes Go.WideShapes Go.ChangeAt Go.RowKit
set_option linter.unusedVariables false
/-! ### Lists that grow -/
/-- 'make' of none, with room. -/
theorem wpList_mk0 {k : IntKind} {T S : TypeId} {by8 : Nat} (kt : KT k T S by8) {w : World} {ops : Array Oper} {rest : List Oper} {o : Oper} {a : Act} {Q : Exit → Act → World → Prop} (hg : o.guard = none) (l c : Operand) (hop : o.op = Op.makeSlice S l c)
    (m : Nat) (M : Int) (hl : a.eval l = .int .i64 0) (hc : a.eval c = .int .i64 M) (hM : M = (m : Int)) (hm : m ≤ 10000000) (base : Nat) (hb : base ≤ w.heap.size)
    (hK : ∀ v w', Own k T w' base v [] → Below w.heap.size w w' → wpList Try.prog ops Q rest (a.put o.dst v) w') : wpList Try.prog ops Q (o :: rest) a w := by
  obtain ⟨hu, hin, b1, b8⟩ := kt
  obtain ⟨i0, hi, hz0, hz1, hz2⟩ := info_parts hin
  subst hM
  have hby : by8 * m ≤ 8 * m := Nat.mul_le_mul_right _ b8
  have hby' : (by8 : Int) * (m : Int) ≤ 281474976710656 := by
    have : ((by8 * m : Nat) : Int) ≤ 281474976710656 := by omega
    rwa [Int.natCast_mul] at this
  refine wpList_plain hg fun K hK' => ?_
  have hr := run_make (P := Try.prog) w S T i0 (.int k 0) hu hi hz0 .i64 .i64 ((0 : Nat) : Int) m (by omega) (by omega) (by rw [hz2]; exact hby') (by omega)
  simp only [Int.toNat_natCast, hz1] at hr
  unfold Oper.wp
  simp only [execOp, hop, hl, hc]
  simp [Result.andThen]
  have hr' := hr
  simp only [Int.natCast_zero] at hr'
  rw [hr']
  refine hK' _ _ (hK _ _ ⟨⟨by simp, .inr ⟨w.heap.size, m, _, rfl, hb, heap_alloc_new w _, Nat.zero_le _, by unfold maxLen; omega, by rw [size_madeCells], by simp⟩⟩, Wf.nil k⟩ (bal _ _))
/-- 'append' of numbers, in a region that draws its order. -/
theorem step_ap {k : IntKind} {T S : TypeId} {by8 : Nat} (kt : KT k T S by8) {w : World} {ops : Array Oper} {o : Oper} {a : Act} {K : Act → World → Prop} {Q : Exit → Act → World → Prop} {E : Prop} (hgd : o.guard = none) (s x : Operand)
    (ho : o.op = .call { callee := .builtin .append, args := #[s, x], argTypes := #[S, S] })
    (base : Nat) (v : Value) (xs ys : List Int) (hs : a.eval s = v) (hown : Own k T w base v xs) (ad : Addr) (m c : Nat) (hx : a.eval x = .slice (some ad) m c) (hy : IRow k w (some ad) m c ys)
    (hlen : xs.length + ys.length ≤ 10000000) (hbase : base ≤ w.heap.size)
    (hK : ∀ v' w', Own k T w' base v' (xs ++ ys) → w.grownBy w' v.ownBlock → K (a.put o.dst v') w') : if Region.wanted o (yielded ops a.tmps) = true then Oper.wp Try.prog o a w K Q else E := by
  have hw : Region.wanted o (yielded ops a.tmps) = true := by simp [Region.wanted, hgd]
  rw [if_pos hw]
  obtain ⟨hu, hin, b1, b8⟩ := kt
  obtain ⟨i0, hi, hz0, hz1, hz2⟩ := info_parts hin
  obtain ⟨hl, hc, hm, hb, hn, hcell⟩ := hy
  have hby : by8 * (xs.length + ys.length) ≤ 8 * (xs.length + ys.length) := Nat.mul_le_mul_right _ b8
  have hby' : (xs.length + m) * by8 ≤ 140737488355328 := by rw [hl] at hby hlen; rw [Nat.mul_comm]; omega
  have hcs : ∀ j u, (ys.map (Value.int k))[j]? = some u → w.cell? (ad.add j) = some u := by
    intro j u hj
    have hj' : j < m := by
      have := (List.getElem?_eq_some_iff.1 hj).1
      simpa [hl] using this
    rw [hcell ad rfl j hj']
    simp [List.getD, show j < ys.length by omega] at hj ⊢
    exact hj
  obtain ⟨v', w', hrun, r1, r2, r3⟩ := run_append_own (P := Try.prog) w base S o.type T i0 (.int k 0) 1 by8 hu hi hz0 hz1 hz2 rfl (by omega) v xs.length _ hown.1 ad m c (ys.map (Value.int k)) (by simp [hl]) hcs (ints_oneCell _ _) (by unfold maxLen; omega) hby' hbase
  unfold Oper.wp
  simp [execOp, ho, resolve, invoke, builtin, hs, hx, hrun, Result.andThen]
  refine hK v' w' ⟨?_, hown.2.app hb⟩ r2
  rw [List.length_append, hl, List.map_append]
  exact r1
theorem gr_idx {VN CN i j d : Nat} (hj : j < VN) (hd : d < CN) : ((((i * VN + j) * CN + d : Nat) : Int) / (CN : Int) / (VN : Int) = i ∧ (((i * VN + j) * CN + d : Nat) : Int) / (CN : Int) % (VN : Int) = j) ∧ (((i * VN + j) * CN + d : Nat) : Int) % (CN : Int) = d := by
  obtain ⟨e1, e2⟩ := divmod_at (C := (CN : Int)) (q := i * VN + j) (d := d) (by omega)
  obtain ⟨e3, e4⟩ := divmod_at (C := (VN : Int)) (q := i) (d := j) (by omega)
  rw [Int.natCast_add, Int.natCast_mul, e1, e2, Int.natCast_add, Int.natCast_mul, e3, e4]
  exact ⟨⟨rfl, rfl⟩, rfl⟩
theorem step_in {i H sh kh h : Int} (hi : 0 ≤ i ∧ i < H) (hs : 1 ≤ sh) (hf : (H - 1) * sh + kh ≤ h) : 0 ≤ i * sh ∧ i * sh + kh ≤ h := by
  have a := Int.mul_le_mul_of_nonneg_right (show i ≤ H - 1 by omega) (show 0 ≤ sh by omega)
  have b := Int.mul_nonneg hi.1 (show 0 ≤ sh by omega)
  omega
end Go.Proofs.Ytjjckaklhafibaa
