/- The walk of WindowPlain. -/
import Derived.Test.YtcgpeaamblanlaaWinL
namespace Go.Proofs.Ytcgpeaamblanlaa
open Go.ChangeShapes Go.WideShapes Go.ChangeAt Go.RowKit Go.Shelf
/-- Some tap of a position that is there covers a place of the plane. -/
theorem pad_lt {h w kh kw t u : Int} (hc : Cor h w kh kw t u) : padN (tapL h w kw t u (kh * kw).toNat) < (kh * kw).toNat := by
  obtain ⟨h1, w1, q9, k1, k2, t1, u1⟩ := hc
  obtain ⟨KW, rfl⟩ : ∃ K : Nat, kw = K := ⟨kw.toNat, by omega⟩
  have hx : (max 0 (-u)).toNat < KW := by omega
  have hy : ((max 0 (-t)).toNat : Int) ≤ kh - 1 := by omega
  have hk : (max 0 (-t)).toNat * KW + (max 0 (-u)).toNat < (kh * KW).toNat := by
    have := Int.mul_le_mul_of_nonneg_right (show ((max 0 (-t)).toNat : Int) + 1 ≤ kh by omega) (show (0 : Int) ≤ KW by omega)
    rw [Int.add_mul] at this
    have e : (((max 0 (-t)).toNat * KW : Nat) : Int) = ((max 0 (-t)).toNat : Int) * KW := by simp
    omega
  have hs := spot_at (y := (max 0 (-t)).toNat) hx
  simp only [Prod.mk.injEq] at hs
  have hlen := tapL_len h w KW t u (kh * KW).toNat
  have : padN (tapL h w KW t u (kh * KW).toNat) < (tapL h w KW t u (kh * KW).toNat).length := by
    unfold padN
    rw [List.length_filter_lt_length_iff_exists]
    refine ⟨_, List.mem_map.2 ⟨_, List.mem_range.2 hk, rfl⟩, ?_⟩
    unfold tap
    rw [hs.1, hs.2]
    rw [plc_in ⟨⟨by omega, by omega⟩, ⟨by omega, by omega⟩⟩]
    have := rowbd (h := h) (w := w) (y := t + ((max 0 (-t)).toNat : Int)) (x := u + ((max 0 (-u)).toNat : Int)) (by omega) (by omega) (by omega) (by omega)
    simp only [decide_eq_true_eq]
    omega
  omega
/-- A tap that covers a place: where it lies. -/
theorem tap_at {h w kh kw t u : Int} {k : Nat} (hc : Cor h w kh kw t u) (hk : k < (kh * kw).toNat) (hz : 0 ≤ plc h w (t + (k : Int) / kw) (u + (k : Int) % kw)) :
    (plc h w (t + (k : Int) / kw) (u + (k : Int) % kw)).tdiv w = t + (k : Int) / kw ∧ (plc h w (t + (k : Int) / kw) (u + (k : Int) % kw)).tmod w = u + (k : Int) % kw ∧
    (0 ≤ (k : Int) / kw ∧ (k : Int) / kw ≤ 1024) ∧ (0 ≤ (k : Int) % kw ∧ (k : Int) % kw ≤ 1024) ∧ (0 ≤ t + (k : Int) / kw ∧ t + (k : Int) / kw ≤ 1024) ∧ (0 ≤ u + (k : Int) % kw ∧ u + (k : Int) % kw ≤ 1024) ∧ (k : Int).tdiv kw = (k : Int) / kw ∧ (k : Int).tmod kw = (k : Int) % kw := by
  obtain ⟨h1, w1, q9, k1, k2, t1, u1⟩ := hc
  have a1 := Int.ediv_nonneg (show (0 : Int) ≤ k by omega) (show 0 ≤ kw by omega)
  have p3 := Int.mul_nonneg (show 0 ≤ kh by omega) (show 0 ≤ kw by omega)
  have a2 : (k : Int) / kw < kh := Int.ediv_lt_of_lt_mul (by omega) (by omega)
  have b1 := Int.emod_nonneg (k : Int) (show kw ≠ 0 by omega)
  have b2 := Int.emod_lt_of_pos (k : Int) (show 0 < kw by omega)
  by_cases g : (0 ≤ t + (k : Int) / kw ∧ t + (k : Int) / kw < h) ∧ (0 ≤ u + (k : Int) % kw ∧ u + (k : Int) % kw < w)
  · rw [plc_in g] at hz ⊢
    rw [td hz, tm hz, td (show (0 : Int) ≤ k by omega), tm (show (0 : Int) ≤ k by omega)]
    refine ⟨?_, ?_, ⟨a1, by omega⟩, ⟨b1, by omega⟩, ⟨by omega, by omega⟩, ⟨by omega, by omega⟩, rfl, rfl⟩
    · rw [Int.add_comm, Int.add_mul_ediv_right _ _ (by omega), Int.ediv_eq_zero_of_lt g.2.1 g.2.2]; omega
    · rw [Int.add_comm, Int.add_mul_emod_self_right, Int.emod_eq_of_lt g.2.1 g.2.2]
  · rw [plc_out g] at hz; omega
set_option maxRecDepth 100000 in
set_option maxHeartbeats 16000000 in
theorem windowPlain_walk (h w c kh kw sh sw tp lf bt rt n : Int) (W : World) (_w0 : (Lit.int .i64 h).wf = true) (_w1 : (Lit.int .i64 w).wf = true) (_w2 : (Lit.int .i64 c).wf = true) (_w3 : (Lit.int .i64 kh).wf = true) (_w4 : (Lit.int .i64 kw).wf = true) (_w5 : (Lit.int .i64 sh).wf = true) (_w6 : (Lit.int .i64 sw).wf = true) (_w7 : (Lit.int .i64 tp).wf = true) (_w8 : (Lit.int .i64 lf).wf = true) (_w9 : (Lit.int .i64 bt).wf = true) (_w10 : (Lit.int .i64 rt).wf = true) (_w11 : (Lit.int .i64 n).wf = true) :
    Calls Try.prog 7 #[.agg #[.int .i64 h, .int .i64 w, .int .i64 c], .agg #[.int .i64 kh, .int .i64 kw, .int .i64 sh, .int .i64 sw, .int .i64 tp, .int .i64 lf, .int .i64 bt, .int .i64 rt], .int .i64 n] W fun e w' => e = .returned (.bool true) ∧ Below W.heap.size W w' := by
  clear _w0 _w1 _w2 _w3 _w4 _w5 _w6 _w7 _w8 _w9 _w10 _w11
  have hcs := coR_cases h w c kh kw sh sw tp lf bt rt n
  rcases hcs with ⟨e, he, h2⟩ | ⟨r, q, he, hf, hn, hc⟩
  · have HT : Hid (tapsOf h w c kh kw sh sw tp lf bt rt n = []) := tapsOf_no he (by omega)
    have HC : Hid (coR h w c kh kw sh sw tp lf bt rt n = (0, 0, e)) := he
    have z1 : (e != 0) = true := by simp; omega
    have z2 : (e == 0) = false := by simp; omega
    clear he h2
    go_enter Try.func7, Try.ntmps7
    go_wp2_with fail
    refine (pairs_any h w c kh kw sh sw tp lf bt rt n 2000000 _).mono ?_
    rintro e' w1 ⟨⟨v, rfl, hown⟩, hb⟩
    rw [HT.out, List.take_nil] at hown
    have s1 := ((St.start W).new (c := #[.int .i64 h, .int .i64 w, .int .i64 c]) (t := 23)).new (c := #[.int .i64 kh, .int .i64 kw, .int .i64 sh, .int .i64 sw, .int .i64 tp, .int .i64 lf, .int .i64 bt, .int .i64 rt]) (t := 25) |>.call hb
    simp only [World.size_alloc] at s1
    obtain ⟨c1, f1, z3, c2, f2, z4, -⟩ := s1.rules
    clear hb
    obtain ⟨a, cap, hv, -⟩ := hown.rowN (n := 0) rfl
    subst hv
    go_wp2_with fail
    refine (fixed_any _).mono ?_
    rintro e w2 ⟨rfl, hb'⟩
    have s2 := s1.call hb'
    clear hb' c1 f1 c2 f2
    try simp only [World.size_setCell] at s2
    try simp only [World.size_alloc] at s2
    obtain ⟨c1, f1, zw2_1, c2, f2, zw2_2, -⟩ := s2.rules
    go_wp2
    refine wp_loop_rounds 1 ?_
    rw [rounds_succ]
    go_wp2_with fail
    refine (padded_any _ _ _ _ _ _ _ _ _ _ _ _ _).mono ?_
    rintro e' w3 ⟨rfl, hb⟩
    have s3 := s2.call hb
    clear hb
    rw [HC.out, HT.out]
    go_wp2
    go_ret
    exact ⟨rfl, s3.below⟩
  · have hcor := cor_of hf hn
    have hpad := pad_lt hcor
    have k1 := hcor.2.2.2.1
    have k2 := hcor.2.2.2.2.1
    have h1 := hcor.1
    have v1 := hcor.2.1
    have h9 := hcor.2.2.1
    clear hf hn
    obtain ⟨t, ht⟩ : ∃ t, n / q * sh - tp = t := ⟨_, rfl⟩
    obtain ⟨u, hu⟩ : ∃ u, n % q * sw - lf = u := ⟨_, rfl⟩
    rw [ht, hu] at hc hcor hpad
    clear ht hu
    have HC : Hid (coR h w c kh kw sh sw tp lf bt rt n = (t, u, 0)) := hc
    have HCo : Hid (Cor h w kh kw t u) := hcor
    have m9 := mul_bd k1.1 k1.2 k2.1 k2.2
    obtain ⟨M, hM⟩ : ∃ M, (kh * kw).toNat = M := ⟨_, rfl⟩
    have hM1 : kh * kw = (M : Int) := by omega
    have hM2 : 2 * kh * kw = 2 * (M : Int) := by rw [Int.mul_assoc, hM1]
    rw [hM] at hpad
    rw [hM1] at m9
    have HM : Hid ((kh * kw).toNat = M) := hM
    have HT : Hid (tapsOf h w c kh kw sh sw tp lf bt rt n = tapL h w kw t u M) := by rw [← hM]; exact tapsOf_ok hc
    have HF : Hid ((tapsOf h w c kh kw sh sw tp lf bt rt n).take 2000000 = tapL h w kw t u M) := by
      unfold Hid
      rw [HT.out, List.take_of_length_le (by rw [tapL_len]; omega)]
    clear hc hM hcor
    obtain ⟨hw, hhw⟩ : ∃ hw, h * w = hw := ⟨_, rfl⟩
    rw [hhw] at h9
    have h10 : 1 ≤ hw := by have := (mul_bd h1.1 h1.2 v1.1 v1.2).1; omega
    have hpc := padN_le (tapL h w kw t u M)
    rw [tapL_len] at hpc
    obtain ⟨Z, hZ⟩ : ∃ Z, padN (tapL h w kw t u M) = Z := ⟨_, rfl⟩
    have HZ : Hid (padN (tapL h w kw t u M) = Z) := hZ
    rw [hZ] at hpad hpc
    clear hZ
    go_enter Try.func7, Try.ntmps7
    go_wp2_with fail
    refine (pairs_any h w c kh kw sh sw tp lf bt rt n 2000000 _).mono ?_
    rintro e' w1 ⟨⟨v, rfl, hown⟩, hb⟩
    rw [HF.out] at hown
    have s1 := ((St.start W).new (c := #[.int .i64 h, .int .i64 w, .int .i64 c]) (t := 23)).new (c := #[.int .i64 kh, .int .i64 kw, .int .i64 sh, .int .i64 sw, .int .i64 tp, .int .i64 lf, .int .i64 bt, .int .i64 rt]) (t := 25) |>.call hb
    simp only [World.size_alloc] at s1
    obtain ⟨c1, f1, z3, c2, f2, z4, -⟩ := s1.rules
    clear hb
    obtain ⟨a, cap, hv, -⟩ := hown.rowN (n := 2 * M) (by rw [flat_len, tapL_len])
    subst hv
    go_wp2_with fail
    refine (fixed_any _).mono ?_
    rintro e' w4 ⟨rfl, hb⟩
    have own4 := hown.below hb
    have s4 := s1.call hb
    clear hb hown c1 f1 c2 f2 z3 z4
    obtain ⟨c1, f1, z3, c2, f2, z4, -⟩ := s4.rules
    obtain ⟨a', cap', hv', hrow, hc1, hc2⟩ := own4.rowN (n := 2 * M) (by rw [flat_len, tapL_len])
    simp only [Value.slice.injEq, true_and] at hv'
    obtain ⟨rfl, rfl⟩ := hv'
    unfold maxLen at hc2
    go_wp2
    go_loopw [9, 10] (fun rl i wr => ∃ k m : Nat, k ≤ M ∧ i = .int .i64 (2 * (k : Int)) ∧ rl = .int .i64 ((k : Int) - padN (tapL h w kw t u k)) ∧ wr = w4.drewN m) (fun _ i _ => 2 * M + 2 - (intOf i).toNat)
    case atStart => exact ⟨0, 0, Nat.zero_le _, rfl, rfl, rfl⟩
    case round =>
      obtain ⟨k, m, hk, rfl, rfl, rfl⟩ := hrel
      have hpl := padN_le (tapL h w kw t u k)
      rw [tapL_len] at hpl
      by_cases hlt : k < M
      · have hget1 := row_get (k := 2 * k) hrow (by rw [flat_fst, tapL_get hlt]; rfl)
        obtain ⟨p, rfl, g1⟩ := hget1
        obtain ⟨p', hp, g2⟩ := row_get (k := 2 * k + 1) hrow (by rw [flat_snd, tapL_get hlt]; rfl)
        obtain rfl := Option.some.inj hp
        have i1 := ix (p := p) (n := 2 * M) (cap := cap) (i := 2 * (k : Int)) (j := 2 * k) (by omega) (by omega) (by omega)
        have i2 := ix (p := p) (n := 2 * M) (cap := cap) (i := 2 * (k : Int) + 1) (j := 2 * k + 1) (by omega) (by omega) (by omega)
        rw [add_odd] at g2
        dsimp only at g1 g2
        have hz := plc_cases h w (t + (k : Int) / kw) (u + (k : Int) % kw)
        have hat := fun g => tap_at (k := k) HCo.out (by rw [HM.out]; exact hlt) g
        have HS : Hid (padN (tapL h w kw t u (k + 1)) = padN (tapL h w kw t u k) + (if plc h w (t + (k : Int) / kw) (u + (k : Int) % kw) = -1 then 1 else 0)) := padN_tap h w kw t u k
        obtain ⟨y, hyy⟩ : ∃ y, padN (tapL h w kw t u k) = y := ⟨_, rfl⟩
        rw [hyy] at HS hpl
        rw [hyy]
        clear hyy
        obtain ⟨z, hzz⟩ : ∃ z, plc h w (t + (k : Int) / kw) (u + (k : Int) % kw) = z := ⟨_, rfl⟩
        obtain ⟨d, hd⟩ : ∃ d, (k : Int) / kw = d := ⟨_, rfl⟩
        obtain ⟨o, ho⟩ : ∃ o, (k : Int) % kw = o := ⟨_, rfl⟩
        rw [hzz] at g2 hz HS hat
        rw [hd, ho] at hat
        rw [hhw] at hz
        clear hp
        by_cases hz0 : z < 0
        · have HS' : Hid (padN (tapL h w kw t u (k + 1)) = y + 1) := by unfold Hid; rw [HS.out, if_pos (by omega)]
          clear HS hzz hd ho hat hrow
          go_wp2
          go_roundw
          case rel => exact ⟨k + 1, _, by omega, by go_num, by rw [HS'.out]; go_num, rfl⟩
          case measure => simp [intOf]; omega
        · have HS' : Hid (padN (tapL h w kw t u (k + 1)) = y) := by unfold Hid; rw [HS.out, if_neg (by omega)]; rfl
          obtain ⟨e1, e2, e3, e4, e5, e6, e7, e8⟩ := hat (by omega)
          have HZK : Hid (plc h w (t + (k : Int) / kw) (u + (k : Int) % kw) = z) := hzz
          clear HS hzz hd ho hat
          have kw0 : ¬ kw = 0 := by omega
          have w0 : ¬ w = 0 := by omega
          obtain ⟨Y, hY⟩ : ∃ Y, t + d = Y := ⟨_, rfl⟩
          obtain ⟨X, hX⟩ : ∃ X, u + o = X := ⟨_, rfl⟩
          have HY : Hid (t + d = Y) := hY
          have HX : Hid (u + o = X) := hX
          rw [hY] at e1 e5
          rw [hX] at e2 e6
          clear hY hX
          go_wp2
          go_loopw [12] (fun j wr' => ∃ k' m' : Nat, k' ≤ k ∧ j = .int .i64 (2 * (k' : Int)) ∧ wr' = w4.drewN m') (fun j _ => 2 * k + 2 - (intOf j).toNat)
          case atStart => exact ⟨0, m, Nat.zero_le _, rfl, rfl⟩
          case round =>
            obtain ⟨k', m', hk', rfl, rfl⟩ := hrel
            by_cases hlt' : k' < k
            · obtain ⟨p', hp, g3⟩ := row_get (k := 2 * k') hrow (by rw [flat_fst, tapL_get (show k' < M by omega)]; rfl)
              obtain rfl := Option.some.inj hp
              obtain ⟨p', hp', g4⟩ := row_get (k := 2 * k' + 1) hrow (by rw [flat_snd, tapL_get (show k' < M by omega)]; rfl)
              obtain rfl := Option.some.inj hp'
              have i3 := ix (p := p) (n := 2 * M) (cap := cap) (i := 2 * (k' : Int)) (j := 2 * k') (by omega) (by omega) (by omega)
              have i4 := ix (p := p) (n := 2 * M) (cap := cap) (i := 2 * (k' : Int) + 1) (j := 2 * k' + 1) (by omega) (by omega) (by omega)
              rw [add_odd] at g4
              dsimp only at g3 g4
              have hz' := plc_cases h w (t + (k' : Int) / kw) (u + (k' : Int) % kw)
              have hat := fun g => tap_at (k := k') HCo.out (by rw [HM.out]; omega) g
              obtain ⟨z', hzz⟩ : ∃ z', plc h w (t + (k' : Int) / kw) (u + (k' : Int) % kw) = z' := ⟨_, rfl⟩
              obtain ⟨d', hd⟩ : ∃ d', (k' : Int) / kw = d' := ⟨_, rfl⟩
              obtain ⟨o', ho⟩ : ∃ o', (k' : Int) % kw = o' := ⟨_, rfl⟩
              rw [hzz] at g4 hz' hat
              rw [hd, ho] at hat
              rw [hhw] at hz'
              clear hp hp' hrow hzz hd ho
              by_cases hz0' : z' < 0
              · obtain rfl : z' = -1 := by omega
                clear hat hz' hz0'
                go_wp2
                go_quiet (fail)
                go_wp2
                go_roundw
                case rel => exact ⟨k' + 1, _, by omega, by go_num, rfl⟩
                case measure => simp [intOf]; omega
              · obtain ⟨b1, b2, b3, b4, b5, b6, b7, b8⟩ := hat (by omega)
                obtain ⟨Y', hY⟩ : ∃ Y', t + d' = Y' := ⟨_, rfl⟩
                obtain ⟨X', hX⟩ : ∃ X', u + o' = X' := ⟨_, rfl⟩
                rw [hY] at b1 b5
                rw [hX] at b2 b6
                have q1 : (Y - Y' == d - d') = true := by have := HY.out; simp; omega
                have q2 : (X - X' == o - o') = true := by have := HX.out; simp; omega
                have q3 : (Y - Y' != d - d') = false := by rw [bne, q1]; rfl
                have q4 : (X - X' != o - o') = false := by rw [bne, q2]; rfl
                clear hY hX hat
                go_wp2
                go_quiet (fail)
                go_wp2
                go_roundw
                case rel => exact ⟨k' + 1, _, by omega, by go_num, rfl⟩
                case measure => simp [intOf]; omega
            · obtain rfl : k' = k := by omega
              by_cases hbr : 20 < k'
              · go_wp2_with fail
                refine (padded_any _ _ _ _ _ _ _ _ _ _ _ _ _).mono ?_
                rintro e' w6 ⟨rfl, hb⟩
                have s6 := (s4.call (dbel _ _)).call hb
                clear hb c1 f1 c2 f2 z3 z4
                obtain ⟨c1, f1, z3, c2, f2, z4, -⟩ := s6.rules
                rw [HC.out, HT.out, HZ.out]
                go_wp2
                go_ret
                exact ⟨rfl, s6.below⟩
              · go_wp2
                go_roundw
                case rel => exact ⟨k' + 1, _, by omega, by go_num, by rw [HS'.out]; go_num, rfl⟩
                case measure => simp [intOf]; omega
      · obtain rfl : k = M := by omega
        rw [HZ.out]
        go_wp2_with fail
        refine (padded_any _ _ _ _ _ _ _ _ _ _ _ _ _).mono ?_
        rintro e' w6 ⟨rfl, hb⟩
        have s6 := (s4.call (dbel _ _)).call hb
        clear hb c1 f1 c2 f2 z3 z4
        obtain ⟨c1, f1, z3, c2, f2, z4, -⟩ := s6.rules
        rw [HC.out, HT.out, HZ.out]
        go_wp2
        go_ret
        exact ⟨rfl, s6.below⟩
end Go.Proofs.Ytcgpeaamblanlaa
