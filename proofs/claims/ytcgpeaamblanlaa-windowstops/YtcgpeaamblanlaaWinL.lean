/- The walks of WindowPositions and WindowTaps. -/
import Derived.Test.YtcgpeaamblanlaaWinF
import Derived.Test.YtcgpeaamblanlaaWinQ
import Derived.Test.YtcgpeaamblanlaaWinR
namespace Go.Proofs.Ytcgpeaamblanlaa
open Go.ChangeShapes Go.WideShapes Go.ChangeAt Go.RowKit Go.Shelf
theorem flat_fst : ∀ (l : List (Int × Int)) (k : Nat), (flat l)[2 * k]? = l[k]?.map Prod.fst
  | [], k => by simp [flat]
  | x :: l, 0 => by simp [flat]
  | x :: l, k + 1 => by
    have := flat_fst l k
    have e : 2 * (k + 1) = 2 * k + 1 + 1 := by omega
    rw [e]
    simpa [flat] using this
theorem flat_snd : ∀ (l : List (Int × Int)) (k : Nat), (flat l)[2 * k + 1]? = l[k]?.map Prod.snd
  | [], k => by simp [flat]
  | x :: l, 0 => by simp [flat]
  | x :: l, k + 1 => by
    have := flat_snd l k
    have e : 2 * (k + 1) + 1 = 2 * k + 1 + 1 + 1 := by omega
    rw [e]
    simpa [flat] using this
theorem row_get {w : World} {a : Option Addr} {len cap : Nat} {zs : List Int} {k : Nat} {c : Int} (hr : Row w a len cap zs) (hz : zs[k]? = some c) : ∃ x, a = some x ∧ w.cell? (x.add k) = some (.int .i64 c) := by
  have hk : k < zs.length := (List.getElem?_eq_some_iff.1 hz).1
  obtain ⟨hl, hc, hm, hn, hcell⟩ := hr
  cases a with
  | none => have := hn rfl; omega
  | some x =>
    refine ⟨x, rfl, ?_⟩
    rw [hcell x rfl k (by omega)]
    simp [List.getD, hz]
theorem Own.rowN {w : World} {base n : Nat} {v : Value} {zs : List Int} (h : Own w base v zs) (hn : zs.length = n) : ∃ a cap, v = .slice a n cap ∧ Row w a n cap zs ∧ n ≤ cap ∧ cap ≤ maxLen := by
  subst hn
  obtain ⟨a, cap, h1, h2, -⟩ := h.row
  exact ⟨a, cap, h1, h2, h2.2.1, h2.2.2.1⟩
/-- An index into a slice of ints, as an address. -/
theorem ix {p : Addr} {n cap j : Nat} {i : Int} (h0 : 0 ≤ i) (h1 : i < n) (hj : i.toNat = j) : ∀ W : World, (Instr.indexAt 34 (.slice (some p) n cap) (.int .i64 i)).run Try.prog W = .ok (.pointer (some (p.add j))) W := fun W => by
  have hs : ∀ W : World, (sizeOf 3).run Try.prog W = .ok 1 W := fun _ => by kernel_rfl
  have he : Try.prog.elem 34 = 3 := by kernel_rfl
  rw [run_indexAt_slice (h := by rw [he]; exact Try.underlying34), if_pos ⟨h0, h1⟩, he, hs]
  subst hj
  simp [Result.andThen]
theorem add_odd (p : Addr) (k : Nat) : p.add (2 * k + 1) = ⟨p.block, p.off + (2 * k + 1), none⟩ := by simp [Addr.add]
theorem ouR_nat (h w c kh kw sh sw tp lf bt rt : Int) : ∃ (r q : Nat) (e : Int), ouR h w c kh kw sh sw tp lf bt rt = ((r : Int), (q : Int), e) ∧ r ≤ 1200 ∧ q ≤ 1200 := by
  rcases ouR_cases h w c kh kw sh sw tp lf bt rt with ⟨e, he, h2⟩ | ⟨r, q, he, hf⟩
  · exact ⟨0, 0, e, he, by omega, by omega⟩
  · obtain ⟨-, -, r1, q1, -, -⟩ := hf
    refine ⟨r.toNat, q.toNat, 0, ?_, by omega, by omega⟩
    rw [he, show ((r.toNat : Nat) : Int) = r by omega, show ((q.toNat : Nat) : Int) = q by omega]
theorem spotL_get {q k n : Nat} (hk : k < n) : (spotL q n)[k]? = some ((k : Int) / (q : Int), (k : Int) % (q : Int)) := by simp [spotL, hk]
set_option maxRecDepth 100000 in
set_option maxHeartbeats 4000000 in
theorem windowPositions_walk (h w c kh kw sh sw tp lf bt rt : Int) (W : World) (_w0 : (Lit.int .i64 h).wf = true) (_w1 : (Lit.int .i64 w).wf = true) (_w2 : (Lit.int .i64 c).wf = true) (_w3 : (Lit.int .i64 kh).wf = true) (_w4 : (Lit.int .i64 kw).wf = true) (_w5 : (Lit.int .i64 sh).wf = true) (_w6 : (Lit.int .i64 sw).wf = true) (_w7 : (Lit.int .i64 tp).wf = true) (_w8 : (Lit.int .i64 lf).wf = true) (_w9 : (Lit.int .i64 bt).wf = true) (_w10 : (Lit.int .i64 rt).wf = true) :
    Calls Try.prog 4 #[.agg #[.int .i64 h, .int .i64 w, .int .i64 c], .agg #[.int .i64 kh, .int .i64 kw, .int .i64 sh, .int .i64 sw, .int .i64 tp, .int .i64 lf, .int .i64 bt, .int .i64 rt]] W fun e w' => e = .returned (.bool true) ∧ Below W.heap.size W w' := by
  clear _w0 _w1 _w2 _w3 _w4 _w5 _w6 _w7 _w8 _w9 _w10
  obtain ⟨r, q, e, hi, hr, hq⟩ := ouR_nat h w c kh kw sh sw tp lf bt rt
  have HO : Hid (ouR h w c kh kw sh sw tp lf bt rt = ((r : Int), (q : Int), e)) := hi
  have hM := Nat.mul_le_mul hr hq
  obtain ⟨M, hm⟩ : ∃ M, r * q = M := ⟨_, rfl⟩
  rw [hm] at hM
  have HF : Hid (flat ((spotsOf h w c kh kw sh sw tp lf bt rt).take 2000000) = flat (spotL q M)) := by
    unfold Hid
    rw [spotsOf_ok hi, hm, List.take_of_length_le (by rw [spotL_len]; omega)]
  have hm1 : (r : Int) * (q : Int) = (M : Int) := by rw [← Int.natCast_mul, hm]
  have hm2 : 2 * (r : Int) * (q : Int) = 2 * (M : Int) := by rw [Int.mul_assoc, hm1]
  have HM : Hid (r * q = M) := hm
  clear hi hm
  go_enter Try.func4, Try.ntmps4
  go_wp2_with fail
  refine (spots_any h w c kh kw sh sw tp lf bt rt 2000000 _).mono ?_
  rintro e' w1 ⟨⟨v, rfl, hown⟩, hb⟩
  rw [HF.out] at hown
  have s1 := ((St.start W).new (c := #[.int .i64 h, .int .i64 w, .int .i64 c]) (t := 23)).new (c := #[.int .i64 kh, .int .i64 kw, .int .i64 sh, .int .i64 sw, .int .i64 tp, .int .i64 lf, .int .i64 bt, .int .i64 rt]) (t := 25) |>.call hb
  simp only [World.size_alloc] at s1
  obtain ⟨c1, f1, z1, c2, f2, z2, -⟩ := s1.rules
  clear hb
  obtain ⟨a, cap, hv, -⟩ := hown.rowN (n := 2 * M) (by rw [flat_len, spotL_len])
  subst hv
  go_wp2_with fail
  refine (rout_any _ _ _ _ _ _ _ _ _ _ _ _).mono ?_
  rintro e' w2 ⟨rfl, hb⟩
  have own2 := hown.below hb
  have s2 := s1.call hb
  clear hb hown c1 f1 c2 f2
  rw [HO.out]
  go_wp2_with fail
  refine (fixed_any _).mono ?_
  rintro e' w3 ⟨rfl, hb⟩
  have own3 := own2.below hb
  have s3 := s2.call hb
  clear hb own2
  obtain ⟨a', cap', hv', hrow, hc1, hc2⟩ := own3.rowN (n := 2 * M) (by rw [flat_len, spotL_len])
  simp only [Value.slice.injEq, true_and] at hv'
  obtain ⟨rfl, rfl⟩ := hv'
  unfold maxLen at hc2
  go_wp2
  go_loopw [10] (fun i wr => ∃ k n : Nat, k ≤ M ∧ i = .int .i64 k ∧ wr = w3.drewN n) (fun i _ => M - (intOf i).toNat)
  case atStart => exact ⟨0, 0, Nat.zero_le _, rfl, rfl⟩
  case round =>
    obtain ⟨k, n, hk, rfl, rfl⟩ := hrel
    by_cases hlt : k < M
    · have q0 : ¬ (q : Int) = 0 := by
        intro h0
        rw [h0, Int.mul_zero] at hm1
        omega
      obtain ⟨p, rfl, g1⟩ := row_get (k := 2 * k) hrow (by rw [flat_fst, spotL_get hlt]; rfl)
      obtain ⟨p', hp, g2⟩ := row_get (k := 2 * k + 1) hrow (by rw [flat_snd, spotL_get hlt]; rfl)
      obtain rfl := Option.some.inj hp
      have t1 := td (c := (q : Int)) (show (0 : Int) ≤ k by omega)
      have t2 := tm (c := (q : Int)) (show (0 : Int) ≤ k by omega)
      have i1 := ix (p := p) (n := 2 * M) (cap := cap) (i := 2 * (k : Int)) (j := 2 * k) (by omega) (by omega) (by omega)
      have i2 := ix (p := p) (n := 2 * M) (cap := cap) (i := 2 * (k : Int) + 1) (j := 2 * k + 1) (by omega) (by omega) (by omega)
      have e1 := Int.ediv_nonneg (show (0 : Int) ≤ k by omega) (show (0 : Int) ≤ q by omega)
      have e2 := Int.ediv_le_self (q : Int) (show (0 : Int) ≤ k by omega)
      have e3 := Int.emod_nonneg (k : Int) q0
      have e4 := Int.emod_lt_of_pos (k : Int) (show (0 : Int) < q by omega)
      rw [add_odd] at g2
      dsimp only at g1 g2
      obtain ⟨d, hd⟩ : ∃ d, (k : Int) / (q : Int) = d := ⟨_, rfl⟩
      obtain ⟨o, ho⟩ : ∃ o, (k : Int) % (q : Int) = o := ⟨_, rfl⟩
      rw [hd] at g1 t1 e1 e2
      rw [ho] at g2 t2 e3 e4
      clear hd ho hp hrow own3
      go_wp2
      go_quiet (fail)
      go_wp2
      go_roundw
      case rel => exact ⟨k + 1, _, by omega, by go_num, rfl⟩
      case measure => simp [intOf]; omega
    · obtain rfl : k = M := by omega
      go_wp2
      go_ret
      exact ⟨rfl, s3.below.trans ((dbel _ _).mono s3.below.size)⟩
theorem tapL_get {h w kw t u : Int} {k n : Nat} (hk : k < n) : (tapL h w kw t u n)[k]? = some ((k : Int), plc h w (t + (k : Int) / kw) (u + (k : Int) % kw)) := by simp [tapL, tap, hk]
theorem covL_get {h w kw t u : Int} {k n : Nat} (hk : k < n) : (covL h w kw t u n)[k]? = some (plc h w (t + (k : Int) / kw) (u + (k : Int) % kw)) := by simp [covL, hk]
theorem plc_cases (h w y x : Int) : plc h w y x = -1 ∨ (0 ≤ plc h w y x ∧ plc h w y x < h * w) := by
  by_cases k : (0 ≤ y ∧ y < h) ∧ (0 ≤ x ∧ x < w)
  · rw [plc_in k]
    have := rowbd k.1.2 k.1.1 k.2.1 k.2.2
    omega
  · exact .inl (plc_out k)
theorem padN_tap (h w kw t u : Int) (k : Nat) : padN (tapL h w kw t u (k + 1)) = padN (tapL h w kw t u k) + (if plc h w (t + (k : Int) / kw) (u + (k : Int) % kw) = -1 then 1 else 0) := by
  rw [tapL_succ]
  by_cases e : plc h w (t + (k : Int) / kw) (u + (k : Int) % kw) = -1
  · rw [padN_hit _ (by exact e), if_pos e]
  · rw [padN_miss _ (by exact e), if_neg e]
    rfl
set_option maxRecDepth 100000 in
set_option maxHeartbeats 8000000 in
theorem windowTaps_walk (h w c kh kw sh sw tp lf bt rt n : Int) (W : World) (_w0 : (Lit.int .i64 h).wf = true) (_w1 : (Lit.int .i64 w).wf = true) (_w2 : (Lit.int .i64 c).wf = true) (_w3 : (Lit.int .i64 kh).wf = true) (_w4 : (Lit.int .i64 kw).wf = true) (_w5 : (Lit.int .i64 sh).wf = true) (_w6 : (Lit.int .i64 sw).wf = true) (_w7 : (Lit.int .i64 tp).wf = true) (_w8 : (Lit.int .i64 lf).wf = true) (_w9 : (Lit.int .i64 bt).wf = true) (_w10 : (Lit.int .i64 rt).wf = true) (_w11 : (Lit.int .i64 n).wf = true) :
    Calls Try.prog 5 #[.agg #[.int .i64 h, .int .i64 w, .int .i64 c], .agg #[.int .i64 kh, .int .i64 kw, .int .i64 sh, .int .i64 sw, .int .i64 tp, .int .i64 lf, .int .i64 bt, .int .i64 rt], .int .i64 n] W fun e w' => e = .returned (.bool true) ∧ Below W.heap.size W w' := by
  clear _w0 _w1 _w2 _w3 _w4 _w5 _w6 _w7 _w8 _w9 _w10 _w11
  have hcs := coR_cases h w c kh kw sh sw tp lf bt rt n
  rcases hcs with ⟨e, he, h2⟩ | ⟨r, q, he, hf, hn, hc⟩
  · have HT : Hid (tapsOf h w c kh kw sh sw tp lf bt rt n = []) := tapsOf_no he (by omega)
    have HC : Hid (coR h w c kh kw sh sw tp lf bt rt n = (0, 0, e)) := he
    have z1 : (e != 0) = true := by simp; omega
    have z2 : (e != e) = false := by simp
    clear he h2
    go_enter Try.func5, Try.ntmps5
    go_wp2_with fail
    refine (pairs_any h w c kh kw sh sw tp lf bt rt n 2000000 _).mono ?_
    rintro e' w1 ⟨⟨v, rfl, hown⟩, hb⟩
    rw [HT.out, List.take_nil] at hown
    have s1 := ((St.start W).new (c := #[.int .i64 h, .int .i64 w, .int .i64 c]) (t := 23)).new (c := #[.int .i64 kh, .int .i64 kw, .int .i64 sh, .int .i64 sw, .int .i64 tp, .int .i64 lf, .int .i64 bt, .int .i64 rt]) (t := 25) |>.call hb
    simp only [World.size_alloc] at s1
    obtain ⟨c1, f1, z3, c2, f2, z4, -⟩ := s1.rules
    clear hb
    obtain ⟨a, cap, hv, -⟩ := hown.rowN (n := 0) rfl
    subst hv
    go_wp2_with fail
    refine (padded_any _ _ _ _ _ _ _ _ _ _ _ _ _).mono ?_
    rintro e w2 ⟨rfl, hb'⟩
    have s2 := s1.call hb'
    clear hb' c1 f1 c2 f2
    try simp only [World.size_setCell] at s2
    try simp only [World.size_alloc] at s2
    obtain ⟨c1, f1, zw2_1, c2, f2, zw2_2, -⟩ := s2.rules
    rw [HC.out, HT.out]
    go_wp2_with fail
    refine (has_any _ _ _ _ _ _ _ _ _ _ _ _ _).mono ?_
    rintro e w3 ⟨rfl, hb'⟩
    have s3 := s2.call hb'
    clear hb' c1 f1 c2 f2
    try simp only [World.size_setCell] at s3
    try simp only [World.size_alloc] at s3
    obtain ⟨c1, f1, zw3_1, c2, f2, zw3_2, -⟩ := s3.rules
    rw [HC.out]
    go_wp2_with fail
    refine (fixed_any _).mono ?_
    rintro e w4 ⟨rfl, hb'⟩
    have s4 := s3.call hb'
    clear hb' c1 f1 c2 f2
    try simp only [World.size_setCell] at s4
    try simp only [World.size_alloc] at s4
    obtain ⟨c1, f1, zw4_1, c2, f2, zw4_2, -⟩ := s4.rules
    go_wp2
    go_ret
    exact ⟨rfl, s4.below⟩
  · have hcor := cor_of hf hn
    have k1 := hcor.2.2.2.1
    have k2 := hcor.2.2.2.2.1
    have h9 := hcor.2.2.1
    clear hf hn
    obtain ⟨t, ht⟩ : ∃ t, n / q * sh - tp = t := ⟨_, rfl⟩
    obtain ⟨u, hu⟩ : ∃ u, n % q * sw - lf = u := ⟨_, rfl⟩
    rw [ht, hu] at hc
    clear ht hu hcor
    have HC : Hid (coR h w c kh kw sh sw tp lf bt rt n = (t, u, 0)) := hc
    obtain ⟨M, hM⟩ : ∃ M, (kh * kw).toNat = M := ⟨_, rfl⟩
    have hM2 : M ≤ 1024 := by
      have := Int.mul_le_mul k1.2 k2.2 (by omega) (by omega)
      omega
    have HT : Hid (tapsOf h w c kh kw sh sw tp lf bt rt n = tapL h w kw t u M) := by rw [← hM]; exact tapsOf_ok hc
    have HF : Hid ((tapsOf h w c kh kw sh sw tp lf bt rt n).take 2000000 = tapL h w kw t u M) := by
      unfold Hid
      rw [HT.out, List.take_of_length_le (by rw [tapL_len]; omega)]
    have HM : Hid ((kh * kw).toNat = M) := hM
    clear hc hM
    go_enter Try.func5, Try.ntmps5
    go_wp2_with fail
    refine (pairs_any h w c kh kw sh sw tp lf bt rt n 2000000 _).mono ?_
    rintro e' w1 ⟨⟨v, rfl, hown⟩, hb⟩
    rw [HF.out] at hown
    have s1 := ((St.start W).new (c := #[.int .i64 h, .int .i64 w, .int .i64 c]) (t := 23)).new (c := #[.int .i64 kh, .int .i64 kw, .int .i64 sh, .int .i64 sw, .int .i64 tp, .int .i64 lf, .int .i64 bt, .int .i64 rt]) (t := 25) |>.call hb
    simp only [World.size_alloc] at s1
    obtain ⟨c1, f1, z3, c2, f2, z4, -⟩ := s1.rules
    clear hb
    obtain ⟨a, cap, hv, -⟩ := hown.rowN (n := 2 * M) (by rw [flat_len, tapL_len])
    subst hv
    go_wp2_with fail
    refine (padded_any _ _ _ _ _ _ _ _ _ _ _ _ _).mono ?_
    rintro e' w2 ⟨rfl, hb⟩
    have own2 := hown.below hb
    have s2 := s1.call hb
    rw [HC.out, HT.out]
    clear hb hown c1 f1 c2 f2
    obtain ⟨c1, f1, z5, c2, f2, z6, -⟩ := s2.rules
    go_wp2_with fail
    refine (has_any _ _ _ _ _ _ _ _ _ _ _ _ _).mono ?_
    rintro e' w3 ⟨rfl, hb⟩
    have own3 := own2.below hb
    have s3 := s2.call hb
    rw [HC.out]
    clear hb own2 c1 f1 c2 f2
    obtain ⟨c1, f1, z7, c2, f2, z8, -⟩ := s3.rules
    go_wp2_with fail
    refine (fixed_any _).mono ?_
    rintro e' w4 ⟨rfl, hb⟩
    have own4 := own3.below hb
    have s4 := s3.call hb
    clear hb own3 c1 f1 c2 f2
    obtain ⟨c1, f1, z9, c2, f2, z10, -⟩ := s4.rules
    go_wp2_with fail
    refine (rtaps_any _ _ _ _ _ _ _ _ _ _ _ _ t u _ HC.out).mono ?_
    rintro e' w5 ⟨⟨v2, rfl, hown2⟩, hb⟩
    rw [HM.out] at hown2
    have own5 := own4.below hb
    have s5 := s4.call hb
    clear hb own4 c1 f1 c2 f2
    obtain ⟨a', cap', hv', hrow, hc1, hc2⟩ := own5.rowN (n := 2 * M) (by rw [flat_len, tapL_len])
    simp only [Value.slice.injEq, true_and] at hv'
    obtain ⟨rfl, rfl⟩ := hv'
    obtain ⟨a2, cap2, hv2, hrow2, hc3, hc4⟩ := hown2.rowN (n := M) (by rw [covL_len])
    subst hv2
    unfold maxLen at hc2 hc4
    have HP : Hid (padN (tapL h w kw t u M) = padN (tapL h w kw t u M)) := rfl
    obtain ⟨Z, hZ⟩ : ∃ Z, padN (tapL h w kw t u M) = Z := ⟨_, rfl⟩
    have HZ : Hid (padN (tapL h w kw t u M) = Z) := hZ
    rw [hZ]
    clear hZ HP own5 hown2
    go_wp2
    go_loopw [13, 65] (fun pd i wr => ∃ k m : Nat, k ≤ M ∧ i = .int .i64 k ∧ pd = .int .i64 (padN (tapL h w kw t u k)) ∧ wr = w5.drewN m) (fun _ i _ => M - (intOf i).toNat)
    case atStart => exact ⟨0, 0, Nat.zero_le _, rfl, rfl, rfl⟩
    case round =>
      obtain ⟨k, m, hk, rfl, rfl, rfl⟩ := hrel
      by_cases hlt : k < M
      · obtain ⟨p, rfl, g1⟩ := row_get (k := 2 * k) hrow (by rw [flat_fst, tapL_get hlt]; rfl)
        obtain ⟨p', hp, g2⟩ := row_get (k := 2 * k + 1) hrow (by rw [flat_snd, tapL_get hlt]; rfl)
        obtain rfl := Option.some.inj hp
        obtain ⟨p2, rfl, g3⟩ := row_get (k := k) hrow2 (covL_get hlt)
        have i1 := ix (p := p) (n := 2 * M) (cap := cap) (i := 2 * (k : Int)) (j := 2 * k) (by omega) (by omega) (by omega)
        have i2 := ix (p := p) (n := 2 * M) (cap := cap) (i := 2 * (k : Int) + 1) (j := 2 * k + 1) (by omega) (by omega) (by omega)
        have i3 := ix (p := p2) (n := M) (cap := cap2) (i := (k : Int)) (j := k) (by omega) (by omega) (by omega)
        rw [add_odd] at g2
        dsimp only at g1 g2 g3
        have hz := plc_cases h w (t + (k : Int) / kw) (u + (k : Int) % kw)
        have HS : Hid (padN (tapL h w kw t u (k + 1)) = padN (tapL h w kw t u k) + (if plc h w (t + (k : Int) / kw) (u + (k : Int) % kw) = -1 then 1 else 0)) := padN_tap h w kw t u k
        have hpl := padN_le (tapL h w kw t u k)
        rw [tapL_len] at hpl
        obtain ⟨z, hzz⟩ : ∃ z, plc h w (t + (k : Int) / kw) (u + (k : Int) % kw) = z := ⟨_, rfl⟩
        rw [hzz] at g2 g3 hz HS
        obtain ⟨y, hyy⟩ : ∃ y, padN (tapL h w kw t u k) = y := ⟨_, rfl⟩
        rw [hyy] at HS hpl
        rw [hyy]
        clear hzz hyy hp hrow hrow2
        by_cases hz0 : z < 0
        · have HS' : Hid (padN (tapL h w kw t u (k + 1)) = y + 1) := by unfold Hid; rw [HS.out, if_pos (by omega)]
          clear HS
          go_wp2
          go_quiet (fail)
          go_wp2
          go_roundw
          case rel => exact ⟨k + 1, _, by omega, by go_num, by rw [HS'.out]; go_num, rfl⟩
          case measure => simp [intOf]; omega
        · have HS' : Hid (padN (tapL h w kw t u (k + 1)) = y) := by unfold Hid; rw [HS.out, if_neg (by omega)]; rfl
          clear HS
          go_wp2
          go_quiet (fail)
          go_wp2
          go_roundw
          case rel => exact ⟨k + 1, _, by omega, by go_num, by rw [HS'.out], rfl⟩
          case measure => simp [intOf]; omega
      · obtain rfl : k = M := by omega
        rw [HZ.out]
        go_wp2
        go_ret
        exact ⟨rfl, s5.below.trans ((dbel _ _).mono s5.below.size)⟩
end Go.Proofs.Ytcgpeaamblanlaa
