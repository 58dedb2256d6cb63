/- The walk of ModelShapes. -/
import Derived.Test.YtfgbolekenlheaaMdlL
import Derived.Test.YtfgbolekenlheaaMdlV
namespace Go.Proofs.Ytfgbolekenlheaa
open Go.ChangeShapes Go.WideShapes Go.ChangeAt Go.RowKit
set_option linter.unusedVariables false
theorem St.two {w0 w : World} {l : List (Nat × Array Value × TypeId)} {c d : Array Value} {t u : TypeId} (h : St w0 w l) : St w0 ((w.alloc (.cells c t)).alloc (.cells d u)).drew ((w.heap.size + 1, d, u) :: (w.heap.size, c, t) :: l) := by
  have := (h.new (c := c) (t := t)).new (c := d) (t := u)
  simp only [World.size_alloc] at this
  exact this.drew
set_option maxHeartbeats 4000000 in
set_option maxRecDepth 100000 in
theorem modelShapes_walk (h w c lo hi : Int) (oa : Option Addr) (on oc : Nat) (ot : Int) (W : World) (_ : (Lit.int .i64 h).wf = true) (_ : (Lit.int .i64 w).wf = true) (_ : (Lit.int .i64 c).wf = true) (_ : (Lit.int .i64 lo).wf = true) (_ : (Lit.int .i64 hi).wf = true)
    (wo : ORow 22 (OpIn W) W oa on oc) (_ : on * 208 ≤ 140737488351232) (_ : (Lit.int .i64 ot).wf = true) :
    Calls Try.prog 6 #[.agg #[.int .i64 h, .int .i64 w, .int .i64 c, .int .i64 lo, .int .i64 hi, .slice oa on oc, .int .i64 ot]] W fun e w' => e = .returned (.bool true) ∧ Below W.heap.size W w' := by
  rename_i x1 x2 x3 x4 x5 x6 x7
  clear x1 x2 x3 x4 x5 x6 x7
  obtain ⟨O, Z, B, hL⟩ := lrow_of wo
  have hocc := hL.1
  have hocm := hL.2.1
  unfold maxLen at hocm
  have hM : Hid (MRow W oa on oc O) := hL.m
  obtain ⟨e, t, L, wk, hG⟩ : ∃ e t L wk, gtR O h w c lo hi ot on = (e, t, L, wk) := ⟨_, _, _, _, rfl⟩
  have hSh : Hid (∀ w', MRow w' oa on oc O → _) := fun w' hw => shapes_any h w c lo hi ot oa on oc O w' hw
  simp only [hG] at hSh
  clear hL wo
  by_cases he : e = 0
  rotate_left
  · obtain ⟨rfl, -, -⟩ := gtR_err hG he
    clear hG
    go_enter Try.func6, Try.ntmps6
    go_wp2_with fail
    refine (fixed_any _).mono ?_
    rintro e w1 ⟨rfl, hb'⟩
    have s1 := (St.start W).new.call hb'
    clear hb'
    try simp only [World.size_setCell] at s1
    try simp only [World.size_alloc] at s1
    obtain ⟨c1, f1, zw1_1, -⟩ := s1.rules
    go_wp2_with fail
    refine Calls.mono (hSh.out _ (hM.out.below s1.below)) ?_
    rintro e' w2 ⟨v, rfl, hS, hb⟩
    obtain ⟨va, vc, rfl⟩ := hS.slice
    have s2 := s1.call hb
    clear hS hb
    go_wp2
    go_ret
    exact ⟨rfl, bt s2.below (bal _ _)⟩
  subst he
  obtain ⟨rfl, hlen, ho64, -, -, -⟩ := gtR_ok hG
  obtain ⟨hA0, hAt⟩ := gtR_at hG
  have HAt : Hid (∀ i, i < on → _) := hAt
  clear hG hAt
  go_enter Try.func6, Try.ntmps6
  go_wp2_with fail
  refine (fixed_any _).mono ?_
  rintro e w1 ⟨rfl, hb'⟩
  have s1 := (St.start W).new.call hb'
  clear hb'
  try simp only [World.size_setCell] at s1
  try simp only [World.size_alloc] at s1
  obtain ⟨c1, f1, zw1_1, -⟩ := s1.rules
  go_wp2_with fail
  refine Calls.mono (hSh.out _ (hM.out.below s1.below)) ?_
  rintro e' w2 ⟨v, rfl, hS, hb⟩
  have s2 := s1.call hb
  have hszz := hb.size
  clear hb hSh c1 f1
  rcases hS with ⟨-, hS⟩ | ⟨g, cap, cur, rfl, hg, hcur, hCu, hcap⟩
  · rw [hS] at hlen; cases hlen
  have hCat : Hid (∀ i, i < on + 1 → cur[i * 3]? = some (.int .i64 (ShA L (i : Int)).1) ∧ cur[i * 3 + 1]? = some (.int .i64 (ShA L (i : Int)).2.1) ∧ cur[i * 3 + 2]? = some (.int .i64 (ShA L (i : Int)).2.2)) := fun i hi => by
    have := hCu.at (i := i) (by omega)
    unfold ShA
    rw [Int.toNat_natCast]
    exact this
  have hle : on + 1 ≤ cap := by have := hCu.2.1; omega
  have sg := s1.size
  have s3 := s2.add hcur (by omega)
  obtain ⟨u0, u1, u2⟩ := hCat.out 0 (by omega)
  rw [hA0] at u0 u1 u2
  simp at u0 u1 u2
  have s4 := s3.new (c := #[.int .i64 0, .int .i64 0, .int .i64 0]) (t := 31)
  rw [hlen]
  clear hCu hlen hA0 s2
  obtain ⟨c1, f1, z1, c2, f2, z2, -⟩ := s3.rules
  go_upto_region 6 with fail
  clear c1 f1 c2 f2
  have qn := ne3 23 rfl h w c h w c true (by simp)
  obtain ⟨q1, y1, q2, y2, q3, y3, -⟩ := rulesQ_st s4
  have hne := Nonempty.intro (Wd.mk _ s4)
  refine region_held s4 (by kernel_rfl) (by kernel_rfl) ?_
  repeat (go_big_quiet_step (fail))
  refine wpQuiet_nil ?_
  intro _ hw'
  obtain ⟨nq, rfl⟩ := hw'
  obtain ⟨w3, hw3⟩ : ∃ w3, nq.w = w3 := ⟨_, rfl⟩
  have s5 : St W w3 _ := hw3 ▸ nq.h
  rw [hw3]
  clear q1 y1 q2 y2 q3 y3 hne hw3 s4 s3 qn
  clear nq
  obtain ⟨c1, f1, z3, c2, f2, z4, c3, f3, z5, -⟩ := s5.rules
  have H5 : Hid (St W w3 ((w2.heap.size, #[.int .i64 0, .int .i64 0, .int .i64 0], 31) :: (g, cur, 23) :: (W.heap.size, #[.int .i64 h, .int .i64 w, .int .i64 c, .int .i64 lo, .int .i64 hi, .slice oa on oc, .int .i64 ot], 26) :: [])) := s5
  clear s5 s1
  go_wp2
  go_loopw [45] (fun i wr => ∃ (k : Nat), k ≤ on ∧ i = .int .i64 k ∧ St W wr ((w2.heap.size, #[.int .i64 0, .int .i64 0, .int .i64 0], 31) :: (g, cur, 23) :: (W.heap.size, #[.int .i64 h, .int .i64 w, .int .i64 c, .int .i64 lo, .int .i64 hi, .slice oa on oc, .int .i64 ot], 26) :: [])) (fun i _ => on - (intOf i).toNat)
  case atStart => exact ⟨0, Nat.zero_le _, rfl, H5.out⟩
  case round =>
    obtain ⟨i, hi0, rfl, sr⟩ := hrel
    clear c1 f1 z3 c2 f2 z4 c3 f3 z5
    obtain ⟨c1, f1, zr1, c2, f2, zr2, c3, f3, zr3, -⟩ := sr.rules
    by_cases hlt : i < on
    rotate_left
    · obtain rfl : i = on := by omega
      have Hs : Hid (Below W.heap.size W wr) := sr.below
      clear sr
      go_wp2
      go_ret
      exact ⟨rfl, Hs.out⟩
    · obtain ⟨j, hj, hji, hv, hwin, hadd⟩ := HAt.out i hlt
      obtain ⟨x, wa, lw, cw, ba, lb, cb, rfl, -, -, hcell⟩ := (hM.out.below sr.below).at hlt
      have hcell' : Hid (∀ q v, [.int .i64 (O i 0), .int .i64 (j : Int), .int .i64 (O i 2), .int .i64 (O i 3), .int .i64 (O i 4), .int .i64 (O i 5), .int .i64 (O i 6), .int .i64 (O i 7), .int .i64 (O i 8), .int .i64 (O i 9), .int .i64 (O i 10), .int .i64 (O i 11), .slice wa lw cw, .slice ba lb cb, .int .i64 (O i 14), .int .i64 (O i 15), .int .i64 (O i 16), .int .i64 (O i 17), .int .i64 (O i 18), .int .i64 (O i 19), .int .i64 (O i 20), .int .i64 (O i 21)][q]? = some v → wr.cell? ((x.add (i * 22)).add q) = some v) := by unfold Hid; rw [← hj]; exact hcell
      obtain ⟨p1, p2, p3⟩ := hCat.out j (by omega)
      obtain ⟨r1, r2, r3⟩ := hCat.out (i + 1) (by omega)
      obtain ⟨A1, A2, A3, hA⟩ : ∃ A1 A2 A3, ShA L (j : Int) = (A1, A2, A3) := ⟨_, _, _, rfl⟩
      obtain ⟨B1, B2, B3, hB⟩ : ∃ B1 B2 B3, ShA L ((i + 1 : Nat) : Int) = (B1, B2, B3) := ⟨_, _, _, rfl⟩
      rw [hA] at p1 p2 p3 hwin hadd
      rw [hB] at r1 r2 r3 hv hwin hadd
      simp only at p1 p2 p3 r1 r2 r3 hv hwin
      clear hcell hj hA hB
      have sb := sr.new (c := #[.int .i64 (O i 0), .int .i64 (j : Int), .int .i64 (O i 2), .int .i64 (O i 3), .int .i64 (O i 4), .int .i64 (O i 5), .int .i64 (O i 6), .int .i64 (O i 7), .int .i64 (O i 8), .int .i64 (O i 9), .int .i64 (O i 10), .int .i64 (O i 11), .slice wa lw cw, .slice ba lb cb, .int .i64 (O i 14), .int .i64 (O i 15), .int .i64 (O i 16), .int .i64 (O i 17), .int .i64 (O i 18), .int .i64 (O i 19), .int .i64 (O i 20), .int .i64 (O i 21)]) (t := 54)
      go_upto_region 10 with fail
      go_upto_region 11 with (first
        | (refine wpList_load_any rfl 54 (.tmp 48) rfl _ rfl [.int .i64 (O i 0), .int .i64 (j : Int), .int .i64 (O i 2), .int .i64 (O i 3), .int .i64 (O i 4), .int .i64 (O i 5), .int .i64 (O i 6), .int .i64 (O i 7), .int .i64 (O i 8), .int .i64 (O i 9), .int .i64 (O i 10), .int .i64 (O i 11), .slice wa lw cw, .slice ba lb cb, .int .i64 (O i 14), .int .i64 (O i 15), .int .i64 (O i 16), .int .i64 (O i 17), .int .i64 (O i 18), .int .i64 (O i 19), .int .i64 (O i 20), .int .i64 (O i 21)] _ hcell'.out Try.underlying54 rfl (by kernel_rfl) ?_)
        | (refine wpList_st_new rfl 54 (.tmp 6) (.tmp 49) rfl wr _ #[.int .i64 (O i 0), .int .i64 (j : Int), .int .i64 (O i 2), .int .i64 (O i 3), .int .i64 (O i 4), .int .i64 (O i 5), .int .i64 (O i 6), .int .i64 (O i 7), .int .i64 (O i 8), .int .i64 (O i 9), .int .i64 (O i 10), .int .i64 (O i 11), .slice wa lw cw, .slice ba lb cb, .int .i64 (O i 14), .int .i64 (O i 15), .int .i64 (O i 16), .int .i64 (O i 17), .int .i64 (O i 18), .int .i64 (O i 19), .int .i64 (O i 20), .int .i64 (O i 21)] rfl rfl (by kernel_rfl) rfl (by simp [Value.oneCell']) ?_))
      obtain ⟨wb, hwb⟩ : ∃ wb, wr.alloc (.cells #[.int .i64 (O i 0), .int .i64 (j : Int), .int .i64 (O i 2), .int .i64 (O i 3), .int .i64 (O i 4), .int .i64 (O i 5), .int .i64 (O i 6), .int .i64 (O i 7), .int .i64 (O i 8), .int .i64 (O i 9), .int .i64 (O i 10), .int .i64 (O i 11), .slice wa lw cw, .slice ba lb cb, .int .i64 (O i 14), .int .i64 (O i 15), .int .i64 (O i 16), .int .i64 (O i 17), .int .i64 (O i 18), .int .i64 (O i 19), .int .i64 (O i 20), .int .i64 (O i 21)] 54) = wb := ⟨_, rfl⟩
      rw [hwb] at sb ⊢
      clear hwb sr c1 f1 c2 f2 c3 f3 hcell'
      obtain ⟨c1, f1, zb1, c2, f2, zb2, c3, f3, zb3, c4, f4, zb4, -⟩ := sb.rules
      go_upto_region 13 with fail
      have b1 : (0 : Int) ≤ (j : Int) := by omega
      have b2 : (j : Int) < (on : Int) + 1 := by omega
      have b3 : (0 : Int) ≤ (i : Int) + 1 := by omega
      have b4 : (i : Int) + 1 < (on : Int) + 1 := by omega
      have b5 : j < on + 1 := by omega
      have b6 : i + 1 < on + 1 := by omega
      have b7 : ((i : Int) + 1).toNat = i + 1 := by omega
      have b8 : IntKind.i64.wrap ((i : Int) + 1) = (i : Int) + 1 := by first | go_num | (simp [IntKind.wrap, IntKind.bits, IntKind.signed]; omega)
      go_cut [7, 8] (fun x7 x8 wx => ∃ P Q : Nat, x7 = .pointer (some ⟨P, 0, none⟩) ∧ x8 = .pointer (some ⟨Q, 0, none⟩) ∧ St W wx ((P, #[.int .i64 A1, .int .i64 A2, .int .i64 A3], 23) :: (Q, #[.int .i64 B1, .int .i64 B2, .int .i64 B3], 23) :: (wr.heap.size, #[.int .i64 (O i 0), .int .i64 (j : Int), .int .i64 (O i 2), .int .i64 (O i 3), .int .i64 (O i 4), .int .i64 (O i 5), .int .i64 (O i 6), .int .i64 (O i 7), .int .i64 (O i 8), .int .i64 (O i 9), .int .i64 (O i 10), .int .i64 (O i 11), .slice wa lw cw, .slice ba lb cb, .int .i64 (O i 14), .int .i64 (O i 15), .int .i64 (O i 16), .int .i64 (O i 17), .int .i64 (O i 18), .int .i64 (O i 19), .int .i64 (O i 20), .int .i64 (O i 21)], 54) :: (w2.heap.size, #[.int .i64 0, .int .i64 0, .int .i64 0], 31) :: (g, cur, 23) :: (W.heap.size, #[.int .i64 h, .int .i64 w, .int .i64 c, .int .i64 lo, .int .i64 hi, .slice (some x) on oc, .int .i64 ot], 26) :: []))
      case first =>
        go_region_held3 (fun w' => (∀ q, w'.cell? ⟨wr.heap.size, q, none⟩ = #[.int .i64 (O i 0), .int .i64 (j : Int), .int .i64 (O i 2), .int .i64 (O i 3), .int .i64 (O i 4), .int .i64 (O i 5), .int .i64 (O i 6), .int .i64 (O i 7), .int .i64 (O i 8), .int .i64 (O i 9), .int .i64 (O i 10), .int .i64 (O i 11), .slice wa lw cw, .slice ba lb cb, .int .i64 (O i 14), .int .i64 (O i 15), .int .i64 (O i 16), .int .i64 (O i 17), .int .i64 (O i 18), .int .i64 (O i 19), .int .i64 (O i 20), .int .i64 (O i 21)][q]?) ∧ (∀ q, w'.cell? ⟨g, q, none⟩ = cur[q]?)) ((refine ⟨?_, ?_⟩ <;> (intro q; simp [go_sem, *]))) (fail)
        all_goals
          refine (show ∀ a' w', Met _ a' w' → _ from by assumption) _ _ ?_
          go_meet
          first
            | exact ⟨_, _, rfl, rfl, sb.two.up1⟩
            | exact ⟨_, _, rfl, rfl, sb.two⟩
      case rest =>
      obtain ⟨P, Q, rfl, rfl, s6⟩ := hcut
      clear c1 f1 c2 f2 c3 f3 c4 f4 p1 p2 p3 r1 r2 r3
      obtain ⟨c1, f1, zc1, c2, f2, zc2, c3, f3, zc3, c4, f4, zc4, c5, f5, zc5, c6, f6, zc6, -⟩ := s6.rules
      have HE : Hid (elR B1 B2 B3 = (B1 * B2 * B3, 0)) := elR_ok hv
      obtain ⟨qe, hqe⟩ : ∃ qe, B1 * B2 * B3 = qe := ⟨_, rfl⟩
      rw [hqe] at HE
      clear hv hqe
      go_wp2_with fail
      refine (selems_any _ _ _ _).mono ?_
      rintro e w7 ⟨rfl, hb'⟩
      have s7 := s6.call hb'
      clear hb' c1 f1 c2 f2 c3 f3 c4 f4 c5 f5 c6 f6
      try simp only [World.size_setCell] at s7
      try simp only [World.size_alloc] at s7
      obtain ⟨c1, f1, zw7_1, c2, f2, zw7_2, c3, f3, zw7_3, c4, f4, zw7_4, c5, f5, zw7_5, c6, f6, zw7_6, -⟩ := s7.rules
      rw [HE.out]
      by_cases k25 : 2 ≤ O i 0 ∧ O i 0 ≤ 5
      · obtain ⟨ho, hc⟩ := hwin k25
        have HO : Hid (ouR A1 A2 A3 (O i 4) (O i 5) (O i 6) (O i 7) (O i 8) (O i 9) (O i 10) (O i 11) = (B1, B2, 0)) := ho
        clear ho hwin hadd
        obtain ⟨k2, k5⟩ := k25
        go_wp2_with fail
        refine (out_any _ _ _ _ _ _ _ _ _ _ _ _).mono ?_
        rintro e w8 ⟨rfl, hb'⟩
        have s8 := s7.call hb'
        clear hb' c1 f1 c2 f2 c3 f3 c4 f4 c5 f5 c6 f6
        try simp only [World.size_setCell] at s8
        try simp only [World.size_alloc] at s8
        obtain ⟨c1, f1, zw8_1, c2, f2, zw8_2, c3, f3, zw8_3, c4, f4, zw8_4, c5, f5, zw8_5, c6, f6, zw8_6, -⟩ := s8.rules
        rw [HO.out]
        have k6 : ¬ 6 ≤ O i 0 := by omega
        by_cases e2 : O i 0 = 2
        · have Hs : Hid (St W w8 _) := s8
          clear s8 s7 s6 hc
          go_wp2
          go_round
          case rel => exact ⟨i + 1, by omega, by go_num, Hs.out.tail.tail.tail⟩
          case measure => simp [intOf]; omega
        · have e2' : (O i 0 == 2) = false := by simpa using e2
          have hc' : B3 = A3 := hc e2
          subst hc'
          have Hs : Hid (St W w8 _) := s8
          clear s8 s7 s6 hc
          go_wp2
          go_round
          case rel => exact ⟨i + 1, by omega, by go_num, Hs.out.tail.tail.tail⟩
          case measure => simp [intOf]; omega
      · clear hwin
        by_cases k6 : 6 ≤ O i 0
        · have hAB := hadd k6
          simp only [Prod.mk.injEq] at hAB
          obtain ⟨rfl, rfl, rfl⟩ := hAB
          have qn := ne3 23 rfl B1 B2 B3 B1 B2 B3 true (by simp)
          have k2 : 2 ≤ O i 0 := by omega
          have k5 : ¬ O i 0 ≤ 5 := by omega
          have Hs : Hid (St W w7 _) := s7
          clear s7 s6 hadd k25
          go_wp2
          go_round
          case rel => exact ⟨i + 1, by omega, by go_num, Hs.out.tail.tail.tail⟩
          case measure => simp [intOf]; omega
        · have k2 : ¬ 2 ≤ O i 0 := by omega
          have Hs : Hid (St W w7 _) := s7
          clear s7 s6 hadd k25
          go_wp2
          go_round
          case rel => exact ⟨i + 1, by omega, by go_num, Hs.out.tail.tail.tail⟩
          case measure => simp [intOf]; omega
end Go.Proofs.Ytfgbolekenlheaa
