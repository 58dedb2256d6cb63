/- The walk of LaneSafe, of 16 bits. -/
import Derived.Test.YtgimnoehagfhhaaLanS
import Derived.Test.YtgimnoehagfhhaaLanL
import Derived.BigQuiet
import Derived.Deep.DeepCutAuto
namespace Go.Proofs.Ytgimnoehagfhhaa
open Go.ChangeShapes Go.WideShapes Go.ChangeAt Go.RowKit
set_option linter.unusedVariables false
set_option maxRecDepth 100000 in
set_option maxHeartbeats 8000000 in
theorem safe_16 (wa : Option Addr) (n cw : Nat) (zs : List Int) (xa : Option Addr) (cx : Nat) (ys : List Int) (d : Nat) (bi : Int) (W : World) (hw : IRow .i16 W wa n cw zs) (hr : n * 2 ≤ 140737488351232) (hx : IRow .i8 W xa n cx ys)
    (hbi : -2147483648 ≤ bi ∧ bi ≤ 2147483647) (hE : rfE n n 16 d = 0) :
    Calls Try.prog 8 #[.agg #[.slice wa n cw, .slice xa n cx, .int .i64 16, .int .i64 (d : Int), .int .i32 bi]] W fun e w' => e = .returned (.bool true) ∧ Below W.heap.size W w' := by
  have hcw := hw.2.1
  have hmw := hw.2.2.1
  have hcx := hx.2.1
  have hmx := hx.2.2.1
  unfold maxLen at hmw hmx
  have s1 := (St.start W).new (c := #[.slice wa n cw, .slice xa n cx, .int .i64 16, .int .i64 (d : Int), .int .i32 bi]) (t := 42)
  obtain ⟨-, hd1, hd2⟩ := rfE_in hE
  obtain ⟨F, hF⟩ : ∃ F, dtR 16 d bi (pz zs ys) = F := ⟨_, rfl⟩
  go_enter Try.func8, Try.ntmps8
  go_wp2_with fail
  refine (fixed_any _).mono ?_
  rintro e w2 ⟨rfl, b2⟩
  have s2 := s1.call b2
  clear s1 b2
  obtain ⟨c1, f1, z1, -⟩ := s2.rules
  have HD := ldot_ok wa xa n cw cx 16 d bi zs ys w2 (by omega) (hw.below s2.below) (hx.below s2.below) hE hbi F hF
  have hzl := hw.1
  have hyl := hx.1
  have HPL : Hid ((pz zs ys).length = n) := by unfold Hid; rw [pz_len (by omega)]; exact hzl
  have hok := dtR_ok (n := n) (wd := 16) (dp := d) (pz zs ys) hbi
  rw [hF] at hok
  have hF2 : dtR 16 d bi (pz zs ys) = F := hF
  unfold dtR at hF2
  rw [if_neg (by omega), Int.toNat_natCast] at hF2
  obtain ⟨⟨m0, w0, t0, lo0, hi0⟩, ⟨m1, w1, t1, lo1, hi1⟩, rF⟩ := F
  have HF : Hid (elT d (0 % d) Ty.z Ty.z bi 0 (pz zs ys) = (⟨m0, w0, t0, lo0, hi0⟩, ⟨m1, w1, t1, lo1, hi1⟩, rF)) := by rw [Nat.zero_mod]; exact hF2
  simp only [trk] at HD
  obtain ⟨-, -, hrF⟩ := hok
  simp only at hrF
  obtain ⟨tw, htw⟩ : ∃ tw, w0 + w1 = tw := ⟨_, rfl⟩
  rw [htw] at HD
  have HTW : Hid (w0 + w1 = tw) := htw
  clear hF htw hF2 hE
  go_wp2_with fail
  refine HD.mono ?_
  rintro e w4 ⟨rfl, b4⟩
  have hWz := (s2.call b4).size
  have s4 := (s2.call b4).new (c := #[.int .i64 m0, .int .i64 t0, .int .i64 m1, .int .i64 t1, .int .i64 tw, .int .i64 lo0, .int .i64 hi0, .int .i64 lo1, .int .i64 hi1]) (t := 48)
  clear c1 f1 z1 s2 b4 HD
  obtain ⟨c1, f1, z1, c2, f2, z2, -⟩ := s4.rules
  by_cases hbig : 100000 < n
  · have HS : Hid (Below W.heap.size W _) := s4.below
    clear s4
    go_wp2
    go_ret
    exact ⟨rfl, HS.out⟩
  · have s5 := s4.new (c := #[.int .i64 0, .int .i64 0, .int .i64 0, .int .i64 0]) (t := 58)
    simp only [World.size_alloc] at s5
    have HS5 : Hid (St W _ ([(w4.heap.size + 1, #[.int .i64 0, .int .i64 0, .int .i64 0, .int .i64 0], 58), (w4.heap.size, #[.int .i64 m0, .int .i64 t0, .int .i64 m1, .int .i64 t1, .int .i64 tw, .int .i64 lo0, .int .i64 hi0, .int .i64 lo1, .int .i64 hi1], 48), (W.heap.size, #[.slice wa n cw, .slice xa n cx, .int .i64 16, .int .i64 (d : Int), .int .i32 bi], 42)])) := s5
    obtain ⟨d1, h1, y1, d2, h2, y2, d3, h3, y3, -⟩ := s5.rules
    clear s4 s5
    go_wp2_with fail
    clear d1 h1 y1 d2 h2 y2 d3 h3 y3 c1 f1 z1 c2 f2 z2
    go_loopw [6, 7, 8, 10, 11, 75] (fun vb vS vq v1 v2 i wr => ∃ (k : Nat) (b : Bool) (S q : Int) (s l : Ty) (r q' e0 e1 e2 e3 : Int) (f1 f2 : Bool), k ≤ n ∧ i = .int .i64 k ∧ vb = .bool b ∧ vS = .int .i64 S ∧ vq = .int .i64 q ∧ v1 = .bool f1 ∧ v2 = .bool f2 ∧ (-2147483648 - 4194304 * k ≤ S ∧ S ≤ 2147483648 + 4194304 * k) ∧ (-4194304 * k ≤ q ∧ q ≤ 4194304 * k) ∧ (-2147483648 - 4194304 * k ≤ S + q ∧ S + q ≤ 2147483648 + 4194304 * k) ∧ St W wr ([(w4.heap.size + 1, #[.int .i64 e0, .int .i64 e1, .int .i64 e2, .int .i64 e3], 58), (w4.heap.size, #[.int .i64 m0, .int .i64 t0, .int .i64 m1, .int .i64 t1, .int .i64 tw, .int .i64 lo0, .int .i64 hi0, .int .i64 lo1, .int .i64 hi1], 48), (W.heap.size, #[.slice wa n cw, .slice xa n cx, .int .i64 16, .int .i64 (d : Int), .int .i32 bi], 42)]) ∧ Rl b S q s l r q' e0 e1 e2 e3 f1 f2 ∧ elT d (k % d) s l r q' ((pz zs ys).drop k) = (⟨m0, w0, t0, lo0, hi0⟩, ⟨m1, w1, t1, lo1, hi1⟩, rF)) (fun _ _ _ _ _ i _ => n - (intOf i).toNat)
    case atStart => exact ⟨0, true, bi, 0, Ty.z, Ty.z, bi, 0, 0, 0, 0, 0, true, true, Nat.zero_le _, rfl, rfl, rfl, rfl, rfl, rfl, by omega, by omega, by omega, HS5.out, Rl.start bi, HF.out⟩
    case round =>
      obtain ⟨k, b, S, q, s, l, r, q', e0, e1, e2, e3, g1, g2, hk, rfl, rfl, rfl, rfl, rfl, rfl, hSb, hqb, hSq, sk, hR, hs⟩ := hrel
      obtain ⟨c1, f1, z1, c2, f2, z2, c3, f3, z3, -⟩ := sk.rules
      by_cases hlt : k < n
      · obtain ⟨x, c, rfl, hc, hwf, -, hdr⟩ := (hw.below sk.below).at hlt
        obtain ⟨x3, e, rfl, hc3, hwf3, -, hdr3⟩ := (hx.below sk.below).at hlt
        have hdb := wf_i16 hwf
        have heb := wf_i8 hwf3
        have hp := mul_bd (A := 32768) (B := 128) (a := c) (b := e) (by omega) (by omega)
        have hR2 := hR.take (c * e)
        have HP : Hid ((pz zs ys).drop k = c * e :: (pz zs ys).drop (k + 1)) := pz_at hdr hdr3
        rw [HP.out, elT] at hs
        obtain ⟨p, hq⟩ : ∃ p, c * e = p := ⟨_, rfl⟩
        rw [hq] at hp hs hR2
        have q1 : IntKind.i64.wrap p = p := w64i (by omega)
        obtain ⟨V, hVe⟩ : ∃ V, wrapN 32768 (q' + wrapN 32768 p) = V := ⟨_, rfl⟩
        obtain ⟨s', hse⟩ : ∃ s', s.ma 32768 q' p = s' := ⟨_, rfl⟩
        rw [hVe, hse] at hs hR2
        have HG : Hid _ := hs
        have HSK : Hid (∀ j, St W (wr.drewN j) _) := fun j => sk.call (dbel wr j)
        clear hw hx hwf hwf3 hdr hdr3 hs sk hR HP hVe hse
        go_upto_region 13 with fail
        go_quiet (fail)
        have sk := HSK.out nq
        clear HSK c1 f1 z1 c2 f2 z2 c3 f3 z3 hc hc3
        obtain ⟨wq, hwq⟩ : ∃ wq, wr.drewN nq = wq := ⟨_, rfl⟩
        rw [hwq] at sk ⊢
        clear hwq
        obtain ⟨b1, hb1⟩ : ∃ b1, (b && fitsN 32768 p && fitsN 32768 (q + p)) = b1 := ⟨_, rfl⟩
        obtain ⟨x0, hx0⟩ : ∃ x0, (if g1 = true then q + p else e0) = x0 := ⟨_, rfl⟩
        obtain ⟨x1, hx1⟩ : ∃ x1, (if g1 = true then q + p else e1) = x1 := ⟨_, rfl⟩
        obtain ⟨y0, hy0⟩ : ∃ y0, xmn x0 (q + p) = y0 := ⟨_, rfl⟩
        obtain ⟨y1, hy1⟩ : ∃ y1, xmx x1 (q + p) = y1 := ⟨_, rfl⟩
        have HR2 : Hid (Rl b1 S (q + p) s' l r V y0 y1 e2 e3 false g2) := by
          have h := hR2
          unfold lo2 hi2 at h
          rw [hb1, hx0, hx1, hy0, hy1] at h
          exact h
        clear hR2
        obtain ⟨c1, f1, z1, c2, f2, z2, c3, f3, z3, -⟩ := sk.rules
        have HB1 : Hid ((b && fitsN 32768 p && fitsN 32768 (q + p)) = b1) := hb1
        have HX : Hid ((if g1 = true then q + p else e0) = x0 ∧ (if g1 = true then q + p else e1) = x1) := ⟨hx0, hx1⟩
        have qm := min2 x0 (q + p) y0 hy0
        have qM := max2b x1 (q + p) y1 hy1
        have HSK : Hid (St W wq _) := sk
        clear hb1 hx0 hx1 hy0 hy1 sk
        have HNE : Hid (∀ x' ∈ ([(w4.heap.size, #[.int .i64 m0, .int .i64 t0, .int .i64 m1, .int .i64 t1, .int .i64 tw, .int .i64 lo0, .int .i64 hi0, .int .i64 lo1, .int .i64 hi1], 48), (W.heap.size, #[.slice (some x) n cw, .slice (some x3) n cx, .int .i64 16, .int .i64 (d : Int), .int .i32 bi], 42)] : List (Nat × Array Value × TypeId)), x'.1 ≠ w4.heap.size + 1) := by
          intro x' hx'
          simp only [List.mem_cons, List.not_mem_nil, or_false] at hx'
          rcases hx' with rfl | rfl <;> simp only <;> omega
        go_upto_region 17 with fail
        go_cut [6] from 100 to 116 (fun v6 wx => v6 = .bool b1 ∧ wx = wq)
        case first =>
          cases b with
          | false =>
            go_wp2_with fail
            go_meet
            case rel => exact ⟨by rw [← HB1.out]; rfl, rfl⟩
          | true =>
            by_cases u1 : -32768 ≤ p
            · by_cases u2 : p < 32768
              · by_cases u3 : -32768 ≤ q + p
                · by_cases u4 : q + p < 32768
                  · go_wp2_with fail
                    go_meet
                    case rel => exact ⟨by rw [← HB1.out, fit_tt u1 u2, fit_tt u3 u4]; rfl, rfl⟩
                  · go_wp2_with fail
                    go_meet
                    case rel => exact ⟨by rw [← HB1.out, fit_f2 (x := q + p) (by omega), Bool.and_false], rfl⟩
                · go_wp2_with fail
                  go_meet
                  case rel => exact ⟨by rw [← HB1.out, fit_f1 (x := q + p) (by omega), Bool.and_false], rfl⟩
              · go_wp2_with fail
                go_meet
                case rel => exact ⟨by rw [← HB1.out, fit_f2 (x := p) (by omega)]; rfl, rfl⟩
            · go_wp2_with fail
              go_meet
              case rel => exact ⟨by rw [← HB1.out, fit_f1 (x := p) (by omega)]; rfl, rfl⟩
        case rest =>
          obtain ⟨rfl, rfl⟩ := hcut
          clear HB1
          go_upto_if 117 with fail
          go_cut [] from 118 to 121 (fun wx => St W wx ([(w4.heap.size + 1, #[.int .i64 x0, .int .i64 x1, .int .i64 e2, .int .i64 e3], 58), (w4.heap.size, #[.int .i64 m0, .int .i64 t0, .int .i64 m1, .int .i64 t1, .int .i64 tw, .int .i64 lo0, .int .i64 hi0, .int .i64 lo1, .int .i64 hi1], 48), (W.heap.size, #[.slice (some x) n cw, .slice (some x3) n cx, .int .i64 16, .int .i64 (d : Int), .int .i32 bi], 42)]))
          case first =>
            cases g1 with
            | false =>
              obtain ⟨rfl, rfl⟩ := HX.out
              go_wp2_with fail
              go_meet
              case rel => exact HSK.out
            | true =>
              obtain ⟨rfl, rfl⟩ := HX.out
              have HS2 : Hid (St W _ _) := (HSK.out.set HNE.out (i := 0) (v := .int .i64 (q + p))).set HNE.out (i := 1) (v := .int .i64 (q + p))
              go_wp2_with fail
              go_meet
              case rel => exact HS2.out
          case rest =>
            have sk := hcut
            clear hcut c1 f1 z1 c2 f2 z2 c3 f3 z3 HX HSK
            obtain ⟨c1, f1, z1, c2, f2, z2, c3, f3, z3, -⟩ := sk.rules
            have s6 := (sk.set HNE.out (i := 0) (v := .int .i64 y0)).set HNE.out (i := 1) (v := .int .i64 y1)
            simp only [List.setIfInBounds_toArray, List.set_cons_succ, List.set_cons_zero] at s6
            have HS2 : Hid (∀ j, St W (World.drewN _ j) _) := fun j => s6.call (dbel _ j)
            obtain ⟨d1, h1, y1', d2, h2, y2', d3, h3, y3', -⟩ := s6.rules
            clear sk s6
            go_upto_region 22 with fail
            clear c1 f1 z1 c2 f2 z2 c3 f3 z3
            obtain ⟨cc, hcc⟩ : ∃ cc, (!(decide (k % d = d - 1) || decide (k + 1 = n))) = cc := ⟨_, rfl⟩
            have HCC : Hid ((!(decide (k % d = d - 1) || decide (k + 1 = n))) = cc) := hcc
            clear hcc
            go_cut [147] from 132 to 146 (fun v wx => v = .bool cc ∧ St W wx ([(w4.heap.size + 1, #[.int .i64 y0, .int .i64 y1, .int .i64 e2, .int .i64 e3], 58), (w4.heap.size, #[.int .i64 m0, .int .i64 t0, .int .i64 m1, .int .i64 t1, .int .i64 tw, .int .i64 lo0, .int .i64 hi0, .int .i64 lo1, .int .i64 hi1], 48), (W.heap.size, #[.slice (some x) n cw, .slice (some x3) n cx, .int .i64 16, .int .i64 (d : Int), .int .i32 bi], 42)]))
            case first =>
              by_cases hA : k % d = d - 1
              · have hA2 : (k : Int) % (d : Int) = (d : Int) - 1 := by omega
                have hA3 : ((k : Int) % (d : Int) == (d : Int) - 1) = true := by simp [hA2]
                have hA4 : ((k : Int) % (d : Int) != (d : Int) - 1) = false := by simp [hA2]
                clear hA2
                go_quiet (fail)
                go_wp2
                go_meet
                case rel => exact ⟨by rw [← HCC.out]; simp [hA], HS2.out _⟩
              · have hA2 : ¬ (k : Int) % (d : Int) = (d : Int) - 1 := by omega
                have hA3 : ((k : Int) % (d : Int) == (d : Int) - 1) = false := by simp [hA2]
                have hA4 : ((k : Int) % (d : Int) != (d : Int) - 1) = true := by simp [hA2]
                by_cases hB : k + 1 = n
                · have hB2 : (k : Int) = (n : Int) - 1 := by omega
                  have hB3 : ((k : Int) == (n : Int) - 1) = true := by simp [hB2]
                  have hB4 : ((k : Int) != (n : Int) - 1) = false := by simp [hB2]
                  clear hB2
                  go_quiet (fail)
                  go_wp2
                  go_meet
                  case rel => exact ⟨by rw [← HCC.out]; simp [hB], HS2.out _⟩
                · have hB2 : ¬ (k : Int) = (n : Int) - 1 := by omega
                  have hB3 : ((k : Int) == (n : Int) - 1) = false := by simp [hB2]
                  have hB4 : ((k : Int) != (n : Int) - 1) = true := by simp [hB2]
                  go_quiet (fail)
                  go_wp2
                  go_meet
                  case rel => exact ⟨by rw [← HCC.out]; simp [hA, hB], HS2.out _⟩
            case rest =>
              obtain ⟨rfl, sk⟩ := hcut
              clear HS2 d1 h1 y1' d2 h2 y2' d3 h3 y3'
              have hd1' : 1 ≤ d := by omega
              cases cc with
              | true =>
                have hcc := HCC.out
                simp only [Bool.not_eq_true', Bool.or_eq_false_iff, decide_eq_false_iff_not] at hcc
                obtain ⟨hA, hB⟩ := hcc
                have HE : Hid (elT d ((k + 1) % d) s' l r V ((pz zs ys).drop (k + 1)) = (⟨m0, w0, t0, lo0, hi0⟩, ⟨m1, w1, t1, lo1, hi1⟩, rF)) := by
                  have h := HG.out
                  have hn : (pz zs ys).drop (k + 1) ≠ [] := fun e => by
                    have h1 := List.length_drop (i := k + 1) (l := pz zs ys)
                    rw [e, HPL.out] at h1
                    simp only [List.length_nil] at h1
                    omega
                  rw [if_neg (fun h => h.elim (fun h => hA (by omega)) hn)] at h
                  rw [mod_next hA hd1']
                  exact h
                clear hA hB HG HCC
                go_wp2_with fail
                go_roundw
                case rel => exact ⟨k + 1, b1, S, q + p, s', l, r, V, y0, y1, e2, e3, false, g2, by omega, by go_num, rfl, rfl, rfl, rfl, rfl, by omega, by omega, by omega, sk, HR2.out, HE.out⟩
                case measure => simp [intOf]; omega
              | false =>
                have HE : Hid (elT d ((k + 1) % d) s' (l.ad 2147483648 (r + V)) (wrapN 2147483648 (r + V)) 0 ((pz zs ys).drop (k + 1)) = (⟨m0, w0, t0, lo0, hi0⟩, ⟨m1, w1, t1, lo1, hi1⟩, rF)) := by
                  have h := HG.out
                  by_cases hA : k % d = d - 1
                  · rw [if_pos (.inl (by omega))] at h
                    rw [mod_last hA hd1']
                    exact h
                  · have hcc := HCC.out
                    have hB : k + 1 = n := by simpa [hA] using hcc
                    have hn : (pz zs ys).drop (k + 1) = [] := List.drop_of_length_le (by rw [HPL.out]; omega)
                    rw [if_pos (.inr hn)] at h
                    rw [hn] at h ⊢
                    exact h
                have hR2 := HR2.out.spill
                clear HG HCC HR2
                obtain ⟨Q, hQ⟩ : ∃ Q, S + (q + p) = Q := ⟨_, rfl⟩
                have hQb : -2147483648 - 4194304 * ((k : Int) + 1) ≤ Q ∧ Q ≤ 2147483648 + 4194304 * ((k : Int) + 1) := by omega
                rw [hQ] at hR2
                obtain ⟨b2, hb2⟩ : ∃ b2, (b1 && fitsN 2147483648 Q) = b2 := ⟨_, rfl⟩
                obtain ⟨x2, hx2⟩ : ∃ x2, (if g2 = true then Q else e2) = x2 := ⟨_, rfl⟩
                obtain ⟨x3', hx3⟩ : ∃ x3, (if g2 = true then Q else e3) = x3 := ⟨_, rfl⟩
                obtain ⟨y2, hy2⟩ : ∃ y2, xmn x2 Q = y2 := ⟨_, rfl⟩
                obtain ⟨y3, hy3⟩ : ∃ y3, xmx x3' Q = y3 := ⟨_, rfl⟩
                unfold lo2 hi2 at hR2
                rw [hb2, hx2, hx3, hy2, hy3] at hR2
                have HR2 : Hid (Rl _ _ _ _ _ _ _ _ _ _ _ _ _) := hR2
                have HB1 : Hid ((b1 && fitsN 2147483648 Q) = b2) := hb2
                have HX : Hid ((if g2 = true then Q else e2) = x2 ∧ (if g2 = true then Q else e3) = x3') := ⟨hx2, hx3⟩
                have qm := min2 x2 Q y2 hy2
                have qM := max2b x3' Q y3 hy3
                have HSK : Hid (St W wc _) := sk
                obtain ⟨c1, f1, z1, c2, f2, z2, c3, f3, z3, -⟩ := sk.rules
                clear hR2 hb2 hx2 hx3 hy2 hy3 sk
                go_upto_region 25 with fail
                go_cut [6] from 151 to 159 (fun v6 wx => v6 = .bool b2 ∧ wx = wc)
                case first =>
                  cases b1 with
                  | false =>
                    go_wp2_with fail
                    go_meet
                    case rel => exact ⟨by rw [← HB1.out]; rfl, rfl⟩
                  | true =>
                    by_cases u1 : -2147483648 ≤ Q
                    · by_cases u2 : Q < 2147483648
                      · go_wp2_with fail
                        go_meet
                        case rel => exact ⟨by rw [← HB1.out, fit_tt u1 u2]; rfl, rfl⟩
                      · go_wp2_with fail
                        go_meet
                        case rel => exact ⟨by rw [← HB1.out, fit_f2 (x := Q) (by omega)]; rfl, rfl⟩
                    · go_wp2_with fail
                      go_meet
                      case rel => exact ⟨by rw [← HB1.out, fit_f1 (x := Q) (by omega)]; rfl, rfl⟩
                case rest =>
                  obtain ⟨rfl, rfl⟩ := hcut
                  clear HB1
                  go_upto_if 160 with fail
                  go_cut [] from 161 to 164 (fun wx => St W wx ([(w4.heap.size + 1, #[.int .i64 y0, .int .i64 y1, .int .i64 x2, .int .i64 x3'], 58), (w4.heap.size, #[.int .i64 m0, .int .i64 t0, .int .i64 m1, .int .i64 t1, .int .i64 tw, .int .i64 lo0, .int .i64 hi0, .int .i64 lo1, .int .i64 hi1], 48), (W.heap.size, #[.slice (some x) n cw, .slice (some x3) n cx, .int .i64 16, .int .i64 (d : Int), .int .i32 bi], 42)]))
                  case first =>
                    cases g2 with
                    | false =>
                      obtain ⟨rfl, rfl⟩ := HX.out
                      go_wp2_with fail
                      go_meet
                      case rel => exact HSK.out
                    | true =>
                      obtain ⟨rfl, rfl⟩ := HX.out
                      have HS2 : Hid (St W _ _) := (HSK.out.set HNE.out (i := 2) (v := .int .i64 Q)).set HNE.out (i := 3) (v := .int .i64 Q)
                      go_wp2_with fail
                      go_meet
                      case rel => exact HS2.out
                  case rest =>
                    have sk := hcut
                    clear hcut c1 f1 z1 c2 f2 z2 c3 f3 z3 HX HSK
                    obtain ⟨c1, f1, z1, c2, f2, z2, c3, f3, z3, -⟩ := sk.rules
                    have HS2 : Hid (St W _ _) := (sk.set HNE.out (i := 2) (v := .int .i64 y2)).set HNE.out (i := 3) (v := .int .i64 y3)
                    clear sk
                    go_wp2_with fail
                    go_roundw
                    case rel => exact ⟨k + 1, b2, Q, 0, s', _, _, 0, y0, y1, y2, y3, false, false, by omega, by go_num, rfl, rfl, rfl, rfl, rfl, by omega, by omega, by omega, HS2.out, HR2.out, HE.out⟩
                    case measure => simp [intOf]; omega
      · have hT : (pz zs ys).drop k = [] := List.drop_of_length_le (by have := HPL.out; omega)
        rw [hT] at hs
        obtain ⟨hs1, hs2, hs3⟩ : s = ⟨m0, w0, t0, lo0, hi0⟩ ∧ l = ⟨m1, w1, t1, lo1, hi1⟩ ∧ r = rF := by
          have h : (s, l, r) = ((⟨m0, w0, t0, lo0, hi0⟩ : Ty), (⟨m1, w1, t1, lo1, hi1⟩ : Ty), rF) := hs
          simpa using h
        subst hs1 hs2 hs3
        have hfin := hR.fin
        simp only [HTW.out] at hfin
        obtain ⟨q1, q2⟩ := hfin
        have HS6 : Hid (Below W.heap.size W wr) := sk.below
        clear sk hT hs hR
        have q3 : (tw == 0) = b := by rw [← q1]; rfl
        cases b with
        | false =>
          go_wp2_with fail
          go_ret
          exact ⟨rfl, HS6.out⟩
        | true =>
          obtain ⟨rfl, rfl, rfl, rfl⟩ := q2 rfl
          go_wp2_with fail
          go_ret
          exact ⟨rfl, HS6.out⟩
end Go.Proofs.Ytgimnoehagfhhaa
