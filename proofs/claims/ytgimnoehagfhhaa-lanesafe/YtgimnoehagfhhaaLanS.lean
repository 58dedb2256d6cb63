/- The walk of LaneSafe, of 32 bits. -/
import Derived.Test.YtgimnoehagfhhaaLanN
import Derived.Test.YtgimnoehagfhhaaLanR
import Derived.Deep.DeepCutAuto
namespace Go.Proofs.Ytgimnoehagfhhaa
open Go.ChangeShapes Go.WideShapes Go.ChangeAt Go.RowKit
set_option linter.unusedVariables false
theorem fit_tt {N x : Int} (h : -N ≤ x) (g : x < N) : fitsN N x = true := by unfold fitsN; simp; omega
theorem fit_f1 {N x : Int} (h : x < -N) : fitsN N x = false := by unfold fitsN; simp; omega
theorem fit_f2 {N x : Int} (h : N ≤ x) : fitsN N x = false := by unfold fitsN; simp; omega
set_option maxRecDepth 100000 in
set_option maxHeartbeats 8000000 in
theorem safe_32 (wa : Option Addr) (n cw : Nat) (zs : List Int) (xa : Option Addr) (cx : Nat) (ys : List Int) (dp bi : Int) (W : World) (hw : IRow .i16 W wa n cw zs) (hr : n * 2 ≤ 140737488351232) (hx : IRow .i8 W xa n cx ys)
    (hbi : -2147483648 ≤ bi ∧ bi ≤ 2147483647) (hE : rfE n n 32 dp = 0) :
    Calls Try.prog 8 #[.agg #[.slice wa n cw, .slice xa n cx, .int .i64 32, .int .i64 dp, .int .i32 bi]] W fun e w' => e = .returned (.bool true) ∧ Below W.heap.size W w' := by
  have hcw := hw.2.1
  have hmw := hw.2.2.1
  have hcx := hx.2.1
  have hmx := hx.2.2.1
  unfold maxLen at hmw hmx
  have s1 := (St.start W).new (c := #[.slice wa n cw, .slice xa n cx, .int .i64 32, .int .i64 dp, .int .i32 bi]) (t := 42)
  obtain ⟨-, hd1, hd2⟩ := rfE_in hE
  obtain ⟨F, hF⟩ : ∃ F, dtR 32 dp bi (pz zs ys) = F := ⟨_, rfl⟩
  go_enter Try.func8, Try.ntmps8
  go_wp2_with fail
  refine (fixed_any _).mono ?_
  rintro e w2 ⟨rfl, b2⟩
  have s2 := s1.call b2
  clear s1 b2
  obtain ⟨c1, f1, z1, -⟩ := s2.rules
  have HD := ldot_ok wa xa n cw cx 32 dp bi zs ys w2 (by omega) (hw.below s2.below) (hx.below s2.below) hE hbi F hF
  have hzl := hw.1
  have hyl := hx.1
  have HPL : Hid ((pz zs ys).length = n) := by unfold Hid; rw [pz_len (by omega)]; exact hzl
  have hok := dtR_ok (n := n) (wd := 32) (dp := dp) (pz zs ys) hbi
  rw [hF] at hok
  have hF2 : dtR 32 dp bi (pz zs ys) = F := hF
  unfold dtR at hF2
  rw [if_pos rfl] at hF2
  obtain ⟨⟨m0, w0, t0, lo0, hi0⟩, ⟨m1, w1, t1, lo1, hi1⟩, rF⟩ := F
  simp only [Prod.mk.injEq] at hF2
  obtain ⟨hF3, hF4⟩ := hF2
  have HF : Hid (gaT 2147483648 Ty.z bi (pz zs ys) = (⟨m1, w1, t1, lo1, hi1⟩, rF)) := hF4
  have HZ : Hid (Ty.z = ⟨m0, w0, t0, lo0, hi0⟩) := hF3
  simp only [trk] at HD
  obtain ⟨-, -, hrF⟩ := hok
  simp only at hrF
  obtain ⟨tw, htw⟩ : ∃ tw, w0 + w1 = tw := ⟨_, rfl⟩
  rw [htw] at HD
  have HTW : Hid (w0 + w1 = tw) := htw
  clear hF htw hF3 hF4 hE
  go_wp2_with fail
  refine HD.mono ?_
  rintro e w4 ⟨rfl, b4⟩
  have hWz := (s2.call b4).size
  have s4 := (s2.call b4).new (c := #[.int .i64 m0, .int .i64 t0, .int .i64 m1, .int .i64 t1, .int .i64 tw, .int .i64 lo0, .int .i64 hi0, .int .i64 lo1, .int .i64 hi1]) (t := 48)
  clear c1 f1 z1 s2 b4 HD
  obtain ⟨c1, f1, z1, c2, f2, z2, -⟩ := s4.rules
  by_cases hbig : 100000 < n
  · have HS : Hid (Below W.heap.size W _) := s4.below
    clear s4
    go_wp2
    go_ret
    exact ⟨rfl, HS.out⟩
  · have s5 := s4.new (c := #[.int .i64 0, .int .i64 0, .int .i64 0, .int .i64 0]) (t := 58)
    simp only [World.size_alloc] at s5
    have HS5 : Hid (St W _ ([(w4.heap.size + 1, #[.int .i64 0, .int .i64 0, .int .i64 0, .int .i64 0], 58), (w4.heap.size, #[.int .i64 m0, .int .i64 t0, .int .i64 m1, .int .i64 t1, .int .i64 tw, .int .i64 lo0, .int .i64 hi0, .int .i64 lo1, .int .i64 hi1], 48), (W.heap.size, #[.slice wa n cw, .slice xa n cx, .int .i64 32, .int .i64 dp, .int .i32 bi], 42)])) := s5
    obtain ⟨d1, h1, y1, d2, h2, y2, d3, h3, y3, -⟩ := s5.rules
    clear s4 s5
    go_wp2_with fail
    clear d1 h1 y1 d2 h2 y2 d3 h3 y3 c1 f1 z1 c2 f2 z2
    go_loopw [6, 7, 8, 10, 11, 75] (fun vb vS vq v1 v2 i wr => ∃ (k : Nat) (b : Bool) (S : Int) (l : Ty) (r e0 e1 e2 e3 : Int) (f1 f2 : Bool), k ≤ n ∧ i = .int .i64 k ∧ vb = .bool b ∧ vS = .int .i64 S ∧ vq = .int .i64 0 ∧ v1 = .bool f1 ∧ v2 = .bool f2 ∧ (-2147483648 - 4194304 * k ≤ S ∧ S ≤ 2147483648 + 4194304 * k) ∧ St W wr ([(w4.heap.size + 1, #[.int .i64 e0, .int .i64 e1, .int .i64 e2, .int .i64 e3], 58), (w4.heap.size, #[.int .i64 m0, .int .i64 t0, .int .i64 m1, .int .i64 t1, .int .i64 tw, .int .i64 lo0, .int .i64 hi0, .int .i64 lo1, .int .i64 hi1], 48), (W.heap.size, #[.slice wa n cw, .slice xa n cx, .int .i64 32, .int .i64 dp, .int .i32 bi], 42)]) ∧ Rl b S 0 Ty.z l r 0 e0 e1 e2 e3 f1 f2 ∧ gaT 2147483648 l r ((pz zs ys).drop k) = (⟨m1, w1, t1, lo1, hi1⟩, rF)) (fun _ _ _ _ _ i _ => n - (intOf i).toNat)
    case atStart => exact ⟨0, true, bi, Ty.z, bi, 0, 0, 0, 0, true, true, Nat.zero_le _, rfl, rfl, rfl, rfl, rfl, rfl, by omega, HS5.out, Rl.start bi, HF.out⟩
    case round =>
      obtain ⟨k, b, S, l, r, e0, e1, e2, e3, g1, g2, hk, rfl, rfl, rfl, rfl, rfl, rfl, hSb, sk, hR, hs⟩ := hrel
      obtain ⟨c1, f1, z1, c2, f2, z2, c3, f3, z3, -⟩ := sk.rules
      by_cases hlt : k < n
      · obtain ⟨x, d, rfl, hc, hwf, -, hdr⟩ := (hw.below sk.below).at hlt
        obtain ⟨x3, e, rfl, hc3, hwf3, -, hdr3⟩ := (hx.below sk.below).at hlt
        have hdb := wf_i16 hwf
        have heb := wf_i8 hwf3
        have hp := mul_bd (A := 32768) (B := 128) (a := d) (b := e) (by omega) (by omega)
        have hR2 := hR.take32 (p := d * e) (by omega)
        rw [pz_at hdr hdr3] at hs
        have HN : Hid (gaT 2147483648 (l.ma 2147483648 r (d * e)) (wrapN 2147483648 (r + wrapN 2147483648 (d * e))) ((pz zs ys).drop (k + 1)) = _) := hs
        obtain ⟨p, hq⟩ : ∃ p, d * e = p := ⟨_, rfl⟩
        rw [hq] at hp HN hR2
        have HR : Hid (Rl _ _ _ _ _ _ _ _ _ _ _ _ _) := hR2
        have q1 : IntKind.i64.wrap p = p := w64i (by omega)
        have HSK : Hid (∀ j, St W (wr.drewN j) _) := fun j => sk.call (dbel wr j)
        clear hw hx hwf hwf3 hdr hdr3 hs sk hR hR2
        go_upto_region 13 with fail
        go_quiet (fail)
        have sk := HSK.out nq
        clear HSK c1 f1 z1 c2 f2 z2 c3 f3 z3 hc hc3
        obtain ⟨wq, hwq⟩ : ∃ wq, wr.drewN nq = wq := ⟨_, rfl⟩
        rw [hwq] at sk ⊢
        clear hwq
        obtain ⟨b1, hb1⟩ : ∃ b1, (b && fitsN 2147483648 (S + p)) = b1 := ⟨_, rfl⟩
        obtain ⟨x2, hx2⟩ : ∃ x2, (if g2 = true then S + p else e2) = x2 := ⟨_, rfl⟩
        obtain ⟨x3', hx3⟩ : ∃ x3, (if g2 = true then S + p else e3) = x3 := ⟨_, rfl⟩
        obtain ⟨y2, hy2⟩ : ∃ y2, xmn x2 (S + p) = y2 := ⟨_, rfl⟩
        obtain ⟨y3, hy3⟩ : ∃ y3, xmx x3' (S + p) = y3 := ⟨_, rfl⟩
        have HR2 : Hid (Rl b1 (S + p) 0 Ty.z (l.ma 2147483648 r p) (wrapN 2147483648 (r + wrapN 2147483648 p)) 0 e0 e1 y2 y3 g1 false) := by
          have h := HR.out
          unfold lo2 hi2 at h
          rw [hb1, hx2, hx3, hy2, hy3] at h
          exact h
        clear HR
        obtain ⟨c1, f1, z1, c2, f2, z2, c3, f3, z3, -⟩ := sk.rules
        have HB1 : Hid ((b && fitsN 2147483648 (S + p)) = b1) := hb1
        have HX : Hid ((if g2 = true then S + p else e2) = x2 ∧ (if g2 = true then S + p else e3) = x3') := ⟨hx2, hx3⟩
        have qm := min2 x2 (S + p) y2 hy2
        have qM := max2b x3' (S + p) y3 hy3
        have HSK : Hid (St W wq _) := sk
        clear hb1 hx2 hx3 hy2 hy3 sk
        go_upto_region 25 with fail
        go_cut [6] from 151 to 159 (fun v6 wx => v6 = .bool b1 ∧ wx = wq)
        case first =>
          cases b with
          | false =>
            go_wp2_with fail
            go_meet
            case rel => exact ⟨by rw [← HB1.out]; rfl, rfl⟩
          | true =>
            by_cases u1 : -2147483648 ≤ S + p
            · by_cases u2 : S + p < 2147483648
              · go_wp2_with fail
                go_meet
                case rel => exact ⟨by rw [← HB1.out, fit_tt u1 u2]; rfl, rfl⟩
              · go_wp2_with fail
                go_meet
                case rel => exact ⟨by rw [← HB1.out, fit_f2 u2]; rfl, rfl⟩
            · go_wp2_with fail
              go_meet
              case rel => exact ⟨by rw [← HB1.out, fit_f1 u1]; rfl, rfl⟩
        case rest =>
          obtain ⟨rfl, rfl⟩ := hcut
          clear HB1
          go_upto_if 160 with fail
          go_cut [] from 161 to 164 (fun wx => St W wx ([(w4.heap.size + 1, #[.int .i64 e0, .int .i64 e1, .int .i64 x2, .int .i64 x3'], 58), (w4.heap.size, #[.int .i64 m0, .int .i64 t0, .int .i64 m1, .int .i64 t1, .int .i64 tw, .int .i64 lo0, .int .i64 hi0, .int .i64 lo1, .int .i64 hi1], 48), (W.heap.size, #[.slice (some x) n cw, .slice (some x3) n cx, .int .i64 32, .int .i64 dp, .int .i32 bi], 42)]))
          case first =>
            have hne : ∀ x' ∈ ([(w4.heap.size, #[.int .i64 m0, .int .i64 t0, .int .i64 m1, .int .i64 t1, .int .i64 tw, .int .i64 lo0, .int .i64 hi0, .int .i64 lo1, .int .i64 hi1], 48), (W.heap.size, #[.slice (some x) n cw, .slice (some x3) n cx, .int .i64 32, .int .i64 dp, .int .i32 bi], 42)] : List (Nat × Array Value × TypeId)), x'.1 ≠ w4.heap.size + 1 := by
              intro x' hx'
              simp only [List.mem_cons, List.not_mem_nil, or_false] at hx'
              rcases hx' with rfl | rfl <;> simp only <;> omega
            cases g2 with
            | false =>
              obtain ⟨rfl, rfl⟩ := HX.out
              go_wp2_with fail
              go_meet
              case rel => exact HSK.out
            | true =>
              obtain ⟨rfl, rfl⟩ := HX.out
              have HS2 : Hid (St W _ _) := (HSK.out.set hne (i := 2) (v := .int .i64 (S + p))).set hne (i := 3) (v := .int .i64 (S + p))
              go_wp2_with fail
              go_meet
              case rel => exact HS2.out
          case rest =>
            have sk := hcut
            clear hcut c1 f1 z1 c2 f2 z2 c3 f3 z3 HX
            have hne : ∀ x' ∈ ([(w4.heap.size, #[.int .i64 m0, .int .i64 t0, .int .i64 m1, .int .i64 t1, .int .i64 tw, .int .i64 lo0, .int .i64 hi0, .int .i64 lo1, .int .i64 hi1], 48), (W.heap.size, #[.slice (some x) n cw, .slice (some x3) n cx, .int .i64 32, .int .i64 dp, .int .i32 bi], 42)] : List (Nat × Array Value × TypeId)), x'.1 ≠ w4.heap.size + 1 := by
              intro x' hx'
              simp only [List.mem_cons, List.not_mem_nil, or_false] at hx'
              rcases hx' with rfl | rfl <;> simp only <;> omega
            obtain ⟨c1, f1, z1, c2, f2, z2, c3, f3, z3, -⟩ := sk.rules
            have HS2 : Hid (St W _ _) := (sk.set hne (i := 2) (v := .int .i64 y2)).set hne (i := 3) (v := .int .i64 y3)
            clear sk
            go_wp2_with fail
            go_roundw
            case rel => exact ⟨k + 1, b1, S + p, _, _, e0, e1, y2, y3, g1, false, by omega, by go_num, rfl, rfl, rfl, rfl, rfl, by omega, HS2.out, HR2.out, HN.out⟩
            case measure => simp [intOf]; omega
      · have hT : (pz zs ys).drop k = [] := List.drop_of_length_le (by have := HPL.out; omega)
        rw [hT] at hs
        obtain ⟨hs1, hs2⟩ : l = ⟨m1, w1, t1, lo1, hi1⟩ ∧ r = rF := by
          have h : (l, r) = ((⟨m1, w1, t1, lo1, hi1⟩ : Ty), rF) := hs
          simpa using h
        subst hs1 hs2
        rw [HZ.out] at hR
        have hfin := hR.fin
        simp only [HTW.out] at hfin
        obtain ⟨q1, q2⟩ := hfin
        have HS6 : Hid (Below W.heap.size W wr) := sk.below
        clear sk hT hs hR
        have q3 : (tw == 0) = b := by rw [← q1]; rfl
        cases b with
        | false =>
          go_wp2_with fail
          go_ret
          exact ⟨rfl, HS6.out⟩
        | true =>
          obtain ⟨rfl, rfl, rfl, rfl⟩ := q2 rfl
          go_wp2_with fail
          go_ret
          exact ⟨rfl, HS6.out⟩
end Go.Proofs.Ytgimnoehagfhhaa
