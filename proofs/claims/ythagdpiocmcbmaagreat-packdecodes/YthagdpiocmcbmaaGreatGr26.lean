/- The walk of PackDecodes. -/
import Derived.Test.YthagdpiocmcbmaaGreatGr25
/- The walk of PackDecodes. -/
namespace Go.Proofs.YthagdpiocmcbmaaGreat
open Wr
open Go.ChangeShapes Go.WideShapes Go.ChangeAt Go.RowKit
set_option linter.unusedVariables false
/-- Two answers to the same bytes are alike. -/
theorem dec_two {zs : List Int} {w1 w2 w3 w4 : World} {r1 r2 : Ending} (h : Dec zs w1 w2 r1) (k : Dec zs w3 w4 r2) :
    (∃ x t, r1 = .returned (.tuple #[.agg #[.int .i64 0, .int .i64 0, .int .i64 0, .int .i64 0, .int .i64 0, .slice none 0 0, .int .i64 0], .agg #[.int .i64 x, .int .i64 t, .int .i64 0]]) ∧ r2 = .returned (.tuple #[.agg #[.int .i64 0, .int .i64 0, .int .i64 0, .int .i64 0, .int .i64 0, .slice none 0 0, .int .i64 0], .agg #[.int .i64 x, .int .i64 t, .int .i64 0]])) ∨
      ∃ (h w c lo hi ot : Int) (oa oa' : Option Addr) (on oc oc' : Nat) (O : Nat → Nat → Int) (Z B : Nat → List Int), r1 = .returned (.tuple #[.agg #[.int .i64 h, .int .i64 w, .int .i64 c, .int .i64 lo, .int .i64 hi, .slice oa on oc, .int .i64 ot], .agg #[.int .i64 0, .int .i64 0, .int .i64 0]]) ∧ r2 = .returned (.tuple #[.agg #[.int .i64 h, .int .i64 w, .int .i64 c, .int .i64 lo, .int .i64 hi, .slice oa' on oc', .int .i64 ot], .agg #[.int .i64 0, .int .i64 0, .int .i64 0]]) ∧ LRow w2 oa on oc O Z B ∧ LRow w4 oa' on oc' O Z B := by
  rcases h with ⟨x, t, h1, h2⟩ | ⟨h, w, c, lo, hi, ot, oa, on, oc, O, Z, B, x, t, L, wk, h1, h2, l1, h3⟩
  · rcases k with ⟨x', t', k1, k2⟩ | ⟨h', w', c', lo', hi', ot', oa', on', oc', O', Z', B', x', t', L', wk', k1, k2, l2, k3⟩
    · rw [h1] at k1
      cases k1
      exact .inl ⟨x, t, h2, k2⟩
    · rw [h1] at k1; cases k1
  · rcases k with ⟨x', t', k1, k2⟩ | ⟨h', w', c', lo', hi', ot', oa', on', oc', O', Z', B', x', t', L', wk', k1, k2, l2, k3⟩
    · rw [h1] at k1; cases k1
    · rw [h1] at k1
      simp only [Sum.inr.injEq] at k1
      obtain ⟨rfl, rfl, rfl, rfl, rfl, rfl, rfl, ag⟩ := same_mod l1 l2 k1
      rw [gtR_agree ag, k2] at h2
      cases h2
      rcases h3 with ⟨hx, hr⟩ | ⟨hx, hr, cr⟩
      · rcases k3 with ⟨kx, kr⟩ | ⟨kx, kr, kc⟩
        · exact .inl ⟨_, _, hr, kr⟩
        · exact absurd kx hx
      · rcases k3 with ⟨kx, kr⟩ | ⟨kx, kr, kc⟩
        · exact absurd hx kx
        · exact .inr ⟨h, w, c, lo, hi, ot, oa, oa', on, oc, oc', O, Z, B, hr, kr, cr.l, kc.l.agree ag.symm⟩
set_option maxHeartbeats 8000000 in
set_option maxRecDepth 100000 in
theorem packDecodes_walk (a : Option Addr) (len cap : Nat) (zs : List Int) (W : World) (hi0 : IRow .u8 W a len cap zs) (hr : len * 1 ≤ 140737488351232) :
    Calls Tryz.prog 3 #[.slice a len cap] W fun e w' => e = .returned (.bool true) ∧ Below W.heap.size W w' := by
  have HR : Hid (Wr.Row W a len cap zs) := irow_row hi0
  have hlz : Hid (zs.length = len) := HR.out.1
  clear hi0
  have b0 : Hid (Below W.heap.size W (W.alloc (.cells #[] 5))) := bal _ _
  have own0 : Hid (Wr.Own (W.alloc (.cells #[] 5)) W.heap.size (.slice (some ⟨W.heap.size, 0, none⟩) 0 0) []) := Wr.own_lit W W.heap.size [] Byt.nil (by simp) (Nat.le_refl _)
  go_enter Tryz.func3, Tryz.ntmps3
  go_wp2_with (at_builtin; refine Wr.wpList_app rfl (.tmp 8) (.tmp 9) rfl W.heap.size (.slice (some ⟨W.heap.size, 0, none⟩) 0 0) [] zs rfl own0.out _ _ _ rfl (HR.out.below b0.out) (by have := hlz.out; simp; omega) (by simp) ?_; intro v1 w1 own1 gr1 nn1)
  have b1 : Below W.heap.size W w1 := own0.out.bel b0.out gr1 b0.out.size
  rw [List.nil_append] at own1
  obtain ⟨d, n, cc, rfl, R1, -⟩ := Own.rw own1 (nn1 (by simp))
  have S1 : Hid (St W w1 _) := (St.start W).call b1
  have D1 : Hid (Wr.Row w1 (some d) n cc zs) := R1
  have A1 : Hid (Wr.Row w1 a len cap zs) := HR.out.below b1
  have hdn : Hid (n = zs.length) := R1.1.symm
  clear own1 gr1 nn1 b1 R1 b0 own0 HR
  go_wp2_with fail
  refine (decode_any a len cap zs _ A1.out (by omega)).mono ?_
  rintro e w2 ⟨hd, b2⟩
  have D2 : Hid (Wr.Row w2 (some d) n cc zs) := D1.out.below b2
  have A2 : Hid (Wr.Row w2 a len cap zs) := A1.out.below b2
  have S2 : Hid (St W w2 _) := S1.out.call b2
  have hd' : Hid (Dec zs w1 w2 e) := hd
  obtain ⟨m1, m2, m3, m4, m5, m6, m7, ms, q1, q2, q3, rfl⟩ : ∃ (m1 m2 m3 m4 m5 : Int) (ma : Option Addr) (mn mc : Nat) (m7 q1 q2 : Int), e = .returned (.tuple #[.agg #[.int .i64 m1, .int .i64 m2, .int .i64 m3, .int .i64 m4, .int .i64 m5, .slice ma mn mc, .int .i64 m7], .agg #[.int .i64 q1, .int .i64 q2, .int .i64 0]]) := by
    rcases hd with ⟨x, t, -, e⟩ | ⟨h0, w0, c0, lo, hi, ot, oa, nn, oc, O, Z, Bs, x, t, L, wk, -, -, -, ⟨-, e⟩ | ⟨-, e, -⟩⟩
    · exact ⟨_, _, _, _, _, _, _, _, _, _, _, e⟩
    · exact ⟨_, _, _, _, _, _, _, _, _, _, _, e⟩
    · exact ⟨_, _, _, _, _, _, _, _, _, _, _, e⟩
  clear hd b2 D1 A1 S1
  have s3 := (S2.out.new (c := #[.int .i64 m1, .int .i64 m2, .int .i64 m3, .int .i64 m4, .int .i64 m5, .slice m6 m7 ms, .int .i64 q1]) (t := 27)).new (c := #[.int .i64 q2, .int .i64 q3, .int .i64 0]) (t := 30)
  simp only [World.size_alloc] at s3
  have S3 : Hid (St W _ _) := s3
  have B3 := bt (bal w2 (.cells #[.int .i64 m1, .int .i64 m2, .int .i64 m3, .int .i64 m4, .int .i64 m5, .slice m6 m7 ms, .int .i64 q1] 27)) (bal _ (.cells #[.int .i64 q2, .int .i64 q3, .int .i64 0] 30))
  have D3 : Hid (Wr.Row _ (some d) n cc zs) := D2.out.below B3
  have A3 : Hid (Wr.Row _ a len cap zs) := A2.out.below B3
  have B3' : Hid (Below w2.heap.size w2 _) := B3
  clear s3 B3 D2 A2 S2
  go_wp2_with fail
  refine (ddecode_any (some d) n cc zs _ D3.out (by have := hdn.out; have := hlz.out; omega)).mono ?_
  rintro e w4 ⟨hd, b4⟩
  have D4 : Hid (Wr.Row w4 (some d) n cc zs) := D3.out.below b4
  have A4 : Hid (Wr.Row w4 a len cap zs) := A3.out.below b4
  have S4 : Hid (St W w4 _) := S3.out.call b4
  have B4 : Hid (Below w2.heap.size w2 w4) := bt B3'.out b4
  have two := dec_two hd'.out hd
  clear hd hd' b4 D3 A3 S3 B3'
  rcases two with ⟨x, t, e1, rfl⟩ | ⟨h, w, c, lo, hi, ot, oa, oa', on, oc, oc', O, Z, B, e1, rfl, La, Lb⟩
  · simp only [Ending.returned.injEq, Value.tuple.injEq, Array.mk.injEq, List.cons.injEq, Value.agg.injEq, Value.int.injEq, Value.slice.injEq, true_and, and_true] at e1
    obtain ⟨⟨rfl, rfl, rfl, rfl, rfl, ⟨rfl, rfl, rfl⟩, rfl⟩, rfl, rfl⟩ := e1
    have s5 := (S4.out.new (c := #[.int .i64 0, .int .i64 0, .int .i64 0, .int .i64 0, .int .i64 0, .slice none 0 0, .int .i64 0]) (t := 27)).new (c := #[.int .i64 q2, .int .i64 q3, .int .i64 0]) (t := 30)
    simp only [World.size_alloc] at s5
    have S5 : Hid (St W _ _) := s5
    have B5 := bt (bal w4 (.cells #[.int .i64 0, .int .i64 0, .int .i64 0, .int .i64 0, .int .i64 0, .slice none 0 0, .int .i64 0] 27)) (bal _ (.cells #[.int .i64 q2, .int .i64 q3, .int .i64 0] 30))
    have D5 : Hid (Wr.Row _ (some d) n cc zs) := D4.out.below B5
    have A5 : Hid (Wr.Row _ a len cap zs) := A4.out.below B5
    clear s5 B5 D4 A4 S4
    have eq0 := eqF q2 q3 0 q2 q3 0 true (by simp)
    go_wp2_with fail
    refine (fixed9_any _).mono ?_
    rintro e w6 ⟨rfl, b6⟩
    have s6 := S5.out.call b6
    have S6 : Hid (St W w6 _) := s6
    have D6 : Hid (Wr.Row w6 (some d) n cc zs) := D5.out.below b6
    have A6 : Hid (Wr.Row w6 a len cap zs) := A5.out.below b6
    obtain ⟨c1, f1, z1, c2, f2, z2, c3, f3, z3, c4, f4, z4, -⟩ := s6.rules
    clear b6 s6 S5 D5 A5
    go_wp2_with fail
    refine (samem_any 0 0 0 0 0 0 none none 0 0 0 (plO 0) plZ plB _ (lrow_0 _ _ _ _) (lrow_0 _ _ _ _)).mono ?_
    rintro e w7 ⟨rfl, b7⟩
    have S7 : Hid (St W w7 _) := S6.out.call b7
    have D7 : Hid (Wr.Row w7 (some d) n cc zs) := D6.out.below b7
    have A7 : Hid (Wr.Row w7 a len cap zs) := A6.out.below b7
    clear b7 S6 D6 A6 c1 f1 z1 c2 f2 z2 c3 f3 z3 c4 f4 z4
    go_wp2_with fail
    refine (sameb_any a (some d) len cap n cc zs zs _ A7.out D7.out).mono ?_
    rintro e w8 ⟨rfl, b8⟩
    rw [decide_eq_true rfl]
    have hb : Hid (Below W.heap.size W w8) := (S7.out.call b8).below
    clear b8
    go_wp2
    go_ret
    exact ⟨rfl, hb.out⟩
  · simp only [Ending.returned.injEq, Value.tuple.injEq, Array.mk.injEq, List.cons.injEq, Value.agg.injEq, Value.int.injEq, Value.slice.injEq, true_and, and_true] at e1
    obtain ⟨⟨rfl, rfl, rfl, rfl, rfl, ⟨rfl, rfl, rfl⟩, rfl⟩, rfl, rfl⟩ := e1
    have s5 := (S4.out.new (c := #[.int .i64 m1, .int .i64 m2, .int .i64 m3, .int .i64 m4, .int .i64 m5, .slice oa' m7 oc', .int .i64 q1]) (t := 27)).new (c := #[.int .i64 0, .int .i64 0, .int .i64 0]) (t := 30)
    simp only [World.size_alloc] at s5
    have S5 : Hid (St W _ _) := s5
    have B5 := bt (bal w4 (.cells #[.int .i64 m1, .int .i64 m2, .int .i64 m3, .int .i64 m4, .int .i64 m5, .slice oa' m7 oc', .int .i64 q1] 27)) (bal _ (.cells #[.int .i64 0, .int .i64 0, .int .i64 0] 30))
    have D5 : Hid (Wr.Row _ (some d) n cc zs) := D4.out.below B5
    have A5 : Hid (Wr.Row _ a len cap zs) := A4.out.below B5
    have La5 : Hid (LRow _ m6 m7 ms O Z B) := (La.below B4.out).below B5
    have Lb5 : Hid (LRow _ oa' m7 oc' O Z B) := Lb.below B5
    clear s5 B5 D4 A4 S4 La Lb B4
    have eq0 := eqF 0 0 0 0 0 0 true (by simp)
    go_wp2_with fail
    refine (fixed9_any _).mono ?_
    rintro e w6 ⟨rfl, b6⟩
    have s6 := S5.out.call b6
    have S6 : Hid (St W w6 _) := s6
    have D6 : Hid (Wr.Row w6 (some d) n cc zs) := D5.out.below b6
    have A6 : Hid (Wr.Row w6 a len cap zs) := A5.out.below b6
    have La6 : Hid (LRow w6 m6 m7 ms O Z B) := La5.out.below b6
    have Lb6 : Hid (LRow w6 oa' m7 oc' O Z B) := Lb5.out.below b6
    obtain ⟨c1, f1, z1, c2, f2, z2, c3, f3, z3, c4, f4, z4, -⟩ := s6.rules
    clear b6 s6 S5 D5 A5 La5 Lb5
    go_wp2_with fail
    refine (samem_any m1 m2 m3 m4 m5 q1 m6 oa' m7 ms oc' O Z B _ La6.out Lb6.out).mono ?_
    rintro e w7 ⟨rfl, b7⟩
    have S7 : Hid (St W w7 _) := S6.out.call b7
    have D7 : Hid (Wr.Row w7 (some d) n cc zs) := D6.out.below b7
    have A7 : Hid (Wr.Row w7 a len cap zs) := A6.out.below b7
    clear b7 S6 D6 A6 c1 f1 z1 c2 f2 z2 c3 f3 z3 c4 f4 z4 La6 Lb6
    go_wp2_with fail
    refine (sameb_any a (some d) len cap n cc zs zs _ A7.out D7.out).mono ?_
    rintro e w8 ⟨rfl, b8⟩
    rw [decide_eq_true rfl]
    have hb : Hid (Below W.heap.size W w8) := (S7.out.call b8).below
    clear b8
    go_wp2
    go_ret
    exact ⟨rfl, hb.out⟩
end Go.Proofs.YthagdpiocmcbmaaGreat
