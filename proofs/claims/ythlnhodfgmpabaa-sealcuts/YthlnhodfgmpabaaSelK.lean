/- The walk of SealCuts. -/
import Derived.Test.YthlnhodfgmpabaaSelA
namespace Go.Proofs.Ythlnhodfgmpabaa.Sl
open Wr
open Go.ChangeShapes Go.WideShapes Go.ChangeAt Go.RowKit
set_option linter.unusedVariables false
theorem cut_at (at1 : Int) (n : Nat) (h : 0 < n) : ∃ k : Nat, (IntKind.u64.wrap at1).tmod (n : Int) = (k : Int) ∧ k < n :=
  ⟨u64 at1 % n, by rw [u64_wrap]; rfl, Nat.mod_lt _ h⟩
set_option maxHeartbeats 8000000 in
set_option maxRecDepth 100000 in
theorem sealCuts_w (ra : Option Addr) (rn rc : Nat) (R : List (Int × Int)) (pa : Option Addr) (pn pc : Nat) (P : List (List Pl)) (at1 more : Int) (W : World) (hR : ERow 2 scs W ra rn rc R) (hP : QRow W pa pn pc P) (h64 : C64 (R, P)) (hm : 0 ≤ more ∧ more < 256) :
    Calls Try.prog 6 #[.agg #[.slice ra rn rc, .slice pa pn pc], .int .i64 at1, .int .u8 more] W fun e w' => e = .returned (.bool true) ∧ Below W.heap.size W w' := by
  have s0 := (St.start W).new (c := #[.slice ra rn rc, .slice pa pn pc]) (t := 25)
  have S0 : Hid (St W _ _) := s0
  have E0 : Hid (ERow 2 scs _ ra rn rc R) := hR.below s0.below
  have Q0 : Hid (QRow _ pa pn pc P) := hP.below s0.below
  have hcc := ce_cases h64
  clear s0 hR hP h64
  rcases hcc with hF | ⟨x1, x2, x3, hX, hx⟩
  · have HF : Hid (CeF (R, P)) := hF
    have hle : Hid ((eAll (R, P)).length ≤ 10000000) := eAll_le hF
    clear hF
    go_enter Try.func6, Try.ntmps6
    go_wp2_with fail
    refine (encode_ok ra rn rc R pa pn pc P _ E0.out Q0.out HF.out).mono ?_
    rintro e w1 ⟨v, rfl, own, nn, b1⟩
    obtain ⟨d, n, cc, rfl, R1, hn⟩ := Own.rw own nn
    have hnp : 0 < n := by rw [hn]; exact eAll_pos _
    have hnl : n ≤ 10000000 := by rw [hn]; exact hle.out
    have hnc := R1.2.1
    have hnm := R1.2.2.1
    unfold maxLen at hnm
    have hn' : Hid (n = (eAll (R, P)).length) := hn
    have s1 := (S0.out.call b1).new (c := #[.int .i64 0, .int .i64 0, .int .i64 0]) (t := 30)
    have V1 : Hid (Wr.Row _ (some d) n cc (eAll (R, P))) := R1.below (bal w1 (.cells #[.int .i64 0, .int .i64 0, .int .i64 0] 30))
    have S1 : Hid (St W _ _) := s1
    clear own nn R1 b1 s1 E0 Q0 S0 hn
    go_wp2_with fail
    refine (fixed16_any _).mono ?_
    rintro e w2 ⟨rfl, b2⟩
    have s2 := S1.out.call b2
    have V2 : Hid (Wr.Row w2 (some d) n cc (eAll (R, P))) := V1.out.below b2
    have S2 : Hid (St W w2 _) := s2
    obtain ⟨c1, f1, z1, c2, f2, z2, -⟩ := s2.rules
    clear b2 s2 V1 S1
    obtain ⟨k, hk, hkn⟩ := cut_at at1 n hnp
    have hR3 : Hid (Wr.Row w2 (some d) k cc ((eAll (R, P)).take k)) := row_front V2.out (by omega)
    obtain ⟨t1, ht1⟩ := all_cut HF.out (n := k) (by rw [← hn'.out]; exact hkn)
    have hT : Hid (pAll ((eAll (R, P)).take k) = .inl (40, t1)) := ht1
    have hT2 : Hid (pAll (eAll (R, P) ++ [more]) = .inl (43, 0)) := all_more HF.out more
    clear ht1
    go_wp2_with fail
    refine (decode_any (some d) k cc _ _ hR3.out (by omega)).mono ?_
    rintro e w3 ⟨hd, b3⟩
    obtain rfl := dec_bad hd hT.out
    have s4 := ((S2.out.call b3).new (c := #[.slice none 0 0, .slice none 0 0]) (t := 25)).new (c := #[.int .i64 40, .int .i64 (t1 / 4096), .int .i64 (t1 % 4096)]) (t := 30)
    simp only [World.size_alloc] at s4
    have B4 := bt b3 (bt (bal w3 (.cells #[.slice none 0 0, .slice none 0 0] 25)) (bal _ (.cells #[.int .i64 40, .int .i64 (t1 / 4096), .int .i64 (t1 % 4096)] 30)))
    obtain ⟨w4, hw4⟩ : ∃ w4, w4 = ((w3.alloc (.cells #[.slice none 0 0, .slice none 0 0] 25)).alloc (.cells #[.int .i64 40, .int .i64 (t1 / 4096), .int .i64 (t1 % 4096)] 30)) := ⟨_, rfl⟩
    rw [← hw4] at s4 B4
    have V4' : Hid (Wr.Row w4 (some d) n cc (eAll (R, P))) := V2.out.below B4
    have S4' : Hid (St W w4 _) := s4
    go_upto_region 6 with fail
    rw [← hw4]
    have own0 : Wr.Own (w4.alloc (.cells #[] 5)) w4.heap.size (.slice (some ⟨w4.heap.size, 0, none⟩) 0 0) [] := own_empty w4
    have bb0 : Hid (Below w4.heap.size w4 (w4.alloc (.cells #[] 5))) := bal _ _
    have V5 : Hid (Wr.Row (w4.alloc (.cells #[] 5)) (some d) n cc (eAll (R, P))) := V4'.out.below bb0.out
    have z4 : w3.heap.size + 1 < w4.heap.size := by rw [hw4]; simp
    clear hw4 s4 B4 b3 hd c1 f1 z1 c2 f2 z2 V2 S2 hR3 hT
    go_wp2_with (first
      | (at_builtin; refine Wr.wpList_app rfl (.tmp 52) (.tmp 53) rfl w4.heap.size (.slice (some ⟨w4.heap.size, 0, none⟩) 0 0) [] (eAll (R, P)) rfl own0 _ _ _ rfl V5.out (by have := hle.out; simp; omega) (by simp) ?_; intro v5 w5 own5 gr5 nn5; have bb5 := own0.bel bb0.out gr5 (by simp); have own6 := own5.alloc (.cells #[.int .u8 more] 5); have hnv : v5 ≠ .slice none 0 0 := nn5 (by simp); have bb6 := bb5.trans ((bal w5 (.cells #[.int .u8 more] 5)).mono bb5.size); obtain ⟨q1, q2, q3, rfl⟩ := own_ltr own5 hnv)
      | (at_builtin; refine Wr.wpList_app rfl (.tmp 54) (.tmp 56) rfl w4.heap.size _ _ [more] rfl own6 _ _ _ rfl (Wr.row_one w5 more hm) (by have := hle.out; simp; omega) bb6.size ?_; intro v7 w7 own7 gr7 nn7; have bb7 := own6.bel bb6 gr7 bb6.size; obtain ⟨d7, n7, c7, rfl, V7, hn7'⟩ := Own.rw own7 (nn7 hnv); have hn7 : Hid (n7 = _) := hn7'; clear hn7'))
    have hT3 : Hid (Wr.Row w7 (some d7) n7 c7 (eAll (R, P) ++ [more])) := by unfold Hid; simpa using V7
    have hn7' : n7 ≤ 140737488355328 := by rw [hn7.out]; have := hle.out; simp; omega
    have S7 : Hid (St W w7 _) := S4'.out.call bb7
    clear own7 gr7 nn7 V7 own5 gr5 nn5 own6 bb5 bb6 bb0 V5 hn7 own0
    refine (decode_any (some d7) n7 c7 _ _ hT3.out hn7').mono ?_
    rintro e w8 ⟨hd, b8⟩
    obtain rfl := dec_bad hd hT2.out
    have s9 := ((S7.out.call b8).new (c := #[.slice none 0 0, .slice none 0 0]) (t := 25)).new (c := #[.int .i64 43, .int .i64 0, .int .i64 0]) (t := 30)
    simp only [World.size_alloc] at s9
    have hb : Hid (Below W.heap.size W _) := s9.below
    have eq43 := eqF 43 0 0 43 0 0 true (by simp)
    obtain ⟨c1, f1, z1, -, -, -, c3, f3, z3, -⟩ := s9.rules
    clear hd b8 s9 S7 bb7
    go_wp2
    go_ret
    exact ⟨rfl, hb.out⟩
  · have HX : Hid (fCe (R, P) = (x1, x2, x3) ∧ x1 ≠ 0) := ⟨hX, hx⟩
    clear hX hx
    go_enter Try.func6, Try.ntmps6
    go_wp2_with fail
    refine (encode_bad ra rn rc R pa pn pc P _ E0.out Q0.out x1 x2 x3 HX.out.1 HX.out.2).mono ?_
    rintro e w1 ⟨rfl, b1⟩
    have s1 := (S0.out.call b1).new (c := #[.int .i64 x1, .int .i64 x2, .int .i64 x3]) (t := 30)
    have S1 : Hid (St W _ _) := s1
    clear b1 s1
    go_wp2_with fail
    refine (fixed16_any _).mono ?_
    rintro e w2 ⟨rfl, b2⟩
    have s2 := S1.out.call b2
    have S2 : Hid (St W w2 _) := s2
    obtain ⟨c1, f1, z1, c2, f2, z2, -⟩ := s2.rules
    clear b2 s2
    have hx2 : (x1 == 0) = false := by simpa using HX.out.2
    have hx3 : (x1 != 0) = true := by simpa using HX.out.2
    go_wp2_with fail
    refine (fixed16_any _).mono ?_
    rintro e w3 ⟨rfl, b3⟩
    have s3 := S2.out.call b3
    have hb : Hid (Below W.heap.size W w3) := s3.below
    clear c1 f1 z1 c2 f2 z2
    obtain ⟨c1, f1, z1, c2, f2, z2, -⟩ := s3.rules
    clear b3 s3
    go_wp2
    go_ret
    exact ⟨rfl, hb.out⟩
end Go.Proofs.Ythlnhodfgmpabaa.Sl
namespace Go.Proofs.Ythlnhodfgmpabaa
open Go.ChangeShapes Go.WideShapes Go.ChangeAt Go.RowKit
set_option linter.unusedVariables false
theorem sealCuts_walk (ra : Option Addr) (rn rc : Nat) (pa : Option Addr) (pn pc : Nat) (at1 more : Int) (W : World) (h1 : ORow 2 Sl.SpIn W ra rn rc) (r1 : rn * 16 ≤ 140737488351232) (h2 : ORow 1 (Sl.PlIn W) W pa pn pc) (r2 : pn * 24 ≤ 140737488351232) (h3 : (Lit.int .i64 at1).wf = true) (h4 : (Lit.int .u8 more).wf = true) :
    Calls Try.prog 6 #[.agg #[.slice ra rn rc, .slice pa pn pc], .int .i64 at1, .int .u8 more] W fun e w' => e = .returned (.bool true) ∧ Below W.heap.size W w' := by
  obtain ⟨R, g1, g2⟩ := Sl.spans_of h1
  obtain ⟨P, g3, g4⟩ := Sl.plans_of h2
  exact Sl.sealCuts_w ra rn rc R pa pn pc P at1 more W g1 g3 ⟨g2, g4⟩ (Sl.u8_wf h4)
end Go.Proofs.Ythlnhodfgmpabaa
