/- The walk of ModelFronts. -/
import Derived.Test.YtfgbolekenlheaaMdlL
import Derived.Test.YtfgbolekenlheaaMdlF
namespace Go.Proofs.Ytfgbolekenlheaa
open Go.ChangeShapes Go.WideShapes Go.ChangeAt Go.RowKit
set_option linter.unusedVariables false
theorem nef (T : TypeId) (hT : T = 31) (a b c d e f : Int) (v : Bool) (h : decide (a = d ∧ b = e ∧ c = f) = v) : ∀ W, (binOp .neq T (.agg #[.int .i64 a, .int .i64 b, .int .i64 c]) (.agg #[.int .i64 d, .int .i64 e, .int .i64 f])).run Try.prog W = .ok (.bool (!v)) W := by
  intro W; subst h hT; simp [go_sem]; repeat' split
  all_goals simp_all
theorem eqf (T : TypeId) (hT : T = 31) (a b c d e f : Int) (v : Bool) (h : decide (a = d ∧ b = e ∧ c = f) = v) : ∀ W, (binOp .eql T (.agg #[.int .i64 a, .int .i64 b, .int .i64 c]) (.agg #[.int .i64 d, .int .i64 e, .int .i64 f])).run Try.prog W = .ok (.bool v) W := by
  intro W; subst h hT; simp [go_sem]; repeat' split
  all_goals simp_all
set_option maxHeartbeats 4000000 in
set_option maxRecDepth 100000 in
theorem fronts_no (h w c lo hi : Int) (oa : Option Addr) (on oc : Nat) (ot n : Int) (O : Nat → Nat → Int) (e t wk : Int) (L : List (Int × Int × Int)) (W : World) (hMr : MRow W oa on oc O) (hon : on ≤ 1000000000000) (hG : gtR O h w c lo hi ot on = (e, t, L, wk)) (he : e ≠ 0) :
    Calls Try.prog 5 #[.agg #[.int .i64 h, .int .i64 w, .int .i64 c, .int .i64 lo, .int .i64 hi, .slice oa on oc, .int .i64 ot], .int .i64 n] W fun e w' => e = .returned (.bool true) ∧ Below W.heap.size W w' := by
  have hocc := hMr.1
  have hocm := hMr.2.1
  unfold maxLen at hocm
  have hM : Hid (MRow W oa on oc O) := hMr
  have hCk : Hid (∀ w', MRow w' oa on oc O → _) := fun w' hw => check_any h w c lo hi ot oa on oc O w' hw
  have hSh : Hid (∀ w', MRow w' oa on oc O → _) := fun w' hw => shapes_any h w c lo hi ot oa on oc O w' hw
  have hWk : Hid (∀ w', MRow w' oa on oc O → _) := fun w' hw => work_any h w c lo hi ot oa on oc O w' hw
  simp only [hG] at hCk hSh hWk
  obtain ⟨rfl, rfl, ht⟩ := gtR_err hG he
  have q1 := nef 31 rfl e t 0 e t 0 true (by simp)
  have e0 : (e == 0) = false := by simpa using he
  have l0 : ((0 : Int) == (on : Int) + 1) = false := by simp; omega
  clear hG hMr
  rcases ht with rfl | ⟨j, hj, ho64, rfl, L', wk', hG'⟩
  · go_enter Try.func5, Try.ntmps5
    go_wp2_with fail
    refine (fixed_any _).mono ?_
    rintro e w1 ⟨rfl, hb'⟩
    have s1 := (St.start W).new.call hb'
    clear hb'
    try simp only [World.size_setCell] at s1
    try simp only [World.size_alloc] at s1
    obtain ⟨c1, f1, zw1_1, -⟩ := s1.rules
    go_wp2_with fail
    refine Calls.mono (hCk.out _ (hM.out.below s1.below)) ?_
    rintro e' w2 ⟨rfl, hb⟩
    have s2 := (s1.call hb).new (c := #[.int .i64 e, .int .i64 0, .int .i64 0]) (t := 31)
    obtain ⟨-, -, -, c2, f2, z2, -⟩ := s2.rules
    clear hb c1 f1
    go_wp2_with fail
    refine Calls.mono (hSh.out _ (hM.out.below s2.below)) ?_
    rintro e' w3 ⟨v, rfl, hS, hb⟩
    obtain ⟨va, vc, rfl⟩ := hS.slice
    have s3 := (s2.call hb).new (c := #[.int .i64 e, .int .i64 0, .int .i64 0]) (t := 31)
    have s3' := s2.call hb
    obtain ⟨c1, f1, z1, c3, f3, z3, -⟩ := s3'.rules
    clear hb c2 f2 hS s2
    go_wp2_with fail
    refine Calls.mono (hWk.out _ (hM.out.below s3.below)) ?_
    rintro e' w4 ⟨rfl, hb⟩
    have s4 := s3.call hb
    clear hb c1 f1 c3 f3 s3 s3'
    obtain ⟨c1, f1, z1, c2, f2, z2, c3, f3, z3, -⟩ := s4.rules
    go_wp2
    go_ret
    exact ⟨rfl, bt s4.below (bal _ _)⟩
  · have hCk' : Hid (∀ w' g cap, MRow w' (some ⟨g, 0, none⟩) j cap O → _) := fun w' g cap hw => check_any h w c lo hi (j : Int) (some ⟨g, 0, none⟩) j cap O w' hw
    simp only [hG'] at hCk'
    have hFr : Hid (∀ w', MRow w' oa on oc O → _) := fun w' hw => front_any h w c lo hi ot oa on oc j O w' hw (by omega) ho64
    clear hG'
    have q2 := eqf 31 rfl 0 0 0 0 0 0 true (by simp)
    have t0 : ((j : Int) + 1 == 0) = false := by simp; omega
    have t1 : ¬ (j : Int) + 1 < 0 := by omega
    have t2 : ¬ (on : Int) < (j : Int) + 1 := by omega
    go_enter Try.func5, Try.ntmps5
    go_wp2_with fail
    refine (fixed_any _).mono ?_
    rintro e w1 ⟨rfl, hb'⟩
    have s1 := (St.start W).new.call hb'
    clear hb'
    try simp only [World.size_setCell] at s1
    try simp only [World.size_alloc] at s1
    obtain ⟨c1, f1, zw1_1, -⟩ := s1.rules
    go_wp2_with fail
    refine Calls.mono (hCk.out _ (hM.out.below s1.below)) ?_
    rintro e' w2 ⟨rfl, hb⟩
    have s2 := (s1.call hb).new (c := #[.int .i64 e, .int .i64 ((j : Int) + 1), .int .i64 0]) (t := 31)
    obtain ⟨-, -, -, c2, f2, z2, -⟩ := s2.rules
    clear hb c1 f1
    go_wp2_with fail
    refine Calls.mono (hSh.out _ (hM.out.below s2.below)) ?_
    rintro e' w3 ⟨v, rfl, hS, hb⟩
    obtain ⟨va, vc, rfl⟩ := hS.slice
    have s3 := (s2.call hb).new (c := #[.int .i64 e, .int .i64 ((j : Int) + 1), .int .i64 0]) (t := 31)
    have s3' := s2.call hb
    obtain ⟨c1, f1, z1, c3, f3, z3, -⟩ := s3'.rules
    clear hb c2 f2 hS s2
    go_wp2_with fail
    refine Calls.mono (hWk.out _ (hM.out.below s3.below)) ?_
    rintro e' w4 ⟨rfl, hb⟩
    have s4 := s3.call hb
    clear hb c1 f1 c3 f3 s3 s3'
    obtain ⟨c1, f1, z1, c2, f2, z2, c3, f3, z3, -⟩ := s4.rules
    go_wp2_with fail
    have s5 := s4.new (c := #[.int .i64 e, .int .i64 ((j : Int) + 1), .int .i64 0]) (t := 31)
    refine Calls.mono (hFr.out _ (hM.out.below s5.below)) ?_
    rintro e' w5 ⟨g, cap, rfl, -, hM5, hb⟩
    have s6 := s5.call hb
    clear hb c1 f1 c2 f2 c3 f3
    go_wp2_with fail
    refine Calls.mono (hCk'.out _ _ _ hM5) ?_
    rintro e' w6 ⟨rfl, hb⟩
    have s7 := s6.call hb
    clear hb
    go_wp2
    go_ret
    exact ⟨rfl, s7.below⟩
set_option maxHeartbeats 4000000 in
set_option maxRecDepth 100000 in
theorem fronts_ok (h w c lo hi : Int) (oa : Option Addr) (on oc : Nat) (ot n : Int) (O : Nat → Nat → Int) (t wk : Int) (L : List (Int × Int × Int)) (W : World) (hMr : MRow W oa on oc O) (hn : (Lit.int .i64 n).wf = true) (hG : gtR O h w c lo hi ot on = (0, t, L, wk)) :
    Calls Try.prog 5 #[.agg #[.int .i64 h, .int .i64 w, .int .i64 c, .int .i64 lo, .int .i64 hi, .slice oa on oc, .int .i64 ot], .int .i64 n] W fun e w' => e = .returned (.bool true) ∧ Below W.heap.size W w' := by
  have hocc := hMr.1
  have hocm := hMr.2.1
  unfold maxLen at hocm
  have hM : Hid (MRow W oa on oc O) := hMr
  obtain ⟨rfl, hlen, ho64, hw0, hw1, hfr⟩ := gtR_ok hG
  have hCk : Hid (∀ w', MRow w' oa on oc O → _) := fun w' hw => check_any h w c lo hi ot oa on oc O w' hw
  have hSh : Hid (∀ w', MRow w' oa on oc O → _) := fun w' hw => shapes_any h w c lo hi ot oa on oc O w' hw
  have hWk : Hid (∀ w', MRow w' oa on oc O → _) := fun w' hw => work_any h w c lo hi ot oa on oc O w' hw
  simp only [hG] at hCk hSh hWk
  have q1 := nef 31 rfl 0 0 0 0 0 0 true (by simp)
  have q2 := eqf 31 rfl 0 0 0 0 0 0 true (by simp)
  have hfr' : Hid (∀ k : Nat, k ≤ on → _) := hfr
  clear hG hMr hfr
  go_enter Try.func5, Try.ntmps5
  go_wp2_with fail
  refine (fixed_any _).mono ?_
  rintro e w1 ⟨rfl, hb'⟩
  have s1 := (St.start W).new.call hb'
  clear hb'
  try simp only [World.size_setCell] at s1
  try simp only [World.size_alloc] at s1
  obtain ⟨c1, f1, zw1_1, -⟩ := s1.rules
  go_wp2_with fail
  refine Calls.mono (hCk.out _ (hM.out.below s1.below)) ?_
  rintro e' w2 ⟨rfl, hb⟩
  have s2 := (s1.call hb).new (c := #[.int .i64 0, .int .i64 0, .int .i64 0]) (t := 31)
  obtain ⟨-, -, -, c2, f2, z2, -⟩ := s2.rules
  clear hb c1 f1
  go_wp2_with fail
  refine Calls.mono (hSh.out _ (hM.out.below s2.below)) ?_
  rintro e' w3 ⟨v, rfl, hS, hb⟩
  have s3 := s2.call hb
  have sz3 := hb.size
  rcases hS with ⟨-, hS⟩ | ⟨g, cap, cur, rfl, hg, hcur, hCu, hcap⟩
  · rw [hS] at hlen; cases hlen
  rw [hlen]
  simp only [World.size_alloc] at hg sz3 z2
  have hgW : W.heap.size ≤ g := by omega
  have s4 := s3.add hcur hgW
  have HCu : Hid (Cu cur cap L) := hCu
  have Hlen : Hid (L.length = on + 1) := hlen
  have hle : on + 1 ≤ cap := by have := hCu.2.1; omega
  obtain ⟨c1, f1, z1, c3, f3, z3, c4, f4, z4, -⟩ := s4.rules
  have s5 := s4.new (c := #[.int .i64 0, .int .i64 0, .int .i64 0]) (t := 31)
  clear hb c2 f2 hcur hCu hlen s2 s3
  go_wp2_with fail
  refine Calls.mono (hWk.out _ (hM.out.below s5.below)) ?_
  rintro e' w4 ⟨rfl, hb⟩
  have s6 := s5.call hb
  have sz4 := hb.size
  simp only [World.size_alloc] at sz4
  clear hb c1 f1 c3 f3 c4 f4 s4 s5
  obtain ⟨c1, f1, y1, c2, f2, y2, c3, f3, y3, c4, f4, y4, -⟩ := s6.rules
  go_upto_region 11 with fail
  obtain ⟨k, hk, hkn⟩ : ∃ k : Nat, wrap64 ((IntKind.u64.wrap n).tmod ((on : Int) + 1)) = (k : Int) ∧ k ≤ on := by
    have u0 : 0 ≤ IntKind.u64.wrap n := by simp [IntKind.wrap, IntKind.bits, IntKind.signed]; omega
    have m0 : 0 ≤ (IntKind.u64.wrap n).tmod ((on : Int) + 1) := Int.tmod_nonneg _ u0
    have m1 : (IntKind.u64.wrap n).tmod ((on : Int) + 1) < (on : Int) + 1 := Int.tmod_lt_of_pos _ (by omega)
    refine ⟨((IntKind.u64.wrap n).tmod ((on : Int) + 1)).toNat, ?_, by omega⟩
    rw [IntWalk.wrap64_in _ ⟨by omega, by omega⟩]
    omega
  rw [hk]
  obtain ⟨wi, hGk, hwi0, hwi1⟩ := hfr'.out k hkn
  have hFr : Hid (∀ w', MRow w' oa on oc O → _) := fun w' hw => front_any h w c lo hi ot oa on oc k O w' hw hkn ho64
  have hSk : Hid (∀ w' g cap, MRow w' (some ⟨g, 0, none⟩) k cap O → _) := fun w' g cap hw => shapes_any h w c lo hi (k : Int) (some ⟨g, 0, none⟩) k cap O w' hw
  have hWq : Hid (∀ w' g cap, MRow w' (some ⟨g, 0, none⟩) k cap O → _) := fun w' g cap hw => work_any h w c lo hi (k : Int) (some ⟨g, 0, none⟩) k cap O w' hw
  simp only [hGk] at hSk hWq
  clear hk hGk hfr' hn
  have s7 := s6.new (c := #[.int .i64 0, .int .i64 0, .int .i64 0]) (t := 31)
  go_wp2_with fail
  refine Calls.mono (hFr.out _ (hM.out.below s7.below)) ?_
  rintro e' w5 ⟨gp, capp, rfl, hgp, hM5, hb⟩
  simp only [World.size_alloc] at hgp
  have s8 := (s7.call hb).new (c := #[.int .i64 h, .int .i64 w, .int .i64 c, .int .i64 lo, .int .i64 hi, .slice (some ⟨gp, 0, none⟩) k capp, .int .i64 k]) (t := 26)
  have hM6 : Hid (MRow _ (some ⟨gp, 0, none⟩) k capp O) := hM5.below (bal w5 (.cells #[.int .i64 h, .int .i64 w, .int .i64 c, .int .i64 lo, .int .i64 hi, .slice (some ⟨gp, 0, none⟩) k capp, .int .i64 k] 26))
  have sz5 := hb.size
  simp only [World.size_alloc] at sz5
  clear hb hM5 c1 f1 c2 f2 c3 f3 c4 f4 s6 s7 hFr
  go_wp2_with fail
  refine Calls.mono (hSk.out _ _ _ hM6.out) ?_
  rintro e' w6 ⟨v, rfl, hS, hb⟩
  have s9 := s8.call hb
  have hM7 : Hid (MRow w6 (some ⟨gp, 0, none⟩) k capp O) := hM6.out.below hb
  have sz6 := hb.size
  rcases hS with ⟨-, hS⟩ | ⟨g2, cap2, cur2, rfl, hg2, hcur2, hCu2, hcap2⟩
  · have := congrArg List.length hS
    rw [List.length_take, Hlen.out] at this
    simp at this
  simp only [World.size_alloc] at hg2 sz6
  have hl2 : (L.take (k + 1)).length = k + 1 := by rw [List.length_take, Hlen.out]; omega
  have hgW2 : W.heap.size ≤ g2 := by omega
  have s10 := s9.add hcur2 hgW2
  have HCu2 : Hid (Cu cur2 cap2 (L.take (k + 1))) := hCu2
  rw [hl2]
  clear hb hcur2 hCu2 hl2 s8 s9 hM6 hSk
  obtain ⟨c1, f1, v1, c2, f2, v2, c3, f3, v3, c4, f4, v4, c5, f5, v5, c6, f6, v6, c7, f7, v7, -⟩ := s10.rules
  have s11 := s10.up3.set012 (u := .int .i64 0) (v := .int .i64 0) (x := .int .i64 0) (by
    intro x hx
    simp only [List.mem_cons, List.not_mem_nil, or_false] at hx
    rcases hx with rfl | rfl | rfl | rfl | rfl | rfl <;> simp only <;> omega)
  have hM8 := hM7.out.heap (w' := ((w6.setCell ⟨w3.heap.size, 0, none⟩ (.int .i64 0)).setCell ⟨w3.heap.size, 1, none⟩ (.int .i64 0)).setCell ⟨w3.heap.size, 2, none⟩ (.int .i64 0)) (by
    rw [Below.heap_setCell _ _ _ _ (show gp ≠ w3.heap.size by omega), Below.heap_setCell _ _ _ _ (show gp ≠ w3.heap.size by omega), Below.heap_setCell _ _ _ _ (show gp ≠ w3.heap.size by omega)])
  go_wp2_with fail
  refine Calls.mono (hWq.out _ _ _ hM8) ?_
  rintro e' w7 ⟨rfl, hb⟩
  have s12 := s11.call hb
  clear hb c1 f1 c2 f2 c3 f3 c4 f4 c5 f5 c6 f6 c7 f7 s10 s11 hM7 hM8 hWq
  obtain ⟨c1, f1, x1, c2, f2, x2, c3, f3, x3, c4, f4, x4, c5, f5, x5, c6, f6, x6, c7, f7, x7, -⟩ := s12.rules
  have s13 := s12.up3.set012 (u := .int .i64 0) (v := .int .i64 0) (x := .int .i64 0) (by
    intro x hx
    simp only [List.mem_cons, List.not_mem_nil, or_false] at hx
    rcases hx with rfl | rfl | rfl | rfl | rfl | rfl <;> simp only <;> omega)
  have k1 : (0 : Int) ≤ (k : Int) + 1 := by omega
  have k2 : (k : Int) + 1 ≤ (cap : Int) := by omega
  have k3 : ((k : Int) + 1).toNat = k + 1 := by omega
  have hv1 := same_any _ _ _ _ _ (sv_cu (L := L.take (k + 1)) s13.h3 HCu2.out (by unfold maxLen; omega) (k + 1) (by rw [List.length_take, Hlen.out]; omega) (show L.take (k + 1) = _ by rw [List.take_take, Nat.min_self])) (sv_cu s13.tail.tail.tail.tail.h1 HCu.out (by unfold maxLen; omega) (k + 1) (by rw [Hlen.out]; omega) rfl)
  have hv : Hid _ := hv1
  clear hv1
  go_wp2_with fail
  refine Calls.mono hv.out ?_
  rintro e' w8 ⟨rfl, hb⟩
  have s14 := s13.call hb
  clear hb hv s12 s13
  try simp only [decide_true]
  go_wp2
  go_ret
  exact ⟨rfl, s14.below⟩
theorem modelFronts_walk (h w c lo hi : Int) (oa : Option Addr) (on oc : Nat) (ot n : Int) (W : World) (_ : (Lit.int .i64 h).wf = true) (_ : (Lit.int .i64 w).wf = true) (_ : (Lit.int .i64 c).wf = true) (_ : (Lit.int .i64 lo).wf = true) (_ : (Lit.int .i64 hi).wf = true)
    (wo : ORow 22 (OpIn W) W oa on oc) (hr : on * 208 ≤ 140737488351232) (_ : (Lit.int .i64 ot).wf = true) (hn : (Lit.int .i64 n).wf = true) :
    Calls Try.prog 5 #[.agg #[.int .i64 h, .int .i64 w, .int .i64 c, .int .i64 lo, .int .i64 hi, .slice oa on oc, .int .i64 ot], .int .i64 n] W fun e w' => e = .returned (.bool true) ∧ Below W.heap.size W w' := by
  obtain ⟨O, Z, B, hL⟩ := lrow_of wo
  obtain ⟨e, t, L, wk, hG⟩ : ∃ e t L wk, gtR O h w c lo hi ot on = (e, t, L, wk) := ⟨_, _, _, _, rfl⟩
  by_cases he : e = 0
  · subst he
    exact fronts_ok h w c lo hi oa on oc ot n O t wk L W hL.m hn hG
  · exact fronts_no h w c lo hi oa on oc ot n O e t wk L W hL.m (by omega) hG he
end Go.Proofs.Ytfgbolekenlheaa
