/- The document's SameOp and Same of layer 8, of like ops and models: what each returns. plain and fixed of law08. same, plain and fixed of law09. fixed of law09. -/
import Derived.Test.YthagdpiocmcbmaaGr15
import Derived.Test.YthagdpiocmcbmaaGr16
import Derived.Test.YthagdpiocmcbmaaGr17
import Derived.BigQuiet
/- The document's SameOp and Same of layer 8, of like ops and models: what each returns. -/
namespace Go.Proofs.Ythagdpiocmcbmaa
open Go.ChangeShapes Go.WideShapes Go.ChangeAt Go.RowKit
set_option linter.unusedVariables false
set_option maxHeartbeats 4000000 in
set_option maxRecDepth 100000 in
theorem sameop_any (o : Nat → Int) (z b : List Int) (wa ba xa ya : Option Addr) (lw cw lb cb dw db : Nat) (W : World) (h1 : IRow .i16 W wa lw cw z) (h2 : IRow .i16 W xa lw dw z) (h3 : IRow .i32 W ba lb cb b) (h4 : IRow .i32 W ya lb db b) :
    Calls Try.prog 20 #[.agg #[.int .i64 (o 0), .int .i64 (o 1), .int .i64 (o 2), .int .i64 (o 3), .int .i64 (o 4), .int .i64 (o 5), .int .i64 (o 6), .int .i64 (o 7), .int .i64 (o 8), .int .i64 (o 9), .int .i64 (o 10), .int .i64 (o 11), .slice wa lw cw, .slice ba lb cb, .int .i64 (o 14), .int .i64 (o 15), .int .i64 (o 16), .int .i64 (o 17), .int .i64 (o 18), .int .i64 (o 19), .int .i64 (o 20), .int .i64 (o 21)], .agg #[.int .i64 (o 0), .int .i64 (o 1), .int .i64 (o 2), .int .i64 (o 3), .int .i64 (o 4), .int .i64 (o 5), .int .i64 (o 6), .int .i64 (o 7), .int .i64 (o 8), .int .i64 (o 9), .int .i64 (o 10), .int .i64 (o 11), .slice xa lw dw, .slice ya lb db, .int .i64 (o 14), .int .i64 (o 15), .int .i64 (o 16), .int .i64 (o 17), .int .i64 (o 18), .int .i64 (o 19), .int .i64 (o 20), .int .i64 (o 21)]] W fun e w' => e = .returned (.bool true) ∧ Below W.heap.size W w' := by
  have n8 := ne8 44 rfl (o 4) (o 5) (o 6) (o 7) (o 8) (o 9) (o 10) (o 11) (o 4) (o 5) (o 6) (o 7) (o 8) (o 9) (o 10) (o 11) true (by simp)
  have n2 := ne2 48 rfl (o 14) (o 15) (o 14) (o 15) true (by simp)
  have n2' := ne2 48 rfl (o 16) (o 17) (o 16) (o 17) true (by simp)
  have lm1 := h1.2.1
  have lm2 := h1.2.2.1
  have lm3 := h3.2.1
  have lm4 := h3.2.2.1
  have lm5 := h2.2.1
  have lm6 := h2.2.2.1
  have lm7 := h4.2.1
  have lm8 := h4.2.2.1
  unfold maxLen at lm2 lm4 lm6 lm8
  have H1 : Hid (IRow .i16 W wa lw cw z) := h1
  have H2 : Hid (IRow .i16 W xa lw dw z) := h2
  have H3 : Hid (IRow .i32 W ba lb cb b) := h3
  have H4 : Hid (IRow .i32 W ya lb db b) := h4
  have s1 := ((St.start W).new (c := #[.int .i64 (o 0), .int .i64 (o 1), .int .i64 (o 2), .int .i64 (o 3), .int .i64 (o 4), .int .i64 (o 5), .int .i64 (o 6), .int .i64 (o 7), .int .i64 (o 8), .int .i64 (o 9), .int .i64 (o 10), .int .i64 (o 11), .slice wa lw cw, .slice ba lb cb, .int .i64 (o 14), .int .i64 (o 15), .int .i64 (o 16), .int .i64 (o 17), .int .i64 (o 18), .int .i64 (o 19), .int .i64 (o 20), .int .i64 (o 21)]) (t := 50)).new (c := #[.int .i64 (o 0), .int .i64 (o 1), .int .i64 (o 2), .int .i64 (o 3), .int .i64 (o 4), .int .i64 (o 5), .int .i64 (o 6), .int .i64 (o 7), .int .i64 (o 8), .int .i64 (o 9), .int .i64 (o 10), .int .i64 (o 11), .slice xa lw dw, .slice ya lb db, .int .i64 (o 14), .int .i64 (o 15), .int .i64 (o 16), .int .i64 (o 17), .int .i64 (o 18), .int .i64 (o 19), .int .i64 (o 20), .int .i64 (o 21)]) (t := 50)
  simp only [World.size_alloc] at s1
  clear h1 h2 h3 h4
  go_enter Try.func20, Try.ntmps20
  go_upto_region 1 with fail
  obtain ⟨wv, hwv⟩ : ∃ wv, (W.alloc (.cells #[.int .i64 (o 0), .int .i64 (o 1), .int .i64 (o 2), .int .i64 (o 3), .int .i64 (o 4), .int .i64 (o 5), .int .i64 (o 6), .int .i64 (o 7), .int .i64 (o 8), .int .i64 (o 9), .int .i64 (o 10), .int .i64 (o 11), .slice wa lw cw, .slice ba lb cb, .int .i64 (o 14), .int .i64 (o 15), .int .i64 (o 16), .int .i64 (o 17), .int .i64 (o 18), .int .i64 (o 19), .int .i64 (o 20), .int .i64 (o 21)] 50)).alloc (.cells #[.int .i64 (o 0), .int .i64 (o 1), .int .i64 (o 2), .int .i64 (o 3), .int .i64 (o 4), .int .i64 (o 5), .int .i64 (o 6), .int .i64 (o 7), .int .i64 (o 8), .int .i64 (o 9), .int .i64 (o 10), .int .i64 (o 11), .slice xa lw dw, .slice ya lb db, .int .i64 (o 14), .int .i64 (o 15), .int .i64 (o 16), .int .i64 (o 17), .int .i64 (o 18), .int .i64 (o 19), .int .i64 (o 20), .int .i64 (o 21)] 50) = wv := ⟨_, rfl⟩
  rw [hwv] at s1 ⊢
  clear hwv
  obtain ⟨c1, f1, z1, c2, f2, z2, -⟩ := s1.rules
  simp only [List.append]
  go_upto_region 3 with fail
  have r1 : Hid (IRow .i16 wv wa lw cw z) := H1.out.below s1.below
  have r2 : Hid (IRow .i16 wv xa lw dw z) := H2.out.below s1.below
  have r3 : Hid (IRow .i32 wv ba lb cb b) := H3.out.below s1.below
  have r4 : Hid (IRow .i32 wv ya lb db b) := H4.out.below s1.below
  have hbel : Hid (Below W.heap.size W wv) := s1.below
  clear H1 H2 H3 H4 s1 n8 n2 n2'
  go_wp2
  go_loopw [101] (fun i wr => ∃ k n : Nat, k ≤ lw ∧ i = .int .i64 k ∧ wr = wv.drewN n) (fun i _ => lw - (intOf i).toNat)
  case atStart => exact ⟨0, 0, Nat.zero_le _, rfl, rfl⟩
  case round =>
    obtain ⟨k, n, hk, rfl, rfl⟩ := hrel
    by_cases hlt : k < lw
    · obtain ⟨x, u, rfl, hu, -, hz1, -⟩ := r1.out.at hlt
      obtain ⟨y, u', rfl, hu', -, hz2, -⟩ := r2.out.at hlt
      rw [hz1] at hz2
      cases hz2
      clear hz1
      go_wp2
      go_quiet (fail)
      go_wp2
      go_roundw
      case rel => exact ⟨k + 1, _, by omega, by go_num, rfl⟩
      case measure => simp [intOf]; omega
    · obtain rfl : k = lw := by omega
      go_wp2
      go_loopw [119] (fun i wr => ∃ k n : Nat, k ≤ lb ∧ i = .int .i64 k ∧ wr = wv.drewN n) (fun i _ => lb - (intOf i).toNat)
      case atStart => exact ⟨0, n, Nat.zero_le _, rfl, rfl⟩
      case round =>
        obtain ⟨j, n', hk', rfl, rfl⟩ := hrel
        by_cases hlt' : j < lb
        · obtain ⟨x, u, rfl, hu, -, hz1, -⟩ := r3.out.at hlt'
          obtain ⟨y, u', rfl, hu', -, hz2, -⟩ := r4.out.at hlt'
          rw [hz1] at hz2
          cases hz2
          clear hz1
          go_wp2
          go_quiet (fail)
          go_wp2
          go_roundw
          case rel => exact ⟨j + 1, _, by omega, by go_num, rfl⟩
          case measure => simp [intOf]; omega
        · go_wp2
          go_ret
          exact ⟨rfl, bt hbel.out (dbel _ _)⟩
/-! ### A load of a whole struct out of a slice, in a region that draws its order -/
theorem quiet_la {P : Program} {C : World → Prop} {a a' : Act} {o : Oper} {K : Act → Prop} (ty : TypeId) (x : Operand) (h : o.op = .load ty x) (y : Addr) (hx : a.eval x = .pointer (some y)) (cs : List Value) (d : TypeDesc)
    (hC : ∀ w, C w → ∀ j v, cs[j]? = some v → w.cell? (y.add j) = some v) (hu : P.underlying ty = some d) (hd : (match d with | .struct _ | .array _ _ => true | _ => false) = true) (hi : (P.info? ty).map (·.size) = some cs.length) (ha : a.put o.dst (.agg cs.toArray) = a') (hk : K a') : o.quiet P a C K := by
  refine ⟨.agg cs.toArray, fun w hw => ?_, by rw [ha]; exact hk⟩
  have hl : (loadCells y cs.length).run P w = .ok cs.toArray w := run_loadCells_list (P := P) w y cs (hC w hw)
  have hv : (loadVar ty y).run P w = .ok (.agg cs.toArray) w := by
    cases hq : P.info? ty with
    | none => simp [hq] at hi
    | some i =>
      have hs : i.size = cs.length := by simpa [hq] using hi
      have hagg : (isAgg ty).run P w = .ok true w := by
        unfold isAgg
        rw [Sem.run_bind, run_underlying hu w]
        cases d <;> simp_all
      simp [loadVar, Sem.run_bind, hagg, sizeOf, typeInfo, hq, hs, hl]
  unfold Oper.quietAt execOp
  simp only [h, hx, Instr.loadAt, Instr.sureAddr, Sem.run_bind, Sem.run_pure, Result.andThen_ok, hv]
  exact ⟨rfl, rfl⟩
set_option maxHeartbeats 4000000 in
set_option maxRecDepth 100000 in
theorem samem_any (h w c lo hi ot : Int) (oa oa' : Option Addr) (on oc oc' : Nat) (O : Nat → Nat → Int) (Z B : Nat → List Int) (W : World) (hL : LRow W oa on oc O Z B) (hL' : LRow W oa' on oc' O Z B) :
    Calls Try.prog 13 #[.agg #[.int .i64 h, .int .i64 w, .int .i64 c, .int .i64 lo, .int .i64 hi, .slice oa on oc, .int .i64 ot], .agg #[.int .i64 h, .int .i64 w, .int .i64 c, .int .i64 lo, .int .i64 hi, .slice oa' on oc', .int .i64 ot]] W fun e w' => e = .returned (.bool true) ∧ Below W.heap.size W w' := by
  have n3 := ne3 23 rfl h w c h w c true (by simp)
  have l1 := hL.1
  have l2 := hL.2.1
  have l3 := hL'.1
  have l4 := hL'.2.1
  unfold maxLen at l2 l4
  have H1 : Hid (LRow W oa on oc O Z B) := hL
  have H2 : Hid (LRow W oa' on oc' O Z B) := hL'
  have s1 := ((St.start W).new (c := #[.int .i64 h, .int .i64 w, .int .i64 c, .int .i64 lo, .int .i64 hi, .slice oa on oc, .int .i64 ot]) (t := 26)).new (c := #[.int .i64 h, .int .i64 w, .int .i64 c, .int .i64 lo, .int .i64 hi, .slice oa' on oc', .int .i64 ot]) (t := 26)
  simp only [World.size_alloc] at s1
  have S1 : Hid (St W _ ([(W.heap.size + 1, #[.int .i64 h, .int .i64 w, .int .i64 c, .int .i64 lo, .int .i64 hi, .slice oa' on oc', .int .i64 ot], 26), (W.heap.size, #[.int .i64 h, .int .i64 w, .int .i64 c, .int .i64 lo, .int .i64 hi, .slice oa on oc, .int .i64 ot], 26)])) := s1
  clear hL hL' s1
  go_enter Try.func13, Try.ntmps13
  go_wp2
  go_loopw [44] (fun i wr => ∃ k : Nat, k ≤ on ∧ i = .int .i64 k ∧ St W wr ([(W.heap.size + 1, #[.int .i64 h, .int .i64 w, .int .i64 c, .int .i64 lo, .int .i64 hi, .slice oa' on oc', .int .i64 ot], 26), (W.heap.size, #[.int .i64 h, .int .i64 w, .int .i64 c, .int .i64 lo, .int .i64 hi, .slice oa on oc, .int .i64 ot], 26)])) (fun i _ => on - (intOf i).toNat)
  case atStart => exact ⟨0, Nat.zero_le _, rfl, S1.out⟩
  case round =>
    obtain ⟨i, hi0, rfl, sr⟩ := hrel
    by_cases hlt : i < on
    rotate_left
    · have hbel : Hid (Below W.heap.size W wr) := sr.below
      clear sr S1
      go_wp2
      go_ret
      exact ⟨rfl, hbel.out⟩
    · obtain ⟨x, rfl, wa, lw, cw, ba, lb, cb, e12, e13, hcx, hz1, hb1, -, -⟩ := H1.out.at hlt
      obtain ⟨y, rfl, xa, lw', dw, ya, lb', db, d12, d13, hcy, hz2, hb2, -, -⟩ := H2.out.at hlt
      obtain rfl : lw' = lw := by rw [e12] at d12; omega
      obtain rfl : lb' = lb := by rw [e13] at d13; omega
      have hSO : Hid (∀ n : Wd W ([(W.heap.size + 1, #[.int .i64 h, .int .i64 w, .int .i64 c, .int .i64 lo, .int .i64 hi, .slice (some y) on oc', .int .i64 ot], 26), (W.heap.size, #[.int .i64 h, .int .i64 w, .int .i64 c, .int .i64 lo, .int .i64 hi, .slice (some x) on oc, .int .i64 ot], 26)]), Calls Try.prog 20 #[.agg #[.int .i64 (O i 0), .int .i64 (O i 1), .int .i64 (O i 2), .int .i64 (O i 3), .int .i64 (O i 4), .int .i64 (O i 5), .int .i64 (O i 6), .int .i64 (O i 7), .int .i64 (O i 8), .int .i64 (O i 9), .int .i64 (O i 10), .int .i64 (O i 11), .slice wa lw' cw, .slice ba lb' cb, .int .i64 (O i 14), .int .i64 (O i 15), .int .i64 (O i 16), .int .i64 (O i 17), .int .i64 (O i 18), .int .i64 (O i 19), .int .i64 (O i 20), .int .i64 (O i 21)], .agg #[.int .i64 (O i 0), .int .i64 (O i 1), .int .i64 (O i 2), .int .i64 (O i 3), .int .i64 (O i 4), .int .i64 (O i 5), .int .i64 (O i 6), .int .i64 (O i 7), .int .i64 (O i 8), .int .i64 (O i 9), .int .i64 (O i 10), .int .i64 (O i 11), .slice xa lw' dw, .slice ya lb' db, .int .i64 (O i 14), .int .i64 (O i 15), .int .i64 (O i 16), .int .i64 (O i 17), .int .i64 (O i 18), .int .i64 (O i 19), .int .i64 (O i 20), .int .i64 (O i 21)]] n.w fun e w' => e = .returned (.bool true) ∧ Below n.w.heap.size n.w w') := fun n => sameop_any (O i) (Z i) (B i) wa ba xa ya lw' cw lb' cb dw db n.w (hz1.below n.h.below) (hz2.below n.h.below) (hb1.below n.h.below) (hb2.below n.h.below)
      have hCx : Hid (∀ wz, (∃ n : Wd W ([(W.heap.size + 1, #[.int .i64 h, .int .i64 w, .int .i64 c, .int .i64 lo, .int .i64 hi, .slice (some y) on oc', .int .i64 ot], 26), (W.heap.size, #[.int .i64 h, .int .i64 w, .int .i64 c, .int .i64 lo, .int .i64 hi, .slice (some x) on oc, .int .i64 ot], 26)]), wz = n.w) → ∀ j v, [.int .i64 (O i 0), .int .i64 (O i 1), .int .i64 (O i 2), .int .i64 (O i 3), .int .i64 (O i 4), .int .i64 (O i 5), .int .i64 (O i 6), .int .i64 (O i 7), .int .i64 (O i 8), .int .i64 (O i 9), .int .i64 (O i 10), .int .i64 (O i 11), .slice wa lw' cw, .slice ba lb' cb, .int .i64 (O i 14), .int .i64 (O i 15), .int .i64 (O i 16), .int .i64 (O i 17), .int .i64 (O i 18), .int .i64 (O i 19), .int .i64 (O i 20), .int .i64 (O i 21)][j]? = some v → wz.cell? ((x.add (i * 22)).add j) = some v) := fun wz hw j v hj => by
        obtain ⟨n, rfl⟩ := hw
        have := hcx j v hj
        exact (n.h.below.cell (World.block_lt_of_cell? W _ this)).trans this
      have hCy : Hid (∀ wz, (∃ n : Wd W ([(W.heap.size + 1, #[.int .i64 h, .int .i64 w, .int .i64 c, .int .i64 lo, .int .i64 hi, .slice (some y) on oc', .int .i64 ot], 26), (W.heap.size, #[.int .i64 h, .int .i64 w, .int .i64 c, .int .i64 lo, .int .i64 hi, .slice (some x) on oc, .int .i64 ot], 26)]), wz = n.w) → ∀ j v, [.int .i64 (O i 0), .int .i64 (O i 1), .int .i64 (O i 2), .int .i64 (O i 3), .int .i64 (O i 4), .int .i64 (O i 5), .int .i64 (O i 6), .int .i64 (O i 7), .int .i64 (O i 8), .int .i64 (O i 9), .int .i64 (O i 10), .int .i64 (O i 11), .slice xa lw' dw, .slice ya lb' db, .int .i64 (O i 14), .int .i64 (O i 15), .int .i64 (O i 16), .int .i64 (O i 17), .int .i64 (O i 18), .int .i64 (O i 19), .int .i64 (O i 20), .int .i64 (O i 21)][j]? = some v → wz.cell? ((y.add (i * 22)).add j) = some v) := fun wz hw j v hj => by
        obtain ⟨n, rfl⟩ := hw
        have := hcy j v hj
        exact (n.h.below.cell (World.block_lt_of_cell? W _ this)).trans this
      clear hcx hcy hz1 hz2 hb1 hb2 e12 e13 d12 d13 S1
      go_upto_region 6 with fail
      obtain ⟨q1, y1, q2, y2, -⟩ := rulesQ_st sr
      have hne := Nonempty.intro (Wd.mk _ sr)
      refine region_held sr (by kernel_rfl) (by kernel_rfl) ?_
      go_big_quiet_step (fail)
      go_big_quiet_step (fail)
      go_big_quiet_step (fail)
      go_big_quiet_step (fail)
      go_big_quiet_want
      refine quiet_la 50 (.tmp 50) rfl _ rfl [.int .i64 (O i 0), .int .i64 (O i 1), .int .i64 (O i 2), .int .i64 (O i 3), .int .i64 (O i 4), .int .i64 (O i 5), .int .i64 (O i 6), .int .i64 (O i 7), .int .i64 (O i 8), .int .i64 (O i 9), .int .i64 (O i 10), .int .i64 (O i 11), .slice wa lw' cw, .slice ba lb' cb, .int .i64 (O i 14), .int .i64 (O i 15), .int .i64 (O i 16), .int .i64 (O i 17), .int .i64 (O i 18), .int .i64 (O i 19), .int .i64 (O i 20), .int .i64 (O i 21)] _ hCx.out Try.underlying50 rfl (by kernel_rfl) rfl ?_
      go_simp
      go_big_quiet_on
      go_big_quiet_step (fail)
      go_big_quiet_step (fail)
      go_big_quiet_step (fail)
      go_big_quiet_step (fail)
      go_big_quiet_want
      refine quiet_la 50 (.tmp 55) rfl _ rfl [.int .i64 (O i 0), .int .i64 (O i 1), .int .i64 (O i 2), .int .i64 (O i 3), .int .i64 (O i 4), .int .i64 (O i 5), .int .i64 (O i 6), .int .i64 (O i 7), .int .i64 (O i 8), .int .i64 (O i 9), .int .i64 (O i 10), .int .i64 (O i 11), .slice xa lw' dw, .slice ya lb' db, .int .i64 (O i 14), .int .i64 (O i 15), .int .i64 (O i 16), .int .i64 (O i 17), .int .i64 (O i 18), .int .i64 (O i 19), .int .i64 (O i 20), .int .i64 (O i 21)] _ hCy.out Try.underlying50 rfl (by kernel_rfl) rfl ?_
      go_simp
      go_big_quiet_on
      repeat (go_big_quiet_step ((go_at_call 20; exact held_of (hSO.out _))))
      refine wpQuiet_nil ?_
      intro _ hw'
      obtain ⟨nq, rfl⟩ := hw'
      obtain ⟨w5, hw5⟩ : ∃ w5, nq.w = w5 := ⟨_, rfl⟩
      have s5 : Hid (St W w5 _) := hw5 ▸ nq.h
      rw [hw5]
      clear q1 y1 q2 y2 hne hw5 sr hSO hCx hCy
      clear nq
      go_wp2
      go_round
      case rel => exact ⟨i + 1, by omega, by go_num, s5.out⟩
      case measure => simp [intOf]; omega
end Go.Proofs.Ythagdpiocmcbmaa

/- plain and fixed of law08. -/
namespace Go.Proofs.Ythagdpiocmcbmaa
open Go.ChangeShapes Go.WideShapes Go.ChangeAt Go.RowKit
set_option linter.unusedVariables false
/-- The op of the plain model, its A being 'aa'. -/
def plO (aa : Int) (_ : Nat) (j : Nat) : Int := [1, aa, 0, 1, 0, 0, 0, 0, 0, 0, 0, 0, 2, 1, 1, 0, 0, 0, 0, 0, -128, 127].getD j 0
theorem pl_0 : gtR (plO 0) 1 1 2 (-128) 127 1 1 = (0, 0, [(1, 1, 2), (1, 1, 1)], 2) := by decide
theorem pl_1 : gtR (plO 1) 1 1 2 (-128) 127 1 1 = (82, 1, [], 0) := by decide
end Go.Proofs.Ythagdpiocmcbmaa

/- same, plain and fixed of law09. -/
namespace Go.Proofs.Ythagdpiocmcbmaa
open Wr
open Go.ChangeShapes Go.WideShapes Go.ChangeAt Go.RowKit
set_option linter.unusedVariables false
set_option maxHeartbeats 1000000 in
theorem sameb_any (a b : Option Addr) (la ca lb cb : Nat) (xs ys : List Int) (w : World) (ha : Wr.Row w a la ca xs) (hb : Wr.Row w b lb cb ys) :
    Calls Try.prog 12 #[.slice a la ca, .slice b lb cb] w fun e w' => e = .returned (.bool (decide (xs = ys))) ∧ Below w.heap.size w w' := by
  have ha' := ha.2.2.1
  have hb' := hb.2.2.1
  unfold maxLen at ha' hb'
  have hxl : Hid (xs.length = la) := ha.1
  have hyl : Hid (ys.length = lb) := hb.1
  have hac := ha.2.1
  have hbc := hb.2.1
  by_cases hlen : la = lb
  · subst hlen
    go_enter Try.func12, Try.ntmps12
    go_wp2
    go_loopw [13] (fun i wr => ∃ k n : Nat, k ≤ la ∧ i = .int .i64 k ∧ xs.take k = ys.take k ∧ wr = w.drewN n) (fun i _ => la - (intOf i).toNat)
    case atStart => exact ⟨0, 0, Nat.zero_le _, rfl, rfl, rfl⟩
    case round =>
      obtain ⟨k, n, hk, rfl, he, rfl⟩ := hrel
      have he' : Hid (xs.take k = ys.take k) := he
      clear he
      by_cases hlt : k < la
      · obtain ⟨p, c, rfl, hc, hc0, hc1, hcd⟩ := row_at ha hlt
        obtain ⟨q, d, rfl, hd, hd0, hd1, hdd⟩ := row_at hb hlt
        have hcd' : Hid (xs.drop k = c :: xs.drop (k + 1)) := hcd
        have hdd' : Hid (ys.drop k = d :: ys.drop (k + 1)) := hdd
        clear hcd hdd ha hb
        by_cases hcd : c = d
        · subst hcd
          go_wp2
          go_quiet (fail)
          go_wp2
          go_roundw
          case rel => exact ⟨k + 1, _, by omega, by go_num, (same_step hcd'.out hdd'.out he'.out).1 rfl, rfl⟩
          case measure => simp [intOf]; omega
        · have hD : Hid (decide (xs = ys) = false) := (same_step hcd'.out hdd'.out he'.out).2 hcd
          go_wp2
          go_quiet (fail)
          go_wp2
          go_ret
          exact ⟨ret_bool hD.out.symm, by rw [World.drewN_drewN]; exact dbel _ _⟩
      · clear ha hb
        have hD : Hid (decide (xs = ys) = true) := same_end hxl.out hyl.out (by omega) he'.out
        go_wp2
        go_ret
        exact ⟨ret_bool hD.out.symm, dbel _ _⟩
  · have hne : xs ≠ ys := fun e => hlen (by rw [← hxl.out, ← hyl.out, e])
    have hD : Hid (decide (xs = ys) = false) := by simp [Hid, hne]
    clear ha hb hne
    go_enter Try.func12, Try.ntmps12
    go_wp2
    go_ret
    exact ⟨ret_bool hD.out.symm, Below.refl _ _⟩
def bytes40 : List Int := [83, 87, 77, 49, 1, 1, 2, 255, 1, 254, 1, 1, 1, 0, 0, 1, 0, 0, 0, 0, 0, 0, 0, 0, 2, 6, 3, 1, 2, 1, 0, 0, 0, 0, 0, 255, 1, 254, 1, 1]
def plZ (_ : Nat) : List Int := [3, -2]
def plB (_ : Nat) : List Int := [1]
def plM : ModD := dMod 1 1 2 (-128) 127 1 1 (plO 0) plZ plB
theorem pl_lens : Lens 1 (plO 0) plZ plB := by
  intro i hi
  obtain rfl : i = 0 := by omega
  refine ⟨rfl, rfl, fun x hx => ?_, fun x hx => ?_⟩
  · simp only [plZ, List.mem_cons, List.not_mem_nil, or_false] at hx; omega
  · simp only [plB, List.mem_cons, List.not_mem_nil, or_false] at hx; omega
theorem put_0 : putR 0 = [0] := putR_lt (by omega)
theorem put_1 : putR 1 = [1] := putR_lt (by omega)
theorem put_2 : putR 2 = [2] := putR_lt (by omega)
theorem put_3 : putR 3 = [3] := putR_lt (by omega)
theorem put_6 : putR 6 = [6] := putR_lt (by omega)
theorem put_254 : putR 254 = [254, 1] := by rw [putR_ge (by omega), show (254 : Nat) / 128 = 1 from rfl, put_1]; rfl
theorem put_255 : putR 255 = [255, 1] := by rw [putR_ge (by omega), show (255 : Nat) / 128 = 1 from rfl, put_1]; rfl
theorem u64_0 : u64 0 = 0 := u64_of (by omega) (by omega)
theorem u64_1 : u64 1 = 1 := u64_of (by omega) (by omega)
theorem u64_2 : u64 2 = 2 := u64_of (by omega) (by omega)
theorem fo_m128 : foldR (-128) = 255 := by decide
theorem fo_127 : foldR 127 = 254 := by decide
theorem fo_3 : foldR 3 = 6 := by decide
theorem fo_m2 : foldR (-2) = 3 := by decide
theorem fo_1 : foldR 1 = 2 := by decide
theorem fo_0 : foldR 0 = 0 := by decide
theorem pl_bytes : eAll plM = bytes40 := by
  have hO : dOp (plO 0 0) (plZ 0) (plB 0) = ⟨[1, 0, 0, 1, 0, 0, 0, 0, 0, 0, 0, 0], [3, -2], [1], [1, 0, 0, 0], [0, 0, -128, 127]⟩ := rfl
  unfold eAll eMod plM dMod
  rw [dOps_len]
  have hD : dOps (plO 0) plZ plB 1 = [⟨[1, 0, 0, 1, 0, 0, 0, 0, 0, 0, 0, 0], [3, -2], [1], [1, 0, 0, 0], [0, 0, -128, 127]⟩] := rfl
  simp only [hD, eOps, List.flatMap_cons, List.flatMap_nil, eOp, eU, eS, u64_0, u64_1, u64_2, fo_m128, fo_127, fo_3, fo_m2, fo_1, fo_0, put_0, put_1, put_2, put_3, put_6, put_254, put_255, List.length_cons, List.length_nil, Nat.zero_add, List.append_nil, List.cons_append, List.nil_append, head4, Nat.reduceAdd]
  rfl
theorem irow_blk {k : IntKind} {w : World} {b : Nat} {T : TypeId} (zs : List Int) (h : w.heap[b]? = some (.cells (zs.map (Value.int k)).toArray T (0, 0))) (hw : ∀ z ∈ zs, (Lit.int k z).wf = true) (hm : zs.length ≤ 1000) : IRow k w (some ⟨b, 0, none⟩) zs.length zs.length zs := by
  refine ⟨rfl, Nat.le_refl _, by unfold maxLen; omega, hw, fun h => (by cases h), fun x hx i hi => ?_⟩
  cases hx
  rw [Addr.add_lit, Nat.zero_add, (cells_at h).1]
  simp [List.getD, hi]
theorem row_blk {w : World} {b : Nat} {T : TypeId} (zs : List Int) (h : w.heap[b]? = some (.cells (zs.map (Value.int .u8)).toArray T (0, 0))) (hw : Byt zs) (hm : zs.length ≤ 1000) : Wr.Row w (some ⟨b, 0, none⟩) zs.length zs.length zs := by
  refine ⟨rfl, Nat.le_refl _, by unfold maxLen; omega, hw, fun h => (by cases h), fun x hx i hi => ?_⟩
  cases hx
  rw [Addr.add_lit, Nat.zero_add, (cells_at h).1]
  simp [List.getD, hi]
theorem pl_lrow {w : World} {g p q : Nat} (h : w.heap[g]? = some (.cells #[.int .i64 1, .int .i64 0, .int .i64 0, .int .i64 1, .int .i64 0, .int .i64 0, .int .i64 0, .int .i64 0, .int .i64 0, .int .i64 0, .int .i64 0, .int .i64 0, .slice (some ⟨p, 0, none⟩) 2 2, .slice (some ⟨q, 0, none⟩) 1 1, .int .i64 1, .int .i64 0, .int .i64 0, .int .i64 0, .int .i64 0, .int .i64 0, .int .i64 (-128), .int .i64 127] 50 (0, 0))) (hp : w.heap[p]? = some (.cells #[.int .i16 3, .int .i16 (-2)] 51 (0, 0))) (hq : w.heap[q]? = some (.cells #[.int .i32 1] 21 (0, 0))) : LRow w (some ⟨g, 0, none⟩) 1 1 (plO 0) plZ plB := by
  refine ⟨Nat.le_refl _, by unfold maxLen; omega, fun h => (by cases h), fun x hx i hi => ?_⟩
  cases hx
  obtain rfl : i = 0 := by omega
  refine ⟨some ⟨p, 0, none⟩, 2, 2, some ⟨q, 0, none⟩, 1, 1, rfl, rfl, fun j v hj => ?_, irow_blk [3, -2] hp (fun z hz => ?_) (by simp), irow_blk [1] hq (fun z hz => ?_) (by simp), by omega, by omega⟩
  · rw [Nat.zero_mul, Addr.add_lit, Addr.add_lit, (cells_at h).1, ← hj]
    simp [opl, plO]
  · simp only [List.mem_cons, List.not_mem_nil, or_false] at hz
    rcases hz with rfl | rfl <;> rfl
  · simp only [List.mem_cons, List.not_mem_nil, or_false] at hz
    subst hz; rfl
theorem b40_byt : Byt bytes40 := by
  intro z hz
  simp only [bytes40, List.mem_cons, List.not_mem_nil, or_false] at hz
  omega
set_option maxHeartbeats 2000000 in
set_option maxRecDepth 100000 in
theorem plain9_any (W : World) :
    Calls Try.prog 19 #[] W fun e w' => ∃ g b : Nat, e = .returned (.tuple #[.agg #[.int .i64 1, .int .i64 1, .int .i64 2, .int .i64 (-128), .int .i64 127, .slice (some ⟨g, 0, none⟩) 1 1, .int .i64 1], .slice (some ⟨b, 0, none⟩) 40 40]) ∧ LRow w' (some ⟨g, 0, none⟩) 1 1 (plO 0) plZ plB ∧ Wr.Row w' (some ⟨b, 0, none⟩) 40 40 bytes40 ∧ Below W.heap.size W w' := by
  go_enter Try.func19, Try.ntmps19
  go_wp2
  have s1 := (((St.start W).new (c := #[.int .i64 1, .int .i64 1, .int .i64 2, .int .i64 (-128), .int .i64 127, .slice (some ⟨W.heap.size + 1 + 1 + 1, 0, none⟩) 1 1, .int .i64 1]) (t := 26)).new (c := #[.int .i16 3, .int .i16 (-2)]) (t := 51)).new (c := #[.int .i32 1]) (t := 21)
  simp only [World.size_alloc] at s1
  have s2 := ((s1.new (c := #[.int .i64 1, .int .i64 0, .int .i64 0, .int .i64 1, .int .i64 0, .int .i64 0, .int .i64 0, .int .i64 0, .int .i64 0, .int .i64 0, .int .i64 0, .int .i64 0, .slice (some ⟨W.heap.size + 1, 0, none⟩) 2 2, .slice (some ⟨W.heap.size + 1 + 1, 0, none⟩) 1 1, .int .i64 1, .int .i64 0, .int .i64 0, .int .i64 0, .int .i64 0, .int .i64 0, .int .i64 (-128), .int .i64 127]) (t := 50)).new (c := #[.int .i64 1, .int .i64 1, .int .i64 2, .int .i64 (-128), .int .i64 127, .slice (some ⟨W.heap.size + 1 + 1 + 1, 0, none⟩) 1 1, .int .i64 1]) (t := 26)).new (c := #[.int .u8 83, .int .u8 87, .int .u8 77, .int .u8 49, .int .u8 1, .int .u8 1, .int .u8 2, .int .u8 255, .int .u8 1, .int .u8 254, .int .u8 1, .int .u8 1, .int .u8 1, .int .u8 0, .int .u8 0, .int .u8 1, .int .u8 0, .int .u8 0, .int .u8 0, .int .u8 0, .int .u8 0, .int .u8 0, .int .u8 0, .int .u8 0, .int .u8 2, .int .u8 6, .int .u8 3, .int .u8 1, .int .u8 2, .int .u8 1, .int .u8 0, .int .u8 0, .int .u8 0, .int .u8 0, .int .u8 0, .int .u8 255, .int .u8 1, .int .u8 254, .int .u8 1, .int .u8 1]) (t := 5)
  simp only [World.size_alloc] at s2
  refine bodyPost_ret (v := .tuple #[.agg #[.int .i64 1, .int .i64 1, .int .i64 2, .int .i64 (-128), .int .i64 127, .slice (some ⟨W.heap.size + 1 + 1 + 1, 0, none⟩) 1 1, .int .i64 1], .slice (some ⟨W.heap.size + 1 + 1 + 1 + 1 + 1, 0, none⟩) 40 40]) (by simp [results, Try.results19, go_sem]) rfl ⟨W.heap.size + 1 + 1 + 1, W.heap.size + 1 + 1 + 1 + 1 + 1, rfl, pl_lrow (p := W.heap.size + 1) (q := W.heap.size + 1 + 1) s2.h3 s2.tail.h4 s2.h4, row_blk bytes40 s2.h1 b40_byt (by simp [bytes40]), s2.below⟩
end Go.Proofs.Ythagdpiocmcbmaa

/- fixed of law09. -/
namespace Go.Proofs.Ythagdpiocmcbmaa
open Wr
open Go.ChangeShapes Go.WideShapes Go.ChangeAt Go.RowKit
set_option linter.unusedVariables false
theorem Own.rw {w : World} {base : Nat} {v : Value} {zs : List Int} (h : Wr.Own w base v zs) (hv : v ≠ .slice none 0 0) : ∃ d n c, v = .slice (some d) n c ∧ Wr.Row w (some d) n c zs ∧ n = zs.length := by
  obtain ⟨d, c, e, r⟩ := own_get h hv
  exact ⟨d, _, c, e, r, rfl⟩
set_option maxHeartbeats 4000000 in
set_option maxRecDepth 100000 in
theorem fixed9_any (W : World) : Calls Try.prog 11 #[] W fun e w' => e = .returned (.bool true) ∧ Below W.heap.size W w' := by
  have eq0 := eqF 0 0 0 0 0 0 true (by simp)
  go_enter Try.func11, Try.ntmps11
  go_wp2_with fail
  refine (plain9_any _).mono ?_
  rintro e w1 ⟨g, b, rfl, hL, hR, b1⟩
  have s1 := (St.start W).call b1
  have s2 := s1.new (c := #[.int .i64 1, .int .i64 1, .int .i64 2, .int .i64 (-128), .int .i64 127, .slice (some ⟨g, 0, none⟩) 1 1, .int .i64 1]) (t := 26)
  have L2 : Hid (LRow _ (some ⟨g, 0, none⟩) 1 1 (plO 0) plZ plB) := hL.below (bal w1 (.cells #[.int .i64 1, .int .i64 1, .int .i64 2, .int .i64 (-128), .int .i64 127, .slice (some ⟨g, 0, none⟩) 1 1, .int .i64 1] 26))
  have R2 : Hid (Wr.Row _ (some ⟨b, 0, none⟩) 40 40 bytes40) := hR.below (bal w1 (.cells #[.int .i64 1, .int .i64 1, .int .i64 2, .int .i64 (-128), .int .i64 127, .slice (some ⟨g, 0, none⟩) 1 1, .int .i64 1] 26))
  have S2 : Hid (St W _ _) := s2
  clear hL hR b1 s1 s2
  go_wp2_with fail
  refine (encode_ok 1 1 2 (-128) 127 1 (some ⟨g, 0, none⟩) 1 1 (plO 0) plZ plB _ L2.out 0 _ _ pl_0).mono ?_
  rintro e w3 ⟨v, rfl, own, nn, b3⟩
  rw [show dMod 1 1 2 (-128) 127 1 1 (plO 0) plZ plB = plM from rfl, pl_bytes] at own
  obtain ⟨d, n, c, rfl, R3, hn⟩ := Own.rw own nn
  have hn40 : n = 40 := hn
  clear hn
  subst hn40
  have s3 := S2.out.call b3
  have s4 := s3.new (c := #[.int .i64 0, .int .i64 0, .int .i64 0]) (t := 31)
  have B4 := bt b3 (bal w3 (.cells #[.int .i64 0, .int .i64 0, .int .i64 0] 31))
  have L4 : Hid (LRow _ (some ⟨g, 0, none⟩) 1 1 (plO 0) plZ plB) := L2.out.below B4
  have R4 : Hid (Wr.Row _ (some ⟨b, 0, none⟩) 40 40 bytes40) := R2.out.below B4
  have V4 : Hid (Wr.Row _ (some d) 40 c bytes40) := R3.below (bal w3 (.cells #[.int .i64 0, .int .i64 0, .int .i64 0] 31))
  have S4 : Hid (St W _ _) := s4
  clear own nn b3 R3 s3 s4 B4 L2 R2 S2
  go_wp2_with fail
  refine (decode_any (some ⟨b, 0, none⟩) 40 40 bytes40 _ R4.out (by omega)).mono ?_
  rintro e w5 ⟨hd, b5⟩
  obtain ⟨oa, oc, rfl, LD, -⟩ := dec_back hd pl_lens pl_0 pl_bytes.symm
  have s6 := ((S4.out.call b5).new (c := #[.int .i64 1, .int .i64 1, .int .i64 2, .int .i64 (-128), .int .i64 127, .slice oa 1 oc, .int .i64 1]) (t := 26)).new (c := #[.int .i64 0, .int .i64 0, .int .i64 0]) (t := 31)
  simp only [World.size_alloc] at s6
  have B6 := bt b5 (bt (bal w5 (.cells #[.int .i64 1, .int .i64 1, .int .i64 2, .int .i64 (-128), .int .i64 127, .slice oa 1 oc, .int .i64 1] 26)) (bal _ (.cells #[.int .i64 0, .int .i64 0, .int .i64 0] 31)))
  have L6 : Hid (LRow _ (some ⟨g, 0, none⟩) 1 1 (plO 0) plZ plB) := L4.out.below B6
  have D6 : Hid (LRow _ oa 1 oc (plO 0) plZ plB) := LD.below (bt (bal w5 (.cells #[.int .i64 1, .int .i64 1, .int .i64 2, .int .i64 (-128), .int .i64 127, .slice oa 1 oc, .int .i64 1] 26)) (bal _ (.cells #[.int .i64 0, .int .i64 0, .int .i64 0] 31)))
  have R6 : Hid (Wr.Row _ (some ⟨b, 0, none⟩) 40 40 bytes40) := R4.out.below B6
  have V6 : Hid (Wr.Row _ (some d) 40 c bytes40) := V4.out.below B6
  have S6 : Hid (St W _ _) := s6
  obtain ⟨-, -, -, -, -, -, c3, f3, z3, c4, f4, z4, -⟩ := s6.rules
  clear hd b5 LD B6 s6 L4 R4 V4 S4
  go_wp2_with fail
  refine (sameb_any (some d) (some ⟨b, 0, none⟩) 40 c 40 40 bytes40 bytes40 _ V6.out R6.out).mono ?_
  rintro e w7 ⟨rfl, b7⟩
  rw [show decide (bytes40 = bytes40) = true from decide_eq_true rfl]
  have s7 := S6.out.call b7
  have L7 : Hid (LRow w7 (some ⟨g, 0, none⟩) 1 1 (plO 0) plZ plB) := L6.out.below b7
  have D7 : Hid (LRow w7 oa 1 oc (plO 0) plZ plB) := D6.out.below b7
  have S7 : Hid (St W w7 _) := s7
  clear c3 f3 z3 c4 f4 z4
  obtain ⟨c1, f1, z1, c2, f2, z2, c3, f3, z3, c4, f4, z4, -⟩ := s7.rules
  clear b7 s7 L6 D6 R6 V6 S6
  go_wp2_with fail
  refine (samem_any 1 1 2 (-128) 127 1 (some ⟨g, 0, none⟩) oa 1 1 oc (plO 0) plZ plB _ L7.out D7.out).mono ?_
  rintro e w8 ⟨rfl, b8⟩
  have hb : Hid (Below W.heap.size W w8) := (S7.out.call b8).below
  clear b8 c1 c2 c3 c4
  go_wp2
  go_ret
  exact ⟨rfl, hb.out⟩
end Go.Proofs.Ythagdpiocmcbmaa
