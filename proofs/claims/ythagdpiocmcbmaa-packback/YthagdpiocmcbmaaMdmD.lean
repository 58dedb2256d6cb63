/- The document's SameOp and Same of layer 8, of like ops and models: what each returns. -/
import Derived.Test.YthagdpiocmcbmaaMdmA
namespace Go.Proofs.Ythagdpiocmcbmaa
open Go.ChangeShapes Go.WideShapes Go.ChangeAt Go.RowKit
set_option linter.unusedVariables false
set_option maxHeartbeats 4000000 in
set_option maxRecDepth 100000 in
theorem sameop_any (o : Nat → Int) (z b : List Int) (wa ba xa ya : Option Addr) (lw cw lb cb dw db : Nat) (W : World) (h1 : IRow .i16 W wa lw cw z) (h2 : IRow .i16 W xa lw dw z) (h3 : IRow .i32 W ba lb cb b) (h4 : IRow .i32 W ya lb db b) :
    Calls Try.prog 20 #[.agg #[.int .i64 (o 0), .int .i64 (o 1), .int .i64 (o 2), .int .i64 (o 3), .int .i64 (o 4), .int .i64 (o 5), .int .i64 (o 6), .int .i64 (o 7), .int .i64 (o 8), .int .i64 (o 9), .int .i64 (o 10), .int .i64 (o 11), .slice wa lw cw, .slice ba lb cb, .int .i64 (o 14), .int .i64 (o 15), .int .i64 (o 16), .int .i64 (o 17), .int .i64 (o 18), .int .i64 (o 19), .int .i64 (o 20), .int .i64 (o 21)], .agg #[.int .i64 (o 0), .int .i64 (o 1), .int .i64 (o 2), .int .i64 (o 3), .int .i64 (o 4), .int .i64 (o 5), .int .i64 (o 6), .int .i64 (o 7), .int .i64 (o 8), .int .i64 (o 9), .int .i64 (o 10), .int .i64 (o 11), .slice xa lw dw, .slice ya lb db, .int .i64 (o 14), .int .i64 (o 15), .int .i64 (o 16), .int .i64 (o 17), .int .i64 (o 18), .int .i64 (o 19), .int .i64 (o 20), .int .i64 (o 21)]] W fun e w' => e = .returned (.bool true) ∧ Below W.heap.size W w' := by
  have n8 := ne8 44 rfl (o 4) (o 5) (o 6) (o 7) (o 8) (o 9) (o 10) (o 11) (o 4) (o 5) (o 6) (o 7) (o 8) (o 9) (o 10) (o 11) true (by simp)
  have n2 := ne2 48 rfl (o 14) (o 15) (o 14) (o 15) true (by simp)
  have n2' := ne2 48 rfl (o 16) (o 17) (o 16) (o 17) true (by simp)
  have lm1 := h1.2.1
  have lm2 := h1.2.2.1
  have lm3 := h3.2.1
  have lm4 := h3.2.2.1
  have lm5 := h2.2.1
  have lm6 := h2.2.2.1
  have lm7 := h4.2.1
  have lm8 := h4.2.2.1
  unfold maxLen at lm2 lm4 lm6 lm8
  have H1 : Hid (IRow .i16 W wa lw cw z) := h1
  have H2 : Hid (IRow .i16 W xa lw dw z) := h2
  have H3 : Hid (IRow .i32 W ba lb cb b) := h3
  have H4 : Hid (IRow .i32 W ya lb db b) := h4
  have s1 := ((St.start W).new (c := #[.int .i64 (o 0), .int .i64 (o 1), .int .i64 (o 2), .int .i64 (o 3), .int .i64 (o 4), .int .i64 (o 5), .int .i64 (o 6), .int .i64 (o 7), .int .i64 (o 8), .int .i64 (o 9), .int .i64 (o 10), .int .i64 (o 11), .slice wa lw cw, .slice ba lb cb, .int .i64 (o 14), .int .i64 (o 15), .int .i64 (o 16), .int .i64 (o 17), .int .i64 (o 18), .int .i64 (o 19), .int .i64 (o 20), .int .i64 (o 21)]) (t := 50)).new (c := #[.int .i64 (o 0), .int .i64 (o 1), .int .i64 (o 2), .int .i64 (o 3), .int .i64 (o 4), .int .i64 (o 5), .int .i64 (o 6), .int .i64 (o 7), .int .i64 (o 8), .int .i64 (o 9), .int .i64 (o 10), .int .i64 (o 11), .slice xa lw dw, .slice ya lb db, .int .i64 (o 14), .int .i64 (o 15), .int .i64 (o 16), .int .i64 (o 17), .int .i64 (o 18), .int .i64 (o 19), .int .i64 (o 20), .int .i64 (o 21)]) (t := 50)
  simp only [World.size_alloc] at s1
  clear h1 h2 h3 h4
  go_enter Try.func20, Try.ntmps20
  go_upto_region 1 with fail
  obtain ⟨wv, hwv⟩ : ∃ wv, (W.alloc (.cells #[.int .i64 (o 0), .int .i64 (o 1), .int .i64 (o 2), .int .i64 (o 3), .int .i64 (o 4), .int .i64 (o 5), .int .i64 (o 6), .int .i64 (o 7), .int .i64 (o 8), .int .i64 (o 9), .int .i64 (o 10), .int .i64 (o 11), .slice wa lw cw, .slice ba lb cb, .int .i64 (o 14), .int .i64 (o 15), .int .i64 (o 16), .int .i64 (o 17), .int .i64 (o 18), .int .i64 (o 19), .int .i64 (o 20), .int .i64 (o 21)] 50)).alloc (.cells #[.int .i64 (o 0), .int .i64 (o 1), .int .i64 (o 2), .int .i64 (o 3), .int .i64 (o 4), .int .i64 (o 5), .int .i64 (o 6), .int .i64 (o 7), .int .i64 (o 8), .int .i64 (o 9), .int .i64 (o 10), .int .i64 (o 11), .slice xa lw dw, .slice ya lb db, .int .i64 (o 14), .int .i64 (o 15), .int .i64 (o 16), .int .i64 (o 17), .int .i64 (o 18), .int .i64 (o 19), .int .i64 (o 20), .int .i64 (o 21)] 50) = wv := ⟨_, rfl⟩
  rw [hwv] at s1 ⊢
  clear hwv
  obtain ⟨c1, f1, z1, c2, f2, z2, -⟩ := s1.rules
  simp only [List.append]
  go_upto_region 3 with fail
  have r1 : Hid (IRow .i16 wv wa lw cw z) := H1.out.below s1.below
  have r2 : Hid (IRow .i16 wv xa lw dw z) := H2.out.below s1.below
  have r3 : Hid (IRow .i32 wv ba lb cb b) := H3.out.below s1.below
  have r4 : Hid (IRow .i32 wv ya lb db b) := H4.out.below s1.below
  have hbel : Hid (Below W.heap.size W wv) := s1.below
  clear H1 H2 H3 H4 s1 n8 n2 n2'
  go_wp2
  go_loopw [101] (fun i wr => ∃ k n : Nat, k ≤ lw ∧ i = .int .i64 k ∧ wr = wv.drewN n) (fun i _ => lw - (intOf i).toNat)
  case atStart => exact ⟨0, 0, Nat.zero_le _, rfl, rfl⟩
  case round =>
    obtain ⟨k, n, hk, rfl, rfl⟩ := hrel
    by_cases hlt : k < lw
    · obtain ⟨x, u, rfl, hu, -, hz1, -⟩ := r1.out.at hlt
      obtain ⟨y, u', rfl, hu', -, hz2, -⟩ := r2.out.at hlt
      rw [hz1] at hz2
      cases hz2
      clear hz1
      go_wp2
      go_quiet (fail)
      go_wp2
      go_roundw
      case rel => exact ⟨k + 1, _, by omega, by go_num, rfl⟩
      case measure => simp [intOf]; omega
    · obtain rfl : k = lw := by omega
      go_wp2
      go_loopw [119] (fun i wr => ∃ k n : Nat, k ≤ lb ∧ i = .int .i64 k ∧ wr = wv.drewN n) (fun i _ => lb - (intOf i).toNat)
      case atStart => exact ⟨0, n, Nat.zero_le _, rfl, rfl⟩
      case round =>
        obtain ⟨j, n', hk', rfl, rfl⟩ := hrel
        by_cases hlt' : j < lb
        · obtain ⟨x, u, rfl, hu, -, hz1, -⟩ := r3.out.at hlt'
          obtain ⟨y, u', rfl, hu', -, hz2, -⟩ := r4.out.at hlt'
          rw [hz1] at hz2
          cases hz2
          clear hz1
          go_wp2
          go_quiet (fail)
          go_wp2
          go_roundw
          case rel => exact ⟨j + 1, _, by omega, by go_num, rfl⟩
          case measure => simp [intOf]; omega
        · go_wp2
          go_ret
          exact ⟨rfl, bt hbel.out (dbel _ _)⟩
/-! ### A load of a whole struct out of a slice, in a region that draws its order -/
theorem quiet_la {P : Program} {C : World → Prop} {a a' : Act} {o : Oper} {K : Act → Prop} (ty : TypeId) (x : Operand) (h : o.op = .load ty x) (y : Addr) (hx : a.eval x = .pointer (some y)) (cs : List Value) (d : TypeDesc)
    (hC : ∀ w, C w → ∀ j v, cs[j]? = some v → w.cell? (y.add j) = some v) (hu : P.underlying ty = some d) (hd : (match d with | .struct _ | .array _ _ => true | _ => false) = true) (hi : (P.info? ty).map (·.size) = some cs.length) (ha : a.put o.dst (.agg cs.toArray) = a') (hk : K a') : o.quiet P a C K := by
  refine ⟨.agg cs.toArray, fun w hw => ?_, by rw [ha]; exact hk⟩
  have hl : (loadCells y cs.length).run P w = .ok cs.toArray w := run_loadCells_list (P := P) w y cs (hC w hw)
  have hv : (loadVar ty y).run P w = .ok (.agg cs.toArray) w := by
    cases hq : P.info? ty with
    | none => simp [hq] at hi
    | some i =>
      have hs : i.size = cs.length := by simpa [hq] using hi
      have hagg : (isAgg ty).run P w = .ok true w := by
        unfold isAgg
        rw [Sem.run_bind, run_underlying hu w]
        cases d <;> simp_all
      simp [loadVar, Sem.run_bind, hagg, sizeOf, typeInfo, hq, hs, hl]
  unfold Oper.quietAt execOp
  simp only [h, hx, Instr.loadAt, Instr.sureAddr, Sem.run_bind, Sem.run_pure, Result.andThen_ok, hv]
  exact ⟨rfl, rfl⟩
set_option maxHeartbeats 4000000 in
set_option maxRecDepth 100000 in
theorem samem_any (h w c lo hi ot : Int) (oa oa' : Option Addr) (on oc oc' : Nat) (O : Nat → Nat → Int) (Z B : Nat → List Int) (W : World) (hL : LRow W oa on oc O Z B) (hL' : LRow W oa' on oc' O Z B) :
    Calls Try.prog 13 #[.agg #[.int .i64 h, .int .i64 w, .int .i64 c, .int .i64 lo, .int .i64 hi, .slice oa on oc, .int .i64 ot], .agg #[.int .i64 h, .int .i64 w, .int .i64 c, .int .i64 lo, .int .i64 hi, .slice oa' on oc', .int .i64 ot]] W fun e w' => e = .returned (.bool true) ∧ Below W.heap.size W w' := by
  have n3 := ne3 23 rfl h w c h w c true (by simp)
  have l1 := hL.1
  have l2 := hL.2.1
  have l3 := hL'.1
  have l4 := hL'.2.1
  unfold maxLen at l2 l4
  have H1 : Hid (LRow W oa on oc O Z B) := hL
  have H2 : Hid (LRow W oa' on oc' O Z B) := hL'
  have s1 := ((St.start W).new (c := #[.int .i64 h, .int .i64 w, .int .i64 c, .int .i64 lo, .int .i64 hi, .slice oa on oc, .int .i64 ot]) (t := 26)).new (c := #[.int .i64 h, .int .i64 w, .int .i64 c, .int .i64 lo, .int .i64 hi, .slice oa' on oc', .int .i64 ot]) (t := 26)
  simp only [World.size_alloc] at s1
  have S1 : Hid (St W _ ([(W.heap.size + 1, #[.int .i64 h, .int .i64 w, .int .i64 c, .int .i64 lo, .int .i64 hi, .slice oa' on oc', .int .i64 ot], 26), (W.heap.size, #[.int .i64 h, .int .i64 w, .int .i64 c, .int .i64 lo, .int .i64 hi, .slice oa on oc, .int .i64 ot], 26)])) := s1
  clear hL hL' s1
  go_enter Try.func13, Try.ntmps13
  go_wp2
  go_loopw [44] (fun i wr => ∃ k : Nat, k ≤ on ∧ i = .int .i64 k ∧ St W wr ([(W.heap.size + 1, #[.int .i64 h, .int .i64 w, .int .i64 c, .int .i64 lo, .int .i64 hi, .slice oa' on oc', .int .i64 ot], 26), (W.heap.size, #[.int .i64 h, .int .i64 w, .int .i64 c, .int .i64 lo, .int .i64 hi, .slice oa on oc, .int .i64 ot], 26)])) (fun i _ => on - (intOf i).toNat)
  case atStart => exact ⟨0, Nat.zero_le _, rfl, S1.out⟩
  case round =>
    obtain ⟨i, hi0, rfl, sr⟩ := hrel
    by_cases hlt : i < on
    rotate_left
    · have hbel : Hid (Below W.heap.size W wr) := sr.below
      clear sr S1
      go_wp2
      go_ret
      exact ⟨rfl, hbel.out⟩
    · obtain ⟨x, rfl, wa, lw, cw, ba, lb, cb, e12, e13, hcx, hz1, hb1, -, -⟩ := H1.out.at hlt
      obtain ⟨y, rfl, xa, lw', dw, ya, lb', db, d12, d13, hcy, hz2, hb2, -, -⟩ := H2.out.at hlt
      obtain rfl : lw' = lw := by rw [e12] at d12; omega
      obtain rfl : lb' = lb := by rw [e13] at d13; omega
      have hSO : Hid (∀ n : Wd W ([(W.heap.size + 1, #[.int .i64 h, .int .i64 w, .int .i64 c, .int .i64 lo, .int .i64 hi, .slice (some y) on oc', .int .i64 ot], 26), (W.heap.size, #[.int .i64 h, .int .i64 w, .int .i64 c, .int .i64 lo, .int .i64 hi, .slice (some x) on oc, .int .i64 ot], 26)]), Calls Try.prog 20 #[.agg #[.int .i64 (O i 0), .int .i64 (O i 1), .int .i64 (O i 2), .int .i64 (O i 3), .int .i64 (O i 4), .int .i64 (O i 5), .int .i64 (O i 6), .int .i64 (O i 7), .int .i64 (O i 8), .int .i64 (O i 9), .int .i64 (O i 10), .int .i64 (O i 11), .slice wa lw' cw, .slice ba lb' cb, .int .i64 (O i 14), .int .i64 (O i 15), .int .i64 (O i 16), .int .i64 (O i 17), .int .i64 (O i 18), .int .i64 (O i 19), .int .i64 (O i 20), .int .i64 (O i 21)], .agg #[.int .i64 (O i 0), .int .i64 (O i 1), .int .i64 (O i 2), .int .i64 (O i 3), .int .i64 (O i 4), .int .i64 (O i 5), .int .i64 (O i 6), .int .i64 (O i 7), .int .i64 (O i 8), .int .i64 (O i 9), .int .i64 (O i 10), .int .i64 (O i 11), .slice xa lw' dw, .slice ya lb' db, .int .i64 (O i 14), .int .i64 (O i 15), .int .i64 (O i 16), .int .i64 (O i 17), .int .i64 (O i 18), .int .i64 (O i 19), .int .i64 (O i 20), .int .i64 (O i 21)]] n.w fun e w' => e = .returned (.bool true) ∧ Below n.w.heap.size n.w w') := fun n => sameop_any (O i) (Z i) (B i) wa ba xa ya lw' cw lb' cb dw db n.w (hz1.below n.h.below) (hz2.below n.h.below) (hb1.below n.h.below) (hb2.below n.h.below)
      have hCx : Hid (∀ wz, (∃ n : Wd W ([(W.heap.size + 1, #[.int .i64 h, .int .i64 w, .int .i64 c, .int .i64 lo, .int .i64 hi, .slice (some y) on oc', .int .i64 ot], 26), (W.heap.size, #[.int .i64 h, .int .i64 w, .int .i64 c, .int .i64 lo, .int .i64 hi, .slice (some x) on oc, .int .i64 ot], 26)]), wz = n.w) → ∀ j v, [.int .i64 (O i 0), .int .i64 (O i 1), .int .i64 (O i 2), .int .i64 (O i 3), .int .i64 (O i 4), .int .i64 (O i 5), .int .i64 (O i 6), .int .i64 (O i 7), .int .i64 (O i 8), .int .i64 (O i 9), .int .i64 (O i 10), .int .i64 (O i 11), .slice wa lw' cw, .slice ba lb' cb, .int .i64 (O i 14), .int .i64 (O i 15), .int .i64 (O i 16), .int .i64 (O i 17), .int .i64 (O i 18), .int .i64 (O i 19), .int .i64 (O i 20), .int .i64 (O i 21)][j]? = some v → wz.cell? ((x.add (i * 22)).add j) = some v) := fun wz hw j v hj => by
        obtain ⟨n, rfl⟩ := hw
        have := hcx j v hj
        exact (n.h.below.cell (World.block_lt_of_cell? W _ this)).trans this
      have hCy : Hid (∀ wz, (∃ n : Wd W ([(W.heap.size + 1, #[.int .i64 h, .int .i64 w, .int .i64 c, .int .i64 lo, .int .i64 hi, .slice (some y) on oc', .int .i64 ot], 26), (W.heap.size, #[.int .i64 h, .int .i64 w, .int .i64 c, .int .i64 lo, .int .i64 hi, .slice (some x) on oc, .int .i64 ot], 26)]), wz = n.w) → ∀ j v, [.int .i64 (O i 0), .int .i64 (O i 1), .int .i64 (O i 2), .int .i64 (O i 3), .int .i64 (O i 4), .int .i64 (O i 5), .int .i64 (O i 6), .int .i64 (O i 7), .int .i64 (O i 8), .int .i64 (O i 9), .int .i64 (O i 10), .int .i64 (O i 11), .slice xa lw' dw, .slice ya lb' db, .int .i64 (O i 14), .int .i64 (O i 15), .int .i64 (O i 16), .int .i64 (O i 17), .int .i64 (O i 18), .int .i64 (O i 19), .int .i64 (O i 20), .int .i64 (O i 21)][j]? = some v → wz.cell? ((y.add (i * 22)).add j) = some v) := fun wz hw j v hj => by
        obtain ⟨n, rfl⟩ := hw
        have := hcy j v hj
        exact (n.h.below.cell (World.block_lt_of_cell? W _ this)).trans this
      clear hcx hcy hz1 hz2 hb1 hb2 e12 e13 d12 d13 S1
      go_upto_region 6 with fail
      obtain ⟨q1, y1, q2, y2, -⟩ := rulesQ_st sr
      have hne := Nonempty.intro (Wd.mk _ sr)
      refine region_held sr (by kernel_rfl) (by kernel_rfl) ?_
      go_big_quiet_step (fail)
      go_big_quiet_step (fail)
      go_big_quiet_step (fail)
      go_big_quiet_step (fail)
      go_big_quiet_want
      refine quiet_la 50 (.tmp 50) rfl _ rfl [.int .i64 (O i 0), .int .i64 (O i 1), .int .i64 (O i 2), .int .i64 (O i 3), .int .i64 (O i 4), .int .i64 (O i 5), .int .i64 (O i 6), .int .i64 (O i 7), .int .i64 (O i 8), .int .i64 (O i 9), .int .i64 (O i 10), .int .i64 (O i 11), .slice wa lw' cw, .slice ba lb' cb, .int .i64 (O i 14), .int .i64 (O i 15), .int .i64 (O i 16), .int .i64 (O i 17), .int .i64 (O i 18), .int .i64 (O i 19), .int .i64 (O i 20), .int .i64 (O i 21)] _ hCx.out Try.underlying50 rfl (by kernel_rfl) rfl ?_
      go_simp
      go_big_quiet_on
      go_big_quiet_step (fail)
      go_big_quiet_step (fail)
      go_big_quiet_step (fail)
      go_big_quiet_step (fail)
      go_big_quiet_want
      refine quiet_la 50 (.tmp 55) rfl _ rfl [.int .i64 (O i 0), .int .i64 (O i 1), .int .i64 (O i 2), .int .i64 (O i 3), .int .i64 (O i 4), .int .i64 (O i 5), .int .i64 (O i 6), .int .i64 (O i 7), .int .i64 (O i 8), .int .i64 (O i 9), .int .i64 (O i 10), .int .i64 (O i 11), .slice xa lw' dw, .slice ya lb' db, .int .i64 (O i 14), .int .i64 (O i 15), .int .i64 (O i 16), .int .i64 (O i 17), .int .i64 (O i 18), .int .i64 (O i 19), .int .i64 (O i 20), .int .i64 (O i 21)] _ hCy.out Try.underlying50 rfl (by kernel_rfl) rfl ?_
      go_simp
      go_big_quiet_on
      repeat (go_big_quiet_step ((go_at_call 20; exact held_of (hSO.out _))))
      refine wpQuiet_nil ?_
      intro _ hw'
      obtain ⟨nq, rfl⟩ := hw'
      obtain ⟨w5, hw5⟩ : ∃ w5, nq.w = w5 := ⟨_, rfl⟩
      have s5 : Hid (St W w5 _) := hw5 ▸ nq.h
      rw [hw5]
      clear q1 y1 q2 y2 hne hw5 sr hSO hCx hCy
      clear nq
      go_wp2
      go_round
      case rel => exact ⟨i + 1, by omega, by go_num, s5.out⟩
      case measure => simp [intOf]; omega
end Go.Proofs.Ythagdpiocmcbmaa
