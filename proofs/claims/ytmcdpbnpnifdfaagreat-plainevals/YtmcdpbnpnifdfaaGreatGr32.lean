/- The document's SameOp and Same of layer 8, of like ops and models: what each returns. The walk of PlainEvals. -/
import Derived.Test.YtmcdpbnpnifdfaaGreatGr21
import Derived.Test.YtmcdpbnpnifdfaaGreatGr27
import Derived.Test.YtmcdpbnpnifdfaaGreatGr31
/- The document's SameOp and Same of layer 8, of like ops and models: what each returns. -/
namespace Go.Proofs.YtmcdpbnpnifdfaaGreat
open Go.ChangeShapes Go.WideShapes Go.ChangeAt Go.RowKit
set_option linter.unusedVariables false
set_option maxHeartbeats 4000000 in
set_option maxRecDepth 100000 in
theorem sameop_any (o : Nat → Int) (z b : List Int) (wa ba xa ya : Option Addr) (lw cw lb cb dw db : Nat) (W : World) (h1 : IRow .i16 W wa lw cw z) (h2 : IRow .i16 W xa lw dw z) (h3 : IRow .i32 W ba lb cb b) (h4 : IRow .i32 W ya lb db b) :
    Calls Tryz.prog 21 #[.agg #[.int .i64 (o 0), .int .i64 (o 1), .int .i64 (o 2), .int .i64 (o 3), .int .i64 (o 4), .int .i64 (o 5), .int .i64 (o 6), .int .i64 (o 7), .int .i64 (o 8), .int .i64 (o 9), .int .i64 (o 10), .int .i64 (o 11), .slice wa lw cw, .slice ba lb cb, .int .i64 (o 14), .int .i64 (o 15), .int .i64 (o 16), .int .i64 (o 17), .int .i64 (o 18), .int .i64 (o 19), .int .i64 (o 20), .int .i64 (o 21)], .agg #[.int .i64 (o 0), .int .i64 (o 1), .int .i64 (o 2), .int .i64 (o 3), .int .i64 (o 4), .int .i64 (o 5), .int .i64 (o 6), .int .i64 (o 7), .int .i64 (o 8), .int .i64 (o 9), .int .i64 (o 10), .int .i64 (o 11), .slice xa lw dw, .slice ya lb db, .int .i64 (o 14), .int .i64 (o 15), .int .i64 (o 16), .int .i64 (o 17), .int .i64 (o 18), .int .i64 (o 19), .int .i64 (o 20), .int .i64 (o 21)]] W fun e w' => e = .returned (.bool true) ∧ Below W.heap.size W w' := by
  have n8 := ne8 43 rfl (o 4) (o 5) (o 6) (o 7) (o 8) (o 9) (o 10) (o 11) (o 4) (o 5) (o 6) (o 7) (o 8) (o 9) (o 10) (o 11) true (by simp)
  have n2 := ne2 47 rfl (o 14) (o 15) (o 14) (o 15) true (by simp)
  have n2' := ne2 47 rfl (o 16) (o 17) (o 16) (o 17) true (by simp)
  have lm1 := h1.2.1
  have lm2 := h1.2.2.1
  have lm3 := h3.2.1
  have lm4 := h3.2.2.1
  have lm5 := h2.2.1
  have lm6 := h2.2.2.1
  have lm7 := h4.2.1
  have lm8 := h4.2.2.1
  unfold maxLen at lm2 lm4 lm6 lm8
  have H1 : Hid (IRow .i16 W wa lw cw z) := h1
  have H2 : Hid (IRow .i16 W xa lw dw z) := h2
  have H3 : Hid (IRow .i32 W ba lb cb b) := h3
  have H4 : Hid (IRow .i32 W ya lb db b) := h4
  have s1 := ((St.start W).new (c := #[.int .i64 (o 0), .int .i64 (o 1), .int .i64 (o 2), .int .i64 (o 3), .int .i64 (o 4), .int .i64 (o 5), .int .i64 (o 6), .int .i64 (o 7), .int .i64 (o 8), .int .i64 (o 9), .int .i64 (o 10), .int .i64 (o 11), .slice wa lw cw, .slice ba lb cb, .int .i64 (o 14), .int .i64 (o 15), .int .i64 (o 16), .int .i64 (o 17), .int .i64 (o 18), .int .i64 (o 19), .int .i64 (o 20), .int .i64 (o 21)]) (t := 49)).new (c := #[.int .i64 (o 0), .int .i64 (o 1), .int .i64 (o 2), .int .i64 (o 3), .int .i64 (o 4), .int .i64 (o 5), .int .i64 (o 6), .int .i64 (o 7), .int .i64 (o 8), .int .i64 (o 9), .int .i64 (o 10), .int .i64 (o 11), .slice xa lw dw, .slice ya lb db, .int .i64 (o 14), .int .i64 (o 15), .int .i64 (o 16), .int .i64 (o 17), .int .i64 (o 18), .int .i64 (o 19), .int .i64 (o 20), .int .i64 (o 21)]) (t := 49)
  simp only [World.size_alloc] at s1
  clear h1 h2 h3 h4
  go_enter Tryz.func21, Tryz.ntmps21
  go_upto_region 1 with fail
  obtain ⟨wv, hwv⟩ : ∃ wv, (W.alloc (.cells #[.int .i64 (o 0), .int .i64 (o 1), .int .i64 (o 2), .int .i64 (o 3), .int .i64 (o 4), .int .i64 (o 5), .int .i64 (o 6), .int .i64 (o 7), .int .i64 (o 8), .int .i64 (o 9), .int .i64 (o 10), .int .i64 (o 11), .slice wa lw cw, .slice ba lb cb, .int .i64 (o 14), .int .i64 (o 15), .int .i64 (o 16), .int .i64 (o 17), .int .i64 (o 18), .int .i64 (o 19), .int .i64 (o 20), .int .i64 (o 21)] 49)).alloc (.cells #[.int .i64 (o 0), .int .i64 (o 1), .int .i64 (o 2), .int .i64 (o 3), .int .i64 (o 4), .int .i64 (o 5), .int .i64 (o 6), .int .i64 (o 7), .int .i64 (o 8), .int .i64 (o 9), .int .i64 (o 10), .int .i64 (o 11), .slice xa lw dw, .slice ya lb db, .int .i64 (o 14), .int .i64 (o 15), .int .i64 (o 16), .int .i64 (o 17), .int .i64 (o 18), .int .i64 (o 19), .int .i64 (o 20), .int .i64 (o 21)] 49) = wv := ⟨_, rfl⟩
  rw [hwv] at s1 ⊢
  clear hwv
  obtain ⟨c1, f1, z1, c2, f2, z2, -⟩ := s1.rules
  simp only [List.append]
  go_upto_region 3 with fail
  have r1 : Hid (IRow .i16 wv wa lw cw z) := H1.out.below s1.below
  have r2 : Hid (IRow .i16 wv xa lw dw z) := H2.out.below s1.below
  have r3 : Hid (IRow .i32 wv ba lb cb b) := H3.out.below s1.below
  have r4 : Hid (IRow .i32 wv ya lb db b) := H4.out.below s1.below
  have hbel : Hid (Below W.heap.size W wv) := s1.below
  clear H1 H2 H3 H4 s1 n8 n2 n2'
  go_wp2
  go_loopw [101] (fun i wr => ∃ k n : Nat, k ≤ lw ∧ i = .int .i64 k ∧ wr = wv.drewN n) (fun i _ => lw - (intOf i).toNat)
  case atStart => exact ⟨0, 0, Nat.zero_le _, rfl, rfl⟩
  case round =>
    obtain ⟨k, n, hk, rfl, rfl⟩ := hrel
    by_cases hlt : k < lw
    · obtain ⟨x, u, rfl, hu, -, hz1, -⟩ := r1.out.at hlt
      obtain ⟨y, u', rfl, hu', -, hz2, -⟩ := r2.out.at hlt
      rw [hz1] at hz2
      cases hz2
      clear hz1
      go_wp2
      go_quiet (fail)
      go_wp2
      go_roundw
      case rel => exact ⟨k + 1, _, by omega, by go_num, rfl⟩
      case measure => simp [intOf]; omega
    · obtain rfl : k = lw := by omega
      go_wp2
      go_loopw [119] (fun i wr => ∃ k n : Nat, k ≤ lb ∧ i = .int .i64 k ∧ wr = wv.drewN n) (fun i _ => lb - (intOf i).toNat)
      case atStart => exact ⟨0, n, Nat.zero_le _, rfl, rfl⟩
      case round =>
        obtain ⟨j, n', hk', rfl, rfl⟩ := hrel
        by_cases hlt' : j < lb
        · obtain ⟨x, u, rfl, hu, -, hz1, -⟩ := r3.out.at hlt'
          obtain ⟨y, u', rfl, hu', -, hz2, -⟩ := r4.out.at hlt'
          rw [hz1] at hz2
          cases hz2
          clear hz1
          go_wp2
          go_quiet (fail)
          go_wp2
          go_roundw
          case rel => exact ⟨j + 1, _, by omega, by go_num, rfl⟩
          case measure => simp [intOf]; omega
        · go_wp2
          go_ret
          exact ⟨rfl, bt hbel.out (dbel _ _)⟩
/-! ### A load of a whole struct out of a slice, in a region that draws its order -/
theorem quiet_la {P : Program} {C : World → Prop} {a a' : Act} {o : Oper} {K : Act → Prop} (ty : TypeId) (x : Operand) (h : o.op = .load ty x) (y : Addr) (hx : a.eval x = .pointer (some y)) (cs : List Value) (d : TypeDesc)
    (hC : ∀ w, C w → ∀ j v, cs[j]? = some v → w.cell? (y.add j) = some v) (hu : P.underlying ty = some d) (hd : (match d with | .struct _ | .array _ _ => true | _ => false) = true) (hi : (P.info? ty).map (·.size) = some cs.length) (ha : a.put o.dst (.agg cs.toArray) = a') (hk : K a') : o.quiet P a C K := by
  refine ⟨.agg cs.toArray, fun w hw => ?_, by rw [ha]; exact hk⟩
  have hl : (loadCells y cs.length).run P w = .ok cs.toArray w := run_loadCells_list (P := P) w y cs (hC w hw)
  have hv : (loadVar ty y).run P w = .ok (.agg cs.toArray) w := by
    cases hq : P.info? ty with
    | none => simp [hq] at hi
    | some i =>
      have hs : i.size = cs.length := by simpa [hq] using hi
      have hagg : (isAgg ty).run P w = .ok true w := by
        unfold isAgg
        rw [Sem.run_bind, run_underlying hu w]
        cases d <;> simp_all
      simp [loadVar, Sem.run_bind, hagg, sizeOf, typeInfo, hq, hs, hl]
  unfold Oper.quietAt execOp
  simp only [h, hx, Instr.loadAt, Instr.sureAddr, Sem.run_bind, Sem.run_pure, Result.andThen_ok, hv]
  exact ⟨rfl, rfl⟩
set_option maxHeartbeats 4000000 in
set_option maxRecDepth 100000 in
theorem samem_any (h w c lo hi ot : Int) (oa oa' : Option Addr) (on oc oc' : Nat) (O : Nat → Nat → Int) (Z B : Nat → List Int) (W : World) (hL : LRow W oa on oc O Z B) (hL' : LRow W oa' on oc' O Z B) :
    Calls Tryz.prog 10 #[.agg #[.int .i64 h, .int .i64 w, .int .i64 c, .int .i64 lo, .int .i64 hi, .slice oa on oc, .int .i64 ot], .agg #[.int .i64 h, .int .i64 w, .int .i64 c, .int .i64 lo, .int .i64 hi, .slice oa' on oc', .int .i64 ot]] W fun e w' => e = .returned (.bool true) ∧ Below W.heap.size W w' := by
  have n3 := ne3 23 rfl h w c h w c true (by simp)
  have l1 := hL.1
  have l2 := hL.2.1
  have l3 := hL'.1
  have l4 := hL'.2.1
  unfold maxLen at l2 l4
  have H1 : Hid (LRow W oa on oc O Z B) := hL
  have H2 : Hid (LRow W oa' on oc' O Z B) := hL'
  have s1 := ((St.start W).new (c := #[.int .i64 h, .int .i64 w, .int .i64 c, .int .i64 lo, .int .i64 hi, .slice oa on oc, .int .i64 ot]) (t := 26)).new (c := #[.int .i64 h, .int .i64 w, .int .i64 c, .int .i64 lo, .int .i64 hi, .slice oa' on oc', .int .i64 ot]) (t := 26)
  simp only [World.size_alloc] at s1
  have S1 : Hid (St W _ ([(W.heap.size + 1, #[.int .i64 h, .int .i64 w, .int .i64 c, .int .i64 lo, .int .i64 hi, .slice oa' on oc', .int .i64 ot], 26), (W.heap.size, #[.int .i64 h, .int .i64 w, .int .i64 c, .int .i64 lo, .int .i64 hi, .slice oa on oc, .int .i64 ot], 26)])) := s1
  clear hL hL' s1
  go_enter Tryz.func10, Tryz.ntmps10
  go_wp2
  go_loopw [44] (fun i wr => ∃ k : Nat, k ≤ on ∧ i = .int .i64 k ∧ St W wr ([(W.heap.size + 1, #[.int .i64 h, .int .i64 w, .int .i64 c, .int .i64 lo, .int .i64 hi, .slice oa' on oc', .int .i64 ot], 26), (W.heap.size, #[.int .i64 h, .int .i64 w, .int .i64 c, .int .i64 lo, .int .i64 hi, .slice oa on oc, .int .i64 ot], 26)])) (fun i _ => on - (intOf i).toNat)
  case atStart => exact ⟨0, Nat.zero_le _, rfl, S1.out⟩
  case round =>
    obtain ⟨i, hi0, rfl, sr⟩ := hrel
    by_cases hlt : i < on
    rotate_left
    · have hbel : Hid (Below W.heap.size W wr) := sr.below
      clear sr S1
      go_wp2
      go_ret
      exact ⟨rfl, hbel.out⟩
    · obtain ⟨x, rfl, wa, lw, cw, ba, lb, cb, e12, e13, hcx, hz1, hb1, -, -⟩ := H1.out.at hlt
      obtain ⟨y, rfl, xa, lw', dw, ya, lb', db, d12, d13, hcy, hz2, hb2, -, -⟩ := H2.out.at hlt
      obtain rfl : lw' = lw := by rw [e12] at d12; omega
      obtain rfl : lb' = lb := by rw [e13] at d13; omega
      have hSO : Hid (∀ n : Wd W ([(W.heap.size + 1, #[.int .i64 h, .int .i64 w, .int .i64 c, .int .i64 lo, .int .i64 hi, .slice (some y) on oc', .int .i64 ot], 26), (W.heap.size, #[.int .i64 h, .int .i64 w, .int .i64 c, .int .i64 lo, .int .i64 hi, .slice (some x) on oc, .int .i64 ot], 26)]), Calls Tryz.prog 21 #[.agg #[.int .i64 (O i 0), .int .i64 (O i 1), .int .i64 (O i 2), .int .i64 (O i 3), .int .i64 (O i 4), .int .i64 (O i 5), .int .i64 (O i 6), .int .i64 (O i 7), .int .i64 (O i 8), .int .i64 (O i 9), .int .i64 (O i 10), .int .i64 (O i 11), .slice wa lw' cw, .slice ba lb' cb, .int .i64 (O i 14), .int .i64 (O i 15), .int .i64 (O i 16), .int .i64 (O i 17), .int .i64 (O i 18), .int .i64 (O i 19), .int .i64 (O i 20), .int .i64 (O i 21)], .agg #[.int .i64 (O i 0), .int .i64 (O i 1), .int .i64 (O i 2), .int .i64 (O i 3), .int .i64 (O i 4), .int .i64 (O i 5), .int .i64 (O i 6), .int .i64 (O i 7), .int .i64 (O i 8), .int .i64 (O i 9), .int .i64 (O i 10), .int .i64 (O i 11), .slice xa lw' dw, .slice ya lb' db, .int .i64 (O i 14), .int .i64 (O i 15), .int .i64 (O i 16), .int .i64 (O i 17), .int .i64 (O i 18), .int .i64 (O i 19), .int .i64 (O i 20), .int .i64 (O i 21)]] n.w fun e w' => e = .returned (.bool true) ∧ Below n.w.heap.size n.w w') := fun n => sameop_any (O i) (Z i) (B i) wa ba xa ya lw' cw lb' cb dw db n.w (hz1.below n.h.below) (hz2.below n.h.below) (hb1.below n.h.below) (hb2.below n.h.below)
      have hCx : Hid (∀ wz, (∃ n : Wd W ([(W.heap.size + 1, #[.int .i64 h, .int .i64 w, .int .i64 c, .int .i64 lo, .int .i64 hi, .slice (some y) on oc', .int .i64 ot], 26), (W.heap.size, #[.int .i64 h, .int .i64 w, .int .i64 c, .int .i64 lo, .int .i64 hi, .slice (some x) on oc, .int .i64 ot], 26)]), wz = n.w) → ∀ j v, [.int .i64 (O i 0), .int .i64 (O i 1), .int .i64 (O i 2), .int .i64 (O i 3), .int .i64 (O i 4), .int .i64 (O i 5), .int .i64 (O i 6), .int .i64 (O i 7), .int .i64 (O i 8), .int .i64 (O i 9), .int .i64 (O i 10), .int .i64 (O i 11), .slice wa lw' cw, .slice ba lb' cb, .int .i64 (O i 14), .int .i64 (O i 15), .int .i64 (O i 16), .int .i64 (O i 17), .int .i64 (O i 18), .int .i64 (O i 19), .int .i64 (O i 20), .int .i64 (O i 21)][j]? = some v → wz.cell? ((x.add (i * 22)).add j) = some v) := fun wz hw j v hj => by
        obtain ⟨n, rfl⟩ := hw
        have := hcx j v hj
        exact (n.h.below.cell (World.block_lt_of_cell? W _ this)).trans this
      have hCy : Hid (∀ wz, (∃ n : Wd W ([(W.heap.size + 1, #[.int .i64 h, .int .i64 w, .int .i64 c, .int .i64 lo, .int .i64 hi, .slice (some y) on oc', .int .i64 ot], 26), (W.heap.size, #[.int .i64 h, .int .i64 w, .int .i64 c, .int .i64 lo, .int .i64 hi, .slice (some x) on oc, .int .i64 ot], 26)]), wz = n.w) → ∀ j v, [.int .i64 (O i 0), .int .i64 (O i 1), .int .i64 (O i 2), .int .i64 (O i 3), .int .i64 (O i 4), .int .i64 (O i 5), .int .i64 (O i 6), .int .i64 (O i 7), .int .i64 (O i 8), .int .i64 (O i 9), .int .i64 (O i 10), .int .i64 (O i 11), .slice xa lw' dw, .slice ya lb' db, .int .i64 (O i 14), .int .i64 (O i 15), .int .i64 (O i 16), .int .i64 (O i 17), .int .i64 (O i 18), .int .i64 (O i 19), .int .i64 (O i 20), .int .i64 (O i 21)][j]? = some v → wz.cell? ((y.add (i * 22)).add j) = some v) := fun wz hw j v hj => by
        obtain ⟨n, rfl⟩ := hw
        have := hcy j v hj
        exact (n.h.below.cell (World.block_lt_of_cell? W _ this)).trans this
      clear hcx hcy hz1 hz2 hb1 hb2 e12 e13 d12 d13 S1
      go_upto_region 6 with fail
      obtain ⟨q1, y1, q2, y2, -⟩ := rulesQ_st sr
      have hne := Nonempty.intro (Wd.mk _ sr)
      refine region_held sr (by kernel_rfl) (by kernel_rfl) ?_
      go_big_quiet_step (fail)
      go_big_quiet_step (fail)
      go_big_quiet_step (fail)
      go_big_quiet_step (fail)
      go_big_quiet_want
      refine quiet_la 49 (.tmp 50) rfl _ rfl [.int .i64 (O i 0), .int .i64 (O i 1), .int .i64 (O i 2), .int .i64 (O i 3), .int .i64 (O i 4), .int .i64 (O i 5), .int .i64 (O i 6), .int .i64 (O i 7), .int .i64 (O i 8), .int .i64 (O i 9), .int .i64 (O i 10), .int .i64 (O i 11), .slice wa lw' cw, .slice ba lb' cb, .int .i64 (O i 14), .int .i64 (O i 15), .int .i64 (O i 16), .int .i64 (O i 17), .int .i64 (O i 18), .int .i64 (O i 19), .int .i64 (O i 20), .int .i64 (O i 21)] _ hCx.out Tryz.underlying49 rfl (by kernel_rfl) rfl ?_
      go_simp
      go_big_quiet_on
      go_big_quiet_step (fail)
      go_big_quiet_step (fail)
      go_big_quiet_step (fail)
      go_big_quiet_step (fail)
      go_big_quiet_want
      refine quiet_la 49 (.tmp 55) rfl _ rfl [.int .i64 (O i 0), .int .i64 (O i 1), .int .i64 (O i 2), .int .i64 (O i 3), .int .i64 (O i 4), .int .i64 (O i 5), .int .i64 (O i 6), .int .i64 (O i 7), .int .i64 (O i 8), .int .i64 (O i 9), .int .i64 (O i 10), .int .i64 (O i 11), .slice xa lw' dw, .slice ya lb' db, .int .i64 (O i 14), .int .i64 (O i 15), .int .i64 (O i 16), .int .i64 (O i 17), .int .i64 (O i 18), .int .i64 (O i 19), .int .i64 (O i 20), .int .i64 (O i 21)] _ hCy.out Tryz.underlying49 rfl (by kernel_rfl) rfl ?_
      go_simp
      go_big_quiet_on
      repeat (go_big_quiet_step ((go_at_call 21; exact held_of (hSO.out _))))
      refine wpQuiet_nil ?_
      intro _ hw'
      obtain ⟨nq, rfl⟩ := hw'
      obtain ⟨w5, hw5⟩ : ∃ w5, nq.w = w5 := ⟨_, rfl⟩
      have s5 : Hid (St W w5 _) := hw5 ▸ nq.h
      rw [hw5]
      clear q1 y1 q2 y2 hne hw5 sr hSO hCx hCy
      clear nq
      go_wp2
      go_round
      case rel => exact ⟨i + 1, by omega, by go_num, s5.out⟩
      case measure => simp [intOf]; omega
end Go.Proofs.YtmcdpbnpnifdfaaGreat

/- The walk of PlainEvals. -/
namespace Go.Proofs.YtmcdpbnpnifdfaaGreat
open Go.ChangeShapes Go.WideShapes Go.ChangeAt Go.RowKit
set_option linter.unusedVariables false
set_option maxHeartbeats 8000000 in
set_option maxRecDepth 100000 in
theorem evals_w (h w c lo hi ot : Int) (oa : Option Addr) (on oc : Nat) (O : Nat → Nat → Int) (Z B : Nat → List Int) (W : World) (hL : LRow W oa on oc O Z B) (hr : on * 208 ≤ 140737488351232) (ad : Option Addr) (n cap : Nat) (xs : List Int) (hX : IRow .i8 W ad n cap xs) (hrx : n * 1 ≤ 140737488351232) (E A : Int) (Ts : List (List Int)) (io : Nat)
    (hok : E = 0 → A = 0 ∧ Ts.length = on + 1 ∧ ot = (io : Int) ∧ io ≤ on ∧ on ≤ 64) (hbad : E ≠ 0 → Ts = [])
    (hRT : Hid (∀ (W' : World) (oa' : Option Addr) (oc' : Nat) (ad' : Option Addr) (cap' : Nat), LRow W' oa' on oc' O Z B → IRow .i8 W' ad' n cap' xs → Calls Tryz.prog 6 #[.agg #[.int .i64 h, .int .i64 w, .int .i64 c, .int .i64 lo, .int .i64 hi, .slice oa' on oc', .int .i64 ot], .slice ad' n cap'] W' fun e w' => (∃ v, e = .returned (.tuple #[v, .agg #[.int .i64 E, .int .i64 A, .int .i64 0]]) ∧ (E = 0 → LLs w' W'.heap.size v Ts) ∧ (E ≠ 0 → v = .slice none 0 0)) ∧ Below W'.heap.size W' w'))
    (hPT : Hid (∀ W', Below W.heap.size W W' → Calls Tryz.prog 7 #[.agg #[.int .i64 h, .int .i64 w, .int .i64 c, .int .i64 lo, .int .i64 hi, .slice oa on oc, .int .i64 ot], .slice ad n cap] W' fun e w' => (∃ v, e = .returned (.tuple #[v, .agg #[.int .i64 E, .int .i64 A, .int .i64 0]]) ∧ (E = 0 → LLs w' W'.heap.size v Ts) ∧ (E ≠ 0 → v = .slice none 0 0)) ∧ Below W'.heap.size W' w'))
    (hPE : Hid (∀ W', Below W.heap.size W W' → Calls Tryz.prog 8 #[.agg #[.int .i64 h, .int .i64 w, .int .i64 c, .int .i64 lo, .int .i64 hi, .slice oa on oc, .int .i64 ot], .slice ad n cap] W' fun e w' => (∃ v, e = .returned (.tuple #[v, .agg #[.int .i64 E, .int .i64 A, .int .i64 0]]) ∧ (E = 0 → Own .i8 41 w' W'.heap.size v (Ts.getD io [])) ∧ (E ≠ 0 → v = .slice none 0 0)) ∧ Below W'.heap.size W' w')) :
    Calls Tryz.prog 3 #[.agg #[.int .i64 h, .int .i64 w, .int .i64 c, .int .i64 lo, .int .i64 hi, .slice oa on oc, .int .i64 ot], .slice ad n cap] W fun e w' => e = .returned (.bool true) ∧ Below W.heap.size W w' := by
  have HL : Hid (LRow W oa on oc O Z B) := hL
  have HX : Hid (IRow .i8 W ad n cap xs) := hX
  have HCp : Hid (∀ W', Below W.heap.size W W' → _) := fun W' hb => copy_any h w c lo hi ot oa on oc O Z B W' (hL.below hb) hr
  have s0 := (St.start W).new (c := #[.int .i64 h, .int .i64 w, .int .i64 c, .int .i64 lo, .int .i64 hi, .slice oa on oc, .int .i64 ot]) (t := 26)
  have qn := neFt E A 0 E A 0 true (by simp)
  have HOk : Hid (E = 0 → A = 0 ∧ Ts.length = on + 1 ∧ ot = (io : Int) ∧ io ≤ on ∧ on ≤ 64) := hok
  have HBad : Hid (E ≠ 0 → Ts = []) := hbad
  have HXL : Hid (xs.length = n) := hX.1
  have hnc := hX.2.1
  have hnm := hX.2.2.1
  unfold maxLen at hnm
  clear hL hX hok hbad
  go_enter Tryz.func3, Tryz.ntmps3
  go_wp2_with fail
  refine Calls.mono (HCp.out _ s0.below) ?_
  rintro e w1 ⟨oa', oc', rfl, hL1, hb1⟩
  have s1 := s0.call hb1
  have HL1 : Hid (LRow w1 oa' on oc' O Z B) := hL1
  have S1 : Hid (St W w1 [(W.heap.size, #[.int .i64 h, .int .i64 w, .int .i64 c, .int .i64 lo, .int .i64 hi, .slice oa on oc, .int .i64 ot], 26)]) := s1
  have own0 : Hid (Own .i8 41 (w1.alloc (.cells #[] 41)) w1.heap.size (.slice (some ⟨w1.heap.size, 0, none⟩) 0 0) []) := own_lit .i8 41 w1 w1.heap.size [] (Wf.nil _) (by unfold maxLen; simp) (Nat.le_refl _)
  clear hb1 hL1 s1 s0 HCp
  go_upto_region 2 with (at_builtin; refine wpList_appB kt_i8 rfl (.tmp 16) (.tmp 17) rfl w1.heap.size (.slice (some ⟨w1.heap.size, 0, none⟩) 0 0) xs rfl own0.out _ _ _ rfl ((HX.out.below S1.out.below).below (bal _ _)) hrx (by simp) ?_; intro v2 w2 own2 gr2; have B2 : Hid (Below w1.heap.size w1 w2) := own0.out.bel (bal _ _) gr2 (Nat.le_refl _) (by simp); have O2 : Hid (Own .i8 41 w2 w1.heap.size v2 xs) := own2; obtain ⟨va, vc, rfl, -, -⟩ := own2.row; rw [HXL.out] at O2 ⊢; clear own2 gr2)
  have s2 := (S1.out.call B2.out).new (c := #[.int .i64 h, .int .i64 w, .int .i64 c, .int .i64 lo, .int .i64 hi, .slice oa' on oc', .int .i64 ot]) (t := 26)
  obtain ⟨mb, hmb⟩ : ∃ mb, w2.heap.size = mb := ⟨_, rfl⟩
  have HL3 : Hid (LRow (w2.alloc (.cells #[.int .i64 h, .int .i64 w, .int .i64 c, .int .i64 lo, .int .i64 hi, .slice oa' on oc', .int .i64 ot] 26)) oa' on oc' O Z B) := (HL1.out.below B2.out).below (bal _ _)
  have HK3 : Hid (IRow .i8 (w2.alloc (.cells #[.int .i64 h, .int .i64 w, .int .i64 c, .int .i64 lo, .int .i64 hi, .slice oa' on oc', .int .i64 ot] 26)) va n vc xs) := (O2.out.below (bal w2 (.cells #[.int .i64 h, .int .i64 w, .int .i64 c, .int .i64 lo, .int .i64 hi, .slice oa' on oc', .int .i64 ot] 26))).irow
  obtain ⟨w3, hw3⟩ : ∃ w3, w2.alloc (.cells #[.int .i64 h, .int .i64 w, .int .i64 c, .int .i64 lo, .int .i64 hi, .slice oa' on oc', .int .i64 ot] 26) = w3 := ⟨_, rfl⟩
  rw [hw3] at s2 HL3 HK3 ⊢
  rw [hmb] at s2 ⊢
  have S3 : Hid (St W w3 [(mb, #[.int .i64 h, .int .i64 w, .int .i64 c, .int .i64 lo, .int .i64 hi, .slice oa' on oc', .int .i64 ot], 26), (W.heap.size, #[.int .i64 h, .int .i64 w, .int .i64 c, .int .i64 lo, .int .i64 hi, .slice oa on oc, .int .i64 ot], 26)]) := s2
  clear s2 hw3 hmb S1 B2 O2 HL1 own0
  obtain ⟨c1, f1, z1, c2, f2, z2, -⟩ := S3.out.rules
  go_wp2_with fail
  refine Calls.mono (hRT.out w3 oa' oc' va vc HL3.out HK3.out) ?_
  rintro e w4 ⟨⟨v4, rfl, hl4, hn4⟩, hb4⟩
  have HT4 : TRd w4 v4 Ts := by
    by_cases q : E = 0
    · exact (hl4 q).rd
    · rw [hn4 q, HBad.out q]; exact ⟨none, 0, rfl, Nat.le_refl _, by unfold maxLen; omega, fun h => by cases h⟩
  obtain ⟨a4, c4, rfl, -⟩ := id HT4
  have B4 : Hid (Below w3.heap.size w3 w4) := hb4
  have HT5 : Hid (TRd (w4.alloc (.cells #[.int .i64 E, .int .i64 A, .int .i64 0] 32)) (.slice a4 Ts.length c4) Ts) := HT4.below (bal _ _)
  have s4 := (S3.out.call hb4).new (c := #[.int .i64 E, .int .i64 A, .int .i64 0]) (t := 32)
  have HL5 : Hid (LRow (w4.alloc (.cells #[.int .i64 E, .int .i64 A, .int .i64 0] 32)) oa' on oc' O Z B) := (HL3.out.below hb4).below (bal _ _)
  have HK5 : Hid (IRow .i8 (w4.alloc (.cells #[.int .i64 E, .int .i64 A, .int .i64 0] 32)) va n vc xs) := (HK3.out.below hb4).below (bal _ _)
  clear hl4 hn4 hb4 HT4 hRT c1 f1 z1 c2 f2 z2
  obtain ⟨c1, f1, z1, c2, f2, z2, -⟩ := (S3.out.call B4.out).rules
  go_upto_region 3 with fail
  obtain ⟨b8, hb8⟩ : ∃ b8, w4.heap.size = b8 := ⟨_, rfl⟩
  obtain ⟨w5, hw5⟩ : ∃ w5, w4.alloc (.cells #[.int .i64 E, .int .i64 A, .int .i64 0] 32) = w5 := ⟨_, rfl⟩
  rw [hw5] at s4 HT5 HL5 HK5 ⊢
  rw [hb8] at s4 ⊢
  have S5 : Hid (St W w5 [(b8, #[.int .i64 E, .int .i64 A, .int .i64 0], 32), (mb, #[.int .i64 h, .int .i64 w, .int .i64 c, .int .i64 lo, .int .i64 hi, .slice oa' on oc', .int .i64 ot], 26), (W.heap.size, #[.int .i64 h, .int .i64 w, .int .i64 c, .int .i64 lo, .int .i64 hi, .slice oa on oc, .int .i64 ot], 26)]) := s4
  clear s4 hw5 hb8 S3 HL3 HK3 B4 c1 f1 z1 c2 f2 z2
  obtain ⟨-, -, -, -, -, -, c3, f3, z3, -⟩ := S5.out.rules
  go_wp2_with fail
  refine Calls.mono (hPT.out _ S5.out.below) ?_
  rintro e w6 ⟨⟨v6, rfl, hl6, hn6⟩, hb6⟩
  have HT6 : TRd w6 v6 Ts := by
    by_cases q : E = 0
    · exact (hl6 q).rd
    · rw [hn6 q, HBad.out q]; exact ⟨none, 0, rfl, Nat.le_refl _, by unfold maxLen; omega, fun h => by cases h⟩
  obtain ⟨a6, c6, rfl, -⟩ := id HT6
  have B6 : Hid (Below w5.heap.size w5 w6) := hb6
  have HT7 : Hid (TRd (w6.alloc (.cells #[.int .i64 E, .int .i64 A, .int .i64 0] 32)) (.slice a6 Ts.length c6) Ts) := HT6.below (bal _ _)
  have HU7 : Hid (TRd (w6.alloc (.cells #[.int .i64 E, .int .i64 A, .int .i64 0] 32)) (.slice a4 Ts.length c4) Ts) := HT5.out.below (btr hb6 (bal _ _))
  have s6 := (S5.out.call hb6).new (c := #[.int .i64 E, .int .i64 A, .int .i64 0]) (t := 32)
  have HL7 : Hid (LRow (w6.alloc (.cells #[.int .i64 E, .int .i64 A, .int .i64 0] 32)) oa' on oc' O Z B) := HL5.out.below (btr hb6 (bal _ _))
  have HK7 : Hid (IRow .i8 (w6.alloc (.cells #[.int .i64 E, .int .i64 A, .int .i64 0] 32)) va n vc xs) := HK5.out.below (btr hb6 (bal _ _))
  clear hl6 hn6 hb6 HT6 hPT c3 f3 z3
  obtain ⟨c1, f1, z1, c2, f2, z2, c3, f3, z3, -⟩ := (S5.out.call B6.out).rules
  go_upto_region 4 with fail
  obtain ⟨b10, hb10⟩ : ∃ b10, w6.heap.size = b10 := ⟨_, rfl⟩
  obtain ⟨w7, hw7⟩ : ∃ w7, w6.alloc (.cells #[.int .i64 E, .int .i64 A, .int .i64 0] 32) = w7 := ⟨_, rfl⟩
  rw [hw7] at s6 HT7 HU7 HL7 HK7 ⊢
  rw [hb10] at s6 ⊢
  have S7 : Hid (St W w7 [(b10, #[.int .i64 E, .int .i64 A, .int .i64 0], 32), (b8, #[.int .i64 E, .int .i64 A, .int .i64 0], 32), (mb, #[.int .i64 h, .int .i64 w, .int .i64 c, .int .i64 lo, .int .i64 hi, .slice oa' on oc', .int .i64 ot], 26), (W.heap.size, #[.int .i64 h, .int .i64 w, .int .i64 c, .int .i64 lo, .int .i64 hi, .slice oa on oc, .int .i64 ot], 26)]) := s6
  clear s6 hw7 hb10 S5 HL5 HK5 B6 HT5 c1 f1 z1 c2 f2 z2 c3 f3 z3
  obtain ⟨-, -, -, -, -, -, -, -, -, c4', f4, z4, -⟩ := S7.out.rules
  go_wp2_with fail
  refine Calls.mono (hPE.out _ S7.out.below) ?_
  rintro e w8 ⟨⟨v8, rfl, hl8, hn8⟩, hb8'⟩
  obtain ⟨ay, ny, cy, rfl, hY8⟩ : ∃ ay ny cy, v8 = .slice ay ny cy ∧ ((E = 0 ∧ ny = (Ts.getD io []).length ∧ IRow .i8 w8 ay ny cy (Ts.getD io [])) ∨ (E ≠ 0 ∧ ny = 0)) := by
    by_cases q : E = 0
    · obtain ⟨a, c', e, hr, -⟩ := (hl8 q).row
      exact ⟨a, _, c', e, .inl ⟨q, rfl, hr⟩⟩
    · exact ⟨none, 0, 0, hn8 q, .inr ⟨q, rfl⟩⟩
  have B8 : Hid (Below w7.heap.size w7 w8) := hb8'
  have hY9 : Hid ((E = 0 ∧ ny = (Ts.getD io []).length ∧ IRow .i8 (w8.alloc (.cells #[.int .i64 E, .int .i64 A, .int .i64 0] 32)) ay ny cy (Ts.getD io [])) ∨ (E ≠ 0 ∧ ny = 0)) := hY8.imp (fun q => ⟨q.1, q.2.1, q.2.2.below (bal _ _)⟩) id
  have HT9 : Hid (TRd (w8.alloc (.cells #[.int .i64 E, .int .i64 A, .int .i64 0] 32)) (.slice a6 Ts.length c6) Ts) := HT7.out.below (btr hb8' (bal _ _))
  have HU9 : Hid (TRd (w8.alloc (.cells #[.int .i64 E, .int .i64 A, .int .i64 0] 32)) (.slice a4 Ts.length c4) Ts) := HU7.out.below (btr hb8' (bal _ _))
  have s8 := (S7.out.call hb8').new (c := #[.int .i64 E, .int .i64 A, .int .i64 0]) (t := 32)
  have HL9 : Hid (LRow (w8.alloc (.cells #[.int .i64 E, .int .i64 A, .int .i64 0] 32)) oa' on oc' O Z B) := HL7.out.below (btr hb8' (bal _ _))
  have HK9 : Hid (IRow .i8 (w8.alloc (.cells #[.int .i64 E, .int .i64 A, .int .i64 0] 32)) va n vc xs) := HK7.out.below (btr hb8' (bal _ _))
  clear hl8 hn8 hb8' hY8 hPE c4' f4 z4
  obtain ⟨c1, f1, z1, c2, f2, z2, c3, f3, z3, -⟩ := (S7.out.call B8.out).rules
  go_upto_region 5 with fail
  obtain ⟨b12, hb12⟩ : ∃ b12, w8.heap.size = b12 := ⟨_, rfl⟩
  obtain ⟨w9, hw9⟩ : ∃ w9, w8.alloc (.cells #[.int .i64 E, .int .i64 A, .int .i64 0] 32) = w9 := ⟨_, rfl⟩
  rw [hw9] at s8 HT9 HU9 HL9 HK9 hY9 ⊢
  rw [hb12] at s8 ⊢
  have S9 : Hid (St W w9 [(b12, #[.int .i64 E, .int .i64 A, .int .i64 0], 32), (b10, #[.int .i64 E, .int .i64 A, .int .i64 0], 32), (b8, #[.int .i64 E, .int .i64 A, .int .i64 0], 32), (mb, #[.int .i64 h, .int .i64 w, .int .i64 c, .int .i64 lo, .int .i64 hi, .slice oa' on oc', .int .i64 ot], 26), (W.heap.size, #[.int .i64 h, .int .i64 w, .int .i64 c, .int .i64 lo, .int .i64 hi, .slice oa on oc, .int .i64 ot], 26)]) := s8
  clear s8 hw9 hb12 S7 HL7 HK7 B8 HT7 HU7 c1 f1 z1 c2 f2 z2 c3 f3 z3
  go_wp2_with fail
  refine (fixed11_any _).mono ?_
  rintro e w10 ⟨rfl, hb10'⟩
  have S10 : Hid (St W w10 [(b12, #[.int .i64 E, .int .i64 A, .int .i64 0], 32), (b10, #[.int .i64 E, .int .i64 A, .int .i64 0], 32), (b8, #[.int .i64 E, .int .i64 A, .int .i64 0], 32), (mb, #[.int .i64 h, .int .i64 w, .int .i64 c, .int .i64 lo, .int .i64 hi, .slice oa' on oc', .int .i64 ot], 26), (W.heap.size, #[.int .i64 h, .int .i64 w, .int .i64 c, .int .i64 lo, .int .i64 hi, .slice oa on oc, .int .i64 ot], 26)]) := S9.out.call hb10'
  have HT10 : Hid (TRd w10 (.slice a6 Ts.length c6) Ts) := HT9.out.below hb10'
  have HU10 : Hid (TRd w10 (.slice a4 Ts.length c4) Ts) := HU9.out.below hb10'
  have HL10 : Hid (LRow w10 oa' on oc' O Z B) := HL9.out.below hb10'
  have HK10 : Hid (IRow .i8 w10 va n vc xs) := HK9.out.below hb10'
  have hY10 : Hid ((E = 0 ∧ ny = (Ts.getD io []).length ∧ IRow .i8 w10 ay ny cy (Ts.getD io [])) ∨ (E ≠ 0 ∧ ny = 0)) := hY9.out.imp (fun q => ⟨q.1, q.2.1, q.2.2.below hb10'⟩) id
  clear hb10' S9 HT9 HU9 HL9 HK9 hY9
  obtain ⟨TN, hTN⟩ : ∃ TN, Ts.length = TN := ⟨_, rfl⟩
  rw [hTN] at HT10 HU10 ⊢
  have HTN : Hid (Ts.length = TN) := hTN
  clear hTN
  obtain ⟨c1, f1, z1, c2, f2, z2, c3, f3, z3, c4'', f4, z4, c5, f5, z5, -⟩ := S10.out.rules
  have t1 := HT10.out.len
  have t2 := HU10.out.len
  unfold maxLen at t1 t2
  have t1a := t1.2.1
  have t1b := t1.2.2
  have t2a := t2.2.1
  have t2b := t2.2.2
  clear t1 t2
  go_wp2_with fail
  refine Calls.mono (samem_any h w c lo hi ot oa oa' on oc oc' O Z B w10 (HL.out.below S10.out.below) HL10.out) ?_
  rintro e w11 ⟨rfl, hb11⟩
  have S11 : Hid (St W w11 [(b12, #[.int .i64 E, .int .i64 A, .int .i64 0], 32), (b10, #[.int .i64 E, .int .i64 A, .int .i64 0], 32), (b8, #[.int .i64 E, .int .i64 A, .int .i64 0], 32), (mb, #[.int .i64 h, .int .i64 w, .int .i64 c, .int .i64 lo, .int .i64 hi, .slice oa' on oc', .int .i64 ot], 26), (W.heap.size, #[.int .i64 h, .int .i64 w, .int .i64 c, .int .i64 lo, .int .i64 hi, .slice oa on oc, .int .i64 ot], 26)]) := S10.out.call hb11
  have HT11 : Hid (TRd w11 (.slice a6 TN c6) Ts) := HT10.out.below hb11
  have HU11 : Hid (TRd w11 (.slice a4 TN c4) Ts) := HU10.out.below hb11
  have HK11 : Hid (IRow .i8 w11 va n vc xs) := HK10.out.below hb11
  have hY11 : Hid ((E = 0 ∧ ny = (Ts.getD io []).length ∧ IRow .i8 w11 ay ny cy (Ts.getD io [])) ∨ (E ≠ 0 ∧ ny = 0)) := hY10.out.imp (fun q => ⟨q.1, q.2.1, q.2.2.below hb11⟩) id
  clear hb11 S10 HT10 HU10 HL10 HK10 hY10 c1 f1 z1 c2 f2 z2 c3 f3 z3 c4'' f4 z4 c5 f5 z5
  go_wp2_with fail
  refine Calls.mono (same8_b ad va n cap vc xs w11 (HX.out.below S11.out.below) HK11.out) ?_
  rintro e w12 ⟨rfl, hb12'⟩
  have S12 : Hid (St W w12 [(b12, #[.int .i64 E, .int .i64 A, .int .i64 0], 32), (b10, #[.int .i64 E, .int .i64 A, .int .i64 0], 32), (b8, #[.int .i64 E, .int .i64 A, .int .i64 0], 32), (mb, #[.int .i64 h, .int .i64 w, .int .i64 c, .int .i64 lo, .int .i64 hi, .slice oa' on oc', .int .i64 ot], 26), (W.heap.size, #[.int .i64 h, .int .i64 w, .int .i64 c, .int .i64 lo, .int .i64 hi, .slice oa on oc, .int .i64 ot], 26)]) := S11.out.call hb12'
  have HT12 : Hid (TRd w12 (.slice a6 TN c6) Ts) := HT11.out.below hb12'
  have HU12 : Hid (TRd w12 (.slice a4 TN c4) Ts) := HU11.out.below hb12'
  have hY12 : Hid ((E = 0 ∧ ny = (Ts.getD io []).length ∧ IRow .i8 w12 ay ny cy (Ts.getD io [])) ∨ (E ≠ 0 ∧ ny = 0)) := hY11.out.imp (fun q => ⟨q.1, q.2.1, q.2.2.below hb12'⟩) id
  clear hb12' S11 HT11 HU11 HK11 hY11
  go_wp2
  go_loopw [70] (fun i wr => ∃ k q : Nat, k ≤ TN ∧ i = .int .i64 k ∧ wr = w12.drewN q) (fun i _ => TN - (intOf i).toNat)
  case atStart => exact ⟨0, 0, Nat.zero_le _, rfl, rfl⟩
  case round =>
    obtain ⟨k, q, hk, rfl, rfl⟩ := hrel
    by_cases hlt : k < TN
    · obtain ⟨wq, hwq⟩ : ∃ wq, w12.drewN q = wq := ⟨_, rfl⟩
      have Hwq : Hid (w12.drewN q = wq) := hwq
      rw [hwq]
      clear hwq
      have Bq : Below w12.heap.size w12 wq := by rw [← Hwq.out]; exact dbel _ _
      obtain ⟨g1, x1, y1, rfl, p1, r1⟩ := (HT12.out.below Bq).at hlt
      obtain ⟨g2, x2, y2, rfl, p2', r2⟩ := (HU12.out.below Bq).at hlt
      obtain ⟨LN, hLN⟩ : ∃ LN, (Ts.getD k []).length = LN := ⟨_, rfl⟩
      rw [hLN] at p1 p2' r1 r2
      have hS : Hid (∀ m, Calls Tryz.prog 11 #[.slice x1 LN y1, .slice x2 LN y2] (wq.drewN m) fun e w' => e = .returned (.bool true) ∧ ∃ m', w' = (wq.drewN m).drewN m') := fun m => same8_any x1 x2 LN y1 y2 (Ts.getD k []) _ (r1.below (dbel _ m)) (r2.below (dbel _ m))
      clear hLN r1 r2 Bq
      go_wp2
      go_quiet ((go_at_call 11; exact Calls.quiet_of (hS.out _)))
      go_wp2
      go_roundw
      case rel => exact ⟨k + 1, _, by omega, by go_num, by rw [← Hwq.out, World.drewN_drewN]⟩
      case measure => simp [intOf]; omega
    · have SE : Hid (St W (w12.drewN q) [(b12, #[.int .i64 E, .int .i64 A, .int .i64 0], 32), (b10, #[.int .i64 E, .int .i64 A, .int .i64 0], 32), (b8, #[.int .i64 E, .int .i64 A, .int .i64 0], 32), (mb, #[.int .i64 h, .int .i64 w, .int .i64 c, .int .i64 lo, .int .i64 hi, .slice oa' on oc', .int .i64 ot], 26), (W.heap.size, #[.int .i64 h, .int .i64 w, .int .i64 c, .int .i64 lo, .int .i64 hi, .slice oa on oc, .int .i64 ot], 26)]) := S12.out.call (dbel _ q)
      obtain ⟨-, -, -, -, -, -, c3, f3, z3, -, -, -, c5, f5, z5, -⟩ := SE.out.rules
      rcases hY12.out with ⟨e0, eN, hrow⟩ | ⟨e0, eN⟩
      · subst e0
        obtain ⟨-, hTl, hot, hio, -⟩ := HOk.out rfl
        subst hot
        have hTN2 : io < TN := by rw [← HTN.out, hTl]; omega
        obtain ⟨g2, x2, y2, rfl, p2', r2⟩ := (HU12.out.below (dbel _ q)).at hTN2
        have r2' : IRow .i8 (w12.drewN q) x2 ny y2 (Ts.getD io []) := by rw [eN]; exact r2
        have HS : Hid (Calls Tryz.prog 11 #[.slice ay ny cy, .slice x2 ny y2] (w12.drewN q) fun e w' => e = .returned (.bool true) ∧ Below (w12.drewN q).heap.size (w12.drewN q) w') := same8_b ay x2 ny cy y2 (Ts.getD io []) (w12.drewN q) (hrow.below (dbel _ q)) r2'
        rw [← eN] at p2'
        clear r2' eN
        clear r2 hrow hTl
        go_wp2_with fail
        refine Calls.mono HS.out ?_
        rintro e w13 ⟨rfl, hb13⟩
        have HB : Hid (Below W.heap.size W w13) := (SE.out.call hb13).below
        clear hb13 SE c3 f3 z3 c5 f5 z5 HS
        go_wp2
        go_ret
        exact ⟨rfl, HB.out⟩
      · subst eN
        have e0' : (E == 0) = false := by simp [e0]
        have HB : Hid (Below W.heap.size W (w12.drewN q)) := SE.out.below
        clear SE
        go_wp2
        go_ret
        exact ⟨rfl, HB.out⟩
theorem plainEvals_walk (h w c lo hi : Int) (oa : Option Addr) (on oc : Nat) (ot : Int) (ad : Option Addr) (n cap : Nat) (xs : List Int) (W : World) (_ : (Lit.int .i64 h).wf = true) (_ : (Lit.int .i64 w).wf = true) (_ : (Lit.int .i64 c).wf = true) (_ : (Lit.int .i64 lo).wf = true) (_ : (Lit.int .i64 hi).wf = true)
    (wo : ORow 22 (OpIn W) W oa on oc) (hr : on * 208 ≤ 140737488351232) (_ : (Lit.int .i64 ot).wf = true) (hX : IRow .i8 W ad n cap xs) (hrx : n * 1 ≤ 140737488351232) :
    Calls Tryz.prog 3 #[.agg #[.int .i64 h, .int .i64 w, .int .i64 c, .int .i64 lo, .int .i64 hi, .slice oa on oc, .int .i64 ot], .slice ad n cap] W fun e w' => e = .returned (.bool true) ∧ Below W.heap.size W w' := by
  obtain ⟨O, Z, B, hL⟩ := lrow_of wo
  have hon : on ≤ 1000000000000 := by omega
  obtain ⟨Re, Ra, RL, Rw, hR⟩ : ∃ Re Ra RL Rw, gtR O h w c lo hi ot on = (Re, Ra, RL, Rw) := ⟨_, _, _, _, rfl⟩
  by_cases he : Re = 0
  · subst he
    obtain ⟨rfl, -, h64, -, -, -⟩ := gtR_ok hR
    cases hin : inB h w c lo hi xs with
    | false =>
      refine evals_w h w c lo hi ot oa on oc O Z B W hL hr ad n cap xs hX hrx 220 0 [] 0 (fun q => by cases q) (fun _ => rfl) (fun W' oa' oc' ad' cap' hL' hX' => ?_) (fun W' hb => ?_) (fun W' hb => ?_)
      · exact (rtensors_in h w c lo hi ot oa' on oc' O Z B W' hL' ad' n cap' xs hX' hon Rw RL hR hin).mono fun e w' ⟨q1, q2⟩ => ⟨⟨_, q1, (fun q => by cases q), (fun _ => rfl)⟩, q2⟩
      · exact (tensors_in h w c lo hi ot oa on oc O Z B W' (hL.below hb) ad n cap xs (hX.below hb) Rw RL hR hin).mono fun e w' ⟨q1, q2⟩ => ⟨⟨_, q1, (fun q => by cases q), (fun _ => rfl)⟩, q2⟩
      · exact (eval_bad h w c lo hi ot oa on oc W' ad n cap 220 0 (by decide) (fun W2 hb2 => tensors_in h w c lo hi ot oa on oc O Z B W2 ((hL.below hb).below hb2) ad n cap xs ((hX.below hb).below hb2) Rw RL hR hin)).mono fun e w' ⟨q1, q2⟩ => ⟨⟨_, q1, (fun q => by cases q), (fun _ => rfl)⟩, q2⟩
    | true =>
      obtain ⟨-, -, -, o1, o2⟩ := ouE_0 (gtR_st hR).1
      obtain ⟨io, hio⟩ := Int.eq_ofNat_of_zero_le o1
      have hio2 : io ≤ on := by omega
      refine evals_w h w c lo hi ot oa on oc O Z B W hL hr ad n cap xs hX hrx 0 0 (tnL O Z B RL xs on) io (fun _ => ⟨rfl, tnL_len _ _ _ _ _ _, hio, hio2, h64⟩) (fun q => absurd rfl q) (fun W' oa' oc' ad' cap' hL' hX' => ?_) (fun W' hb => ?_) (fun W' hb => ?_)
      · exact (rtensors_ok h w c lo hi ot oa' on oc' O Z B W' hL' ad' n cap' xs hX' hon Rw RL hR hin).mono fun e w' ⟨⟨v, q1, q3⟩, q2⟩ => ⟨⟨v, q1, fun _ => q3, fun q => absurd rfl q⟩, q2⟩
      · exact (tensors_ok h w c lo hi ot oa on oc O Z B W' (hL.below hb) ad n cap xs (hX.below hb) Rw RL hR hin).mono fun e w' ⟨⟨v, q1, q3⟩, q2⟩ => ⟨⟨v, q1, fun _ => q3, fun q => absurd rfl q⟩, q2⟩
      · exact (eval_ok h w c lo hi ot oa on oc O Z B W' (hL.below hb) ad n cap xs (hX.below hb) Rw RL hR hin io hio hio2).mono fun e w' ⟨⟨v, q1, q3⟩, q2⟩ => ⟨⟨v, q1, fun _ => by rw [tnL_get _ _ _ _ _ hio2]; exact q3, fun q => absurd rfl q⟩, q2⟩
  · refine evals_w h w c lo hi ot oa on oc O Z B W hL hr ad n cap xs hX hrx Re Ra [] 0 (fun q => absurd q he) (fun _ => rfl) (fun W' oa' oc' ad' cap' hL' hX' => ?_) (fun W' hb => ?_) (fun W' hb => ?_)
    · exact (rtensors_bad h w c lo hi ot oa' on oc' O Z B W' hL' ad' n cap' xs hX' hon Re Ra Rw RL hR he).mono fun e w' ⟨q1, q2⟩ => ⟨⟨_, q1, fun q => absurd q he, fun _ => rfl⟩, q2⟩
    · exact (tensors_bad h w c lo hi ot oa on oc O Z B W' (hL.below hb) ad n cap xs (hX.below hb) Re Ra Rw RL hR he).mono fun e w' ⟨q1, q2⟩ => ⟨⟨_, q1, fun q => absurd q he, fun _ => rfl⟩, q2⟩
    · exact (eval_bad h w c lo hi ot oa on oc W' ad n cap Re Ra he (fun W2 hb2 => tensors_bad h w c lo hi ot oa on oc O Z B W2 ((hL.below hb).below hb2) ad n cap xs ((hX.below hb).below hb2) Re Ra Rw RL hR he)).mono fun e w' ⟨q1, q2⟩ => ⟨⟨_, q1, fun q => absurd q he, fun _ => rfl⟩, q2⟩
end Go.Proofs.YtmcdpbnpnifdfaaGreat
