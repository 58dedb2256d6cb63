/- form of package model: what it returns. -/
import Derived.Test.YthagdpiocmcbmaaMdlB
import Derived.Test.YthagdpiocmcbmaaMdlP
namespace Go.Proofs.Ythagdpiocmcbmaa
open Go.ChangeShapes Go.WideShapes Go.ChangeAt Go.RowKit
theorem form_1 (k a b m kh kw sh sw tp lf bt rt : Int) (wa : Option Addr) (lw wc : Nat) (ba : Option Addr) (lb bc : Nat) (sm ss um us z p lo hi : Int) (n : Int) (W : World) (h : k < 1) :
    Calls Try.prog 58 #[.agg #[.int .i64 k, .int .i64 a, .int .i64 b, .int .i64 m, .int .i64 kh, .int .i64 kw, .int .i64 sh, .int .i64 sw, .int .i64 tp, .int .i64 lf, .int .i64 bt, .int .i64 rt, .slice wa lw wc, .slice ba lb bc, .int .i64 sm, .int .i64 ss, .int .i64 um, .int .i64 us, .int .i64 z, .int .i64 p, .int .i64 lo, .int .i64 hi], .int .i64 n] W fun e w' => e = .returned (.int .i64 81) ∧ Below W.heap.size W w' := by
  go_enter Try.func58, Try.ntmps58
  go_wp2
  go_ret
  exact ⟨rfl, (St.start W).new.below⟩
theorem form_2 (k a b m kh kw sh sw tp lf bt rt : Int) (wa : Option Addr) (lw wc : Nat) (ba : Option Addr) (lb bc : Nat) (sm ss um us z p lo hi : Int) (n : Int) (W : World) (h : 1 ≤ k ∧ 8 < k) :
    Calls Try.prog 58 #[.agg #[.int .i64 k, .int .i64 a, .int .i64 b, .int .i64 m, .int .i64 kh, .int .i64 kw, .int .i64 sh, .int .i64 sw, .int .i64 tp, .int .i64 lf, .int .i64 bt, .int .i64 rt, .slice wa lw wc, .slice ba lb bc, .int .i64 sm, .int .i64 ss, .int .i64 um, .int .i64 us, .int .i64 z, .int .i64 p, .int .i64 lo, .int .i64 hi], .int .i64 n] W fun e w' => e = .returned (.int .i64 81) ∧ Below W.heap.size W w' := by
  go_enter Try.func58, Try.ntmps58
  go_wp2
  go_ret
  exact ⟨rfl, (St.start W).new.below⟩
theorem form_3 (k a b m kh kw sh sw tp lf bt rt : Int) (wa : Option Addr) (lw wc : Nat) (ba : Option Addr) (lb bc : Nat) (sm ss um us z p lo hi : Int) (n : Int) (W : World) (h : 1 ≤ k ∧ ¬ 8 < k ∧ a < 0) :
    Calls Try.prog 58 #[.agg #[.int .i64 k, .int .i64 a, .int .i64 b, .int .i64 m, .int .i64 kh, .int .i64 kw, .int .i64 sh, .int .i64 sw, .int .i64 tp, .int .i64 lf, .int .i64 bt, .int .i64 rt, .slice wa lw wc, .slice ba lb bc, .int .i64 sm, .int .i64 ss, .int .i64 um, .int .i64 us, .int .i64 z, .int .i64 p, .int .i64 lo, .int .i64 hi], .int .i64 n] W fun e w' => e = .returned (.int .i64 82) ∧ Below W.heap.size W w' := by
  go_enter Try.func58, Try.ntmps58
  go_wp2
  go_ret
  exact ⟨rfl, (St.start W).new.below⟩
theorem form_4 (k a b m kh kw sh sw tp lf bt rt : Int) (wa : Option Addr) (lw wc : Nat) (ba : Option Addr) (lb bc : Nat) (sm ss um us z p lo hi : Int) (n : Int) (W : World) (h : 1 ≤ k ∧ ¬ 8 < k ∧ ¬ a < 0 ∧ n ≤ a) :
    Calls Try.prog 58 #[.agg #[.int .i64 k, .int .i64 a, .int .i64 b, .int .i64 m, .int .i64 kh, .int .i64 kw, .int .i64 sh, .int .i64 sw, .int .i64 tp, .int .i64 lf, .int .i64 bt, .int .i64 rt, .slice wa lw wc, .slice ba lb bc, .int .i64 sm, .int .i64 ss, .int .i64 um, .int .i64 us, .int .i64 z, .int .i64 p, .int .i64 lo, .int .i64 hi], .int .i64 n] W fun e w' => e = .returned (.int .i64 82) ∧ Below W.heap.size W w' := by
  go_enter Try.func58, Try.ntmps58
  go_wp2
  go_ret
  exact ⟨rfl, (St.start W).new.below⟩
theorem form_5 (k a b m kh kw sh sw tp lf bt rt : Int) (wa : Option Addr) (lw wc : Nat) (ba : Option Addr) (lb bc : Nat) (sm ss um us z p lo hi : Int) (n : Int) (W : World) (hk : k = 6) (h : ¬ a < 0 ∧ ¬ n ≤ a ∧ b < 0) :
    Calls Try.prog 58 #[.agg #[.int .i64 k, .int .i64 a, .int .i64 b, .int .i64 m, .int .i64 kh, .int .i64 kw, .int .i64 sh, .int .i64 sw, .int .i64 tp, .int .i64 lf, .int .i64 bt, .int .i64 rt, .slice wa lw wc, .slice ba lb bc, .int .i64 sm, .int .i64 ss, .int .i64 um, .int .i64 us, .int .i64 z, .int .i64 p, .int .i64 lo, .int .i64 hi], .int .i64 n] W fun e w' => e = .returned (.int .i64 82) ∧ Below W.heap.size W w' := by
  subst hk
  go_enter Try.func58, Try.ntmps58
  go_wp2
  go_ret
  exact ⟨rfl, (St.start W).new.below⟩
theorem form_6 (k a b m kh kw sh sw tp lf bt rt : Int) (wa : Option Addr) (lw wc : Nat) (ba : Option Addr) (lb bc : Nat) (sm ss um us z p lo hi : Int) (n : Int) (W : World) (hk : k = 6) (h : ¬ a < 0 ∧ ¬ n ≤ a ∧ ¬ b < 0 ∧ n ≤ b) :
    Calls Try.prog 58 #[.agg #[.int .i64 k, .int .i64 a, .int .i64 b, .int .i64 m, .int .i64 kh, .int .i64 kw, .int .i64 sh, .int .i64 sw, .int .i64 tp, .int .i64 lf, .int .i64 bt, .int .i64 rt, .slice wa lw wc, .slice ba lb bc, .int .i64 sm, .int .i64 ss, .int .i64 um, .int .i64 us, .int .i64 z, .int .i64 p, .int .i64 lo, .int .i64 hi], .int .i64 n] W fun e w' => e = .returned (.int .i64 82) ∧ Below W.heap.size W w' := by
  subst hk
  go_enter Try.func58, Try.ntmps58
  go_wp2
  go_ret
  exact ⟨rfl, (St.start W).new.below⟩
set_option maxHeartbeats 1000000 in
theorem form_6false (a b m kh kw sh sw tp lf bt rt : Int) (wa : Option Addr) (lw wc : Nat) (ba : Option Addr) (lb bc : Nat) (sm ss um us z p lo hi n : Int) (W : World) (h : ¬ a < 0 ∧ ¬ n ≤ a ∧ ¬ b < 0 ∧ ¬ n ≤ b) (ho : ozB 6 b m kh kw sh sw tp lf bt rt lw lb sm ss um us z p = false) :
    Calls Try.prog 58 #[.agg #[.int .i64 6, .int .i64 a, .int .i64 b, .int .i64 m, .int .i64 kh, .int .i64 kw, .int .i64 sh, .int .i64 sw, .int .i64 tp, .int .i64 lf, .int .i64 bt, .int .i64 rt, .slice wa lw wc, .slice ba lb bc, .int .i64 sm, .int .i64 ss, .int .i64 um, .int .i64 us, .int .i64 z, .int .i64 p, .int .i64 lo, .int .i64 hi], .int .i64 n] W fun e w' => e = .returned (.int .i64 83) ∧ Below W.heap.size W w' := by
  have hO : Hid (∀ W, Calls Try.prog 79 #[.agg #[.int .i64 6, .int .i64 a, .int .i64 b, .int .i64 m, .int .i64 kh, .int .i64 kw, .int .i64 sh, .int .i64 sw, .int .i64 tp, .int .i64 lf, .int .i64 bt, .int .i64 rt, .slice wa lw wc, .slice ba lb bc, .int .i64 sm, .int .i64 ss, .int .i64 um, .int .i64 us, .int .i64 z, .int .i64 p, .int .i64 lo, .int .i64 hi]] W fun e w' => e = .returned (.bool false) ∧ Below W.heap.size W w') := fun W => by rw [← ho]; exact others_any 6 a b m kh kw sh sw tp lf bt rt wa lw wc ba lb bc sm ss um us z p lo hi W (by decide)
  clear ho
  go_enter Try.func58, Try.ntmps58
  go_upto_region 7 with fail
  go_wp2_with (refine wpList_load_row rfl 50 (.tmp 2) rfl W.heap.size rfl 50 _ (0, 0) _ (heap_alloc_new W _) Try.underlying50 rfl (by kernel_rfl) ?_)
  refine (hO.out _).mono ?_
  rintro e w1 ⟨rfl, hb'⟩
  have s1 := (St.start W).new.call hb'
  clear hb'
  go_wp2
  go_ret
  exact ⟨rfl, s1.below⟩
set_option maxHeartbeats 1000000 in
theorem form_nfalse (k a b m kh kw sh sw tp lf bt rt : Int) (wa : Option Addr) (lw wc : Nat) (ba : Option Addr) (lb bc : Nat) (sm ss um us z p lo hi : Int) (n : Int) (W : World) (h : 1 ≤ k ∧ ¬ 8 < k ∧ ¬ a < 0 ∧ ¬ n ≤ a) (h6 : ¬ k = 6) (ho : ozB k b m kh kw sh sw tp lf bt rt lw lb sm ss um us z p = false) :
    Calls Try.prog 58 #[.agg #[.int .i64 k, .int .i64 a, .int .i64 b, .int .i64 m, .int .i64 kh, .int .i64 kw, .int .i64 sh, .int .i64 sw, .int .i64 tp, .int .i64 lf, .int .i64 bt, .int .i64 rt, .slice wa lw wc, .slice ba lb bc, .int .i64 sm, .int .i64 ss, .int .i64 um, .int .i64 us, .int .i64 z, .int .i64 p, .int .i64 lo, .int .i64 hi], .int .i64 n] W fun e w' => e = .returned (.int .i64 83) ∧ Below W.heap.size W w' := by
  have hO : Hid (∀ W, Calls Try.prog 79 #[.agg #[.int .i64 k, .int .i64 a, .int .i64 b, .int .i64 m, .int .i64 kh, .int .i64 kw, .int .i64 sh, .int .i64 sw, .int .i64 tp, .int .i64 lf, .int .i64 bt, .int .i64 rt, .slice wa lw wc, .slice ba lb bc, .int .i64 sm, .int .i64 ss, .int .i64 um, .int .i64 us, .int .i64 z, .int .i64 p, .int .i64 lo, .int .i64 hi]] W fun e w' => e = .returned (.bool false) ∧ Below W.heap.size W w') := fun W => by rw [← ho]; exact others_any k a b m kh kw sh sw tp lf bt rt wa lw wc ba lb bc sm ss um us z p lo hi W (by omega)
  have h6' : (k == 6) = false := by simpa using h6
  clear ho
  go_enter Try.func58, Try.ntmps58
  go_upto_region 7 with fail
  go_wp2_with (refine wpList_load_row rfl 50 (.tmp 2) rfl W.heap.size rfl 50 _ (0, 0) _ (heap_alloc_new W _) Try.underlying50 rfl (by kernel_rfl) ?_)
  refine (hO.out _).mono ?_
  rintro e w1 ⟨rfl, hb'⟩
  have s1 := (St.start W).new.call hb'
  clear hb'
  go_wp2
  go_ret
  exact ⟨rfl, s1.below⟩
set_option maxHeartbeats 1000000 in
theorem form_6true (a b m kh kw sh sw tp lf bt rt : Int) (wa : Option Addr) (lw wc : Nat) (ba : Option Addr) (lb bc : Nat) (sm ss um us z p lo hi n : Int) (W : World) (h : ¬ a < 0 ∧ ¬ n ≤ a ∧ ¬ b < 0 ∧ ¬ n ≤ b) (ho : ozB 6 b m kh kw sh sw tp lf bt rt lw lb sm ss um us z p = true) :
    Calls Try.prog 58 #[.agg #[.int .i64 6, .int .i64 a, .int .i64 b, .int .i64 m, .int .i64 kh, .int .i64 kw, .int .i64 sh, .int .i64 sw, .int .i64 tp, .int .i64 lf, .int .i64 bt, .int .i64 rt, .slice wa lw wc, .slice ba lb bc, .int .i64 sm, .int .i64 ss, .int .i64 um, .int .i64 us, .int .i64 z, .int .i64 p, .int .i64 lo, .int .i64 hi], .int .i64 n] W fun e w' => e = .returned (.int .i64 0) ∧ Below W.heap.size W w' := by
  have hO : Hid (∀ W, Calls Try.prog 79 #[.agg #[.int .i64 6, .int .i64 a, .int .i64 b, .int .i64 m, .int .i64 kh, .int .i64 kw, .int .i64 sh, .int .i64 sw, .int .i64 tp, .int .i64 lf, .int .i64 bt, .int .i64 rt, .slice wa lw wc, .slice ba lb bc, .int .i64 sm, .int .i64 ss, .int .i64 um, .int .i64 us, .int .i64 z, .int .i64 p, .int .i64 lo, .int .i64 hi]] W fun e w' => e = .returned (.bool true) ∧ Below W.heap.size W w') := fun W => by rw [← ho]; exact others_any 6 a b m kh kw sh sw tp lf bt rt wa lw wc ba lb bc sm ss um us z p lo hi W (by decide)
  clear ho
  go_enter Try.func58, Try.ntmps58
  go_upto_region 7 with fail
  go_wp2_with (refine wpList_load_row rfl 50 (.tmp 2) rfl W.heap.size rfl 50 _ (0, 0) _ (heap_alloc_new W _) Try.underlying50 rfl (by kernel_rfl) ?_)
  refine (hO.out _).mono ?_
  rintro e w1 ⟨rfl, hb'⟩
  have s1 := (St.start W).new.call hb'
  clear hb'
  go_wp2
  go_ret
  exact ⟨rfl, s1.below⟩
set_option maxHeartbeats 1000000 in
theorem form_ntrue (k a b m kh kw sh sw tp lf bt rt : Int) (wa : Option Addr) (lw wc : Nat) (ba : Option Addr) (lb bc : Nat) (sm ss um us z p lo hi : Int) (n : Int) (W : World) (h : 1 ≤ k ∧ ¬ 8 < k ∧ ¬ a < 0 ∧ ¬ n ≤ a) (h6 : ¬ k = 6) (ho : ozB k b m kh kw sh sw tp lf bt rt lw lb sm ss um us z p = true) :
    Calls Try.prog 58 #[.agg #[.int .i64 k, .int .i64 a, .int .i64 b, .int .i64 m, .int .i64 kh, .int .i64 kw, .int .i64 sh, .int .i64 sw, .int .i64 tp, .int .i64 lf, .int .i64 bt, .int .i64 rt, .slice wa lw wc, .slice ba lb bc, .int .i64 sm, .int .i64 ss, .int .i64 um, .int .i64 us, .int .i64 z, .int .i64 p, .int .i64 lo, .int .i64 hi], .int .i64 n] W fun e w' => e = .returned (.int .i64 0) ∧ Below W.heap.size W w' := by
  have hO : Hid (∀ W, Calls Try.prog 79 #[.agg #[.int .i64 k, .int .i64 a, .int .i64 b, .int .i64 m, .int .i64 kh, .int .i64 kw, .int .i64 sh, .int .i64 sw, .int .i64 tp, .int .i64 lf, .int .i64 bt, .int .i64 rt, .slice wa lw wc, .slice ba lb bc, .int .i64 sm, .int .i64 ss, .int .i64 um, .int .i64 us, .int .i64 z, .int .i64 p, .int .i64 lo, .int .i64 hi]] W fun e w' => e = .returned (.bool true) ∧ Below W.heap.size W w') := fun W => by rw [← ho]; exact others_any k a b m kh kw sh sw tp lf bt rt wa lw wc ba lb bc sm ss um us z p lo hi W (by omega)
  have h6' : (k == 6) = false := by simpa using h6
  clear ho
  go_enter Try.func58, Try.ntmps58
  go_upto_region 7 with fail
  go_wp2_with (refine wpList_load_row rfl 50 (.tmp 2) rfl W.heap.size rfl 50 _ (0, 0) _ (heap_alloc_new W _) Try.underlying50 rfl (by kernel_rfl) ?_)
  refine (hO.out _).mono ?_
  rintro e w1 ⟨rfl, hb'⟩
  have s1 := (St.start W).new.call hb'
  clear hb'
  go_wp2
  go_ret
  exact ⟨rfl, s1.below⟩
theorem form_any (k a b m kh kw sh sw tp lf bt rt : Int) (wa : Option Addr) (lw wc : Nat) (ba : Option Addr) (lb bc : Nat) (sm ss um us z p lo hi : Int) (n : Int) (W : World) :
    Calls Try.prog 58 #[.agg #[.int .i64 k, .int .i64 a, .int .i64 b, .int .i64 m, .int .i64 kh, .int .i64 kw, .int .i64 sh, .int .i64 sw, .int .i64 tp, .int .i64 lf, .int .i64 bt, .int .i64 rt, .slice wa lw wc, .slice ba lb bc, .int .i64 sm, .int .i64 ss, .int .i64 um, .int .i64 us, .int .i64 z, .int .i64 p, .int .i64 lo, .int .i64 hi], .int .i64 n] W fun e w' => e = .returned (.int .i64 (fmE k a b n (ozB k b m kh kw sh sw tp lf bt rt lw lb sm ss um us z p))) ∧ Below W.heap.size W w' := by
  by_cases l1 : k < 1
  · rw [← fm_81 (by omega)]; exact form_1 k a b m kh kw sh sw tp lf bt rt wa lw wc ba lb bc sm ss um us z p lo hi n W l1
  by_cases l2 : 8 < k
  · rw [← fm_81 (by omega)]; exact form_2 k a b m kh kw sh sw tp lf bt rt wa lw wc ba lb bc sm ss um us z p lo hi n W (by omega)
  by_cases l3 : a < 0
  · rw [← fm_82 (by omega) (by omega)]; exact form_3 k a b m kh kw sh sw tp lf bt rt wa lw wc ba lb bc sm ss um us z p lo hi n W (by omega)
  by_cases l4 : n ≤ a
  · rw [← fm_82 (by omega) (by omega)]; exact form_4 k a b m kh kw sh sw tp lf bt rt wa lw wc ba lb bc sm ss um us z p lo hi n W (by omega)
  by_cases k6 : k = 6
  · by_cases l5 : b < 0
    · rw [← fm_83 (by omega) (by omega) (by omega)]; exact form_5 k a b m kh kw sh sw tp lf bt rt wa lw wc ba lb bc sm ss um us z p lo hi n W k6 (by omega)
    by_cases l6 : n ≤ b
    · rw [← fm_83 (by omega) (by omega) (by omega)]; exact form_6 k a b m kh kw sh sw tp lf bt rt wa lw wc ba lb bc sm ss um us z p lo hi n W k6 (by omega)
    subst k6
    unfold fmE
    rw [if_neg (by omega), if_neg (by omega), if_neg (by omega)]
    cases ho : ozB 6 b m kh kw sh sw tp lf bt rt lw lb sm ss um us z p with
    | false => exact form_6false a b m kh kw sh sw tp lf bt rt wa lw wc ba lb bc sm ss um us z p lo hi n W (by omega) ho
    | true => exact form_6true a b m kh kw sh sw tp lf bt rt wa lw wc ba lb bc sm ss um us z p lo hi n W (by omega) ho
  · unfold fmE
    rw [if_neg (by omega), if_neg (by omega), if_neg (by omega)]
    cases ho : ozB k b m kh kw sh sw tp lf bt rt lw lb sm ss um us z p with
    | false => exact form_nfalse k a b m kh kw sh sw tp lf bt rt wa lw wc ba lb bc sm ss um us z p lo hi n W (by omega) k6 ho
    | true => exact form_ntrue k a b m kh kw sh sw tp lf bt rt wa lw wc ba lb bc sm ss um us z p lo hi n W (by omega) k6 ho
end Go.Proofs.Ythagdpiocmcbmaa
