/- othersZero at every kind. -/
import Derived.Test.YthagdpiocmcbmaaMdlB1
import Derived.Test.YthagdpiocmcbmaaMdlB2
import Derived.Test.YthagdpiocmcbmaaMdlB3
import Derived.Test.YthagdpiocmcbmaaMdlB4
import Derived.Deep.DeepCutAuto
namespace Go.Proofs.Ythagdpiocmcbmaa
open Go.ChangeShapes Go.WideShapes Go.ChangeAt Go.RowKit
set_option maxHeartbeats 4000000 in
theorem others_any (k a b m kh kw sh sw tp lf bt rt : Int) (wa : Option Addr) (lw wc : Nat) (ba : Option Addr) (lb bc : Nat) (sm ss um us z p lo hi : Int) (W : World) (hk : 1 ≤ k ∧ k ≤ 8) :
    Calls Try.prog 79 #[.agg #[.int .i64 k, .int .i64 a, .int .i64 b, .int .i64 m, .int .i64 kh, .int .i64 kw, .int .i64 sh, .int .i64 sw, .int .i64 tp, .int .i64 lf, .int .i64 bt, .int .i64 rt, .slice wa lw wc, .slice ba lb bc, .int .i64 sm, .int .i64 ss, .int .i64 um, .int .i64 us, .int .i64 z, .int .i64 p, .int .i64 lo, .int .i64 hi]] W fun e w' => e = .returned (.bool (ozB k b m kh kw sh sw tp lf bt rt lw lb sm ss um us z p)) ∧ Below W.heap.size W w' := by
  rcases eight hk with rfl | rfl | rfl | rfl | rfl | rfl | rfl | rfl
  · by_cases hn : b = 0
    rotate_left
    · rw [show ozB 1 b m kh kw sh sw tp lf bt rt lw lb sm ss um us z p = false from decide_eq_false (by omega)]; exact oz_1_0 a b m kh kw sh sw tp lf bt rt sm ss um us z p lo hi wa lw lb wc ba bc W hn
    subst hn
    by_cases hn : kh = 0 ∧ kw = 0 ∧ sh = 0 ∧ sw = 0 ∧ tp = 0 ∧ lf = 0 ∧ bt = 0 ∧ rt = 0
    rotate_left
    · rw [show ozB 1 0 m kh kw sh sw tp lf bt rt lw lb sm ss um us z p = false from decide_eq_false (by omega)]; exact oz_1_1 a m kh kw sh sw tp lf bt rt sm ss um us z p lo hi wa lw lb wc ba bc W hn
    obtain ⟨rfl, rfl, rfl, rfl, rfl, rfl, rfl, rfl⟩ := hn
    by_cases hn : um = 0 ∧ us = 0
    rotate_left
    · rw [show ozB 1 0 m 0 0 0 0 0 0 0 0 lw lb sm ss um us z p = false from decide_eq_false (by omega)]; exact oz_1_2 a m sm ss um us z p lo hi wa lw lb wc ba bc W hn
    obtain ⟨rfl, rfl⟩ := hn
    by_cases hn : p = 0
    rotate_left
    · rw [show ozB 1 0 m 0 0 0 0 0 0 0 0 lw lb sm ss 0 0 z p = false from decide_eq_false (by omega)]; exact oz_1_3 a m sm ss z p lo hi wa lw lb wc ba bc W hn
    subst hn
    rw [show ozB 1 0 m 0 0 0 0 0 0 0 0 lw lb sm ss 0 0 z 0 = true from decide_eq_true (by omega)]; exact oz_1_4 a m sm ss z lo hi wa lw lb wc ba bc W
  · by_cases hn : b = 0
    rotate_left
    · rw [show ozB 2 b m kh kw sh sw tp lf bt rt lw lb sm ss um us z p = false from decide_eq_false (by omega)]; exact oz_2_0 a b m kh kw sh sw tp lf bt rt sm ss um us z p lo hi wa lw lb wc ba bc W hn
    subst hn
    by_cases hn : um = 0 ∧ us = 0
    rotate_left
    · rw [show ozB 2 0 m kh kw sh sw tp lf bt rt lw lb sm ss um us z p = false from decide_eq_false (by omega)]; exact oz_2_1 a m kh kw sh sw tp lf bt rt sm ss um us z p lo hi wa lw lb wc ba bc W hn
    obtain ⟨rfl, rfl⟩ := hn
    rw [show ozB 2 0 m kh kw sh sw tp lf bt rt lw lb sm ss 0 0 z p = true from decide_eq_true (by omega)]; exact oz_2_2 a m kh kw sh sw tp lf bt rt sm ss z p lo hi wa lw lb wc ba bc W
  · by_cases hn : b = 0
    rotate_left
    · rw [show ozB 3 b m kh kw sh sw tp lf bt rt lw lb sm ss um us z p = false from decide_eq_false (by omega)]; exact oz_3_0 a b m kh kw sh sw tp lf bt rt sm ss um us z p lo hi wa lw lb wc ba bc W hn
    subst hn
    by_cases hn : m = 0
    rotate_left
    · rw [show ozB 3 0 m kh kw sh sw tp lf bt rt lw lb sm ss um us z p = false from decide_eq_false (by omega)]; exact oz_3_1 a m kh kw sh sw tp lf bt rt sm ss um us z p lo hi wa lw lb wc ba bc W hn
    subst hn
    by_cases hn : um = 0 ∧ us = 0
    rotate_left
    · rw [show ozB 3 0 0 kh kw sh sw tp lf bt rt lw lb sm ss um us z p = false from decide_eq_false (by omega)]; exact oz_3_2 a kh kw sh sw tp lf bt rt sm ss um us z p lo hi wa lw lb wc ba bc W hn
    obtain ⟨rfl, rfl⟩ := hn
    rw [show ozB 3 0 0 kh kw sh sw tp lf bt rt lw lb sm ss 0 0 z p = true from decide_eq_true (by omega)]; exact oz_3_3 a kh kw sh sw tp lf bt rt sm ss z p lo hi wa lw lb wc ba bc W
  · by_cases hn : b = 0
    rotate_left
    · rw [show ozB 4 b m kh kw sh sw tp lf bt rt lw lb sm ss um us z p = false from decide_eq_false (by omega)]; exact oz_4_0 a b m kh kw sh sw tp lf bt rt sm ss um us z p lo hi wa lw lb wc ba bc W hn
    subst hn
    by_cases hn : m = 0
    rotate_left
    · rw [show ozB 4 0 m kh kw sh sw tp lf bt rt lw lb sm ss um us z p = false from decide_eq_false (by omega)]; exact oz_4_1 a m kh kw sh sw tp lf bt rt sm ss um us z p lo hi wa lw lb wc ba bc W hn
    subst hn
    by_cases hn : tp = 0 ∧ lf = 0 ∧ bt = 0 ∧ rt = 0
    rotate_left
    · rw [show ozB 4 0 0 kh kw sh sw tp lf bt rt lw lb sm ss um us z p = false from decide_eq_false (by omega)]; exact oz_4_2 a kh kw sh sw tp lf bt rt sm ss um us z p lo hi wa lw lb wc ba bc W hn
    obtain ⟨rfl, rfl, rfl, rfl⟩ := hn
    by_cases hn : lw = 0
    rotate_left
    · rw [show ozB 4 0 0 kh kw sh sw 0 0 0 0 lw lb sm ss um us z p = false from decide_eq_false (by omega)]; exact oz_4_3 a kh kw sh sw sm ss um us z p lo hi wa lw lb wc ba bc W hn
    subst hn
    by_cases hn : lb = 0
    rotate_left
    · rw [show ozB 4 0 0 kh kw sh sw 0 0 0 0 0 lb sm ss um us z p = false from decide_eq_false (by omega)]; exact oz_4_4 a kh kw sh sw sm ss um us z p lo hi wa lb wc ba bc W hn
    subst hn
    by_cases hn : sm = 0 ∧ ss = 0
    rotate_left
    · rw [show ozB 4 0 0 kh kw sh sw 0 0 0 0 0 0 sm ss um us z p = false from decide_eq_false (by omega)]; exact oz_4_5 a kh kw sh sw sm ss um us z p lo hi wa wc ba bc W hn
    obtain ⟨rfl, rfl⟩ := hn
    by_cases hn : um = 0 ∧ us = 0
    rotate_left
    · rw [show ozB 4 0 0 kh kw sh sw 0 0 0 0 0 0 0 0 um us z p = false from decide_eq_false (by omega)]; exact oz_4_6 a kh kw sh sw um us z p lo hi wa wc ba bc W hn
    obtain ⟨rfl, rfl⟩ := hn
    by_cases hn : z = 0
    rotate_left
    · rw [show ozB 4 0 0 kh kw sh sw 0 0 0 0 0 0 0 0 0 0 z p = false from decide_eq_false (by omega)]; exact oz_4_7 a kh kw sh sw z p lo hi wa wc ba bc W hn
    subst hn
    by_cases hn : p = 0
    rotate_left
    · rw [show ozB 4 0 0 kh kw sh sw 0 0 0 0 0 0 0 0 0 0 0 p = false from decide_eq_false (by omega)]; exact oz_4_8 a kh kw sh sw p lo hi wa wc ba bc W hn
    subst hn
    rw [show ozB 4 0 0 kh kw sh sw 0 0 0 0 0 0 0 0 0 0 0 0 = true from decide_eq_true (by omega)]; exact oz_4_9 a kh kw sh sw lo hi wa wc ba bc W
  · by_cases hn : b = 0
    rotate_left
    · rw [show ozB 5 b m kh kw sh sw tp lf bt rt lw lb sm ss um us z p = false from decide_eq_false (by omega)]; exact oz_5_0 a b m kh kw sh sw tp lf bt rt sm ss um us z p lo hi wa lw lb wc ba bc W hn
    subst hn
    by_cases hn : m = 0
    rotate_left
    · rw [show ozB 5 0 m kh kw sh sw tp lf bt rt lw lb sm ss um us z p = false from decide_eq_false (by omega)]; exact oz_5_1 a m kh kw sh sw tp lf bt rt sm ss um us z p lo hi wa lw lb wc ba bc W hn
    subst hn
    by_cases hn : tp = 0 ∧ lf = 0 ∧ bt = 0 ∧ rt = 0
    rotate_left
    · rw [show ozB 5 0 0 kh kw sh sw tp lf bt rt lw lb sm ss um us z p = false from decide_eq_false (by omega)]; exact oz_5_2 a kh kw sh sw tp lf bt rt sm ss um us z p lo hi wa lw lb wc ba bc W hn
    obtain ⟨rfl, rfl, rfl, rfl⟩ := hn
    by_cases hn : lw = 0
    rotate_left
    · rw [show ozB 5 0 0 kh kw sh sw 0 0 0 0 lw lb sm ss um us z p = false from decide_eq_false (by omega)]; exact oz_5_3 a kh kw sh sw sm ss um us z p lo hi wa lw lb wc ba bc W hn
    subst hn
    by_cases hn : lb = 0
    rotate_left
    · rw [show ozB 5 0 0 kh kw sh sw 0 0 0 0 0 lb sm ss um us z p = false from decide_eq_false (by omega)]; exact oz_5_4 a kh kw sh sw sm ss um us z p lo hi wa lb wc ba bc W hn
    subst hn
    by_cases hn : sm = 0 ∧ ss = 0
    rotate_left
    · rw [show ozB 5 0 0 kh kw sh sw 0 0 0 0 0 0 sm ss um us z p = false from decide_eq_false (by omega)]; exact oz_5_5 a kh kw sh sw sm ss um us z p lo hi wa wc ba bc W hn
    obtain ⟨rfl, rfl⟩ := hn
    by_cases hn : um = 0 ∧ us = 0
    rotate_left
    · rw [show ozB 5 0 0 kh kw sh sw 0 0 0 0 0 0 0 0 um us z p = false from decide_eq_false (by omega)]; exact oz_5_6 a kh kw sh sw um us z p lo hi wa wc ba bc W hn
    obtain ⟨rfl, rfl⟩ := hn
    by_cases hn : z = 0
    rotate_left
    · rw [show ozB 5 0 0 kh kw sh sw 0 0 0 0 0 0 0 0 0 0 z p = false from decide_eq_false (by omega)]; exact oz_5_7 a kh kw sh sw z p lo hi wa wc ba bc W hn
    subst hn
    by_cases hn : p = 0
    rotate_left
    · rw [show ozB 5 0 0 kh kw sh sw 0 0 0 0 0 0 0 0 0 0 0 p = false from decide_eq_false (by omega)]; exact oz_5_8 a kh kw sh sw p lo hi wa wc ba bc W hn
    subst hn
    rw [show ozB 5 0 0 kh kw sh sw 0 0 0 0 0 0 0 0 0 0 0 0 = true from decide_eq_true (by omega)]; exact oz_5_9 a kh kw sh sw lo hi wa wc ba bc W
  · by_cases hn : m = 0
    rotate_left
    · rw [show ozB 6 b m kh kw sh sw tp lf bt rt lw lb sm ss um us z p = false from decide_eq_false (by omega)]; exact oz_6_0 a b m kh kw sh sw tp lf bt rt sm ss um us z p lo hi wa lw lb wc ba bc W hn
    subst hn
    by_cases hn : kh = 0 ∧ kw = 0 ∧ sh = 0 ∧ sw = 0 ∧ tp = 0 ∧ lf = 0 ∧ bt = 0 ∧ rt = 0
    rotate_left
    · rw [show ozB 6 b 0 kh kw sh sw tp lf bt rt lw lb sm ss um us z p = false from decide_eq_false (by omega)]; exact oz_6_1 a b kh kw sh sw tp lf bt rt sm ss um us z p lo hi wa lw lb wc ba bc W hn
    obtain ⟨rfl, rfl, rfl, rfl, rfl, rfl, rfl, rfl⟩ := hn
    by_cases hn : lw = 0
    rotate_left
    · rw [show ozB 6 b 0 0 0 0 0 0 0 0 0 lw lb sm ss um us z p = false from decide_eq_false (by omega)]; exact oz_6_2 a b sm ss um us z p lo hi wa lw lb wc ba bc W hn
    subst hn
    by_cases hn : lb = 0
    rotate_left
    · rw [show ozB 6 b 0 0 0 0 0 0 0 0 0 0 lb sm ss um us z p = false from decide_eq_false (by omega)]; exact oz_6_3 a b sm ss um us z p lo hi wa lb wc ba bc W hn
    subst hn
    by_cases hn : p = 0
    rotate_left
    · rw [show ozB 6 b 0 0 0 0 0 0 0 0 0 0 0 sm ss um us z p = false from decide_eq_false (by omega)]; exact oz_6_4 a b sm ss um us z p lo hi wa wc ba bc W hn
    subst hn
    rw [show ozB 6 b 0 0 0 0 0 0 0 0 0 0 0 sm ss um us z 0 = true from decide_eq_true (by omega)]; exact oz_6_5 a b sm ss um us z lo hi wa wc ba bc W
  · by_cases hn : b = 0
    rotate_left
    · rw [show ozB 7 b m kh kw sh sw tp lf bt rt lw lb sm ss um us z p = false from decide_eq_false (by omega)]; exact oz_7_0 a b m kh kw sh sw tp lf bt rt sm ss um us z p lo hi wa lw lb wc ba bc W hn
    subst hn
    by_cases hn : m = 0
    rotate_left
    · rw [show ozB 7 0 m kh kw sh sw tp lf bt rt lw lb sm ss um us z p = false from decide_eq_false (by omega)]; exact oz_7_1 a m kh kw sh sw tp lf bt rt sm ss um us z p lo hi wa lw lb wc ba bc W hn
    subst hn
    by_cases hn : kh = 0 ∧ kw = 0 ∧ sh = 0 ∧ sw = 0 ∧ tp = 0 ∧ lf = 0 ∧ bt = 0 ∧ rt = 0
    rotate_left
    · rw [show ozB 7 0 0 kh kw sh sw tp lf bt rt lw lb sm ss um us z p = false from decide_eq_false (by omega)]; exact oz_7_2 a kh kw sh sw tp lf bt rt sm ss um us z p lo hi wa lw lb wc ba bc W hn
    obtain ⟨rfl, rfl, rfl, rfl, rfl, rfl, rfl, rfl⟩ := hn
    by_cases hn : lw = 0
    rotate_left
    · rw [show ozB 7 0 0 0 0 0 0 0 0 0 0 lw lb sm ss um us z p = false from decide_eq_false (by omega)]; exact oz_7_3 a sm ss um us z p lo hi wa lw lb wc ba bc W hn
    subst hn
    by_cases hn : lb = 0
    rotate_left
    · rw [show ozB 7 0 0 0 0 0 0 0 0 0 0 0 lb sm ss um us z p = false from decide_eq_false (by omega)]; exact oz_7_4 a sm ss um us z p lo hi wa lb wc ba bc W hn
    subst hn
    by_cases hn : um = 0 ∧ us = 0
    rotate_left
    · rw [show ozB 7 0 0 0 0 0 0 0 0 0 0 0 0 sm ss um us z p = false from decide_eq_false (by omega)]; exact oz_7_5 a sm ss um us z p lo hi wa wc ba bc W hn
    obtain ⟨rfl, rfl⟩ := hn
    by_cases hn : p = 0
    rotate_left
    · rw [show ozB 7 0 0 0 0 0 0 0 0 0 0 0 0 sm ss 0 0 z p = false from decide_eq_false (by omega)]; exact oz_7_6 a sm ss z p lo hi wa wc ba bc W hn
    subst hn
    rw [show ozB 7 0 0 0 0 0 0 0 0 0 0 0 0 sm ss 0 0 z 0 = true from decide_eq_true (by omega)]; exact oz_7_7 a sm ss z lo hi wa wc ba bc W
  · by_cases hn : b = 0
    rotate_left
    · rw [show ozB 8 b m kh kw sh sw tp lf bt rt lw lb sm ss um us z p = false from decide_eq_false (by omega)]; exact oz_8_0 a b m kh kw sh sw tp lf bt rt sm ss um us z p lo hi wa lw lb wc ba bc W hn
    subst hn
    by_cases hn : m = 0
    rotate_left
    · rw [show ozB 8 0 m kh kw sh sw tp lf bt rt lw lb sm ss um us z p = false from decide_eq_false (by omega)]; exact oz_8_1 a m kh kw sh sw tp lf bt rt sm ss um us z p lo hi wa lw lb wc ba bc W hn
    subst hn
    by_cases hn : kh = 0 ∧ kw = 0 ∧ sh = 0 ∧ sw = 0 ∧ tp = 0 ∧ lf = 0 ∧ bt = 0 ∧ rt = 0
    rotate_left
    · rw [show ozB 8 0 0 kh kw sh sw tp lf bt rt lw lb sm ss um us z p = false from decide_eq_false (by omega)]; exact oz_8_2 a kh kw sh sw tp lf bt rt sm ss um us z p lo hi wa lw lb wc ba bc W hn
    obtain ⟨rfl, rfl, rfl, rfl, rfl, rfl, rfl, rfl⟩ := hn
    by_cases hn : lw = 0
    rotate_left
    · rw [show ozB 8 0 0 0 0 0 0 0 0 0 0 lw lb sm ss um us z p = false from decide_eq_false (by omega)]; exact oz_8_3 a sm ss um us z p lo hi wa lw lb wc ba bc W hn
    subst hn
    by_cases hn : lb = 0
    rotate_left
    · rw [show ozB 8 0 0 0 0 0 0 0 0 0 0 0 lb sm ss um us z p = false from decide_eq_false (by omega)]; exact oz_8_4 a sm ss um us z p lo hi wa lb wc ba bc W hn
    subst hn
    by_cases hn : sm = 0 ∧ ss = 0
    rotate_left
    · rw [show ozB 8 0 0 0 0 0 0 0 0 0 0 0 0 sm ss um us z p = false from decide_eq_false (by omega)]; exact oz_8_5 a sm ss um us z p lo hi wa wc ba bc W hn
    obtain ⟨rfl, rfl⟩ := hn
    by_cases hn : um = 0 ∧ us = 0
    rotate_left
    · rw [show ozB 8 0 0 0 0 0 0 0 0 0 0 0 0 0 0 um us z p = false from decide_eq_false (by omega)]; exact oz_8_6 a um us z p lo hi wa wc ba bc W hn
    obtain ⟨rfl, rfl⟩ := hn
    by_cases hn : z = 0
    rotate_left
    · rw [show ozB 8 0 0 0 0 0 0 0 0 0 0 0 0 0 0 0 0 z p = false from decide_eq_false (by omega)]; exact oz_8_7 a z p lo hi wa wc ba bc W hn
    subst hn
    by_cases hn : p = 0
    rotate_left
    · rw [show ozB 8 0 0 0 0 0 0 0 0 0 0 0 0 0 0 0 0 0 p = false from decide_eq_false (by omega)]; exact oz_8_8 a p lo hi wa wc ba bc W hn
    subst hn
    rw [show ozB 8 0 0 0 0 0 0 0 0 0 0 0 0 0 0 0 0 0 0 = true from decide_eq_true (by omega)]; exact oz_8_9 a lo hi wa wc ba bc W
end Go.Proofs.Ythagdpiocmcbmaa
