/- othersZero at every kind. Ops in plain numbers: what they make, their errors, their work; small laws of memory. form of package model: what it returns. -/
import Derived.Test.YtcjnhchjikcigaaGr03
import Derived.Test.YtcjnhchjikcigaaGr06
import Derived.Test.YtcjnhchjikcigaaGr07
import Derived.Test.YtcjnhchjikcigaaGr08
import Derived.Test.YtcjnhchjikcigaaGr09
import Derived.Deep.DeepCutAuto
/- othersZero at every kind. -/
namespace Go.Proofs.Ytcjnhchjikcigaa
open Go.ChangeShapes Go.WideShapes Go.ChangeAt Go.RowKit
set_option maxHeartbeats 4000000 in
theorem others_any (k a b m kh kw sh sw tp lf bt rt : Int) (wa : Option Addr) (lw wc : Nat) (ba : Option Addr) (lb bc : Nat) (sm ss um us z p lo hi : Int) (W : World) (hk : 1 ≤ k ∧ k ≤ 8) :
    Calls Try.prog 70 #[.agg #[.int .i64 k, .int .i64 a, .int .i64 b, .int .i64 m, .int .i64 kh, .int .i64 kw, .int .i64 sh, .int .i64 sw, .int .i64 tp, .int .i64 lf, .int .i64 bt, .int .i64 rt, .slice wa lw wc, .slice ba lb bc, .int .i64 sm, .int .i64 ss, .int .i64 um, .int .i64 us, .int .i64 z, .int .i64 p, .int .i64 lo, .int .i64 hi]] W fun e w' => e = .returned (.bool (ozB k b m kh kw sh sw tp lf bt rt lw lb sm ss um us z p)) ∧ Below W.heap.size W w' := by
  rcases eight hk with rfl | rfl | rfl | rfl | rfl | rfl | rfl | rfl
  · by_cases hn : b = 0
    rotate_left
    · rw [show ozB 1 b m kh kw sh sw tp lf bt rt lw lb sm ss um us z p = false from decide_eq_false (by omega)]; exact oz_1_0 a b m kh kw sh sw tp lf bt rt sm ss um us z p lo hi wa lw lb wc ba bc W hn
    subst hn
    by_cases hn : kh = 0 ∧ kw = 0 ∧ sh = 0 ∧ sw = 0 ∧ tp = 0 ∧ lf = 0 ∧ bt = 0 ∧ rt = 0
    rotate_left
    · rw [show ozB 1 0 m kh kw sh sw tp lf bt rt lw lb sm ss um us z p = false from decide_eq_false (by omega)]; exact oz_1_1 a m kh kw sh sw tp lf bt rt sm ss um us z p lo hi wa lw lb wc ba bc W hn
    obtain ⟨rfl, rfl, rfl, rfl, rfl, rfl, rfl, rfl⟩ := hn
    by_cases hn : um = 0 ∧ us = 0
    rotate_left
    · rw [show ozB 1 0 m 0 0 0 0 0 0 0 0 lw lb sm ss um us z p = false from decide_eq_false (by omega)]; exact oz_1_2 a m sm ss um us z p lo hi wa lw lb wc ba bc W hn
    obtain ⟨rfl, rfl⟩ := hn
    by_cases hn : p = 0
    rotate_left
    · rw [show ozB 1 0 m 0 0 0 0 0 0 0 0 lw lb sm ss 0 0 z p = false from decide_eq_false (by omega)]; exact oz_1_3 a m sm ss z p lo hi wa lw lb wc ba bc W hn
    subst hn
    rw [show ozB 1 0 m 0 0 0 0 0 0 0 0 lw lb sm ss 0 0 z 0 = true from decide_eq_true (by omega)]; exact oz_1_4 a m sm ss z lo hi wa lw lb wc ba bc W
  · by_cases hn : b = 0
    rotate_left
    · rw [show ozB 2 b m kh kw sh sw tp lf bt rt lw lb sm ss um us z p = false from decide_eq_false (by omega)]; exact oz_2_0 a b m kh kw sh sw tp lf bt rt sm ss um us z p lo hi wa lw lb wc ba bc W hn
    subst hn
    by_cases hn : um = 0 ∧ us = 0
    rotate_left
    · rw [show ozB 2 0 m kh kw sh sw tp lf bt rt lw lb sm ss um us z p = false from decide_eq_false (by omega)]; exact oz_2_1 a m kh kw sh sw tp lf bt rt sm ss um us z p lo hi wa lw lb wc ba bc W hn
    obtain ⟨rfl, rfl⟩ := hn
    rw [show ozB 2 0 m kh kw sh sw tp lf bt rt lw lb sm ss 0 0 z p = true from decide_eq_true (by omega)]; exact oz_2_2 a m kh kw sh sw tp lf bt rt sm ss z p lo hi wa lw lb wc ba bc W
  · by_cases hn : b = 0
    rotate_left
    · rw [show ozB 3 b m kh kw sh sw tp lf bt rt lw lb sm ss um us z p = false from decide_eq_false (by omega)]; exact oz_3_0 a b m kh kw sh sw tp lf bt rt sm ss um us z p lo hi wa lw lb wc ba bc W hn
    subst hn
    by_cases hn : m = 0
    rotate_left
    · rw [show ozB 3 0 m kh kw sh sw tp lf bt rt lw lb sm ss um us z p = false from decide_eq_false (by omega)]; exact oz_3_1 a m kh kw sh sw tp lf bt rt sm ss um us z p lo hi wa lw lb wc ba bc W hn
    subst hn
    by_cases hn : um = 0 ∧ us = 0
    rotate_left
    · rw [show ozB 3 0 0 kh kw sh sw tp lf bt rt lw lb sm ss um us z p = false from decide_eq_false (by omega)]; exact oz_3_2 a kh kw sh sw tp lf bt rt sm ss um us z p lo hi wa lw lb wc ba bc W hn
    obtain ⟨rfl, rfl⟩ := hn
    rw [show ozB 3 0 0 kh kw sh sw tp lf bt rt lw lb sm ss 0 0 z p = true from decide_eq_true (by omega)]; exact oz_3_3 a kh kw sh sw tp lf bt rt sm ss z p lo hi wa lw lb wc ba bc W
  · by_cases hn : b = 0
    rotate_left
    · rw [show ozB 4 b m kh kw sh sw tp lf bt rt lw lb sm ss um us z p = false from decide_eq_false (by omega)]; exact oz_4_0 a b m kh kw sh sw tp lf bt rt sm ss um us z p lo hi wa lw lb wc ba bc W hn
    subst hn
    by_cases hn : m = 0
    rotate_left
    · rw [show ozB 4 0 m kh kw sh sw tp lf bt rt lw lb sm ss um us z p = false from decide_eq_false (by omega)]; exact oz_4_1 a m kh kw sh sw tp lf bt rt sm ss um us z p lo hi wa lw lb wc ba bc W hn
    subst hn
    by_cases hn : tp = 0 ∧ lf = 0 ∧ bt = 0 ∧ rt = 0
    rotate_left
    · rw [show ozB 4 0 0 kh kw sh sw tp lf bt rt lw lb sm ss um us z p = false from decide_eq_false (by omega)]; exact oz_4_2 a kh kw sh sw tp lf bt rt sm ss um us z p lo hi wa lw lb wc ba bc W hn
    obtain ⟨rfl, rfl, rfl, rfl⟩ := hn
    by_cases hn : lw = 0
    rotate_left
    · rw [show ozB 4 0 0 kh kw sh sw 0 0 0 0 lw lb sm ss um us z p = false from decide_eq_false (by omega)]; exact oz_4_3 a kh kw sh sw sm ss um us z p lo hi wa lw lb wc ba bc W hn
    subst hn
    by_cases hn : lb = 0
    rotate_left
    · rw [show ozB 4 0 0 kh kw sh sw 0 0 0 0 0 lb sm ss um us z p = false from decide_eq_false (by omega)]; exact oz_4_4 a kh kw sh sw sm ss um us z p lo hi wa lb wc ba bc W hn
    subst hn
    by_cases hn : sm = 0 ∧ ss = 0
    rotate_left
    · rw [show ozB 4 0 0 kh kw sh sw 0 0 0 0 0 0 sm ss um us z p = false from decide_eq_false (by omega)]; exact oz_4_5 a kh kw sh sw sm ss um us z p lo hi wa wc ba bc W hn
    obtain ⟨rfl, rfl⟩ := hn
    by_cases hn : um = 0 ∧ us = 0
    rotate_left
    · rw [show ozB 4 0 0 kh kw sh sw 0 0 0 0 0 0 0 0 um us z p = false from decide_eq_false (by omega)]; exact oz_4_6 a kh kw sh sw um us z p lo hi wa wc ba bc W hn
    obtain ⟨rfl, rfl⟩ := hn
    by_cases hn : z = 0
    rotate_left
    · rw [show ozB 4 0 0 kh kw sh sw 0 0 0 0 0 0 0 0 0 0 z p = false from decide_eq_false (by omega)]; exact oz_4_7 a kh kw sh sw z p lo hi wa wc ba bc W hn
    subst hn
    by_cases hn : p = 0
    rotate_left
    · rw [show ozB 4 0 0 kh kw sh sw 0 0 0 0 0 0 0 0 0 0 0 p = false from decide_eq_false (by omega)]; exact oz_4_8 a kh kw sh sw p lo hi wa wc ba bc W hn
    subst hn
    rw [show ozB 4 0 0 kh kw sh sw 0 0 0 0 0 0 0 0 0 0 0 0 = true from decide_eq_true (by omega)]; exact oz_4_9 a kh kw sh sw lo hi wa wc ba bc W
  · by_cases hn : b = 0
    rotate_left
    · rw [show ozB 5 b m kh kw sh sw tp lf bt rt lw lb sm ss um us z p = false from decide_eq_false (by omega)]; exact oz_5_0 a b m kh kw sh sw tp lf bt rt sm ss um us z p lo hi wa lw lb wc ba bc W hn
    subst hn
    by_cases hn : m = 0
    rotate_left
    · rw [show ozB 5 0 m kh kw sh sw tp lf bt rt lw lb sm ss um us z p = false from decide_eq_false (by omega)]; exact oz_5_1 a m kh kw sh sw tp lf bt rt sm ss um us z p lo hi wa lw lb wc ba bc W hn
    subst hn
    by_cases hn : tp = 0 ∧ lf = 0 ∧ bt = 0 ∧ rt = 0
    rotate_left
    · rw [show ozB 5 0 0 kh kw sh sw tp lf bt rt lw lb sm ss um us z p = false from decide_eq_false (by omega)]; exact oz_5_2 a kh kw sh sw tp lf bt rt sm ss um us z p lo hi wa lw lb wc ba bc W hn
    obtain ⟨rfl, rfl, rfl, rfl⟩ := hn
    by_cases hn : lw = 0
    rotate_left
    · rw [show ozB 5 0 0 kh kw sh sw 0 0 0 0 lw lb sm ss um us z p = false from decide_eq_false (by omega)]; exact oz_5_3 a kh kw sh sw sm ss um us z p lo hi wa lw lb wc ba bc W hn
    subst hn
    by_cases hn : lb = 0
    rotate_left
    · rw [show ozB 5 0 0 kh kw sh sw 0 0 0 0 0 lb sm ss um us z p = false from decide_eq_false (by omega)]; exact oz_5_4 a kh kw sh sw sm ss um us z p lo hi wa lb wc ba bc W hn
    subst hn
    by_cases hn : sm = 0 ∧ ss = 0
    rotate_left
    · rw [show ozB 5 0 0 kh kw sh sw 0 0 0 0 0 0 sm ss um us z p = false from decide_eq_false (by omega)]; exact oz_5_5 a kh kw sh sw sm ss um us z p lo hi wa wc ba bc W hn
    obtain ⟨rfl, rfl⟩ := hn
    by_cases hn : um = 0 ∧ us = 0
    rotate_left
    · rw [show ozB 5 0 0 kh kw sh sw 0 0 0 0 0 0 0 0 um us z p = false from decide_eq_false (by omega)]; exact oz_5_6 a kh kw sh sw um us z p lo hi wa wc ba bc W hn
    obtain ⟨rfl, rfl⟩ := hn
    by_cases hn : z = 0
    rotate_left
    · rw [show ozB 5 0 0 kh kw sh sw 0 0 0 0 0 0 0 0 0 0 z p = false from decide_eq_false (by omega)]; exact oz_5_7 a kh kw sh sw z p lo hi wa wc ba bc W hn
    subst hn
    by_cases hn : p = 0
    rotate_left
    · rw [show ozB 5 0 0 kh kw sh sw 0 0 0 0 0 0 0 0 0 0 0 p = false from decide_eq_false (by omega)]; exact oz_5_8 a kh kw sh sw p lo hi wa wc ba bc W hn
    subst hn
    rw [show ozB 5 0 0 kh kw sh sw 0 0 0 0 0 0 0 0 0 0 0 0 = true from decide_eq_true (by omega)]; exact oz_5_9 a kh kw sh sw lo hi wa wc ba bc W
  · by_cases hn : m = 0
    rotate_left
    · rw [show ozB 6 b m kh kw sh sw tp lf bt rt lw lb sm ss um us z p = false from decide_eq_false (by omega)]; exact oz_6_0 a b m kh kw sh sw tp lf bt rt sm ss um us z p lo hi wa lw lb wc ba bc W hn
    subst hn
    by_cases hn : kh = 0 ∧ kw = 0 ∧ sh = 0 ∧ sw = 0 ∧ tp = 0 ∧ lf = 0 ∧ bt = 0 ∧ rt = 0
    rotate_left
    · rw [show ozB 6 b 0 kh kw sh sw tp lf bt rt lw lb sm ss um us z p = false from decide_eq_false (by omega)]; exact oz_6_1 a b kh kw sh sw tp lf bt rt sm ss um us z p lo hi wa lw lb wc ba bc W hn
    obtain ⟨rfl, rfl, rfl, rfl, rfl, rfl, rfl, rfl⟩ := hn
    by_cases hn : lw = 0
    rotate_left
    · rw [show ozB 6 b 0 0 0 0 0 0 0 0 0 lw lb sm ss um us z p = false from decide_eq_false (by omega)]; exact oz_6_2 a b sm ss um us z p lo hi wa lw lb wc ba bc W hn
    subst hn
    by_cases hn : lb = 0
    rotate_left
    · rw [show ozB 6 b 0 0 0 0 0 0 0 0 0 0 lb sm ss um us z p = false from decide_eq_false (by omega)]; exact oz_6_3 a b sm ss um us z p lo hi wa lb wc ba bc W hn
    subst hn
    by_cases hn : p = 0
    rotate_left
    · rw [show ozB 6 b 0 0 0 0 0 0 0 0 0 0 0 sm ss um us z p = false from decide_eq_false (by omega)]; exact oz_6_4 a b sm ss um us z p lo hi wa wc ba bc W hn
    subst hn
    rw [show ozB 6 b 0 0 0 0 0 0 0 0 0 0 0 sm ss um us z 0 = true from decide_eq_true (by omega)]; exact oz_6_5 a b sm ss um us z lo hi wa wc ba bc W
  · by_cases hn : b = 0
    rotate_left
    · rw [show ozB 7 b m kh kw sh sw tp lf bt rt lw lb sm ss um us z p = false from decide_eq_false (by omega)]; exact oz_7_0 a b m kh kw sh sw tp lf bt rt sm ss um us z p lo hi wa lw lb wc ba bc W hn
    subst hn
    by_cases hn : m = 0
    rotate_left
    · rw [show ozB 7 0 m kh kw sh sw tp lf bt rt lw lb sm ss um us z p = false from decide_eq_false (by omega)]; exact oz_7_1 a m kh kw sh sw tp lf bt rt sm ss um us z p lo hi wa lw lb wc ba bc W hn
    subst hn
    by_cases hn : kh = 0 ∧ kw = 0 ∧ sh = 0 ∧ sw = 0 ∧ tp = 0 ∧ lf = 0 ∧ bt = 0 ∧ rt = 0
    rotate_left
    · rw [show ozB 7 0 0 kh kw sh sw tp lf bt rt lw lb sm ss um us z p = false from decide_eq_false (by omega)]; exact oz_7_2 a kh kw sh sw tp lf bt rt sm ss um us z p lo hi wa lw lb wc ba bc W hn
    obtain ⟨rfl, rfl, rfl, rfl, rfl, rfl, rfl, rfl⟩ := hn
    by_cases hn : lw = 0
    rotate_left
    · rw [show ozB 7 0 0 0 0 0 0 0 0 0 0 lw lb sm ss um us z p = false from decide_eq_false (by omega)]; exact oz_7_3 a sm ss um us z p lo hi wa lw lb wc ba bc W hn
    subst hn
    by_cases hn : lb = 0
    rotate_left
    · rw [show ozB 7 0 0 0 0 0 0 0 0 0 0 0 lb sm ss um us z p = false from decide_eq_false (by omega)]; exact oz_7_4 a sm ss um us z p lo hi wa lb wc ba bc W hn
    subst hn
    by_cases hn : um = 0 ∧ us = 0
    rotate_left
    · rw [show ozB 7 0 0 0 0 0 0 0 0 0 0 0 0 sm ss um us z p = false from decide_eq_false (by omega)]; exact oz_7_5 a sm ss um us z p lo hi wa wc ba bc W hn
    obtain ⟨rfl, rfl⟩ := hn
    by_cases hn : p = 0
    rotate_left
    · rw [show ozB 7 0 0 0 0 0 0 0 0 0 0 0 0 sm ss 0 0 z p = false from decide_eq_false (by omega)]; exact oz_7_6 a sm ss z p lo hi wa wc ba bc W hn
    subst hn
    rw [show ozB 7 0 0 0 0 0 0 0 0 0 0 0 0 sm ss 0 0 z 0 = true from decide_eq_true (by omega)]; exact oz_7_7 a sm ss z lo hi wa wc ba bc W
  · by_cases hn : b = 0
    rotate_left
    · rw [show ozB 8 b m kh kw sh sw tp lf bt rt lw lb sm ss um us z p = false from decide_eq_false (by omega)]; exact oz_8_0 a b m kh kw sh sw tp lf bt rt sm ss um us z p lo hi wa lw lb wc ba bc W hn
    subst hn
    by_cases hn : m = 0
    rotate_left
    · rw [show ozB 8 0 m kh kw sh sw tp lf bt rt lw lb sm ss um us z p = false from decide_eq_false (by omega)]; exact oz_8_1 a m kh kw sh sw tp lf bt rt sm ss um us z p lo hi wa lw lb wc ba bc W hn
    subst hn
    by_cases hn : kh = 0 ∧ kw = 0 ∧ sh = 0 ∧ sw = 0 ∧ tp = 0 ∧ lf = 0 ∧ bt = 0 ∧ rt = 0
    rotate_left
    · rw [show ozB 8 0 0 kh kw sh sw tp lf bt rt lw lb sm ss um us z p = false from decide_eq_false (by omega)]; exact oz_8_2 a kh kw sh sw tp lf bt rt sm ss um us z p lo hi wa lw lb wc ba bc W hn
    obtain ⟨rfl, rfl, rfl, rfl, rfl, rfl, rfl, rfl⟩ := hn
    by_cases hn : lw = 0
    rotate_left
    · rw [show ozB 8 0 0 0 0 0 0 0 0 0 0 lw lb sm ss um us z p = false from decide_eq_false (by omega)]; exact oz_8_3 a sm ss um us z p lo hi wa lw lb wc ba bc W hn
    subst hn
    by_cases hn : lb = 0
    rotate_left
    · rw [show ozB 8 0 0 0 0 0 0 0 0 0 0 0 lb sm ss um us z p = false from decide_eq_false (by omega)]; exact oz_8_4 a sm ss um us z p lo hi wa lb wc ba bc W hn
    subst hn
    by_cases hn : sm = 0 ∧ ss = 0
    rotate_left
    · rw [show ozB 8 0 0 0 0 0 0 0 0 0 0 0 0 sm ss um us z p = false from decide_eq_false (by omega)]; exact oz_8_5 a sm ss um us z p lo hi wa wc ba bc W hn
    obtain ⟨rfl, rfl⟩ := hn
    by_cases hn : um = 0 ∧ us = 0
    rotate_left
    · rw [show ozB 8 0 0 0 0 0 0 0 0 0 0 0 0 0 0 um us z p = false from decide_eq_false (by omega)]; exact oz_8_6 a um us z p lo hi wa wc ba bc W hn
    obtain ⟨rfl, rfl⟩ := hn
    by_cases hn : z = 0
    rotate_left
    · rw [show ozB 8 0 0 0 0 0 0 0 0 0 0 0 0 0 0 0 0 z p = false from decide_eq_false (by omega)]; exact oz_8_7 a z p lo hi wa wc ba bc W hn
    subst hn
    by_cases hn : p = 0
    rotate_left
    · rw [show ozB 8 0 0 0 0 0 0 0 0 0 0 0 0 0 0 0 0 0 p = false from decide_eq_false (by omega)]; exact oz_8_8 a p lo hi wa wc ba bc W hn
    subst hn
    rw [show ozB 8 0 0 0 0 0 0 0 0 0 0 0 0 0 0 0 0 0 0 = true from decide_eq_true (by omega)]; exact oz_8_9 a lo hi wa wc ba bc W
end Go.Proofs.Ytcjnhchjikcigaa

/- Ops in plain numbers: what they make, their errors, their work; small laws of memory. -/
namespace Go.Proofs.Ytcjnhchjikcigaa
open Go.ChangeShapes Go.WideShapes Go.ChangeAt Go.RowKit
/-! ### In plain numbers -/
def fmE (k a b n : Int) (oz : Bool) : Int := if ¬ (1 ≤ k ∧ k ≤ 8) then 81 else if ¬ (0 ≤ a ∧ a < n) then 82 else if k = 6 ∧ ¬ (0 ≤ b ∧ b < n) then 82 else if oz = false then 83 else 0
theorem fmE_0 {k a b n : Int} {oz : Bool} (h : fmE k a b n oz = 0) : (1 ≤ k ∧ k ≤ 8) ∧ (0 ≤ a ∧ a < n) ∧ (k = 6 → 0 ≤ b ∧ b < n) ∧ oz = true := by
  unfold fmE at h
  by_cases h1 : 1 ≤ k ∧ k ≤ 8
  · by_cases h2 : 0 ≤ a ∧ a < n
    · by_cases h3 : k = 6 ∧ ¬ (0 ≤ b ∧ b < n)
      · rw [if_neg (by simp [h1]), if_neg (by simp [h2]), if_pos h3] at h; cases h
      · cases oz with
        | false => rw [if_neg (by simp [h1]), if_neg (by simp [h2]), if_neg h3, if_pos rfl] at h; cases h
        | true => exact ⟨h1, h2, fun e => by omega, rfl⟩
    · rw [if_neg (by simp [h1]), if_pos h2] at h; cases h
  · rw [if_pos h1] at h; cases h
theorem fm_81 {k a b n : Int} {oz : Bool} (h : ¬ (1 ≤ k ∧ k ≤ 8)) : 81 = fmE k a b n oz := by unfold fmE; rw [if_pos h]
theorem fm_82 {k a b n : Int} {oz : Bool} (h1 : 1 ≤ k ∧ k ≤ 8) (h : ¬ (0 ≤ a ∧ a < n)) : 82 = fmE k a b n oz := by unfold fmE; rw [if_neg (by simp [h1]), if_pos h]
theorem fm_83 {k a b n : Int} {oz : Bool} (h1 : 1 ≤ k ∧ k ≤ 8) (h2 : 0 ≤ a ∧ a < n) (h : k = 6 ∧ ¬ (0 ≤ b ∧ b < n)) : 82 = fmE k a b n oz := by unfold fmE; rw [if_neg (by simp [h1]), if_neg (by simp [h2]), if_pos h]
/-- The shape that an op makes; the error of its window. -/
def mkS (k m kh kw sh sw tp lf bt rt h w c : Int) : Int × Int × Int :=
  if k = 1 then (1, 1, m) else if k = 2 then ((ouR h w c kh kw sh sw tp lf bt rt).1, (ouR h w c kh kw sh sw tp lf bt rt).2.1, m) else if k ≤ 5 then ((ouR h w c kh kw sh sw tp lf bt rt).1, (ouR h w c kh kw sh sw tp lf bt rt).2.1, c) else (h, w, c)
def mkW (k kh kw sh sw tp lf bt rt h w c : Int) : Int := if 2 ≤ k ∧ k ≤ 5 then (ouR h w c kh kw sh sw tp lf bt rt).2.2 else 0
def mkM (k m : Int) : Bool := decide (k ≤ 2 → 1 ≤ m ∧ m ≤ 1024)
def vS3 (s : Int × Int × Int) : Bool := vS s.1 s.2.1 s.2.2
def mkE (k m kh kw sh sw tp lf bt rt h w c : Int) : Int :=
  if mkM k m = false then 2 else if mkW k kh kw sh sw tp lf bt rt h w c ≠ 0 then mkW k kh kw sh sw tp lf bt rt h w c else if vS3 (mkS k m kh kw sh sw tp lf bt rt h w c) = false then 50 else 0
def mkO (k m kh kw sh sw tp lf bt rt h w c : Int) : Int × Int × Int := if mkE k m kh kw sh sw tp lf bt rt h w c = 0 then mkS k m kh kw sh sw tp lf bt rt h w c else (0, 0, 0)
/-- The work of one number. -/
def stR (k kh kw h w c : Int) : Int := if k = 1 then h * w * c else if k = 2 then kh * kw * c else if k ≤ 5 then kh * kw else 1
/-- Lists, scales, ranges. -/
def leB (k ch n : Int) (lw lb : Nat) : Bool := decide (k ≤ 3 → (lw : Int) = ch * n ∧ (lb : Int) = ch)
def ssB (k sm ss um us : Int) : Bool := (!scK k || scB sm ss) && (!(k == 6) || scB um us)
def rzB (z p lo hi : Int) : Bool := rgB lo hi && vlB z && vlB p
def nuE (k ch n : Int) (lw lb : Nat) (sm ss um us z p lo hi : Int) : Int := if leB k ch n lw lb = false then 70 else if ssB k sm ss um us = false then 20 else if rzB z p lo hi = false then 85 else 0
/-! ### The walks -/
theorem St.h1 {w0 w : World} {B : Nat} {c : Array Value} {T : TypeId} {l : List (Nat × Array Value × TypeId)} (h : St w0 w ((B, c, T) :: l)) : w.heap[B]? = some (.cells c T (0, 0)) := (h.2 _ List.mem_cons_self).1
theorem St.h2 {w0 w : World} {B : Nat} {c : Array Value} {T : TypeId} {x : Nat × Array Value × TypeId} {l : List (Nat × Array Value × TypeId)} (h : St w0 w (x :: (B, c, T) :: l)) : w.heap[B]? = some (.cells c T (0, 0)) := h.tail.h1
theorem St.h3 {w0 w : World} {B : Nat} {c : Array Value} {T : TypeId} {x y : Nat × Array Value × TypeId} {l : List (Nat × Array Value × TypeId)} (h : St w0 w (x :: y :: (B, c, T) :: l)) : w.heap[B]? = some (.cells c T (0, 0)) := h.tail.tail.h1
theorem St.h4 {w0 w : World} {B : Nat} {c : Array Value} {T : TypeId} {x y z : Nat × Array Value × TypeId} {l : List (Nat × Array Value × TypeId)} (h : St w0 w (x :: y :: z :: (B, c, T) :: l)) : w.heap[B]? = some (.cells c T (0, 0)) := h.tail.tail.tail.h1
/-- Its two answers in one. -/
theorem ret4 {h w c e h' w' c' e' : Int} (h1 : h = h') (h2 : w = w') (h3 : c = c') (h4 : e = e') : Ending.returned (.tuple #[.agg #[.int .i64 h, .int .i64 w, .int .i64 c], .int .i64 e]) = .returned (.tuple #[.agg #[.int .i64 h', .int .i64 w', .int .i64 c'], .int .i64 e']) := by rw [h1, h2, h3, h4]
theorem set3b {w0 w : World} {B N : Nat} {a b c : Value} (h : Below B w0 w) (hN : B ≤ N) : Below B w0 (((w.setCell ⟨N, 0, none⟩ a).setCell ⟨N, 1, none⟩ b).setCell ⟨N, 2, none⟩ c) :=
  ((h.setCell (p := ⟨N, 0, none⟩) hN a).setCell (p := ⟨N, 1, none⟩) hN b).setCell (p := ⟨N, 2, none⟩) hN c
theorem St.set01 {w0 w : World} {B : Nat} {a b c u v : Value} {t : TypeId} {l : List (Nat × Array Value × TypeId)} (h : St w0 w ((B, #[a, b, c], t) :: l)) (hl : ∀ x ∈ l, x.1 ≠ B) :
    St w0 ((w.setCell ⟨B, 0, none⟩ u).setCell ⟨B, 1, none⟩ v) ((B, #[u, v, c], t) :: l) := (h.set hl (i := 0) (v := u)).set hl (i := 1) (v := v)
theorem St.set012 {w0 w : World} {B : Nat} {a b c u v x : Value} {t : TypeId} {l : List (Nat × Array Value × TypeId)} (h : St w0 w ((B, #[a, b, c], t) :: l)) (hl : ∀ x ∈ l, x.1 ≠ B) :
    St w0 (((w.setCell ⟨B, 0, none⟩ u).setCell ⟨B, 1, none⟩ v).setCell ⟨B, 2, none⟩ x) ((B, #[u, v, x], t) :: l) := (h.set01 hl).set hl (i := 2) (v := x)
theorem mkE_M {k m kh kw sh sw tp lf bt rt h w c : Int} (g : mkM k m = false) : mkE k m kh kw sh sw tp lf bt rt h w c = 2 := by unfold mkE; rw [if_pos g]
theorem mkE_W {k m kh kw sh sw tp lf bt rt h w c e : Int} (g : mkM k m = true) (hw : mkW k kh kw sh sw tp lf bt rt h w c = e) (he : e ≠ 0) : mkE k m kh kw sh sw tp lf bt rt h w c = e := by unfold mkE; rw [if_neg (by rw [g]; decide), hw, if_pos he]
theorem mkE_V {k m kh kw sh sw tp lf bt rt h w c : Int} (g : mkM k m = true) (hw : mkW k kh kw sh sw tp lf bt rt h w c = 0) (hv : vS3 (mkS k m kh kw sh sw tp lf bt rt h w c) = false) : mkE k m kh kw sh sw tp lf bt rt h w c = 50 := by unfold mkE; rw [if_neg (by rw [g]; decide), hw, if_neg (by decide), if_pos hv]
theorem mkE_0 {k m kh kw sh sw tp lf bt rt h w c : Int} (g : mkM k m = true) (hw : mkW k kh kw sh sw tp lf bt rt h w c = 0) (hv : vS3 (mkS k m kh kw sh sw tp lf bt rt h w c) = true) : mkE k m kh kw sh sw tp lf bt rt h w c = 0 := by unfold mkE; rw [if_neg (by rw [g]; decide), hw, if_neg (by decide), if_neg (by rw [hv]; decide)]
theorem mkO_no {k m kh kw sh sw tp lf bt rt h w c e : Int} (g : mkE k m kh kw sh sw tp lf bt rt h w c = e) (he : e ≠ 0) : mkO k m kh kw sh sw tp lf bt rt h w c = (0, 0, 0) := by unfold mkO; rw [if_neg (by rw [g]; exact he)]
theorem mkO_ok {k m kh kw sh sw tp lf bt rt h w c : Int} (g : mkE k m kh kw sh sw tp lf bt rt h w c = 0) : mkO k m kh kw sh sw tp lf bt rt h w c = mkS k m kh kw sh sw tp lf bt rt h w c := by unfold mkO; rw [if_pos g]
end Go.Proofs.Ytcjnhchjikcigaa

/- form of package model: what it returns. -/
namespace Go.Proofs.Ytcjnhchjikcigaa
open Go.ChangeShapes Go.WideShapes Go.ChangeAt Go.RowKit
theorem form_1 (k a b m kh kw sh sw tp lf bt rt : Int) (wa : Option Addr) (lw wc : Nat) (ba : Option Addr) (lb bc : Nat) (sm ss um us z p lo hi : Int) (n : Int) (W : World) (h : k < 1) :
    Calls Try.prog 58 #[.agg #[.int .i64 k, .int .i64 a, .int .i64 b, .int .i64 m, .int .i64 kh, .int .i64 kw, .int .i64 sh, .int .i64 sw, .int .i64 tp, .int .i64 lf, .int .i64 bt, .int .i64 rt, .slice wa lw wc, .slice ba lb bc, .int .i64 sm, .int .i64 ss, .int .i64 um, .int .i64 us, .int .i64 z, .int .i64 p, .int .i64 lo, .int .i64 hi], .int .i64 n] W fun e w' => e = .returned (.int .i64 81) ∧ Below W.heap.size W w' := by
  go_enter Try.func58, Try.ntmps58
  go_wp2
  go_ret
  exact ⟨rfl, (St.start W).new.below⟩
theorem form_2 (k a b m kh kw sh sw tp lf bt rt : Int) (wa : Option Addr) (lw wc : Nat) (ba : Option Addr) (lb bc : Nat) (sm ss um us z p lo hi : Int) (n : Int) (W : World) (h : 1 ≤ k ∧ 8 < k) :
    Calls Try.prog 58 #[.agg #[.int .i64 k, .int .i64 a, .int .i64 b, .int .i64 m, .int .i64 kh, .int .i64 kw, .int .i64 sh, .int .i64 sw, .int .i64 tp, .int .i64 lf, .int .i64 bt, .int .i64 rt, .slice wa lw wc, .slice ba lb bc, .int .i64 sm, .int .i64 ss, .int .i64 um, .int .i64 us, .int .i64 z, .int .i64 p, .int .i64 lo, .int .i64 hi], .int .i64 n] W fun e w' => e = .returned (.int .i64 81) ∧ Below W.heap.size W w' := by
  go_enter Try.func58, Try.ntmps58
  go_wp2
  go_ret
  exact ⟨rfl, (St.start W).new.below⟩
theorem form_3 (k a b m kh kw sh sw tp lf bt rt : Int) (wa : Option Addr) (lw wc : Nat) (ba : Option Addr) (lb bc : Nat) (sm ss um us z p lo hi : Int) (n : Int) (W : World) (h : 1 ≤ k ∧ ¬ 8 < k ∧ a < 0) :
    Calls Try.prog 58 #[.agg #[.int .i64 k, .int .i64 a, .int .i64 b, .int .i64 m, .int .i64 kh, .int .i64 kw, .int .i64 sh, .int .i64 sw, .int .i64 tp, .int .i64 lf, .int .i64 bt, .int .i64 rt, .slice wa lw wc, .slice ba lb bc, .int .i64 sm, .int .i64 ss, .int .i64 um, .int .i64 us, .int .i64 z, .int .i64 p, .int .i64 lo, .int .i64 hi], .int .i64 n] W fun e w' => e = .returned (.int .i64 82) ∧ Below W.heap.size W w' := by
  go_enter Try.func58, Try.ntmps58
  go_wp2
  go_ret
  exact ⟨rfl, (St.start W).new.below⟩
theorem form_4 (k a b m kh kw sh sw tp lf bt rt : Int) (wa : Option Addr) (lw wc : Nat) (ba : Option Addr) (lb bc : Nat) (sm ss um us z p lo hi : Int) (n : Int) (W : World) (h : 1 ≤ k ∧ ¬ 8 < k ∧ ¬ a < 0 ∧ n ≤ a) :
    Calls Try.prog 58 #[.agg #[.int .i64 k, .int .i64 a, .int .i64 b, .int .i64 m, .int .i64 kh, .int .i64 kw, .int .i64 sh, .int .i64 sw, .int .i64 tp, .int .i64 lf, .int .i64 bt, .int .i64 rt, .slice wa lw wc, .slice ba lb bc, .int .i64 sm, .int .i64 ss, .int .i64 um, .int .i64 us, .int .i64 z, .int .i64 p, .int .i64 lo, .int .i64 hi], .int .i64 n] W fun e w' => e = .returned (.int .i64 82) ∧ Below W.heap.size W w' := by
  go_enter Try.func58, Try.ntmps58
  go_wp2
  go_ret
  exact ⟨rfl, (St.start W).new.below⟩
theorem form_5 (k a b m kh kw sh sw tp lf bt rt : Int) (wa : Option Addr) (lw wc : Nat) (ba : Option Addr) (lb bc : Nat) (sm ss um us z p lo hi : Int) (n : Int) (W : World) (hk : k = 6) (h : ¬ a < 0 ∧ ¬ n ≤ a ∧ b < 0) :
    Calls Try.prog 58 #[.agg #[.int .i64 k, .int .i64 a, .int .i64 b, .int .i64 m, .int .i64 kh, .int .i64 kw, .int .i64 sh, .int .i64 sw, .int .i64 tp, .int .i64 lf, .int .i64 bt, .int .i64 rt, .slice wa lw wc, .slice ba lb bc, .int .i64 sm, .int .i64 ss, .int .i64 um, .int .i64 us, .int .i64 z, .int .i64 p, .int .i64 lo, .int .i64 hi], .int .i64 n] W fun e w' => e = .returned (.int .i64 82) ∧ Below W.heap.size W w' := by
  subst hk
  go_enter Try.func58, Try.ntmps58
  go_wp2
  go_ret
  exact ⟨rfl, (St.start W).new.below⟩
theorem form_6 (k a b m kh kw sh sw tp lf bt rt : Int) (wa : Option Addr) (lw wc : Nat) (ba : Option Addr) (lb bc : Nat) (sm ss um us z p lo hi : Int) (n : Int) (W : World) (hk : k = 6) (h : ¬ a < 0 ∧ ¬ n ≤ a ∧ ¬ b < 0 ∧ n ≤ b) :
    Calls Try.prog 58 #[.agg #[.int .i64 k, .int .i64 a, .int .i64 b, .int .i64 m, .int .i64 kh, .int .i64 kw, .int .i64 sh, .int .i64 sw, .int .i64 tp, .int .i64 lf, .int .i64 bt, .int .i64 rt, .slice wa lw wc, .slice ba lb bc, .int .i64 sm, .int .i64 ss, .int .i64 um, .int .i64 us, .int .i64 z, .int .i64 p, .int .i64 lo, .int .i64 hi], .int .i64 n] W fun e w' => e = .returned (.int .i64 82) ∧ Below W.heap.size W w' := by
  subst hk
  go_enter Try.func58, Try.ntmps58
  go_wp2
  go_ret
  exact ⟨rfl, (St.start W).new.below⟩
set_option maxHeartbeats 1000000 in
theorem form_6false (a b m kh kw sh sw tp lf bt rt : Int) (wa : Option Addr) (lw wc : Nat) (ba : Option Addr) (lb bc : Nat) (sm ss um us z p lo hi n : Int) (W : World) (h : ¬ a < 0 ∧ ¬ n ≤ a ∧ ¬ b < 0 ∧ ¬ n ≤ b) (ho : ozB 6 b m kh kw sh sw tp lf bt rt lw lb sm ss um us z p = false) :
    Calls Try.prog 58 #[.agg #[.int .i64 6, .int .i64 a, .int .i64 b, .int .i64 m, .int .i64 kh, .int .i64 kw, .int .i64 sh, .int .i64 sw, .int .i64 tp, .int .i64 lf, .int .i64 bt, .int .i64 rt, .slice wa lw wc, .slice ba lb bc, .int .i64 sm, .int .i64 ss, .int .i64 um, .int .i64 us, .int .i64 z, .int .i64 p, .int .i64 lo, .int .i64 hi], .int .i64 n] W fun e w' => e = .returned (.int .i64 83) ∧ Below W.heap.size W w' := by
  have hO : Hid (∀ W, Calls Try.prog 70 #[.agg #[.int .i64 6, .int .i64 a, .int .i64 b, .int .i64 m, .int .i64 kh, .int .i64 kw, .int .i64 sh, .int .i64 sw, .int .i64 tp, .int .i64 lf, .int .i64 bt, .int .i64 rt, .slice wa lw wc, .slice ba lb bc, .int .i64 sm, .int .i64 ss, .int .i64 um, .int .i64 us, .int .i64 z, .int .i64 p, .int .i64 lo, .int .i64 hi]] W fun e w' => e = .returned (.bool false) ∧ Below W.heap.size W w') := fun W => by rw [← ho]; exact others_any 6 a b m kh kw sh sw tp lf bt rt wa lw wc ba lb bc sm ss um us z p lo hi W (by decide)
  clear ho
  go_enter Try.func58, Try.ntmps58
  go_upto_region 7 with fail
  go_wp2_with (refine wpList_load_row rfl 70 (.tmp 2) rfl W.heap.size rfl 70 _ (0, 0) _ (heap_alloc_new W _) Try.underlying70 rfl (by kernel_rfl) ?_)
  refine (hO.out _).mono ?_
  rintro e w1 ⟨rfl, hb'⟩
  have s1 := (St.start W).new.call hb'
  clear hb'
  go_wp2
  go_ret
  exact ⟨rfl, s1.below⟩
set_option maxHeartbeats 1000000 in
theorem form_nfalse (k a b m kh kw sh sw tp lf bt rt : Int) (wa : Option Addr) (lw wc : Nat) (ba : Option Addr) (lb bc : Nat) (sm ss um us z p lo hi : Int) (n : Int) (W : World) (h : 1 ≤ k ∧ ¬ 8 < k ∧ ¬ a < 0 ∧ ¬ n ≤ a) (h6 : ¬ k = 6) (ho : ozB k b m kh kw sh sw tp lf bt rt lw lb sm ss um us z p = false) :
    Calls Try.prog 58 #[.agg #[.int .i64 k, .int .i64 a, .int .i64 b, .int .i64 m, .int .i64 kh, .int .i64 kw, .int .i64 sh, .int .i64 sw, .int .i64 tp, .int .i64 lf, .int .i64 bt, .int .i64 rt, .slice wa lw wc, .slice ba lb bc, .int .i64 sm, .int .i64 ss, .int .i64 um, .int .i64 us, .int .i64 z, .int .i64 p, .int .i64 lo, .int .i64 hi], .int .i64 n] W fun e w' => e = .returned (.int .i64 83) ∧ Below W.heap.size W w' := by
  have hO : Hid (∀ W, Calls Try.prog 70 #[.agg #[.int .i64 k, .int .i64 a, .int .i64 b, .int .i64 m, .int .i64 kh, .int .i64 kw, .int .i64 sh, .int .i64 sw, .int .i64 tp, .int .i64 lf, .int .i64 bt, .int .i64 rt, .slice wa lw wc, .slice ba lb bc, .int .i64 sm, .int .i64 ss, .int .i64 um, .int .i64 us, .int .i64 z, .int .i64 p, .int .i64 lo, .int .i64 hi]] W fun e w' => e = .returned (.bool false) ∧ Below W.heap.size W w') := fun W => by rw [← ho]; exact others_any k a b m kh kw sh sw tp lf bt rt wa lw wc ba lb bc sm ss um us z p lo hi W (by omega)
  have h6' : (k == 6) = false := by simpa using h6
  clear ho
  go_enter Try.func58, Try.ntmps58
  go_upto_region 7 with fail
  go_wp2_with (refine wpList_load_row rfl 70 (.tmp 2) rfl W.heap.size rfl 70 _ (0, 0) _ (heap_alloc_new W _) Try.underlying70 rfl (by kernel_rfl) ?_)
  refine (hO.out _).mono ?_
  rintro e w1 ⟨rfl, hb'⟩
  have s1 := (St.start W).new.call hb'
  clear hb'
  go_wp2
  go_ret
  exact ⟨rfl, s1.below⟩
set_option maxHeartbeats 1000000 in
theorem form_6true (a b m kh kw sh sw tp lf bt rt : Int) (wa : Option Addr) (lw wc : Nat) (ba : Option Addr) (lb bc : Nat) (sm ss um us z p lo hi n : Int) (W : World) (h : ¬ a < 0 ∧ ¬ n ≤ a ∧ ¬ b < 0 ∧ ¬ n ≤ b) (ho : ozB 6 b m kh kw sh sw tp lf bt rt lw lb sm ss um us z p = true) :
    Calls Try.prog 58 #[.agg #[.int .i64 6, .int .i64 a, .int .i64 b, .int .i64 m, .int .i64 kh, .int .i64 kw, .int .i64 sh, .int .i64 sw, .int .i64 tp, .int .i64 lf, .int .i64 bt, .int .i64 rt, .slice wa lw wc, .slice ba lb bc, .int .i64 sm, .int .i64 ss, .int .i64 um, .int .i64 us, .int .i64 z, .int .i64 p, .int .i64 lo, .int .i64 hi], .int .i64 n] W fun e w' => e = .returned (.int .i64 0) ∧ Below W.heap.size W w' := by
  have hO : Hid (∀ W, Calls Try.prog 70 #[.agg #[.int .i64 6, .int .i64 a, .int .i64 b, .int .i64 m, .int .i64 kh, .int .i64 kw, .int .i64 sh, .int .i64 sw, .int .i64 tp, .int .i64 lf, .int .i64 bt, .int .i64 rt, .slice wa lw wc, .slice ba lb bc, .int .i64 sm, .int .i64 ss, .int .i64 um, .int .i64 us, .int .i64 z, .int .i64 p, .int .i64 lo, .int .i64 hi]] W fun e w' => e = .returned (.bool true) ∧ Below W.heap.size W w') := fun W => by rw [← ho]; exact others_any 6 a b m kh kw sh sw tp lf bt rt wa lw wc ba lb bc sm ss um us z p lo hi W (by decide)
  clear ho
  go_enter Try.func58, Try.ntmps58
  go_upto_region 7 with fail
  go_wp2_with (refine wpList_load_row rfl 70 (.tmp 2) rfl W.heap.size rfl 70 _ (0, 0) _ (heap_alloc_new W _) Try.underlying70 rfl (by kernel_rfl) ?_)
  refine (hO.out _).mono ?_
  rintro e w1 ⟨rfl, hb'⟩
  have s1 := (St.start W).new.call hb'
  clear hb'
  go_wp2
  go_ret
  exact ⟨rfl, s1.below⟩
set_option maxHeartbeats 1000000 in
theorem form_ntrue (k a b m kh kw sh sw tp lf bt rt : Int) (wa : Option Addr) (lw wc : Nat) (ba : Option Addr) (lb bc : Nat) (sm ss um us z p lo hi : Int) (n : Int) (W : World) (h : 1 ≤ k ∧ ¬ 8 < k ∧ ¬ a < 0 ∧ ¬ n ≤ a) (h6 : ¬ k = 6) (ho : ozB k b m kh kw sh sw tp lf bt rt lw lb sm ss um us z p = true) :
    Calls Try.prog 58 #[.agg #[.int .i64 k, .int .i64 a, .int .i64 b, .int .i64 m, .int .i64 kh, .int .i64 kw, .int .i64 sh, .int .i64 sw, .int .i64 tp, .int .i64 lf, .int .i64 bt, .int .i64 rt, .slice wa lw wc, .slice ba lb bc, .int .i64 sm, .int .i64 ss, .int .i64 um, .int .i64 us, .int .i64 z, .int .i64 p, .int .i64 lo, .int .i64 hi], .int .i64 n] W fun e w' => e = .returned (.int .i64 0) ∧ Below W.heap.size W w' := by
  have hO : Hid (∀ W, Calls Try.prog 70 #[.agg #[.int .i64 k, .int .i64 a, .int .i64 b, .int .i64 m, .int .i64 kh, .int .i64 kw, .int .i64 sh, .int .i64 sw, .int .i64 tp, .int .i64 lf, .int .i64 bt, .int .i64 rt, .slice wa lw wc, .slice ba lb bc, .int .i64 sm, .int .i64 ss, .int .i64 um, .int .i64 us, .int .i64 z, .int .i64 p, .int .i64 lo, .int .i64 hi]] W fun e w' => e = .returned (.bool true) ∧ Below W.heap.size W w') := fun W => by rw [← ho]; exact others_any k a b m kh kw sh sw tp lf bt rt wa lw wc ba lb bc sm ss um us z p lo hi W (by omega)
  have h6' : (k == 6) = false := by simpa using h6
  clear ho
  go_enter Try.func58, Try.ntmps58
  go_upto_region 7 with fail
  go_wp2_with (refine wpList_load_row rfl 70 (.tmp 2) rfl W.heap.size rfl 70 _ (0, 0) _ (heap_alloc_new W _) Try.underlying70 rfl (by kernel_rfl) ?_)
  refine (hO.out _).mono ?_
  rintro e w1 ⟨rfl, hb'⟩
  have s1 := (St.start W).new.call hb'
  clear hb'
  go_wp2
  go_ret
  exact ⟨rfl, s1.below⟩
theorem form_any (k a b m kh kw sh sw tp lf bt rt : Int) (wa : Option Addr) (lw wc : Nat) (ba : Option Addr) (lb bc : Nat) (sm ss um us z p lo hi : Int) (n : Int) (W : World) :
    Calls Try.prog 58 #[.agg #[.int .i64 k, .int .i64 a, .int .i64 b, .int .i64 m, .int .i64 kh, .int .i64 kw, .int .i64 sh, .int .i64 sw, .int .i64 tp, .int .i64 lf, .int .i64 bt, .int .i64 rt, .slice wa lw wc, .slice ba lb bc, .int .i64 sm, .int .i64 ss, .int .i64 um, .int .i64 us, .int .i64 z, .int .i64 p, .int .i64 lo, .int .i64 hi], .int .i64 n] W fun e w' => e = .returned (.int .i64 (fmE k a b n (ozB k b m kh kw sh sw tp lf bt rt lw lb sm ss um us z p))) ∧ Below W.heap.size W w' := by
  by_cases l1 : k < 1
  · rw [← fm_81 (by omega)]; exact form_1 k a b m kh kw sh sw tp lf bt rt wa lw wc ba lb bc sm ss um us z p lo hi n W l1
  by_cases l2 : 8 < k
  · rw [← fm_81 (by omega)]; exact form_2 k a b m kh kw sh sw tp lf bt rt wa lw wc ba lb bc sm ss um us z p lo hi n W (by omega)
  by_cases l3 : a < 0
  · rw [← fm_82 (by omega) (by omega)]; exact form_3 k a b m kh kw sh sw tp lf bt rt wa lw wc ba lb bc sm ss um us z p lo hi n W (by omega)
  by_cases l4 : n ≤ a
  · rw [← fm_82 (by omega) (by omega)]; exact form_4 k a b m kh kw sh sw tp lf bt rt wa lw wc ba lb bc sm ss um us z p lo hi n W (by omega)
  by_cases k6 : k = 6
  · by_cases l5 : b < 0
    · rw [← fm_83 (by omega) (by omega) (by omega)]; exact form_5 k a b m kh kw sh sw tp lf bt rt wa lw wc ba lb bc sm ss um us z p lo hi n W k6 (by omega)
    by_cases l6 : n ≤ b
    · rw [← fm_83 (by omega) (by omega) (by omega)]; exact form_6 k a b m kh kw sh sw tp lf bt rt wa lw wc ba lb bc sm ss um us z p lo hi n W k6 (by omega)
    subst k6
    unfold fmE
    rw [if_neg (by omega), if_neg (by omega), if_neg (by omega)]
    cases ho : ozB 6 b m kh kw sh sw tp lf bt rt lw lb sm ss um us z p with
    | false => exact form_6false a b m kh kw sh sw tp lf bt rt wa lw wc ba lb bc sm ss um us z p lo hi n W (by omega) ho
    | true => exact form_6true a b m kh kw sh sw tp lf bt rt wa lw wc ba lb bc sm ss um us z p lo hi n W (by omega) ho
  · unfold fmE
    rw [if_neg (by omega), if_neg (by omega), if_neg (by omega)]
    cases ho : ozB k b m kh kw sh sw tp lf bt rt lw lb sm ss um us z p with
    | false => exact form_nfalse k a b m kh kw sh sw tp lf bt rt wa lw wc ba lb bc sm ss um us z p lo hi n W (by omega) k6 ho
    | true => exact form_ntrue k a b m kh kw sh sw tp lf bt rt wa lw wc ba lb bc sm ss um us z p lo hi n W (by omega) k6 ho
end Go.Proofs.Ytcjnhchjikcigaa
