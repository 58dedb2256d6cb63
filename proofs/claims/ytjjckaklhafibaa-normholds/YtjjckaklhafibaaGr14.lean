/- What the small functions of package terms return: how many terms, channels and positions an op has; its bias; a weight; the channels that are read; a place. The iterator of Taps: called with whatever round, it gives each tap in its order, till it is told to stop. The iterator of Positions: called with whatever round, it gives each position's row and column in their order, till it is told to stop. What corner of package window, and the document's Has, return: each for every argument. Taps and Positions hand back iterators: what they give, and for how long. Rows of ints: what is read of them, what a call owns, what stays behind a call; append over them. What the law's own pairs and spots collect of an iterator: the first so many of what it gives, in a new slice. -/
import Derived.Test.YtjjckaklhafibaaGr01
import Derived.Test.YtjjckaklhafibaaGr02
import Derived.Test.YtjjckaklhafibaaGr11
import Derived.Test.YtjjckaklhafibaaGr13
import Derived.BigQuiet
import Derived.RangeFuncNested
import Derived.RangeFuncBound
import Derived.RangeFuncCalls
import Derived.RangeFuncLeaves
import Derived.Shelf.Abstract
import Derived.Shelf.RegionOpen
import Derived.WalkKit
import Derived.OwnWalkIn
import Derived.TacticsInMore
import Derived.LoopNIn
import Derived.LoopIn
import Derived.Laws.AppendOwnNone
import Derived.RangeFuncBox
/- What the small functions of package terms return: how many terms, channels and positions an op has; its bias; a weight; the channels that are read; a place. -/
namespace Go.Proofs.Ytjjckaklhafibaa
open Go.ChangeShapes Go.WideShapes Go.ChangeAt Go.RowKit
set_option linter.unusedVariables false
theorem Sit.win {k kh kw sh sw tp lf bt rt h w c H V C : Int} {lw lb : Nat} (s : Sit k kh kw sh sw tp lf bt rt h w c H V C lw lb) (q : k ≠ 1) : (1 ≤ kh ∧ kh ≤ 32) ∧ (1 ≤ kw ∧ kw ≤ 32) := s.2.2.2.2.2.1 (by have := s.1; omega)
set_option maxHeartbeats 1000000 in
theorem tlen_1 (a b m kh kw sh sw tp lf bt rt : Int) (wa : Option Addr) (lw wc : Nat) (ba : Option Addr) (lb bc : Nat) (sm ss um us z p lo hi h w c H V C : Int) (r : Nat) (W : World) (hr : W.heap[r]? = some (.cells #[.int .i64 1, .int .i64 a, .int .i64 b, .int .i64 m, .int .i64 kh, .int .i64 kw, .int .i64 sh, .int .i64 sw, .int .i64 tp, .int .i64 lf, .int .i64 bt, .int .i64 rt, .slice wa lw wc, .slice ba lb bc, .int .i64 sm, .int .i64 ss, .int .i64 um, .int .i64 us, .int .i64 z, .int .i64 p, .int .i64 lo, .int .i64 hi, .int .i64 h, .int .i64 w, .int .i64 c, .int .i64 H, .int .i64 V, .int .i64 C] 87 (0, 0))) (g : vS h w c = true) (hw : (1 : Int) ≠ 1 → (1 ≤ kh ∧ kh ≤ 32) ∧ (1 ≤ kw ∧ kw ≤ 32)) :
    Calls Try.prog 49 #[.pointer (some ⟨r, 0, none⟩)] W fun e w' => e = .returned (.int .i64 (stR 1 kh kw h w c)) ∧ ∃ n, w' = W.drewN n := by
  have p3 : (1 ≤ h * w ∧ h * w ≤ 1048576) ∧ (1 ≤ h * w * c ∧ h * w * c ≤ 16384) := vS_bd g
  have c1 := (vS_yes g).2.2.1
  have hp : (1 : Int) ≠ 1 → (1 ≤ kh * kw ∧ kh * kw ≤ 1024) ∧ (1 ≤ kh * kw * c ∧ kh * kw * c ≤ 1048576) := fun q => by
    obtain ⟨hw1, hw2⟩ := hw q
    obtain ⟨p1, p2⟩ := mul_bd hw1.1 hw1.2 hw2.1 hw2.2
    obtain ⟨q1, q2⟩ := mul_bd p1 p2 c1.1 c1.2
    exact ⟨⟨p1, by omega⟩, q1, by omega⟩
  rw [show stR 1 kh kw h w c = (if (1 : Int) = 1 then h * w * c else if (1 : Int) = 2 then kh * kw * c else kh * kw) from rfl]
  simp at hp ⊢
  obtain ⟨p', ep⟩ : ∃ p', h * w = p' := ⟨_, rfl⟩
  obtain ⟨q', eq⟩ : ∃ q', kh * kw = q' := ⟨_, rfl⟩
  rw [ep] at p3
  try rw [eq] at hp
  try rw [ep]
  try rw [eq]
  obtain ⟨y1, y2, y3⟩ := cells_at hr
  clear g hw c1 hr
  go_enter Try.func49, Try.ntmps49
  go_wp2
  go_quiet (fail)
  go_wp2
  go_ret
  exact ⟨rfl, _, rfl⟩
set_option maxHeartbeats 1000000 in
theorem tlen_2 (a b m kh kw sh sw tp lf bt rt : Int) (wa : Option Addr) (lw wc : Nat) (ba : Option Addr) (lb bc : Nat) (sm ss um us z p lo hi h w c H V C : Int) (r : Nat) (W : World) (hr : W.heap[r]? = some (.cells #[.int .i64 2, .int .i64 a, .int .i64 b, .int .i64 m, .int .i64 kh, .int .i64 kw, .int .i64 sh, .int .i64 sw, .int .i64 tp, .int .i64 lf, .int .i64 bt, .int .i64 rt, .slice wa lw wc, .slice ba lb bc, .int .i64 sm, .int .i64 ss, .int .i64 um, .int .i64 us, .int .i64 z, .int .i64 p, .int .i64 lo, .int .i64 hi, .int .i64 h, .int .i64 w, .int .i64 c, .int .i64 H, .int .i64 V, .int .i64 C] 87 (0, 0))) (g : vS h w c = true) (hw : (2 : Int) ≠ 1 → (1 ≤ kh ∧ kh ≤ 32) ∧ (1 ≤ kw ∧ kw ≤ 32)) :
    Calls Try.prog 49 #[.pointer (some ⟨r, 0, none⟩)] W fun e w' => e = .returned (.int .i64 (stR 2 kh kw h w c)) ∧ ∃ n, w' = W.drewN n := by
  have p3 : (1 ≤ h * w ∧ h * w ≤ 1048576) ∧ (1 ≤ h * w * c ∧ h * w * c ≤ 16384) := vS_bd g
  have c1 := (vS_yes g).2.2.1
  have hp : (2 : Int) ≠ 1 → (1 ≤ kh * kw ∧ kh * kw ≤ 1024) ∧ (1 ≤ kh * kw * c ∧ kh * kw * c ≤ 1048576) := fun q => by
    obtain ⟨hw1, hw2⟩ := hw q
    obtain ⟨p1, p2⟩ := mul_bd hw1.1 hw1.2 hw2.1 hw2.2
    obtain ⟨q1, q2⟩ := mul_bd p1 p2 c1.1 c1.2
    exact ⟨⟨p1, by omega⟩, q1, by omega⟩
  rw [show stR 2 kh kw h w c = (if (2 : Int) = 1 then h * w * c else if (2 : Int) = 2 then kh * kw * c else kh * kw) from rfl]
  simp at hp ⊢
  obtain ⟨p', ep⟩ : ∃ p', h * w = p' := ⟨_, rfl⟩
  obtain ⟨q', eq⟩ : ∃ q', kh * kw = q' := ⟨_, rfl⟩
  rw [ep] at p3
  try rw [eq] at hp
  try rw [ep]
  try rw [eq]
  obtain ⟨y1, y2, y3⟩ := cells_at hr
  clear g hw c1 hr
  go_enter Try.func49, Try.ntmps49
  go_wp2
  go_quiet (fail)
  go_wp2
  go_ret
  exact ⟨rfl, _, rfl⟩
set_option maxHeartbeats 1000000 in
theorem tlen_3 (a b m kh kw sh sw tp lf bt rt : Int) (wa : Option Addr) (lw wc : Nat) (ba : Option Addr) (lb bc : Nat) (sm ss um us z p lo hi h w c H V C : Int) (r : Nat) (W : World) (hr : W.heap[r]? = some (.cells #[.int .i64 3, .int .i64 a, .int .i64 b, .int .i64 m, .int .i64 kh, .int .i64 kw, .int .i64 sh, .int .i64 sw, .int .i64 tp, .int .i64 lf, .int .i64 bt, .int .i64 rt, .slice wa lw wc, .slice ba lb bc, .int .i64 sm, .int .i64 ss, .int .i64 um, .int .i64 us, .int .i64 z, .int .i64 p, .int .i64 lo, .int .i64 hi, .int .i64 h, .int .i64 w, .int .i64 c, .int .i64 H, .int .i64 V, .int .i64 C] 87 (0, 0))) (g : vS h w c = true) (hw : (3 : Int) ≠ 1 → (1 ≤ kh ∧ kh ≤ 32) ∧ (1 ≤ kw ∧ kw ≤ 32)) :
    Calls Try.prog 49 #[.pointer (some ⟨r, 0, none⟩)] W fun e w' => e = .returned (.int .i64 (stR 3 kh kw h w c)) ∧ ∃ n, w' = W.drewN n := by
  have p3 : (1 ≤ h * w ∧ h * w ≤ 1048576) ∧ (1 ≤ h * w * c ∧ h * w * c ≤ 16384) := vS_bd g
  have c1 := (vS_yes g).2.2.1
  have hp : (3 : Int) ≠ 1 → (1 ≤ kh * kw ∧ kh * kw ≤ 1024) ∧ (1 ≤ kh * kw * c ∧ kh * kw * c ≤ 1048576) := fun q => by
    obtain ⟨hw1, hw2⟩ := hw q
    obtain ⟨p1, p2⟩ := mul_bd hw1.1 hw1.2 hw2.1 hw2.2
    obtain ⟨q1, q2⟩ := mul_bd p1 p2 c1.1 c1.2
    exact ⟨⟨p1, by omega⟩, q1, by omega⟩
  rw [show stR 3 kh kw h w c = (if (3 : Int) = 1 then h * w * c else if (3 : Int) = 2 then kh * kw * c else kh * kw) from rfl]
  simp at hp ⊢
  obtain ⟨p', ep⟩ : ∃ p', h * w = p' := ⟨_, rfl⟩
  obtain ⟨q', eq⟩ : ∃ q', kh * kw = q' := ⟨_, rfl⟩
  rw [ep] at p3
  try rw [eq] at hp
  try rw [ep]
  try rw [eq]
  obtain ⟨y1, y2, y3⟩ := cells_at hr
  clear g hw c1 hr
  go_enter Try.func49, Try.ntmps49
  go_wp2
  go_quiet (fail)
  go_wp2
  go_ret
  exact ⟨rfl, _, rfl⟩
set_option maxHeartbeats 1000000 in
theorem tlen_4 (a b m kh kw sh sw tp lf bt rt : Int) (wa : Option Addr) (lw wc : Nat) (ba : Option Addr) (lb bc : Nat) (sm ss um us z p lo hi h w c H V C : Int) (r : Nat) (W : World) (hr : W.heap[r]? = some (.cells #[.int .i64 4, .int .i64 a, .int .i64 b, .int .i64 m, .int .i64 kh, .int .i64 kw, .int .i64 sh, .int .i64 sw, .int .i64 tp, .int .i64 lf, .int .i64 bt, .int .i64 rt, .slice wa lw wc, .slice ba lb bc, .int .i64 sm, .int .i64 ss, .int .i64 um, .int .i64 us, .int .i64 z, .int .i64 p, .int .i64 lo, .int .i64 hi, .int .i64 h, .int .i64 w, .int .i64 c, .int .i64 H, .int .i64 V, .int .i64 C] 87 (0, 0))) (g : vS h w c = true) (hw : (4 : Int) ≠ 1 → (1 ≤ kh ∧ kh ≤ 32) ∧ (1 ≤ kw ∧ kw ≤ 32)) :
    Calls Try.prog 49 #[.pointer (some ⟨r, 0, none⟩)] W fun e w' => e = .returned (.int .i64 (stR 4 kh kw h w c)) ∧ ∃ n, w' = W.drewN n := by
  have p3 : (1 ≤ h * w ∧ h * w ≤ 1048576) ∧ (1 ≤ h * w * c ∧ h * w * c ≤ 16384) := vS_bd g
  have c1 := (vS_yes g).2.2.1
  have hp : (4 : Int) ≠ 1 → (1 ≤ kh * kw ∧ kh * kw ≤ 1024) ∧ (1 ≤ kh * kw * c ∧ kh * kw * c ≤ 1048576) := fun q => by
    obtain ⟨hw1, hw2⟩ := hw q
    obtain ⟨p1, p2⟩ := mul_bd hw1.1 hw1.2 hw2.1 hw2.2
    obtain ⟨q1, q2⟩ := mul_bd p1 p2 c1.1 c1.2
    exact ⟨⟨p1, by omega⟩, q1, by omega⟩
  rw [show stR 4 kh kw h w c = (if (4 : Int) = 1 then h * w * c else if (4 : Int) = 2 then kh * kw * c else kh * kw) from rfl]
  simp at hp ⊢
  obtain ⟨p', ep⟩ : ∃ p', h * w = p' := ⟨_, rfl⟩
  obtain ⟨q', eq⟩ : ∃ q', kh * kw = q' := ⟨_, rfl⟩
  rw [ep] at p3
  try rw [eq] at hp
  try rw [ep]
  try rw [eq]
  obtain ⟨y1, y2, y3⟩ := cells_at hr
  clear g hw c1 hr
  go_enter Try.func49, Try.ntmps49
  go_wp2
  go_quiet (fail)
  go_wp2
  go_ret
  exact ⟨rfl, _, rfl⟩
theorem tlen_any (k a b m kh kw sh sw tp lf bt rt : Int) (wa : Option Addr) (lw wc : Nat) (ba : Option Addr) (lb bc : Nat) (sm ss um us z p lo hi h w c H V C : Int) (r : Nat) (W : World) (hr : W.heap[r]? = some (.cells #[.int .i64 k, .int .i64 a, .int .i64 b, .int .i64 m, .int .i64 kh, .int .i64 kw, .int .i64 sh, .int .i64 sw, .int .i64 tp, .int .i64 lf, .int .i64 bt, .int .i64 rt, .slice wa lw wc, .slice ba lb bc, .int .i64 sm, .int .i64 ss, .int .i64 um, .int .i64 us, .int .i64 z, .int .i64 p, .int .i64 lo, .int .i64 hi, .int .i64 h, .int .i64 w, .int .i64 c, .int .i64 H, .int .i64 V, .int .i64 C] 87 (0, 0))) (s : Sit k kh kw sh sw tp lf bt rt h w c H V C lw lb) :
    Calls Try.prog 49 #[.pointer (some ⟨r, 0, none⟩)] W fun e w' => e = .returned (.int .i64 (stR k kh kw h w c)) ∧ ∃ n, w' = W.drewN n := by
  have hk := s.1
  have g := s.2.1
  have hw := s.win
  rcases (show k = 1 ∨ k = 2 ∨ k = 3 ∨ k = 4 by omega) with rfl | rfl | rfl | rfl
  · exact tlen_1 a b m kh kw sh sw tp lf bt rt wa lw wc ba lb bc sm ss um us z p lo hi h w c H V C r W hr g hw
  · exact tlen_2 a b m kh kw sh sw tp lf bt rt wa lw wc ba lb bc sm ss um us z p lo hi h w c H V C r W hr g hw
  · exact tlen_3 a b m kh kw sh sw tp lf bt rt wa lw wc ba lb bc sm ss um us z p lo hi h w c H V C r W hr g hw
  · exact tlen_4 a b m kh kw sh sw tp lf bt rt wa lw wc ba lb bc sm ss um us z p lo hi h w c H V C r W hr g hw
theorem tchan_any (k a b m kh kw sh sw tp lf bt rt : Int) (wa : Option Addr) (lw wc : Nat) (ba : Option Addr) (lb bc : Nat) (sm ss um us z p lo hi h w c H V C : Int) (r : Nat) (W : World) (hr : W.heap[r]? = some (.cells #[.int .i64 k, .int .i64 a, .int .i64 b, .int .i64 m, .int .i64 kh, .int .i64 kw, .int .i64 sh, .int .i64 sw, .int .i64 tp, .int .i64 lf, .int .i64 bt, .int .i64 rt, .slice wa lw wc, .slice ba lb bc, .int .i64 sm, .int .i64 ss, .int .i64 um, .int .i64 us, .int .i64 z, .int .i64 p, .int .i64 lo, .int .i64 hi, .int .i64 h, .int .i64 w, .int .i64 c, .int .i64 H, .int .i64 V, .int .i64 C] 87 (0, 0))) :
    Calls Try.prog 33 #[.pointer (some ⟨r, 0, none⟩)] W fun e w' => e = .returned (.int .i64 C) ∧ w' = W := by
  obtain ⟨y1, y2, y3⟩ := cells_at hr
  clear hr
  go_enter Try.func33, Try.ntmps33
  go_wp2
  go_ret
  exact ⟨rfl, rfl⟩
theorem tpos_any (k a b m kh kw sh sw tp lf bt rt : Int) (wa : Option Addr) (lw wc : Nat) (ba : Option Addr) (lb bc : Nat) (sm ss um us z p lo hi h w c H V C : Int) (r : Nat) (W : World) (hr : W.heap[r]? = some (.cells #[.int .i64 k, .int .i64 a, .int .i64 b, .int .i64 m, .int .i64 kh, .int .i64 kw, .int .i64 sh, .int .i64 sw, .int .i64 tp, .int .i64 lf, .int .i64 bt, .int .i64 rt, .slice wa lw wc, .slice ba lb bc, .int .i64 sm, .int .i64 ss, .int .i64 um, .int .i64 us, .int .i64 z, .int .i64 p, .int .i64 lo, .int .i64 hi, .int .i64 h, .int .i64 w, .int .i64 c, .int .i64 H, .int .i64 V, .int .i64 C] 87 (0, 0))) (g : vS H V C = true) :
    Calls Try.prog 34 #[.pointer (some ⟨r, 0, none⟩)] W fun e w' => e = .returned (.int .i64 (H * V)) ∧ ∃ n, w' = W.drewN n := by
  obtain ⟨y1, y2, y3⟩ := cells_at hr
  have p3 := vS_bd g
  clear hr g
  go_enter Try.func34, Try.ntmps34
  go_wp2
  go_quiet (fail)
  go_wp2
  go_ret
  exact ⟨rfl, _, rfl⟩
set_option maxHeartbeats 1000000 in
theorem tbias_any (k a b m kh kw sh sw tp lf bt rt : Int) (wa : Option Addr) (lw wc : Nat) (ba : Option Addr) (lb bc : Nat) (sm ss um us z p lo hi h w c H V C : Int) (r : Nat) (W : World) (hr : W.heap[r]? = some (.cells #[.int .i64 k, .int .i64 a, .int .i64 b, .int .i64 m, .int .i64 kh, .int .i64 kw, .int .i64 sh, .int .i64 sw, .int .i64 tp, .int .i64 lf, .int .i64 bt, .int .i64 rt, .slice wa lw wc, .slice ba lb bc, .int .i64 sm, .int .i64 ss, .int .i64 um, .int .i64 us, .int .i64 z, .int .i64 p, .int .i64 lo, .int .i64 hi, .int .i64 h, .int .i64 w, .int .i64 c, .int .i64 H, .int .i64 V, .int .i64 C] 87 (0, 0))) (bs : List Int) (hB : IRow .i32 W ba lb bc bs) (s : Sit k kh kw sh sw tp lf bt rt h w c H V C lw lb) (ch : Int) (hc : 1 ≤ ch ∧ ch ≤ C) :
    Calls Try.prog 36 #[.pointer (some ⟨r, 0, none⟩), .int .i64 ch] W fun e w' => e = .returned (.int .i64 (biA k ch bs)) ∧ w' = W := by
  obtain ⟨y1, y2, y3⟩ := cells_at hr
  obtain ⟨hk, -, hv, -, -, -, hl, -⟩ := s
  have hC := (vS_yes hv).2.2.1
  clear hr
  by_cases k4 : k = 4
  · subst k4
    rw [show biA 4 ch bs = 0 from if_pos rfl]
    go_enter Try.func36, Try.ntmps36
    go_wp2
    go_ret
    exact ⟨rfl, rfl⟩
  · rw [show biA k ch bs = bs.getD (ch - 1).toNat 0 from if_neg k4]
    have hl2 := (hl (by omega)).2
    obtain ⟨n, rfl⟩ : ∃ n : Nat, ch = (n : Int) + 1 := ⟨(ch - 1).toNat, by omega⟩
    have hm := hB.2.2.1
    have hcc := hB.2.1
    unfold maxLen at hm
    obtain ⟨x, u, rfl, hu, hwf, hz, -⟩ := hB.at (show n < lb by omega)
    obtain ⟨u1, u2⟩ := wf_i32 hwf
    have e : bs.getD ((n : Int) + 1 - 1).toNat 0 = u := by rw [show ((n : Int) + 1 - 1).toNat = n by omega, List.getD_eq_getElem?_getD, hz]; rfl
    rw [e]
    have k4' : (k == 4) = false := by simp [k4]
    clear e hz hwf hB hl
    go_enter Try.func36, Try.ntmps36
    go_wp2
    go_ret
    exact ⟨rfl, rfl⟩
set_option maxHeartbeats 1000000 in
theorem twei_any (k a b m kh kw sh sw tp lf bt rt : Int) (wa : Option Addr) (lw wc : Nat) (ba : Option Addr) (lb bc : Nat) (sm ss um us z p lo hi h w c H V C : Int) (r : Nat) (W : World) (hr : W.heap[r]? = some (.cells #[.int .i64 k, .int .i64 a, .int .i64 b, .int .i64 m, .int .i64 kh, .int .i64 kw, .int .i64 sh, .int .i64 sw, .int .i64 tp, .int .i64 lf, .int .i64 bt, .int .i64 rt, .slice wa lw wc, .slice ba lb bc, .int .i64 sm, .int .i64 ss, .int .i64 um, .int .i64 us, .int .i64 z, .int .i64 p, .int .i64 lo, .int .i64 hi, .int .i64 h, .int .i64 w, .int .i64 c, .int .i64 H, .int .i64 V, .int .i64 C] 87 (0, 0))) (zs : List Int) (hZ : IRow .i16 W wa lw wc zs) (s : Sit k kh kw sh sw tp lf bt rt h w c H V C lw lb) (ch : Int) (hc : 1 ≤ ch ∧ ch ≤ C) (i : Nat) (hi0 : (i : Int) < stR k kh kw h w c) :
    Calls Try.prog 50 #[.pointer (some ⟨r, 0, none⟩), .int .i64 ch, .int .i64 i] W fun e w' => e = .returned (.int .i64 (wgA k ch (stR k kh kw h w c) zs i)) ∧ ∃ n, w' = W.drewN n := by
  have hL : Hid (∀ n, Calls Try.prog 49 #[.pointer (some ⟨r, 0, none⟩)] (W.drewN n) fun e w' => e = .returned (.int .i64 (stR k kh kw h w c)) ∧ ∃ m, w' = (W.drewN n).drewN m) := fun n => tlen_any k a b m kh kw sh sw tp lf bt rt wa lw wc ba lb bc sm ss um us z p lo hi h w c H V C r (W.drewN n) hr s
  obtain ⟨y1, y2, y3⟩ := cells_at hr
  obtain ⟨hk, -, hv, -, -, -, hl, -, hst0, hst1⟩ := s
  have hC := (vS_yes hv).2.2.1
  obtain ⟨st, hst⟩ : ∃ st, stR k kh kw h w c = st := ⟨_, rfl⟩
  rw [hst] at hL hl hst0 hst1 hi0 ⊢
  clear hr hst hv
  by_cases k4 : k = 4
  · subst k4
    rw [show wgA 4 ch st zs i = 1 from if_pos rfl]
    go_enter Try.func50, Try.ntmps50
    go_wp2
    go_ret
    exact ⟨rfl, 0, rfl⟩
  · rw [show wgA k ch st zs i = zs.getD ((ch - 1) * st + i).toNat 0 from if_neg k4]
    have hl2 := (hl (by omega)).1
    obtain ⟨d, rfl⟩ : ∃ d : Nat, ch = (d : Int) + 1 := ⟨(ch - 1).toNat, by omega⟩
    have hm := hZ.2.2.1
    have hcc := hZ.2.1
    unfold maxLen at hm
    have p1 : 0 ≤ (d : Int) * st := Int.mul_nonneg (by omega) (by omega)
    have p2 : (d : Int) * st + st ≤ C * st := by
      have := Int.mul_le_mul_of_nonneg_right (show (d : Int) + 1 ≤ C by omega) (show 0 ≤ st by omega)
      rwa [Int.add_mul, Int.one_mul] at this
    obtain ⟨p', ep⟩ : ∃ p', (d : Int) * st = p' := ⟨_, rfl⟩
    rw [show (d : Int) + 1 - 1 = d by omega, ep]
    rw [ep] at p1 p2
    rw [← hl2] at p2
    obtain ⟨N, eN⟩ : ∃ N : Nat, p' + (i : Int) = (N : Int) := ⟨(p' + i).toNat, by omega⟩
    rw [eN]
    have hN : N < lw := by omega
    obtain ⟨x, u, rfl, hu, hwf, hz, -⟩ := hZ.at hN
    obtain ⟨u1, u2⟩ := wf_i16 hwf
    have e : zs.getD ((N : Int)).toNat 0 = u := by rw [Int.toNat_natCast, List.getD_eq_getElem?_getD, hz]; rfl
    rw [e]
    have k4' : (k == 4) = false := by simp [k4]
    have hd1 : (d : Int) + 1 ≤ 1024 := by omega
    have hi2 : (i : Int) ≤ 512 := by omega
    clear e hz hwf hZ hl hl2 hC hc
    go_enter Try.func50, Try.ntmps50
    go_wp2
    go_quiet ((go_at_call 49; exact Calls.quiet_of (hL.out _)))
    go_wp2
    go_ret
    exact ⟨rfl, _, rfl⟩
/-- The channels that are read: the first, and the one behind the last. -/
def chF (k ch : Int) : Int := if k = 2 then 0 else ch - 1
def chB (k c ch : Int) : Int := if k = 2 then c else ch
theorem tread_any (k a b m kh kw sh sw tp lf bt rt : Int) (wa : Option Addr) (lw wc : Nat) (ba : Option Addr) (lb bc : Nat) (sm ss um us z p lo hi h w c H V C : Int) (r : Nat) (W : World) (hr : W.heap[r]? = some (.cells #[.int .i64 k, .int .i64 a, .int .i64 b, .int .i64 m, .int .i64 kh, .int .i64 kw, .int .i64 sh, .int .i64 sw, .int .i64 tp, .int .i64 lf, .int .i64 bt, .int .i64 rt, .slice wa lw wc, .slice ba lb bc, .int .i64 sm, .int .i64 ss, .int .i64 um, .int .i64 us, .int .i64 z, .int .i64 p, .int .i64 lo, .int .i64 hi, .int .i64 h, .int .i64 w, .int .i64 c, .int .i64 H, .int .i64 V, .int .i64 C] 87 (0, 0))) (ch : Int) (hc : 1 ≤ ch ∧ ch ≤ 1024) :
    Calls Try.prog 51 #[.pointer (some ⟨r, 0, none⟩), .int .i64 ch] W fun e w' => e = .returned (.tuple #[.int .i64 (chF k ch), .int .i64 (chB k c ch)]) ∧ ∃ n, w' = W.drewN n := by
  obtain ⟨y1, y2, y3⟩ := cells_at hr
  clear hr
  by_cases k2 : k = 2
  · subst k2
    rw [show chF 2 ch = 0 from if_pos rfl, show chB 2 c ch = c from if_pos rfl]
    go_enter Try.func51, Try.ntmps51
    go_wp2
    go_quiet (fail)
    go_wp2
    go_ret2
    exact ⟨rfl, _, rfl⟩
  · rw [show chF k ch = ch - 1 from if_neg k2, show chB k c ch = ch from if_neg k2]
    have k2' : (k == 2) = false := by simp [k2]
    go_enter Try.func51, Try.ntmps51
    go_wp2
    go_ret2
    exact ⟨rfl, 0, rfl⟩
theorem tplace_any (k a b m kh kw sh sw tp lf bt rt : Int) (wa : Option Addr) (lw wc : Nat) (ba : Option Addr) (lb bc : Nat) (sm ss um us z p lo hi h w c H V C : Int) (r : Nat) (W : World) (hr : W.heap[r]? = some (.cells #[.int .i64 k, .int .i64 a, .int .i64 b, .int .i64 m, .int .i64 kh, .int .i64 kw, .int .i64 sh, .int .i64 sw, .int .i64 tp, .int .i64 lf, .int .i64 bt, .int .i64 rt, .slice wa lw wc, .slice ba lb bc, .int .i64 sm, .int .i64 ss, .int .i64 um, .int .i64 us, .int .i64 z, .int .i64 p, .int .i64 lo, .int .i64 hi, .int .i64 h, .int .i64 w, .int .i64 c, .int .i64 H, .int .i64 V, .int .i64 C] 87 (0, 0))) (q d : Int) (hq : -1 ≤ q ∧ q ≤ 16384) (hd : 0 ≤ d ∧ d ≤ 1024) (hc : 1 ≤ c ∧ c ≤ 1024) :
    Calls Try.prog 53 #[.pointer (some ⟨r, 0, none⟩), .int .i64 q, .int .i64 d] W fun e w' => e = .returned (.int .i64 (cov c q d)) ∧ w' = W := by
  obtain ⟨y1, y2, y3⟩ := cells_at hr
  clear hr
  by_cases q1 : q = -1
  · subst q1
    rw [show cov c (-1) d = -1 from if_pos rfl]
    go_enter Try.func53, Try.ntmps53
    go_wp2
    go_ret
    exact ⟨rfl, rfl⟩
  · rw [show cov c q d = q * c + d from if_neg q1]
    have q1' : (q == -1) = false := by simp [q1]
    have p1 : 0 ≤ q * c := Int.mul_nonneg (by omega) (by omega)
    have p2 : q * c ≤ 16384 * 1024 := Int.mul_le_mul hq.2 hc.2 (by omega) (by omega)
    obtain ⟨p', ep⟩ : ∃ p', q * c = p' := ⟨_, rfl⟩
    rw [ep] at p1 p2 ⊢
    go_enter Try.func53, Try.ntmps53
    go_wp2
    go_ret
    exact ⟨rfl, rfl⟩
end Go.Proofs.Ytjjckaklhafibaa

/- The iterator of Taps: called with whatever round, it gives each tap in its order, till it is told to stop. -/
namespace Go.Proofs.Ytjjckaklhafibaa
open Go.ChangeShapes Go.WideShapes Go.ChangeAt Go.RowKit Go.Shelf
attribute [local go_sem] Oper.semAt_some
/-- What a round keeps: the listed blocks. -/
def Kept (l : List Nat) (W W' : World) : Prop := ∀ b ∈ l, ∀ c t, W.heap[b]? = some (.cells c t (0, 0)) → W'.heap[b]? = some (.cells c t (0, 0))
theorem Kept.refl (l : List Nat) (W : World) : Kept l W W := fun _ _ _ _ h => h
theorem Kept.trans {l : List Nat} {A B C : World} (h : Kept l A B) (k : Kept l B C) : Kept l A C := fun b hb c t hc => k b hb c t (h b hb c t hc)
theorem Kept.put {l : List Nat} (W : World) (i : Nat) (o o' : Obj) (h : W.heap[i]? = some o) (ho : o.isCells = false) : Kept l W (W.putObj i o') := fun b _ _ _ hc => by
  by_cases e : b = i
  · subst e; rw [h] at hc; cases hc; cases ho
  · rw [World.putObj_heap_other e]; exact hc
theorem Kept.below {l : List Nat} {W W' : World} (h : Below W.heap.size W W') : Kept l W W' := fun b _ _ _ hc => (h.block b (lt_of_heap hc)).trans hc
theorem Kept.grown {l : List Nat} {W W' : World} {g : Option Nat} (h : W.grownBy W' g) (hg : ∀ b, g = some b → b ∉ l) : Kept l W W' := fun b hb _ _ hc => (h.block b (lt_of_heap hc) (fun e => hg b e.symm hb)).trans hc
/-- A world in which all that lay in W lies as it lay. -/
def Wn (W : World) : Type := Subtype fun w : World => Below W.heap.size W w
def Wn.w {W : World} (n : Wn W) : World := n.1
theorem Wn.h {W : World} (n : Wn W) : Below W.heap.size W n.w := n.2
def Wn.mk {W : World} (w : World) (h : Below W.heap.size W w) : Wn W := Subtype.mk w h
theorem Wn.rule {W : World} {B : Nat} {c : Array Value} {t : TypeId} (h : W.heap[B]? = some (.cells c t (0, 0))) : ∀ (n : Wn W) (i : Nat), n.w.cell? ⟨B, i, none⟩ = c[i]? := fun n i => by
  have h0 : n.w.heap[B]? = some (.cells c t (0, 0)) := (n.h.block B (lt_of_heap h)).trans h
  simp [World.cell?, h0]
theorem wn_call {f : FuncId} {args : Array Value} {W : World} {n : Wn W} {m : Nat} {v : Value}
    (h : Calls Try.prog f args n.w fun e w' => e = .returned v ∧ Below n.w.heap.size n.w w') : CallsIn Fence.wide m Try.prog f args n.w fun e w'' => e = .returned v ∧ ∃ k : Wn W, w'' = k.w :=
  callsIn_wide.2 (h.mono fun _ _ ⟨he, hb⟩ => ⟨he, Wn.mk _ (n.h.trans (hb.mono n.h.size)), rfl⟩)
theorem grownBy_of_below {W W' : World} (k : Below W.heap.size W W') : W.grownBy W' none := ⟨k.os, k.tape, k.output, k.size, fun i hi _ => k.block i hi⟩
theorem abides_below {β : Type} {B : Nat} {J : β → World → Prop} (hJ : AbidesFrom B J) {s : β} {W W' : World} (h : J s W) (k : Below W.heap.size W W') : J s W' :=
  hJ s W W' none h (grownBy_of_below k) (fun r e => by cases e)
set_option maxRecDepth 100000 in
set_option maxHeartbeats 4000000 in
theorem taps1_in (m : Nat) (l B1 B2 B3 B4 B5 : Nat) (h w c kh kw sh sw tp lf bt rt t u : Int) (N : Nat) (J Jx : List (Int × Int) → World → Prop) (W : World)
    (hC : N = 0 ∨ Cor h w kh kw t u ∧ N = (kh * kw).toNat)
    (hJ : AbidesFrom W.heap.size J)
    (hY : ∀ pre x W1, J pre W1 → pre.length < N → YieldAt Fence.wide (m - 1) Try.prog l #[.int .i64 x.1, .int .i64 x.2] W1 fun e W' =>
      (e = .returned (.bool true) ∧ J (pre ++ [x]) W' ∧ Kept [B2, B3, B4, B5] W1 W') ∨ (e = .returned (.bool false) ∧ Jx (pre ++ [x]) W'))
    (c1 : W.heap[B1]? = some (.cells #[.int .i64 N] 3 (0, 0))) (c2 : W.heap[B2]? = some (.cells #[.int .i64 h, .int .i64 w, .int .i64 c] 23 (0, 0))) (c3 : W.heap[B3]? = some (.cells #[.int .i64 t] 3 (0, 0)))
    (c4 : W.heap[B4]? = some (.cells #[.int .i64 kh, .int .i64 kw, .int .i64 sh, .int .i64 sw, .int .i64 tp, .int .i64 lf, .int .i64 bt, .int .i64 rt] 33 (0, 0))) (c5 : W.heap[B5]? = some (.cells #[.int .i64 u] 3 (0, 0))) (h0 : J [] W) :
    CallsIn Fence.wide m Try.prog 65 #[.func (.yield l) #[] #[], .pointer (some ⟨B1, 0, none⟩), .pointer (some ⟨B2, 0, none⟩), .pointer (some ⟨B3, 0, none⟩), .pointer (some ⟨B4, 0, none⟩), .pointer (some ⟨B5, 0, none⟩)] W fun e W' => (∃ v, e = .returned v) ∧
      ((∃ ys, ys = tapL h w kw t u N ∧ J ys W') ∨ (∃ pre, (∃ k, k ≤ N ∧ pre = tapL h w kw t u k) ∧ Jx pre W')) := by
  have r1 : W.cell? ⟨B1, 0, none⟩ = some (.int .i64 N) := by simp [World.cell?, c1]
  refine callsIn_of_wp Try.func65 rfl trivial ?_ rfl
  simp only [Try.ntmps65, List.size_toArray, List.length_cons, List.length_nil, Nat.reduceAdd, Nat.reduceSub, Array.replicate_succ, Array.replicate_zero, List.push_toArray, List.append_toArray, List.nil_append, List.cons_append]
  gi_wp2
  gi_loopw [9] (fun i wr => ∃ k : Nat, k ≤ N ∧ i = .int .i64 k ∧ J (tapL h w kw t u k) wr ∧ Kept [B2, B3, B4, B5] W wr)
    (fun i _ => N - (intOf i).toNat)
  case atStart => exact ⟨0, Nat.zero_le _, rfl, h0, Kept.refl _ _⟩
  case round =>
    obtain ⟨k, hk, rfl, hJs, hkp⟩ := hrel
    by_cases hlt : k < N
    · rcases hC with rfl | ⟨⟨h1, w1, q9, k1, k2, t1, u1⟩, hN⟩
      · omega
      have d2 := hkp B2 (by simp) _ _ c2
      have d3 := hkp B3 (by simp) _ _ c3
      have d4 := hkp B4 (by simp) _ _ c4
      have d5 := hkp B5 (by simp) _ _ c5
      have e2 := Wn.rule d2
      have e3 := Wn.rule d3
      have e4 := Wn.rule d4
      have e5 := Wn.rule d5
      have p1 := Int.ediv_nonneg (show (0 : Int) ≤ k by omega) (show 0 ≤ kw by omega)
      have p3 := Int.mul_nonneg (show 0 ≤ kh by omega) (show 0 ≤ kw by omega)
      have p2 : (k : Int) / kw < kh := Int.ediv_lt_of_lt_mul (by omega) (by omega)
      have p4 := Int.emod_nonneg (k : Int) (show kw ≠ 0 by omega)
      have p5 := Int.emod_lt_of_pos (k : Int) (show 0 < kw by omega)
      have t6 := td (c := kw) (show (0 : Int) ≤ k by omega)
      have t7 := tm (c := kw) (show (0 : Int) ≤ k by omega)
      obtain ⟨d, hd⟩ : ∃ d, (k : Int) / kw = d := ⟨_, rfl⟩
      obtain ⟨e, he⟩ : ∃ e, (k : Int) % kw = e := ⟨_, rfl⟩
      have HT : Hid (tap h w kw t u k = ((k : Int), plc h w (t + d) (u + e))) := by unfold Hid tap; rw [hd, he]
      rw [hd] at p1 p2 t6
      rw [he] at p4 p5 t7
      have kw0 : ¬ kw = 0 := by omega
      have kN : N ≤ 1024 := by
        have := Int.mul_le_mul k1.2 k2.2 (by omega) (by omega)
        omega
      have HN : Hid (N = (kh * kw).toNat) := hN
      clear hd he hN p3
      have hfn : ∀ f, Fence.wide.fn f := fun _ => trivial
      have hdp : Fence.wide.depth = none := rfl
      have hne : Nonempty (Wn wr) := ⟨Wn.mk wr (Below.refl _ _)⟩
      gi_wp2
      refine region_tail_at 16 (C := fun w' => ∃ n : Wn wr, w' = n.w) rfl rfl (by kernel_rfl) (by kernel_rfl) ⟨Wn.mk _ (Below.refl _ _).drew, rfl⟩ ?_
      simp only [List.take_succ_cons, List.take_zero, List.drop_succ_cons, List.drop_zero]
      repeat (gi_big_quiet_step (exact wn_call (place_any _ _ _ _ _ _ (by omega) (by omega) h1 w1)))
      refine wpQuietIn_nil ?_
      rintro _ ⟨n, rfl⟩
      obtain ⟨fn, tmps, assign, body, hy, hR⟩ := hY (tapL h w kw t u k) (tap h w kw t u k) n.w (abides_below hJ hJs n.h) (by rw [tapL_len]; exact hlt)
      rw [← tapL_succ] at hR
      rw [HT.out] at hy
      dsimp only at hy
      gi_wp2
      refine hR.mono ?_
      rintro e W3 (⟨rfl, hJ3, hk3⟩ | ⟨rfl, hJx3⟩)
      · gi_wp2
        go_roundw
        case rel => exact ⟨k + 1, by omega, by simp, hJ3, (hkp.trans (Kept.below n.h)).trans hk3⟩
        case measure => simp [intOf]; omega
      · gi_wp2
        refine bodyPost_ret (results_none rfl _ _ _) rfl ?_
        exact ⟨⟨_, rfl⟩, .inr ⟨_, ⟨k + 1, by omega, rfl⟩, hJx3⟩⟩
    · obtain rfl : k = N := by omega
      gi_wp2
      go_end0
      exact ⟨⟨_, rfl⟩, .inl ⟨_, rfl, hJs⟩⟩
end Go.Proofs.Ytjjckaklhafibaa

/- The iterator of Positions: called with whatever round, it gives each position's row and column in their order, till it is told to stop. -/
namespace Go.Proofs.Ytjjckaklhafibaa
open Go.ChangeShapes Go.WideShapes Go.ChangeAt Go.RowKit Go.Shelf
attribute [local go_sem] Oper.semAt_some
theorem spot_at {q y x : Nat} (hx : x < q) : (((y * q + x : Nat) : Int) / (q : Int), ((y * q + x : Nat) : Int) % (q : Int)) = ((y : Int), (x : Int)) := by
  have e1 : ((y * q + x : Nat) : Int) / (q : Int) = y := by
    rw [← Int.natCast_ediv]
    congr 1
    rw [Nat.mul_comm, Nat.mul_add_div (by omega), Nat.div_eq_of_lt hx, Nat.add_zero]
  have e2 : ((y * q + x : Nat) : Int) % (q : Int) = x := by
    rw [← Int.natCast_emod]
    congr 1
    rw [Nat.mul_comm, Nat.mul_add_mod, Nat.mod_eq_of_lt hx]
  rw [e1, e2]
end Go.Proofs.Ytjjckaklhafibaa

/- What corner of package window, and the document's Has, return: each for every argument. -/
namespace Go.Proofs.Ytjjckaklhafibaa
open Go.ChangeShapes Go.WideShapes Go.ChangeAt Go.RowKit
theorem drewN_below (w : World) (n : Nat) : Below w.heap.size w (w.drewN n) := below_drewN (Below.refl _ _) n
theorem coR_bad {h w c kh kw sh sw tp lf bt rt n e : Int} (he : ouR h w c kh kw sh sw tp lf bt rt = (0, 0, e)) (h2 : e ≠ 0) : coR h w c kh kw sh sw tp lf bt rt n = (0, 0, e) := by unfold coR; rw [he, if_neg (by simpa using h2)]
theorem coR_out {h w c kh kw sh sw tp lf bt rt n r q : Int} (he : ouR h w c kh kw sh sw tp lf bt rt = (r, q, 0)) (hn : ¬ (0 ≤ n ∧ n < r * q)) : coR h w c kh kw sh sw tp lf bt rt n = (0, 0, 3) := by unfold coR; rw [he, if_pos rfl, if_neg hn]
theorem coR_in {h w c kh kw sh sw tp lf bt rt n r q : Int} (he : ouR h w c kh kw sh sw tp lf bt rt = (r, q, 0)) (hn : 0 ≤ n ∧ n < r * q) : coR h w c kh kw sh sw tp lf bt rt n = (n / q * sh - tp, n % q * sw - lf, 0) := by unfold coR; rw [he, if_pos rfl, if_pos hn]
set_option maxHeartbeats 4000000 in
theorem corner_any (h w c kh kw sh sw tp lf bt rt n : Int) (W : World) :
    Calls Try.prog 64 #[.agg #[.int .i64 h, .int .i64 w, .int .i64 c], .agg #[.int .i64 kh, .int .i64 kw, .int .i64 sh, .int .i64 sw, .int .i64 tp, .int .i64 lf, .int .i64 bt, .int .i64 rt], .int .i64 n] W fun e w' => e = .returned (.tuple #[.int .i64 (coR h w c kh kw sh sw tp lf bt rt n).1, .int .i64 (coR h w c kh kw sh sw tp lf bt rt n).2.1, .int .i64 (coR h w c kh kw sh sw tp lf bt rt n).2.2]) ∧ Below W.heap.size W w' := by
  rcases ouR_cases h w c kh kw sh sw tp lf bt rt with ⟨e, he, h2⟩ | ⟨r, q, he, hf⟩
  · rw [coR_bad he (by omega)]
    have HO : Hid (ouR h w c kh kw sh sw tp lf bt rt = (0, 0, e)) := he
    clear he
    rcases h2 with rfl | rfl
    · go_enter Try.func64, Try.ntmps64
      go_wp2_with fail
      refine (out_any _ _ _ _ _ _ _ _ _ _ _ _).mono ?_
      rintro e w1 ⟨rfl, hb'⟩
      have s1 := (St.start W).new.new.call hb'
      clear hb'
      try simp only [World.size_setCell] at s1
      try simp only [World.size_alloc] at s1
      obtain ⟨c1, f1, zw1_1, c2, f2, zw1_2, -⟩ := s1.rules
      rw [HO.out]
      go_wp2
      go_ret3
      exact ⟨rfl, s1.below⟩
    · go_enter Try.func64, Try.ntmps64
      go_wp2_with fail
      refine (out_any _ _ _ _ _ _ _ _ _ _ _ _).mono ?_
      rintro e w1 ⟨rfl, hb'⟩
      have s1 := (St.start W).new.new.call hb'
      clear hb'
      try simp only [World.size_setCell] at s1
      try simp only [World.size_alloc] at s1
      obtain ⟨c1, f1, zw1_1, c2, f2, zw1_2, -⟩ := s1.rules
      rw [HO.out]
      go_wp2
      go_ret3
      exact ⟨rfl, s1.below⟩
  · obtain ⟨⟨h1, v1, q9⟩, ⟨k1, k2, k3, k4, k5, k6, k7, k8⟩, r1, q1, z1, z2⟩ := hf
    obtain ⟨m1, m2⟩ := mul_bd r1.1 r1.2 q1.1 q1.2
    have HO : Hid (ouR h w c kh kw sh sw tp lf bt rt = (r, q, 0)) := he
    clear he z1 z2 q9
    obtain ⟨m, hm⟩ : ∃ m, r * q = m := ⟨_, rfl⟩
    have HM : Hid (r * q = m) := hm
    rw [hm] at m1 m2
    by_cases n1 : n < 0
    · rw [coR_out HO.out (by omega)]
      clear hm
      go_enter Try.func64, Try.ntmps64
      go_wp2_with fail
      refine (out_any _ _ _ _ _ _ _ _ _ _ _ _).mono ?_
      rintro e w1 ⟨rfl, hb'⟩
      have s1 := (St.start W).new.new.call hb'
      clear hb'
      try simp only [World.size_setCell] at s1
      try simp only [World.size_alloc] at s1
      obtain ⟨c1, f1, zw1_1, c2, f2, zw1_2, -⟩ := s1.rules
      rw [HO.out]
      go_wp2
      go_ret3
      exact ⟨rfl, s1.below⟩
    by_cases n2 : m ≤ n
    · rw [coR_out HO.out (by omega)]
      go_enter Try.func64, Try.ntmps64
      go_wp2_with fail
      refine (out_any _ _ _ _ _ _ _ _ _ _ _ _).mono ?_
      rintro e w1 ⟨rfl, hb'⟩
      have s1 := (St.start W).new.new.call hb'
      clear hb'
      try simp only [World.size_setCell] at s1
      try simp only [World.size_alloc] at s1
      obtain ⟨c1, f1, zw1_1, c2, f2, zw1_2, -⟩ := s1.rules
      rw [HO.out]
      go_wp2
      go_ret3
      exact ⟨rfl, s1.below⟩
    rw [coR_in HO.out (by omega)]
    have a1 := Int.ediv_nonneg (show 0 ≤ n by omega) (show 0 ≤ q by omega)
    have a2 : n / q < r := Int.ediv_lt_of_lt_mul (by omega) (by omega)
    have b1 := Int.emod_nonneg n (show q ≠ 0 by omega)
    have b2 := Int.emod_lt_of_pos n (show 0 < q by omega)
    have t1 := td (c := q) (show 0 ≤ n by omega)
    have t2 := tm (c := q) (show 0 ≤ n by omega)
    obtain ⟨d, hd⟩ : ∃ d, n / q = d := ⟨_, rfl⟩
    obtain ⟨u, hu⟩ : ∃ u, n % q = u := ⟨_, rfl⟩
    rw [hd] at a1 a2 t1
    rw [hu] at b1 b2 t2
    rw [hd, hu]
    clear hd hu
    have c1 := Int.mul_le_mul (show d ≤ 1200 by omega) k3.2 (by omega) (by omega)
    have c2 := Int.mul_le_mul (show u ≤ 1200 by omega) k4.2 (by omega) (by omega)
    have c3 := Int.mul_nonneg a1 (show 0 ≤ sh by omega)
    have c4 := Int.mul_nonneg b1 (show 0 ≤ sw by omega)
    obtain ⟨p, hp⟩ : ∃ p, d * sh = p := ⟨_, rfl⟩
    obtain ⟨v, hv⟩ : ∃ v, u * sw = v := ⟨_, rfl⟩
    rw [hp] at c1 c3
    rw [hv] at c2 c4
    rw [hp, hv]
    have q0 : ¬ q = 0 := by omega
    go_enter Try.func64, Try.ntmps64
    go_wp2_with fail
    refine (out_any _ _ _ _ _ _ _ _ _ _ _ _).mono ?_
    rintro e w1 ⟨rfl, hb'⟩
    have s1 := (St.start W).new.new.call hb'
    clear hb'
    try simp only [World.size_setCell] at s1
    try simp only [World.size_alloc] at s1
    obtain ⟨c1, f1, zw1_1, c2, f2, zw1_2, -⟩ := s1.rules
    rw [HO.out]
    go_wp2
    go_quiet (fail)
    go_wp2
    go_ret3
    exact ⟨rfl, s1.below.trans ((drewN_below _ _).mono s1.below.size)⟩
end Go.Proofs.Ytjjckaklhafibaa

/- Taps and Positions hand back iterators: what they give, and for how long. -/
namespace Go.Proofs.Ytjjckaklhafibaa
open Go.ChangeShapes Go.WideShapes Go.ChangeAt Go.RowKit Go.Shelf
/-- What lies from block lo on, ahead of block hi, lies as it lay. -/
def Mid (lo hi : Nat) (W W' : World) : Prop := ∀ b, lo ≤ b → b < hi → ∀ c t, W.heap[b]? = some (.cells c t (0, 0)) → W'.heap[b]? = some (.cells c t (0, 0))
theorem Mid.refl (lo hi : Nat) (W : World) : Mid lo hi W W := fun _ _ _ _ _ h => h
theorem Mid.trans {lo hi : Nat} {A B C : World} (h : Mid lo hi A B) (k : Mid lo hi B C) : Mid lo hi A C := fun b h1 h2 c t hc => k b h1 h2 c t (h b h1 h2 c t hc)
theorem Mid.put {lo hi : Nat} (W : World) (i : Nat) (o o' : Obj) (h : W.heap[i]? = some o) (ho : o.isCells = false) : Mid lo hi W (W.putObj i o') := fun b _ _ _ _ hc => by
  by_cases e : b = i
  · subst e; rw [h] at hc; cases hc; cases ho
  · rw [World.putObj_heap_other e]; exact hc
theorem Mid.below {lo hi n : Nat} {W W' : World} (h : Below n W W') (hn : hi ≤ n) : Mid lo hi W W' := fun b _ h2 _ _ hc => (h.block b (by omega)).trans hc
theorem Mid.later {lo hi : Nat} {W W' : World} (h : Below W.heap.size W W') : Mid lo hi W W' := fun b _ _ _ _ hc => (h.block b (lt_of_heap hc)).trans hc
theorem Mid.grown {lo hi : Nat} {W W' : World} {g : Option Nat} (h : W.grownBy W' g) (hg : ∀ b, g = some b → b < lo ∨ hi ≤ b) : Mid lo hi W W' := fun b h1 h2 _ _ hc => (h.block b (lt_of_heap hc) (fun e => by have := hg b e.symm; omega)).trans hc
theorem Mid.set {lo hi : Nat} (W : World) {B i : Nat} {v : Value} (hB : B < lo ∨ hi ≤ B) : Mid lo hi W (W.setCell ⟨B, i, none⟩ v) := fun b h1 h2 _ _ hc => by
  rw [Below.heap_setCell _ _ _ _ (by show b ≠ B; omega)]; exact hc
theorem Mid.kept {lo hi : Nat} {l : List Nat} {W W' : World} (h : Mid lo hi W W') (hl : ∀ b ∈ l, lo ≤ b ∧ b < hi) : Kept l W W' := fun b hb c t hc => h b (hl b hb).1 (hl b hb).2 c t hc
/-- An iterator that lies from block lo on, ahead of block hi, and gives these pairs. -/
def It (lo hi : Nat) (w : World) (v : Value) (ys : List (Int × Int)) : Prop :=
  ∃ g lb, v = .func (.func g) #[] lb ∧ (∀ args w, (callFunc g args).run Try.prog w = .ok (.enter g args) w) ∧
    ∀ w' m, Mid lo hi w w' → SeqStopsK Fence.wide m Try.prog g lb (fun x : Int × Int => #[Value.int .i64 x.1, Value.int .i64 x.2]) (Mid lo hi) (fun zs => zs = ys) (fun pre => ∃ k, k ≤ ys.length ∧ pre = ys.take k) ys.length w'
theorem It.mid {lo hi : Nat} {w w' : World} {v : Value} {ys : List (Int × Int)} (h : It lo hi w v ys) (k : Mid lo hi w w') : It lo hi w' v ys := by
  obtain ⟨g, lb, h1, h2, h3⟩ := h
  exact ⟨g, lb, h1, h2, fun w'' m k' => h3 w'' m (k.trans k')⟩
theorem It.later {lo hi : Nat} {w w' : World} {v : Value} {ys : List (Int × Int)} (h : It lo hi w v ys) (k : Below w.heap.size w w') : It lo hi w' v ys := h.mid (Mid.later k)
theorem cell_of {lo hi : Nat} {w w' W : World} {b : Nat} {c : Array Value} {t : TypeId} (h : w.heap[b]? = some (.cells c t (0, 0))) (h1 : lo ≤ b) (h2 : b < hi) (k : Mid lo hi w w') (hW : Below w'.heap.size w' W) : W.heap[b]? = some (.cells c t (0, 0)) :=
  Mid.later (lo := lo) (hi := hi) hW b h1 h2 c t (k b h1 h2 c t h)
theorem it_taps {lo hi : Nat} {w0 : World} {B1 B2 B3 B4 B5 : Nat} {h w c kh kw sh sw tp lf bt rt t u : Int} {N : Nat} (hC : N = 0 ∨ Cor h w kh kw t u ∧ N = (kh * kw).toNat)
    (c1 : w0.heap[B1]? = some (.cells #[.int .i64 N] 3 (0, 0))) (c2 : w0.heap[B2]? = some (.cells #[.int .i64 h, .int .i64 w, .int .i64 c] 23 (0, 0))) (c3 : w0.heap[B3]? = some (.cells #[.int .i64 t] 3 (0, 0)))
    (c4 : w0.heap[B4]? = some (.cells #[.int .i64 kh, .int .i64 kw, .int .i64 sh, .int .i64 sw, .int .i64 tp, .int .i64 lf, .int .i64 bt, .int .i64 rt] 33 (0, 0))) (c5 : w0.heap[B5]? = some (.cells #[.int .i64 u] 3 (0, 0))) (hb : ∀ b ∈ [B1, B2, B3, B4, B5], lo ≤ b ∧ b < hi) :
    It lo hi w0 (.func (.func 65) #[] #[.pointer (some ⟨B1, 0, none⟩), .pointer (some ⟨B2, 0, none⟩), .pointer (some ⟨B3, 0, none⟩), .pointer (some ⟨B4, 0, none⟩), .pointer (some ⟨B5, 0, none⟩)]) (tapL h w kw t u N) := by
  refine ⟨_, _, rfl, enters_of Try.func65 (by kernel_rfl) rfl, fun w' m k l J Jx W hW hJ hJx hY h0 => ?_⟩
  have b1 := hb B1 (by simp)
  have b2 := hb B2 (by simp)
  have b3 := hb B3 (by simp)
  have b4 := hb B4 (by simp)
  have b5 := hb B5 (by simp)
  rw [tapL_len] at hY
  refine (taps1_in m l B1 B2 B3 B4 B5 h w c kh kw sh sw tp lf bt rt t u N J Jx W hC hJ (fun pre x W1 hj hl => YieldAt.mono (hY pre x W1 hj hl) ?_)
    (cell_of c1 b1.1 b1.2 k hW) (cell_of c2 b2.1 b2.2 k hW) (cell_of c3 b3.1 b3.2 k hW) (cell_of c4 b4.1 b4.2 k hW) (cell_of c5 b5.1 b5.2 k hW) h0).mono ?_
  · rintro e W' (⟨h1, h2, h3⟩ | h1)
    · exact .inl ⟨h1, h2, h3.kept fun b hb' => hb b (List.mem_cons_of_mem _ hb')⟩
    · exact .inr h1
  · rintro e W' ⟨he, ⟨ys, rfl, hj⟩ | ⟨pre, ⟨j, hj1, rfl⟩, hj⟩⟩
    · exact ⟨he, .inl ⟨_, rfl, hj⟩⟩
    · exact ⟨he, .inr ⟨_, ⟨j, by rw [tapL_len]; exact hj1, tapL_take _ _ _ _ _ hj1⟩, hj⟩⟩
/-- What the listed blocks hold. -/
def Heaps (w : World) : List (Nat × Array Value × TypeId) → Prop
  | [] => True
  | (B, c, t) :: l => w.heap[B]? = some (.cells c t) ∧ Heaps w l
theorem heaps_of {w : World} : ∀ (l : List (Nat × Array Value × TypeId)), (∀ x ∈ l, w.heap[x.1]? = some (.cells x.2.1 x.2.2)) → Heaps w l
  | [], _ => trivial
  | (_, _, _) :: l, h => ⟨h _ List.mem_cons_self, heaps_of l fun x hx => h x (List.mem_cons_of_mem _ hx)⟩
theorem St.heaps {w0 w : World} {l : List (Nat × Array Value × TypeId)} (h : St w0 w l) : Heaps w l := heaps_of l fun x hx => (h.2 x hx).1
theorem tapsOf_no {h w c kh kw sh sw tp lf bt rt n e : Int} (he : coR h w c kh kw sh sw tp lf bt rt n = (0, 0, e)) (h2 : e ≠ 0) : tapsOf h w c kh kw sh sw tp lf bt rt n = [] := by unfold tapsOf; rw [he, if_neg (by simpa using h2)]
theorem tapsOf_ok {h w c kh kw sh sw tp lf bt rt n t u : Int} (he : coR h w c kh kw sh sw tp lf bt rt n = (t, u, 0)) : tapsOf h w c kh kw sh sw tp lf bt rt n = tapL h w kw t u (kh * kw).toNat := by unfold tapsOf; rw [he, if_pos rfl]
set_option maxHeartbeats 4000000 in
theorem taps_any (h w c kh kw sh sw tp lf bt rt n : Int) (W : World) :
    Calls Try.prog 52 #[.agg #[.int .i64 h, .int .i64 w, .int .i64 c], .agg #[.int .i64 kh, .int .i64 kw, .int .i64 sh, .int .i64 sw, .int .i64 tp, .int .i64 lf, .int .i64 bt, .int .i64 rt], .int .i64 n] W fun e w' => (∃ g lb, e = .returned (.func (.func g) #[] lb) ∧ It W.heap.size w'.heap.size w' (.func (.func g) #[] lb) (tapsOf h w c kh kw sh sw tp lf bt rt n)) ∧ Below W.heap.size W w' := by
  have hmf : ∀ (fn : Fn) (first cap : Array Value) (w : World), (Instr.makeFunc fn first cap).run Try.prog w = .ok (.func fn first cap) w := fun _ _ _ _ => rfl
  rcases coR_cases h w c kh kw sh sw tp lf bt rt n with ⟨e, he, h2⟩ | ⟨r, q, he, hf, hn, hc⟩
  · rw [tapsOf_no he (by omega)]
    have HC : Hid (coR h w c kh kw sh sw tp lf bt rt n = (0, 0, e)) := he
    have z1 : (e == 0) = false := by simp; omega
    clear he
    go_enter Try.func52, Try.ntmps52
    go_wp2_with fail
    refine (corner_any _ _ _ _ _ _ _ _ _ _ _ _ _).mono ?_
    rintro e w1 ⟨rfl, hb'⟩
    have s1 := (St.start W).new.new.call hb'
    clear hb'
    try simp only [World.size_setCell] at s1
    try simp only [World.size_alloc] at s1
    obtain ⟨c1, f1, zw1_1, c2, f2, zw1_2, -⟩ := s1.rules
    rw [HC.out]
    go_wp2
    have s2 := (s1.new (c := #[.int .i64 0]) (t := 3)).new (c := #[.int .i64 0]) (t := 3) |>.new (c := #[.int .i64 0]) (t := 3)
    simp only [World.size_alloc] at s2
    go_ret
    refine ⟨⟨_, _, rfl, ?_⟩, s2.below⟩
    obtain ⟨a1, a2, a3, a4, a5, -⟩ := s2.heaps
    exact it_taps (N := 0) (.inl rfl) a1 a5 a3 a4 a2 (fun b hb => by have := s1.size; simp at hb ⊢; omega)
  · rw [tapsOf_ok hc]
    have HC : Hid (coR h w c kh kw sh sw tp lf bt rt n = (n / q * sh - tp, n % q * sw - lf, 0)) := hc
    have hcor := cor_of hf hn
    have HN : Hid (Cor h w kh kw (n / q * sh - tp) (n % q * sw - lf)) := hcor
    have k1 := hcor.2.2.2.1
    have k2 := hcor.2.2.2.2.1
    clear he hf hn hc hcor
    obtain ⟨t, ht⟩ : ∃ t, n / q * sh - tp = t := ⟨_, rfl⟩
    obtain ⟨u, hu⟩ : ∃ u, n % q * sw - lf = u := ⟨_, rfl⟩
    rw [ht, hu] at HC HN
    rw [ht, hu]
    clear ht hu
    obtain ⟨p1, p2⟩ := mul_bd k1.1 k1.2 k2.1 k2.2
    obtain ⟨p, hp⟩ : ∃ p, kh * kw = p := ⟨_, rfl⟩
    have HP : Hid (kh * kw = p) := hp
    rw [hp] at p1 p2
    go_enter Try.func52, Try.ntmps52
    go_wp2_with fail
    refine (corner_any _ _ _ _ _ _ _ _ _ _ _ _ _).mono ?_
    rintro e w1 ⟨rfl, hb'⟩
    have s1 := (St.start W).new.new.call hb'
    clear hb'
    try simp only [World.size_setCell] at s1
    try simp only [World.size_alloc] at s1
    obtain ⟨c1, f1, zw1_1, c2, f2, zw1_2, -⟩ := s1.rules
    rw [HC.out]
    go_wp2
    have e : p = ((kh * kw).toNat : Int) := by rw [HP.out]; omega
    have s2 := (s1.new (c := #[.int .i64 t]) (t := 3)).new (c := #[.int .i64 u]) (t := 3) |>.new (c := #[.int .i64 p]) (t := 3)
    simp only [World.size_alloc] at s2
    go_ret
    refine ⟨⟨_, _, rfl, ?_⟩, s2.below⟩
    obtain ⟨a1, a2, a3, a4, a5, -⟩ := s2.heaps
    exact it_taps (.inr ⟨HN.out, rfl⟩) (by rw [← e]; exact a1) a5 a3 a4 a2 (fun b hb => by have := s1.size; simp at hb ⊢; omega)
theorem equalIn_func_nil (w : World) (d g : Nat) (lb : Array Value) : (Op.equalIn (d + 1) 111 (.func (.func g) #[] lb) .nilFunc).run Try.prog w = .ok false w := by
  simp [Op.equalIn, run_underlying Try.underlying111]
theorem func_not_nil (g : Nat) (lb : Array Value) (w : World) : (binOp .eql 111 (.func (.func g) #[] lb) .nilFunc).run Try.prog w = .ok (.bool false) w := by
  simp only [binOp]
  simp [Op.equal, Op.maxDepth, equalIn_func_nil w 9999 g lb]
theorem spotsOf_no {h w c kh kw sh sw tp lf bt rt e : Int} (he : ouR h w c kh kw sh sw tp lf bt rt = (0, 0, e)) : spotsOf h w c kh kw sh sw tp lf bt rt = [] := by unfold spotsOf; rw [he]; rfl
theorem spotsOf_ok {h w c kh kw sh sw tp lf bt rt : Int} {r q : Nat} {e : Int} (he : ouR h w c kh kw sh sw tp lf bt rt = ((r : Int), (q : Int), e)) : spotsOf h w c kh kw sh sw tp lf bt rt = spotL q (r * q) := by
  unfold spotsOf
  rw [he]
  have : ((r : Int) * (q : Int)).toNat = r * q := by rw [← Int.natCast_mul]; rfl
  simp only [this]
end Go.Proofs.Ytjjckaklhafibaa

/- Rows of ints: what is read of them, what a call owns, what stays behind a call; append over them. -/
namespace Go.Proofs.Ytjjckaklhafibaa.Nx
open Go.ChangeShapes Go.WideShapes Go.ChangeAt Go.RowKit
/-- What a slice of ints reads as. -/
def Row (w : World) (a : Option Addr) (len cap : Nat) (zs : List Int) : Prop :=
  zs.length = len ∧ len ≤ cap ∧ cap ≤ maxLen ∧ (a = none → cap = 0) ∧ ∀ x, a = some x → ∀ i, i < len → w.cell? (x.add i) = some (.int .i64 (zs.getD i 0))
theorem Row.mono {w w' : World} {a : Option Addr} {len cap : Nat} {zs : List Int} (h : Row w a len cap zs) (k : ∀ x v, w.cell? x = some (.int .i64 v) → w'.cell? x = some (.int .i64 v)) : Row w' a len cap zs :=
  ⟨h.1, h.2.1, h.2.2.1, h.2.2.2.1, fun x hx i hi => k _ _ (h.2.2.2.2 x hx i hi)⟩
theorem Row.below {w w' : World} {a : Option Addr} {len cap : Nat} {zs : List Int} (h : Row w a len cap zs) (k : Below w.heap.size w w') : Row w' a len cap zs :=
  h.mono fun x _ hx => (k.cell (World.block_lt_of_cell? w x hx)).trans hx
/-- What the call made, from block 'base' on, and may write. -/
def Own (w : World) (base : Nat) (v : Value) (zs : List Int) : Prop := w.ownsRow base 3 1 v zs.length (zs.map (Value.int .i64))
theorem Own.shape {w : World} {base : Nat} {v : Value} {zs : List Int} (h : Own w base v zs) :
    (v = .slice none 0 0 ∧ zs = []) ∨ ∃ g cap, v = .slice (some ⟨g, 0, none⟩) zs.length cap ∧ base ≤ g ∧ g < w.heap.size ∧ zs.length ≤ cap ∧ cap ≤ maxLen ∧
      (∀ i, i < zs.length → w.cell? ⟨g, i, none⟩ = some (.int .i64 (zs.getD i 0))) ∧ ∀ i, w.frozen? ⟨g, i, none⟩ = false := by
  obtain ⟨h1, h2⟩ := h
  rcases h2 with ⟨rfl, h0⟩ | ⟨g, cap, cur, rfl, hg, hh, hn, hm, hs, ht⟩
  · exact .inl ⟨rfl, List.eq_nil_of_length_eq_zero h0⟩
  · refine .inr ⟨g, cap, rfl, hg, lt_of_heap hh, hn, hm, fun i hi => ?_, fun i => ?_⟩
    · have hc : cur[i]? = some (.int .i64 (zs.getD i 0)) := by
        have : (cur.toList.take (zs.length * 1))[i]? = some (.int .i64 (zs.getD i 0)) := by rw [ht]; simp [List.getD, hi]
        rw [List.getElem?_take, if_pos (by omega)] at this
        simpa using this
      simp [World.cell?, hh, hc]
    · simp only [World.frozen?, hh]; simp
theorem Own.row {w : World} {base : Nat} {v : Value} {zs : List Int} (h : Own w base v zs) : ∃ a cap, v = .slice a zs.length cap ∧ Row w a zs.length cap zs ∧ ∀ x, a = some x → base ≤ x.block ∧ x.block < w.heap.size := by
  rcases h.shape with ⟨rfl, rfl⟩ | ⟨g, cap, rfl, hg, hlt, hn, hm, hc, _⟩
  · exact ⟨none, 0, rfl, ⟨rfl, by simp, by simp, fun _ => rfl, fun x hx => by cases hx⟩, fun x hx => by cases hx⟩
  · refine ⟨some ⟨g, 0, none⟩, cap, rfl, ⟨rfl, hn, hm, fun h => (by cases h), fun x hx i hi => ?_⟩, fun x hx => ?_⟩
    · cases hx; rw [Addr.add_lit, Nat.zero_add]; exact hc i hi
    · cases hx; exact ⟨hg, hlt⟩
theorem Own.block {w : World} {base : Nat} {v : Value} {zs : List Int} (h : Own w base v zs) {b : Nat} (hb : v.ownBlock = some b) : base ≤ b := by
  rcases h.shape with ⟨rfl, _⟩ | ⟨g, cap, rfl, hg, _⟩
  · simp [Value.ownBlock] at hb
  · obtain rfl : g = b := by simpa [Value.ownBlock] using hb
    exact hg
theorem Own.below {w w' : World} {base : Nat} {v : Value} {zs : List Int} (h : Own w base v zs) (k : Below w.heap.size w w') : Own w' base v zs := by
  refine World.ownsRow.kept (row := none) h ⟨k.os, k.tape, k.output, k.size, fun i hi _ => k.block i hi⟩ ?_
  rcases h.shape with ⟨rfl, _⟩ | ⟨g, cap, rfl, _⟩
  · exact .inl rfl
  · exact .inr (by simp [Value.ownBlock])
theorem Own.base {w : World} {b c : Nat} {v : Value} {zs : List Int} (h : Own w b v zs) (k : c ≤ b) : Own w c v zs := by
  refine ⟨h.1, ?_⟩
  rcases h.2 with h | ⟨g, cap, cur, h1, h2, h3⟩
  · exact .inl h
  · exact .inr ⟨g, cap, cur, h1, Nat.le_trans k h2, h3⟩
theorem own_none (w : World) (base : Nat) : Own w base (.slice none 0 0) [] := World.ownsRow_nil _ _ _ _
theorem own_lit (w : World) (base : Nat) (zs : List Int) (hm : zs.length ≤ maxLen) (hw : base ≤ w.heap.size) :
    Own (w.alloc (.cells (zs.map (Value.int .i64)).toArray 3)) base (.slice (some ⟨w.heap.size, 0, none⟩) zs.length zs.length) zs := by
  have := World.ownsRow_lit (base := base) (e := 3) (size := 1) w (zs.map (Value.int .i64)).toArray zs.length hw hm (by simp)
  simp only at this
  exact this
theorem Try.infoI : (Try.prog.info? 3).map (fun i => (i.zero, i.size, i.bytes)) = some (some (.int .i64 0), 1, 8) := by kernel_rfl
/-- 'append' of some ints to what the call owns, from whatever slice. -/
theorem wpList_app {w : World} {ops : Array Oper} {rest : List Oper} {o : Oper} {a : Act} {Q : Exit → Act → World → Prop} (hgd : o.guard = none) (s x : Operand)
    (ho : o.op = .call { callee := .builtin .append, args := #[s, x], argTypes := #[93, 93] })
    (base : Nat) (v : Value) (xs ys : List Int) (hs : a.eval s = v) (hown : Own w base v xs) (ad : Addr) (m c : Nat) (hx : a.eval x = .slice (some ad) m c) (hy : Row w (some ad) m c ys)
    (hlen : xs.length + ys.length ≤ 10000000) (hbase : base ≤ w.heap.size)
    (h : ∀ v' w', Own w' base v' (xs ++ ys) → w.grownBy w' v.ownBlock → wpList Try.prog ops Q rest (a.put o.dst v') w') : wpList Try.prog ops Q (o :: rest) a w := by
  obtain ⟨i0, hi, hz0, hz1, hz2⟩ := info_parts Try.infoI
  obtain ⟨hl, hc, hm, hn, hcell⟩ := hy
  refine wpList_append_own _ hgd s x _ ho base 3 i0 (.int .i64 0) 1 8 Try.underlying93 hi hz0 hz1 hz2 rfl (by decide) v xs.length _ hs hown ad m c (ys.map (Value.int .i64)) hx (by simp [hl]) ?_ (ints_oneCell _ _) ?_ (by omega) hbase ?_
  · intro j u hj
    have hj' : j < m := by
      have := (List.getElem?_eq_some_iff.1 hj).1
      simpa [hl] using this
    rw [hcell ad rfl j hj']
    simp [List.getD, show j < ys.length by omega] at hj ⊢
    exact hj
  · unfold maxLen; omega
  · intro v' w' h1 h2 h3
    refine h v' w' ?_ h2
    unfold Own
    rw [List.length_append, hl, List.map_append]
    exact h1
/-- Ints laid in a block of their own, ahead of an append. -/
theorem row_one (w : World) (z : Int) : Row (w.alloc (.cells #[.int .i64 z] 3)) (some ⟨w.heap.size, 0, none⟩) 1 1 [z] := by
  refine ⟨rfl, Nat.le_refl _, by unfold maxLen; omega, fun h => (by cases h), fun x hx i hi => ?_⟩
  cases hx
  obtain rfl : i = 0 := by omega
  simp [Addr.add]
theorem Own.alloc {w : World} {base : Nat} {v : Value} {zs : List Int} (h : Own w base v zs) (o : Obj) : Own (w.alloc o) base v zs := h.below ((Below.refl _ _).alloc (Nat.le_refl _) _)
end Go.Proofs.Ytjjckaklhafibaa.Nx

/- What the law's own pairs and spots collect of an iterator: the first so many of what it gives, in a new slice. -/
namespace Go.Proofs.Ytjjckaklhafibaa.Nx
open Go.ChangeShapes Go.WideShapes Go.ChangeAt Go.RowKit Go.Shelf
attribute [local go_sem] Oper.semAt_some
def flat (l : List (Int × Int)) : List Int := l.flatMap fun p => [p.1, p.2]
theorem flat_len (l : List (Int × Int)) : (flat l).length = 2 * l.length := by
  induction l with
  | nil => rfl
  | cons x r ih => simp [flat] at ih ⊢; omega
theorem flat_snoc (l : List (Int × Int)) (x : Int × Int) : flat (l ++ [x]) = flat l ++ [x.1, x.2] := by simp [flat]
theorem tapsOf_len (h w c kh kw sh sw tp lf bt rt n : Int) : (tapsOf h w c kh kw sh sw tp lf bt rt n).length ≤ 1024 := by
  rcases coR_cases h w c kh kw sh sw tp lf bt rt n with ⟨e, he, h2⟩ | ⟨r, q, he, hf, hn, hc⟩
  · rw [tapsOf_no he (by omega)]; simp
  · rw [tapsOf_ok hc, tapL_len]
    obtain ⟨-, ⟨k1, k2, -⟩, -⟩ := hf
    have := Int.mul_le_mul k1.2 k2.2 (by omega) (by omega)
    omega
theorem spotsOf_len (h w c kh kw sh sw tp lf bt rt : Int) : (spotsOf h w c kh kw sh sw tp lf bt rt).length ≤ 1440000 := by
  rcases ouR_cases h w c kh kw sh sw tp lf bt rt with ⟨e, he, h2⟩ | ⟨r, q, he, hf⟩
  · rw [spotsOf_no he]; simp
  · unfold spotsOf
    rw [he, spotL_len]
    obtain ⟨-, -, r1, q1, -⟩ := hf
    have := Int.mul_le_mul r1.2 q1.2 (by omega) (by omega)
    simp only; omega
theorem ownFrom_mid {lo hi : Nat} {w : World} {β : Type} : OwnFrom hi (fun (_ : β) W => Mid lo hi w W) := fun _ _ _ _ hs hg hr => hs.trans (Mid.grown hg fun b e => .inr (hr b e).1)
theorem ownFrom_size {B n : Nat} {β : Type} : OwnFrom B (fun (_ : β) (W : World) => n ≤ W.heap.size) := fun _ _ _ _ hs hg _ => Nat.le_trans hs hg.size
theorem ownFrom_pure' {B : Nat} {β : Type} (p : β → Prop) : OwnFrom B (fun (s : β) (_ : World) => p s) := fun _ _ _ _ hs _ _ => hs
/-- 'out = append(out, ..)' where out's variable is box B, ahead of what is kept, and its row lies beyond. -/
theorem appended {W w1 : World} {lo hi n0 B : Nat} {v v' : Value} {k m : Nat} {xs ys : List Value} {tmp : Obj}
    (hv : Boxed W B 93 v) (hrow : W.ownsRow hi 3 1 v k xs) (hhi : hi ≤ W.heap.size) (hB : n0 ≤ B ∧ (B < lo ∨ hi ≤ B)) (hn : n0 ≤ hi)
    (hown' : w1.ownsRow hi 3 1 v' m ys) (hgrow : (W.alloc tmp).grownBy w1 v.ownBlock) :
    Boxed w1 B 93 v ∧ Boxed (w1.setCell ⟨B, 0, none⟩ v') B 93 v' ∧ (w1.setCell ⟨B, 0, none⟩ v').ownsRow hi 3 1 v' m ys ∧ KeepsOthers W (w1.setCell ⟨B, 0, none⟩ v') ∧
      Mid lo hi W (w1.setCell ⟨B, 0, none⟩ v') ∧ Below n0 W (w1.setCell ⟨B, 0, none⟩ v') ∧ (∀ b, b < hi → b ≠ B → ∀ t u, Boxed W b t u → Boxed (w1.setCell ⟨B, 0, none⟩ v') b t u) ∧
      (∀ b t u, b ≠ B → t ≠ 3 → Boxed W b t u → Boxed (w1.setCell ⟨B, 0, none⟩ v') b t u) := by
  have hv1 : Boxed w1 B 93 v := (hv.alloc tmp).kept hgrow (hv.not_row (by decide) hrow)
  have hr : ∀ j, v.ownBlock = some j → hi ≤ j := fun j ej => by
    rcases hrow.2 with ⟨rfl, _⟩ | ⟨g, cap, cur, rfl, hb, _, _⟩
    · simp [Value.ownBlock] at ej
    · obtain rfl : g = j := by simpa [Value.ownBlock] using ej
      exact hb
  refine ⟨hv1, hv1.set v', hown'.kept (grownBy_setCell' w1 B v') (.inr (hv1.not_row (by decide) hown').symm), ?_, ?_, ?_, ?_, ?_⟩
  · refine ((KeepsOthers.alloc W tmp).trans (KeepsOthers.of_grownBy hgrow fun j o ej hj => ?_)).trans (KeepsOthers.setCell _ _ _)
    rcases (hrow.alloc tmp).2 with ⟨rfl, _⟩ | ⟨g, cap, cur, rfl, _, hgb, _⟩
    · simp [Value.ownBlock] at ej
    · obtain rfl : g = j := by simpa [Value.ownBlock] using ej
      rw [hgb] at hj; cases hj; rfl
  · exact ((Mid.later ((Below.refl _ W).alloc (Nat.le_refl _) tmp)).trans (Mid.grown hgrow fun b e => .inr (hr b e))).trans (Mid.set _ hB.2)
  · exact (((Below.refl n0 W).alloc (by omega) tmp).grown hgrow (by simp; omega) fun j ej => (by have := hr j ej; omega)).setCell (p := ⟨B, 0, none⟩) hB.1 v'
  · intro b hb hne t u hbx
    refine (((hbx.alloc tmp).kept hgrow fun e => ?_)).other hne v'
    have := hr b e.symm; omega
  · intro b t u hne ht hbx
    refine (((hbx.alloc tmp).kept hgrow ((hbx.not_row ht hrow)))).other hne v'
theorem ownsRow_slice {W : World} {base : Nat} {e : TypeId} {size : Nat} {v : Value} {k : Nat} {xs : List Value} (h : W.ownsRow base e size v k xs) : ∃ a cap, v = .slice a k cap := by
  rcases h.2 with ⟨rfl, rfl⟩ | ⟨g, cap, _, rfl, _⟩
  · exact ⟨none, 0, rfl⟩
  · exact ⟨_, cap, rfl⟩
theorem two_new_cells (W : World) (a b : Value) (t : TypeId) : ∀ j u, [a, b][j]? = some u → (W.alloc (.cells #[a, b] t)).cell? ((⟨W.heap.size, 0, none⟩ : Addr).add j) = some u := by
  intro j u hj
  match j, hj with
  | 0, hj => simp [Addr.add] at hj ⊢; exact hj
  | 1, hj => simp [Addr.add] at hj ⊢; exact hj
  | j + 2, hj => simp at hj
theorem list_cut {α : Type} {ys ini : List α} {x : α} {k : Nat} (h : ini ++ [x] = ys.take k) : ini = ys.take ini.length := by
  have h2 := congrArg (List.take ini.length) h
  rw [List.take_left' rfl, List.take_take] at h2
  have h3 := congrArg List.length h
  simp at h3
  rw [Nat.min_eq_left (by omega)] at h2
  exact h2
end Go.Proofs.Ytjjckaklhafibaa.Nx
