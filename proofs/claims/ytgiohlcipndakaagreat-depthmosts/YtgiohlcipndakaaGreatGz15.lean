/- What the small functions of package terms return: how many terms, channels and positions an op has; its bias; a weight; the channels that are read; a place. What places of package terms returns: the places of a channel's terms at a position. What places of package terms returns of an op with a window: the places of a channel's terms at a position. Check, Shapes and Work of package model: what each answers. -/
import Derived.Test.YtgiohlcipndakaaGreatGz01
import Derived.Test.YtgiohlcipndakaaGreatGz13
import Derived.Test.YtgiohlcipndakaaGreatGz14
import Derived.BigQuiet
import Derived.Maps.AppendAt
import Derived.RangeFuncCalls
import Derived.Shelf.RegionOpen
/- What the small functions of package terms return: how many terms, channels and positions an op has; its bias; a weight; the channels that are read; a place. -/
namespace Go.Proofs.YtgiohlcipndakaaGreat
open Go.Value renaming int → U
open Go.IntKind renaming i64 → i6
set_option maxRecDepth 100000
set_option maxHeartbeats 16000000
open Go.ChangeShapes Go.WideShapes Go.ChangeAt Go.RowKit
set_option linter.unusedVariables false
theorem Sit.win {k kh kw sh sw tp lf bt rt h w c H V C : Int} {lw lb : Nat} (s : Sit k kh kw sh sw tp lf bt rt h w c H V C lw lb) (q : k ≠ 1) : (1 ≤ kh ∧ kh ≤ 32) ∧ (1 ≤ kw ∧ kw ≤ 32) := s.2.2.2.2.2.1 (by have := s.1; omega)
theorem tlen_1 (a b m kh kw sh sw tp lf bt rt : Int) (wa : Option Addr) (lw wc : Nat) (ba : Option Addr) (lb bc : Nat) (sm ss um us z p lo hi h w c H V C : Int) (r : Nat) (W : World) (hr : W.heap[r]? = some (.cells #[U i6 1, U i6 a, U i6 b, U i6 m, U i6 kh, U i6 kw, U i6 sh, U i6 sw, U i6 tp, U i6 lf, U i6 bt, U i6 rt, .slice wa lw wc, .slice ba lb bc, U i6 sm, U i6 ss, U i6 um, U i6 us, U i6 z, U i6 p, U i6 lo, U i6 hi, U i6 h, U i6 w, U i6 c, U i6 H, U i6 V, U i6 C] 119 (0, 0))) (g : vS h w c = true) (hw : (1 : Int) ≠ 1 → (1 ≤ kh ∧ kh ≤ 32) ∧ (1 ≤ kw ∧ kw ≤ 32)) :
  Calls Tryz.prog 96 #[.pointer (some ⟨r, 0, none⟩)] W fun e w' => e = .returned (U i6 (stR 1 kh kw h w c)) ∧ ∃ n, w' = W.drewN n := by
 have p3 : (1 ≤ h * w ∧ h * w ≤ 1048576) ∧ (1 ≤ h * w * c ∧ h * w * c ≤ 16384) := vS_bd g
 have c1 := (vS_yes g).2.2.1
 have hp : (1 : Int) ≠ 1 → (1 ≤ kh * kw ∧ kh * kw ≤ 1024) ∧ (1 ≤ kh * kw * c ∧ kh * kw * c ≤ 1048576) := fun q => by
  obtain ⟨hw1, hw2⟩ := hw q
  obtain ⟨p1, p2⟩ := mul_bd hw1.1 hw1.2 hw2.1 hw2.2
  obtain ⟨q1, q2⟩ := mul_bd p1 p2 c1.1 c1.2
  exact ⟨⟨p1, by omega⟩, q1, by omega⟩
 rw [show stR 1 kh kw h w c = (if (1 : Int) = 1 then h * w * c else if (1 : Int) = 2 then kh * kw * c else kh * kw) from rfl]
 simp at hp ⊢
 obtain ⟨p', ep⟩ : ∃ p', h * w = p' := ⟨_, rfl⟩
 obtain ⟨q', eq⟩ : ∃ q', kh * kw = q' := ⟨_, rfl⟩
 rw [ep] at p3
 try rw [eq] at hp
 try rw [ep]
 try rw [eq]
 obtain ⟨y1, y2, y3⟩ := cells_at hr
 clear g hw c1 hr
 go_enter Tryz.func96, Tryz.ntmps96
 go_wp2
 go_quiet (fail)
 go_wp2
 go_ret
 exact ⟨rfl, _, rfl⟩
theorem tlen_2 (a b m kh kw sh sw tp lf bt rt : Int) (wa : Option Addr) (lw wc : Nat) (ba : Option Addr) (lb bc : Nat) (sm ss um us z p lo hi h w c H V C : Int) (r : Nat) (W : World) (hr : W.heap[r]? = some (.cells #[U i6 2, U i6 a, U i6 b, U i6 m, U i6 kh, U i6 kw, U i6 sh, U i6 sw, U i6 tp, U i6 lf, U i6 bt, U i6 rt, .slice wa lw wc, .slice ba lb bc, U i6 sm, U i6 ss, U i6 um, U i6 us, U i6 z, U i6 p, U i6 lo, U i6 hi, U i6 h, U i6 w, U i6 c, U i6 H, U i6 V, U i6 C] 119 (0, 0))) (g : vS h w c = true) (hw : (2 : Int) ≠ 1 → (1 ≤ kh ∧ kh ≤ 32) ∧ (1 ≤ kw ∧ kw ≤ 32)) :
  Calls Tryz.prog 96 #[.pointer (some ⟨r, 0, none⟩)] W fun e w' => e = .returned (U i6 (stR 2 kh kw h w c)) ∧ ∃ n, w' = W.drewN n := by
 have p3 : (1 ≤ h * w ∧ h * w ≤ 1048576) ∧ (1 ≤ h * w * c ∧ h * w * c ≤ 16384) := vS_bd g
 have c1 := (vS_yes g).2.2.1
 have hp : (2 : Int) ≠ 1 → (1 ≤ kh * kw ∧ kh * kw ≤ 1024) ∧ (1 ≤ kh * kw * c ∧ kh * kw * c ≤ 1048576) := fun q => by
  obtain ⟨hw1, hw2⟩ := hw q
  obtain ⟨p1, p2⟩ := mul_bd hw1.1 hw1.2 hw2.1 hw2.2
  obtain ⟨q1, q2⟩ := mul_bd p1 p2 c1.1 c1.2
  exact ⟨⟨p1, by omega⟩, q1, by omega⟩
 rw [show stR 2 kh kw h w c = (if (2 : Int) = 1 then h * w * c else if (2 : Int) = 2 then kh * kw * c else kh * kw) from rfl]
 simp at hp ⊢
 obtain ⟨p', ep⟩ : ∃ p', h * w = p' := ⟨_, rfl⟩
 obtain ⟨q', eq⟩ : ∃ q', kh * kw = q' := ⟨_, rfl⟩
 rw [ep] at p3
 try rw [eq] at hp
 try rw [ep]
 try rw [eq]
 obtain ⟨y1, y2, y3⟩ := cells_at hr
 clear g hw c1 hr
 go_enter Tryz.func96, Tryz.ntmps96
 go_wp2
 go_quiet (fail)
 go_wp2
 go_ret
 exact ⟨rfl, _, rfl⟩
theorem tlen_3 (a b m kh kw sh sw tp lf bt rt : Int) (wa : Option Addr) (lw wc : Nat) (ba : Option Addr) (lb bc : Nat) (sm ss um us z p lo hi h w c H V C : Int) (r : Nat) (W : World) (hr : W.heap[r]? = some (.cells #[U i6 3, U i6 a, U i6 b, U i6 m, U i6 kh, U i6 kw, U i6 sh, U i6 sw, U i6 tp, U i6 lf, U i6 bt, U i6 rt, .slice wa lw wc, .slice ba lb bc, U i6 sm, U i6 ss, U i6 um, U i6 us, U i6 z, U i6 p, U i6 lo, U i6 hi, U i6 h, U i6 w, U i6 c, U i6 H, U i6 V, U i6 C] 119 (0, 0))) (g : vS h w c = true) (hw : (3 : Int) ≠ 1 → (1 ≤ kh ∧ kh ≤ 32) ∧ (1 ≤ kw ∧ kw ≤ 32)) :
  Calls Tryz.prog 96 #[.pointer (some ⟨r, 0, none⟩)] W fun e w' => e = .returned (U i6 (stR 3 kh kw h w c)) ∧ ∃ n, w' = W.drewN n := by
 have p3 : (1 ≤ h * w ∧ h * w ≤ 1048576) ∧ (1 ≤ h * w * c ∧ h * w * c ≤ 16384) := vS_bd g
 have c1 := (vS_yes g).2.2.1
 have hp : (3 : Int) ≠ 1 → (1 ≤ kh * kw ∧ kh * kw ≤ 1024) ∧ (1 ≤ kh * kw * c ∧ kh * kw * c ≤ 1048576) := fun q => by
  obtain ⟨hw1, hw2⟩ := hw q
  obtain ⟨p1, p2⟩ := mul_bd hw1.1 hw1.2 hw2.1 hw2.2
  obtain ⟨q1, q2⟩ := mul_bd p1 p2 c1.1 c1.2
  exact ⟨⟨p1, by omega⟩, q1, by omega⟩
 rw [show stR 3 kh kw h w c = (if (3 : Int) = 1 then h * w * c else if (3 : Int) = 2 then kh * kw * c else kh * kw) from rfl]
 simp at hp ⊢
 obtain ⟨p', ep⟩ : ∃ p', h * w = p' := ⟨_, rfl⟩
 obtain ⟨q', eq⟩ : ∃ q', kh * kw = q' := ⟨_, rfl⟩
 rw [ep] at p3
 try rw [eq] at hp
 try rw [ep]
 try rw [eq]
 obtain ⟨y1, y2, y3⟩ := cells_at hr
 clear g hw c1 hr
 go_enter Tryz.func96, Tryz.ntmps96
 go_wp2
 go_quiet (fail)
 go_wp2
 go_ret
 exact ⟨rfl, _, rfl⟩
theorem tlen_4 (a b m kh kw sh sw tp lf bt rt : Int) (wa : Option Addr) (lw wc : Nat) (ba : Option Addr) (lb bc : Nat) (sm ss um us z p lo hi h w c H V C : Int) (r : Nat) (W : World) (hr : W.heap[r]? = some (.cells #[U i6 4, U i6 a, U i6 b, U i6 m, U i6 kh, U i6 kw, U i6 sh, U i6 sw, U i6 tp, U i6 lf, U i6 bt, U i6 rt, .slice wa lw wc, .slice ba lb bc, U i6 sm, U i6 ss, U i6 um, U i6 us, U i6 z, U i6 p, U i6 lo, U i6 hi, U i6 h, U i6 w, U i6 c, U i6 H, U i6 V, U i6 C] 119 (0, 0))) (g : vS h w c = true) (hw : (4 : Int) ≠ 1 → (1 ≤ kh ∧ kh ≤ 32) ∧ (1 ≤ kw ∧ kw ≤ 32)) :
  Calls Tryz.prog 96 #[.pointer (some ⟨r, 0, none⟩)] W fun e w' => e = .returned (U i6 (stR 4 kh kw h w c)) ∧ ∃ n, w' = W.drewN n := by
 have p3 : (1 ≤ h * w ∧ h * w ≤ 1048576) ∧ (1 ≤ h * w * c ∧ h * w * c ≤ 16384) := vS_bd g
 have c1 := (vS_yes g).2.2.1
 have hp : (4 : Int) ≠ 1 → (1 ≤ kh * kw ∧ kh * kw ≤ 1024) ∧ (1 ≤ kh * kw * c ∧ kh * kw * c ≤ 1048576) := fun q => by
  obtain ⟨hw1, hw2⟩ := hw q
  obtain ⟨p1, p2⟩ := mul_bd hw1.1 hw1.2 hw2.1 hw2.2
  obtain ⟨q1, q2⟩ := mul_bd p1 p2 c1.1 c1.2
  exact ⟨⟨p1, by omega⟩, q1, by omega⟩
 rw [show stR 4 kh kw h w c = (if (4 : Int) = 1 then h * w * c else if (4 : Int) = 2 then kh * kw * c else kh * kw) from rfl]
 simp at hp ⊢
 obtain ⟨p', ep⟩ : ∃ p', h * w = p' := ⟨_, rfl⟩
 obtain ⟨q', eq⟩ : ∃ q', kh * kw = q' := ⟨_, rfl⟩
 rw [ep] at p3
 try rw [eq] at hp
 try rw [ep]
 try rw [eq]
 obtain ⟨y1, y2, y3⟩ := cells_at hr
 clear g hw c1 hr
 go_enter Tryz.func96, Tryz.ntmps96
 go_wp2
 go_quiet (fail)
 go_wp2
 go_ret
 exact ⟨rfl, _, rfl⟩
theorem tlen_any (k a b m kh kw sh sw tp lf bt rt : Int) (wa : Option Addr) (lw wc : Nat) (ba : Option Addr) (lb bc : Nat) (sm ss um us z p lo hi h w c H V C : Int) (r : Nat) (W : World) (hr : W.heap[r]? = some (.cells #[U i6 k, U i6 a, U i6 b, U i6 m, U i6 kh, U i6 kw, U i6 sh, U i6 sw, U i6 tp, U i6 lf, U i6 bt, U i6 rt, .slice wa lw wc, .slice ba lb bc, U i6 sm, U i6 ss, U i6 um, U i6 us, U i6 z, U i6 p, U i6 lo, U i6 hi, U i6 h, U i6 w, U i6 c, U i6 H, U i6 V, U i6 C] 119 (0, 0))) (s : Sit k kh kw sh sw tp lf bt rt h w c H V C lw lb) :
  Calls Tryz.prog 96 #[.pointer (some ⟨r, 0, none⟩)] W fun e w' => e = .returned (U i6 (stR k kh kw h w c)) ∧ ∃ n, w' = W.drewN n := by
 have hk := s.1
 have g := s.2.1
 have hw := s.win
 rcases (show k = 1 ∨ k = 2 ∨ k = 3 ∨ k = 4 by omega) with rfl | rfl | rfl | rfl
 ·exact tlen_1 a b m kh kw sh sw tp lf bt rt wa lw wc ba lb bc sm ss um us z p lo hi h w c H V C r W hr g hw
 ·exact tlen_2 a b m kh kw sh sw tp lf bt rt wa lw wc ba lb bc sm ss um us z p lo hi h w c H V C r W hr g hw
 ·exact tlen_3 a b m kh kw sh sw tp lf bt rt wa lw wc ba lb bc sm ss um us z p lo hi h w c H V C r W hr g hw
 ·exact tlen_4 a b m kh kw sh sw tp lf bt rt wa lw wc ba lb bc sm ss um us z p lo hi h w c H V C r W hr g hw
theorem tchan_any (k a b m kh kw sh sw tp lf bt rt : Int) (wa : Option Addr) (lw wc : Nat) (ba : Option Addr) (lb bc : Nat) (sm ss um us z p lo hi h w c H V C : Int) (r : Nat) (W : World) (hr : W.heap[r]? = some (.cells #[U i6 k, U i6 a, U i6 b, U i6 m, U i6 kh, U i6 kw, U i6 sh, U i6 sw, U i6 tp, U i6 lf, U i6 bt, U i6 rt, .slice wa lw wc, .slice ba lb bc, U i6 sm, U i6 ss, U i6 um, U i6 us, U i6 z, U i6 p, U i6 lo, U i6 hi, U i6 h, U i6 w, U i6 c, U i6 H, U i6 V, U i6 C] 119 (0, 0))) :
  Calls Tryz.prog 65 #[.pointer (some ⟨r, 0, none⟩)] W fun e w' => e = .returned (U i6 C) ∧ w' = W := by
 obtain ⟨y1, y2, y3⟩ := cells_at hr
 clear hr
 go_enter Tryz.func65, Tryz.ntmps65
 go_wp2
 go_ret
 exact ⟨rfl, rfl⟩
theorem tpos_any (k a b m kh kw sh sw tp lf bt rt : Int) (wa : Option Addr) (lw wc : Nat) (ba : Option Addr) (lb bc : Nat) (sm ss um us z p lo hi h w c H V C : Int) (r : Nat) (W : World) (hr : W.heap[r]? = some (.cells #[U i6 k, U i6 a, U i6 b, U i6 m, U i6 kh, U i6 kw, U i6 sh, U i6 sw, U i6 tp, U i6 lf, U i6 bt, U i6 rt, .slice wa lw wc, .slice ba lb bc, U i6 sm, U i6 ss, U i6 um, U i6 us, U i6 z, U i6 p, U i6 lo, U i6 hi, U i6 h, U i6 w, U i6 c, U i6 H, U i6 V, U i6 C] 119 (0, 0))) (g : vS H V C = true) :
  Calls Tryz.prog 66 #[.pointer (some ⟨r, 0, none⟩)] W fun e w' => e = .returned (U i6 (H * V)) ∧ ∃ n, w' = W.drewN n := by
 obtain ⟨y1, y2, y3⟩ := cells_at hr
 have p3 := vS_bd g
 clear hr g
 go_enter Tryz.func66, Tryz.ntmps66
 go_wp2
 go_quiet (fail)
 go_wp2
 go_ret
 exact ⟨rfl, _, rfl⟩
theorem tbias_any (k a b m kh kw sh sw tp lf bt rt : Int) (wa : Option Addr) (lw wc : Nat) (ba : Option Addr) (lb bc : Nat) (sm ss um us z p lo hi h w c H V C : Int) (r : Nat) (W : World) (hr : W.heap[r]? = some (.cells #[U i6 k, U i6 a, U i6 b, U i6 m, U i6 kh, U i6 kw, U i6 sh, U i6 sw, U i6 tp, U i6 lf, U i6 bt, U i6 rt, .slice wa lw wc, .slice ba lb bc, U i6 sm, U i6 ss, U i6 um, U i6 us, U i6 z, U i6 p, U i6 lo, U i6 hi, U i6 h, U i6 w, U i6 c, U i6 H, U i6 V, U i6 C] 119 (0, 0))) (bs : List Int) (hB : IRow .i32 W ba lb bc bs) (s : Sit k kh kw sh sw tp lf bt rt h w c H V C lw lb) (ch : Int) (hc : 1 ≤ ch ∧ ch ≤ C) :
  Calls Tryz.prog 68 #[.pointer (some ⟨r, 0, none⟩), U i6 ch] W fun e w' => e = .returned (U i6 (biA k ch bs)) ∧ w' = W := by
 obtain ⟨y1, y2, y3⟩ := cells_at hr
 obtain ⟨hk, -, hv, -, -, -, hl, -⟩ := s
 have hC := (vS_yes hv).2.2.1
 clear hr
 by_cases k4 : k = 4
 ·subst k4
  rw [show biA 4 ch bs = 0 from if_pos rfl]
  go_enter Tryz.func68, Tryz.ntmps68
  go_wp2
  go_ret
  exact ⟨rfl, rfl⟩
 ·rw [show biA k ch bs = bs.getD (ch - 1).toNat 0 from if_neg k4]
  have hl2 := (hl (by omega)).2
  obtain ⟨n, rfl⟩ : ∃ n : Nat, ch = (n : Int) + 1 := ⟨(ch - 1).toNat, by omega⟩
  have hm := hB.2.2.1
  have hcc := hB.2.1
  unfold maxLen at hm
  obtain ⟨x, u, rfl, hu, hwf, hz, -⟩ := hB.at (show n < lb by omega)
  obtain ⟨u1, u2⟩ := wf_i32 hwf
  have e : bs.getD ((n : Int) + 1 - 1).toNat 0 = u := by rw [show ((n : Int) + 1 - 1).toNat = n by omega, List.getD_eq_getElem?_getD, hz]; rfl
  rw [e]
  have k4' : (k == 4) = false := by simp [k4]
  clear e hz hwf hB hl
  go_enter Tryz.func68, Tryz.ntmps68
  go_wp2
  go_ret
  exact ⟨rfl, rfl⟩
theorem twei_any (k a b m kh kw sh sw tp lf bt rt : Int) (wa : Option Addr) (lw wc : Nat) (ba : Option Addr) (lb bc : Nat) (sm ss um us z p lo hi h w c H V C : Int) (r : Nat) (W : World) (hr : W.heap[r]? = some (.cells #[U i6 k, U i6 a, U i6 b, U i6 m, U i6 kh, U i6 kw, U i6 sh, U i6 sw, U i6 tp, U i6 lf, U i6 bt, U i6 rt, .slice wa lw wc, .slice ba lb bc, U i6 sm, U i6 ss, U i6 um, U i6 us, U i6 z, U i6 p, U i6 lo, U i6 hi, U i6 h, U i6 w, U i6 c, U i6 H, U i6 V, U i6 C] 119 (0, 0))) (zs : List Int) (hZ : IRow .i16 W wa lw wc zs) (s : Sit k kh kw sh sw tp lf bt rt h w c H V C lw lb) (ch : Int) (hc : 1 ≤ ch ∧ ch ≤ C) (i : Nat) (hi0 : (i : Int) < stR k kh kw h w c) :
  Calls Tryz.prog 83 #[.pointer (some ⟨r, 0, none⟩), U i6 ch, U i6 i] W fun e w' => e = .returned (U i6 (wgA k ch (stR k kh kw h w c) zs i)) ∧ ∃ n, w' = W.drewN n := by
 have hL : Hid (∀ n, Calls Tryz.prog 96 #[.pointer (some ⟨r, 0, none⟩)] (W.drewN n) fun e w' => e = .returned (U i6 (stR k kh kw h w c)) ∧ ∃ m, w' = (W.drewN n).drewN m) := fun n => tlen_any k a b m kh kw sh sw tp lf bt rt wa lw wc ba lb bc sm ss um us z p lo hi h w c H V C r (W.drewN n) hr s
 obtain ⟨y1, y2, y3⟩ := cells_at hr
 obtain ⟨hk, -, hv, -, -, -, hl, -, hst0, hst1⟩ := s
 have hC := (vS_yes hv).2.2.1
 obtain ⟨st, hst⟩ : ∃ st, stR k kh kw h w c = st := ⟨_, rfl⟩
 rw [hst] at hL hl hst0 hst1 hi0 ⊢
 clear hr hst hv
 by_cases k4 : k = 4
 ·subst k4
  rw [show wgA 4 ch st zs i = 1 from if_pos rfl]
  go_enter Tryz.func83, Tryz.ntmps83
  go_wp2
  go_ret
  exact ⟨rfl, 0, rfl⟩
 ·rw [show wgA k ch st zs i = zs.getD ((ch - 1) * st + i).toNat 0 from if_neg k4]
  have hl2 := (hl (by omega)).1
  obtain ⟨d, rfl⟩ : ∃ d : Nat, ch = (d : Int) + 1 := ⟨(ch - 1).toNat, by omega⟩
  have hm := hZ.2.2.1
  have hcc := hZ.2.1
  unfold maxLen at hm
  have p1 : 0 ≤ (d : Int) * st := Int.mul_nonneg (by omega) (by omega)
  have p2 : (d : Int) * st + st ≤ C * st := by
   have := Int.mul_le_mul_of_nonneg_right (show (d : Int) + 1 ≤ C by omega) (show 0 ≤ st by omega)
   rwa [Int.add_mul, Int.one_mul] at this
  obtain ⟨p', ep⟩ : ∃ p', (d : Int) * st = p' := ⟨_, rfl⟩
  rw [show (d : Int) + 1 - 1 = d by omega, ep]
  rw [ep] at p1 p2
  rw [← hl2] at p2
  obtain ⟨N, eN⟩ : ∃ N : Nat, p' + (i : Int) = (N : Int) := ⟨(p' + i).toNat, by omega⟩
  rw [eN]
  have hN : N < lw := by omega
  obtain ⟨x, u, rfl, hu, hwf, hz, -⟩ := hZ.at hN
  obtain ⟨u1, u2⟩ := wf_i16 hwf
  have e : zs.getD ((N : Int)).toNat 0 = u := by rw [Int.toNat_natCast, List.getD_eq_getElem?_getD, hz]; rfl
  rw [e]
  have k4' : (k == 4) = false := by simp [k4]
  have hd1 : (d : Int) + 1 ≤ 1024 := by omega
  have hi2 : (i : Int) ≤ 512 := by omega
  clear e hz hwf hZ hl hl2 hC hc
  go_enter Tryz.func83, Tryz.ntmps83
  go_wp2
  go_quiet ((go_at_call 96; exact Calls.quiet_of (hL.out _)))
  go_wp2
  go_ret
  exact ⟨rfl, _, rfl⟩
def chF (k ch : Int) : Int := if k = 2 then 0 else ch - 1
def chB (k c ch : Int) : Int := if k = 2 then c else ch
theorem tread_any (k a b m kh kw sh sw tp lf bt rt : Int) (wa : Option Addr) (lw wc : Nat) (ba : Option Addr) (lb bc : Nat) (sm ss um us z p lo hi h w c H V C : Int) (r : Nat) (W : World) (hr : W.heap[r]? = some (.cells #[U i6 k, U i6 a, U i6 b, U i6 m, U i6 kh, U i6 kw, U i6 sh, U i6 sw, U i6 tp, U i6 lf, U i6 bt, U i6 rt, .slice wa lw wc, .slice ba lb bc, U i6 sm, U i6 ss, U i6 um, U i6 us, U i6 z, U i6 p, U i6 lo, U i6 hi, U i6 h, U i6 w, U i6 c, U i6 H, U i6 V, U i6 C] 119 (0, 0))) (ch : Int) (hc : 1 ≤ ch ∧ ch ≤ 1024) :
  Calls Tryz.prog 97 #[.pointer (some ⟨r, 0, none⟩), U i6 ch] W fun e w' => e = .returned (.tuple #[U i6 (chF k ch), U i6 (chB k c ch)]) ∧ ∃ n, w' = W.drewN n := by
 obtain ⟨y1, y2, y3⟩ := cells_at hr
 clear hr
 by_cases k2 : k = 2
 ·subst k2
  rw [show chF 2 ch = 0 from if_pos rfl, show chB 2 c ch = c from if_pos rfl]
  go_enter Tryz.func97, Tryz.ntmps97
  go_wp2
  go_quiet (fail)
  go_wp2
  go_ret2
  exact ⟨rfl, _, rfl⟩
 ·rw [show chF k ch = ch - 1 from if_neg k2, show chB k c ch = ch from if_neg k2]
  have k2' : (k == 2) = false := by simp [k2]
  go_enter Tryz.func97, Tryz.ntmps97
  go_wp2
  go_ret2
  exact ⟨rfl, 0, rfl⟩
open Go.ChangeShapes Go.WideShapes Go.ChangeAt Go.RowKit Go.Shelf
def plL (k C ch h w kw t u : Int) (n : Nat) : List Int := (List.range n).map fun (i : Nat) => plA k C ch h w kw t u i
theorem plL_len (k C ch h w kw t u : Int) (n : Nat) : (plL k C ch h w kw t u n).length = n := by simp [plL]
theorem plL_succ (k C ch h w kw t u : Int) (n : Nat) : plL k C ch h w kw t u (n + 1) = plL k C ch h w kw t u n ++ [plA k C ch h w kw t u n] := by simp [plL, List.range_succ]
theorem boxed_below {w w' : World} {B : Nat} {t : TypeId} {v : Value} (h : Boxed w B t v) (k : Below w.heap.size w w') : Boxed w' B t v := (k.block B h.lt).trans h
theorem places_1 (a b m kh kw sh sw tp lf bt rt : Int) (wa : Option Addr) (lw wc : Nat) (ba : Option Addr) (lb bc : Nat) (sm ss um us z p lo hi h w c H V C : Int) (r : Nat) (W : World) (hr : W.heap[r]? = some (.cells #[U i6 1, U i6 a, U i6 b, U i6 m, U i6 kh, U i6 kw, U i6 sh, U i6 sw, U i6 tp, U i6 lf, U i6 bt, U i6 rt, .slice wa lw wc, .slice ba lb bc, U i6 sm, U i6 ss, U i6 um, U i6 us, U i6 z, U i6 p, U i6 lo, U i6 hi, U i6 h, U i6 w, U i6 c, U i6 H, U i6 V, U i6 C] 119 (0, 0))) (s : Sit 1 kh kw sh sw tp lf bt rt h w c H V C lw lb) (ch at' t u : Int) (st : Nat) (hst : stR 1 kh kw h w c = (st : Int)) :
  Calls Tryz.prog 82 #[.pointer (some ⟨r, 0, none⟩), U i6 ch, U i6 at'] W fun e w' => (∃ v, e = .returned v ∧ Nx.Own w' W.heap.size v (plL 1 c ch h w kw t u st)) ∧ Below W.heap.size W w' := by
 obtain ⟨i0, hi0, hz0, hz1, hz2⟩ := info_parts Nx.Tryz.infoI
 have hL : Hid (∀ w', Below W.heap.size W w' → Calls Tryz.prog 96 #[.pointer (some ⟨r, 0, none⟩)] w' fun e w'' => e = .returned (U i6 st) ∧ ∃ m, w'' = w'.drewN m) := fun w' hb => by rw [← hst]; exact tlen_any 1 a b m kh kw sh sw tp lf bt rt wa lw wc ba lb bc sm ss um us z p lo hi h w c H V C r w' ((hb.block r (lt_of_heap hr)).trans hr) s
 have hlen : st ≤ 512 := by have := s.2.2.2.2.2.2.2.2.2; rw [hst] at this; omega
 have hrc : Hid (∀ w', Below W.heap.size W w' → ∀ i, w'.cell? ⟨r, i, none⟩ = (#[U i6 1, U i6 a, U i6 b, U i6 m, U i6 kh, U i6 kw, U i6 sh, U i6 sw, U i6 tp, U i6 lf, U i6 bt, U i6 rt, .slice wa lw wc, .slice ba lb bc, U i6 sm, U i6 ss, U i6 um, U i6 us, U i6 z, U i6 p, U i6 lo, U i6 hi, U i6 h, U i6 w, U i6 c, U i6 H, U i6 V, U i6 C] : Array Value)[i]?) := fun w' hb => (cells_at ((hb.block r (lt_of_heap hr)).trans hr)).1
 have hrz : r < W.heap.size := lt_of_heap hr
 clear hst s
 have s0 := (St.start W).new (c := #[.pointer (some ⟨r, 0, none⟩)]) (t := 136)
 refine (callsIn_wide (n := 3)).1 ?_
 refine callsIn_of_wp_marks Tryz.func82 rfl trivial ?_ rfl
 simp only [Tryz.ntmps82, List.size_toArray, List.length_cons, List.length_nil, Nat.reduceAdd, Nat.reduceSub, Array.replicate_succ, Array.replicate_zero, List.push_toArray, List.append_toArray, List.nil_append, List.cons_append]
 refine wpIn_wide.2 ?_
 go_wp2_with fail
 refine (hL.out _ s0.below).mono ?_
 rintro e w1 ⟨rfl, m, rfl⟩
 have s1 := s0.call (dbel _ m)
 obtain ⟨w1, hw1⟩ : ∃ w1, (W.alloc (.cells #[.pointer (some ⟨r, 0, none⟩)] 136)).drewN m = w1 := ⟨_, rfl⟩
 rw [hw1] at s1 ⊢
 have hz : W.heap.size + 1 = w1.heap.size := by rw [← hw1]; simp
 clear hw1
 obtain ⟨c1, f1, z1, -⟩ := s1.rules
 go_wp2_with (at_make; refine wpList_make_own _ rfl _ _ 114 rfl w1.heap.size 3 i0 (U i6 0) 1 Tryz.underlying114 hi0 hz0 hz1 .i64 .i64 _ st rfl rfl rfl (by rw [hz2]; omega) (by unfold maxLen; omega) (by omega) ?_; intro w2 own2 gr2; have s2 := s1.call ((Below.refl w1.heap.size w1).grown gr2 (Nat.le_refl _) (fun b hb => by cases hb)); obtain ⟨c1', f1', z1', -⟩ := s2.rules; have hq := hrc.out _ s2.below; have zr := Nat.lt_of_lt_of_le hrz s2.below.size)
 refine (hL.out _ (s2.skip _).below).mono ?_
 rintro e w3 ⟨rfl, m', rfl⟩
 have b3 : Boxed (w2.alloc (.cells #[.slice (some ⟨w1.heap.size, 0, none⟩) 0 st] 114)) w2.heap.size 114 (.slice (some ⟨w1.heap.size, 0, none⟩) 0 st) := heap_alloc_new w2 _
 have o3 : Nx.Own (w2.alloc (.cells #[.slice (some ⟨w1.heap.size, 0, none⟩) 0 st] 114)) w1.heap.size (.slice (some ⟨w1.heap.size, 0, none⟩) 0 st) [] := Nx.Own.alloc (show Nx.Own w2 w1.heap.size (.slice (some ⟨w1.heap.size, 0, none⟩) 0 st) [] from own2) _
 have p3 : Boxed (w2.alloc (.cells #[.slice (some ⟨w1.heap.size, 0, none⟩) 0 st] 114)) W.heap.size 136 (.pointer (some ⟨r, 0, none⟩)) := boxed_below s2.h1 (bal _ _)
 have d3 := (s2.skip (.cells #[.slice (some ⟨w1.heap.size, 0, none⟩) 0 st] 114)).below
 have e3 := dbel (w2.alloc (.cells #[.slice (some ⟨w1.heap.size, 0, none⟩) 0 st] 114)) m'
 have b4 := boxed_below b3 e3
 have o4 := o3.below e3
 have p4 := boxed_below p3 e3
 have d4 := d3.trans (e3.mono d3.size)
 obtain ⟨w4, hw4⟩ : ∃ w4, (w2.alloc (.cells #[.slice (some ⟨w1.heap.size, 0, none⟩) 0 st] 114)).drewN m' = w4 := ⟨_, rfl⟩
 rw [hw4] at b4 o4 p4 d4 ⊢
 have hz2' : w2.heap.size < w4.heap.size := by rw [← hw4]; simp
 have gz := gr2.size
 have B4 : Hid (Boxed _ _ _ _) := b4
 have O4 : Hid (Nx.Own _ _ _ _) := o4
 have P4 : Hid (Boxed _ _ _ _) := p4
 have D4 : Hid (Below _ _ _) := d4
 clear hw4 b3 o3 p3 d3 e3 own2 gr2 s0 s1 s2 c1 f1 c1' f1' hq b4 o4 p4 d4 z1 z1'
 go_wp2
 go_loopw [25] (fun i wr => ∃ y : Nat, y ≤ st ∧ i = U i6 y ∧ ∃ v, Boxed wr w2.heap.size 114 v ∧ Nx.Own wr w1.heap.size v (plL 1 c ch h w kw t u y) ∧ Boxed wr W.heap.size 136 (.pointer (some ⟨r, 0, none⟩)) ∧ Below W.heap.size W wr ∧ w4.heap.size ≤ wr.heap.size) (fun i _ => st - (intOf i).toNat)
 case atStart => exact ⟨0, Nat.zero_le _, rfl, _, B4.out, O4.out, P4.out, D4.out, Nat.le_refl _⟩
 case round =>
  obtain ⟨y, hy, rfl, v, hv, hown, hp, hb, hwz⟩ := hrel
  obtain ⟨a', cap, rfl⟩ := Nx.ownsRow_slice hown
  have hc := hv.cell
  have hf := hv.frozen
  have hbs := hb.size
  have HL : Hid ((plL 1 c ch h w kw t u y).length = y) := plL_len _ _ _ _ _ _ _ _ _
  have HS : Hid (plL 1 c ch h w kw t u (y + 1) = plL 1 c ch h w kw t u y ++ [(y : Int)]) := plL_succ _ _ _ _ _ _ _ _ _
  clear B4 O4 P4 D4
  by_cases hlt : y < st
  ·go_wp2_with (at_builtin; refine Nx.wpList_app rfl (.tmp 28) (.tmp 30) rfl w1.heap.size _ _ [(y : Int)] rfl (hown.alloc _) _ _ _ rfl (Nx.row_one _ _) (by rw [HL.out]; simp; omega) (by simp; omega) ?_; intro v' w5 own' gr'; have own5 : w5.ownsRow w1.heap.size 3 1 v' (y + 1) ((plL 1 c ch h w kw t u (y + 1)).map (Value.int .i64)) := (by have q := own'; unfold Nx.Own at q; rw [← HS.out, plL_len] at q; exact q); obtain ⟨a5, cap5, rfl⟩ := Nx.ownsRow_slice own5; obtain ⟨hv1, hv2, hr2, hk2, hm2, hb2, -, hx2⟩ := Nx.appended (lo := 0) (n0 := W.heap.size) hv hown (by omega) ⟨by omega, .inr (by omega)⟩ (by omega) own5 gr'; have hc1 := hv1.cell; have hf1 := hv1.frozen)
   go_roundw
   case rel => exact ⟨y + 1, by omega, by go_num, _, hv2, by unfold Nx.Own; rw [plL_len]; exact hr2, hx2 _ _ _ (by omega) (by decide) hp, hb.trans hb2, Nat.le_trans hwz hb2.size⟩
   case measure => simp [intOf]; omega
  ·obtain rfl : y = st := by omega
   go_wp2
   exact ⟨.slice a' _ cap, by simp [results, Tryz.f82, go_sem], ⟨_, rfl, hown.base (by omega)⟩, hb⟩
attribute [local go_sem] Oper.semAt_some
def covW (C p c : Int) : Int := if p = -1 then -1 else wrap64 (wrap64 (p * C) + c)
theorem covW_eq {C p c : Int} (hq : -1 ≤ p ∧ p ≤ 16384) (hd : 0 ≤ c ∧ c ≤ 1024) (hc : 1 ≤ C ∧ C ≤ 1024) : covW C p c = cov C p c := by
 unfold covW cov
 by_cases q1 : p = -1
 ·rw [if_pos q1, if_pos q1]
 ·rw [if_neg q1, if_neg q1]
  have p1 : 0 ≤ p * C := Int.mul_nonneg (by omega) (by omega)
  have p2 : p * C ≤ 16384 * 1024 := Int.mul_le_mul hq.2 hc.2 (by omega) (by omega)
  have e1 : wrap64 (p * C) = p * C := by unfold wrap64; omega
  rw [e1]
  unfold wrap64
  omega
theorem tplaceW_any (k a b m kh kw sh sw tp lf bt rt : Int) (wa : Option Addr) (lw wc : Nat) (ba : Option Addr) (lb bc : Nat) (sm ss um us z p lo hi h w c H V C : Int) (r : Nat) (W : World) (hr : W.heap[r]? = some (.cells #[U i6 k, U i6 a, U i6 b, U i6 m, U i6 kh, U i6 kw, U i6 sh, U i6 sw, U i6 tp, U i6 lf, U i6 bt, U i6 rt, .slice wa lw wc, .slice ba lb bc, U i6 sm, U i6 ss, U i6 um, U i6 us, U i6 z, U i6 p, U i6 lo, U i6 hi, U i6 h, U i6 w, U i6 c, U i6 H, U i6 V, U i6 C] 119 (0, 0))) (q d : Int) :
  Calls Tryz.prog 99 #[.pointer (some ⟨r, 0, none⟩), U i6 q, U i6 d] W fun e w' => e = .returned (U i6 (covW c q d)) ∧ w' = W := by
 obtain ⟨y1, y2, y3⟩ := cells_at hr
 clear hr
 by_cases q1 : q = -1
 ·subst q1
  rw [show covW c (-1) d = -1 from if_pos rfl]
  go_enter Tryz.func99, Tryz.ntmps99
  go_wp2
  go_ret
  exact ⟨rfl, rfl⟩
 ·rw [show covW c q d = wrap64 (wrap64 (q * c) + d) from if_neg q1]
  have q1' : (q == -1) = false := by simp [q1]
  go_enter Tryz.func99, Tryz.ntmps99
  go_wp2
  go_ret
  exact ⟨rfl, rfl⟩
def QI (lo' hi' base Bx B3 B9 B10 r : Nat) (F G : Int) (w5 W : World) (l : List Int) (W' : World) : Prop :=
 ∃ v, Boxed W' Bx 114 v ∧ Nx.Own W' base v l ∧ (∀ b, v.ownBlock = some b → b < Bx ∨ hi' ≤ b) ∧ Boxed W' B3 136 (.pointer (some ⟨r, 0, none⟩)) ∧ Boxed W' B9 3 (U i6 F) ∧ Boxed W' B10 3 (U i6 G) ∧ Mid lo' hi' w5 W' ∧ Below W.heap.size W W' ∧ hi' ≤ W'.heap.size
theorem boxed_turn {W W' : World} {B : Nat} {t : TypeId} {v : Value} {row : Option Nat} (h : Boxed W B t v) (k : W.grownBy W' row) (hr : ∀ r, row = some r → ∃ o : Obj, W.heap[r]? = some o ∧ o.isCells = false) : Boxed W' B t v :=
 Go.Boxed.kept h k fun e => by
  obtain ⟨o, ho, hn⟩ := hr B e.symm
  rw [show W.heap[B]? = _ from h] at ho; cases ho; cases hn
theorem QI.turn {lo' hi' base Bx B3 B9 B10 r : Nat} {F G : Int} {w5 W : World} {l : List Int} {W1 W2 : World} {row : Option Nat} (h : QI lo' hi' base Bx B3 B9 B10 r F G w5 W l W1) (k : W1.grownBy W2 row) (hz : W.heap.size ≤ hi') (hr : ∀ q, row = some q → hi' ≤ q ∧ ∃ o : Obj, W1.heap[q]? = some o ∧ o.isCells = false) : QI lo' hi' base Bx B3 B9 B10 r F G w5 W l W2 := by
 obtain ⟨v, a1, a2, a3, a4, a5, a6, a7, a8, a9⟩ := h
 have hn : ∀ q, row = some q → ∃ o : Obj, W1.heap[q]? = some o ∧ o.isCells = false := fun q e => (hr q e).2
 refine ⟨v, boxed_turn a1 k hn, World.ownsRow.kept a2 k ?_, a3, boxed_turn a4 k hn, boxed_turn a5 k hn, boxed_turn a6 k hn, a7.trans (Mid.grown k fun b e => .inr (hr b e).1), a8.grown k a8.size (fun b e => Nat.le_trans hz (hr b e).1), Nat.le_trans a9 k.size⟩
 rcases a2.2 with ⟨rfl, _⟩ | ⟨g, cap, cur, rfl, _, hb, _⟩
 ·exact .inl rfl
 ·refine .inr fun e => ?_
  obtain ⟨o, ho, hn'⟩ := hn g (by rw [← e]; rfl)
  rw [hb] at ho; cases ho; cases hn'
theorem QI.app {lo' hi' base Bx B3 B9 B10 r : Nat} {F G z : Int} {w5 W : World} {l : List Int} {W1 w1 : World} {v v' : Value} {tmp : Obj}
  (a1 : Boxed W1 Bx 114 v) (a2 : Nx.Own W1 base v l) (a3 : ∀ b, v.ownBlock = some b → b < Bx ∨ hi' ≤ b) (a4 : Boxed W1 B3 136 (.pointer (some ⟨r, 0, none⟩))) (a5 : Boxed W1 B9 3 (U i6 F)) (a6 : Boxed W1 B10 3 (U i6 G)) (a7 : Mid lo' hi' w5 W1) (a8 : Below W.heap.size W W1) (a9 : hi' ≤ W1.heap.size)
  (hB : W.heap.size ≤ base ∧ base ≤ Bx ∧ B3 < base ∧ Bx < B9 ∧ Bx < B10 ∧ B9 < lo' ∧ B10 < lo' ∧ lo' ≤ hi') (own' : Nx.Own w1 base v' (l ++ [z])) (gr : (W1.alloc tmp).grownBy w1 v.ownBlock) (hat : v'.ownBlock = v.ownBlock ∨ v'.ownBlock = some (W1.alloc tmp).heap.size) :
  Boxed w1 Bx 114 v ∧ KeepsOthers W1 (w1.setCell ⟨Bx, 0, none⟩ v') ∧ Mid lo' hi' W1 (w1.setCell ⟨Bx, 0, none⟩ v') ∧ QI lo' hi' base Bx B3 B9 B10 r F G w5 W (l ++ [z]) (w1.setCell ⟨Bx, 0, none⟩ v') := by
 have hrow : ∀ b, v.ownBlock = some b → base ≤ b := fun b e => a2.block e
 have hne : ∀ b t u, Boxed W1 b t u → b ≠ Bx → v.ownBlock ≠ some b → Boxed (w1.setCell ⟨Bx, 0, none⟩ v') b t u := fun b t u hb h1 h2 => ((hb.alloc tmp).kept gr (fun e => h2 e.symm)).other h1 v'
 have hv1 : Boxed w1 Bx 114 v := (a1.alloc tmp).kept gr (a1.not_row (by decide) a2)
 have hrb : v.ownBlock ≠ some Bx := fun e => (a1.not_row (by decide) a2) e.symm
 have hm : Mid lo' hi' W1 (w1.setCell ⟨Bx, 0, none⟩ v') := ((Mid.later ((Below.refl _ W1).alloc (Nat.le_refl _) tmp)).trans (Mid.grown gr fun b e => by have := a3 b e; omega)).trans (Mid.set _ (by omega))
 have hb : Below W.heap.size W1 (w1.setCell ⟨Bx, 0, none⟩ v') := (((Below.refl W.heap.size W1).alloc a8.size tmp).grown gr (by have := a8.size; simp; omega) fun j ej => (by have := hrow j ej; omega)).setCell (p := ⟨Bx, 0, none⟩) (by show W.heap.size ≤ Bx; omega) v'
 refine ⟨hv1, ?_, hm, v', hv1.set v', World.ownsRow.kept own' (grownBy_setCell' w1 Bx v') (.inr (hv1.not_row (by decide) own').symm), fun b e => ?_, hne _ _ _ a4 (by omega) (fun e => by have := hrow _ e; omega), hne _ _ _ a5 (by omega) (fun e => by have := a3 _ e; omega), hne _ _ _ a6 (by omega) (fun e => by have := a3 _ e; omega), a7.trans hm, a8.trans hb, Nat.le_trans a9 hb.size⟩
 ·refine ((KeepsOthers.alloc W1 tmp).trans (KeepsOthers.of_grownBy gr fun j o ej hj => ?_)).trans (KeepsOthers.setCell _ _ _)
  have a2' : Nx.Own (W1.alloc tmp) base v l := a2.alloc tmp
  rcases a2'.2 with ⟨rfl, _⟩ | ⟨g, cap, cur, rfl, _, hgb, _⟩
  ·simp [Value.ownBlock] at ej
  ·obtain rfl : g = j := by simpa [Value.ownBlock] using ej
   rw [hgb] at hj; cases hj; rfl
 ·rcases hat with h | h
  ·exact a3 b (by rw [← h]; exact e)
  ·rw [h, World.size_alloc] at e
   have := Option.some.inj e
   omega
def pfl (nC : Nat) (c F : Int) (l : List (Int × Int)) : List Int := l.flatMap fun p => (List.range nC).map fun (j : Nat) => covW c p.2 (F + j)
theorem pfl_len (nC : Nat) (c F : Int) (l : List (Int × Int)) : (pfl nC c F l).length = l.length * nC := by
 induction l with
 | nil => simp [pfl]
 | cons x l ih => simp [pfl] at ih ⊢; rw [ih, Nat.add_mul]; omega
theorem pfl_snoc (nC : Nat) (c F : Int) (l : List (Int × Int)) (x : Int × Int) : pfl nC c F (l ++ [x]) = pfl nC c F l ++ (List.range nC).map fun (j : Nat) => covW c x.2 (F + j) := by simp [pfl]
theorem plA_at {k c ch h w kw t u : Int} {nC q j : Nat} (hk : k ≠ 1) (hn : (nC : Int) = chB k c ch - chF k ch) (hj : j < nC) : plA k c ch h w kw t u ((q * nC + j : Nat) : Int) = cov c (tpc h w kw t u (q : Int)) (chF k ch + (j : Int)) := by
 have e := spot_at (y := q) hj
 simp only [Prod.mk.injEq] at e
 obtain ⟨e1, e2⟩ := e
 unfold plA
 rw [if_neg hk]
 by_cases k2 : k = 2
 ·rw [if_pos k2]
  have h1 : chF k ch = 0 := if_pos k2
  have h2 : chB k c ch = c := if_pos k2
  rw [h1, h2] at hn
  have hc : c = (nC : Int) := by omega
  rw [h1, hc, e1, e2, Int.zero_add]
 ·rw [if_neg k2]
  have h1 : chF k ch = ch - 1 := if_neg k2
  have h2 : chB k c ch = ch := if_neg k2
  rw [h1, h2] at hn
  obtain rfl : nC = 1 := by omega
  obtain rfl : j = 0 := by omega
  rw [h1]
  simp
theorem plc_bd {h w y x : Int} (hh : 1 ≤ h ∧ h ≤ 1024) (hw : 1 ≤ w ∧ w ≤ 1024) (hm : h * w ≤ 16384) : -1 ≤ plc h w y x ∧ plc h w y x ≤ 16384 := by
 by_cases q : (0 ≤ y ∧ y < h) ∧ (0 ≤ x ∧ x < w)
 ·rw [plc_in q]
  have := rowbd q.1.2 q.1.1 q.2.1 q.2.2
  omega
 ·rw [plc_out q]; omega
theorem pfl_tap {k c ch h w kw t u : Int} {nC : Nat} (hk : k ≠ 1) (hn : (nC : Int) = chB k c ch - chF k ch) (hF : 0 ≤ chF k ch) (hB : chB k c ch ≤ 1024) (hc : 1 ≤ c ∧ c ≤ 1024) (hh : 1 ≤ h ∧ h ≤ 1024) (hw : 1 ≤ w ∧ w ≤ 1024) (hm : h * w ≤ 16384) :
  ∀ N : Nat, pfl nC c (chF k ch) (tapL h w kw t u N) = plL k c ch h w kw t u (N * nC)
 | 0 => by simp [pfl, plL, tapL]
 | N + 1 => by
  rw [tapL_succ, pfl_snoc, pfl_tap hk hn hF hB hc hh hw hm N]
  have g : ∀ j, j ≤ nC → plL k c ch h w kw t u (N * nC + j) = plL k c ch h w kw t u (N * nC) ++ (List.range j).map fun (i : Nat) => covW c (tap h w kw t u N).2 (chF k ch + i) := by
   intro j
   induction j with
   | zero => intro _; simp
   | succ j ih =>
    intro hj
    rw [← Nat.add_assoc, plL_succ, ih (by omega), List.range_succ, List.map_append, ← List.append_assoc, plA_at hk hn (by omega)]
    rw [show (List.map (fun (i : Nat) => covW c (tap h w kw t u N).2 (chF k ch + i)) [j]) = [covW c (tap h w kw t u N).2 (chF k ch + j)] from rfl]
    rw [covW_eq (p := (tap h w kw t u N).2) (plc_bd hh hw hm) (by omega) hc]
    rfl
  rw [← g nC (Nat.le_refl _), Nat.add_mul, Nat.one_mul]
theorem places_w (k a b m kh kw sh sw tp lf bt rt : Int) (wa : Option Addr) (lw wc : Nat) (ba : Option Addr) (lb bc : Nat) (sm ss um us z p lo hi h w c H V C : Int) (r : Nat) (W : World) (hr : W.heap[r]? = some (.cells #[U i6 k, U i6 a, U i6 b, U i6 m, U i6 kh, U i6 kw, U i6 sh, U i6 sw, U i6 tp, U i6 lf, U i6 bt, U i6 rt, .slice wa lw wc, .slice ba lb bc, U i6 sm, U i6 ss, U i6 um, U i6 us, U i6 z, U i6 p, U i6 lo, U i6 hi, U i6 h, U i6 w, U i6 c, U i6 H, U i6 V, U i6 C] 119 (0, 0))) (s : Sit k kh kw sh sw tp lf bt rt h w c H V C lw lb) (k1 : k ≠ 1) (ch at' : Int) (hch : 1 ≤ ch ∧ ch ≤ C) (hat : 0 ≤ at' ∧ at' < H * V) (st : Nat) (hst : stR k kh kw h w c = (st : Int)) :
  Calls Tryz.prog 82 #[.pointer (some ⟨r, 0, none⟩), U i6 ch, U i6 at'] W fun e w' => (∃ v, e = .returned v ∧ Nx.Own w' W.heap.size v (plL k c ch h w kw (coR h w c kh kw sh sw tp lf bt rt at').1 (coR h w c kh kw sh sw tp lf bt rt at').2.1 st)) ∧ Below W.heap.size W w' := by
 obtain ⟨i0, hi0, hz0, hz1, hz2⟩ := info_parts Nx.Tryz.infoI
 have hlen : st ≤ 512 := by have := s.2.2.2.2.2.2.2.2.2; rw [hst] at this; omega
 have hrz : r < W.heap.size := lt_of_heap hr
 have hbk : Hid (∀ w', Below W.heap.size W w' → w'.heap[r]? = some (.cells #[U i6 k, U i6 a, U i6 b, U i6 m, U i6 kh, U i6 kw, U i6 sh, U i6 sw, U i6 tp, U i6 lf, U i6 bt, U i6 rt, .slice wa lw wc, .slice ba lb bc, U i6 sm, U i6 ss, U i6 um, U i6 us, U i6 z, U i6 p, U i6 lo, U i6 hi, U i6 h, U i6 w, U i6 c, U i6 H, U i6 V, U i6 C] 119 (0, 0))) := fun w' hb => (hb.block r hrz).trans hr
 have hL : Hid (∀ w', Below W.heap.size W w' → Calls Tryz.prog 96 #[.pointer (some ⟨r, 0, none⟩)] w' fun e w'' => e = .returned (U i6 st) ∧ ∃ m, w'' = w'.drewN m) := fun w' hb => by rw [← hst]; exact tlen_any k a b m kh kw sh sw tp lf bt rt wa lw wc ba lb bc sm ss um us z p lo hi h w c H V C r w' (hbk.out w' hb) s
 obtain ⟨hk, hvA, hvB, hou, -, hwn, -, h3c, -⟩ := s
 have hC1 := (vS_yes hvB).2.2.1
 have hc1 := (vS_yes hvA).2.2.1
 have hd1 := (vS_yes hvA).1
 have hw1 := (vS_yes hvA).2.1
 obtain ⟨hk1, hk2⟩ := hwn (by omega)
 -- the channels
 have hF : 0 ≤ chF k ch := by unfold chF; split <;> omega
 have hB0 : chB k c ch ≤ 1024 := by unfold chB; split <;> omega
 have hFB : chF k ch < chB k c ch := by unfold chF chB; split <;> omega
 obtain ⟨nC, hnC⟩ : ∃ nC : Nat, (nC : Int) = chB k c ch - chF k ch := ⟨(chB k c ch - chF k ch).toNat, by omega⟩
 have hR : Hid (∀ w', Below W.heap.size W w' → Calls Tryz.prog 97 #[.pointer (some ⟨r, 0, none⟩), U i6 ch] w' fun e w'' => e = .returned (.tuple #[U i6 (chF k ch), U i6 (chB k c ch)]) ∧ ∃ m, w'' = w'.drewN m) := fun w' hb => tread_any k a b m kh kw sh sw tp lf bt rt wa lw wc ba lb bc sm ss um us z p lo hi h w c H V C r w' (hbk.out w' hb) ch (by omega)
 -- the taps
 rcases coR_cases h w c kh kw sh sw tp lf bt rt at' with ⟨e, he, h2⟩ | ⟨rr, qq, he, hf, hn, hcc⟩
 ·exfalso
  unfold coR at he
  rw [hou (by omega)] at he
  simp only at he
  rw [if_pos trivial, if_pos hat] at he
  simp at he
  omega
 have hcor := cor_of hf hn
 have htp : tapsOf h w c kh kw sh sw tp lf bt rt at' = tapL h w kw (coR h w c kh kw sh sw tp lf bt rt at').1 (coR h w c kh kw sh sw tp lf bt rt at').2.1 (kh * kw).toNat := by rw [tapsOf_ok hcc, hcc]
 obtain ⟨t, ht⟩ : ∃ t, (coR h w c kh kw sh sw tp lf bt rt at').1 = t := ⟨_, rfl⟩
 obtain ⟨u, hu⟩ : ∃ u, (coR h w c kh kw sh sw tp lf bt rt at').2.1 = u := ⟨_, rfl⟩
 rw [ht, hu] at htp ⊢
 obtain ⟨N, hN⟩ : ∃ N : Nat, kh * kw = (N : Int) := ⟨(kh * kw).toNat, by have := (mul_bd hk1.1 hk1.2 hk2.1 hk2.2).1; omega⟩
 have hN2 : N ≤ 1024 := by have := (mul_bd hk1.1 hk1.2 hk2.1 hk2.2).2; omega
 have hstN : st = N * nC := by
  have e : stR k kh kw h w c = (N : Int) * nC := by
   unfold stR
   rw [if_neg k1, hN, hnC]
   by_cases k2 : k = 2
   ·rw [if_pos k2, show chB k c ch = c from if_pos k2, show chF k ch = 0 from if_pos k2, Int.sub_zero]
   ·rw [if_neg k2, if_pos (by omega), show chB k c ch = ch from if_neg k2, show chF k ch = ch - 1 from if_neg k2, show ch - (ch - 1) = 1 by omega, Int.mul_one]
  rw [hst] at e
  exact_mod_cast e
 have htl : pfl nC c (chF k ch) (tapsOf h w c kh kw sh sw tp lf bt rt at') = plL k c ch h w kw t u st := by
  rw [htp, hN, Int.toNat_natCast, hstN]
  exact pfl_tap k1 hnC hF hB0 hc1 hd1 hw1 hcor.2.2.1 N
 have hnC2 : nC ≤ 1024 := by omega
 obtain ⟨ys, hys⟩ : ∃ ys, tapsOf h w c kh kw sh sw tp lf bt rt at' = ys := ⟨_, rfl⟩
 have HY : Hid (tapsOf h w c kh kw sh sw tp lf bt rt at' = ys) := hys
 have hyl : ys.length ≤ 1024 := by have := Nx.tapsOf_len h w c kh kw sh sw tp lf bt rt at'; rw [hys] at this; exact this
 rw [hys] at htl
 rw [← htl]
 obtain ⟨F, hFe⟩ : ∃ F, chF k ch = F := ⟨_, rfl⟩
 obtain ⟨G, hGe⟩ : ∃ G, chB k c ch = G := ⟨_, rfl⟩
 rw [hFe, hGe] at hR hnC hFB
 rw [hFe] at hF ⊢
 rw [hGe] at hB0
 have hPl : Hid (∀ (w' : World) (q d : Int), Below W.heap.size W w' → Calls Tryz.prog 99 #[.pointer (some ⟨r, 0, none⟩), U i6 q, U i6 d] w' fun e w'' => e = .returned (U i6 (covW c q d)) ∧ w'' = w') := fun w' q d hb => tplaceW_any k a b m kh kw sh sw tp lf bt rt wa lw wc ba lb bc sm ss um us z p lo hi h w c H V C r w' (hbk.out w' hb) q d
 have k1' : (k == 1) = false := by simp [k1]
 have hst5 : st ≤ 2000000 := by omega
 clear hst hvA hvB hou h3c he hf hn hcc hcor htp ht hu hN hN2 hstN htl hys hFe hGe hlen hwn
 have s0 := (St.start W).new (c := #[.pointer (some ⟨r, 0, none⟩)]) (t := 136)
 have hfn : ∀ f, Fence.wide.fn f := fun _ => trivial
 have hdp : Fence.wide.depth = none := rfl
 refine (callsIn_wide (n := 3)).1 ?_
 refine callsIn_of_wp_marks Tryz.func82 rfl trivial ?_ rfl
 simp only [Tryz.ntmps82, List.size_toArray, List.length_cons, List.length_nil, Nat.reduceAdd, Nat.reduceSub, Array.replicate_succ, Array.replicate_zero, List.push_toArray, List.append_toArray, List.nil_append, List.cons_append]
 refine wpIn_wide.2 ?_
 go_wp2_with fail
 refine (hL.out _ s0.below).mono ?_
 rintro e w1 ⟨rfl, m, rfl⟩
 have s1 := s0.call (dbel _ m)
 obtain ⟨w1, hw1⟩ : ∃ w1, (W.alloc (.cells #[.pointer (some ⟨r, 0, none⟩)] 136)).drewN m = w1 := ⟨_, rfl⟩
 rw [hw1] at s1 ⊢
 have hz : W.heap.size + 1 = w1.heap.size := by rw [← hw1]; simp
 clear hw1
 obtain ⟨c1, f1, z1, -⟩ := s1.rules
 go_wp2_with (first
  | (at_make; refine wpList_make_own _ rfl _ _ 114 rfl w1.heap.size 3 i0 (U i6 0) 1 Tryz.underlying114 hi0 hz0 hz1 .i64 .i64 _ st rfl rfl rfl (by rw [hz2]; omega) (by unfold maxLen; omega) (by omega) ?_; intro w2 own2 gr2; have s2 := s1.call ((Below.refl w1.heap.size w1).grown gr2 (Nat.le_refl _) (fun b hb => by cases hb)); obtain ⟨c1', f1', z1', -⟩ := s2.rules; have hq := (cells_at (hbk.out _ s2.below)).1; have zr := Nat.lt_of_lt_of_le hrz s2.below.size))
 refine (hR.out _ (s2.skip _).below).mono ?_
 rintro e w3 ⟨rfl, m', rfl⟩
 have s3 := ((s2.new (c := #[.slice (some ⟨w1.heap.size, 0, none⟩) 0 st]) (t := 114)).call (dbel _ m'))
 have o3 : Nx.Own ((w2.alloc (.cells #[.slice (some ⟨w1.heap.size, 0, none⟩) 0 st] 114)).drewN m') w1.heap.size (.slice (some ⟨w1.heap.size, 0, none⟩) 0 st) [] := (Nx.Own.alloc (show Nx.Own w2 w1.heap.size (.slice (some ⟨w1.heap.size, 0, none⟩) 0 st) [] from own2) _).below (dbel _ m')
 obtain ⟨w3, hw3⟩ : ∃ w3, (w2.alloc (.cells #[.slice (some ⟨w1.heap.size, 0, none⟩) 0 st] 114)).drewN m' = w3 := ⟨_, rfl⟩
 rw [hw3] at s3 o3 ⊢
 have hz3 : w3.heap.size = w2.heap.size + 1 := by rw [← hw3]; simp
 have gz := gr2.size
 have hg12 : w1.heap.size < w2.heap.size := (World.ownsRow.lt own2 w1.heap.size rfl).2
 clear hw3 own2 gr2 c1 f1 c1' f1' hq z1 z1' s2 s1
 have s4 := (s3.new (c := #[U i6 F]) (t := 3)).new (c := #[U i6 G]) (t := 3)
 have o4 := (o3.alloc (.cells #[U i6 F] 3)).alloc (.cells #[U i6 G] 3)
 obtain ⟨c1, f1, z1, c2, f2, z2, -⟩ := s3.rules
 go_upto_region 10 with fail
 simp only [World.size_alloc] at s4
 obtain ⟨w4, hw4⟩ : ∃ w4, (w3.alloc (.cells #[U i6 F] 3)).alloc (.cells #[U i6 G] 3) = w4 := ⟨_, rfl⟩
 rw [hw4] at s4 o4 ⊢
 have hz4 : w4.heap.size = w3.heap.size + 1 + 1 := by rw [← hw4]; simp
 clear hw4 c1 f1 c2 f2 z1 z2 o3 s3
 have e2 := Wn.rule s4.h4
 have e3 := Wn.rule (hbk.out w4 s4.below)
 have hne : Nonempty (Wn w4) := ⟨Wn.mk w4 (Below.refl _ _)⟩
 refine (wpIn_wide (n := 3)).1 ?_
 refine region_tail_at 10 (C := fun w' => ∃ n : Wn w4, w' = n.w) rfl rfl (by kernel_rfl) (by kernel_rfl) ⟨Wn.mk _ (Below.refl _ _).drew, rfl⟩ ?_
 simp only [List.take_succ_cons, List.take_zero, List.drop_succ_cons, List.drop_zero]
 repeat (gi_big_quiet_step (fail))
 refine wpQuietIn_nil ?_
 rintro _ ⟨n, rfl⟩
 gi_wp2_with fail
 refine (callsIn_wide.2 (taps_any _ _ _ _ _ _ _ _ _ _ _ _ _)).mono ?_
 rintro e w5 ⟨⟨g, lb', rfl, hit⟩, hb5⟩
 rw [HY.out] at hit
 have s5 := (s4.call n.h).call hb5
 have o5 := (o4.below n.h).below hb5
 have hnz := n.h.size
 have hb5z := hb5.size
 gi_wp2
 obtain ⟨lo', hlo⟩ : ∃ x, n.w.heap.size = x := ⟨_, rfl⟩
 obtain ⟨hi', hhi⟩ : ∃ x, w5.heap.size = x := ⟨_, rfl⟩
 rw [hlo, hhi] at hit
 rw [hlo] at hnz
 rw [hlo, hhi] at hb5z
 obtain ⟨g', lb2, hv, heg, hseq⟩ := hit
 obtain ⟨rfl, rfl⟩ : g = g' ∧ lb' = lb2 := by simpa using hv
 have hbl : W.heap.size ≤ w1.heap.size ∧ w1.heap.size ≤ w2.heap.size ∧ W.heap.size < w1.heap.size ∧ w2.heap.size < w2.heap.size + 1 ∧ w2.heap.size < w2.heap.size + 1 + 1 ∧ w2.heap.size + 1 < lo' ∧ w2.heap.size + 1 + 1 < lo' ∧ lo' ≤ hi' := by omega
 have I0 : QI lo' hi' w1.heap.size w2.heap.size W.heap.size (w2.heap.size + 1) (w2.heap.size + 1 + 1) r F G w5 W (pfl nC c F []) w5 :=
  ⟨_, s5.h3, o5, fun b e => by simp [Value.ownBlock] at e; omega, s5.h4, by rw [← hz3]; exact s5.h2, by rw [← hz3]; exact s5.h1, Mid.refl _ _ _, s5.below, by omega⟩
 have HI0 : Hid (QI lo' hi' w1.heap.size w2.heap.size W.heap.size (w2.heap.size + 1) (w2.heap.size + 1 + 1) r F G w5 W (pfl nC c F []) w5) := I0
 clear s4 o4 s5 o5 e2 e3 hne I0 s0
 go_wp2
 refine (wpIn_wide (n := 3)).1 ?_
 refine wpIn_rangeFunc_ownG (F := Fence.wide) rfl (by omega) (gf := g) (lb := lb') rfl trivial heg (hseq w5 _ (Mid.refl _ _ _)) (fun h k => Mid.trans h k) (fun W l o o' _ h1 h2 _ => Mid.put W l o o' h1 h2) (Below.refl _ _) (fun _ => rfl)
  (fun (pre : List (Int × Int)) W' => QI lo' hi' w1.heap.size w2.heap.size W.heap.size (w2.heap.size + 1) (w2.heap.size + 1 + 1) r F G w5 W (pfl nC c F pre) W')
  (fun _ _ _ => False)
  (by rw [hhi]; exact fun pre W1 W2 row h k hr => h.turn k (by omega) hr)
  (fun _ _ _ _ _ hs _ _ => hs)
  HI0.out ?a₁ ?assign ?body ?done ?stop
 case assign =>
  intro l x W' K hK
  gi_wp2
  exact hK
 case stop =>
  rintro D c pre W' _ _ h _
  exact h.elim
 case done =>
  rintro D zs W' hD rfl ⟨v, a1, a2, a3, a4, a5, a6, a7, a8, a9⟩ hK
  obtain ⟨a', cap, rfl⟩ := Nx.ownsRow_slice a2
  have hc := a1.cell
  go_wp2
  refine ⟨by simp, .inl ⟨_, _, rfl, run_takeDeferred hK, ?_⟩⟩
  refine ⟨.slice a' (pfl nC c F zs).length cap, by simp [results, Tryz.f82, go_sem], ⟨_, rfl, ?_⟩, ?_⟩
  ·exact Nx.Own.base (ownsRow_putObj a2 _ hK rfl) (by omega)
  ·exact a8.trans (belowK_b (w := W) (Nat.le_refl _) W' D _ _ (by omega) hK rfl rfl)
 case body =>
  rintro l pre x W' hQ hlt
  have Ha : Hid (QI lo' hi' w1.heap.size w2.heap.size W.heap.size (w2.heap.size + 1) (w2.heap.size + 1 + 1) r F G w5 W (pfl nC c F pre) W') := hQ
  have hc9 : Hid (Boxed W' (w2.heap.size + 1) 3 (U i6 F)) := by obtain ⟨v, a1, a2, a3, a4, a5, -⟩ := hQ; exact a5
  have hc9' := hc9.out.cell
  have hLe : Hid (∀ j, (pfl nC c F pre ++ (List.range j).map fun (i : Nat) => covW c x.2 (F + i)).length = pre.length * nC + j) := fun j => by rw [List.length_append, pfl_len]; simp
  have hbd : Hid (pre.length * nC ≤ 1048576) := by unfold Hid; have := Nat.mul_le_mul (show pre.length ≤ 1024 by omega) hnC2; omega
  have hmx : Tryz.prog.follows .mixedOrders = true := by kernel_rfl
  clear hQ HI0
  gi_wp2
  gi_loopw [13] (fun i wr => ∃ j : Nat, j ≤ nC ∧ i = U i6 (F + j) ∧ QI lo' hi' w1.heap.size w2.heap.size W.heap.size (w2.heap.size + 1) (w2.heap.size + 1 + 1) r F G w5 W (pfl nC c F pre ++ (List.range j).map fun (i : Nat) => covW c x.2 (F + i)) wr ∧ KeepsOthers W' wr ∧ Mid lo' hi' W' wr) (fun i _ => (G - intOf i).toNat)
  case atStart => exact ⟨0, Nat.zero_le _, by simp, by simpa using Ha.out, KeepsOthers.refl _, Mid.refl _ _ _⟩
  case round =>
   obtain ⟨j, hj, rfl, ⟨v, b1, b2, b3, b4, b5, b6, b7, b8, b9⟩, hko, hmi⟩ := hrel
   obtain ⟨LL, hLL⟩ : ∃ LL, (pfl nC c F pre ++ (List.range j).map fun (i : Nat) => covW c x.2 (F + i)) = LL := ⟨_, rfl⟩
   have HLL : Hid ((pfl nC c F pre ++ (List.range j).map fun (i : Nat) => covW c x.2 (F + i)) = LL) := hLL
   have HLn : Hid (LL.length + 1 ≤ 10000000) := by unfold Hid; rw [← hLL, hLe.out]; have := hbd.out; omega
   rw [hLL] at b2
   clear hLL
   obtain ⟨a', cap, rfl⟩ := Nx.ownsRow_slice b2
   clear hc9 hc9'
   have hc1' := b1.cell
   have hf1' := b1.frozen
   have hc4' := b4.cell
   have hc6' := b6.cell
   have B1 : Hid (Boxed wr _ _ _) := b1
   have B2 : Hid (Nx.Own wr _ _ _) := b2
   have B3 : Hid (∀ b, _ → _) := b3
   have B4 : Hid (Boxed wr _ _ _) := b4
   have B5 : Hid (Boxed wr _ _ _) := b5
   have B6 : Hid (Boxed wr _ _ _) := b6
   have B7 : Hid (Mid _ _ _ _) := b7
   have B8 : Hid (Below _ _ _) := b8
   have b8z := b8.size
   clear b1 b2 b3 b4 b5 b6 b7 b8
   by_cases hjn : j < nC
   ·have HS : Hid ((List.range (j + 1)).map (fun (i : Nat) => covW c x.2 (F + i)) = (List.range j).map (fun (i : Nat) => covW c x.2 (F + i)) ++ [covW c x.2 (F + j)]) := by unfold Hid; rw [List.range_succ, List.map_append]; rfl
    gi_wp2
    refine region_round (by kernel_rfl) rfl hmx ?_
    obtain ⟨wd, hwd⟩ : ∃ wd, wr.drew = wd := ⟨_, rfl⟩
    have hdd : Below wr.heap.size wr wd := by rw [← hwd]; exact (Below.refl _ _).drew
    have D1 : Hid (Boxed wd _ _ _) := boxed_below B1.out hdd
    have D2 : Hid (Nx.Own wd _ _ _) := B2.out.below hdd
    have D4 : Hid (Boxed wd _ _ _) := boxed_below B4.out hdd
    have D5 : Hid (Boxed wd _ _ _) := boxed_below B5.out hdd
    have D6 : Hid (Boxed wd _ _ _) := boxed_below B6.out hdd
    have D7 : Hid (Mid _ _ _ wd) := B7.out.trans (Mid.later hdd)
    have D8 : Hid (Below _ _ wd) := B8.out.trans (hdd.mono b8z)
    have d9 : hi' ≤ wd.heap.size := Nat.le_trans b9 hdd.size
    have Dk : Hid (KeepsOthers W' wd) := by unfold Hid; rw [← hwd]; exact hko.trans (KeepsOthers.drew wr)
    have Dm : Hid (Mid lo' hi' W' wd) := hmi.trans (Mid.later hdd)
    rw [hwd]
    clear hc1' hf1' hc4' hc6' B1 B2 B4 B5 B6 B7 B8 hko hmi hdd hwd
    have hc1' := D1.out.cell
    have hf1' := D1.out.frozen
    have hc4' := D4.out.cell
    have hBz : w2.heap.size < wd.heap.size := by omega
    --ORDERS
    refine wpAnyIn_take (i := 2) (v := U i6 (x.2)) rfl rfl (by kernel_rfl) (by kernel_rfl) (by kernel_rfl) (fun _ _ _ h => h) ⟨Or.inl ⟨by rfl, fun w => by go_simp⟩, fun _ => rfl⟩ ?_
    refine wpAnyIn_take (i := 3) (v := U i6 (F + j)) rfl rfl (by kernel_rfl) (by kernel_rfl) (by kernel_rfl) (fun _ _ _ h => h) ⟨Or.inl ⟨by rfl, fun w => by go_simp⟩, fun _ => rfl⟩ ?_
    refine wpAnyIn_ready (rs := [0, 1]) (by kernel_rfl) (by simp) ?_
    refine AllReadyIn.cons rfl (fun K hK => ?_) (AllReadyIn.cons rfl (fun K hK => ?_) AllReadyIn.nil)
    ·go_simp
     refine hK _ _ ?_
     clear hK K
     refine wpAnyIn_ready (rs := [1]) (by kernel_rfl) (by simp) ?_
     refine AllReadyIn.cons rfl (fun K hK => ?_) AllReadyIn.nil
     go_simp
     refine hK _ _ ?_
     clear hK K
     refine wpAnyIn_ready (rs := [4]) (by kernel_rfl) (by simp) ?_
     refine AllReadyIn.cons rfl (fun K hK => ?_) AllReadyIn.nil
     go_simp
     refine (callsIn_wide.2 (hPl.out _ _ _ D8.out)).mono ?_
     rintro e w' ⟨rfl, hw'⟩
     have hw'' := hw'.symm
     subst hw''
     refine hK _ _ ?_
     clear hK K
     refine wpAnyIn_ready (rs := [5]) (by kernel_rfl) (by simp) ?_
     refine AllReadyIn.cons rfl (fun K hK => ?_) AllReadyIn.nil
     go_simp
     refine hK _ _ ?_
     clear hK K
     refine wpAnyIn_ready (rs := [6]) (by kernel_rfl) (by simp) ?_
     refine AllReadyIn.cons rfl (fun K hK => ?_) AllReadyIn.nil
     refine stepIn_app1 rfl (.tmp 59) (.tmp 64) rfl w1.heap.size _ _ rfl (D2.out.alloc _) _ (covW c x.2 (F + j)) rfl (one_cell wd _ _) HLn.out (by simp; omega) ?_
     intro v' w6 own' gr' hat'
     obtain ⟨q1, q2, q3, q4⟩ := QI.app (W1 := wd) D1.out D2.out B3.out D4.out D5.out D6.out D7.out D8.out d9 hbl own' gr' hat'
     obtain ⟨L2, hL2⟩ : ∃ L2, LL ++ [covW c x.2 (F + j)] = L2 := ⟨_, rfl⟩
     rw [hL2] at own' q4
     have HL2 : Hid (LL ++ [covW c x.2 (F + j)] = L2) := hL2
     clear hL2
     obtain ⟨a6, cap6, rfl⟩ := Nx.ownsRow_slice own'
     have hc7 := q1.cell
     have hf7 := q1.frozen
     refine hK _ _ ?_
     clear hK K
     refine wpAnyIn_ready (rs := [7]) (by kernel_rfl) (by simp) ?_
     refine AllReadyIn.cons rfl (fun K hK => ?_) AllReadyIn.nil
     go_simp
     refine hK _ _ ?_
     clear hK K
     refine wpAnyIn_done (by kernel_rfl) ?_ _
     gi_wp2
     go_roundw
     case rel => exact ⟨j + 1, by omega, by go_num, by rw [HS.out, ← List.append_assoc, HLL.out, HL2.out]; exact q4, Dk.out.trans q2, Dm.out.trans q3⟩
     case measure => simp [intOf]; omega
    ·go_simp
     refine hK _ _ ?_
     clear hK K
     refine wpAnyIn_ready (rs := [0, 4]) (by kernel_rfl) (by simp) ?_
     refine AllReadyIn.cons rfl (fun K hK => ?_) (AllReadyIn.cons rfl (fun K hK => ?_) AllReadyIn.nil)
     ·go_simp
      refine hK _ _ ?_
      clear hK K
      refine wpAnyIn_ready (rs := [4]) (by kernel_rfl) (by simp) ?_
      refine AllReadyIn.cons rfl (fun K hK => ?_) AllReadyIn.nil
      go_simp
      refine (callsIn_wide.2 (hPl.out _ _ _ D8.out)).mono ?_
      rintro e w' ⟨rfl, hw'⟩
      have hw'' := hw'.symm
      subst hw''
      refine hK _ _ ?_
      clear hK K
      refine wpAnyIn_ready (rs := [5]) (by kernel_rfl) (by simp) ?_
      refine AllReadyIn.cons rfl (fun K hK => ?_) AllReadyIn.nil
      go_simp
      refine hK _ _ ?_
      clear hK K
      refine wpAnyIn_ready (rs := [6]) (by kernel_rfl) (by simp) ?_
      refine AllReadyIn.cons rfl (fun K hK => ?_) AllReadyIn.nil
      refine stepIn_app1 rfl (.tmp 59) (.tmp 64) rfl w1.heap.size _ _ rfl (D2.out.alloc _) _ (covW c x.2 (F + j)) rfl (one_cell wd _ _) HLn.out (by simp; omega) ?_
      intro v' w6 own' gr' hat'
      obtain ⟨q1, q2, q3, q4⟩ := QI.app (W1 := wd) D1.out D2.out B3.out D4.out D5.out D6.out D7.out D8.out d9 hbl own' gr' hat'
      obtain ⟨L2, hL2⟩ : ∃ L2, LL ++ [covW c x.2 (F + j)] = L2 := ⟨_, rfl⟩
      rw [hL2] at own' q4
      have HL2 : Hid (LL ++ [covW c x.2 (F + j)] = L2) := hL2
      clear hL2
      obtain ⟨a6, cap6, rfl⟩ := Nx.ownsRow_slice own'
      have hc7 := q1.cell
      have hf7 := q1.frozen
      refine hK _ _ ?_
      clear hK K
      refine wpAnyIn_ready (rs := [7]) (by kernel_rfl) (by simp) ?_
      refine AllReadyIn.cons rfl (fun K hK => ?_) AllReadyIn.nil
      go_simp
      refine hK _ _ ?_
      clear hK K
      refine wpAnyIn_done (by kernel_rfl) ?_ _
      gi_wp2
      go_roundw
      case rel => exact ⟨j + 1, by omega, by go_num, by rw [HS.out, ← List.append_assoc, HLL.out, HL2.out]; exact q4, Dk.out.trans q2, Dm.out.trans q3⟩
      case measure => simp [intOf]; omega
     ·go_simp
      refine (callsIn_wide.2 (hPl.out _ _ _ D8.out)).mono ?_
      rintro e w' ⟨rfl, hw'⟩
      have hw'' := hw'.symm
      subst hw''
      refine hK _ _ ?_
      clear hK K
      refine wpAnyIn_ready (rs := [0, 5]) (by kernel_rfl) (by simp) ?_
      refine AllReadyIn.cons rfl (fun K hK => ?_) (AllReadyIn.cons rfl (fun K hK => ?_) AllReadyIn.nil)
      ·go_simp
       refine hK _ _ ?_
       clear hK K
       refine wpAnyIn_ready (rs := [5]) (by kernel_rfl) (by simp) ?_
       refine AllReadyIn.cons rfl (fun K hK => ?_) AllReadyIn.nil
       go_simp
       refine hK _ _ ?_
       clear hK K
       refine wpAnyIn_ready (rs := [6]) (by kernel_rfl) (by simp) ?_
       refine AllReadyIn.cons rfl (fun K hK => ?_) AllReadyIn.nil
       refine stepIn_app1 rfl (.tmp 59) (.tmp 64) rfl w1.heap.size _ _ rfl (D2.out.alloc _) _ (covW c x.2 (F + j)) rfl (one_cell wd _ _) HLn.out (by simp; omega) ?_
       intro v' w6 own' gr' hat'
       obtain ⟨q1, q2, q3, q4⟩ := QI.app (W1 := wd) D1.out D2.out B3.out D4.out D5.out D6.out D7.out D8.out d9 hbl own' gr' hat'
       obtain ⟨L2, hL2⟩ : ∃ L2, LL ++ [covW c x.2 (F + j)] = L2 := ⟨_, rfl⟩
       rw [hL2] at own' q4
       have HL2 : Hid (LL ++ [covW c x.2 (F + j)] = L2) := hL2
       clear hL2
       obtain ⟨a6, cap6, rfl⟩ := Nx.ownsRow_slice own'
       have hc7 := q1.cell
       have hf7 := q1.frozen
       refine hK _ _ ?_
       clear hK K
       refine wpAnyIn_ready (rs := [7]) (by kernel_rfl) (by simp) ?_
       refine AllReadyIn.cons rfl (fun K hK => ?_) AllReadyIn.nil
       go_simp
       refine hK _ _ ?_
       clear hK K
       refine wpAnyIn_done (by kernel_rfl) ?_ _
       gi_wp2
       go_roundw
       case rel => exact ⟨j + 1, by omega, by go_num, by rw [HS.out, ← List.append_assoc, HLL.out, HL2.out]; exact q4, Dk.out.trans q2, Dm.out.trans q3⟩
       case measure => simp [intOf]; omega
      ·go_simp
       refine hK _ _ ?_
       clear hK K
       refine wpAnyIn_ready (rs := [0]) (by kernel_rfl) (by simp) ?_
       refine AllReadyIn.cons rfl (fun K hK => ?_) AllReadyIn.nil
       go_simp
       refine hK _ _ ?_
       clear hK K
       refine wpAnyIn_ready (rs := [6]) (by kernel_rfl) (by simp) ?_
       refine AllReadyIn.cons rfl (fun K hK => ?_) AllReadyIn.nil
       refine stepIn_app1 rfl (.tmp 59) (.tmp 64) rfl w1.heap.size _ _ rfl (D2.out.alloc _) _ (covW c x.2 (F + j)) rfl (one_cell wd _ _) HLn.out (by simp; omega) ?_
       intro v' w6 own' gr' hat'
       obtain ⟨q1, q2, q3, q4⟩ := QI.app (W1 := wd) D1.out D2.out B3.out D4.out D5.out D6.out D7.out D8.out d9 hbl own' gr' hat'
       obtain ⟨L2, hL2⟩ : ∃ L2, LL ++ [covW c x.2 (F + j)] = L2 := ⟨_, rfl⟩
       rw [hL2] at own' q4
       have HL2 : Hid (LL ++ [covW c x.2 (F + j)] = L2) := hL2
       clear hL2
       obtain ⟨a6, cap6, rfl⟩ := Nx.ownsRow_slice own'
       have hc7 := q1.cell
       have hf7 := q1.frozen
       refine hK _ _ ?_
       clear hK K
       refine wpAnyIn_ready (rs := [7]) (by kernel_rfl) (by simp) ?_
       refine AllReadyIn.cons rfl (fun K hK => ?_) AllReadyIn.nil
       go_simp
       refine hK _ _ ?_
       clear hK K
       refine wpAnyIn_done (by kernel_rfl) ?_ _
       gi_wp2
       go_roundw
       case rel => exact ⟨j + 1, by omega, by go_num, by rw [HS.out, ← List.append_assoc, HLL.out, HL2.out]; exact q4, Dk.out.trans q2, Dm.out.trans q3⟩
       case measure => simp [intOf]; omega
    --SREDRO
   ·obtain rfl : j = nC := by omega
    gi_wp2
    exact ⟨hko.from _, hmi, by show QI lo' hi' w1.heap.size w2.heap.size W.heap.size (w2.heap.size + 1) (w2.heap.size + 1 + 1) r F G w5 W (pfl j c F (pre ++ [x])) wr; rw [pfl_snoc, HLL.out]; exact ⟨_, B1.out, B2.out, B3.out, B4.out, B5.out, B6.out, B7.out, B8.out, b9⟩⟩
theorem Shp.slice {w : World} {base : Nat} {v : Value} {L : List (Int × Int × Int)} (h : Shp w base v L) : ∃ a cap, v = .slice a L.length cap := by
 rcases h with ⟨rfl, rfl⟩ | ⟨g, cap, cur, rfl, -⟩
 ·exact ⟨_, _, rfl⟩
 ·exact ⟨_, _, rfl⟩
theorem Shp.below {w w' : World} {base : Nat} {v : Value} {L : List (Int × Int × Int)} (h : Shp w base v L) (q : Below w.heap.size w w') : Shp w' base v L := by
 rcases h with h | ⟨g, cap, cur, h1, h2, h3, h4⟩
 ·exact .inl h
 ·exact .inr ⟨g, cap, cur, h1, h2, (q.block _ (lt_of_heap h3)).trans h3, h4⟩
theorem Shp.base {w : World} {b c : Nat} {v : Value} {L : List (Int × Int × Int)} (h : Shp w b v L) (q : c ≤ b) : Shp w c v L := by
 rcases h with h | ⟨g, cap, cur, h1, h2, h3⟩
 ·exact .inl h
 ·exact .inr ⟨g, cap, cur, h1, by omega, h3⟩
theorem Shp.set3 {w : World} {N : Nat} {v a b c : Value} {L : List (Int × Int × Int)} (h : Shp w (N + 1) v L) : Shp (((w.setCell ⟨N, 0, none⟩ a).setCell ⟨N, 1, none⟩ b).setCell ⟨N, 2, none⟩ c) N v L := by
 rcases h with h | ⟨g, cap, cur, h1, h2, h3, h4⟩
 ·exact .inl h
 ·refine .inr ⟨g, cap, cur, h1, by omega, ?_, h4⟩
  rw [Below.heap_setCell _ _ _ _ (show g ≠ N by omega), Below.heap_setCell _ _ _ _ (show g ≠ N by omega), Below.heap_setCell _ _ _ _ (show g ≠ N by omega)]
  exact h3
theorem shapes_any (h w c lo hi ot : Int) (oa : Option Addr) (on oc : Nat) (O : Nat → Nat → Int) (W : World) (hM : MRow W oa on oc O) :
  Calls Tryz.prog 53 #[.agg #[U i6 h, U i6 w, U i6 c, U i6 lo, U i6 hi, .slice oa on oc, U i6 ot]] W fun e w' => ∃ v, e = .returned (.tuple #[v, .agg #[U i6 (gtR O h w c lo hi ot on).1, U i6 (gtR O h w c lo hi ot on).2.1, U i6 0]]) ∧ Shp w' W.heap.size v (gtR O h w c lo hi ot on).2.2.1 ∧ Below W.heap.size W w' := by
 have hG : Hid (∀ W, MRow W oa on oc O → _) := fun W hW => gothrough_any h w c lo hi ot oa on oc O W hW
 obtain ⟨Re, Ra, RL, Rw, hR⟩ : ∃ Re Ra RL Rw, gtR O h w c lo hi ot on = (Re, Ra, RL, Rw) := ⟨_, _, _, _, rfl⟩
 rw [hR] at hG ⊢
 simp only
 have hM2 : Hid (MRow W oa on oc O) := hM
 clear hR hM
 go_enter Tryz.func53, Tryz.ntmps53
 go_wp2_with fail
 refine Calls.mono (hG.out _ (hM2.out.below (St.start W).new.new.below)) ?_
 rintro e w1 ⟨v, rfl, hS, hb⟩
 obtain ⟨va, vc, rfl⟩ := hS.slice
 have s1 := ((St.start W).new.new).call hb
 simp only [World.size_alloc] at s1
 obtain ⟨c1, f1, z1, c2, f2, z2, -⟩ := s1.rules
 have hS2 : Hid (Shp w1 W.heap.size (.slice va RL.length vc) RL) := hS.base (by simp; omega)
 have hs1 : Hid (Below W.heap.size W w1) := s1.below
 have hlt : Hid (∀ g, W.heap.size + 1 + 1 ≤ g → g ≠ W.heap.size + 1) := fun g hg => by omega
 have hS3 : Hid (Shp w1 (W.heap.size + 1 + 1) (.slice va RL.length vc) RL) := by unfold Hid; simpa using hS
 clear hb hS s1
 go_wp2
 go_region_law (fail)
 all_goals
  go_wp2
  exact bodyPost_ret (v := .tuple #[.slice va RL.length vc, .agg #[U i6 Re, U i6 Ra, U i6 0]]) (by simp [results, Tryz.results53, go_sem, *]) rfl ⟨_, rfl, (by first | exact ((hS3.out.set3).below (bt (bal _ _) (bal _ _))).base (by omega) | exact ((hS3.out.set3).below (bt (bt (bal _ _) (bal _ _)) (Below.refl _ _).drew)).base (by omega)), (by first | exact al2b (set3b hs1.out (by omega)) _ _ | exact (al2b (set3b hs1.out (by omega)) _ _).drew)⟩
end Go.Proofs.YtgiohlcipndakaaGreat
