/- What terms of package terms returns of an op with a window: the terms of a channel's sum at a position. Check, Shapes and Work of package model: what each answers. -/
import Derived.Test.YtbogpgaifbjahaaGr13
import Derived.Test.YtbogpgaifbjahaaGr14
/- What terms of package terms returns of an op with a window: the terms of a channel's sum at a position. -/
namespace Go.Proofs.Ytbogpgaifbjahaa
open Go.ChangeShapes Go.WideShapes Go.ChangeAt Go.RowKit Go.Shelf
set_option linter.unusedVariables false
attribute [local go_sem] Oper.semAt_some
/-- The place, whatever the tap's number is. -/
def covW (C p c : Int) : Int := if p = -1 then -1 else wrap64 (wrap64 (p * C) + c)
theorem covW_eq {C p c : Int} (hq : -1 ≤ p ∧ p ≤ 16384) (hd : 0 ≤ c ∧ c ≤ 1024) (hc : 1 ≤ C ∧ C ≤ 1024) : covW C p c = cov C p c := by
  unfold covW cov
  by_cases q1 : p = -1
  · rw [if_pos q1, if_pos q1]
  · rw [if_neg q1, if_neg q1]
    have p1 : 0 ≤ p * C := Int.mul_nonneg (by omega) (by omega)
    have p2 : p * C ≤ 16384 * 1024 := Int.mul_le_mul hq.2 hc.2 (by omega) (by omega)
    have e1 : wrap64 (p * C) = p * C := by unfold wrap64; omega
    rw [e1]
    unfold wrap64
    omega
set_option maxHeartbeats 1000000 in
theorem tplaceW_any (k a b m kh kw sh sw tp lf bt rt : Int) (wa : Option Addr) (lw wc : Nat) (ba : Option Addr) (lb bc : Nat) (sm ss um us z p lo hi h w c H V C : Int) (r : Nat) (W : World) (hr : W.heap[r]? = some (.cells #[.int .i64 k, .int .i64 a, .int .i64 b, .int .i64 m, .int .i64 kh, .int .i64 kw, .int .i64 sh, .int .i64 sw, .int .i64 tp, .int .i64 lf, .int .i64 bt, .int .i64 rt, .slice wa lw wc, .slice ba lb bc, .int .i64 sm, .int .i64 ss, .int .i64 um, .int .i64 us, .int .i64 z, .int .i64 p, .int .i64 lo, .int .i64 hi, .int .i64 h, .int .i64 w, .int .i64 c, .int .i64 H, .int .i64 V, .int .i64 C] 66 (0, 0))) (q d : Int) :
    Calls Try.prog 49 #[.pointer (some ⟨r, 0, none⟩), .int .i64 q, .int .i64 d] W fun e w' => e = .returned (.int .i64 (covW c q d)) ∧ w' = W := by
  obtain ⟨y1, y2, y3⟩ := cells_at hr
  clear hr
  by_cases q1 : q = -1
  · subst q1
    rw [show covW c (-1) d = -1 from if_pos rfl]
    go_enter Try.func49, Try.ntmps49
    go_wp2
    go_ret
    exact ⟨rfl, rfl⟩
  · rw [show covW c q d = wrap64 (wrap64 (q * c) + d) from if_neg q1]
    have q1' : (q == -1) = false := by simp [q1]
    go_enter Try.func49, Try.ntmps49
    go_wp2
    go_ret
    exact ⟨rfl, rfl⟩
/-- What lies about the loop over the taps: the list so far in its variable, the op, the channels. -/
def QI (lo' hi' base Bx B3 B9 B10 r : Nat) (ch F G : Int) (w5 W : World) (l : List (Int × Int)) (W' : World) : Prop :=
  ∃ v, Boxed W' Bx 33 v ∧ OTm W' base v l ∧ (∀ b, v.ownBlock = some b → b < Bx ∨ hi' ≤ b) ∧ Boxed W' B3 102 (.pointer (some ⟨r, 0, none⟩)) ∧ Boxed W' (B3 + 1) 3 (.int .i64 ch) ∧ Boxed W' B9 3 (.int .i64 F) ∧ Boxed W' B10 3 (.int .i64 G) ∧ Mid lo' hi' w5 W' ∧ Below W.heap.size W W' ∧ hi' ≤ W'.heap.size
theorem boxed_turn {W W' : World} {B : Nat} {t : TypeId} {v : Value} {row : Option Nat} (h : Boxed W B t v) (k : W.grownBy W' row) (hr : ∀ r, row = some r → ∃ o : Obj, W.heap[r]? = some o ∧ o.isCells = false) : Boxed W' B t v :=
  Go.Boxed.kept h k fun e => by
    obtain ⟨o, ho, hn⟩ := hr B e.symm
    rw [show W.heap[B]? = _ from h] at ho; cases ho; cases hn
theorem QI.turn {lo' hi' base Bx B3 B9 B10 r : Nat} {ch F G : Int} {w5 W : World} {l : List (Int × Int)} {W1 W2 : World} {row : Option Nat} (h : QI lo' hi' base Bx B3 B9 B10 r ch F G w5 W l W1) (k : W1.grownBy W2 row) (hz : W.heap.size ≤ hi') (hr : ∀ q, row = some q → hi' ≤ q ∧ ∃ o : Obj, W1.heap[q]? = some o ∧ o.isCells = false) : QI lo' hi' base Bx B3 B9 B10 r ch F G w5 W l W2 := by
  obtain ⟨v, a1, a2, a3, a4, a4', a5, a6, a7, a8, a9⟩ := h
  have hn : ∀ q, row = some q → ∃ o : Obj, W1.heap[q]? = some o ∧ o.isCells = false := fun q e => (hr q e).2
  refine ⟨v, boxed_turn a1 k hn, World.ownsRow.kept a2 k ?_, a3, boxed_turn a4 k hn, boxed_turn a4' k hn, boxed_turn a5 k hn, boxed_turn a6 k hn, a7.trans (Mid.grown k fun b e => .inr (hr b e).1), a8.grown k a8.size (fun b e => Nat.le_trans hz (hr b e).1), Nat.le_trans a9 k.size⟩
  rcases a2.2 with ⟨rfl, _⟩ | ⟨g, cap, cur, rfl, _, hb, _⟩
  · exact .inl rfl
  · refine .inr fun e => ?_
    obtain ⟨o, ho, hn'⟩ := hn g (by rw [← e]; rfl)
    rw [hb] at ho; cases ho; cases hn'
/-- Behind 'list = append(list, z)'. -/
theorem QI.app {lo' hi' base Bx B3 B9 B10 r : Nat} {ch F G : Int} {z : Int × Int} {w5 W : World} {l : List (Int × Int)} {W1 w1 : World} {v v' : Value} {tmp : Obj}
    (a1 : Boxed W1 Bx 33 v) (a2 : OTm W1 base v l) (a3 : ∀ b, v.ownBlock = some b → b < Bx ∨ hi' ≤ b) (a4 : Boxed W1 B3 102 (.pointer (some ⟨r, 0, none⟩))) (a4' : Boxed W1 (B3 + 1) 3 (.int .i64 ch)) (a5 : Boxed W1 B9 3 (.int .i64 F)) (a6 : Boxed W1 B10 3 (.int .i64 G)) (a7 : Mid lo' hi' w5 W1) (a8 : Below W.heap.size W W1) (a9 : hi' ≤ W1.heap.size)
    (hB : W.heap.size ≤ base ∧ base ≤ Bx ∧ B3 + 1 < base ∧ Bx < B9 ∧ Bx < B10 ∧ B9 < lo' ∧ B10 < lo' ∧ lo' ≤ hi') (own' : OTm w1 base v' (l ++ [z])) (gr : (W1.alloc tmp).grownBy w1 v.ownBlock) (hat : v'.ownBlock = v.ownBlock ∨ v'.ownBlock = some (W1.alloc tmp).heap.size) :
    Boxed w1 Bx 33 v ∧ KeepsOthers W1 (w1.setCell ⟨Bx, 0, none⟩ v') ∧ Mid lo' hi' W1 (w1.setCell ⟨Bx, 0, none⟩ v') ∧ QI lo' hi' base Bx B3 B9 B10 r ch F G w5 W (l ++ [z]) (w1.setCell ⟨Bx, 0, none⟩ v') := by
  have hrow : ∀ b, v.ownBlock = some b → base ≤ b := fun b e => a2.lt b e
  have hne : ∀ b t u, Boxed W1 b t u → b ≠ Bx → v.ownBlock ≠ some b → Boxed (w1.setCell ⟨Bx, 0, none⟩ v') b t u := fun b t u hb h1 h2 => ((hb.alloc tmp).kept gr (fun e => h2 e.symm)).other h1 v'
  have hv1 : Boxed w1 Bx 33 v := (a1.alloc tmp).kept gr (a1.not_row (by decide) a2)
  have hrb : v.ownBlock ≠ some Bx := fun e => (a1.not_row (by decide) a2) e.symm
  have hm : Mid lo' hi' W1 (w1.setCell ⟨Bx, 0, none⟩ v') := ((Mid.later ((Below.refl _ W1).alloc (Nat.le_refl _) tmp)).trans (Mid.grown gr fun b e => by have := a3 b e; omega)).trans (Mid.set _ (by omega))
  have hb : Below W.heap.size W1 (w1.setCell ⟨Bx, 0, none⟩ v') := (((Below.refl W.heap.size W1).alloc a8.size tmp).grown gr (by have := a8.size; simp; omega) fun j ej => (by have := hrow j ej; omega)).setCell (p := ⟨Bx, 0, none⟩) (by show W.heap.size ≤ Bx; omega) v'
  refine ⟨hv1, ?_, hm, v', hv1.set v', World.ownsRow.kept own' (grownBy_setCell' w1 Bx v') (.inr (hv1.not_row (by decide) own').symm), fun b e => ?_, hne _ _ _ a4 (by omega) (fun e => by have := hrow _ e; omega), hne _ _ _ a4' (by omega) (fun e => by have := hrow _ e; omega), hne _ _ _ a5 (by omega) (fun e => by have := a3 _ e; omega), hne _ _ _ a6 (by omega) (fun e => by have := a3 _ e; omega), a7.trans hm, a8.trans hb, Nat.le_trans a9 hb.size⟩
  · refine ((KeepsOthers.alloc W1 tmp).trans (KeepsOthers.of_grownBy gr fun j o ej hj => ?_)).trans (KeepsOthers.setCell _ _ _)
    have a2' : OTm (W1.alloc tmp) base v l := a2.below (bal _ _)
    rcases a2'.2 with ⟨rfl, _⟩ | ⟨g, cap, cur, rfl, _, hgb, _⟩
    · simp [Value.ownBlock] at ej
    · obtain rfl : g = j := by simpa [Value.ownBlock] using ej
      rw [hgb] at hj; cases hj; rfl
  · rcases hat with h | h
    · exact a3 b (by rw [← h]; exact e)
    · rw [h, World.size_alloc] at e
      have := Option.some.inj e
      omega
/-- The places that go with these taps. -/
def pfl (nC : Nat) (c F : Int) (l : List (Int × Int)) : List Int := l.flatMap fun p => (List.range nC).map fun (j : Nat) => covW c p.2 (F + j)
theorem pfl_len (nC : Nat) (c F : Int) (l : List (Int × Int)) : (pfl nC c F l).length = l.length * nC := by
  induction l with
  | nil => simp [pfl]
  | cons x l ih => simp [pfl] at ih ⊢; rw [ih, Nat.add_mul]; omega
theorem pfl_snoc (nC : Nat) (c F : Int) (l : List (Int × Int)) (x : Int × Int) : pfl nC c F (l ++ [x]) = pfl nC c F l ++ (List.range nC).map fun (j : Nat) => covW c x.2 (F + j) := by simp [pfl]
theorem plA_at {k c ch h w kw t u : Int} {nC q j : Nat} (hk : k ≠ 1) (hn : (nC : Int) = chB k c ch - chF k ch) (hj : j < nC) : plA k c ch h w kw t u ((q * nC + j : Nat) : Int) = cov c (tpc h w kw t u (q : Int)) (chF k ch + (j : Int)) := by
  have e := spot_at (y := q) hj
  simp only [Prod.mk.injEq] at e
  obtain ⟨e1, e2⟩ := e
  unfold plA
  rw [if_neg hk]
  by_cases k2 : k = 2
  · rw [if_pos k2]
    have h1 : chF k ch = 0 := if_pos k2
    have h2 : chB k c ch = c := if_pos k2
    rw [h1, h2] at hn
    have hc : c = (nC : Int) := by omega
    rw [h1, hc, e1, e2, Int.zero_add]
  · rw [if_neg k2]
    have h1 : chF k ch = ch - 1 := if_neg k2
    have h2 : chB k c ch = ch := if_neg k2
    rw [h1, h2] at hn
    obtain rfl : nC = 1 := by omega
    obtain rfl : j = 0 := by omega
    rw [h1]
    simp
theorem plc_bd {h w y x : Int} (hh : 1 ≤ h ∧ h ≤ 1024) (hw : 1 ≤ w ∧ w ≤ 1024) (hm : h * w ≤ 16384) : -1 ≤ plc h w y x ∧ plc h w y x ≤ 16384 := by
  by_cases q : (0 ≤ y ∧ y < h) ∧ (0 ≤ x ∧ x < w)
  · rw [plc_in q]
    have := rowbd q.1.2 q.1.1 q.2.1 q.2.2
    omega
  · rw [plc_out q]; omega
/-- The places of all taps are those of the terms. -/
theorem pfl_tap {k c ch h w kw t u : Int} {nC : Nat} (hk : k ≠ 1) (hn : (nC : Int) = chB k c ch - chF k ch) (hF : 0 ≤ chF k ch) (hB : chB k c ch ≤ 1024) (hc : 1 ≤ c ∧ c ≤ 1024) (hh : 1 ≤ h ∧ h ≤ 1024) (hw : 1 ≤ w ∧ w ≤ 1024) (hm : h * w ≤ 16384) :
    ∀ N : Nat, pfl nC c (chF k ch) (tapL h w kw t u N) = plL k c ch h w kw t u (N * nC)
  | 0 => by simp [pfl, plL, tapL]
  | N + 1 => by
    rw [tapL_succ, pfl_snoc, pfl_tap hk hn hF hB hc hh hw hm N]
    have g : ∀ j, j ≤ nC → plL k c ch h w kw t u (N * nC + j) = plL k c ch h w kw t u (N * nC) ++ (List.range j).map fun (i : Nat) => covW c (tap h w kw t u N).2 (chF k ch + i) := by
      intro j
      induction j with
      | zero => intro _; simp
      | succ j ih =>
        intro hj
        rw [← Nat.add_assoc, plL_succ, ih (by omega), List.range_succ, List.map_append, ← List.append_assoc, plA_at hk hn (by omega)]
        rw [show (List.map (fun (i : Nat) => covW c (tap h w kw t u N).2 (chF k ch + i)) [j]) = [covW c (tap h w kw t u N).2 (chF k ch + j)] from rfl]
        rw [covW_eq (p := (tap h w kw t u N).2) (plc_bd hh hw hm) (by omega) hc]
        rfl
    rw [← g nC (Nat.le_refl _), Nat.add_mul, Nat.one_mul]
/-- The terms that go with these places. -/
def wz (f : Nat → Int) (l : List Int) : List (Int × Int) := l.mapIdx fun i z => (f i, z)
theorem wz_snoc (f : Nat → Int) (l : List Int) (z : Int) : wz f (l ++ [z]) = wz f l ++ [(f l.length, z)] := by simp [wz]
theorem wz_len (f : Nat → Int) (l : List Int) : (wz f l).length = l.length := by simp [wz]
theorem wz_plL (k c ch h w kw t u st : Int) (ws : List Int) : ∀ n : Nat, wz (fun i => wgA k ch st ws i) (plL k c ch h w kw t u n) = tmL k c ch h w kw t u st ws n
  | 0 => by simp [wz, plL, tmL]
  | n + 1 => by rw [plL_succ, wz_snoc, wz_plL k c ch h w kw t u st ws n, tmL_succ, plL_len]
set_option maxRecDepth 100000 in
set_option maxHeartbeats 8000000 in
theorem terms_w (k a b m kh kw sh sw tp lf bt rt : Int) (wa : Option Addr) (lw wc : Nat) (ba : Option Addr) (lb bc : Nat) (sm ss um us z p lo hi h w c H V C : Int) (r : Nat) (W : World) (hr : W.heap[r]? = some (.cells #[.int .i64 k, .int .i64 a, .int .i64 b, .int .i64 m, .int .i64 kh, .int .i64 kw, .int .i64 sh, .int .i64 sw, .int .i64 tp, .int .i64 lf, .int .i64 bt, .int .i64 rt, .slice wa lw wc, .slice ba lb bc, .int .i64 sm, .int .i64 ss, .int .i64 um, .int .i64 us, .int .i64 z, .int .i64 p, .int .i64 lo, .int .i64 hi, .int .i64 h, .int .i64 w, .int .i64 c, .int .i64 H, .int .i64 V, .int .i64 C] 66 (0, 0))) (ws : List Int) (hZ : IRow .i16 W wa lw wc ws) (s : Sit k kh kw sh sw tp lf bt rt h w c H V C lw lb) (k1 : k ≠ 1) (ch at' : Int) (hch : 1 ≤ ch ∧ ch ≤ C) (hat : 0 ≤ at' ∧ at' < H * V) (st : Nat) (hst : stR k kh kw h w c = (st : Int)) :
    Calls Try.prog 22 #[.pointer (some ⟨r, 0, none⟩), .int .i64 ch, .int .i64 at'] W fun e w' => (∃ v, e = .returned v ∧ OTm w' W.heap.size v (tmL k c ch h w kw (coR h w c kh kw sh sw tp lf bt rt at').1 (coR h w c kh kw sh sw tp lf bt rt at').2.1 st ws st)) ∧ Below W.heap.size W w' := by
  obtain ⟨i0, hi0, hz0, hz1, hz2⟩ := info_parts Try.infoT
  have hlen : st ≤ 512 := by have := s.2.2.2.2.2.2.2.2.2; rw [hst] at this; omega
  have hrz : r < W.heap.size := lt_of_heap hr
  have hbk : Hid (∀ w', Below W.heap.size W w' → w'.heap[r]? = some (.cells #[.int .i64 k, .int .i64 a, .int .i64 b, .int .i64 m, .int .i64 kh, .int .i64 kw, .int .i64 sh, .int .i64 sw, .int .i64 tp, .int .i64 lf, .int .i64 bt, .int .i64 rt, .slice wa lw wc, .slice ba lb bc, .int .i64 sm, .int .i64 ss, .int .i64 um, .int .i64 us, .int .i64 z, .int .i64 p, .int .i64 lo, .int .i64 hi, .int .i64 h, .int .i64 w, .int .i64 c, .int .i64 H, .int .i64 V, .int .i64 C] 66 (0, 0))) := fun w' hb => (hb.block r hrz).trans hr
  have hL : Hid (∀ w', Below W.heap.size W w' → Calls Try.prog 45 #[.pointer (some ⟨r, 0, none⟩)] w' fun e w'' => e = .returned (.int .i64 st) ∧ ∃ m, w'' = w'.drewN m) := fun w' hb => by rw [← hst]; exact tlen_any k a b m kh kw sh sw tp lf bt rt wa lw wc ba lb bc sm ss um us z p lo hi h w c H V C r w' (hbk.out w' hb) s
  have hWg : Hid (∀ (w' : World) (i : Nat), i < st → Below W.heap.size W w' → Calls Try.prog 46 #[.pointer (some ⟨r, 0, none⟩), .int .i64 ch, .int .i64 i] w' fun e w'' => e = .returned (.int .i64 (wgA k ch st ws i)) ∧ ∃ n, w'' = w'.drewN n) := fun w' i hj hb => by
    have := twei_any k a b m kh kw sh sw tp lf bt rt wa lw wc ba lb bc sm ss um us z p lo hi h w c H V C r w' (hbk.out w' hb) ws (hZ.below hb) s ch hch i (by rw [hst]; omega)
    rw [hst] at this
    exact this
  clear hZ
  obtain ⟨hk, hvA, hvB, hou, -, hwn, -, h3c, -⟩ := s
  have hC1 := (vS_yes hvB).2.2.1
  have hc1 := (vS_yes hvA).2.2.1
  have hd1 := (vS_yes hvA).1
  have hw1 := (vS_yes hvA).2.1
  obtain ⟨hk1, hk2⟩ := hwn (by omega)
  -- the channels
  have hF : 0 ≤ chF k ch := by unfold chF; split <;> omega
  have hB0 : chB k c ch ≤ 1024 := by unfold chB; split <;> omega
  have hFB : chF k ch < chB k c ch := by unfold chF chB; split <;> omega
  obtain ⟨nC, hnC⟩ : ∃ nC : Nat, (nC : Int) = chB k c ch - chF k ch := ⟨(chB k c ch - chF k ch).toNat, by omega⟩
  have hR : Hid (∀ w', Below W.heap.size W w' → Calls Try.prog 47 #[.pointer (some ⟨r, 0, none⟩), .int .i64 ch] w' fun e w'' => e = .returned (.tuple #[.int .i64 (chF k ch), .int .i64 (chB k c ch)]) ∧ ∃ m, w'' = w'.drewN m) := fun w' hb => tread_any k a b m kh kw sh sw tp lf bt rt wa lw wc ba lb bc sm ss um us z p lo hi h w c H V C r w' (hbk.out w' hb) ch (by omega)
  -- the taps
  rcases coR_cases h w c kh kw sh sw tp lf bt rt at' with ⟨e, he, h2⟩ | ⟨rr, qq, he, hf, hn, hcc⟩
  · exfalso
    unfold coR at he
    rw [hou (by omega)] at he
    simp only at he
    rw [if_pos trivial, if_pos hat] at he
    simp at he
    omega
  have hcor := cor_of hf hn
  have htp : tapsOf h w c kh kw sh sw tp lf bt rt at' = tapL h w kw (coR h w c kh kw sh sw tp lf bt rt at').1 (coR h w c kh kw sh sw tp lf bt rt at').2.1 (kh * kw).toNat := by rw [tapsOf_ok hcc, hcc]
  obtain ⟨t, ht⟩ : ∃ t, (coR h w c kh kw sh sw tp lf bt rt at').1 = t := ⟨_, rfl⟩
  obtain ⟨u, hu⟩ : ∃ u, (coR h w c kh kw sh sw tp lf bt rt at').2.1 = u := ⟨_, rfl⟩
  rw [ht, hu] at htp ⊢
  obtain ⟨N, hN⟩ : ∃ N : Nat, kh * kw = (N : Int) := ⟨(kh * kw).toNat, by have := (mul_bd hk1.1 hk1.2 hk2.1 hk2.2).1; omega⟩
  have hN2 : N ≤ 1024 := by have := (mul_bd hk1.1 hk1.2 hk2.1 hk2.2).2; omega
  have hstN : st = N * nC := by
    have e : stR k kh kw h w c = (N : Int) * nC := by
      unfold stR
      rw [if_neg k1, hN, hnC]
      by_cases k2 : k = 2
      · rw [if_pos k2, show chB k c ch = c from if_pos k2, show chF k ch = 0 from if_pos k2, Int.sub_zero]
      · rw [if_neg k2, if_pos (by omega), show chB k c ch = ch from if_neg k2, show chF k ch = ch - 1 from if_neg k2, show ch - (ch - 1) = 1 by omega, Int.mul_one]
    rw [hst] at e
    exact_mod_cast e
  have htl : wz (fun i => wgA k ch st ws i) (pfl nC c (chF k ch) (tapsOf h w c kh kw sh sw tp lf bt rt at')) = tmL k c ch h w kw t u st ws st := by
    rw [← wz_plL k c ch h w kw t u st ws st, htp, hN, Int.toNat_natCast]
    have := pfl_tap (k := k) (c := c) (ch := ch) (h := h) (w := w) (kw := kw) (t := t) (u := u) k1 hnC hF hB0 hc1 hd1 hw1 hcor.2.2.1 N
    rw [this, hstN]
  have hysl : (tapsOf h w c kh kw sh sw tp lf bt rt at').length * nC = st := by
    rw [htp, hN, Int.toNat_natCast, hstN]
    simp [tapL]
  have hnC2 : nC ≤ 1024 := by omega
  obtain ⟨ys, hys⟩ : ∃ ys, tapsOf h w c kh kw sh sw tp lf bt rt at' = ys := ⟨_, rfl⟩
  have HY : Hid (tapsOf h w c kh kw sh sw tp lf bt rt at' = ys) := hys
  have hyl : ys.length ≤ 1024 := by have := Nx.tapsOf_len h w c kh kw sh sw tp lf bt rt at'; rw [hys] at this; exact this
  rw [hys] at htl hysl
  rw [← htl]
  obtain ⟨wf, hwf⟩ : ∃ wf : Nat → Int, (fun i : Nat => wgA k ch st ws i) = wf := ⟨_, rfl⟩
  have hWf : ∀ i : Nat, wgA k ch st ws i = wf i := fun i => by rw [← hwf]
  simp only [hWf] at hWg ⊢
  obtain ⟨F, hFe⟩ : ∃ F, chF k ch = F := ⟨_, rfl⟩
  obtain ⟨G, hGe⟩ : ∃ G, chB k c ch = G := ⟨_, rfl⟩
  rw [hFe, hGe] at hR hnC hFB
  rw [hFe] at hF ⊢
  rw [hGe] at hB0
  have hPl : Hid (∀ (w' : World) (q d : Int), Below W.heap.size W w' → Calls Try.prog 49 #[.pointer (some ⟨r, 0, none⟩), .int .i64 q, .int .i64 d] w' fun e w'' => e = .returned (.int .i64 (covW c q d)) ∧ w'' = w') := fun w' q d hb => tplaceW_any k a b m kh kw sh sw tp lf bt rt wa lw wc ba lb bc sm ss um us z p lo hi h w c H V C r w' (hbk.out w' hb) q d
  have k1' : (k == 1) = false := by simp [k1]
  have hst5 : st ≤ 2000000 := by omega
  clear hst hvA hvB hou h3c he hf hn hcc hcor htp ht hu hN hN2 hstN htl hys hFe hGe hlen hwn hwf hWf
  have s0 := ((St.start W).new (c := #[.pointer (some ⟨r, 0, none⟩)]) (t := 102)).new (c := #[.int .i64 ch]) (t := 3)
  have hfn : ∀ f, Fence.wide.fn f := fun _ => trivial
  have hdp : Fence.wide.depth = none := rfl
  refine (callsIn_wide (n := 3)).1 ?_
  refine callsIn_of_wp_marks Try.func22 rfl trivial ?_ rfl
  simp only [Try.ntmps22, List.size_toArray, List.length_cons, List.length_nil, Nat.reduceAdd, Nat.reduceSub, Array.replicate_succ, Array.replicate_zero, List.push_toArray, List.append_toArray, List.nil_append, List.cons_append]
  refine wpIn_wide.2 ?_
  go_wp2_with fail
  refine (hL.out _ s0.below).mono ?_
  rintro e w1 ⟨rfl, m, rfl⟩
  have s1 := s0.call (dbel _ m)
  obtain ⟨w1, hw1⟩ : ∃ w1, ((W.alloc (.cells #[.pointer (some ⟨r, 0, none⟩)] 102)).alloc (.cells #[.int .i64 ch] 3)).drewN m = w1 := ⟨_, rfl⟩
  rw [hw1] at s1 ⊢
  have hz : W.heap.size + 1 + 1 = w1.heap.size := by rw [← hw1]; simp
  clear hw1
  simp only [World.size_alloc] at s1
  obtain ⟨c1, f1, z1, c2, f2, z2, -⟩ := s1.rules
  go_wp2_with (first
    | (at_make; refine wpList_make_own _ rfl _ _ 33 rfl w1.heap.size 53 i0 (.agg #[.int .i64 0, .int .i64 0]) 2 Try.underlying33 hi0 hz0 hz1 .i64 .i64 _ st rfl rfl rfl (by rw [hz2]; omega) (by unfold maxLen; omega) (by omega) ?_; intro w2 own2 gr2; have s2 := s1.call ((Below.refl w1.heap.size w1).grown gr2 (Nat.le_refl _) (fun b hb => by cases hb)); obtain ⟨c1', f1', z1', c2', f2', z2', -⟩ := s2.rules; have hq := (cells_at (hbk.out _ s2.below)).1; have zr := Nat.lt_of_lt_of_le hrz s2.below.size))
  refine (hR.out _ (s2.skip _).below).mono ?_
  rintro e w3 ⟨rfl, m', rfl⟩
  have s3 := ((s2.new (c := #[.slice (some ⟨w1.heap.size, 0, none⟩) 0 st]) (t := 33)).call (dbel _ m'))
  have o3 : OTm ((w2.alloc (.cells #[.slice (some ⟨w1.heap.size, 0, none⟩) 0 st] 33)).drewN m') w1.heap.size (.slice (some ⟨w1.heap.size, 0, none⟩) 0 st) [] := (OTm.below (show OTm w2 w1.heap.size (.slice (some ⟨w1.heap.size, 0, none⟩) 0 st) [] from own2) (bal _ _)).below (dbel _ m')
  obtain ⟨w3, hw3⟩ : ∃ w3, (w2.alloc (.cells #[.slice (some ⟨w1.heap.size, 0, none⟩) 0 st] 33)).drewN m' = w3 := ⟨_, rfl⟩
  rw [hw3] at s3 o3 ⊢
  have hz3 : w3.heap.size = w2.heap.size + 1 := by rw [← hw3]; simp
  have gz := gr2.size
  have hg12 : w1.heap.size < w2.heap.size := (World.ownsRow.lt own2 w1.heap.size rfl).2
  clear hw3 own2 gr2 c1 f1 c1' f1' c2 f2 c2' f2' hq z1 z1' z2 z2' s2 s1
  have s4 := (s3.new (c := #[.int .i64 F]) (t := 3)).new (c := #[.int .i64 G]) (t := 3)
  have o4 := (o3.below (bal _ (.cells #[.int .i64 F] 3))).below (bal _ (.cells #[.int .i64 G] 3))
  obtain ⟨c1, f1, z1, c2, f2, z2, c3, f3, z3, -⟩ := s3.rules
  go_upto_region 10 with fail
  simp only [World.size_alloc] at s4
  obtain ⟨w4, hw4⟩ : ∃ w4, (w3.alloc (.cells #[.int .i64 F] 3)).alloc (.cells #[.int .i64 G] 3) = w4 := ⟨_, rfl⟩
  rw [hw4] at s4 o4 ⊢
  have hz4 : w4.heap.size = w3.heap.size + 1 + 1 := by rw [← hw4]; simp
  clear hw4 c1 f1 c2 f2 c3 f3 z1 z2 z3 o3 s3
  have e2 := Wn.rule (s4.2 (W.heap.size, #[.pointer (some ⟨r, 0, none⟩)], 102) (by simp)).1
  have e3 := Wn.rule (hbk.out w4 s4.below)
  have hne : Nonempty (Wn w4) := ⟨Wn.mk w4 (Below.refl _ _)⟩
  refine (wpIn_wide (n := 3)).1 ?_
  refine region_tail_at 10 (C := fun w' => ∃ n : Wn w4, w' = n.w) rfl rfl (by kernel_rfl) (by kernel_rfl) ⟨Wn.mk _ (Below.refl _ _).drew, rfl⟩ ?_
  simp only [List.take_succ_cons, List.take_zero, List.drop_succ_cons, List.drop_zero]
  repeat (gi_big_quiet_step (fail))
  refine wpQuietIn_nil ?_
  rintro _ ⟨n, rfl⟩
  gi_wp2_with fail
  refine (callsIn_wide.2 (taps_any _ _ _ _ _ _ _ _ _ _ _ _ _)).mono ?_
  rintro e w5 ⟨⟨g, lb', rfl, hit⟩, hb5⟩
  rw [HY.out] at hit
  have s5 := (s4.call n.h).call hb5
  have o5 := (o4.below n.h).below hb5
  have hnz := n.h.size
  have hb5z := hb5.size
  gi_wp2
  obtain ⟨lo', hlo⟩ : ∃ x, n.w.heap.size = x := ⟨_, rfl⟩
  obtain ⟨hi', hhi⟩ : ∃ x, w5.heap.size = x := ⟨_, rfl⟩
  rw [hlo, hhi] at hit
  rw [hlo] at hnz
  rw [hlo, hhi] at hb5z
  obtain ⟨g', lb2, hv, heg, hseq⟩ := hit
  obtain ⟨rfl, rfl⟩ : g = g' ∧ lb' = lb2 := by simpa using hv
  have hbl : W.heap.size ≤ w1.heap.size ∧ w1.heap.size ≤ w2.heap.size ∧ W.heap.size + 1 < w1.heap.size ∧ w2.heap.size < w2.heap.size + 1 ∧ w2.heap.size < w2.heap.size + 1 + 1 ∧ w2.heap.size + 1 < lo' ∧ w2.heap.size + 1 + 1 < lo' ∧ lo' ≤ hi' := by omega
  have I0 : QI lo' hi' w1.heap.size w2.heap.size W.heap.size (w2.heap.size + 1) (w2.heap.size + 1 + 1) r ch F G w5 W (wz wf (pfl nC c F [])) w5 :=
    ⟨_, s5.h3, o5, fun b e => by simp [Value.ownBlock] at e; omega, (s5.2 (W.heap.size, #[.pointer (some ⟨r, 0, none⟩)], 102) (by simp)).1, s5.h4, by rw [← hz3]; exact s5.h2, by rw [← hz3]; exact s5.h1, Mid.refl _ _ _, s5.below, by omega⟩
  have HI0 : Hid (QI lo' hi' w1.heap.size w2.heap.size W.heap.size (w2.heap.size + 1) (w2.heap.size + 1 + 1) r ch F G w5 W (wz wf (pfl nC c F [])) w5) := I0
  clear s4 o4 s5 o5 e2 e3 hne I0 s0
  go_wp2
  refine (wpIn_wide (n := 3)).1 ?_
  refine wpIn_rangeFunc_ownG (F := Fence.wide) rfl (by omega) (gf := g) (lb := lb') rfl trivial heg (hseq w5 _ (Mid.refl _ _ _)) (fun h k => Mid.trans h k) (fun W l o o' _ h1 h2 _ => Mid.put W l o o' h1 h2) (Below.refl _ _) (fun _ => rfl)
    (fun (pre : List (Int × Int)) W' => QI lo' hi' w1.heap.size w2.heap.size W.heap.size (w2.heap.size + 1) (w2.heap.size + 1 + 1) r ch F G w5 W (wz wf (pfl nC c F pre)) W')
    (fun _ _ _ => False)
    (by rw [hhi]; exact fun pre W1 W2 row h k hr => h.turn k (by omega) hr)
    (fun _ _ _ _ _ hs _ _ => hs)
    HI0.out ?a₁ ?assign ?body ?done ?stop
  case assign =>
    intro l x W' K hK
    gi_wp2
    exact hK
  case stop =>
    rintro D c pre W' _ _ h _
    exact h.elim
  case done =>
    rintro D zs W' hD rfl ⟨v, a1, a2, a3, a4, a4', a5, a6, a7, a8, a9⟩ hK
    obtain ⟨a', cap, rfl⟩ := a2.slice
    have hc := a1.cell
    go_wp2
    refine ⟨by simp, .inl ⟨_, _, rfl, run_takeDeferred hK, ?_⟩⟩
    refine ⟨.slice a' (wz wf (pfl nC c F zs)).length cap, by simp [results, Try.f22, go_sem], ⟨_, rfl, ?_⟩, ?_⟩
    · exact OTm.base (ownsRow_putObj a2 _ hK rfl) (by omega)
    · exact a8.trans (belowK_b (w := W) (Nat.le_refl _) W' D _ _ (by omega) hK rfl rfl)
  case body =>
    rintro l pre x W' hQ hlt
    have Ha : Hid (QI lo' hi' w1.heap.size w2.heap.size W.heap.size (w2.heap.size + 1) (w2.heap.size + 1 + 1) r ch F G w5 W (wz wf (pfl nC c F pre)) W') := hQ
    have hc9 : Hid (Boxed W' (w2.heap.size + 1) 3 (.int .i64 F)) := by obtain ⟨v, a1, a2, a3, a4, a4', a5, -⟩ := hQ; exact a5
    have hc9' := hc9.out.cell
    have hLe : Hid (∀ j, (pfl nC c F pre ++ (List.range j).map fun (i : Nat) => covW c x.2 (F + i)).length = pre.length * nC + j) := fun j => by rw [List.length_append, pfl_len]; simp
    have hbs : Hid (∀ j, j < nC → pre.length * nC + j < st) := fun j hj => by
      have := Nat.mul_le_mul_right nC (show pre.length + 1 ≤ ys.length by omega)
      rw [Nat.add_mul, hysl] at this
      omega
    have hbd : Hid (pre.length * nC ≤ 1048576) := by unfold Hid; have := Nat.mul_le_mul (show pre.length ≤ 1024 by omega) hnC2; omega
    have hmx : Try.prog.follows .mixedOrders = true := by kernel_rfl
    clear hQ HI0
    gi_wp2
    gi_loopw [13] (fun i wr => ∃ j : Nat, j ≤ nC ∧ i = .int .i64 (F + j) ∧ QI lo' hi' w1.heap.size w2.heap.size W.heap.size (w2.heap.size + 1) (w2.heap.size + 1 + 1) r ch F G w5 W (wz wf (pfl nC c F pre ++ (List.range j).map fun (i : Nat) => covW c x.2 (F + i))) wr ∧ KeepsOthers W' wr ∧ Mid lo' hi' W' wr) (fun i _ => (G - intOf i).toNat)
    case atStart => exact ⟨0, Nat.zero_le _, by simp, by simpa using Ha.out, KeepsOthers.refl _, Mid.refl _ _ _⟩
    case round =>
      obtain ⟨j, hj, rfl, ⟨v, b1, b2, b3, b4, b4', b5, b6, b7, b8, b9⟩, hko, hmi⟩ := hrel
      obtain ⟨LL, hLL⟩ : ∃ LL, (pfl nC c F pre ++ (List.range j).map fun (i : Nat) => covW c x.2 (F + i)) = LL := ⟨_, rfl⟩
      have HLL : Hid ((pfl nC c F pre ++ (List.range j).map fun (i : Nat) => covW c x.2 (F + i)) = LL) := hLL
      have HLn : Hid ((wz wf LL).length + 1 ≤ 10000000) := by unfold Hid; rw [wz_len, ← hLL, hLe.out]; have := hbd.out; omega
      have HLs : Hid (j < nC → LL.length < st) := fun q => by rw [← hLL, hLe.out]; exact hbs.out j q
      rw [hLL] at b2
      clear hLL
      obtain ⟨a', cap, rfl⟩ := b2.slice
      rw [wz_len] at b1 b2 b3
      obtain ⟨nL, hnL⟩ : ∃ nL, LL.length = nL := ⟨_, rfl⟩
      rw [hnL] at b1 b2 b3 HLs
      have HnL : Hid (LL.length = nL) := hnL
      clear hc9 hc9' hnL
      have hc6' := b6.cell
      have b8z := b8.size
      by_cases hjn : j < nC
      · have HS : Hid ((List.range (j + 1)).map (fun (i : Nat) => covW c x.2 (F + i)) = (List.range j).map (fun (i : Nat) => covW c x.2 (F + i)) ++ [covW c x.2 (F + j)]) := by unfold Hid; rw [List.range_succ, List.map_append]; rfl
        have B1 : Hid (Boxed wr _ _ _) := b1
        have B2 : Hid (OTm wr _ _ _) := b2
        have B3 : Hid (∀ b, _ → _) := b3
        have B4 : Hid (Boxed wr _ _ _) := b4
        have B4' : Hid (Boxed wr _ _ _) := b4'
        have B5 : Hid (Boxed wr _ _ _) := b5
        have B6 : Hid (Boxed wr _ _ _) := b6
        have B7 : Hid (Mid _ _ _ _) := b7
        have B8 : Hid (Below _ _ _) := b8
        clear b1 b2 b3 b4 b4' b5 b6 b7 b8
        gi_wp2
        have hls := HLs.out hjn
        have hBz : w2.heap.size < wr.heap.size := by omega
        refine regionLM_round (Cl [4, 5, 9, 12] fun w' => Boxed w' w2.heap.size 33 (.slice a' nL cap) ∧ Boxed w' W.heap.size 102 (.pointer (some ⟨r, 0, none⟩)) ∧ Boxed w' (W.heap.size + 1) 3 (.int .i64 ch))
          (fun a0 a1 w' => ∃ (v' : Value) (g5 : Nat), a1 = ((((((((((((a0.put (some 64) (.slice a' nL cap)).put (some 65) (.pointer (some ⟨r, 0, none⟩))).put (some 66) (.int .i64 ch)).put (some 67) (.slice a' nL cap)).put (some 70) (.pointer (some ⟨r, 0, none⟩))).put (some 71) (.int .i64 x.2)).put (some 72) (.int .i64 (F + j))).put (some 68) (.int .i64 nL)).put (some 69) (.int .i64 (wf nL))).put (some 73) (.int .i64 (covW c x.2 (F + j)))).put (some 74) (.agg #[.int .i64 (wf nL), .int .i64 (covW c x.2 (F + j))])).put (some 75) (.slice (some ⟨g5, 0, none⟩) 1 1)).put (some 76) v' ∧ KeepsOthers W' w' ∧ Mid lo' hi' W' w' ∧ QI lo' hi' w1.heap.size w2.heap.size W.heap.size (w2.heap.size + 1) (w2.heap.size + 1 + 1) r ch F G w5 W (wz wf LL ++ [(wf nL, covW c x.2 (F + j))]) w') (by kernel_rfl) hmx ?_ ?_
        rotate_left
        · rintro _ w7 ⟨v', g5, rfl, r1, r2, r3⟩
          have R1 : Hid (KeepsOthers W' w7) := r1
          have R2 : Hid (Mid lo' hi' W' w7) := r2
          have R3 : Hid (QI lo' hi' w1.heap.size w2.heap.size W.heap.size (w2.heap.size + 1) (w2.heap.size + 1 + 1) r ch F G w5 W (wz wf LL ++ [(wf nL, covW c x.2 (F + j))]) w7) := r3
          clear r1 r2 r3 B1 B2 B3 B4 B4' B5 B6 B7 B8 hko hmi hc6'
          gi_wp2
          go_roundw
          case rel => exact ⟨j + 1, by omega, by go_num, by rw [HS.out, ← List.append_assoc, HLL.out, wz_snoc, HnL.out]; exact R3.out, R1.out, R2.out⟩
          case measure => simp [intOf]; omega
        obtain ⟨wd, hwd⟩ : ∃ wd, wr.drew = wd := ⟨_, rfl⟩
        have hdd : Below wr.heap.size wr wd := by rw [← hwd]; exact (Below.refl _ _).drew
        have hkd : KeepsOthers W' wd := by rw [← hwd]; exact hko.trans (KeepsOthers.drew wr)
        rw [hwd]
        have hBd : Hid (∀ w', Below wr.heap.size wr w' → Boxed w' w2.heap.size 33 (.slice a' nL cap) ∧ Boxed w' W.heap.size 102 (.pointer (some ⟨r, 0, none⟩)) ∧ Boxed w' (W.heap.size + 1) 3 (.int .i64 ch)) := fun w' hb' => ⟨boxed_below B1.out hb', boxed_below B4.out hb', boxed_below B4'.out hb'⟩
        clear hwd hc6'
        refine takeG 0 12 (v := .slice a' nL cap) rfl rfl (by kernel_rfl) (by kernel_rfl) (by kernel_rfl) (by kernel_rfl) (by kernel_rfl) rfl rfl (fun _ _ _ h => h) (fun _ => rfl) rfl (fun w' hw' => by have := hw'.1.cell; go_simp) ?_
        refine takeG 1 5 (v := .pointer (some ⟨r, 0, none⟩)) rfl rfl (by kernel_rfl) (by kernel_rfl) (by kernel_rfl) (by kernel_rfl) (by kernel_rfl) rfl rfl (fun _ _ _ h => h) (fun _ => rfl) rfl (fun w' hw' => by have := hw'.2.1.cell; go_simp) ?_
        refine takeG 2 5 (v := .int .i64 ch) rfl rfl (by kernel_rfl) (by kernel_rfl) (by kernel_rfl) (by kernel_rfl) (by kernel_rfl) rfl rfl (fun _ _ _ h => h) (fun _ => rfl) rfl (fun w' hw' => by have := hw'.2.2.cell; go_simp) ?_
        refine takeG 3 4 (v := .slice a' nL cap) rfl rfl (by kernel_rfl) (by kernel_rfl) (by kernel_rfl) (by kernel_rfl) (by kernel_rfl) rfl rfl (fun _ _ _ h => h) (fun _ => rfl) rfl (fun w' hw' => by have := hw'.1.cell; go_simp) ?_
        refine takeG 6 9 (v := .pointer (some ⟨r, 0, none⟩)) rfl rfl (by kernel_rfl) (by kernel_rfl) (by kernel_rfl) (by kernel_rfl) (by kernel_rfl) rfl rfl (fun _ _ _ h => h) (fun _ => rfl) rfl (fun w' hw' => by have := hw'.2.1.cell; go_simp) ?_
        refine takeG 7 9 (v := .int .i64 x.2) rfl rfl (by kernel_rfl) (by kernel_rfl) (by kernel_rfl) (by kernel_rfl) (by kernel_rfl) rfl rfl (fun _ _ _ h => h) (fun _ => rfl) rfl (fun w' hw' => by go_simp) ?_
        refine takeG 8 9 (v := .int .i64 (F + j)) rfl rfl (by kernel_rfl) (by kernel_rfl) (by kernel_rfl) (by kernel_rfl) (by kernel_rfl) rfl rfl (fun _ _ _ h => h) (fun _ => rfl) rfl (fun w' hw' => by go_simp) ?_
        refine lR 4 (Cl.of (hBd.out wd hdd)) (by kernel_rfl) rfl rfl (.int .i64 nL) wd (by go_simp) ?_
        refine lK 5 (Cl.of (hBd.out wd hdd)) (by kernel_rfl) rfl rfl 46 #[.pointer (some ⟨r, 0, none⟩), .int .i64 ch, .int .i64 nL] (by kernel_rfl) (hWg.out wd nL hls (B8.out.trans (hdd.mono b8z))) ?_
        rintro e w6 ⟨rfl, n6, hw6⟩
        refine ⟨_, rfl, ?_⟩
        have hd6 : Below wd.heap.size wd w6 := by rw [hw6]; exact dbel _ _
        have hk6 : KeepsOthers W' w6 := by rw [hw6]; exact hkd.trans (show KeepsOthers wd (wd.drewN n6) from ⟨Nat.le_refl _, fun _ _ h _ => h⟩)
        have h6 : Below wr.heap.size wr w6 := hdd.trans (hd6.mono hdd.size)
        clear hw6 hkd
        refine lK 9 (Cl.of (hBd.out w6 h6)) (by kernel_rfl) rfl rfl 49 #[.pointer (some ⟨r, 0, none⟩), .int .i64 x.2, .int .i64 (F + j)] (by kernel_rfl) (hPl.out w6 x.2 (F + j) (B8.out.trans (h6.mono b8z))) ?_
        rintro e w6' ⟨rfl, hw6'⟩
        subst hw6'
        refine ⟨_, rfl, ?_⟩
        have hB6 := hBd.out _ h6
        refine lR 10 (Cl.of hB6) (by kernel_rfl) rfl rfl (.agg #[.int .i64 (wf nL), .int .i64 (covW c x.2 (F + j))]) w6' (by go_simp) ?_
        refine lR 11 (Cl.of hB6) (by kernel_rfl) rfl rfl (.slice (some ⟨w6'.heap.size, 0, none⟩) 1 1) (w6'.alloc (.cells #[.int .i64 (wf nL), .int .i64 (covW c x.2 (F + j))] 53)) (by go_simp) ?_
        have hO6 := B2.out.below h6
        refine lA 12 (Cl.of (hBd.out _ (h6.trans ((bal w6' _).mono h6.size)))) (by kernel_rfl) rfl rfl (.tmp 64) (.tmp 75) rfl w1.heap.size (.slice a' nL cap) (wz wf LL) (by kernel_rfl) (hO6.below (bal _ _)) w6'.heap.size (wf nL) (covW c x.2 (F + j)) (by kernel_rfl) (term_one w6' _ _) HLn.out (by have := h6.size; simp; omega) ?_
        intro v' w8 own' gr' hat'
        obtain ⟨a8, cap8, rfl⟩ := own'.slice
        obtain ⟨n8, hn8⟩ : ∃ n, (wz wf LL ++ [(wf nL, covW c x.2 (F + j))]).length = n := ⟨_, rfl⟩
        rw [hn8] at own' hat' ⊢
        obtain ⟨q1, q2, q3, q4⟩ := QI.app (W1 := w6') hB6.1 hO6 B3.out hB6.2.1 hB6.2.2 (boxed_below B5.out h6) (boxed_below B6.out h6) (B7.out.trans (Mid.later h6)) (B8.out.trans (h6.mono b8z)) (Nat.le_trans b9 h6.size) hbl own' gr' hat'
        have hc7 := q1.cell
        have hf7 := q1.frozen
        refine lT 13 (Cl.all (by kernel_rfl)) (by kernel_rfl) rfl rfl (w8.setCell ⟨w2.heap.size, 0, none⟩ (.slice a8 n8 cap8)) (by go_simp) ?_
        refine doneL (Cl.all (by kernel_rfl)) (by kernel_rfl) ?_ _
        exact ⟨.slice a8 n8 cap8, w6'.heap.size, by kernel_rfl, hk6.trans q2, (hmi.trans (Mid.later h6)).trans q3, q4⟩
      · obtain rfl : j = nC := by omega
        clear HLs
        gi_wp2
        exact ⟨hko.from _, hmi, by show QI lo' hi' w1.heap.size w2.heap.size W.heap.size (w2.heap.size + 1) (w2.heap.size + 1 + 1) r ch F G w5 W (wz wf (pfl j c F (pre ++ [x]))) wr; rw [pfl_snoc, HLL.out]; exact ⟨_, b1, b2, b3, b4, b4', b5, b6, b7, b8, b9⟩⟩
end Go.Proofs.Ytbogpgaifbjahaa

/- Check, Shapes and Work of package model: what each answers. -/
namespace Go.Proofs.Ytbogpgaifbjahaa
open Go.ChangeShapes Go.WideShapes Go.ChangeAt Go.RowKit
set_option linter.unusedVariables false
theorem Shp.slice {w : World} {base : Nat} {v : Value} {L : List (Int × Int × Int)} (h : Shp w base v L) : ∃ a cap, v = .slice a L.length cap := by
  rcases h with ⟨rfl, rfl⟩ | ⟨g, cap, cur, rfl, -⟩
  · exact ⟨_, _, rfl⟩
  · exact ⟨_, _, rfl⟩
theorem Shp.below {w w' : World} {base : Nat} {v : Value} {L : List (Int × Int × Int)} (h : Shp w base v L) (q : Below w.heap.size w w') : Shp w' base v L := by
  rcases h with h | ⟨g, cap, cur, h1, h2, h3, h4⟩
  · exact .inl h
  · exact .inr ⟨g, cap, cur, h1, h2, (q.block _ (lt_of_heap h3)).trans h3, h4⟩
theorem Shp.base {w : World} {b c : Nat} {v : Value} {L : List (Int × Int × Int)} (h : Shp w b v L) (q : c ≤ b) : Shp w c v L := by
  rcases h with h | ⟨g, cap, cur, h1, h2, h3⟩
  · exact .inl h
  · exact .inr ⟨g, cap, cur, h1, by omega, h3⟩
theorem Shp.set3 {w : World} {N : Nat} {v a b c : Value} {L : List (Int × Int × Int)} (h : Shp w (N + 1) v L) : Shp (((w.setCell ⟨N, 0, none⟩ a).setCell ⟨N, 1, none⟩ b).setCell ⟨N, 2, none⟩ c) N v L := by
  rcases h with h | ⟨g, cap, cur, h1, h2, h3, h4⟩
  · exact .inl h
  · refine .inr ⟨g, cap, cur, h1, by omega, ?_, h4⟩
    rw [Below.heap_setCell _ _ _ _ (show g ≠ N by omega), Below.heap_setCell _ _ _ _ (show g ≠ N by omega), Below.heap_setCell _ _ _ _ (show g ≠ N by omega)]
    exact h3
set_option maxHeartbeats 1000000 in
theorem shapes_any (h w c lo hi ot : Int) (oa : Option Addr) (on oc : Nat) (O : Nat → Nat → Int) (W : World) (hM : MRow W oa on oc O) :
    Calls Try.prog 37 #[.agg #[.int .i64 h, .int .i64 w, .int .i64 c, .int .i64 lo, .int .i64 hi, .slice oa on oc, .int .i64 ot]] W fun e w' => ∃ v, e = .returned (.tuple #[v, .agg #[.int .i64 (gtR O h w c lo hi ot on).1, .int .i64 (gtR O h w c lo hi ot on).2.1, .int .i64 0]]) ∧ Shp w' W.heap.size v (gtR O h w c lo hi ot on).2.2.1 ∧ Below W.heap.size W w' := by
  have hG : Hid (∀ W, MRow W oa on oc O → _) := fun W hW => gothrough_any h w c lo hi ot oa on oc O W hW
  obtain ⟨Re, Ra, RL, Rw, hR⟩ : ∃ Re Ra RL Rw, gtR O h w c lo hi ot on = (Re, Ra, RL, Rw) := ⟨_, _, _, _, rfl⟩
  rw [hR] at hG ⊢
  simp only
  have hM2 : Hid (MRow W oa on oc O) := hM
  clear hR hM
  go_enter Try.func37, Try.ntmps37
  go_wp2_with fail
  refine Calls.mono (hG.out _ (hM2.out.below (St.start W).new.new.below)) ?_
  rintro e w1 ⟨v, rfl, hS, hb⟩
  obtain ⟨va, vc, rfl⟩ := hS.slice
  have s1 := ((St.start W).new.new).call hb
  simp only [World.size_alloc] at s1
  obtain ⟨c1, f1, z1, c2, f2, z2, -⟩ := s1.rules
  have hS2 : Hid (Shp w1 W.heap.size (.slice va RL.length vc) RL) := hS.base (by simp; omega)
  have hs1 : Hid (Below W.heap.size W w1) := s1.below
  have hlt : Hid (∀ g, W.heap.size + 1 + 1 ≤ g → g ≠ W.heap.size + 1) := fun g hg => by omega
  have hS3 : Hid (Shp w1 (W.heap.size + 1 + 1) (.slice va RL.length vc) RL) := by unfold Hid; simpa using hS
  clear hb hS s1
  go_wp2
  go_region_law (fail)
  all_goals
    go_wp2
    exact bodyPost_ret (v := .tuple #[.slice va RL.length vc, .agg #[.int .i64 Re, .int .i64 Ra, .int .i64 0]]) (by simp [results, Try.results37, go_sem, *]) rfl ⟨_, rfl, (by first | exact ((hS3.out.set3).below (bt (bal _ _) (bal _ _))).base (by omega) | exact ((hS3.out.set3).below (bt (bt (bal _ _) (bal _ _)) (Below.refl _ _).drew)).base (by omega)), (by first | exact al2b (set3b hs1.out (by omega)) _ _ | exact (al2b (set3b hs1.out (by omega)) _ _).drew)⟩
end Go.Proofs.Ytbogpgaifbjahaa
