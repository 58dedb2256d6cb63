/- Fronts of models in plain numbers; what is known of each op of a well-formed model; ops that came in. Sums of ops that reduce, in plain numbers: their terms, their bias, and what is known of such an op of a well-formed model. The document's size of a number, and a size with a sign: for every argument that fits its type. Quotients rounded half away from zero, as plain numbers. What the inner functions of package fixq, Shift, Mean and Finish return: each for every argument that fits its type. What Valid and Apply of package fixq return: each for every argument that fits its type. What an op makes of its tensors, in plain numbers; what is known of each op of a well-formed model; an op alone. What the small functions of package plain return: places, isInput, widened, scaled, means, added. What the small functions of package kern return: places, widened, scaled, means, added (made by tools/gen/Kr.py). What the small functions of package terms return: how many terms, channels and positions an op has; its bias; a weight; the channels that are read; a place. The iterator of Taps: called with whatever round, it gives each tap in its order, till it is told to stop. The iterator of Positions: called with whatever round, it gives each position's row and column in their order, till it is told to stop. -/
import Derived.Test.YtehofmkpgopmpaaGr01
import Derived.Test.YtehofmkpgopmpaaGr02
import Derived.Test.YtehofmkpgopmpaaGr11
import Derived.BigQuiet
import Derived.Below
import Derived.WalkSmall
import Derived.LoopN
import Derived.Deep.DeepCutAuto
import Derived.RangeFuncNested
import Derived.RangeFuncBound
import Derived.RangeFuncCalls
import Derived.RangeFuncLeaves
import Derived.Shelf.Abstract
import Derived.Shelf.RegionOpen
import Derived.WalkKit
import Derived.OwnWalkIn
import Derived.TacticsInMore
import Derived.LoopNIn
import Derived.LoopIn
/- Fronts of models in plain numbers; what is known of each op of a well-formed model; ops that came in. -/
namespace Go.Proofs.Ytehofmkpgopmpaa
open Go.ChangeShapes Go.WideShapes Go.ChangeAt Go.RowKit
set_option linter.unusedVariables false
theorem stG_step {O : Nat → Nat → Int} {s0 : Int × Int × Int} {n : Nat} {L : List (Int × Int × Int)} {wk : Int} (h : stG O s0 (n + 1) = (0, 0, L, wk)) :
    ∃ L0 wk0, stG O s0 n = (0, 0, L0, wk0) ∧ oT (O n) L0 wk0 = 0 ∧ L = L0 ++ [oM (O n) L0] ∧ wk = wk0 + oW (O n) L0 := by
  obtain ⟨e, t, L0, wk0, h0⟩ : ∃ e t L0 wk0, stG O s0 n = (e, t, L0, wk0) := ⟨_, _, _, _, rfl⟩
  by_cases he : e = 0
  · have ht : t = 0 := stG_at0 h0 he
    subst he ht
    by_cases hx : oT (O n) L0 wk0 = 0
    · rw [stG_ok h0 hx] at h
      simp only [Prod.mk.injEq, true_and] at h
      exact ⟨L0, wk0, h0, hx, h.1.symm, h.2.symm⟩
    · rw [stG_err h0 rfl hx] at h
      simp only [Prod.mk.injEq] at h
      exact absurd h.1 hx
  · have := stG_bad (O := O) (s0 := s0) (i := n) (by rw [h0]; exact he) 1
    rw [h, h0] at this
    simp only [Prod.mk.injEq] at this
    exact absurd this.1.symm he
theorem stG_pre {O : Nat → Nat → Int} {s0 : Int × Int × Int} (hs : vS3 s0 = true) : ∀ (n : Nat) (L : List (Int × Int × Int)) (wk : Int), stG O s0 n = (0, 0, L, wk) → ∀ i, i ≤ n → ∃ wi, stG O s0 i = (0, 0, L.take (i + 1), wi) ∧ 0 ≤ wi ∧ wi ≤ wk
  | 0, L, wk, h, i, hi => by
    obtain rfl : i = 0 := by omega
    obtain ⟨h1, -, h3, -⟩ := stG_inv hs 0 L wk h
    exact ⟨wk, by rw [List.take_of_length_le (by omega)]; exact h, h3, Int.le_refl _⟩
  | n + 1, L, wk, h, i, hi => by
    obtain ⟨h1, -, h3, -⟩ := stG_inv hs (n + 1) L wk h
    by_cases e : i = n + 1
    · subst e
      exact ⟨wk, by rw [List.take_of_length_le (by omega)]; exact h, h3, Int.le_refl _⟩
    · obtain ⟨L0, wk0, h0, hx, hL, hw⟩ := stG_step h
      obtain ⟨i1, i2, i3, i4⟩ := stG_inv hs n L0 wk0 h0
      obtain ⟨wi, g1, g2, g3⟩ := stG_pre hs n L0 wk0 h0 i (by omega)
      obtain ⟨-, t2, -, -⟩ := tk_0 hx i2
      have t2' : 0 ≤ oW (O n) L0 := t2
      refine ⟨wi, ?_, g2, by omega⟩
      rw [g1, hL, List.take_append_of_le_length (by omega)]
theorem stG_fault {O : Nat → Nat → Int} {s0 : Int × Int × Int} : ∀ (n : Nat) (e t : Int) (L : List (Int × Int × Int)) (wk : Int), stG O s0 n = (e, t, L, wk) → e ≠ 0 → L = [] ∧ wk = 0 ∧ ∃ j, j < n ∧ t = (j : Int) + 1 ∧ ∃ L' wk', stG O s0 j = (0, 0, L', wk')
  | 0, e, t, L, wk, h, he => by
    unfold stG at h
    simp only [Prod.mk.injEq] at h
    exact absurd h.1.symm he
  | n + 1, e, t, L, wk, h, he => by
    obtain ⟨e0, t0, L0, wk0, h0⟩ : ∃ e t L0 wk0, stG O s0 n = (e, t, L0, wk0) := ⟨_, _, _, _, rfl⟩
    by_cases hb : e0 = 0
    · have ht : t0 = 0 := stG_at0 h0 hb
      subst hb ht
      by_cases hx : oT (O n) L0 wk0 = 0
      · rw [stG_ok h0 hx] at h
        simp only [Prod.mk.injEq] at h
        exact absurd h.1.symm he
      · rw [stG_err h0 rfl hx] at h
        simp only [Prod.mk.injEq] at h
        exact ⟨h.2.2.1.symm, h.2.2.2.symm, n, by omega, h.2.1.symm, L0, wk0, h0⟩
    · have := stG_bad (O := O) (s0 := s0) (i := n) (by rw [h0]; exact hb) 1
      rw [h, h0] at this
      simp only [Prod.mk.injEq] at this
      obtain ⟨rfl, rfl, rfl, rfl⟩ := this
      obtain ⟨a1, a2, j, a3, a4⟩ := stG_fault n e t L wk h0 he
      exact ⟨a1, a2, j, by omega, a4⟩
theorem ouE_front {h w c lo hi ot : Int} {on j : Nat} (q : ouE h w c lo hi ot on = 0) (hj : j ≤ on) : ouE h w c lo hi (j : Int) j = 0 := by
  obtain ⟨a1, a2, a3, -, -⟩ := ouE_0 q
  unfold ouE
  rw [if_neg (by rw [a1]; decide), if_neg (by rw [a2]; decide), if_neg (by omega), if_neg (by omega)]
theorem gtR_of {O : Nat → Nat → Int} {h w c lo hi ot : Int} {on : Nat} (q : ouE h w c lo hi ot on = 0) : gtR O h w c lo hi ot on = stG O (h, w, c) on := by unfold gtR; rw [q, if_neg (by decide)]
/-- A model that isn't well-formed. -/
theorem gtR_err {O : Nat → Nat → Int} {h w c lo hi ot e t wk : Int} {on : Nat} {L : List (Int × Int × Int)} (q : gtR O h w c lo hi ot on = (e, t, L, wk)) (he : e ≠ 0) :
    L = [] ∧ wk = 0 ∧ (t = 0 ∨ ∃ j : Nat, j < on ∧ on ≤ 64 ∧ t = (j : Int) + 1 ∧ ∃ L' wk', gtR O h w c lo hi (j : Int) j = (0, 0, L', wk')) := by
  by_cases hx : ouE h w c lo hi ot on = 0
  · rw [gtR_of hx] at q
    obtain ⟨a1, a2, j, a3, a4, L', wk', a5⟩ := stG_fault on e t L wk q he
    exact ⟨a1, a2, .inr ⟨j, a3, (ouE_0 hx).2.2.1, a4, L', wk', by rw [gtR_of (ouE_front hx (by omega))]; exact a5⟩⟩
  · unfold gtR at q
    rw [if_pos hx] at q
    simp only [Prod.mk.injEq] at q
    exact ⟨q.2.2.1.symm, q.2.2.2.symm, .inl q.2.1.symm⟩
theorem gtR_st {O : Nat → Nat → Int} {h w c lo hi ot t wk : Int} {on : Nat} {L : List (Int × Int × Int)} (q : gtR O h w c lo hi ot on = (0, t, L, wk)) : ouE h w c lo hi ot on = 0 ∧ t = 0 ∧ stG O (h, w, c) on = (0, 0, L, wk) := by
  by_cases hx : ouE h w c lo hi ot on = 0
  · rw [gtR_of hx] at q
    have ht := stG_at0 q rfl
    subst ht
    exact ⟨hx, rfl, q⟩
  · unfold gtR at q
    rw [if_pos hx] at q
    simp only [Prod.mk.injEq] at q
    exact absurd q.1 hx
/-- A well-formed model, and its fronts. -/
theorem gtR_ok {O : Nat → Nat → Int} {h w c lo hi ot t wk : Int} {on : Nat} {L : List (Int × Int × Int)} (q : gtR O h w c lo hi ot on = (0, t, L, wk)) :
    t = 0 ∧ L.length = on + 1 ∧ on ≤ 64 ∧ 0 ≤ wk ∧ wk ≤ 131072 ∧ ∀ k : Nat, k ≤ on → ∃ wi, gtR O h w c lo hi (k : Int) k = (0, 0, L.take (k + 1), wi) ∧ 0 ≤ wi ∧ wi ≤ wk := by
  obtain ⟨hx, rfl, q2⟩ := gtR_st q
  clear q
  have q := q2
  have hv : vS3 (h, w, c) = true := (ouE_0 hx).1
  obtain ⟨h1, -, h3, h4⟩ := stG_inv hv on L wk q
  refine ⟨rfl, h1, (ouE_0 hx).2.2.1, h3, h4, fun k hk => ?_⟩
  obtain ⟨wi, g1, g2⟩ := stG_pre hv on L wk q k hk
  exact ⟨wi, by rw [gtR_of (ouE_front hx hk)]; exact g1, g2⟩
theorem mkE_parts {k m kh kw sh sw tp lf bt rt h w c : Int} (hx : mkE k m kh kw sh sw tp lf bt rt h w c = 0) : mkW k kh kw sh sw tp lf bt rt h w c = 0 := by
  unfold mkE at hx
  by_cases hM : mkM k m = false
  · rw [if_pos hM] at hx; cases hx
  · rw [if_neg hM] at hx
    by_cases hw : mkW k kh kw sh sw tp lf bt rt h w c ≠ 0
    · rw [if_pos hw] at hx; exact absurd hx hw
    · exact Decidable.not_not.1 hw
/-- What is known of one op's shapes: A's and its own. -/
def OpFit (k kh kw sh sw tp lf bt rt : Int) (A B : Int × Int × Int) : Prop :=
  vS B.1 B.2.1 B.2.2 = true ∧ (2 ≤ k ∧ k ≤ 5 → ouR A.1 A.2.1 A.2.2 kh kw sh sw tp lf bt rt = (B.1, B.2.1, 0) ∧ (k ≠ 2 → B.2.2 = A.2.2)) ∧ (6 ≤ k → B = A)
theorem fit_of {k m kh kw sh sw tp lf bt rt : Int} {A : Int × Int × Int} (hx : mkE k m kh kw sh sw tp lf bt rt A.1 A.2.1 A.2.2 = 0) (hv : vS3 (mk3 k m kh kw sh sw tp lf bt rt A) = true) : OpFit k kh kw sh sw tp lf bt rt A (mk3 k m kh kw sh sw tp lf bt rt A) := by
  refine ⟨hv, fun hk => ?_, fun hk => ?_⟩
  · have hw := mkE_parts hx
    unfold mkW at hw
    rw [if_pos hk] at hw
    obtain ⟨r, q, e, ho⟩ : ∃ r q e, ouR A.1 A.2.1 A.2.2 kh kw sh sw tp lf bt rt = (r, q, e) := ⟨_, _, _, rfl⟩
    rw [ho] at hw
    simp only at hw
    subst hw
    by_cases k2 : k = 2
    · have hm : mk3 k m kh kw sh sw tp lf bt rt A = (r, q, m) := by unfold mk3 mkS; rw [if_neg (by omega), if_pos k2, ho]
      rw [hm]
      exact ⟨ho, fun h => absurd k2 h⟩
    · have hm : mk3 k m kh kw sh sw tp lf bt rt A = (r, q, A.2.2) := by unfold mk3 mkS; rw [if_neg (by omega), if_neg k2, if_pos (by omega), ho]
      rw [hm]
      exact ⟨ho, fun _ => rfl⟩
  · unfold mk3 mkS
    rw [if_neg (by omega), if_neg (by omega), if_neg (by omega)]
theorem ShA_take {L : List (Int × Int × Int)} {i n : Nat} (h : i < n) : ShA (L.take n) (i : Int) = ShA L (i : Int) := by
  unfold ShA
  rw [Int.toNat_natCast]
  simp [List.getD, h]
/-- Each op of a well-formed model. -/
theorem gtR_at {O : Nat → Nat → Int} {h w c lo hi ot t wk : Int} {on : Nat} {L : List (Int × Int × Int)} (q : gtR O h w c lo hi ot on = (0, t, L, wk)) :
    ShA L ((0 : Nat) : Int) = (h, w, c) ∧ ∀ i, i < on → ∃ j : Nat, O i 1 = (j : Int) ∧ j ≤ i ∧ OpFit (O i 0) (O i 4) (O i 5) (O i 6) (O i 7) (O i 8) (O i 9) (O i 10) (O i 11) (ShA L (j : Int)) (ShA L ((i + 1 : Nat) : Int)) := by
  obtain ⟨hx, rfl, q2⟩ := gtR_st q
  clear q
  have q := q2
  have hv : vS3 (h, w, c) = true := (ouE_0 hx).1
  refine ⟨?_, fun i hi => ?_⟩
  · obtain ⟨wi, g1, -⟩ := stG_pre hv on L wk q 0 (by omega)
    unfold stG at g1
    simp only [Prod.mk.injEq, true_and] at g1
    rw [← ShA_take (n := 0 + 1) (by omega), ← g1.1]
    rfl
  · obtain ⟨wi, g1, -⟩ := stG_pre hv on L wk q (i + 1) (by omega)
    obtain ⟨L0, wk0, h0, hx0, hL, -⟩ := stG_step g1
    obtain ⟨w2, g2, -⟩ := stG_pre hv on L wk q i (by omega)
    rw [g2] at h0
    simp only [Prod.mk.injEq, true_and] at h0
    obtain ⟨rfl, rfl⟩ := h0
    obtain ⟨i1, i2, -⟩ := stG_inv hv i _ _ g2
    obtain ⟨t1, -, -, ⟨a0, a1⟩, -, t6⟩ := tk_0 hx0 i2
    obtain ⟨j, hj⟩ := Int.eq_ofNat_of_zero_le a0
    rw [hj] at a1 t1 t6
    refine ⟨j, hj, by omega, ?_⟩
    have e1 : ShA (L.take (i + 1)) (j : Int) = ShA L (j : Int) := ShA_take (by omega)
    have e2 : ShA L ((i + 1 : Nat) : Int) = mk3 (O i 0) (O i 3) (O i 4) (O i 5) (O i 6) (O i 7) (O i 8) (O i 9) (O i 10) (O i 11) (ShA L (j : Int)) := by
      rw [← ShA_take (n := i + 1 + 1) (by omega), hL]
      unfold ShA at e1 ⊢
      rw [Int.toNat_natCast]
      simp only [List.getD]
      rw [List.getElem?_append_right (by omega), i1, Nat.sub_self]
      unfold oM ShA
      rw [hj, Int.toNat_natCast]
      rw [Int.toNat_natCast] at e1
      simp only [List.getElem?_cons_zero, Option.getD_some]
      rw [e1]
      rfl
    rw [e1] at t1 t6
    rw [e2]
    exact fit_of t6 t1
/-! ### Ops that came in -/
def OpIn (w : World) (cs : List Value) : Prop :=
  ∃ (b0 : Int) (b1 : Int) (b2 : Int) (b3 : Int) (b4 : Int) (b5 : Int) (b6 : Int) (b7 : Int) (b8 : Int) (b9 : Int) (b10 : Int) (b11 : Int) (b12 : Option Addr) (l12 c12 : Nat) (z12 : List Int) (b13 : Option Addr) (l13 c13 : Nat) (z13 : List Int) (b14 : Int) (b15 : Int) (b16 : Int) (b17 : Int) (b18 : Int) (b19 : Int) (b20 : Int) (b21 : Int), cs = [.int .i64 b0, .int .i64 b1, .int .i64 b2, .int .i64 b3, .int .i64 b4, .int .i64 b5, .int .i64 b6, .int .i64 b7, .int .i64 b8, .int .i64 b9, .int .i64 b10, .int .i64 b11, .slice b12 l12 c12, .slice b13 l13 c13, .int .i64 b14, .int .i64 b15, .int .i64 b16, .int .i64 b17, .int .i64 b18, .int .i64 b19, .int .i64 b20, .int .i64 b21] ∧
    (Lit.int .i64 b0).wf = true ∧ (Lit.int .i64 b1).wf = true ∧ (Lit.int .i64 b2).wf = true ∧ (Lit.int .i64 b3).wf = true ∧ (Lit.int .i64 b4).wf = true ∧ (Lit.int .i64 b5).wf = true ∧ (Lit.int .i64 b6).wf = true ∧ (Lit.int .i64 b7).wf = true ∧ (Lit.int .i64 b8).wf = true ∧ (Lit.int .i64 b9).wf = true ∧ (Lit.int .i64 b10).wf = true ∧ (Lit.int .i64 b11).wf = true ∧
    IRow .i16 w b12 l12 c12 z12 ∧ l12 * 2 ≤ 140737488351232 ∧ IRow .i32 w b13 l13 c13 z13 ∧ l13 * 4 ≤ 140737488351232 ∧
    (Lit.int .i64 b14).wf = true ∧ (Lit.int .i64 b15).wf = true ∧ (Lit.int .i64 b16).wf = true ∧ (Lit.int .i64 b17).wf = true ∧ (Lit.int .i64 b18).wf = true ∧ (Lit.int .i64 b19).wf = true ∧ (Lit.int .i64 b20).wf = true ∧ (Lit.int .i64 b21).wf = true
/-- One op in memory, with its lists. -/
def LOp (w : World) (x : Addr) (o : Nat → Int) (z b : List Int) : Prop :=
  ∃ (wa : Option Addr) (lw cw : Nat) (ba : Option Addr) (lb cb : Nat), o 12 = (lw : Int) ∧ o 13 = (lb : Int) ∧ (∀ j v, (opl o wa lw cw ba lb cb)[j]? = some v → w.cell? (x.add j) = some v) ∧ IRow .i16 w wa lw cw z ∧ IRow .i32 w ba lb cb b ∧ lw * 2 ≤ 140737488351232 ∧ lb * 4 ≤ 140737488351232
/-- Ops in memory, with their lists. -/
def LRow (w : World) (oa : Option Addr) (on oc : Nat) (O : Nat → Nat → Int) (Z B : Nat → List Int) : Prop :=
  on ≤ oc ∧ oc ≤ maxLen ∧ (oa = none → oc = 0) ∧ ∀ x, oa = some x → ∀ i, i < on → LOp w (x.add (i * 22)) (O i) (Z i) (B i)
theorem LRow.m {w : World} {oa : Option Addr} {on oc : Nat} {O : Nat → Nat → Int} {Z B : Nat → List Int} (h : LRow w oa on oc O Z B) : MRow w oa on oc O :=
  ⟨h.1, h.2.1, h.2.2.1, fun x hx i hi => by
    obtain ⟨wa, lw, cw, ba, lb, cb, h1, h2, h3, -⟩ := h.2.2.2 x hx i hi
    exact ⟨wa, lw, cw, ba, lb, cb, h1, h2, fun j v hj => by rw [← Addr.add_add]; exact h3 j v hj⟩⟩
theorem LOp.below {w w' : World} {x : Addr} {o : Nat → Int} {z b : List Int} (h : LOp w x o z b) (g : Below w.heap.size w w') : LOp w' x o z b := by
  obtain ⟨wa, lw, cw, ba, lb, cb, h1, h2, h3, h4, h5, h6⟩ := h
  exact ⟨wa, lw, cw, ba, lb, cb, h1, h2, fun j v hj => (g.cell (World.block_lt_of_cell? w _ (h3 j v hj))).trans (h3 j v hj), h4.below g, h5.below g, h6⟩
theorem LRow.below {w w' : World} {oa : Option Addr} {on oc : Nat} {O : Nat → Nat → Int} {Z B : Nat → List Int} (h : LRow w oa on oc O Z B) (g : Below w.heap.size w w') : LRow w' oa on oc O Z B :=
  ⟨h.1, h.2.1, h.2.2.1, fun x hx i hi => (h.2.2.2 x hx i hi).below g⟩
def oL (b0 b1 b2 b3 b4 b5 b6 b7 b8 b9 b10 b11 b12 b13 b14 b15 b16 b17 b18 b19 b20 b21 : Int) (j : Nat) : Int := [b0, b1, b2, b3, b4, b5, b6, b7, b8, b9, b10, b11, b12, b13, b14, b15, b16, b17, b18, b19, b20, b21].getD j 0
theorem lop_of {w : World} {x : Addr} {cs : List Value} (h : OpIn w cs) (hc : ∀ j, j < 22 → w.cell? (x.add j) = cs[j]?) : ∃ o z b, LOp w x o z b := by
  obtain ⟨b0, b1, b2, b3, b4, b5, b6, b7, b8, b9, b10, b11, b12, l12, c12, z12, b13, l13, c13, z13, b14, b15, b16, b17, b18, b19, b20, b21, rfl, -, -, -, -, -, -, -, -, -, -, -, -, h1, h2, h3, h4, -⟩ := h
  refine ⟨oL b0 b1 b2 b3 b4 b5 b6 b7 b8 b9 b10 b11 l12 l13 b14 b15 b16 b17 b18 b19 b20 b21, z12, z13, b12, l12, c12, b13, l13, c13, rfl, rfl, fun j v hj => ?_, h1, h3, h2, h4⟩
  have hj' : j < 22 := (List.getElem?_eq_some_iff.1 hj).1
  rw [hc j hj', ← hj]
  rfl
theorem lrow_of {w : World} {oa : Option Addr} {on oc : Nat} (h : ORow 22 (OpIn w) w oa on oc) : ∃ O Z B, LRow w oa on oc O Z B := by
  obtain ⟨h1, h2, h3, h4⟩ := h
  cases oa with
  | none => exact ⟨fun _ _ => 0, fun _ => [], fun _ => [], h1, h2, h3, fun x hx => by cases hx⟩
  | some x =>
    have q : ∀ i, ∃ y : (Nat → Int) × List Int × List Int, i < on → LOp w (x.add (i * 22)) y.1 y.2.1 y.2.2 := by
      intro i
      by_cases hi : i < on
      · obtain ⟨cs, -, g1, g2⟩ := h4 x rfl i hi
        obtain ⟨o, z, b, g⟩ := lop_of (x := x.add (i * 22)) g1 (fun j hj => by rw [Addr.add_add]; exact g2 j hj)
        exact ⟨(o, z, b), fun _ => g⟩
      · exact ⟨(fun _ => 0, [], []), fun h => absurd h hi⟩
    obtain ⟨f, hf⟩ := Classical.skolem.1 q
    exact ⟨fun i => (f i).1, fun i => (f i).2.1, fun i => (f i).2.2, h1, h2, h3, fun y hy i hi => by cases hy; exact hf i hi⟩
end Go.Proofs.Ytehofmkpgopmpaa

/- Sums of ops that reduce, in plain numbers: their terms, their bias, and what is known of such an op of a well-formed model. -/
namespace Go.Proofs.Ytehofmkpgopmpaa
open Go.ChangeShapes Go.WideShapes Go.ChangeAt Go.RowKit
set_option linter.unusedVariables false
/-- An op that reduces: its kind, its window, the shape that it reads, the one that it makes, how long its lists are. -/
def Sit (k kh kw sh sw tp lf bt rt h w c H V C : Int) (lw lb : Nat) : Prop :=
  (1 ≤ k ∧ k ≤ 4) ∧ vS h w c = true ∧ vS H V C = true ∧ (2 ≤ k → ouR h w c kh kw sh sw tp lf bt rt = (H, V, 0)) ∧ (k = 1 → H = 1 ∧ V = 1) ∧ (2 ≤ k → (1 ≤ kh ∧ kh ≤ 32) ∧ (1 ≤ kw ∧ kw ≤ 32)) ∧
    (k ≤ 3 → (lw : Int) = C * stR k kh kw h w c ∧ (lb : Int) = C) ∧ (3 ≤ k → C = c) ∧ (1 ≤ stR k kh kw h w c ∧ stR k kh kw h w c ≤ 512)
theorem op_sit {k a b m kh kw sh sw tp lf bt rt : Int} {lw lb : Nat} {sm ss um us z p lo hi wk : Int} {L : List (Int × Int × Int)} (hx : tkE k a b m kh kw sh sw tp lf bt rt lw lb sm ss um us z p lo hi L wk = 0) (hk : 1 ≤ k ∧ k ≤ 4) (hv : ∀ s ∈ L, vS3 s = true)
    {h w c H V C : Int} (hA : ShA L a = (h, w, c)) (hB : mk3 k m kh kw sh sw tp lf bt rt (h, w, c) = (H, V, C)) : Sit k kh kw sh sw tp lf bt rt h w c H V C lw lb := by
  obtain ⟨t1, -, -, ⟨a0, a1⟩, -, t6⟩ := tk_0 hx hv
  have hg : vS h w c = true := by
    obtain ⟨i, rfl⟩ := Int.eq_ofNat_of_zero_le a0
    have := hv _ (ShA_mem (show i < L.length by omega))
    rw [hA] at this
    exact this
  have h1 : opE k a b m kh kw sh sw tp lf bt rt lw lb sm ss um us z p lo hi L = 0 := by
    unfold tkE at hx
    by_cases q : opE k a b m kh kw sh sw tp lf bt rt lw lb sm ss um us z p lo hi L ≠ 0
    · rw [if_pos q] at hx; exact hx
    · exact Decidable.not_not.1 q
  rw [hA] at t1 t6
  rw [hB] at t1
  have fit := fit_of (A := (h, w, c)) t6 (by rw [hB]; exact t1)
  rw [hB] at fit
  obtain ⟨f1, f2, -⟩ := fit
  have hw : 2 ≤ k ∧ k ≤ 5 → (1 ≤ kh ∧ kh ≤ 32) ∧ (1 ≤ kw ∧ kw ≤ 32) := mkE_win t6
  have hst := stR_bd (k := k) (kh := kh) (kw := kw) (by omega) hg hw
  unfold opE at h1
  rw [hA] at h1
  rw [hB] at h1
  by_cases q1 : fmE k a b L.length (ozB k b m kh kw sh sw tp lf bt rt lw lb sm ss um us z p) ≠ 0
  · rw [if_pos q1] at h1; exact absurd h1 q1
  rw [if_neg q1] at h1
  simp only at h1
  rw [t6, if_neg (by decide), if_neg (by omega)] at h1
  by_cases q2 : rdB k = true ∧ 512 < st3 k kh kw (h, w, c)
  · rw [if_pos q2] at h1; cases h1
  rw [if_neg q2] at h1
  have h512 : stR k kh kw h w c ≤ 512 := by
    by_cases q : stR k kh kw h w c ≤ 512
    · exact q
    · exact absurd ⟨decide_eq_true (by omega), by show 512 < stR k kh kw h w c; omega⟩ q2
  unfold nuE at h1
  have hle : leB k C (st3 k kh kw (h, w, c)) lw lb = true := by
    cases q : leB k C (st3 k kh kw (h, w, c)) lw lb with
    | true => rfl
    | false => rw [q, if_pos rfl] at h1; cases h1
  have hle' := of_decide_eq_true hle
  refine ⟨hk, hg, f1, fun q => (f2 (by omega)).1, fun q => ?_, fun q => hw (by omega), hle', fun q => (f2 (by omega)).2 (by omega), hst.1, h512⟩
  subst q
  have : mk3 1 m kh kw sh sw tp lf bt rt (h, w, c) = (1, 1, m) := by unfold mk3 mkS; rw [if_pos rfl]
  rw [this] at hB
  simp only [Prod.mk.injEq] at hB
  exact ⟨hB.1.symm, hB.2.1.symm⟩
/-- An op that reduces, of a well-formed model. -/
theorem sit_of {O : Nat → Nat → Int} {h w c lo hi ot t wk : Int} {on : Nat} {L : List (Int × Int × Int)} (q : gtR O h w c lo hi ot on = (0, t, L, wk)) {i : Nat} (hi0 : i < on) (hk : 1 ≤ O i 0 ∧ O i 0 ≤ 4) :
    ∃ j : Nat, O i 1 = (j : Int) ∧ j ≤ i ∧ ∀ x y z H V C, ShA L (j : Int) = (x, y, z) → ShA L ((i + 1 : Nat) : Int) = (H, V, C) → Sit (O i 0) (O i 4) (O i 5) (O i 6) (O i 7) (O i 8) (O i 9) (O i 10) (O i 11) x y z H V C (O i 12).toNat (O i 13).toNat := by
  obtain ⟨hx, rfl, q2⟩ := gtR_st q
  clear q
  have q := q2
  have hv : vS3 (h, w, c) = true := (ouE_0 hx).1
  obtain ⟨wi, g1, -⟩ := stG_pre hv on L wk q (i + 1) (by omega)
  obtain ⟨L0, wk0, h0, hx0, hL, -⟩ := stG_step g1
  obtain ⟨w2, g2, -⟩ := stG_pre hv on L wk q i (by omega)
  rw [g2] at h0
  simp only [Prod.mk.injEq, true_and] at h0
  obtain ⟨rfl, rfl⟩ := h0
  obtain ⟨i1, i2, -⟩ := stG_inv hv i _ _ g2
  obtain ⟨t1, -, -, ⟨a0, a1⟩, -, t6⟩ := tk_0 hx0 i2
  obtain ⟨j, hj⟩ := Int.eq_ofNat_of_zero_le a0
  rw [hj] at a1
  have e1 : ShA (L.take (i + 1)) (j : Int) = ShA L (j : Int) := ShA_take (by omega)
  have e2 : ShA L ((i + 1 : Nat) : Int) = mk3 (O i 0) (O i 3) (O i 4) (O i 5) (O i 6) (O i 7) (O i 8) (O i 9) (O i 10) (O i 11) (ShA L (j : Int)) := by
    rw [← ShA_take (n := i + 1 + 1) (by omega), hL]
    unfold ShA at e1 ⊢
    rw [Int.toNat_natCast]
    simp only [List.getD]
    rw [List.getElem?_append_right (by omega), i1, Nat.sub_self]
    unfold oM ShA
    rw [hj, Int.toNat_natCast]
    rw [Int.toNat_natCast] at e1
    simp only [List.getElem?_cons_zero, Option.getD_some]
    rw [e1]
    rfl
  refine ⟨j, hj, by omega, fun x y z H V C hA hB => ?_⟩
  exact op_sit hx0 hk i2 (by rw [hj, e1]; exact hA) (by rw [← hB, e2, hA])
/-! ### The terms -/
/-- The place of channel c where a tap covers p. -/
def cov (C p c : Int) : Int := if p = -1 then -1 else p * C + c
/-- What tap q covers, the corner being at t, u. -/
def tpc (h w kw t u q : Int) : Int := plc h w (t + q / kw) (u + q % kw)
def plA (k C ch h w kw t u i : Int) : Int := if k = 1 then i else if k = 2 then cov C (tpc h w kw t u (i / C)) (i % C) else cov C (tpc h w kw t u i) (ch - 1)
def wgA (k ch st : Int) (z : List Int) (i : Int) : Int := if k = 4 then 1 else z.getD ((ch - 1) * st + i).toNat 0
def biA (k ch : Int) (b : List Int) : Int := if k = 4 then 0 else b.getD (ch - 1).toNat 0
def tmL (k C ch h w kw t u st : Int) (z : List Int) (n : Nat) : List (Int × Int) := (List.range n).map fun (i : Nat) => (wgA k ch st z i, plA k C ch h w kw t u i)
theorem tmL_len (k C ch h w kw t u st : Int) (z : List Int) (n : Nat) : (tmL k C ch h w kw t u st z n).length = n := by simp [tmL]
theorem tmL_succ (k C ch h w kw t u st : Int) (z : List Int) (n : Nat) : tmL k C ch h w kw t u st z (n + 1) = tmL k C ch h w kw t u st z n ++ [(wgA k ch st z n, plA k C ch h w kw t u n)] := by simp [tmL, List.range_succ]
/-- The terms of a channel at a position. -/
def siL (k kh kw sh sw tp lf bt rt h w c ch at' : Int) (z : List Int) : List (Int × Int) :=
  tmL k c ch h w kw (coR h w c kh kw sh sw tp lf bt rt at').1 (coR h w c kh kw sh sw tp lf bt rt at').2.1 (stR k kh kw h w c) z (stR k kh kw h w c).toNat
/-- The error of an op that is asked. -/
def fiE (O : Nat → Nat → Int) (h w c lo hi ot : Int) (on : Nat) (op : Int) : Int :=
  if (gtR O h w c lo hi ot on).1 ≠ 0 then (gtR O h w c lo hi ot on).1 else if ¬ (1 ≤ op ∧ op ≤ (on : Int)) then 3 else if rdB (O (op - 1).toNat 0) = false then 81 else 0
theorem fiE_err {O : Nat → Nat → Int} {h w c lo hi ot op e : Int} {on : Nat} (g : (gtR O h w c lo hi ot on).1 = e) (he : e ≠ 0) : fiE O h w c lo hi ot on op = e := by unfold fiE; rw [g, if_pos he]
theorem fiE_3 {O : Nat → Nat → Int} {h w c lo hi ot op : Int} {on : Nat} (g : (gtR O h w c lo hi ot on).1 = 0) (ho : ¬ (1 ≤ op ∧ op ≤ (on : Int))) : fiE O h w c lo hi ot on op = 3 := by unfold fiE; rw [g, if_neg (by decide), if_pos ho]
theorem fiE_81 {O : Nat → Nat → Int} {h w c lo hi ot : Int} {on i : Nat} (g : (gtR O h w c lo hi ot on).1 = 0) (ho : i < on) (hk : rdB (O i 0) = false) : fiE O h w c lo hi ot on ((i : Int) + 1) = 81 := by
  unfold fiE; rw [g, if_neg (by decide), if_neg (by omega), show ((i : Int) + 1 - 1).toNat = i by omega, hk, if_pos rfl]
theorem fiE_0 {O : Nat → Nat → Int} {h w c lo hi ot : Int} {on i : Nat} (g : (gtR O h w c lo hi ot on).1 = 0) (ho : i < on) (hk : rdB (O i 0) = true) : fiE O h w c lo hi ot on ((i : Int) + 1) = 0 := by
  unfold fiE; rw [g, if_neg (by decide), if_neg (by omega), show ((i : Int) + 1 - 1).toNat = i by omega, hk, if_neg (by decide)]
end Go.Proofs.Ytehofmkpgopmpaa

/- The document's size of a number, and a size with a sign: for every argument that fits its type. -/
namespace Go.Proofs.Ytehofmkpgopmpaa.Fx
open Go.ChangeShapes Go.WideShapes Go.ChangeAt Go.RowKit
def sizeV (x : Int) : Int := if x < 0 then -x else x
theorem sizeV_bd (x : Int) (h : I64 x) : 0 ≤ sizeV x ∧ sizeV x ≤ 9223372036854775808 := by unfold sizeV; unfold I64 at h; split <;> omega
theorem u64w (x : Int) : IntKind.u64.wrap x = x % 18446744073709551616 := by simp [IntKind.wrap, IntKind.bits, IntKind.signed]
end Go.Proofs.Ytehofmkpgopmpaa.Fx

/- Quotients rounded half away from zero, as plain numbers. -/
namespace Go.Proofs.Ytehofmkpgopmpaa.Fx
def hq (s d : Int) : Int := if d ≤ 2 * (s % d) then s / d + 1 else s / d
def rq (x d : Int) : Int := if x < 0 then -(hq (-x) d) else hq x d
def p2 (n : Int) : Int := 2 ^ n.toNat
theorem hq_bd (s d : Int) (hs : 0 ≤ s) (hd : 1 ≤ d) : 0 ≤ hq s d ∧ hq s d ≤ s := by
  have e := Int.mul_ediv_add_emod s d
  have r0 := Int.emod_nonneg s (show d ≠ 0 by omega)
  have r1 := Int.emod_lt_of_pos s (show 0 < d by omega)
  have q0 := Int.ediv_nonneg hs (show 0 ≤ d by omega)
  have q1 : s / d ≤ d * (s / d) := by
    have := Int.mul_le_mul_of_nonneg_right hd q0
    omega
  unfold hq
  split <;> omega
theorem rq_size (x d : Int) (hd : 1 ≤ d) : -(sizeV x) ≤ rq x d ∧ rq x d ≤ sizeV x ∧ (x < 0 → rq x d ≤ 0) ∧ (¬ x < 0 → 0 ≤ rq x d) := by
  unfold rq sizeV
  by_cases h : x < 0
  · have := hq_bd (-x) d (by omega) hd
    rw [if_pos h, if_pos h]; omega
  · have := hq_bd x d (by omega) hd
    rw [if_neg h, if_neg h]; omega
theorem rq_I64 (x d : Int) (hx : I64 x) (hd : 1 ≤ d) : I64 (rq x d) := by
  obtain ⟨h1, h2, h3, h4⟩ := rq_size x d hd
  unfold sizeV at h1 h2
  unfold I64 at *
  by_cases h : x < 0
  · have := h3 h
    rw [if_pos h] at h1 h2; omega
  · have := h4 h
    rw [if_neg h] at h1 h2; omega
theorem p2_nat (n : Int) : p2 n = ((2 ^ n.toNat : Nat) : Int) := by
  unfold p2; simp
theorem p2_pos (n : Int) : 1 ≤ p2 n := by
  rw [p2_nat]
  have := Nat.two_pow_pos n.toNat
  omega
theorem p2_le (n : Int) (h : n ≤ 62) : p2 n ≤ 4611686018427387904 := by
  rw [p2_nat]
  have := Nat.pow_le_pow_right (show 0 < 2 by omega) (show n.toNat ≤ 62 by omega)
  omega
end Go.Proofs.Ytehofmkpgopmpaa.Fx

/- What the inner functions of package fixq, Shift, Mean and Finish return: each for every argument that fits its type. -/
namespace Go.Proofs.Ytehofmkpgopmpaa.Fx
open Go.ChangeShapes Go.WideShapes Go.ChangeAt Go.RowKit
theorem tdiv_neg' (x d : Int) (hx : x < 0) : x.tdiv d = -((-x) / d) ∧ x.tmod d = -((-x) % d) := by
  have e := Int.tmod_eq_emod_of_nonneg (a := -x) (b := d) (by omega)
  have f := Int.tdiv_eq_ediv_of_nonneg (a := -x) (b := d) (by omega)
  rw [Int.neg_tmod] at e
  rw [Int.neg_tdiv] at f
  omega
theorem drewN_below (w : World) (n : Nat) : Below w.heap.size w (w.drewN n) := below_drewN (Below.refl _ _) n
theorem rq_any (x d : Int) (w : World) (hx : I64 x) (d1 : 1 ≤ d) (d2 : d ≤ 9223372036854775807) :
    Calls Try.prog 73 #[.int .i64 x, .int .i64 d] w fun e w' => e = .returned (.int .i64 (rq x d)) ∧ Below w.heap.size w w' := by
  obtain ⟨x1, x2⟩ := hx
  have hd0 : (d == 0) = false := by simp; omega
  by_cases c : x < 0
  · have HR : Hid (rq x d = -(hq (-x) d)) := by unfold Hid rq; rw [if_pos c]
    obtain ⟨b1, b2⟩ := hq_bd (-x) d (by omega) d1
    have ht := tdiv_neg' x d c
    have r0 := Int.emod_nonneg (-x) (show d ≠ 0 by omega)
    have r1 := Int.emod_lt_of_pos (-x) (show 0 < d by omega)
    have q0 := Int.ediv_nonneg (show 0 ≤ -x by omega) (show 0 ≤ d by omega)
    have q1 := Int.ediv_le_self (d) (show 0 ≤ -x by omega)
    by_cases c2 : d ≤ 2 * (-x % d)
    · have HH : Hid (hq (-x) d = -x / d + 1) := by unfold Hid hq; rw [if_pos c2]
      rw [HH.out] at b2
      obtain ⟨q, hq'⟩ : ∃ q, q = -x / d := ⟨_, rfl⟩
      obtain ⟨r, hr'⟩ : ∃ r, r = -x % d := ⟨_, rfl⟩
      rw [← hq', ← hr'] at ht
      rw [← hr'] at r0 r1 c2
      rw [← hq'] at q0 q1 b2
      have HQ : Hid (q = -x / d) := hq'
      obtain ⟨t1, t2⟩ := ht
      clear b1 hq' hr'
      have c3 : ¬ 0 < -r := by omega
      have c4 : -r < 0 := by omega
      have c5 : d + -r ≤ - -r := by omega
      clear c2
      go_enter Try.func73, Try.ntmps73
      go_wp2
      go_quiet (fail)
      go_wp2
      go_ret
      exact ⟨ret1 (by rw [HR.out, HH.out, ← HQ.out]; omega), drewN_below _ _⟩
    · have HH : Hid (hq (-x) d = -x / d) := by unfold Hid hq; rw [if_neg c2]
      rw [HH.out] at b2
      obtain ⟨q, hq'⟩ : ∃ q, q = -x / d := ⟨_, rfl⟩
      obtain ⟨r, hr'⟩ : ∃ r, r = -x % d := ⟨_, rfl⟩
      rw [← hq', ← hr'] at ht
      rw [← hr'] at r0 r1 c2
      rw [← hq'] at q0 q1 b2
      have HQ : Hid (q = -x / d) := hq'
      obtain ⟨t1, t2⟩ := ht
      clear b1 hq' hr'
      have c3 : ¬ 0 < -r := by omega
      have c5 : ¬ d + -r ≤ - -r := by omega
      clear c2
      by_cases c4 : -r < 0
      all_goals
        go_enter Try.func73, Try.ntmps73
        go_wp2
        go_quiet (fail)
        go_wp2
        go_ret
        exact ⟨ret1 (by rw [HR.out, HH.out, ← HQ.out]), drewN_below _ _⟩
  · have HR : Hid (rq x d = hq x d) := by unfold Hid rq; rw [if_neg c]
    obtain ⟨b1, b2⟩ := hq_bd x d (by omega) d1
    have r0 := Int.emod_nonneg x (show d ≠ 0 by omega)
    have r1 := Int.emod_lt_of_pos x (show 0 < d by omega)
    have q0 := Int.ediv_nonneg (show 0 ≤ x by omega) (show 0 ≤ d by omega)
    have q1 := Int.ediv_le_self (d) (show 0 ≤ x by omega)
    by_cases c2 : d ≤ 2 * (x % d)
    · have HH : Hid (hq x d = x / d + 1) := by unfold Hid hq; rw [if_pos c2]
      rw [HH.out] at b2
      clear b1
      have c3 : 0 < x % d := by omega
      have c4 : d - x % d ≤ x % d := by omega
      clear c2
      go_enter Try.func73, Try.ntmps73
      go_wp2
      go_quiet (fail)
      go_wp2
      go_ret
      exact ⟨ret1 (by rw [HR.out, HH.out]), drewN_below _ _⟩
    · have HH : Hid (hq x d = x / d) := by unfold Hid hq; rw [if_neg c2]
      rw [HH.out] at b2
      clear b1
      have c4 : ¬ d - x % d ≤ x % d := by omega
      have c5 : ¬ x % d < 0 := by omega
      clear c2
      by_cases c3 : 0 < x % d
      all_goals
        go_enter Try.func73, Try.ntmps73
        go_wp2
        go_quiet (fail)
        go_wp2
        go_ret
        exact ⟨ret1 (by rw [HR.out, HH.out]), drewN_below _ _⟩
def shB (n : Int) : Bool := decide (0 ≤ n ∧ n ≤ 62)
def shV (x n : Int) : Int := if shB n = true then rq x (p2 n) else 0
def shE (n : Int) : Int := if shB n = true then 0 else 20
theorem p2_wrap (n : Int) (h : n ≤ 62) : wrap64 (2 ^ n.toNat) = p2 n := by
  have h1 := p2_pos n
  have h2 := p2_le n h
  show wrap64 (p2 n) = p2 n
  exact IntWalk.wrap64_in _ ⟨by omega, by omega⟩
theorem reach_any (n : Int) (w : World) :
    Calls Try.prog 86 #[.int .i64 n] w fun e w' => e = .returned (.bool (shB n)) ∧ w' = w := by
  by_cases c : 0 ≤ n
  · have HR : Hid (decide (n ≤ 62) = shB n) := by unfold Hid shB; simp [c]
    go_enter Try.func86, Try.ntmps86
    go_wp2
    go_ret
    exact ⟨retB HR.out, rfl⟩
  · have HR : Hid (false = shB n) := by unfold Hid shB; simp; omega
    go_enter Try.func86, Try.ntmps86
    go_wp2
    go_ret
    exact ⟨retB HR.out, rfl⟩
theorem shift_any (x n : Int) (w : World) (hx : I64 x) :
    Calls Try.prog 72 #[.int .i64 x, .int .i64 n] w fun e w' => e = .returned (.tuple #[.int .i64 (shV x n), .int .i64 (shE n)]) ∧ Below w.heap.size w w' := by
  cases hb : shB n with
  | true =>
    have HV : Hid (shV x n = rq x (p2 n)) := by unfold Hid shV; rw [if_pos hb]
    have HE : Hid (shE n = 0) := by unfold Hid shE; rw [if_pos hb]
    rw [HV.out, HE.out]
    have hn : 0 ≤ n ∧ n ≤ 62 := by unfold shB at hb; simpa using hb
    obtain ⟨n1, n2⟩ := hn
    have h1 := p2_pos n
    have h2 := p2_le n n2
    have HP : Hid (wrap64 (2 ^ n.toNat) = p2 n) := p2_wrap n n2
    go_enter Try.func72, Try.ntmps72
    go_wp2_with fail
    refine (reach_any _ _).mono ?_
    rintro e w' ⟨rfl, rfl⟩
    go_wp2_with fail
    rw [HP.out]
    refine (rq_any _ _ _ hx h1 (by omega)).mono ?_
    rintro e w1 ⟨rfl, hw⟩
    go_wp2
    go_ret2
    exact ⟨rfl, hw⟩
  | false =>
    have HV : Hid (shV x n = 0) := by unfold Hid shV; rw [hb, if_neg (by decide)]
    have HE : Hid (shE n = 20) := by unfold Hid shE; rw [hb, if_neg (by decide)]
    rw [HV.out, HE.out]
    go_enter Try.func72, Try.ntmps72
    go_wp2_with fail
    refine (reach_any _ _).mono ?_
    rintro e w' ⟨rfl, rfl⟩
    go_wp2
    go_ret2
    exact ⟨rfl, Below.refl _ _⟩
def meV (x n : Int) : Int := if n < 1 then 0 else rq x n
def meE (n : Int) : Int := if n < 1 then 2 else 0
theorem mean_any (x n : Int) (w : World) (hx : I64 x) (hn : I64 n) :
    Calls Try.prog 51 #[.int .i64 x, .int .i64 n] w fun e w' => e = .returned (.tuple #[.int .i64 (meV x n), .int .i64 (meE n)]) ∧ Below w.heap.size w w' := by
  obtain ⟨n1, n2⟩ := hn
  by_cases c : n < 1
  · have HV : Hid (meV x n = 0) := if_pos c
    have HE : Hid (meE n = 2) := if_pos c
    rw [HV.out, HE.out]
    go_enter Try.func51, Try.ntmps51
    go_wp2
    go_ret2
    exact ⟨rfl, Below.refl _ _⟩
  · have HV : Hid (meV x n = rq x n) := if_neg c
    have HE : Hid (meE n = 0) := if_neg c
    rw [HV.out, HE.out]
    go_enter Try.func51, Try.ntmps51
    go_wp2_with fail
    refine (rq_any _ _ _ hx (by omega) n2).mono ?_
    rintro e w1 ⟨rfl, hw⟩
    go_wp2
    go_ret2
    exact ⟨rfl, hw⟩
def vaB (x : Int) : Bool := decide (-128 ≤ x ∧ x ≤ 127)
def fiB (z lo hi : Int) : Bool := decide (-128 ≤ lo ∧ lo ≤ hi ∧ hi ≤ 127 ∧ -128 ≤ z ∧ z ≤ 127)
def fiV (v z lo hi : Int) : Int := if fiB z lo hi = true then clampV (v + z) lo hi else 0
def fiE (z lo hi : Int) : Int := if fiB z lo hi = true then 0 else 85
theorem clamp_moved (v z lo hi : Int) : clampV v (lo - z) (hi - z) + z = clampV (v + z) lo hi := by
  unfold clampV
  by_cases c1 : hi - z < v
  · rw [if_pos c1, if_pos (show hi < v + z by omega)]; omega
  · rw [if_neg c1, if_neg (show ¬ hi < v + z by omega)]
    by_cases c2 : v < lo - z
    · rw [if_pos c2, if_pos (show v + z < lo by omega)]; omega
    · rw [if_neg c2, if_neg (show ¬ v + z < lo by omega)]
theorem clamp_in_ends (v lo hi : Int) (h : lo ≤ hi) : lo ≤ clampV v lo hi ∧ clampV v lo hi ≤ hi := by
  unfold clampV; split
  · omega
  · split <;> omega
theorem value_any (x : Int) (w : World) :
    Calls Try.prog 42 #[.int .i64 x] w fun e w' => e = .returned (.bool (vaB x)) ∧ w' = w := by
  by_cases c : -128 ≤ x
  · have HR : Hid (decide (x ≤ 127) = vaB x) := by unfold Hid vaB; simp [c]
    go_enter Try.func42, Try.ntmps42
    go_wp2
    go_ret
    exact ⟨retB HR.out, rfl⟩
  · have HR : Hid (false = vaB x) := by unfold Hid vaB; simp; omega
    go_enter Try.func42, Try.ntmps42
    go_wp2
    go_ret
    exact ⟨retB HR.out, rfl⟩
theorem finish_any (v z lo hi : Int) (w : World) :
    Calls Try.prog 23 #[.int .i64 v, .int .i64 z, .int .i64 lo, .int .i64 hi] w fun e w' => e = .returned (.tuple #[.int .i64 (fiV v z lo hi), .int .i64 (fiE z lo hi)]) ∧ w' = w := by
  cases hb : fiB z lo hi with
  | true =>
    have HV : Hid (fiV v z lo hi = clampV (v + z) lo hi) := by unfold Hid fiV; rw [if_pos hb]
    have HE : Hid (fiE z lo hi = 0) := by unfold Hid fiE; rw [if_pos hb]
    rw [HV.out, HE.out]
    have hn : -128 ≤ lo ∧ lo ≤ hi ∧ hi ≤ 127 ∧ -128 ≤ z ∧ z ≤ 127 := by unfold fiB at hb; simpa using hb
    obtain ⟨n1, n2, n3, n4, n5⟩ := hn
    have v1 : vaB lo = true := by unfold vaB; simp; omega
    have v2 : vaB hi = true := by unfold vaB; simp; omega
    have v3 : vaB z = true := by unfold vaB; simp; omega
    have v4 : ¬ hi < lo := by omega
    obtain ⟨k1, k2⟩ := clamp_in_ends v (lo - z) (hi - z) (by omega)
    have HM : Hid (clampV v (lo - z) (hi - z) + z = clampV (v + z) lo hi) := clamp_moved v z lo hi
    clear hb
    go_enter Try.func23, Try.ntmps23
    go_wp2_with fail
    refine (value_any _ _).mono ?_
    rintro e w' ⟨rfl, rfl⟩
    go_wp2_with fail
    refine (value_any _ _).mono ?_
    rintro e w' ⟨rfl, rfl⟩
    go_wp2_with fail
    refine (value_any _ _).mono ?_
    rintro e w' ⟨rfl, rfl⟩
    go_wp2_with fail
    refine (clamp_any _ _ _ _).mono ?_
    rintro e w' ⟨rfl, rfl⟩
    go_wp2
    go_ret2
    exact ⟨ret2 HM.out rfl, rfl⟩
  | false =>
    have HV : Hid (fiV v z lo hi = 0) := by unfold Hid fiV; rw [hb, if_neg (by decide)]
    have HE : Hid (fiE z lo hi = 85) := by unfold Hid fiE; rw [hb, if_neg (by decide)]
    rw [HV.out, HE.out]
    have hn : ¬ (-128 ≤ lo ∧ lo ≤ hi ∧ hi ≤ 127 ∧ -128 ≤ z ∧ z ≤ 127) := by unfold fiB at hb; simpa using hb
    clear hb
    cases v1 : vaB lo with
    | false =>
      clear hn
      go_enter Try.func23, Try.ntmps23
      go_wp2_with fail
      refine (value_any _ _).mono ?_
      rintro e w' ⟨rfl, rfl⟩
      go_wp2
      go_ret2
      exact ⟨rfl, rfl⟩
    | true =>
      cases v2 : vaB hi with
      | false =>
        clear hn
        go_enter Try.func23, Try.ntmps23
        go_wp2_with fail
        refine (value_any _ _).mono ?_
        rintro e w' ⟨rfl, rfl⟩
        go_wp2_with fail
        refine (value_any _ _).mono ?_
        rintro e w' ⟨rfl, rfl⟩
        go_wp2
        go_ret2
        exact ⟨rfl, rfl⟩
      | true =>
        by_cases v4 : hi < lo
        · clear hn
          go_enter Try.func23, Try.ntmps23
          go_wp2_with fail
          refine (value_any _ _).mono ?_
          rintro e w' ⟨rfl, rfl⟩
          go_wp2_with fail
          refine (value_any _ _).mono ?_
          rintro e w' ⟨rfl, rfl⟩
          go_wp2
          go_ret2
          exact ⟨rfl, rfl⟩
        · have v3 : vaB z = false := by
            unfold vaB at v1 v2 ⊢
            simp at v1 v2 ⊢
            omega
          clear hn
          go_enter Try.func23, Try.ntmps23
          go_wp2_with fail
          refine (value_any _ _).mono ?_
          rintro e w' ⟨rfl, rfl⟩
          go_wp2_with fail
          refine (value_any _ _).mono ?_
          rintro e w' ⟨rfl, rfl⟩
          go_wp2_with fail
          refine (value_any _ _).mono ?_
          rintro e w' ⟨rfl, rfl⟩
          go_wp2
          go_ret2
          exact ⟨rfl, rfl⟩
end Go.Proofs.Ytehofmkpgopmpaa.Fx

/- What Valid and Apply of package fixq return: each for every argument that fits its type. -/
namespace Go.Proofs.Ytehofmkpgopmpaa.Fx
open Go.ChangeShapes Go.WideShapes Go.ChangeAt Go.RowKit
theorem bcell {W w1 : World} (hb : Below W.heap.size W w1) : (∀ b o, b < W.heap.size → w1.cell? ⟨b, o, none⟩ = W.cell? ⟨b, o, none⟩) ∧ (∀ b o, b < W.heap.size → w1.frozen? ⟨b, o, none⟩ = W.frozen? ⟨b, o, none⟩) :=
  ⟨fun b o h => hb.cell (p := ⟨b, o, none⟩) h, fun b o h => hb.frozen (p := ⟨b, o, none⟩) h⟩
def scB (m s : Int) : Bool := decide (1 ≤ m ∧ m ≤ 2147483647 ∧ 0 ≤ s ∧ s ≤ 62)
def acB (a : Int) : Bool := decide (-4294967296 ≤ a ∧ a ≤ 4294967296)
def apV (a m s : Int) : Int := if scB m s = true then (if acB a = true then rq (a * m) (p2 s) else 0) else 0
def apE (a m s : Int) : Int := if scB m s = true then (if acB a = true then 0 else 10) else 20
theorem prod_bd (a m : Int) (a1 : -4294967296 ≤ a) (a2 : a ≤ 4294967296) (m1 : 1 ≤ m) (m2 : m ≤ 2147483647) : -9223372032559808512 ≤ a * m ∧ a * m ≤ 9223372032559808512 := by
  have h1 := Int.mul_le_mul_of_nonneg_right a1 (show 0 ≤ m by omega)
  have h2 := Int.mul_le_mul_of_nonneg_right a2 (show 0 ≤ m by omega)
  omega
theorem valid_any (m s : Int) (w : World) :
    Calls Try.prog 71 #[.agg #[.int .i64 m, .int .i64 s]] w fun e w' => e = .returned (.bool (scB m s)) ∧ Below w.heap.size w w' := by
  by_cases c1 : 1 ≤ m
  · by_cases c2 : m ≤ 2147483647
    · have HR : Hid (shB s = scB m s) := by unfold Hid shB scB; simp [c1, c2]
      go_enter Try.func71, Try.ntmps71
      go_wp2_with fail
      refine (reach_any _ _).mono ?_
      rintro e w' ⟨rfl, rfl⟩
      go_wp2
      go_ret
      exact ⟨retB HR.out, (Below.refl _ _).alloc (Nat.le_refl _) _⟩
    · have HR : Hid (false = scB m s) := by unfold Hid scB; simp [c2]
      go_enter Try.func71, Try.ntmps71
      go_wp2
      go_ret
      exact ⟨retB HR.out, (Below.refl _ _).alloc (Nat.le_refl _) _⟩
  · have HR : Hid (false = scB m s) := by unfold Hid scB; simp [c1]
    go_enter Try.func71, Try.ntmps71
    go_wp2
    go_ret
    exact ⟨retB HR.out, (Below.refl _ _).alloc (Nat.le_refl _) _⟩
theorem apply_any (a m s : Int) (w : World) :
    Calls Try.prog 50 #[.int .i64 a, .agg #[.int .i64 m, .int .i64 s]] w fun e w' => e = .returned (.tuple #[.int .i64 (apV a m s), .int .i64 (apE a m s)]) ∧ Below w.heap.size w w' := by
  cases hs : scB m s with
  | false =>
    have HV : Hid (apV a m s = 0) := by unfold Hid apV; rw [hs, if_neg (by decide)]
    have HE : Hid (apE a m s = 20) := by unfold Hid apE; rw [hs, if_neg (by decide)]
    rw [HV.out, HE.out]
    go_enter Try.func50, Try.ntmps50
    go_wp2_with fail
    refine (valid_any _ _ _).mono ?_
    rintro e w' ⟨rfl, hb⟩
    go_wp2
    go_ret2
    exact ⟨rfl, ((Below.refl _ _).alloc (Nat.le_refl _) _).trans (hb.mono (by simp))⟩
  | true =>
    cases ha : acB a with
    | false =>
      have HV : Hid (apV a m s = 0) := by unfold Hid apV; rw [hs, if_pos rfl, ha, if_neg (by decide)]
      have HE : Hid (apE a m s = 10) := by unfold Hid apE; rw [hs, if_pos rfl, ha, if_neg (by decide)]
      rw [HV.out, HE.out]
      have hn : ¬ (-4294967296 ≤ a ∧ a ≤ 4294967296) := by unfold acB at ha; simpa using ha
      by_cases c : a < -4294967296
      all_goals
        try have c' : 4294967296 < a := by omega
        clear hn
        go_enter Try.func50, Try.ntmps50
        go_wp2_with fail
        refine (valid_any _ _ _).mono ?_
        rintro e w' ⟨rfl, hb⟩
        go_wp2
        go_ret2
        exact ⟨rfl, ((Below.refl _ _).alloc (Nat.le_refl _) _).trans (hb.mono (by simp))⟩
    | true =>
      have HV : Hid (apV a m s = rq (a * m) (p2 s)) := by unfold Hid apV; rw [hs, if_pos rfl, ha, if_pos rfl]
      have HE : Hid (apE a m s = 0) := by unfold Hid apE; rw [hs, if_pos rfl, ha, if_pos rfl]
      rw [HV.out, HE.out]
      have hn : -4294967296 ≤ a ∧ a ≤ 4294967296 := by unfold acB at ha; simpa using ha
      have hm : 1 ≤ m ∧ m ≤ 2147483647 ∧ 0 ≤ s ∧ s ≤ 62 := by unfold scB at hs; simpa using hs
      obtain ⟨a1, a2⟩ := hn
      obtain ⟨m1, m2, s1, s2⟩ := hm
      have hp := prod_bd a m a1 a2 m1 m2
      have hi : I64 (a * m) := by unfold I64; omega
      obtain ⟨p1, p2'⟩ := hp
      have HS : Hid (shV (a * m) s = rq (a * m) (p2 s)) := by unfold Hid shV shB; rw [if_pos (by simp; omega)]
      have HT : Hid (shE s = 0) := by unfold Hid shE shB; rw [if_pos (by simp; omega)]
      go_enter Try.func50, Try.ntmps50
      go_wp2_with fail
      refine (valid_any _ _ _).mono ?_
      rintro e w' ⟨rfl, hb⟩
      obtain ⟨hc, hf⟩ := bcell hb
      go_wp2_with fail
      refine (shift_any _ _ _ hi).mono ?_
      rintro e w2 ⟨rfl, hb2⟩
      rw [HS.out, HT.out]
      go_wp2
      go_ret2
      exact ⟨rfl, ((Below.refl _ _).alloc (Nat.le_refl _) _).trans ((hb.mono (by simp)).trans (hb2.mono (by have := hb.size; simp at this; omega)))⟩
end Go.Proofs.Ytehofmkpgopmpaa.Fx

/- What an op makes of its tensors, in plain numbers; what is known of each op of a well-formed model; an op alone. -/
namespace Go.Proofs.Ytehofmkpgopmpaa
open Go.ChangeShapes Go.WideShapes Go.ChangeAt Go.RowKit
set_option linter.unusedVariables false
/-- What is known of an op: the shape of tensor A, the one that it makes, its fields. -/
structure Opd (k b m kh kw sh sw tp lf bt rt : Int) (lw lb : Nat) (sm ss um us z p lo hi h w c H V C : Int) : Prop where
  hk : 1 ≤ k ∧ k ≤ 8
  hA : vS h w c = true
  hB : vS H V C = true
  si : k ≤ 4 → Sit k kh kw sh sw tp lf bt rt h w c H V C lw lb
  al : k ≤ 4 → tkE k 0 b m kh kw sh sw tp lf bt rt lw lb sm ss um us z p lo hi [(h, w, c)] 0 = 0 ∧ mk3 k m kh kw sh sw tp lf bt rt (h, w, c) = (H, V, C)
  ou : 2 ≤ k ∧ k ≤ 5 → ouR h w c kh kw sh sw tp lf bt rt = (H, V, 0)
  c3 : 3 ≤ k → C = c
  s6 : 6 ≤ k → H = h ∧ V = w
  rz : rzB z p lo hi = true
  sc : ssB k sm ss um us = true
  oz : ozB k b m kh kw sh sw tp lf bt rt lw lb sm ss um us z p = true
theorem op_opd {k a b m kh kw sh sw tp lf bt rt : Int} {lw lb : Nat} {sm ss um us z p lo hi : Int} {wk : Int} {L : List (Int × Int × Int)} (hx : tkE k a b m kh kw sh sw tp lf bt rt lw lb sm ss um us z p lo hi L wk = 0) (hwk : 0 ≤ wk) (hv : ∀ s ∈ L, vS3 s = true)
    {h w c H V C : Int} (hA : ShA L a = (h, w, c)) (hB : mk3 k m kh kw sh sw tp lf bt rt (h, w, c) = (H, V, C)) : Opd k b m kh kw sh sw tp lf bt rt lw lb sm ss um us z p lo hi h w c H V C ∧ (0 ≤ b ∧ b < (L.length : Int)) ∧ (k = 6 → ShA L b = (h, w, c)) := by
  obtain ⟨t1, -, t3, ⟨a0, a1⟩, hk, t6⟩ := tk_0 hx hv
  have hg : vS h w c = true := by
    obtain ⟨i, rfl⟩ := Int.eq_ofNat_of_zero_le a0
    have := hv _ (ShA_mem (show i < L.length by omega))
    rw [hA] at this
    exact this
  have h1 : opE k a b m kh kw sh sw tp lf bt rt lw lb sm ss um us z p lo hi L = 0 := by
    unfold tkE at hx
    by_cases q : opE k a b m kh kw sh sw tp lf bt rt lw lb sm ss um us z p lo hi L ≠ 0
    · rw [if_pos q] at hx; exact hx
    · exact Decidable.not_not.1 q
  have hsit : k ≤ 4 → Sit k kh kw sh sw tp lf bt rt h w c H V C lw lb := fun q => op_sit hx (by omega) hv hA hB
  rw [hA] at t1 t6
  rw [hB] at t1
  have fit := fit_of (A := (h, w, c)) t6 (by rw [hB]; exact t1)
  rw [hB] at fit
  obtain ⟨f1, f2, f3⟩ := fit
  have h1' := h1
  unfold opE at h1
  rw [hA, hB] at h1
  by_cases q1 : fmE k a b L.length (ozB k b m kh kw sh sw tp lf bt rt lw lb sm ss um us z p) ≠ 0
  · rw [if_pos q1] at h1; exact absurd h1 q1
  rw [if_neg q1] at h1
  obtain ⟨-, -, hb6, hoz⟩ := fmE_0 (Decidable.not_not.1 q1)
  simp only at h1
  rw [t6, if_neg (by decide)] at h1
  by_cases q3 : k = 6 ∧ (h, w, c) ≠ ShA L b
  · rw [if_pos q3] at h1; cases h1
  rw [if_neg q3] at h1
  by_cases q2 : rdB k = true ∧ 512 < st3 k kh kw (h, w, c)
  · rw [if_pos q2] at h1; cases h1
  rw [if_neg q2] at h1
  obtain ⟨n1, n2, n3⟩ := nuE_0 h1
  have hoz' := of_decide_eq_true hoz
  have hal : k ≤ 4 → tkE k 0 b m kh kw sh sw tp lf bt rt lw lb sm ss um us z p lo hi [(h, w, c)] 0 = 0 := fun q => by
    have e : ShA [(h, w, c)] 0 = (h, w, c) := rfl
    have hf : fmE k 0 b (([(h, w, c)] : List (Int × Int × Int)).length : Int) (ozB k b m kh kw sh sw tp lf bt rt lw lb sm ss um us z p) = 0 := by
      unfold fmE
      rw [if_neg (by omega), if_neg (by simp), if_neg (by omega), hoz, if_neg (by decide)]
    have ho : opE k 0 b m kh kw sh sw tp lf bt rt lw lb sm ss um us z p lo hi [(h, w, c)] = 0 := by
      unfold opE
      rw [e, hB]
      simp only
      rw [hf, if_neg (by decide), t6, if_neg (by decide), if_neg (by omega), if_neg q2]
      exact h1
    unfold tkE
    rw [ho, if_neg (by decide), e]
    rw [hA] at t3
    rw [if_neg (by omega)]
  refine ⟨⟨hk, hg, f1, hsit, fun q => ⟨hal q, hB⟩, fun q => (f2 q).1, fun q => ?_, fun q => ?_, n3, n2, hoz⟩, ?_, fun q => ?_⟩
  · by_cases q5 : k ≤ 5
    · exact (f2 (by omega)).2 (by omega)
    · have := f3 (by omega); simp only [Prod.mk.injEq] at this; exact this.2.2
  · have := f3 q; simp only [Prod.mk.injEq] at this; exact ⟨this.1, this.2.1⟩
  · by_cases q : k = 6
    · exact hb6 q
    · have := (hoz'.1 q).1; omega
  · by_cases q4 : (h, w, c) = ShA L b
    · exact q4.symm
    · exact absurd ⟨q, q4⟩ q3
/-- Each op of a well-formed model: the tensors that it reads, their shapes. -/
theorem opd_of {O : Nat → Nat → Int} {h w c lo hi ot t wk : Int} {on : Nat} {L : List (Int × Int × Int)} (q : gtR O h w c lo hi ot on = (0, t, L, wk)) {i : Nat} (hi0 : i < on) :
    ∃ ja jb : Nat, O i 1 = (ja : Int) ∧ ja ≤ i ∧ O i 2 = (jb : Int) ∧ jb ≤ i ∧ ∀ x y v H V C, L.getD ja (0, 0, 0) = (x, y, v) → L.getD (i + 1) (0, 0, 0) = (H, V, C) →
      Opd (O i 0) (O i 2) (O i 3) (O i 4) (O i 5) (O i 6) (O i 7) (O i 8) (O i 9) (O i 10) (O i 11) (O i 12).toNat (O i 13).toNat (O i 14) (O i 15) (O i 16) (O i 17) (O i 18) (O i 19) (O i 20) (O i 21) x y v H V C ∧ (O i 0 = 6 → L.getD jb (0, 0, 0) = (x, y, v)) := by
  obtain ⟨hx, rfl, q2⟩ := gtR_st q
  clear q
  have q := q2
  have hv : vS3 (h, w, c) = true := (ouE_0 hx).1
  obtain ⟨wi, g1, -⟩ := stG_pre hv on L wk q (i + 1) (by omega)
  obtain ⟨L0, wk0, h0, hx0, hL, -⟩ := stG_step g1
  obtain ⟨w2, g2, g3, -⟩ := stG_pre hv on L wk q i (by omega)
  rw [g2] at h0
  simp only [Prod.mk.injEq, true_and] at h0
  obtain ⟨rfl, rfl⟩ := h0
  obtain ⟨i1, i2, -⟩ := stG_inv hv i _ _ g2
  obtain ⟨t1, -, -, ⟨a0, a1⟩, -, t6⟩ := tk_0 hx0 i2
  obtain ⟨j, hj⟩ := Int.eq_ofNat_of_zero_le a0
  rw [hj] at a1
  have e1 : ShA (L.take (i + 1)) (j : Int) = ShA L (j : Int) := ShA_take (by omega)
  have e2 : ShA L ((i + 1 : Nat) : Int) = mk3 (O i 0) (O i 3) (O i 4) (O i 5) (O i 6) (O i 7) (O i 8) (O i 9) (O i 10) (O i 11) (ShA L (j : Int)) := by
    rw [← ShA_take (n := i + 1 + 1) (by omega), hL]
    unfold ShA at e1 ⊢
    rw [Int.toNat_natCast]
    simp only [List.getD]
    rw [List.getElem?_append_right (by omega), i1, Nat.sub_self]
    unfold oM ShA
    rw [hj, Int.toNat_natCast]
    rw [Int.toNat_natCast] at e1
    simp only [List.getElem?_cons_zero, Option.getD_some]
    rw [e1]
    rfl
  obtain ⟨A1, A2, A3, hA0⟩ : ∃ A1 A2 A3, ShA L (j : Int) = (A1, A2, A3) := ⟨_, _, _, rfl⟩
  obtain ⟨B1, B2, B3, hB0⟩ : ∃ B1 B2 B3, ShA L ((i + 1 : Nat) : Int) = (B1, B2, B3) := ⟨_, _, _, rfl⟩
  obtain ⟨r1, ⟨b0, b1⟩, r3⟩ := op_opd (h := A1) (w := A2) (c := A3) (H := B1) (V := B2) (C := B3) hx0 g3 i2 (by rw [hj, e1]; exact hA0) (by rw [← hB0, e2, hA0])
  obtain ⟨jb, hjb⟩ := Int.eq_ofNat_of_zero_le b0
  rw [hjb] at b1 r3
  refine ⟨j, jb, hj, by omega, hjb, by omega, fun x y v H V C hA hB => ?_⟩
  have ea : (A1, A2, A3) = (x, y, v) := by rw [← hA0, ← hA]; unfold ShA; rw [Int.toNat_natCast]
  have eb : (B1, B2, B3) = (H, V, C) := by rw [← hB0, ← hB]; unfold ShA; rw [Int.toNat_natCast]
  simp only [Prod.mk.injEq] at ea eb
  obtain ⟨rfl, rfl, rfl⟩ := ea
  obtain ⟨rfl, rfl, rfl⟩ := eb
  refine ⟨r1, fun q6 => ?_⟩
  have := r3 q6
  rw [ShA_take (by omega)] at this
  unfold ShA at this
  rwa [Int.toNat_natCast] at this
/-- The op alone. -/
theorem alone_g {k a b m kh kw sh sw tp lf bt rt : Int} {lw lb : Nat} {sm ss um us z p lo hi : Int} {h w c H V C : Int} (s : Opd k b m kh kw sh sw tp lf bt rt lw lb sm ss um us z p lo hi h w c H V C) (hk : k ≤ 4) :
    ∃ Rw, gtR (fun _ => oL k 0 b m kh kw sh sw tp lf bt rt (lw : Int) (lb : Int) sm ss um us z p lo hi) h w c 0 0 0 1 = (0, 0, [(h, w, c), (H, V, C)], Rw) := by
  have hou : ouE h w c 0 0 0 1 = 0 := by
    unfold ouE
    rw [s.hA, if_neg (by decide), show rgB 0 0 = true by decide, if_neg (by decide), if_neg (by decide), if_neg (by decide)]
  obtain ⟨a1, a2⟩ := s.al hk
  rw [gtR_of hou]
  have hT : oT (oL k 0 b m kh kw sh sw tp lf bt rt (lw : Int) (lb : Int) sm ss um us z p lo hi) [(h, w, c)] 0 = 0 := by
    show tkE k 0 b m kh kw sh sw tp lf bt rt (lw : Int).toNat (lb : Int).toNat sm ss um us z p lo hi [(h, w, c)] 0 = 0
    rw [Int.toNat_natCast, Int.toNat_natCast]
    exact a1
  rw [stG_ok (i := 0) (L := [(h, w, c)]) (wk := 0) rfl hT]
  have hM : oM (oL k 0 b m kh kw sh sw tp lf bt rt (lw : Int) (lb : Int) sm ss um us z p lo hi) [(h, w, c)] = (H, V, C) := a2
  rw [hM]
  exact ⟨_, rfl⟩
/-! ### Sums -/
def smT (p : Int) (x : List Int) (t : Int × Int) : Int := t.1 * (if t.2 < 0 then p else x.getD t.2.toNat 0)
def smV (p : Int) (x : List Int) : List (Int × Int) → Int
  | [] => 0
  | t :: l => smT p x t + smV p x l
theorem smV_app (p : Int) (x : List Int) : ∀ l r : List (Int × Int), smV p x (l ++ r) = smV p x l + smV p x r
  | [], r => by simp [smV]
  | t :: l, r => by simp only [List.cons_append, smV, smV_app p x l r]; omega
theorem smV_take {p : Int} {x : List Int} {l : List (Int × Int)} {n : Nat} {u v : Int} (hn : n < l.length) (h : l.getD n (0, 0) = (u, v)) : smV p x (l.take (n + 1)) = smV p x (l.take n) + smT p x (u, v) := by
  rw [List.getD_eq_getElem?_getD, List.getElem?_eq_getElem hn, Option.getD_some] at h
  rw [List.take_add_one, List.getElem?_eq_getElem hn, smV_app, h]
  simp [smV]
def I8 (v : Int) : Prop := -128 ≤ v ∧ v ≤ 127
theorem getD_i8 {x : List Int} (h : ∀ v ∈ x, I8 v) (n : Nat) : I8 (x.getD n 0) := by
  rcases Nat.lt_or_ge n x.length with q | q
  · rw [List.getD_eq_getElem?_getD, List.getElem?_eq_getElem q]; exact h _ (List.getElem_mem q)
  · rw [List.getD_eq_getElem?_getD, List.getElem?_eq_none q]; exact ⟨by decide, by decide⟩
theorem prod_i8 {a v : Int} (ha : -32768 ≤ a ∧ a ≤ 32767) (hv : I8 v) : -4194304 ≤ a * v ∧ a * v ≤ 4194304 := by
  obtain ⟨v1, v2⟩ := hv
  rcases Int.le_total 0 a with h | h
  · have p1 := Int.mul_le_mul_of_nonneg_left v1 h
    have p2 := Int.mul_le_mul_of_nonneg_left v2 h
    omega
  · have p1 := Int.mul_le_mul_of_nonpos_left h v1
    have p2 := Int.mul_le_mul_of_nonpos_left h v2
    omega
theorem smT_bd {p : Int} {x : List Int} {t : Int × Int} (hp : I8 p) (hx : ∀ v ∈ x, I8 v) (ht : -32768 ≤ t.1 ∧ t.1 ≤ 32767) : -4194304 ≤ smT p x t ∧ smT p x t ≤ 4194304 := by
  unfold smT
  split
  · exact prod_i8 ht hp
  · exact prod_i8 ht (getD_i8 hx _)
theorem smV_bd {p : Int} {x : List Int} (hp : I8 p) (hx : ∀ v ∈ x, I8 v) : ∀ l : List (Int × Int), (∀ t ∈ l, -32768 ≤ t.1 ∧ t.1 ≤ 32767) → -(4194304 * (l.length : Int)) ≤ smV p x l ∧ smV p x l ≤ 4194304 * (l.length : Int)
  | [], _ => by simp [smV]
  | t :: l, h => by
    have h1 := smV_bd hp hx l fun t ht => h t (List.mem_cons_of_mem _ ht)
    have h2 := smT_bd hp hx (h t List.mem_cons_self)
    simp only [smV, List.length_cons]
    omega
theorem take_mem {l : List (Int × Int)} {P : Int × Int → Prop} (h : ∀ t ∈ l, P t) (n : Nat) : ∀ t ∈ l.take n, P t := fun t ht => h t (List.mem_of_mem_take ht)
theorem wgA_bd {k ch st : Int} {zs : List Int} (hz : ∀ v ∈ zs, (Lit.int .i16 v).wf = true) (i : Int) : -32768 ≤ wgA k ch st zs i ∧ wgA k ch st zs i ≤ 32767 := by
  unfold wgA
  split
  · omega
  · rcases Nat.lt_or_ge (((ch - 1) * st + i).toNat) zs.length with q | q
    · rw [List.getD_eq_getElem?_getD, List.getElem?_eq_getElem q, Option.getD_some]
      exact wf_i16 (hz _ (List.getElem_mem q))
    · rw [List.getD_eq_getElem?_getD, List.getElem?_eq_none q, Option.getD_none]; omega
theorem biA_bd {k ch : Int} {bs : List Int} (hb : ∀ v ∈ bs, (Lit.int .i32 v).wf = true) : -2147483648 ≤ biA k ch bs ∧ biA k ch bs ≤ 2147483647 := by
  unfold biA
  split
  · omega
  · rcases Nat.lt_or_ge ((ch - 1).toNat) bs.length with q | q
    · rw [List.getD_eq_getElem?_getD, List.getElem?_eq_getElem q, Option.getD_some]
      exact wf_i32 (hb _ (List.getElem_mem q))
    · rw [List.getD_eq_getElem?_getD, List.getElem?_eq_none q, Option.getD_none]; omega
theorem tpc_in {h w kw t u : Int} (q : Int) : tpc h w kw t u q = -1 ∨ (0 ≤ tpc h w kw t u q ∧ tpc h w kw t u q < h * w) := by
  unfold tpc plc
  split
  · rename_i g
    obtain ⟨⟨g1, g2⟩, g3, g4⟩ := g
    have := rowbd g2 g1 g3 g4
    right; omega
  · left; rfl
theorem cov_in {n c q d : Int} (hq : q = -1 ∨ (0 ≤ q ∧ q < n)) (hd : 0 ≤ d ∧ d < c) : cov c q d = -1 ∨ (0 ≤ cov c q d ∧ cov c q d < n * c) := by
  unfold cov
  split
  · left; rfl
  · rename_i g
    rcases hq with q1 | ⟨q1, q2⟩
    · exact absurd q1 g
    · have := rowbd q2 q1 hd.1 hd.2
      right; omega
theorem plA_in {k kh kw sh sw tp lf bt rt h w c H V C : Int} {lw lb : Nat} (s : Sit k kh kw sh sw tp lf bt rt h w c H V C lw lb) {ch : Int} (hch : 1 ≤ ch ∧ ch ≤ C) (t u i : Int) (hi : 0 ≤ i ∧ i < stR k kh kw h w c) :
    plA k c ch h w kw t u i = -1 ∨ (0 ≤ plA k c ch h w kw t u i ∧ plA k c ch h w kw t u i < h * w * c) := by
  obtain ⟨hk, hvA, -, -, -, -, -, h3c, -⟩ := s
  have hc1 := (vS_yes hvA).2.2.1
  unfold plA
  by_cases k1 : k = 1
  · subst k1
    rw [if_pos rfl]
    have : stR 1 kh kw h w c = h * w * c := rfl
    rw [this] at hi
    right; exact hi
  · rw [if_neg k1]
    by_cases k2 : k = 2
    · rw [if_pos k2]
      exact cov_in (tpc_in _) ⟨Int.emod_nonneg _ (by omega), Int.emod_lt_of_pos _ (by omega)⟩
    · rw [if_neg k2]
      have := h3c (by omega)
      exact cov_in (tpc_in _) ⟨by omega, by omega⟩
/-- The terms of a sum: how many, their weights, their places. -/
theorem siL_facts {k kh kw sh sw tp lf bt rt h w c H V C : Int} {lw lb : Nat} (s : Sit k kh kw sh sw tp lf bt rt h w c H V C lw lb) {zs : List Int} (hz : ∀ v ∈ zs, (Lit.int .i16 v).wf = true) {ch : Int} (hch : 1 ≤ ch ∧ ch ≤ C) (at' : Int) :
    (siL k kh kw sh sw tp lf bt rt h w c ch at' zs).length ≤ 512 ∧ ∀ t ∈ siL k kh kw sh sw tp lf bt rt h w c ch at' zs, (-32768 ≤ t.1 ∧ t.1 ≤ 32767) ∧ (t.2 = -1 ∨ (0 ≤ t.2 ∧ t.2 < h * w * c)) := by
  have h1 := s.2.2.2.2.2.2.2.2.2
  have h0 := s.2.2.2.2.2.2.2.2.1
  unfold siL
  refine ⟨by rw [tmL_len]; omega, fun t ht => ?_⟩
  unfold tmL at ht
  obtain ⟨i, hi, rfl⟩ := List.mem_map.1 ht
  have hi' : i < (stR k kh kw h w c).toNat := by simpa using hi
  exact ⟨wgA_bd hz _, plA_in s hch _ _ _ ⟨by omega, by omega⟩⟩
/-- A channel's sum at a position, over the numbers x. -/
def suA (k kh kw sh sw tp lf bt rt h w c p : Int) (zs bs x : List Int) (ch at' : Int) : Int := biA k ch bs + smV p x (siL k kh kw sh sw tp lf bt rt h w c ch at' zs)
theorem suA_bd {k kh kw sh sw tp lf bt rt h w c H V C p : Int} {lw lb : Nat} (s : Sit k kh kw sh sw tp lf bt rt h w c H V C lw lb) {zs bs x : List Int} (hz : ∀ v ∈ zs, (Lit.int .i16 v).wf = true) (hb : ∀ v ∈ bs, (Lit.int .i32 v).wf = true) (hp : I8 p) (hx : ∀ v ∈ x, I8 v) {ch : Int} (hch : 1 ≤ ch ∧ ch ≤ C) (at' : Int) :
    -4294967296 ≤ suA k kh kw sh sw tp lf bt rt h w c p zs bs x ch at' ∧ suA k kh kw sh sw tp lf bt rt h w c p zs bs x ch at' ≤ 4294967296 := by
  obtain ⟨h1, h2⟩ := siL_facts s hz hch at'
  have h3 := smV_bd hp hx _ fun t ht => (h2 t ht).1
  have h4 := biA_bd (k := k) (ch := ch) hb
  unfold suA
  omega
/-- Of all, the first so many. -/
def suL (k kh kw sh sw tp lf bt rt h w c C p : Int) (zs bs x : List Int) (n : Nat) : List Int := (List.range n).map fun (j : Nat) => suA k kh kw sh sw tp lf bt rt h w c p zs bs x ((j : Int) % C + 1) ((j : Int) / C)
theorem suL_len (k kh kw sh sw tp lf bt rt h w c C p : Int) (zs bs x : List Int) (n : Nat) : (suL k kh kw sh sw tp lf bt rt h w c C p zs bs x n).length = n := by simp [suL]
theorem suL_succ (k kh kw sh sw tp lf bt rt h w c C p : Int) (zs bs x : List Int) (n : Nat) : suL k kh kw sh sw tp lf bt rt h w c C p zs bs x (n + 1) = suL k kh kw sh sw tp lf bt rt h w c C p zs bs x n ++ [suA k kh kw sh sw tp lf bt rt h w c p zs bs x ((n : Int) % C + 1) ((n : Int) / C)] := by simp [suL, List.range_succ]
theorem suL_0 (k kh kw sh sw tp lf bt rt h w c C p : Int) (zs bs x : List Int) : suL k kh kw sh sw tp lf bt rt h w c C p zs bs x 0 = [] := rfl
theorem suL_bd {k kh kw sh sw tp lf bt rt h w c H V C p : Int} {lw lb : Nat} (s : Sit k kh kw sh sw tp lf bt rt h w c H V C lw lb) {zs bs x : List Int} (hz : ∀ v ∈ zs, (Lit.int .i16 v).wf = true) (hb : ∀ v ∈ bs, (Lit.int .i32 v).wf = true) (hp : I8 p) (hx : ∀ v ∈ x, I8 v) (n : Nat) :
    ∀ v ∈ suL k kh kw sh sw tp lf bt rt h w c C p zs bs x n, -4294967296 ≤ v ∧ v ≤ 4294967296 := fun v hv => by
  have hC := (vS_yes s.2.2.1).2.2.1
  obtain ⟨j, -, rfl⟩ := List.mem_map.1 hv
  have e1 := Int.emod_nonneg (j : Int) (show C ≠ 0 by omega)
  have e2 := Int.emod_lt_of_pos (j : Int) (show 0 < C by omega)
  exact suA_bd s hz hb hp hx ⟨by omega, by omega⟩ _
theorem divmod_at {C : Int} {q d : Nat} (hd : (d : Int) < C) : ((q : Int) * C + d) / C = q ∧ ((q : Int) * C + d) % C = d := by
  have hC : 0 < C := by omega
  refine ⟨?_, ?_⟩
  · rw [Int.add_comm, Int.add_mul_ediv_right _ _ (by omega), Int.ediv_eq_zero_of_lt (by omega) hd, Int.zero_add]
  · rw [Int.add_comm, Int.add_mul_emod_self_right, Int.emod_eq_of_lt (by omega) hd]
/-! ### The greatest under a window -/
def mxI (a b : Int) : Int := if a < b then b else a
def grA (w c kw : Int) (x : List Int) (t u d : Int) (q : Nat) : Int := x.getD (((t + (q : Int) / kw) * w + (u + (q : Int) % kw)) * c + d).toNat 0
def grM (w c kw : Int) (x : List Int) (t u d : Int) : Nat → Int
  | 0 => -128
  | q + 1 => mxI (grM w c kw x t u d q) (grA w c kw x t u d q)
theorem grM_i8 {w c kw : Int} {x : List Int} (hx : ∀ v ∈ x, I8 v) (t u d : Int) : ∀ q, I8 (grM w c kw x t u d q)
  | 0 => by unfold grM; exact ⟨by decide, by decide⟩
  | q + 1 => by
    have h1 := grM_i8 hx t u d q (w := w) (c := c) (kw := kw)
    have h2 : I8 (grA w c kw x t u d q) := getD_i8 hx _
    unfold grM mxI
    split
    · exact h2
    · exact h1
def grL (kh kw sh sw w c V C : Int) (x : List Int) (n : Nat) : List Int := (List.range n).map fun (j : Nat) => grM w c kw x ((j : Int) / C / V * sh) ((j : Int) / C % V * sw) ((j : Int) % C) (kh * kw).toNat
theorem grL_len (kh kw sh sw w c V C : Int) (x : List Int) (n : Nat) : (grL kh kw sh sw w c V C x n).length = n := by simp [grL]
theorem grL_succ (kh kw sh sw w c V C : Int) (x : List Int) (n : Nat) : grL kh kw sh sw w c V C x (n + 1) = grL kh kw sh sw w c V C x n ++ [grM w c kw x ((n : Int) / C / V * sh) ((n : Int) / C % V * sw) ((n : Int) % C) (kh * kw).toNat] := by simp [grL, List.range_succ]
theorem grL_i8 {kh kw sh sw w c V C : Int} {x : List Int} (hx : ∀ v ∈ x, I8 v) (n : Nat) : ∀ v ∈ grL kh kw sh sw w c V C x n, I8 v := fun v hv => by
  obtain ⟨j, -, rfl⟩ := List.mem_map.1 hv
  exact grM_i8 hx _ _ _ _
/-! ### What an op makes -/
def apL (x : List Int) (m s : Int) : List Int := x.map fun v => Fx.apV v m s
def meL (x : List Int) (n : Int) : List Int := x.map fun v => Fx.meV v n
def adL (x y : List Int) : List Int := (List.range x.length).map fun i => x.getD i 0 + y.getD i 0
def fiL (x : List Int) (z lo hi : Int) : List Int := x.map fun v => Fx.fiV v z lo hi
/-- Ahead of their Finish. -/
def vaL (k kh kw sh sw tp lf bt rt sm ss um us p h w c H V C : Int) (zs bs x y : List Int) : List Int :=
  if k ≤ 3 then apL (suL k kh kw sh sw tp lf bt rt h w c C p zs bs x (H * V * C).toNat) sm ss
  else if k = 4 then meL (suL k kh kw sh sw tp lf bt rt h w c C p zs bs x (H * V * C).toNat) (kh * kw)
  else if k = 5 then grL kh kw sh sw w c V C x (H * V * C).toNat
  else if k = 6 then adL (apL x sm ss) (apL y um us)
  else if k = 7 then apL x sm ss
  else x
def teL (k kh kw sh sw tp lf bt rt sm ss um us z p lo hi h w c H V C : Int) (zs bs x y : List Int) : List Int := fiL (vaL k kh kw sh sw tp lf bt rt sm ss um us p h w c H V C zs bs x y) z lo hi
theorem vaL_len {k b m kh kw sh sw tp lf bt rt : Int} {lw lb : Nat} {sm ss um us z p lo hi h w c H V C : Int} (s : Opd k b m kh kw sh sw tp lf bt rt lw lb sm ss um us z p lo hi h w c H V C) {zs bs x y : List Int} (hx : (x.length : Int) = h * w * c) : ((vaL k kh kw sh sw tp lf bt rt sm ss um us p h w c H V C zs bs x y).length : Int) = H * V * C := by
  have hb := (vS_bd s.hB).2
  unfold vaL
  split
  · unfold apL; rw [List.length_map, suL_len]; omega
  split
  · unfold meL; rw [List.length_map, suL_len]; omega
  split
  · rw [grL_len]; omega
  have e : H * V * C = h * w * c := by rw [(s.s6 (by omega)).1, (s.s6 (by omega)).2, s.c3 (by omega)]
  split
  · unfold adL apL; simp; omega
  split
  · unfold apL; simp; omega
  · omega
theorem rq_le {v d X : Int} (hd : 1 ≤ d) (hv : -X ≤ v ∧ v ≤ X) : -X ≤ Fx.rq v d ∧ Fx.rq v d ≤ X := by
  obtain ⟨a1, a2, -⟩ := Fx.rq_size v d hd
  unfold Fx.sizeV at a1 a2
  split at a1 <;> omega
theorem apV_bd {v m s : Int} (hv : -4294967296 ≤ v ∧ v ≤ 4294967296) : -9223372032559808512 ≤ Fx.apV v m s ∧ Fx.apV v m s ≤ 9223372032559808512 := by
  unfold Fx.apV
  split
  · rename_i hs
    split
    · have hm : 1 ≤ m ∧ m ≤ 2147483647 ∧ 0 ≤ s ∧ s ≤ 62 := by unfold Fx.scB at hs; simpa using hs
      exact rq_le (Fx.p2_pos s) (Fx.prod_bd v m hv.1 hv.2 hm.1 hm.2.1)
    · omega
  · omega
theorem apV_i8 {v m s : Int} (hv : I8 v) : -274877906944 ≤ Fx.apV v m s ∧ Fx.apV v m s ≤ 274877906944 := by
  obtain ⟨v1, v2⟩ := hv
  unfold Fx.apV
  split
  · rename_i hs
    split
    · have hm : 1 ≤ m ∧ m ≤ 2147483647 ∧ 0 ≤ s ∧ s ≤ 62 := by unfold Fx.scB at hs; simpa using hs
      have p1 := Int.mul_le_mul_of_nonneg_right v1 (show 0 ≤ m by omega)
      have p2 := Int.mul_le_mul_of_nonneg_right v2 (show 0 ≤ m by omega)
      exact rq_le (Fx.p2_pos s) ⟨by omega, by omega⟩
    · omega
  · omega
theorem fiB_of {z p lo hi : Int} (h : rzB z p lo hi = true) : Fx.fiB z lo hi = true := by
  unfold rzB rgB vlB at h
  unfold Fx.fiB
  simp at h ⊢
  omega
theorem fiV_in {v z lo hi : Int} (h : Fx.fiB z lo hi = true) : lo ≤ Fx.fiV v z lo hi ∧ Fx.fiV v z lo hi ≤ hi := by
  have h' := h
  unfold Fx.fiB at h'
  simp at h'
  unfold Fx.fiV
  rw [if_pos h]
  exact Fx.clamp_in_ends _ _ _ h'.2.1
theorem fiV_i8 {v z lo hi : Int} : I8 (Fx.fiV v z lo hi) := by
  cases h : Fx.fiB z lo hi with
  | true =>
    have := fiV_in (v := v) h
    unfold Fx.fiB at h
    simp at h
    exact ⟨by omega, by omega⟩
  | false =>
    unfold Fx.fiV
    rw [h, if_neg (by decide)]
    exact ⟨by decide, by decide⟩
theorem fiL_i8 (x : List Int) (z lo hi : Int) : ∀ v ∈ fiL x z lo hi, I8 v := fun v hv => by
  obtain ⟨u, -, rfl⟩ := List.mem_map.1 hv
  exact fiV_i8
/-! ### All tensors -/
def opT (o : Nat → Int) (zs bs : List Int) (A B : Int × Int × Int) (x y : List Int) : List Int :=
  teL (o 0) (o 4) (o 5) (o 6) (o 7) (o 8) (o 9) (o 10) (o 11) (o 14) (o 15) (o 16) (o 17) (o 18) (o 19) (o 20) (o 21) A.1 A.2.1 A.2.2 B.1 B.2.1 B.2.2 zs bs x y
def tnL (O : Nat → Nat → Int) (Z B : Nat → List Int) (L : List (Int × Int × Int)) (x : List Int) : Nat → List (List Int)
  | 0 => [x]
  | n + 1 => tnL O Z B L x n ++ [opT (O n) (Z n) (B n) (L.getD (O n 1).toNat (0, 0, 0)) (L.getD (n + 1) (0, 0, 0)) ((tnL O Z B L x n).getD (O n 1).toNat []) ((tnL O Z B L x n).getD (O n 2).toNat [])]
theorem tnL_len (O : Nat → Nat → Int) (Z B : Nat → List Int) (L : List (Int × Int × Int)) (x : List Int) : ∀ n, (tnL O Z B L x n).length = n + 1
  | 0 => rfl
  | n + 1 => by simp [tnL, tnL_len O Z B L x n]
theorem tnL_at (O : Nat → Nat → Int) (Z B : Nat → List Int) (L : List (Int × Int × Int)) (x : List Int) : ∀ (n i : Nat), i ≤ n → (tnL O Z B L x n).getD i [] = (tnL O Z B L x i).getD i []
  | 0, i, hi => by obtain rfl : i = 0 := by omega
                   rfl
  | n + 1, i, hi => by
    by_cases e : i = n + 1
    · rw [e]
    · have := tnL_at O Z B L x n i (by omega)
      rw [← this]
      have hl := tnL_len O Z B L x n
      simp only [tnL, List.getD]
      rw [List.getElem?_append_left (by omega)]
/-- Tensor number i. -/
def tnA (O : Nat → Nat → Int) (Z B : Nat → List Int) (L : List (Int × Int × Int)) (x : List Int) (i : Nat) : List Int := (tnL O Z B L x i).getD i []
theorem tnA_0 (O : Nat → Nat → Int) (Z B : Nat → List Int) (L : List (Int × Int × Int)) (x : List Int) : tnA O Z B L x 0 = x := rfl
theorem tnL_get (O : Nat → Nat → Int) (Z B : Nat → List Int) (L : List (Int × Int × Int)) (x : List Int) {n i : Nat} (hi : i ≤ n) : (tnL O Z B L x n).getD i [] = tnA O Z B L x i := tnL_at O Z B L x n i hi
theorem tnA_succ {O : Nat → Nat → Int} {Z B : Nat → List Int} {L : List (Int × Int × Int)} {x : List Int} {n ja jb : Nat} (ha : O n 1 = (ja : Int)) (hb : O n 2 = (jb : Int)) (h1 : ja ≤ n) (h2 : jb ≤ n) :
    tnA O Z B L x (n + 1) = opT (O n) (Z n) (B n) (L.getD ja (0, 0, 0)) (L.getD (n + 1) (0, 0, 0)) (tnA O Z B L x ja) (tnA O Z B L x jb) := by
  have hl := tnL_len O Z B L x n
  unfold tnA
  simp only [tnL, List.getD]
  rw [List.getElem?_append_right (by omega), show n + 1 - (tnL O Z B L x n).length = 0 by omega]
  rw [ha, hb, Int.toNat_natCast, Int.toNat_natCast]
  have e1 := tnL_at O Z B L x n ja h1
  have e2 := tnL_at O Z B L x n jb h2
  simp only [List.getD] at e1 e2
  rw [e1, e2]
  rfl
theorem tnL_succ {O : Nat → Nat → Int} {Z B : Nat → List Int} {L : List (Int × Int × Int)} {x : List Int} (n : Nat) : tnL O Z B L x (n + 1) = tnL O Z B L x n ++ [tnA O Z B L x (n + 1)] := by
  have hl := tnL_len O Z B L x n
  have : tnA O Z B L x (n + 1) = opT (O n) (Z n) (B n) (L.getD (O n 1).toNat (0, 0, 0)) (L.getD (n + 1) (0, 0, 0)) ((tnL O Z B L x n).getD (O n 1).toNat []) ((tnL O Z B L x n).getD (O n 2).toNat []) := by
    unfold tnA
    simp only [tnL, List.getD]
    rw [List.getElem?_append_right (by omega), show n + 1 - (tnL O Z B L x n).length = 0 by omega]
    rfl
  rw [this]
  rfl
/-- Each has as many numbers as its shape, each of 8 bits. -/
theorem tn_facts {O : Nat → Nat → Int} {Z B : Nat → List Int} {h w c lo hi ot t wk : Int} {on : Nat} {L : List (Int × Int × Int)} {x : List Int} (q : gtR O h w c lo hi ot on = (0, t, L, wk)) (hx : (x.length : Int) = h * w * c) (h8 : ∀ v ∈ x, I8 v) :
    ∀ i, i ≤ on → ((tnA O Z B L x i).length : Int) = (L.getD i (0, 0, 0)).1 * (L.getD i (0, 0, 0)).2.1 * (L.getD i (0, 0, 0)).2.2 ∧ ∀ v ∈ tnA O Z B L x i, I8 v := by
  intro i
  induction i using Nat.strongRecOn with
  | ind i ih =>
    intro hi0
    cases i with
    | zero =>
      have := (gtR_at q).1
      unfold ShA at this
      rw [Int.toNat_natCast] at this
      rw [this]
      exact ⟨hx, h8⟩
    | succ n =>
      obtain ⟨ja, jb, e1, e2, e3, e4, hO⟩ := opd_of q (i := n) (by omega)
      obtain ⟨a1, a2, a3, hA⟩ : ∃ a1 a2 a3, L.getD ja (0, 0, 0) = (a1, a2, a3) := ⟨_, _, _, rfl⟩
      obtain ⟨b1, b2, b3, hB⟩ : ∃ b1 b2 b3, L.getD (n + 1) (0, 0, 0) = (b1, b2, b3) := ⟨_, _, _, rfl⟩
      obtain ⟨s, -⟩ := hO _ _ _ _ _ _ hA hB
      have hl := (ih ja (by omega) (by omega)).1
      rw [hA] at hl
      rw [tnA_succ e1 e3 e2 e4, hA, hB]
      unfold opT teL
      refine ⟨?_, fiL_i8 _ _ _ _⟩
      unfold fiL
      rw [List.length_map]
      exact vaL_len s hl
end Go.Proofs.Ytehofmkpgopmpaa

/- What the small functions of package plain return: places, isInput, widened, scaled, means, added. -/
namespace Go.Proofs.Ytehofmkpgopmpaa
open Go.ChangeShapes Go.WideShapes Go.ChangeAt Go.RowKit
set_option linter.unusedVariables false
theorem btr {a b c : World} (h : Below a.heap.size a b) (k : Below b.heap.size b c) : Below a.heap.size a c := bt h k
theorem wf_i8' {z : Int} (h : (Lit.int .i8 z).wf = true) : I8 z := wf_i8 h
theorem IRow.i8 {w : World} {a : Option Addr} {n c : Nat} {xs : List Int} (h : IRow .i8 w a n c xs) : ∀ v ∈ xs, I8 v := fun v hv => wf_i8 (h.2.2.2.1 v hv)
theorem wf_64 {xs : List Int} {X : Int} (hX : X ≤ 9223372036854775807) (h : ∀ v ∈ xs, -X ≤ v ∧ v ≤ X) : Wf .i64 xs := fun v hv => mk_i64 (by have := h v hv; omega)
theorem getD_mem {xs : List Int} {i : Nat} (h : i < xs.length) : xs.getD i 0 ∈ xs := by rw [List.getD_eq_getElem?_getD, List.getElem?_eq_getElem h]; exact List.getElem_mem h
/-! ### A list that is filled -/
def fil (ys : List Int) (y : Nat) : List Int := ys.take y ++ List.replicate (ys.length - y) 0
theorem fil_len (ys : List Int) {y : Nat} (h : y ≤ ys.length) : (fil ys y).length = ys.length := by simp [fil]; omega
theorem fil_0 (ys : List Int) : fil ys 0 = List.replicate ys.length 0 := by simp [fil]
theorem fil_all (ys : List Int) : fil ys ys.length = ys := by simp [fil]
theorem fil_set {ys : List Int} {y : Nat} (h : y < ys.length) : (fil ys y).set y (ys.getD y 0) = fil ys (y + 1) := by
  unfold fil
  apply List.ext_getElem?
  intro j
  have hl : (ys.take y).length = y := by rw [List.length_take]; omega
  have hl2 : (ys.take (y + 1)).length = y + 1 := by rw [List.length_take]; omega
  by_cases q : j = y
  · subst q
    rw [List.getElem?_set_self (by simp; omega), List.getElem?_append_left (by omega), List.getElem?_take, if_pos (by omega), List.getD_eq_getElem?_getD, List.getElem?_eq_getElem h]
    rfl
  · rw [List.getElem?_set_ne (by omega)]
    by_cases q2 : j < y
    · rw [List.getElem?_append_left (by omega), List.getElem?_append_left (by omega), List.getElem?_take, List.getElem?_take, if_pos q2, if_pos (by omega)]
    · rw [List.getElem?_append_right (by omega), List.getElem?_append_right (by omega), hl, hl2]
      simp only [List.getElem?_replicate]
      by_cases q3 : j < ys.length
      · rw [if_pos (by omega), if_pos (by omega)]
      · rw [if_neg (by omega), if_neg (by omega)]
/-- A block that holds just these numbers. -/
def Bk (k : IntKind) (T : TypeId) (w : World) (g : Nat) (zs : List Int) : Prop := w.heap[g]? = some (.cells (zs.map (Value.int k)).toArray T (0, 0))
theorem Bk.at {k : IntKind} {T : TypeId} {w : World} {g p : Nat} {zs : List Int} (h : Bk k T w g zs) (hp : p < zs.length) : w.cell? ⟨g, p, none⟩ = some (.int k (zs.getD p 0)) ∧ (∀ i, w.frozen? ⟨g, i, none⟩ = false) ∧ g < w.heap.size := by
  have := cells_at h
  exact ⟨by rw [this.1]; simp [List.getD, hp], this.2⟩
theorem Bk.set {k : IntKind} {T : TypeId} {w : World} {g p : Nat} {zs : List Int} (z : Int) (h : Bk k T w g zs) : Bk k T (w.setCell ⟨g, p, none⟩ (.int k z)) g (zs.set p z) := by
  have := heap_setCell_at (i := p) (v := .int k z) h
  unfold Bk
  rw [this]
  simp [List.map_set]
theorem Bk.below {k : IntKind} {T : TypeId} {w w' : World} {g : Nat} {zs : List Int} (h : Bk k T w g zs) (q : Below w.heap.size w w') : Bk k T w' g zs := (q.block g (lt_of_heap h)).trans h
theorem Bk.new {k : IntKind} {T : TypeId} {w : World} {g n : Nat} {zs : List Int} (h : w.heap[g]? = some (.cells (Array.replicate n (Value.int k 0)) T (0, 0))) (hn : zs.length = n) : Bk k T w g (fil zs 0) := by
  unfold Bk
  rw [h, fil_0, hn]
  simp
theorem St.setX {w0 w : World} {l : List (Nat × Array Value × TypeId)} {B i : Nat} {v : Value} (h : St w0 w l) (hB : w0.heap.size ≤ B) (hl : ∀ x ∈ l, x.1 ≠ B) : St w0 (w.setCell ⟨B, i, none⟩ v) l :=
  ⟨h.1.setCell (p := ⟨B, i, none⟩) hB v, fun x hx => ⟨by rw [Below.heap_setCell _ _ _ _ (hl x hx)]; exact (h.2 x hx).1, (h.2 x hx).2⟩⟩
/-! ### The functions -/
theorem places_plain (h w c : Int) (W : World) (g : vS h w c = true) :
    Calls Try.prog 21 #[.agg #[.int .i64 h, .int .i64 w, .int .i64 c]] W fun e w' => e = .returned (.int .i64 (h * w * c)) ∧ Below W.heap.size W w' := by
  have p3 := vS_bd g
  clear g
  go_enter Try.func21, Try.ntmps21
  go_wp2
  go_ret
  exact ⟨rfl, bal _ _⟩
set_option maxHeartbeats 1000000 in
theorem widened_any (a : Option Addr) (n cap : Nat) (xs : List Int) (W : World) (hX : IRow .i8 W a n cap xs) (hn : n ≤ 1000000) :
    Calls Try.prog 41 #[.slice a n cap] W fun e w' => (∃ v, e = .returned v ∧ Own .i64 2 w' W.heap.size v xs) ∧ Below W.heap.size W w' := by
  have hwf : Wf .i64 xs := fun v hv => mk_i64 (by have := hX.i8 v hv; unfold I8 at this; omega)
  have hlen := hX.1
  have HX : Hid (IRow .i8 W a n cap xs) := hX
  have HL : Hid (xs.length = n) := hlen
  clear hX hlen
  go_enter Try.func41, Try.ntmps41
  go_wp2_with (at_make; refine wpList_mak kt_i64 rfl _ rfl n _ rfl rfl (by omega) ?_; intro hnew)
  have hB0 : Bk .i64 2 _ W.heap.size (fil xs 0) := Bk.new hnew HL.out
  have HB0 : Hid (Bk .i64 2 _ W.heap.size (fil xs 0)) := hB0
  clear hnew hB0
  go_loopw [11] (fun i wr => ∃ y : Nat, y ≤ n ∧ i = .int .i64 y ∧ Bk .i64 2 wr W.heap.size (fil xs y) ∧ Below W.heap.size W wr) (fun i _ => n - (intOf i).toNat)
  case atStart => exact ⟨0, Nat.zero_le _, rfl, HB0.out, bal _ _⟩
  case round =>
    obtain ⟨y, hy, rfl, hB, hb⟩ := hrel
    clear HB0
    by_cases hlt : y < n
    · obtain ⟨x, u, rfl, hu, hw8, hz, -⟩ := (HX.out.below hb).at hlt
      obtain ⟨u1, u2⟩ := wf_i8 hw8
      obtain ⟨hc, hf, hs⟩ := hB.at (p := y) (by rw [fil_len _ (by rw [HL.out]; omega), HL.out]; exact hlt)
      have HS : Hid (Bk .i64 2 (wr.setCell ⟨W.heap.size, y, none⟩ (.int .i64 u)) W.heap.size (fil xs (y + 1))) := by
        have := hB.set (p := y) u
        have e : u = xs.getD y 0 := by rw [List.getD_eq_getElem?_getD, hz]; rfl
        rw [e, fil_set (by rw [HL.out]; exact hlt), ← e] at this
        exact this
      clear hB hz hw8
      go_wp2
      go_roundw
      case rel => exact ⟨y + 1, by omega, by go_num, HS.out, hb.setCell (p := ⟨W.heap.size, y, none⟩) (Nat.le_refl _) _⟩
      case measure => simp [intOf]; omega
    · obtain rfl : y = n := by omega
      have hO : Hid (Own .i64 2 wr W.heap.size (.slice (some ⟨W.heap.size, 0, none⟩) y y) xs) := by
        have e := HL.out
        subst e
        rw [fil_all] at hB
        exact own_full hB hwf (by unfold maxLen; omega) (Nat.le_refl _)
      clear hB
      go_wp2
      go_ret
      exact ⟨⟨_, rfl, hO.out⟩, hb⟩
theorem map_at {xs : List Int} {f : Int → Int} {y : Nat} {u : Int} (h : xs[y]? = some u) : (xs.map f).getD y 0 = f u := by rw [List.getD_eq_getElem?_getD, List.getElem?_map, h]; rfl
theorem me_bd {v n : Int} (hn : 1 ≤ n) (hv : -4294967296 ≤ v ∧ v ≤ 4294967296) : -4294967296 ≤ Fx.meV v n ∧ Fx.meV v n ≤ 4294967296 := by
  unfold Fx.meV
  rw [if_neg (by omega)]
  exact rq_le hn hv
set_option maxHeartbeats 1000000 in
theorem scaled_any (m s : Int) (a : Option Addr) (n cap : Nat) (xs : List Int) (W : World) (hX : IRow .i64 W a n cap xs) (hn : n ≤ 1000000) (hbd : ∀ v ∈ xs, -4294967296 ≤ v ∧ v ≤ 4294967296) :
    Calls Try.prog 36 #[.slice a n cap, .agg #[.int .i64 m, .int .i64 s]] W fun e w' => (∃ v, e = .returned v ∧ Own .i64 2 w' W.heap.size v (apL xs m s)) ∧ Below W.heap.size W w' := by
  have hwf : Wf .i64 (apL xs m s) := fun u hu => by
    obtain ⟨v, hv, rfl⟩ := List.mem_map.1 hu
    have := apV_bd (m := m) (s := s) (hbd v hv)
    exact mk_i64 (by omega)
  have hlen := hX.1
  have HX : Hid (IRow .i64 W a n cap xs) := hX
  have HL : Hid ((apL xs m s).length = n) := by unfold Hid apL; rw [List.length_map]; exact hlen
  have s0 := (St.start W).new (c := #[.int .i64 m, .int .i64 s]) (t := 46)
  have HM : Hid (∀ y u, xs[y]? = some u → (apL xs m s).getD y 0 = Fx.apV u m s) := fun y u h => map_at h
  clear hX hlen hbd
  obtain ⟨ys, hys⟩ : ∃ ys, apL xs m s = ys := ⟨_, rfl⟩
  rw [hys] at hwf HL HM ⊢
  clear hys
  go_enter Try.func36, Try.ntmps36
  go_wp2_with (at_make; refine wpList_mak kt_i64 rfl _ rfl n _ rfl rfl (by omega) ?_; intro hnew)
  simp only [World.size_alloc] at hnew
  have HB0 : Hid (Bk .i64 2 _ (W.heap.size + 1) (fil ys 0)) := Bk.new hnew HL.out
  have HS0 : Hid (St W _ _) := s0.skip (.cells (Array.replicate n (Value.int .i64 0)) 2)
  clear hnew s0
  go_loopw [13] (fun i wr => ∃ y : Nat, y ≤ n ∧ i = .int .i64 y ∧ Bk .i64 2 wr (W.heap.size + 1) (fil ys y) ∧ St W wr [(W.heap.size, #[.int .i64 m, .int .i64 s], 46)]) (fun i _ => n - (intOf i).toNat)
  case atStart => exact ⟨0, Nat.zero_le _, rfl, HB0.out, HS0.out⟩
  case round =>
    obtain ⟨y, hy, rfl, hB, sr⟩ := hrel
    clear HB0 HS0
    obtain ⟨c1, f1, z1, -⟩ := sr.rules
    by_cases hlt : y < n
    · obtain ⟨x, u, rfl, hu, -, hz, -⟩ := (HX.out.below sr.below).at hlt
      have HE : Hid (ys.getD y 0 = Fx.apV u m s) := HM.out y u hz
      have HB : Hid (Bk .i64 2 wr (W.heap.size + 1) (fil ys y)) := hB
      clear hB hz
      go_wp2_with fail
      refine (Fx.apply_any u m s _).mono ?_
      rintro e w3 ⟨rfl, hb3⟩
      have s3 := sr.call hb3
      have hB3 := HB.out.below hb3
      obtain ⟨hc, hf, hs⟩ := hB3.at (p := y) (by rw [fil_len _ (by rw [HL.out]; omega), HL.out]; exact hlt)
      have HS : Hid (Bk .i64 2 (w3.setCell ⟨W.heap.size + 1, y, none⟩ (.int .i64 (Fx.apV u m s))) (W.heap.size + 1) (fil ys (y + 1))) := by
        have := hB3.set (p := y) (Fx.apV u m s)
        rw [← HE.out, fil_set (by rw [HL.out]; exact hlt), HE.out] at this
        exact this
      have S3 : Hid (St W w3 _) := s3
      clear hB3 s3 HB hb3 c1 f1 sr
      go_wp2
      go_roundw
      case rel => exact ⟨y + 1, by omega, by go_num, HS.out, S3.out.setX (by omega) (by simp)⟩
      case measure => simp [intOf]; omega
    · obtain rfl : y = n := by omega
      have hO : Hid (Own .i64 2 wr W.heap.size (.slice (some ⟨W.heap.size + 1, 0, none⟩) y y) ys) := by
        have e := HL.out
        subst e
        rw [fil_all] at hB
        exact own_full hB hwf (by unfold maxLen; omega) (by omega)
      have hb := sr.below
      clear hB sr
      go_wp2
      go_ret
      exact ⟨⟨_, rfl, hO.out⟩, hb⟩
set_option maxHeartbeats 1000000 in
theorem means_any (m : Int) (hm : 1 ≤ m ∧ m ≤ 1048576) (a : Option Addr) (n cap : Nat) (xs : List Int) (W : World) (hX : IRow .i64 W a n cap xs) (hn : n ≤ 1000000) (hbd : ∀ v ∈ xs, -4294967296 ≤ v ∧ v ≤ 4294967296) :
    Calls Try.prog 38 #[.slice a n cap, .int .i64 m] W fun e w' => (∃ v, e = .returned v ∧ Own .i64 2 w' W.heap.size v (meL xs m)) ∧ Below W.heap.size W w' := by
  have hwf : Wf .i64 (meL xs m) := fun u hu => by
    obtain ⟨v, hv, rfl⟩ := List.mem_map.1 hu
    have := me_bd hm.1 (hbd v hv)
    exact mk_i64 (by omega)
  have hlen := hX.1
  have HX : Hid (IRow .i64 W a n cap xs) := hX
  have HL : Hid ((meL xs m).length = n) := by unfold Hid meL; rw [List.length_map]; exact hlen
  have HM : Hid (∀ y u, xs[y]? = some u → (meL xs m).getD y 0 = Fx.meV u m) := fun y u h => map_at h
  clear hX hlen hbd
  obtain ⟨ys, hys⟩ : ∃ ys, meL xs m = ys := ⟨_, rfl⟩
  rw [hys] at hwf HL HM ⊢
  clear hys
  go_enter Try.func38, Try.ntmps38
  go_wp2_with (at_make; refine wpList_mak kt_i64 rfl _ rfl n _ rfl rfl (by omega) ?_; intro hnew)
  have HB0 : Hid (Bk .i64 2 _ W.heap.size (fil ys 0)) := Bk.new hnew HL.out
  clear hnew
  go_loopw [13] (fun i wr => ∃ y : Nat, y ≤ n ∧ i = .int .i64 y ∧ Bk .i64 2 wr W.heap.size (fil ys y) ∧ Below W.heap.size W wr) (fun i _ => n - (intOf i).toNat)
  case atStart => exact ⟨0, Nat.zero_le _, rfl, HB0.out, bal _ _⟩
  case round =>
    obtain ⟨y, hy, rfl, hB, hb⟩ := hrel
    clear HB0
    by_cases hlt : y < n
    · obtain ⟨x, u, rfl, hu, hw6, hz, -⟩ := (HX.out.below hb).at hlt
      have HE : Hid (ys.getD y 0 = Fx.meV u m) := HM.out y u hz
      have HB : Hid (Bk .i64 2 wr W.heap.size (fil ys y)) := hB
      have HU : Hid (I64 u) := I64_of_wf hw6
      clear hB hz hw6
      go_wp2_with fail
      refine (Fx.mean_any u m _ HU.out (by unfold I64; omega)).mono ?_
      rintro e w3 ⟨rfl, hb3⟩
      have hb4 := bt hb hb3
      have hB3 := HB.out.below hb3
      obtain ⟨hc, hf, hs⟩ := hB3.at (p := y) (by rw [fil_len _ (by rw [HL.out]; omega), HL.out]; exact hlt)
      have HS : Hid (Bk .i64 2 (w3.setCell ⟨W.heap.size, y, none⟩ (.int .i64 (Fx.meV u m))) W.heap.size (fil ys (y + 1))) := by
        have := hB3.set (p := y) (Fx.meV u m)
        rw [← HE.out, fil_set (by rw [HL.out]; exact hlt), HE.out] at this
        exact this
      clear hB3 HB hb3 hb
      go_wp2
      go_roundw
      case rel => exact ⟨y + 1, by omega, by go_num, HS.out, hb4.setCell (p := ⟨W.heap.size, y, none⟩) (Nat.le_refl _) _⟩
      case measure => simp [intOf]; omega
    · obtain rfl : y = n := by omega
      have hO : Hid (Own .i64 2 wr W.heap.size (.slice (some ⟨W.heap.size, 0, none⟩) y y) ys) := by
        have e := HL.out
        subst e
        rw [fil_all] at hB
        exact own_full hB hwf (by unfold maxLen; omega) (Nat.le_refl _)
      clear hB
      go_wp2
      go_ret
      exact ⟨⟨_, rfl, hO.out⟩, hb⟩
set_option maxHeartbeats 2000000 in
theorem added_any (a b : Option Addr) (n cap cb : Nat) (xs ys : List Int) (W : World) (hX : IRow .i64 W a n cap xs) (hY : IRow .i64 W b n cb ys) (hn : n ≤ 1000000) (hbx : ∀ v ∈ xs, -274877906944 ≤ v ∧ v ≤ 274877906944) (hby : ∀ v ∈ ys, -274877906944 ≤ v ∧ v ≤ 274877906944) :
    Calls Try.prog 40 #[.slice a n cap, .slice b n cb] W fun e w' => (∃ v, e = .returned v ∧ Own .i64 2 w' W.heap.size v (adL xs ys)) ∧ Below W.heap.size W w' := by
  have hlx := hX.1
  have hly := hY.1
  have HM : Hid (∀ y u v, xs[y]? = some u → ys[y]? = some v → (adL xs ys).getD y 0 = u + v) := fun y u v h g => by
    have hy : y < xs.length := (List.getElem?_eq_some_iff.1 h).1
    have e := (List.getElem?_eq_some_iff.1 h).2
    simp [adL, List.getD, hy, g, e]
  have hwf : Wf .i64 (adL xs ys) := fun u hu => by
    obtain ⟨i, hi, rfl⟩ := List.mem_map.1 hu
    have hi' : i < xs.length := by simpa using hi
    have h1 := hbx _ (getD_mem hi')
    have h2 := hby _ (getD_mem (show i < ys.length by omega))
    exact mk_i64 (by omega)
  have HX : Hid (IRow .i64 W a n cap xs) := hX
  have HY : Hid (IRow .i64 W b n cb ys) := hY
  have HBX : Hid (∀ v ∈ xs, -274877906944 ≤ v ∧ v ≤ 274877906944) := hbx
  have HBY : Hid (∀ v ∈ ys, -274877906944 ≤ v ∧ v ≤ 274877906944) := hby
  have HL : Hid ((adL xs ys).length = n) := by unfold Hid adL; simpa using hlx
  clear hX hY hbx hby hlx hly
  obtain ⟨zs, hzs⟩ : ∃ zs, adL xs ys = zs := ⟨_, rfl⟩
  rw [hzs] at hwf HL HM ⊢
  clear hzs
  go_enter Try.func40, Try.ntmps40
  go_wp2_with (at_make; refine wpList_mak kt_i64 rfl _ rfl n _ rfl rfl (by omega) ?_; intro hnew)
  have HB0 : Hid (Bk .i64 2 _ W.heap.size (fil zs 0)) := Bk.new hnew HL.out
  clear hnew
  go_loopw [12] (fun i wr => ∃ y : Nat, y ≤ n ∧ i = .int .i64 y ∧ Bk .i64 2 wr W.heap.size (fil zs y) ∧ Below W.heap.size W wr) (fun i _ => n - (intOf i).toNat)
  case atStart => exact ⟨0, Nat.zero_le _, rfl, HB0.out, bal _ _⟩
  case round =>
    obtain ⟨y, hy, rfl, hB, hb⟩ := hrel
    clear HB0
    by_cases hlt : y < n
    · obtain ⟨x, u, rfl, hu, -, hz, -⟩ := (HX.out.below hb).at hlt
      obtain ⟨x', v, rfl, hv, -, hz', -⟩ := (HY.out.below hb).at hlt
      have HE : Hid (zs.getD y 0 = u + v) := HM.out y u v hz hz'
      obtain ⟨u1, u2⟩ := HBX.out u (List.mem_of_getElem? hz)
      obtain ⟨v1, v2⟩ := HBY.out v (List.mem_of_getElem? hz')
      obtain ⟨hc, hf, hs⟩ := hB.at (p := y) (by rw [fil_len _ (by rw [HL.out]; omega), HL.out]; exact hlt)
      have HS : Hid (∀ m, Bk .i64 2 ((wr.drewN m).setCell ⟨W.heap.size, y, none⟩ (.int .i64 (u + v))) W.heap.size (fil zs (y + 1))) := fun m => by
        have := (hB.below (dbel wr m)).set (p := y) (u + v)
        rw [← HE.out, fil_set (by rw [HL.out]; exact hlt), HE.out] at this
        exact this
      have HBb : Hid (Below W.heap.size W wr) := hb
      clear hB hb hz hz'
      go_wp2
      go_region_law (fail)
      all_goals
        go_wp2
        go_roundw
        case rel => exact ⟨y + 1, by omega, by go_num, HS.out 1, (bt HBb.out (dbel wr 1)).setCell (p := ⟨W.heap.size, y, none⟩) (Nat.le_refl _) _⟩
        case measure => simp [intOf]; omega
    · obtain rfl : y = n := by omega
      have hO : Hid (Own .i64 2 wr W.heap.size (.slice (some ⟨W.heap.size, 0, none⟩) y y) zs) := by
        have e := HL.out
        subst e
        rw [fil_all] at hB
        exact own_full hB hwf (by unfold maxLen; omega) (Nat.le_refl _)
      clear hB
      go_wp2
      go_ret
      exact ⟨⟨_, rfl, hO.out⟩, hb⟩
/-! ### Is it an input? -/
def inB (h w c lo hi : Int) (xs : List Int) : Bool := decide ((xs.length : Int) = h * w * c ∧ ∀ v ∈ xs, lo ≤ v ∧ v ≤ hi)
theorem inB_yes {h w c lo hi : Int} {xs : List Int} (g : inB h w c lo hi xs = true) : (xs.length : Int) = h * w * c ∧ ∀ v ∈ xs, lo ≤ v ∧ v ≤ hi := of_decide_eq_true g
theorem inB_no {h w c lo hi v : Int} {xs : List Int} {i : Nat} (hv : xs[i]? = some v) (g : ¬ (lo ≤ v ∧ v ≤ hi)) : inB h w c lo hi xs = false := decide_eq_false fun q => g (q.2 v (List.mem_of_getElem? hv))
theorem take_all {xs : List Int} {P : Int → Prop} {y : Nat} {v : Int} (h : ∀ u ∈ xs.take y, P u) (hv : xs[y]? = some v) (hp : P v) : ∀ u ∈ xs.take (y + 1), P u := fun u hu => by
  rw [List.take_add_one, hv] at hu
  rcases List.mem_append.1 hu with q | q
  · exact h u q
  · simp at q; rw [q]; exact hp
set_option maxHeartbeats 1000000 in
theorem isinput_any (h w c lo hi ot : Int) (oa : Option Addr) (on oc : Nat) (a : Option Addr) (n cap : Nat) (xs : List Int) (W : World) (hX : IRow .i8 W a n cap xs) (g : vS h w c = true) :
    Calls Try.prog 13 #[.agg #[.int .i64 h, .int .i64 w, .int .i64 c, .int .i64 lo, .int .i64 hi, .slice oa on oc, .int .i64 ot], .slice a n cap] W fun e w' => e = .returned (.bool (inB h w c lo hi xs)) ∧ Below W.heap.size W w' := by
  have hlen := hX.1
  have HX : Hid (IRow .i8 W a n cap xs) := hX
  have HL : Hid (xs.length = n) := hlen
  have hcap := hX.2.1
  have hcm := hX.2.2.1
  unfold maxLen at hcm
  have s0 := (St.start W).new (c := #[.int .i64 h, .int .i64 w, .int .i64 c, .int .i64 lo, .int .i64 hi, .slice oa on oc, .int .i64 ot]) (t := 26)
  have HG : Hid (vS h w c = true) := g
  have p3 := (vS_bd g).2
  obtain ⟨N, hN⟩ : ∃ N, h * w * c = N := ⟨_, rfl⟩
  have hP : Hid (∀ W, Calls Try.prog 21 #[.agg #[.int .i64 h, .int .i64 w, .int .i64 c]] W fun e w' => e = .returned (.int .i64 N) ∧ Below W.heap.size W w') := fun W => by rw [← hN]; exact places_plain h w c W HG.out
  rw [hN] at p3
  clear hX hlen g
  by_cases hnN : (n : Int) = N
  rotate_left
  · have hD : Hid (inB h w c lo hi xs = false) := decide_eq_false fun q => hnN (by rw [← hN, ← q.1, HL.out])
    have hne : ((n : Int) == N) = false := by simp [hnN]
    rw [hD.out]
    clear hN
    go_enter Try.func13, Try.ntmps13
    go_wp2_with fail
    refine (hP.out _).mono ?_
    rintro e w1 ⟨rfl, hb'⟩
    have s1 := s0.call hb'
    clear hb'
    try simp only [World.size_setCell] at s1
    try simp only [World.size_alloc] at s1
    obtain ⟨c1, f1, zw1_1, -⟩ := s1.rules
    go_wp2
    go_ret
    exact ⟨rfl, s1.below⟩
  · have HD : Hid ((∀ v ∈ xs, lo ≤ v ∧ v ≤ hi) → inB h w c lo hi xs = true) := fun q => decide_eq_true ⟨by rw [HL.out, hN]; exact hnN, q⟩
    clear hN
    go_enter Try.func13, Try.ntmps13
    go_wp2_with fail
    refine (hP.out _).mono ?_
    rintro e w1 ⟨rfl, hb'⟩
    have s1 := s0.call hb'
    clear hb'
    try simp only [World.size_setCell] at s1
    try simp only [World.size_alloc] at s1
    obtain ⟨c1, f1, zw1_1, -⟩ := s1.rules
    go_wp2
    go_loopw [15] (fun i wr => ∃ y : Nat, y ≤ n ∧ i = .int .i64 y ∧ (∀ u ∈ xs.take y, lo ≤ u ∧ u ≤ hi) ∧ St W wr [(W.heap.size, #[.int .i64 h, .int .i64 w, .int .i64 c, .int .i64 lo, .int .i64 hi, .slice oa on oc, .int .i64 ot], 26)]) (fun i _ => n - (intOf i).toNat)
    case atStart => exact ⟨0, Nat.zero_le _, rfl, by simp, s1⟩
    case round =>
      obtain ⟨y, hy, rfl, hall, sr⟩ := hrel
      clear c1 f1
      obtain ⟨c1, f1, z1, -⟩ := sr.rules
      by_cases hlt : y < n
      · obtain ⟨x, u, rfl, hu, hw8, hz, -⟩ := (HX.out.below sr.below).at hlt
        obtain ⟨u1, u2⟩ := wf_i8 hw8
        have HA : Hid (∀ u ∈ xs.take y, lo ≤ u ∧ u ≤ hi) := hall
        have HZ : Hid (xs[y]? = some u) := hz
        clear hall hz hw8
        by_cases ul : u < lo
        · have hD : Hid (inB h w c lo hi xs = false) := inB_no HZ.out (by omega)
          go_wp2
          go_ret
          exact ⟨retB hD.out.symm, sr.below⟩
        · by_cases uh : hi < u
          · have hD : Hid (inB h w c lo hi xs = false) := inB_no HZ.out (by omega)
            go_wp2
            go_ret
            exact ⟨retB hD.out.symm, sr.below⟩
          · have HA2 : Hid (∀ u ∈ xs.take (y + 1), lo ≤ u ∧ u ≤ hi) := take_all HA.out HZ.out ⟨by omega, by omega⟩
            go_wp2
            go_roundw
            case rel => exact ⟨y + 1, by omega, by go_num, HA2.out, sr⟩
            case measure => simp [intOf]; omega
      · obtain rfl : y = n := by omega
        have hD : Hid (inB h w c lo hi xs = true) := HD.out (by rw [← HL.out, List.take_length] at hall; exact hall)
        clear hall
        go_wp2
        go_ret
        exact ⟨retB hD.out.symm, sr.below⟩
end Go.Proofs.Ytehofmkpgopmpaa

/- What the small functions of package kern return: places, widened, scaled, means, added (made by tools/gen/Kr.py). -/
namespace Go.Proofs.Ytehofmkpgopmpaa.Kr
open Go.ChangeShapes Go.WideShapes Go.ChangeAt Go.RowKit
set_option linter.unusedVariables false
theorem places_plain (h w c : Int) (W : World) (g : vS h w c = true) :
    Calls Try.prog 17 #[.agg #[.int .i64 h, .int .i64 w, .int .i64 c]] W fun e w' => e = .returned (.int .i64 (h * w * c)) ∧ Below W.heap.size W w' := by
  have p3 := vS_bd g
  clear g
  go_enter Try.func17, Try.ntmps17
  go_wp2
  go_ret
  exact ⟨rfl, bal _ _⟩
set_option maxHeartbeats 1000000 in
theorem widened_any (a : Option Addr) (n cap : Nat) (xs : List Int) (W : World) (hX : IRow .i8 W a n cap xs) (hn : n ≤ 1000000) :
    Calls Try.prog 27 #[.slice a n cap] W fun e w' => (∃ v, e = .returned v ∧ Own .i64 2 w' W.heap.size v xs) ∧ Below W.heap.size W w' := by
  have hwf : Wf .i64 xs := fun v hv => mk_i64 (by have := hX.i8 v hv; unfold I8 at this; omega)
  have hlen := hX.1
  have HX : Hid (IRow .i8 W a n cap xs) := hX
  have HL : Hid (xs.length = n) := hlen
  clear hX hlen
  go_enter Try.func27, Try.ntmps27
  go_wp2_with (at_make; refine wpList_mak kt_i64 rfl _ rfl n _ rfl rfl (by omega) ?_; intro hnew)
  have hB0 : Bk .i64 2 _ W.heap.size (fil xs 0) := Bk.new hnew HL.out
  have HB0 : Hid (Bk .i64 2 _ W.heap.size (fil xs 0)) := hB0
  clear hnew hB0
  go_loopw [11] (fun i wr => ∃ y : Nat, y ≤ n ∧ i = .int .i64 y ∧ Bk .i64 2 wr W.heap.size (fil xs y) ∧ Below W.heap.size W wr) (fun i _ => n - (intOf i).toNat)
  case atStart => exact ⟨0, Nat.zero_le _, rfl, HB0.out, bal _ _⟩
  case round =>
    obtain ⟨y, hy, rfl, hB, hb⟩ := hrel
    clear HB0
    by_cases hlt : y < n
    · obtain ⟨x, u, rfl, hu, hw8, hz, -⟩ := (HX.out.below hb).at hlt
      obtain ⟨u1, u2⟩ := wf_i8 hw8
      obtain ⟨hc, hf, hs⟩ := hB.at (p := y) (by rw [fil_len _ (by rw [HL.out]; omega), HL.out]; exact hlt)
      have HS : Hid (Bk .i64 2 (wr.setCell ⟨W.heap.size, y, none⟩ (.int .i64 u)) W.heap.size (fil xs (y + 1))) := by
        have := hB.set (p := y) u
        have e : u = xs.getD y 0 := by rw [List.getD_eq_getElem?_getD, hz]; rfl
        rw [e, fil_set (by rw [HL.out]; exact hlt), ← e] at this
        exact this
      clear hB hz hw8
      go_wp2
      go_roundw
      case rel => exact ⟨y + 1, by omega, by go_num, HS.out, hb.setCell (p := ⟨W.heap.size, y, none⟩) (Nat.le_refl _) _⟩
      case measure => simp [intOf]; omega
    · obtain rfl : y = n := by omega
      have hO : Hid (Own .i64 2 wr W.heap.size (.slice (some ⟨W.heap.size, 0, none⟩) y y) xs) := by
        have e := HL.out
        subst e
        rw [fil_all] at hB
        exact own_full hB hwf (by unfold maxLen; omega) (Nat.le_refl _)
      clear hB
      go_wp2
      go_ret
      exact ⟨⟨_, rfl, hO.out⟩, hb⟩
set_option maxHeartbeats 1000000 in
theorem scaled_any (m s : Int) (a : Option Addr) (n cap : Nat) (xs : List Int) (W : World) (hX : IRow .i64 W a n cap xs) (hn : n ≤ 1000000) (hbd : ∀ v ∈ xs, -4294967296 ≤ v ∧ v ≤ 4294967296) :
    Calls Try.prog 29 #[.slice a n cap, .agg #[.int .i64 m, .int .i64 s]] W fun e w' => (∃ v, e = .returned v ∧ Own .i64 2 w' W.heap.size v (apL xs m s)) ∧ Below W.heap.size W w' := by
  have hwf : Wf .i64 (apL xs m s) := fun u hu => by
    obtain ⟨v, hv, rfl⟩ := List.mem_map.1 hu
    have := apV_bd (m := m) (s := s) (hbd v hv)
    exact mk_i64 (by omega)
  have hlen := hX.1
  have HX : Hid (IRow .i64 W a n cap xs) := hX
  have HL : Hid ((apL xs m s).length = n) := by unfold Hid apL; rw [List.length_map]; exact hlen
  have s0 := (St.start W).new (c := #[.int .i64 m, .int .i64 s]) (t := 46)
  have HM : Hid (∀ y u, xs[y]? = some u → (apL xs m s).getD y 0 = Fx.apV u m s) := fun y u h => map_at h
  clear hX hlen hbd
  obtain ⟨ys, hys⟩ : ∃ ys, apL xs m s = ys := ⟨_, rfl⟩
  rw [hys] at hwf HL HM ⊢
  clear hys
  go_enter Try.func29, Try.ntmps29
  go_wp2_with (at_make; refine wpList_mak kt_i64 rfl _ rfl n _ rfl rfl (by omega) ?_; intro hnew)
  simp only [World.size_alloc] at hnew
  have HB0 : Hid (Bk .i64 2 _ (W.heap.size + 1) (fil ys 0)) := Bk.new hnew HL.out
  have HS0 : Hid (St W _ _) := s0.skip (.cells (Array.replicate n (Value.int .i64 0)) 2)
  clear hnew s0
  go_loopw [13] (fun i wr => ∃ y : Nat, y ≤ n ∧ i = .int .i64 y ∧ Bk .i64 2 wr (W.heap.size + 1) (fil ys y) ∧ St W wr [(W.heap.size, #[.int .i64 m, .int .i64 s], 46)]) (fun i _ => n - (intOf i).toNat)
  case atStart => exact ⟨0, Nat.zero_le _, rfl, HB0.out, HS0.out⟩
  case round =>
    obtain ⟨y, hy, rfl, hB, sr⟩ := hrel
    clear HB0 HS0
    obtain ⟨c1, f1, z1, -⟩ := sr.rules
    by_cases hlt : y < n
    · obtain ⟨x, u, rfl, hu, -, hz, -⟩ := (HX.out.below sr.below).at hlt
      have HE : Hid (ys.getD y 0 = Fx.apV u m s) := HM.out y u hz
      have HB : Hid (Bk .i64 2 wr (W.heap.size + 1) (fil ys y)) := hB
      clear hB hz
      go_wp2_with fail
      refine (Fx.apply_any u m s _).mono ?_
      rintro e w3 ⟨rfl, hb3⟩
      have s3 := sr.call hb3
      have hB3 := HB.out.below hb3
      obtain ⟨hc, hf, hs⟩ := hB3.at (p := y) (by rw [fil_len _ (by rw [HL.out]; omega), HL.out]; exact hlt)
      have HS : Hid (Bk .i64 2 (w3.setCell ⟨W.heap.size + 1, y, none⟩ (.int .i64 (Fx.apV u m s))) (W.heap.size + 1) (fil ys (y + 1))) := by
        have := hB3.set (p := y) (Fx.apV u m s)
        rw [← HE.out, fil_set (by rw [HL.out]; exact hlt), HE.out] at this
        exact this
      have S3 : Hid (St W w3 _) := s3
      clear hB3 s3 HB hb3 c1 f1 sr
      go_wp2
      go_roundw
      case rel => exact ⟨y + 1, by omega, by go_num, HS.out, S3.out.setX (by omega) (by simp)⟩
      case measure => simp [intOf]; omega
    · obtain rfl : y = n := by omega
      have hO : Hid (Own .i64 2 wr W.heap.size (.slice (some ⟨W.heap.size + 1, 0, none⟩) y y) ys) := by
        have e := HL.out
        subst e
        rw [fil_all] at hB
        exact own_full hB hwf (by unfold maxLen; omega) (by omega)
      have hb := sr.below
      clear hB sr
      go_wp2
      go_ret
      exact ⟨⟨_, rfl, hO.out⟩, hb⟩
set_option maxHeartbeats 1000000 in
theorem means_any (m : Int) (hm : 1 ≤ m ∧ m ≤ 1048576) (a : Option Addr) (n cap : Nat) (xs : List Int) (W : World) (hX : IRow .i64 W a n cap xs) (hn : n ≤ 1000000) (hbd : ∀ v ∈ xs, -4294967296 ≤ v ∧ v ≤ 4294967296) :
    Calls Try.prog 30 #[.slice a n cap, .int .i64 m] W fun e w' => (∃ v, e = .returned v ∧ Own .i64 2 w' W.heap.size v (meL xs m)) ∧ Below W.heap.size W w' := by
  have hwf : Wf .i64 (meL xs m) := fun u hu => by
    obtain ⟨v, hv, rfl⟩ := List.mem_map.1 hu
    have := me_bd hm.1 (hbd v hv)
    exact mk_i64 (by omega)
  have hlen := hX.1
  have HX : Hid (IRow .i64 W a n cap xs) := hX
  have HL : Hid ((meL xs m).length = n) := by unfold Hid meL; rw [List.length_map]; exact hlen
  have HM : Hid (∀ y u, xs[y]? = some u → (meL xs m).getD y 0 = Fx.meV u m) := fun y u h => map_at h
  clear hX hlen hbd
  obtain ⟨ys, hys⟩ : ∃ ys, meL xs m = ys := ⟨_, rfl⟩
  rw [hys] at hwf HL HM ⊢
  clear hys
  go_enter Try.func30, Try.ntmps30
  go_wp2_with (at_make; refine wpList_mak kt_i64 rfl _ rfl n _ rfl rfl (by omega) ?_; intro hnew)
  have HB0 : Hid (Bk .i64 2 _ W.heap.size (fil ys 0)) := Bk.new hnew HL.out
  clear hnew
  go_loopw [13] (fun i wr => ∃ y : Nat, y ≤ n ∧ i = .int .i64 y ∧ Bk .i64 2 wr W.heap.size (fil ys y) ∧ Below W.heap.size W wr) (fun i _ => n - (intOf i).toNat)
  case atStart => exact ⟨0, Nat.zero_le _, rfl, HB0.out, bal _ _⟩
  case round =>
    obtain ⟨y, hy, rfl, hB, hb⟩ := hrel
    clear HB0
    by_cases hlt : y < n
    · obtain ⟨x, u, rfl, hu, hw6, hz, -⟩ := (HX.out.below hb).at hlt
      have HE : Hid (ys.getD y 0 = Fx.meV u m) := HM.out y u hz
      have HB : Hid (Bk .i64 2 wr W.heap.size (fil ys y)) := hB
      have HU : Hid (I64 u) := I64_of_wf hw6
      clear hB hz hw6
      go_wp2_with fail
      refine (Fx.mean_any u m _ HU.out (by unfold I64; omega)).mono ?_
      rintro e w3 ⟨rfl, hb3⟩
      have hb4 := bt hb hb3
      have hB3 := HB.out.below hb3
      obtain ⟨hc, hf, hs⟩ := hB3.at (p := y) (by rw [fil_len _ (by rw [HL.out]; omega), HL.out]; exact hlt)
      have HS : Hid (Bk .i64 2 (w3.setCell ⟨W.heap.size, y, none⟩ (.int .i64 (Fx.meV u m))) W.heap.size (fil ys (y + 1))) := by
        have := hB3.set (p := y) (Fx.meV u m)
        rw [← HE.out, fil_set (by rw [HL.out]; exact hlt), HE.out] at this
        exact this
      clear hB3 HB hb3 hb
      go_wp2
      go_roundw
      case rel => exact ⟨y + 1, by omega, by go_num, HS.out, hb4.setCell (p := ⟨W.heap.size, y, none⟩) (Nat.le_refl _) _⟩
      case measure => simp [intOf]; omega
    · obtain rfl : y = n := by omega
      have hO : Hid (Own .i64 2 wr W.heap.size (.slice (some ⟨W.heap.size, 0, none⟩) y y) ys) := by
        have e := HL.out
        subst e
        rw [fil_all] at hB
        exact own_full hB hwf (by unfold maxLen; omega) (Nat.le_refl _)
      clear hB
      go_wp2
      go_ret
      exact ⟨⟨_, rfl, hO.out⟩, hb⟩
set_option maxHeartbeats 2000000 in
theorem added_any (a b : Option Addr) (n cap cb : Nat) (xs ys : List Int) (W : World) (hX : IRow .i64 W a n cap xs) (hY : IRow .i64 W b n cb ys) (hn : n ≤ 1000000) (hbx : ∀ v ∈ xs, -274877906944 ≤ v ∧ v ≤ 274877906944) (hby : ∀ v ∈ ys, -274877906944 ≤ v ∧ v ≤ 274877906944) :
    Calls Try.prog 32 #[.slice a n cap, .slice b n cb] W fun e w' => (∃ v, e = .returned v ∧ Own .i64 2 w' W.heap.size v (adL xs ys)) ∧ Below W.heap.size W w' := by
  have hlx := hX.1
  have hly := hY.1
  have HM : Hid (∀ y u v, xs[y]? = some u → ys[y]? = some v → (adL xs ys).getD y 0 = u + v) := fun y u v h g => by
    have hy : y < xs.length := (List.getElem?_eq_some_iff.1 h).1
    have e := (List.getElem?_eq_some_iff.1 h).2
    simp [adL, List.getD, hy, g, e]
  have hwf : Wf .i64 (adL xs ys) := fun u hu => by
    obtain ⟨i, hi, rfl⟩ := List.mem_map.1 hu
    have hi' : i < xs.length := by simpa using hi
    have h1 := hbx _ (getD_mem hi')
    have h2 := hby _ (getD_mem (show i < ys.length by omega))
    exact mk_i64 (by omega)
  have HX : Hid (IRow .i64 W a n cap xs) := hX
  have HY : Hid (IRow .i64 W b n cb ys) := hY
  have HBX : Hid (∀ v ∈ xs, -274877906944 ≤ v ∧ v ≤ 274877906944) := hbx
  have HBY : Hid (∀ v ∈ ys, -274877906944 ≤ v ∧ v ≤ 274877906944) := hby
  have HL : Hid ((adL xs ys).length = n) := by unfold Hid adL; simpa using hlx
  clear hX hY hbx hby hlx hly
  obtain ⟨zs, hzs⟩ : ∃ zs, adL xs ys = zs := ⟨_, rfl⟩
  rw [hzs] at hwf HL HM ⊢
  clear hzs
  go_enter Try.func32, Try.ntmps32
  go_wp2_with (at_make; refine wpList_mak kt_i64 rfl _ rfl n _ rfl rfl (by omega) ?_; intro hnew)
  have HB0 : Hid (Bk .i64 2 _ W.heap.size (fil zs 0)) := Bk.new hnew HL.out
  clear hnew
  go_loopw [12] (fun i wr => ∃ y : Nat, y ≤ n ∧ i = .int .i64 y ∧ Bk .i64 2 wr W.heap.size (fil zs y) ∧ Below W.heap.size W wr) (fun i _ => n - (intOf i).toNat)
  case atStart => exact ⟨0, Nat.zero_le _, rfl, HB0.out, bal _ _⟩
  case round =>
    obtain ⟨y, hy, rfl, hB, hb⟩ := hrel
    clear HB0
    by_cases hlt : y < n
    · obtain ⟨x, u, rfl, hu, -, hz, -⟩ := (HX.out.below hb).at hlt
      obtain ⟨x', v, rfl, hv, -, hz', -⟩ := (HY.out.below hb).at hlt
      have HE : Hid (zs.getD y 0 = u + v) := HM.out y u v hz hz'
      obtain ⟨u1, u2⟩ := HBX.out u (List.mem_of_getElem? hz)
      obtain ⟨v1, v2⟩ := HBY.out v (List.mem_of_getElem? hz')
      obtain ⟨hc, hf, hs⟩ := hB.at (p := y) (by rw [fil_len _ (by rw [HL.out]; omega), HL.out]; exact hlt)
      have HS : Hid (∀ m, Bk .i64 2 ((wr.drewN m).setCell ⟨W.heap.size, y, none⟩ (.int .i64 (u + v))) W.heap.size (fil zs (y + 1))) := fun m => by
        have := (hB.below (dbel wr m)).set (p := y) (u + v)
        rw [← HE.out, fil_set (by rw [HL.out]; exact hlt), HE.out] at this
        exact this
      have HBb : Hid (Below W.heap.size W wr) := hb
      clear hB hb hz hz'
      go_wp2
      go_region_law (fail)
      all_goals
        go_wp2
        go_roundw
        case rel => exact ⟨y + 1, by omega, by go_num, HS.out 1, (bt HBb.out (dbel wr 1)).setCell (p := ⟨W.heap.size, y, none⟩) (Nat.le_refl _) _⟩
        case measure => simp [intOf]; omega
    · obtain rfl : y = n := by omega
      have hO : Hid (Own .i64 2 wr W.heap.size (.slice (some ⟨W.heap.size, 0, none⟩) y y) zs) := by
        have e := HL.out
        subst e
        rw [fil_all] at hB
        exact own_full hB hwf (by unfold maxLen; omega) (Nat.le_refl _)
      clear hB
      go_wp2
      go_ret
      exact ⟨⟨_, rfl, hO.out⟩, hb⟩
end Go.Proofs.Ytehofmkpgopmpaa.Kr

/- What the small functions of package terms return: how many terms, channels and positions an op has; its bias; a weight; the channels that are read; a place. -/
namespace Go.Proofs.Ytehofmkpgopmpaa
open Go.ChangeShapes Go.WideShapes Go.ChangeAt Go.RowKit
set_option linter.unusedVariables false
theorem Sit.win {k kh kw sh sw tp lf bt rt h w c H V C : Int} {lw lb : Nat} (s : Sit k kh kw sh sw tp lf bt rt h w c H V C lw lb) (q : k ≠ 1) : (1 ≤ kh ∧ kh ≤ 32) ∧ (1 ≤ kw ∧ kw ≤ 32) := s.2.2.2.2.2.1 (by have := s.1; omega)
set_option maxHeartbeats 1000000 in
theorem tlen_1 (a b m kh kw sh sw tp lf bt rt : Int) (wa : Option Addr) (lw wc : Nat) (ba : Option Addr) (lb bc : Nat) (sm ss um us z p lo hi h w c H V C : Int) (r : Nat) (W : World) (hr : W.heap[r]? = some (.cells #[.int .i64 1, .int .i64 a, .int .i64 b, .int .i64 m, .int .i64 kh, .int .i64 kw, .int .i64 sh, .int .i64 sw, .int .i64 tp, .int .i64 lf, .int .i64 bt, .int .i64 rt, .slice wa lw wc, .slice ba lb bc, .int .i64 sm, .int .i64 ss, .int .i64 um, .int .i64 us, .int .i64 z, .int .i64 p, .int .i64 lo, .int .i64 hi, .int .i64 h, .int .i64 w, .int .i64 c, .int .i64 H, .int .i64 V, .int .i64 C] 106 (0, 0))) (g : vS h w c = true) (hw : (1 : Int) ≠ 1 → (1 ≤ kh ∧ kh ≤ 32) ∧ (1 ≤ kw ∧ kw ≤ 32)) :
    Calls Try.prog 45 #[.pointer (some ⟨r, 0, none⟩)] W fun e w' => e = .returned (.int .i64 (stR 1 kh kw h w c)) ∧ ∃ n, w' = W.drewN n := by
  have p3 : (1 ≤ h * w ∧ h * w ≤ 1048576) ∧ (1 ≤ h * w * c ∧ h * w * c ≤ 16384) := vS_bd g
  have c1 := (vS_yes g).2.2.1
  have hp : (1 : Int) ≠ 1 → (1 ≤ kh * kw ∧ kh * kw ≤ 1024) ∧ (1 ≤ kh * kw * c ∧ kh * kw * c ≤ 1048576) := fun q => by
    obtain ⟨hw1, hw2⟩ := hw q
    obtain ⟨p1, p2⟩ := mul_bd hw1.1 hw1.2 hw2.1 hw2.2
    obtain ⟨q1, q2⟩ := mul_bd p1 p2 c1.1 c1.2
    exact ⟨⟨p1, by omega⟩, q1, by omega⟩
  rw [show stR 1 kh kw h w c = (if (1 : Int) = 1 then h * w * c else if (1 : Int) = 2 then kh * kw * c else kh * kw) from rfl]
  simp at hp ⊢
  obtain ⟨p', ep⟩ : ∃ p', h * w = p' := ⟨_, rfl⟩
  obtain ⟨q', eq⟩ : ∃ q', kh * kw = q' := ⟨_, rfl⟩
  rw [ep] at p3
  try rw [eq] at hp
  try rw [ep]
  try rw [eq]
  obtain ⟨y1, y2, y3⟩ := cells_at hr
  clear g hw c1 hr
  go_enter Try.func45, Try.ntmps45
  go_wp2
  go_quiet (fail)
  go_wp2
  go_ret
  exact ⟨rfl, _, rfl⟩
set_option maxHeartbeats 1000000 in
theorem tlen_2 (a b m kh kw sh sw tp lf bt rt : Int) (wa : Option Addr) (lw wc : Nat) (ba : Option Addr) (lb bc : Nat) (sm ss um us z p lo hi h w c H V C : Int) (r : Nat) (W : World) (hr : W.heap[r]? = some (.cells #[.int .i64 2, .int .i64 a, .int .i64 b, .int .i64 m, .int .i64 kh, .int .i64 kw, .int .i64 sh, .int .i64 sw, .int .i64 tp, .int .i64 lf, .int .i64 bt, .int .i64 rt, .slice wa lw wc, .slice ba lb bc, .int .i64 sm, .int .i64 ss, .int .i64 um, .int .i64 us, .int .i64 z, .int .i64 p, .int .i64 lo, .int .i64 hi, .int .i64 h, .int .i64 w, .int .i64 c, .int .i64 H, .int .i64 V, .int .i64 C] 106 (0, 0))) (g : vS h w c = true) (hw : (2 : Int) ≠ 1 → (1 ≤ kh ∧ kh ≤ 32) ∧ (1 ≤ kw ∧ kw ≤ 32)) :
    Calls Try.prog 45 #[.pointer (some ⟨r, 0, none⟩)] W fun e w' => e = .returned (.int .i64 (stR 2 kh kw h w c)) ∧ ∃ n, w' = W.drewN n := by
  have p3 : (1 ≤ h * w ∧ h * w ≤ 1048576) ∧ (1 ≤ h * w * c ∧ h * w * c ≤ 16384) := vS_bd g
  have c1 := (vS_yes g).2.2.1
  have hp : (2 : Int) ≠ 1 → (1 ≤ kh * kw ∧ kh * kw ≤ 1024) ∧ (1 ≤ kh * kw * c ∧ kh * kw * c ≤ 1048576) := fun q => by
    obtain ⟨hw1, hw2⟩ := hw q
    obtain ⟨p1, p2⟩ := mul_bd hw1.1 hw1.2 hw2.1 hw2.2
    obtain ⟨q1, q2⟩ := mul_bd p1 p2 c1.1 c1.2
    exact ⟨⟨p1, by omega⟩, q1, by omega⟩
  rw [show stR 2 kh kw h w c = (if (2 : Int) = 1 then h * w * c else if (2 : Int) = 2 then kh * kw * c else kh * kw) from rfl]
  simp at hp ⊢
  obtain ⟨p', ep⟩ : ∃ p', h * w = p' := ⟨_, rfl⟩
  obtain ⟨q', eq⟩ : ∃ q', kh * kw = q' := ⟨_, rfl⟩
  rw [ep] at p3
  try rw [eq] at hp
  try rw [ep]
  try rw [eq]
  obtain ⟨y1, y2, y3⟩ := cells_at hr
  clear g hw c1 hr
  go_enter Try.func45, Try.ntmps45
  go_wp2
  go_quiet (fail)
  go_wp2
  go_ret
  exact ⟨rfl, _, rfl⟩
set_option maxHeartbeats 1000000 in
theorem tlen_3 (a b m kh kw sh sw tp lf bt rt : Int) (wa : Option Addr) (lw wc : Nat) (ba : Option Addr) (lb bc : Nat) (sm ss um us z p lo hi h w c H V C : Int) (r : Nat) (W : World) (hr : W.heap[r]? = some (.cells #[.int .i64 3, .int .i64 a, .int .i64 b, .int .i64 m, .int .i64 kh, .int .i64 kw, .int .i64 sh, .int .i64 sw, .int .i64 tp, .int .i64 lf, .int .i64 bt, .int .i64 rt, .slice wa lw wc, .slice ba lb bc, .int .i64 sm, .int .i64 ss, .int .i64 um, .int .i64 us, .int .i64 z, .int .i64 p, .int .i64 lo, .int .i64 hi, .int .i64 h, .int .i64 w, .int .i64 c, .int .i64 H, .int .i64 V, .int .i64 C] 106 (0, 0))) (g : vS h w c = true) (hw : (3 : Int) ≠ 1 → (1 ≤ kh ∧ kh ≤ 32) ∧ (1 ≤ kw ∧ kw ≤ 32)) :
    Calls Try.prog 45 #[.pointer (some ⟨r, 0, none⟩)] W fun e w' => e = .returned (.int .i64 (stR 3 kh kw h w c)) ∧ ∃ n, w' = W.drewN n := by
  have p3 : (1 ≤ h * w ∧ h * w ≤ 1048576) ∧ (1 ≤ h * w * c ∧ h * w * c ≤ 16384) := vS_bd g
  have c1 := (vS_yes g).2.2.1
  have hp : (3 : Int) ≠ 1 → (1 ≤ kh * kw ∧ kh * kw ≤ 1024) ∧ (1 ≤ kh * kw * c ∧ kh * kw * c ≤ 1048576) := fun q => by
    obtain ⟨hw1, hw2⟩ := hw q
    obtain ⟨p1, p2⟩ := mul_bd hw1.1 hw1.2 hw2.1 hw2.2
    obtain ⟨q1, q2⟩ := mul_bd p1 p2 c1.1 c1.2
    exact ⟨⟨p1, by omega⟩, q1, by omega⟩
  rw [show stR 3 kh kw h w c = (if (3 : Int) = 1 then h * w * c else if (3 : Int) = 2 then kh * kw * c else kh * kw) from rfl]
  simp at hp ⊢
  obtain ⟨p', ep⟩ : ∃ p', h * w = p' := ⟨_, rfl⟩
  obtain ⟨q', eq⟩ : ∃ q', kh * kw = q' := ⟨_, rfl⟩
  rw [ep] at p3
  try rw [eq] at hp
  try rw [ep]
  try rw [eq]
  obtain ⟨y1, y2, y3⟩ := cells_at hr
  clear g hw c1 hr
  go_enter Try.func45, Try.ntmps45
  go_wp2
  go_quiet (fail)
  go_wp2
  go_ret
  exact ⟨rfl, _, rfl⟩
set_option maxHeartbeats 1000000 in
theorem tlen_4 (a b m kh kw sh sw tp lf bt rt : Int) (wa : Option Addr) (lw wc : Nat) (ba : Option Addr) (lb bc : Nat) (sm ss um us z p lo hi h w c H V C : Int) (r : Nat) (W : World) (hr : W.heap[r]? = some (.cells #[.int .i64 4, .int .i64 a, .int .i64 b, .int .i64 m, .int .i64 kh, .int .i64 kw, .int .i64 sh, .int .i64 sw, .int .i64 tp, .int .i64 lf, .int .i64 bt, .int .i64 rt, .slice wa lw wc, .slice ba lb bc, .int .i64 sm, .int .i64 ss, .int .i64 um, .int .i64 us, .int .i64 z, .int .i64 p, .int .i64 lo, .int .i64 hi, .int .i64 h, .int .i64 w, .int .i64 c, .int .i64 H, .int .i64 V, .int .i64 C] 106 (0, 0))) (g : vS h w c = true) (hw : (4 : Int) ≠ 1 → (1 ≤ kh ∧ kh ≤ 32) ∧ (1 ≤ kw ∧ kw ≤ 32)) :
    Calls Try.prog 45 #[.pointer (some ⟨r, 0, none⟩)] W fun e w' => e = .returned (.int .i64 (stR 4 kh kw h w c)) ∧ ∃ n, w' = W.drewN n := by
  have p3 : (1 ≤ h * w ∧ h * w ≤ 1048576) ∧ (1 ≤ h * w * c ∧ h * w * c ≤ 16384) := vS_bd g
  have c1 := (vS_yes g).2.2.1
  have hp : (4 : Int) ≠ 1 → (1 ≤ kh * kw ∧ kh * kw ≤ 1024) ∧ (1 ≤ kh * kw * c ∧ kh * kw * c ≤ 1048576) := fun q => by
    obtain ⟨hw1, hw2⟩ := hw q
    obtain ⟨p1, p2⟩ := mul_bd hw1.1 hw1.2 hw2.1 hw2.2
    obtain ⟨q1, q2⟩ := mul_bd p1 p2 c1.1 c1.2
    exact ⟨⟨p1, by omega⟩, q1, by omega⟩
  rw [show stR 4 kh kw h w c = (if (4 : Int) = 1 then h * w * c else if (4 : Int) = 2 then kh * kw * c else kh * kw) from rfl]
  simp at hp ⊢
  obtain ⟨p', ep⟩ : ∃ p', h * w = p' := ⟨_, rfl⟩
  obtain ⟨q', eq⟩ : ∃ q', kh * kw = q' := ⟨_, rfl⟩
  rw [ep] at p3
  try rw [eq] at hp
  try rw [ep]
  try rw [eq]
  obtain ⟨y1, y2, y3⟩ := cells_at hr
  clear g hw c1 hr
  go_enter Try.func45, Try.ntmps45
  go_wp2
  go_quiet (fail)
  go_wp2
  go_ret
  exact ⟨rfl, _, rfl⟩
theorem tlen_any (k a b m kh kw sh sw tp lf bt rt : Int) (wa : Option Addr) (lw wc : Nat) (ba : Option Addr) (lb bc : Nat) (sm ss um us z p lo hi h w c H V C : Int) (r : Nat) (W : World) (hr : W.heap[r]? = some (.cells #[.int .i64 k, .int .i64 a, .int .i64 b, .int .i64 m, .int .i64 kh, .int .i64 kw, .int .i64 sh, .int .i64 sw, .int .i64 tp, .int .i64 lf, .int .i64 bt, .int .i64 rt, .slice wa lw wc, .slice ba lb bc, .int .i64 sm, .int .i64 ss, .int .i64 um, .int .i64 us, .int .i64 z, .int .i64 p, .int .i64 lo, .int .i64 hi, .int .i64 h, .int .i64 w, .int .i64 c, .int .i64 H, .int .i64 V, .int .i64 C] 106 (0, 0))) (s : Sit k kh kw sh sw tp lf bt rt h w c H V C lw lb) :
    Calls Try.prog 45 #[.pointer (some ⟨r, 0, none⟩)] W fun e w' => e = .returned (.int .i64 (stR k kh kw h w c)) ∧ ∃ n, w' = W.drewN n := by
  have hk := s.1
  have g := s.2.1
  have hw := s.win
  rcases (show k = 1 ∨ k = 2 ∨ k = 3 ∨ k = 4 by omega) with rfl | rfl | rfl | rfl
  · exact tlen_1 a b m kh kw sh sw tp lf bt rt wa lw wc ba lb bc sm ss um us z p lo hi h w c H V C r W hr g hw
  · exact tlen_2 a b m kh kw sh sw tp lf bt rt wa lw wc ba lb bc sm ss um us z p lo hi h w c H V C r W hr g hw
  · exact tlen_3 a b m kh kw sh sw tp lf bt rt wa lw wc ba lb bc sm ss um us z p lo hi h w c H V C r W hr g hw
  · exact tlen_4 a b m kh kw sh sw tp lf bt rt wa lw wc ba lb bc sm ss um us z p lo hi h w c H V C r W hr g hw
theorem tchan_any (k a b m kh kw sh sw tp lf bt rt : Int) (wa : Option Addr) (lw wc : Nat) (ba : Option Addr) (lb bc : Nat) (sm ss um us z p lo hi h w c H V C : Int) (r : Nat) (W : World) (hr : W.heap[r]? = some (.cells #[.int .i64 k, .int .i64 a, .int .i64 b, .int .i64 m, .int .i64 kh, .int .i64 kw, .int .i64 sh, .int .i64 sw, .int .i64 tp, .int .i64 lf, .int .i64 bt, .int .i64 rt, .slice wa lw wc, .slice ba lb bc, .int .i64 sm, .int .i64 ss, .int .i64 um, .int .i64 us, .int .i64 z, .int .i64 p, .int .i64 lo, .int .i64 hi, .int .i64 h, .int .i64 w, .int .i64 c, .int .i64 H, .int .i64 V, .int .i64 C] 106 (0, 0))) :
    Calls Try.prog 62 #[.pointer (some ⟨r, 0, none⟩)] W fun e w' => e = .returned (.int .i64 C) ∧ w' = W := by
  obtain ⟨y1, y2, y3⟩ := cells_at hr
  clear hr
  go_enter Try.func62, Try.ntmps62
  go_wp2
  go_ret
  exact ⟨rfl, rfl⟩
theorem tpos_any (k a b m kh kw sh sw tp lf bt rt : Int) (wa : Option Addr) (lw wc : Nat) (ba : Option Addr) (lb bc : Nat) (sm ss um us z p lo hi h w c H V C : Int) (r : Nat) (W : World) (hr : W.heap[r]? = some (.cells #[.int .i64 k, .int .i64 a, .int .i64 b, .int .i64 m, .int .i64 kh, .int .i64 kw, .int .i64 sh, .int .i64 sw, .int .i64 tp, .int .i64 lf, .int .i64 bt, .int .i64 rt, .slice wa lw wc, .slice ba lb bc, .int .i64 sm, .int .i64 ss, .int .i64 um, .int .i64 us, .int .i64 z, .int .i64 p, .int .i64 lo, .int .i64 hi, .int .i64 h, .int .i64 w, .int .i64 c, .int .i64 H, .int .i64 V, .int .i64 C] 106 (0, 0))) (g : vS H V C = true) :
    Calls Try.prog 63 #[.pointer (some ⟨r, 0, none⟩)] W fun e w' => e = .returned (.int .i64 (H * V)) ∧ ∃ n, w' = W.drewN n := by
  obtain ⟨y1, y2, y3⟩ := cells_at hr
  have p3 := vS_bd g
  clear hr g
  go_enter Try.func63, Try.ntmps63
  go_wp2
  go_quiet (fail)
  go_wp2
  go_ret
  exact ⟨rfl, _, rfl⟩
set_option maxHeartbeats 1000000 in
theorem tbias_any (k a b m kh kw sh sw tp lf bt rt : Int) (wa : Option Addr) (lw wc : Nat) (ba : Option Addr) (lb bc : Nat) (sm ss um us z p lo hi h w c H V C : Int) (r : Nat) (W : World) (hr : W.heap[r]? = some (.cells #[.int .i64 k, .int .i64 a, .int .i64 b, .int .i64 m, .int .i64 kh, .int .i64 kw, .int .i64 sh, .int .i64 sw, .int .i64 tp, .int .i64 lf, .int .i64 bt, .int .i64 rt, .slice wa lw wc, .slice ba lb bc, .int .i64 sm, .int .i64 ss, .int .i64 um, .int .i64 us, .int .i64 z, .int .i64 p, .int .i64 lo, .int .i64 hi, .int .i64 h, .int .i64 w, .int .i64 c, .int .i64 H, .int .i64 V, .int .i64 C] 106 (0, 0))) (bs : List Int) (hB : IRow .i32 W ba lb bc bs) (s : Sit k kh kw sh sw tp lf bt rt h w c H V C lw lb) (ch : Int) (hc : 1 ≤ ch ∧ ch ≤ C) :
    Calls Try.prog 65 #[.pointer (some ⟨r, 0, none⟩), .int .i64 ch] W fun e w' => e = .returned (.int .i64 (biA k ch bs)) ∧ w' = W := by
  obtain ⟨y1, y2, y3⟩ := cells_at hr
  obtain ⟨hk, -, hv, -, -, -, hl, -⟩ := s
  have hC := (vS_yes hv).2.2.1
  clear hr
  by_cases k4 : k = 4
  · subst k4
    rw [show biA 4 ch bs = 0 from if_pos rfl]
    go_enter Try.func65, Try.ntmps65
    go_wp2
    go_ret
    exact ⟨rfl, rfl⟩
  · rw [show biA k ch bs = bs.getD (ch - 1).toNat 0 from if_neg k4]
    have hl2 := (hl (by omega)).2
    obtain ⟨n, rfl⟩ : ∃ n : Nat, ch = (n : Int) + 1 := ⟨(ch - 1).toNat, by omega⟩
    have hm := hB.2.2.1
    have hcc := hB.2.1
    unfold maxLen at hm
    obtain ⟨x, u, rfl, hu, hwf, hz, -⟩ := hB.at (show n < lb by omega)
    obtain ⟨u1, u2⟩ := wf_i32 hwf
    have e : bs.getD ((n : Int) + 1 - 1).toNat 0 = u := by rw [show ((n : Int) + 1 - 1).toNat = n by omega, List.getD_eq_getElem?_getD, hz]; rfl
    rw [e]
    have k4' : (k == 4) = false := by simp [k4]
    clear e hz hwf hB hl
    go_enter Try.func65, Try.ntmps65
    go_wp2
    go_ret
    exact ⟨rfl, rfl⟩
set_option maxHeartbeats 1000000 in
theorem twei_any (k a b m kh kw sh sw tp lf bt rt : Int) (wa : Option Addr) (lw wc : Nat) (ba : Option Addr) (lb bc : Nat) (sm ss um us z p lo hi h w c H V C : Int) (r : Nat) (W : World) (hr : W.heap[r]? = some (.cells #[.int .i64 k, .int .i64 a, .int .i64 b, .int .i64 m, .int .i64 kh, .int .i64 kw, .int .i64 sh, .int .i64 sw, .int .i64 tp, .int .i64 lf, .int .i64 bt, .int .i64 rt, .slice wa lw wc, .slice ba lb bc, .int .i64 sm, .int .i64 ss, .int .i64 um, .int .i64 us, .int .i64 z, .int .i64 p, .int .i64 lo, .int .i64 hi, .int .i64 h, .int .i64 w, .int .i64 c, .int .i64 H, .int .i64 V, .int .i64 C] 106 (0, 0))) (zs : List Int) (hZ : IRow .i16 W wa lw wc zs) (s : Sit k kh kw sh sw tp lf bt rt h w c H V C lw lb) (ch : Int) (hc : 1 ≤ ch ∧ ch ≤ C) (i : Nat) (hi0 : (i : Int) < stR k kh kw h w c) :
    Calls Try.prog 79 #[.pointer (some ⟨r, 0, none⟩), .int .i64 ch, .int .i64 i] W fun e w' => e = .returned (.int .i64 (wgA k ch (stR k kh kw h w c) zs i)) ∧ ∃ n, w' = W.drewN n := by
  have hL : Hid (∀ n, Calls Try.prog 45 #[.pointer (some ⟨r, 0, none⟩)] (W.drewN n) fun e w' => e = .returned (.int .i64 (stR k kh kw h w c)) ∧ ∃ m, w' = (W.drewN n).drewN m) := fun n => tlen_any k a b m kh kw sh sw tp lf bt rt wa lw wc ba lb bc sm ss um us z p lo hi h w c H V C r (W.drewN n) hr s
  obtain ⟨y1, y2, y3⟩ := cells_at hr
  obtain ⟨hk, -, hv, -, -, -, hl, -, hst0, hst1⟩ := s
  have hC := (vS_yes hv).2.2.1
  obtain ⟨st, hst⟩ : ∃ st, stR k kh kw h w c = st := ⟨_, rfl⟩
  rw [hst] at hL hl hst0 hst1 hi0 ⊢
  clear hr hst hv
  by_cases k4 : k = 4
  · subst k4
    rw [show wgA 4 ch st zs i = 1 from if_pos rfl]
    go_enter Try.func79, Try.ntmps79
    go_wp2
    go_ret
    exact ⟨rfl, 0, rfl⟩
  · rw [show wgA k ch st zs i = zs.getD ((ch - 1) * st + i).toNat 0 from if_neg k4]
    have hl2 := (hl (by omega)).1
    obtain ⟨d, rfl⟩ : ∃ d : Nat, ch = (d : Int) + 1 := ⟨(ch - 1).toNat, by omega⟩
    have hm := hZ.2.2.1
    have hcc := hZ.2.1
    unfold maxLen at hm
    have p1 : 0 ≤ (d : Int) * st := Int.mul_nonneg (by omega) (by omega)
    have p2 : (d : Int) * st + st ≤ C * st := by
      have := Int.mul_le_mul_of_nonneg_right (show (d : Int) + 1 ≤ C by omega) (show 0 ≤ st by omega)
      rwa [Int.add_mul, Int.one_mul] at this
    obtain ⟨p', ep⟩ : ∃ p', (d : Int) * st = p' := ⟨_, rfl⟩
    rw [show (d : Int) + 1 - 1 = d by omega, ep]
    rw [ep] at p1 p2
    rw [← hl2] at p2
    obtain ⟨N, eN⟩ : ∃ N : Nat, p' + (i : Int) = (N : Int) := ⟨(p' + i).toNat, by omega⟩
    rw [eN]
    have hN : N < lw := by omega
    obtain ⟨x, u, rfl, hu, hwf, hz, -⟩ := hZ.at hN
    obtain ⟨u1, u2⟩ := wf_i16 hwf
    have e : zs.getD ((N : Int)).toNat 0 = u := by rw [Int.toNat_natCast, List.getD_eq_getElem?_getD, hz]; rfl
    rw [e]
    have k4' : (k == 4) = false := by simp [k4]
    have hd1 : (d : Int) + 1 ≤ 1024 := by omega
    have hi2 : (i : Int) ≤ 512 := by omega
    clear e hz hwf hZ hl hl2 hC hc
    go_enter Try.func79, Try.ntmps79
    go_wp2
    go_quiet ((go_at_call 45; exact Calls.quiet_of (hL.out _)))
    go_wp2
    go_ret
    exact ⟨rfl, _, rfl⟩
/-- The channels that are read: the first, and the one behind the last. -/
def chF (k ch : Int) : Int := if k = 2 then 0 else ch - 1
def chB (k c ch : Int) : Int := if k = 2 then c else ch
theorem tread_any (k a b m kh kw sh sw tp lf bt rt : Int) (wa : Option Addr) (lw wc : Nat) (ba : Option Addr) (lb bc : Nat) (sm ss um us z p lo hi h w c H V C : Int) (r : Nat) (W : World) (hr : W.heap[r]? = some (.cells #[.int .i64 k, .int .i64 a, .int .i64 b, .int .i64 m, .int .i64 kh, .int .i64 kw, .int .i64 sh, .int .i64 sw, .int .i64 tp, .int .i64 lf, .int .i64 bt, .int .i64 rt, .slice wa lw wc, .slice ba lb bc, .int .i64 sm, .int .i64 ss, .int .i64 um, .int .i64 us, .int .i64 z, .int .i64 p, .int .i64 lo, .int .i64 hi, .int .i64 h, .int .i64 w, .int .i64 c, .int .i64 H, .int .i64 V, .int .i64 C] 106 (0, 0))) (ch : Int) (hc : 1 ≤ ch ∧ ch ≤ 1024) :
    Calls Try.prog 80 #[.pointer (some ⟨r, 0, none⟩), .int .i64 ch] W fun e w' => e = .returned (.tuple #[.int .i64 (chF k ch), .int .i64 (chB k c ch)]) ∧ ∃ n, w' = W.drewN n := by
  obtain ⟨y1, y2, y3⟩ := cells_at hr
  clear hr
  by_cases k2 : k = 2
  · subst k2
    rw [show chF 2 ch = 0 from if_pos rfl, show chB 2 c ch = c from if_pos rfl]
    go_enter Try.func80, Try.ntmps80
    go_wp2
    go_quiet (fail)
    go_wp2
    go_ret2
    exact ⟨rfl, _, rfl⟩
  · rw [show chF k ch = ch - 1 from if_neg k2, show chB k c ch = ch from if_neg k2]
    have k2' : (k == 2) = false := by simp [k2]
    go_enter Try.func80, Try.ntmps80
    go_wp2
    go_ret2
    exact ⟨rfl, 0, rfl⟩
theorem tplace_any (k a b m kh kw sh sw tp lf bt rt : Int) (wa : Option Addr) (lw wc : Nat) (ba : Option Addr) (lb bc : Nat) (sm ss um us z p lo hi h w c H V C : Int) (r : Nat) (W : World) (hr : W.heap[r]? = some (.cells #[.int .i64 k, .int .i64 a, .int .i64 b, .int .i64 m, .int .i64 kh, .int .i64 kw, .int .i64 sh, .int .i64 sw, .int .i64 tp, .int .i64 lf, .int .i64 bt, .int .i64 rt, .slice wa lw wc, .slice ba lb bc, .int .i64 sm, .int .i64 ss, .int .i64 um, .int .i64 us, .int .i64 z, .int .i64 p, .int .i64 lo, .int .i64 hi, .int .i64 h, .int .i64 w, .int .i64 c, .int .i64 H, .int .i64 V, .int .i64 C] 106 (0, 0))) (q d : Int) (hq : -1 ≤ q ∧ q ≤ 16384) (hd : 0 ≤ d ∧ d ≤ 1024) (hc : 1 ≤ c ∧ c ≤ 1024) :
    Calls Try.prog 82 #[.pointer (some ⟨r, 0, none⟩), .int .i64 q, .int .i64 d] W fun e w' => e = .returned (.int .i64 (cov c q d)) ∧ w' = W := by
  obtain ⟨y1, y2, y3⟩ := cells_at hr
  clear hr
  by_cases q1 : q = -1
  · subst q1
    rw [show cov c (-1) d = -1 from if_pos rfl]
    go_enter Try.func82, Try.ntmps82
    go_wp2
    go_ret
    exact ⟨rfl, rfl⟩
  · rw [show cov c q d = q * c + d from if_neg q1]
    have q1' : (q == -1) = false := by simp [q1]
    have p1 : 0 ≤ q * c := Int.mul_nonneg (by omega) (by omega)
    have p2 : q * c ≤ 16384 * 1024 := Int.mul_le_mul hq.2 hc.2 (by omega) (by omega)
    obtain ⟨p', ep⟩ : ∃ p', q * c = p' := ⟨_, rfl⟩
    rw [ep] at p1 p2 ⊢
    go_enter Try.func82, Try.ntmps82
    go_wp2
    go_ret
    exact ⟨rfl, rfl⟩
end Go.Proofs.Ytehofmkpgopmpaa

/- The iterator of Taps: called with whatever round, it gives each tap in its order, till it is told to stop. -/
namespace Go.Proofs.Ytehofmkpgopmpaa
open Go.ChangeShapes Go.WideShapes Go.ChangeAt Go.RowKit Go.Shelf
attribute [local go_sem] Oper.semAt_some
/-- What a round keeps: the listed blocks. -/
def Kept (l : List Nat) (W W' : World) : Prop := ∀ b ∈ l, ∀ c t, W.heap[b]? = some (.cells c t (0, 0)) → W'.heap[b]? = some (.cells c t (0, 0))
theorem Kept.refl (l : List Nat) (W : World) : Kept l W W := fun _ _ _ _ h => h
theorem Kept.trans {l : List Nat} {A B C : World} (h : Kept l A B) (k : Kept l B C) : Kept l A C := fun b hb c t hc => k b hb c t (h b hb c t hc)
theorem Kept.put {l : List Nat} (W : World) (i : Nat) (o o' : Obj) (h : W.heap[i]? = some o) (ho : o.isCells = false) : Kept l W (W.putObj i o') := fun b _ _ _ hc => by
  by_cases e : b = i
  · subst e; rw [h] at hc; cases hc; cases ho
  · rw [World.putObj_heap_other e]; exact hc
theorem Kept.below {l : List Nat} {W W' : World} (h : Below W.heap.size W W') : Kept l W W' := fun b _ _ _ hc => (h.block b (lt_of_heap hc)).trans hc
theorem Kept.grown {l : List Nat} {W W' : World} {g : Option Nat} (h : W.grownBy W' g) (hg : ∀ b, g = some b → b ∉ l) : Kept l W W' := fun b hb _ _ hc => (h.block b (lt_of_heap hc) (fun e => hg b e.symm hb)).trans hc
/-- A world in which all that lay in W lies as it lay. -/
def Wn (W : World) : Type := Subtype fun w : World => Below W.heap.size W w
def Wn.w {W : World} (n : Wn W) : World := n.1
theorem Wn.h {W : World} (n : Wn W) : Below W.heap.size W n.w := n.2
def Wn.mk {W : World} (w : World) (h : Below W.heap.size W w) : Wn W := Subtype.mk w h
theorem Wn.rule {W : World} {B : Nat} {c : Array Value} {t : TypeId} (h : W.heap[B]? = some (.cells c t (0, 0))) : ∀ (n : Wn W) (i : Nat), n.w.cell? ⟨B, i, none⟩ = c[i]? := fun n i => by
  have h0 : n.w.heap[B]? = some (.cells c t (0, 0)) := (n.h.block B (lt_of_heap h)).trans h
  simp [World.cell?, h0]
theorem wn_call {f : FuncId} {args : Array Value} {W : World} {n : Wn W} {m : Nat} {v : Value}
    (h : Calls Try.prog f args n.w fun e w' => e = .returned v ∧ Below n.w.heap.size n.w w') : CallsIn Fence.wide m Try.prog f args n.w fun e w'' => e = .returned v ∧ ∃ k : Wn W, w'' = k.w :=
  callsIn_wide.2 (h.mono fun _ _ ⟨he, hb⟩ => ⟨he, Wn.mk _ (n.h.trans (hb.mono n.h.size)), rfl⟩)
theorem grownBy_of_below {W W' : World} (k : Below W.heap.size W W') : W.grownBy W' none := ⟨k.os, k.tape, k.output, k.size, fun i hi _ => k.block i hi⟩
theorem abides_below {β : Type} {B : Nat} {J : β → World → Prop} (hJ : AbidesFrom B J) {s : β} {W W' : World} (h : J s W) (k : Below W.heap.size W W') : J s W' :=
  hJ s W W' none h (grownBy_of_below k) (fun r e => by cases e)
set_option maxRecDepth 100000 in
set_option maxHeartbeats 4000000 in
theorem taps1_in (m : Nat) (l B1 B2 B3 B4 B5 : Nat) (h w c kh kw sh sw tp lf bt rt t u : Int) (N : Nat) (J Jx : List (Int × Int) → World → Prop) (W : World)
    (hC : N = 0 ∨ Cor h w kh kw t u ∧ N = (kh * kw).toNat)
    (hJ : AbidesFrom W.heap.size J)
    (hY : ∀ pre x W1, J pre W1 → pre.length < N → YieldAt Fence.wide (m - 1) Try.prog l #[.int .i64 x.1, .int .i64 x.2] W1 fun e W' =>
      (e = .returned (.bool true) ∧ J (pre ++ [x]) W' ∧ Kept [B2, B3, B4, B5] W1 W') ∨ (e = .returned (.bool false) ∧ Jx (pre ++ [x]) W'))
    (c1 : W.heap[B1]? = some (.cells #[.int .i64 N] 3 (0, 0))) (c2 : W.heap[B2]? = some (.cells #[.int .i64 h, .int .i64 w, .int .i64 c] 23 (0, 0))) (c3 : W.heap[B3]? = some (.cells #[.int .i64 t] 3 (0, 0)))
    (c4 : W.heap[B4]? = some (.cells #[.int .i64 kh, .int .i64 kw, .int .i64 sh, .int .i64 sw, .int .i64 tp, .int .i64 lf, .int .i64 bt, .int .i64 rt] 42 (0, 0))) (c5 : W.heap[B5]? = some (.cells #[.int .i64 u] 3 (0, 0))) (h0 : J [] W) :
    CallsIn Fence.wide m Try.prog 91 #[.func (.yield l) #[] #[], .pointer (some ⟨B1, 0, none⟩), .pointer (some ⟨B2, 0, none⟩), .pointer (some ⟨B3, 0, none⟩), .pointer (some ⟨B4, 0, none⟩), .pointer (some ⟨B5, 0, none⟩)] W fun e W' => (∃ v, e = .returned v) ∧
      ((∃ ys, ys = tapL h w kw t u N ∧ J ys W') ∨ (∃ pre, (∃ k, k ≤ N ∧ pre = tapL h w kw t u k) ∧ Jx pre W')) := by
  have r1 : W.cell? ⟨B1, 0, none⟩ = some (.int .i64 N) := by simp [World.cell?, c1]
  refine callsIn_of_wp Try.func91 rfl trivial ?_ rfl
  simp only [Try.ntmps91, List.size_toArray, List.length_cons, List.length_nil, Nat.reduceAdd, Nat.reduceSub, Array.replicate_succ, Array.replicate_zero, List.push_toArray, List.append_toArray, List.nil_append, List.cons_append]
  gi_wp2
  gi_loopw [9] (fun i wr => ∃ k : Nat, k ≤ N ∧ i = .int .i64 k ∧ J (tapL h w kw t u k) wr ∧ Kept [B2, B3, B4, B5] W wr)
    (fun i _ => N - (intOf i).toNat)
  case atStart => exact ⟨0, Nat.zero_le _, rfl, h0, Kept.refl _ _⟩
  case round =>
    obtain ⟨k, hk, rfl, hJs, hkp⟩ := hrel
    by_cases hlt : k < N
    · rcases hC with rfl | ⟨⟨h1, w1, q9, k1, k2, t1, u1⟩, hN⟩
      · omega
      have d2 := hkp B2 (by simp) _ _ c2
      have d3 := hkp B3 (by simp) _ _ c3
      have d4 := hkp B4 (by simp) _ _ c4
      have d5 := hkp B5 (by simp) _ _ c5
      have e2 := Wn.rule d2
      have e3 := Wn.rule d3
      have e4 := Wn.rule d4
      have e5 := Wn.rule d5
      have p1 := Int.ediv_nonneg (show (0 : Int) ≤ k by omega) (show 0 ≤ kw by omega)
      have p3 := Int.mul_nonneg (show 0 ≤ kh by omega) (show 0 ≤ kw by omega)
      have p2 : (k : Int) / kw < kh := Int.ediv_lt_of_lt_mul (by omega) (by omega)
      have p4 := Int.emod_nonneg (k : Int) (show kw ≠ 0 by omega)
      have p5 := Int.emod_lt_of_pos (k : Int) (show 0 < kw by omega)
      have t6 := td (c := kw) (show (0 : Int) ≤ k by omega)
      have t7 := tm (c := kw) (show (0 : Int) ≤ k by omega)
      obtain ⟨d, hd⟩ : ∃ d, (k : Int) / kw = d := ⟨_, rfl⟩
      obtain ⟨e, he⟩ : ∃ e, (k : Int) % kw = e := ⟨_, rfl⟩
      have HT : Hid (tap h w kw t u k = ((k : Int), plc h w (t + d) (u + e))) := by unfold Hid tap; rw [hd, he]
      rw [hd] at p1 p2 t6
      rw [he] at p4 p5 t7
      have kw0 : ¬ kw = 0 := by omega
      have kN : N ≤ 1024 := by
        have := Int.mul_le_mul k1.2 k2.2 (by omega) (by omega)
        omega
      have HN : Hid (N = (kh * kw).toNat) := hN
      clear hd he hN p3
      have hfn : ∀ f, Fence.wide.fn f := fun _ => trivial
      have hdp : Fence.wide.depth = none := rfl
      have hne : Nonempty (Wn wr) := ⟨Wn.mk wr (Below.refl _ _)⟩
      gi_wp2
      refine region_tail_at 16 (C := fun w' => ∃ n : Wn wr, w' = n.w) rfl rfl (by kernel_rfl) (by kernel_rfl) ⟨Wn.mk _ (Below.refl _ _).drew, rfl⟩ ?_
      simp only [List.take_succ_cons, List.take_zero, List.drop_succ_cons, List.drop_zero]
      repeat (gi_big_quiet_step (exact wn_call (place_any _ _ _ _ _ _ (by omega) (by omega) h1 w1)))
      refine wpQuietIn_nil ?_
      rintro _ ⟨n, rfl⟩
      obtain ⟨fn, tmps, assign, body, hy, hR⟩ := hY (tapL h w kw t u k) (tap h w kw t u k) n.w (abides_below hJ hJs n.h) (by rw [tapL_len]; exact hlt)
      rw [← tapL_succ] at hR
      rw [HT.out] at hy
      dsimp only at hy
      gi_wp2
      refine hR.mono ?_
      rintro e W3 (⟨rfl, hJ3, hk3⟩ | ⟨rfl, hJx3⟩)
      · gi_wp2
        go_roundw
        case rel => exact ⟨k + 1, by omega, by simp, hJ3, (hkp.trans (Kept.below n.h)).trans hk3⟩
        case measure => simp [intOf]; omega
      · gi_wp2
        refine bodyPost_ret (results_none rfl _ _ _) rfl ?_
        exact ⟨⟨_, rfl⟩, .inr ⟨_, ⟨k + 1, by omega, rfl⟩, hJx3⟩⟩
    · obtain rfl : k = N := by omega
      gi_wp2
      go_end0
      exact ⟨⟨_, rfl⟩, .inl ⟨_, rfl, hJs⟩⟩
end Go.Proofs.Ytehofmkpgopmpaa

/- The iterator of Positions: called with whatever round, it gives each position's row and column in their order, till it is told to stop. -/
namespace Go.Proofs.Ytehofmkpgopmpaa
open Go.ChangeShapes Go.WideShapes Go.ChangeAt Go.RowKit Go.Shelf
attribute [local go_sem] Oper.semAt_some
theorem spot_at {q y x : Nat} (hx : x < q) : (((y * q + x : Nat) : Int) / (q : Int), ((y * q + x : Nat) : Int) % (q : Int)) = ((y : Int), (x : Int)) := by
  have e1 : ((y * q + x : Nat) : Int) / (q : Int) = y := by
    rw [← Int.natCast_ediv]
    congr 1
    rw [Nat.mul_comm, Nat.mul_add_div (by omega), Nat.div_eq_of_lt hx, Nat.add_zero]
  have e2 : ((y * q + x : Nat) : Int) % (q : Int) = x := by
    rw [← Int.natCast_emod]
    congr 1
    rw [Nat.mul_comm, Nat.mul_add_mod, Nat.mod_eq_of_lt hx]
  rw [e1, e2]
end Go.Proofs.Ytehofmkpgopmpaa
