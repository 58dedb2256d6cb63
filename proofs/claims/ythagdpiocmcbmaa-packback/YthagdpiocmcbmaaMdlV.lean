/- Fronts of models in plain numbers; what is known of each op of a well-formed model; ops that came in. -/
import Derived.Test.YthagdpiocmcbmaaMdlG
import Derived.Test.YthagdpiocmcbmaaOpz
namespace Go.Proofs.Ythagdpiocmcbmaa
open Go.ChangeShapes Go.WideShapes Go.ChangeAt Go.RowKit
set_option linter.unusedVariables false
theorem stG_step {O : Nat → Nat → Int} {s0 : Int × Int × Int} {n : Nat} {L : List (Int × Int × Int)} {wk : Int} (h : stG O s0 (n + 1) = (0, 0, L, wk)) :
    ∃ L0 wk0, stG O s0 n = (0, 0, L0, wk0) ∧ oT (O n) L0 wk0 = 0 ∧ L = L0 ++ [oM (O n) L0] ∧ wk = wk0 + oW (O n) L0 := by
  obtain ⟨e, t, L0, wk0, h0⟩ : ∃ e t L0 wk0, stG O s0 n = (e, t, L0, wk0) := ⟨_, _, _, _, rfl⟩
  by_cases he : e = 0
  · have ht : t = 0 := stG_at0 h0 he
    subst he ht
    by_cases hx : oT (O n) L0 wk0 = 0
    · rw [stG_ok h0 hx] at h
      simp only [Prod.mk.injEq, true_and] at h
      exact ⟨L0, wk0, h0, hx, h.1.symm, h.2.symm⟩
    · rw [stG_err h0 rfl hx] at h
      simp only [Prod.mk.injEq] at h
      exact absurd h.1 hx
  · have := stG_bad (O := O) (s0 := s0) (i := n) (by rw [h0]; exact he) 1
    rw [h, h0] at this
    simp only [Prod.mk.injEq] at this
    exact absurd this.1.symm he
theorem stG_pre {O : Nat → Nat → Int} {s0 : Int × Int × Int} (hs : vS3 s0 = true) : ∀ (n : Nat) (L : List (Int × Int × Int)) (wk : Int), stG O s0 n = (0, 0, L, wk) → ∀ i, i ≤ n → ∃ wi, stG O s0 i = (0, 0, L.take (i + 1), wi) ∧ 0 ≤ wi ∧ wi ≤ wk
  | 0, L, wk, h, i, hi => by
    obtain rfl : i = 0 := by omega
    obtain ⟨h1, -, h3, -⟩ := stG_inv hs 0 L wk h
    exact ⟨wk, by rw [List.take_of_length_le (by omega)]; exact h, h3, Int.le_refl _⟩
  | n + 1, L, wk, h, i, hi => by
    obtain ⟨h1, -, h3, -⟩ := stG_inv hs (n + 1) L wk h
    by_cases e : i = n + 1
    · subst e
      exact ⟨wk, by rw [List.take_of_length_le (by omega)]; exact h, h3, Int.le_refl _⟩
    · obtain ⟨L0, wk0, h0, hx, hL, hw⟩ := stG_step h
      obtain ⟨i1, i2, i3, i4⟩ := stG_inv hs n L0 wk0 h0
      obtain ⟨wi, g1, g2, g3⟩ := stG_pre hs n L0 wk0 h0 i (by omega)
      obtain ⟨-, t2, -, -⟩ := tk_0 hx i2
      have t2' : 0 ≤ oW (O n) L0 := t2
      refine ⟨wi, ?_, g2, by omega⟩
      rw [g1, hL, List.take_append_of_le_length (by omega)]
theorem stG_fault {O : Nat → Nat → Int} {s0 : Int × Int × Int} : ∀ (n : Nat) (e t : Int) (L : List (Int × Int × Int)) (wk : Int), stG O s0 n = (e, t, L, wk) → e ≠ 0 → L = [] ∧ wk = 0 ∧ ∃ j, j < n ∧ t = (j : Int) + 1 ∧ ∃ L' wk', stG O s0 j = (0, 0, L', wk')
  | 0, e, t, L, wk, h, he => by
    unfold stG at h
    simp only [Prod.mk.injEq] at h
    exact absurd h.1.symm he
  | n + 1, e, t, L, wk, h, he => by
    obtain ⟨e0, t0, L0, wk0, h0⟩ : ∃ e t L0 wk0, stG O s0 n = (e, t, L0, wk0) := ⟨_, _, _, _, rfl⟩
    by_cases hb : e0 = 0
    · have ht : t0 = 0 := stG_at0 h0 hb
      subst hb ht
      by_cases hx : oT (O n) L0 wk0 = 0
      · rw [stG_ok h0 hx] at h
        simp only [Prod.mk.injEq] at h
        exact absurd h.1.symm he
      · rw [stG_err h0 rfl hx] at h
        simp only [Prod.mk.injEq] at h
        exact ⟨h.2.2.1.symm, h.2.2.2.symm, n, by omega, h.2.1.symm, L0, wk0, h0⟩
    · have := stG_bad (O := O) (s0 := s0) (i := n) (by rw [h0]; exact hb) 1
      rw [h, h0] at this
      simp only [Prod.mk.injEq] at this
      obtain ⟨rfl, rfl, rfl, rfl⟩ := this
      obtain ⟨a1, a2, j, a3, a4⟩ := stG_fault n e t L wk h0 he
      exact ⟨a1, a2, j, by omega, a4⟩
theorem ouE_front {h w c lo hi ot : Int} {on j : Nat} (q : ouE h w c lo hi ot on = 0) (hj : j ≤ on) : ouE h w c lo hi (j : Int) j = 0 := by
  obtain ⟨a1, a2, a3, -, -⟩ := ouE_0 q
  unfold ouE
  rw [if_neg (by rw [a1]; decide), if_neg (by rw [a2]; decide), if_neg (by omega), if_neg (by omega)]
theorem gtR_of {O : Nat → Nat → Int} {h w c lo hi ot : Int} {on : Nat} (q : ouE h w c lo hi ot on = 0) : gtR O h w c lo hi ot on = stG O (h, w, c) on := by unfold gtR; rw [q, if_neg (by decide)]
/-- A model that isn't well-formed. -/
theorem gtR_err {O : Nat → Nat → Int} {h w c lo hi ot e t wk : Int} {on : Nat} {L : List (Int × Int × Int)} (q : gtR O h w c lo hi ot on = (e, t, L, wk)) (he : e ≠ 0) :
    L = [] ∧ wk = 0 ∧ (t = 0 ∨ ∃ j : Nat, j < on ∧ on ≤ 64 ∧ t = (j : Int) + 1 ∧ ∃ L' wk', gtR O h w c lo hi (j : Int) j = (0, 0, L', wk')) := by
  by_cases hx : ouE h w c lo hi ot on = 0
  · rw [gtR_of hx] at q
    obtain ⟨a1, a2, j, a3, a4, L', wk', a5⟩ := stG_fault on e t L wk q he
    exact ⟨a1, a2, .inr ⟨j, a3, (ouE_0 hx).2.2.1, a4, L', wk', by rw [gtR_of (ouE_front hx (by omega))]; exact a5⟩⟩
  · unfold gtR at q
    rw [if_pos hx] at q
    simp only [Prod.mk.injEq] at q
    exact ⟨q.2.2.1.symm, q.2.2.2.symm, .inl q.2.1.symm⟩
theorem gtR_st {O : Nat → Nat → Int} {h w c lo hi ot t wk : Int} {on : Nat} {L : List (Int × Int × Int)} (q : gtR O h w c lo hi ot on = (0, t, L, wk)) : ouE h w c lo hi ot on = 0 ∧ t = 0 ∧ stG O (h, w, c) on = (0, 0, L, wk) := by
  by_cases hx : ouE h w c lo hi ot on = 0
  · rw [gtR_of hx] at q
    have ht := stG_at0 q rfl
    subst ht
    exact ⟨hx, rfl, q⟩
  · unfold gtR at q
    rw [if_pos hx] at q
    simp only [Prod.mk.injEq] at q
    exact absurd q.1 hx
/-- A well-formed model, and its fronts. -/
theorem gtR_ok {O : Nat → Nat → Int} {h w c lo hi ot t wk : Int} {on : Nat} {L : List (Int × Int × Int)} (q : gtR O h w c lo hi ot on = (0, t, L, wk)) :
    t = 0 ∧ L.length = on + 1 ∧ on ≤ 64 ∧ 0 ≤ wk ∧ wk ≤ 131072 ∧ ∀ k : Nat, k ≤ on → ∃ wi, gtR O h w c lo hi (k : Int) k = (0, 0, L.take (k + 1), wi) ∧ 0 ≤ wi ∧ wi ≤ wk := by
  obtain ⟨hx, rfl, q2⟩ := gtR_st q
  clear q
  have q := q2
  have hv : vS3 (h, w, c) = true := (ouE_0 hx).1
  obtain ⟨h1, -, h3, h4⟩ := stG_inv hv on L wk q
  refine ⟨rfl, h1, (ouE_0 hx).2.2.1, h3, h4, fun k hk => ?_⟩
  obtain ⟨wi, g1, g2⟩ := stG_pre hv on L wk q k hk
  exact ⟨wi, by rw [gtR_of (ouE_front hx hk)]; exact g1, g2⟩
theorem mkE_parts {k m kh kw sh sw tp lf bt rt h w c : Int} (hx : mkE k m kh kw sh sw tp lf bt rt h w c = 0) : mkW k kh kw sh sw tp lf bt rt h w c = 0 := by
  unfold mkE at hx
  by_cases hM : mkM k m = false
  · rw [if_pos hM] at hx; cases hx
  · rw [if_neg hM] at hx
    by_cases hw : mkW k kh kw sh sw tp lf bt rt h w c ≠ 0
    · rw [if_pos hw] at hx; exact absurd hx hw
    · exact Decidable.not_not.1 hw
/-- What is known of one op's shapes: A's and its own. -/
def OpFit (k kh kw sh sw tp lf bt rt : Int) (A B : Int × Int × Int) : Prop :=
  vS B.1 B.2.1 B.2.2 = true ∧ (2 ≤ k ∧ k ≤ 5 → ouR A.1 A.2.1 A.2.2 kh kw sh sw tp lf bt rt = (B.1, B.2.1, 0) ∧ (k ≠ 2 → B.2.2 = A.2.2)) ∧ (6 ≤ k → B = A)
theorem fit_of {k m kh kw sh sw tp lf bt rt : Int} {A : Int × Int × Int} (hx : mkE k m kh kw sh sw tp lf bt rt A.1 A.2.1 A.2.2 = 0) (hv : vS3 (mk3 k m kh kw sh sw tp lf bt rt A) = true) : OpFit k kh kw sh sw tp lf bt rt A (mk3 k m kh kw sh sw tp lf bt rt A) := by
  refine ⟨hv, fun hk => ?_, fun hk => ?_⟩
  · have hw := mkE_parts hx
    unfold mkW at hw
    rw [if_pos hk] at hw
    obtain ⟨r, q, e, ho⟩ : ∃ r q e, ouR A.1 A.2.1 A.2.2 kh kw sh sw tp lf bt rt = (r, q, e) := ⟨_, _, _, rfl⟩
    rw [ho] at hw
    simp only at hw
    subst hw
    by_cases k2 : k = 2
    · have hm : mk3 k m kh kw sh sw tp lf bt rt A = (r, q, m) := by unfold mk3 mkS; rw [if_neg (by omega), if_pos k2, ho]
      rw [hm]
      exact ⟨ho, fun h => absurd k2 h⟩
    · have hm : mk3 k m kh kw sh sw tp lf bt rt A = (r, q, A.2.2) := by unfold mk3 mkS; rw [if_neg (by omega), if_neg k2, if_pos (by omega), ho]
      rw [hm]
      exact ⟨ho, fun _ => rfl⟩
  · unfold mk3 mkS
    rw [if_neg (by omega), if_neg (by omega), if_neg (by omega)]
theorem ShA_take {L : List (Int × Int × Int)} {i n : Nat} (h : i < n) : ShA (L.take n) (i : Int) = ShA L (i : Int) := by
  unfold ShA
  rw [Int.toNat_natCast]
  simp [List.getD, h]
/-- Each op of a well-formed model. -/
theorem gtR_at {O : Nat → Nat → Int} {h w c lo hi ot t wk : Int} {on : Nat} {L : List (Int × Int × Int)} (q : gtR O h w c lo hi ot on = (0, t, L, wk)) :
    ShA L ((0 : Nat) : Int) = (h, w, c) ∧ ∀ i, i < on → ∃ j : Nat, O i 1 = (j : Int) ∧ j ≤ i ∧ OpFit (O i 0) (O i 4) (O i 5) (O i 6) (O i 7) (O i 8) (O i 9) (O i 10) (O i 11) (ShA L (j : Int)) (ShA L ((i + 1 : Nat) : Int)) := by
  obtain ⟨hx, rfl, q2⟩ := gtR_st q
  clear q
  have q := q2
  have hv : vS3 (h, w, c) = true := (ouE_0 hx).1
  refine ⟨?_, fun i hi => ?_⟩
  · obtain ⟨wi, g1, -⟩ := stG_pre hv on L wk q 0 (by omega)
    unfold stG at g1
    simp only [Prod.mk.injEq, true_and] at g1
    rw [← ShA_take (n := 0 + 1) (by omega), ← g1.1]
    rfl
  · obtain ⟨wi, g1, -⟩ := stG_pre hv on L wk q (i + 1) (by omega)
    obtain ⟨L0, wk0, h0, hx0, hL, -⟩ := stG_step g1
    obtain ⟨w2, g2, -⟩ := stG_pre hv on L wk q i (by omega)
    rw [g2] at h0
    simp only [Prod.mk.injEq, true_and] at h0
    obtain ⟨rfl, rfl⟩ := h0
    obtain ⟨i1, i2, -⟩ := stG_inv hv i _ _ g2
    obtain ⟨t1, -, -, ⟨a0, a1⟩, -, t6⟩ := tk_0 hx0 i2
    obtain ⟨j, hj⟩ := Int.eq_ofNat_of_zero_le a0
    rw [hj] at a1 t1 t6
    refine ⟨j, hj, by omega, ?_⟩
    have e1 : ShA (L.take (i + 1)) (j : Int) = ShA L (j : Int) := ShA_take (by omega)
    have e2 : ShA L ((i + 1 : Nat) : Int) = mk3 (O i 0) (O i 3) (O i 4) (O i 5) (O i 6) (O i 7) (O i 8) (O i 9) (O i 10) (O i 11) (ShA L (j : Int)) := by
      rw [← ShA_take (n := i + 1 + 1) (by omega), hL]
      unfold ShA at e1 ⊢
      rw [Int.toNat_natCast]
      simp only [List.getD]
      rw [List.getElem?_append_right (by omega), i1, Nat.sub_self]
      unfold oM ShA
      rw [hj, Int.toNat_natCast]
      rw [Int.toNat_natCast] at e1
      simp only [List.getElem?_cons_zero, Option.getD_some]
      rw [e1]
      rfl
    rw [e1] at t1 t6
    rw [e2]
    exact fit_of t6 t1
/-! ### Ops that came in -/
def OpIn (w : World) (cs : List Value) : Prop :=
  ∃ (b0 : Int) (b1 : Int) (b2 : Int) (b3 : Int) (b4 : Int) (b5 : Int) (b6 : Int) (b7 : Int) (b8 : Int) (b9 : Int) (b10 : Int) (b11 : Int) (b12 : Option Addr) (l12 c12 : Nat) (z12 : List Int) (b13 : Option Addr) (l13 c13 : Nat) (z13 : List Int) (b14 : Int) (b15 : Int) (b16 : Int) (b17 : Int) (b18 : Int) (b19 : Int) (b20 : Int) (b21 : Int), cs = [.int .i64 b0, .int .i64 b1, .int .i64 b2, .int .i64 b3, .int .i64 b4, .int .i64 b5, .int .i64 b6, .int .i64 b7, .int .i64 b8, .int .i64 b9, .int .i64 b10, .int .i64 b11, .slice b12 l12 c12, .slice b13 l13 c13, .int .i64 b14, .int .i64 b15, .int .i64 b16, .int .i64 b17, .int .i64 b18, .int .i64 b19, .int .i64 b20, .int .i64 b21] ∧
    (Lit.int .i64 b0).wf = true ∧ (Lit.int .i64 b1).wf = true ∧ (Lit.int .i64 b2).wf = true ∧ (Lit.int .i64 b3).wf = true ∧ (Lit.int .i64 b4).wf = true ∧ (Lit.int .i64 b5).wf = true ∧ (Lit.int .i64 b6).wf = true ∧ (Lit.int .i64 b7).wf = true ∧ (Lit.int .i64 b8).wf = true ∧ (Lit.int .i64 b9).wf = true ∧ (Lit.int .i64 b10).wf = true ∧ (Lit.int .i64 b11).wf = true ∧
    IRow .i16 w b12 l12 c12 z12 ∧ l12 * 2 ≤ 140737488351232 ∧ IRow .i32 w b13 l13 c13 z13 ∧ l13 * 4 ≤ 140737488351232 ∧
    (Lit.int .i64 b14).wf = true ∧ (Lit.int .i64 b15).wf = true ∧ (Lit.int .i64 b16).wf = true ∧ (Lit.int .i64 b17).wf = true ∧ (Lit.int .i64 b18).wf = true ∧ (Lit.int .i64 b19).wf = true ∧ (Lit.int .i64 b20).wf = true ∧ (Lit.int .i64 b21).wf = true
/-- One op in memory, with its lists. -/
def LOp (w : World) (x : Addr) (o : Nat → Int) (z b : List Int) : Prop :=
  ∃ (wa : Option Addr) (lw cw : Nat) (ba : Option Addr) (lb cb : Nat), o 12 = (lw : Int) ∧ o 13 = (lb : Int) ∧ (∀ j v, (opl o wa lw cw ba lb cb)[j]? = some v → w.cell? (x.add j) = some v) ∧ IRow .i16 w wa lw cw z ∧ IRow .i32 w ba lb cb b ∧ lw * 2 ≤ 140737488351232 ∧ lb * 4 ≤ 140737488351232
/-- Ops in memory, with their lists. -/
def LRow (w : World) (oa : Option Addr) (on oc : Nat) (O : Nat → Nat → Int) (Z B : Nat → List Int) : Prop :=
  on ≤ oc ∧ oc ≤ maxLen ∧ (oa = none → oc = 0) ∧ ∀ x, oa = some x → ∀ i, i < on → LOp w (x.add (i * 22)) (O i) (Z i) (B i)
theorem LRow.m {w : World} {oa : Option Addr} {on oc : Nat} {O : Nat → Nat → Int} {Z B : Nat → List Int} (h : LRow w oa on oc O Z B) : MRow w oa on oc O :=
  ⟨h.1, h.2.1, h.2.2.1, fun x hx i hi => by
    obtain ⟨wa, lw, cw, ba, lb, cb, h1, h2, h3, -⟩ := h.2.2.2 x hx i hi
    exact ⟨wa, lw, cw, ba, lb, cb, h1, h2, fun j v hj => by rw [← Addr.add_add]; exact h3 j v hj⟩⟩
theorem LOp.below {w w' : World} {x : Addr} {o : Nat → Int} {z b : List Int} (h : LOp w x o z b) (g : Below w.heap.size w w') : LOp w' x o z b := by
  obtain ⟨wa, lw, cw, ba, lb, cb, h1, h2, h3, h4, h5, h6⟩ := h
  exact ⟨wa, lw, cw, ba, lb, cb, h1, h2, fun j v hj => (g.cell (World.block_lt_of_cell? w _ (h3 j v hj))).trans (h3 j v hj), h4.below g, h5.below g, h6⟩
theorem LRow.below {w w' : World} {oa : Option Addr} {on oc : Nat} {O : Nat → Nat → Int} {Z B : Nat → List Int} (h : LRow w oa on oc O Z B) (g : Below w.heap.size w w') : LRow w' oa on oc O Z B :=
  ⟨h.1, h.2.1, h.2.2.1, fun x hx i hi => (h.2.2.2 x hx i hi).below g⟩
def oL (b0 b1 b2 b3 b4 b5 b6 b7 b8 b9 b10 b11 b12 b13 b14 b15 b16 b17 b18 b19 b20 b21 : Int) (j : Nat) : Int := [b0, b1, b2, b3, b4, b5, b6, b7, b8, b9, b10, b11, b12, b13, b14, b15, b16, b17, b18, b19, b20, b21].getD j 0
theorem lop_of {w : World} {x : Addr} {cs : List Value} (h : OpIn w cs) (hc : ∀ j, j < 22 → w.cell? (x.add j) = cs[j]?) : ∃ o z b, LOp w x o z b := by
  obtain ⟨b0, b1, b2, b3, b4, b5, b6, b7, b8, b9, b10, b11, b12, l12, c12, z12, b13, l13, c13, z13, b14, b15, b16, b17, b18, b19, b20, b21, rfl, -, -, -, -, -, -, -, -, -, -, -, -, h1, h2, h3, h4, -⟩ := h
  refine ⟨oL b0 b1 b2 b3 b4 b5 b6 b7 b8 b9 b10 b11 l12 l13 b14 b15 b16 b17 b18 b19 b20 b21, z12, z13, b12, l12, c12, b13, l13, c13, rfl, rfl, fun j v hj => ?_, h1, h3, h2, h4⟩
  have hj' : j < 22 := (List.getElem?_eq_some_iff.1 hj).1
  rw [hc j hj', ← hj]
  rfl
theorem lrow_of {w : World} {oa : Option Addr} {on oc : Nat} (h : ORow 22 (OpIn w) w oa on oc) : ∃ O Z B, LRow w oa on oc O Z B := by
  obtain ⟨h1, h2, h3, h4⟩ := h
  cases oa with
  | none => exact ⟨fun _ _ => 0, fun _ => [], fun _ => [], h1, h2, h3, fun x hx => by cases hx⟩
  | some x =>
    have q : ∀ i, ∃ y : (Nat → Int) × List Int × List Int, i < on → LOp w (x.add (i * 22)) y.1 y.2.1 y.2.2 := by
      intro i
      by_cases hi : i < on
      · obtain ⟨cs, -, g1, g2⟩ := h4 x rfl i hi
        obtain ⟨o, z, b, g⟩ := lop_of (x := x.add (i * 22)) g1 (fun j hj => by rw [Addr.add_add]; exact g2 j hj)
        exact ⟨(o, z, b), fun _ => g⟩
      · exact ⟨(fun _ => 0, [], []), fun h => absurd h hi⟩
    obtain ⟨f, hf⟩ := Classical.skolem.1 q
    exact ⟨fun i => (f i).1, fun i => (f i).2.1, fun i => (f i).2.2, h1, h2, h3, fun y hy i hi => by cases hy; exact hf i hi⟩
end Go.Proofs.Ythagdpiocmcbmaa
