/- Models in plain numbers: the shapes, the work, the fault; ops in memory. -/
import Derived.Test.YthagdpiocmcbmaaMdlT
import Derived.Test.YthagdpiocmcbmaaMdlO
namespace Go.Proofs.Ythagdpiocmcbmaa
open Go.ChangeShapes Go.WideShapes Go.ChangeAt Go.RowKit
set_option linter.unusedVariables false
def oT (o : Nat → Int) (L : List (Int × Int × Int)) (wk : Int) : Int := tkE (o 0) (o 1) (o 2) (o 3) (o 4) (o 5) (o 6) (o 7) (o 8) (o 9) (o 10) (o 11) (o 12).toNat (o 13).toNat (o 14) (o 15) (o 16) (o 17) (o 18) (o 19) (o 20) (o 21) L wk
def oM (o : Nat → Int) (L : List (Int × Int × Int)) : Int × Int × Int := mk3 (o 0) (o 3) (o 4) (o 5) (o 6) (o 7) (o 8) (o 9) (o 10) (o 11) (ShA L (o 1))
def oW (o : Nat → Int) (L : List (Int × Int × Int)) : Int := opW (o 0) (o 3) (o 4) (o 5) (o 6) (o 7) (o 8) (o 9) (o 10) (o 11) (ShA L (o 1))
/-- An op's cells. -/
def opl (o : Nat → Int) (wa : Option Addr) (lw cw : Nat) (ba : Option Addr) (lb cb : Nat) : List Value := [.int .i64 (o 0), .int .i64 (o 1), .int .i64 (o 2), .int .i64 (o 3), .int .i64 (o 4), .int .i64 (o 5), .int .i64 (o 6), .int .i64 (o 7), .int .i64 (o 8), .int .i64 (o 9), .int .i64 (o 10), .int .i64 (o 11), .slice wa lw cw, .slice ba lb cb, .int .i64 (o 14), .int .i64 (o 15), .int .i64 (o 16), .int .i64 (o 17), .int .i64 (o 18), .int .i64 (o 19), .int .i64 (o 20), .int .i64 (o 21)]
/-- Ops in memory. -/
def MRow (w : World) (oa : Option Addr) (on oc : Nat) (O : Nat → Nat → Int) : Prop :=
  on ≤ oc ∧ oc ≤ maxLen ∧ (oa = none → oc = 0) ∧ ∀ x, oa = some x → ∀ i, i < on → ∃ (wa : Option Addr) (lw cw : Nat) (ba : Option Addr) (lb cb : Nat), O i 12 = (lw : Int) ∧ O i 13 = (lb : Int) ∧ ∀ j v, (opl (O i) wa lw cw ba lb cb)[j]? = some v → w.cell? (x.add (i * 22 + j)) = some v
theorem MRow.below {w w' : World} {oa : Option Addr} {on oc : Nat} {O : Nat → Nat → Int} (h : MRow w oa on oc O) (g : Below w.heap.size w w') : MRow w' oa on oc O :=
  ⟨h.1, h.2.1, h.2.2.1, fun x hx i hi => by
    obtain ⟨wa, lw, cw, ba, lb, cb, h1, h2, h3⟩ := h.2.2.2 x hx i hi
    exact ⟨wa, lw, cw, ba, lb, cb, h1, h2, fun j v hj => (g.cell (World.block_lt_of_cell? w _ (h3 j v hj))).trans (h3 j v hj)⟩⟩
theorem MRow.at {w : World} {oa : Option Addr} {on oc : Nat} {O : Nat → Nat → Int} (h : MRow w oa on oc O) {i : Nat} (hi : i < on) :
    ∃ (x : Addr) (wa : Option Addr) (lw cw : Nat) (ba : Option Addr) (lb cb : Nat), oa = some x ∧ O i 12 = (lw : Int) ∧ O i 13 = (lb : Int) ∧ ∀ j v, (opl (O i) wa lw cw ba lb cb)[j]? = some v → w.cell? ((x.add (i * 22)).add j) = some v := by
  cases oa with
  | none => have := h.2.2.1 rfl; have := h.1; omega
  | some x =>
    obtain ⟨wa, lw, cw, ba, lb, cb, h1, h2, h3⟩ := h.2.2.2 x rfl i hi
    exact ⟨x, wa, lw, cw, ba, lb, cb, rfl, h1, h2, fun j v hj => by rw [Addr.add_add]; exact h3 j v hj⟩
/-- Behind so many ops: the error and its op, the shapes, the work. -/
def stG (O : Nat → Nat → Int) (s0 : Int × Int × Int) : Nat → Int × Int × List (Int × Int × Int) × Int
  | 0 => (0, 0, [s0], 0)
  | i + 1 => if (stG O s0 i).1 ≠ 0 then stG O s0 i else if oT (O i) (stG O s0 i).2.2.1 (stG O s0 i).2.2.2 ≠ 0 then (oT (O i) (stG O s0 i).2.2.1 (stG O s0 i).2.2.2, (i : Int) + 1, [], 0)
    else (0, 0, (stG O s0 i).2.2.1 ++ [oM (O i) (stG O s0 i).2.2.1], (stG O s0 i).2.2.2 + oW (O i) (stG O s0 i).2.2.1)
theorem stG_succ (O : Nat → Nat → Int) (s0 : Int × Int × Int) (i : Nat) : stG O s0 (i + 1) = if (stG O s0 i).1 ≠ 0 then stG O s0 i else if oT (O i) (stG O s0 i).2.2.1 (stG O s0 i).2.2.2 ≠ 0 then (oT (O i) (stG O s0 i).2.2.1 (stG O s0 i).2.2.2, (i : Int) + 1, [], 0)
    else (0, 0, (stG O s0 i).2.2.1 ++ [oM (O i) (stG O s0 i).2.2.1], (stG O s0 i).2.2.2 + oW (O i) (stG O s0 i).2.2.1) := rfl
theorem stG_bad {O : Nat → Nat → Int} {s0 : Int × Int × Int} {i : Nat} (h : (stG O s0 i).1 ≠ 0) : ∀ d, stG O s0 (i + d) = stG O s0 i
  | 0 => rfl
  | d + 1 => by
    have e := stG_bad h d
    show stG O s0 (i + d + 1) = _
    rw [stG_succ, e, if_pos h]
theorem stG_err {O : Nat → Nat → Int} {s0 : Int × Int × Int} {i : Nat} {L : List (Int × Int × Int)} {wk x : Int} (h : stG O s0 i = (0, 0, L, wk)) (hx : oT (O i) L wk = x) (h0 : x ≠ 0) : stG O s0 (i + 1) = (x, (i : Int) + 1, [], 0) := by
  rw [stG_succ, h]
  simp only
  rw [if_neg (by decide), hx, if_pos h0]
theorem stG_ok {O : Nat → Nat → Int} {s0 : Int × Int × Int} {i : Nat} {L : List (Int × Int × Int)} {wk : Int} (h : stG O s0 i = (0, 0, L, wk)) (hx : oT (O i) L wk = 0) : stG O s0 (i + 1) = (0, 0, L ++ [oM (O i) L], wk + oW (O i) L) := by
  rw [stG_succ, h]
  simp only
  rw [if_neg (by decide), hx, if_neg (by decide)]
/-- What is known of an op that is taken. -/
theorem tk_0 {k a b m kh kw sh sw tp lf bt rt : Int} {lw lb : Nat} {sm ss um us z p lo hi : Int} {L : List (Int × Int × Int)} {wk : Int} (h : tkE k a b m kh kw sh sw tp lf bt rt lw lb sm ss um us z p lo hi L wk = 0) (hv : ∀ s ∈ L, vS3 s = true) : vS3 (mk3 k m kh kw sh sw tp lf bt rt (ShA L a)) = true ∧ 0 ≤ opW k m kh kw sh sw tp lf bt rt (ShA L a) ∧ wk + opW k m kh kw sh sw tp lf bt rt (ShA L a) ≤ 131072 ∧ (0 ≤ a ∧ a < (L.length : Int)) ∧ (1 ≤ k ∧ k ≤ 8) ∧ mkE k m kh kw sh sw tp lf bt rt (ShA L a).1 (ShA L a).2.1 (ShA L a).2.2 = 0 := by
  have h1 : opE k a b m kh kw sh sw tp lf bt rt lw lb sm ss um us z p lo hi L = 0 := by
    unfold tkE at h
    by_cases q : opE k a b m kh kw sh sw tp lf bt rt lw lb sm ss um us z p lo hi L ≠ 0
    · rw [if_pos q] at h; exact h
    · exact Decidable.not_not.1 q
  have h2 : ¬ 131072 < wk + opW k m kh kw sh sw tp lf bt rt (ShA L a) := by
    unfold tkE at h
    rw [if_neg (by rw [h1]; decide)] at h
    intro q
    rw [if_pos q] at h
    cases h
  unfold opE at h1
  by_cases q1 : fmE k a b L.length (ozB k b m kh kw sh sw tp lf bt rt lw lb sm ss um us z p) ≠ 0
  · rw [if_pos q1] at h1; exact absurd h1 q1
  · rw [if_neg q1] at h1
    obtain ⟨hk, ⟨ha0, han⟩, -, -⟩ := fmE_0 (Decidable.not_not.1 q1)
    by_cases q2 : mkE k m kh kw sh sw tp lf bt rt (ShA L a).1 (ShA L a).2.1 (ShA L a).2.2 ≠ 0
    · rw [if_pos q2] at h1; exact absurd h1 q2
    · have hx := Decidable.not_not.1 q2
      obtain ⟨i, rfl⟩ := Int.eq_ofNat_of_zero_le ha0
      have hg := hv _ (ShA_mem (show i < L.length by omega))
      obtain ⟨H, V, C, hO⟩ : ∃ H V C, mkO k m kh kw sh sw tp lf bt rt (ShA L i).1 (ShA L i).2.1 (ShA L i).2.2 = (H, V, C) := ⟨_, _, _, rfl⟩
      obtain ⟨hm, how⟩ := mk_3 (s := ShA L i) (st := st3 k kh kw (ShA L i)) rfl hx hO rfl
      obtain ⟨b1, b2, b3, b4⟩ := mkO_bd hx hO
      have hst := stR_bd hk hg (mkE_win hx)
      refine ⟨?_, ?_, by omega, ⟨by omega, han⟩, hk, hx⟩
      · have : vS3 (mkS k m kh kw sh sw tp lf bt rt (ShA L i).1 (ShA L i).2.1 (ShA L i).2.2) = true := by
          have e := hx
          unfold mkE at e
          by_cases hM : mkM k m = false
          · rw [if_pos hM] at e; cases e
          · rw [if_neg hM] at e
            by_cases hw : mkW k kh kw sh sw tp lf bt rt (ShA L i).1 (ShA L i).2.1 (ShA L i).2.2 ≠ 0
            · rw [if_pos hw] at e; exact absurd e hw
            · rw [if_neg hw] at e
              cases hv' : vS3 (mkS k m kh kw sh sw tp lf bt rt (ShA L i).1 (ShA L i).2.1 (ShA L i).2.2) with
              | true => rfl
              | false => rw [hv', if_pos rfl] at e; cases e
        exact this
      · rw [how]
        exact Int.mul_nonneg (by omega) (by have := hst.1; unfold st3; omega)
theorem stG_at0 {O : Nat → Nat → Int} {s0 : Int × Int × Int} : ∀ {i : Nat} {e t : Int} {L : List (Int × Int × Int)} {wk : Int}, stG O s0 i = (e, t, L, wk) → e = 0 → t = 0
  | 0, e, t, L, wk, h, _ => by unfold stG at h; simp only [Prod.mk.injEq] at h; exact h.2.1.symm
  | i + 1, e, t, L, wk, h, he => by
    rw [stG_succ] at h
    by_cases hb : (stG O s0 i).1 ≠ 0
    · rw [if_pos hb] at h
      rw [h] at hb
      exact absurd he hb
    · rw [if_neg hb] at h
      by_cases hx : oT (O i) (stG O s0 i).2.2.1 (stG O s0 i).2.2.2 ≠ 0
      · rw [if_pos hx] at h
        simp only [Prod.mk.injEq] at h
        exact absurd (h.1.trans he) hx
      · rw [if_neg hx] at h
        simp only [Prod.mk.injEq] at h
        exact h.2.1.symm
theorem stG_inv {O : Nat → Nat → Int} {s0 : Int × Int × Int} (hs : vS3 s0 = true) : ∀ (i : Nat) (L : List (Int × Int × Int)) (wk : Int), stG O s0 i = (0, 0, L, wk) → L.length = i + 1 ∧ (∀ s ∈ L, vS3 s = true) ∧ 0 ≤ wk ∧ wk ≤ 131072
  | 0, L, wk, h => by
    unfold stG at h
    simp only [Prod.mk.injEq, true_and] at h
    obtain ⟨rfl, rfl⟩ := h
    exact ⟨rfl, fun s hs' => by simp at hs'; rw [hs']; exact hs, by omega, by omega⟩
  | i + 1, L, wk, h => by
    by_cases hb : (stG O s0 i).1 = 0
    · obtain ⟨e, t, L0, wk0, h0⟩ : ∃ e t L0 wk0, stG O s0 i = (e, t, L0, wk0) := ⟨_, _, _, _, rfl⟩
      by_cases hx : oT (O i) (stG O s0 i).2.2.1 (stG O s0 i).2.2.2 = 0
      · rw [stG_succ] at h
        rw [if_neg (by rw [hb]; decide), if_neg (by rw [hx]; decide)] at h
        simp only [Prod.mk.injEq, true_and] at h
        obtain ⟨rfl, rfl⟩ := h
        rw [h0] at hx hb ⊢
        simp only at hx hb ⊢
        have ht : t = 0 := stG_at0 h0 hb
        subst hb ht
        obtain ⟨i1, i2, i3, i4⟩ := stG_inv hs i L0 wk0 h0
        obtain ⟨t1, t2, t3, -⟩ := tk_0 hx i2
        refine ⟨by simp [i1], fun s hs' => ?_, Int.add_nonneg i3 t2, t3⟩
        rcases List.mem_append.1 hs' with q | q
        · exact i2 s q
        · simp at q; rw [q]; exact t1
      · rw [stG_succ] at h
        rw [if_neg (by rw [hb]; decide), if_pos hx] at h
        simp only [Prod.mk.injEq] at h
        exact absurd h.1 hx
    · rw [stG_succ, if_pos hb] at h
      rw [h] at hb
      exact absurd rfl hb
end Go.Proofs.Ythagdpiocmcbmaa
