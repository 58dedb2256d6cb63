/- A well-formed model's numbers fit their forms. -/
import Derived.Test.YthagdpiocmcbmaaPckM
namespace Go.Proofs.Ythagdpiocmcbmaa
open Wr
set_option linter.unusedVariables false
theorem tk_more {k a b m kh kw sh sw tp lf bt rt : Int} {lw lb : Nat} {sm ss um us z p lo hi : Int} {L : List (Int × Int × Int)} {wk : Int} (h : tkE k a b m kh kw sh sw tp lf bt rt lw lb sm ss um us z p lo hi L wk = 0) : ozB k b m kh kw sh sw tp lf bt rt lw lb sm ss um us z p = true ∧ (k = 6 → 0 ≤ b ∧ b < (L.length : Int)) ∧ nuE k (mk3 k m kh kw sh sw tp lf bt rt (ShA L a)).2.2 (st3 k kh kw (ShA L a)) lw lb sm ss um us z p lo hi = 0 := by
  have h1 : opE k a b m kh kw sh sw tp lf bt rt lw lb sm ss um us z p lo hi L = 0 := by
    unfold tkE at h
    by_cases q : opE k a b m kh kw sh sw tp lf bt rt lw lb sm ss um us z p lo hi L ≠ 0
    · rw [if_pos q] at h; exact h
    · exact Decidable.not_not.1 q
  unfold opE at h1
  by_cases q1 : fmE k a b L.length (ozB k b m kh kw sh sw tp lf bt rt lw lb sm ss um us z p) ≠ 0
  · rw [if_pos q1] at h1; exact absurd h1 q1
  rw [if_neg q1] at h1
  obtain ⟨-, -, hb, ho⟩ := fmE_0 (Decidable.not_not.1 q1)
  by_cases q2 : mkE k m kh kw sh sw tp lf bt rt (ShA L a).1 (ShA L a).2.1 (ShA L a).2.2 ≠ 0
  · rw [if_pos q2] at h1; exact absurd h1 q2
  rw [if_neg q2] at h1
  by_cases q3 : k = 6 ∧ ShA L a ≠ ShA L b
  · rw [if_pos q3] at h1; cases h1
  rw [if_neg q3] at h1
  by_cases q4 : rdB k = true ∧ 512 < st3 k kh kw (ShA L a)
  · rw [if_pos q4] at h1; cases h1
  rw [if_neg q4] at h1
  exact ⟨ho, hb, h1⟩
theorem mkE_m {k m kh kw sh sw tp lf bt rt h w c : Int} (hx : mkE k m kh kw sh sw tp lf bt rt h w c = 0) : k ≤ 2 → 1 ≤ m ∧ m ≤ 1024 := by
  unfold mkE at hx
  by_cases hM : mkM k m = false
  · rw [if_pos hM] at hx; cases hx
  · have : mkM k m = true := by cases e : mkM k m with | true => rfl | false => exact absurd e hM
    unfold mkM at this
    exact of_decide_eq_true this
theorem win_of {k m kh kw sh sw tp lf bt rt h w c : Int} (hx : mkE k m kh kw sh sw tp lf bt rt h w c = 0) (hk : 2 ≤ k ∧ k ≤ 5) : InW kh kw sh sw tp lf bt rt := by
  have hw := mkE_parts hx
  unfold mkW at hw
  rw [if_pos hk] at hw
  rcases ouR_cases h w c kh kw sh sw tp lf bt rt with ⟨e, he, h1⟩ | ⟨r, q, -, hF⟩
  · rw [he] at hw; simp only at hw; omega
  · exact hF.2.1
theorem mul4 {r q ch n W : Int} (hr : 1 ≤ r) (hq : 1 ≤ q) (hc : 0 ≤ ch) (hn : 0 ≤ n) (h : r * q * ch * n ≤ W) : ch * n ≤ W := by
  have h1 : 1 * 1 ≤ r * q := Int.mul_le_mul hr hq (by omega) (by omega)
  have h2 : 0 ≤ ch * n := Int.mul_nonneg hc hn
  have h3 : 1 * (ch * n) ≤ r * q * (ch * n) := Int.mul_le_mul_of_nonneg_right (by omega) h2
  rw [Int.mul_assoc] at h
  omega
/-- One op that is taken. -/
theorem op_fits {k a b m kh kw sh sw tp lf bt rt : Int} {lw lb : Nat} {sm ss um us z p lo hi : Int} {L : List (Int × Int × Int)} {wk : Int} (h : tkE k a b m kh kw sh sw tp lf bt rt lw lb sm ss um us z p lo hi L wk = 0) (hv : ∀ s ∈ L, vS3 s = true) (hl : L.length ≤ 65) (hwk : 0 ≤ wk) :
    InU [k, a, b, m, kh, kw, sh, sw, tp, lf, bt, rt] ∧ lw ≤ 131072 ∧ lb ≤ 1024 ∧ InU [sm, ss, um, us] ∧ InS [z, p, lo, hi] := by
  obtain ⟨t1, t2, t3, ⟨a0, a1⟩, ⟨k1, k2⟩, hx⟩ := tk_0 h hv
  obtain ⟨ho, hb, hn⟩ := tk_more h
  obtain ⟨n1, n2, n3⟩ := nuE_0 hn
  unfold ozB at ho
  obtain ⟨o1, o2, o3, o4, o5, o6, o7⟩ := of_decide_eq_true ho
  have hm := mkE_m hx
  have hW : (2 ≤ k ∧ k ≤ 5) → InW kh kw sh sw tp lf bt rt := win_of hx
  simp only [rzB, rgB, Bool.and_eq_true] at n3
  obtain ⟨⟨⟨⟨r1, r2⟩, -⟩, r3⟩, r4⟩ := n3
  have r1 := vlB_yes r1
  have r2 := vlB_yes r2
  have r3 := vlB_yes r3
  have r4 := vlB_yes r4
  unfold leB at n1
  have n1 := of_decide_eq_true n1
  have n2a : scK k = true → scB sm ss = true := fun e => by simp only [ssB, e, Bool.not_true, Bool.false_or, Bool.and_eq_true] at n2; exact n2.1
  have n2b : k = 6 → scB um us = true := fun e => by subst e; simp only [ssB, Bool.and_eq_true] at n2; simpa using n2.2
  have s1 : (k ≤ 3 ∨ k = 6 ∨ k = 7) → 1 ≤ sm ∧ sm ≤ 2147483647 ∧ 0 ≤ ss ∧ ss ≤ 62 := fun e => by
    have := n2a (by unfold scK; exact decide_eq_true (by omega))
    unfold scB at this
    exact of_decide_eq_true this
  have s2 : k = 6 → 1 ≤ um ∧ um ≤ 2147483647 ∧ 0 ≤ us ∧ us ≤ 62 := fun e => by
    have := n2b e
    unfold scB at this
    exact of_decide_eq_true this
  obtain ⟨i, rfl⟩ := Int.eq_ofNat_of_zero_le a0
  have hg := hv _ (ShA_mem (show i < L.length by omega))
  have hst := stR_bd ⟨k1, k2⟩ hg (mkE_win hx)
  unfold vS3 at t1
  have v := vS_yes t1
  have hlw : k ≤ 3 → (lw : Int) ≤ 131072 ∧ (lb : Int) ≤ 1024 := fun e => by
    obtain ⟨e1, e2⟩ := n1 e
    have hst0 : 0 ≤ st3 k kh kw (ShA L i) := by have := hst.1; unfold st3; omega
    have t4 : (mk3 k m kh kw sh sw tp lf bt rt (ShA L i)).1 * (mk3 k m kh kw sh sw tp lf bt rt (ShA L i)).2.1 * (mk3 k m kh kw sh sw tp lf bt rt (ShA L i)).2.2 * st3 k kh kw (ShA L i) ≤ 131072 := by unfold opW at t3; omega
    have := mul4 v.1.1 v.2.1.1 (by omega) hst0 t4
    omega
  refine ⟨?_, ?_, ?_, ?_, ?_⟩
  · intro x hx'
    simp only [List.mem_cons, List.not_mem_nil, or_false] at hx'
    by_cases w1 : 2 ≤ k ∧ k ≤ 5
    · have hw := hW w1
      unfold InW at hw
      rcases hx' with rfl | rfl | rfl | rfl | rfl | rfl | rfl | rfl | rfl | rfl | rfl | rfl <;> omega
    · rcases hx' with rfl | rfl | rfl | rfl | rfl | rfl | rfl | rfl | rfl | rfl | rfl | rfl <;> omega
  · by_cases e : k ≤ 3
    · have := hlw e; omega
    · have := o3 (by omega); omega
  · by_cases e : k ≤ 3
    · have := hlw e; omega
    · have := o3 (by omega); omega
  · intro x hx'
    simp only [List.mem_cons, List.not_mem_nil, or_false] at hx'
    rcases hx' with rfl | rfl | rfl | rfl <;> omega
  · intro x hx'
    simp only [List.mem_cons, List.not_mem_nil, or_false] at hx'
    rcases hx' with rfl | rfl | rfl | rfl <;> omega
/-- Lists that an op has: their lengths, their kinds. -/
def Lens (on : Nat) (O : Nat → Nat → Int) (Z B : Nat → List Int) : Prop := ∀ i, i < on → O i 12 = ((Z i).length : Int) ∧ O i 13 = ((B i).length : Int) ∧ In16 (Z i) ∧ InS (B i)
theorem lens_of {w : World} {oa : Option Addr} {on oc : Nat} {O : Nat → Nat → Int} {Z B : Nat → List Int} (h : LRow w oa on oc O Z B) : Lens on O Z B := by
  intro i hi
  obtain ⟨x, -, wa, lw, cw, ba, lb, cb, e12, e13, -, hz, hb, -, -⟩ := h.at hi
  exact ⟨by rw [e12, hz.1], by rw [e13, hb.1], fun q hq => i16_of (hz.2.2.2.1 q hq), fun q hq => i32_of (hb.2.2.2.1 q hq)⟩
theorem mod_fits {O : Nat → Nat → Int} {Z B : Nat → List Int} {h w c lo hi ot t wk : Int} {on : Nat} {L : List (Int × Int × Int)} (q : gtR O h w c lo hi ot on = (0, t, L, wk)) (hL : Lens on O Z B) :
    ModF (dMod h w c lo hi ot on O Z B) ∧ OFit on O Z B ∧ In64 [lo, hi] := by
  obtain ⟨hx, rfl, q2⟩ := gtR_st q
  obtain ⟨v1, v2, v3, v4, v5⟩ := ouE_0 hx
  have v := vS_yes v1
  simp only [rgB, Bool.and_eq_true] at v2
  obtain ⟨⟨u1, u2⟩, -⟩ := v2
  have u1 := vlB_yes u1
  have u2 := vlB_yes u2
  have v0 : vS3 (h, w, c) = true := v1
  have each : ∀ i, i < on → OpF (dOp (O i) (Z i) (B i)) := fun i hi => by
    obtain ⟨wi, g1, -⟩ := stG_pre v0 on L wk q2 (i + 1) (by omega)
    obtain ⟨L0, wk0, h0, hx0, -, -⟩ := stG_step g1
    obtain ⟨i1, i2, i3, -⟩ := stG_inv v0 i _ _ h0
    obtain ⟨l1, l2, l3, l4⟩ := hL i hi
    obtain ⟨f1, f2, f3, f4, f5⟩ := op_fits hx0 i2 (by omega) i3
    rw [l1] at f2
    rw [l2] at f3
    exact ⟨rfl, f1, f2, l3, f3, l4, rfl, f4, rfl, f5⟩
  refine ⟨⟨rfl, fun x hx => ?_, rfl, fun x hx => ?_, by simp [dMod, dOps_len]; omega, fun d hd => ?_, v4, by simp only [dMod]; omega⟩, ⟨by omega, fun i hi => ?_⟩, fun x hx => ?_⟩
  · simp only [dMod, List.mem_cons, List.not_mem_nil, or_false] at hx
    rcases hx with rfl | rfl | rfl <;> omega
  · simp only [dMod, List.mem_cons, List.not_mem_nil, or_false] at hx
    rcases hx with rfl | rfl <;> omega
  · simp only [dMod, dOps, List.mem_map, List.mem_range] at hd
    obtain ⟨i, hi, rfl⟩ := hd
    exact each i hi
  · obtain ⟨-, -, f2, l3, f3, l4, -, -, -, f5⟩ := each i hi
    exact ⟨f2, f3, l3, l4, fun x hx => by have := f5 x hx; omega⟩
  · simp only [List.mem_cons, List.not_mem_nil, or_false] at hx
    rcases hx with rfl | rfl <;> omega
end Go.Proofs.Ythagdpiocmcbmaa
