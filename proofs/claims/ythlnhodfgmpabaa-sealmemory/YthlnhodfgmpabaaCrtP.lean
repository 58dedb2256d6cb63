/- Certificates in plain numbers: their form, what their plans cost. -/
import Derived.Test.YthlnhodfgmpabaaHeld
namespace Go.Proofs.Ythlnhodfgmpabaa
open Go.ChangeShapes Go.WideShapes Go.ChangeAt Go.RowKit
set_option linter.unusedVariables false
/-- A channel's plan: width, depth, the ends of its Part, of its Total. -/
abbrev Pl := Int × Int × Int × Int × Int × Int
def cvB (s : Int × Int) : Bool := decide (-128 ≤ s.1 ∧ s.1 ≤ s.2 ∧ s.2 ≤ 127)
def pvB (p : Pl) : Bool := decide (p.2.2.1 ≤ p.2.2.2.1 ∧ p.2.2.2.2.1 ≤ p.2.2.2.2.2)
/-- The fault of the spans from number i on. -/
def raE : List (Int × Int) → Nat → Int × Int × Int
  | [], _ => (0, 0, 0)
  | s :: r, i => if cvB s = true then raE r (i + 1) else (30, (i : Int), 0)
/-- .. of an op's plans, from number k on. -/
def plE (op : Int) : List Pl → Nat → Int × Int × Int
  | [], _ => (0, 0, 0)
  | p :: r, k => if pvB p = true then plE op r (k + 1) else (30, op, (k : Int) + 1)
def liE (n op : Int) (l : List Pl) : Int × Int × Int := if (l.length : Int) = n then plE op l 0 else (70, op, 0)
def psE (N : Nat → Int) : List (List Pl) → Nat → Int × Int × Int
  | [], _ => (0, 0, 0)
  | l :: r, i => if (liE (N i) ((i : Int) + 1) l).1 = 0 then psE N r (i + 1) else liE (N i) ((i : Int) + 1) l
theorem raE_yes {s : Int × Int} {r : List (Int × Int)} {i : Nat} (h : cvB s = true) : raE (s :: r) i = raE r (i + 1) := if_pos h
theorem raE_no {s : Int × Int} {r : List (Int × Int)} {i : Nat} (h : cvB s = false) : raE (s :: r) i = (30, (i : Int), 0) := if_neg (by rw [h]; decide)
theorem plE_yes {op : Int} {p : Pl} {r : List Pl} {k : Nat} (h : pvB p = true) : plE op (p :: r) k = plE op r (k + 1) := if_pos h
theorem plE_no {op : Int} {p : Pl} {r : List Pl} {k : Nat} (h : pvB p = false) : plE op (p :: r) k = (30, op, (k : Int) + 1) := if_neg (by rw [h]; decide)
theorem raE_0 : ∀ (r : List (Int × Int)) (i : Nat), (raE r i).1 = 0 → raE r i = (0, 0, 0)
  | [], _, _ => rfl
  | s :: r, i, h => by
    cases q : cvB s with
    | true => rw [raE_yes q] at h ⊢; exact raE_0 r _ h
    | false => rw [raE_no q] at h; cases h
theorem plE_0 {op : Int} : ∀ (r : List Pl) (i : Nat), (plE op r i).1 = 0 → plE op r i = (0, 0, 0)
  | [], _, _ => rfl
  | s :: r, i, h => by
    cases q : pvB s with
    | true => rw [plE_yes q] at h ⊢; exact plE_0 r _ h
    | false => rw [plE_no q] at h; cases h
theorem liE_0 {n op : Int} {l : List Pl} (h : (liE n op l).1 = 0) : liE n op l = (0, 0, 0) ∧ (l.length : Int) = n := by
  unfold liE at h ⊢
  by_cases q : (l.length : Int) = n
  · rw [if_pos q] at h ⊢; exact ⟨plE_0 l 0 h, q⟩
  · rw [if_neg q] at h; cases h
theorem psE_yes {N : Nat → Int} {l : List Pl} {r : List (List Pl)} {i : Nat} (h : (liE (N i) ((i : Int) + 1) l).1 = 0) : psE N (l :: r) i = psE N r (i + 1) := if_pos h
theorem psE_no {N : Nat → Int} {l : List Pl} {r : List (List Pl)} {i : Nat} (h : ¬ (liE (N i) ((i : Int) + 1) l).1 = 0) : psE N (l :: r) i = liE (N i) ((i : Int) + 1) l := if_neg h
theorem psE_0 {N : Nat → Int} : ∀ (r : List (List Pl)) (i : Nat), (psE N r i).1 = 0 → psE N r i = (0, 0, 0)
  | [], _, _ => rfl
  | l :: r, i, h => by
    by_cases q : (liE (N i) ((i : Int) + 1) l).1 = 0
    · rw [psE_yes q] at h ⊢; exact psE_0 r _ h
    · rw [psE_no q] at h; exact absurd h q
/-- Each list of a certificate that has the form is as long as it ought to be. -/
theorem psE_len {N : Nat → Int} : ∀ (r : List (List Pl)) (i : Nat), (psE N r i).1 = 0 → ∀ j l, r[j]? = some l → (l.length : Int) = N (i + j)
  | [], _, _, j, l, hj => by simp at hj
  | x :: r, i, h, j, l, hj => by
    by_cases q : (liE (N i) ((i : Int) + 1) x).1 = 0
    · rw [psE_yes q] at h
      cases j with
      | zero => simp at hj; subst hj; exact (liE_0 q).2
      | succ j =>
        have := psE_len r (i + 1) h j l (by simpa using hj)
        rw [this, show i + 1 + j = i + (j + 1) by omega]
    · rw [psE_no q] at h; exact absurd h q
/-- Form's fault. -/
def foE (e t : Int) (on : Nat) (N : Nat → Int) (R : List (Int × Int)) (P : List (List Pl)) : Int × Int × Int :=
  if e ≠ 0 then (e, t, 0) else if ¬ (R.length = on + 1 ∧ P.length = on) then (70, 0, 0) else if (raE R 0).1 ≠ 0 then raE R 0 else psE N P 0
theorem foE_e {e t : Int} {on : Nat} {N : Nat → Int} {R : List (Int × Int)} {P : List (List Pl)} (h : e ≠ 0) : foE e t on N R P = (e, t, 0) := if_pos h
theorem foE_l {t : Int} {on : Nat} {N : Nat → Int} {R : List (Int × Int)} {P : List (List Pl)} (h : ¬ (R.length = on + 1 ∧ P.length = on)) : foE 0 t on N R P = (70, 0, 0) := by unfold foE; rw [if_neg (by decide), if_pos h]
theorem foE_r {t : Int} {on : Nat} {N : Nat → Int} {R : List (Int × Int)} {P : List (List Pl)} (h : R.length = on + 1 ∧ P.length = on) (hr : (raE R 0).1 ≠ 0) : foE 0 t on N R P = raE R 0 := by unfold foE; rw [if_neg (by decide), if_neg (by simpa using h), if_pos hr]
theorem foE_p {t : Int} {on : Nat} {N : Nat → Int} {R : List (Int × Int)} {P : List (List Pl)} (h : R.length = on + 1 ∧ P.length = on) (hr : (raE R 0).1 = 0) : foE 0 t on N R P = psE N P 0 := by unfold foE; rw [if_neg (by decide), if_neg (by simpa using h), if_neg (by rw [hr]; decide)]
/-- What is known of a certificate that has the form. -/
theorem foE_0 {e t : Int} {on : Nat} {N : Nat → Int} {R : List (Int × Int)} {P : List (List Pl)} (h : (foE e t on N R P).1 = 0) (ht : e = 0 → t = 0) : foE e t on N R P = (0, 0, 0) ∧ e = 0 ∧ R.length = on + 1 ∧ P.length = on ∧ (raE R 0).1 = 0 ∧ (psE N P 0).1 = 0 := by
  by_cases he : e = 0
  · subst he
    by_cases hl : R.length = on + 1 ∧ P.length = on
    · by_cases hr : (raE R 0).1 = 0
      · rw [foE_p hl hr] at h ⊢; exact ⟨psE_0 P 0 h, rfl, hl.1, hl.2, hr, h⟩
      · rw [foE_r hl hr] at h; exact absurd h hr
    · rw [foE_l hl] at h; cases h
  · rw [foE_e he] at h; exact absurd h he
/-! ### What plans cost -/
abbrev T4 := Int × Int × Int × Int
def bkV (n d : Int) : Int := 1 + (n - 1) / d
def deE (p : Pl) (n : Int) : Int := if p.1 = 16 then (if 1 ≤ p.2.1 ∧ p.2.1 ≤ n then 0 else 151) else if p.1 = 32 then (if p.2.1 = n then 0 else 151) else 150
def coS (p : Pl) (n : Int) : T4 := if p.1 = 16 then (n, n, 0, bkV n p.2.1) else (0, 0, n, n)
def adT (t s : T4) (q : Int) : T4 := (t.1 + s.1 * q, t.2.1 + s.2.1 * q, t.2.2.1 + s.2.2.1 * q, t.2.2.2 + s.2.2.2 * q)
def coL (op n q : Int) : List Pl → Nat → T4 → T4 × Int × Int × Int
  | [], _, t => (t, 0, 0, 0)
  | p :: r, k, t => if deE p n = 0 then coL op n q r (k + 1) (adT t (coS p n) q) else ((0, 0, 0, 0), deE p n, op, (k : Int) + 1)
def coP (N Q : Nat → Int) : List (List Pl) → Nat → T4 → T4 × Int × Int × Int
  | [], _, t => (t, 0, 0, 0)
  | l :: r, i, t => if (coL ((i : Int) + 1) (N i) (Q i) l 0 t).2.1 = 0 then coP N Q r (i + 1) (coL ((i : Int) + 1) (N i) (Q i) l 0 t).1 else coL ((i : Int) + 1) (N i) (Q i) l 0 t
theorem coL_yes {op n q : Int} {p : Pl} {r : List Pl} {k : Nat} {t : T4} (h : deE p n = 0) : coL op n q (p :: r) k t = coL op n q r (k + 1) (adT t (coS p n) q) := if_pos h
theorem coL_no {op n q : Int} {p : Pl} {r : List Pl} {k : Nat} {t : T4} (h : ¬ deE p n = 0) : coL op n q (p :: r) k t = ((0, 0, 0, 0), deE p n, op, (k : Int) + 1) := if_neg h
theorem coL_0 {op n q : Int} : ∀ (l : List Pl) (k : Nat) (t : T4), (coL op n q l k t).2.1 = 0 → (coL op n q l k t).2 = (0, 0, 0)
  | [], _, _, _ => rfl
  | p :: r, k, t, h => by
    by_cases g : deE p n = 0
    · rw [coL_yes g] at h ⊢; exact coL_0 r _ _ h
    · rw [coL_no g] at h; exact absurd h g
theorem coL_e {op n q : Int} : ∀ (l : List Pl) (k : Nat) (t : T4), (coL op n q l k t).2.1 ≠ 0 → (coL op n q l k t).1 = (0, 0, 0, 0)
  | [], _, _, h => absurd rfl h
  | p :: r, k, t, h => by
    by_cases g : deE p n = 0
    · rw [coL_yes g] at h ⊢; exact coL_e r _ _ h
    · rw [coL_no g]
theorem coP_yes {N Q : Nat → Int} {l : List Pl} {r : List (List Pl)} {i : Nat} {t : T4} (h : (coL ((i : Int) + 1) (N i) (Q i) l 0 t).2.1 = 0) : coP N Q (l :: r) i t = coP N Q r (i + 1) (coL ((i : Int) + 1) (N i) (Q i) l 0 t).1 := if_pos h
theorem coP_no {N Q : Nat → Int} {l : List Pl} {r : List (List Pl)} {i : Nat} {t : T4} (h : ¬ (coL ((i : Int) + 1) (N i) (Q i) l 0 t).2.1 = 0) : coP N Q (l :: r) i t = coL ((i : Int) + 1) (N i) (Q i) l 0 t := if_neg h
theorem coP_0 {N Q : Nat → Int} : ∀ (r : List (List Pl)) (i : Nat) (t : T4), (coP N Q r i t).2.1 = 0 → (coP N Q r i t).2 = (0, 0, 0)
  | [], _, _, _ => rfl
  | l :: r, i, t, h => by
    by_cases g : (coL ((i : Int) + 1) (N i) (Q i) l 0 t).2.1 = 0
    · rw [coP_yes g] at h ⊢; exact coP_0 r _ _ h
    · rw [coP_no g] at h; exact absurd h g
theorem coP_e {N Q : Nat → Int} : ∀ (r : List (List Pl)) (i : Nat) (t : T4), (coP N Q r i t).2.1 ≠ 0 → (coP N Q r i t).1 = (0, 0, 0, 0)
  | [], _, _, h => absurd rfl h
  | l :: r, i, t, h => by
    by_cases g : (coL ((i : Int) + 1) (N i) (Q i) l 0 t).2.1 = 0
    · rw [coP_yes g] at h ⊢; exact coP_e r _ _ h
    · rw [coP_no g] at h ⊢; exact coL_e _ _ _ h
/-- Cost's answer, of a certificate whose form's fault is f. -/
def csE (f : Int × Int × Int) (N Q : Nat → Int) (P : List (List Pl)) : T4 × Int × Int × Int := if f.1 ≠ 0 then ((0, 0, 0, 0), f) else coP N Q P 0 (0, 0, 0, 0)
/-! ### Bounds -/
theorem bkV_bd {n d : Int} (h : 1 ≤ d ∧ d ≤ n) : 1 ≤ bkV n d ∧ bkV n d ≤ n := by
  unfold bkV
  have h1 : 0 ≤ (n - 1) / d := Int.ediv_nonneg (by omega) (by omega)
  have h2 : (n - 1) / d ≤ n - 1 := Int.ediv_le_self _ (by omega)
  omega
theorem bkV_mono {n d e : Int} (h : 1 ≤ d) (hd : d ≤ e) (hn : 1 ≤ n) : bkV n e ≤ bkV n d := by
  unfold bkV
  have : (n - 1) / e ≤ (n - 1) / d := by
    have h0 : 0 ≤ (n - 1) / e := Int.ediv_nonneg (by omega) (by omega)
    refine (Int.le_ediv_iff_mul_le (by omega)).2 ?_
    have h1 := Int.ediv_mul_le (n - 1) (show e ≠ 0 by omega)
    have h2 : (n - 1) / e * d ≤ (n - 1) / e * e := Int.mul_le_mul_of_nonneg_left hd h0
    omega
  omega
theorem deE_16 {p : Pl} {n : Int} (h : p.1 = 16) (h0 : deE p n = 0) : 1 ≤ p.2.1 ∧ p.2.1 ≤ n := by
  unfold deE at h0
  rw [if_pos h] at h0
  by_cases g : 1 ≤ p.2.1 ∧ p.2.1 ≤ n
  · exact g
  · rw [if_neg g] at h0; cases h0
theorem coS_bd {p : Pl} {n : Int} (hn : 0 ≤ n) (h0 : deE p n = 0) : (0 ≤ (coS p n).1 ∧ (coS p n).1 ≤ n) ∧ (0 ≤ (coS p n).2.1 ∧ (coS p n).2.1 ≤ n) ∧ (0 ≤ (coS p n).2.2.1 ∧ (coS p n).2.2.1 ≤ n) ∧ (0 ≤ (coS p n).2.2.2 ∧ (coS p n).2.2.2 ≤ n) := by
  unfold coS
  by_cases h : p.1 = 16
  · have := bkV_bd (deE_16 h h0)
    rw [if_pos h]
    exact ⟨⟨hn, Int.le_refl _⟩, ⟨hn, Int.le_refl _⟩, ⟨Int.le_refl _, hn⟩, ⟨by simp only; omega, this.2⟩⟩
  · rw [if_neg h]
    exact ⟨⟨Int.le_refl _, hn⟩, ⟨Int.le_refl _, hn⟩, ⟨hn, Int.le_refl _⟩, ⟨hn, Int.le_refl _⟩⟩
/-- Each count lies between 0 and a bound. -/
def Tb (t : T4) (b : Int) : Prop := (0 ≤ t.1 ∧ t.1 ≤ b) ∧ (0 ≤ t.2.1 ∧ t.2.1 ≤ b) ∧ (0 ≤ t.2.2.1 ∧ t.2.2.1 ≤ b) ∧ (0 ≤ t.2.2.2 ∧ t.2.2.2 ≤ b)
theorem Tb.le {t : T4} {b c : Int} (h : Tb t b) (hc : b ≤ c) : Tb t c := by unfold Tb at *; omega
theorem mulbd {x n q : Int} (hx : 0 ≤ x ∧ x ≤ n) (hq : 0 ≤ q) : 0 ≤ x * q ∧ x * q ≤ n * q := ⟨Int.mul_nonneg hx.1 hq, Int.mul_le_mul_of_nonneg_right hx.2 hq⟩
theorem Tb.add {t : T4} {b : Int} {p : Pl} {n q : Int} (h : Tb t b) (hn : 0 ≤ n) (hq : 0 ≤ q) (h0 : deE p n = 0) : Tb (adT t (coS p n) q) (b + n * q) := by
  obtain ⟨c1, c2, c3, c4⟩ := coS_bd hn h0
  have d1 := mulbd c1 hq
  have d2 := mulbd c2 hq
  have d3 := mulbd c3 hq
  have d4 := mulbd c4 hq
  unfold Tb at h ⊢
  unfold adT
  simp only
  omega
end Go.Proofs.Ythlnhodfgmpabaa
