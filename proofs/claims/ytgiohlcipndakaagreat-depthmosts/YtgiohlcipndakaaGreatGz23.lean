/- Quotients rounded half away from zero, as plain numbers. What the inner functions of package fixq, Shift, Mean and Finish return: each for every argument that fits its type. What Valid and Apply of package fixq return: each for every argument that fits its type. What an op makes of its tensors, in plain numbers; what is known of each op of a well-formed model; an op alone. The hulls of a channel: of an op alone, whatever is picked; what is picked by the four calls. What the closures of Total, Run, Product and Part of package bound take of a row of ends. What the closure of Part of package bound takes of a row of ends: block by block. What is known of what the four calls of package bound take. What Total, Run, Part and Product of package bound return. -/
import Derived.Test.YtgiohlcipndakaaGreatGz01
import Derived.Test.YtgiohlcipndakaaGreatGz14
import Derived.Test.YtgiohlcipndakaaGreatGz22
import Derived.BigQuiet
import Derived.Below
import Derived.WalkSmall
/- Quotients rounded half away from zero, as plain numbers. -/
namespace Go.Proofs.YtgiohlcipndakaaGreat.Fx
open Go.Value renaming int → U
open Go.IntKind renaming i64 → i6
set_option maxRecDepth 100000
set_option maxHeartbeats 16000000
def hq (s d : Int) : Int := if d ≤ 2 * (s % d) then s / d + 1 else s / d
def rq (x d : Int) : Int := if x < 0 then -(hq (-x) d) else hq x d
def p2 (n : Int) : Int := 2 ^ n.toNat
open Go.ChangeShapes Go.WideShapes Go.ChangeAt Go.RowKit
theorem drewN_below (w : World) (n : Nat) : Below w.heap.size w (w.drewN n) := below_drewN (Below.refl _ _) n
def shB (n : Int) : Bool := decide (0 ≤ n ∧ n ≤ 62)
def shV (x n : Int) : Int := if shB n = true then rq x (p2 n) else 0
def shE (n : Int) : Int := if shB n = true then 0 else 20
theorem reach_any (n : Int) (w : World) :
  Calls Tryz.prog 123 #[U i6 n] w fun e w' => e = .returned (.bool (shB n)) ∧ w' = w := by
 by_cases c : 0 ≤ n
 ·have HR : Hid (decide (n ≤ 62) = shB n) := by unfold Hid shB; simp [c]
  go_enter Tryz.func123, Tryz.ntmps123
  go_wp2
  go_ret
  exact ⟨retB HR.out, rfl⟩
 ·have HR : Hid (false = shB n) := by unfold Hid shB; simp; omega
  go_enter Tryz.func123, Tryz.ntmps123
  go_wp2
  go_ret
  exact ⟨retB HR.out, rfl⟩
def meV (x n : Int) : Int := if n < 1 then 0 else rq x n
def meE (n : Int) : Int := if n < 1 then 2 else 0
def vaB (x : Int) : Bool := decide (-128 ≤ x ∧ x ≤ 127)
def fiB (z lo hi : Int) : Bool := decide (-128 ≤ lo ∧ lo ≤ hi ∧ hi ≤ 127 ∧ -128 ≤ z ∧ z ≤ 127)
def fiV (v z lo hi : Int) : Int := if fiB z lo hi = true then clampV (v + z) lo hi else 0
def fiE (z lo hi : Int) : Int := if fiB z lo hi = true then 0 else 85
def scB (m s : Int) : Bool := decide (1 ≤ m ∧ m ≤ 2147483647 ∧ 0 ≤ s ∧ s ≤ 62)
def acB (a : Int) : Bool := decide (-4294967296 ≤ a ∧ a ≤ 4294967296)
def apV (a m s : Int) : Int := if scB m s = true then (if acB a = true then rq (a * m) (p2 s) else 0) else 0
def apE (a m s : Int) : Int := if scB m s = true then (if acB a = true then 0 else 10) else 20
theorem prod_bd (a m : Int) (a1 : -4294967296 ≤ a) (a2 : a ≤ 4294967296) (m1 : 1 ≤ m) (m2 : m ≤ 2147483647) : -9223372032559808512 ≤ a * m ∧ a * m ≤ 9223372032559808512 := by
 have h1 := Int.mul_le_mul_of_nonneg_right a1 (show 0 ≤ m by omega)
 have h2 := Int.mul_le_mul_of_nonneg_right a2 (show 0 ≤ m by omega)
 omega
theorem valid_any (m s : Int) (w : World) :
  Calls Tryz.prog 118 #[.agg #[U i6 m, U i6 s]] w fun e w' => e = .returned (.bool (scB m s)) ∧ Below w.heap.size w w' := by
 by_cases c1 : 1 ≤ m
 ·by_cases c2 : m ≤ 2147483647
  ·have HR : Hid (shB s = scB m s) := by unfold Hid shB scB; simp [c1, c2]
   go_enter Tryz.func118, Tryz.ntmps118
   go_wp2_with fail
   refine (reach_any _ _).mono ?_
   rintro e w' ⟨rfl, rfl⟩
   go_wp2
   go_ret
   exact ⟨retB HR.out, (Below.refl _ _).alloc (Nat.le_refl _) _⟩
  ·have HR : Hid (false = scB m s) := by unfold Hid scB; simp [c2]
   go_enter Tryz.func118, Tryz.ntmps118
   go_wp2
   go_ret
   exact ⟨retB HR.out, (Below.refl _ _).alloc (Nat.le_refl _) _⟩
 ·have HR : Hid (false = scB m s) := by unfold Hid scB; simp [c1]
  go_enter Tryz.func118, Tryz.ntmps118
  go_wp2
  go_ret
  exact ⟨retB HR.out, (Below.refl _ _).alloc (Nat.le_refl _) _⟩
end Go.Proofs.YtgiohlcipndakaaGreat.Fx
/- What an op makes of its tensors, in plain numbers; what is known of each op of a well-formed model; an op alone. -/
namespace Go.Proofs.YtgiohlcipndakaaGreat
open Go.Value renaming int → U
open Go.IntKind renaming i64 → i6
set_option maxRecDepth 100000
set_option maxHeartbeats 16000000
open Go.ChangeShapes Go.WideShapes Go.ChangeAt Go.RowKit
set_option linter.unusedVariables false
structure Opd (k b m kh kw sh sw tp lf bt rt : Int) (lw lb : Nat) (sm ss um us z p lo hi h w c H V C : Int) : Prop where
 hk : 1 ≤ k ∧ k ≤ 8
 hA : vS h w c = true
 hB : vS H V C = true
 si : k ≤ 4 → Sit k kh kw sh sw tp lf bt rt h w c H V C lw lb
 al : k ≤ 4 → tkE k 0 b m kh kw sh sw tp lf bt rt lw lb sm ss um us z p lo hi [(h, w, c)] 0 = 0 ∧ mk3 k m kh kw sh sw tp lf bt rt (h, w, c) = (H, V, C)
 ou : 2 ≤ k ∧ k ≤ 5 → ouR h w c kh kw sh sw tp lf bt rt = (H, V, 0)
 c3 : 3 ≤ k → C = c
 s6 : 6 ≤ k → H = h ∧ V = w
 rz : rzB z p lo hi = true
 sc : ssB k sm ss um us = true
 oz : ozB k b m kh kw sh sw tp lf bt rt lw lb sm ss um us z p = true
theorem op_opd {k a b m kh kw sh sw tp lf bt rt : Int} {lw lb : Nat} {sm ss um us z p lo hi : Int} {wk : Int} {L : List (Int × Int × Int)} (hx : tkE k a b m kh kw sh sw tp lf bt rt lw lb sm ss um us z p lo hi L wk = 0) (hwk : 0 ≤ wk) (hv : ∀ s ∈ L, vS3 s = true)
  {h w c H V C : Int} (hA : ShA L a = (h, w, c)) (hB : mk3 k m kh kw sh sw tp lf bt rt (h, w, c) = (H, V, C)) : Opd k b m kh kw sh sw tp lf bt rt lw lb sm ss um us z p lo hi h w c H V C ∧ (0 ≤ b ∧ b < (L.length : Int)) ∧ (k = 6 → ShA L b = (h, w, c)) := by
 obtain ⟨t1, -, t3, ⟨a0, a1⟩, hk, t6⟩ := tk_0 hx hv
 have hg : vS h w c = true := by
  obtain ⟨i, rfl⟩ := Int.eq_ofNat_of_zero_le a0
  have := hv _ (ShA_mem (show i < L.length by omega))
  rw [hA] at this
  exact this
 have h1 : opE k a b m kh kw sh sw tp lf bt rt lw lb sm ss um us z p lo hi L = 0 := by
  unfold tkE at hx
  by_cases q : opE k a b m kh kw sh sw tp lf bt rt lw lb sm ss um us z p lo hi L ≠ 0
  ·rw [if_pos q] at hx; exact hx
  ·exact Decidable.not_not.1 q
 have hsit : k ≤ 4 → Sit k kh kw sh sw tp lf bt rt h w c H V C lw lb := fun q => op_sit hx (by omega) hv hA hB
 rw [hA] at t1 t6
 rw [hB] at t1
 have fit := fit_of (A := (h, w, c)) t6 (by rw [hB]; exact t1)
 rw [hB] at fit
 obtain ⟨f1, f2, f3⟩ := fit
 have h1' := h1
 unfold opE at h1
 rw [hA, hB] at h1
 by_cases q1 : fmE k a b L.length (ozB k b m kh kw sh sw tp lf bt rt lw lb sm ss um us z p) ≠ 0
 ·rw [if_pos q1] at h1; exact absurd h1 q1
 rw [if_neg q1] at h1
 obtain ⟨-, -, hb6, hoz⟩ := fmE_0 (Decidable.not_not.1 q1)
 simp only at h1
 rw [t6, if_neg (by decide)] at h1
 by_cases q3 : k = 6 ∧ (h, w, c) ≠ ShA L b
 ·rw [if_pos q3] at h1; cases h1
 rw [if_neg q3] at h1
 by_cases q2 : rdB k = true ∧ 512 < st3 k kh kw (h, w, c)
 ·rw [if_pos q2] at h1; cases h1
 rw [if_neg q2] at h1
 obtain ⟨n1, n2, n3⟩ := nuE_0 h1
 have hoz' := of_decide_eq_true hoz
 have hal : k ≤ 4 → tkE k 0 b m kh kw sh sw tp lf bt rt lw lb sm ss um us z p lo hi [(h, w, c)] 0 = 0 := fun q => by
  have e : ShA [(h, w, c)] 0 = (h, w, c) := rfl
  have hf : fmE k 0 b (([(h, w, c)] : List (Int × Int × Int)).length : Int) (ozB k b m kh kw sh sw tp lf bt rt lw lb sm ss um us z p) = 0 := by
   unfold fmE
   rw [if_neg (by omega), if_neg (by simp), if_neg (by omega), hoz, if_neg (by decide)]
  have ho : opE k 0 b m kh kw sh sw tp lf bt rt lw lb sm ss um us z p lo hi [(h, w, c)] = 0 := by
   unfold opE
   rw [e, hB]
   simp only
   rw [hf, if_neg (by decide), t6, if_neg (by decide), if_neg (by omega), if_neg q2]
   exact h1
  unfold tkE
  rw [ho, if_neg (by decide), e]
  rw [hA] at t3
  rw [if_neg (by omega)]
 refine ⟨⟨hk, hg, f1, hsit, fun q => ⟨hal q, hB⟩, fun q => (f2 q).1, fun q => ?_, fun q => ?_, n3, n2, hoz⟩, ?_, fun q => ?_⟩
 ·by_cases q5 : k ≤ 5
  ·exact (f2 (by omega)).2 (by omega)
  ·have := f3 (by omega); simp only [Prod.mk.injEq] at this; exact this.2.2
 ·have := f3 q; simp only [Prod.mk.injEq] at this; exact ⟨this.1, this.2.1⟩
 ·by_cases q : k = 6
  ·exact hb6 q
  ·have := (hoz'.1 q).1; omega
 ·by_cases q4 : (h, w, c) = ShA L b
  ·exact q4.symm
  ·exact absurd ⟨q, q4⟩ q3
theorem opd_of {O : Nat → Nat → Int} {h w c lo hi ot t wk : Int} {on : Nat} {L : List (Int × Int × Int)} (q : gtR O h w c lo hi ot on = (0, t, L, wk)) {i : Nat} (hi0 : i < on) :
  ∃ ja jb : Nat, O i 1 = (ja : Int) ∧ ja ≤ i ∧ O i 2 = (jb : Int) ∧ jb ≤ i ∧ ∀ x y v H V C, L.getD ja (0, 0, 0) = (x, y, v) → L.getD (i + 1) (0, 0, 0) = (H, V, C) →
   Opd (O i 0) (O i 2) (O i 3) (O i 4) (O i 5) (O i 6) (O i 7) (O i 8) (O i 9) (O i 10) (O i 11) (O i 12).toNat (O i 13).toNat (O i 14) (O i 15) (O i 16) (O i 17) (O i 18) (O i 19) (O i 20) (O i 21) x y v H V C ∧ (O i 0 = 6 → L.getD jb (0, 0, 0) = (x, y, v)) := by
 obtain ⟨hx, rfl, q2⟩ := gtR_st q
 clear q
 have q := q2
 have hv : vS3 (h, w, c) = true := (ouE_0 hx).1
 obtain ⟨wi, g1, -⟩ := stG_pre hv on L wk q (i + 1) (by omega)
 obtain ⟨L0, wk0, h0, hx0, hL, -⟩ := stG_step g1
 obtain ⟨w2, g2, g3, -⟩ := stG_pre hv on L wk q i (by omega)
 rw [g2] at h0
 simp only [Prod.mk.injEq, true_and] at h0
 obtain ⟨rfl, rfl⟩ := h0
 obtain ⟨i1, i2, -⟩ := stG_inv hv i _ _ g2
 obtain ⟨t1, -, -, ⟨a0, a1⟩, -, t6⟩ := tk_0 hx0 i2
 obtain ⟨j, hj⟩ := Int.eq_ofNat_of_zero_le a0
 rw [hj] at a1
 have e1 : ShA (L.take (i + 1)) (j : Int) = ShA L (j : Int) := ShA_take (by omega)
 have e2 : ShA L ((i + 1 : Nat) : Int) = mk3 (O i 0) (O i 3) (O i 4) (O i 5) (O i 6) (O i 7) (O i 8) (O i 9) (O i 10) (O i 11) (ShA L (j : Int)) := by
  rw [← ShA_take (n := i + 1 + 1) (by omega), hL]
  unfold ShA at e1 ⊢
  rw [Int.toNat_natCast]
  simp only [List.getD]
  rw [List.getElem?_append_right (by omega), i1, Nat.sub_self]
  unfold oM ShA
  rw [hj, Int.toNat_natCast]
  rw [Int.toNat_natCast] at e1
  simp only [List.getElem?_cons_zero, Option.getD_some]
  rw [e1]
  rfl
 obtain ⟨A1, A2, A3, hA0⟩ : ∃ A1 A2 A3, ShA L (j : Int) = (A1, A2, A3) := ⟨_, _, _, rfl⟩
 obtain ⟨B1, B2, B3, hB0⟩ : ∃ B1 B2 B3, ShA L ((i + 1 : Nat) : Int) = (B1, B2, B3) := ⟨_, _, _, rfl⟩
 obtain ⟨r1, ⟨b0, b1⟩, r3⟩ := op_opd (h := A1) (w := A2) (c := A3) (H := B1) (V := B2) (C := B3) hx0 g3 i2 (by rw [hj, e1]; exact hA0) (by rw [← hB0, e2, hA0])
 obtain ⟨jb, hjb⟩ := Int.eq_ofNat_of_zero_le b0
 rw [hjb] at b1 r3
 refine ⟨j, jb, hj, by omega, hjb, by omega, fun x y v H V C hA hB => ?_⟩
 have ea : (A1, A2, A3) = (x, y, v) := by rw [← hA0, ← hA]; unfold ShA; rw [Int.toNat_natCast]
 have eb : (B1, B2, B3) = (H, V, C) := by rw [← hB0, ← hB]; unfold ShA; rw [Int.toNat_natCast]
 simp only [Prod.mk.injEq] at ea eb
 obtain ⟨rfl, rfl, rfl⟩ := ea
 obtain ⟨rfl, rfl, rfl⟩ := eb
 refine ⟨r1, fun q6 => ?_⟩
 have := r3 q6
 rw [ShA_take (by omega)] at this
 unfold ShA at this
 rwa [Int.toNat_natCast] at this
theorem alone_g {k a b m kh kw sh sw tp lf bt rt : Int} {lw lb : Nat} {sm ss um us z p lo hi : Int} {h w c H V C : Int} (s : Opd k b m kh kw sh sw tp lf bt rt lw lb sm ss um us z p lo hi h w c H V C) (hk : k ≤ 4) :
  ∃ Rw, gtR (fun _ => oL k 0 b m kh kw sh sw tp lf bt rt (lw : Int) (lb : Int) sm ss um us z p lo hi) h w c 0 0 0 1 = (0, 0, [(h, w, c), (H, V, C)], Rw) := by
 have hou : ouE h w c 0 0 0 1 = 0 := by
  unfold ouE
  rw [s.hA, if_neg (by decide), show rgB 0 0 = true by decide, if_neg (by decide), if_neg (by decide), if_neg (by decide)]
 obtain ⟨a1, a2⟩ := s.al hk
 rw [gtR_of hou]
 have hT : oT (oL k 0 b m kh kw sh sw tp lf bt rt (lw : Int) (lb : Int) sm ss um us z p lo hi) [(h, w, c)] 0 = 0 := by
  show tkE k 0 b m kh kw sh sw tp lf bt rt (lw : Int).toNat (lb : Int).toNat sm ss um us z p lo hi [(h, w, c)] 0 = 0
  rw [Int.toNat_natCast, Int.toNat_natCast]
  exact a1
 rw [stG_ok (i := 0) (L := [(h, w, c)]) (wk := 0) rfl hT]
 have hM : oM (oL k 0 b m kh kw sh sw tp lf bt rt (lw : Int) (lb : Int) sm ss um us z p lo hi) [(h, w, c)] = (H, V, C) := a2
 rw [hM]
 exact ⟨_, rfl⟩
def smT (p : Int) (x : List Int) (t : Int × Int) : Int := t.1 * (if t.2 < 0 then p else x.getD t.2.toNat 0)
def smV (p : Int) (x : List Int) : List (Int × Int) → Int
 | [] => 0
 | t :: l => smT p x t + smV p x l
def I8 (v : Int) : Prop := -128 ≤ v ∧ v ≤ 127
theorem wgA_bd {k ch st : Int} {zs : List Int} (hz : ∀ v ∈ zs, (Lit.int .i16 v).wf = true) (i : Int) : -32768 ≤ wgA k ch st zs i ∧ wgA k ch st zs i ≤ 32767 := by
 unfold wgA
 split
 ·omega
 ·rcases Nat.lt_or_ge (((ch - 1) * st + i).toNat) zs.length with q | q
  ·rw [List.getD_eq_getElem?_getD, List.getElem?_eq_getElem q, Option.getD_some]
   exact wf_i16 (hz _ (List.getElem_mem q))
  ·rw [List.getD_eq_getElem?_getD, List.getElem?_eq_none q, Option.getD_none]; omega
theorem biA_bd {k ch : Int} {bs : List Int} (hb : ∀ v ∈ bs, (Lit.int .i32 v).wf = true) : -2147483648 ≤ biA k ch bs ∧ biA k ch bs ≤ 2147483647 := by
 unfold biA
 split
 ·omega
 ·rcases Nat.lt_or_ge ((ch - 1).toNat) bs.length with q | q
  ·rw [List.getD_eq_getElem?_getD, List.getElem?_eq_getElem q, Option.getD_some]
   exact wf_i32 (hb _ (List.getElem_mem q))
  ·rw [List.getD_eq_getElem?_getD, List.getElem?_eq_none q, Option.getD_none]; omega
theorem tpc_in {h w kw t u : Int} (q : Int) : tpc h w kw t u q = -1 ∨ (0 ≤ tpc h w kw t u q ∧ tpc h w kw t u q < h * w) := by
 unfold tpc plc
 split
 ·rename_i g
  obtain ⟨⟨g1, g2⟩, g3, g4⟩ := g
  have := rowbd g2 g1 g3 g4
  right; omega
 ·left; rfl
theorem cov_in {n c q d : Int} (hq : q = -1 ∨ (0 ≤ q ∧ q < n)) (hd : 0 ≤ d ∧ d < c) : cov c q d = -1 ∨ (0 ≤ cov c q d ∧ cov c q d < n * c) := by
 unfold cov
 split
 ·left; rfl
 ·rename_i g
  rcases hq with q1 | ⟨q1, q2⟩
  ·exact absurd q1 g
  ·have := rowbd q2 q1 hd.1 hd.2
   right; omega
theorem plA_in {k kh kw sh sw tp lf bt rt h w c H V C : Int} {lw lb : Nat} (s : Sit k kh kw sh sw tp lf bt rt h w c H V C lw lb) {ch : Int} (hch : 1 ≤ ch ∧ ch ≤ C) (t u i : Int) (hi : 0 ≤ i ∧ i < stR k kh kw h w c) :
  plA k c ch h w kw t u i = -1 ∨ (0 ≤ plA k c ch h w kw t u i ∧ plA k c ch h w kw t u i < h * w * c) := by
 obtain ⟨hk, hvA, -, -, -, -, -, h3c, -⟩ := s
 have hc1 := (vS_yes hvA).2.2.1
 unfold plA
 by_cases k1 : k = 1
 ·subst k1
  rw [if_pos rfl]
  have : stR 1 kh kw h w c = h * w * c := rfl
  rw [this] at hi
  right; exact hi
 ·rw [if_neg k1]
  by_cases k2 : k = 2
  ·rw [if_pos k2]
   exact cov_in (tpc_in _) ⟨Int.emod_nonneg _ (by omega), Int.emod_lt_of_pos _ (by omega)⟩
  ·rw [if_neg k2]
   have := h3c (by omega)
   exact cov_in (tpc_in _) ⟨by omega, by omega⟩
theorem siL_facts {k kh kw sh sw tp lf bt rt h w c H V C : Int} {lw lb : Nat} (s : Sit k kh kw sh sw tp lf bt rt h w c H V C lw lb) {zs : List Int} (hz : ∀ v ∈ zs, (Lit.int .i16 v).wf = true) {ch : Int} (hch : 1 ≤ ch ∧ ch ≤ C) (at' : Int) :
  (siL k kh kw sh sw tp lf bt rt h w c ch at' zs).length ≤ 512 ∧ ∀ t ∈ siL k kh kw sh sw tp lf bt rt h w c ch at' zs, (-32768 ≤ t.1 ∧ t.1 ≤ 32767) ∧ (t.2 = -1 ∨ (0 ≤ t.2 ∧ t.2 < h * w * c)) := by
 have h1 := s.2.2.2.2.2.2.2.2.2
 have h0 := s.2.2.2.2.2.2.2.2.1
 unfold siL
 refine ⟨by rw [tmL_len]; omega, fun t ht => ?_⟩
 unfold tmL at ht
 obtain ⟨i, hi, rfl⟩ := List.mem_map.1 ht
 have hi' : i < (stR k kh kw h w c).toNat := by simpa using hi
 exact ⟨wgA_bd hz _, plA_in s hch _ _ _ ⟨by omega, by omega⟩⟩
def suA (k kh kw sh sw tp lf bt rt h w c p : Int) (zs bs x : List Int) (ch at' : Int) : Int := biA k ch bs + smV p x (siL k kh kw sh sw tp lf bt rt h w c ch at' zs)
def suL (k kh kw sh sw tp lf bt rt h w c C p : Int) (zs bs x : List Int) (n : Nat) : List Int := (List.range n).map fun (j : Nat) => suA k kh kw sh sw tp lf bt rt h w c p zs bs x ((j : Int) % C + 1) ((j : Int) / C)
def mxI (a b : Int) : Int := if a < b then b else a
def grA (w c kw : Int) (x : List Int) (t u d : Int) (q : Nat) : Int := x.getD (((t + (q : Int) / kw) * w + (u + (q : Int) % kw)) * c + d).toNat 0
def grM (w c kw : Int) (x : List Int) (t u d : Int) : Nat → Int
 | 0 => -128
 | q + 1 => mxI (grM w c kw x t u d q) (grA w c kw x t u d q)
def grL (kh kw sh sw w c V C : Int) (x : List Int) (n : Nat) : List Int := (List.range n).map fun (j : Nat) => grM w c kw x ((j : Int) / C / V * sh) ((j : Int) / C % V * sw) ((j : Int) % C) (kh * kw).toNat
def apL (x : List Int) (m s : Int) : List Int := x.map fun v => Fx.apV v m s
def meL (x : List Int) (n : Int) : List Int := x.map fun v => Fx.meV v n
def adL (x y : List Int) : List Int := (List.range x.length).map fun i => x.getD i 0 + y.getD i 0
def fiL (x : List Int) (z lo hi : Int) : List Int := x.map fun v => Fx.fiV v z lo hi
def vaL (k kh kw sh sw tp lf bt rt sm ss um us p h w c H V C : Int) (zs bs x y : List Int) : List Int :=
 if k ≤ 3 then apL (suL k kh kw sh sw tp lf bt rt h w c C p zs bs x (H * V * C).toNat) sm ss
 else if k = 4 then meL (suL k kh kw sh sw tp lf bt rt h w c C p zs bs x (H * V * C).toNat) (kh * kw)
 else if k = 5 then grL kh kw sh sw w c V C x (H * V * C).toNat
 else if k = 6 then adL (apL x sm ss) (apL y um us)
 else if k = 7 then apL x sm ss
 else x
def teL (k kh kw sh sw tp lf bt rt sm ss um us z p lo hi h w c H V C : Int) (zs bs x y : List Int) : List Int := fiL (vaL k kh kw sh sw tp lf bt rt sm ss um us p h w c H V C zs bs x y) z lo hi
def opT (o : Nat → Int) (zs bs : List Int) (A B : Int × Int × Int) (x y : List Int) : List Int :=
 teL (o 0) (o 4) (o 5) (o 6) (o 7) (o 8) (o 9) (o 10) (o 11) (o 14) (o 15) (o 16) (o 17) (o 18) (o 19) (o 20) (o 21) A.1 A.2.1 A.2.2 B.1 B.2.1 B.2.2 zs bs x y
def tnL (O : Nat → Nat → Int) (Z B : Nat → List Int) (L : List (Int × Int × Int)) (x : List Int) : Nat → List (List Int)
 | 0 => [x]
 | n + 1 => tnL O Z B L x n ++ [opT (O n) (Z n) (B n) (L.getD (O n 1).toNat (0, 0, 0)) (L.getD (n + 1) (0, 0, 0)) ((tnL O Z B L x n).getD (O n 1).toNat []) ((tnL O Z B L x n).getD (O n 2).toNat [])]
def tnA (O : Nat → Nat → Int) (Z B : Nat → List Int) (L : List (Int × Int × Int)) (x : List Int) (i : Nat) : List Int := (tnL O Z B L x i).getD i []
open Go.ChangeShapes Go.WideShapes Go.ChangeAt Go.RowKit Go.Shelf
theorem blcells {w : World} {B : Nat} {cs : Array Value} {T : TypeId} (h : w.heap[B]? = some (.cells cs T (0, 0))) {l : List Value} (hl : ∀ (q : Nat) (v : Value), l[q]? = some v → cs[q]? = some v) : ∀ (q : Nat) (v : Value), l[q]? = some v → w.cell? ((⟨B, 0, none⟩ : Addr).add q) = some v := fun q v hq => by
 rw [Addr.add_lit, Nat.zero_add, (cells_at h).1]
 exact hl q v hq
theorem bof1 (k a b m kh kw sh sw tp lf bt rt : Int) (wa : Option Addr) (lw wc : Nat) (ba : Option Addr) (lb bc : Nat) (sm ss um us z p lo hi h w c H V C : Int) (s : Opd k b m kh kw sh sw tp lf bt rt lw lb sm ss um us z p lo hi h w c H V C) (hk : k ≤ 4) (zs bs : List Int) (W : World) (hZ : IRow .i16 W wa lw wc zs) (hB : IRow .i32 W ba lb bc bs) (hlw : lw * 2 ≤ 140737488351232) (hlb : lb * 4 ≤ 140737488351232) (g : Nat) (hg : W.heap[g]? = some (.cells #[U i6 k, U i6 0, U i6 b, U i6 m, U i6 kh, U i6 kw, U i6 sh, U i6 sw, U i6 tp, U i6 lf, U i6 bt, U i6 rt, .slice wa lw wc, .slice ba lb bc, U i6 sm, U i6 ss, U i6 um, U i6 us, U i6 z, U i6 p, U i6 lo, U i6 hi] 43 (0, 0))) (ch at' : Int) (hch : 1 ≤ ch ∧ ch ≤ C) (hat : 0 ≤ at' ∧ at' < H * V) :
  Calls Tryz.prog 51 #[.agg #[U i6 h, U i6 w, U i6 c, U i6 0, U i6 0, .slice (some ⟨g, 0, none⟩) 1 1, U i6 0], U i6 1, U i6 ch, U i6 at'] W fun e w' => (∃ v, e = .returned (.tuple #[v, U i6 (biA k ch bs), U i6 0]) ∧ OTm w' W.heap.size v (siL k kh kw sh sw tp lf bt rt h w c ch at' zs)) ∧ Below W.heap.size W w' := by
 obtain ⟨Rw, hR⟩ := alone_g (a := 0) s hk
 have hcell : ∀ q v, [U i6 k, U i6 0, U i6 b, U i6 m, U i6 kh, U i6 kw, U i6 sh, U i6 sw, U i6 tp, U i6 lf, U i6 bt, U i6 rt, .slice wa lw wc, .slice ba lb bc, U i6 sm, U i6 ss, U i6 um, U i6 us, U i6 z, U i6 p, U i6 lo, U i6 hi][q]? = some v → W.cell? ((⟨g, 0, none⟩ : Addr).add q) = some v := blcells hg (fun q v hq => by simpa using hq)
 have e0 : ((⟨g, 0, none⟩ : Addr).add (0 * 22)) = ⟨g, 0, none⟩ := by rw [Addr.add_lit]
 have hL : LRow W (some ⟨g, 0, none⟩) 1 1 (fun _ => oL k 0 b m kh kw sh sw tp lf bt rt (lw : Int) (lb : Int) sm ss um us z p lo hi) (fun _ => zs) (fun _ => bs) := by
  refine ⟨Nat.le_refl _, by unfold maxLen; omega, (fun h => by cases h), fun x hx i hi => ?_⟩
  cases hx
  obtain rfl : i = 0 := by omega
  rw [e0]
  exact ⟨wa, lw, wc, ba, lb, bc, rfl, rfl, hcell, hZ, hB, hlw, hlb⟩
 have hF : Fnd W (some ⟨g, 0, none⟩) 1 (fun _ => oL k 0 b m kh kw sh sw tp lf bt rt (lw : Int) (lb : Int) sm ss um us z p lo hi) (fun _ => zs) (fun _ => bs) [(h, w, c), (H, V, C)] 0 ⟨g, 0, none⟩ wa lw wc ba lb bc h w c H V C :=
  ⟨by omega, rfl, rfl, rfl, fun q v hq => by rw [e0]; exact hcell q v hq, hZ, hB, rfl, rfl, s.si hk, ⟨Int.le_refl _, Int.le_refl _⟩, decide_eq_true (show 1 ≤ k ∧ k ≤ 4 by have := s.hk; omega)⟩
 exact of_ok h w c 0 0 0 (some ⟨g, 0, none⟩) 1 1 (fun _ => oL k 0 b m kh kw sh sw tp lf bt rt (lw : Int) (lb : Int) sm ss um us z p lo hi) (fun _ => zs) (fun _ => bs) W hL ch at' [(h, w, c), (H, V, C)] Rw hR 0 ⟨g, 0, none⟩ wa lw wc ba lb bc h w c H V C hF hch hat
theorem row_facts {k kh kw sh sw tp lf bt rt h w c H V C : Int} {lw lb : Nat} (s : Sit k kh kw sh sw tp lf bt rt h w c H V C lw lb) {zs : List Int} (hz : ∀ v ∈ zs, (Lit.int .i16 v).wf = true) {ch : Int} (hch : 1 ≤ ch ∧ ch ≤ C) {slo shi p : Int} (hs : -128 ≤ slo ∧ slo ≤ shi ∧ shi ≤ 127) (hp : -128 ≤ p ∧ p ≤ 127) (at' : Int) :
  Rb (enL slo shi p (siL k kh kw sh sw tp lf bt rt h w c ch at' zs)) ∧ 0 < (enL slo shi p (siL k kh kw sh sw tp lf bt rt h w c ch at' zs)).length ∧ (enL slo shi p (siL k kh kw sh sw tp lf bt rt h w c ch at' zs)).length ≤ 512 := by
 obtain ⟨h1, h2⟩ := siL_facts s hz hch at'
 refine ⟨enL_rb hs hp fun t ht => (h2 t ht).1, ?_, by rw [enL_len]; exact h1⟩
 rw [enL_len]
 unfold siL
 rw [tmL_len]
 have := s.2.2.2.2.2.2.2.2.1
 omega
theorem bhull_of (k a b m kh kw sh sw tp lf bt rt : Int) (wa : Option Addr) (lw wc : Nat) (ba : Option Addr) (lb bc : Nat) (sm ss um us z p lo hi h w c H V C : Int) (s : Opd k b m kh kw sh sw tp lf bt rt lw lb sm ss um us z p lo hi h w c H V C) (hk : k ≤ 4) (zs bs : List Int) (W : World) (hZ : IRow .i16 W wa lw wc zs) (hB : IRow .i32 W ba lb bc bs) (hlw : lw * 2 ≤ 140737488351232) (hlb : lb * 4 ≤ 140737488351232) (g : Nat) (hg : W.heap[g]? = some (.cells #[U i6 k, U i6 0, U i6 b, U i6 m, U i6 kh, U i6 kw, U i6 sh, U i6 sw, U i6 tp, U i6 lf, U i6 bt, U i6 rt, .slice wa lw wc, .slice ba lb bc, U i6 sm, U i6 ss, U i6 um, U i6 us, U i6 z, U i6 p, U i6 lo, U i6 hi] 43 (0, 0))) (ch : Int) (hch : 1 ≤ ch ∧ ch ≤ C)
  (ln bi slo shi : Int) (hs : -128 ≤ slo ∧ slo ≤ shi ∧ shi ≤ 127) (hp : -128 ≤ p ∧ p ≤ 127) (q : Nat) (hq : W.heap[q]? = some (.cells #[U i6 ch, U i6 (H * V), U i6 ln, U i6 bi, U i6 slo, U i6 shi, U i6 p, U i6 p, U i6 h, U i6 w, U i6 c, U i6 0, U i6 0, .slice (some ⟨g, 0, none⟩) 1 1, U i6 0] 78 (0, 0))) (F : List (Int × Int) → List (Int × Int)) (gf : Nat) (cl : Array Value)
  (eg : ∀ args w, (callFunc gf args).run Tryz.prog w = .ok (.enter gf args) w)
  (hP : Pik W gf cl F)
  (hF : ∀ E, Rb E → 0 < E.length → E.length ≤ 512 → ∀ x ∈ F E, Vd 10000000000 x) :
  Calls Tryz.prog 36 #[.pointer (some ⟨q, 0, none⟩), .func (.func gf) #[] cl] W fun e w' => e = .returned (.agg #[U i6 (huA (piT F (fun (j : Nat) => enL slo shi p (siL k kh kw sh sw tp lf bt rt h w c ch (j : Int) zs)) (H * V).toNat)).1, U i6 (huA (piT F (fun (j : Nat) => enL slo shi p (siL k kh kw sh sw tp lf bt rt h w c ch (j : Int) zs)) (H * V).toNat)).2]) ∧ Below W.heap.size W w' := by
 have hS := s.si hk
 have hz := hZ.2.2.2.1
 have hvb := vS_bd s.hB
 have hN : H * V = ((H * V).toNat : Int) := by omega
 have hf : ∀ j : Nat, _ := fun j => row_facts hS hz hch hs hp (j : Int)
 refine bhull_any q ch (H * V) ln bi slo shi p h w c g (fun (j : Nat) => enL slo shi p (siL k kh kw sh sw tp lf bt rt h w c ch (j : Int) zs)) (H * V).toNat hN (by omega) F gf cl W hq (fun W' j hb hj => ?_) eg (fun W' v j nb b L hb hj hv hn hb' hT hL => hP W' v _ L nb b hb (hf j).1 (hf j).2.1 (hf j).2.2 hv hn hb' hT hL) (fun j hj => hF _ (hf j).1 (hf j).2.1 (hf j).2.2)
 obtain ⟨h1, h2⟩ := siL_facts hS hz hch (j : Int)
 exact bends_any ch (H * V) ln bi slo shi p h w c g q W' ((hb.block q (lt_of_heap hq)).trans hq) (j : Int) _ _ hs hp (fun t ht => (h2 t ht).1) h1 (fun W'' hb' => bof1 k a b m kh kw sh sw tp lf bt rt wa lw wc ba lb bc sm ss um us z p lo hi h w c H V C s hk zs bs W'' ((hZ.below hb).below hb') ((hB.below hb).below hb') hlw hlb g ((hb'.block g (by have := lt_of_heap hg; have := hb.size; omega)).trans ((hb.block g (lt_of_heap hg)).trans hg)) ch (j : Int) hch ⟨by omega, by omega⟩)
attribute [local go_sem] Oper.semAt_some
theorem vd_bi {bi : Int} (h : -2147483648 ≤ bi ∧ bi ≤ 2147483647) : Vd 4294967296 (bi, bi) := by unfold Vd; simp only; omega
theorem app_vd {L M : List (Int × Int)} (h : ∀ y ∈ L, Vd 10000000000 y) (g : ∀ y ∈ M, Vd 10000000000 y) : ∀ y ∈ L ++ M, Vd 10000000000 y := fun y hy => by
 rcases List.mem_append.1 hy with q | q
 ·exact h y q
 ·exact g y q
theorem getD_vd {E : List (Int × Int)} (hE : Rb E) {k : Nat} (hk : k < E.length) : Vd 10000000000 (E.getD k (0, 0)) := by
 rw [List.getD_eq_getElem?_getD, List.getElem?_eq_getElem hk]
 exact hE.vd _ (List.getElem_mem _)
theorem ruT_vd {E : List (Int × Int)} {s : Int × Int} (hE : Rb E) (hl : E.length ≤ 512) (h : Vd 4294967296 s) (k : Nat) : ∀ x ∈ ruT s E k, Vd 10000000000 x := fun x hx => by
 unfold ruT at hx
 obtain ⟨j, -, rfl⟩ := List.mem_map.1 hx
 exact suS_vd (hE.take j) (by rw [List.length_take]; omega) h
theorem cprd_any (W : World) (v : Value) (E L : List (Int × Int)) (nb b : Nat) (hE : Rb E) (h0 : 0 < E.length) (hl : E.length ≤ 512) (hv : SpV W v E) (hn : Nb nb v) (hb : b + 2 ≤ nb) (hT : Tk W b L) (hL : ∀ y ∈ L, Vd 10000000000 y) :
  Calls Tryz.prog 44 #[v, fTk b] W fun e w' => (∃ u, e = .returned u) ∧ Tk w' b (L ++ E) ∧ Tch b W w' := by
 obtain ⟨va, vc, rfl, h2, h3, h4⟩ := hv
 obtain ⟨N, hN⟩ : ∃ N, E.length = N := ⟨_, rfl⟩
 have HB : Hid (∀ (k : Nat) (x : Int × Int) (w : World), Tk w b (L ++ E.take k) → Vd 10000000000 x → _) := fun k x w t hx => btake_any b x (L ++ E.take k) w t (app_vd hL fun y hy => hE.vd y (List.mem_of_mem_take hy)) hx
 have HV : Hid (∀ k, k < N → Vd 10000000000 (E.getD k (0, 0))) := fun k hk => getD_vd hE (by omega)
 have HN : Hid (E.length = N) := hN
 have HT : Hid (Tk W b L) := hT
 have HNb : Hid (Nb nb (.slice va N vc)) := by rw [← hN]; exact hn
 rw [hN] at h2 h4 hl ⊢
 have H4 : Hid (0 < N → _) := h4
 unfold maxLen at h3
 clear h4 hN hE hn hT hL h0
 unfold fTk
 go_enter Tryz.func44, Tryz.ntmps44
 go_wp2
 go_loopw [8] (fun i wr => ∃ k : Nat, k ≤ N ∧ i = U i6 k ∧ Tk wr b (L ++ E.take k) ∧ Tch b W wr) (fun i _ => N - (intOf i).toNat)
 case atStart => exact ⟨0, Nat.zero_le _, rfl, by simpa using HT.out, Tch.refl _ _⟩
 case round =>
  obtain ⟨k, hk, rfl, tk, tc⟩ := hrel
  by_cases hlt : k < N
  ·obtain ⟨g, o, rfl, hc⟩ := H4.out (by omega)
   have hkE : k < E.length := by rw [HN.out]; exact hlt
   obtain ⟨q1, q2⟩ := SpV.at hc hkE
   have hg : nb ≤ g := HNb.out ⟨g, o, none⟩ _ _ rfl
   have hve := HV.out k hlt
   obtain ⟨e1, e2, he⟩ : ∃ e1 e2, E.getD k (0, 0) = (e1, e2) := ⟨_, _, rfl⟩
   have HS : Hid (L ++ E.take (k + 1) = (L ++ E.take k) ++ [(e1, e2)]) := by unfold Hid; rw [take_snoc hkE he, List.append_assoc]
   rw [he] at q1 q2 hve
   simp only at q1 q2
   have p1 := tc.cell q1 (by omega) (by omega)
   have p2 := tc.cell q2 (by omega) (by omega)
   have HC : Hid (Calls _ _ _ _ _) := HB.out k (e1, e2) _ (tk.below (bal wr (.cells #[U i6 e1, U i6 e2] 28))) hve
   have TC : Hid (Tch b W (wr.alloc (.cells #[U i6 e1, U i6 e2] 28))) := tc.bel (bal _ _)
   clear q1 q2 hc he hve H4 HV HB tk tc HT hkE
   go_wp2_with fail
   refine HC.out.mono ?_
   rintro e w3 ⟨⟨u, rfl⟩, tk3, tc3⟩
   have T3 : Hid (Tk w3 b _) := tk3
   have C3 : Hid (Tch b W w3) := TC.out.trans tc3
   clear tk3 tc3 HC TC p1 p2
   go_wp2
   go_roundw
   case rel => exact ⟨k + 1, by omega, by go_num, by rw [HS.out]; exact T3.out, C3.out⟩
   case measure => simp [intOf]; omega
  ·obtain rfl : k = N := by omega
   have T3 : Hid (Tk wr b (L ++ E)) := by rw [List.take_of_length_le (by rw [HN.out]; exact Nat.le_refl _)] at tk; exact tk
   have C3 : Hid (Tch b W wr) := tc
   clear tk tc H4
   go_wp2
   go_end0
   exact ⟨⟨_, rfl⟩, T3.out, C3.out⟩
theorem ctot_any (ch n ln bi slo shi p h w c : Int) (g0 : Nat) (q : Nat) (W : World) (hq : W.heap[q]? = some (.cells #[U i6 ch, U i6 n, U i6 ln, U i6 bi, U i6 slo, U i6 shi, U i6 p, U i6 p, U i6 h, U i6 w, U i6 c, U i6 0, U i6 0, .slice (some ⟨g0, 0, none⟩) 1 1, U i6 0] 78 (0, 0))) (hbi : -2147483648 ≤ bi ∧ bi ≤ 2147483647) (v : Value) (E L : List (Int × Int)) (nb b : Nat) (hE : Rb E) (h0 : 0 < E.length) (hl : E.length ≤ 512) (hv : SpV W v E) (hn : Nb nb v) (hb : b + 2 ≤ nb) (hT : Tk W b L) (hL : ∀ y ∈ L, Vd 10000000000 y) :
  Calls Tryz.prog 47 #[v, fTk b, .pointer (some ⟨q, 0, none⟩)] W fun e w' => (∃ u, e = .returned u) ∧ Tk w' b (L ++ [suS (bi, bi) E]) ∧ Tch b W w' := by
 obtain ⟨y1, y2, y3⟩ := cells_at hq
 obtain ⟨va, vc, rfl, h2, h3, h4⟩ := hv
 obtain ⟨N, hN⟩ : ∃ N, E.length = N := ⟨_, rfl⟩
 have HB : Hid (∀ (x : Int × Int) (w : World), Tk w b L → Vd 10000000000 x → _) := fun x w t hx => btake_any b x L w t hL hx
 have HV : Hid (∀ k, k < N → Vd 10000000000 (E.getD k (0, 0))) := fun k hk => getD_vd hE (by omega)
 have HW : Hid (∀ k, k ≤ N → Vd 10000000000 (suS (bi, bi) (E.take k))) := fun k hk => suS_vd (hE.take k) (by rw [List.length_take]; omega) (vd_bi hbi)
 have HN : Hid (E.length = N) := hN
 have HT : Hid (Tk W b L) := hT
 have hbz := hT.lt
 rw [hN] at h2 h4 hl ⊢
 have H4 : Hid (0 < N → _) := h4
 unfold maxLen at h3
 clear h4 hN hE hn hT hL h0 hbi hq
 unfold fTk
 go_enter Tryz.func47, Tryz.ntmps47
 go_wp2_with fail
 refine (bone_any _ _).mono ?_
 rintro e w1 ⟨rfl, hb1⟩
 have s1 := ((St.start W).call hb1).new (c := #[U i6 bi, U i6 bi]) (t := 28)
 have hz1w := hb1.size
 obtain ⟨B, hB⟩ : ∃ B, w1.heap.size = B := ⟨_, rfl⟩
 rw [hB] at s1 hz1w
 go_upto_region 1 with fail
 obtain ⟨w2, hw2⟩ : ∃ w2, w1.alloc (.cells #[U i6 bi, U i6 bi] 28) = w2 := ⟨_, rfl⟩
 rw [hw2] at s1 ⊢
 have S1 : Hid (St W w2 [(B, #[U i6 bi, U i6 bi], 28)]) := s1
 clear hw2 s1 y1 y2 y3 hb1
 clear hB
 go_wp2
 go_loopw [13] (fun i wr => ∃ k : Nat, k ≤ N ∧ i = U i6 k ∧ St W wr [(B, #[U i6 (suS (bi, bi) (E.take k)).1, U i6 (suS (bi, bi) (E.take k)).2], 28)]) (fun i _ => N - (intOf i).toNat)
 case atStart => exact ⟨0, Nat.zero_le _, rfl, S1.out⟩
 case round =>
  obtain ⟨k, hk, rfl, s⟩ := hrel
  clear S1
  have hzr := s.size
  by_cases hlt : k < N
  ·obtain ⟨g, o, rfl, hc⟩ := H4.out (by omega)
   have hkE : k < E.length := by rw [HN.out]; exact hlt
   obtain ⟨q1, q2⟩ := SpV.at hc hkE
   have hve := HV.out k hlt
   have hvs := HW.out k hk
   obtain ⟨e1, e2, he⟩ : ∃ e1 e2, E.getD k (0, 0) = (e1, e2) := ⟨_, _, rfl⟩
   obtain ⟨m1, m2, hm⟩ : ∃ m1 m2, suS (bi, bi) (E.take k) = (m1, m2) := ⟨_, _, rfl⟩
   have HS : Hid (suS (bi, bi) (E.take (k + 1)) = (m1 + e1, m2 + e2)) := by unfold Hid; rw [suS_take _ hkE he, hm]; rfl
   rw [he] at q1 q2 hve
   rw [hm] at s hvs
   simp only at q1 q2 s
   have HP : Hid (∀ w, _) := fun w => bplus_ok (m1, m2) (e1, e2) w hvs hve
   have p1 := (s.below.cell (World.block_lt_of_cell? W _ q1)).trans q1
   have p2 := (s.below.cell (World.block_lt_of_cell? W _ q2)).trans q2
   have S : Hid (St W wr [(B, #[U i6 m1, U i6 m2], 28)]) := s
   obtain ⟨c1, f1, z1, -⟩ := s.rules
   clear q1 q2 hc he hm hve hvs s H4 HV HB HT hkE
   go_wp2_with fail
   refine (HP.out _).mono ?_
   rintro e w3 ⟨rfl, hb3⟩
   have s3 := (S.out.skip (.cells #[U i6 e1, U i6 e2] 28)).call hb3
   have S4 : Hid (St W _ _) := s3.set2 (u := U i6 (m1 + e1)) (v := U i6 (m2 + e2)) (by simp)
   clear c1 f1 z1 p1 p2 S hb3
   obtain ⟨c1, f1, z1, -⟩ := s3.rules
   clear s3
   simp only [plS]
   go_wp2
   go_roundw
   case rel => exact ⟨k + 1, by omega, by go_num, by rw [HS.out]; exact S4.out⟩
   case measure => simp [intOf]; omega
  ·obtain rfl : k = N := by omega
   have hvs := HW.out k (Nat.le_refl _)
   rw [List.take_of_length_le (by rw [HN.out]; exact Nat.le_refl _)] at s hvs
   obtain ⟨m1, m2, hm⟩ : ∃ m1 m2, suS (bi, bi) E = (m1, m2) := ⟨_, _, rfl⟩
   have HM : Hid (suS (bi, bi) E = (m1, m2)) := hm
   rw [hm] at s hvs
   simp only at s
   obtain ⟨c1, f1, z1, -⟩ := s.rules
   have HC : Hid (Calls _ _ _ _ _) := HB.out (m1, m2) wr (HT.out.below s.below) hvs
   have TC : Hid (Tch b W wr) := Tch.of s.below
   clear hm hvs s H4 HV HB HT HW
   go_wp2_with fail
   refine HC.out.mono ?_
   rintro e w3 ⟨⟨u, rfl⟩, tk3, tc3⟩
   have T3 : Hid (Tk w3 b (L ++ [suS (bi, bi) E])) := by unfold Hid; rw [HM.out]; exact tk3
   have C3 : Hid (Tch b W w3) := TC.out.trans tc3
   clear tk3 tc3 HC TC c1 f1 z1
   go_wp2
   go_end0
   exact ⟨⟨_, rfl⟩, T3.out, C3.out⟩
theorem crun_any (ch n ln bi slo shi p h w c : Int) (g0 : Nat) (q : Nat) (W : World) (hq : W.heap[q]? = some (.cells #[U i6 ch, U i6 n, U i6 ln, U i6 bi, U i6 slo, U i6 shi, U i6 p, U i6 p, U i6 h, U i6 w, U i6 c, U i6 0, U i6 0, .slice (some ⟨g0, 0, none⟩) 1 1, U i6 0] 78 (0, 0))) (hbi : -2147483648 ≤ bi ∧ bi ≤ 2147483647) (v : Value) (E L : List (Int × Int)) (nb b : Nat) (hE : Rb E) (h0 : 0 < E.length) (hl : E.length ≤ 512) (hv : SpV W v E) (hn : Nb nb v) (hb : b + 2 ≤ nb) (hT : Tk W b L) (hL : ∀ y ∈ L, Vd 10000000000 y) :
  Calls Tryz.prog 45 #[v, fTk b, .pointer (some ⟨q, 0, none⟩)] W fun e w' => (∃ u, e = .returned u) ∧ Tk w' b (L ++ ruL (bi, bi) E) ∧ Tch b W w' := by
 obtain ⟨y1, y2, y3⟩ := cells_at hq
 obtain ⟨va, vc, rfl, h2, h3, h4⟩ := hv
 obtain ⟨N, hN⟩ : ∃ N, E.length = N := ⟨_, rfl⟩
 have HB0 : Hid (∀ (x : Int × Int) (w : World), Tk w b L → Vd 10000000000 x → _) := fun x w t hx => btake_any b x L w t hL hx
 have HB : Hid (∀ (k : Nat) (x : Int × Int) (w : World), Tk w b (L ++ ruT (bi, bi) E k) → Vd 10000000000 x → _) := fun k x w t hx => btake_any b x _ w t (app_vd hL (ruT_vd hE hl (vd_bi hbi) k)) hx
 have HV : Hid (∀ k, k < N → Vd 10000000000 (E.getD k (0, 0))) := fun k hk => getD_vd hE (by omega)
 have HW : Hid (∀ k, k ≤ N → Vd 10000000000 (suS (bi, bi) (E.take k))) := fun k hk => suS_vd (hE.take k) (by rw [List.length_take]; omega) (vd_bi hbi)
 have hvb : Vd 10000000000 (bi, bi) := by unfold Vd; simp only; omega
 have HN : Hid (E.length = N) := hN
 have HA : Hid (ruT (bi, bi) E N = ruL (bi, bi) E) := by rw [← hN]; exact ruT_all _ _
 have H0 : Hid (ruT (bi, bi) E 0 = [(bi, bi)]) := ruT_0 _ _
 have HT : Hid (Tk W b L) := hT
 have hbz := hT.lt
 have HNb : Hid (Nb nb (.slice va N vc)) := by rw [← hN]; exact hn
 rw [hN] at h2 h4 hl ⊢
 have H4 : Hid (0 < N → _) := h4
 unfold maxLen at h3
 clear h4 hN hE hn hT hL h0 hbi hq
 unfold fTk
 go_enter Tryz.func45, Tryz.ntmps45
 go_wp2_with fail
 refine (bone_any _ _).mono ?_
 rintro e w1 ⟨rfl, hb1⟩
 have s1 := ((SB.start b W).call hb1).new (c := #[U i6 bi, U i6 bi]) (t := 28)
 have t1 := (HT.out.below hb1).below (bal w1 (.cells #[U i6 bi, U i6 bi] 28))
 have hz1w := hb1.size
 obtain ⟨B, hB⟩ : ∃ B, w1.heap.size = B := ⟨_, rfl⟩
 rw [hB] at s1 hz1w
 go_upto_region 1 with fail
 obtain ⟨w2, hw2⟩ : ∃ w2, w1.alloc (.cells #[U i6 bi, U i6 bi] 28) = w2 := ⟨_, rfl⟩
 rw [hw2] at s1 t1 ⊢
 have S1 : Hid (SB b W w2 [(B, #[U i6 bi, U i6 bi], 28)]) := s1
 have HC : Hid (Calls _ _ _ _ _) := HB0.out (bi, bi) w2 t1 hvb
 obtain ⟨c1, f1, z1, -⟩ := s1.rules
 clear hw2 s1 y1 y2 y3 hb1 hB t1 HB0 HT hvb
 go_wp2_with fail
 refine HC.out.mono ?_
 rintro e w3 ⟨⟨u, rfl⟩, tk3, tc3⟩
 have S3 : Hid (SB b W w3 [(B, #[U i6 bi, U i6 bi], 28)]) := S1.out.take tc3 hbz
 have T3 : Hid (Tk w3 b (L ++ ruT (bi, bi) E 0)) := by unfold Hid; rw [H0.out]; exact tk3
 clear tk3 tc3 HC S1 c1 f1 z1
 go_wp2
 go_loopw [16] (fun i wr => ∃ k : Nat, k ≤ N ∧ i = U i6 k ∧ SB b W wr [(B, #[U i6 (suS (bi, bi) (E.take k)).1, U i6 (suS (bi, bi) (E.take k)).2], 28)] ∧ Tk wr b (L ++ ruT (bi, bi) E k)) (fun i _ => N - (intOf i).toNat)
 case atStart => exact ⟨0, Nat.zero_le _, rfl, S3.out, T3.out⟩
 case round =>
  obtain ⟨k, hk, rfl, s, tk⟩ := hrel
  clear S3 T3
  have hzr := s.size
  by_cases hlt : k < N
  ·obtain ⟨g, o, rfl, hc⟩ := H4.out (by omega)
   have hkE : k < E.length := by rw [HN.out]; exact hlt
   obtain ⟨q1, q2⟩ := SpV.at hc hkE
   have hg : nb ≤ g := HNb.out ⟨g, o, none⟩ _ _ rfl
   have hve := HV.out k hlt
   have hvs := HW.out k hk
   have hvn := HW.out (k + 1) hlt
   obtain ⟨e1, e2, he⟩ : ∃ e1 e2, E.getD k (0, 0) = (e1, e2) := ⟨_, _, rfl⟩
   obtain ⟨m1, m2, hm⟩ : ∃ m1 m2, suS (bi, bi) (E.take k) = (m1, m2) := ⟨_, _, rfl⟩
   have HS : Hid (suS (bi, bi) (E.take (k + 1)) = (m1 + e1, m2 + e2)) := by unfold Hid; rw [suS_take _ hkE he, hm]; rfl
   have HR : Hid (L ++ ruT (bi, bi) E (k + 1) = (L ++ ruT (bi, bi) E k) ++ [(m1 + e1, m2 + e2)]) := by unfold Hid; rw [ruT_succ, HS.out, List.append_assoc]
   rw [he] at q1 q2 hve
   rw [hm] at s hvs
   rw [HS.out] at hvn
   simp only at q1 q2 s
   have HP : Hid (∀ w, _) := fun w => bplus_ok (m1, m2) (e1, e2) w hvs hve
   have HBk : Hid (∀ w, Tk w b (L ++ ruT (bi, bi) E k) → _) := fun w t => HB.out k (m1 + e1, m2 + e2) w t hvn
   have p1 := s.1.cell q1 (by omega) (by omega)
   have p2 := s.1.cell q2 (by omega) (by omega)
   have S : Hid (SB b W wr [(B, #[U i6 m1, U i6 m2], 28)]) := s
   have TK : Hid (Tk wr b (L ++ ruT (bi, bi) E k)) := tk
   obtain ⟨c1, f1, z1, -⟩ := s.rules
   clear q1 q2 hc he hm hve hvs hvn s tk H4 HV HB hkE
   go_wp2_with fail
   refine (HP.out _).mono ?_
   rintro e w3 ⟨rfl, hb3⟩
   have s3 := (S.out.skip (.cells #[U i6 e1, U i6 e2] 28)).call hb3
   have t3 := (TK.out.below (bal wr (.cells #[U i6 e1, U i6 e2] 28))).below hb3
   have s4 := s3.set2 (u := U i6 (m1 + e1)) (v := U i6 (m2 + e2)) (by simp)
   have t4 := (t3.set (B := B) (i := 0) (v := U i6 (m1 + e1)) (by omega) (by omega)).set (B := B) (i := 1) (v := U i6 (m2 + e2)) (by omega) (by omega)
   have S4 : Hid (SB b W _ _) := s4
   have HC : Hid (Calls _ _ _ _ _) := HBk.out _ t4
   clear c1 f1 z1 p1 p2 S hb3 t3 t4 TK HBk
   obtain ⟨c1, f1, z1, -⟩ := s3.rules
   clear s3 s4
   simp only [plS]
   go_wp2_with fail
   refine HC.out.mono ?_
   rintro e w5 ⟨⟨u, rfl⟩, tk5, tc5⟩
   have S5 : Hid (SB b W w5 _) := S4.out.take tc5 hbz
   have T5 : Hid (Tk w5 b _) := tk5
   clear tk5 tc5 HC S4 c1 f1 z1
   go_wp2
   go_roundw
   case rel => exact ⟨k + 1, by omega, by go_num, by rw [HS.out]; exact S5.out, by rw [HR.out]; exact T5.out⟩
   case measure => simp [intOf]; omega
  ·obtain rfl : k = N := by omega
   have T3 : Hid (Tk wr b (L ++ ruL (bi, bi) E)) := by unfold Hid; rw [← HA.out]; exact tk
   have C3 : Hid (Tch b W wr) := s.1
   clear tk s H4
   go_wp2
   go_end0
   exact ⟨⟨_, rfl⟩, T3.out, C3.out⟩
attribute [local go_sem] Oper.semAt_some
def inT (C : List (Int × Int)) (n : Nat) : List (Int × Int) := (List.range n).flatMap fun i => [suS (0, 0) (C.take (i + 1)), C.getD i (0, 0)]
theorem inT_succ (C : List (Int × Int)) (n : Nat) : inT C (n + 1) = inT C n ++ [suS (0, 0) (C.take (n + 1)), C.getD n (0, 0)] := by unfold inT; rw [List.range_succ, List.flatMap_append]; simp
theorem mem_inT {C : List (Int × Int)} {x : Int × Int} : x ∈ inT C C.length ↔ x ∈ (ruL (0, 0) C).tail ∨ x ∈ C := by
 unfold inT
 simp only [List.mem_flatMap, List.mem_range, List.mem_cons, List.not_mem_nil, or_false]
 rw [mem_ruL_tail]
 constructor
 ·rintro ⟨i, hi, rfl | rfl⟩
  ·exact .inl ⟨i + 1, by omega, by omega, rfl⟩
  ·refine .inr ?_
   rw [List.getD_eq_getElem?_getD, List.getElem?_eq_getElem hi]
   exact List.getElem_mem _
 ·rintro (⟨j, h0, h1, rfl⟩ | h)
  ·exact ⟨j - 1, by omega, .inl (by rw [show j - 1 + 1 = j by omega])⟩
  ·obtain ⟨i, hi, rfl⟩ := List.getElem_of_mem h
   exact ⟨i, hi, .inr (by rw [List.getD_eq_getElem?_getD, List.getElem?_eq_getElem hi]; rfl)⟩
def itT (d : Nat) (E : List (Int × Int)) (k : Nat) : List (Int × Int) := (List.range k).flatMap fun j => inT (chk d E j) (chk d E j).length
theorem itT_succ (d : Nat) (E : List (Int × Int)) (k : Nat) : itT d E (k + 1) = itT d E k ++ inT (chk d E k) (chk d E k).length := by unfold itT; rw [List.range_succ, List.flatMap_append]; simp
def itL (d : Nat) (E : List (Int × Int)) : List (Int × Int) := itT d E (chN d E.length)
theorem mem_chk {d : Nat} {E : List (Int × Int)} {x : Int × Int} (hd : 0 < d) : x ∈ E ↔ ∃ k, k < chN d E.length ∧ x ∈ chk d E k := by
 constructor
 ·intro h
  obtain ⟨i, hi, rfl⟩ := List.getElem_of_mem h
  have hm := Nat.mod_lt i hd
  have hdm := Nat.div_add_mod i d
  rw [Nat.mul_comm] at hdm
  refine ⟨i / d, (chN_lt hd).2 (by omega), ?_⟩
  refine List.mem_of_getElem? (i := i % d) ?_
  unfold chk
  rw [List.getElem?_take, if_pos hm, List.getElem?_drop, hdm, List.getElem?_eq_getElem hi]
 ·rintro ⟨k, -, h⟩
  exact List.mem_of_mem_drop (List.mem_of_mem_take h)
theorem mem_itL {d : Nat} {E : List (Int × Int)} {x : Int × Int} (hd : 0 < d) : x ∈ itL d E ↔ x ∈ paL d E ++ E := by
 rw [List.mem_append, mem_chk (x := x) (E := E) hd]
 unfold itL itT paL paT
 simp only [List.mem_flatMap, List.mem_range, mem_inT]
 constructor
 ·rintro ⟨k, hk, h | h⟩
  ·exact .inl ⟨k, hk, h⟩
  ·exact .inr ⟨k, hk, h⟩
 ·rintro (⟨k, hk, h⟩ | ⟨k, hk, h⟩)
  ·exact ⟨k, hk, .inl h⟩
  ·exact ⟨k, hk, .inr h⟩
theorem chk_rb {d k : Nat} {E : List (Int × Int)} (h : Rb E) : Rb (chk d E k) := (h.drop _).take _
theorem inT_vd {C : List (Int × Int)} (hC : Rb C) (hl : C.length ≤ 512) (n : Nat) (hn : n ≤ C.length) : ∀ x ∈ inT C n, Vd 10000000000 x := fun x hx => by
 unfold inT at hx
 simp only [List.mem_flatMap, List.mem_range, List.mem_cons, List.not_mem_nil, or_false] at hx
 obtain ⟨i, hi, rfl | rfl⟩ := hx
 ·exact suS_vd (hC.take _) (by rw [List.length_take]; omega) (by unfold Vd; simp)
 ·exact getD_vd hC (by omega)
theorem itT_vd {d : Nat} {E : List (Int × Int)} (hE : Rb E) (hl : E.length ≤ 512) (k : Nat) : ∀ x ∈ itT d E k, Vd 10000000000 x := fun x hx => by
 unfold itT at hx
 obtain ⟨j, -, h⟩ := List.mem_flatMap.1 hx
 exact inT_vd (chk_rb hE) (by rw [chk_len]; omega) _ (Nat.le_refl _) x h
theorem SB.turn {b : Nat} {w0 w w' : World} {l : List (Nat × Array Value × TypeId)} {row : Option Nat} (h : SB b w0 w l) (g : w.grownBy w' row) (hr : ∀ r, row = some r → w0.heap.size ≤ r ∧ ∃ o : Obj, w.heap[r]? = some o ∧ o.isCells = false) : SB b w0 w' l :=
 ⟨⟨g.os.trans h.1.1, g.tape.trans h.1.2.1, g.output.trans h.1.2.2.1, Nat.le_trans h.1.size g.size, fun i hi h1 h2 => (g.block i (Nat.lt_of_lt_of_le hi h.1.size) (fun e => by have := (hr i e.symm).1; omega)).trans (h.1.2.2.2.2 i hi h1 h2)⟩, fun x hx => ⟨(grownBy_keeps_cells g (fun r e => (hr r e).2) (h.2 x hx).1 rfl).trans (h.2 x hx).1, (h.2 x hx).2⟩⟩
theorem SB.sub {b : Nat} {w0 w : World} {l l' : List (Nat × Array Value × TypeId)} (h : SB b w0 w l) (hs : ∀ x ∈ l', x ∈ l) : SB b w0 w l' := ⟨h.1, fun x hx => h.2 x (hs x hx)⟩
theorem SB.up1 {b : Nat} {w0 w : World} {x y : Nat × Array Value × TypeId} {l : List (Nat × Array Value × TypeId)} (h : SB b w0 w (x :: y :: l)) : SB b w0 w (y :: x :: l) :=
 h.sub fun z hz => by simp only [List.mem_cons] at *; rcases hz with h | h | h <;> simp [h]
theorem cprt_any (W : World) (d q : Nat) (hq : W.heap[q]? = some (.cells #[U i6 (d : Int)] 3 (0, 0))) (hd : 0 < d) (hd2 : d ≤ 512) (v : Value) (E L : List (Int × Int)) (nb b : Nat) (hE : Rb E) (h0 : 0 < E.length) (hl : E.length ≤ 512) (hv : SpV W v E) (hn : Nb nb v) (hb : b + 2 ≤ nb) (hT : Tk W b L) (hL : ∀ y ∈ L, Vd 10000000000 y) :
  Calls Tryz.prog 37 #[v, fTk b, .pointer (some ⟨q, 0, none⟩)] W fun e w' => (∃ u, e = .returned u) ∧ Tk w' b (L ++ itL d E) ∧ Tch b W w' := by
 have hbz := hT.lt
 have s0 := (St.start W).new (c := #[fTk b]) (t := 83)
 have HT : Hid (Tk W b L) := hT
 have HCh : Hid (∀ W1, Below W.heap.size W W1 → _) := fun W1 hw => chunk_any 0 nb d v E W1 (hv.below hw) hn hd hd2 hl (Nat.zero_le _)
 have HBk : Hid (∀ (k j : Nat) (x : Int × Int) (w : World), j ≤ (chk d E k).length → Tk w b (L ++ itT d E k ++ inT (chk d E k) j) → Vd 10000000000 x → _) := fun k j x w hj t hx => btake_any b x _ w t (app_vd (app_vd hL (itT_vd hE hl k)) (inT_vd (chk_rb hE) (by rw [chk_len]; omega) j hj)) hx
 have HBl : Hid (∀ (k j : Nat) (x y : Int × Int) (w : World), j ≤ (chk d E k).length → Vd 10000000000 y → Tk w b (L ++ itT d E k ++ inT (chk d E k) j ++ [y]) → Vd 10000000000 x → _) := fun k j x y w hj hy t hx => btake_any b x _ w t (app_vd (app_vd (app_vd hL (itT_vd hE hl k)) (inT_vd (chk_rb hE) (by rw [chk_len]; omega) j hj)) (fun z hz => by simp at hz; subst hz; exact hy)) hx
 have HCv : Hid (∀ k j, j < (chk d E k).length → Vd 10000000000 ((chk d E k).getD j (0, 0))) := fun k j hj => getD_vd (chk_rb hE) hj
 have HCs : Hid (∀ k j, Vd 10000000000 (suS (0, 0) ((chk d E k).take j))) := fun k j => suS_vd ((chk_rb hE).take j) (by rw [List.length_take, chk_len]; omega) (by unfold Vd; simp)
 have HCl : Hid (∀ k, (chk d E k).length ≤ 512) := fun k => by rw [chk_len]; omega
 have HV : Hid (SpV W v E ∧ Nb nb v) := ⟨hv, hn⟩
 have HSv : Hid (∀ W', Tch b W W' → SpV W' v E) := fun W' h => hv.tch hn hb h
 obtain ⟨y1, y2, y3⟩ := cells_at hq
 obtain ⟨va, vc, hve, -⟩ := id hv
 clear hv hE hn hT hL
 rw [hve] at HCh HSv ⊢
 have HVe : Hid (v = _) := hve
 clear hve
 unfold fTk at s0 ⊢
 have hfn : ∀ f, Fence.wide.fn f := fun _ => trivial
 have hdp : Fence.wide.depth = none := rfl
 refine (callsIn_wide (n := 3)).1 ?_
 refine callsIn_of_wp_marks Tryz.func37 rfl trivial ?_ rfl
 simp only [Tryz.ntmps37, List.size_toArray, List.length_cons, List.length_nil, Nat.reduceAdd, Nat.reduceSub, Array.replicate_succ, Array.replicate_zero, List.push_toArray, List.append_toArray, List.nil_append, List.cons_append]
 refine wpIn_wide.2 ?_
 go_wp2_with fail
 refine (HCh.out _ s0.below).mono ?_
 rintro e w5 ⟨⟨lb, rfl, hsq⟩, hb5, hz5⟩
 simp only [World.size_alloc] at hsq hz5
 have HT5 : Hid (Tk w5 b L) := (HT.out.below (bal W (.cells #[.func (.func 54) #[] #[.pointer (some ⟨b + 1, 0, none⟩), .pointer (some ⟨b, 0, none⟩)]] 83))).below hb5
 have HS5 : Hid (SB b W w5 [(W.heap.size, #[.func (.func 54) #[] #[.pointer (some ⟨b + 1, 0, none⟩), .pointer (some ⟨b, 0, none⟩)]], 83)]) := SB.of (s0.call hb5)
 have HSQ : Hid (Sq _ _ _ _ w5 _ _ _) := hsq
 clear hsq s0 hb5 HCh y1 y2 y3 HT
 go_wp2
 refine (wpIn_wide (n := 5)).1 ?_
 refine range_sq HSQ.out rfl rfl (by omega) (Nat.zero_le _)
  (fun k W' => SB b W W' [(W.heap.size, #[.func (.func 54) #[] #[.pointer (some ⟨b + 1, 0, none⟩), .pointer (some ⟨b, 0, none⟩)]], 83)] ∧ Tk W' b (L ++ itT d E k) ∧ w5.heap.size ≤ W'.heap.size)
  ?own (fun k W' h => HSv.out W' h.1.1) ⟨HS5.out, by simpa [itT] using HT5.out, Nat.le_refl _⟩ ?a₁ ?assign ?body ?done
 case own =>
  rintro k A B row ⟨h1, h2, h3⟩ hg hr
  have hz := HS5.out.size
  exact ⟨h1.turn hg (fun r e => ⟨by have := (hr r e).1; omega, (hr r e).2⟩), h2.turn hg (fun r e => (hr r e).2), Nat.le_trans h3 hg.size⟩
 case assign =>
  intro l x W' K hK
  gi_wp2
  exact hK
 case done =>
  rintro D W' hD ⟨h1, h2, h3⟩ hK
  have hz := HS5.out.size
  have HF : Hid (Tk (W'.putObj D (.deferred none)) b (L ++ itL d E)) := h2.turn (grownBy_putObj' _ D (.deferred none)) (fun r e => by cases e; exact ⟨_, hK, rfl⟩)
  have HG : Hid (Tch b W (W'.putObj D (.deferred none))) := (h1.turn (grownBy_putObj' _ D (.deferred none)) (fun r e => by cases e; exact ⟨by omega, _, hK, rfl⟩)).1
  clear h1 h2
  go_wp2
  refine ⟨by simp, .inl ⟨_, _, rfl, run_takeDeferred hK, ?_⟩⟩
  exact ⟨.tuple #[], by simp [results, Tryz.f37, go_sem], ⟨_, rfl⟩, HF.out, HG.out⟩
 case body =>
  rintro l k x W' ⟨h1, h2, h3⟩ hk hx hxn
  obtain ⟨xa, xc, hxe, -, x3, x4⟩ := hx
  subst hxe
  have HA : Hid _ := HBk.out k
  have HBb : Hid _ := HBl.out k
  have HV1 : Hid _ := HCv.out k
  have HV2 : Hid _ := HCs.out k
  have hM1 := HCl.out k
  have HI : Hid _ := itT_succ d E k
  obtain ⟨C, hC⟩ : ∃ C, chk d E k = C := ⟨_, rfl⟩
  obtain ⟨M, hM⟩ : ∃ M, C.length = M := ⟨_, rfl⟩
  rw [hC] at HA HBb HV1 HV2 hM1 HI x4 hxn ⊢
  rw [hM] at HA HBb HV1 hM1 HI x4 hxn ⊢
  have X4 : Hid (0 < M → _) := x4
  have HXn : Hid (Nb nb (.slice xa M xc)) := hxn
  have HM : Hid (C.length = M) := hM
  have HS0 : Hid (SB b W W' [(W.heap.size, #[.func (.func 54) #[] #[.pointer (some ⟨b + 1, 0, none⟩), .pointer (some ⟨b, 0, none⟩)]], 83)]) := h1
  have HT0 : Hid (Tk W' b (L ++ itT d E k)) := h2
  have hz := HS5.out.size
  obtain ⟨c1, f1, z1, -⟩ := h1.rules
  unfold maxLen at x3
  have s1 := h1.new (c := #[U i6 0, U i6 0]) (t := 28)
  have t1 := h2.below (bal W' (.cells #[U i6 0, U i6 0] 28))
  have k1 : Hid (Tch b W' _) := Tch.of (bal W' (.cells #[U i6 0, U i6 0] 28))
  have S1 : Hid (SB b W _ _) := s1
  have T1 : Hid (Tk _ b _) := t1
  clear h1 h2 s1 t1 x4 hxn hC hM HSQ HS5 HT5 HBk HBl HCv HCs HCl HS0 HT0
  gi_wp2
  gi_loopw [15] (fun i wr => ∃ j : Nat, j ≤ M ∧ i = U i6 j ∧ SB b W wr [(W'.heap.size, #[U i6 (suS (0, 0) (C.take j)).1, U i6 (suS (0, 0) (C.take j)).2], 28), (W.heap.size, #[.func (.func 54) #[] #[.pointer (some ⟨b + 1, 0, none⟩), .pointer (some ⟨b, 0, none⟩)]], 83)] ∧ Tk wr b (L ++ itT d E k ++ inT C j) ∧ Tch b W' wr) (fun i _ => M - (intOf i).toNat)
  case atStart => exact ⟨0, Nat.zero_le _, rfl, S1.out, by simpa [inT] using T1.out, k1.out⟩
  case round =>
   obtain ⟨j, hj, rfl, s, tk, tc⟩ := hrel
   clear S1 T1 k1 c1 f1 z1
   have hzr := tc.size
   by_cases hlt : j < M
   ·obtain ⟨g, o, rfl, hc⟩ := X4.out (by omega)
    have hjC : j < C.length := by rw [HM.out]; exact hlt
    obtain ⟨q1, q2⟩ := SpV.at hc hjC
    have hg : nb ≤ g := HXn.out ⟨g, o, none⟩ _ _ rfl
    have hve := HV1.out j hlt
    have hvs := HV2.out j
    have hvn := HV2.out (j + 1)
    obtain ⟨e1, e2, he⟩ : ∃ e1 e2, C.getD j (0, 0) = (e1, e2) := ⟨_, _, rfl⟩
    obtain ⟨m1, m2, hm⟩ : ∃ m1 m2, suS (0, 0) (C.take j) = (m1, m2) := ⟨_, _, rfl⟩
    have HS : Hid (suS (0, 0) (C.take (j + 1)) = (m1 + e1, m2 + e2)) := by unfold Hid; rw [suS_take _ hjC he, hm]; rfl
    have HR : Hid (L ++ itT d E k ++ inT C (j + 1) = (L ++ itT d E k ++ inT C j ++ [(m1 + e1, m2 + e2)]) ++ [(e1, e2)]) := by unfold Hid; rw [inT_succ, HS.out, he]; simp
    rw [he] at q1 q2 hve
    rw [hm] at s hvs
    rw [HS.out] at hvn
    simp only at q1 q2 s
    have HP : Hid (∀ w, _) := fun w => bplus_ok (m1, m2) (e1, e2) w hvs hve
    have HA1 : Hid (∀ w, Tk w b (L ++ itT d E k ++ inT C j) → _) := fun w t => HA.out j (m1 + e1, m2 + e2) w hj t hvn
    have HA2 : Hid (∀ w, Tk w b (L ++ itT d E k ++ inT C j ++ [(m1 + e1, m2 + e2)]) → _) := fun w t => HBb.out j (e1, e2) (m1 + e1, m2 + e2) w hj hvn t hve
    have p1 := tc.cell q1 (by omega) (by omega)
    have p2 := tc.cell q2 (by omega) (by omega)
    have S : Hid (SB b W wr [(W'.heap.size, #[U i6 m1, U i6 m2], 28), (W.heap.size, #[.func (.func 54) #[] #[.pointer (some ⟨b + 1, 0, none⟩), .pointer (some ⟨b, 0, none⟩)]], 83)]) := s
    have TK : Hid (Tk wr b (L ++ itT d E k ++ inT C j)) := tk
    obtain ⟨c1, f1, z1, c2, f2, z2, -⟩ := s.rules
    clear q1 q2 hc he hm hve hvs hvn s tk X4 HA HBb HV1 HV2 hjC
    gi_wp2_with fail
    refine (CallsIn.inRound l (callsIn_wide.2 (HP.out _))).mono ?_
    rintro e w3 ⟨rfl, hb3⟩
    have s3 := (S.out.new (c := #[U i6 e1, U i6 e2]) (t := 28)).call hb3
    have t3 := (TK.out.below (bal wr (.cells #[U i6 e1, U i6 e2] 28))).below hb3
    have s4 := s3.up1.set2 (u := U i6 (m1 + e1)) (v := U i6 (m2 + e2)) (by simp; omega)
    have t4 := (t3.set (B := W'.heap.size) (i := 0) (v := U i6 (m1 + e1)) (by omega) (by omega)).set (B := W'.heap.size) (i := 1) (v := U i6 (m2 + e2)) (by omega) (by omega)
    have k4 := ((tc.bel (bal wr (.cells #[U i6 e1, U i6 e2] 28))).bel hb3).set (B := W'.heap.size) (i := 0) (v := U i6 (m1 + e1)) (.inr (.inr (Nat.le_refl _))) |>.set (B := W'.heap.size) (i := 1) (v := U i6 (m2 + e2)) (.inr (.inr (Nat.le_refl _)))
    have S4 : Hid (SB b W _ _) := s4
    have K4 : Hid (Tch b W' _) := k4
    have HC : Hid (Calls _ _ _ _ _) := HA1.out _ t4
    clear c1 f1 z1 c2 f2 z2 p1 p2 S hb3 t3 t4 TK HA1 tc k4
    obtain ⟨c1, f1, z1, c2, f2, z2, c3, f3, z3, -⟩ := s3.rules
    clear s3 s4
    simp only [plS]
    gi_wp2_with fail
    refine (CallsIn.inRound l (callsIn_wide.2 HC.out)).mono ?_
    rintro e w5' ⟨⟨u, rfl⟩, tk5, tc5⟩
    have s5 := S4.out.take tc5 hbz
    have S5 : Hid (SB b W w5' _) := s5
    have K5 : Hid (Tch b W' w5') := K4.out.trans tc5
    have HC2 : Hid (Calls _ _ _ _ _) := HA2.out w5' tk5
    clear c1 f1 z1 c2 f2 z2 c3 f3 z3 HC S4 K4 tk5 tc5 HA2
    obtain ⟨c1, f1, z1, c2, f2, z2, c3, f3, z3, -⟩ := s5.rules
    clear s5
    gi_wp2_with fail
    refine (CallsIn.inRound l (callsIn_wide.2 HC2.out)).mono ?_
    rintro e w7 ⟨⟨u, rfl⟩, tk7, tc7⟩
    have S7 : Hid (SB b W w7 [(W'.heap.size, #[U i6 (m1 + e1), U i6 (m2 + e2)], 28), (W.heap.size, #[.func (.func 54) #[] #[.pointer (some ⟨b + 1, 0, none⟩), .pointer (some ⟨b, 0, none⟩)]], 83)]) := (S5.out.take tc7 hbz).sub fun x hx => by
     simp only [List.mem_cons, List.not_mem_nil, or_false] at hx ⊢
     rcases hx with h | h
     ·exact .inl h
     ·exact .inr (.inr h)
    have K7 : Hid (Tch b W' w7) := K5.out.trans tc7
    have T7 : Hid (Tk w7 b _) := tk7
    clear c1 f1 z1 c2 f2 z2 c3 f3 z3 HC2 S5 K5 tk7 tc7
    gi_wp2
    go_roundw
    case rel => exact ⟨j + 1, by omega, by go_num, by rw [HS.out]; exact S7.out, by rw [HR.out]; exact T7.out, K7.out⟩
    case measure => simp [intOf]; omega
   ·obtain rfl : j = M := by omega
    have SF : Hid (SB b W wr [(W.heap.size, #[.func (.func 54) #[] #[.pointer (some ⟨b + 1, 0, none⟩), .pointer (some ⟨b, 0, none⟩)]], 83)]) := s.tail
    have TF : Hid (Tk wr b (L ++ itT d E (k + 1))) := by unfold Hid; rw [HI.out, ← List.append_assoc]; exact tk
    have KF : Hid (Tch b W' wr) := tc
    clear s tk tc X4
    gi_wp2
    exact ⟨KF.out.from (by omega), KF.out.kps (Nat.zero_le _) (Nat.zero_le _) (by simp; omega), SF.out, TF.out, by omega⟩
theorem ftot {bi : Int} (hbi : -2147483648 ≤ bi ∧ bi ≤ 2147483647) {E : List (Int × Int)} (hE : Rb E) (hl : E.length ≤ 512) : ∀ x ∈ [suS (bi, bi) E], Vd 10000000000 x :=
 fun x hx => by simp at hx; subst hx; exact suS_vd hE hl (vd_bi hbi)
theorem frun {bi : Int} (hbi : -2147483648 ≤ bi ∧ bi ≤ 2147483647) {E : List (Int × Int)} (hE : Rb E) (hl : E.length ≤ 512) : ∀ x ∈ ruL (bi, bi) E, Vd 10000000000 x := ruL_vd hE hl (vd_bi hbi)
theorem fprt {d : Nat} {E : List (Int × Int)} (hE : Rb E) (hl : E.length ≤ 512) : ∀ x ∈ itL d E, Vd 10000000000 x := itT_vd hE hl _
theorem piT_it {d : Nat} (hd : 0 < d) (R : Nat → List (Int × Int)) (N : Nat) (hN : 0 < N) (hR : 0 < (R 0).length) : huA (piT (fun E => paL d E ++ E) R N) = huA (piT (fun E => itL d E) R N) := by
 refine huA_eq ?_ fun x => ?_
 ·intro h
  cases e : R 0 with
  | nil => rw [e] at hR; cases hR
  | cons y l =>
   have : y ∈ piT (fun E => paL d E ++ E) R N := mem_piT.2 ⟨0, hN, List.mem_append.2 (.inr (by rw [e]; exact List.mem_cons_self))⟩
   rw [h] at this
   cases this
 ·rw [mem_piT, mem_piT]
  constructor
  ·rintro ⟨k, hk, h⟩; exact ⟨k, hk, (mem_itL hd).2 h⟩
  ·rintro ⟨k, hk, h⟩; exact ⟨k, hk, (mem_itL hd).1 h⟩
def hbT (bi : Int) (R : Nat → List (Int × Int)) (N : Nat) : Int × Int := huA (piT (fun E => [suS (bi, bi) E]) R N)
def hbR (bi : Int) (R : Nat → List (Int × Int)) (N : Nat) : Int × Int := huA (piT (fun E => ruL (bi, bi) E) R N)
def hbP (R : Nat → List (Int × Int)) (N : Nat) : Int × Int := huA (piT (fun E => E) R N)
def hbD (d : Nat) (R : Nat → List (Int × Int)) (N : Nat) : Int × Int := huA (piT (fun E => paL d E ++ E) R N)
theorem bfacts {h w c lo hi ot ch : Int} {oa : Option Addr} {on oc : Nat} {O : Nat → Nat → Int} {Z B : Nat → List Int} {W : World} (hL : LRow W oa on oc O Z B) (RL : List (Int × Int × Int)) (Rw : Int) (hR : gtR O h w c lo hi ot on = (0, 0, RL, Rw)) (i : Nat) (x : Addr) (wa : Option Addr) (lw cw : Nat) (ba : Option Addr) (lb cb : Nat) (x0 y0 z0 H V C : Int) (hF : Fnd W oa on O Z B RL i x wa lw cw ba lb cb x0 y0 z0 H V C) (hch : 1 ≤ ch ∧ ch ≤ C) :
  Opd (O i 0) (O i 2) (O i 3) (O i 4) (O i 5) (O i 6) (O i 7) (O i 8) (O i 9) (O i 10) (O i 11) lw lb (O i 14) (O i 15) (O i 16) (O i 17) (O i 18) (O i 19) (O i 20) (O i 21) x0 y0 z0 H V C ∧ O i 0 ≤ 4 ∧ lw * 2 ≤ 140737488351232 ∧ lb * 4 ≤ 140737488351232 ∧ (-128 ≤ O i 19 ∧ O i 19 ≤ 127) ∧ (-2147483648 ≤ biA (O i 0) ch (B i) ∧ biA (O i 0) ch (B i) ≤ 2147483647) ∧ (1 ≤ H * V ∧ H * V ≤ 1048576) := by
 have hSit := hF.2.2.2.2.2.2.2.2.2.1
 have hb := hF.2.2.2.2.2.2.1.2.2.2.1
 obtain ⟨ja, jb, e1, hja, e3, hjb, hO⟩ := opd_of hR hF.1
 have hopd := (hO x0 y0 z0 H V C (by rw [← hF.2.2.2.2.2.2.2.1, e1, Int.toNat_natCast]) hF.2.2.2.2.2.2.2.2.1).1
 rw [hF.2.2.1, hF.2.2.2.1, Int.toNat_natCast, Int.toNat_natCast] at hopd
 obtain ⟨wa', lw', cw', ba', lb', cb', e12, e13, -, -, -, q1, q2⟩ := hL.2.2.2 x hF.2.1 i hF.1
 have e4 : lw' = lw := by have := hF.2.2.1; omega
 have e5 : lb' = lb := by have := hF.2.2.2.1; omega
 subst e4 e5
 have hv := vS_bd hSit.2.2.1
 have hrz := hopd.rz
 unfold rzB vlB at hrz; simp at hrz
 exact ⟨hopd, hSit.1.2, q1, q2, ⟨hrz.2.1, hrz.2.2⟩, biA_bd hb, hv.1⟩
theorem bfind_m (h w c lo hi ot : Int) (oa : Option Addr) (on oc : Nat) (O : Nat → Nat → Int) (Z B : Nat → List Int) (W : World) (hL : LRow W oa on oc O Z B) (ch : Int) (RL : List (Int × Int × Int)) (Rw : Int) (hR : gtR O h w c lo hi ot on = (0, 0, RL, Rw)) (i : Nat) (x : Addr) (wa : Option Addr) (lw cw : Nat) (ba : Option Addr) (lb cb : Nat) (x0 y0 z0 H V C : Int) (hF : Fnd W oa on O Z B RL i x wa lw cw ba lb cb x0 y0 z0 H V C) (hch : 1 ≤ ch ∧ ch ≤ C) (slo shi : Int) (hs : vbB slo shi = true) (N : Nat) (hN : (siL (O i 0) (O i 4) (O i 5) (O i 6) (O i 7) (O i 8) (O i 9) (O i 10) (O i 11) x0 y0 z0 ch 0 (Z i)).length = N) (bi : Int) (hbi : biA (O i 0) ch (B i) = bi) : ∀ W', Below W.heap.size W W' → Calls Tryz.prog 35 #[.agg #[U i6 h, U i6 w, U i6 c, U i6 lo, U i6 hi, .slice oa on oc, U i6 ot], U i6 ((i : Int) + 1), U i6 ch, .agg #[U i6 slo, U i6 shi]] W' fun e w' => ∃ g0, e = .returned (.tuple #[.agg #[U i6 ch, U i6 (H * V), U i6 (N : Int), U i6 bi, U i6 slo, U i6 shi, U i6 (O i 19), U i6 (O i 19), U i6 x0, U i6 y0, U i6 z0, U i6 0, U i6 0, .slice (some ⟨g0, 0, none⟩) 1 1, U i6 0], U i6 0]) ∧ w'.heap[g0]? = some (.cells #[U i6 (O i 0), U i6 0, U i6 (O i 2), U i6 (O i 3), U i6 (O i 4), U i6 (O i 5), U i6 (O i 6), U i6 (O i 7), U i6 (O i 8), U i6 (O i 9), U i6 (O i 10), U i6 (O i 11), .slice wa lw cw, .slice ba lb cb, U i6 (O i 14), U i6 (O i 15), U i6 (O i 16), U i6 (O i 17), U i6 (O i 18), U i6 (O i 19), U i6 (O i 20), U i6 (O i 21)] 43 (0, 0)) ∧ W'.heap.size ≤ g0 ∧ Below W'.heap.size W' w' := fun W' hb => by
 obtain ⟨-, -, -, -, -, -, hv⟩ := bfacts hL RL Rw hR i x wa lw cw ba lb cb x0 y0 z0 H V C hF hch
 subst hbi
 have hF' := hF.below hb
 obtain ⟨h1, rfl, h3, h4, h5, h6, h7, h8, h9, h10, h11, h12⟩ := hF'
 exact bfind_r h w c lo hi ot ch x on oc i O W' (hL.below hb).m h1 wa lw cw ba lb cb h5 Rw RL hR h11.1 h11.2 x0 y0 z0 H V C h8 h9 ⟨by omega, by omega⟩ slo shi _ _ N hN hs
  (fun W'' hb' => of_ok h w c lo hi ot (some x) on oc O Z B W'' ((hL.below hb).below hb') ch 0 RL Rw hR i x wa lw cw ba lb cb x0 y0 z0 H V C ((hF.below hb).below hb') hch ⟨by omega, by omega⟩)
theorem bhull_m (h w c lo hi ot : Int) (oa : Option Addr) (on oc : Nat) (O : Nat → Nat → Int) (Z B : Nat → List Int) (W : World) (hL : LRow W oa on oc O Z B) (ch : Int) (RL : List (Int × Int × Int)) (Rw : Int) (hR : gtR O h w c lo hi ot on = (0, 0, RL, Rw)) (i : Nat) (x : Addr) (wa : Option Addr) (lw cw : Nat) (ba : Option Addr) (lb cb : Nat) (x0 y0 z0 H V C : Int) (hF : Fnd W oa on O Z B RL i x wa lw cw ba lb cb x0 y0 z0 H V C) (hch : 1 ≤ ch ∧ ch ≤ C) (slo shi : Int) (hs : vbB slo shi = true) (N : Nat) (bi : Int) (W' : World) (hb : Below W.heap.size W W') (g0 q : Nat) (hg : W'.heap[g0]? = some (.cells #[U i6 (O i 0), U i6 0, U i6 (O i 2), U i6 (O i 3), U i6 (O i 4), U i6 (O i 5), U i6 (O i 6), U i6 (O i 7), U i6 (O i 8), U i6 (O i 9), U i6 (O i 10), U i6 (O i 11), .slice wa lw cw, .slice ba lb cb, U i6 (O i 14), U i6 (O i 15), U i6 (O i 16), U i6 (O i 17), U i6 (O i 18), U i6 (O i 19), U i6 (O i 20), U i6 (O i 21)] 43 (0, 0))) (hq : W'.heap[q]? = some (.cells #[U i6 ch, U i6 (H * V), U i6 (N : Int), U i6 bi, U i6 slo, U i6 shi, U i6 (O i 19), U i6 (O i 19), U i6 x0, U i6 y0, U i6 z0, U i6 0, U i6 0, .slice (some ⟨g0, 0, none⟩) 1 1, U i6 0] 78 (0, 0)))
  (F : List (Int × Int) → List (Int × Int)) (gf : Nat) (cl : Array Value) (eg : ∀ args w, (callFunc gf args).run Tryz.prog w = .ok (.enter gf args) w)
  (hP : Pik W' gf cl F)
  (hFF : ∀ E, Rb E → 0 < E.length → E.length ≤ 512 → ∀ x ∈ F E, Vd 10000000000 x) :
  Calls Tryz.prog 36 #[.pointer (some ⟨q, 0, none⟩), .func (.func gf) #[] cl] W' fun e w' => e = .returned (.agg #[U i6 (huA (piT F (fun (j : Nat) => enL slo shi (O i 19) (siL (O i 0) (O i 4) (O i 5) (O i 6) (O i 7) (O i 8) (O i 9) (O i 10) (O i 11) x0 y0 z0 ch (j : Int) (Z i))) (H * V).toNat)).1, U i6 (huA (piT F (fun (j : Nat) => enL slo shi (O i 19) (siL (O i 0) (O i 4) (O i 5) (O i 6) (O i 7) (O i 8) (O i 9) (O i 10) (O i 11) x0 y0 z0 ch (j : Int) (Z i))) (H * V).toNat)).2]) ∧ Below W'.heap.size W' w' := by
 obtain ⟨s, hk, q1, q2, hp, -, -⟩ := bfacts hL RL Rw hR i x wa lw cw ba lb cb x0 y0 z0 H V C hF hch
 have hF' := hF.below hb
 exact bhull_of (O i 0) (O i 1) (O i 2) (O i 3) (O i 4) (O i 5) (O i 6) (O i 7) (O i 8) (O i 9) (O i 10) (O i 11) wa lw cw ba lb cb (O i 14) (O i 15) (O i 16) (O i 17) (O i 18) (O i 19) (O i 20) (O i 21) x0 y0 z0 H V C s hk (Z i) (B i) W' hF'.2.2.2.2.2.1 hF'.2.2.2.2.2.2.1 q1 q2 g0 hg ch hch (N : Int) bi slo shi (vbB_yes hs) hp q hq F gf cl eg hP hFF
end Go.Proofs.YtgiohlcipndakaaGreat
