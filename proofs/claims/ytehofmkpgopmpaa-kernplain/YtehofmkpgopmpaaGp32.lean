/- KernPlain, whatever it is asked. The walk of KernPlain, in the form of the frame. -/
import Derived.Test.YtehofmkpgopmpaaGp31
/- KernPlain, whatever it is asked. -/
namespace Go.Proofs.Ytehofmkpgopmpaa.Kr
open Go.ChangeShapes Go.WideShapes Go.ChangeAt Go.RowKit
set_option linter.unusedVariables false
theorem pfE_op {op n : Int} : ∀ (l : List Pl) (i : Nat), (pfE op n l i).1 ≠ 0 → (pfE op n l i).2.1 = op
  | [], _, h => absurd rfl h
  | p :: l, i, h => by
    unfold pfE at h ⊢
    by_cases q : deE p n ≠ 0
    · rw [if_pos q]
    · rw [if_neg q] at h ⊢
      exact pfE_op l (i + 1) h
theorem lnE_op {k h w c C len op : Int} {n pl nb : Nat} {PS : List Pl} (q : (lnE k h w c C len op n pl nb PS).1 ≠ 0) : (lnE k h w c C len op n pl nb PS).2.1 = op := by
  unfold lnE at q ⊢
  by_cases e : (n : Int) ≠ h * w * c ∨ (pl : Int) ≠ (if k ≤ 4 then C else 0) ∨ (k = 6 ∧ (nb : Int) ≠ h * w * c)
  · rw [if_pos e]
  · rw [if_neg e] at q ⊢
    exact pfE_op PS 0 q
theorem lnE_ok {k h w c C len op : Int} {n pl nb : Nat} {PS : List Pl} (hl : PS.length = pl) (q : (lnE k h w c C len op n pl nb PS).1 = 0) : k ≤ 4 → Pok len C PS := by
  intro h4
  unfold lnE at q
  by_cases e : (n : Int) ≠ h * w * c ∨ (pl : Int) ≠ (if k ≤ 4 then C else 0) ∨ (k = 6 ∧ (nb : Int) ≠ h * w * c)
  · rw [if_pos e] at q
    simp at q
  · rw [if_neg e] at q
    simp only [not_or, Decidable.not_not] at e
    rw [if_pos h4] at e
    exact ⟨by rw [hl]; exact e.2.1, (pfE_0 PS 0 q).2⟩
set_option maxHeartbeats 2000000 in
theorem plain_any (h w c lo hi ot : Int) (oa : Option Addr) (on oc : Nat) (O : Nat → Nat → Int) (Z B : Nat → List Int) (W : World) (hL : LRow W oa on oc O Z B) (ra : Option Addr) (rn rc : Nat) (qa : Option Addr) (qn qc : Nat) (P : List (List Pl)) (hQ : QRow W qa qn qc P) (ad : Option Addr) (n cap : Nat) (xs : List Int) (hX : IRow .i8 W ad n cap xs) (op : Int) :
    Calls Try.prog 3 #[.agg #[.int .i64 h, .int .i64 w, .int .i64 c, .int .i64 lo, .int .i64 hi, .slice oa on oc, .int .i64 ot, .slice ra rn rc, .slice qa qn qc, .slice ad n cap], .int .i64 op] W fun e w' => e = .returned (.bool true) ∧ Below W.heap.size W w' := by
  obtain ⟨Re, Ra, RL, Rw, hR⟩ : ∃ Re Ra RL Rw, gtR O h w c lo hi ot on = (Re, Ra, RL, Rw) := ⟨_, _, _, _, rfl⟩
  by_cases he : Re = 0
  · subst he
    obtain ⟨rfl, -, h64, -, -, -⟩ := gtR_ok hR
    cases hin : inB h w c lo hi xs with
    | false => exact plain_err h w c lo hi ot oa on oc ra rn rc qa qn qc ad n cap op W 220 0 (by decide) (fun W' hb => tensors_in h w c lo hi ot oa on oc O Z B W' (hL.below hb) ad n cap xs (hX.below hb) Rw RL hR hin)
    | true =>
      have hT : ∀ (W' : World), Below W.heap.size W W' → _ := fun W' hb => tensors_ok h w c lo hi ot oa on oc O Z B W' (hL.below hb) ad n cap xs (hX.below hb) Rw RL hR hin
      have hqm := hQ.2.2.1
      have hqc := hQ.2.1
      unfold maxLen at hqm
      by_cases ho : op < 1 ∨ (on : Int) < op ∨ (qn : Int) < op
      · exact plain_rng h w c lo hi ot oa on oc ra rn rc qa qn qc ad n cap op W h64 (by omega) ho _ (tnL_len _ _ _ _ _ _) hT
      · obtain ⟨i, rfl⟩ : ∃ i : Nat, op = (i : Int) + 1 := ⟨(op - 1).toNat, by omega⟩
        have hil : i < on := by omega
        have hiq : i < qn := by omega
        obtain ⟨ja, jb, ea, la, eb, lb', hO⟩ := opd_of hR hil
        obtain ⟨x, rfl, wa, lw, cw, ba, lb, cb, e12, e13, hop, hz, hbz, rz, rb⟩ := hL.at hil
        obtain ⟨y, PS, pa, pc, rfl, hPi, -, hyc, hPE, hrp⟩ := hQ.at hiq
        obtain ⟨s, -⟩ := hO _ _ _ _ _ _ rfl rfl
        have hom := hL.2.1
        unfold maxLen at hom
        obtain ⟨E1, E2, E3, hE⟩ : ∃ E1 E2 E3, oLn O RL i ((tnL O Z B RL xs on).getD ja []).length PS.length ((tnL O Z B RL xs on).getD jb []).length PS = (E1, E2, E3) := ⟨_, _, _, rfl⟩
        have hw := oNm_whole (o := O i) (A := RL.getD ja (0, 0, 0)) (Q := RL.getD (i + 1) (0, 0, 0)) (zs := Z i) (xs := (tnL O Z B RL xs on).getD ja []) (ys := (tnL O Z B RL xs on).getD jb []) (PS := PS) s hbz.2.2.2.1
        refine plain_w h w c lo hi ot x on oc ra rn rc y qn qc ad n cap i (O i) wa lw cw ba lb cb W hil h64 hL.1 hom hiq hqc hqm hop pa PS.length pc hyc (tnL O Z B RL xs on) (tnL_len _ _ _ _ _ _) ja jb ea eb la lb' hT
          (if E1 = 0 then oTk (O i) (RL.getD ja (0, 0, 0)) (RL.getD (i + 1) (0, 0, 0)) (Z i) (B i) ((tnL O Z B RL xs on).getD ja []) PS else Tr.z) (if E1 = 0 then oNm (O i) (RL.getD ja (0, 0, 0)) (RL.getD (i + 1) (0, 0, 0)) (Z i) (B i) ((tnL O Z B RL xs on).getD ja []) ((tnL O Z B RL xs on).getD jb []) PS else []) E1 E2 E3 (fun q => ?_) (fun q => ?_) (fun W' hb a1 a2 c1 c2 h1 h2 => ?_)
        · rw [if_neg q, if_neg q]
          refine ⟨rfl, rfl, ?_⟩
          have := lnE_op (k := O i 0) (h := (RL.getD (O i 1).toNat (0, 0, 0)).1) (w := (RL.getD (O i 1).toNat (0, 0, 0)).2.1) (c := (RL.getD (O i 1).toNat (0, 0, 0)).2.2) (C := (RL.getD (i + 1) (0, 0, 0)).2.2) (len := stR (O i 0) (O i 4) (O i 5) (RL.getD (O i 1).toNat (0, 0, 0)).1 (RL.getD (O i 1).toNat (0, 0, 0)).2.1 (RL.getD (O i 1).toNat (0, 0, 0)).2.2) (op := (i : Int) + 1) (n := ((tnL O Z B RL xs on).getD ja []).length) (pl := PS.length) (nb := ((tnL O Z B RL xs on).getD jb []).length) (PS := PS) (by rw [show lnE _ _ _ _ _ _ _ _ _ _ _ = (E1, E2, E3) from hE]; exact q)
          rw [show lnE _ _ _ _ _ _ _ _ _ _ _ = (E1, E2, E3) from hE] at this
          exact this
        · subst q
          have eja : (O i 1).toNat = ja := by omega
          have hok := lnE_ok (PS := PS) rfl (show (lnE _ _ _ _ _ _ _ _ _ _ _).1 = 0 by rw [show lnE _ _ _ _ _ _ _ _ _ _ _ = (0, E2, E3) from hE])
          rw [eja] at hok
          have hww := hw hok
          rw [if_pos rfl, if_pos rfl]
          refine ⟨hww.1, fun h0 => ?_⟩
          refine (hww.2 h0).trans ?_
          rw [tnL_get _ _ _ _ _ (show i + 1 ≤ on by omega), tnA_succ ea eb la lb', tnL_get _ _ _ _ _ (show ja ≤ on by omega), tnL_get _ _ _ _ _ (show jb ≤ on by omega)]
        · refine (op_i h w c lo hi ot (some x) on oc O Z B W' (hL.below hb) ((i : Int) + 1) pa PS.length pc PS a1 _ c1 _ a2 _ c2 _ (hPE.below hb) h1 h2 Rw RL hR i hil rfl E1 E2 E3 hE).mono ?_
          rintro e w' ⟨⟨v, T, rfl, hq⟩, hb'⟩
          have eja : (O i 1).toNat = ja := by omega
          rw [eja] at hq
          rcases hq with ⟨q0, rfl, rfl⟩ | ⟨q0, hO', rfl⟩
          · rw [if_neg q0, if_neg q0]
            exact ⟨⟨_, rfl, own_none _ _ _ _⟩, hb'⟩
          · rw [if_pos q0, if_pos q0]
            exact ⟨⟨v, rfl, hO'⟩, hb'⟩
  · exact plain_err h w c lo hi ot oa on oc ra rn rc qa qn qc ad n cap op W Re Ra he (fun W' hb => tensors_bad h w c lo hi ot oa on oc O Z B W' (hL.below hb) ad n cap xs (hX.below hb) Re Ra Rw RL hR he)
end Go.Proofs.Ytehofmkpgopmpaa.Kr

/- The walk of KernPlain, in the form of the frame. -/
namespace Go.Proofs.Ytehofmkpgopmpaa.Kr
open Go.ChangeShapes Go.WideShapes Go.ChangeAt Go.RowKit
set_option linter.unusedVariables false
def PsIn (w : World) (cs : List Value) : Prop := ∃ (a : Option Addr) (l c : Nat), cs = [.slice a l c] ∧ ORow 6 PlIn w a l c ∧ l * 48 ≤ 140737488351232
theorem plans_of {w : World} {a : Option Addr} {n c : Nat} (h : ORow 1 (PsIn w) w a n c) : ∃ P, QRow w a n c P := by
  obtain ⟨h1, h2, h3, h4⟩ := h
  cases a with
  | none =>
    have := h3 rfl
    obtain rfl : n = 0 := by omega
    exact ⟨[], rfl, by omega, h2, h3, fun x hx => by cases hx⟩
  | some x =>
    have q : ∀ i, ∃ l : List Pl, i < n → ∃ ca cc, w.cell? (x.add i) = some (.slice ca l.length cc) ∧ ERow 6 pcs w ca l.length cc l ∧ l.length * 48 ≤ 140737488351232 := by
      intro i
      by_cases hi : i < n
      · obtain ⟨cs, -, ⟨ca, ln, cc, rfl, g1, g2⟩, g⟩ := h4 x rfl i hi
        obtain ⟨l, hl⟩ := chans_of g1
        have hln := hl.1
        subst hln
        refine ⟨l, fun _ => ⟨ca, cc, ?_, hl, g2⟩⟩
        have := g 0 (by omega)
        rw [Nat.mul_one, Nat.add_zero] at this
        rw [this]
        rfl
      · exact ⟨[], fun h => absurd h hi⟩
    obtain ⟨f, hf⟩ := Classical.skolem.1 q
    refine ⟨(List.range n).map f, by simp, h1, h2, h3, fun y hy i l hl => ?_⟩
    cases hy
    have hi : i < n := by have := (List.getElem?_eq_some_iff.1 hl).1; simpa using this
    rw [List.getElem?_map, List.getElem?_range hi, Option.map_some, Option.some.injEq] at hl
    subst hl
    exact hf i hi
end Go.Proofs.Ytehofmkpgopmpaa.Kr
namespace Go.Proofs.Ytehofmkpgopmpaa
open Go.ChangeShapes Go.WideShapes Go.ChangeAt Go.RowKit
theorem kernPlain_walk (h w c lo hi : Int) (oa : Option Addr) (on oc : Nat) (ot : Int) (ra : Option Addr) (rn rc : Nat) (qa : Option Addr) (qn qc : Nat) (ad : Option Addr) (n cap : Nat) (xs : List Int) (op : Int) (W : World)
    (_ : (Lit.int .i64 h).wf = true) (_ : (Lit.int .i64 w).wf = true) (_ : (Lit.int .i64 c).wf = true) (_ : (Lit.int .i64 lo).wf = true) (_ : (Lit.int .i64 hi).wf = true) (wo : ORow 22 (OpIn W) W oa on oc) (_ : on * 208 ≤ 140737488351232) (_ : (Lit.int .i64 ot).wf = true)
    (_ : ORow 2 (fun cs => ∃ (b0 : Int) (b1 : Int), cs = [.int .i64 b0, .int .i64 b1] ∧ (Lit.int .i64 b0).wf = true ∧ (Lit.int .i64 b1).wf = true) W ra rn rc) (_ : rn * 16 ≤ 140737488351232) (wq : ORow 1 (Kr.PsIn W) W qa qn qc) (_ : qn * 24 ≤ 140737488351232) (hX : IRow .i8 W ad n cap xs) (_ : n * 1 ≤ 140737488351232) (_ : (Lit.int .i64 op).wf = true) :
    Calls Try.prog 3 #[.agg #[.int .i64 h, .int .i64 w, .int .i64 c, .int .i64 lo, .int .i64 hi, .slice oa on oc, .int .i64 ot, .slice ra rn rc, .slice qa qn qc, .slice ad n cap], .int .i64 op] W fun e w' => e = .returned (.bool true) ∧ Below W.heap.size W w' := by
  obtain ⟨O, Z, B, hL⟩ := lrow_of wo
  obtain ⟨P, hQ⟩ := Kr.plans_of wq
  exact Kr.plain_any h w c lo hi ot oa on oc O Z B W hL ra rn rc qa qn qc P hQ ad n cap xs hX op
end Go.Proofs.Ytehofmkpgopmpaa
