/- Shapes in a block of their own; one op in plain numbers; laws of memory for take and one. -/
import Derived.Test.YthagdpiocmcbmaaMdlC
import Derived.Test.YthagdpiocmcbmaaMdlD
import Derived.Test.YthagdpiocmcbmaaMdlE
namespace Go.Proofs.Ythagdpiocmcbmaa
open Go.ChangeShapes Go.WideShapes Go.ChangeAt Go.RowKit
set_option linter.unusedVariables false
/-! ### A load of a whole struct, in a region that draws its order -/
theorem quiet_ld {P : Program} {C : World → Prop} {a a' : Act} {o : Oper} {K : Act → Prop} (ty : TypeId) (x : Operand) (h : o.op = .load ty x) (B : Nat) (hx : a.eval x = .pointer (some ⟨B, 0, none⟩)) (t : TypeId) (cs : Array Value) (d : TypeDesc)
    (hC : ∀ w, C w → w.heap[B]? = some (.cells cs t (0, 0))) (hu : P.underlying ty = some d) (hd : (match d with | .struct _ | .array _ _ => true | _ => false) = true) (hi : (P.info? ty).map (·.size) = some cs.size) (ha : a.put o.dst (.agg cs) = a') (hk : K a') : o.quiet P a C K := by
  refine ⟨.agg cs, fun w hw => ?_, by rw [ha]; exact hk⟩
  unfold Oper.quietAt execOp
  simp only [h, hx, Instr.loadAt, Instr.sureAddr, Sem.run_bind, Sem.run_pure, Result.andThen_ok, run_loadVar_row w B t ty cs (0, 0) d (hC w hw) hu hd hi]
  exact ⟨rfl, rfl⟩
theorem Wd.hp {w0 : World} {l : List (Nat × Array Value × TypeId)} {B : Nat} {c : Array Value} {t : TypeId} (hm : (B, c, t) ∈ l) : ∀ w, (∃ n : Wd w0 l, w = n.w) → w.heap[B]? = some (.cells c t (0, 0)) := by
  rintro w ⟨n, rfl⟩
  exact (n.h.2 _ hm).1
/-! ### Shapes -/
def s3 : List (Int × Int × Int) → List Value
  | [] => []
  | s :: l => .int .i64 s.1 :: .int .i64 s.2.1 :: .int .i64 s.2.2 :: s3 l
theorem s3_len : ∀ l : List (Int × Int × Int), (s3 l).length = l.length * 3
  | [] => rfl
  | s :: l => by simp only [s3, List.length_cons, s3_len l]; omega
theorem s3_app : ∀ l r : List (Int × Int × Int), s3 (l ++ r) = s3 l ++ s3 r
  | [], _ => rfl
  | s :: l, r => by simp only [List.cons_append, s3, s3_app l r]
theorem s3_at : ∀ (l : List (Int × Int × Int)) (i : Nat), i < l.length → (s3 l)[i * 3]? = some (.int .i64 (l.getD i (0, 0, 0)).1) ∧ (s3 l)[i * 3 + 1]? = some (.int .i64 (l.getD i (0, 0, 0)).2.1) ∧ (s3 l)[i * 3 + 2]? = some (.int .i64 (l.getD i (0, 0, 0)).2.2)
  | [], _, h => by simp at h
  | s :: l, 0, _ => ⟨rfl, rfl, rfl⟩
  | s :: l, i + 1, h => by
    have := s3_at l i (by simpa using h)
    rw [show (i + 1) * 3 = i * 3 + 3 by omega]
    simpa [s3, List.getD] using this
/-- A block that holds these shapes, with room for 'cap'. -/
def Cu (cur : Array Value) (cap : Nat) (L : List (Int × Int × Int)) : Prop := cur.size = cap * 3 ∧ L.length ≤ cap ∧ cur.toList.take (L.length * 3) = s3 L
theorem Cu.at {cur : Array Value} {cap : Nat} {L : List (Int × Int × Int)} (h : Cu cur cap L) {i : Nat} (hi : i < L.length) :
    cur[i * 3]? = some (.int .i64 (L.getD i (0, 0, 0)).1) ∧ cur[i * 3 + 1]? = some (.int .i64 (L.getD i (0, 0, 0)).2.1) ∧ cur[i * 3 + 2]? = some (.int .i64 (L.getD i (0, 0, 0)).2.2) := by
  have g : ∀ j, j < L.length * 3 → cur[j]? = (s3 L)[j]? := fun j hj => by rw [← h.2.2, List.getElem?_take, if_pos hj]; simp
  obtain ⟨a1, a2, a3⟩ := s3_at L i hi
  exact ⟨(g _ (by omega)).trans a1, (g _ (by omega)).trans a2, (g _ (by omega)).trans a3⟩
theorem Cu.add {cur : Array Value} {cap : Nat} {L : List (Int × Int × Int)} (h : Cu cur cap L) (hr : L.length < cap) (x y z : Int) :
    Cu (((cur.setIfInBounds (L.length * 3) (.int .i64 x)).setIfInBounds (L.length * 3 + 1) (.int .i64 y)).setIfInBounds (L.length * 3 + 2) (.int .i64 z)) cap (L ++ [(x, y, z)]) := by
  obtain ⟨h1, h2, h3⟩ := h
  refine ⟨by simp [h1], by simp; omega, ?_⟩
  rw [s3_app, ← h3]
  apply List.ext_getElem?
  intro j
  have hsz : cur.toList.length = cap * 3 := by simpa using h1
  simp only [List.length_append, List.length_cons, List.length_nil, Array.toList_setIfInBounds]
  rw [List.getElem?_take]
  have hl : (cur.toList.take (L.length * 3)).length = L.length * 3 := by rw [List.length_take]; omega
  by_cases q1 : j < L.length * 3
  · rw [if_pos (by omega), List.getElem?_append_left (by omega), List.getElem?_take, if_pos q1]
    rw [List.getElem?_set_ne (by omega), List.getElem?_set_ne (by omega), List.getElem?_set_ne (by omega)]
  · rw [List.getElem?_append_right (by omega), hl]
    by_cases q2 : j < L.length * 3 + 3
    · rw [if_pos (by omega)]
      rcases (show j = L.length * 3 ∨ j = L.length * 3 + 1 ∨ j = L.length * 3 + 2 by omega) with rfl | rfl | rfl
      · rw [List.getElem?_set_ne (by omega), List.getElem?_set_ne (by omega), List.getElem?_set_self (by omega), Nat.sub_self]; rfl
      · rw [List.getElem?_set_ne (by omega), List.getElem?_set_self (by simp; omega), show L.length * 3 + 1 - L.length * 3 = 1 by omega]; rfl
      · rw [List.getElem?_set_self (by simp; omega), show L.length * 3 + 2 - L.length * 3 = 2 by omega]; rfl
    · rw [if_neg (by omega), List.getElem?_eq_none (by simp [s3]; omega)]
/-! ### One op -/
def ShA (L : List (Int × Int × Int)) (a : Int) : Int × Int × Int := L.getD a.toNat (0, 0, 0)
def mk3 (k m kh kw sh sw tp lf bt rt : Int) (s : Int × Int × Int) : Int × Int × Int := mkS k m kh kw sh sw tp lf bt rt s.1 s.2.1 s.2.2
def st3 (k kh kw : Int) (s : Int × Int × Int) : Int := stR k kh kw s.1 s.2.1 s.2.2
def opE (k a b m kh kw sh sw tp lf bt rt : Int) (lw lb : Nat) (sm ss um us z p lo hi : Int) (L : List (Int × Int × Int)) : Int :=
  if fmE k a b L.length (ozB k b m kh kw sh sw tp lf bt rt lw lb sm ss um us z p) ≠ 0 then fmE k a b L.length (ozB k b m kh kw sh sw tp lf bt rt lw lb sm ss um us z p)
  else if mkE k m kh kw sh sw tp lf bt rt (ShA L a).1 (ShA L a).2.1 (ShA L a).2.2 ≠ 0 then mkE k m kh kw sh sw tp lf bt rt (ShA L a).1 (ShA L a).2.1 (ShA L a).2.2
  else if k = 6 ∧ ShA L a ≠ ShA L b then 50
  else if rdB k = true ∧ 512 < st3 k kh kw (ShA L a) then 84
  else nuE k (mk3 k m kh kw sh sw tp lf bt rt (ShA L a)).2.2 (st3 k kh kw (ShA L a)) lw lb sm ss um us z p lo hi
def opW (k m kh kw sh sw tp lf bt rt : Int) (s : Int × Int × Int) : Int := (mk3 k m kh kw sh sw tp lf bt rt s).1 * (mk3 k m kh kw sh sw tp lf bt rt s).2.1 * (mk3 k m kh kw sh sw tp lf bt rt s).2.2 * st3 k kh kw s
def tkE (k a b m kh kw sh sw tp lf bt rt : Int) (lw lb : Nat) (sm ss um us z p lo hi : Int) (L : List (Int × Int × Int)) (wk : Int) : Int :=
  if opE k a b m kh kw sh sw tp lf bt rt lw lb sm ss um us z p lo hi L ≠ 0 then opE k a b m kh kw sh sw tp lf bt rt lw lb sm ss um us z p lo hi L else if 131072 < wk + opW k m kh kw sh sw tp lf bt rt (ShA L a) then 86 else 0
end Go.Proofs.Ythagdpiocmcbmaa
