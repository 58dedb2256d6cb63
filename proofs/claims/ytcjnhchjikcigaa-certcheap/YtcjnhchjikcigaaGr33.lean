/- What a deeper plan costs, in plain numbers. One number of copied plans is written: what they read as behind it. The walk of CertCheap. -/
import Derived.Test.YtcjnhchjikcigaaGr25
import Derived.Test.YtcjnhchjikcigaaGr29
import Derived.Test.YtcjnhchjikcigaaGr32
/- What a deeper plan costs, in plain numbers. -/
namespace Go.Proofs.Ytcjnhchjikcigaa
open Go.ChangeShapes Go.WideShapes Go.ChangeAt Go.RowKit
set_option linter.unusedVariables false
/-! ### Sums -/
theorem coS_sum {p : Pl} {n : Int} (hn : 0 ≤ n) (h0 : deE p n = 0) : (coS p n).1 = (coS p n).2.1 ∧ (coS p n).2.2.1 ≤ (coS p n).2.2.2 ∧ (coS p n).1 + (coS p n).2.2.1 = n := by
  unfold coS
  by_cases h : p.1 = 16
  · have := bkV_bd (deE_16 h h0)
    rw [if_pos h]
    exact ⟨rfl, by simp only; omega, by simp⟩
  · rw [if_neg h]
    exact ⟨rfl, Int.le_refl _, by simp⟩
theorem coL_sum {op n q : Int} (hn : 0 ≤ n) (hq : 0 ≤ q) : ∀ (l : List Pl) (k : Nat) (t : T4), (coL op n q l k t).2.1 = 0 →
    (coL op n q l k t).1.1 - t.1 = (coL op n q l k t).1.2.1 - t.2.1 ∧ (coL op n q l k t).1.2.2.1 - t.2.2.1 ≤ (coL op n q l k t).1.2.2.2 - t.2.2.2 ∧ (coL op n q l k t).1.1 + (coL op n q l k t).1.2.2.1 = t.1 + t.2.2.1 + (l.length : Int) * (n * q)
  | [], k, t, _ => by unfold coL; simp
  | p :: r, k, t, h => by
    by_cases g : deE p n = 0
    · rw [coL_yes g] at h ⊢
      obtain ⟨a1, a2, a3⟩ := coL_sum hn hq r (k + 1) _ h
      obtain ⟨b1, b2, b3⟩ := coS_sum hn g
      have c2 : (coS p n).2.2.1 * q ≤ (coS p n).2.2.2 * q := Int.mul_le_mul_of_nonneg_right b2 hq
      have c3 : (coS p n).1 * q + (coS p n).2.2.1 * q = n * q := by rw [← Int.add_mul, b3]
      have c1 : (coS p n).1 * q = (coS p n).2.1 * q := by rw [b1]
      have e : ((p :: r).length : Int) * (n * q) = (r.length : Int) * (n * q) + n * q := by rw [List.length_cons, Int.natCast_add, Int.add_mul]; simp
      unfold adT at a1 a2 a3
      simp only at a1 a2 a3
      rw [e]
      unfold adT
      refine ⟨by omega, by omega, by omega⟩
    · rw [coL_no g] at h; exact absurd h g
/-- Products of all channels of the first ops. -/
def suN (K : Nat → Int) : List (List Pl) → Nat → Int
  | [], _ => 0
  | l :: r, i => (l.length : Int) * K i + suN K r (i + 1)
theorem coP_sum {N Q : Nat → Int} : ∀ (r : List (List Pl)) (i : Nat) (t : T4), (∀ j, j < r.length → 0 ≤ N (i + j) ∧ 0 ≤ Q (i + j)) → (coP N Q r i t).2.1 = 0 →
    (coP N Q r i t).1.1 - t.1 = (coP N Q r i t).1.2.1 - t.2.1 ∧ (coP N Q r i t).1.2.2.1 - t.2.2.1 ≤ (coP N Q r i t).1.2.2.2 - t.2.2.2 ∧ (coP N Q r i t).1.1 + (coP N Q r i t).1.2.2.1 = t.1 + t.2.2.1 + suN (fun j => N j * Q j) r i
  | [], i, t, _, _ => by unfold coP suN; simp
  | l :: r, i, t, hNQ, h => by
    by_cases g : (coL ((i : Int) + 1) (N i) (Q i) l 0 t).2.1 = 0
    · rw [coP_yes g] at h ⊢
      obtain ⟨b1, b2, b3⟩ := coL_sum (hNQ 0 (by simp)).1 (hNQ 0 (by simp)).2 l 0 t g
      rw [Nat.add_zero] at b1 b2 b3
      obtain ⟨a1, a2, a3⟩ := coP_sum r (i + 1) _ (fun j hj => by have := hNQ (j + 1) (by simp; omega); rwa [show i + (j + 1) = i + 1 + j by omega] at this) h
      unfold suN
      refine ⟨by omega, by omega, by omega⟩
    · rw [coP_no g] at h; exact absurd h g
/-! ### Fewer sums ahead -/
def Le4 (t u : T4) : Prop := t.1 = u.1 ∧ t.2.1 = u.2.1 ∧ t.2.2.1 = u.2.2.1 ∧ t.2.2.2 ≤ u.2.2.2
theorem coL_le {op n q : Int} : ∀ (l : List Pl) (k : Nat) (t u : T4), Le4 t u → (coL op n q l k u).2.1 = 0 → (coL op n q l k t).2 = (0, 0, 0) ∧ Le4 (coL op n q l k t).1 (coL op n q l k u).1
  | [], k, t, u, h, _ => ⟨rfl, h⟩
  | p :: r, k, t, u, h, h0 => by
    by_cases g : deE p n = 0
    · rw [coL_yes g] at h0 ⊢
      rw [coL_yes g]
      refine coL_le r (k + 1) _ _ ?_ h0
      obtain ⟨a1, a2, a3, a4⟩ := h
      unfold Le4 adT
      simp only
      omega
    · rw [coL_no g] at h0; exact absurd h0 g
theorem coP_le {N Q : Nat → Int} : ∀ (r : List (List Pl)) (i : Nat) (t u : T4), Le4 t u → (coP N Q r i u).2.1 = 0 → (coP N Q r i t).2 = (0, 0, 0) ∧ Le4 (coP N Q r i t).1 (coP N Q r i u).1
  | [], i, t, u, h, _ => ⟨rfl, h⟩
  | l :: r, i, t, u, h, h0 => by
    by_cases g : (coL ((i : Int) + 1) (N i) (Q i) l 0 u).2.1 = 0
    · rw [coP_yes g] at h0 ⊢
      obtain ⟨b1, b2⟩ := coL_le l 0 t u h g
      rw [coP_yes (by rw [b1])]
      exact coP_le r (i + 1) _ _ b2 h0
    · rw [coP_no g] at h0; exact absurd h0 g
/-! ### One plan made deeper -/
theorem coL_set {op n q : Int} (hn : 1 ≤ n) (hq : 0 ≤ q) (p' : Pl) : ∀ (l : List Pl) (c k : Nat) (t : T4) (p : Pl), l[c]? = some p → p.1 = 16 → p'.1 = 16 → p.2.1 ≤ p'.2.1 → (coL op n q l k t).2.1 = 0 →
    (coL op n q (l.set c p') k t).2 = (151, op, ((k + c : Nat) : Int) + 1) ∨ ((coL op n q (l.set c p') k t).2 = (0, 0, 0) ∧ Le4 (coL op n q (l.set c p') k t).1 (coL op n q l k t).1)
  | [], c, k, t, p, hp, _, _, _, _ => by simp at hp
  | x :: r, 0, k, t, p, hp, h16, h16', hd, h0 => by
    simp only [List.getElem?_cons_zero, Option.some.injEq] at hp
    subst hp
    rw [List.set_cons_zero]
    by_cases g : deE x n = 0
    · obtain ⟨d1, d2⟩ := deE_16 h16 g
      rw [coL_yes g] at h0 ⊢
      by_cases g' : p'.2.1 ≤ n
      · have e' : deE p' n = 0 := deE_16y h16' ⟨by omega, g'⟩
        rw [coL_yes e']
        right
        refine coL_le r (k + 1) _ _ ?_ h0
        rw [coS_16 h16, coS_16 h16']
        have hm := Int.mul_le_mul_of_nonneg_right (bkV_mono d1 hd hn) hq
        exact ⟨rfl, rfl, rfl, Int.add_le_add_left hm _⟩
      · have e' : deE p' n = 151 := deE_16n h16' (by omega)
        rw [coL_no (by rw [e']; decide), e']
        left
        simp
    · rw [coL_no g] at h0; exact absurd h0 g
  | x :: r, c + 1, k, t, p, hp, h16, h16', hd, h0 => by
    rw [List.set_cons_succ]
    by_cases g : deE x n = 0
    · rw [coL_yes g] at h0 ⊢
      rw [coL_yes g]
      have := coL_set hn hq p' r c (k + 1) _ p (by simpa using hp) h16 h16' hd h0
      rwa [show k + 1 + c = k + (c + 1) by omega] at this
    · rw [coL_no g] at h0; exact absurd h0 g
theorem coP_set {N Q : Nat → Int} (p' : Pl) : ∀ (r : List (List Pl)) (o i : Nat) (t : T4) (l : List Pl) (c : Nat) (p : Pl), r[o]? = some l → l[c]? = some p → 1 ≤ N (i + o) → 0 ≤ Q (i + o) → p.1 = 16 → p'.1 = 16 → p.2.1 ≤ p'.2.1 → (coP N Q r i t).2.1 = 0 →
    (coP N Q (r.set o (l.set c p')) i t).2 = (151, ((i + o : Nat) : Int) + 1, (c : Int) + 1) ∨ ((coP N Q (r.set o (l.set c p')) i t).2 = (0, 0, 0) ∧ Le4 (coP N Q (r.set o (l.set c p')) i t).1 (coP N Q r i t).1)
  | [], o, i, t, l, c, p, hl, _, _, _, _, _, _, _ => by simp at hl
  | x :: r, 0, i, t, l, c, p, hl, hp, hn, hq, h16, h16', hd, h0 => by
    simp only [List.getElem?_cons_zero, Option.some.injEq] at hl
    subst hl
    rw [List.set_cons_zero]
    rw [Nat.add_zero] at hn hq ⊢
    by_cases g : (coL ((i : Int) + 1) (N i) (Q i) x 0 t).2.1 = 0
    · rw [coP_yes g] at h0 ⊢
      rcases coL_set hn hq p' x c 0 t p hp h16 h16' hd g with e | ⟨e, f⟩
      · rw [coP_no (by rw [e]; simp), e]
        left
        simp
      · rw [coP_yes (by rw [e])]
        right
        exact coP_le r (i + 1) _ _ f h0
    · rw [coP_no g] at h0; exact absurd h0 g
  | x :: r, o + 1, i, t, l, c, p, hl, hp, hn, hq, h16, h16', hd, h0 => by
    rw [List.set_cons_succ]
    by_cases g : (coL ((i : Int) + 1) (N i) (Q i) x 0 t).2.1 = 0
    · rw [coP_yes g] at h0 ⊢
      rw [coP_yes g]
      have e : i + (o + 1) = i + 1 + o := by omega
      rw [e] at hn hq ⊢
      exact coP_set p' r o (i + 1) _ l c p (by simpa using hl) hp hn hq h16 h16' hd h0
    · rw [coP_no g] at h0; exact absurd h0 g
/-! ### The form stays -/
theorem plE_set {op : Int} {p p' : Pl} (hv : pvB p' = pvB p) : ∀ (l : List Pl) (c k : Nat), l[c]? = some p → plE op (l.set c p') k = plE op l k
  | [], c, k, h => by simp at h
  | x :: r, 0, k, h => by
    simp only [List.getElem?_cons_zero, Option.some.injEq] at h
    subst h
    rw [List.set_cons_zero]
    unfold plE
    rw [hv]
  | x :: r, c + 1, k, h => by
    rw [List.set_cons_succ]
    unfold plE
    rw [plE_set hv r c (k + 1) (by simpa using h)]
theorem psE_set {N : Nat → Int} {p p' : Pl} (hv : pvB p' = pvB p) {l : List Pl} {c : Nat} (hp : l[c]? = some p) : ∀ (r : List (List Pl)) (o i : Nat), r[o]? = some l → psE N (r.set o (l.set c p')) i = psE N r i
  | [], o, i, h => by simp at h
  | x :: r, 0, i, h => by
    simp only [List.getElem?_cons_zero, Option.some.injEq] at h
    subst h
    rw [List.set_cons_zero]
    have e : liE (N i) ((i : Int) + 1) (x.set c p') = liE (N i) ((i : Int) + 1) x := by unfold liE; rw [List.length_set, plE_set hv x c 0 hp]
    unfold psE
    rw [e]
  | x :: r, o + 1, i, h => by
    rw [List.set_cons_succ]
    unfold psE
    rw [psE_set hv hp r o (i + 1) (by simpa using h)]
/-! ### The work of all ops -/
theorem suN_app (K : Nat → Int) : ∀ (a b : List (List Pl)) (i : Nat), suN K (a ++ b) i = suN K a i + suN K b (i + a.length)
  | [], b, i => by simp [suN]
  | l :: a, b, i => by
    rw [List.cons_append]
    show (l.length : Int) * K i + suN K (a ++ b) (i + 1) = (l.length : Int) * K i + suN K a (i + 1) + suN K b (i + (l :: a).length)
    rw [suN_app K a b (i + 1), List.length_cons, show i + 1 + a.length = i + (a.length + 1) by omega]
    omega
/-- What an op that reduces costs is its work. -/
theorem ow_co {O : Nat → Nat → Int} {h w c lo hi ot wk : Int} {on : Nat} {L : List (Int × Int × Int)} (q : gtR O h w c lo hi ot on = (0, 0, L, wk)) {i : Nat} (hi0 : i < on) : nuP O L i * (leN O L i * poN L i) ≤ oW (O i) (L.take (i + 1)) := by
  obtain ⟨hx, -, q2⟩ := gtR_st q
  have hv : vS3 (h, w, c) = true := (ouE_0 hx).1
  obtain ⟨wi, g1, -⟩ := stG_pre hv on L wk q2 (i + 1) (by omega)
  obtain ⟨L0, wk0, h0, hx0, hL, -⟩ := stG_step g1
  obtain ⟨w2, g2, -⟩ := stG_pre hv on L wk q2 i (by omega)
  rw [g2] at h0
  simp only [Prod.mk.injEq, true_and] at h0
  obtain ⟨rfl, rfl⟩ := h0
  obtain ⟨i1, i2, -⟩ := stG_inv hv i _ _ g2
  obtain ⟨-, t2, -, ⟨a0, a1⟩, -, -⟩ := tk_0 hx0 i2
  cases hk : rdB (O i 0) with
  | false =>
    unfold nuP
    rw [hk, if_neg (by decide), Int.zero_mul]
    exact t2
  | true =>
    obtain ⟨ja, hja⟩ := Int.eq_ofNat_of_zero_le a0
    rw [hja] at a1
    have e1 : ShA (L.take (i + 1)) (O i 1) = L.getD (O i 1).toNat (0, 0, 0) := by
      rw [hja, ShA_take (by omega)]
      unfold ShA
      rfl
    have e2 : L.getD (i + 1) (0, 0, 0) = mk3 (O i 0) (O i 3) (O i 4) (O i 5) (O i 6) (O i 7) (O i 8) (O i 9) (O i 10) (O i 11) (L.getD (O i 1).toNat (0, 0, 0)) := by
      have e3 : L.getD (i + 1) (0, 0, 0) = (L.take (i + 1 + 1)).getD (i + 1) (0, 0, 0) := by simp [List.getD]
      rw [e3, hL]
      simp only [List.getD]
      rw [List.getElem?_append_right (by omega), i1, Nat.sub_self]
      simp only [List.getElem?_cons_zero, Option.getD_some]
      unfold oM
      rw [e1]
      rfl
    unfold nuP leN poN oW opW
    rw [hk, if_pos rfl, if_pos rfl, e1, ← e2]
    unfold st3
    generalize L.getD (i + 1) (0, 0, 0) = u
    generalize L.getD (O i 1).toNat (0, 0, 0) = v
    obtain ⟨H, V, C⟩ := u
    obtain ⟨x, y, z⟩ := v
    simp only
    have : C * (stR (O i 0) (O i 4) (O i 5) x y z * (H * V)) = H * V * C * stR (O i 0) (O i 4) (O i 5) x y z := by
      rw [Int.mul_comm C, Int.mul_assoc, Int.mul_comm (stR _ _ _ _ _ _)]
    omega
theorem work_co {O : Nat → Nat → Int} {h w c lo hi ot wk : Int} {on : Nat} {L : List (Int × Int × Int)} (q : gtR O h w c lo hi ot on = (0, 0, L, wk)) (P : List (List Pl)) (hP : P.length = on) (hn : ∀ j l, P[j]? = some l → (l.length : Int) = nuP O L j) : suN (fun j => leN O L j * poN L j) P 0 ≤ wk := by
  obtain ⟨hx, -, q2⟩ := gtR_st q
  have hv : vS3 (h, w, c) = true := (ouE_0 hx).1
  have key : ∀ i, i ≤ on → ∃ wi, stG O (h, w, c) i = (0, 0, L.take (i + 1), wi) ∧ suN (fun j => leN O L j * poN L j) (P.take i) 0 ≤ wi := by
    intro i
    induction i with
    | zero =>
      intro _
      obtain ⟨wi, g1, g2, -⟩ := stG_pre hv on L wk q2 0 (by omega)
      exact ⟨wi, g1, by simpa [suN] using g2⟩
    | succ i ih =>
      intro hi0
      obtain ⟨wi, g1, g2⟩ := ih (by omega)
      obtain ⟨wj, g3, -⟩ := stG_pre hv on L wk q2 (i + 1) (by omega)
      obtain ⟨L0, wk0, h0, -, -, hw⟩ := stG_step g3
      rw [g1] at h0
      simp only [Prod.mk.injEq, true_and] at h0
      obtain ⟨rfl, rfl⟩ := h0
      refine ⟨wj, g3, ?_⟩
      have hpi : P[i]? = some P[i] := List.getElem?_eq_getElem (by omega)
      have e := ow_co q (show i < on by omega)
      rw [← hn i _ hpi] at e
      rw [List.take_add_one, hpi, Option.toList_some, suN_app, List.length_take, Nat.min_eq_left (by omega), Nat.zero_add]
      simp only [suN]
      omega
  obtain ⟨wi, g1, g2⟩ := key on (Nat.le_refl _)
  rw [q2] at g1
  simp only [Prod.mk.injEq, true_and] at g1
  rw [← hP, List.take_length] at g2
  omega
end Go.Proofs.Ytcjnhchjikcigaa

/- One number of copied plans is written: what they read as behind it. -/
namespace Go.Proofs.Ytcjnhchjikcigaa
open Go.ChangeShapes Go.WideShapes Go.ChangeAt Go.RowKit
set_option linter.unusedVariables false
theorem flat_set {α : Type} {nc : Nat} {E : α → List Value} (hE : ∀ p, (E p).length = nc) {p p' : α} {q : Nat} {v : Value} (hq : q < nc) (he : E p' = (E p).set q v) : ∀ (ys : List α) (i : Nat), ys[i]? = some p → (ys.set i p').flatMap E = (ys.flatMap E).set (i * nc + q) v
  | [], i, h => by simp at h
  | x :: r, 0, h => by
    simp only [List.getElem?_cons_zero, Option.some.injEq] at h
    subst h
    rw [List.set_cons_zero, List.flatMap_cons, List.flatMap_cons, he, Nat.zero_mul, Nat.zero_add, List.set_append_left _ _ (by rw [hE]; exact hq)]
  | x :: r, i + 1, h => by
    rw [List.set_cons_succ, List.flatMap_cons, List.flatMap_cons, List.set_append_right _ _ (by rw [hE, Nat.add_mul]; omega), hE, flat_set hE hq he r i (by simpa using h), show (i + 1) * nc + q - nc = i * nc + q by rw [Nat.add_mul]; omega]
theorem QOwn.put {w : World} {base n cap o c : Nat} {a : Option Addr} {P : List (List Pl)} {l : List Pl} {p : Pl} (h : QOwn w base (.slice a n cap) P) (hl : P[o]? = some l) (hp : l[c]? = some p) (d : Int) :
    ∃ (x : Addr) (cc b : Nat) (cur : Array Value), a = some x ∧ w.cell? (x.add o) = some (.slice (some ⟨b, 0, none⟩) l.length cc) ∧ l.length ≤ cc ∧ cc ≤ maxLen ∧ (∀ j, w.frozen? ⟨b, j, none⟩ = false) ∧ (∀ j u, (pcs p)[j]? = some u → w.cell? ⟨b, c * 6 + j, none⟩ = some u) ∧ base ≤ b ∧ w.heap[b]? = some (.cells cur 61 (0, 0)) ∧
      QRow (w.setCell ⟨b, c * 6 + 1, none⟩ (.int .i64 d)) a n cap (P.set o (l.set c (p.1, d, p.2.2))) := by
  obtain ⟨f, h1, h2, h3⟩ := h
  have ho : o < P.length := (List.getElem?_eq_some_iff.1 hl).1
  have hc : c < l.length := (List.getElem?_eq_some_iff.1 hp).1
  obtain ⟨g1, g2⟩ := h2 o l hl
  rcases g1.2 with ⟨-, e0⟩ | ⟨b, cc, cur, e, hb, hg, hn, hm, hs, ht⟩
  · omega
  have g1' := g1
  rw [e] at g1'
  obtain ⟨k1, k2⟩ := g1'.stored (c * 6 + 1) (.int .i64 d)
  have hx : ∃ x, a = some x := by
    rcases h1.2 with ⟨e', e0⟩ | ⟨g, cap', cur', e', -⟩
    · omega
    · cases e'; exact ⟨_, rfl⟩
  obtain ⟨x, rfl⟩ := hx
  have hxg : ∃ g, x = ⟨g, 0, none⟩ := by
    rcases h1.2 with ⟨e', e0⟩ | ⟨g, cap', cur', e', -⟩
    · omega
    · cases e'; exact ⟨_, rfl⟩
  obtain ⟨g, rfl⟩ := hxg
  have hcell : w.cell? ((⟨g, 0, none⟩ : Addr).add o) = some (.slice (some ⟨b, 0, none⟩) l.length cc) := by
    refine h1.cells rfl _ _ ?_
    rw [List.getElem?_map, List.getElem?_range ho, Option.map_some, e]
  refine ⟨_, cc, b, cur, rfl, hcell, hn, hm, (cells_at hg).2.1, fun j u hu => ?_, hb, hg, ?_⟩
  · have := g1'.cells rfl _ _ (flat_of pcs_len l c p j u hp hu)
    rwa [Addr.add_lit, Nat.zero_add] at this
  · have hfs : (l.set c (p.1, d, p.2.2)).flatMap pcs = (l.flatMap pcs).set (c * 6 + 1) (.int .i64 d) := flat_set (nc := 6) pcs_len (by omega) rfl l c hp
    have key : QOwn (w.setCell ⟨b, c * 6 + 1, none⟩ (.int .i64 d)) base (.slice (some ⟨g, 0, none⟩) n cap) (P.set o (l.set c (p.1, d, p.2.2))) := by
      refine ⟨f, ?_, fun i l' hl' => ?_, fun i j hij hj => h3 i j hij (by rwa [List.length_set] at hj)⟩
      · rw [List.length_set]
        exact owns_grown h1 k2 (fun b' hb' => by cases hb'; exact ⟨cur, hg⟩) (by decide)
      · by_cases ei : i = o
        · subst ei
          rw [List.getElem?_set_self ho] at hl'
          cases hl'
          rw [List.length_set, hfs, e]
          exact ⟨k1, g2⟩
        · rw [List.getElem?_set_ne (fun q => ei q.symm)] at hl'
          obtain ⟨m1, m2⟩ := h2 i l' hl'
          refine ⟨m1.kept k2 ?_, m2⟩
          have hi : i < P.length := (List.getElem?_eq_some_iff.1 hl').1
          cases hv : (f i).ownBlock with
          | none => exact .inl rfl
          | some b' =>
            refine .inr fun q => ?_
            cases q
            have eo : (f o).ownBlock = some b := by rw [e]; rfl
            rcases Nat.lt_or_ge i o with q | q
            · have := h3 i o q ho b b hv eo; omega
            · have := h3 o i (by omega) hi b b eo hv; omega
    exact key.q
end Go.Proofs.Ytcjnhchjikcigaa

/- The walk of CertCheap. -/
namespace Go.Proofs.Ytcjnhchjikcigaa
open Go.ChangeShapes Go.WideShapes Go.ChangeAt Go.RowKit
set_option linter.unusedVariables false
theorem csE_e {f : Int × Int × Int} {N Q : Nat → Int} {P : List (List Pl)} (h : (csE f N Q P).2.1 ≠ 0) : (csE f N Q P).1 = (0, 0, 0, 0) := by
  unfold csE at h ⊢
  by_cases g : f.1 = 0
  · rw [if_neg (by simpa using g)] at h ⊢; exact coP_e _ _ _ h
  · rw [if_pos g]
theorem coL_nn {op n q : Int} (hn : 0 ≤ n) (hq : 0 ≤ q) : ∀ (l : List Pl) (k : Nat) (t : T4), 0 ≤ t.1 ∧ 0 ≤ t.2.2.1 → (coL op n q l k t).2.1 = 0 → 0 ≤ (coL op n q l k t).1.1 ∧ 0 ≤ (coL op n q l k t).1.2.2.1
  | [], k, t, h, _ => h
  | p :: r, k, t, h, h0 => by
    by_cases g : deE p n = 0
    · rw [coL_yes g] at h0 ⊢
      obtain ⟨c1, -, c3, -⟩ := coS_bd hn g
      have d1 := Int.mul_nonneg c1.1 hq
      have d3 := Int.mul_nonneg c3.1 hq
      refine coL_nn hn hq r (k + 1) _ ?_ h0
      unfold adT
      simp only
      omega
    · rw [coL_no g] at h0; exact absurd h0 g
theorem coP_nn {N Q : Nat → Int} : ∀ (r : List (List Pl)) (i : Nat) (t : T4), (∀ j, j < r.length → 0 ≤ N (i + j) ∧ 0 ≤ Q (i + j)) → 0 ≤ t.1 ∧ 0 ≤ t.2.2.1 → (coP N Q r i t).2.1 = 0 → 0 ≤ (coP N Q r i t).1.1 ∧ 0 ≤ (coP N Q r i t).1.2.2.1
  | [], i, t, _, h, _ => h
  | l :: r, i, t, hNQ, h, h0 => by
    by_cases g : (coL ((i : Int) + 1) (N i) (Q i) l 0 t).2.1 = 0
    · rw [coP_yes g] at h0 ⊢
      have b := coL_nn (hNQ 0 (by simp)).1 (hNQ 0 (by simp)).2 l 0 t h g
      rw [Nat.add_zero] at b
      exact coP_nn r (i + 1) _ (fun j hj => by have := hNQ (j + 1) (by simp; omega); rwa [show i + (j + 1) = i + 1 + j by omega] at this) b h0
    · rw [coP_no g] at h0; exact absurd h0 g
/-- What is known where Cost tells no fault. -/
theorem cs_ok {O : Nat → Nat → Int} {h w c lo hi ot Re Ra Rw : Int} {on : Nat} {RL : List (Int × Int × Int)} {R : List (Int × Int)} {P : List (List Pl)} (hG : gtR O h w c lo hi ot on = (Re, Ra, RL, Rw)) {x1 x2 x3 y1 y2 y3 y4 e2 e3 : Int} (hX : foE Re Ra on (nuP O RL) R P = (x1, x2, x3)) (hY : csE (x1, x2, x3) (leN O RL) (poN RL) P = ((y1, y2, y3, y4), 0, e2, e3)) :
    Re = 0 ∧ Ra = 0 ∧ foE 0 0 on (nuP O RL) R P = (0, 0, 0) ∧ coP (leN O RL) (poN RL) P 0 (0, 0, 0, 0) = ((y1, y2, y3, y4), 0, 0, 0) ∧ y1 = y2 ∧ y3 ≤ y4 ∧ y1 + y3 ≤ Rw ∧ Rw ≤ 131072 ∧ 0 ≤ y1 ∧ 0 ≤ y3 ∧ P.length = on ∧ on ≤ 64 ∧ ∀ j l, P[j]? = some l → (l.length : Int) = nuP O RL j := by
  by_cases h0 : x1 = 0
  · subst h0
    have ht : Re = 0 → Ra = 0 := fun e => by subst e; exact (gtR_st hG).2.1
    obtain ⟨q1, rfl, q3, q4, -, q6⟩ := foE_0 (show (foE Re Ra on (nuP O RL) R P).1 = 0 by rw [hX]) ht
    obtain rfl : Ra = 0 := ht rfl
    unfold csE at hY
    rw [if_neg (by simp)] at hY
    have hlen : ∀ j l, P[j]? = some l → (l.length : Int) = nuP O RL j := fun j l hj => by
      have := psE_len P 0 q6 j l hj
      rwa [Nat.zero_add] at this
    obtain ⟨-, hRl, ho64, w0, w1, -⟩ := gtR_ok hG
    have hNQ : ∀ j, j < P.length → 0 ≤ leN O RL (0 + j) ∧ 0 ≤ poN RL (0 + j) := fun j hj => by
      obtain ⟨⟨k1, -⟩, ⟨k3, -⟩, -⟩ := co_facts hG (show 0 + j < on by omega)
      omega
    obtain ⟨a1, a2, a3⟩ := coP_sum P 0 (0, 0, 0, 0) hNQ (by rw [hY])
    have hz := coP_0 P 0 (0, 0, 0, 0) (show (coP (leN O RL) (poN RL) P 0 (0, 0, 0, 0)).2.1 = 0 by rw [hY])
    rw [hY] at a1 a2 a3 hz
    simp only [Prod.mk.injEq, true_and] at a1 a2 a3 hz
    obtain ⟨rfl, rfl⟩ := hz
    have a4 := work_co hG P q4 hlen
    have hb := coP_nn P 0 (0, 0, 0, 0) hNQ ⟨Int.le_refl _, Int.le_refl _⟩ (by rw [hY])
    rw [hY] at hb
    exact ⟨rfl, rfl, q1, hY, by omega, by omega, by omega, w1, hb.1, hb.2, q4, ho64, hlen⟩
  · unfold csE at hY
    rw [if_pos (by simpa using h0)] at hY
    simp only [Prod.mk.injEq] at hY
    exact absurd hY.2.1 h0
/-- One plan made deeper. -/
theorem cs_deep {O : Nat → Nat → Int} {h w c lo hi ot Rw : Int} {on : Nat} {RL : List (Int × Int × Int)} {R : List (Int × Int)} {P : List (List Pl)} (hG : gtR O h w c lo hi ot on = (0, 0, RL, Rw)) (hX : foE 0 0 on (nuP O RL) R P = (0, 0, 0)) {y1 y2 y3 y4 : Int} (hY : coP (leN O RL) (poN RL) P 0 (0, 0, 0, 0) = ((y1, y2, y3, y4), 0, 0, 0)) {o k : Nat} {l : List Pl} {p : Pl} (hl : P[o]? = some l) (hp : l[k]? = some p) (h16 : p.1 = 16) (d : Int) (hd : p.2.1 ≤ d) :
    foE 0 0 on (nuP O RL) R (P.set o (l.set k (p.1, d, p.2.2))) = (0, 0, 0) ∧ ∃ u1 u2 u3 u4 e1 e2 e3, csE (0, 0, 0) (leN O RL) (poN RL) (P.set o (l.set k (p.1, d, p.2.2))) = ((u1, u2, u3, u4), e1, e2, e3) ∧ ((e1 = 151 ∧ e2 = (o : Int) + 1 ∧ e3 = (k : Int) + 1) ∨ (e1 = 0 ∧ u2 = y2 ∧ u3 = y3 ∧ u4 ≤ y4)) := by
  obtain ⟨-, -, q3, q4, q5, q6⟩ := foE_0 (show (foE 0 0 on (nuP O RL) R P).1 = 0 by rw [hX]) (fun _ => rfl)
  have ho : o < on := by have := (List.getElem?_eq_some_iff.1 hl).1; omega
  have hk : k < l.length := (List.getElem?_eq_some_iff.1 hp).1
  refine ⟨?_, ?_⟩
  · rw [foE_p ⟨q3, by rw [List.length_set]; exact q4⟩ q5, psE_set (by rfl) hp P o 0 hl]
    exact psE_0 P 0 q6
  · obtain ⟨-, ⟨k3, -⟩, -, -, k7, -⟩ := co_facts hG ho
    have hlen := psE_len P 0 q6 o l hl
    rw [Nat.zero_add] at hlen
    have hrd : rdB (O o 0) = true := by
      cases q : rdB (O o 0) with
      | true => rfl
      | false => unfold nuP at hlen; rw [q, if_neg (by decide)] at hlen; omega
    have key := coP_set (N := leN O RL) (Q := poN RL) (p.1, d, p.2.2) P o 0 (0, 0, 0, 0) l k p hl hp (by rw [Nat.zero_add]; exact k7 hrd) (by rw [Nat.zero_add]; omega) h16 h16 hd (by rw [hY])
    unfold csE
    rw [if_neg (by simp)]
    obtain ⟨u1, u2, u3, u4, e1, e2, e3, hU⟩ : ∃ u1 u2 u3 u4 e1 e2 e3, coP (leN O RL) (poN RL) (P.set o (l.set k (p.1, d, p.2.2))) 0 (0, 0, 0, 0) = ((u1, u2, u3, u4), e1, e2, e3) := ⟨_, _, _, _, _, _, _, rfl⟩
    rw [hU, hY] at key
    refine ⟨u1, u2, u3, u4, e1, e2, e3, hU, ?_⟩
    rcases key with q | ⟨q, f⟩
    · simp only [Prod.mk.injEq, Nat.zero_add] at q
      exact .inl q
    · simp only [Prod.mk.injEq] at q
      exact .inr ⟨q.1, f.2.1, f.2.2.1, f.2.2.2⟩
end Go.Proofs.Ytcjnhchjikcigaa
