/- What like bytes say of like models; errors are never 0. -/
import Derived.Test.YthagdpiocmcbmaaPckD
namespace Go.Proofs.Ythagdpiocmcbmaa
open Wr
open Go.ChangeShapes Go.WideShapes Go.ChangeAt Go.RowKit
set_option linter.unusedVariables false
/-! ### No error is 0 -/
def NoZ {α : Type} (p : List Int → Sum (Int × Int) (α × List Int)) : Prop := ∀ zs e, p zs = .inl e → e.1 ≠ 0
theorem NoZ.bind {α β : Type} {p : List Int → Sum (Int × Int) (α × List Int)} {q : α → List Int → Sum (Int × Int) (β × List Int)} (h : NoZ p) (k : ∀ a, NoZ (q a)) : NoZ fun zs => pbind (p zs) q := by
  intro zs e he
  match hp : p zs, he with
  | .inl x, he =>
    have : pbind (p zs) q = .inl e := he
    rw [hp] at this
    cases this
    exact h zs _ hp
  | .inr (a, r), he =>
    have : pbind (p zs) q = .inl e := he
    rw [hp, pbind_r] at this
    exact k a r e this
theorem noz_end {α β : Type} (f : α → β) (a : α) : NoZ fun r => (.inr (f a, r) : Sum (Int × Int) (β × List Int)) := fun zs e h => by cases h
theorem noz_U (t : Int) : NoZ (pU t) := by
  intro zs e h
  unfold pU at h
  by_cases c : (getR zs).2.2 ≠ 0
  · rw [if_pos c] at h; cases h; exact c
  · rw [if_neg c] at h
    by_cases d : 2147483647 < (getR zs).1
    · rw [if_pos d] at h; cases h; show (41 : Int) ≠ 0; decide
    · rw [if_neg d] at h; cases h
theorem noz_N (t most : Int) : NoZ (pN t most) := by
  intro zs e h
  unfold pN at h
  by_cases c : (cut most (getR zs)).2.2 ≠ 0
  · rw [if_pos c] at h; cases h; exact c
  · rw [if_neg c] at h; cases h
theorem noz_S (t lo hi : Int) : NoZ (pS t lo hi) := by
  intro zs e h
  unfold pS at h
  by_cases c : (getR zs).2.2 ≠ 0
  · rw [if_pos c] at h; cases h; exact c
  · rw [if_neg c] at h
    by_cases d : unfR (getR zs).1 < lo ∨ hi < unfR (getR zs).1
    · rw [if_pos d] at h; cases h; show (41 : Int) ≠ 0; decide
    · rw [if_neg d] at h; cases h
theorem noz_L {p : List Int → Sum (Int × Int) (Int × List Int)} (h : NoZ p) : ∀ n, NoZ (pL p n)
  | 0 => fun zs e h => by cases h
  | n + 1 => h.bind fun a => (noz_L h n).bind fun l zs e h => by cases h
theorem noz_Op (t : Int) : NoZ (pOp t) := (noz_L (noz_U t) 12).bind fun us => (noz_N t 131072).bind fun n => (noz_L (noz_S t _ _) _).bind fun z => (noz_N t 1024).bind fun m => (noz_L (noz_S t _ _) _).bind fun b => (noz_L (noz_U t) 4).bind fun vs => (noz_L (noz_S t _ _) 4).bind fun ss zs e h => by cases h
theorem noz_Ops : ∀ (n i : Nat), NoZ (pOps n i)
  | 0, i => fun zs e h => by cases h
  | n + 1, i => (noz_Op _).bind fun a => (noz_Ops n (i + 1)).bind fun l zs e h => by cases h
theorem noz_Mod : NoZ pMod := (noz_L (noz_U 0) 3).bind fun s => (noz_L (noz_S 0 _ _) 2).bind fun lh => (noz_N 0 64).bind fun n => (noz_Ops _ 0).bind fun ops => (noz_U 0).bind fun ot zs e h => by cases h
theorem pall_ne {zs : List Int} {x t : Int} (h : pAll zs = .inl (x, t)) : x ≠ 0 := by
  unfold pAll at h
  by_cases c : zs.length < 4
  · rw [if_pos c] at h; cases h; decide
  rw [if_neg c] at h
  by_cases d : zs.take 4 ≠ head4
  · rw [if_pos d] at h; cases h; decide
  rw [if_neg d] at h
  match hp : pMod (zs.drop 4), h with
  | .inl e, h => simp only at h; cases h; exact noz_Mod _ _ hp
  | .inr (m', r), h =>
    simp only at h
    by_cases hr : r = []
    · rw [if_pos hr] at h; cases h
    · rw [if_neg hr] at h; cases h; decide
/-! ### Models that are like -/
def Agree (n : Nat) (O : Nat → Nat → Int) (Z B : Nat → List Int) (O' : Nat → Nat → Int) (Z' B' : Nat → List Int) : Prop := ∀ i, i < n → (∀ j, j < 22 → O i j = O' i j) ∧ Z i = Z' i ∧ B i = B' i
theorem dOps_at {O : Nat → Nat → Int} {Z B : Nat → List Int} {n i : Nat} (h : i < n) : (dOps O Z B n)[i]? = some (dOp (O i) (Z i) (B i)) := by
  unfold dOps; simp [h]
theorem same_mod {h w c lo hi ot h' w' c' lo' hi' ot' : Int} {n n' : Nat} {O O' : Nat → Nat → Int} {Z B Z' B' : Nat → List Int} (l : Lens n O Z B) (l' : Lens n' O' Z' B') (e : dMod h w c lo hi ot n O Z B = dMod h' w' c' lo' hi' ot' n' O' Z' B') :
    h = h' ∧ w = w' ∧ c = c' ∧ lo = lo' ∧ hi = hi' ∧ ot = ot' ∧ n = n' ∧ Agree n O Z B O' Z' B' := by
  unfold dMod at e
  simp only [ModD.mk.injEq, List.cons.injEq, and_true] at e
  obtain ⟨⟨e1, e2, e3⟩, ⟨e4, e5⟩, e6, e7⟩ := e
  have en : n = n' := by
    have := congrArg List.length e6
    rwa [dOps_len, dOps_len] at this
  subst en
  refine ⟨e1, e2, e3, e4, e5, e7, rfl, fun i hi => ?_⟩
  have q := dOps_at (O := O) (Z := Z) (B := B) hi
  rw [e6, dOps_at hi] at q
  simp only [Option.some.injEq, dOp, OpD.mk.injEq, List.cons.injEq, and_true] at q
  obtain ⟨⟨a0, a1, a2, a3, a4, a5, a6, a7, a8, a9, a10, a11⟩, ez, eb, ⟨a14, a15, a16, a17⟩, a18, a19, a20, a21⟩ := q
  obtain ⟨l1, l2, -, -⟩ := l i hi
  obtain ⟨l3, l4, -, -⟩ := l' i hi
  refine ⟨fun j hj => ?_, ez.symm, eb.symm⟩
  have : j = 0 ∨ j = 1 ∨ j = 2 ∨ j = 3 ∨ j = 4 ∨ j = 5 ∨ j = 6 ∨ j = 7 ∨ j = 8 ∨ j = 9 ∨ j = 10 ∨ j = 11 ∨ j = 12 ∨ j = 13 ∨ j = 14 ∨ j = 15 ∨ j = 16 ∨ j = 17 ∨ j = 18 ∨ j = 19 ∨ j = 20 ∨ j = 21 := by omega
  rcases this with rfl | rfl | rfl | rfl | rfl | rfl | rfl | rfl | rfl | rfl | rfl | rfl | rfl | rfl | rfl | rfl | rfl | rfl | rfl | rfl | rfl | rfl
  · exact a0.symm
  · exact a1.symm
  · exact a2.symm
  · exact a3.symm
  · exact a4.symm
  · exact a5.symm
  · exact a6.symm
  · exact a7.symm
  · exact a8.symm
  · exact a9.symm
  · exact a10.symm
  · exact a11.symm
  · rw [l1, l3, ez]
  · rw [l2, l4, eb]
  · exact a14.symm
  · exact a15.symm
  · exact a16.symm
  · exact a17.symm
  · exact a18.symm
  · exact a19.symm
  · exact a20.symm
  · exact a21.symm
theorem Agree.symm {n : Nat} {O O' : Nat → Nat → Int} {Z B Z' B' : Nat → List Int} (h : Agree n O Z B O' Z' B') : Agree n O' Z' B' O Z B := fun i hi => ⟨fun j hj => ((h i hi).1 j hj).symm, (h i hi).2.1.symm, (h i hi).2.2.symm⟩
theorem opl_agree {o o' : Nat → Int} (h : ∀ j, j < 22 → o j = o' j) (wa : Option Addr) (lw cw : Nat) (ba : Option Addr) (lb cb : Nat) : opl o wa lw cw ba lb cb = opl o' wa lw cw ba lb cb := by
  unfold opl
  rw [h 0 (by omega), h 1 (by omega), h 2 (by omega), h 3 (by omega), h 4 (by omega), h 5 (by omega), h 6 (by omega), h 7 (by omega), h 8 (by omega), h 9 (by omega), h 10 (by omega), h 11 (by omega), h 14 (by omega), h 15 (by omega), h 16 (by omega), h 17 (by omega), h 18 (by omega), h 19 (by omega), h 20 (by omega), h 21 (by omega)]
theorem LRow.agree {w : World} {oa : Option Addr} {n oc : Nat} {O O' : Nat → Nat → Int} {Z B Z' B' : Nat → List Int} (h : LRow w oa n oc O Z B) (g : Agree n O Z B O' Z' B') : LRow w oa n oc O' Z' B' := by
  refine ⟨h.1, h.2.1, h.2.2.1, fun x hx i hi => ?_⟩
  obtain ⟨wa, lw, cw, ba, lb, cb, e1, e2, e3, e4, e5, e6⟩ := h.2.2.2 x hx i hi
  obtain ⟨g1, g2, g3⟩ := g i hi
  rw [← g2, ← g3]
  exact ⟨wa, lw, cw, ba, lb, cb, by rw [← g1 12 (by omega)]; exact e1, by rw [← g1 13 (by omega)]; exact e2, fun j v hj => e3 j v (by rw [opl_agree g1]; exact hj), e4, e5, e6⟩
theorem oT_agree {o o' : Nat → Int} (h : ∀ j, j < 22 → o j = o' j) (L : List (Int × Int × Int)) (wk : Int) : oT o L wk = oT o' L wk ∧ oM o L = oM o' L ∧ oW o L = oW o' L := by
  unfold oT oM oW
  rw [h 0 (by omega), h 1 (by omega), h 2 (by omega), h 3 (by omega), h 4 (by omega), h 5 (by omega), h 6 (by omega), h 7 (by omega), h 8 (by omega), h 9 (by omega), h 10 (by omega), h 11 (by omega), h 12 (by omega), h 13 (by omega), h 14 (by omega), h 15 (by omega), h 16 (by omega), h 17 (by omega), h 18 (by omega), h 19 (by omega), h 20 (by omega), h 21 (by omega)]
  exact ⟨rfl, rfl, rfl⟩
theorem stG_agree {O O' : Nat → Nat → Int} {s0 : Int × Int × Int} {n : Nat} (h : ∀ i, i < n → ∀ j, j < 22 → O i j = O' i j) : ∀ k, k ≤ n → stG O s0 k = stG O' s0 k
  | 0, _ => rfl
  | k + 1, hk => by
    rw [stG_succ, stG_succ, stG_agree h k (by omega)]
    obtain ⟨a, b, c⟩ := oT_agree (h k (by omega)) (stG O' s0 k).2.2.1 (stG O' s0 k).2.2.2
    rw [a, b, c]
theorem gtR_agree {O O' : Nat → Nat → Int} {Z B Z' B' : Nat → List Int} {n : Nat} (g : Agree n O Z B O' Z' B') (h w c lo hi ot : Int) : gtR O h w c lo hi ot n = gtR O' h w c lo hi ot n := by
  unfold gtR
  rw [stG_agree (fun i hi => (g i hi).1) n (Nat.le_refl _)]
/-- The bytes of a well-formed model, decoded. -/
theorem dec_back {zs : List Int} {w w' : World} {r : Ending} {h v c lo hi ot t : Int} {n : Nat} {O : Nat → Nat → Int} {Z B : Nat → List Int} {L : List (Int × Int × Int)} {wk : Int} (hd : Dec zs w w' r) (l : Lens n O Z B) (hg : gtR O h v c lo hi ot n = (0, t, L, wk)) (hz : zs = eAll (dMod h v c lo hi ot n O Z B)) :
    ∃ (oa : Option Addr) (oc : Nat), r = .returned (.tuple #[.agg #[.int .i64 h, .int .i64 v, .int .i64 c, .int .i64 lo, .int .i64 hi, .slice oa n oc, .int .i64 ot], .agg #[.int .i64 0, .int .i64 0, .int .i64 0]]) ∧ LRow w' oa n oc O Z B ∧ ∃ (O' : Nat → Nat → Int) (Z' B' : Nat → List Int), CRow w' w.heap.size (.slice oa n oc) n O' Z' B' := by
  have hp : pAll zs = .inr (dMod h v c lo hi ot n O Z B) := by rw [hz]; exact all_back (mod_fits hg l).1
  rcases hd with ⟨x, t, h1, -⟩ | ⟨h0, w0, c0, lo0, hi0, ot0, oa, m, oc, O', Z', B', x, t, L', wk', h1, h2, l', h3⟩
  · rw [hp] at h1; cases h1
  · rw [hp] at h1
    simp only [Sum.inr.injEq] at h1
    rcases h3 with ⟨hx, -⟩ | ⟨hx, hr, cr⟩
    · exfalso
      obtain ⟨rfl, rfl, rfl, rfl, rfl, rfl, rfl, ag⟩ := same_mod l l' h1
      rw [gtR_agree ag] at hg
      rw [hg] at h2
      simp only [Prod.mk.injEq] at h2
      exact hx h2.1.symm
    · obtain ⟨rfl, rfl, rfl, rfl, rfl, rfl, rfl, ag⟩ := same_mod l l' h1
      exact ⟨oa, oc, hr, cr.l.agree ag.symm, O', Z', B', cr⟩
end Go.Proofs.Ythagdpiocmcbmaa
