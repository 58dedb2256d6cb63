/- What like bytes say of like models; errors are never 0. The document's Decode: what its walk wants (an op behind the ops; ends). The document's SameOp and Same of layer 8, of like ops and models: what each returns. plain and fixed of law08. same, plain and fixed of law09. -/
import Derived.Test.YthagdpiocmcbmaaGreatGr15
import Derived.Test.YthagdpiocmcbmaaGreatGr16
import Derived.Test.YthagdpiocmcbmaaGreatGr17
import Derived.Test.YthagdpiocmcbmaaGreatGr18
import Derived.BigQuiet
/- What like bytes say of like models; errors are never 0. -/
namespace Go.Proofs.YthagdpiocmcbmaaGreat
open Wr
open Go.ChangeShapes Go.WideShapes Go.ChangeAt Go.RowKit
set_option linter.unusedVariables false
/-! ### No error is 0 -/
def NoZ {α : Type} (p : List Int → Sum (Int × Int) (α × List Int)) : Prop := ∀ zs e, p zs = .inl e → e.1 ≠ 0
theorem NoZ.bind {α β : Type} {p : List Int → Sum (Int × Int) (α × List Int)} {q : α → List Int → Sum (Int × Int) (β × List Int)} (h : NoZ p) (k : ∀ a, NoZ (q a)) : NoZ fun zs => pbind (p zs) q := by
  intro zs e he
  match hp : p zs, he with
  | .inl x, he =>
    have : pbind (p zs) q = .inl e := he
    rw [hp] at this
    cases this
    exact h zs _ hp
  | .inr (a, r), he =>
    have : pbind (p zs) q = .inl e := he
    rw [hp, pbind_r] at this
    exact k a r e this
theorem noz_end {α β : Type} (f : α → β) (a : α) : NoZ fun r => (.inr (f a, r) : Sum (Int × Int) (β × List Int)) := fun zs e h => by cases h
theorem noz_U (t : Int) : NoZ (pU t) := by
  intro zs e h
  unfold pU at h
  by_cases c : (getR zs).2.2 ≠ 0
  · rw [if_pos c] at h; cases h; exact c
  · rw [if_neg c] at h
    by_cases d : 2147483647 < (getR zs).1
    · rw [if_pos d] at h; cases h; show (41 : Int) ≠ 0; decide
    · rw [if_neg d] at h; cases h
theorem noz_N (t most : Int) : NoZ (pN t most) := by
  intro zs e h
  unfold pN at h
  by_cases c : (cut most (getR zs)).2.2 ≠ 0
  · rw [if_pos c] at h; cases h; exact c
  · rw [if_neg c] at h; cases h
theorem noz_S (t lo hi : Int) : NoZ (pS t lo hi) := by
  intro zs e h
  unfold pS at h
  by_cases c : (getR zs).2.2 ≠ 0
  · rw [if_pos c] at h; cases h; exact c
  · rw [if_neg c] at h
    by_cases d : unfR (getR zs).1 < lo ∨ hi < unfR (getR zs).1
    · rw [if_pos d] at h; cases h; show (41 : Int) ≠ 0; decide
    · rw [if_neg d] at h; cases h
theorem noz_L {p : List Int → Sum (Int × Int) (Int × List Int)} (h : NoZ p) : ∀ n, NoZ (pL p n)
  | 0 => fun zs e h => by cases h
  | n + 1 => h.bind fun a => (noz_L h n).bind fun l zs e h => by cases h
theorem noz_Op (t : Int) : NoZ (pOp t) := (noz_L (noz_U t) 12).bind fun us => (noz_N t 131072).bind fun n => (noz_L (noz_S t _ _) _).bind fun z => (noz_N t 1024).bind fun m => (noz_L (noz_S t _ _) _).bind fun b => (noz_L (noz_U t) 4).bind fun vs => (noz_L (noz_S t _ _) 4).bind fun ss zs e h => by cases h
theorem noz_Ops : ∀ (n i : Nat), NoZ (pOps n i)
  | 0, i => fun zs e h => by cases h
  | n + 1, i => (noz_Op _).bind fun a => (noz_Ops n (i + 1)).bind fun l zs e h => by cases h
theorem noz_Mod : NoZ pMod := (noz_L (noz_U 0) 3).bind fun s => (noz_L (noz_S 0 _ _) 2).bind fun lh => (noz_N 0 64).bind fun n => (noz_Ops _ 0).bind fun ops => (noz_U 0).bind fun ot zs e h => by cases h
theorem pall_ne {zs : List Int} {x t : Int} (h : pAll zs = .inl (x, t)) : x ≠ 0 := by
  unfold pAll at h
  by_cases c : zs.length < 4
  · rw [if_pos c] at h; cases h; decide
  rw [if_neg c] at h
  by_cases d : zs.take 4 ≠ head4
  · rw [if_pos d] at h; cases h; decide
  rw [if_neg d] at h
  match hp : pMod (zs.drop 4), h with
  | .inl e, h => simp only at h; cases h; exact noz_Mod _ _ hp
  | .inr (m', r), h =>
    simp only at h
    by_cases hr : r = []
    · rw [if_pos hr] at h; cases h
    · rw [if_neg hr] at h; cases h; decide
/-! ### Models that are like -/
def Agree (n : Nat) (O : Nat → Nat → Int) (Z B : Nat → List Int) (O' : Nat → Nat → Int) (Z' B' : Nat → List Int) : Prop := ∀ i, i < n → (∀ j, j < 22 → O i j = O' i j) ∧ Z i = Z' i ∧ B i = B' i
theorem dOps_at {O : Nat → Nat → Int} {Z B : Nat → List Int} {n i : Nat} (h : i < n) : (dOps O Z B n)[i]? = some (dOp (O i) (Z i) (B i)) := by
  unfold dOps; simp [h]
theorem same_mod {h w c lo hi ot h' w' c' lo' hi' ot' : Int} {n n' : Nat} {O O' : Nat → Nat → Int} {Z B Z' B' : Nat → List Int} (l : Lens n O Z B) (l' : Lens n' O' Z' B') (e : dMod h w c lo hi ot n O Z B = dMod h' w' c' lo' hi' ot' n' O' Z' B') :
    h = h' ∧ w = w' ∧ c = c' ∧ lo = lo' ∧ hi = hi' ∧ ot = ot' ∧ n = n' ∧ Agree n O Z B O' Z' B' := by
  unfold dMod at e
  simp only [ModD.mk.injEq, List.cons.injEq, and_true] at e
  obtain ⟨⟨e1, e2, e3⟩, ⟨e4, e5⟩, e6, e7⟩ := e
  have en : n = n' := by
    have := congrArg List.length e6
    rwa [dOps_len, dOps_len] at this
  subst en
  refine ⟨e1, e2, e3, e4, e5, e7, rfl, fun i hi => ?_⟩
  have q := dOps_at (O := O) (Z := Z) (B := B) hi
  rw [e6, dOps_at hi] at q
  simp only [Option.some.injEq, dOp, OpD.mk.injEq, List.cons.injEq, and_true] at q
  obtain ⟨⟨a0, a1, a2, a3, a4, a5, a6, a7, a8, a9, a10, a11⟩, ez, eb, ⟨a14, a15, a16, a17⟩, a18, a19, a20, a21⟩ := q
  obtain ⟨l1, l2, -, -⟩ := l i hi
  obtain ⟨l3, l4, -, -⟩ := l' i hi
  refine ⟨fun j hj => ?_, ez.symm, eb.symm⟩
  have : j = 0 ∨ j = 1 ∨ j = 2 ∨ j = 3 ∨ j = 4 ∨ j = 5 ∨ j = 6 ∨ j = 7 ∨ j = 8 ∨ j = 9 ∨ j = 10 ∨ j = 11 ∨ j = 12 ∨ j = 13 ∨ j = 14 ∨ j = 15 ∨ j = 16 ∨ j = 17 ∨ j = 18 ∨ j = 19 ∨ j = 20 ∨ j = 21 := by omega
  rcases this with rfl | rfl | rfl | rfl | rfl | rfl | rfl | rfl | rfl | rfl | rfl | rfl | rfl | rfl | rfl | rfl | rfl | rfl | rfl | rfl | rfl | rfl
  · exact a0.symm
  · exact a1.symm
  · exact a2.symm
  · exact a3.symm
  · exact a4.symm
  · exact a5.symm
  · exact a6.symm
  · exact a7.symm
  · exact a8.symm
  · exact a9.symm
  · exact a10.symm
  · exact a11.symm
  · rw [l1, l3, ez]
  · rw [l2, l4, eb]
  · exact a14.symm
  · exact a15.symm
  · exact a16.symm
  · exact a17.symm
  · exact a18.symm
  · exact a19.symm
  · exact a20.symm
  · exact a21.symm
theorem Agree.symm {n : Nat} {O O' : Nat → Nat → Int} {Z B Z' B' : Nat → List Int} (h : Agree n O Z B O' Z' B') : Agree n O' Z' B' O Z B := fun i hi => ⟨fun j hj => ((h i hi).1 j hj).symm, (h i hi).2.1.symm, (h i hi).2.2.symm⟩
theorem opl_agree {o o' : Nat → Int} (h : ∀ j, j < 22 → o j = o' j) (wa : Option Addr) (lw cw : Nat) (ba : Option Addr) (lb cb : Nat) : opl o wa lw cw ba lb cb = opl o' wa lw cw ba lb cb := by
  unfold opl
  rw [h 0 (by omega), h 1 (by omega), h 2 (by omega), h 3 (by omega), h 4 (by omega), h 5 (by omega), h 6 (by omega), h 7 (by omega), h 8 (by omega), h 9 (by omega), h 10 (by omega), h 11 (by omega), h 14 (by omega), h 15 (by omega), h 16 (by omega), h 17 (by omega), h 18 (by omega), h 19 (by omega), h 20 (by omega), h 21 (by omega)]
theorem LRow.agree {w : World} {oa : Option Addr} {n oc : Nat} {O O' : Nat → Nat → Int} {Z B Z' B' : Nat → List Int} (h : LRow w oa n oc O Z B) (g : Agree n O Z B O' Z' B') : LRow w oa n oc O' Z' B' := by
  refine ⟨h.1, h.2.1, h.2.2.1, fun x hx i hi => ?_⟩
  obtain ⟨wa, lw, cw, ba, lb, cb, e1, e2, e3, e4, e5, e6⟩ := h.2.2.2 x hx i hi
  obtain ⟨g1, g2, g3⟩ := g i hi
  rw [← g2, ← g3]
  exact ⟨wa, lw, cw, ba, lb, cb, by rw [← g1 12 (by omega)]; exact e1, by rw [← g1 13 (by omega)]; exact e2, fun j v hj => e3 j v (by rw [opl_agree g1]; exact hj), e4, e5, e6⟩
theorem oT_agree {o o' : Nat → Int} (h : ∀ j, j < 22 → o j = o' j) (L : List (Int × Int × Int)) (wk : Int) : oT o L wk = oT o' L wk ∧ oM o L = oM o' L ∧ oW o L = oW o' L := by
  unfold oT oM oW
  rw [h 0 (by omega), h 1 (by omega), h 2 (by omega), h 3 (by omega), h 4 (by omega), h 5 (by omega), h 6 (by omega), h 7 (by omega), h 8 (by omega), h 9 (by omega), h 10 (by omega), h 11 (by omega), h 12 (by omega), h 13 (by omega), h 14 (by omega), h 15 (by omega), h 16 (by omega), h 17 (by omega), h 18 (by omega), h 19 (by omega), h 20 (by omega), h 21 (by omega)]
  exact ⟨rfl, rfl, rfl⟩
theorem stG_agree {O O' : Nat → Nat → Int} {s0 : Int × Int × Int} {n : Nat} (h : ∀ i, i < n → ∀ j, j < 22 → O i j = O' i j) : ∀ k, k ≤ n → stG O s0 k = stG O' s0 k
  | 0, _ => rfl
  | k + 1, hk => by
    rw [stG_succ, stG_succ, stG_agree h k (by omega)]
    obtain ⟨a, b, c⟩ := oT_agree (h k (by omega)) (stG O' s0 k).2.2.1 (stG O' s0 k).2.2.2
    rw [a, b, c]
theorem gtR_agree {O O' : Nat → Nat → Int} {Z B Z' B' : Nat → List Int} {n : Nat} (g : Agree n O Z B O' Z' B') (h w c lo hi ot : Int) : gtR O h w c lo hi ot n = gtR O' h w c lo hi ot n := by
  unfold gtR
  rw [stG_agree (fun i hi => (g i hi).1) n (Nat.le_refl _)]
/-- The bytes of a well-formed model, decoded. -/
theorem dec_back {zs : List Int} {w w' : World} {r : Ending} {h v c lo hi ot t : Int} {n : Nat} {O : Nat → Nat → Int} {Z B : Nat → List Int} {L : List (Int × Int × Int)} {wk : Int} (hd : Dec zs w w' r) (l : Lens n O Z B) (hg : gtR O h v c lo hi ot n = (0, t, L, wk)) (hz : zs = eAll (dMod h v c lo hi ot n O Z B)) :
    ∃ (oa : Option Addr) (oc : Nat), r = .returned (.tuple #[.agg #[.int .i64 h, .int .i64 v, .int .i64 c, .int .i64 lo, .int .i64 hi, .slice oa n oc, .int .i64 ot], .agg #[.int .i64 0, .int .i64 0, .int .i64 0]]) ∧ LRow w' oa n oc O Z B ∧ ∃ (O' : Nat → Nat → Int) (Z' B' : Nat → List Int), CRow w' w.heap.size (.slice oa n oc) n O' Z' B' := by
  have hp : pAll zs = .inr (dMod h v c lo hi ot n O Z B) := by rw [hz]; exact all_back (mod_fits hg l).1
  rcases hd with ⟨x, t, h1, -⟩ | ⟨h0, w0, c0, lo0, hi0, ot0, oa, m, oc, O', Z', B', x, t, L', wk', h1, h2, l', h3⟩
  · rw [hp] at h1; cases h1
  · rw [hp] at h1
    simp only [Sum.inr.injEq] at h1
    rcases h3 with ⟨hx, -⟩ | ⟨hx, hr, cr⟩
    · exfalso
      obtain ⟨rfl, rfl, rfl, rfl, rfl, rfl, rfl, ag⟩ := same_mod l l' h1
      rw [gtR_agree ag] at hg
      rw [hg] at h2
      simp only [Prod.mk.injEq] at h2
      exact hx h2.1.symm
    · obtain ⟨rfl, rfl, rfl, rfl, rfl, rfl, rfl, ag⟩ := same_mod l l' h1
      exact ⟨oa, oc, hr, cr.l.agree ag.symm, O', Z', B', cr⟩
end Go.Proofs.YthagdpiocmcbmaaGreat

/- The document's Decode: what its walk wants (an op behind the ops; ends). -/
namespace Go.Proofs.YthagdpiocmcbmaaGreat
open Wr
open Go.ChangeShapes Go.WideShapes Go.ChangeAt Go.RowKit
set_option linter.unusedVariables false
theorem step_appC {w : World} {ops : Array Oper} {oo : Oper} {a : Act} {K : Act → World → Prop} {Q : Exit → Act → World → Prop} {E : Prop} (hgd : oo.guard = none) (sl x : Operand)
    (ho : oo.op = .call { callee := .builtin .append, args := #[sl, x], argTypes := #[25, 25] }) {base k : Nat} {la : Option Addr} {lc : Nat} {O : Nat → Nat → Int} {Z Bs : Nat → List Int} {o : Nat → Int} {z b : List Int} {wa ba : Option Addr} {lw cw lb cb : Nat}
    (hs : a.eval sl = .slice la k lc) (hx : a.eval x = .slice (some ⟨w.heap.size, 0, none⟩) 1 1) (C1 : CRow w base (.slice la k lc) k O Z Bs) (hk : k ≤ 64) (hb : base ≤ w.heap.size) (o12 : o 12 = (lw : Int)) (o13 : o 13 = (lb : Int)) (l1 : lw ≤ 131072) (l2 : lb ≤ 1024)
    (oz : Own .i16 82 w base (.slice wa lw cw) z) (ob : Own .i32 21 w base (.slice ba lb cb) b)
    (hK : ∀ la3 lc3 w3, CRow w3 base (.slice la3 (k + 1) lc3) (k + 1) (upA O k o) (upA Z k z) (upA Bs k b) → Below base w w3 → K (a.put oo.dst (.slice la3 (k + 1) lc3)) w3) :
    if Region.wanted oo (yielded ops a.tmps) = true then Oper.wp Tryz.prog oo a (w.alloc (.cells #[.int .i64 (o 0), .int .i64 (o 1), .int .i64 (o 2), .int .i64 (o 3), .int .i64 (o 4), .int .i64 (o 5), .int .i64 (o 6), .int .i64 (o 7), .int .i64 (o 8), .int .i64 (o 9), .int .i64 (o 10), .int .i64 (o 11), .slice wa lw cw, .slice ba lb cb, .int .i64 (o 14), .int .i64 (o 15), .int .i64 (o 16), .int .i64 (o 17), .int .i64 (o 18), .int .i64 (o 19), .int .i64 (o 20), .int .i64 (o 21)] 55)) K Q else E := by
  have hw : Region.wanted oo (yielded ops a.tmps) = true := by simp [Region.wanted, hgd]
  rw [if_pos hw]
  have hbw : Below w.heap.size w (w.alloc (.cells #[.int .i64 (o 0), .int .i64 (o 1), .int .i64 (o 2), .int .i64 (o 3), .int .i64 (o 4), .int .i64 (o 5), .int .i64 (o 6), .int .i64 (o 7), .int .i64 (o 8), .int .i64 (o 9), .int .i64 (o 10), .int .i64 (o 11), .slice wa lw cw, .slice ba lb cb, .int .i64 (o 14), .int .i64 (o 15), .int .i64 (o 16), .int .i64 (o 17), .int .i64 (o 18), .int .i64 (o 19), .int .i64 (o 20), .int .i64 (o 21)] 55)) := bal _ _
  have C2 := (C1.below hbw).up o z b
  obtain ⟨xs, hxs, hall⟩ := C2
  obtain ⟨i0, hi1, hz0, hz1, hz2⟩ := info_parts (show (Tryz.prog.info? 55).map (fun i => (i.zero, i.size, i.bytes)) = some (some (.agg #[.int .i64 0, .int .i64 0, .int .i64 0, .int .i64 0, .int .i64 0, .int .i64 0, .int .i64 0, .int .i64 0, .int .i64 0, .int .i64 0, .int .i64 0, .int .i64 0, .slice none 0 0, .slice none 0 0, .int .i64 0, .int .i64 0, .int .i64 0, .int .i64 0, .int .i64 0, .int .i64 0, .int .i64 0, .int .i64 0]), 22, 208) by kernel_rfl)
  refine wp_append_own _ sl x 25 ho base 55 i0 _ 22 208 Tryz.underlying25 hi1 hz0 hz1 hz2 rfl (by decide) (.slice la k lc) k xs hs hxs ⟨w.heap.size, 0, none⟩ 1 1 (opl o wa lw cw ba lb cb) hx rfl new22 (opl_one _ _ _ _ _ _ _) (by unfold maxLen; omega) (by omega) (by simp; omega) ?_
  intro v3 w3 hown hgr hnn
  have H12 : upA O k o k 12 = (lw : Int) := by rw [upA_same]; exact o12
  have H13 : upA O k o k 13 = (lb : Int) := by rw [upA_same]; exact o13
  have HZ : Own .i16 82 (w.alloc (.cells #[.int .i64 (o 0), .int .i64 (o 1), .int .i64 (o 2), .int .i64 (o 3), .int .i64 (o 4), .int .i64 (o 5), .int .i64 (o 6), .int .i64 (o 7), .int .i64 (o 8), .int .i64 (o 9), .int .i64 (o 10), .int .i64 (o 11), .slice wa lw cw, .slice ba lb cb, .int .i64 (o 14), .int .i64 (o 15), .int .i64 (o 16), .int .i64 (o 17), .int .i64 (o 18), .int .i64 (o 19), .int .i64 (o 20), .int .i64 (o 21)] 55)) base (.slice wa lw cw) (upA Z k z k) := by rw [upA_same]; exact oz.below hbw
  have HB : Own .i32 21 (w.alloc (.cells #[.int .i64 (o 0), .int .i64 (o 1), .int .i64 (o 2), .int .i64 (o 3), .int .i64 (o 4), .int .i64 (o 5), .int .i64 (o 6), .int .i64 (o 7), .int .i64 (o 8), .int .i64 (o 9), .int .i64 (o 10), .int .i64 (o 11), .slice wa lw cw, .slice ba lb cb, .int .i64 (o 14), .int .i64 (o 15), .int .i64 (o 16), .int .i64 (o 17), .int .i64 (o 18), .int .i64 (o 19), .int .i64 (o 20), .int .i64 (o 21)] 55)) base (.slice ba lb cb) (upA Bs k b k) := by rw [upA_same]; exact ob.below hbw
  have C3 : CRow w3 base v3 (k + 1) (upA O k o) (upA Z k z) (upA Bs k b) := CRow.add ⟨xs, hxs, hall⟩ hgr H12 H13 HZ HB (by omega) (by omega) xs hxs hall (by rw [upA_same]; exact hown)
  have hb3 : Below base w w3 := (hbw.mono hb).grown hgr (by simp; omega) (fun b e => (hxs.lt b e).1)
  obtain ⟨la3, lc3, rfl⟩ := C3.slice
  exact hK la3 lc3 w3 C3 hb3
/-- Where Front's rest lies. -/
theorem front_low {w w' : World} {a a' : Option Addr} {len cap : Nat} {zs : List Int} (hr : Wr.Row w a len cap zs) (hf : frontE zs = 0) (ha : ∀ x, a' = some x → ∃ y, a = some y ∧ x.block = y.block) (hw : w.heap.size ≤ w'.heap.size) : ∀ x, a' = some x → x.block < w'.heap.size := by
  intro x hx
  obtain ⟨y, rfl, e⟩ := ha x hx
  have h4 : ¬ zs.length < 4 := fun h => by unfold frontE at hf; rw [if_pos h] at hf; cases hf
  have hl := hr.1
  have hc := hr.2.2.2.2.2 y rfl 0 (by omega)
  have := World.block_lt_of_cell? w _ hc
  rw [blk_add] at this
  omega
theorem front_e {zs : List Int} (h : frontE zs ≠ 0) : pAll zs = .inl (frontE zs, 0) := by
  unfold pAll
  unfold frontE at h ⊢
  by_cases c : zs.length < 4
  · rw [if_pos c, if_pos c]
  · rw [if_neg c] at h ⊢
    rw [if_neg c]
    by_cases d : zs.take 4 ≠ head4
    · rw [if_pos d, if_pos d]
    · rw [if_neg d] at h; exact absurd rfl h
theorem front_0 {zs : List Int} (h : frontE zs = 0) : pAll zs = match pMod (zs.drop 4) with | .inl e => .inl e | .inr (m, r) => if r = [] then .inr m else .inl (43, 0) := by
  unfold pAll
  unfold frontE at h
  by_cases c : zs.length < 4
  · rw [if_pos c] at h; cases h
  · rw [if_neg c] at h
    rw [if_neg c]
    by_cases d : zs.take 4 ≠ head4
    · rw [if_pos d] at h; cases h
    · rw [if_neg d]; rfl
theorem stp_mod {s0 s1 s2 s3 s4 s5 s6 s7 s8 : Sum (Int × Int) (List Int)} {n k : Nat} {h0 w0 c0 lo hi ot : Int} {O : Nat → Nat → Int} {Z Bs : Nat → List Int} (h1 : Stp (pU 0) s0 h0 s1) (h2 : Stp (pU 0) s1 w0 s2) (h3 : Stp (pU 0) s2 c0 s3) (h4 : Stp (p32 0) s3 lo s4) (h5 : Stp (p32 0) s4 hi s5) (h6 : Stp (pN 0 64) s5 (n : Int) s6) (h7 : Stp (pOps n 0) s6 (dOps O Z Bs k) s7) (h8 : Stp (pU 0) s7 ot s8) : Stp pMod s0 (dMod h0 w0 c0 lo hi ot k O Z Bs) s8 := by
  have hA : Stp (pL (pU 0) 3) s0 [h0, w0, c0] s3 := h1.cons (h2.cons (h3.cons (.nil _)))
  have hB : Stp (pL (p32 0) 2) s3 [lo, hi] s5 := h4.cons (h5.cons (.nil _))
  have e : pOps n 0 = (fun (m : Int) (r : List Int) => pOps m.toNat 0 r) (n : Int) := rfl
  rw [e] at h7
  exact hA.bind (hB.bind (h6.bind (h7.bind (h8.last fun o => (⟨[h0, w0, c0], [lo, hi], dOps O Z Bs k, o⟩ : ModD)))))
theorem stp_end {zs z8 : List Int} {f8 qe qt : Int} {d : ModD} {s8 : Sum (Int × Int) (List Int)} (hP : pAll zs = match pMod (zs.drop 4) with | .inl e => .inl e | .inr (m, r) => if r = [] then .inr m else .inl (43, 0)) (h : Stp pMod (.inr (zs.drop 4)) d s8) (hs : (s8 = .inl (qe, qt) ∧ qe ≠ 0) ∨ (s8 = .inr z8 ∧ qe = 0 ∧ qt = 0 ∧ f8 = 0)) :
    (ntE (endR z8 f8) qe ≠ 0 ∧ pAll zs = .inl (ntE (endR z8 f8) qe, ntT (endR z8 f8) qe 0 qt)) ∨ (ntE (endR z8 f8) qe = 0 ∧ pAll zs = .inr d) := by
  rcases hs with ⟨rfl, hq⟩ | ⟨rfl, rfl, rfl, rfl⟩
  · cases h with
    | bad r e v h =>
      rw [(nt_q (e := endR z8 f8) (o := 0) (qt := qt) hq).1, (nt_q (e := endR z8 f8) (o := 0) (qt := qt) hq).2]
      exact .inl ⟨hq, by rw [hP, h]⟩
  · cases h with
    | ok r v rs h =>
      rw [h] at hP
      simp only at hP
      by_cases hz : z8 = []
      · rw [if_pos hz] at hP
        rw [show endR z8 0 = 0 by subst hz; rfl]
        exact .inr ⟨(nt_0 0 0 0).1, hP⟩
      · rw [if_neg hz] at hP
        have e : endR z8 0 = 43 := by
          cases z8 with
          | nil => exact absurd rfl hz
          | cons x l => simp [endR]
        rw [e, (nt_n (o := 0) (qt := 0) (show (43 : Int) ≠ 0 by decide)).1, (nt_n (o := 0) (qt := 0) (show (43 : Int) ≠ 0 by decide)).2]
        exact .inl ⟨by decide, hP⟩
end Go.Proofs.YthagdpiocmcbmaaGreat

/- The document's SameOp and Same of layer 8, of like ops and models: what each returns. -/
namespace Go.Proofs.YthagdpiocmcbmaaGreat
open Go.ChangeShapes Go.WideShapes Go.ChangeAt Go.RowKit
set_option linter.unusedVariables false
set_option maxHeartbeats 4000000 in
set_option maxRecDepth 100000 in
theorem sameop_any (o : Nat → Int) (z b : List Int) (wa ba xa ya : Option Addr) (lw cw lb cb dw db : Nat) (W : World) (h1 : IRow .i16 W wa lw cw z) (h2 : IRow .i16 W xa lw dw z) (h3 : IRow .i32 W ba lb cb b) (h4 : IRow .i32 W ya lb db b) :
    Calls Tryz.prog 22 #[.agg #[.int .i64 (o 0), .int .i64 (o 1), .int .i64 (o 2), .int .i64 (o 3), .int .i64 (o 4), .int .i64 (o 5), .int .i64 (o 6), .int .i64 (o 7), .int .i64 (o 8), .int .i64 (o 9), .int .i64 (o 10), .int .i64 (o 11), .slice wa lw cw, .slice ba lb cb, .int .i64 (o 14), .int .i64 (o 15), .int .i64 (o 16), .int .i64 (o 17), .int .i64 (o 18), .int .i64 (o 19), .int .i64 (o 20), .int .i64 (o 21)], .agg #[.int .i64 (o 0), .int .i64 (o 1), .int .i64 (o 2), .int .i64 (o 3), .int .i64 (o 4), .int .i64 (o 5), .int .i64 (o 6), .int .i64 (o 7), .int .i64 (o 8), .int .i64 (o 9), .int .i64 (o 10), .int .i64 (o 11), .slice xa lw dw, .slice ya lb db, .int .i64 (o 14), .int .i64 (o 15), .int .i64 (o 16), .int .i64 (o 17), .int .i64 (o 18), .int .i64 (o 19), .int .i64 (o 20), .int .i64 (o 21)]] W fun e w' => e = .returned (.bool true) ∧ Below W.heap.size W w' := by
  have n8 := ne8 49 rfl (o 4) (o 5) (o 6) (o 7) (o 8) (o 9) (o 10) (o 11) (o 4) (o 5) (o 6) (o 7) (o 8) (o 9) (o 10) (o 11) true (by simp)
  have n2 := ne2 53 rfl (o 14) (o 15) (o 14) (o 15) true (by simp)
  have n2' := ne2 53 rfl (o 16) (o 17) (o 16) (o 17) true (by simp)
  have lm1 := h1.2.1
  have lm2 := h1.2.2.1
  have lm3 := h3.2.1
  have lm4 := h3.2.2.1
  have lm5 := h2.2.1
  have lm6 := h2.2.2.1
  have lm7 := h4.2.1
  have lm8 := h4.2.2.1
  unfold maxLen at lm2 lm4 lm6 lm8
  have H1 : Hid (IRow .i16 W wa lw cw z) := h1
  have H2 : Hid (IRow .i16 W xa lw dw z) := h2
  have H3 : Hid (IRow .i32 W ba lb cb b) := h3
  have H4 : Hid (IRow .i32 W ya lb db b) := h4
  have s1 := ((St.start W).new (c := #[.int .i64 (o 0), .int .i64 (o 1), .int .i64 (o 2), .int .i64 (o 3), .int .i64 (o 4), .int .i64 (o 5), .int .i64 (o 6), .int .i64 (o 7), .int .i64 (o 8), .int .i64 (o 9), .int .i64 (o 10), .int .i64 (o 11), .slice wa lw cw, .slice ba lb cb, .int .i64 (o 14), .int .i64 (o 15), .int .i64 (o 16), .int .i64 (o 17), .int .i64 (o 18), .int .i64 (o 19), .int .i64 (o 20), .int .i64 (o 21)]) (t := 55)).new (c := #[.int .i64 (o 0), .int .i64 (o 1), .int .i64 (o 2), .int .i64 (o 3), .int .i64 (o 4), .int .i64 (o 5), .int .i64 (o 6), .int .i64 (o 7), .int .i64 (o 8), .int .i64 (o 9), .int .i64 (o 10), .int .i64 (o 11), .slice xa lw dw, .slice ya lb db, .int .i64 (o 14), .int .i64 (o 15), .int .i64 (o 16), .int .i64 (o 17), .int .i64 (o 18), .int .i64 (o 19), .int .i64 (o 20), .int .i64 (o 21)]) (t := 55)
  simp only [World.size_alloc] at s1
  clear h1 h2 h3 h4
  go_enter Tryz.func22, Tryz.ntmps22
  go_upto_region 1 with fail
  obtain ⟨wv, hwv⟩ : ∃ wv, (W.alloc (.cells #[.int .i64 (o 0), .int .i64 (o 1), .int .i64 (o 2), .int .i64 (o 3), .int .i64 (o 4), .int .i64 (o 5), .int .i64 (o 6), .int .i64 (o 7), .int .i64 (o 8), .int .i64 (o 9), .int .i64 (o 10), .int .i64 (o 11), .slice wa lw cw, .slice ba lb cb, .int .i64 (o 14), .int .i64 (o 15), .int .i64 (o 16), .int .i64 (o 17), .int .i64 (o 18), .int .i64 (o 19), .int .i64 (o 20), .int .i64 (o 21)] 55)).alloc (.cells #[.int .i64 (o 0), .int .i64 (o 1), .int .i64 (o 2), .int .i64 (o 3), .int .i64 (o 4), .int .i64 (o 5), .int .i64 (o 6), .int .i64 (o 7), .int .i64 (o 8), .int .i64 (o 9), .int .i64 (o 10), .int .i64 (o 11), .slice xa lw dw, .slice ya lb db, .int .i64 (o 14), .int .i64 (o 15), .int .i64 (o 16), .int .i64 (o 17), .int .i64 (o 18), .int .i64 (o 19), .int .i64 (o 20), .int .i64 (o 21)] 55) = wv := ⟨_, rfl⟩
  rw [hwv] at s1 ⊢
  clear hwv
  obtain ⟨c1, f1, z1, c2, f2, z2, -⟩ := s1.rules
  simp only [List.append]
  go_upto_region 3 with fail
  have r1 : Hid (IRow .i16 wv wa lw cw z) := H1.out.below s1.below
  have r2 : Hid (IRow .i16 wv xa lw dw z) := H2.out.below s1.below
  have r3 : Hid (IRow .i32 wv ba lb cb b) := H3.out.below s1.below
  have r4 : Hid (IRow .i32 wv ya lb db b) := H4.out.below s1.below
  have hbel : Hid (Below W.heap.size W wv) := s1.below
  clear H1 H2 H3 H4 s1 n8 n2 n2'
  go_wp2
  go_loopw [101] (fun i wr => ∃ k n : Nat, k ≤ lw ∧ i = .int .i64 k ∧ wr = wv.drewN n) (fun i _ => lw - (intOf i).toNat)
  case atStart => exact ⟨0, 0, Nat.zero_le _, rfl, rfl⟩
  case round =>
    obtain ⟨k, n, hk, rfl, rfl⟩ := hrel
    by_cases hlt : k < lw
    · obtain ⟨x, u, rfl, hu, -, hz1, -⟩ := r1.out.at hlt
      obtain ⟨y, u', rfl, hu', -, hz2, -⟩ := r2.out.at hlt
      rw [hz1] at hz2
      cases hz2
      clear hz1
      go_wp2
      go_quiet (fail)
      go_wp2
      go_roundw
      case rel => exact ⟨k + 1, _, by omega, by go_num, rfl⟩
      case measure => simp [intOf]; omega
    · obtain rfl : k = lw := by omega
      go_wp2
      go_loopw [119] (fun i wr => ∃ k n : Nat, k ≤ lb ∧ i = .int .i64 k ∧ wr = wv.drewN n) (fun i _ => lb - (intOf i).toNat)
      case atStart => exact ⟨0, n, Nat.zero_le _, rfl, rfl⟩
      case round =>
        obtain ⟨j, n', hk', rfl, rfl⟩ := hrel
        by_cases hlt' : j < lb
        · obtain ⟨x, u, rfl, hu, -, hz1, -⟩ := r3.out.at hlt'
          obtain ⟨y, u', rfl, hu', -, hz2, -⟩ := r4.out.at hlt'
          rw [hz1] at hz2
          cases hz2
          clear hz1
          go_wp2
          go_quiet (fail)
          go_wp2
          go_roundw
          case rel => exact ⟨j + 1, _, by omega, by go_num, rfl⟩
          case measure => simp [intOf]; omega
        · go_wp2
          go_ret
          exact ⟨rfl, bt hbel.out (dbel _ _)⟩
/-! ### A load of a whole struct out of a slice, in a region that draws its order -/
theorem quiet_la {P : Program} {C : World → Prop} {a a' : Act} {o : Oper} {K : Act → Prop} (ty : TypeId) (x : Operand) (h : o.op = .load ty x) (y : Addr) (hx : a.eval x = .pointer (some y)) (cs : List Value) (d : TypeDesc)
    (hC : ∀ w, C w → ∀ j v, cs[j]? = some v → w.cell? (y.add j) = some v) (hu : P.underlying ty = some d) (hd : (match d with | .struct _ | .array _ _ => true | _ => false) = true) (hi : (P.info? ty).map (·.size) = some cs.length) (ha : a.put o.dst (.agg cs.toArray) = a') (hk : K a') : o.quiet P a C K := by
  refine ⟨.agg cs.toArray, fun w hw => ?_, by rw [ha]; exact hk⟩
  have hl : (loadCells y cs.length).run P w = .ok cs.toArray w := run_loadCells_list (P := P) w y cs (hC w hw)
  have hv : (loadVar ty y).run P w = .ok (.agg cs.toArray) w := by
    cases hq : P.info? ty with
    | none => simp [hq] at hi
    | some i =>
      have hs : i.size = cs.length := by simpa [hq] using hi
      have hagg : (isAgg ty).run P w = .ok true w := by
        unfold isAgg
        rw [Sem.run_bind, run_underlying hu w]
        cases d <;> simp_all
      simp [loadVar, Sem.run_bind, hagg, sizeOf, typeInfo, hq, hs, hl]
  unfold Oper.quietAt execOp
  simp only [h, hx, Instr.loadAt, Instr.sureAddr, Sem.run_bind, Sem.run_pure, Result.andThen_ok, hv]
  exact ⟨rfl, rfl⟩
set_option maxHeartbeats 4000000 in
set_option maxRecDepth 100000 in
theorem samem_any (h w c lo hi ot : Int) (oa oa' : Option Addr) (on oc oc' : Nat) (O : Nat → Nat → Int) (Z B : Nat → List Int) (W : World) (hL : LRow W oa on oc O Z B) (hL' : LRow W oa' on oc' O Z B) :
    Calls Tryz.prog 7 #[.agg #[.int .i64 h, .int .i64 w, .int .i64 c, .int .i64 lo, .int .i64 hi, .slice oa on oc, .int .i64 ot], .agg #[.int .i64 h, .int .i64 w, .int .i64 c, .int .i64 lo, .int .i64 hi, .slice oa' on oc', .int .i64 ot]] W fun e w' => e = .returned (.bool true) ∧ Below W.heap.size W w' := by
  have n3 := ne3 24 rfl h w c h w c true (by simp)
  have l1 := hL.1
  have l2 := hL.2.1
  have l3 := hL'.1
  have l4 := hL'.2.1
  unfold maxLen at l2 l4
  have H1 : Hid (LRow W oa on oc O Z B) := hL
  have H2 : Hid (LRow W oa' on oc' O Z B) := hL'
  have s1 := ((St.start W).new (c := #[.int .i64 h, .int .i64 w, .int .i64 c, .int .i64 lo, .int .i64 hi, .slice oa on oc, .int .i64 ot]) (t := 27)).new (c := #[.int .i64 h, .int .i64 w, .int .i64 c, .int .i64 lo, .int .i64 hi, .slice oa' on oc', .int .i64 ot]) (t := 27)
  simp only [World.size_alloc] at s1
  have S1 : Hid (St W _ ([(W.heap.size + 1, #[.int .i64 h, .int .i64 w, .int .i64 c, .int .i64 lo, .int .i64 hi, .slice oa' on oc', .int .i64 ot], 27), (W.heap.size, #[.int .i64 h, .int .i64 w, .int .i64 c, .int .i64 lo, .int .i64 hi, .slice oa on oc, .int .i64 ot], 27)])) := s1
  clear hL hL' s1
  go_enter Tryz.func7, Tryz.ntmps7
  go_wp2
  go_loopw [44] (fun i wr => ∃ k : Nat, k ≤ on ∧ i = .int .i64 k ∧ St W wr ([(W.heap.size + 1, #[.int .i64 h, .int .i64 w, .int .i64 c, .int .i64 lo, .int .i64 hi, .slice oa' on oc', .int .i64 ot], 27), (W.heap.size, #[.int .i64 h, .int .i64 w, .int .i64 c, .int .i64 lo, .int .i64 hi, .slice oa on oc, .int .i64 ot], 27)])) (fun i _ => on - (intOf i).toNat)
  case atStart => exact ⟨0, Nat.zero_le _, rfl, S1.out⟩
  case round =>
    obtain ⟨i, hi0, rfl, sr⟩ := hrel
    by_cases hlt : i < on
    rotate_left
    · have hbel : Hid (Below W.heap.size W wr) := sr.below
      clear sr S1
      go_wp2
      go_ret
      exact ⟨rfl, hbel.out⟩
    · obtain ⟨x, rfl, wa, lw, cw, ba, lb, cb, e12, e13, hcx, hz1, hb1, -, -⟩ := H1.out.at hlt
      obtain ⟨y, rfl, xa, lw', dw, ya, lb', db, d12, d13, hcy, hz2, hb2, -, -⟩ := H2.out.at hlt
      obtain rfl : lw' = lw := by rw [e12] at d12; omega
      obtain rfl : lb' = lb := by rw [e13] at d13; omega
      have hSO : Hid (∀ n : Wd W ([(W.heap.size + 1, #[.int .i64 h, .int .i64 w, .int .i64 c, .int .i64 lo, .int .i64 hi, .slice (some y) on oc', .int .i64 ot], 27), (W.heap.size, #[.int .i64 h, .int .i64 w, .int .i64 c, .int .i64 lo, .int .i64 hi, .slice (some x) on oc, .int .i64 ot], 27)]), Calls Tryz.prog 22 #[.agg #[.int .i64 (O i 0), .int .i64 (O i 1), .int .i64 (O i 2), .int .i64 (O i 3), .int .i64 (O i 4), .int .i64 (O i 5), .int .i64 (O i 6), .int .i64 (O i 7), .int .i64 (O i 8), .int .i64 (O i 9), .int .i64 (O i 10), .int .i64 (O i 11), .slice wa lw' cw, .slice ba lb' cb, .int .i64 (O i 14), .int .i64 (O i 15), .int .i64 (O i 16), .int .i64 (O i 17), .int .i64 (O i 18), .int .i64 (O i 19), .int .i64 (O i 20), .int .i64 (O i 21)], .agg #[.int .i64 (O i 0), .int .i64 (O i 1), .int .i64 (O i 2), .int .i64 (O i 3), .int .i64 (O i 4), .int .i64 (O i 5), .int .i64 (O i 6), .int .i64 (O i 7), .int .i64 (O i 8), .int .i64 (O i 9), .int .i64 (O i 10), .int .i64 (O i 11), .slice xa lw' dw, .slice ya lb' db, .int .i64 (O i 14), .int .i64 (O i 15), .int .i64 (O i 16), .int .i64 (O i 17), .int .i64 (O i 18), .int .i64 (O i 19), .int .i64 (O i 20), .int .i64 (O i 21)]] n.w fun e w' => e = .returned (.bool true) ∧ Below n.w.heap.size n.w w') := fun n => sameop_any (O i) (Z i) (B i) wa ba xa ya lw' cw lb' cb dw db n.w (hz1.below n.h.below) (hz2.below n.h.below) (hb1.below n.h.below) (hb2.below n.h.below)
      have hCx : Hid (∀ wz, (∃ n : Wd W ([(W.heap.size + 1, #[.int .i64 h, .int .i64 w, .int .i64 c, .int .i64 lo, .int .i64 hi, .slice (some y) on oc', .int .i64 ot], 27), (W.heap.size, #[.int .i64 h, .int .i64 w, .int .i64 c, .int .i64 lo, .int .i64 hi, .slice (some x) on oc, .int .i64 ot], 27)]), wz = n.w) → ∀ j v, [.int .i64 (O i 0), .int .i64 (O i 1), .int .i64 (O i 2), .int .i64 (O i 3), .int .i64 (O i 4), .int .i64 (O i 5), .int .i64 (O i 6), .int .i64 (O i 7), .int .i64 (O i 8), .int .i64 (O i 9), .int .i64 (O i 10), .int .i64 (O i 11), .slice wa lw' cw, .slice ba lb' cb, .int .i64 (O i 14), .int .i64 (O i 15), .int .i64 (O i 16), .int .i64 (O i 17), .int .i64 (O i 18), .int .i64 (O i 19), .int .i64 (O i 20), .int .i64 (O i 21)][j]? = some v → wz.cell? ((x.add (i * 22)).add j) = some v) := fun wz hw j v hj => by
        obtain ⟨n, rfl⟩ := hw
        have := hcx j v hj
        exact (n.h.below.cell (World.block_lt_of_cell? W _ this)).trans this
      have hCy : Hid (∀ wz, (∃ n : Wd W ([(W.heap.size + 1, #[.int .i64 h, .int .i64 w, .int .i64 c, .int .i64 lo, .int .i64 hi, .slice (some y) on oc', .int .i64 ot], 27), (W.heap.size, #[.int .i64 h, .int .i64 w, .int .i64 c, .int .i64 lo, .int .i64 hi, .slice (some x) on oc, .int .i64 ot], 27)]), wz = n.w) → ∀ j v, [.int .i64 (O i 0), .int .i64 (O i 1), .int .i64 (O i 2), .int .i64 (O i 3), .int .i64 (O i 4), .int .i64 (O i 5), .int .i64 (O i 6), .int .i64 (O i 7), .int .i64 (O i 8), .int .i64 (O i 9), .int .i64 (O i 10), .int .i64 (O i 11), .slice xa lw' dw, .slice ya lb' db, .int .i64 (O i 14), .int .i64 (O i 15), .int .i64 (O i 16), .int .i64 (O i 17), .int .i64 (O i 18), .int .i64 (O i 19), .int .i64 (O i 20), .int .i64 (O i 21)][j]? = some v → wz.cell? ((y.add (i * 22)).add j) = some v) := fun wz hw j v hj => by
        obtain ⟨n, rfl⟩ := hw
        have := hcy j v hj
        exact (n.h.below.cell (World.block_lt_of_cell? W _ this)).trans this
      clear hcx hcy hz1 hz2 hb1 hb2 e12 e13 d12 d13 S1
      go_upto_region 6 with fail
      obtain ⟨q1, y1, q2, y2, -⟩ := rulesQ_st sr
      have hne := Nonempty.intro (Wd.mk _ sr)
      refine region_held sr (by kernel_rfl) (by kernel_rfl) ?_
      go_big_quiet_step (fail)
      go_big_quiet_step (fail)
      go_big_quiet_step (fail)
      go_big_quiet_step (fail)
      go_big_quiet_want
      refine quiet_la 55 (.tmp 50) rfl _ rfl [.int .i64 (O i 0), .int .i64 (O i 1), .int .i64 (O i 2), .int .i64 (O i 3), .int .i64 (O i 4), .int .i64 (O i 5), .int .i64 (O i 6), .int .i64 (O i 7), .int .i64 (O i 8), .int .i64 (O i 9), .int .i64 (O i 10), .int .i64 (O i 11), .slice wa lw' cw, .slice ba lb' cb, .int .i64 (O i 14), .int .i64 (O i 15), .int .i64 (O i 16), .int .i64 (O i 17), .int .i64 (O i 18), .int .i64 (O i 19), .int .i64 (O i 20), .int .i64 (O i 21)] _ hCx.out Tryz.underlying55 rfl (by kernel_rfl) rfl ?_
      go_simp
      go_big_quiet_on
      go_big_quiet_step (fail)
      go_big_quiet_step (fail)
      go_big_quiet_step (fail)
      go_big_quiet_step (fail)
      go_big_quiet_want
      refine quiet_la 55 (.tmp 55) rfl _ rfl [.int .i64 (O i 0), .int .i64 (O i 1), .int .i64 (O i 2), .int .i64 (O i 3), .int .i64 (O i 4), .int .i64 (O i 5), .int .i64 (O i 6), .int .i64 (O i 7), .int .i64 (O i 8), .int .i64 (O i 9), .int .i64 (O i 10), .int .i64 (O i 11), .slice xa lw' dw, .slice ya lb' db, .int .i64 (O i 14), .int .i64 (O i 15), .int .i64 (O i 16), .int .i64 (O i 17), .int .i64 (O i 18), .int .i64 (O i 19), .int .i64 (O i 20), .int .i64 (O i 21)] _ hCy.out Tryz.underlying55 rfl (by kernel_rfl) rfl ?_
      go_simp
      go_big_quiet_on
      repeat (go_big_quiet_step ((go_at_call 22; exact held_of (hSO.out _))))
      refine wpQuiet_nil ?_
      intro _ hw'
      obtain ⟨nq, rfl⟩ := hw'
      obtain ⟨w5, hw5⟩ : ∃ w5, nq.w = w5 := ⟨_, rfl⟩
      have s5 : Hid (St W w5 _) := hw5 ▸ nq.h
      rw [hw5]
      clear q1 y1 q2 y2 hne hw5 sr hSO hCx hCy
      clear nq
      go_wp2
      go_round
      case rel => exact ⟨i + 1, by omega, by go_num, s5.out⟩
      case measure => simp [intOf]; omega
end Go.Proofs.YthagdpiocmcbmaaGreat

/- plain and fixed of law08. -/
namespace Go.Proofs.YthagdpiocmcbmaaGreat
open Go.ChangeShapes Go.WideShapes Go.ChangeAt Go.RowKit
set_option linter.unusedVariables false
/-- The op of the plain model, its A being 'aa'. -/
def plO (aa : Int) (_ : Nat) (j : Nat) : Int := [1, aa, 0, 1, 0, 0, 0, 0, 0, 0, 0, 0, 2, 1, 1, 0, 0, 0, 0, 0, -128, 127].getD j 0
theorem pl_0 : gtR (plO 0) 1 1 2 (-128) 127 1 1 = (0, 0, [(1, 1, 2), (1, 1, 1)], 2) := by decide
theorem pl_1 : gtR (plO 1) 1 1 2 (-128) 127 1 1 = (82, 1, [], 0) := by decide
end Go.Proofs.YthagdpiocmcbmaaGreat

/- same, plain and fixed of law09. -/
namespace Go.Proofs.YthagdpiocmcbmaaGreat
open Wr
open Go.ChangeShapes Go.WideShapes Go.ChangeAt Go.RowKit
set_option linter.unusedVariables false
set_option maxHeartbeats 1000000 in
theorem sameb_any (a b : Option Addr) (la ca lb cb : Nat) (xs ys : List Int) (w : World) (ha : Wr.Row w a la ca xs) (hb : Wr.Row w b lb cb ys) :
    Calls Tryz.prog 8 #[.slice a la ca, .slice b lb cb] w fun e w' => e = .returned (.bool (decide (xs = ys))) ∧ Below w.heap.size w w' := by
  have ha' := ha.2.2.1
  have hb' := hb.2.2.1
  unfold maxLen at ha' hb'
  have hxl : Hid (xs.length = la) := ha.1
  have hyl : Hid (ys.length = lb) := hb.1
  have hac := ha.2.1
  have hbc := hb.2.1
  by_cases hlen : la = lb
  · subst hlen
    go_enter Tryz.func8, Tryz.ntmps8
    go_wp2
    go_loopw [13] (fun i wr => ∃ k n : Nat, k ≤ la ∧ i = .int .i64 k ∧ xs.take k = ys.take k ∧ wr = w.drewN n) (fun i _ => la - (intOf i).toNat)
    case atStart => exact ⟨0, 0, Nat.zero_le _, rfl, rfl, rfl⟩
    case round =>
      obtain ⟨k, n, hk, rfl, he, rfl⟩ := hrel
      have he' : Hid (xs.take k = ys.take k) := he
      clear he
      by_cases hlt : k < la
      · obtain ⟨p, c, rfl, hc, hc0, hc1, hcd⟩ := row_at ha hlt
        obtain ⟨q, d, rfl, hd, hd0, hd1, hdd⟩ := row_at hb hlt
        have hcd' : Hid (xs.drop k = c :: xs.drop (k + 1)) := hcd
        have hdd' : Hid (ys.drop k = d :: ys.drop (k + 1)) := hdd
        clear hcd hdd ha hb
        by_cases hcd : c = d
        · subst hcd
          go_wp2
          go_quiet (fail)
          go_wp2
          go_roundw
          case rel => exact ⟨k + 1, _, by omega, by go_num, (same_step hcd'.out hdd'.out he'.out).1 rfl, rfl⟩
          case measure => simp [intOf]; omega
        · have hD : Hid (decide (xs = ys) = false) := (same_step hcd'.out hdd'.out he'.out).2 hcd
          go_wp2
          go_quiet (fail)
          go_wp2
          go_ret
          exact ⟨ret_bool hD.out.symm, by rw [World.drewN_drewN]; exact dbel _ _⟩
      · clear ha hb
        have hD : Hid (decide (xs = ys) = true) := same_end hxl.out hyl.out (by omega) he'.out
        go_wp2
        go_ret
        exact ⟨ret_bool hD.out.symm, dbel _ _⟩
  · have hne : xs ≠ ys := fun e => hlen (by rw [← hxl.out, ← hyl.out, e])
    have hD : Hid (decide (xs = ys) = false) := by simp [Hid, hne]
    clear ha hb hne
    go_enter Tryz.func8, Tryz.ntmps8
    go_wp2
    go_ret
    exact ⟨ret_bool hD.out.symm, Below.refl _ _⟩
def bytes40 : List Int := [83, 87, 77, 49, 1, 1, 2, 255, 1, 254, 1, 1, 1, 0, 0, 1, 0, 0, 0, 0, 0, 0, 0, 0, 2, 6, 3, 1, 2, 1, 0, 0, 0, 0, 0, 255, 1, 254, 1, 1]
def plZ (_ : Nat) : List Int := [3, -2]
def plB (_ : Nat) : List Int := [1]
def plM : ModD := dMod 1 1 2 (-128) 127 1 1 (plO 0) plZ plB
theorem pl_lens : Lens 1 (plO 0) plZ plB := by
  intro i hi
  obtain rfl : i = 0 := by omega
  refine ⟨rfl, rfl, fun x hx => ?_, fun x hx => ?_⟩
  · simp only [plZ, List.mem_cons, List.not_mem_nil, or_false] at hx; omega
  · simp only [plB, List.mem_cons, List.not_mem_nil, or_false] at hx; omega
theorem put_0 : putR 0 = [0] := putR_lt (by omega)
theorem put_1 : putR 1 = [1] := putR_lt (by omega)
theorem put_2 : putR 2 = [2] := putR_lt (by omega)
theorem put_3 : putR 3 = [3] := putR_lt (by omega)
theorem put_6 : putR 6 = [6] := putR_lt (by omega)
theorem put_254 : putR 254 = [254, 1] := by rw [putR_ge (by omega), show (254 : Nat) / 128 = 1 from rfl, put_1]; rfl
theorem put_255 : putR 255 = [255, 1] := by rw [putR_ge (by omega), show (255 : Nat) / 128 = 1 from rfl, put_1]; rfl
theorem u64_0 : u64 0 = 0 := u64_of (by omega) (by omega)
theorem u64_1 : u64 1 = 1 := u64_of (by omega) (by omega)
theorem u64_2 : u64 2 = 2 := u64_of (by omega) (by omega)
theorem fo_m128 : foldR (-128) = 255 := by decide
theorem fo_127 : foldR 127 = 254 := by decide
theorem fo_3 : foldR 3 = 6 := by decide
theorem fo_m2 : foldR (-2) = 3 := by decide
theorem fo_1 : foldR 1 = 2 := by decide
theorem fo_0 : foldR 0 = 0 := by decide
theorem pl_bytes : eAll plM = bytes40 := by
  have hO : dOp (plO 0 0) (plZ 0) (plB 0) = ⟨[1, 0, 0, 1, 0, 0, 0, 0, 0, 0, 0, 0], [3, -2], [1], [1, 0, 0, 0], [0, 0, -128, 127]⟩ := rfl
  unfold eAll eMod plM dMod
  rw [dOps_len]
  have hD : dOps (plO 0) plZ plB 1 = [⟨[1, 0, 0, 1, 0, 0, 0, 0, 0, 0, 0, 0], [3, -2], [1], [1, 0, 0, 0], [0, 0, -128, 127]⟩] := rfl
  simp only [hD, eOps, List.flatMap_cons, List.flatMap_nil, eOp, eU, eS, u64_0, u64_1, u64_2, fo_m128, fo_127, fo_3, fo_m2, fo_1, fo_0, put_0, put_1, put_2, put_3, put_6, put_254, put_255, List.length_cons, List.length_nil, Nat.zero_add, List.append_nil, List.cons_append, List.nil_append, head4, Nat.reduceAdd]
  rfl
theorem irow_blk {k : IntKind} {w : World} {b : Nat} {T : TypeId} (zs : List Int) (h : w.heap[b]? = some (.cells (zs.map (Value.int k)).toArray T (0, 0))) (hw : ∀ z ∈ zs, (Lit.int k z).wf = true) (hm : zs.length ≤ 1000) : IRow k w (some ⟨b, 0, none⟩) zs.length zs.length zs := by
  refine ⟨rfl, Nat.le_refl _, by unfold maxLen; omega, hw, fun h => (by cases h), fun x hx i hi => ?_⟩
  cases hx
  rw [Addr.add_lit, Nat.zero_add, (cells_at h).1]
  simp [List.getD, hi]
theorem row_blk {w : World} {b : Nat} {T : TypeId} (zs : List Int) (h : w.heap[b]? = some (.cells (zs.map (Value.int .u8)).toArray T (0, 0))) (hw : Byt zs) (hm : zs.length ≤ 1000) : Wr.Row w (some ⟨b, 0, none⟩) zs.length zs.length zs := by
  refine ⟨rfl, Nat.le_refl _, by unfold maxLen; omega, hw, fun h => (by cases h), fun x hx i hi => ?_⟩
  cases hx
  rw [Addr.add_lit, Nat.zero_add, (cells_at h).1]
  simp [List.getD, hi]
theorem pl_lrow {w : World} {g p q : Nat} (h : w.heap[g]? = some (.cells #[.int .i64 1, .int .i64 0, .int .i64 0, .int .i64 1, .int .i64 0, .int .i64 0, .int .i64 0, .int .i64 0, .int .i64 0, .int .i64 0, .int .i64 0, .int .i64 0, .slice (some ⟨p, 0, none⟩) 2 2, .slice (some ⟨q, 0, none⟩) 1 1, .int .i64 1, .int .i64 0, .int .i64 0, .int .i64 0, .int .i64 0, .int .i64 0, .int .i64 (-128), .int .i64 127] 55 (0, 0))) (hp : w.heap[p]? = some (.cells #[.int .i16 3, .int .i16 (-2)] 82 (0, 0))) (hq : w.heap[q]? = some (.cells #[.int .i32 1] 21 (0, 0))) : LRow w (some ⟨g, 0, none⟩) 1 1 (plO 0) plZ plB := by
  refine ⟨Nat.le_refl _, by unfold maxLen; omega, fun h => (by cases h), fun x hx i hi => ?_⟩
  cases hx
  obtain rfl : i = 0 := by omega
  refine ⟨some ⟨p, 0, none⟩, 2, 2, some ⟨q, 0, none⟩, 1, 1, rfl, rfl, fun j v hj => ?_, irow_blk [3, -2] hp (fun z hz => ?_) (by simp), irow_blk [1] hq (fun z hz => ?_) (by simp), by omega, by omega⟩
  · rw [Nat.zero_mul, Addr.add_lit, Addr.add_lit, (cells_at h).1, ← hj]
    simp [opl, plO]
  · simp only [List.mem_cons, List.not_mem_nil, or_false] at hz
    rcases hz with rfl | rfl <;> rfl
  · simp only [List.mem_cons, List.not_mem_nil, or_false] at hz
    subst hz; rfl
theorem b40_byt : Byt bytes40 := by
  intro z hz
  simp only [bytes40, List.mem_cons, List.not_mem_nil, or_false] at hz
  omega
set_option maxHeartbeats 2000000 in
set_option maxRecDepth 100000 in
theorem plain9_any (W : World) :
    Calls Tryz.prog 20 #[] W fun e w' => ∃ g b : Nat, e = .returned (.tuple #[.agg #[.int .i64 1, .int .i64 1, .int .i64 2, .int .i64 (-128), .int .i64 127, .slice (some ⟨g, 0, none⟩) 1 1, .int .i64 1], .slice (some ⟨b, 0, none⟩) 40 40]) ∧ LRow w' (some ⟨g, 0, none⟩) 1 1 (plO 0) plZ plB ∧ Wr.Row w' (some ⟨b, 0, none⟩) 40 40 bytes40 ∧ Below W.heap.size W w' := by
  go_enter Tryz.func20, Tryz.ntmps20
  go_wp2
  have s1 := (((St.start W).new (c := #[.int .i64 1, .int .i64 1, .int .i64 2, .int .i64 (-128), .int .i64 127, .slice (some ⟨W.heap.size + 1 + 1 + 1, 0, none⟩) 1 1, .int .i64 1]) (t := 27)).new (c := #[.int .i16 3, .int .i16 (-2)]) (t := 82)).new (c := #[.int .i32 1]) (t := 21)
  simp only [World.size_alloc] at s1
  have s2 := ((s1.new (c := #[.int .i64 1, .int .i64 0, .int .i64 0, .int .i64 1, .int .i64 0, .int .i64 0, .int .i64 0, .int .i64 0, .int .i64 0, .int .i64 0, .int .i64 0, .int .i64 0, .slice (some ⟨W.heap.size + 1, 0, none⟩) 2 2, .slice (some ⟨W.heap.size + 1 + 1, 0, none⟩) 1 1, .int .i64 1, .int .i64 0, .int .i64 0, .int .i64 0, .int .i64 0, .int .i64 0, .int .i64 (-128), .int .i64 127]) (t := 55)).new (c := #[.int .i64 1, .int .i64 1, .int .i64 2, .int .i64 (-128), .int .i64 127, .slice (some ⟨W.heap.size + 1 + 1 + 1, 0, none⟩) 1 1, .int .i64 1]) (t := 27)).new (c := #[.int .u8 83, .int .u8 87, .int .u8 77, .int .u8 49, .int .u8 1, .int .u8 1, .int .u8 2, .int .u8 255, .int .u8 1, .int .u8 254, .int .u8 1, .int .u8 1, .int .u8 1, .int .u8 0, .int .u8 0, .int .u8 1, .int .u8 0, .int .u8 0, .int .u8 0, .int .u8 0, .int .u8 0, .int .u8 0, .int .u8 0, .int .u8 0, .int .u8 2, .int .u8 6, .int .u8 3, .int .u8 1, .int .u8 2, .int .u8 1, .int .u8 0, .int .u8 0, .int .u8 0, .int .u8 0, .int .u8 0, .int .u8 255, .int .u8 1, .int .u8 254, .int .u8 1, .int .u8 1]) (t := 5)
  simp only [World.size_alloc] at s2
  refine bodyPost_ret (v := .tuple #[.agg #[.int .i64 1, .int .i64 1, .int .i64 2, .int .i64 (-128), .int .i64 127, .slice (some ⟨W.heap.size + 1 + 1 + 1, 0, none⟩) 1 1, .int .i64 1], .slice (some ⟨W.heap.size + 1 + 1 + 1 + 1 + 1, 0, none⟩) 40 40]) (by simp [results, Tryz.results20, go_sem]) rfl ⟨W.heap.size + 1 + 1 + 1, W.heap.size + 1 + 1 + 1 + 1 + 1, rfl, pl_lrow (p := W.heap.size + 1) (q := W.heap.size + 1 + 1) s2.h3 s2.tail.h4 s2.h4, row_blk bytes40 s2.h1 b40_byt (by simp [bytes40]), s2.below⟩
end Go.Proofs.YthagdpiocmcbmaaGreat
