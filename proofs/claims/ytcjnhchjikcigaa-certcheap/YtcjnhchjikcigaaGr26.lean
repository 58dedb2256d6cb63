/- What Cost of package cert returns; one and fixed of law15. What fixed of law15 returns. The walk of CertBlocks. -/
import Derived.Test.YtcjnhchjikcigaaGr22
import Derived.Test.YtcjnhchjikcigaaGr25
/- What Cost of package cert returns; one and fixed of law15. -/
namespace Go.Proofs.Ytcjnhchjikcigaa
open Go.ChangeShapes Go.WideShapes Go.ChangeAt Go.RowKit
set_option linter.unusedVariables false
theorem ccost_any (h w c lo hi ot : Int) (oa : Option Addr) (on oc : Nat) (O : Nat → Nat → Int) (Z B : Nat → List Int) (ra : Option Addr) (rn rc : Nat) (R : List (Int × Int)) (pa : Option Addr) (pn pc : Nat) (P : List (List Pl)) (W : World) (hL : LRow W oa on oc O Z B) (hR : ERow 2 scs W ra rn rc R) (hP : QRow W pa pn pc P) (hrn : rn ≤ 140737488351232) (hpn : pn ≤ 140737488351232) (Re Ra Rw : Int) (RL : List (Int × Int × Int)) (hG : gtR O h w c lo hi ot on = (Re, Ra, RL, Rw)) (x1 x2 x3 : Int) (hX : foE Re Ra on (nuP O RL) R P = (x1, x2, x3)) (y1 y2 y3 y4 e1 e2 e3 : Int) (hY : csE (x1, x2, x3) (leN O RL) (poN RL) P = ((y1, y2, y3, y4), e1, e2, e3)) :
    Calls Try.prog 9 #[.agg #[.int .i64 h, .int .i64 w, .int .i64 c, .int .i64 lo, .int .i64 hi, .slice oa on oc, .int .i64 ot], .agg #[.slice ra rn rc, .slice pa pn pc]] W fun e w' => e = .returned (.tuple #[.agg #[.int .i64 y1, .int .i64 y2, .int .i64 y3, .int .i64 y4, .int .i64 0, .int .i64 0, .int .i64 0, .int .i64 0, .int .i64 0], .agg #[.int .i64 e1, .int .i64 e2, .int .i64 e3]]) ∧ Below W.heap.size W w' := by
  by_cases h0 : x1 = 0
  · subst h0
    have ht : Re = 0 → Ra = 0 := fun e => by subst e; exact (gtR_st hG).2.1
    obtain ⟨q1, rfl, q3, q4, -, -⟩ := foE_0 (show (foE Re Ra on (nuP O RL) R P).1 = 0 by rw [hX]) ht
    obtain rfl : Ra = 0 := ht rfl
    rw [hX] at q1
    simp only [Prod.mk.injEq, true_and] at q1
    obtain ⟨rfl, rfl⟩ := q1
    obtain rfl : on = pn := by rw [← q4, hP.1]
    unfold csE at hY
    rw [if_neg (by simp)] at hY
    exact ccost_w h w c lo hi ot oa on oc O Z B ra rn rc R pa pc P W hL hR hP hrn Rw RL hG hX y1 y2 y3 y4 e1 e2 e3 hY
  · unfold csE at hY
    rw [if_pos (by simpa using h0)] at hY
    simp only [Prod.mk.injEq] at hY
    obtain ⟨⟨rfl, rfl, rfl, rfl⟩, rfl, rfl, rfl⟩ := hY
    exact ccost_f h w c lo hi ot oa on oc O ra rn rc R pa pn pc P W hL.m hR hP hrn hpn Re Ra Rw RL hG x1 x2 x3 hX h0
/-! ### The law's own example -/
def plZ (_ : Nat) : List Int := [3, -2]
def plB (_ : Nat) : List Int := [1]
def plR : List (Int × Int) := [(0, 10), (-19, 31)]
def plY : List (Int × Int) := [(0, 10), (-19, 200)]
def plP : List (List Pl) := [[(16, 2, -20, 30, -19, 31)]]
theorem irow_blk {k : IntKind} {w : World} {b : Nat} {T : TypeId} (zs : List Int) (h : w.heap[b]? = some (.cells (zs.map (Value.int k)).toArray T (0, 0))) (hw : ∀ z ∈ zs, (Lit.int k z).wf = true) (hm : zs.length ≤ 1000) : IRow k w (some ⟨b, 0, none⟩) zs.length zs.length zs := by
  refine ⟨rfl, Nat.le_refl _, by unfold maxLen; omega, hw, fun h => (by cases h), fun x hx i hi => ?_⟩
  cases hx
  rw [Addr.add_lit, Nat.zero_add, (cells_at h).1]
  simp [List.getD, hi]
theorem pl_lrow {w : World} {g p q : Nat} (h : w.heap[g]? = some (.cells #[.int .i64 1, .int .i64 0, .int .i64 0, .int .i64 1, .int .i64 0, .int .i64 0, .int .i64 0, .int .i64 0, .int .i64 0, .int .i64 0, .int .i64 0, .int .i64 0, .slice (some ⟨p, 0, none⟩) 2 2, .slice (some ⟨q, 0, none⟩) 1 1, .int .i64 1, .int .i64 0, .int .i64 0, .int .i64 0, .int .i64 0, .int .i64 0, .int .i64 (-128), .int .i64 127] 70 (0, 0))) (hp : w.heap[p]? = some (.cells #[.int .i16 3, .int .i16 (-2)] 102 (0, 0))) (hq : w.heap[q]? = some (.cells #[.int .i32 1] 21 (0, 0))) : LRow w (some ⟨g, 0, none⟩) 1 1 (plO 0) plZ plB := by
  refine ⟨Nat.le_refl _, by unfold maxLen; omega, fun h => (by cases h), fun x hx i hi => ?_⟩
  cases hx
  obtain rfl : i = 0 := by omega
  refine ⟨some ⟨p, 0, none⟩, 2, 2, some ⟨q, 0, none⟩, 1, 1, rfl, rfl, fun j v hj => ?_, irow_blk [3, -2] hp (fun z hz => ?_) (by simp), irow_blk [1] hq (fun z hz => ?_) (by simp), by omega, by omega⟩
  · rw [Nat.zero_mul, Addr.add_lit, Addr.add_lit, (cells_at h).1, ← hj]
    simp [opl, plO]
  · simp only [List.mem_cons, List.not_mem_nil, or_false] at hz
    rcases hz with rfl | rfl <;> rfl
  · simp only [List.mem_cons, List.not_mem_nil, or_false] at hz
    subst hz; rfl
theorem pl_g : gtR (plO 0) 1 1 2 0 10 1 1 = (0, 0, [(1, 1, 2), (1, 1, 1)], 2) := by decide
theorem pl_fo : foE 0 0 1 (nuP (plO 0) [(1, 1, 2), (1, 1, 1)]) plR plP = (0, 0, 0) := by decide
theorem pl_fy : foE 0 0 1 (nuP (plO 0) [(1, 1, 2), (1, 1, 1)]) plY plP = (30, 1, 0) := by decide
theorem pl_cs : csE (0, 0, 0) (leN (plO 0) [(1, 1, 2), (1, 1, 1)]) (poN [(1, 1, 2), (1, 1, 1)]) plP = ((2, 2, 0, 1), 0, 0, 0) := by decide
/-- Spans that lie in one block. -/
theorem erow_blk {w : World} {b : Nat} {T : TypeId} {a1 a2 b1 b2 : Int} (h : w.heap[b]? = some (.cells #[.int .i64 a1, .int .i64 a2, .int .i64 b1, .int .i64 b2] T (0, 0))) : ERow 2 scs w (some ⟨b, 0, none⟩) 2 2 [(a1, a2), (b1, b2)] := by
  refine ⟨rfl, Nat.le_refl _, by unfold maxLen; omega, fun h => (by cases h), fun x hx i p hp j v hv => ?_⟩
  cases hx
  rw [Addr.add_lit, Nat.zero_add, Addr.add_lit, (cells_at h).1]
  match i, hp with
  | 0, hp =>
    simp only [List.getElem?_cons_zero, Option.some.injEq] at hp
    subst hp
    match j, hv with
    | 0, hv => simpa [scs] using hv
    | 1, hv => simpa [scs] using hv
    | j + 2, hv => simp [scs] at hv
  | 1, hp =>
    simp only [List.getElem?_cons_succ, List.getElem?_cons_zero, Option.some.injEq] at hp
    subst hp
    match j, hv with
    | 0, hv => simpa [scs] using hv
    | 1, hv => simpa [scs] using hv
    | j + 2, hv => simp [scs] at hv
  | i + 2, hp => simp at hp
theorem qrow_blk {w : World} {b d : Nat} {T U : TypeId} (h : w.heap[b]? = some (.cells #[.slice (some ⟨d, 0, none⟩) 1 1] T (0, 0))) (hd : w.heap[d]? = some (.cells #[.int .i64 16, .int .i64 2, .int .i64 (-20), .int .i64 30, .int .i64 (-19), .int .i64 31] U (0, 0))) : QRow w (some ⟨b, 0, none⟩) 1 1 plP := by
  refine ⟨rfl, Nat.le_refl _, by unfold maxLen; omega, fun h => (by cases h), fun x hx i l hl => ?_⟩
  cases hx
  match i, hl with
  | 0, hl =>
    simp only [plP, List.getElem?_cons_zero, Option.some.injEq] at hl
    subst hl
    refine ⟨some ⟨d, 0, none⟩, 1, ?_, ⟨rfl, Nat.le_refl _, by unfold maxLen; omega, fun h => (by cases h), fun x hx i p hp j v hv => ?_⟩, by simp⟩
    · rw [Addr.add_lit, (cells_at h).1]; rfl
    · cases hx
      match i, hp with
      | 0, hp =>
        simp only [List.getElem?_cons_zero, Option.some.injEq] at hp
        subst hp
        rw [Addr.add_lit, Addr.add_lit, (cells_at hd).1]
        simpa [pcs] using hv
      | i + 1, hp => simp at hp
  | i + 1, hl => simp [plP] at hl
/-- What one returns: the blocks of a model and of a certificate. -/
def One (w : World) (g r s : Nat) : Prop := ∃ p q d : Nat, w.heap[g]? = some (.cells #[.int .i64 1, .int .i64 0, .int .i64 0, .int .i64 1, .int .i64 0, .int .i64 0, .int .i64 0, .int .i64 0, .int .i64 0, .int .i64 0, .int .i64 0, .int .i64 0, .slice (some ⟨p, 0, none⟩) 2 2, .slice (some ⟨q, 0, none⟩) 1 1, .int .i64 1, .int .i64 0, .int .i64 0, .int .i64 0, .int .i64 0, .int .i64 0, .int .i64 (-128), .int .i64 127] 70 (0, 0)) ∧ w.heap[p]? = some (.cells #[.int .i16 3, .int .i16 (-2)] 102 (0, 0)) ∧ w.heap[q]? = some (.cells #[.int .i32 1] 21 (0, 0)) ∧ w.heap[s]? = some (.cells #[.slice (some ⟨d, 0, none⟩) 1 1] 56 (0, 0)) ∧ w.heap[d]? = some (.cells #[.int .i64 16, .int .i64 2, .int .i64 (-20), .int .i64 30, .int .i64 (-19), .int .i64 31] 61 (0, 0))
set_option maxHeartbeats 4000000 in
set_option maxRecDepth 100000 in
theorem one15_any (W : World) :
    Calls Try.prog 28 #[] W fun e w' => ∃ g r s : Nat, e = .returned (.agg #[.int .i64 1, .int .i64 1, .int .i64 2, .int .i64 0, .int .i64 10, .slice (some ⟨g, 0, none⟩) 1 1, .int .i64 1, .slice (some ⟨r, 0, none⟩) 2 2, .slice (some ⟨s, 0, none⟩) 1 1]) ∧ One w' g r s ∧ w'.heap[r]? = some (.cells #[.int .i64 0, .int .i64 10, .int .i64 (-19), .int .i64 31] 59 (0, 0)) ∧ W.heap.size ≤ r ∧ Below W.heap.size W w' := by
  go_enter Try.func28, Try.ntmps28
  go_wp2
  have s1 := ((((((((St.start W).new (c := #[.int .i64 1, .int .i64 1, .int .i64 2, .int .i64 0, .int .i64 10, .slice (some ⟨W.heap.size + 1 + 1 + 1, 0, none⟩) 1 1, .int .i64 1, .slice (some ⟨W.heap.size + 1 + 1 + 1 + 1 + 1, 0, none⟩) 2 2, .slice (some ⟨W.heap.size + 1 + 1 + 1 + 1 + 1 + 1 + 1, 0, none⟩) 1 1]) (t := 32)).new (c := #[.int .i16 3, .int .i16 (-2)]) (t := 102)).new (c := #[.int .i32 1]) (t := 21)).new (c := #[.int .i64 1, .int .i64 0, .int .i64 0, .int .i64 1, .int .i64 0, .int .i64 0, .int .i64 0, .int .i64 0, .int .i64 0, .int .i64 0, .int .i64 0, .int .i64 0, .slice (some ⟨W.heap.size + 1, 0, none⟩) 2 2, .slice (some ⟨W.heap.size + 1 + 1, 0, none⟩) 1 1, .int .i64 1, .int .i64 0, .int .i64 0, .int .i64 0, .int .i64 0, .int .i64 0, .int .i64 (-128), .int .i64 127]) (t := 70)).new (c := #[.int .i64 1, .int .i64 1, .int .i64 2, .int .i64 0, .int .i64 10, .slice (some ⟨W.heap.size + 1 + 1 + 1, 0, none⟩) 1 1, .int .i64 1]) (t := 26)).new (c := #[.int .i64 0, .int .i64 10, .int .i64 (-19), .int .i64 31]) (t := 59)).new (c := #[.int .i64 16, .int .i64 2, .int .i64 (-20), .int .i64 30, .int .i64 (-19), .int .i64 31]) (t := 61)).new (c := #[.slice (some ⟨W.heap.size + 1 + 1 + 1 + 1 + 1 + 1, 0, none⟩) 1 1]) (t := 56)
  simp only [World.size_alloc] at s1
  have s2 := s1.skip (.cells #[.slice (some ⟨W.heap.size + 1 + 1 + 1 + 1 + 1, 0, none⟩) 2 2, .slice (some ⟨W.heap.size + 1 + 1 + 1 + 1 + 1 + 1 + 1, 0, none⟩) 1 1] 30)
  exact bodyPost_ret (v := .agg #[.int .i64 1, .int .i64 1, .int .i64 2, .int .i64 0, .int .i64 10, .slice (some ⟨W.heap.size + 1 + 1 + 1, 0, none⟩) 1 1, .int .i64 1, .slice (some ⟨W.heap.size + 1 + 1 + 1 + 1 + 1, 0, none⟩) 2 2, .slice (some ⟨W.heap.size + 1 + 1 + 1 + 1 + 1 + 1 + 1, 0, none⟩) 1 1]) (by simp [results, Try.results28, go_sem]) rfl ⟨_, _, _, rfl, ⟨_, _, _, s2.tail.tail.tail.tail.h1, s2.tail.tail.tail.tail.tail.tail.h1, s2.tail.tail.tail.tail.tail.h1, s2.h1, s2.h2⟩, s2.h3, by omega, s2.below⟩
end Go.Proofs.Ytcjnhchjikcigaa

/- What fixed of law15 returns. -/
namespace Go.Proofs.Ytcjnhchjikcigaa
open Go.ChangeShapes Go.WideShapes Go.ChangeAt Go.RowKit
set_option linter.unusedVariables false
section
variable {P : Program} {ops : Array Oper} {md : Region.Mode} {C : World → Prop} {Q : Exit → Act → World → Prop} {fuel : Nat} {listed : Array Bool} {a : Act} {w : World} {o : Oper}
/-- A call, guarded or not. -/
theorem zK (i : Nat) (hC : C w) (hr : Region.ready md ops listed = [i]) (ho : ops[i]? = some o) (hw : Region.wanted o (yielded ops a.tmps) = true)
    (f : FuncId) (args : Array Value) (hrun : (execOp a.eval o).run P w = .ok (.enter f args) w) {R : Ending → World → Prop} (hcall : Calls P f args w R)
    (h : ∀ e w', R e w' → ∃ v, e = .returned v ∧ wpAnyC Fence.wide 3 P md ops C Q fuel (listed.setIfInBounds i true) (a.put o.dst v) w') : wpAnyC Fence.wide 3 P md ops C Q (fuel + 1) listed a w :=
  stepC i hC hr ho fun K hK => by
    rw [if_pos hw]
    refine wpIn_of_wp ?_
    unfold Oper.wp
    rw [hrun]
    refine Calls.mono hcall fun e w' he => ?_
    obtain ⟨v, rfl, h2⟩ := h e w' he
    exact hK _ _ h2
end
theorem One.below {w w' : World} {g r s : Nat} (h : One w g r s) (q : Below w.heap.size w w') : One w' g r s := by
  obtain ⟨p, q', d, h1, h2, h3, h4, h5⟩ := h
  exact ⟨p, q', d, (q.block _ (lt_of_heap h1)).trans h1, (q.block _ (lt_of_heap h2)).trans h2, (q.block _ (lt_of_heap h3)).trans h3, (q.block _ (lt_of_heap h4)).trans h4, (q.block _ (lt_of_heap h5)).trans h5⟩
theorem One.put {w : World} {g r s B i : Nat} {cs : Array Value} {v : Value} (h : One w g r s) (hB : w.heap[B]? = some (.cells cs 59 (0, 0))) : One (w.setCell ⟨B, i, none⟩ v) g r s := by
  obtain ⟨p, q', d, h1, h2, h3, h4, h5⟩ := h
  exact ⟨p, q', d, (Below.heap_setCell _ _ _ _ (ne_of_ty h1 hB (by decide))).trans h1, (Below.heap_setCell _ _ _ _ (ne_of_ty h2 hB (by decide))).trans h2, (Below.heap_setCell _ _ _ _ (ne_of_ty h3 hB (by decide))).trans h3, (Below.heap_setCell _ _ _ _ (ne_of_ty h4 hB (by decide))).trans h4, (Below.heap_setCell _ _ _ _ (ne_of_ty h5 hB (by decide))).trans h5⟩
theorem One.l {w : World} {g r s : Nat} (h : One w g r s) : LRow w (some ⟨g, 0, none⟩) 1 1 (plO 0) plZ plB := by
  obtain ⟨p, q', d, h1, h2, h3, h4, h5⟩ := h
  exact pl_lrow h1 h2 h3
theorem One.q {w : World} {g r s : Nat} (h : One w g r s) : QRow w (some ⟨s, 0, none⟩) 1 1 plP := by
  obtain ⟨p, q', d, h1, h2, h3, h4, h5⟩ := h
  exact qrow_blk h4 h5
theorem blk_below {w w' : World} {B : Nat} {o : Obj} (h : w.heap[B]? = some o) (q : Below w.heap.size w w') : w'.heap[B]? = some o := (q.block _ (lt_of_heap h)).trans h
theorem one_cost {w : World} {g r s : Nat} (h : One w g r s) (hr : w.heap[r]? = some (.cells #[.int .i64 0, .int .i64 10, .int .i64 (-19), .int .i64 31] 59 (0, 0))) :
    Calls Try.prog 9 #[.agg #[.int .i64 1, .int .i64 1, .int .i64 2, .int .i64 0, .int .i64 10, .slice (some ⟨g, 0, none⟩) 1 1, .int .i64 1], .agg #[.slice (some ⟨r, 0, none⟩) 2 2, .slice (some ⟨s, 0, none⟩) 1 1]] w fun e w' => e = .returned (.tuple #[.agg #[.int .i64 2, .int .i64 2, .int .i64 0, .int .i64 1, .int .i64 0, .int .i64 0, .int .i64 0, .int .i64 0, .int .i64 0], .agg #[.int .i64 0, .int .i64 0, .int .i64 0]]) ∧ Below w.heap.size w w' :=
  ccost_any 1 1 2 0 10 1 (some ⟨g, 0, none⟩) 1 1 (plO 0) plZ plB (some ⟨r, 0, none⟩) 2 2 plR (some ⟨s, 0, none⟩) 1 1 plP w h.l (erow_blk hr) h.q (by omega) (by omega) 0 0 2 _ pl_g 0 0 0 pl_fo 2 2 0 1 0 0 0 pl_cs
theorem one_form {w : World} {g r s : Nat} (h : One w g r s) (hr : w.heap[r]? = some (.cells #[.int .i64 0, .int .i64 10, .int .i64 (-19), .int .i64 31] 59 (0, 0))) :
    Calls Try.prog 12 #[.agg #[.int .i64 1, .int .i64 1, .int .i64 2, .int .i64 0, .int .i64 10, .slice (some ⟨g, 0, none⟩) 1 1, .int .i64 1], .agg #[.slice (some ⟨r, 0, none⟩) 2 2, .slice (some ⟨s, 0, none⟩) 1 1]] w fun e w' => e = .returned (.agg #[.int .i64 0, .int .i64 0, .int .i64 0]) ∧ Below w.heap.size w w' :=
  cform_any 1 1 2 0 10 1 (some ⟨g, 0, none⟩) 1 1 (plO 0) (some ⟨r, 0, none⟩) 2 2 plR (some ⟨s, 0, none⟩) 1 1 plP w h.l.m (erow_blk hr) h.q (by omega) (by omega) 0 0 2 _ pl_g 0 0 0 pl_fo
theorem one_formY {w : World} {g r s : Nat} (h : One w g r s) (hr : w.heap[r]? = some (.cells #[.int .i64 0, .int .i64 10, .int .i64 (-19), .int .i64 200] 59 (0, 0))) :
    Calls Try.prog 12 #[.agg #[.int .i64 1, .int .i64 1, .int .i64 2, .int .i64 0, .int .i64 10, .slice (some ⟨g, 0, none⟩) 1 1, .int .i64 1], .agg #[.slice (some ⟨r, 0, none⟩) 2 2, .slice (some ⟨s, 0, none⟩) 1 1]] w fun e w' => e = .returned (.agg #[.int .i64 30, .int .i64 1, .int .i64 0]) ∧ Below w.heap.size w w' :=
  cform_any 1 1 2 0 10 1 (some ⟨g, 0, none⟩) 1 1 (plO 0) (some ⟨r, 0, none⟩) 2 2 plY (some ⟨s, 0, none⟩) 1 1 plP w h.l.m (erow_blk hr) h.q (by omega) (by omega) 0 0 2 _ pl_g 30 1 0 pl_fy
theorem one_same {w : World} {g r s g' r' s' : Nat} (h : One w g r s) (hr : w.heap[r]? = some (.cells #[.int .i64 0, .int .i64 10, .int .i64 (-19), .int .i64 31] 59 (0, 0))) (h' : One w g' r' s') (hr' : w.heap[r']? = some (.cells #[.int .i64 0, .int .i64 10, .int .i64 (-19), .int .i64 31] 59 (0, 0))) :
    Calls Try.prog 16 #[.agg #[.slice (some ⟨r, 0, none⟩) 2 2, .slice (some ⟨s, 0, none⟩) 1 1], .agg #[.slice (some ⟨r', 0, none⟩) 2 2, .slice (some ⟨s', 0, none⟩) 1 1]] w fun e w' => e = .returned (.bool true) ∧ Below w.heap.size w w' := by
  have := csame_any (some ⟨r, 0, none⟩) 2 2 plR (some ⟨s, 0, none⟩) 1 1 plP (some ⟨r', 0, none⟩) 2 2 plR (some ⟨s', 0, none⟩) 1 1 plP w (erow_blk hr) h.q (erow_blk hr') h'.q
  rwa [ceB_t] at this
theorem one_sameY {w : World} {g r s g' r' s' : Nat} (h : One w g r s) (hr : w.heap[r]? = some (.cells #[.int .i64 0, .int .i64 10, .int .i64 (-19), .int .i64 31] 59 (0, 0))) (h' : One w g' r' s') (hr' : w.heap[r']? = some (.cells #[.int .i64 0, .int .i64 10, .int .i64 (-19), .int .i64 200] 59 (0, 0))) :
    Calls Try.prog 16 #[.agg #[.slice (some ⟨r, 0, none⟩) 2 2, .slice (some ⟨s, 0, none⟩) 1 1], .agg #[.slice (some ⟨r', 0, none⟩) 2 2, .slice (some ⟨s', 0, none⟩) 1 1]] w fun e w' => e = .returned (.bool false) ∧ Below w.heap.size w w' := by
  have := csame_any (some ⟨r, 0, none⟩) 2 2 plR (some ⟨s, 0, none⟩) 1 1 plP (some ⟨r', 0, none⟩) 2 2 plY (some ⟨s', 0, none⟩) 1 1 plP w (erow_blk hr) h.q (erow_blk hr') h'.q
  rwa [ceB_n (by decide)] at this
theorem part_cells {w : World} {B : Nat} {cs : Array Value} {T : TypeId} (h : w.heap[B]? = some (.cells cs T (0, 0))) (n : Nat) (l : List Value) (hl : ∀ (q : Nat) (v : Value), l[q]? = some v → cs[n + q]? = some v) : ∀ (q : Nat) (v : Value), l[q]? = some v → w.cell? ((⟨B, n, none⟩ : Addr).add q) = some v := fun q v hq => by
  rw [Addr.add_lit, (cells_at h).1]
  exact hl q v hq
theorem sub_at (l m r : List Value) : ∀ (q : Nat) (v : Value), m[q]? = some v → (l ++ m ++ r).toArray[l.length + q]? = some v := fun q v hq => by
  have := (List.getElem?_eq_some_iff.1 hq).1
  rw [List.getElem?_toArray, List.append_assoc, List.getElem?_append_right (by omega), show l.length + q - l.length = q by omega, List.getElem?_append_left this]
  exact hq
/-- What the last region of fixed meets: the boxes, the blocks of both examples. -/
def Fx5 (w : World) (B1 B2 B3 B6 g r s g' r' s' : Nat) : Prop := w.heap[B1]? = some (.cells #[.int .i64 1, .int .i64 1, .int .i64 2, .int .i64 0, .int .i64 10, .slice (some ⟨g, 0, none⟩) 1 1, .int .i64 1, .slice (some ⟨r, 0, none⟩) 2 2, .slice (some ⟨s, 0, none⟩) 1 1] 32 (0, 0)) ∧ w.heap[B2]? = some (.cells #[.int .i64 2, .int .i64 2, .int .i64 0, .int .i64 1, .int .i64 0, .int .i64 0, .int .i64 0, .int .i64 0, .int .i64 0] 36 (0, 0)) ∧ w.heap[B3]? = some (.cells #[.int .i64 0, .int .i64 0, .int .i64 0] 39 (0, 0)) ∧ w.heap[B6]? = some (.cells #[.int .i64 1, .int .i64 1, .int .i64 2, .int .i64 0, .int .i64 10, .slice (some ⟨g', 0, none⟩) 1 1, .int .i64 1, .slice (some ⟨r', 0, none⟩) 2 2, .slice (some ⟨s', 0, none⟩) 1 1] 32 (0, 0)) ∧ One w g r s ∧ w.heap[r]? = some (.cells #[.int .i64 0, .int .i64 10, .int .i64 (-19), .int .i64 31] 59 (0, 0)) ∧ One w g' r' s' ∧ w.heap[r']? = some (.cells #[.int .i64 0, .int .i64 10, .int .i64 (-19), .int .i64 200] 59 (0, 0))
theorem Fx5.below {w w' : World} {B1 B2 B3 B6 g r s g' r' s' : Nat} (h : Fx5 w B1 B2 B3 B6 g r s g' r' s') (q : Below w.heap.size w w') : Fx5 w' B1 B2 B3 B6 g r s g' r' s' := by
  obtain ⟨h1, h2, h3, h4, h5, h6, h7, h8⟩ := h
  exact ⟨blk_below h1 q, blk_below h2 q, blk_below h3 q, blk_below h4 q, h5.below q, blk_below h6 q, h7.below q, blk_below h8 q⟩
set_option maxHeartbeats 8000000 in
set_option maxRecDepth 100000 in
theorem fixed15_any (W : World) : Calls Try.prog 11 #[] W fun e w' => e = .returned (.bool true) ∧ Below W.heap.size W w' := by
  go_enter Try.func11, Try.ntmps11
  go_wp2_with fail
  refine (one15_any _).mono ?_
  rintro e w1 ⟨g, r, s, rfl, hO, hr, -, hb⟩
  have d1 : Hid (Below W.heap.size W w1) := hb
  have hO1 : Hid (One w1 g r s) := hO
  have hr1 : Hid (w1.heap[r]? = some (.cells #[.int .i64 0, .int .i64 10, .int .i64 (-19), .int .i64 31] 59 (0, 0))) := hr
  clear hO hr hb
  go_upto_region 2 with fail
  obtain ⟨B1, hB1⟩ : ∃ B1, w1.heap.size = B1 := ⟨_, rfl⟩
  obtain ⟨w2, hw2⟩ : ∃ w2, w1.alloc (.cells #[.int .i64 1, .int .i64 1, .int .i64 2, .int .i64 0, .int .i64 10, .slice (some ⟨g, 0, none⟩) 1 1, .int .i64 1, .slice (some ⟨r, 0, none⟩) 2 2, .slice (some ⟨s, 0, none⟩) 1 1] 32) = w2 := ⟨_, rfl⟩
  have b2 : Below w1.heap.size w1 w2 := by rw [← hw2]; exact bal _ _
  have x2 : w2.heap[B1]? = some (.cells #[.int .i64 1, .int .i64 1, .int .i64 2, .int .i64 0, .int .i64 10, .slice (some ⟨g, 0, none⟩) 1 1, .int .i64 1, .slice (some ⟨r, 0, none⟩) 2 2, .slice (some ⟨s, 0, none⟩) 1 1] 32 (0, 0)) := by rw [← hw2, ← hB1]; exact heap_alloc_new w1 _
  rw [hw2, hB1]
  have d2 : Hid (Below W.heap.size W w2) := bt d1.out b2
  have hO2 : Hid (One w2 g r s) := hO1.out.below b2
  have hr2 : Hid (w2.heap[r]? = some (.cells #[.int .i64 0, .int .i64 10, .int .i64 (-19), .int .i64 31] 59 (0, 0))) := blk_below hr1.out b2
  have X2 : Hid (w2.heap[B1]? = some (.cells #[.int .i64 1, .int .i64 1, .int .i64 2, .int .i64 0, .int .i64 10, .slice (some ⟨g, 0, none⟩) 1 1, .int .i64 1, .slice (some ⟨r, 0, none⟩) 2 2, .slice (some ⟨s, 0, none⟩) 1 1] 32 (0, 0))) := x2
  obtain ⟨c1, f1, z1⟩ := cells_at x2
  clear hw2 hB1 b2 x2 d1 hO1 hr1
  go_wp2_with fail
  refine (one_cost hO2.out hr2.out).mono ?_
  rintro e w3 ⟨rfl, hb⟩
  have d3 : Hid (Below W.heap.size W w3) := bt d2.out hb
  have hO3 : Hid (One w3 g r s) := hO2.out.below hb
  have hr3 : Hid (w3.heap[r]? = some (.cells #[.int .i64 0, .int .i64 10, .int .i64 (-19), .int .i64 31] 59 (0, 0))) := blk_below hr2.out hb
  have X3 : Hid (w3.heap[B1]? = some (.cells #[.int .i64 1, .int .i64 1, .int .i64 2, .int .i64 0, .int .i64 10, .slice (some ⟨g, 0, none⟩) 1 1, .int .i64 1, .slice (some ⟨r, 0, none⟩) 2 2, .slice (some ⟨s, 0, none⟩) 1 1] 32 (0, 0))) := blk_below X2.out hb
  clear hb d2 hO2 hr2 X2 c1 f1 z1
  go_upto_region 3 with fail
  obtain ⟨B2, hB2⟩ : ∃ B2, w3.heap.size = B2 := ⟨_, rfl⟩
  obtain ⟨w4, hw4⟩ : ∃ w4, (w3.alloc (.cells #[.int .i64 2, .int .i64 2, .int .i64 0, .int .i64 1, .int .i64 0, .int .i64 0, .int .i64 0, .int .i64 0, .int .i64 0] 36)).alloc (.cells #[.int .i64 0, .int .i64 0, .int .i64 0] 39) = w4 := ⟨_, rfl⟩
  have s4 := ((St.start w3).new (c := #[.int .i64 2, .int .i64 2, .int .i64 0, .int .i64 1, .int .i64 0, .int .i64 0, .int .i64 0, .int .i64 0, .int .i64 0]) (t := 36)).new (c := #[.int .i64 0, .int .i64 0, .int .i64 0]) (t := 39)
  simp only [World.size_alloc] at s4
  rw [hw4, hB2] at s4
  rw [hw4, hB2]
  have d4 : Hid (Below W.heap.size W w4) := bt d3.out s4.below
  have hO4 : Hid (One w4 g r s) := hO3.out.below s4.below
  have hr4 : Hid (w4.heap[r]? = some (.cells #[.int .i64 0, .int .i64 10, .int .i64 (-19), .int .i64 31] 59 (0, 0))) := blk_below hr3.out s4.below
  have X4 : Hid (w4.heap[B1]? = some (.cells #[.int .i64 1, .int .i64 1, .int .i64 2, .int .i64 0, .int .i64 10, .slice (some ⟨g, 0, none⟩) 1 1, .int .i64 1, .slice (some ⟨r, 0, none⟩) 2 2, .slice (some ⟨s, 0, none⟩) 1 1] 32 (0, 0))) := blk_below X3.out s4.below
  have Y4 : Hid (w4.heap[B2]? = some (.cells #[.int .i64 2, .int .i64 2, .int .i64 0, .int .i64 1, .int .i64 0, .int .i64 0, .int .i64 0, .int .i64 0, .int .i64 0] 36 (0, 0))) := s4.h2
  have Z4 : Hid (w4.heap[B2 + 1]? = some (.cells #[.int .i64 0, .int .i64 0, .int .i64 0] 39 (0, 0))) := s4.h1
  clear s4 hw4 hB2 d3 hO3 hr3 X3
  go_wp2_with fail
  refine (cblk_ok 7 3 (by decide) (by decide) (by decide) _).mono ?_
  rintro e w' ⟨rfl, hw'⟩
  rw [hw', show bkV 7 3 = 3 by decide]
  clear hw'
  go_wp2_with fail
  refine (one15_any _).mono ?_
  rintro e w5 ⟨g', r', s', rfl, hO, hr, hrb, hb⟩
  have d5 : Hid (Below W.heap.size W w5) := bt d4.out hb
  have hO5 : Hid (One w5 g r s) := hO4.out.below hb
  have hr5 : Hid (w5.heap[r]? = some (.cells #[.int .i64 0, .int .i64 10, .int .i64 (-19), .int .i64 31] 59 (0, 0))) := blk_below hr4.out hb
  have X5 : Hid (w5.heap[B1]? = some (.cells #[.int .i64 1, .int .i64 1, .int .i64 2, .int .i64 0, .int .i64 10, .slice (some ⟨g, 0, none⟩) 1 1, .int .i64 1, .slice (some ⟨r, 0, none⟩) 2 2, .slice (some ⟨s, 0, none⟩) 1 1] 32 (0, 0))) := blk_below X4.out hb
  have Y5 : Hid (w5.heap[B2]? = some (.cells #[.int .i64 2, .int .i64 2, .int .i64 0, .int .i64 1, .int .i64 0, .int .i64 0, .int .i64 0, .int .i64 0, .int .i64 0] 36 (0, 0))) := blk_below Y4.out hb
  have Z5 : Hid (w5.heap[B2 + 1]? = some (.cells #[.int .i64 0, .int .i64 0, .int .i64 0] 39 (0, 0))) := blk_below Z4.out hb
  have hO5' : Hid (One w5 g' r' s') := hO
  have hr5' : Hid (w5.heap[r']? = some (.cells #[.int .i64 0, .int .i64 10, .int .i64 (-19), .int .i64 31] 59 (0, 0))) := hr
  have hne : Hid (r ≠ r') := by have := lt_of_heap hr4.out; unfold Hid; omega
  have hWr : Hid (W.heap.size ≤ r') := Nat.le_trans d4.out.size hrb
  clear hO hr hrb hb d4 hO4 hr4 X4 Y4 Z4
  go_upto_region 5 with fail
  obtain ⟨B6, hB6⟩ : ∃ B6, w5.heap.size = B6 := ⟨_, rfl⟩
  obtain ⟨w6, hw6⟩ : ∃ w6, w5.alloc (.cells #[.int .i64 1, .int .i64 1, .int .i64 2, .int .i64 0, .int .i64 10, .slice (some ⟨g', 0, none⟩) 1 1, .int .i64 1, .slice (some ⟨r', 0, none⟩) 2 2, .slice (some ⟨s', 0, none⟩) 1 1] 32) = w6 := ⟨_, rfl⟩
  have b6 : Below w5.heap.size w5 w6 := by rw [← hw6]; exact bal _ _
  have x6 : w6.heap[B6]? = some (.cells #[.int .i64 1, .int .i64 1, .int .i64 2, .int .i64 0, .int .i64 10, .slice (some ⟨g', 0, none⟩) 1 1, .int .i64 1, .slice (some ⟨r', 0, none⟩) 2 2, .slice (some ⟨s', 0, none⟩) 1 1] 32 (0, 0)) := by rw [← hw6, ← hB6]; exact heap_alloc_new w5 _
  rw [hw6, hB6]
  obtain ⟨c6, f6, z6⟩ := cells_at x6
  obtain ⟨cr, fr, zr⟩ := cells_at (blk_below hr5'.out b6)
  have d6 : Hid (Below W.heap.size W w6) := bt d5.out b6
  have hO6 : Hid (One w6 g r s) := hO5.out.below b6
  have hr6 : Hid (w6.heap[r]? = some (.cells #[.int .i64 0, .int .i64 10, .int .i64 (-19), .int .i64 31] 59 (0, 0))) := blk_below hr5.out b6
  have X6 : Hid (w6.heap[B1]? = some (.cells #[.int .i64 1, .int .i64 1, .int .i64 2, .int .i64 0, .int .i64 10, .slice (some ⟨g, 0, none⟩) 1 1, .int .i64 1, .slice (some ⟨r, 0, none⟩) 2 2, .slice (some ⟨s, 0, none⟩) 1 1] 32 (0, 0))) := blk_below X5.out b6
  have Y6 : Hid (w6.heap[B2]? = some (.cells #[.int .i64 2, .int .i64 2, .int .i64 0, .int .i64 1, .int .i64 0, .int .i64 0, .int .i64 0, .int .i64 0, .int .i64 0] 36 (0, 0))) := blk_below Y5.out b6
  have Z6 : Hid (w6.heap[B2 + 1]? = some (.cells #[.int .i64 0, .int .i64 0, .int .i64 0] 39 (0, 0))) := blk_below Z5.out b6
  have hO6' : Hid (One w6 g' r' s') := hO5'.out.below b6
  have hr6' : Hid (w6.heap[r']? = some (.cells #[.int .i64 0, .int .i64 10, .int .i64 (-19), .int .i64 31] 59 (0, 0))) := blk_below hr5'.out b6
  have V6 : Hid (w6.heap[B6]? = some (.cells #[.int .i64 1, .int .i64 1, .int .i64 2, .int .i64 0, .int .i64 10, .slice (some ⟨g', 0, none⟩) 1 1, .int .i64 1, .slice (some ⟨r', 0, none⟩) 2 2, .slice (some ⟨s', 0, none⟩) 1 1] 32 (0, 0))) := x6
  clear hw6 hB6 b6 x6 d5 hO5 hr5 X5 Y5 Z5 hO5' hr5'
  go_upto_region 6 with fail
  have F7 : Hid (Fx5 (w6.setCell ⟨r', 3, none⟩ (.int .i64 200)) B1 B2 (B2 + 1) B6 g r s g' r' s') :=
    ⟨(Below.heap_setCell _ _ _ _ (ne_of_ty X6.out hr6'.out (by decide))).trans X6.out, (Below.heap_setCell _ _ _ _ (ne_of_ty Y6.out hr6'.out (by decide))).trans Y6.out, (Below.heap_setCell _ _ _ _ (ne_of_ty Z6.out hr6'.out (by decide))).trans Z6.out, (Below.heap_setCell _ _ _ _ (ne_of_ty V6.out hr6'.out (by decide))).trans V6.out,
      hO6.out.put hr6'.out, (Below.heap_setCell _ _ _ _ hne.out).trans hr6.out, hO6'.out.put hr6'.out, heap_setCell_at hr6'.out⟩
  have d7 : Hid (Below W.heap.size W (w6.setCell ⟨r', 3, none⟩ (.int .i64 200))) := d6.out.setCell (p := ⟨r', 3, none⟩) hWr.out _
  clear c6 f6 z6 cr fr zr d6 hO6 hr6 X6 Y6 Z6 hO6' hr6' V6 hne hWr
  obtain ⟨w7, hw7⟩ : ∃ w7, w6.setCell ⟨r', 3, none⟩ (.int .i64 200) = w7 := ⟨_, rfl⟩
  rw [hw7] at F7 d7 ⊢
  clear hw7

  have F8 : Hid (Fx5 w7.drew B1 B2 (B2 + 1) B6 g r s g' r' s') := F7.out.below (Below.refl _ _).drew
  have d8 : Hid (Below W.heap.size W w7.drew) := d7.out.drew
  refine regionC (fun w' => Fx5 w' B1 B2 (B2 + 1) B6 g r s g' r' s') (by kernel_rfl) ?_
  obtain ⟨w8, hw8⟩ : ∃ w8, w7.drew = w8 := ⟨_, rfl⟩
  rw [hw8] at F8 d8 ⊢
  clear hw8 F7 d7
  refine takeC 0 (v := .agg #[.int .i64 2, .int .i64 2, .int .i64 0, .int .i64 1, .int .i64 0, .int .i64 0, .int .i64 0, .int .i64 0, .int .i64 0]) rfl rfl (by kernel_rfl) (by kernel_rfl) (by kernel_rfl) (fun _ _ _ h => h) (fun _ => by kernel_rfl) (by kernel_rfl) (fun w' hw' => run_la 36 (.tmp 2) rfl ⟨B2, 0, none⟩ (by kernel_rfl) [.int .i64 2, .int .i64 2, .int .i64 0, .int .i64 1, .int .i64 0, .int .i64 0, .int .i64 0, .int .i64 0, .int .i64 0] _ (ecells hw'.2.1) Try.underlying36 rfl (by kernel_rfl)) ?_
  refine takeC 1 (v := .agg #[.int .i64 2, .int .i64 2, .int .i64 0, .int .i64 1, .int .i64 0, .int .i64 0, .int .i64 0, .int .i64 0, .int .i64 0]) rfl rfl (by kernel_rfl) (by kernel_rfl) (by kernel_rfl) (fun _ _ _ h => h) (fun _ => by kernel_rfl) (by kernel_rfl) (fun w' hw' => by kernel_rfl) ?_
  refine takeC 2 (v := .bool true) rfl rfl (by kernel_rfl) (by kernel_rfl) (by kernel_rfl) (fun _ _ _ h => h) (fun _ => by kernel_rfl) (by kernel_rfl) (fun w' hw' => by kernel_rfl) ?_
  refine takeC 3 (v := .bool true) rfl rfl (by kernel_rfl) (by kernel_rfl) (by kernel_rfl) (fun _ _ _ h => h) (fun _ => by kernel_rfl) (by kernel_rfl) (fun w' hw' => by kernel_rfl) ?_
  refine takeC 4 (v := .agg #[.int .i64 0, .int .i64 0, .int .i64 0]) rfl rfl (by kernel_rfl) (by kernel_rfl) (by kernel_rfl) (fun _ _ _ h => h) (fun _ => by kernel_rfl) (by kernel_rfl) (fun w' hw' => run_la 39 (.tmp 3) rfl ⟨B2 + 1, 0, none⟩ (by kernel_rfl) [.int .i64 0, .int .i64 0, .int .i64 0] _ (ecells hw'.2.2.1) Try.underlying39 rfl (by kernel_rfl)) ?_
  refine takeC 5 (v := .agg #[.int .i64 0, .int .i64 0, .int .i64 0]) rfl rfl (by kernel_rfl) (by kernel_rfl) (by kernel_rfl) (fun _ _ _ h => h) (fun _ => by kernel_rfl) (by kernel_rfl) (fun w' hw' => by kernel_rfl) ?_
  refine takeC 6 (v := .bool true) rfl rfl (by kernel_rfl) (by kernel_rfl) (by kernel_rfl) (fun _ _ _ h => h) (fun _ => by kernel_rfl) (by kernel_rfl) (fun w' hw' => by kernel_rfl) ?_
  refine takeC 7 (v := .bool true) rfl rfl (by kernel_rfl) (by kernel_rfl) (by kernel_rfl) (fun _ _ _ h => h) (fun _ => by kernel_rfl) (by kernel_rfl) (fun w' hw' => by kernel_rfl) ?_
  refine takeC 8 (v := .bool true) rfl rfl (by kernel_rfl) (by kernel_rfl) (by kernel_rfl) (fun _ _ _ h => h) (fun _ => by kernel_rfl) (by kernel_rfl) (fun w' hw' => by kernel_rfl) ?_
  refine takeC 9 (v := .int .i64 3) rfl rfl (by kernel_rfl) (by kernel_rfl) (by kernel_rfl) (fun _ _ _ h => h) (fun _ => by kernel_rfl) (by kernel_rfl) (fun w' hw' => by kernel_rfl) ?_
  refine takeC 10 (v := .bool true) rfl rfl (by kernel_rfl) (by kernel_rfl) (by kernel_rfl) (fun _ _ _ h => h) (fun _ => by kernel_rfl) (by kernel_rfl) (fun w' hw' => by kernel_rfl) ?_
  refine takeC 11 (v := .bool true) rfl rfl (by kernel_rfl) (by kernel_rfl) (by kernel_rfl) (fun _ _ _ h => h) (fun _ => by kernel_rfl) (by kernel_rfl) (fun w' hw' => by kernel_rfl) ?_
  refine takeC 12 (v := .bool true) rfl rfl (by kernel_rfl) (by kernel_rfl) (by kernel_rfl) (fun _ _ _ h => h) (fun _ => by kernel_rfl) (by kernel_rfl) (fun w' hw' => by kernel_rfl) ?_
  refine takeC 13 (v := .int .i64 0) rfl rfl (by kernel_rfl) (by kernel_rfl) (by kernel_rfl) (fun _ _ _ h => h) (fun _ => by kernel_rfl) (by kernel_rfl) (fun w' hw' => by kernel_rfl) ?_
  refine takeC 14 (v := .bool true) rfl rfl (by kernel_rfl) (by kernel_rfl) (by kernel_rfl) (fun _ _ _ h => h) (fun _ => by kernel_rfl) (by kernel_rfl) (fun w' hw' => by kernel_rfl) ?_
  refine takeC 15 (v := .bool true) rfl rfl (by kernel_rfl) (by kernel_rfl) (by kernel_rfl) (fun _ _ _ h => h) (fun _ => by kernel_rfl) (by kernel_rfl) (fun w' hw' => by kernel_rfl) ?_
  refine takeC 16 (v := .bool true) rfl rfl (by kernel_rfl) (by kernel_rfl) (by kernel_rfl) (fun _ _ _ h => h) (fun _ => by kernel_rfl) (by kernel_rfl) (fun w' hw' => by kernel_rfl) ?_
  refine takeC 17 (v := .pointer (some ⟨B1, 0, none⟩)) rfl rfl (by kernel_rfl) (by kernel_rfl) (by kernel_rfl) (fun _ _ _ h => h) (fun _ => by kernel_rfl) (by kernel_rfl) (fun w' hw' => by kernel_rfl) ?_
  refine takeC 18 (v := .agg #[.int .i64 1, .int .i64 1, .int .i64 2, .int .i64 0, .int .i64 10, .slice (some ⟨g, 0, none⟩) 1 1, .int .i64 1]) rfl rfl (by kernel_rfl) (by kernel_rfl) (by kernel_rfl) (fun _ _ _ h => h) (fun _ => by kernel_rfl) (by kernel_rfl) (fun w' hw' => run_la 26 (.tmp 43) rfl ⟨B1, 0, none⟩ (by kernel_rfl) [.int .i64 1, .int .i64 1, .int .i64 2, .int .i64 0, .int .i64 10, .slice (some ⟨g, 0, none⟩) 1 1, .int .i64 1] _ (part_cells hw'.1 0 [.int .i64 1, .int .i64 1, .int .i64 2, .int .i64 0, .int .i64 10, .slice (some ⟨g, 0, none⟩) 1 1, .int .i64 1] (sub_at [] [.int .i64 1, .int .i64 1, .int .i64 2, .int .i64 0, .int .i64 10, .slice (some ⟨g, 0, none⟩) 1 1, .int .i64 1] [.slice (some ⟨r, 0, none⟩) 2 2, .slice (some ⟨s, 0, none⟩) 1 1])) Try.underlying26 rfl (by kernel_rfl)) ?_
  refine takeC 19 (v := .pointer (some ⟨B1, 7, none⟩)) rfl rfl (by kernel_rfl) (by kernel_rfl) (by kernel_rfl) (fun _ _ _ h => h) (fun _ => by kernel_rfl) (by kernel_rfl) (fun w' hw' => by kernel_rfl) ?_
  refine takeC 20 (v := .agg #[.slice (some ⟨r, 0, none⟩) 2 2, .slice (some ⟨s, 0, none⟩) 1 1]) rfl rfl (by kernel_rfl) (by kernel_rfl) (by kernel_rfl) (fun _ _ _ h => h) (fun _ => by kernel_rfl) (by kernel_rfl) (fun w' hw' => run_la 30 (.tmp 45) rfl ⟨B1, 7, none⟩ (by kernel_rfl) [.slice (some ⟨r, 0, none⟩) 2 2, .slice (some ⟨s, 0, none⟩) 1 1] _ (part_cells hw'.1 7 [.slice (some ⟨r, 0, none⟩) 2 2, .slice (some ⟨s, 0, none⟩) 1 1] (sub_at [.int .i64 1, .int .i64 1, .int .i64 2, .int .i64 0, .int .i64 10, .slice (some ⟨g, 0, none⟩) 1 1, .int .i64 1] [.slice (some ⟨r, 0, none⟩) 2 2, .slice (some ⟨s, 0, none⟩) 1 1] [])) Try.underlying30 rfl (by kernel_rfl)) ?_
  refine takeC 22 (v := .agg #[.int .i64 0, .int .i64 0, .int .i64 0]) rfl rfl (by kernel_rfl) (by kernel_rfl) (by kernel_rfl) (fun _ _ _ h => h) (fun _ => by kernel_rfl) (by kernel_rfl) (fun w' hw' => by kernel_rfl) ?_
  refine zK 21 F8.out (by kernel_rfl) rfl (by kernel_rfl) 12 #[.agg #[.int .i64 1, .int .i64 1, .int .i64 2, .int .i64 0, .int .i64 10, .slice (some ⟨g, 0, none⟩) 1 1, .int .i64 1], .agg #[.slice (some ⟨r, 0, none⟩) 2 2, .slice (some ⟨s, 0, none⟩) 1 1]] (by kernel_rfl) (one_form F8.out.2.2.2.2.1 F8.out.2.2.2.2.2.1) ?_
  rintro e w9 ⟨rfl, hb⟩
  refine ⟨_, rfl, ?_⟩
  have F9 : Hid (Fx5 w9 B1 B2 (B2 + 1) B6 g r s g' r' s') := F8.out.below hb
  have d9 : Hid (Below W.heap.size W w9) := bt d8.out hb
  clear hb F8 d8
  refine takeC 23 (v := .bool true) rfl rfl (by kernel_rfl) (by kernel_rfl) (by kernel_rfl) (fun _ _ _ h => h) (fun _ => by kernel_rfl) (by kernel_rfl) (fun w' hw' => by kernel_rfl) ?_
  refine takeC 24 (v := .bool true) rfl rfl (by kernel_rfl) (by kernel_rfl) (by kernel_rfl) (fun _ _ _ h => h) (fun _ => by kernel_rfl) (by kernel_rfl) (fun w' hw' => by kernel_rfl) ?_
  refine takeC 25 (v := .bool true) rfl rfl (by kernel_rfl) (by kernel_rfl) (by kernel_rfl) (fun _ _ _ h => h) (fun _ => by kernel_rfl) (by kernel_rfl) (fun w' hw' => by kernel_rfl) ?_
  refine takeC 26 (v := .pointer (some ⟨B6, 0, none⟩)) rfl rfl (by kernel_rfl) (by kernel_rfl) (by kernel_rfl) (fun _ _ _ h => h) (fun _ => by kernel_rfl) (by kernel_rfl) (fun w' hw' => by kernel_rfl) ?_
  refine takeC 27 (v := .agg #[.int .i64 1, .int .i64 1, .int .i64 2, .int .i64 0, .int .i64 10, .slice (some ⟨g', 0, none⟩) 1 1, .int .i64 1]) rfl rfl (by kernel_rfl) (by kernel_rfl) (by kernel_rfl) (fun _ _ _ h => h) (fun _ => by kernel_rfl) (by kernel_rfl) (fun w' hw' => run_la 26 (.tmp 52) rfl ⟨B6, 0, none⟩ (by kernel_rfl) [.int .i64 1, .int .i64 1, .int .i64 2, .int .i64 0, .int .i64 10, .slice (some ⟨g', 0, none⟩) 1 1, .int .i64 1] _ (part_cells hw'.2.2.2.1 0 [.int .i64 1, .int .i64 1, .int .i64 2, .int .i64 0, .int .i64 10, .slice (some ⟨g', 0, none⟩) 1 1, .int .i64 1] (sub_at [] [.int .i64 1, .int .i64 1, .int .i64 2, .int .i64 0, .int .i64 10, .slice (some ⟨g', 0, none⟩) 1 1, .int .i64 1] [.slice (some ⟨r', 0, none⟩) 2 2, .slice (some ⟨s', 0, none⟩) 1 1])) Try.underlying26 rfl (by kernel_rfl)) ?_
  refine takeC 28 (v := .pointer (some ⟨B6, 7, none⟩)) rfl rfl (by kernel_rfl) (by kernel_rfl) (by kernel_rfl) (fun _ _ _ h => h) (fun _ => by kernel_rfl) (by kernel_rfl) (fun w' hw' => by kernel_rfl) ?_
  refine takeC 29 (v := .agg #[.slice (some ⟨r', 0, none⟩) 2 2, .slice (some ⟨s', 0, none⟩) 1 1]) rfl rfl (by kernel_rfl) (by kernel_rfl) (by kernel_rfl) (fun _ _ _ h => h) (fun _ => by kernel_rfl) (by kernel_rfl) (fun w' hw' => run_la 30 (.tmp 54) rfl ⟨B6, 7, none⟩ (by kernel_rfl) [.slice (some ⟨r', 0, none⟩) 2 2, .slice (some ⟨s', 0, none⟩) 1 1] _ (part_cells hw'.2.2.2.1 7 [.slice (some ⟨r', 0, none⟩) 2 2, .slice (some ⟨s', 0, none⟩) 1 1] (sub_at [.int .i64 1, .int .i64 1, .int .i64 2, .int .i64 0, .int .i64 10, .slice (some ⟨g', 0, none⟩) 1 1, .int .i64 1] [.slice (some ⟨r', 0, none⟩) 2 2, .slice (some ⟨s', 0, none⟩) 1 1] [])) Try.underlying30 rfl (by kernel_rfl)) ?_
  refine takeC 31 (v := .agg #[.int .i64 30, .int .i64 1, .int .i64 0]) rfl rfl (by kernel_rfl) (by kernel_rfl) (by kernel_rfl) (fun _ _ _ h => h) (fun _ => by kernel_rfl) (by kernel_rfl) (fun w' hw' => by kernel_rfl) ?_
  refine zK 30 F9.out (by kernel_rfl) rfl (by kernel_rfl) 12 #[.agg #[.int .i64 1, .int .i64 1, .int .i64 2, .int .i64 0, .int .i64 10, .slice (some ⟨g', 0, none⟩) 1 1, .int .i64 1], .agg #[.slice (some ⟨r', 0, none⟩) 2 2, .slice (some ⟨s', 0, none⟩) 1 1]] (by kernel_rfl) (one_formY F9.out.2.2.2.2.2.2.1 F9.out.2.2.2.2.2.2.2) ?_
  rintro e w10 ⟨rfl, hb⟩
  refine ⟨_, rfl, ?_⟩
  have F10 : Hid (Fx5 w10 B1 B2 (B2 + 1) B6 g r s g' r' s') := F9.out.below hb
  have d10 : Hid (Below W.heap.size W w10) := bt d9.out hb
  clear hb F9 d9
  refine takeC 32 (v := .bool true) rfl rfl (by kernel_rfl) (by kernel_rfl) (by kernel_rfl) (fun _ _ _ h => h) (fun _ => by kernel_rfl) (by kernel_rfl) (fun w' hw' => by kernel_rfl) ?_
  refine takeC 33 (v := .bool true) rfl rfl (by kernel_rfl) (by kernel_rfl) (by kernel_rfl) (fun _ _ _ h => h) (fun _ => by kernel_rfl) (by kernel_rfl) (fun w' hw' => by kernel_rfl) ?_
  refine takeC 34 (v := .bool true) rfl rfl (by kernel_rfl) (by kernel_rfl) (by kernel_rfl) (fun _ _ _ h => h) (fun _ => by kernel_rfl) (by kernel_rfl) (fun w' hw' => by kernel_rfl) ?_
  refine takeC 35 (v := .pointer (some ⟨B1, 7, none⟩)) rfl rfl (by kernel_rfl) (by kernel_rfl) (by kernel_rfl) (fun _ _ _ h => h) (fun _ => by kernel_rfl) (by kernel_rfl) (fun w' hw' => by kernel_rfl) ?_
  refine takeC 36 (v := .agg #[.slice (some ⟨r, 0, none⟩) 2 2, .slice (some ⟨s, 0, none⟩) 1 1]) rfl rfl (by kernel_rfl) (by kernel_rfl) (by kernel_rfl) (fun _ _ _ h => h) (fun _ => by kernel_rfl) (by kernel_rfl) (fun w' hw' => run_la 30 (.tmp 61) rfl ⟨B1, 7, none⟩ (by kernel_rfl) [.slice (some ⟨r, 0, none⟩) 2 2, .slice (some ⟨s, 0, none⟩) 1 1] _ (part_cells hw'.1 7 [.slice (some ⟨r, 0, none⟩) 2 2, .slice (some ⟨s, 0, none⟩) 1 1] (sub_at [.int .i64 1, .int .i64 1, .int .i64 2, .int .i64 0, .int .i64 10, .slice (some ⟨g, 0, none⟩) 1 1, .int .i64 1] [.slice (some ⟨r, 0, none⟩) 2 2, .slice (some ⟨s, 0, none⟩) 1 1] [])) Try.underlying30 rfl (by kernel_rfl)) ?_
  refine zK 37 F10.out (by kernel_rfl) rfl (by kernel_rfl) 28 #[] (by kernel_rfl) (one15_any _) ?_
  rintro e w11 ⟨g2, r2, s2, rfl, hO2, hr2, -, hb⟩
  refine ⟨_, rfl, ?_⟩
  have F11 : Hid (Fx5 w11 B1 B2 (B2 + 1) B6 g r s g' r' s') := F10.out.below hb
  have d11 : Hid (Below W.heap.size W w11) := bt d10.out hb
  clear hb F10 d10
  refine takeC 38 (v := .agg #[.slice (some ⟨r2, 0, none⟩) 2 2, .slice (some ⟨s2, 0, none⟩) 1 1]) rfl rfl (by kernel_rfl) (by kernel_rfl) (by kernel_rfl) (fun _ _ _ h => h) (fun _ => by kernel_rfl) (by kernel_rfl) (fun w' hw' => by kernel_rfl) ?_
  refine zK 39 F11.out (by kernel_rfl) rfl (by kernel_rfl) 16 #[.agg #[.slice (some ⟨r, 0, none⟩) 2 2, .slice (some ⟨s, 0, none⟩) 1 1], .agg #[.slice (some ⟨r2, 0, none⟩) 2 2, .slice (some ⟨s2, 0, none⟩) 1 1]] (by kernel_rfl) (one_same F11.out.2.2.2.2.1 F11.out.2.2.2.2.2.1 hO2 hr2) ?_
  rintro e w12 ⟨rfl, hb⟩
  refine ⟨_, rfl, ?_⟩
  have F12 : Hid (Fx5 w12 B1 B2 (B2 + 1) B6 g r s g' r' s') := F11.out.below hb
  have d12 : Hid (Below W.heap.size W w12) := bt d11.out hb
  clear hb F11 d11
  refine takeC 40 (v := .bool true) rfl rfl (by kernel_rfl) (by kernel_rfl) (by kernel_rfl) (fun _ _ _ h => h) (fun _ => by kernel_rfl) (by kernel_rfl) (fun w' hw' => by kernel_rfl) ?_
  refine takeC 41 (v := .bool true) rfl rfl (by kernel_rfl) (by kernel_rfl) (by kernel_rfl) (fun _ _ _ h => h) (fun _ => by kernel_rfl) (by kernel_rfl) (fun w' hw' => by kernel_rfl) ?_
  refine takeC 42 (v := .pointer (some ⟨B1, 7, none⟩)) rfl rfl (by kernel_rfl) (by kernel_rfl) (by kernel_rfl) (fun _ _ _ h => h) (fun _ => by kernel_rfl) (by kernel_rfl) (fun w' hw' => by kernel_rfl) ?_
  refine takeC 43 (v := .agg #[.slice (some ⟨r, 0, none⟩) 2 2, .slice (some ⟨s, 0, none⟩) 1 1]) rfl rfl (by kernel_rfl) (by kernel_rfl) (by kernel_rfl) (fun _ _ _ h => h) (fun _ => by kernel_rfl) (by kernel_rfl) (fun w' hw' => run_la 30 (.tmp 68) rfl ⟨B1, 7, none⟩ (by kernel_rfl) [.slice (some ⟨r, 0, none⟩) 2 2, .slice (some ⟨s, 0, none⟩) 1 1] _ (part_cells hw'.1 7 [.slice (some ⟨r, 0, none⟩) 2 2, .slice (some ⟨s, 0, none⟩) 1 1] (sub_at [.int .i64 1, .int .i64 1, .int .i64 2, .int .i64 0, .int .i64 10, .slice (some ⟨g, 0, none⟩) 1 1, .int .i64 1] [.slice (some ⟨r, 0, none⟩) 2 2, .slice (some ⟨s, 0, none⟩) 1 1] [])) Try.underlying30 rfl (by kernel_rfl)) ?_
  refine takeC 44 (v := .pointer (some ⟨B6, 7, none⟩)) rfl rfl (by kernel_rfl) (by kernel_rfl) (by kernel_rfl) (fun _ _ _ h => h) (fun _ => by kernel_rfl) (by kernel_rfl) (fun w' hw' => by kernel_rfl) ?_
  refine takeC 45 (v := .agg #[.slice (some ⟨r', 0, none⟩) 2 2, .slice (some ⟨s', 0, none⟩) 1 1]) rfl rfl (by kernel_rfl) (by kernel_rfl) (by kernel_rfl) (fun _ _ _ h => h) (fun _ => by kernel_rfl) (by kernel_rfl) (fun w' hw' => run_la 30 (.tmp 70) rfl ⟨B6, 7, none⟩ (by kernel_rfl) [.slice (some ⟨r', 0, none⟩) 2 2, .slice (some ⟨s', 0, none⟩) 1 1] _ (part_cells hw'.2.2.2.1 7 [.slice (some ⟨r', 0, none⟩) 2 2, .slice (some ⟨s', 0, none⟩) 1 1] (sub_at [.int .i64 1, .int .i64 1, .int .i64 2, .int .i64 0, .int .i64 10, .slice (some ⟨g', 0, none⟩) 1 1, .int .i64 1] [.slice (some ⟨r', 0, none⟩) 2 2, .slice (some ⟨s', 0, none⟩) 1 1] [])) Try.underlying30 rfl (by kernel_rfl)) ?_
  refine zK 46 F12.out (by kernel_rfl) rfl (by kernel_rfl) 16 #[.agg #[.slice (some ⟨r, 0, none⟩) 2 2, .slice (some ⟨s, 0, none⟩) 1 1], .agg #[.slice (some ⟨r', 0, none⟩) 2 2, .slice (some ⟨s', 0, none⟩) 1 1]] (by kernel_rfl) (one_sameY F12.out.2.2.2.2.1 F12.out.2.2.2.2.2.1 F12.out.2.2.2.2.2.2.1 F12.out.2.2.2.2.2.2.2) ?_
  rintro e w13 ⟨rfl, hb⟩
  refine ⟨_, rfl, ?_⟩
  have F13 : Hid (Fx5 w13 B1 B2 (B2 + 1) B6 g r s g' r' s') := F12.out.below hb
  have d13 : Hid (Below W.heap.size W w13) := bt d12.out hb
  clear hb F12 d12
  refine takeC 47 (v := .bool true) rfl rfl (by kernel_rfl) (by kernel_rfl) (by kernel_rfl) (fun _ _ _ h => h) (fun _ => by kernel_rfl) (by kernel_rfl) (fun w' hw' => by kernel_rfl) ?_
  refine takeC 48 (v := .bool true) rfl rfl (by kernel_rfl) (by kernel_rfl) (by kernel_rfl) (fun _ _ _ h => h) (fun _ => by kernel_rfl) (by kernel_rfl) (fun w' hw' => by kernel_rfl) ?_
  refine takeC 49 (v := .bool true) rfl rfl (by kernel_rfl) (by kernel_rfl) (by kernel_rfl) (fun _ _ _ h => h) (fun _ => by kernel_rfl) (by kernel_rfl) (fun w' hw' => by kernel_rfl) ?_
  refine doneC F13.out (by kernel_rfl) ?_ _
  go_wp2
  refine bodyPost_ret (v := .bool true) (by simp [results, Try.results11, go_sem]) rfl ⟨rfl, d13.out⟩
end Go.Proofs.Ytcjnhchjikcigaa

/- The walk of CertBlocks. -/
namespace Go.Proofs.Ytcjnhchjikcigaa
open Go.ChangeShapes Go.WideShapes Go.ChangeAt Go.RowKit
set_option linter.unusedVariables false
theorem bkV_mul {n d : Int} (h1 : 1 ≤ d) (h2 : d ≤ n) : n ≤ bkV n d * d ∧ (bkV n d - 1) * d < n := by
  unfold bkV
  have e := Int.emod_add_mul_ediv (n - 1) d
  have l := Int.emod_lt_of_pos (n - 1) (show 0 < d by omega)
  have l0 := Int.emod_nonneg (n - 1) (show d ≠ 0 by omega)
  obtain ⟨q, hq⟩ : ∃ q, (n - 1) / d = q := ⟨_, rfl⟩
  rw [hq] at e ⊢
  have e1 : (1 + q) * d = d + d * q := by rw [Int.add_mul, Int.one_mul, Int.mul_comm q]
  have e2 : (1 + q - 1) * d = d * q := by rw [show 1 + q - 1 = q by omega, Int.mul_comm q]
  rw [e1, e2]
  omega
set_option maxHeartbeats 4000000 in
theorem certBlocks_walk (n d : Int) (W : World) (w0 : (Lit.int .i64 n).wf = true) (w1 : (Lit.int .i64 d).wf = true) :
    Calls Try.prog 5 #[.int .i64 n, .int .i64 d] W fun e w' => e = .returned (.bool true) ∧ Below W.heap.size W w' := by
  have i0 := wf_i64 w0
  have i1 := wf_i64 w1
  have HF : Hid (∀ w, _) := fixed15_any
  clear w0 w1
  by_cases hb : 1 ≤ d ∧ d ≤ n
  · have H1 : Hid (∀ w, _) := fun w => cblk_ok n d hb.1 hb.2 i0.2 w
    have H2 : Hid (∀ w, _) := fun w => rblk_ok n d hb.1 hb.2 i0.2 w
    obtain ⟨m1, m2⟩ := bkV_mul hb.1 hb.2
    obtain ⟨m3, m4⟩ := bkV_bd hb
    obtain ⟨k, hk⟩ : ∃ k, bkV n d = k := ⟨_, rfl⟩
    rw [hk] at H1 H2 m1 m2 m3 m4
    clear hk
    by_cases hl : 1073741824 < n
    · clear m1 m2
      go_enter Try.func5, Try.ntmps5
      go_wp2_with fail
      refine (H1.out _).mono ?_
      rintro e w' ⟨rfl, rfl⟩
      go_wp2_with fail
      refine (H2.out _).mono ?_
      rintro e w' ⟨rfl, rfl⟩
      go_wp2_with fail
      refine (HF.out _).mono ?_
      rintro e w1 ⟨rfl, hb1⟩
      go_wp2
      go_ret
      exact ⟨rfl, hb1⟩
    · have b1 : k * d ≤ 1073741824 * 1073741824 := Int.mul_le_mul (by omega) (by omega) (by omega) (by omega)
      have b0 : 0 ≤ k * d := Int.mul_nonneg (by omega) (by omega)
      have b2 : 0 ≤ (k - 1) * d := Int.mul_nonneg (by omega) (by omega)
      obtain ⟨x, hx⟩ : ∃ x, k * d = x := ⟨_, rfl⟩
      obtain ⟨y, hy⟩ : ∃ y, (k - 1) * d = y := ⟨_, rfl⟩
      rw [hx] at m1 b0 b1
      rw [hy] at m2 b2
      go_enter Try.func5, Try.ntmps5
      go_wp2_with fail
      refine (H1.out _).mono ?_
      rintro e w' ⟨rfl, rfl⟩
      go_wp2_with fail
      refine (H2.out _).mono ?_
      rintro e w' ⟨rfl, rfl⟩
      go_wp2_with fail
      refine (HF.out _).mono ?_
      rintro e w1 ⟨rfl, hb1⟩
      go_wp2
      go_ret
      exact ⟨rfl, hb1⟩
  · have H1 : Hid (∀ w, _) := fun w => cblk_bad n d hb w
    have H2 : Hid (∀ w, _) := fun w => rblk_bad n d hb w
    clear hb
    go_enter Try.func5, Try.ntmps5
    go_wp2_with fail
    refine (H1.out _).mono ?_
    rintro e w' ⟨rfl, rfl⟩
    go_wp2_with fail
    refine (H2.out _).mono ?_
    rintro e w' ⟨rfl, rfl⟩
    go_wp2_with fail
    refine (HF.out _).mono ?_
    rintro e w1 ⟨rfl, hb1⟩
    go_wp2
    go_ret
    exact ⟨rfl, hb1⟩
end Go.Proofs.Ytcjnhchjikcigaa
