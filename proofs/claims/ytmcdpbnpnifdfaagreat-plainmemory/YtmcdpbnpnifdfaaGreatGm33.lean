/- For PlainMemory: append with Go's own bound; a drawn region of whose operations two are ready. For PlainMemory: lists that are written and grown, each in a block of its own, and what of the memory stays. -/
import Derived.Test.YtmcdpbnpnifdfaaGreatGm27
import Derived.Test.YtmcdpbnpnifdfaaGreatGm31
import Derived.ArgAppend
import Derived.OwnWalk
/- For PlainMemory: append with Go's own bound; a drawn region of whose operations two are ready. -/
namespace Go.Proofs.YtmcdpbnpnifdfaaGreat
open Go.ChangeShapes Go.WideShapes Go.ChangeAt Go.RowKit
set_option linter.unusedVariables false
theorem IRow.take {k : IntKind} {w : World} {a : Option Addr} {len cap n : Nat} {zs : List Int} (h : IRow k w a len cap zs) (hn : n ≤ len) : IRow k w a n cap (zs.take n) := by
  obtain ⟨h1, h2, h3, h4, h5, h6⟩ := h
  refine ⟨by simp; omega, by omega, h3, fun z hz => h4 z (List.mem_of_mem_take hz), h5, fun x hx i hi => ?_⟩
  rw [h6 x hx i (by omega)]
  simp [List.getD, hi]
theorem wpList_appW {k : IntKind} {T S : TypeId} {by8 : Nat} (kt : KT k T S by8) {w : World} {ops : Array Oper} {rest : List Oper} {o : Oper} {a : Act} {Q : Exit → Act → World → Prop} (hgd : o.guard = none) (s x : Operand)
    (ho : o.op = .call { callee := .builtin .append, args := #[s, x], argTypes := #[S, S] })
    (base : Nat) (v : Value) (xs ys : List Int) (hs : a.eval s = v) (hown : Own k T w base v xs) (ao : Option Addr) (m c : Nat) (hx : a.eval x = .slice ao m c) (hy : IRow k w ao m c ys)
    (hlen : (xs.length + m) * by8 ≤ 140737488355328) (hbase : base ≤ w.heap.size)
    (h : ∀ v' w', Own k T w' base v' (xs ++ ys) → w.grownBy w' v.ownBlock → wpList Tryz.prog ops Q rest (a.put o.dst v') w') : wpList Tryz.prog ops Q (o :: rest) a w := by
  obtain ⟨hu, hin, b1, b8⟩ := kt
  obtain ⟨i0, hi, hz0, hz1, hz2⟩ := info_parts hin
  obtain ⟨hl, hc, hm, hb, hn, hcell⟩ := hy
  have hm2 : xs.length + m ≤ 140737488355328 := Nat.le_trans (Nat.le_mul_of_pos_right _ (by omega)) hlen
  cases ao with
  | none =>
    obtain rfl : c = 0 := hn rfl
    obtain rfl : m = 0 := by omega
    obtain rfl : ys = [] := List.eq_nil_of_length_eq_zero hl
    refine wpList_append_own_none hgd s x _ ho base T i0 1 hu hi v xs.length _ hs hown.1 hx ?_
    exact h v w (by simpa using hown) ⟨rfl, rfl, rfl, Nat.le_refl _, fun _ _ _ => rfl⟩
  | some ad =>
    refine wpList_append_own _ hgd s x _ ho base T i0 (.int k 0) 1 by8 hu hi hz0 hz1 hz2 rfl (by omega) v xs.length _ hs hown.1 ad m c (ys.map (Value.int k)) hx (by simp [hl]) ?_ (ints_oneCell _ _) ?_ hlen hbase ?_
    · intro j u hj
      have hj' : j < m := by
        have := (List.getElem?_eq_some_iff.1 hj).1
        simpa [hl] using this
      rw [hcell ad rfl j hj']
      simp [List.getD, show j < ys.length by omega] at hj ⊢
      exact hj
    · unfold maxLen; omega
    · intro v' w' h1 h2 h3
      refine h v' w' ⟨?_, hown.2.app hb⟩ h2
      rw [List.length_append, hl, List.map_append]
      exact h1
/-- Two may come up. -/
theorem twoC {P : Program} {ops : Array Oper} {md : Region.Mode} {C : World → Prop} {Q : Exit → Act → World → Prop} (i j : Nat) {fuel : Nat} {listed : Array Bool} {a : Act} {w : World} (hC : C w) (hr : Region.ready md ops listed = [i, j])
    (h1 : wpOpIn Fence.wide 3 P ops Q i (wpAnyC Fence.wide 3 P md ops C Q fuel (listed.setIfInBounds i true)) a w)
    (h2 : wpOpIn Fence.wide 3 P ops Q j (wpAnyC Fence.wide 3 P md ops C Q fuel (listed.setIfInBounds j true)) a w) : wpAnyC Fence.wide 3 P md ops C Q (fuel + 1) listed a w :=
  ⟨hC, fun h0 => (by rw [hr] at h0; cases h0), fun k hk => by
    rw [hr] at hk
    simp only [List.mem_cons, List.not_mem_nil, or_false] at hk
    rcases hk with rfl | rfl
    · exact h1
    · exact h2⟩
theorem opR {P : Program} {ops : Array Oper} {md : Region.Mode} {C : World → Prop} {Q : Exit → Act → World → Prop} {i : Nat} {o : Oper} {fuel : Nat} {listed : Array Bool} {a : Act} {w : World} (ho : ops[i]? = some o) (hg : o.guard = none)
    (v : Value) (w' : World) (hrun : (execOp a.eval o).run P w = .ok (.value v) w') (h : wpAnyC Fence.wide 3 P md ops C Q fuel (listed.setIfInBounds i true) (a.put o.dst v) w') : wpOpIn Fence.wide 3 P ops Q i (wpAnyC Fence.wide 3 P md ops C Q fuel (listed.setIfInBounds i true)) a w :=
  wpOpIn_step ho fun K hK => step_wp hg (wp_run1 hrun (hK _ _ h))
theorem opK {P : Program} {ops : Array Oper} {md : Region.Mode} {C : World → Prop} {Q : Exit → Act → World → Prop} {i : Nat} {o : Oper} {fuel : Nat} {listed : Array Bool} {a : Act} {w : World} (ho : ops[i]? = some o) (hg : o.guard = none)
    (f : FuncId) (args : Array Value) (hrun : (execOp a.eval o).run P w = .ok (.enter f args) w) {R : Ending → World → Prop} (hcall : Calls P f args w R)
    (h : ∀ e w', R e w' → ∃ v, e = .returned v ∧ wpAnyC Fence.wide 3 P md ops C Q fuel (listed.setIfInBounds i true) (a.put o.dst v) w') : wpOpIn Fence.wide 3 P ops Q i (wpAnyC Fence.wide 3 P md ops C Q fuel (listed.setIfInBounds i true)) a w :=
  wpOpIn_step ho fun K hK => step_wp hg (by
    unfold Oper.wp
    rw [hrun]
    refine Calls.mono hcall fun e w' he => ?_
    obtain ⟨v, rfl, hv⟩ := h e w' he
    exact hK _ _ hv)
theorem grown_setRow (w : World) (N : Nat) (cs : Array Value) : w.grownBy (w.setRow N cs) (some N) := ⟨rfl, rfl, rfl, by simp, fun k _ hk => setRow_other w N k cs (fun e => hk (by rw [e]))⟩
theorem LLs.setRow {w : World} {base N : Nat} {v : Value} {Ts : List (List Int)} {c cs : Array Value} {T : TypeId} (h : LLs w base v Ts) (hN : w.heap[N]? = some (.cells c T (0, 0))) (h1 : T ≠ 27) (h2 : T ≠ 41) : LLs (w.setRow N cs) base v Ts := by
  obtain ⟨ss, q1, q2⟩ := h
  refine ⟨ss, ?_, q2.grown (grown_setRow w N cs) fun b hb c' e => ?_⟩
  · refine World.ownsRow.kept q1 (grown_setRow w N cs) ?_
    have := own_ne q1 hN h1
    cases e : v.ownBlock with
    | none => exact .inl rfl
    | some b => exact .inr (fun q => this (by rw [e, q]))
  · cases hb
    rw [hN] at e
    simp only [Option.some.injEq, Obj.cells.injEq] at e
    exact h2 e.2.1
theorem LLs.base {w : World} {b c : Nat} {v : Value} {Ts : List (List Int)} (h : LLs w b v Ts) (q : c ≤ b) : LLs w c v Ts := by
  obtain ⟨ss, q1, q2⟩ := h
  refine ⟨ss, ⟨q1.1, ?_⟩, q2.base q⟩
  rcases q1.2 with h | ⟨g, cap, cur, h1, h2, h3⟩
  · exact .inl h
  · exact .inr ⟨g, cap, cur, h1, by omega, h3⟩
end Go.Proofs.YtmcdpbnpnifdfaaGreat

/- For PlainMemory: lists that are written and grown, each in a block of its own, and what of the memory stays. -/
namespace Go.Proofs.YtmcdpbnpnifdfaaGreat
open Go.ChangeShapes Go.WideShapes Go.ChangeAt Go.RowKit
set_option linter.unusedVariables false
/-- Blocks of the elder world turn only from lo to hi. -/
def Outs (lo hi : Nat) (w w' : World) : Prop := w'.os = w.os ∧ w'.tape = w.tape ∧ w'.output = w.output ∧ w.heap.size ≤ w'.heap.size ∧ ∀ i, i < w.heap.size → i < lo ∨ hi ≤ i → w'.heap[i]? = w.heap[i]?
theorem Outs.refl (lo hi : Nat) (w : World) : Outs lo hi w w := ⟨rfl, rfl, rfl, Nat.le_refl _, fun _ _ _ => rfl⟩
theorem Outs.step {lo hi : Nat} {w w1 w2 : World} {row : Option Nat} (h : Outs lo hi w w1) (q : w1.grownBy w2 row) (hr : ∀ b, row = some b → (lo ≤ b ∧ b < hi) ∨ w.heap.size ≤ b) : Outs lo hi w w2 := by
  obtain ⟨h1, h2, h3, h4, h5⟩ := h
  refine ⟨q.os.trans h1, q.tape.trans h2, q.output.trans h3, Nat.le_trans h4 q.size, fun i hi hb => ?_⟩
  rw [← h5 i hi hb]
  exact q.block i (by omega) (fun e => by have := hr i e.symm; omega)
theorem Outs.bel {lo hi : Nat} {w w1 w2 : World} (h : Outs lo hi w w1) (q : Below w1.heap.size w1 w2) : Outs lo hi w w2 :=
  h.step (row := none) ⟨q.os, q.tape, q.output, q.size, fun i hi _ => q.block i hi⟩ (fun b e => by cases e)
theorem Outs.below {lo hi : Nat} {w0 w w' : World} (h : Outs lo hi w w') (q : Below lo w0 w) (hl : lo ≤ w.heap.size) : Below lo w0 w' :=
  q.trans ⟨h.1, h.2.1, h.2.2.1, h.2.2.2.1, fun k hk => h.2.2.2.2 k (by omega) (.inl hk)⟩
theorem Outs.own {lo hi : Nat} {w w' : World} {e : TypeId} {size n : Nat} {v : Value} {xs : List Value} (h : Outs lo hi w w') (q : w.ownsRow hi e size v n xs) : w'.ownsRow hi e size v n xs := by
  refine ⟨q.1, ?_⟩
  rcases q.2 with q | ⟨g, cap, cur, h1, h2, h3, h4⟩
  · exact .inl q
  · exact .inr ⟨g, cap, cur, h1, h2, (h.2.2.2.2 g (lt_of_heap h3) (.inr h2)).trans h3, h4⟩
theorem Outs.ors {lo hi : Nat} {w w' : World} {v : Value} {ss : List Value} (h : Outs lo hi w w') (q : ORs w hi v ss) : ORs w' hi v ss := h.own q
theorem Outs.lls {lo hi : Nat} {w w' : World} {v : Value} {Ts : List (List Int)} (h : Outs lo hi w w') (q : LLs w hi v Ts) : LLs w' hi v Ts := by
  obtain ⟨ss, q1, q2, q3, q4⟩ := q
  exact ⟨ss, h.ors q1, q2, fun i hi => ⟨h.own (q3 i hi).1, (q3 i hi).2⟩, q4⟩
/-! ### Lists that may be written -/
def upd {α : Type} (F : Nat → α) (j : Nat) (l : α) : Nat → α := fun i => if i = j then l else F i
theorem upd_same {α : Type} (F : Nat → α) (j : Nat) (l : α) : upd F j l j = l := if_pos rfl
theorem upd_other {α : Type} (F : Nat → α) {i j : Nat} (l : α) (h : i ≠ j) : upd F j l i = F i := if_neg h
theorem upd_id {α : Type} (F : Nat → α) (j : Nat) : upd F j (F j) = F := by funext i; unfold upd; split <;> simp_all
theorem upd_upd {α : Type} (F : Nat → α) (j : Nat) (l m : α) : upd (upd F j l) j m = upd F j m := by funext i; unfold upd; split <;> rfl
def Rng (lo hi s : Nat) (b : Nat) : Prop := (lo ≤ b ∧ b < hi) ∨ s ≤ b
def Fam (lo hi s : Nat) (w : World) (m : Nat) (V : Nat → Value) (F : Nat → List Int) : Prop :=
  (∀ i, i < m → Own .i8 41 w lo (V i) (F i)) ∧ (∀ i b, i < m → (V i).ownBlock = some b → Rng lo hi s b) ∧ ∀ i j b, i < m → j < m → (V i).ownBlock = some b → (V j).ownBlock = some b → i = j
theorem Fam.below {lo hi s m : Nat} {w w' : World} {V : Nat → Value} {F : Nat → List Int} (h : Fam lo hi s w m V F) (q : Below w.heap.size w w') : Fam lo hi s w' m V F := ⟨fun i hi => (h.1 i hi).below q, h.2⟩
theorem Fam.grown {lo hi s m : Nat} {w w' : World} {V : Nat → Value} {F : Nat → List Int} {row : Option Nat} (h : Fam lo hi s w m V F) (q : w.grownBy w' row) (hne : ∀ b, row = some b → ∀ c, w.heap[b]? ≠ some (.cells c 41 (0, 0))) : Fam lo hi s w' m V F := ⟨fun i hi => (h.1 i hi).grown q hne, h.2⟩
theorem Fam.put {lo hi s m i : Nat} {w w' : World} {V : Nat → Value} {F : Nat → List Int} {v : Value} {X : List Int} (h : Fam lo hi s w m V F) (him : i < m) (q : w.grownBy w' (V i).ownBlock) (hO : Own .i8 41 w' lo v X) (hb : v.ownBlock = (V i).ownBlock ∨ ∀ b, v.ownBlock = some b → w.heap.size ≤ b) (hs : s ≤ w.heap.size) : Fam lo hi s w' m (upd V i v) (upd F i X) := by
  obtain ⟨h1, h2, h3⟩ := h
  have old : ∀ j b, j < m → (V j).ownBlock = some b → b < w.heap.size := fun j b hj e => own_lt (h1 j hj) e
  have key : ∀ j b, j < m → j ≠ i → (V j).ownBlock = some b → v.ownBlock = some b → False := fun j b hj hne e1 e2 => by
    rcases hb with q' | q'
    · exact hne (h3 j i b hj him e1 (by rw [← q']; exact e2))
    · have := q' b e2
      have := old j b hj e1
      omega
  refine ⟨fun j hj => ?_, fun j b hj e => ?_, fun j k b hj hk e1 e2 => ?_⟩
  · by_cases e : j = i
    · subst e; rw [upd_same, upd_same]; exact hO
    · rw [upd_other _ _ e, upd_other _ _ e]
      refine ⟨World.ownsRow.kept (h1 j hj).1 q ?_, (h1 j hj).2⟩
      cases eb : (V j).ownBlock with
      | none => exact .inl rfl
      | some b => exact .inr (fun e' => e (h3 j i b hj him eb e'.symm))
  · by_cases ej : j = i
    · subst ej
      rw [upd_same] at e
      rcases hb with q' | q'
      · exact h2 j b hj (by rw [← q']; exact e)
      · have := q' b e
        exact .inr (by omega)
    · rw [upd_other _ _ ej] at e
      exact h2 j b hj e
  · by_cases ej : j = i
    · by_cases ek : k = i
      · omega
      · subst ej
        rw [upd_same] at e1
        rw [upd_other _ _ ek] at e2
        exact (key k b hk ek e2 e1).elim
    · by_cases ek : k = i
      · subst ek
        rw [upd_same] at e2
        rw [upd_other _ _ ej] at e1
        exact (key j b hj ej e1 e2).elim
      · rw [upd_other _ _ ej] at e1
        rw [upd_other _ _ ek] at e2
        exact h3 j k b hj hk e1 e2
theorem Fam.out {lo hi s m i : Nat} {w0 w w' : World} {V : Nat → Value} {F : Nat → List Int} (h : Fam lo hi s w m V F) (him : i < m) (q : w.grownBy w' (V i).ownBlock) (o : Outs lo hi w0 w) (hs : s = w0.heap.size) : Outs lo hi w0 w' := o.step q fun b e => by subst hs; exact h.2.1 i b him e
/-- A number is written. -/
theorem Fam.set {lo hi s m i k g n cap : Nat} {w0 w : World} {V : Nat → Value} {F : Nat → List Int} {z : Int} (h : Fam lo hi s w m V F) (him : i < m) (hv : V i = .slice (some ⟨g, 0, none⟩) n cap) (hz : (Lit.int .i8 z).wf = true) (hs : s = w0.heap.size) (o : Outs lo hi w0 w) :
    Fam lo hi s (w.setCell ⟨g, k, none⟩ (.int .i8 z)) m V (upd F i ((F i).set k z)) ∧ Outs lo hi w0 (w.setCell ⟨g, k, none⟩ (.int .i8 z)) := by
  have hO := h.1 i him
  rw [hv] at hO
  obtain ⟨q1, q2⟩ := hO.set (i := k) hz
  have q3 : w.grownBy (w.setCell ⟨g, k, none⟩ (.int .i8 z)) (V i).ownBlock := by rw [hv]; exact q2
  refine ⟨?_, h.out him q3 o hs⟩
  have := h.put (v := V i) him q3 (by rw [hv]; exact q1) (.inl rfl) (by subst hs; exact o.2.2.2.1)
  rw [upd_id] at this
  exact this
/-! ### 'append' of numbers, and where the answer lies -/
theorem wpList_app8 {w : World} {ops : Array Oper} {rest : List Oper} {o : Oper} {a : Act} {Q : Exit → Act → World → Prop} (hgd : o.guard = none) (s x : Operand)
    (ho : o.op = .call { callee := .builtin .append, args := #[s, x], argTypes := #[27, 27] })
    (base : Nat) (v : Value) (xs ys : List Int) (hs : a.eval s = v) (hown : Own .i8 41 w base v xs) (ad : Addr) (m c : Nat) (hx : a.eval x = .slice (some ad) m c) (hy : IRow .i8 w (some ad) m c ys) (hm : 0 < m)
    (hlen : xs.length + m ≤ 100000000) (hbase : base ≤ w.heap.size)
    (h : ∀ v' w', Own .i8 41 w' base v' (xs ++ ys) → (v'.ownBlock = v.ownBlock ∨ ∀ b, v'.ownBlock = some b → w.heap.size ≤ b) → w.grownBy w' v.ownBlock → wpList Tryz.prog ops Q rest (a.put o.dst v') w') : wpList Tryz.prog ops Q (o :: rest) a w := by
  obtain ⟨hu, hin, b1, b8⟩ := kt_i8
  obtain ⟨i0, hi, hz0, hz1, hz2⟩ := info_parts hin
  obtain ⟨hl, hc, hmm, hb, hn, hcell⟩ := hy
  have hnews : ∀ j u, (ys.map (Value.int .i8))[j]? = some u → w.cell? (ad.add j) = some u := by
    intro j u hj
    have hj' : j < m := by
      have := (List.getElem?_eq_some_iff.1 hj).1
      simpa [hl] using this
    rw [hcell ad rfl j hj']
    simp [List.getD, show j < ys.length by omega] at hj ⊢
    exact hj
  have hgrow : ∀ (ao : Option Addr) (cap : Nat), v = .slice ao xs.length cap → cap < xs.length + m → wpList Tryz.prog ops Q (o :: rest) a w := fun ao cap ev hfull => by
    subst ev
    refine wpList_append_grows _ hgd s x _ ho 41 i0 (.int .i8 0) 1 1 hu hi hz0 hz1 hz2 rfl (by decide) ao xs.length cap (xs.map (Value.int .i8)) hs ?_ (by simp) ?_ ad m c (ys.map (Value.int .i8)) hx (by simp [hl]) hnews (ints_oneCell _ _) hfull (by unfold maxLen; omega) (by omega) ?_
    · rintro rfl
      rcases hown.shape with ⟨h', h0⟩ | ⟨g, cap', h', _⟩
      · simp only [Value.slice.injEq, true_and] at h'; exact h'
      · cases h'
    · rintro b rfl j u hj
      obtain ⟨a', c', e', r, _⟩ := hown.row
      cases e'
      have hj' : j < xs.length := by
        have := (List.getElem?_eq_some_iff.1 hj).1
        simpa using this
      rw [r.2.2.2.2.2 b rfl j hj']
      simp [List.getD, hj'] at hj ⊢
      exact hj
    · intro v' w' h1 h2
      have own' : Own .i8 41 w' w.heap.size v' (xs ++ ys) := ⟨by rw [List.length_append, hl, List.map_append]; exact h1, hown.2.app hb⟩
      exact h v' w' (own'.base hbase) (.inr fun b e => own'.block e) ⟨h2.os, h2.tape, h2.output, h2.size, fun i hi _ => h2.block i hi (by simp)⟩
  rcases hown.shape with ⟨rfl, rfl⟩ | ⟨g, cap, rfl, hg, hlt, hnc, hcm, -, -, -⟩
  · exact hgrow none 0 rfl (by simpa using hm)
  · by_cases hfit : xs.length + m ≤ cap
    · refine wpList_append_fits _ hgd s x _ ho base 41 i0 1 hu hi hz1 g xs.length cap (xs.map (Value.int .i8)) hs hown.1 ad m c (ys.map (Value.int .i8)) hx (by simp [hl]) hnews (ints_oneCell _ _) hfit ?_
      intro w' h1 h2
      refine h _ w' ⟨?_, hown.2.app hb⟩ (.inl rfl) h2
      rw [List.length_append, hl, List.map_append]
      exact h1
    · exact hgrow _ cap rfl (by omega)
/-! ### Rows of lists -/
theorem wpList_appS {w : World} {ops : Array Oper} {rest : List Oper} {o : Oper} {a : Act} {Q : Exit → Act → World → Prop} (hgd : o.guard = none) (s x : Operand)
    (ho : o.op = .call { callee := .builtin .append, args := #[s, x], argTypes := #[29, 29] })
    (base : Nat) (v : Value) (xs : List Value) (u : Value) (hs : a.eval s = v) (hown : ORs w base v xs) (ad : Addr) (hx : a.eval x = .slice (some ad) 1 1) (hy : w.cell? (ad.add 0) = some u) (hu1 : u.oneCell' = true)
    (hlen : xs.length ≤ 1000) (hbase : base ≤ w.heap.size)
    (h : ∀ v' w', ORs w' base v' (xs ++ [u]) → w.grownBy w' v.ownBlock → wpList Tryz.prog ops Q rest (a.put o.dst v') w') : wpList Tryz.prog ops Q (o :: rest) a w := by
  obtain ⟨i0, hi, hz0, hz1, hz2⟩ := info_parts Tryz.infoTT
  refine wpList_append_own _ hgd s x _ ho base 27 i0 (.slice none 0 0) 1 24 Tryz.underlying29 hi hz0 hz1 hz2 rfl (by decide) v xs.length _ hs hown ad 1 1 [u] hx rfl ?_ ?_ ?_ (by omega) hbase ?_
  · intro j u' hj
    cases j with
    | zero => simp at hj; subst hj; exact hy
    | succ j => simp at hj
  · intro u' hu
    simp at hu
    subst hu
    exact hu1
  · unfold maxLen; omega
  · intro v' w' h1 h2 h3
    refine h v' w' ?_ h2
    unfold ORs
    rw [List.length_append, List.length_singleton]
    exact h1
theorem Ells.one {w : World} {base : Nat} {ss : List Value} {Ts : List (List Int)} (h : Ells w base ss Ts) : ∀ u ∈ ss, u.oneCell' = true := fun u hu => by
  obtain ⟨i, hi, rfl⟩ := List.mem_iff_getElem.1 hu
  obtain ⟨a, cap, e, -, -⟩ := (h.2.1 i hi).row
  have : ss.getD i (.slice none 0 0) = ss[i] := by simp [List.getD, hi]
  rw [this] at e
  rw [e]; rfl
/-- One list, and a row of lists behind it. -/
theorem wpList_joinS {w : World} {ops : Array Oper} {rest : List Oper} {o : Oper} {a : Act} {Q : Exit → Act → World → Prop} (hgd : o.guard = none) (s x : Operand)
    (ho : o.op = .call { callee := .builtin .append, args := #[s, x], argTypes := #[29, 29] })
    (g : Nat) (u : Value) (hs : a.eval s = .slice (some ⟨g, 0, none⟩) 1 1) (hg : w.heap[g]? = some (.cells #[u] 27 (0, 0))) (b : Nat) (v : Value) (ss : List Value) (hx : a.eval x = v) (hr : ORs w b v ss) (h0 : 0 < ss.length) (hlen : ss.length ≤ 1000) (h1 : ∀ u ∈ ss, u.oneCell' = true)
    (h : ∀ v' w', ORs w' g v' (u :: ss) → w.grownBy w' (some g) → wpList Tryz.prog ops Q rest (a.put o.dst v') w') : wpList Tryz.prog ops Q (o :: rest) a w := by
  obtain ⟨i0, hi, hz0, hz1, hz2⟩ := info_parts Tryz.infoTT
  obtain ⟨gr, cap, rfl, -, -, -, -, hc, -⟩ := hr.at h0
  have own : ORs w g (.slice (some ⟨g, 0, none⟩) 1 1) [u] := ⟨rfl, .inr ⟨g, 1, #[u], rfl, Nat.le_refl _, hg, Nat.le_refl _, by unfold maxLen; omega, rfl, rfl⟩⟩
  refine wpList_append_own _ hgd s x _ ho g 27 i0 (.slice none 0 0) 1 24 Tryz.underlying29 hi hz0 hz1 hz2 rfl (by decide) _ 1 [u] hs own ⟨gr, 0, none⟩ ss.length cap ss hx (by simp) ?_ h1 ?_ (by omega) (Nat.le_of_lt (lt_of_heap hg)) ?_
  · intro j u' hj
    have hj' : j < ss.length := (List.getElem?_eq_some_iff.1 hj).1
    rw [Addr.add_lit, Nat.zero_add, hc j hj', List.getD_eq_getElem?_getD, hj]; rfl
  · unfold maxLen; omega
  · intro v' w' q1 q2 q3
    refine h v' w' ?_ q2
    unfold ORs
    rw [List.length_cons, Nat.add_comm]
    exact q1
theorem ORs.ty {w : World} {base : Nat} {v : Value} {ss : List Value} (h : ORs w base v ss) : ∀ b, v.ownBlock = some b → base ≤ b ∧ ∀ c, w.heap[b]? ≠ some (.cells c 41 (0, 0)) := fun b e => by
  rcases h.2 with ⟨rfl, -⟩ | ⟨g, cap, cur, rfl, h2, h3, -⟩
  · simp [Value.ownBlock] at e
  · obtain rfl : g = b := by simpa [Value.ownBlock] using e
    exact ⟨h2, fun c q => by rw [h3] at q; simp at q⟩
theorem ORs.cell {w : World} {base n cap : Nat} {a : Option Addr} {ss : List Value} (h : ORs w base (.slice a n cap) ss) {i : Nat} (hi : i < n) : ∃ g, a = some ⟨g, 0, none⟩ ∧ w.cell? ⟨g, i, none⟩ = some (ss.getD i (.slice none 0 0)) := by
  obtain ⟨a', cap', e⟩ := h.slice
  simp only [Value.slice.injEq] at e
  obtain ⟨-, rfl, -⟩ := e
  obtain ⟨g, cap'', e, -, -, -, -, hc, -⟩ := h.at (by omega)
  simp only [Value.slice.injEq] at e
  exact ⟨g, e.1, hc i hi⟩
theorem Own.setRow {w : World} {base N : Nat} {v : Value} {zs : List Int} {c cs : Array Value} {T : TypeId} (h : Own .i8 41 w base v zs) (hN : w.heap[N]? = some (.cells c T (0, 0))) (h1 : T ≠ 27) (h2 : T ≠ 41) : Own .i8 41 (w.setRow N cs) base v zs :=
  h.grown (grown_setRow w N cs) fun b hb c' e => by
    cases hb
    rw [hN] at e
    simp only [Option.some.injEq, Obj.cells.injEq] at e
    exact h2 e.2.1
/-- A list, and the lists of a row that is elder. -/
theorem fam_mk {w5 w6 w' : World} {bl s : Nat} {ss : List Value} {Ts : List (List Int)} {y : Value} {Y : List Int} (h : Ells w5 bl ss Ts) (b1 : Below w5.heap.size w5 w6) (hy : Own .i8 41 w6 w5.heap.size y Y) (b2 : Below w6.heap.size w6 w') (hbl : bl ≤ w5.heap.size) :
    Fam bl w6.heap.size s w' (Ts.length + 1) (fun i => (y :: ss).getD i (.slice none 0 0)) (fun i => (Y :: Ts).getD i []) := by
  obtain ⟨h1, h2, h3⟩ := h
  have e0 : ∀ i b, i < Ts.length → (ss.getD i (.slice none 0 0)).ownBlock = some b → bl ≤ b ∧ b < w5.heap.size := fun i b hi e => ⟨(h2 i (by omega)).block e, own_lt (h2 i (by omega)) e⟩
  have e1 : ∀ b, y.ownBlock = some b → w5.heap.size ≤ b ∧ b < w6.heap.size := fun b e => ⟨hy.block e, own_lt hy e⟩
  have hs := b1.size
  refine ⟨fun i hi => ?_, fun i b hi e => ?_, fun i j b hi hj q1 q2 => ?_⟩
  · cases i with
    | zero => exact (hy.below b2).base hbl
    | succ i => exact (h2 i (by omega)).below (btr b1 b2)
  · cases i with
    | zero => have := e1 b e; exact .inl (by omega)
    | succ i => have := e0 i b (by omega) e; exact .inl (by omega)
  · cases i with
    | zero =>
      cases j with
      | zero => rfl
      | succ j => have := e1 b q1; have := e0 j b (by omega) q2; omega
    | succ i =>
      cases j with
      | zero => have := e1 b q2; have := e0 i b (by omega) q1; omega
      | succ j => have := h3 i j b (by omega) (by omega) q1 q2; omega
theorem Fam.congr {lo hi s m : Nat} {w : World} {V : Nat → Value} {F G : Nat → List Int} (h : Fam lo hi s w m V F) (e : ∀ i, i < m → F i = G i) : Fam lo hi s w m V G := ⟨fun i hi => by rw [← e i hi]; exact h.1 i hi, h.2⟩
theorem Fam.ors {lo hi s m i base : Nat} {w w' : World} {V : Nat → Value} {F : Nat → List Int} {v : Value} {ss : List Value} (h : Fam lo hi s w m V F) (him : i < m) (q : w.grownBy w' (V i).ownBlock) (o : ORs w base v ss) : ORs w' base v ss := by
  refine World.ownsRow.kept o q ?_
  cases e : v.ownBlock with
  | none => exact .inl rfl
  | some b =>
    refine .inr fun e' => ?_
    rcases (h.1 i him).shape with ⟨q0, -⟩ | ⟨g, cap, q0, -, -, -, -, ⟨cur, hc, -⟩, -⟩
    · rw [q0] at e'; simp [Value.ownBlock] at e'
    · rw [q0] at e'
      obtain rfl : b = g := by simpa [Value.ownBlock] using e'
      exact (o.ty b e).2 cur hc
theorem grow_out {lo hi base : Nat} {w0 w w' : World} {v : Value} {ss : List Value} (o : ORs w base v ss) (q : w.grownBy w' v.ownBlock) (h : Outs lo hi w0 w) (hb : w0.heap.size ≤ base) : Outs lo hi w0 w' := h.step q fun b e => .inr (Nat.le_trans hb (o.ty b e).1)
/-! ### Filled lists -/
theorem wrap_wf8 (z : Int) : (Lit.int .i8 (IntKind.i8.wrap z)).wf = true := by
  have e : IntKind.i8.wrap z = (z + 128) % 256 - 128 := by
    simp only [IntKind.wrap, IntKind.bits, IntKind.signed]
    simp
    split <;> omega
  exact mk_i8 (by rw [e]; omega)
theorem fill_all {l : List Int} {n : Nat} {z : Int} (hl : l.length = n) (h : ∀ i, i < n → l[i]? = some z) : l = List.replicate n z := by
  apply List.ext_getElem?
  intro i
  rcases Nat.lt_or_ge i n with hi | hi
  · rw [h i hi]; simp [hi]
  · rw [List.getElem?_eq_none (by omega), List.getElem?_eq_none (by simp; omega)]
theorem fill_set {l : List Int} {n k : Nat} {z : Int} (hl : l.length = n) (hk : k < n) (h : ∀ i, i < k → l[i]? = some z) : ∀ i, i < k + 1 → (l.set k z)[i]? = some z := by
  intro i hi
  by_cases e : i = k
  · subst e; rw [List.getElem?_set_self (by omega)]
  · rw [List.getElem?_set_ne (by omega)]; exact h i (by omega)
def w8 (i : Nat) : Int := IntKind.i8.wrap (i : Int)
theorem w8_lo {i : Nat} (h : i ≤ 127) : w8 i = (i : Int) := by
  have e : IntKind.i8.wrap (i : Int) = ((i : Int) + 128) % 256 - 128 := by
    simp only [IntKind.wrap, IntKind.bits, IntKind.signed]
    simp
    split <;> omega
  unfold w8; rw [e]; omega
theorem w8_hi {i : Nat} : w8 (i + 100) = IntKind.i8.wrap ((i : Int) + 100) := by unfold w8; rw [Int.natCast_add]; rfl
def lst (n i : Nat) (k : Nat) : List Int := List.replicate n (w8 i) ++ List.replicate k (w8 (i + 100))
theorem lst_lo {n i k m : Nat} (h : k < n) : (lst n i m)[k]? = some (w8 i) := by
  unfold lst; rw [List.getElem?_append_left (by simpa using h)]; simp [h]
theorem lst_hi {n i k m : Nat} (h : n ≤ k) (h2 : k < n + m) : (lst n i m)[k]? = some (w8 (i + 100)) := by
  unfold lst; rw [List.getElem?_append_right (by simpa using h), List.length_replicate, List.getElem?_replicate, if_pos (by omega)]
theorem lst_len (n i m : Nat) : (lst n i m).length = n + m := by simp [lst]
theorem lst_0 (n i : Nat) : lst n i 0 = List.replicate n (w8 i) := by simp [lst]
theorem lst_succ (n i m : Nat) : lst n i (m + 1) = lst n i m ++ [w8 (i + 100)] := by unfold lst; rw [List.append_assoc, ← List.replicate_succ']
/-- The first j have grown. -/
def fl (L : Nat → Nat) (j : Nat) : Nat → List Int := fun q => lst (L q) q (if q < j then 40 else 0)
theorem fl_lo {L : Nat → Nat} {j q : Nat} (h : q < j) : fl L j q = lst (L q) q 40 := by unfold fl; rw [if_pos h]
theorem fl_hi {L : Nat → Nat} {j q : Nat} (h : j ≤ q) : fl L j q = lst (L q) q 0 := by unfold fl; rw [if_neg (by omega)]
theorem fl_0 {L : Nat → Nat} {q : Nat} : fl L 0 q = List.replicate (L q) (w8 q) := by rw [fl_hi (Nat.zero_le _), lst_0]
theorem fl_succ {L : Nat → Nat} {j q : Nat} : upd (fl L j) j (lst (L j) j 40) q = fl L (j + 1) q := by
  by_cases e : q = j
  · subst e; rw [upd_same, fl_lo (by omega)]
  · rw [upd_other _ _ e]
    by_cases e2 : q < j
    · rw [fl_lo e2, fl_lo (by omega)]
    · rw [fl_hi (by omega), fl_hi (by omega)]
theorem fl_at {L : Nat → Nat} {j : Nat} : upd (fl L j) j (lst (L j) j 0) = fl L j := by
  rw [← fl_hi (Nat.le_refl j)]; exact upd_id _ _
end Go.Proofs.YtmcdpbnpnifdfaaGreat
