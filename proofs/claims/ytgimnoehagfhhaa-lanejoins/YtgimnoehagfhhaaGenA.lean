/- Laws of memory, of drawn regions and of whole structs: no function of the seat. -/
import Derived.Test.YtgimnoehagfhhaaBufA
import Derived.Test.YtgimnoehagfhhaaHeldQ
import Derived.Test.YtgimnoehagfhhaaTak
import Derived.Deep.WholeRow
import Derived.Deep.DeepCutAuto
import Derived.BigQuiet
namespace Go.Proofs.Ytgimnoehagfhhaa
open Go.ChangeShapes Go.WideShapes Go.ChangeAt Go.RowKit
set_option linter.unusedVariables false
theorem St.h1 {w0 w : World} {B : Nat} {c : Array Value} {T : TypeId} {l : List (Nat × Array Value × TypeId)} (h : St w0 w ((B, c, T) :: l)) : w.heap[B]? = some (.cells c T (0, 0)) := (h.2 _ List.mem_cons_self).1
theorem St.h2 {w0 w : World} {B : Nat} {c : Array Value} {T : TypeId} {x : Nat × Array Value × TypeId} {l : List (Nat × Array Value × TypeId)} (h : St w0 w (x :: (B, c, T) :: l)) : w.heap[B]? = some (.cells c T (0, 0)) := h.tail.h1
theorem St.h3 {w0 w : World} {B : Nat} {c : Array Value} {T : TypeId} {x y : Nat × Array Value × TypeId} {l : List (Nat × Array Value × TypeId)} (h : St w0 w (x :: y :: (B, c, T) :: l)) : w.heap[B]? = some (.cells c T (0, 0)) := h.tail.tail.h1
theorem St.h4 {w0 w : World} {B : Nat} {c : Array Value} {T : TypeId} {x y z : Nat × Array Value × TypeId} {l : List (Nat × Array Value × TypeId)} (h : St w0 w (x :: y :: z :: (B, c, T) :: l)) : w.heap[B]? = some (.cells c T (0, 0)) := h.tail.tail.tail.h1
theorem set3b {w0 w : World} {B N : Nat} {a b c : Value} (h : Below B w0 w) (hN : B ≤ N) : Below B w0 (((w.setCell ⟨N, 0, none⟩ a).setCell ⟨N, 1, none⟩ b).setCell ⟨N, 2, none⟩ c) :=
  ((h.setCell (p := ⟨N, 0, none⟩) hN a).setCell (p := ⟨N, 1, none⟩) hN b).setCell (p := ⟨N, 2, none⟩) hN c
theorem St.grown {w0 w w' : World} {l : List (Nat × Array Value × TypeId)} {row : Option Nat} (h : St w0 w l) (g : w.grownBy w' row) (hr : ∀ k, row = some k → w0.heap.size ≤ k) (hl : ∀ x ∈ l, some x.1 ≠ row) : St w0 w' l :=
  ⟨h.1.grown g h.1.size hr, fun x hx => ⟨by rw [g.block _ (lt_of_heap (h.2 x hx).1) (hl x hx)]; exact (h.2 x hx).1, (h.2 x hx).2⟩⟩
theorem ne_of_ty {w : World} {a b : Nat} {c d : Array Value} {t u : TypeId} (h : w.heap[a]? = some (.cells c t (0, 0))) (k : w.heap[b]? = some (.cells d u (0, 0))) (q : t ≠ u) : a ≠ b := fun e => by
  subst e
  rw [h] at k
  simp only [Option.some.injEq, Obj.cells.injEq] at k
  exact q k.2.1
theorem grown_below {w w' : World} {row : Option Nat} {n : Nat} (g : w.grownBy w' row) (hn : n ≤ w.heap.size) (hr : ∀ b, row = some b → n ≤ b) : Below n w w' := (Below.refl n w).grown g hn hr
theorem owns_other {w w' : World} {base : Nat} {e : TypeId} {size : Nat} {v : Value} {n : Nat} {xs : List Value} (h : w.ownsRow base e size v n xs) (q : ∀ (g : Nat) (c : Array Value), w.heap[g]? = some (.cells c e (0, 0)) → w'.heap[g]? = some (.cells c e (0, 0))) : w'.ownsRow base e size v n xs := by
  refine ⟨h.1, ?_⟩
  rcases h.2 with h0 | ⟨g, cap, cur, h1, h2, h3, h4⟩
  · exact .inl h0
  · exact .inr ⟨g, cap, cur, h1, h2, q g cur h3, h4⟩
theorem app_below {w w' : World} {T : TypeId} {c : Array Value} (g : (w.alloc (.cells c T)).grownBy w' (Value.slice (some ⟨w.heap.size, 0, none⟩) 0 0).ownBlock) : Below w.heap.size w w' :=
  ((Below.refl _ w).alloc (Nat.le_refl _) _).grown g (by simp) (fun b e => by simp [Value.ownBlock] at e; omega)
theorem own_ne {w : World} {base : Nat} {e u : TypeId} {size : Nat} {v : Value} {n b : Nat} {xs : List Value} {c : Array Value} (h : w.ownsRow base e size v n xs) (hb : w.heap[b]? = some (.cells c u (0, 0))) (q : u ≠ e) : some b ≠ v.ownBlock := by
  rcases h.2 with ⟨rfl, -⟩ | ⟨f, cap, cur, rfl, -, h3, -⟩
  · simp [Value.ownBlock]
  · intro k
    obtain rfl : b = f := by simpa [Value.ownBlock] using k
    rw [h3] at hb
    simp only [Option.some.injEq, Obj.cells.injEq] at hb
    exact q hb.2.1.symm
theorem quiet_ld {P : Program} {C : World → Prop} {a a' : Act} {o : Oper} {K : Act → Prop} (ty : TypeId) (x : Operand) (h : o.op = .load ty x) (B : Nat) (hx : a.eval x = .pointer (some ⟨B, 0, none⟩)) (t : TypeId) (cs : Array Value) (d : TypeDesc)
    (hC : ∀ w, C w → w.heap[B]? = some (.cells cs t (0, 0))) (hu : P.underlying ty = some d) (hd : (match d with | .struct _ | .array _ _ => true | _ => false) = true) (hi : (P.info? ty).map (·.size) = some cs.size) (ha : a.put o.dst (.agg cs) = a') (hk : K a') : o.quiet P a C K := by
  refine ⟨.agg cs, fun w hw => ?_, by rw [ha]; exact hk⟩
  unfold Oper.quietAt execOp
  simp only [h, hx, Instr.loadAt, Instr.sureAddr, Sem.run_bind, Sem.run_pure, Result.andThen_ok, run_loadVar_row w B t ty cs (0, 0) d (hC w hw) hu hd hi]
  exact ⟨rfl, rfl⟩
theorem quiet_la {P : Program} {C : World → Prop} {a a' : Act} {o : Oper} {K : Act → Prop} (ty : TypeId) (x : Operand) (h : o.op = .load ty x) (y : Addr) (hx : a.eval x = .pointer (some y)) (cs : List Value) (d : TypeDesc)
    (hC : ∀ w, C w → ∀ j v, cs[j]? = some v → w.cell? (y.add j) = some v) (hu : P.underlying ty = some d) (hd : (match d with | .struct _ | .array _ _ => true | _ => false) = true) (hi : (P.info? ty).map (·.size) = some cs.length) (ha : a.put o.dst (.agg cs.toArray) = a') (hk : K a') : o.quiet P a C K := by
  refine ⟨.agg cs.toArray, fun w hw => ?_, by rw [ha]; exact hk⟩
  have hl : (loadCells y cs.length).run P w = .ok cs.toArray w := run_loadCells_list (P := P) w y cs (hC w hw)
  have hv : (loadVar ty y).run P w = .ok (.agg cs.toArray) w := by
    cases hq : P.info? ty with
    | none => simp [hq] at hi
    | some i =>
      have hs : i.size = cs.length := by simpa [hq] using hi
      have hagg : (isAgg ty).run P w = .ok true w := by
        unfold isAgg
        rw [Sem.run_bind, run_underlying hu w]
        cases d <;> simp_all
      simp [loadVar, Sem.run_bind, hagg, sizeOf, typeInfo, hq, hs, hl]
  unfold Oper.quietAt execOp
  simp only [h, hx, Instr.loadAt, Instr.sureAddr, Sem.run_bind, Sem.run_pure, Result.andThen_ok, hv]
  exact ⟨rfl, rfl⟩
theorem wpList_load_any {P : Program} {ops : Array Oper} {rest : List Oper} {op : Oper} {a : Act} {w : World} {Q : Exit → Act → World → Prop} (hgd : op.guard = none) (ty : TypeId) (x : Operand) (ho : op.op = .load ty x)
    (y : Addr) (hx : a.eval x = .pointer (some y)) (cs : List Value) (d : TypeDesc) (hc : ∀ j v, cs[j]? = some v → w.cell? (y.add j) = some v)
    (hu : P.underlying ty = some d) (hd : (match d with | .struct _ | .array _ _ => true | _ => false) = true) (hi : (P.info? ty).map (·.size) = some cs.length)
    (h : wpList P ops Q rest (a.put op.dst (.agg cs.toArray)) w) : wpList P ops Q (op :: rest) a w := by
  have hl : (loadCells y cs.length).run P w = .ok cs.toArray w := run_loadCells_list (P := P) w y cs hc
  have hv : (loadVar ty y).run P w = .ok (.agg cs.toArray) w := by
    cases hq : P.info? ty with
    | none => simp [hq] at hi
    | some i =>
      have hs : i.size = cs.length := by simpa [hq] using hi
      have hagg : (isAgg ty).run P w = .ok true w := by
        unfold isAgg
        rw [Sem.run_bind, run_underlying hu w]
        cases d <;> simp_all
      simp [loadVar, Sem.run_bind, hagg, sizeOf, typeInfo, hq, hs, hl]
  refine wpList_plain hgd fun _ hK => ?_
  unfold Oper.wp execOp
  simp only [ho, hx, Instr.loadAt, Instr.sureAddr, Sem.run_bind, Sem.run_pure, Result.andThen_ok, hv]
  exact hK _ _ h
theorem St.drop2 {w0 w : World} {a b : Nat × Array Value × TypeId} {l : List (Nat × Array Value × TypeId)} (h : St w0 w (a :: b :: l)) : St w0 w (a :: l) :=
  h.sub fun z hz => by simp only [List.mem_cons] at *; rcases hz with h | h <;> simp [h]
theorem St.toFront {w0 w : World} {a b c : Nat × Array Value × TypeId} {l : List (Nat × Array Value × TypeId)} (h : St w0 w (a :: b :: c :: l)) : St w0 w (b :: c :: a :: l) :=
  h.sub fun z hz => by simp only [List.mem_cons] at *; rcases hz with h | h | h | h <;> simp [h]
theorem wpList_st_new {P : Program} {ops : Array Oper} {rest : List Oper} {o : Oper} {a : Act} {Q : Exit → Act → World → Prop} (hgd : o.guard = none) (ty : TypeId) (x y : Operand) (ho : o.op = .store ty x y) (w : World) (c cells : Array Value)
    (hx : a.eval x = .pointer (some ⟨w.heap.size, 0, none⟩)) (hy : a.eval y = .agg cells) (hi : (P.info? ty).map (·.size) = some cells.size) (hold : c.size = cells.size) (h1 : cells.all (·.oneCell') = true)
    (h : wpList P ops Q rest (a.put o.dst undef) (w.alloc (.cells cells ty))) : wpList P ops Q (o :: rest) a (w.alloc (.cells c ty)) :=
  wpList_store_row hgd ty x y ho w.heap.size cells hx hy ty c (heap_alloc_new w _) hi hold h1 (by rw [World.setRow_alloc_new]; exact h)
/-- A whole struct loaded where a guard lets it. -/
theorem wpList_load_row_g {P : Program} {ops : Array Oper} {rest : List Oper} {o : Oper} {a : Act} {w : World} {Q : Exit → Act → World → Prop} (hw : Region.wanted o (yielded ops a.tmps) = true) (ty : TypeId) (x : Operand) (ho : o.op = .load ty x)
    (g : Nat) (hx : a.eval x = .pointer (some ⟨g, 0, none⟩)) (t : TypeId) (cs : Array Value) (fr : Nat × Nat) (d : TypeDesc) (hg : w.heap[g]? = some (.cells cs t fr))
    (hu : P.underlying ty = some d) (hd : (match d with | .struct _ | .array _ _ => true | _ => false) = true) (hi : (P.info? ty).map (·.size) = some cs.size)
    (h : wpList P ops Q rest (a.put o.dst (.agg cs)) w) : wpList P ops Q (o :: rest) a w :=
  wpList_step fun K hK => by rw [if_pos hw]; exact wp_load_row ty x ho g hx t cs fr d hg hu hd hi (hK _ _ h)
/-- What the blocks hold, in each world that keeps what lies here. -/
def RulesE (w : World) : List (Nat × Array Value × TypeId) → Prop
  | [] => True
  | (B, c, _) :: l => (∀ (n : Wd w []) i, n.w.cell? ⟨B, i, none⟩ = c[i]?) ∧ (∀ (n : Wd w []), B < n.w.heap.size) ∧ RulesE w l
theorem rulesE_of {w : World} : ∀ (l : List (Nat × Array Value × TypeId)), (∀ x ∈ l, w.heap[x.1]? = some (.cells x.2.1 x.2.2)) → RulesE w l
  | [], _ => trivial
  | (B, c, t) :: l, h => by
    have h0 : w.heap[B]? = some (.cells c t) := h _ List.mem_cons_self
    refine ⟨fun n i => ?_, fun n => ?_, rulesE_of l fun x hx => h x (List.mem_cons_of_mem _ hx)⟩
    · have h1 : n.w.heap[B]? = some (.cells c t) := by rw [n.h.below.block _ (lt_of_heap h0)]; exact h0
      simp [World.cell?, h1]
    · exact Nat.lt_of_lt_of_le (lt_of_heap h0) n.h.below.size
theorem St.rulesE {w0 w : World} {l : List (Nat × Array Value × TypeId)} (h : St w0 w l) : RulesE w l := rulesE_of l fun x hx => (h.2 x hx).1
/-- Cells that lie here lie in each world that keeps what lies here. -/
theorem wd_cells {w : World} {l : List Value} {x : Addr} (h : ∀ j v, l[j]? = some v → w.cell? (x.add j) = some v) : ∀ wz, (∃ n : Wd w [], wz = n.w) → ∀ j v, l[j]? = some v → wz.cell? (x.add j) = some v := fun wz hw j v hj => by
  obtain ⟨n, rfl⟩ := hw
  exact (n.h.below.cell (World.block_lt_of_cell? w _ (h j v hj))).trans (h j v hj)
theorem ecells {w : World} {B : Nat} {cs : List Value} {T : TypeId} (h : w.heap[B]? = some (.cells cs.toArray T (0, 0))) : ∀ (q : Nat) (v : Value), cs[q]? = some v → w.cell? ((⟨B, 0, none⟩ : Addr).add q) = some v := fun q v hq => by
  rw [Addr.add_lit, Nat.zero_add, (cells_at h).1]
  simpa using hq
theorem St.row {w0 w : World} {B : Nat} {c : Array Value} {t : TypeId} {l : List (Nat × Array Value × TypeId)} (h : St w0 w ((B, c, t) :: l)) (d : Array Value) (hl : ∀ x ∈ l, x.1 ≠ B) : St w0 (w.setRow B d) ((B, d, t) :: l) := by
  refine ⟨below_setRow h.1 (h.2 _ List.mem_cons_self).2 d, fun x hx => ?_⟩
  rcases List.mem_cons.1 hx with rfl | hx
  · exact ⟨setRow_heap w B c d t (0, 0) (h.2 _ List.mem_cons_self).1, (h.2 _ List.mem_cons_self).2⟩
  · have := h.2 x (List.mem_cons_of_mem _ hx)
    exact ⟨by rw [setRow_other w B x.1 d (hl x hx)]; exact this.1, this.2⟩
theorem results_row_row {P : Program} {fn : Func} {p u : Tmp} {ty ty' : TypeId} (h : fn.results = #[.cell p ty, .cell u ty']) (tmps : Array Value) (w : World) (g g' : Nat) (t t' : TypeId) (cs cs' : Array Value) (d d' : TypeDesc)
    (hp : tmps.getD p undef = .pointer (some ⟨g, 0, none⟩)) (hp' : tmps.getD u undef = .pointer (some ⟨g', 0, none⟩)) (hg : w.heap[g]? = some (.cells cs t (0, 0))) (hg' : w.heap[g']? = some (.cells cs' t' (0, 0)))
    (hu : P.underlying ty = some d) (hd : (match d with | .struct _ | .array _ _ => true | _ => false) = true) (hi : (P.info? ty).map (·.size) = some cs.size)
    (hu' : P.underlying ty' = some d') (hd' : (match d' with | .struct _ | .array _ _ => true | _ => false) = true) (hi' : (P.info? ty').map (·.size) = some cs'.size) :
    (results fn tmps).run P w = .ok (.tuple #[.agg cs, .agg cs']) w := by
  have e1 : tmps[p]?.getD undef = .pointer (some ⟨g, 0, none⟩) := by simpa using hp
  have e2 : tmps[u]?.getD undef = .pointer (some ⟨g', 0, none⟩) := by simpa using hp'
  simp only [results, h]
  simp [Sem.run_bind, Result.andThen, e1, e2, asAddr, run_loadVar_row w g t ty cs (0, 0) d hg hu hd hi, run_loadVar_row w g' t' ty' cs' (0, 0) d' hg' hu' hd' hi']
theorem blk_below {w w' : World} {B : Nat} {o : Obj} (h : w.heap[B]? = some o) (q : Below w.heap.size w w') : w'.heap[B]? = some o := (q.block _ (lt_of_heap h)).trans h
theorem part_cells {w : World} {B : Nat} {cs : Array Value} {T : TypeId} (h : w.heap[B]? = some (.cells cs T (0, 0))) (n : Nat) (l : List Value) (hl : ∀ (q : Nat) (v : Value), l[q]? = some v → cs[n + q]? = some v) : ∀ (q : Nat) (v : Value), l[q]? = some v → w.cell? ((⟨B, n, none⟩ : Addr).add q) = some v := fun q v hq => by
  rw [Addr.add_lit, (cells_at h).1]
  exact hl q v hq
theorem sub_at (l m r : List Value) : ∀ (q : Nat) (v : Value), m[q]? = some v → (l ++ m ++ r).toArray[l.length + q]? = some v := fun q v hq => by
  have := (List.getElem?_eq_some_iff.1 hq).1
  rw [List.getElem?_toArray, List.append_assoc, List.getElem?_append_right (by omega), show l.length + q - l.length = q by omega, List.getElem?_append_left this]
  exact hq
def Qz (M : Act → World → Prop) : Exit → Act → World → Prop
  | .normal, a, w => M a w
  | _, _, _ => False
/-- A region that draws its order: where all its orders meet. -/
theorem regionZ {P : Program} {ops : Array Oper} {Q : Exit → Act → World → Prop} {id : Nat} {a : Act} {w : World} (C : World → Prop) (M : Act → Act → World → Prop) (hm : P.follows .mixedOrders = true) (g : wpAnyC Fence.wide 3 P .any ops C (Qz (M a)) ops.size (Array.replicate ops.size false) a w.drew) (h : ∀ a' w, M a a' w → Q .normal a' w) : (Code.region id ops true).wp P Q a w :=
  (wpIn_wide (n := 3)).1 (wpIn_mono (wpIn_region_any hm (any_of_C _ _ _ _ g)) (fun e a w q => by cases e <;> first | exact h _ _ q | exact q.elim))
/-- A block is written: what lies in blocks of other types stays. -/
theorem row_keep {w : World} {B : Nat} {cs d : Array Value} {T : TypeId} (h : w.heap[B]? = some (.cells cs T (0, 0))) : ∀ (g : Nat) (c : Array Value) (t : TypeId), t ≠ T → w.heap[g]? = some (.cells c t (0, 0)) → (w.setRow B d).heap[g]? = some (.cells c t (0, 0)) := fun g c t ht hg => by
  rw [setRow_other w B g d (ne_of_ty hg h ht)]
  exact hg
theorem new1 {w : World} {v : Value} {t : TypeId} : ∀ j u, [v][j]? = some u → (w.alloc (.cells #[v] t)).cell? ((⟨w.heap.size, 0, none⟩ : Addr).add j) = some u := by
  intro j u hu
  rw [Addr.add_lit, Nat.zero_add, (cells_at (heap_alloc_new w (.cells #[v] t))).1]
  simpa using hu
section
variable {P : Program} {ops : Array Oper} {md : Region.Mode} {C : World → Prop} {Q : Exit → Act → World → Prop} {fuel : Nat} {listed : Array Bool} {a : Act} {w : World} {o : Oper}
/-- A call, guarded or not. -/
theorem zK (i : Nat) (hC : C w) (hr : Region.ready md ops listed = [i]) (ho : ops[i]? = some o) (hw : Region.wanted o (yielded ops a.tmps) = true)
    (f : FuncId) (args : Array Value) (hrun : (execOp a.eval o).run P w = .ok (.enter f args) w) {R : Ending → World → Prop} (hcall : Calls P f args w R)
    (h : ∀ e w', R e w' → ∃ v, e = .returned v ∧ wpAnyC Fence.wide 3 P md ops C Q fuel (listed.setIfInBounds i true) (a.put o.dst v) w') : wpAnyC Fence.wide 3 P md ops C Q (fuel + 1) listed a w :=
  stepC i hC hr ho fun K hK => by
    rw [if_pos hw]
    refine wpIn_of_wp ?_
    unfold Oper.wp
    rw [hrun]
    refine Calls.mono hcall fun e w' he => ?_
    obtain ⟨v, rfl, h2⟩ := h e w' he
    exact hK _ _ h2
/-- Two that may come up, in either order. -/
theorem z2 (i j : Nat) (hC : C w) (hr : Region.ready md ops listed = [i, j])
    (h1 : wpOpIn Fence.wide 3 P ops Q i (wpAnyC Fence.wide 3 P md ops C Q fuel (listed.setIfInBounds i true)) a w)
    (h2 : wpOpIn Fence.wide 3 P ops Q j (wpAnyC Fence.wide 3 P md ops C Q fuel (listed.setIfInBounds j true)) a w) : wpAnyC Fence.wide 3 P md ops C Q (fuel + 1) listed a w :=
  ⟨hC, fun h0 => (by rw [hr] at h0; cases h0), fun k hk => by
    rw [hr] at hk
    simp only [List.mem_cons, List.not_mem_nil, or_false] at hk
    rcases hk with rfl | rfl
    · exact h1
    · exact h2⟩
theorem zO {i : Nat} (ho : ops[i]? = some o) (hg : o.guard = none) (v : Value) (w' : World) (hrun : (execOp a.eval o).run P w = .ok (.value v) w') {K : Act → World → Prop} (h : K (a.put o.dst v) w') : wpOpIn Fence.wide 3 P ops Q i K a w :=
  wpOpIn_step ho fun K' hK' => step_wp hg (by unfold Oper.wp; rw [hrun, Oper.upon_value]; exact hK' _ _ h)
theorem zC {i : Nat} (ho : ops[i]? = some o) (hg : o.guard = none) (f : FuncId) (args : Array Value) (hrun : (execOp a.eval o).run P w = .ok (.enter f args) w) {R : Ending → World → Prop} (hcall : Calls P f args w R) {K : Act → World → Prop}
    (h : ∀ e w', R e w' → ∃ v, e = .returned v ∧ K (a.put o.dst v) w') : wpOpIn Fence.wide 3 P ops Q i K a w :=
  wpOpIn_step ho fun K' hK' => step_wp hg (by
    unfold Oper.wp
    rw [hrun]
    refine Calls.mono hcall fun e w' he => ?_
    obtain ⟨v, rfl, h2⟩ := h e w' he
    exact hK' _ _ h2)
theorem zR (i : Nat) (hC : C w) (hr : Region.ready md ops listed = [i]) (ho : ops[i]? = some o) (hg : o.guard = none)
    (v : Value) (w' : World) (hrun : (execOp a.eval o).run P w = .ok (.value v) w') (h : wpAnyC Fence.wide 3 P md ops C Q fuel (listed.setIfInBounds i true) (a.put o.dst v) w') : wpAnyC Fence.wide 3 P md ops C Q (fuel + 1) listed a w :=
  stepC i hC hr ho fun K hK => step_wp hg (by unfold Oper.wp; rw [hrun, Oper.upon_value]; exact hK _ _ h)
theorem zT (i : Nat) (hC : C w) (hr : Region.ready md ops listed = [i]) (ho : ops[i]? = some o) (hg : o.guard = none)
    (w' : World) (hrun : (execOp a.eval o).run P w = .ok .skip w') (h : wpAnyC Fence.wide 3 P md ops C Q fuel (listed.setIfInBounds i true) (a.put o.dst undef) w') : wpAnyC Fence.wide 3 P md ops C Q (fuel + 1) listed a w :=
  stepC i hC hr ho fun K hK => step_wp hg (by unfold Oper.wp; rw [hrun]; exact hK _ _ h)
/-- Three that may come up, in whatever order. -/
theorem z3 (i j k : Nat) (hC : C w) (hr : Region.ready md ops listed = [i, j, k])
    (h1 : wpOpIn Fence.wide 3 P ops Q i (wpAnyC Fence.wide 3 P md ops C Q fuel (listed.setIfInBounds i true)) a w)
    (h2 : wpOpIn Fence.wide 3 P ops Q j (wpAnyC Fence.wide 3 P md ops C Q fuel (listed.setIfInBounds j true)) a w)
    (h3 : wpOpIn Fence.wide 3 P ops Q k (wpAnyC Fence.wide 3 P md ops C Q fuel (listed.setIfInBounds k true)) a w) : wpAnyC Fence.wide 3 P md ops C Q (fuel + 1) listed a w :=
  ⟨hC, fun h0 => (by rw [hr] at h0; cases h0), fun q hq => by
    rw [hr] at hq
    simp only [List.mem_cons, List.not_mem_nil, or_false] at hq
    rcases hq with rfl | rfl | rfl
    · exact h1
    · exact h2
    · exact h3⟩
theorem z1 (i : Nat) (hC : C w) (hr : Region.ready md ops listed = [i])
    (h1 : wpOpIn Fence.wide 3 P ops Q i (wpAnyC Fence.wide 3 P md ops C Q fuel (listed.setIfInBounds i true)) a w) : wpAnyC Fence.wide 3 P md ops C Q (fuel + 1) listed a w :=
  ⟨hC, fun h0 => (by rw [hr] at h0; cases h0), fun q hq => by
    rw [hr] at hq
    obtain rfl : q = i := by simpa using hq
    exact h1⟩
/-- A store of a whole struct. -/
theorem zS (i : Nat) (hC : C w) (hr : Region.ready md ops listed = [i]) (ho : ops[i]? = some o) (hg : o.guard = none)
    (ty : TypeId) (x y : Operand) (hop : o.op = .store ty x y) (g : Nat) (cells : Array Value) (hx : a.eval x = .pointer (some ⟨g, 0, none⟩)) (hy : a.eval y = .agg cells) (t : TypeId) (old : Array Value) (hh : w.heap[g]? = some (.cells old t (0, 0))) (hi : (P.info? ty).map (·.size) = some cells.size) (hold : old.size = cells.size) (h1 : cells.all (·.oneCell') = true)
    (h : wpAnyC Fence.wide 3 P md ops C Q fuel (listed.setIfInBounds i true) (a.put o.dst undef) (w.setRow g cells)) : wpAnyC Fence.wide 3 P md ops C Q (fuel + 1) listed a w :=
  stepC i hC hr ho fun K hK => step_wp hg (wp_store_row ty x y hop g cells hx hy t old hh hi hold h1 (hK _ _ h))
/-- A panic. -/
theorem zP (i : Nat) (hC : C w) (hr : Region.ready md ops listed = [i]) (ho : ops[i]? = some o) (hg : o.guard = none)
    (v : Value) (w' : World) (hrun : (execOp a.eval o).run P w = .halt (.panic v) w') (h : Q (.panic [{ v, recovered := false }]) a w') : wpAnyC Fence.wide 3 P md ops C Q (fuel + 1) listed a w :=
  stepC i hC hr ho fun K hK => step_wp hg (by unfold Oper.wp; rw [hrun]; exact h)
end
end Go.Proofs.Ytgimnoehagfhhaa
