/- Lists that are grown within Go's own bound; a drawn region of whose operations two are ready; filled lists (cut out of PlmA and PlmB). What Same of package cert returns. What Same of package cert and Same of its document return. The walk of KernMemory. -/
import Derived.Test.YtgofmooidlejlaaGr21
import Derived.Test.YtgofmooidlejlaaGm25
import Derived.Test.YtgofmooidlejlaaGm27
import Derived.ArgAppend
import Derived.OwnWalk
import Derived.Deep.DeepCutAuto
/- Lists that are grown within Go's own bound; a drawn region of whose operations two are ready; filled lists (cut out of PlmA and PlmB). -/
namespace Go.Proofs.Ytgofmooidlejlaa
open Go.ChangeShapes Go.WideShapes Go.ChangeAt Go.RowKit
set_option linter.unusedVariables false
theorem IRow.take {k : IntKind} {w : World} {a : Option Addr} {len cap n : Nat} {zs : List Int} (h : IRow k w a len cap zs) (hn : n ≤ len) : IRow k w a n cap (zs.take n) := by
  obtain ⟨h1, h2, h3, h4, h5, h6⟩ := h
  refine ⟨by simp; omega, by omega, h3, fun z hz => h4 z (List.mem_of_mem_take hz), h5, fun x hx i hi => ?_⟩
  rw [h6 x hx i (by omega)]
  simp [List.getD, hi]
theorem wpList_appW {k : IntKind} {T S : TypeId} {by8 : Nat} (kt : KT k T S by8) {w : World} {ops : Array Oper} {rest : List Oper} {o : Oper} {a : Act} {Q : Exit → Act → World → Prop} (hgd : o.guard = none) (s x : Operand)
    (ho : o.op = .call { callee := .builtin .append, args := #[s, x], argTypes := #[S, S] })
    (base : Nat) (v : Value) (xs ys : List Int) (hs : a.eval s = v) (hown : Own k T w base v xs) (ao : Option Addr) (m c : Nat) (hx : a.eval x = .slice ao m c) (hy : IRow k w ao m c ys)
    (hlen : (xs.length + m) * by8 ≤ 140737488355328) (hbase : base ≤ w.heap.size)
    (h : ∀ v' w', Own k T w' base v' (xs ++ ys) → w.grownBy w' v.ownBlock → wpList Try.prog ops Q rest (a.put o.dst v') w') : wpList Try.prog ops Q (o :: rest) a w := by
  obtain ⟨hu, hin, b1, b8⟩ := kt
  obtain ⟨i0, hi, hz0, hz1, hz2⟩ := info_parts hin
  obtain ⟨hl, hc, hm, hb, hn, hcell⟩ := hy
  have hm2 : xs.length + m ≤ 140737488355328 := Nat.le_trans (Nat.le_mul_of_pos_right _ (by omega)) hlen
  cases ao with
  | none =>
    obtain rfl : c = 0 := hn rfl
    obtain rfl : m = 0 := by omega
    obtain rfl : ys = [] := List.eq_nil_of_length_eq_zero hl
    refine wpList_append_own_none hgd s x _ ho base T i0 1 hu hi v xs.length _ hs hown.1 hx ?_
    exact h v w (by simpa using hown) ⟨rfl, rfl, rfl, Nat.le_refl _, fun _ _ _ => rfl⟩
  | some ad =>
    refine wpList_append_own _ hgd s x _ ho base T i0 (.int k 0) 1 by8 hu hi hz0 hz1 hz2 rfl (by omega) v xs.length _ hs hown.1 ad m c (ys.map (Value.int k)) hx (by simp [hl]) ?_ (ints_oneCell _ _) ?_ hlen hbase ?_
    · intro j u hj
      have hj' : j < m := by
        have := (List.getElem?_eq_some_iff.1 hj).1
        simpa [hl] using this
      rw [hcell ad rfl j hj']
      simp [List.getD, show j < ys.length by omega] at hj ⊢
      exact hj
    · unfold maxLen; omega
    · intro v' w' h1 h2 h3
      refine h v' w' ⟨?_, hown.2.app hb⟩ h2
      rw [List.length_append, hl, List.map_append]
      exact h1
/-- Two may come up. -/
theorem twoC {P : Program} {ops : Array Oper} {md : Region.Mode} {C : World → Prop} {Q : Exit → Act → World → Prop} (i j : Nat) {fuel : Nat} {listed : Array Bool} {a : Act} {w : World} (hC : C w) (hr : Region.ready md ops listed = [i, j])
    (h1 : wpOpIn Fence.wide 3 P ops Q i (wpAnyC Fence.wide 3 P md ops C Q fuel (listed.setIfInBounds i true)) a w)
    (h2 : wpOpIn Fence.wide 3 P ops Q j (wpAnyC Fence.wide 3 P md ops C Q fuel (listed.setIfInBounds j true)) a w) : wpAnyC Fence.wide 3 P md ops C Q (fuel + 1) listed a w :=
  ⟨hC, fun h0 => (by rw [hr] at h0; cases h0), fun k hk => by
    rw [hr] at hk
    simp only [List.mem_cons, List.not_mem_nil, or_false] at hk
    rcases hk with rfl | rfl
    · exact h1
    · exact h2⟩
theorem opR {P : Program} {ops : Array Oper} {md : Region.Mode} {C : World → Prop} {Q : Exit → Act → World → Prop} {i : Nat} {o : Oper} {fuel : Nat} {listed : Array Bool} {a : Act} {w : World} (ho : ops[i]? = some o) (hg : o.guard = none)
    (v : Value) (w' : World) (hrun : (execOp a.eval o).run P w = .ok (.value v) w') (h : wpAnyC Fence.wide 3 P md ops C Q fuel (listed.setIfInBounds i true) (a.put o.dst v) w') : wpOpIn Fence.wide 3 P ops Q i (wpAnyC Fence.wide 3 P md ops C Q fuel (listed.setIfInBounds i true)) a w :=
  wpOpIn_step ho fun K hK => step_wp hg (wp_run1 hrun (hK _ _ h))
theorem opK {P : Program} {ops : Array Oper} {md : Region.Mode} {C : World → Prop} {Q : Exit → Act → World → Prop} {i : Nat} {o : Oper} {fuel : Nat} {listed : Array Bool} {a : Act} {w : World} (ho : ops[i]? = some o) (hg : o.guard = none)
    (f : FuncId) (args : Array Value) (hrun : (execOp a.eval o).run P w = .ok (.enter f args) w) {R : Ending → World → Prop} (hcall : Calls P f args w R)
    (h : ∀ e w', R e w' → ∃ v, e = .returned v ∧ wpAnyC Fence.wide 3 P md ops C Q fuel (listed.setIfInBounds i true) (a.put o.dst v) w') : wpOpIn Fence.wide 3 P ops Q i (wpAnyC Fence.wide 3 P md ops C Q fuel (listed.setIfInBounds i true)) a w :=
  wpOpIn_step ho fun K hK => step_wp hg (by
    unfold Oper.wp
    rw [hrun]
    refine Calls.mono hcall fun e w' he => ?_
    obtain ⟨v, rfl, hv⟩ := h e w' he
    exact hK _ _ hv)
theorem grown_setRow (w : World) (N : Nat) (cs : Array Value) : w.grownBy (w.setRow N cs) (some N) := ⟨rfl, rfl, rfl, by simp, fun k _ hk => setRow_other w N k cs (fun e => hk (by rw [e]))⟩
theorem wpList_app8 {w : World} {ops : Array Oper} {rest : List Oper} {o : Oper} {a : Act} {Q : Exit → Act → World → Prop} (hgd : o.guard = none) (s x : Operand)
    (ho : o.op = .call { callee := .builtin .append, args := #[s, x], argTypes := #[31, 31] })
    (base : Nat) (v : Value) (xs ys : List Int) (hs : a.eval s = v) (hown : Own .i8 63 w base v xs) (ad : Addr) (m c : Nat) (hx : a.eval x = .slice (some ad) m c) (hy : IRow .i8 w (some ad) m c ys) (hm : 0 < m)
    (hlen : xs.length + m ≤ 100000000) (hbase : base ≤ w.heap.size)
    (h : ∀ v' w', Own .i8 63 w' base v' (xs ++ ys) → (v'.ownBlock = v.ownBlock ∨ ∀ b, v'.ownBlock = some b → w.heap.size ≤ b) → w.grownBy w' v.ownBlock → wpList Try.prog ops Q rest (a.put o.dst v') w') : wpList Try.prog ops Q (o :: rest) a w := by
  obtain ⟨hu, hin, b1, b8⟩ := kt_i8
  obtain ⟨i0, hi, hz0, hz1, hz2⟩ := info_parts hin
  obtain ⟨hl, hc, hmm, hb, hn, hcell⟩ := hy
  have hnews : ∀ j u, (ys.map (Value.int .i8))[j]? = some u → w.cell? (ad.add j) = some u := by
    intro j u hj
    have hj' : j < m := by
      have := (List.getElem?_eq_some_iff.1 hj).1
      simpa [hl] using this
    rw [hcell ad rfl j hj']
    simp [List.getD, show j < ys.length by omega] at hj ⊢
    exact hj
  have hgrow : ∀ (ao : Option Addr) (cap : Nat), v = .slice ao xs.length cap → cap < xs.length + m → wpList Try.prog ops Q (o :: rest) a w := fun ao cap ev hfull => by
    subst ev
    refine wpList_append_grows _ hgd s x _ ho 63 i0 (.int .i8 0) 1 1 hu hi hz0 hz1 hz2 rfl (by decide) ao xs.length cap (xs.map (Value.int .i8)) hs ?_ (by simp) ?_ ad m c (ys.map (Value.int .i8)) hx (by simp [hl]) hnews (ints_oneCell _ _) hfull (by unfold maxLen; omega) (by omega) ?_
    · rintro rfl
      rcases hown.shape with ⟨h', h0⟩ | ⟨g, cap', h', _⟩
      · simp only [Value.slice.injEq, true_and] at h'; exact h'
      · cases h'
    · rintro b rfl j u hj
      obtain ⟨a', c', e', r, _⟩ := hown.row
      cases e'
      have hj' : j < xs.length := by
        have := (List.getElem?_eq_some_iff.1 hj).1
        simpa using this
      rw [r.2.2.2.2.2 b rfl j hj']
      simp [List.getD, hj'] at hj ⊢
      exact hj
    · intro v' w' h1 h2
      have own' : Own .i8 63 w' w.heap.size v' (xs ++ ys) := ⟨by rw [List.length_append, hl, List.map_append]; exact h1, hown.2.app hb⟩
      exact h v' w' (own'.base hbase) (.inr fun b e => own'.block e) ⟨h2.os, h2.tape, h2.output, h2.size, fun i hi _ => h2.block i hi (by simp)⟩
  rcases hown.shape with ⟨rfl, rfl⟩ | ⟨g, cap, rfl, hg, hlt, hnc, hcm, -, -, -⟩
  · exact hgrow none 0 rfl (by simpa using hm)
  · by_cases hfit : xs.length + m ≤ cap
    · refine wpList_append_fits _ hgd s x _ ho base 63 i0 1 hu hi hz1 g xs.length cap (xs.map (Value.int .i8)) hs hown.1 ad m c (ys.map (Value.int .i8)) hx (by simp [hl]) hnews (ints_oneCell _ _) hfit ?_
      intro w' h1 h2
      refine h _ w' ⟨?_, hown.2.app hb⟩ (.inl rfl) h2
      rw [List.length_append, hl, List.map_append]
      exact h1
    · exact hgrow _ cap rfl (by omega)
/-! ### Rows of lists -/
theorem Own.setRow {w : World} {base N : Nat} {v : Value} {zs : List Int} {c cs : Array Value} {T : TypeId} (h : Own .i8 63 w base v zs) (hN : w.heap[N]? = some (.cells c T (0, 0))) (h1 : T ≠ 31) (h2 : T ≠ 63) : Own .i8 63 (w.setRow N cs) base v zs :=
  h.grown (grown_setRow w N cs) fun b hb c' e => by
    cases hb
    rw [hN] at e
    simp only [Option.some.injEq, Obj.cells.injEq] at e
    exact h2 e.2.1
/-- Blocks of the elder world turn only from lo to hi. -/
def Outs (lo hi : Nat) (w w' : World) : Prop := w'.os = w.os ∧ w'.tape = w.tape ∧ w'.output = w.output ∧ w.heap.size ≤ w'.heap.size ∧ ∀ i, i < w.heap.size → i < lo ∨ hi ≤ i → w'.heap[i]? = w.heap[i]?
theorem Outs.refl (lo hi : Nat) (w : World) : Outs lo hi w w := ⟨rfl, rfl, rfl, Nat.le_refl _, fun _ _ _ => rfl⟩
theorem Outs.step {lo hi : Nat} {w w1 w2 : World} {row : Option Nat} (h : Outs lo hi w w1) (q : w1.grownBy w2 row) (hr : ∀ b, row = some b → (lo ≤ b ∧ b < hi) ∨ w.heap.size ≤ b) : Outs lo hi w w2 := by
  obtain ⟨h1, h2, h3, h4, h5⟩ := h
  refine ⟨q.os.trans h1, q.tape.trans h2, q.output.trans h3, Nat.le_trans h4 q.size, fun i hi hb => ?_⟩
  rw [← h5 i hi hb]
  exact q.block i (by omega) (fun e => by have := hr i e.symm; omega)
theorem Outs.bel {lo hi : Nat} {w w1 w2 : World} (h : Outs lo hi w w1) (q : Below w1.heap.size w1 w2) : Outs lo hi w w2 :=
  h.step (row := none) ⟨q.os, q.tape, q.output, q.size, fun i hi _ => q.block i hi⟩ (fun b e => by cases e)
theorem Outs.below {lo hi : Nat} {w0 w w' : World} (h : Outs lo hi w w') (q : Below lo w0 w) (hl : lo ≤ w.heap.size) : Below lo w0 w' :=
  q.trans ⟨h.1, h.2.1, h.2.2.1, h.2.2.2.1, fun k hk => h.2.2.2.2 k (by omega) (.inl hk)⟩
theorem Outs.own {lo hi : Nat} {w w' : World} {e : TypeId} {size n : Nat} {v : Value} {xs : List Value} (h : Outs lo hi w w') (q : w.ownsRow hi e size v n xs) : w'.ownsRow hi e size v n xs := by
  refine ⟨q.1, ?_⟩
  rcases q.2 with q | ⟨g, cap, cur, h1, h2, h3, h4⟩
  · exact .inl q
  · exact .inr ⟨g, cap, cur, h1, h2, (h.2.2.2.2 g (lt_of_heap h3) (.inr h2)).trans h3, h4⟩
end Go.Proofs.Ytgofmooidlejlaa

/- What Same of package cert returns. -/
namespace Go.Proofs.Ytgofmooidlejlaa
open Go.ChangeShapes Go.WideShapes Go.ChangeAt Go.RowKit
set_option linter.unusedVariables false
theorem neS2 (a1 a2 b1 b2 : Int) (v : Bool) (h : decide ((a1, a2) = (b1, b2)) = v) : ∀ W, (binOp .neq 59 (.agg #[.int .i64 a1, .int .i64 a2]) (.agg #[.int .i64 b1, .int .i64 b2])).run Try.prog W = .ok (.bool (!v)) W := by
  intro W; subst h; simp [go_sem]; repeat' split
  all_goals simp_all
theorem neC6 (a1 a2 a3 a4 a5 a6 b1 b2 b3 b4 b5 b6 : Int) (v : Bool) (h : decide ((a1, a2, a3, a4, a5, a6) = (b1, b2, b3, b4, b5, b6)) = v) : ∀ W, (binOp .neq 61 (.agg #[.int .i64 a1, .int .i64 a2, .int .i64 a3, .int .i64 a4, .int .i64 a5, .int .i64 a6]) (.agg #[.int .i64 b1, .int .i64 b2, .int .i64 b3, .int .i64 b4, .int .i64 b5, .int .i64 b6])).run Try.prog W = .ok (.bool (!v)) W := by
  intro W; subst h; simp [go_sem]; repeat' split
  all_goals simp_all
theorem te_step {α : Type} {xs ys : List α} {k : Nat} {p : α} (hx : xs[k]? = some p) (hy : ys[k]? = some p) (h : xs.take k = ys.take k) : xs.take (k + 1) = ys.take (k + 1) := by
  rw [List.take_add_one, List.take_add_one, hx, hy, h]
theorem te_ne {α : Type} {xs ys : List α} {k : Nat} {p q : α} (hx : xs[k]? = some p) (hy : ys[k]? = some q) (h : p ≠ q) : xs ≠ ys := fun e => by
  rw [e, hy] at hx
  exact h (Option.some.inj hx).symm
theorem te_end {α : Type} {xs ys : List α} {k n : Nat} (hx : xs.length = n) (hy : ys.length = n) (hk : n ≤ k) (h : xs.take k = ys.take k) : xs = ys := by
  rwa [List.take_of_length_le (by omega), List.take_of_length_le (by omega)] at h
/-- Are the lists of plans the same? -/
noncomputable def smP (P Q : List (List Pl)) : Bool := @decide (P = Q) (Classical.propDecidable _)
theorem smP_t {P Q : List (List Pl)} (h : P = Q) : smP P Q = true := @decide_eq_true _ (Classical.propDecidable _) h
theorem smP_f {P Q : List (List Pl)} (h : P ≠ Q) : smP P Q = false := @decide_eq_false _ (Classical.propDecidable _) h
end Go.Proofs.Ytgofmooidlejlaa

/- What Same of package cert and Same of its document return. -/
namespace Go.Proofs.Ytgofmooidlejlaa
open Go.ChangeShapes Go.WideShapes Go.ChangeAt Go.RowKit
set_option linter.unusedVariables false
/-- Are the certificates the same? -/
noncomputable def ceB (R : List (Int × Int)) (P : List (List Pl)) (S : List (Int × Int)) (Q : List (List Pl)) : Bool := if R = S then smP P Q else false
theorem ceB_n {R S : List (Int × Int)} {P Q : List (List Pl)} (h : R ≠ S) : ceB R P S Q = false := if_neg h
theorem ceB_y {R S : List (Int × Int)} {P Q : List (List Pl)} (h : R = S) : ceB R P S Q = smP P Q := if_pos h
theorem ceB_t {R : List (Int × Int)} {P : List (List Pl)} : ceB R P R P = true := by rw [ceB_y rfl, smP_t rfl]
theorem ceB_m {R S : List (Int × Int)} {P Q : List (List Pl)} (h : P ≠ Q) : ceB R P S Q = false := by unfold ceB; rw [smP_f h]; split <;> rfl
/-! ### The document's -/
set_option maxHeartbeats 4000000 in
set_option maxRecDepth 100000 in
theorem rsame_l (ra : Option Addr) (rn rc : Nat) (R : List (Int × Int)) (pa : Option Addr) (pn pc : Nat) (P : List (List Pl)) (sa : Option Addr) (sn sc : Nat) (S : List (Int × Int)) (qa : Option Addr) (qn qc : Nat) (Q : List (List Pl)) (W : World) (h1 : ERow 2 scs W ra rn rc R) (h2 : QRow W pa pn pc P) (h3 : ERow 2 scs W sa sn sc S) (h4 : QRow W qa qn qc Q) (hl : ¬ (rn = sn ∧ pn = qn)) :
    Calls Try.prog 10 #[.agg #[.slice ra rn rc, .slice pa pn pc], .agg #[.slice sa sn sc, .slice qa qn qc]] W fun e w' => e = .returned (.bool false) ∧ Below W.heap.size W w' := by
  clear h1 h2 h3 h4
  by_cases q1 : (rn : Int) = (sn : Int)
  · have q2 : ¬ (pn : Int) = (qn : Int) := by omega
    clear hl
    go_enter Try.func10, Try.ntmps10
    go_wp2
    go_ret
    exact ⟨rfl, bt (bal _ _) (bal _ _)⟩
  · clear hl
    go_enter Try.func10, Try.ntmps10
    go_wp2
    go_ret
    exact ⟨rfl, bt (bal _ _) (bal _ _)⟩
set_option maxHeartbeats 8000000 in
set_option maxRecDepth 100000 in
theorem rsame_w (ra : Option Addr) (rn rc : Nat) (R : List (Int × Int)) (pa : Option Addr) (pn pc : Nat) (P : List (List Pl)) (sa : Option Addr) (sc : Nat) (S : List (Int × Int)) (qa : Option Addr) (qc : Nat) (Q : List (List Pl)) (W : World) (h1 : ERow 2 scs W ra rn rc R) (h2 : QRow W pa pn pc P) (h3 : ERow 2 scs W sa rn sc S) (h4 : QRow W qa pn qc Q) :
    Calls Try.prog 10 #[.agg #[.slice ra rn rc, .slice pa pn pc], .agg #[.slice sa rn sc, .slice qa pn qc]] W fun e w' => e = .returned (.bool (ceB R P S Q)) ∧ Below W.heap.size W w' := by
  have l1 := h1.2.1
  have l2 := h1.2.2.1
  have l3 := h2.2.1
  have l4 := h2.2.2.1
  have l5 := h3.2.1
  have l6 := h3.2.2.1
  have l7 := h4.2.1
  have l8 := h4.2.2.1
  unfold maxLen at l2 l4 l6 l8
  have H1 : Hid (ERow 2 scs W ra rn rc R) := h1
  have H2 : Hid (QRow W pa pn pc P) := h2
  have H3 : Hid (ERow 2 scs W sa rn sc S) := h3
  have H4 : Hid (QRow W qa pn qc Q) := h4
  clear h1 h2 h3 h4
  obtain ⟨v, hv⟩ : ∃ v, ceB R P S Q = v := ⟨_, rfl⟩
  rw [hv]
  have HV : Hid (ceB R P S Q = v) := hv
  clear hv
  have s0 := ((St.start W).new (c := #[.slice ra rn rc, .slice pa pn pc]) (t := 30)).new (c := #[.slice sa rn sc, .slice qa pn qc]) (t := 30)
  simp only [World.size_alloc] at s0
  have S0 : Hid (St W _ ([(W.heap.size + 1, #[.slice sa rn sc, .slice qa pn qc], 30), (W.heap.size, #[.slice ra rn rc, .slice pa pn pc], 30)])) := s0
  clear s0
  go_enter Try.func10, Try.ntmps10
  go_wp2
  go_loopw [27] (fun i wr => ∃ k : Nat, k ≤ rn ∧ i = .int .i64 k ∧ R.take k = S.take k ∧ St W wr ([(W.heap.size + 1, #[.slice sa rn sc, .slice qa pn qc], 30), (W.heap.size, #[.slice ra rn rc, .slice pa pn pc], 30)])) (fun i _ => rn - (intOf i).toNat)
  case atStart => exact ⟨0, Nat.zero_le _, rfl, by simp, S0.out⟩
  case round =>
    clear S0
    obtain ⟨k, hk, rfl, ht, sr⟩ := hrel
    by_cases hlt : k < rn
    · obtain ⟨x, p, rfl, hp, -, hcx⟩ := (H1.out.below sr.below).at hlt
      obtain ⟨y, q, rfl, hq, -, hcy⟩ := (H3.out.below sr.below).at hlt
      have HT : Hid (R.take k = S.take k) := ht
      obtain ⟨a1, a2⟩ := p
      obtain ⟨b1, b2⟩ := q
      have hCx : Hid (∀ wz, (∃ n : Wd wr [], wz = n.w) → ∀ j v, [.int .i64 a1, .int .i64 a2][j]? = some v → wz.cell? ((x.add (k * 2)).add j) = some v) := wd_cells hcx
      have hCy : Hid (∀ wz, (∃ n : Wd wr [], wz = n.w) → ∀ j v, [.int .i64 b1, .int .i64 b2][j]? = some v → wz.cell? ((y.add (k * 2)).add j) = some v) := wd_cells hcy
      have HP : Hid (R[k]? = some _) := hp
      have HQ : Hid (S[k]? = some _) := hq
      clear hcx hcy ht hp hq
      obtain ⟨ev, hev⟩ : ∃ ev, ev = decide ((a1, a2) = (b1, b2)) := ⟨_, rfl⟩
      have hN := neS2 a1 a2 b1 b2 ev hev.symm
      have HEV : Hid (ev = _) := hev
      clear hev
      go_upto_region 6 with fail
      have hSt := St.start wr
      obtain ⟨q1, y1, q2, y2, -⟩ := sr.rulesE
      have Hsr : Hid (St W wr (_)) := sr
      have hne := Nonempty.intro (Wd.mk _ hSt)
      clear sr
      refine region_held hSt (by kernel_rfl) (by kernel_rfl) ?_
      go_big_quiet_step (fail)
      go_big_quiet_step (fail)
      go_big_quiet_step (fail)
      go_big_quiet_step (fail)
      go_big_quiet_want
      refine quiet_la 59 (.tmp 33) rfl _ rfl [.int .i64 a1, .int .i64 a2] _ hCx.out Try.underlying59 rfl (by kernel_rfl) rfl ?_
      go_simp
      go_big_quiet_on
      go_big_quiet_step (fail)
      go_big_quiet_step (fail)
      go_big_quiet_step (fail)
      go_big_quiet_step (fail)
      go_big_quiet_want
      refine quiet_la 59 (.tmp 38) rfl _ rfl [.int .i64 b1, .int .i64 b2] _ hCy.out Try.underlying59 rfl (by kernel_rfl) rfl ?_
      go_simp
      go_big_quiet_on
      repeat (go_big_quiet_step (fail))
      refine wpQuiet_nil ?_
      intro _ hw'
      obtain ⟨nq, rfl⟩ := hw'
      obtain ⟨w5, hw5⟩ : ∃ w5, nq.w = w5 := ⟨_, rfl⟩
      have hb5 : Below wr.heap.size wr w5 := hw5 ▸ nq.h.below
      rw [hw5]
      have S5 : Hid (St W w5 (_)) := Hsr.out.call hb5
      clear hne hw5 hSt hCx hCy hb5 q1 y1 q2 y2 Hsr
      clear nq
      cases ev with
      | true =>
        have e := of_decide_eq_true HEV.out.symm
        have HT2 : Hid (R.take (k + 1) = S.take (k + 1)) := te_step HP.out (by rw [e]; exact HQ.out) HT.out
        clear e HEV HT HP HQ hN
        go_wp2
        go_roundw
        case rel => exact ⟨k + 1, by omega, by go_num, HT2.out, S5.out⟩
        case measure => simp [intOf]; omega
      | false =>
        have e := te_ne HP.out HQ.out (of_decide_eq_false HEV.out.symm)
        have hv := HV.out
        rw [ceB_n e] at hv
        subst hv
        clear e HEV HT HP HQ hN
        go_wp2
        go_ret
        exact ⟨rfl, S5.out.below⟩
    · have e := te_end H1.out.1 H3.out.1 (by omega) ht
      have hv := HV.out
      rw [ceB_y e] at hv
      have HW : Hid (smP P Q = v) := hv
      obtain ⟨c1, f1, z1, c2, f2, z2, -⟩ := sr.rules
      have Hsr : Hid (St W wr (_)) := sr
      clear ht e hv HV sr
      go_wp2
      clear c1 f1 c2 f2
      go_loopw [45] (fun i wv => ∃ k : Nat, k ≤ pn ∧ i = .int .i64 k ∧ P.take k = Q.take k ∧ St W wv ([(W.heap.size + 1, #[.slice sa rn sc, .slice qa pn qc], 30), (W.heap.size, #[.slice ra rn rc, .slice pa pn pc], 30)])) (fun i _ => pn - (intOf i).toNat)
      case atStart => exact ⟨0, Nat.zero_le _, rfl, by simp, Hsr.out⟩
      case round =>
        clear Hsr z1 z2
        obtain ⟨i, hi0, rfl, ht, sr⟩ := hrel
        by_cases hli : i < pn
        rotate_left
        · have e := te_end H2.out.1 H4.out.1 (by omega) ht
          have hv := HW.out
          rw [smP_t e] at hv
          subst hv
          have Hsr : Hid (St W wr (_)) := sr
          clear ht e sr
          go_wp2
          go_ret
          exact ⟨rfl, Hsr.out.below⟩
        · obtain ⟨x, p, xa, xc, rfl, hp, -, hcx, hex, -⟩ := (H2.out.below sr.below).at hli
          obtain ⟨y, q, ya, yc, rfl, hq, -, hcy, hey, -⟩ := (H4.out.below sr.below).at hli
          have HT : Hid (P.take i = Q.take i) := ht
          have HP : Hid (P[i]? = some p) := hp
          have HQ : Hid (Q[i]? = some q) := hq
          obtain ⟨np, hnp⟩ : ∃ np, p.length = np := ⟨_, rfl⟩
          obtain ⟨nq, hnq⟩ : ∃ nq, q.length = nq := ⟨_, rfl⟩
          rw [hnp] at hcx hex
          rw [hnq] at hcy hey
          have HX : Hid (ERow 6 pcs wr xa np xc p) := hex
          have HY : Hid (ERow 6 pcs wr ya nq yc q) := hey
          have m1 := hex.2.1
          have m2 := hex.2.2.1
          have m3 := hey.2.1
          have m4 := hey.2.2.1
          unfold maxLen at m2 m4
          have qx : ∀ n : Wd wr [], n.w.cell? (x.add i) = some (.slice xa np xc) := fun n => (n.h.below.cell (World.block_lt_of_cell? wr _ hcx)).trans hcx
          have qy : ∀ n : Wd wr [], n.w.cell? (y.add i) = some (.slice ya nq yc) := fun n => (n.h.below.cell (World.block_lt_of_cell? wr _ hcy)).trans hcy
          have Hcx : Hid (wr.cell? (x.add i) = some (.slice xa np xc)) := hcx
          have Hcy : Hid (wr.cell? (y.add i) = some (.slice ya nq yc)) := hcy
          have HN1 : Hid (p.length = np) := hnp
          have HN2 : Hid (q.length = nq) := hnq
          clear hnp hnq hex hey ht hp hq hcx hcy
          go_upto_region 12 with fail
          have hSt := St.start wr
          obtain ⟨q1, y1, q2, y2, -⟩ := sr.rulesE
          have Hsr : Hid (St W wr (_)) := sr
          have hne := Nonempty.intro (Wd.mk _ hSt)
          clear sr
          refine region_held hSt (by kernel_rfl) (by kernel_rfl) ?_
          repeat (go_big_quiet_step (fail))
          refine wpQuiet_nil ?_
          intro _ hw'
          obtain ⟨nw, rfl⟩ := hw'
          obtain ⟨w5, hw5⟩ : ∃ w5, nw.w = w5 := ⟨_, rfl⟩
          have hb5 : Below wr.heap.size wr w5 := hw5 ▸ nw.h.below
          rw [hw5]
          have s5 := Hsr.out.call hb5
          have hcx : w5.cell? (x.add i) = some (.slice xa np xc) := (hb5.cell (World.block_lt_of_cell? wr _ Hcx.out)).trans Hcx.out
          have hcy : w5.cell? (y.add i) = some (.slice ya nq yc) := (hb5.cell (World.block_lt_of_cell? wr _ Hcy.out)).trans Hcy.out
          have HX5 : Hid (ERow 6 pcs w5 xa np xc p) := HX.out.below hb5
          have HY5 : Hid (ERow 6 pcs w5 ya nq yc q) := HY.out.below hb5
          clear hne hw5 hSt hb5 q1 y1 q2 y2 Hsr qx qy HX HY Hcx Hcy
          clear nw
          obtain ⟨c1, f1, z1, c2, f2, z2, -⟩ := s5.rules
          have S5 : Hid (St W w5 (_)) := s5
          clear s5
          by_cases hnn : (np : Int) = (nq : Int)
          rotate_left
          · have e := te_ne HP.out HQ.out (fun e => hnn (by rw [← HN1.out, ← HN2.out, e]))
            have hv := HW.out
            rw [smP_f e] at hv
            subst hv
            clear e HT HP HQ hcx hcy c1 f1 c2 f2
            go_wp2
            go_ret
            exact ⟨rfl, S5.out.below⟩
          · obtain rfl : np = nq := by omega
            clear hnn
            simp only [bne_self_eq_false]
            go_wp2
            clear c1 f1 c2 f2
            go_loopw [67] (fun j wv => ∃ k : Nat, k ≤ np ∧ j = .int .i64 k ∧ p.take k = q.take k ∧ Below w5.heap.size w5 wv) (fun j _ => np - (intOf j).toNat)
            case atStart => exact ⟨0, Nat.zero_le _, rfl, by simp, Below.refl _ _⟩
            case round =>
              obtain ⟨j, hj0, rfl, hu, hbr⟩ := hrel
              have sr := S5.out.call hbr
              by_cases hlj : j < np
              rotate_left
              · have e := te_end HN1.out HN2.out (by omega) hu
                have HT2 : Hid (P.take (i + 1) = Q.take (i + 1)) := te_step HP.out (by rw [e]; exact HQ.out) HT.out
                have Hsr : Hid (St W wr (_)) := sr
                clear e hu sr hbr HT HP HQ hcx hcy
                go_wp2
                go_roundw
                case rel => exact ⟨i + 1, by omega, by go_num, HT2.out, Hsr.out⟩
                case measure => simp [intOf]; omega
              · obtain ⟨s, a, rfl, ha, -, hca⟩ := (HX5.out.below hbr).at hlj
                obtain ⟨t, b, rfl, hb, -, hcb⟩ := (HY5.out.below hbr).at hlj
                obtain ⟨a1, a2, a3, a4, a5, a6⟩ := a
                obtain ⟨b1, b2, b3, b4, b5, b6⟩ := b
                have hCx : Hid (∀ wz, (∃ n : Wd wr [], wz = n.w) → ∀ r v, [.int .i64 a1, .int .i64 a2, .int .i64 a3, .int .i64 a4, .int .i64 a5, .int .i64 a6][r]? = some v → wz.cell? ((s.add (j * 6)).add r) = some v) := wd_cells hca
                have hCy : Hid (∀ wz, (∃ n : Wd wr [], wz = n.w) → ∀ r v, [.int .i64 b1, .int .i64 b2, .int .i64 b3, .int .i64 b4, .int .i64 b5, .int .i64 b6][r]? = some v → wz.cell? ((t.add (j * 6)).add r) = some v) := wd_cells hcb
                have HA : Hid (p[j]? = some _) := ha
                have HB : Hid (q[j]? = some _) := hb
                have HU : Hid (p.take j = q.take j) := hu
                have hcx' := (hbr.cell (World.block_lt_of_cell? w5 _ hcx)).trans hcx
                have hcy' := (hbr.cell (World.block_lt_of_cell? w5 _ hcy)).trans hcy
                have qx : ∀ n : Wd wr [], n.w.cell? (x.add i) = some (.slice (some s) np xc) := fun n => (n.h.below.cell (World.block_lt_of_cell? wr _ hcx')).trans hcx'
                have qy : ∀ n : Wd wr [], n.w.cell? (y.add i) = some (.slice (some t) np yc) := fun n => (n.h.below.cell (World.block_lt_of_cell? wr _ hcy')).trans hcy'
                obtain ⟨ev, hev⟩ : ∃ ev, ev = decide ((a1, a2, a3, a4, a5, a6) = (b1, b2, b3, b4, b5, b6)) := ⟨_, rfl⟩
                have hN := neC6 a1 a2 a3 a4 a5 a6 b1 b2 b3 b4 b5 b6 ev hev.symm
                have HEV : Hid (ev = _) := hev
                have Hbr : Hid (Below w5.heap.size w5 wr) := hbr
                clear hev hca hcb ha hb hu hcx' hcy' hbr
                go_upto_region 17 with fail
                have hSt := St.start wr
                obtain ⟨q1, y1, q2, y2, -⟩ := sr.rulesE
                have hne := Nonempty.intro (Wd.mk _ hSt)
                clear sr hcx hcy
                refine region_held hSt (by kernel_rfl) (by kernel_rfl) ?_
                go_big_quiet_step (fail)
                go_big_quiet_step (fail)
                go_big_quiet_step (fail)
                go_big_quiet_step (fail)
                go_big_quiet_step (fail)
                go_big_quiet_step (fail)
                go_big_quiet_step (fail)
                go_big_quiet_want
                refine quiet_la 61 (.tmp 76) rfl _ rfl [.int .i64 a1, .int .i64 a2, .int .i64 a3, .int .i64 a4, .int .i64 a5, .int .i64 a6] _ hCx.out Try.underlying61 rfl (by kernel_rfl) rfl ?_
                go_simp
                go_big_quiet_on
                go_big_quiet_step (fail)
                go_big_quiet_step (fail)
                go_big_quiet_step (fail)
                go_big_quiet_step (fail)
                go_big_quiet_step (fail)
                go_big_quiet_step (fail)
                go_big_quiet_step (fail)
                go_big_quiet_want
                refine quiet_la 61 (.tmp 84) rfl _ rfl [.int .i64 b1, .int .i64 b2, .int .i64 b3, .int .i64 b4, .int .i64 b5, .int .i64 b6] _ hCy.out Try.underlying61 rfl (by kernel_rfl) rfl ?_
                go_simp
                go_big_quiet_on
                repeat (go_big_quiet_step (fail))
                refine wpQuiet_nil ?_
                intro _ hw'
                obtain ⟨nw, rfl⟩ := hw'
                obtain ⟨w7, hw7⟩ : ∃ w7, nw.w = w7 := ⟨_, rfl⟩
                have hb7 : Below wr.heap.size wr w7 := hw7 ▸ nw.h.below
                rw [hw7]
                have HB7 : Hid (Below w5.heap.size w5 w7) := Hbr.out.trans (hb7.mono Hbr.out.size)
                clear hne hw7 hSt hb7 q1 y1 q2 y2 qx qy Hbr hCx hCy
                clear nw
                cases ev with
                | true =>
                  have e := of_decide_eq_true HEV.out.symm
                  have HT2 : Hid (p.take (j + 1) = q.take (j + 1)) := te_step HA.out (by rw [e]; exact HB.out) HU.out
                  clear e HEV HU HA HB hN
                  go_wp2
                  go_roundw
                  case rel => exact ⟨j + 1, by omega, by go_num, HT2.out, HB7.out⟩
                  case measure => simp [intOf]; omega
                | false =>
                  have e := te_ne HP.out HQ.out (te_ne HA.out HB.out (of_decide_eq_false HEV.out.symm))
                  have hv := HW.out
                  rw [smP_f e] at hv
                  subst hv
                  clear e HEV HU HA HB hN
                  go_wp2
                  go_ret
                  exact ⟨rfl, (S5.out.call HB7.out).below⟩
theorem rsame_any (ra : Option Addr) (rn rc : Nat) (R : List (Int × Int)) (pa : Option Addr) (pn pc : Nat) (P : List (List Pl)) (sa : Option Addr) (sn sc : Nat) (S : List (Int × Int)) (qa : Option Addr) (qn qc : Nat) (Q : List (List Pl)) (W : World) (h1 : ERow 2 scs W ra rn rc R) (h2 : QRow W pa pn pc P) (h3 : ERow 2 scs W sa sn sc S) (h4 : QRow W qa qn qc Q) :
    Calls Try.prog 10 #[.agg #[.slice ra rn rc, .slice pa pn pc], .agg #[.slice sa sn sc, .slice qa qn qc]] W fun e w' => e = .returned (.bool (ceB R P S Q)) ∧ Below W.heap.size W w' := by
  by_cases hl : rn = sn ∧ pn = qn
  · obtain ⟨rfl, rfl⟩ := hl
    exact rsame_w ra rn rc R pa pn pc P sa sc S qa qc Q W h1 h2 h3 h4
  · have hf : ceB R P S Q = false := by
      by_cases e : R = S
      · refine ceB_m (fun q => hl ⟨?_, ?_⟩)
        · rw [← h1.1, ← h3.1, e]
        · rw [← h2.1, ← h4.1, q]
      · exact ceB_n e
    rw [hf]
    exact rsame_l ra rn rc R pa pn pc P sa sn sc S qa qn qc Q W h1 h2 h3 h4 hl
end Go.Proofs.Ytgofmooidlejlaa

/- The walk of KernMemory. -/
namespace Go.Proofs.Ytgofmooidlejlaa.Kr
open Go.ChangeShapes Go.WideShapes Go.ChangeAt Go.RowKit
set_option linter.unusedVariables false
/-- Three may come up. -/
theorem threeC {P : Program} {ops : Array Oper} {md : Region.Mode} {C : World → Prop} {Q : Exit → Act → World → Prop} (i j k : Nat) {fuel : Nat} {listed : Array Bool} {a : Act} {w : World} (hC : C w) (hr : Region.ready md ops listed = [i, j, k])
    (h1 : wpOpIn Fence.wide 3 P ops Q i (wpAnyC Fence.wide 3 P md ops C Q fuel (listed.setIfInBounds i true)) a w)
    (h2 : wpOpIn Fence.wide 3 P ops Q j (wpAnyC Fence.wide 3 P md ops C Q fuel (listed.setIfInBounds j true)) a w)
    (h3 : wpOpIn Fence.wide 3 P ops Q k (wpAnyC Fence.wide 3 P md ops C Q fuel (listed.setIfInBounds k true)) a w) : wpAnyC Fence.wide 3 P md ops C Q (fuel + 1) listed a w :=
  ⟨hC, fun h0 => (by rw [hr] at h0; cases h0), fun m hm => by
    rw [hr] at hm
    simp only [List.mem_cons, List.not_mem_nil, or_false] at hm
    rcases hm with rfl | rfl | rfl
    · exact h1
    · exact h2
    · exact h3⟩
set_option maxHeartbeats 8000000 in
set_option maxRecDepth 100000 in
theorem mem_w (h w c lo hi ot : Int) (oa : Option Addr) (on oc : Nat) (op : Int) (pa : Option Addr) (pl pc : Nat) (PS : List Pl) (ad : Option Addr) (n cap : Nat) (xs : List Int) (bd : Option Addr) (nb capb : Nat) (W : World) (hX : IRow .i8 W ad n cap xs) (hrx : n * 1 ≤ 140737488351232)
    (hPS : ERow 6 pcs W pa pl pc PS) (hrp : pl * 48 ≤ 140737488351232) (T : Tr) (L : List Int) (F1 F2 F3 : Int) (hF0 : F1 ≠ 0 → L = []) (hLb : L.length ≤ 16384)
    (hOp : ∀ (W' : World), Below W.heap.size W W' → ∀ (ad' : Option Addr) (cap' : Nat), IRow .i8 W' ad' n cap' xs →
      Calls Try.prog 8 #[.agg #[.int .i64 h, .int .i64 w, .int .i64 c, .int .i64 lo, .int .i64 hi, .slice oa on oc, .int .i64 ot], .int .i64 op, .slice pa pl pc, .slice ad' n cap', .slice bd nb capb] W' fun e w' => (∃ v, e = .returned (.tuple #[v, .agg T.cs, .agg #[.int .i64 F1, .int .i64 F2, .int .i64 F3]]) ∧ Own .i8 63 w' W'.heap.size v L) ∧ Below W'.heap.size W' w') :
    Calls Try.prog 5 #[.agg #[.int .i64 h, .int .i64 w, .int .i64 c, .int .i64 lo, .int .i64 hi, .slice oa on oc, .int .i64 ot, .int .i64 op, .slice pa pl pc, .slice ad n cap, .slice bd nb capb]] W fun e w' => e = .returned (.bool true) ∧ Below W.heap.size W w' := by
  have HX : Hid (IRow .i8 W ad n cap xs) := hX
  have HXL : Hid (xs.length = n) := hX.1
  have HPS : Hid (ERow 6 pcs W pa pl pc PS) := hPS
  have HPL : Hid (PS.length = pl) := hPS.1
  have HOP : Hid (∀ (W' : World), Below W.heap.size W W' → _) := hOp
  have HF0 : Hid (F1 ≠ 0 → L = []) := hF0
  have HLB : Hid (L.length ≤ 16384) := hLb
  have HFX : Hid (∀ W, _) := fixed_any
  have hnc := hX.2.1
  have hnm := hX.2.2.1
  unfold maxLen at hnm
  clear hOp hF0 hLb
  have s0 := (St.start W).new (c := #[.int .i64 h, .int .i64 w, .int .i64 c, .int .i64 lo, .int .i64 hi, .slice oa on oc, .int .i64 ot, .int .i64 op, .slice pa pl pc, .slice ad n cap, .slice bd nb capb]) (t := 57)
  clear hX hPS
  go_enter Try.func5, Try.ntmps5
  go_wp2_with fail
  refine (HFX.out _).mono ?_
  rintro e w1 ⟨rfl, hb⟩
  have S1 : Hid (St W w1 [(W.heap.size, #[.int .i64 h, .int .i64 w, .int .i64 c, .int .i64 lo, .int .i64 hi, .slice oa on oc, .int .i64 ot, .int .i64 op, .slice pa pl pc, .slice ad n cap, .slice bd nb capb], 57)]) := s0.call hb
  clear hb s0 HFX
  obtain ⟨c1, f1, z1, -⟩ := S1.out.rules
  have own0 : Hid (Own .i8 63 (w1.alloc (.cells #[] 63)) w1.heap.size (.slice (some ⟨w1.heap.size, 0, none⟩) 0 0) []) := own_lit .i8 63 w1 w1.heap.size [] (Wf.nil _) (by unfold maxLen; simp) (Nat.le_refl _)
  have wf3 : Hid (∀ z ∈ ([91, 92, 93] : List Int), I8 z) := by unfold Hid; intro z hz; simp only [List.mem_cons, List.not_mem_nil, or_false] at hz; unfold I8; omega
  go_upto_region 4 with (first
    | (at_builtin; refine wpList_appB kt_i8 rfl (.tmp 16) (.tmp 18) rfl w1.heap.size (.slice (some ⟨w1.heap.size, 0, none⟩) 0 0) xs rfl own0.out _ _ _ rfl ((HX.out.below S1.out.below).below (bal _ _)) hrx (by simp) ?_; intro v2 w2 own2 gr2; have B2 : Hid (Below w1.heap.size w1 w2) := own0.out.bel (bal _ _) gr2 (Nat.le_refl _) (by simp); have O2 : Hid (Own .i8 63 w2 w1.heap.size v2 xs) := own2; clear own2 gr2 own0)
    | (at_builtin; refine wpList_appW kt_i8 rfl (.tmp 19) (.tmp 20) rfl w1.heap.size v2 xs [91, 92, 93] rfl (O2.out.alloc _) _ _ _ rfl (irow_new w2 [91, 92, 93] wf3.out (by decide)) (by rw [HXL.out]; omega) (Nat.le_trans B2.out.size (bal _ _).size) ?_; intro v3 w3 own3 gr3; have B3 : Hid (Below w1.heap.size w1 w3) := (O2.out.alloc _).bel (btr B2.out (bal _ _)) gr3 (Nat.le_refl _) (Nat.le_trans B2.out.size (bal _ _).size); have O3 : Hid (Own .i8 63 w3 w1.heap.size v3 (xs ++ [91, 92, 93])) := own3; clear own3 gr3))
  clear c1 f1 z1
  obtain ⟨va, vc, rfl, -, -⟩ := O3.out.row
  obtain ⟨NW, hNW⟩ : ∃ NW, (xs ++ [91, 92, 93]).length = NW := ⟨_, rfl⟩
  have HNW2 : Hid (NW = n + 3) := by unfold Hid; rw [← hNW, List.length_append, HXL.out]; rfl
  have hNWn : n ≤ NW := by have := HNW2.out; omega
  have hNW3 : NW ≤ 140737488351235 := by have := HNW2.out; omega
  rw [hNW] at O3 ⊢
  have HNW : Hid ((xs ++ [91, 92, 93]).length = NW) := hNW
  have HRW : Hid (IRow .i8 w3 va NW vc (xs ++ [91, 92, 93])) := by obtain ⟨a', c', e', hr', -⟩ := O3.out.row; rw [hNW] at hr' e'; cases e'; exact hr'
  have hw1 := HRW.out.2.1
  have hw2 := HRW.out.2.2.1
  unfold maxLen at hw2
  have S3 : Hid (St W w3 [(W.heap.size, #[.int .i64 h, .int .i64 w, .int .i64 c, .int .i64 lo, .int .i64 hi, .slice oa on oc, .int .i64 ot, .int .i64 op, .slice pa pl pc, .slice ad n cap, .slice bd nb capb], 57)]) := S1.out.call B3.out
  have own3 : Hid (Own .i8 63 (w3.alloc (.cells #[] 63)) w3.heap.size (.slice (some ⟨w3.heap.size, 0, none⟩) 0 0) []) := own_lit .i8 63 w3 w3.heap.size [] (Wf.nil _) (by unfold maxLen; simp) (Nat.le_refl _)
  clear hNW O3 B3 B2 O2 S1 wf3
  go_upto_region 5 with (at_builtin; refine wpList_appW kt_i8 rfl (.tmp 22) (.tmp 23) rfl w3.heap.size (.slice (some ⟨w3.heap.size, 0, none⟩) 0 0) [] (xs ++ [91, 92, 93]) rfl own3.out _ _ _ rfl (HRW.out.below (bal _ _)) (by simp; omega) (by simp) ?_; intro v4 w4 own4 gr4; have B4 : Hid (Below w3.heap.size w3 w4) := own3.out.bel (bal _ _) gr4 (Nat.le_refl _) (by simp); have O4 : Hid (Own .i8 63 w4 w3.heap.size v4 (xs ++ [91, 92, 93])) := own4; clear own4 gr4 own3)
  obtain ⟨wb, cb, rfl, -, -⟩ := O4.out.row
  rw [HNW.out] at O4 ⊢
  have S4 : Hid (St W w4 [(W.heap.size, #[.int .i64 h, .int .i64 w, .int .i64 c, .int .i64 lo, .int .i64 hi, .slice oa on oc, .int .i64 ot, .int .i64 op, .slice pa pl pc, .slice ad n cap, .slice bd nb capb], 57)]) := S3.out.call B4.out
  have HR4 : Hid (IRow .i8 w4 va n vc xs) := by
    have := (HRW.out.below B4.out).take (n := n) (by omega)
    rw [List.take_append_of_le_length (by rw [HXL.out]; exact Nat.le_refl _), List.take_of_length_le (by rw [HXL.out]; exact Nat.le_refl _)] at this
    exact this
  have HAB : Hid (∀ w', Below w4.heap.size w4 w' → IRow .i8 w' va NW vc (xs ++ [91, 92, 93]) ∧ IRow .i8 w' wb NW cb (xs ++ [91, 92, 93]) ∧ Below W.heap.size W w' ∧ IRow .i8 w' va n vc xs ∧ w'.heap[W.heap.size]? = some (.cells #[.int .i64 h, .int .i64 w, .int .i64 c, .int .i64 lo, .int .i64 hi, .slice oa on oc, .int .i64 ot, .int .i64 op, .slice pa pl pc, .slice ad n cap, .slice bd nb capb] 57 (0, 0))) := fun w' q => ⟨(HRW.out.below B4.out).below q, O4.out.irow.below q, (S4.out.call q).below, HR4.out.below q, (S4.out.call q).h1⟩
  clear S3 S4 HRW O4 HR4 B4 HNW HNW2 HXL
  go_cut [5, 6, 7] from 25 to 42 (fun sa sb sc wx => ∃ (p q : Nat) (v : Value), v = sa ∧ sb = .pointer (some ⟨p, 0, none⟩) ∧ sc = .pointer (some ⟨q, 0, none⟩) ∧ Below w4.heap.size w4 wx ∧ wx.heap[q]? = some (.cells #[.int .i64 F1, .int .i64 F2, .int .i64 F3] 38 (0, 0)) ∧ Own .i8 63 wx w4.heap.size v L)
  case first =>
    refine regionC (fun w' => Below w4.heap.size w4 w') (by kernel_rfl) ?_
    obtain ⟨wd, hwd⟩ : ∃ wd, w4.drew = wd := ⟨_, rfl⟩
    have HD : Hid (Below w4.heap.size w4 wd) := by unfold Hid; rw [← hwd]; exact (Below.refl _ _).drew
    rw [hwd]
    clear hwd
    have HG : Hid (∀ w', Below w4.heap.size w4 w' → w'.heap[W.heap.size]? = some (.cells #[.int .i64 h, .int .i64 w, .int .i64 c, .int .i64 lo, .int .i64 hi, .slice oa on oc, .int .i64 ot, .int .i64 op, .slice pa pl pc, .slice ad n cap, .slice bd nb capb] 57 (0, 0))) := fun w' hw' => (HAB.out w' (hw')).2.2.2.2
    have K0 : Hid (∀ w', Below w4.heap.size w4 w' → ∀ q v, [.int .i64 h, .int .i64 w, .int .i64 c, .int .i64 lo, .int .i64 hi, .slice oa on oc, .int .i64 ot][q]? = some v → w'.cell? ((⟨W.heap.size, 0, none⟩ : Addr).add q) = some v) := fun w' hw' => lcells (HG.out w' hw') (fun q v hq => by
        rcases q with _ | _ | _ | _ | _ | _ | _ | q <;> simp at hq <;> subst hq <;> rfl)
    refine takeC 0 (v := .pointer (some ⟨W.heap.size, 0, none⟩)) rfl rfl (by kernel_rfl) (by kernel_rfl) (by kernel_rfl) (fun _ _ _ h => h) (fun _ => rfl) rfl (fun w' hw' => by go_simp) ?_
    refine takeC 1 (v := .agg #[.int .i64 h, .int .i64 w, .int .i64 c, .int .i64 lo, .int .i64 hi, .slice oa on oc, .int .i64 ot]) rfl rfl (by kernel_rfl) (by kernel_rfl) (by kernel_rfl) (fun _ _ _ h => h) (fun _ => rfl) rfl (fun w' hw' => run_la 26 (.tmp 26) rfl ⟨W.heap.size, 0, none⟩ (by kernel_rfl) [.int .i64 h, .int .i64 w, .int .i64 c, .int .i64 lo, .int .i64 hi, .slice oa on oc, .int .i64 ot] _ (K0.out w' hw') Try.underlying26 rfl (by kernel_rfl)) ?_
    refine takeC 2 (v := .pointer (some ⟨W.heap.size, 7, none⟩)) rfl rfl (by kernel_rfl) (by kernel_rfl) (by kernel_rfl) (fun _ _ _ h => h) (fun _ => rfl) rfl (fun w' hw' => by go_simp) ?_
    refine takeC 3 (v := .int .i64 op) rfl rfl (by kernel_rfl) (by kernel_rfl) (by kernel_rfl) (fun _ _ _ h => h) (fun _ => rfl) rfl (fun w' hw' => by have hc := (cells_at (HG.out w' hw')).1 7; go_simp) ?_
    refine takeC 4 (v := .pointer (some ⟨W.heap.size, 8, none⟩)) rfl rfl (by kernel_rfl) (by kernel_rfl) (by kernel_rfl) (fun _ _ _ h => h) (fun _ => rfl) rfl (fun w' hw' => by go_simp) ?_
    refine takeC 5 (v := .slice pa pl pc) rfl rfl (by kernel_rfl) (by kernel_rfl) (by kernel_rfl) (fun _ _ _ h => h) (fun _ => rfl) rfl (fun w' hw' => by have hc := (cells_at (HG.out w' hw')).1 8; go_simp) ?_
    refine takeC 6 (v := .slice va NW vc) rfl rfl (by kernel_rfl) (by kernel_rfl) (by kernel_rfl) (fun _ _ _ h => h) (fun _ => rfl) rfl (fun w' hw' => by go_simp) ?_
    refine takeC 7 (v := .pointer (some ⟨W.heap.size, 9, none⟩)) rfl rfl (by kernel_rfl) (by kernel_rfl) (by kernel_rfl) (fun _ _ _ h => h) (fun _ => rfl) rfl (fun w' hw' => by go_simp) ?_
    refine takeC 8 (v := .slice ad n cap) rfl rfl (by kernel_rfl) (by kernel_rfl) (by kernel_rfl) (fun _ _ _ h => h) (fun _ => rfl) rfl (fun w' hw' => by have hc := (cells_at (HG.out w' hw')).1 9; go_simp) ?_
    refine takeC 9 (v := .int .i64 (n : Int)) rfl rfl (by kernel_rfl) (by kernel_rfl) (by kernel_rfl) (fun _ _ _ h => h) (fun _ => rfl) rfl (fun w' hw' => by go_simp) ?_
    refine takeC 10 (v := .slice va n vc) rfl rfl (by kernel_rfl) (by kernel_rfl) (by kernel_rfl) (fun _ _ _ h => h) (fun _ => rfl) rfl (fun w' hw' => by go_simp; try omega) ?_
    refine takeC 11 (v := .pointer (some ⟨W.heap.size, 10, none⟩)) rfl rfl (by kernel_rfl) (by kernel_rfl) (by kernel_rfl) (fun _ _ _ h => h) (fun _ => rfl) rfl (fun w' hw' => by go_simp) ?_
    refine takeC 12 (v := .slice bd nb capb) rfl rfl (by kernel_rfl) (by kernel_rfl) (by kernel_rfl) (fun _ _ _ h => h) (fun _ => rfl) rfl (fun w' hw' => by have hc := (cells_at (HG.out w' hw')).1 10; go_simp) ?_
    refine threeC 13 18 19 HD.out (by kernel_rfl) ?_ ?_ ?_
    · refine opK rfl rfl 8 #[.agg #[.int .i64 h, .int .i64 w, .int .i64 c, .int .i64 lo, .int .i64 hi, .slice oa on oc, .int .i64 ot], .int .i64 op, .slice pa pl pc, .slice va n vc, .slice bd nb capb] (by kernel_rfl) (HOP.out _ (HAB.out _ (HD.out)).2.2.1 va vc (HAB.out _ (HD.out)).2.2.2.1) ?_
      rintro e wz ⟨⟨vz, rfl, hoz⟩, hbz⟩
      have HB1 : Hid (Below w4.heap.size w4 wz) := btr HD.out hbz
      have O1 : Hid (Own .i8 63 wz w4.heap.size vz L) := hoz.base (HD.out.size)
      clear hoz hbz
      refine ⟨_, rfl, ?_⟩
      refine takeC 14 (v := .tuple #[vz, .agg T.cs, .agg #[.int .i64 F1, .int .i64 F2, .int .i64 F3]]) rfl rfl (by kernel_rfl) (by kernel_rfl) (by kernel_rfl) (fun _ _ _ h => h) (fun _ => rfl) rfl (fun w' hw' => by kernel_rfl) ?_
      refine takeC 15 (v := vz) rfl rfl (by kernel_rfl) (by kernel_rfl) (by kernel_rfl) (fun _ _ _ h => h) (fun _ => rfl) rfl (fun w' hw' => by kernel_rfl) ?_
      refine takeC 16 (v := .agg T.cs) rfl rfl (by kernel_rfl) (by kernel_rfl) (by kernel_rfl) (fun _ _ _ h => h) (fun _ => rfl) rfl (fun w' hw' => by kernel_rfl) ?_
      refine takeC 17 (v := .agg #[.int .i64 F1, .int .i64 F2, .int .i64 F3]) rfl rfl (by kernel_rfl) (by kernel_rfl) (by kernel_rfl) (fun _ _ _ h => h) (fun _ => rfl) rfl (fun w' hw' => by kernel_rfl) ?_
      refine twoC 18 19 HB1.out (by kernel_rfl) ?_ ?_
      · refine opR rfl rfl (.pointer (some ⟨(wz).heap.size, 0, none⟩)) ((wz).alloc (.cells Tr.z.cs 50)) (by kernel_rfl) ?_
        have HB2 : Hid (Below w4.heap.size w4 ((wz).alloc (.cells Tr.z.cs 50))) := btr HB1.out (bal _ _)
        have G62 : Hid (((wz).alloc (.cells Tr.z.cs 50)).heap[(wz).heap.size]? = some (.cells Tr.z.cs 50 (0, 0))) := heap_alloc_new _ _
        have O2 : Hid (Own .i8 63 ((wz).alloc (.cells Tr.z.cs 50)) w4.heap.size vz L) := O1.out.alloc _
        refine stepR 19 HB2.out (by kernel_rfl) rfl rfl (.pointer (some ⟨((wz).alloc (.cells Tr.z.cs 50)).heap.size, 0, none⟩)) (((wz).alloc (.cells Tr.z.cs 50)).alloc (.cells #[.int .i64 0, .int .i64 0, .int .i64 0] 38)) (by kernel_rfl) ?_
        have HB3 : Hid (Below w4.heap.size w4 (((wz).alloc (.cells Tr.z.cs 50)).alloc (.cells #[.int .i64 0, .int .i64 0, .int .i64 0] 38))) := btr HB2.out (bal _ _)
        have G73 : Hid ((((wz).alloc (.cells Tr.z.cs 50)).alloc (.cells #[.int .i64 0, .int .i64 0, .int .i64 0] 38)).heap[((wz).alloc (.cells Tr.z.cs 50)).heap.size]? = some (.cells #[.int .i64 0, .int .i64 0, .int .i64 0] 38 (0, 0))) := heap_alloc_new _ _
        have G63 : Hid ((((wz).alloc (.cells Tr.z.cs 50)).alloc (.cells #[.int .i64 0, .int .i64 0, .int .i64 0] 38)).heap[(wz).heap.size]? = some (.cells Tr.z.cs 50 (0, 0))) := ((bal _ _).block _ (lt_of_heap G62.out)).trans G62.out
        have O3 : Hid (Own .i8 63 (((wz).alloc (.cells Tr.z.cs 50)).alloc (.cells #[.int .i64 0, .int .i64 0, .int .i64 0] 38)) w4.heap.size vz L) := O2.out.alloc _
        have P6 : Hid (w4.heap.size ≤ (wz).heap.size) := HB1.out.size
        have P7 : Hid (w4.heap.size ≤ ((wz).alloc (.cells Tr.z.cs 50)).heap.size) := HB2.out.size
        have NE : Hid ((wz).heap.size ≠ ((wz).alloc (.cells Tr.z.cs 50)).heap.size) := ne_of_ty G63.out G73.out (by decide)
        refine stepR 20 HB3.out (by kernel_rfl) rfl rfl vz (((wz).alloc (.cells Tr.z.cs 50)).alloc (.cells #[.int .i64 0, .int .i64 0, .int .i64 0] 38)) (by kernel_rfl) ?_
        refine stepS 21 HB3.out (by kernel_rfl) rfl rfl 50 (.tmp 6) (.tmp 41) rfl ((wz).heap.size) T.cs (by kernel_rfl) (by kernel_rfl) 50 Tr.z.cs G63.out (by kernel_rfl) rfl (by kernel_rfl) ?_
        have HS1 : Hid (Below w4.heap.size w4 ((((wz).alloc (.cells Tr.z.cs 50)).alloc (.cells #[.int .i64 0, .int .i64 0, .int .i64 0] 38)).setRow ((wz).heap.size) T.cs)) := below_setRow HB3.out P6.out _
        have GS1 : Hid (((((wz).alloc (.cells Tr.z.cs 50)).alloc (.cells #[.int .i64 0, .int .i64 0, .int .i64 0] 38)).setRow ((wz).heap.size) T.cs).heap[((wz).alloc (.cells Tr.z.cs 50)).heap.size]? = some (.cells #[.int .i64 0, .int .i64 0, .int .i64 0] 38 (0, 0))) := (setRow_other _ _ _ _ (fun q => NE.out q.symm)).trans G73.out
        have OS1 : Hid (Own .i8 63 ((((wz).alloc (.cells Tr.z.cs 50)).alloc (.cells #[.int .i64 0, .int .i64 0, .int .i64 0] 38)).setRow ((wz).heap.size) T.cs) w4.heap.size vz L) := Own.setRow O3.out G63.out (by decide) (by decide)
        refine stepS 22 HS1.out (by kernel_rfl) rfl rfl 38 (.tmp 7) (.tmp 42) rfl (((wz).alloc (.cells Tr.z.cs 50)).heap.size) #[.int .i64 F1, .int .i64 F2, .int .i64 F3] (by kernel_rfl) (by kernel_rfl) 38 #[.int .i64 0, .int .i64 0, .int .i64 0] GS1.out (by kernel_rfl) rfl (by simp [Value.oneCell']) ?_
        have HS2 : Hid (Below w4.heap.size w4 (((((wz).alloc (.cells Tr.z.cs 50)).alloc (.cells #[.int .i64 0, .int .i64 0, .int .i64 0] 38)).setRow ((wz).heap.size) T.cs).setRow (((wz).alloc (.cells Tr.z.cs 50)).heap.size) #[.int .i64 F1, .int .i64 F2, .int .i64 F3])) := below_setRow HS1.out P7.out _
        refine doneC HS2.out (by kernel_rfl) ?_ _
        refine (show ∀ a' w', Met _ a' w' → _ from by assumption) _ _ ?_
        refine Met.intro ?_
        go_step
        exact ⟨vz, .pointer (some ⟨(wz).heap.size, 0, none⟩), .pointer (some ⟨((wz).alloc (.cells Tr.z.cs 50)).heap.size, 0, none⟩), .tuple #[vz, .agg T.cs, .agg #[.int .i64 F1, .int .i64 F2, .int .i64 F3]], .pointer (some ⟨W.heap.size, 0, none⟩), .agg #[.int .i64 h, .int .i64 w, .int .i64 c, .int .i64 lo, .int .i64 hi, .slice oa on oc, .int .i64 ot], .pointer (some ⟨W.heap.size, 7, none⟩), .int .i64 op, .pointer (some ⟨W.heap.size, 8, none⟩), .slice pa pl pc, .slice va NW vc, .pointer (some ⟨W.heap.size, 9, none⟩), .slice ad n cap, .int .i64 (n : Int), .slice va n vc, .pointer (some ⟨W.heap.size, 10, none⟩), .slice bd nb capb, .tuple #[vz, .agg T.cs, .agg #[.int .i64 F1, .int .i64 F2, .int .i64 F3]], vz, .agg T.cs, .agg #[.int .i64 F1, .int .i64 F2, .int .i64 F3], ⟨(wz).heap.size, ((wz).alloc (.cells Tr.z.cs 50)).heap.size, vz, rfl, rfl, rfl, HS2.out, setRow_heap _ _ _ _ _ _ GS1.out, Own.setRow OS1.out GS1.out (by decide) (by decide)⟩, by kernel_rfl⟩
      · refine opR rfl rfl (.pointer (some ⟨(wz).heap.size, 0, none⟩)) ((wz).alloc (.cells #[.int .i64 0, .int .i64 0, .int .i64 0] 38)) (by kernel_rfl) ?_
        have HB4 : Hid (Below w4.heap.size w4 ((wz).alloc (.cells #[.int .i64 0, .int .i64 0, .int .i64 0] 38))) := btr HB1.out (bal _ _)
        have G74 : Hid (((wz).alloc (.cells #[.int .i64 0, .int .i64 0, .int .i64 0] 38)).heap[(wz).heap.size]? = some (.cells #[.int .i64 0, .int .i64 0, .int .i64 0] 38 (0, 0))) := heap_alloc_new _ _
        have O4 : Hid (Own .i8 63 ((wz).alloc (.cells #[.int .i64 0, .int .i64 0, .int .i64 0] 38)) w4.heap.size vz L) := O1.out.alloc _
        refine stepR 18 HB4.out (by kernel_rfl) rfl rfl (.pointer (some ⟨((wz).alloc (.cells #[.int .i64 0, .int .i64 0, .int .i64 0] 38)).heap.size, 0, none⟩)) (((wz).alloc (.cells #[.int .i64 0, .int .i64 0, .int .i64 0] 38)).alloc (.cells Tr.z.cs 50)) (by kernel_rfl) ?_
        have HB5 : Hid (Below w4.heap.size w4 (((wz).alloc (.cells #[.int .i64 0, .int .i64 0, .int .i64 0] 38)).alloc (.cells Tr.z.cs 50))) := btr HB4.out (bal _ _)
        have G65 : Hid ((((wz).alloc (.cells #[.int .i64 0, .int .i64 0, .int .i64 0] 38)).alloc (.cells Tr.z.cs 50)).heap[((wz).alloc (.cells #[.int .i64 0, .int .i64 0, .int .i64 0] 38)).heap.size]? = some (.cells Tr.z.cs 50 (0, 0))) := heap_alloc_new _ _
        have G75 : Hid ((((wz).alloc (.cells #[.int .i64 0, .int .i64 0, .int .i64 0] 38)).alloc (.cells Tr.z.cs 50)).heap[(wz).heap.size]? = some (.cells #[.int .i64 0, .int .i64 0, .int .i64 0] 38 (0, 0))) := ((bal _ _).block _ (lt_of_heap G74.out)).trans G74.out
        have O5 : Hid (Own .i8 63 (((wz).alloc (.cells #[.int .i64 0, .int .i64 0, .int .i64 0] 38)).alloc (.cells Tr.z.cs 50)) w4.heap.size vz L) := O4.out.alloc _
        have P6 : Hid (w4.heap.size ≤ ((wz).alloc (.cells #[.int .i64 0, .int .i64 0, .int .i64 0] 38)).heap.size) := HB4.out.size
        have P7 : Hid (w4.heap.size ≤ (wz).heap.size) := HB1.out.size
        have NE : Hid (((wz).alloc (.cells #[.int .i64 0, .int .i64 0, .int .i64 0] 38)).heap.size ≠ (wz).heap.size) := ne_of_ty G65.out G75.out (by decide)
        refine stepR 20 HB5.out (by kernel_rfl) rfl rfl vz (((wz).alloc (.cells #[.int .i64 0, .int .i64 0, .int .i64 0] 38)).alloc (.cells Tr.z.cs 50)) (by kernel_rfl) ?_
        refine stepS 21 HB5.out (by kernel_rfl) rfl rfl 50 (.tmp 6) (.tmp 41) rfl (((wz).alloc (.cells #[.int .i64 0, .int .i64 0, .int .i64 0] 38)).heap.size) T.cs (by kernel_rfl) (by kernel_rfl) 50 Tr.z.cs G65.out (by kernel_rfl) rfl (by kernel_rfl) ?_
        have HS1 : Hid (Below w4.heap.size w4 ((((wz).alloc (.cells #[.int .i64 0, .int .i64 0, .int .i64 0] 38)).alloc (.cells Tr.z.cs 50)).setRow (((wz).alloc (.cells #[.int .i64 0, .int .i64 0, .int .i64 0] 38)).heap.size) T.cs)) := below_setRow HB5.out P6.out _
        have GS1 : Hid (((((wz).alloc (.cells #[.int .i64 0, .int .i64 0, .int .i64 0] 38)).alloc (.cells Tr.z.cs 50)).setRow (((wz).alloc (.cells #[.int .i64 0, .int .i64 0, .int .i64 0] 38)).heap.size) T.cs).heap[(wz).heap.size]? = some (.cells #[.int .i64 0, .int .i64 0, .int .i64 0] 38 (0, 0))) := (setRow_other _ _ _ _ (fun q => NE.out q.symm)).trans G75.out
        have OS1 : Hid (Own .i8 63 ((((wz).alloc (.cells #[.int .i64 0, .int .i64 0, .int .i64 0] 38)).alloc (.cells Tr.z.cs 50)).setRow (((wz).alloc (.cells #[.int .i64 0, .int .i64 0, .int .i64 0] 38)).heap.size) T.cs) w4.heap.size vz L) := Own.setRow O5.out G65.out (by decide) (by decide)
        refine stepS 22 HS1.out (by kernel_rfl) rfl rfl 38 (.tmp 7) (.tmp 42) rfl ((wz).heap.size) #[.int .i64 F1, .int .i64 F2, .int .i64 F3] (by kernel_rfl) (by kernel_rfl) 38 #[.int .i64 0, .int .i64 0, .int .i64 0] GS1.out (by kernel_rfl) rfl (by simp [Value.oneCell']) ?_
        have HS2 : Hid (Below w4.heap.size w4 (((((wz).alloc (.cells #[.int .i64 0, .int .i64 0, .int .i64 0] 38)).alloc (.cells Tr.z.cs 50)).setRow (((wz).alloc (.cells #[.int .i64 0, .int .i64 0, .int .i64 0] 38)).heap.size) T.cs).setRow ((wz).heap.size) #[.int .i64 F1, .int .i64 F2, .int .i64 F3])) := below_setRow HS1.out P7.out _
        refine doneC HS2.out (by kernel_rfl) ?_ _
        refine (show ∀ a' w', Met _ a' w' → _ from by assumption) _ _ ?_
        refine Met.intro ?_
        go_step
        exact ⟨vz, .pointer (some ⟨((wz).alloc (.cells #[.int .i64 0, .int .i64 0, .int .i64 0] 38)).heap.size, 0, none⟩), .pointer (some ⟨(wz).heap.size, 0, none⟩), .tuple #[vz, .agg T.cs, .agg #[.int .i64 F1, .int .i64 F2, .int .i64 F3]], .pointer (some ⟨W.heap.size, 0, none⟩), .agg #[.int .i64 h, .int .i64 w, .int .i64 c, .int .i64 lo, .int .i64 hi, .slice oa on oc, .int .i64 ot], .pointer (some ⟨W.heap.size, 7, none⟩), .int .i64 op, .pointer (some ⟨W.heap.size, 8, none⟩), .slice pa pl pc, .slice va NW vc, .pointer (some ⟨W.heap.size, 9, none⟩), .slice ad n cap, .int .i64 (n : Int), .slice va n vc, .pointer (some ⟨W.heap.size, 10, none⟩), .slice bd nb capb, .tuple #[vz, .agg T.cs, .agg #[.int .i64 F1, .int .i64 F2, .int .i64 F3]], vz, .agg T.cs, .agg #[.int .i64 F1, .int .i64 F2, .int .i64 F3], ⟨((wz).alloc (.cells #[.int .i64 0, .int .i64 0, .int .i64 0] 38)).heap.size, (wz).heap.size, vz, rfl, rfl, rfl, HS2.out, setRow_heap _ _ _ _ _ _ GS1.out, Own.setRow OS1.out GS1.out (by decide) (by decide)⟩, by kernel_rfl⟩
    · refine opR rfl rfl (.pointer (some ⟨(wd).heap.size, 0, none⟩)) ((wd).alloc (.cells Tr.z.cs 50)) (by kernel_rfl) ?_
      have HB6 : Hid (Below w4.heap.size w4 ((wd).alloc (.cells Tr.z.cs 50))) := btr HD.out (bal _ _)
      have G66 : Hid (((wd).alloc (.cells Tr.z.cs 50)).heap[(wd).heap.size]? = some (.cells Tr.z.cs 50 (0, 0))) := heap_alloc_new _ _
      refine twoC 13 19 HB6.out (by kernel_rfl) ?_ ?_
      · refine opK rfl rfl 8 #[.agg #[.int .i64 h, .int .i64 w, .int .i64 c, .int .i64 lo, .int .i64 hi, .slice oa on oc, .int .i64 ot], .int .i64 op, .slice pa pl pc, .slice va n vc, .slice bd nb capb] (by kernel_rfl) (HOP.out _ (HAB.out _ (HB6.out)).2.2.1 va vc (HAB.out _ (HB6.out)).2.2.2.1) ?_
        rintro e wz ⟨⟨vz, rfl, hoz⟩, hbz⟩
        have HB7 : Hid (Below w4.heap.size w4 wz) := btr HB6.out hbz
        have O7 : Hid (Own .i8 63 wz w4.heap.size vz L) := hoz.base (HB6.out.size)
        have G67 : Hid (wz.heap[(wd).heap.size]? = some (.cells Tr.z.cs 50 (0, 0))) := (hbz.block _ (lt_of_heap G66.out)).trans G66.out
        clear hoz hbz
        refine ⟨_, rfl, ?_⟩
        refine takeC 14 (v := .tuple #[vz, .agg T.cs, .agg #[.int .i64 F1, .int .i64 F2, .int .i64 F3]]) rfl rfl (by kernel_rfl) (by kernel_rfl) (by kernel_rfl) (fun _ _ _ h => h) (fun _ => rfl) rfl (fun w' hw' => by kernel_rfl) ?_
        refine takeC 15 (v := vz) rfl rfl (by kernel_rfl) (by kernel_rfl) (by kernel_rfl) (fun _ _ _ h => h) (fun _ => rfl) rfl (fun w' hw' => by kernel_rfl) ?_
        refine takeC 16 (v := .agg T.cs) rfl rfl (by kernel_rfl) (by kernel_rfl) (by kernel_rfl) (fun _ _ _ h => h) (fun _ => rfl) rfl (fun w' hw' => by kernel_rfl) ?_
        refine takeC 17 (v := .agg #[.int .i64 F1, .int .i64 F2, .int .i64 F3]) rfl rfl (by kernel_rfl) (by kernel_rfl) (by kernel_rfl) (fun _ _ _ h => h) (fun _ => rfl) rfl (fun w' hw' => by kernel_rfl) ?_
        refine stepR 19 HB7.out (by kernel_rfl) rfl rfl (.pointer (some ⟨(wz).heap.size, 0, none⟩)) ((wz).alloc (.cells #[.int .i64 0, .int .i64 0, .int .i64 0] 38)) (by kernel_rfl) ?_
        have HB8 : Hid (Below w4.heap.size w4 ((wz).alloc (.cells #[.int .i64 0, .int .i64 0, .int .i64 0] 38))) := btr HB7.out (bal _ _)
        have G78 : Hid (((wz).alloc (.cells #[.int .i64 0, .int .i64 0, .int .i64 0] 38)).heap[(wz).heap.size]? = some (.cells #[.int .i64 0, .int .i64 0, .int .i64 0] 38 (0, 0))) := heap_alloc_new _ _
        have G68 : Hid (((wz).alloc (.cells #[.int .i64 0, .int .i64 0, .int .i64 0] 38)).heap[(wd).heap.size]? = some (.cells Tr.z.cs 50 (0, 0))) := ((bal _ _).block _ (lt_of_heap G67.out)).trans G67.out
        have O8 : Hid (Own .i8 63 ((wz).alloc (.cells #[.int .i64 0, .int .i64 0, .int .i64 0] 38)) w4.heap.size vz L) := O7.out.alloc _
        have P6 : Hid (w4.heap.size ≤ (wd).heap.size) := HD.out.size
        have P7 : Hid (w4.heap.size ≤ (wz).heap.size) := HB7.out.size
        have NE : Hid ((wd).heap.size ≠ (wz).heap.size) := ne_of_ty G68.out G78.out (by decide)
        refine stepR 20 HB8.out (by kernel_rfl) rfl rfl vz ((wz).alloc (.cells #[.int .i64 0, .int .i64 0, .int .i64 0] 38)) (by kernel_rfl) ?_
        refine stepS 21 HB8.out (by kernel_rfl) rfl rfl 50 (.tmp 6) (.tmp 41) rfl ((wd).heap.size) T.cs (by kernel_rfl) (by kernel_rfl) 50 Tr.z.cs G68.out (by kernel_rfl) rfl (by kernel_rfl) ?_
        have HS1 : Hid (Below w4.heap.size w4 (((wz).alloc (.cells #[.int .i64 0, .int .i64 0, .int .i64 0] 38)).setRow ((wd).heap.size) T.cs)) := below_setRow HB8.out P6.out _
        have GS1 : Hid ((((wz).alloc (.cells #[.int .i64 0, .int .i64 0, .int .i64 0] 38)).setRow ((wd).heap.size) T.cs).heap[(wz).heap.size]? = some (.cells #[.int .i64 0, .int .i64 0, .int .i64 0] 38 (0, 0))) := (setRow_other _ _ _ _ (fun q => NE.out q.symm)).trans G78.out
        have OS1 : Hid (Own .i8 63 (((wz).alloc (.cells #[.int .i64 0, .int .i64 0, .int .i64 0] 38)).setRow ((wd).heap.size) T.cs) w4.heap.size vz L) := Own.setRow O8.out G68.out (by decide) (by decide)
        refine stepS 22 HS1.out (by kernel_rfl) rfl rfl 38 (.tmp 7) (.tmp 42) rfl ((wz).heap.size) #[.int .i64 F1, .int .i64 F2, .int .i64 F3] (by kernel_rfl) (by kernel_rfl) 38 #[.int .i64 0, .int .i64 0, .int .i64 0] GS1.out (by kernel_rfl) rfl (by simp [Value.oneCell']) ?_
        have HS2 : Hid (Below w4.heap.size w4 ((((wz).alloc (.cells #[.int .i64 0, .int .i64 0, .int .i64 0] 38)).setRow ((wd).heap.size) T.cs).setRow ((wz).heap.size) #[.int .i64 F1, .int .i64 F2, .int .i64 F3])) := below_setRow HS1.out P7.out _
        refine doneC HS2.out (by kernel_rfl) ?_ _
        refine (show ∀ a' w', Met _ a' w' → _ from by assumption) _ _ ?_
        refine Met.intro ?_
        go_step
        exact ⟨vz, .pointer (some ⟨(wd).heap.size, 0, none⟩), .pointer (some ⟨(wz).heap.size, 0, none⟩), .tuple #[vz, .agg T.cs, .agg #[.int .i64 F1, .int .i64 F2, .int .i64 F3]], .pointer (some ⟨W.heap.size, 0, none⟩), .agg #[.int .i64 h, .int .i64 w, .int .i64 c, .int .i64 lo, .int .i64 hi, .slice oa on oc, .int .i64 ot], .pointer (some ⟨W.heap.size, 7, none⟩), .int .i64 op, .pointer (some ⟨W.heap.size, 8, none⟩), .slice pa pl pc, .slice va NW vc, .pointer (some ⟨W.heap.size, 9, none⟩), .slice ad n cap, .int .i64 (n : Int), .slice va n vc, .pointer (some ⟨W.heap.size, 10, none⟩), .slice bd nb capb, .tuple #[vz, .agg T.cs, .agg #[.int .i64 F1, .int .i64 F2, .int .i64 F3]], vz, .agg T.cs, .agg #[.int .i64 F1, .int .i64 F2, .int .i64 F3], ⟨(wd).heap.size, (wz).heap.size, vz, rfl, rfl, rfl, HS2.out, setRow_heap _ _ _ _ _ _ GS1.out, Own.setRow OS1.out GS1.out (by decide) (by decide)⟩, by kernel_rfl⟩
      · refine opR rfl rfl (.pointer (some ⟨((wd).alloc (.cells Tr.z.cs 50)).heap.size, 0, none⟩)) (((wd).alloc (.cells Tr.z.cs 50)).alloc (.cells #[.int .i64 0, .int .i64 0, .int .i64 0] 38)) (by kernel_rfl) ?_
        have HB9 : Hid (Below w4.heap.size w4 (((wd).alloc (.cells Tr.z.cs 50)).alloc (.cells #[.int .i64 0, .int .i64 0, .int .i64 0] 38))) := btr HB6.out (bal _ _)
        have G79 : Hid ((((wd).alloc (.cells Tr.z.cs 50)).alloc (.cells #[.int .i64 0, .int .i64 0, .int .i64 0] 38)).heap[((wd).alloc (.cells Tr.z.cs 50)).heap.size]? = some (.cells #[.int .i64 0, .int .i64 0, .int .i64 0] 38 (0, 0))) := heap_alloc_new _ _
        have G69 : Hid ((((wd).alloc (.cells Tr.z.cs 50)).alloc (.cells #[.int .i64 0, .int .i64 0, .int .i64 0] 38)).heap[(wd).heap.size]? = some (.cells Tr.z.cs 50 (0, 0))) := ((bal _ _).block _ (lt_of_heap G66.out)).trans G66.out
        refine stepK 13 HB9.out (by kernel_rfl) rfl rfl 8 #[.agg #[.int .i64 h, .int .i64 w, .int .i64 c, .int .i64 lo, .int .i64 hi, .slice oa on oc, .int .i64 ot], .int .i64 op, .slice pa pl pc, .slice va n vc, .slice bd nb capb] (by kernel_rfl) (HOP.out _ (HAB.out _ (HB9.out)).2.2.1 va vc (HAB.out _ (HB9.out)).2.2.2.1) ?_
        rintro e wz ⟨⟨vz, rfl, hoz⟩, hbz⟩
        have HB10 : Hid (Below w4.heap.size w4 wz) := btr HB9.out hbz
        have O10 : Hid (Own .i8 63 wz w4.heap.size vz L) := hoz.base (HB9.out.size)
        have G610 : Hid (wz.heap[(wd).heap.size]? = some (.cells Tr.z.cs 50 (0, 0))) := (hbz.block _ (lt_of_heap G69.out)).trans G69.out
        have G710 : Hid (wz.heap[((wd).alloc (.cells Tr.z.cs 50)).heap.size]? = some (.cells #[.int .i64 0, .int .i64 0, .int .i64 0] 38 (0, 0))) := (hbz.block _ (lt_of_heap G79.out)).trans G79.out
        clear hoz hbz
        refine ⟨_, rfl, ?_⟩
        refine takeC 14 (v := .tuple #[vz, .agg T.cs, .agg #[.int .i64 F1, .int .i64 F2, .int .i64 F3]]) rfl rfl (by kernel_rfl) (by kernel_rfl) (by kernel_rfl) (fun _ _ _ h => h) (fun _ => rfl) rfl (fun w' hw' => by kernel_rfl) ?_
        refine takeC 15 (v := vz) rfl rfl (by kernel_rfl) (by kernel_rfl) (by kernel_rfl) (fun _ _ _ h => h) (fun _ => rfl) rfl (fun w' hw' => by kernel_rfl) ?_
        refine takeC 16 (v := .agg T.cs) rfl rfl (by kernel_rfl) (by kernel_rfl) (by kernel_rfl) (fun _ _ _ h => h) (fun _ => rfl) rfl (fun w' hw' => by kernel_rfl) ?_
        refine takeC 17 (v := .agg #[.int .i64 F1, .int .i64 F2, .int .i64 F3]) rfl rfl (by kernel_rfl) (by kernel_rfl) (by kernel_rfl) (fun _ _ _ h => h) (fun _ => rfl) rfl (fun w' hw' => by kernel_rfl) ?_
        have P6 : Hid (w4.heap.size ≤ (wd).heap.size) := HD.out.size
        have P7 : Hid (w4.heap.size ≤ ((wd).alloc (.cells Tr.z.cs 50)).heap.size) := HB6.out.size
        have NE : Hid ((wd).heap.size ≠ ((wd).alloc (.cells Tr.z.cs 50)).heap.size) := ne_of_ty G610.out G710.out (by decide)
        refine stepR 20 HB10.out (by kernel_rfl) rfl rfl vz (wz) (by kernel_rfl) ?_
        refine stepS 21 HB10.out (by kernel_rfl) rfl rfl 50 (.tmp 6) (.tmp 41) rfl ((wd).heap.size) T.cs (by kernel_rfl) (by kernel_rfl) 50 Tr.z.cs G610.out (by kernel_rfl) rfl (by kernel_rfl) ?_
        have HS1 : Hid (Below w4.heap.size w4 ((wz).setRow ((wd).heap.size) T.cs)) := below_setRow HB10.out P6.out _
        have GS1 : Hid (((wz).setRow ((wd).heap.size) T.cs).heap[((wd).alloc (.cells Tr.z.cs 50)).heap.size]? = some (.cells #[.int .i64 0, .int .i64 0, .int .i64 0] 38 (0, 0))) := (setRow_other _ _ _ _ (fun q => NE.out q.symm)).trans G710.out
        have OS1 : Hid (Own .i8 63 ((wz).setRow ((wd).heap.size) T.cs) w4.heap.size vz L) := Own.setRow O10.out G610.out (by decide) (by decide)
        refine stepS 22 HS1.out (by kernel_rfl) rfl rfl 38 (.tmp 7) (.tmp 42) rfl (((wd).alloc (.cells Tr.z.cs 50)).heap.size) #[.int .i64 F1, .int .i64 F2, .int .i64 F3] (by kernel_rfl) (by kernel_rfl) 38 #[.int .i64 0, .int .i64 0, .int .i64 0] GS1.out (by kernel_rfl) rfl (by simp [Value.oneCell']) ?_
        have HS2 : Hid (Below w4.heap.size w4 (((wz).setRow ((wd).heap.size) T.cs).setRow (((wd).alloc (.cells Tr.z.cs 50)).heap.size) #[.int .i64 F1, .int .i64 F2, .int .i64 F3])) := below_setRow HS1.out P7.out _
        refine doneC HS2.out (by kernel_rfl) ?_ _
        refine (show ∀ a' w', Met _ a' w' → _ from by assumption) _ _ ?_
        refine Met.intro ?_
        go_step
        exact ⟨vz, .pointer (some ⟨(wd).heap.size, 0, none⟩), .pointer (some ⟨((wd).alloc (.cells Tr.z.cs 50)).heap.size, 0, none⟩), .tuple #[vz, .agg T.cs, .agg #[.int .i64 F1, .int .i64 F2, .int .i64 F3]], .pointer (some ⟨W.heap.size, 0, none⟩), .agg #[.int .i64 h, .int .i64 w, .int .i64 c, .int .i64 lo, .int .i64 hi, .slice oa on oc, .int .i64 ot], .pointer (some ⟨W.heap.size, 7, none⟩), .int .i64 op, .pointer (some ⟨W.heap.size, 8, none⟩), .slice pa pl pc, .slice va NW vc, .pointer (some ⟨W.heap.size, 9, none⟩), .slice ad n cap, .int .i64 (n : Int), .slice va n vc, .pointer (some ⟨W.heap.size, 10, none⟩), .slice bd nb capb, .tuple #[vz, .agg T.cs, .agg #[.int .i64 F1, .int .i64 F2, .int .i64 F3]], vz, .agg T.cs, .agg #[.int .i64 F1, .int .i64 F2, .int .i64 F3], ⟨(wd).heap.size, ((wd).alloc (.cells Tr.z.cs 50)).heap.size, vz, rfl, rfl, rfl, HS2.out, setRow_heap _ _ _ _ _ _ GS1.out, Own.setRow OS1.out GS1.out (by decide) (by decide)⟩, by kernel_rfl⟩
    · refine opR rfl rfl (.pointer (some ⟨(wd).heap.size, 0, none⟩)) ((wd).alloc (.cells #[.int .i64 0, .int .i64 0, .int .i64 0] 38)) (by kernel_rfl) ?_
      have HB11 : Hid (Below w4.heap.size w4 ((wd).alloc (.cells #[.int .i64 0, .int .i64 0, .int .i64 0] 38))) := btr HD.out (bal _ _)
      have G711 : Hid (((wd).alloc (.cells #[.int .i64 0, .int .i64 0, .int .i64 0] 38)).heap[(wd).heap.size]? = some (.cells #[.int .i64 0, .int .i64 0, .int .i64 0] 38 (0, 0))) := heap_alloc_new _ _
      refine twoC 13 18 HB11.out (by kernel_rfl) ?_ ?_
      · refine opK rfl rfl 8 #[.agg #[.int .i64 h, .int .i64 w, .int .i64 c, .int .i64 lo, .int .i64 hi, .slice oa on oc, .int .i64 ot], .int .i64 op, .slice pa pl pc, .slice va n vc, .slice bd nb capb] (by kernel_rfl) (HOP.out _ (HAB.out _ (HB11.out)).2.2.1 va vc (HAB.out _ (HB11.out)).2.2.2.1) ?_
        rintro e wz ⟨⟨vz, rfl, hoz⟩, hbz⟩
        have HB12 : Hid (Below w4.heap.size w4 wz) := btr HB11.out hbz
        have O12 : Hid (Own .i8 63 wz w4.heap.size vz L) := hoz.base (HB11.out.size)
        have G712 : Hid (wz.heap[(wd).heap.size]? = some (.cells #[.int .i64 0, .int .i64 0, .int .i64 0] 38 (0, 0))) := (hbz.block _ (lt_of_heap G711.out)).trans G711.out
        clear hoz hbz
        refine ⟨_, rfl, ?_⟩
        refine takeC 14 (v := .tuple #[vz, .agg T.cs, .agg #[.int .i64 F1, .int .i64 F2, .int .i64 F3]]) rfl rfl (by kernel_rfl) (by kernel_rfl) (by kernel_rfl) (fun _ _ _ h => h) (fun _ => rfl) rfl (fun w' hw' => by kernel_rfl) ?_
        refine takeC 15 (v := vz) rfl rfl (by kernel_rfl) (by kernel_rfl) (by kernel_rfl) (fun _ _ _ h => h) (fun _ => rfl) rfl (fun w' hw' => by kernel_rfl) ?_
        refine takeC 16 (v := .agg T.cs) rfl rfl (by kernel_rfl) (by kernel_rfl) (by kernel_rfl) (fun _ _ _ h => h) (fun _ => rfl) rfl (fun w' hw' => by kernel_rfl) ?_
        refine takeC 17 (v := .agg #[.int .i64 F1, .int .i64 F2, .int .i64 F3]) rfl rfl (by kernel_rfl) (by kernel_rfl) (by kernel_rfl) (fun _ _ _ h => h) (fun _ => rfl) rfl (fun w' hw' => by kernel_rfl) ?_
        refine stepR 18 HB12.out (by kernel_rfl) rfl rfl (.pointer (some ⟨(wz).heap.size, 0, none⟩)) ((wz).alloc (.cells Tr.z.cs 50)) (by kernel_rfl) ?_
        have HB13 : Hid (Below w4.heap.size w4 ((wz).alloc (.cells Tr.z.cs 50))) := btr HB12.out (bal _ _)
        have G613 : Hid (((wz).alloc (.cells Tr.z.cs 50)).heap[(wz).heap.size]? = some (.cells Tr.z.cs 50 (0, 0))) := heap_alloc_new _ _
        have G713 : Hid (((wz).alloc (.cells Tr.z.cs 50)).heap[(wd).heap.size]? = some (.cells #[.int .i64 0, .int .i64 0, .int .i64 0] 38 (0, 0))) := ((bal _ _).block _ (lt_of_heap G712.out)).trans G712.out
        have O13 : Hid (Own .i8 63 ((wz).alloc (.cells Tr.z.cs 50)) w4.heap.size vz L) := O12.out.alloc _
        have P6 : Hid (w4.heap.size ≤ (wz).heap.size) := HB12.out.size
        have P7 : Hid (w4.heap.size ≤ (wd).heap.size) := HD.out.size
        have NE : Hid ((wz).heap.size ≠ (wd).heap.size) := ne_of_ty G613.out G713.out (by decide)
        refine stepR 20 HB13.out (by kernel_rfl) rfl rfl vz ((wz).alloc (.cells Tr.z.cs 50)) (by kernel_rfl) ?_
        refine stepS 21 HB13.out (by kernel_rfl) rfl rfl 50 (.tmp 6) (.tmp 41) rfl ((wz).heap.size) T.cs (by kernel_rfl) (by kernel_rfl) 50 Tr.z.cs G613.out (by kernel_rfl) rfl (by kernel_rfl) ?_
        have HS1 : Hid (Below w4.heap.size w4 (((wz).alloc (.cells Tr.z.cs 50)).setRow ((wz).heap.size) T.cs)) := below_setRow HB13.out P6.out _
        have GS1 : Hid ((((wz).alloc (.cells Tr.z.cs 50)).setRow ((wz).heap.size) T.cs).heap[(wd).heap.size]? = some (.cells #[.int .i64 0, .int .i64 0, .int .i64 0] 38 (0, 0))) := (setRow_other _ _ _ _ (fun q => NE.out q.symm)).trans G713.out
        have OS1 : Hid (Own .i8 63 (((wz).alloc (.cells Tr.z.cs 50)).setRow ((wz).heap.size) T.cs) w4.heap.size vz L) := Own.setRow O13.out G613.out (by decide) (by decide)
        refine stepS 22 HS1.out (by kernel_rfl) rfl rfl 38 (.tmp 7) (.tmp 42) rfl ((wd).heap.size) #[.int .i64 F1, .int .i64 F2, .int .i64 F3] (by kernel_rfl) (by kernel_rfl) 38 #[.int .i64 0, .int .i64 0, .int .i64 0] GS1.out (by kernel_rfl) rfl (by simp [Value.oneCell']) ?_
        have HS2 : Hid (Below w4.heap.size w4 ((((wz).alloc (.cells Tr.z.cs 50)).setRow ((wz).heap.size) T.cs).setRow ((wd).heap.size) #[.int .i64 F1, .int .i64 F2, .int .i64 F3])) := below_setRow HS1.out P7.out _
        refine doneC HS2.out (by kernel_rfl) ?_ _
        refine (show ∀ a' w', Met _ a' w' → _ from by assumption) _ _ ?_
        refine Met.intro ?_
        go_step
        exact ⟨vz, .pointer (some ⟨(wz).heap.size, 0, none⟩), .pointer (some ⟨(wd).heap.size, 0, none⟩), .tuple #[vz, .agg T.cs, .agg #[.int .i64 F1, .int .i64 F2, .int .i64 F3]], .pointer (some ⟨W.heap.size, 0, none⟩), .agg #[.int .i64 h, .int .i64 w, .int .i64 c, .int .i64 lo, .int .i64 hi, .slice oa on oc, .int .i64 ot], .pointer (some ⟨W.heap.size, 7, none⟩), .int .i64 op, .pointer (some ⟨W.heap.size, 8, none⟩), .slice pa pl pc, .slice va NW vc, .pointer (some ⟨W.heap.size, 9, none⟩), .slice ad n cap, .int .i64 (n : Int), .slice va n vc, .pointer (some ⟨W.heap.size, 10, none⟩), .slice bd nb capb, .tuple #[vz, .agg T.cs, .agg #[.int .i64 F1, .int .i64 F2, .int .i64 F3]], vz, .agg T.cs, .agg #[.int .i64 F1, .int .i64 F2, .int .i64 F3], ⟨(wz).heap.size, (wd).heap.size, vz, rfl, rfl, rfl, HS2.out, setRow_heap _ _ _ _ _ _ GS1.out, Own.setRow OS1.out GS1.out (by decide) (by decide)⟩, by kernel_rfl⟩
      · refine opR rfl rfl (.pointer (some ⟨((wd).alloc (.cells #[.int .i64 0, .int .i64 0, .int .i64 0] 38)).heap.size, 0, none⟩)) (((wd).alloc (.cells #[.int .i64 0, .int .i64 0, .int .i64 0] 38)).alloc (.cells Tr.z.cs 50)) (by kernel_rfl) ?_
        have HB14 : Hid (Below w4.heap.size w4 (((wd).alloc (.cells #[.int .i64 0, .int .i64 0, .int .i64 0] 38)).alloc (.cells Tr.z.cs 50))) := btr HB11.out (bal _ _)
        have G614 : Hid ((((wd).alloc (.cells #[.int .i64 0, .int .i64 0, .int .i64 0] 38)).alloc (.cells Tr.z.cs 50)).heap[((wd).alloc (.cells #[.int .i64 0, .int .i64 0, .int .i64 0] 38)).heap.size]? = some (.cells Tr.z.cs 50 (0, 0))) := heap_alloc_new _ _
        have G714 : Hid ((((wd).alloc (.cells #[.int .i64 0, .int .i64 0, .int .i64 0] 38)).alloc (.cells Tr.z.cs 50)).heap[(wd).heap.size]? = some (.cells #[.int .i64 0, .int .i64 0, .int .i64 0] 38 (0, 0))) := ((bal _ _).block _ (lt_of_heap G711.out)).trans G711.out
        refine stepK 13 HB14.out (by kernel_rfl) rfl rfl 8 #[.agg #[.int .i64 h, .int .i64 w, .int .i64 c, .int .i64 lo, .int .i64 hi, .slice oa on oc, .int .i64 ot], .int .i64 op, .slice pa pl pc, .slice va n vc, .slice bd nb capb] (by kernel_rfl) (HOP.out _ (HAB.out _ (HB14.out)).2.2.1 va vc (HAB.out _ (HB14.out)).2.2.2.1) ?_
        rintro e wz ⟨⟨vz, rfl, hoz⟩, hbz⟩
        have HB15 : Hid (Below w4.heap.size w4 wz) := btr HB14.out hbz
        have O15 : Hid (Own .i8 63 wz w4.heap.size vz L) := hoz.base (HB14.out.size)
        have G615 : Hid (wz.heap[((wd).alloc (.cells #[.int .i64 0, .int .i64 0, .int .i64 0] 38)).heap.size]? = some (.cells Tr.z.cs 50 (0, 0))) := (hbz.block _ (lt_of_heap G614.out)).trans G614.out
        have G715 : Hid (wz.heap[(wd).heap.size]? = some (.cells #[.int .i64 0, .int .i64 0, .int .i64 0] 38 (0, 0))) := (hbz.block _ (lt_of_heap G714.out)).trans G714.out
        clear hoz hbz
        refine ⟨_, rfl, ?_⟩
        refine takeC 14 (v := .tuple #[vz, .agg T.cs, .agg #[.int .i64 F1, .int .i64 F2, .int .i64 F3]]) rfl rfl (by kernel_rfl) (by kernel_rfl) (by kernel_rfl) (fun _ _ _ h => h) (fun _ => rfl) rfl (fun w' hw' => by kernel_rfl) ?_
        refine takeC 15 (v := vz) rfl rfl (by kernel_rfl) (by kernel_rfl) (by kernel_rfl) (fun _ _ _ h => h) (fun _ => rfl) rfl (fun w' hw' => by kernel_rfl) ?_
        refine takeC 16 (v := .agg T.cs) rfl rfl (by kernel_rfl) (by kernel_rfl) (by kernel_rfl) (fun _ _ _ h => h) (fun _ => rfl) rfl (fun w' hw' => by kernel_rfl) ?_
        refine takeC 17 (v := .agg #[.int .i64 F1, .int .i64 F2, .int .i64 F3]) rfl rfl (by kernel_rfl) (by kernel_rfl) (by kernel_rfl) (fun _ _ _ h => h) (fun _ => rfl) rfl (fun w' hw' => by kernel_rfl) ?_
        have P6 : Hid (w4.heap.size ≤ ((wd).alloc (.cells #[.int .i64 0, .int .i64 0, .int .i64 0] 38)).heap.size) := HB11.out.size
        have P7 : Hid (w4.heap.size ≤ (wd).heap.size) := HD.out.size
        have NE : Hid (((wd).alloc (.cells #[.int .i64 0, .int .i64 0, .int .i64 0] 38)).heap.size ≠ (wd).heap.size) := ne_of_ty G615.out G715.out (by decide)
        refine stepR 20 HB15.out (by kernel_rfl) rfl rfl vz (wz) (by kernel_rfl) ?_
        refine stepS 21 HB15.out (by kernel_rfl) rfl rfl 50 (.tmp 6) (.tmp 41) rfl (((wd).alloc (.cells #[.int .i64 0, .int .i64 0, .int .i64 0] 38)).heap.size) T.cs (by kernel_rfl) (by kernel_rfl) 50 Tr.z.cs G615.out (by kernel_rfl) rfl (by kernel_rfl) ?_
        have HS1 : Hid (Below w4.heap.size w4 ((wz).setRow (((wd).alloc (.cells #[.int .i64 0, .int .i64 0, .int .i64 0] 38)).heap.size) T.cs)) := below_setRow HB15.out P6.out _
        have GS1 : Hid (((wz).setRow (((wd).alloc (.cells #[.int .i64 0, .int .i64 0, .int .i64 0] 38)).heap.size) T.cs).heap[(wd).heap.size]? = some (.cells #[.int .i64 0, .int .i64 0, .int .i64 0] 38 (0, 0))) := (setRow_other _ _ _ _ (fun q => NE.out q.symm)).trans G715.out
        have OS1 : Hid (Own .i8 63 ((wz).setRow (((wd).alloc (.cells #[.int .i64 0, .int .i64 0, .int .i64 0] 38)).heap.size) T.cs) w4.heap.size vz L) := Own.setRow O15.out G615.out (by decide) (by decide)
        refine stepS 22 HS1.out (by kernel_rfl) rfl rfl 38 (.tmp 7) (.tmp 42) rfl ((wd).heap.size) #[.int .i64 F1, .int .i64 F2, .int .i64 F3] (by kernel_rfl) (by kernel_rfl) 38 #[.int .i64 0, .int .i64 0, .int .i64 0] GS1.out (by kernel_rfl) rfl (by simp [Value.oneCell']) ?_
        have HS2 : Hid (Below w4.heap.size w4 (((wz).setRow (((wd).alloc (.cells #[.int .i64 0, .int .i64 0, .int .i64 0] 38)).heap.size) T.cs).setRow ((wd).heap.size) #[.int .i64 F1, .int .i64 F2, .int .i64 F3])) := below_setRow HS1.out P7.out _
        refine doneC HS2.out (by kernel_rfl) ?_ _
        refine (show ∀ a' w', Met _ a' w' → _ from by assumption) _ _ ?_
        refine Met.intro ?_
        go_step
        exact ⟨vz, .pointer (some ⟨((wd).alloc (.cells #[.int .i64 0, .int .i64 0, .int .i64 0] 38)).heap.size, 0, none⟩), .pointer (some ⟨(wd).heap.size, 0, none⟩), .tuple #[vz, .agg T.cs, .agg #[.int .i64 F1, .int .i64 F2, .int .i64 F3]], .pointer (some ⟨W.heap.size, 0, none⟩), .agg #[.int .i64 h, .int .i64 w, .int .i64 c, .int .i64 lo, .int .i64 hi, .slice oa on oc, .int .i64 ot], .pointer (some ⟨W.heap.size, 7, none⟩), .int .i64 op, .pointer (some ⟨W.heap.size, 8, none⟩), .slice pa pl pc, .slice va NW vc, .pointer (some ⟨W.heap.size, 9, none⟩), .slice ad n cap, .int .i64 (n : Int), .slice va n vc, .pointer (some ⟨W.heap.size, 10, none⟩), .slice bd nb capb, .tuple #[vz, .agg T.cs, .agg #[.int .i64 F1, .int .i64 F2, .int .i64 F3]], vz, .agg T.cs, .agg #[.int .i64 F1, .int .i64 F2, .int .i64 F3], ⟨((wd).alloc (.cells #[.int .i64 0, .int .i64 0, .int .i64 0] 38)).heap.size, (wd).heap.size, vz, rfl, rfl, rfl, HS2.out, setRow_heap _ _ _ _ _ _ GS1.out, Own.setRow OS1.out GS1.out (by decide) (by decide)⟩, by kernel_rfl⟩
  obtain ⟨b6, b7, v5, rfl, rfl, rfl, h1, h2, h3⟩ := hcut
  obtain ⟨w5, rfl⟩ : ∃ w', w' = wc := ⟨_, rfl⟩
  have Bw5 : Hid (Below w4.heap.size w4 w5) := h1
  have Hw5 : Hid (w5.heap[b7]? = some (.cells #[.int .i64 F1, .int .i64 F2, .int .i64 F3] 38 (0, 0))) := h2
  have Ow5 : Hid (Own .i8 63 w5 w4.heap.size v5 L) := h3
  clear h1 h2 h3
  go_upto_region 6 with fail
  go_cut [8, 9, 10] from 43 to 60 (fun sa sb sc wx => ∃ (p q : Nat) (v : Value), v = sa ∧ sb = .pointer (some ⟨p, 0, none⟩) ∧ sc = .pointer (some ⟨q, 0, none⟩) ∧ Below w5.heap.size w5 wx ∧ wx.heap[q]? = some (.cells #[.int .i64 F1, .int .i64 F2, .int .i64 F3] 38 (0, 0)) ∧ Own .i8 63 wx w5.heap.size v L)
  case first =>
    refine regionC (fun w' => Below w5.heap.size w5 w') (by kernel_rfl) ?_
    obtain ⟨wd, hwd⟩ : ∃ wd, w5.drew = wd := ⟨_, rfl⟩
    have HD : Hid (Below w5.heap.size w5 wd) := by unfold Hid; rw [← hwd]; exact (Below.refl _ _).drew
    rw [hwd]
    clear hwd
    have HG : Hid (∀ w', Below w5.heap.size w5 w' → w'.heap[W.heap.size]? = some (.cells #[.int .i64 h, .int .i64 w, .int .i64 c, .int .i64 lo, .int .i64 hi, .slice oa on oc, .int .i64 ot, .int .i64 op, .slice pa pl pc, .slice ad n cap, .slice bd nb capb] 57 (0, 0))) := fun w' hw' => (HAB.out w' (btr Bw5.out (hw'))).2.2.2.2
    have K0 : Hid (∀ w', Below w5.heap.size w5 w' → ∀ q v, [.int .i64 h, .int .i64 w, .int .i64 c, .int .i64 lo, .int .i64 hi, .slice oa on oc, .int .i64 ot][q]? = some v → w'.cell? ((⟨W.heap.size, 0, none⟩ : Addr).add q) = some v) := fun w' hw' => lcells (HG.out w' hw') (fun q v hq => by
        rcases q with _ | _ | _ | _ | _ | _ | _ | q <;> simp at hq <;> subst hq <;> rfl)
    refine takeC 0 (v := .pointer (some ⟨W.heap.size, 0, none⟩)) rfl rfl (by kernel_rfl) (by kernel_rfl) (by kernel_rfl) (fun _ _ _ h => h) (fun _ => rfl) rfl (fun w' hw' => by go_simp) ?_
    refine takeC 1 (v := .agg #[.int .i64 h, .int .i64 w, .int .i64 c, .int .i64 lo, .int .i64 hi, .slice oa on oc, .int .i64 ot]) rfl rfl (by kernel_rfl) (by kernel_rfl) (by kernel_rfl) (fun _ _ _ h => h) (fun _ => rfl) rfl (fun w' hw' => run_la 26 (.tmp 44) rfl ⟨W.heap.size, 0, none⟩ (by kernel_rfl) [.int .i64 h, .int .i64 w, .int .i64 c, .int .i64 lo, .int .i64 hi, .slice oa on oc, .int .i64 ot] _ (K0.out w' hw') Try.underlying26 rfl (by kernel_rfl)) ?_
    refine takeC 2 (v := .pointer (some ⟨W.heap.size, 7, none⟩)) rfl rfl (by kernel_rfl) (by kernel_rfl) (by kernel_rfl) (fun _ _ _ h => h) (fun _ => rfl) rfl (fun w' hw' => by go_simp) ?_
    refine takeC 3 (v := .int .i64 op) rfl rfl (by kernel_rfl) (by kernel_rfl) (by kernel_rfl) (fun _ _ _ h => h) (fun _ => rfl) rfl (fun w' hw' => by have hc := (cells_at (HG.out w' hw')).1 7; go_simp) ?_
    refine takeC 4 (v := .pointer (some ⟨W.heap.size, 8, none⟩)) rfl rfl (by kernel_rfl) (by kernel_rfl) (by kernel_rfl) (fun _ _ _ h => h) (fun _ => rfl) rfl (fun w' hw' => by go_simp) ?_
    refine takeC 5 (v := .slice pa pl pc) rfl rfl (by kernel_rfl) (by kernel_rfl) (by kernel_rfl) (fun _ _ _ h => h) (fun _ => rfl) rfl (fun w' hw' => by have hc := (cells_at (HG.out w' hw')).1 8; go_simp) ?_
    refine takeC 6 (v := .slice va NW vc) rfl rfl (by kernel_rfl) (by kernel_rfl) (by kernel_rfl) (fun _ _ _ h => h) (fun _ => rfl) rfl (fun w' hw' => by go_simp) ?_
    refine takeC 7 (v := .pointer (some ⟨W.heap.size, 9, none⟩)) rfl rfl (by kernel_rfl) (by kernel_rfl) (by kernel_rfl) (fun _ _ _ h => h) (fun _ => rfl) rfl (fun w' hw' => by go_simp) ?_
    refine takeC 8 (v := .slice ad n cap) rfl rfl (by kernel_rfl) (by kernel_rfl) (by kernel_rfl) (fun _ _ _ h => h) (fun _ => rfl) rfl (fun w' hw' => by have hc := (cells_at (HG.out w' hw')).1 9; go_simp) ?_
    refine takeC 9 (v := .int .i64 (n : Int)) rfl rfl (by kernel_rfl) (by kernel_rfl) (by kernel_rfl) (fun _ _ _ h => h) (fun _ => rfl) rfl (fun w' hw' => by go_simp) ?_
    refine takeC 10 (v := .slice va n vc) rfl rfl (by kernel_rfl) (by kernel_rfl) (by kernel_rfl) (fun _ _ _ h => h) (fun _ => rfl) rfl (fun w' hw' => by go_simp; try omega) ?_
    refine takeC 11 (v := .pointer (some ⟨W.heap.size, 10, none⟩)) rfl rfl (by kernel_rfl) (by kernel_rfl) (by kernel_rfl) (fun _ _ _ h => h) (fun _ => rfl) rfl (fun w' hw' => by go_simp) ?_
    refine takeC 12 (v := .slice bd nb capb) rfl rfl (by kernel_rfl) (by kernel_rfl) (by kernel_rfl) (fun _ _ _ h => h) (fun _ => rfl) rfl (fun w' hw' => by have hc := (cells_at (HG.out w' hw')).1 10; go_simp) ?_
    refine threeC 13 18 19 HD.out (by kernel_rfl) ?_ ?_ ?_
    · refine opK rfl rfl 8 #[.agg #[.int .i64 h, .int .i64 w, .int .i64 c, .int .i64 lo, .int .i64 hi, .slice oa on oc, .int .i64 ot], .int .i64 op, .slice pa pl pc, .slice va n vc, .slice bd nb capb] (by kernel_rfl) (HOP.out _ (HAB.out _ (btr Bw5.out (HD.out))).2.2.1 va vc (HAB.out _ (btr Bw5.out (HD.out))).2.2.2.1) ?_
      rintro e wz ⟨⟨vz, rfl, hoz⟩, hbz⟩
      have HB1 : Hid (Below w5.heap.size w5 wz) := btr HD.out hbz
      have O1 : Hid (Own .i8 63 wz w5.heap.size vz L) := hoz.base (HD.out.size)
      clear hoz hbz
      refine ⟨_, rfl, ?_⟩
      refine takeC 14 (v := .tuple #[vz, .agg T.cs, .agg #[.int .i64 F1, .int .i64 F2, .int .i64 F3]]) rfl rfl (by kernel_rfl) (by kernel_rfl) (by kernel_rfl) (fun _ _ _ h => h) (fun _ => rfl) rfl (fun w' hw' => by kernel_rfl) ?_
      refine takeC 15 (v := vz) rfl rfl (by kernel_rfl) (by kernel_rfl) (by kernel_rfl) (fun _ _ _ h => h) (fun _ => rfl) rfl (fun w' hw' => by kernel_rfl) ?_
      refine takeC 16 (v := .agg T.cs) rfl rfl (by kernel_rfl) (by kernel_rfl) (by kernel_rfl) (fun _ _ _ h => h) (fun _ => rfl) rfl (fun w' hw' => by kernel_rfl) ?_
      refine takeC 17 (v := .agg #[.int .i64 F1, .int .i64 F2, .int .i64 F3]) rfl rfl (by kernel_rfl) (by kernel_rfl) (by kernel_rfl) (fun _ _ _ h => h) (fun _ => rfl) rfl (fun w' hw' => by kernel_rfl) ?_
      refine twoC 18 19 HB1.out (by kernel_rfl) ?_ ?_
      · refine opR rfl rfl (.pointer (some ⟨(wz).heap.size, 0, none⟩)) ((wz).alloc (.cells Tr.z.cs 50)) (by kernel_rfl) ?_
        have HB2 : Hid (Below w5.heap.size w5 ((wz).alloc (.cells Tr.z.cs 50))) := btr HB1.out (bal _ _)
        have G62 : Hid (((wz).alloc (.cells Tr.z.cs 50)).heap[(wz).heap.size]? = some (.cells Tr.z.cs 50 (0, 0))) := heap_alloc_new _ _
        have O2 : Hid (Own .i8 63 ((wz).alloc (.cells Tr.z.cs 50)) w5.heap.size vz L) := O1.out.alloc _
        refine stepR 19 HB2.out (by kernel_rfl) rfl rfl (.pointer (some ⟨((wz).alloc (.cells Tr.z.cs 50)).heap.size, 0, none⟩)) (((wz).alloc (.cells Tr.z.cs 50)).alloc (.cells #[.int .i64 0, .int .i64 0, .int .i64 0] 38)) (by kernel_rfl) ?_
        have HB3 : Hid (Below w5.heap.size w5 (((wz).alloc (.cells Tr.z.cs 50)).alloc (.cells #[.int .i64 0, .int .i64 0, .int .i64 0] 38))) := btr HB2.out (bal _ _)
        have G73 : Hid ((((wz).alloc (.cells Tr.z.cs 50)).alloc (.cells #[.int .i64 0, .int .i64 0, .int .i64 0] 38)).heap[((wz).alloc (.cells Tr.z.cs 50)).heap.size]? = some (.cells #[.int .i64 0, .int .i64 0, .int .i64 0] 38 (0, 0))) := heap_alloc_new _ _
        have G63 : Hid ((((wz).alloc (.cells Tr.z.cs 50)).alloc (.cells #[.int .i64 0, .int .i64 0, .int .i64 0] 38)).heap[(wz).heap.size]? = some (.cells Tr.z.cs 50 (0, 0))) := ((bal _ _).block _ (lt_of_heap G62.out)).trans G62.out
        have O3 : Hid (Own .i8 63 (((wz).alloc (.cells Tr.z.cs 50)).alloc (.cells #[.int .i64 0, .int .i64 0, .int .i64 0] 38)) w5.heap.size vz L) := O2.out.alloc _
        have P6 : Hid (w5.heap.size ≤ (wz).heap.size) := HB1.out.size
        have P7 : Hid (w5.heap.size ≤ ((wz).alloc (.cells Tr.z.cs 50)).heap.size) := HB2.out.size
        have NE : Hid ((wz).heap.size ≠ ((wz).alloc (.cells Tr.z.cs 50)).heap.size) := ne_of_ty G63.out G73.out (by decide)
        refine stepR 20 HB3.out (by kernel_rfl) rfl rfl vz (((wz).alloc (.cells Tr.z.cs 50)).alloc (.cells #[.int .i64 0, .int .i64 0, .int .i64 0] 38)) (by kernel_rfl) ?_
        refine stepS 21 HB3.out (by kernel_rfl) rfl rfl 50 (.tmp 9) (.tmp 59) rfl ((wz).heap.size) T.cs (by kernel_rfl) (by kernel_rfl) 50 Tr.z.cs G63.out (by kernel_rfl) rfl (by kernel_rfl) ?_
        have HS1 : Hid (Below w5.heap.size w5 ((((wz).alloc (.cells Tr.z.cs 50)).alloc (.cells #[.int .i64 0, .int .i64 0, .int .i64 0] 38)).setRow ((wz).heap.size) T.cs)) := below_setRow HB3.out P6.out _
        have GS1 : Hid (((((wz).alloc (.cells Tr.z.cs 50)).alloc (.cells #[.int .i64 0, .int .i64 0, .int .i64 0] 38)).setRow ((wz).heap.size) T.cs).heap[((wz).alloc (.cells Tr.z.cs 50)).heap.size]? = some (.cells #[.int .i64 0, .int .i64 0, .int .i64 0] 38 (0, 0))) := (setRow_other _ _ _ _ (fun q => NE.out q.symm)).trans G73.out
        have OS1 : Hid (Own .i8 63 ((((wz).alloc (.cells Tr.z.cs 50)).alloc (.cells #[.int .i64 0, .int .i64 0, .int .i64 0] 38)).setRow ((wz).heap.size) T.cs) w5.heap.size vz L) := Own.setRow O3.out G63.out (by decide) (by decide)
        refine stepS 22 HS1.out (by kernel_rfl) rfl rfl 38 (.tmp 10) (.tmp 60) rfl (((wz).alloc (.cells Tr.z.cs 50)).heap.size) #[.int .i64 F1, .int .i64 F2, .int .i64 F3] (by kernel_rfl) (by kernel_rfl) 38 #[.int .i64 0, .int .i64 0, .int .i64 0] GS1.out (by kernel_rfl) rfl (by simp [Value.oneCell']) ?_
        have HS2 : Hid (Below w5.heap.size w5 (((((wz).alloc (.cells Tr.z.cs 50)).alloc (.cells #[.int .i64 0, .int .i64 0, .int .i64 0] 38)).setRow ((wz).heap.size) T.cs).setRow (((wz).alloc (.cells Tr.z.cs 50)).heap.size) #[.int .i64 F1, .int .i64 F2, .int .i64 F3])) := below_setRow HS1.out P7.out _
        refine doneC HS2.out (by kernel_rfl) ?_ _
        refine (show ∀ a' w', Met _ a' w' → _ from by assumption) _ _ ?_
        refine Met.intro ?_
        go_step
        exact ⟨vz, .pointer (some ⟨(wz).heap.size, 0, none⟩), .pointer (some ⟨((wz).alloc (.cells Tr.z.cs 50)).heap.size, 0, none⟩), .tuple #[vz, .agg T.cs, .agg #[.int .i64 F1, .int .i64 F2, .int .i64 F3]], .pointer (some ⟨W.heap.size, 0, none⟩), .agg #[.int .i64 h, .int .i64 w, .int .i64 c, .int .i64 lo, .int .i64 hi, .slice oa on oc, .int .i64 ot], .pointer (some ⟨W.heap.size, 7, none⟩), .int .i64 op, .pointer (some ⟨W.heap.size, 8, none⟩), .slice pa pl pc, .slice va NW vc, .pointer (some ⟨W.heap.size, 9, none⟩), .slice ad n cap, .int .i64 (n : Int), .slice va n vc, .pointer (some ⟨W.heap.size, 10, none⟩), .slice bd nb capb, .tuple #[vz, .agg T.cs, .agg #[.int .i64 F1, .int .i64 F2, .int .i64 F3]], vz, .agg T.cs, .agg #[.int .i64 F1, .int .i64 F2, .int .i64 F3], ⟨(wz).heap.size, ((wz).alloc (.cells Tr.z.cs 50)).heap.size, vz, rfl, rfl, rfl, HS2.out, setRow_heap _ _ _ _ _ _ GS1.out, Own.setRow OS1.out GS1.out (by decide) (by decide)⟩, by kernel_rfl⟩
      · refine opR rfl rfl (.pointer (some ⟨(wz).heap.size, 0, none⟩)) ((wz).alloc (.cells #[.int .i64 0, .int .i64 0, .int .i64 0] 38)) (by kernel_rfl) ?_
        have HB4 : Hid (Below w5.heap.size w5 ((wz).alloc (.cells #[.int .i64 0, .int .i64 0, .int .i64 0] 38))) := btr HB1.out (bal _ _)
        have G74 : Hid (((wz).alloc (.cells #[.int .i64 0, .int .i64 0, .int .i64 0] 38)).heap[(wz).heap.size]? = some (.cells #[.int .i64 0, .int .i64 0, .int .i64 0] 38 (0, 0))) := heap_alloc_new _ _
        have O4 : Hid (Own .i8 63 ((wz).alloc (.cells #[.int .i64 0, .int .i64 0, .int .i64 0] 38)) w5.heap.size vz L) := O1.out.alloc _
        refine stepR 18 HB4.out (by kernel_rfl) rfl rfl (.pointer (some ⟨((wz).alloc (.cells #[.int .i64 0, .int .i64 0, .int .i64 0] 38)).heap.size, 0, none⟩)) (((wz).alloc (.cells #[.int .i64 0, .int .i64 0, .int .i64 0] 38)).alloc (.cells Tr.z.cs 50)) (by kernel_rfl) ?_
        have HB5 : Hid (Below w5.heap.size w5 (((wz).alloc (.cells #[.int .i64 0, .int .i64 0, .int .i64 0] 38)).alloc (.cells Tr.z.cs 50))) := btr HB4.out (bal _ _)
        have G65 : Hid ((((wz).alloc (.cells #[.int .i64 0, .int .i64 0, .int .i64 0] 38)).alloc (.cells Tr.z.cs 50)).heap[((wz).alloc (.cells #[.int .i64 0, .int .i64 0, .int .i64 0] 38)).heap.size]? = some (.cells Tr.z.cs 50 (0, 0))) := heap_alloc_new _ _
        have G75 : Hid ((((wz).alloc (.cells #[.int .i64 0, .int .i64 0, .int .i64 0] 38)).alloc (.cells Tr.z.cs 50)).heap[(wz).heap.size]? = some (.cells #[.int .i64 0, .int .i64 0, .int .i64 0] 38 (0, 0))) := ((bal _ _).block _ (lt_of_heap G74.out)).trans G74.out
        have O5 : Hid (Own .i8 63 (((wz).alloc (.cells #[.int .i64 0, .int .i64 0, .int .i64 0] 38)).alloc (.cells Tr.z.cs 50)) w5.heap.size vz L) := O4.out.alloc _
        have P6 : Hid (w5.heap.size ≤ ((wz).alloc (.cells #[.int .i64 0, .int .i64 0, .int .i64 0] 38)).heap.size) := HB4.out.size
        have P7 : Hid (w5.heap.size ≤ (wz).heap.size) := HB1.out.size
        have NE : Hid (((wz).alloc (.cells #[.int .i64 0, .int .i64 0, .int .i64 0] 38)).heap.size ≠ (wz).heap.size) := ne_of_ty G65.out G75.out (by decide)
        refine stepR 20 HB5.out (by kernel_rfl) rfl rfl vz (((wz).alloc (.cells #[.int .i64 0, .int .i64 0, .int .i64 0] 38)).alloc (.cells Tr.z.cs 50)) (by kernel_rfl) ?_
        refine stepS 21 HB5.out (by kernel_rfl) rfl rfl 50 (.tmp 9) (.tmp 59) rfl (((wz).alloc (.cells #[.int .i64 0, .int .i64 0, .int .i64 0] 38)).heap.size) T.cs (by kernel_rfl) (by kernel_rfl) 50 Tr.z.cs G65.out (by kernel_rfl) rfl (by kernel_rfl) ?_
        have HS1 : Hid (Below w5.heap.size w5 ((((wz).alloc (.cells #[.int .i64 0, .int .i64 0, .int .i64 0] 38)).alloc (.cells Tr.z.cs 50)).setRow (((wz).alloc (.cells #[.int .i64 0, .int .i64 0, .int .i64 0] 38)).heap.size) T.cs)) := below_setRow HB5.out P6.out _
        have GS1 : Hid (((((wz).alloc (.cells #[.int .i64 0, .int .i64 0, .int .i64 0] 38)).alloc (.cells Tr.z.cs 50)).setRow (((wz).alloc (.cells #[.int .i64 0, .int .i64 0, .int .i64 0] 38)).heap.size) T.cs).heap[(wz).heap.size]? = some (.cells #[.int .i64 0, .int .i64 0, .int .i64 0] 38 (0, 0))) := (setRow_other _ _ _ _ (fun q => NE.out q.symm)).trans G75.out
        have OS1 : Hid (Own .i8 63 ((((wz).alloc (.cells #[.int .i64 0, .int .i64 0, .int .i64 0] 38)).alloc (.cells Tr.z.cs 50)).setRow (((wz).alloc (.cells #[.int .i64 0, .int .i64 0, .int .i64 0] 38)).heap.size) T.cs) w5.heap.size vz L) := Own.setRow O5.out G65.out (by decide) (by decide)
        refine stepS 22 HS1.out (by kernel_rfl) rfl rfl 38 (.tmp 10) (.tmp 60) rfl ((wz).heap.size) #[.int .i64 F1, .int .i64 F2, .int .i64 F3] (by kernel_rfl) (by kernel_rfl) 38 #[.int .i64 0, .int .i64 0, .int .i64 0] GS1.out (by kernel_rfl) rfl (by simp [Value.oneCell']) ?_
        have HS2 : Hid (Below w5.heap.size w5 (((((wz).alloc (.cells #[.int .i64 0, .int .i64 0, .int .i64 0] 38)).alloc (.cells Tr.z.cs 50)).setRow (((wz).alloc (.cells #[.int .i64 0, .int .i64 0, .int .i64 0] 38)).heap.size) T.cs).setRow ((wz).heap.size) #[.int .i64 F1, .int .i64 F2, .int .i64 F3])) := below_setRow HS1.out P7.out _
        refine doneC HS2.out (by kernel_rfl) ?_ _
        refine (show ∀ a' w', Met _ a' w' → _ from by assumption) _ _ ?_
        refine Met.intro ?_
        go_step
        exact ⟨vz, .pointer (some ⟨((wz).alloc (.cells #[.int .i64 0, .int .i64 0, .int .i64 0] 38)).heap.size, 0, none⟩), .pointer (some ⟨(wz).heap.size, 0, none⟩), .tuple #[vz, .agg T.cs, .agg #[.int .i64 F1, .int .i64 F2, .int .i64 F3]], .pointer (some ⟨W.heap.size, 0, none⟩), .agg #[.int .i64 h, .int .i64 w, .int .i64 c, .int .i64 lo, .int .i64 hi, .slice oa on oc, .int .i64 ot], .pointer (some ⟨W.heap.size, 7, none⟩), .int .i64 op, .pointer (some ⟨W.heap.size, 8, none⟩), .slice pa pl pc, .slice va NW vc, .pointer (some ⟨W.heap.size, 9, none⟩), .slice ad n cap, .int .i64 (n : Int), .slice va n vc, .pointer (some ⟨W.heap.size, 10, none⟩), .slice bd nb capb, .tuple #[vz, .agg T.cs, .agg #[.int .i64 F1, .int .i64 F2, .int .i64 F3]], vz, .agg T.cs, .agg #[.int .i64 F1, .int .i64 F2, .int .i64 F3], ⟨((wz).alloc (.cells #[.int .i64 0, .int .i64 0, .int .i64 0] 38)).heap.size, (wz).heap.size, vz, rfl, rfl, rfl, HS2.out, setRow_heap _ _ _ _ _ _ GS1.out, Own.setRow OS1.out GS1.out (by decide) (by decide)⟩, by kernel_rfl⟩
    · refine opR rfl rfl (.pointer (some ⟨(wd).heap.size, 0, none⟩)) ((wd).alloc (.cells Tr.z.cs 50)) (by kernel_rfl) ?_
      have HB6 : Hid (Below w5.heap.size w5 ((wd).alloc (.cells Tr.z.cs 50))) := btr HD.out (bal _ _)
      have G66 : Hid (((wd).alloc (.cells Tr.z.cs 50)).heap[(wd).heap.size]? = some (.cells Tr.z.cs 50 (0, 0))) := heap_alloc_new _ _
      refine twoC 13 19 HB6.out (by kernel_rfl) ?_ ?_
      · refine opK rfl rfl 8 #[.agg #[.int .i64 h, .int .i64 w, .int .i64 c, .int .i64 lo, .int .i64 hi, .slice oa on oc, .int .i64 ot], .int .i64 op, .slice pa pl pc, .slice va n vc, .slice bd nb capb] (by kernel_rfl) (HOP.out _ (HAB.out _ (btr Bw5.out (HB6.out))).2.2.1 va vc (HAB.out _ (btr Bw5.out (HB6.out))).2.2.2.1) ?_
        rintro e wz ⟨⟨vz, rfl, hoz⟩, hbz⟩
        have HB7 : Hid (Below w5.heap.size w5 wz) := btr HB6.out hbz
        have O7 : Hid (Own .i8 63 wz w5.heap.size vz L) := hoz.base (HB6.out.size)
        have G67 : Hid (wz.heap[(wd).heap.size]? = some (.cells Tr.z.cs 50 (0, 0))) := (hbz.block _ (lt_of_heap G66.out)).trans G66.out
        clear hoz hbz
        refine ⟨_, rfl, ?_⟩
        refine takeC 14 (v := .tuple #[vz, .agg T.cs, .agg #[.int .i64 F1, .int .i64 F2, .int .i64 F3]]) rfl rfl (by kernel_rfl) (by kernel_rfl) (by kernel_rfl) (fun _ _ _ h => h) (fun _ => rfl) rfl (fun w' hw' => by kernel_rfl) ?_
        refine takeC 15 (v := vz) rfl rfl (by kernel_rfl) (by kernel_rfl) (by kernel_rfl) (fun _ _ _ h => h) (fun _ => rfl) rfl (fun w' hw' => by kernel_rfl) ?_
        refine takeC 16 (v := .agg T.cs) rfl rfl (by kernel_rfl) (by kernel_rfl) (by kernel_rfl) (fun _ _ _ h => h) (fun _ => rfl) rfl (fun w' hw' => by kernel_rfl) ?_
        refine takeC 17 (v := .agg #[.int .i64 F1, .int .i64 F2, .int .i64 F3]) rfl rfl (by kernel_rfl) (by kernel_rfl) (by kernel_rfl) (fun _ _ _ h => h) (fun _ => rfl) rfl (fun w' hw' => by kernel_rfl) ?_
        refine stepR 19 HB7.out (by kernel_rfl) rfl rfl (.pointer (some ⟨(wz).heap.size, 0, none⟩)) ((wz).alloc (.cells #[.int .i64 0, .int .i64 0, .int .i64 0] 38)) (by kernel_rfl) ?_
        have HB8 : Hid (Below w5.heap.size w5 ((wz).alloc (.cells #[.int .i64 0, .int .i64 0, .int .i64 0] 38))) := btr HB7.out (bal _ _)
        have G78 : Hid (((wz).alloc (.cells #[.int .i64 0, .int .i64 0, .int .i64 0] 38)).heap[(wz).heap.size]? = some (.cells #[.int .i64 0, .int .i64 0, .int .i64 0] 38 (0, 0))) := heap_alloc_new _ _
        have G68 : Hid (((wz).alloc (.cells #[.int .i64 0, .int .i64 0, .int .i64 0] 38)).heap[(wd).heap.size]? = some (.cells Tr.z.cs 50 (0, 0))) := ((bal _ _).block _ (lt_of_heap G67.out)).trans G67.out
        have O8 : Hid (Own .i8 63 ((wz).alloc (.cells #[.int .i64 0, .int .i64 0, .int .i64 0] 38)) w5.heap.size vz L) := O7.out.alloc _
        have P6 : Hid (w5.heap.size ≤ (wd).heap.size) := HD.out.size
        have P7 : Hid (w5.heap.size ≤ (wz).heap.size) := HB7.out.size
        have NE : Hid ((wd).heap.size ≠ (wz).heap.size) := ne_of_ty G68.out G78.out (by decide)
        refine stepR 20 HB8.out (by kernel_rfl) rfl rfl vz ((wz).alloc (.cells #[.int .i64 0, .int .i64 0, .int .i64 0] 38)) (by kernel_rfl) ?_
        refine stepS 21 HB8.out (by kernel_rfl) rfl rfl 50 (.tmp 9) (.tmp 59) rfl ((wd).heap.size) T.cs (by kernel_rfl) (by kernel_rfl) 50 Tr.z.cs G68.out (by kernel_rfl) rfl (by kernel_rfl) ?_
        have HS1 : Hid (Below w5.heap.size w5 (((wz).alloc (.cells #[.int .i64 0, .int .i64 0, .int .i64 0] 38)).setRow ((wd).heap.size) T.cs)) := below_setRow HB8.out P6.out _
        have GS1 : Hid ((((wz).alloc (.cells #[.int .i64 0, .int .i64 0, .int .i64 0] 38)).setRow ((wd).heap.size) T.cs).heap[(wz).heap.size]? = some (.cells #[.int .i64 0, .int .i64 0, .int .i64 0] 38 (0, 0))) := (setRow_other _ _ _ _ (fun q => NE.out q.symm)).trans G78.out
        have OS1 : Hid (Own .i8 63 (((wz).alloc (.cells #[.int .i64 0, .int .i64 0, .int .i64 0] 38)).setRow ((wd).heap.size) T.cs) w5.heap.size vz L) := Own.setRow O8.out G68.out (by decide) (by decide)
        refine stepS 22 HS1.out (by kernel_rfl) rfl rfl 38 (.tmp 10) (.tmp 60) rfl ((wz).heap.size) #[.int .i64 F1, .int .i64 F2, .int .i64 F3] (by kernel_rfl) (by kernel_rfl) 38 #[.int .i64 0, .int .i64 0, .int .i64 0] GS1.out (by kernel_rfl) rfl (by simp [Value.oneCell']) ?_
        have HS2 : Hid (Below w5.heap.size w5 ((((wz).alloc (.cells #[.int .i64 0, .int .i64 0, .int .i64 0] 38)).setRow ((wd).heap.size) T.cs).setRow ((wz).heap.size) #[.int .i64 F1, .int .i64 F2, .int .i64 F3])) := below_setRow HS1.out P7.out _
        refine doneC HS2.out (by kernel_rfl) ?_ _
        refine (show ∀ a' w', Met _ a' w' → _ from by assumption) _ _ ?_
        refine Met.intro ?_
        go_step
        exact ⟨vz, .pointer (some ⟨(wd).heap.size, 0, none⟩), .pointer (some ⟨(wz).heap.size, 0, none⟩), .tuple #[vz, .agg T.cs, .agg #[.int .i64 F1, .int .i64 F2, .int .i64 F3]], .pointer (some ⟨W.heap.size, 0, none⟩), .agg #[.int .i64 h, .int .i64 w, .int .i64 c, .int .i64 lo, .int .i64 hi, .slice oa on oc, .int .i64 ot], .pointer (some ⟨W.heap.size, 7, none⟩), .int .i64 op, .pointer (some ⟨W.heap.size, 8, none⟩), .slice pa pl pc, .slice va NW vc, .pointer (some ⟨W.heap.size, 9, none⟩), .slice ad n cap, .int .i64 (n : Int), .slice va n vc, .pointer (some ⟨W.heap.size, 10, none⟩), .slice bd nb capb, .tuple #[vz, .agg T.cs, .agg #[.int .i64 F1, .int .i64 F2, .int .i64 F3]], vz, .agg T.cs, .agg #[.int .i64 F1, .int .i64 F2, .int .i64 F3], ⟨(wd).heap.size, (wz).heap.size, vz, rfl, rfl, rfl, HS2.out, setRow_heap _ _ _ _ _ _ GS1.out, Own.setRow OS1.out GS1.out (by decide) (by decide)⟩, by kernel_rfl⟩
      · refine opR rfl rfl (.pointer (some ⟨((wd).alloc (.cells Tr.z.cs 50)).heap.size, 0, none⟩)) (((wd).alloc (.cells Tr.z.cs 50)).alloc (.cells #[.int .i64 0, .int .i64 0, .int .i64 0] 38)) (by kernel_rfl) ?_
        have HB9 : Hid (Below w5.heap.size w5 (((wd).alloc (.cells Tr.z.cs 50)).alloc (.cells #[.int .i64 0, .int .i64 0, .int .i64 0] 38))) := btr HB6.out (bal _ _)
        have G79 : Hid ((((wd).alloc (.cells Tr.z.cs 50)).alloc (.cells #[.int .i64 0, .int .i64 0, .int .i64 0] 38)).heap[((wd).alloc (.cells Tr.z.cs 50)).heap.size]? = some (.cells #[.int .i64 0, .int .i64 0, .int .i64 0] 38 (0, 0))) := heap_alloc_new _ _
        have G69 : Hid ((((wd).alloc (.cells Tr.z.cs 50)).alloc (.cells #[.int .i64 0, .int .i64 0, .int .i64 0] 38)).heap[(wd).heap.size]? = some (.cells Tr.z.cs 50 (0, 0))) := ((bal _ _).block _ (lt_of_heap G66.out)).trans G66.out
        refine stepK 13 HB9.out (by kernel_rfl) rfl rfl 8 #[.agg #[.int .i64 h, .int .i64 w, .int .i64 c, .int .i64 lo, .int .i64 hi, .slice oa on oc, .int .i64 ot], .int .i64 op, .slice pa pl pc, .slice va n vc, .slice bd nb capb] (by kernel_rfl) (HOP.out _ (HAB.out _ (btr Bw5.out (HB9.out))).2.2.1 va vc (HAB.out _ (btr Bw5.out (HB9.out))).2.2.2.1) ?_
        rintro e wz ⟨⟨vz, rfl, hoz⟩, hbz⟩
        have HB10 : Hid (Below w5.heap.size w5 wz) := btr HB9.out hbz
        have O10 : Hid (Own .i8 63 wz w5.heap.size vz L) := hoz.base (HB9.out.size)
        have G610 : Hid (wz.heap[(wd).heap.size]? = some (.cells Tr.z.cs 50 (0, 0))) := (hbz.block _ (lt_of_heap G69.out)).trans G69.out
        have G710 : Hid (wz.heap[((wd).alloc (.cells Tr.z.cs 50)).heap.size]? = some (.cells #[.int .i64 0, .int .i64 0, .int .i64 0] 38 (0, 0))) := (hbz.block _ (lt_of_heap G79.out)).trans G79.out
        clear hoz hbz
        refine ⟨_, rfl, ?_⟩
        refine takeC 14 (v := .tuple #[vz, .agg T.cs, .agg #[.int .i64 F1, .int .i64 F2, .int .i64 F3]]) rfl rfl (by kernel_rfl) (by kernel_rfl) (by kernel_rfl) (fun _ _ _ h => h) (fun _ => rfl) rfl (fun w' hw' => by kernel_rfl) ?_
        refine takeC 15 (v := vz) rfl rfl (by kernel_rfl) (by kernel_rfl) (by kernel_rfl) (fun _ _ _ h => h) (fun _ => rfl) rfl (fun w' hw' => by kernel_rfl) ?_
        refine takeC 16 (v := .agg T.cs) rfl rfl (by kernel_rfl) (by kernel_rfl) (by kernel_rfl) (fun _ _ _ h => h) (fun _ => rfl) rfl (fun w' hw' => by kernel_rfl) ?_
        refine takeC 17 (v := .agg #[.int .i64 F1, .int .i64 F2, .int .i64 F3]) rfl rfl (by kernel_rfl) (by kernel_rfl) (by kernel_rfl) (fun _ _ _ h => h) (fun _ => rfl) rfl (fun w' hw' => by kernel_rfl) ?_
        have P6 : Hid (w5.heap.size ≤ (wd).heap.size) := HD.out.size
        have P7 : Hid (w5.heap.size ≤ ((wd).alloc (.cells Tr.z.cs 50)).heap.size) := HB6.out.size
        have NE : Hid ((wd).heap.size ≠ ((wd).alloc (.cells Tr.z.cs 50)).heap.size) := ne_of_ty G610.out G710.out (by decide)
        refine stepR 20 HB10.out (by kernel_rfl) rfl rfl vz (wz) (by kernel_rfl) ?_
        refine stepS 21 HB10.out (by kernel_rfl) rfl rfl 50 (.tmp 9) (.tmp 59) rfl ((wd).heap.size) T.cs (by kernel_rfl) (by kernel_rfl) 50 Tr.z.cs G610.out (by kernel_rfl) rfl (by kernel_rfl) ?_
        have HS1 : Hid (Below w5.heap.size w5 ((wz).setRow ((wd).heap.size) T.cs)) := below_setRow HB10.out P6.out _
        have GS1 : Hid (((wz).setRow ((wd).heap.size) T.cs).heap[((wd).alloc (.cells Tr.z.cs 50)).heap.size]? = some (.cells #[.int .i64 0, .int .i64 0, .int .i64 0] 38 (0, 0))) := (setRow_other _ _ _ _ (fun q => NE.out q.symm)).trans G710.out
        have OS1 : Hid (Own .i8 63 ((wz).setRow ((wd).heap.size) T.cs) w5.heap.size vz L) := Own.setRow O10.out G610.out (by decide) (by decide)
        refine stepS 22 HS1.out (by kernel_rfl) rfl rfl 38 (.tmp 10) (.tmp 60) rfl (((wd).alloc (.cells Tr.z.cs 50)).heap.size) #[.int .i64 F1, .int .i64 F2, .int .i64 F3] (by kernel_rfl) (by kernel_rfl) 38 #[.int .i64 0, .int .i64 0, .int .i64 0] GS1.out (by kernel_rfl) rfl (by simp [Value.oneCell']) ?_
        have HS2 : Hid (Below w5.heap.size w5 (((wz).setRow ((wd).heap.size) T.cs).setRow (((wd).alloc (.cells Tr.z.cs 50)).heap.size) #[.int .i64 F1, .int .i64 F2, .int .i64 F3])) := below_setRow HS1.out P7.out _
        refine doneC HS2.out (by kernel_rfl) ?_ _
        refine (show ∀ a' w', Met _ a' w' → _ from by assumption) _ _ ?_
        refine Met.intro ?_
        go_step
        exact ⟨vz, .pointer (some ⟨(wd).heap.size, 0, none⟩), .pointer (some ⟨((wd).alloc (.cells Tr.z.cs 50)).heap.size, 0, none⟩), .tuple #[vz, .agg T.cs, .agg #[.int .i64 F1, .int .i64 F2, .int .i64 F3]], .pointer (some ⟨W.heap.size, 0, none⟩), .agg #[.int .i64 h, .int .i64 w, .int .i64 c, .int .i64 lo, .int .i64 hi, .slice oa on oc, .int .i64 ot], .pointer (some ⟨W.heap.size, 7, none⟩), .int .i64 op, .pointer (some ⟨W.heap.size, 8, none⟩), .slice pa pl pc, .slice va NW vc, .pointer (some ⟨W.heap.size, 9, none⟩), .slice ad n cap, .int .i64 (n : Int), .slice va n vc, .pointer (some ⟨W.heap.size, 10, none⟩), .slice bd nb capb, .tuple #[vz, .agg T.cs, .agg #[.int .i64 F1, .int .i64 F2, .int .i64 F3]], vz, .agg T.cs, .agg #[.int .i64 F1, .int .i64 F2, .int .i64 F3], ⟨(wd).heap.size, ((wd).alloc (.cells Tr.z.cs 50)).heap.size, vz, rfl, rfl, rfl, HS2.out, setRow_heap _ _ _ _ _ _ GS1.out, Own.setRow OS1.out GS1.out (by decide) (by decide)⟩, by kernel_rfl⟩
    · refine opR rfl rfl (.pointer (some ⟨(wd).heap.size, 0, none⟩)) ((wd).alloc (.cells #[.int .i64 0, .int .i64 0, .int .i64 0] 38)) (by kernel_rfl) ?_
      have HB11 : Hid (Below w5.heap.size w5 ((wd).alloc (.cells #[.int .i64 0, .int .i64 0, .int .i64 0] 38))) := btr HD.out (bal _ _)
      have G711 : Hid (((wd).alloc (.cells #[.int .i64 0, .int .i64 0, .int .i64 0] 38)).heap[(wd).heap.size]? = some (.cells #[.int .i64 0, .int .i64 0, .int .i64 0] 38 (0, 0))) := heap_alloc_new _ _
      refine twoC 13 18 HB11.out (by kernel_rfl) ?_ ?_
      · refine opK rfl rfl 8 #[.agg #[.int .i64 h, .int .i64 w, .int .i64 c, .int .i64 lo, .int .i64 hi, .slice oa on oc, .int .i64 ot], .int .i64 op, .slice pa pl pc, .slice va n vc, .slice bd nb capb] (by kernel_rfl) (HOP.out _ (HAB.out _ (btr Bw5.out (HB11.out))).2.2.1 va vc (HAB.out _ (btr Bw5.out (HB11.out))).2.2.2.1) ?_
        rintro e wz ⟨⟨vz, rfl, hoz⟩, hbz⟩
        have HB12 : Hid (Below w5.heap.size w5 wz) := btr HB11.out hbz
        have O12 : Hid (Own .i8 63 wz w5.heap.size vz L) := hoz.base (HB11.out.size)
        have G712 : Hid (wz.heap[(wd).heap.size]? = some (.cells #[.int .i64 0, .int .i64 0, .int .i64 0] 38 (0, 0))) := (hbz.block _ (lt_of_heap G711.out)).trans G711.out
        clear hoz hbz
        refine ⟨_, rfl, ?_⟩
        refine takeC 14 (v := .tuple #[vz, .agg T.cs, .agg #[.int .i64 F1, .int .i64 F2, .int .i64 F3]]) rfl rfl (by kernel_rfl) (by kernel_rfl) (by kernel_rfl) (fun _ _ _ h => h) (fun _ => rfl) rfl (fun w' hw' => by kernel_rfl) ?_
        refine takeC 15 (v := vz) rfl rfl (by kernel_rfl) (by kernel_rfl) (by kernel_rfl) (fun _ _ _ h => h) (fun _ => rfl) rfl (fun w' hw' => by kernel_rfl) ?_
        refine takeC 16 (v := .agg T.cs) rfl rfl (by kernel_rfl) (by kernel_rfl) (by kernel_rfl) (fun _ _ _ h => h) (fun _ => rfl) rfl (fun w' hw' => by kernel_rfl) ?_
        refine takeC 17 (v := .agg #[.int .i64 F1, .int .i64 F2, .int .i64 F3]) rfl rfl (by kernel_rfl) (by kernel_rfl) (by kernel_rfl) (fun _ _ _ h => h) (fun _ => rfl) rfl (fun w' hw' => by kernel_rfl) ?_
        refine stepR 18 HB12.out (by kernel_rfl) rfl rfl (.pointer (some ⟨(wz).heap.size, 0, none⟩)) ((wz).alloc (.cells Tr.z.cs 50)) (by kernel_rfl) ?_
        have HB13 : Hid (Below w5.heap.size w5 ((wz).alloc (.cells Tr.z.cs 50))) := btr HB12.out (bal _ _)
        have G613 : Hid (((wz).alloc (.cells Tr.z.cs 50)).heap[(wz).heap.size]? = some (.cells Tr.z.cs 50 (0, 0))) := heap_alloc_new _ _
        have G713 : Hid (((wz).alloc (.cells Tr.z.cs 50)).heap[(wd).heap.size]? = some (.cells #[.int .i64 0, .int .i64 0, .int .i64 0] 38 (0, 0))) := ((bal _ _).block _ (lt_of_heap G712.out)).trans G712.out
        have O13 : Hid (Own .i8 63 ((wz).alloc (.cells Tr.z.cs 50)) w5.heap.size vz L) := O12.out.alloc _
        have P6 : Hid (w5.heap.size ≤ (wz).heap.size) := HB12.out.size
        have P7 : Hid (w5.heap.size ≤ (wd).heap.size) := HD.out.size
        have NE : Hid ((wz).heap.size ≠ (wd).heap.size) := ne_of_ty G613.out G713.out (by decide)
        refine stepR 20 HB13.out (by kernel_rfl) rfl rfl vz ((wz).alloc (.cells Tr.z.cs 50)) (by kernel_rfl) ?_
        refine stepS 21 HB13.out (by kernel_rfl) rfl rfl 50 (.tmp 9) (.tmp 59) rfl ((wz).heap.size) T.cs (by kernel_rfl) (by kernel_rfl) 50 Tr.z.cs G613.out (by kernel_rfl) rfl (by kernel_rfl) ?_
        have HS1 : Hid (Below w5.heap.size w5 (((wz).alloc (.cells Tr.z.cs 50)).setRow ((wz).heap.size) T.cs)) := below_setRow HB13.out P6.out _
        have GS1 : Hid ((((wz).alloc (.cells Tr.z.cs 50)).setRow ((wz).heap.size) T.cs).heap[(wd).heap.size]? = some (.cells #[.int .i64 0, .int .i64 0, .int .i64 0] 38 (0, 0))) := (setRow_other _ _ _ _ (fun q => NE.out q.symm)).trans G713.out
        have OS1 : Hid (Own .i8 63 (((wz).alloc (.cells Tr.z.cs 50)).setRow ((wz).heap.size) T.cs) w5.heap.size vz L) := Own.setRow O13.out G613.out (by decide) (by decide)
        refine stepS 22 HS1.out (by kernel_rfl) rfl rfl 38 (.tmp 10) (.tmp 60) rfl ((wd).heap.size) #[.int .i64 F1, .int .i64 F2, .int .i64 F3] (by kernel_rfl) (by kernel_rfl) 38 #[.int .i64 0, .int .i64 0, .int .i64 0] GS1.out (by kernel_rfl) rfl (by simp [Value.oneCell']) ?_
        have HS2 : Hid (Below w5.heap.size w5 ((((wz).alloc (.cells Tr.z.cs 50)).setRow ((wz).heap.size) T.cs).setRow ((wd).heap.size) #[.int .i64 F1, .int .i64 F2, .int .i64 F3])) := below_setRow HS1.out P7.out _
        refine doneC HS2.out (by kernel_rfl) ?_ _
        refine (show ∀ a' w', Met _ a' w' → _ from by assumption) _ _ ?_
        refine Met.intro ?_
        go_step
        exact ⟨vz, .pointer (some ⟨(wz).heap.size, 0, none⟩), .pointer (some ⟨(wd).heap.size, 0, none⟩), .tuple #[vz, .agg T.cs, .agg #[.int .i64 F1, .int .i64 F2, .int .i64 F3]], .pointer (some ⟨W.heap.size, 0, none⟩), .agg #[.int .i64 h, .int .i64 w, .int .i64 c, .int .i64 lo, .int .i64 hi, .slice oa on oc, .int .i64 ot], .pointer (some ⟨W.heap.size, 7, none⟩), .int .i64 op, .pointer (some ⟨W.heap.size, 8, none⟩), .slice pa pl pc, .slice va NW vc, .pointer (some ⟨W.heap.size, 9, none⟩), .slice ad n cap, .int .i64 (n : Int), .slice va n vc, .pointer (some ⟨W.heap.size, 10, none⟩), .slice bd nb capb, .tuple #[vz, .agg T.cs, .agg #[.int .i64 F1, .int .i64 F2, .int .i64 F3]], vz, .agg T.cs, .agg #[.int .i64 F1, .int .i64 F2, .int .i64 F3], ⟨(wz).heap.size, (wd).heap.size, vz, rfl, rfl, rfl, HS2.out, setRow_heap _ _ _ _ _ _ GS1.out, Own.setRow OS1.out GS1.out (by decide) (by decide)⟩, by kernel_rfl⟩
      · refine opR rfl rfl (.pointer (some ⟨((wd).alloc (.cells #[.int .i64 0, .int .i64 0, .int .i64 0] 38)).heap.size, 0, none⟩)) (((wd).alloc (.cells #[.int .i64 0, .int .i64 0, .int .i64 0] 38)).alloc (.cells Tr.z.cs 50)) (by kernel_rfl) ?_
        have HB14 : Hid (Below w5.heap.size w5 (((wd).alloc (.cells #[.int .i64 0, .int .i64 0, .int .i64 0] 38)).alloc (.cells Tr.z.cs 50))) := btr HB11.out (bal _ _)
        have G614 : Hid ((((wd).alloc (.cells #[.int .i64 0, .int .i64 0, .int .i64 0] 38)).alloc (.cells Tr.z.cs 50)).heap[((wd).alloc (.cells #[.int .i64 0, .int .i64 0, .int .i64 0] 38)).heap.size]? = some (.cells Tr.z.cs 50 (0, 0))) := heap_alloc_new _ _
        have G714 : Hid ((((wd).alloc (.cells #[.int .i64 0, .int .i64 0, .int .i64 0] 38)).alloc (.cells Tr.z.cs 50)).heap[(wd).heap.size]? = some (.cells #[.int .i64 0, .int .i64 0, .int .i64 0] 38 (0, 0))) := ((bal _ _).block _ (lt_of_heap G711.out)).trans G711.out
        refine stepK 13 HB14.out (by kernel_rfl) rfl rfl 8 #[.agg #[.int .i64 h, .int .i64 w, .int .i64 c, .int .i64 lo, .int .i64 hi, .slice oa on oc, .int .i64 ot], .int .i64 op, .slice pa pl pc, .slice va n vc, .slice bd nb capb] (by kernel_rfl) (HOP.out _ (HAB.out _ (btr Bw5.out (HB14.out))).2.2.1 va vc (HAB.out _ (btr Bw5.out (HB14.out))).2.2.2.1) ?_
        rintro e wz ⟨⟨vz, rfl, hoz⟩, hbz⟩
        have HB15 : Hid (Below w5.heap.size w5 wz) := btr HB14.out hbz
        have O15 : Hid (Own .i8 63 wz w5.heap.size vz L) := hoz.base (HB14.out.size)
        have G615 : Hid (wz.heap[((wd).alloc (.cells #[.int .i64 0, .int .i64 0, .int .i64 0] 38)).heap.size]? = some (.cells Tr.z.cs 50 (0, 0))) := (hbz.block _ (lt_of_heap G614.out)).trans G614.out
        have G715 : Hid (wz.heap[(wd).heap.size]? = some (.cells #[.int .i64 0, .int .i64 0, .int .i64 0] 38 (0, 0))) := (hbz.block _ (lt_of_heap G714.out)).trans G714.out
        clear hoz hbz
        refine ⟨_, rfl, ?_⟩
        refine takeC 14 (v := .tuple #[vz, .agg T.cs, .agg #[.int .i64 F1, .int .i64 F2, .int .i64 F3]]) rfl rfl (by kernel_rfl) (by kernel_rfl) (by kernel_rfl) (fun _ _ _ h => h) (fun _ => rfl) rfl (fun w' hw' => by kernel_rfl) ?_
        refine takeC 15 (v := vz) rfl rfl (by kernel_rfl) (by kernel_rfl) (by kernel_rfl) (fun _ _ _ h => h) (fun _ => rfl) rfl (fun w' hw' => by kernel_rfl) ?_
        refine takeC 16 (v := .agg T.cs) rfl rfl (by kernel_rfl) (by kernel_rfl) (by kernel_rfl) (fun _ _ _ h => h) (fun _ => rfl) rfl (fun w' hw' => by kernel_rfl) ?_
        refine takeC 17 (v := .agg #[.int .i64 F1, .int .i64 F2, .int .i64 F3]) rfl rfl (by kernel_rfl) (by kernel_rfl) (by kernel_rfl) (fun _ _ _ h => h) (fun _ => rfl) rfl (fun w' hw' => by kernel_rfl) ?_
        have P6 : Hid (w5.heap.size ≤ ((wd).alloc (.cells #[.int .i64 0, .int .i64 0, .int .i64 0] 38)).heap.size) := HB11.out.size
        have P7 : Hid (w5.heap.size ≤ (wd).heap.size) := HD.out.size
        have NE : Hid (((wd).alloc (.cells #[.int .i64 0, .int .i64 0, .int .i64 0] 38)).heap.size ≠ (wd).heap.size) := ne_of_ty G615.out G715.out (by decide)
        refine stepR 20 HB15.out (by kernel_rfl) rfl rfl vz (wz) (by kernel_rfl) ?_
        refine stepS 21 HB15.out (by kernel_rfl) rfl rfl 50 (.tmp 9) (.tmp 59) rfl (((wd).alloc (.cells #[.int .i64 0, .int .i64 0, .int .i64 0] 38)).heap.size) T.cs (by kernel_rfl) (by kernel_rfl) 50 Tr.z.cs G615.out (by kernel_rfl) rfl (by kernel_rfl) ?_
        have HS1 : Hid (Below w5.heap.size w5 ((wz).setRow (((wd).alloc (.cells #[.int .i64 0, .int .i64 0, .int .i64 0] 38)).heap.size) T.cs)) := below_setRow HB15.out P6.out _
        have GS1 : Hid (((wz).setRow (((wd).alloc (.cells #[.int .i64 0, .int .i64 0, .int .i64 0] 38)).heap.size) T.cs).heap[(wd).heap.size]? = some (.cells #[.int .i64 0, .int .i64 0, .int .i64 0] 38 (0, 0))) := (setRow_other _ _ _ _ (fun q => NE.out q.symm)).trans G715.out
        have OS1 : Hid (Own .i8 63 ((wz).setRow (((wd).alloc (.cells #[.int .i64 0, .int .i64 0, .int .i64 0] 38)).heap.size) T.cs) w5.heap.size vz L) := Own.setRow O15.out G615.out (by decide) (by decide)
        refine stepS 22 HS1.out (by kernel_rfl) rfl rfl 38 (.tmp 10) (.tmp 60) rfl ((wd).heap.size) #[.int .i64 F1, .int .i64 F2, .int .i64 F3] (by kernel_rfl) (by kernel_rfl) 38 #[.int .i64 0, .int .i64 0, .int .i64 0] GS1.out (by kernel_rfl) rfl (by simp [Value.oneCell']) ?_
        have HS2 : Hid (Below w5.heap.size w5 (((wz).setRow (((wd).alloc (.cells #[.int .i64 0, .int .i64 0, .int .i64 0] 38)).heap.size) T.cs).setRow ((wd).heap.size) #[.int .i64 F1, .int .i64 F2, .int .i64 F3])) := below_setRow HS1.out P7.out _
        refine doneC HS2.out (by kernel_rfl) ?_ _
        refine (show ∀ a' w', Met _ a' w' → _ from by assumption) _ _ ?_
        refine Met.intro ?_
        go_step
        exact ⟨vz, .pointer (some ⟨((wd).alloc (.cells #[.int .i64 0, .int .i64 0, .int .i64 0] 38)).heap.size, 0, none⟩), .pointer (some ⟨(wd).heap.size, 0, none⟩), .tuple #[vz, .agg T.cs, .agg #[.int .i64 F1, .int .i64 F2, .int .i64 F3]], .pointer (some ⟨W.heap.size, 0, none⟩), .agg #[.int .i64 h, .int .i64 w, .int .i64 c, .int .i64 lo, .int .i64 hi, .slice oa on oc, .int .i64 ot], .pointer (some ⟨W.heap.size, 7, none⟩), .int .i64 op, .pointer (some ⟨W.heap.size, 8, none⟩), .slice pa pl pc, .slice va NW vc, .pointer (some ⟨W.heap.size, 9, none⟩), .slice ad n cap, .int .i64 (n : Int), .slice va n vc, .pointer (some ⟨W.heap.size, 10, none⟩), .slice bd nb capb, .tuple #[vz, .agg T.cs, .agg #[.int .i64 F1, .int .i64 F2, .int .i64 F3]], vz, .agg T.cs, .agg #[.int .i64 F1, .int .i64 F2, .int .i64 F3], ⟨((wd).alloc (.cells #[.int .i64 0, .int .i64 0, .int .i64 0] 38)).heap.size, (wd).heap.size, vz, rfl, rfl, rfl, HS2.out, setRow_heap _ _ _ _ _ _ GS1.out, Own.setRow OS1.out GS1.out (by decide) (by decide)⟩, by kernel_rfl⟩
  obtain ⟨b9, b10, v8, rfl, rfl, rfl, h1, h2, h3⟩ := hcut
  obtain ⟨w6, rfl⟩ : ∃ w', w' = wc := ⟨_, rfl⟩
  have Bw6 : Hid (Below w5.heap.size w5 w6) := h1
  have Hw6 : Hid (w6.heap[b10]? = some (.cells #[.int .i64 F1, .int .i64 F2, .int .i64 F3] 38 (0, 0))) := h2
  have Ow6 : Hid (Own .i8 63 w6 w5.heap.size v8 L) := h3
  clear h1 h2 h3
  have B46 : Hid (Below w4.heap.size w4 w6) := btr Bw5.out Bw6.out
  have hc7 : ∀ i, w6.cell? ⟨b7, i, none⟩ = #[.int .i64 F1, .int .i64 F2, .int .i64 F3][i]? := (cells_at ((Bw6.out.block _ (lt_of_heap Hw5.out)).trans Hw5.out)).1
  obtain ⟨ya, yc, rfl, yr, -⟩ := Ow5.out.row
  have YR : Hid (IRow .i8 w5 ya L.length yc L) := yr
  clear yr
  by_cases hE : F1 ≠ 0
  · obtain rfl := HF0.out hE
    have hE1 : (F1 == 0) = false := by simp [hE]
    have hE2 : (F1 != 0) = true := by simp [hE]
    go_wp2_with fail
    refine Calls.mono (same8_b va wb NW vc cb (xs ++ [91, 92, 93]) w6 (HAB.out _ B46.out).1 (HAB.out _ B46.out).2.1) ?_
    rintro e w7 ⟨rfl, hb7⟩
    have HB : Hid (Below W.heap.size W w7) := (HAB.out _ (btr B46.out hb7)).2.2.1
    clear hb7 hc7 HAB Bw5 Bw6 B46
    go_wp2
    go_ret
    exact ⟨rfl, HB.out⟩
  obtain rfl : F1 = 0 := by omega
  clear hE
  have hlb := HLB.out
  obtain ⟨N, hN⟩ : ∃ N, L.length = N := ⟨_, rfl⟩
  have HN : Hid (L.length = N) := hN
  rw [hN] at hlb YR Ow5 ⊢
  clear hN
  have own6 : Hid (Own .i8 63 (w6.alloc (.cells #[] 63)) w6.heap.size (.slice (some ⟨w6.heap.size, 0, none⟩) 0 0) []) := own_lit .i8 63 w6 w6.heap.size [] (Wf.nil _) (by unfold maxLen; simp) (Nat.le_refl _)
  obtain ⟨za, zc, rfl, zr, -⟩ := Ow6.out.row
  rw [HN.out] at zr ⊢
  have ZR : Hid (IRow .i8 w6 za N zc L) := zr
  clear zr
  go_upto_region 10 with (at_builtin; refine wpList_appW kt_i8 rfl (.tmp 72) (.tmp 73) rfl w6.heap.size (.slice (some ⟨w6.heap.size, 0, none⟩) 0 0) [] L rfl own6.out _ _ _ rfl (ZR.out.below (bal _ _)) (by simp; omega) (by simp) ?_; intro v7 w7 own7 gr7; have B7 : Hid (Below w6.heap.size w6 w7) := own6.out.bel (bal _ _) gr7 (Nat.le_refl _) (by simp); have O7 : Hid (Own .i8 63 w7 w6.heap.size v7 L) := own7; clear own7 gr7 own6)
  clear hc7
  obtain ⟨ka, kc, rfl, -, -⟩ := O7.out.row
  rw [HN.out] at O7 ⊢
  obtain ⟨lw, hlw⟩ : ∃ lw, w4.heap.size = lw := ⟨_, rfl⟩
  obtain ⟨hw, hhw⟩ : ∃ hw, w5.heap.size = hw := ⟨_, rfl⟩
  have OZ : Hid (Own .i8 63 w7 hw (.slice za N zc) L) := by unfold Hid; rw [← hhw]; have := (Ow6.out.below B7.out); rw [HN.out] at this; exact this
  have OK : Hid (Own .i8 63 w7 hw (.slice ka N kc) L) := O7.out.base (by rw [← hhw]; exact Bw6.out.size)
  have OY : Hid (Own .i8 63 w7 lw (.slice ya N yc) L) := by unfold Hid; rw [← hlw]; exact (Ow5.out.below (btr Bw6.out B7.out))
  have HY : Hid (∀ b, (Value.slice ya N yc).ownBlock = some b → (lw ≤ b ∧ b < hw) ∨ w7.heap.size ≤ b) := fun b e => by
    have q1 := Ow5.out.block e
    have q2 := own_lt Ow5.out e
    rw [hlw] at q1
    rw [hhw] at q2
    exact .inl ⟨q1, q2⟩
  have hB47 : Below w4.heap.size w4 w7 := btr B46.out B7.out
  have hls : lw ≤ w7.heap.size := by rw [← hlw]; exact hB47.size
  have HZ : Hid (∀ w', Outs lw hw w7 w' → IRow .i8 w' za N zc L ∧ IRow .i8 w' ka N kc L ∧ Below w4.heap.size w4 w') := fun w' q => ⟨(show Own .i8 63 w' hw _ L from ⟨q.own OZ.out.1, OZ.out.2⟩).irow, (show Own .i8 63 w' hw _ L from ⟨q.own OK.out.1, OK.out.2⟩).irow, by rw [hlw] at hB47 ⊢; exact q.below hB47 hls⟩
  clear OZ OK O7 Ow5 Ow6 B7 B46 hlw hhw hB47 YR ZR HLB Bw5 Bw6 Hw5 Hw6
  go_wp2
  go_loopw [77] (fun i wr => ∃ (k : Nat) (X : List Int), k ≤ N ∧ i = .int .i64 k ∧ X.length = N ∧ Own .i8 63 wr lw (.slice ya N yc) X ∧ Outs lw hw w7 wr) (fun i _ => N - (intOf i).toNat)
  case atStart => exact ⟨0, L, Nat.zero_le _, rfl, HN.out, OY.out, Outs.refl _ _ _⟩
  obtain ⟨k, X, hk, rfl, hx, ho, hu⟩ := hrel
  have HXN : Hid (X.length = N) := hx
  have HO : Hid (Own .i8 63 wr lw (.slice ya N yc) X) := ho
  have HU : Hid (Outs lw hw w7 wr) := hu
  clear hx ho hu
  by_cases hlt : k < N
  · obtain ⟨g, rfl⟩ : ∃ g, ya = some ⟨g, 0, none⟩ := by
      rcases HO.out.shape with ⟨e, -⟩ | ⟨g, cap', e, -⟩
      · simp only [Value.slice.injEq] at e; omega
      · simp only [Value.slice.injEq] at e; exact ⟨g, e.1⟩
    obtain ⟨-, -, -, hyc, hym, row, fr⟩ := HO.out.facts
    obtain ⟨y, d, hy, hc, -, -, -⟩ := row.at hlt
    obtain rfl := Option.some.inj hy
    rw [Addr.add_lit, Nat.zero_add] at hc
    obtain ⟨o1, o2⟩ := HO.out.set (i := k) (z := 7) (by decide)
    have HO1 : Hid (Own .i8 63 (wr.setCell ⟨g, k, none⟩ (.int .i8 7)) lw (.slice (some ⟨g, 0, none⟩) N yc) (X.set k 7)) := o1
    have HU1 : Hid (Outs lw hw w7 (wr.setCell ⟨g, k, none⟩ (.int .i8 7))) := HU.out.step o2 (fun b e => HY.out b e)
    clear o1 o2 row hy
    go_wp2
    go_roundw
    case rel => exact ⟨k + 1, _, by omega, by go_num, by rw [List.length_set]; exact HXN.out, HO1.out, HU1.out⟩
    case measure => simp [intOf]; omega
  obtain rfl : k = N := by omega
  obtain ⟨N, rfl⟩ : ∃ N, N = k := ⟨_, rfl⟩
  obtain ⟨w8, rfl⟩ : ∃ w', w' = wr := ⟨_, rfl⟩
  clear hlt hk OY
  go_wp2
  go_loopw [5, 13] (fun v i wr => ∃ (k : Nat) (X : List Int) (vv : Value), vv = v ∧ k ≤ 40 ∧ i = .int .i64 k ∧ X.length = N + k ∧ Own .i8 63 wr lw vv X ∧ (∀ b, vv.ownBlock = some b → (lw ≤ b ∧ b < hw) ∨ w7.heap.size ≤ b) ∧ Outs lw hw w7 wr) (fun _ i _ => 40 - (intOf i).toNat)
  case atStart => exact ⟨0, X, _, rfl, by omega, rfl, HXN.out, HO.out, HY.out, HU.out⟩
  clear HO HU HY HXN
  obtain ⟨k, X2, vv, rfl, hk, rfl, hx, ho, hy, hu⟩ := hrel
  have HXN : Hid (X2.length = N + k) := hx
  have HO : Hid (Own .i8 63 wr lw vv X2) := ho
  have HY : Hid (∀ b, vv.ownBlock = some b → (lw ≤ b ∧ b < hw) ∨ w7.heap.size ≤ b) := hy
  have HU : Hid (Outs lw hw w7 wr) := hu
  clear hx ho hy hu
  by_cases hlt : k < 40
  · have hO : Hid (Own .i8 63 (wr.alloc (.cells #[.int .i8 8] 63)) lw vv X2) := HO.out.alloc _
    have HXL2 : Hid (X2.length + 1 ≤ 100000000) := by unfold Hid; rw [HXN.out]; omega
    have HSZ : Hid (lw ≤ wr.heap.size) := Nat.le_trans hls HU.out.2.2.2.1
    go_wp2_with (at_builtin; refine wpList_app8 rfl (.tmp 88) (.tmp 89) rfl lw vv X2 [8] rfl hO.out ⟨wr.heap.size, 0, none⟩ 1 1 rfl (row_one .i8 63 wr 8 (by decide)) (by decide) HXL2.out (Nat.le_trans HSZ.out (bal _ _).size) ?_; intro v' w' own' or' gr')
    have HN2 : Hid (Own .i8 63 w' lw v' (X2 ++ [8]) ∧ (∀ b, v'.ownBlock = some b → (lw ≤ b ∧ b < hw) ∨ w7.heap.size ≤ b) ∧ Outs lw hw w7 w') := by
      refine ⟨own', fun b e => ?_, (HU.out.bel (bal _ _)).step gr' (fun b e => HY.out b e)⟩
      rcases or' with q | q
      · exact HY.out b (by rw [← q]; exact e)
      · have q1 := q b e
        have q2 := HU.out.2.2.2.1
        rw [World.size_alloc] at q1
        exact .inr (by omega)
    clear own' or' gr'
    go_roundw
    case rel => exact ⟨k + 1, _, v', rfl, by omega, by go_num, by rw [List.length_append, HXN.out]; rfl, HN2.out.1, HN2.out.2.1, HN2.out.2.2⟩
    case measure => simp [intOf]; omega
  obtain rfl : k = 40 := by omega
  obtain ⟨w9, rfl⟩ : ∃ w', w' = wr := ⟨_, rfl⟩
  have HK : Hid (IRow .i8 w9 za N zc L ∧ IRow .i8 w9 ka N kc L ∧ Below w4.heap.size w4 w9) := HZ.out _ HU.out
  clear hlt hk HO HU HY HXN HZ
  go_wp2_with fail
  refine Calls.mono (same8_b za ka N zc kc L w9 HK.out.1 HK.out.2.1) ?_
  rintro e w10 ⟨rfl, hb10⟩
  have B10 : Hid (Below w4.heap.size w4 w10) := btr HK.out.2.2 hb10
  clear hb10 HK
  go_wp2_with fail
  refine Calls.mono (same8_b va wb NW vc cb (xs ++ [91, 92, 93]) _ (HAB.out _ B10.out).1 (HAB.out _ B10.out).2.1) ?_
  rintro e w11 ⟨rfl, hb11⟩
  have B11 : Hid (Below w4.heap.size w4 w11) := btr B10.out hb11
  clear hb11 B10
  have hG := (HAB.out _ B11.out).2.2.2.2
  have hcc : ∀ i, w11.cell? ⟨W.heap.size, i, none⟩ = #[.int .i64 h, .int .i64 w, .int .i64 c, .int .i64 lo, .int .i64 hi, .slice oa on oc, .int .i64 ot, .int .i64 op, .slice pa pl pc, .slice ad n cap, .slice bd nb capb][i]? := (cells_at hG).1
  have hcd : ∀ i, (w11.alloc (.cells #[.slice pa pl pc] 53)).cell? ⟨W.heap.size, i, none⟩ = #[.int .i64 h, .int .i64 w, .int .i64 c, .int .i64 lo, .int .i64 hi, .slice oa on oc, .int .i64 ot, .int .i64 op, .slice pa pl pc, .slice ad n cap, .slice bd nb capb][i]? := (cells_at (((bal _ _).block _ (lt_of_heap hG)).trans hG)).1
  go_wp2_with fail
  have HE : Hid (∀ w', Below w11.heap.size w11 w' → ∀ g, w'.heap[g]? = some (.cells #[.slice pa pl pc] 53 (0, 0)) → QRow w' (some ⟨g, 0, none⟩) 1 1 [PS]) := fun w' q g hg => by
    refine ⟨rfl, Nat.le_refl _, by unfold maxLen; omega, fun e => by (cases e), fun x hx i l hl => ?_⟩
    cases hx
    cases i with
    | succ i => simp at hl
    | zero =>
      obtain rfl := Option.some.inj hl
      rw [HPL.out]
      exact ⟨pa, pc, (cells_at hg).1 0, HPS.out.below ((HAB.out _ (btr B11.out q)).2.2.1), hrp⟩
  have HE0 : Hid (∀ w', ERow 2 scs w' none 0 0 []) := fun w' => ⟨rfl, Nat.le_refl _, by unfold maxLen; omega, fun _ => rfl, fun x hx => by cases hx⟩
  refine (rsame_any none 0 0 [] (some ⟨w11.heap.size, 0, none⟩) 1 1 [PS] none 0 0 [] (some ⟨w11.heap.size + 1, 0, none⟩) 1 1 [PS] _ (HE0.out _) (HE.out _ ?_ _ ?_) (HE0.out _) (HE.out _ ?_ _ ?_)).mono ?_
  · exact btr (bal _ _) (bal _ _)
  · exact ((bal _ _).block _ (by simp)).trans (heap_alloc_new _ _)
  · exact btr (bal _ _) (bal _ _)
  · have q := heap_alloc_new (w11.alloc (.cells #[.slice pa pl pc] 53)) (.cells #[.slice pa pl pc] 53)
    rwa [World.size_alloc] at q
  rintro e w12 ⟨rfl, hb12⟩
  rw [ceB_t]
  have HB : Hid (Below W.heap.size W w12) := (HAB.out _ (btr B11.out (btr (btr (bal _ _) (bal _ _)) hb12))).2.2.1
  clear hb12 B11 hG hcc hcd HAB HE HE0
  go_wp2
  go_ret
  exact ⟨rfl, HB.out⟩
end Go.Proofs.Ytgofmooidlejlaa.Kr
