/- same and front of law08: what each returns. The document's Copy of layer 8: what it returns. plain and fixed of law08. fixed of law08. -/
import Derived.Test.YtmcdpbnpnifdfaaGreatGr13
import Derived.Test.YtmcdpbnpnifdfaaGreatGr16
import Derived.BigQuiet
import Derived.Laws.AppendOwnNone
/- same and front of law08: what each returns. -/
namespace Go.Proofs.YtmcdpbnpnifdfaaGreat
open Go.ChangeShapes Go.WideShapes Go.ChangeAt Go.RowKit
set_option linter.unusedVariables false
/-- A slice of shapes. -/
def SV (w : World) (v : Value) (L : List (Int × Int × Int)) : Prop :=
  ∃ a cap, v = .slice a L.length cap ∧ L.length ≤ cap ∧ cap ≤ maxLen ∧ (0 < L.length → ∃ g, a = some ⟨g, 0, none⟩ ∧ ∀ i, i < L.length →
    w.cell? ⟨g, i * 3, none⟩ = some (.int .i64 (L.getD i (0, 0, 0)).1) ∧ w.cell? ⟨g, i * 3 + 1, none⟩ = some (.int .i64 (L.getD i (0, 0, 0)).2.1) ∧ w.cell? ⟨g, i * 3 + 2, none⟩ = some (.int .i64 (L.getD i (0, 0, 0)).2.2))
theorem SV.below {w w' : World} {v : Value} {L : List (Int × Int × Int)} (h : SV w v L) (q : Below w.heap.size w w') : SV w' v L := by
  obtain ⟨a, cap, h1, h2, h3, h4⟩ := h
  refine ⟨a, cap, h1, h2, h3, fun h0 => ?_⟩
  obtain ⟨g, e, hc⟩ := h4 h0
  refine ⟨g, e, fun i hi => ?_⟩
  obtain ⟨c1, c2, c3⟩ := hc i hi
  exact ⟨(q.cell (World.block_lt_of_cell? w _ c1)).trans c1, (q.cell (World.block_lt_of_cell? w _ c2)).trans c2, (q.cell (World.block_lt_of_cell? w _ c3)).trans c3⟩
theorem sv_cu {w : World} {g cap : Nat} {cur : Array Value} {T : TypeId} {L M : List (Int × Int × Int)} (h : w.heap[g]? = some (.cells cur T (0, 0))) (hC : Cu cur cap L) (hm : cap ≤ maxLen) (n : Nat) (hn : n ≤ L.length) (hM : M = L.take n) : SV w (.slice (some ⟨g, 0, none⟩) n cap) M := by
  have hl : M.length = n := by rw [hM, List.length_take]; omega
  have hc := hC.2.1
  refine ⟨some ⟨g, 0, none⟩, cap, by rw [hl], by omega, hm, fun _ => ⟨g, rfl, fun i hi => ?_⟩⟩
  obtain ⟨a1, a2, a3⟩ := hC.at (i := i) (by omega)
  have e : M.getD i (0, 0, 0) = L.getD i (0, 0, 0) := by rw [hM]; simp [List.getD, show i < n by omega]
  rw [e]
  simp only [(cells_at h).1]
  exact ⟨a1, a2, a3⟩
theorem Shp.sv {w : World} {base : Nat} {v : Value} {L : List (Int × Int × Int)} (h : Shp w base v L) : SV w v L := by
  rcases h with ⟨rfl, rfl⟩ | ⟨g, cap, cur, rfl, h2, h3, h4, h5⟩
  · exact ⟨none, 0, rfl, Nat.le_refl _, by unfold maxLen; omega, fun h => by cases h⟩
  · exact sv_cu h3 h4 (by unfold maxLen; omega) L.length (Nat.le_refl _) (by simp)
theorem l3_step {xs ys : List (Int × Int × Int)} {k : Nat} {c d : Int × Int × Int} (kx : xs.getD k (0, 0, 0) = c) (ky : ys.getD k (0, 0, 0) = d) (hx : k < xs.length) (hy : k < ys.length) (he : xs.take k = ys.take k) : (c = d → xs.take (k + 1) = ys.take (k + 1)) ∧ (c ≠ d → decide (xs = ys) = false) := by
  rw [List.getD_eq_getElem?_getD, List.getElem?_eq_getElem hx, Option.getD_some] at kx
  rw [List.getD_eq_getElem?_getD, List.getElem?_eq_getElem hy, Option.getD_some] at ky
  constructor
  · intro h
    rw [List.take_add_one, List.take_add_one, he, List.getElem?_eq_getElem hx, List.getElem?_eq_getElem hy, kx, ky, h]
  · intro h
    refine decide_eq_false fun e => h ?_
    subst e
    rw [← kx, ← ky]
theorem l3_end {xs ys : List (Int × Int × Int)} {k n : Nat} (hx : xs.length = n) (hy : ys.length = n) (hk : n ≤ k) (he : xs.take k = ys.take k) : decide (xs = ys) = true := by
  rw [List.take_of_length_le (by omega), List.take_of_length_le (by omega)] at he
  exact decide_eq_true he
theorem retb {a b : Bool} (h : a = b) : Ending.returned (.bool a) = .returned (.bool b) := by rw [h]
/-! ### front -/
theorem St.grown {w0 w w' : World} {l : List (Nat × Array Value × TypeId)} {row : Option Nat} (h : St w0 w l) (g : w.grownBy w' row) (hr : ∀ k, row = some k → w0.heap.size ≤ k) (hl : ∀ x ∈ l, some x.1 ≠ row) : St w0 w' l :=
  ⟨h.1.grown g h.1.size hr, fun x hx => ⟨by rw [g.block _ (lt_of_heap (h.2 x hx).1) (hl x hx)]; exact (h.2 x hx).1, (h.2 x hx).2⟩⟩
/-- The cells that lie there. -/
def mc (w : World) (x : Addr) (n : Nat) : List Value := (List.range n).map fun q => (w.cell? (x.add q)).getD (.bool false)
theorem mc_len (w : World) (x : Addr) (n : Nat) : (mc w x n).length = n := by simp [mc]
theorem mc_at {w : World} {x : Addr} {n q : Nat} {v : Value} (h : q < n) (hc : w.cell? (x.add q) = some v) : (mc w x n)[q]? = some v := by simp [mc, h, hc]
theorem opl_len (o : Nat → Int) (wa : Option Addr) (lw cw : Nat) (ba : Option Addr) (lb cb : Nat) : (opl o wa lw cw ba lb cb).length = 22 := rfl
theorem opl_one (o : Nat → Int) (wa : Option Addr) (lw cw : Nat) (ba : Option Addr) (lb cb : Nat) : ∀ v ∈ opl o wa lw cw ba lb cb, v.oneCell' = true := by simp [opl, Value.oneCell']
theorem MRow.cell {w : World} {x : Addr} {on oc : Nat} {O : Nat → Nat → Int} (h : MRow w (some x) on oc O) {q : Nat} (hq : q < on * 22) : ∃ v, w.cell? (x.add q) = some v ∧ v.oneCell' = true := by
  obtain ⟨wa, lw, cw, ba, lb, cb, -, -, h3⟩ := h.2.2.2 x rfl (q / 22) (by omega)
  have hj : q % 22 < (opl (O (q / 22)) wa lw cw ba lb cb).length := by rw [opl_len]; omega
  have := h3 (q % 22) _ (List.getElem?_eq_getElem hj)
  rw [show q / 22 * 22 + q % 22 = q by omega] at this
  exact ⟨_, this, opl_one _ _ _ _ _ _ _ _ (List.getElem_mem hj)⟩
theorem mc_of {w : World} {x : Addr} {on oc k : Nat} {O : Nat → Nat → Int} (h : MRow w (some x) on oc O) (hk : k ≤ on) : (∀ j u, (mc w x (k * 22))[j]? = some u → w.cell? (x.add j) = some u) ∧ ∀ u ∈ mc w x (k * 22), u.oneCell' = true := by
  constructor
  · intro j u hj
    have hj' : j < k * 22 := by have := (List.getElem?_eq_some_iff.1 hj).1; rwa [mc_len] at this
    obtain ⟨v, hv, -⟩ := h.cell (q := j) (by omega)
    rw [mc_at hj' hv] at hj
    rw [hv, hj]
  · intro u hu
    obtain ⟨j, hj⟩ := List.getElem?_of_mem hu
    have hj' : j < k * 22 := by have := (List.getElem?_eq_some_iff.1 hj).1; rwa [mc_len] at this
    obtain ⟨v, hv, h1⟩ := h.cell (q := j) (by omega)
    rw [mc_at hj' hv] at hj
    cases hj
    exact h1
theorem mrow_copy {w w' : World} {x : Addr} {on oc k base : Nat} {v : Value} {O : Nat → Nat → Int} (h : MRow w (some x) on oc O) (hk : k ≤ on) (hown : w'.ownsRow base 49 22 v k (mc w x (k * 22))) (hv : v ≠ .slice none 0 0) :
    ∃ g cap cur, v = .slice (some ⟨g, 0, none⟩) k cap ∧ base ≤ g ∧ w'.heap[g]? = some (.cells cur 49 (0, 0)) ∧ MRow w' (some ⟨g, 0, none⟩) k cap O := by
  rcases hown.2 with ⟨h0, -⟩ | ⟨g, cap, cur, h1, h2, h3, h4, h5, h6, h7⟩
  · exact absurd h0 hv
  · refine ⟨g, cap, cur, h1, h2, h3, h4, h5, fun q => (by cases q), fun y hy i hi => ?_⟩
    cases hy
    obtain ⟨wa, lw, cw, ba, lb, cb, e1, e2, e3⟩ := h.2.2.2 x rfl i (by omega)
    refine ⟨wa, lw, cw, ba, lb, cb, e1, e2, fun j u hj => ?_⟩
    have hj' : j < 22 := (List.getElem?_eq_some_iff.1 hj).1
    exact hown.cells (by rw [h1]; rfl) _ _ (mc_at (by omega) (e3 j u hj))
theorem MRow.heap {w w' : World} {g k cap : Nat} {O : Nat → Nat → Int} (h : MRow w (some ⟨g, 0, none⟩) k cap O) (e : w'.heap[g]? = w.heap[g]?) : MRow w' (some ⟨g, 0, none⟩) k cap O :=
  ⟨h.1, h.2.1, h.2.2.1, fun x hx i hi => by
    obtain ⟨wa, lw, cw, ba, lb, cb, h1, h2, h3⟩ := h.2.2.2 x hx i hi
    exact ⟨wa, lw, cw, ba, lb, cb, h1, h2, fun j v hj => (World.cell?_of_block (by rw [add_block]; cases hx; exact e)).trans (h3 j v hj)⟩⟩
theorem ne_of_ty {w : World} {a b : Nat} {c d : Array Value} {t u : TypeId} (h : w.heap[a]? = some (.cells c t (0, 0))) (k : w.heap[b]? = some (.cells d u (0, 0))) (q : t ≠ u) : a ≠ b := fun e => by
  subst e
  rw [h] at k
  simp only [Option.some.injEq, Obj.cells.injEq] at k
  exact q k.2.1
end Go.Proofs.YtmcdpbnpnifdfaaGreat

/- The document's Copy of layer 8: what it returns. -/
namespace Go.Proofs.YtmcdpbnpnifdfaaGreat
open Go.ChangeShapes Go.WideShapes Go.ChangeAt Go.RowKit
set_option linter.unusedVariables false
/-- 'append' to an empty list of the call's own, from whatever slice within the reach. -/
theorem wpList_appB {k : IntKind} {T S : TypeId} {by8 : Nat} (kt : KT k T S by8) {w : World} {ops : Array Oper} {rest : List Oper} {o : Oper} {a : Act} {Q : Exit → Act → World → Prop} (hgd : o.guard = none) (s x : Operand)
    (ho : o.op = .call { callee := .builtin .append, args := #[s, x], argTypes := #[S, S] })
    (base : Nat) (v : Value) (ys : List Int) (hs : a.eval s = v) (hown : Own k T w base v []) (ao : Option Addr) (m c : Nat) (hx : a.eval x = .slice ao m c) (hy : IRow k w ao m c ys)
    (hlen : m * by8 ≤ 140737488351232) (hbase : base ≤ w.heap.size)
    (h : ∀ v' w', Own k T w' base v' ys → w.grownBy w' v.ownBlock → wpList Tryz.prog ops Q rest (a.put o.dst v') w') : wpList Tryz.prog ops Q (o :: rest) a w := by
  obtain ⟨hu, hin, b1, b8⟩ := kt
  obtain ⟨i0, hi, hz0, hz1, hz2⟩ := info_parts hin
  obtain ⟨hl, hc, hm, hb, hn, hcell⟩ := hy
  have hm2 : m ≤ 140737488351232 := Nat.le_trans (Nat.le_mul_of_pos_right m (by omega)) hlen
  cases ao with
  | none =>
    obtain rfl : c = 0 := hn rfl
    obtain rfl : m = 0 := by omega
    obtain rfl : ys = [] := List.eq_nil_of_length_eq_zero hl
    refine wpList_append_own_none hgd s x _ ho base T i0 1 hu hi v 0 _ hs hown.1 hx ?_
    exact h v w hown ⟨rfl, rfl, rfl, Nat.le_refl _, fun _ _ _ => rfl⟩
  | some ad =>
    refine wpList_append_own _ hgd s x _ ho base T i0 (.int k 0) 1 by8 hu hi hz0 hz1 hz2 rfl (by omega) v 0 _ hs hown.1 ad m c (ys.map (Value.int k)) hx (by simp [hl]) ?_ (ints_oneCell _ _) ?_ ?_ hbase ?_
    · intro j u hj
      have hj' : j < m := by
        have := (List.getElem?_eq_some_iff.1 hj).1
        simpa [hl] using this
      rw [hcell ad rfl j hj']
      simp [List.getD, show j < ys.length by omega] at hj ⊢
      exact hj
    · unfold maxLen; omega
    · rw [Nat.zero_add]; omega
    · intro v' w' h1 h2 h3
      refine h v' w' ⟨?_, hb⟩ h2
      rw [Nat.zero_add] at h1
      rw [hl]
      exact h1
theorem Own.grown {k : IntKind} {T : TypeId} {w w' : World} {base : Nat} {v : Value} {zs : List Int} {row : Option Nat} (h : Own k T w base v zs) (q : w.grownBy w' row) (hne : ∀ b, row = some b → ∀ c, w.heap[b]? ≠ some (.cells c T (0, 0))) : Own k T w' base v zs := by
  refine ⟨h.1.kept q ?_, h.2⟩
  rcases h.shape with ⟨rfl, _⟩ | ⟨g, cap, rfl, -, -, -, -, ⟨cur, hc, -⟩, -⟩
  · exact .inl rfl
  · exact .inr (fun e => hne g e.symm cur hc)
theorem Own.irow {k : IntKind} {T : TypeId} {w : World} {base n cap : Nat} {a : Option Addr} {zs : List Int} (h : Own k T w base (.slice a n cap) zs) : IRow k w a n cap zs := by
  obtain ⟨a', c', e, r, -⟩ := h.row
  obtain rfl := h.len
  cases e
  exact r
/-- A copied op: its cells, its lists. -/
def COp (w : World) (base : Nat) (xs : List Value) (q : Nat) (o : Nat → Int) (z b : List Int) : Prop :=
  ∃ (wa : Option Addr) (lw cw : Nat) (ba : Option Addr) (lb cb : Nat), o 12 = (lw : Int) ∧ o 13 = (lb : Int) ∧ (∀ j u, (opl o wa lw cw ba lb cb)[j]? = some u → xs[q * 22 + j]? = some u) ∧ Own .i16 86 w base (.slice wa lw cw) z ∧ Own .i32 21 w base (.slice ba lb cb) b ∧ lw * 2 ≤ 140737488351232 ∧ lb * 4 ≤ 140737488351232
def CRow (w : World) (base : Nat) (v : Value) (i : Nat) (O : Nat → Nat → Int) (Z B : Nat → List Int) : Prop :=
  ∃ xs, w.ownsRow base 49 22 v i xs ∧ ∀ q, q < i → COp w base xs q (O q) (Z q) (B q)
theorem COp.grown {w w' : World} {base : Nat} {xs ys : List Value} {q : Nat} {o : Nat → Int} {z b : List Int} {row : Option Nat} (h : COp w base xs q o z b) (g : w.grownBy w' row) (hne : ∀ b, row = some b → ∃ c, w.heap[b]? = some (.cells c 49 (0, 0))) : COp w' base (xs ++ ys) q o z b := by
  obtain ⟨wa, lw, cw, ba, lb, cb, h1, h2, h3, h4, h5, h6⟩ := h
  have ne : ∀ T, T ≠ 49 → ∀ b, row = some b → ∀ c, w.heap[b]? ≠ some (.cells c T (0, 0)) := fun T hT b hb c e => by
    obtain ⟨d, hd⟩ := hne b hb
    rw [hd] at e
    simp only [Option.some.injEq, Obj.cells.injEq] at e
    exact hT e.2.1.symm
  exact ⟨wa, lw, cw, ba, lb, cb, h1, h2, fun j u hj => List.getElem?_append_left (List.getElem?_eq_some_iff.1 (h3 j u hj)).1 |>.trans (h3 j u hj), h4.grown g (ne _ (by decide)), h5.grown g (ne _ (by decide)), h6⟩
theorem COp.below {w w' : World} {base : Nat} {xs : List Value} {q : Nat} {o : Nat → Int} {z b : List Int} (h : COp w base xs q o z b) (g : Below w.heap.size w w') : COp w' base xs q o z b := by
  obtain ⟨wa, lw, cw, ba, lb, cb, h1, h2, h3, h4, h5, h6⟩ := h
  exact ⟨wa, lw, cw, ba, lb, cb, h1, h2, h3, h4.below g, h5.below g, h6⟩
theorem CRow.below {w w' : World} {base : Nat} {v : Value} {i : Nat} {O : Nat → Nat → Int} {Z B : Nat → List Int} (h : CRow w base v i O Z B) (g : Below w.heap.size w w') : CRow w' base v i O Z B := by
  obtain ⟨xs, h1, h2⟩ := h
  refine ⟨xs, h1.kept (row := none) ⟨g.os, g.tape, g.output, g.size, fun i hi _ => g.block i hi⟩ ?_, fun q hq => (h2 q hq).below g⟩
  cases e : v.ownBlock with
  | none => exact .inl rfl
  | some b => exact .inr (by simp)
theorem CRow.slice {w : World} {base : Nat} {v : Value} {i : Nat} {O : Nat → Nat → Int} {Z B : Nat → List Int} (h : CRow w base v i O Z B) : ∃ a cap, v = .slice a i cap := by
  obtain ⟨xs, h1, -⟩ := h
  rcases h1.2 with ⟨rfl, rfl⟩ | ⟨g, cap, cur, rfl, -⟩
  · exact ⟨_, _, rfl⟩
  · exact ⟨_, _, rfl⟩
theorem CRow.nil (w : World) (base : Nat) (O : Nat → Nat → Int) (Z B : Nat → List Int) : CRow w base (.slice none 0 0) 0 O Z B := ⟨[], World.ownsRow_nil _ _ _ _, fun q hq => by omega⟩
theorem CRow.l {w : World} {base i : Nat} {a : Option Addr} {cap : Nat} {O : Nat → Nat → Int} {Z B : Nat → List Int} (h : CRow w base (.slice a i cap) i O Z B) : LRow w a i cap O Z B := by
  obtain ⟨xs, h1, h2⟩ := h
  rcases h1.2 with ⟨e, e0⟩ | ⟨g, cap', cur, e, hb, hg, hn, hm, hs, ht⟩
  · cases e
    exact ⟨Nat.le_refl _, by unfold maxLen; omega, fun _ => rfl, fun x hx => by cases hx⟩
  · cases e
    refine ⟨hn, hm, fun q => (by cases q), fun x hx q hq => ?_⟩
    cases hx
    obtain ⟨wa, lw, cw, ba, lb, cb, e1, e2, e3, e4, e5, e6⟩ := h2 q hq
    exact ⟨wa, lw, cw, ba, lb, cb, e1, e2, fun j u hj => by rw [Addr.add_add]; exact h1.cells rfl _ _ (e3 j u hj), e4.irow, e5.irow, e6⟩
theorem St.seti {w0 w : World} {B i : Nat} {c : Array Value} {t : TypeId} {l : List (Nat × Array Value × TypeId)} {v : Value} (h : St w0 w ((B, c, t) :: l)) (hl : ∀ x ∈ l, x.1 ≠ B) (d : Array Value) (hd : c.setIfInBounds i v = d) :
    St w0 (w.setCell ⟨B, i, none⟩ v) ((B, d, t) :: l) := by subst hd; exact h.set hl
theorem grown_below {w w' : World} {row : Option Nat} {n : Nat} (g : w.grownBy w' row) (hn : n ≤ w.heap.size) (hr : ∀ b, row = some b → n ≤ b) : Below n w w' := (Below.refl n w).grown g hn hr
theorem owns_other {w w' : World} {base : Nat} {e : TypeId} {size : Nat} {v : Value} {n : Nat} {xs : List Value} (h : w.ownsRow base e size v n xs) (q : ∀ (g : Nat) (c : Array Value), w.heap[g]? = some (.cells c e (0, 0)) → w'.heap[g]? = some (.cells c e (0, 0))) : w'.ownsRow base e size v n xs := by
  refine ⟨h.1, ?_⟩
  rcases h.2 with h0 | ⟨g, cap, cur, h1, h2, h3, h4⟩
  · exact .inl h0
  · exact .inr ⟨g, cap, cur, h1, h2, q g cur h3, h4⟩
theorem CRow.other {w w' : World} {base : Nat} {v : Value} {i : Nat} {O : Nat → Nat → Int} {Z B : Nat → List Int} (h : CRow w base v i O Z B) (q : ∀ (g : Nat) (c : Array Value) (t : TypeId), t ≠ 26 → w.heap[g]? = some (.cells c t (0, 0)) → w'.heap[g]? = some (.cells c t (0, 0))) : CRow w' base v i O Z B := by
  obtain ⟨xs, h1, h2⟩ := h
  refine ⟨xs, owns_other h1 (fun g c => q g c _ (by decide)), fun r hr => ?_⟩
  obtain ⟨wa, lw, cw, ba, lb, cb, e1, e2, e3, e4, e5, e6⟩ := h2 r hr
  exact ⟨wa, lw, cw, ba, lb, cb, e1, e2, e3, ⟨owns_other e4.1 (fun g c => q g c _ (by decide)), e4.2⟩, ⟨owns_other e5.1 (fun g c => q g c _ (by decide)), e5.2⟩, e6⟩
theorem LRow.at {w : World} {oa : Option Addr} {on oc : Nat} {O : Nat → Nat → Int} {Z B : Nat → List Int} (h : LRow w oa on oc O Z B) {i : Nat} (hi : i < on) : ∃ x, oa = some x ∧ LOp w (x.add (i * 22)) (O i) (Z i) (B i) := by
  cases oa with
  | none => have := h.2.2.1 rfl; have := h.1; omega
  | some x => exact ⟨x, rfl, h.2.2.2 x rfl i hi⟩
theorem grown_set (w : World) (N i : Nat) (v : Value) : w.grownBy (w.setCell ⟨N, i, none⟩ v) (some N) := ⟨rfl, rfl, rfl, by simp, fun k _ hk => Below.heap_setCell w ⟨N, i, none⟩ v k (fun e => hk (by rw [e]))⟩
theorem lit0 {k : IntKind} {T : TypeId} (w : World) (base : Nat) (hb : base ≤ w.heap.size) : Own k T (w.alloc (.cells #[] T)) base (.slice (some ⟨w.heap.size, 0, none⟩) 0 0) [] := own_lit k T w base [] (Wf.nil _) (by unfold maxLen; simp) hb
theorem Own.len2 {k : IntKind} {T : TypeId} {w : World} {base n : Nat} {v : Value} {zs : List Int} (h : Own k T w base v zs) (hn : zs.length = n) : ∃ a cap, v = .slice a n cap := by
  obtain ⟨a, c, e, -⟩ := h.row
  exact ⟨a, c, by rw [e, hn]⟩
theorem app_below {w w' : World} {T : TypeId} {c : Array Value} (g : (w.alloc (.cells c T)).grownBy w' (Value.slice (some ⟨w.heap.size, 0, none⟩) 0 0).ownBlock) : Below w.heap.size w w' :=
  ((Below.refl _ w).alloc (Nat.le_refl _) _).grown g (by simp) (fun b e => by simp [Value.ownBlock] at e; omega)
theorem own_ne {w : World} {base : Nat} {e u : TypeId} {size : Nat} {v : Value} {n b : Nat} {xs : List Value} {c : Array Value} (h : w.ownsRow base e size v n xs) (hb : w.heap[b]? = some (.cells c u (0, 0))) (q : u ≠ e) : some b ≠ v.ownBlock := by
  rcases h.2 with ⟨rfl, -⟩ | ⟨f, cap, cur, rfl, -, h3, -⟩
  · simp [Value.ownBlock]
  · intro k
    obtain rfl : b = f := by simpa [Value.ownBlock] using k
    rw [h3] at hb
    simp only [Option.some.injEq, Obj.cells.injEq] at hb
    exact q hb.2.1.symm
theorem new22 {w : World} {c : List Value} {t : TypeId} : ∀ j u, c[j]? = some u → (w.alloc (.cells c.toArray t)).cell? ((⟨w.heap.size, 0, none⟩ : Addr).add j) = some u := by
  intro j u hu
  rw [Addr.add_lit, Nat.zero_add, (cells_at (heap_alloc_new w (.cells c.toArray t))).1]
  simpa using hu
theorem CRow.add {w w' : World} {base : Nat} {v v' : Value} {i : Nat} {O : Nat → Nat → Int} {Z B : Nat → List Int} {wa ba : Option Addr} {lw cw lb cb : Nat} (h : CRow w base v i O Z B) (g : w.grownBy w' v.ownBlock) (h12 : O i 12 = (lw : Int)) (h13 : O i 13 = (lb : Int))
    (hz : Own .i16 86 w base (.slice wa lw cw) (Z i)) (hb : Own .i32 21 w base (.slice ba lb cb) (B i)) (r1 : lw * 2 ≤ 140737488351232) (r2 : lb * 4 ≤ 140737488351232) (xs : List Value) (hxs : w.ownsRow base 49 22 v i xs) (hall : ∀ q, q < i → COp w base xs q (O q) (Z q) (B q))
    (hown : w'.ownsRow base 49 22 v' (i + 1) (xs ++ opl (O i) wa lw cw ba lb cb)) : CRow w' base v' (i + 1) O Z B := by
  have ty : ∀ b, v.ownBlock = some b → ∃ c, w.heap[b]? = some (.cells c 49 (0, 0)) := fun b hb => by
    rcases hxs.2 with ⟨rfl, -⟩ | ⟨f, cap, cur, rfl, -, h3, -⟩
    · simp [Value.ownBlock] at hb
    · obtain rfl : f = b := by simpa [Value.ownBlock] using hb
      exact ⟨cur, h3⟩
  have ne : ∀ T, T ≠ 49 → ∀ b, v.ownBlock = some b → ∀ c, w.heap[b]? ≠ some (.cells c T (0, 0)) := fun T hT b hb c e => by
    obtain ⟨d, hd⟩ := ty b hb
    rw [hd] at e
    simp only [Option.some.injEq, Obj.cells.injEq] at e
    exact hT e.2.1.symm
  refine ⟨_, hown, fun q hq => ?_⟩
  by_cases e : q = i
  · subst e
    refine ⟨wa, lw, cw, ba, lb, cb, h12, h13, fun j u hj => ?_, hz.grown g (ne _ (by decide)), hb.grown g (ne _ (by decide)), r1, r2⟩
    rw [List.getElem?_append_right (by rw [hxs.1]; omega), hxs.1, show q * 22 + j - q * 22 = j by omega]
    exact hj
  · exact (hall q (by omega)).grown g ty
set_option maxHeartbeats 4000000 in
set_option maxRecDepth 100000 in
theorem copy_any (h w c lo hi ot : Int) (oa : Option Addr) (on oc : Nat) (O : Nat → Nat → Int) (Z B : Nat → List Int) (W : World) (hL : LRow W oa on oc O Z B) (hr : on * 208 ≤ 140737488351232) :
    Calls Tryz.prog 5 #[.agg #[.int .i64 h, .int .i64 w, .int .i64 c, .int .i64 lo, .int .i64 hi, .slice oa on oc, .int .i64 ot]] W fun e w' => ∃ oa' oc', e = .returned (.agg #[.int .i64 h, .int .i64 w, .int .i64 c, .int .i64 lo, .int .i64 hi, .slice oa' on oc', .int .i64 ot]) ∧ LRow w' oa' on oc' O Z B ∧ Below W.heap.size W w' := by
  have hocc := hL.1
  have hocm := hL.2.1
  unfold maxLen at hocm
  have HL : Hid (LRow W oa on oc O Z B) := hL
  clear hL
  have s0 := ((St.start W).new (c := #[.int .i64 h, .int .i64 w, .int .i64 c, .int .i64 lo, .int .i64 hi, .slice oa on oc, .int .i64 ot]) (t := 26)).new (c := #[.int .i64 0, .int .i64 0, .int .i64 0, .int .i64 0, .int .i64 0, .slice none 0 0, .int .i64 0]) (t := 26)
  simp only [World.size_alloc] at s0
  have H0 : Hid (St W _ _) := s0
  clear s0
  go_enter Tryz.func5, Tryz.ntmps5
  go_wp2
  go_loopw [3, 9] (fun v i wr => ∃ (k : Nat), k ≤ on ∧ i = .int .i64 k ∧ CRow wr W.heap.size v k O Z B ∧ St W wr [(W.heap.size + 1, #[.int .i64 0, .int .i64 0, .int .i64 0, .int .i64 0, .int .i64 0, .slice none 0 0, .int .i64 0], 26), (W.heap.size, #[.int .i64 h, .int .i64 w, .int .i64 c, .int .i64 lo, .int .i64 hi, .slice oa on oc, .int .i64 ot], 26)]) (fun _ i _ => on - (intOf i).toNat)
  case atStart => exact ⟨0, Nat.zero_le _, rfl, CRow.nil _ _ _ _ _, H0.out⟩
  case round =>
    obtain ⟨i, hi0, rfl, hC, sr⟩ := hrel
    obtain ⟨va, vc, rfl⟩ := hC.slice
    obtain ⟨c1, f1, zr1, c2, f2, zr2, -⟩ := sr.rules
    by_cases hlt : i < on
    rotate_left
    · obtain rfl : i = on := by omega
      have HC : Hid (CRow wr W.heap.size (.slice va i vc) i O Z B) := hC
      have Hs : Hid (St W wr _) := sr
      clear sr hC
      go_wp2
      refine bodyPost_ret (v := .agg #[.int .i64 h, .int .i64 w, .int .i64 c, .int .i64 lo, .int .i64 hi, .slice va i vc, .int .i64 ot]) (by simp [results, Tryz.results5, go_sem, *]) rfl ⟨va, vc, rfl, (HC.out.other ?_).l, ?_⟩
      · intro g cc t ht hg
        have ng1 : g ≠ W.heap.size := ne_of_ty hg Hs.out.h2 ht
        have ng2 : g ≠ W.heap.size + 1 := ne_of_ty hg Hs.out.h1 ht
        have e1 : ∀ (w : World) (i : Nat) (v : Value), (w.setCell ⟨W.heap.size, i, none⟩ v).heap[g]? = w.heap[g]? := fun w i v => Below.heap_setCell w ⟨W.heap.size, i, none⟩ v g ng1
        have e2 : ∀ (w : World) (i : Nat) (v : Value), (w.setCell ⟨W.heap.size + 1, i, none⟩ v).heap[g]? = w.heap[g]? := fun w i v => Below.heap_setCell w ⟨W.heap.size + 1, i, none⟩ v g ng2
        simp only [e1, e2]
        exact hg
      · repeat refine Below.setCell (p := ⟨_, _, none⟩) ?_ (by simp) _
        exact Hs.out.below
    · obtain ⟨x, rfl, wa, lw, cw, ba, lb, cb, e12, e13, hcell, hz, hbz, rz, rb⟩ := (HL.out.below sr.below).at hlt
      have hcell' : Hid (∀ q v, [.int .i64 (O i 0), .int .i64 (O i 1), .int .i64 (O i 2), .int .i64 (O i 3), .int .i64 (O i 4), .int .i64 (O i 5), .int .i64 (O i 6), .int .i64 (O i 7), .int .i64 (O i 8), .int .i64 (O i 9), .int .i64 (O i 10), .int .i64 (O i 11), .slice wa lw cw, .slice ba lb cb, .int .i64 (O i 14), .int .i64 (O i 15), .int .i64 (O i 16), .int .i64 (O i 17), .int .i64 (O i 18), .int .i64 (O i 19), .int .i64 (O i 20), .int .i64 (O i 21)][q]? = some v → wr.cell? ((x.add (i * 22)).add q) = some v) := hcell
      have sb := sr.new (c := #[.int .i64 (O i 0), .int .i64 (O i 1), .int .i64 (O i 2), .int .i64 (O i 3), .int .i64 (O i 4), .int .i64 (O i 5), .int .i64 (O i 6), .int .i64 (O i 7), .int .i64 (O i 8), .int .i64 (O i 9), .int .i64 (O i 10), .int .i64 (O i 11), .slice wa lw cw, .slice ba lb cb, .int .i64 (O i 14), .int .i64 (O i 15), .int .i64 (O i 16), .int .i64 (O i 17), .int .i64 (O i 18), .int .i64 (O i 19), .int .i64 (O i 20), .int .i64 (O i 21)]) (t := 49)
      have HZ : Hid (IRow .i16 wr wa lw cw (Z i)) := hz
      have HB : Hid (IRow .i32 wr ba lb cb (B i)) := hbz
      have HC : Hid (CRow wr W.heap.size (.slice va i vc) i O Z B) := hC
      have D0 := bal wr (.cells #[.int .i64 (O i 0), .int .i64 (O i 1), .int .i64 (O i 2), .int .i64 (O i 3), .int .i64 (O i 4), .int .i64 (O i 5), .int .i64 (O i 6), .int .i64 (O i 7), .int .i64 (O i 8), .int .i64 (O i 9), .int .i64 (O i 10), .int .i64 (O i 11), .slice wa lw cw, .slice ba lb cb, .int .i64 (O i 14), .int .i64 (O i 15), .int .i64 (O i 16), .int .i64 (O i 17), .int .i64 (O i 18), .int .i64 (O i 19), .int .i64 (O i 20), .int .i64 (O i 21)] 49)
      clear hcell hz hbz hC H0
      go_upto_region 4 with fail
      go_upto_region 5 with (first
        | (refine wpList_load_any rfl 49 (.tmp 11) rfl _ rfl [.int .i64 (O i 0), .int .i64 (O i 1), .int .i64 (O i 2), .int .i64 (O i 3), .int .i64 (O i 4), .int .i64 (O i 5), .int .i64 (O i 6), .int .i64 (O i 7), .int .i64 (O i 8), .int .i64 (O i 9), .int .i64 (O i 10), .int .i64 (O i 11), .slice wa lw cw, .slice ba lb cb, .int .i64 (O i 14), .int .i64 (O i 15), .int .i64 (O i 16), .int .i64 (O i 17), .int .i64 (O i 18), .int .i64 (O i 19), .int .i64 (O i 20), .int .i64 (O i 21)] _ hcell'.out Tryz.underlying49 rfl (by kernel_rfl) ?_)
        | (refine wpList_st_new rfl 49 (.tmp 5) (.tmp 12) rfl wr _ #[.int .i64 (O i 0), .int .i64 (O i 1), .int .i64 (O i 2), .int .i64 (O i 3), .int .i64 (O i 4), .int .i64 (O i 5), .int .i64 (O i 6), .int .i64 (O i 7), .int .i64 (O i 8), .int .i64 (O i 9), .int .i64 (O i 10), .int .i64 (O i 11), .slice wa lw cw, .slice ba lb cb, .int .i64 (O i 14), .int .i64 (O i 15), .int .i64 (O i 16), .int .i64 (O i 17), .int .i64 (O i 18), .int .i64 (O i 19), .int .i64 (O i 20), .int .i64 (O i 21)] rfl rfl (by kernel_rfl) rfl (by simp [Value.oneCell']) ?_))
      obtain ⟨wb, hwb⟩ : ∃ wb, wr.alloc (.cells #[.int .i64 (O i 0), .int .i64 (O i 1), .int .i64 (O i 2), .int .i64 (O i 3), .int .i64 (O i 4), .int .i64 (O i 5), .int .i64 (O i 6), .int .i64 (O i 7), .int .i64 (O i 8), .int .i64 (O i 9), .int .i64 (O i 10), .int .i64 (O i 11), .slice wa lw cw, .slice ba lb cb, .int .i64 (O i 14), .int .i64 (O i 15), .int .i64 (O i 16), .int .i64 (O i 17), .int .i64 (O i 18), .int .i64 (O i 19), .int .i64 (O i 20), .int .i64 (O i 21)] 49) = wb := ⟨_, rfl⟩
      rw [hwb] at sb D0 ⊢
      clear hwb hcell' c1 f1 c2 f2
      obtain ⟨c1, f1, zb1, c2, f2, zb2, c3, f3, zb3, -⟩ := sb.rules
      go_upto_region 6 with (at_builtin; refine wpList_appB kt_i16 rfl (.tmp 13) (.tmp 15) rfl W.heap.size (.slice (some ⟨wb.heap.size, 0, none⟩) 0 0) (Z i) rfl (lit0 wb W.heap.size (by omega)) wa lw cw rfl ((HZ.out.below D0).below (bal _ _)) rz (by simp; omega) ?_; intro v1 w5 hO1 hg; obtain ⟨wa', cw', rfl⟩ := hO1.len2 HZ.out.1; have s5 := sb.call (app_below hg); have D1 := bt D0 (app_below hg); clear hg sb D0 c1 f1 c2 f2 c3 f3; obtain ⟨c1, f1, zc1, c2, f2, zc2, c3, f3, zc3, -⟩ := s5.rules)
      have s6 := s5.seti (i := 12) (v := .slice wa' lw cw') (by simp; omega) #[.int .i64 (O i 0), .int .i64 (O i 1), .int .i64 (O i 2), .int .i64 (O i 3), .int .i64 (O i 4), .int .i64 (O i 5), .int .i64 (O i 6), .int .i64 (O i 7), .int .i64 (O i 8), .int .i64 (O i 9), .int .i64 (O i 10), .int .i64 (O i 11), .slice wa' lw cw', .slice ba lb cb, .int .i64 (O i 14), .int .i64 (O i 15), .int .i64 (O i 16), .int .i64 (O i 17), .int .i64 (O i 18), .int .i64 (O i 19), .int .i64 (O i 20), .int .i64 (O i 21)] (by simp)
      have D2 := D1.setCell (p := ⟨wr.heap.size, 12, none⟩) (Nat.le_refl _) (.slice wa' lw cw')
      have hO2 := hO1.grown (grown_set w5 wr.heap.size 12 (.slice wa' lw cw')) (fun b e cc => by cases e; rw [s5.h1]; simp)
      obtain ⟨w6, hw6⟩ : ∃ w6, w5.setCell ⟨wr.heap.size, 12, none⟩ (.slice wa' lw cw') = w6 := ⟨_, rfl⟩
      rw [hw6] at s6 D2 hO2 ⊢
      clear hw6 hO1 D1 s5 c1 f1 c2 f2 c3 f3
      obtain ⟨c1, f1, zd1, c2, f2, zd2, c3, f3, zd3, -⟩ := s6.rules
      go_upto_region 7 with (at_builtin; refine wpList_appB kt_i32 rfl (.tmp 18) (.tmp 20) rfl W.heap.size (.slice (some ⟨w6.heap.size, 0, none⟩) 0 0) (B i) rfl (lit0 w6 W.heap.size (by omega)) ba lb cb rfl ((HB.out.below D2).below (bal _ _)) rb (by simp; omega) ?_; intro v1 w7 hO3 hg; obtain ⟨ba', cb', rfl⟩ := hO3.len2 HB.out.1; have s7 := s6.call (app_below hg); have D3 := bt D2 (app_below hg); have hO4 := hO2.below (app_below hg); clear hg s6 D2 hO2 c1 f1 c2 f2 c3 f3; obtain ⟨c1, f1, ze1, c2, f2, ze2, c3, f3, ze3, -⟩ := s7.rules)
      have s8 := s7.seti (i := 13) (v := .slice ba' lb cb') (by simp; omega) #[.int .i64 (O i 0), .int .i64 (O i 1), .int .i64 (O i 2), .int .i64 (O i 3), .int .i64 (O i 4), .int .i64 (O i 5), .int .i64 (O i 6), .int .i64 (O i 7), .int .i64 (O i 8), .int .i64 (O i 9), .int .i64 (O i 10), .int .i64 (O i 11), .slice wa' lw cw', .slice ba' lb cb', .int .i64 (O i 14), .int .i64 (O i 15), .int .i64 (O i 16), .int .i64 (O i 17), .int .i64 (O i 18), .int .i64 (O i 19), .int .i64 (O i 20), .int .i64 (O i 21)] (by simp)
      have D4 := D3.setCell (p := ⟨wr.heap.size, 13, none⟩) (Nat.le_refl _) (.slice ba' lb cb')
      have hO5 := hO3.grown (grown_set w7 wr.heap.size 13 (.slice ba' lb cb')) (fun b e cc => by cases e; rw [s7.h1]; simp)
      have hO6 := hO4.grown (grown_set w7 wr.heap.size 13 (.slice ba' lb cb')) (fun b e cc => by cases e; rw [s7.h1]; simp)
      obtain ⟨w8, hw8⟩ : ∃ w8, w7.setCell ⟨wr.heap.size, 13, none⟩ (.slice ba' lb cb') = w8 := ⟨_, rfl⟩
      rw [hw8] at s8 D4 hO5 hO6 ⊢
      clear hw8 hO3 hO4 D3 s7 c1 f1 c2 f2 c3 f3
      have zw8 := s8.size
      have s9 := s8.new (c := #[.int .i64 (O i 0), .int .i64 (O i 1), .int .i64 (O i 2), .int .i64 (O i 3), .int .i64 (O i 4), .int .i64 (O i 5), .int .i64 (O i 6), .int .i64 (O i 7), .int .i64 (O i 8), .int .i64 (O i 9), .int .i64 (O i 10), .int .i64 (O i 11), .slice wa' lw cw', .slice ba' lb cb', .int .i64 (O i 14), .int .i64 (O i 15), .int .i64 (O i 16), .int .i64 (O i 17), .int .i64 (O i 18), .int .i64 (O i 19), .int .i64 (O i 20), .int .i64 (O i 21)]) (t := 49)
      obtain ⟨xs, hxs, hall⟩ := (HC.out.below D4).below (bal w8 (.cells #[.int .i64 (O i 0), .int .i64 (O i 1), .int .i64 (O i 2), .int .i64 (O i 3), .int .i64 (O i 4), .int .i64 (O i 5), .int .i64 (O i 6), .int .i64 (O i 7), .int .i64 (O i 8), .int .i64 (O i 9), .int .i64 (O i 10), .int .i64 (O i 11), .slice wa' lw cw', .slice ba' lb cb', .int .i64 (O i 14), .int .i64 (O i 15), .int .i64 (O i 16), .int .i64 (O i 17), .int .i64 (O i 18), .int .i64 (O i 19), .int .i64 (O i 20), .int .i64 (O i 21)] 49))
      have HX : Hid (World.ownsRow _ _ _ _ _ _ _) := hxs
      have HA : Hid (∀ q, q < i → _) := hall
      have H5 : Hid (Own .i32 _ _ _ _ _) := hO5.below (bal w8 (.cells #[.int .i64 (O i 0), .int .i64 (O i 1), .int .i64 (O i 2), .int .i64 (O i 3), .int .i64 (O i 4), .int .i64 (O i 5), .int .i64 (O i 6), .int .i64 (O i 7), .int .i64 (O i 8), .int .i64 (O i 9), .int .i64 (O i 10), .int .i64 (O i 11), .slice wa' lw cw', .slice ba' lb cb', .int .i64 (O i 14), .int .i64 (O i 15), .int .i64 (O i 16), .int .i64 (O i 17), .int .i64 (O i 18), .int .i64 (O i 19), .int .i64 (O i 20), .int .i64 (O i 21)] 49))
      have H6 : Hid (Own .i16 _ _ _ _ _) := hO6.below (bal w8 (.cells #[.int .i64 (O i 0), .int .i64 (O i 1), .int .i64 (O i 2), .int .i64 (O i 3), .int .i64 (O i 4), .int .i64 (O i 5), .int .i64 (O i 6), .int .i64 (O i 7), .int .i64 (O i 8), .int .i64 (O i 9), .int .i64 (O i 10), .int .i64 (O i 11), .slice wa' lw cw', .slice ba' lb cb', .int .i64 (O i 14), .int .i64 (O i 15), .int .i64 (O i 16), .int .i64 (O i 17), .int .i64 (O i 18), .int .i64 (O i 19), .int .i64 (O i 20), .int .i64 (O i 21)] 49))
      have HCC : Hid (CRow _ _ _ _ _ _ _) := (HC.out.below D4).below (bal w8 (.cells #[.int .i64 (O i 0), .int .i64 (O i 1), .int .i64 (O i 2), .int .i64 (O i 3), .int .i64 (O i 4), .int .i64 (O i 5), .int .i64 (O i 6), .int .i64 (O i 7), .int .i64 (O i 8), .int .i64 (O i 9), .int .i64 (O i 10), .int .i64 (O i 11), .slice wa' lw cw', .slice ba' lb cb', .int .i64 (O i 14), .int .i64 (O i 15), .int .i64 (O i 16), .int .i64 (O i 17), .int .i64 (O i 18), .int .i64 (O i 19), .int .i64 (O i 20), .int .i64 (O i 21)] 49))
      have H12 : Hid (O i 12 = (lw : Int)) := e12
      have H13 : Hid (O i 13 = (lb : Int)) := e13
      obtain ⟨i0, hi1, hz0, hz1, hz2⟩ := info_parts (show (Tryz.prog.info? 49).map (fun i => (i.zero, i.size, i.bytes)) = some (some (.agg #[.int .i64 0, .int .i64 0, .int .i64 0, .int .i64 0, .int .i64 0, .int .i64 0, .int .i64 0, .int .i64 0, .int .i64 0, .int .i64 0, .int .i64 0, .int .i64 0, .slice none 0 0, .slice none 0 0, .int .i64 0, .int .i64 0, .int .i64 0, .int .i64 0, .int .i64 0, .int .i64 0, .int .i64 0, .int .i64 0]), 22, 208) by kernel_rfl)
      clear hO5 hO6 hxs hall e12 e13 HZ HB
      go_upto_region 8 with (first
        | (refine wpList_load_row rfl 49 (.tmp 5) rfl _ rfl 49 _ (0, 0) _ s8.h1 Tryz.underlying49 rfl (by kernel_rfl) ?_)
        | (at_builtin; refine wpList_append_own _ rfl (.tmp 23) (.tmp 25) 24 rfl W.heap.size 49 i0 _ 22 208 Tryz.underlying24 hi1 hz0 hz1 hz2 rfl (by decide) (.slice va i vc) i xs rfl HX.out ⟨w8.heap.size, 0, none⟩ 1 1 (opl (O i) wa' lw cw' ba' lb cb') rfl rfl new22 (opl_one _ _ _ _ _ _ _) (by unfold maxLen; omega) (by omega) (by simp; omega) ?_; intro v2 w9 hown hgr hnn; have hC2 := HCC.out.add hgr H12.out H13.out H6.out H5.out rz rb xs HX.out HA.out hown; have s10 := s9.tail.tail.grown hgr (fun b e => (HX.out.lt b e).1) (fun y hy => by simp only [List.mem_cons, List.not_mem_nil, or_false] at hy; rcases hy with rfl | rfl; exact own_ne HX.out s9.h3 (by decide); exact own_ne HX.out s9.h4 (by decide)); obtain ⟨va2, vc2, rfl⟩ := hC2.slice; clear hown hgr hnn s9))
      have HC2 : Hid (CRow w9 W.heap.size (.slice va2 (i + 1) vc2) (i + 1) O Z B) := hC2
      have Hs10 : Hid (St W w9 _) := s10
      clear hC2 s10
      go_wp2
      go_round
      case rel => exact ⟨i + 1, by omega, by go_num, HC2.out, Hs10.out⟩
      case measure => simp [intOf]; omega
end Go.Proofs.YtmcdpbnpnifdfaaGreat

/- plain and fixed of law08. -/
namespace Go.Proofs.YtmcdpbnpnifdfaaGreat
open Go.ChangeShapes Go.WideShapes Go.ChangeAt Go.RowKit
set_option linter.unusedVariables false
/-- The op of the plain model, its A being 'aa'. -/
def plO (aa : Int) (_ : Nat) (j : Nat) : Int := [1, aa, 0, 1, 0, 0, 0, 0, 0, 0, 0, 0, 2, 1, 1, 0, 0, 0, 0, 0, -128, 127].getD j 0
theorem pl_0 : gtR (plO 0) 1 1 2 (-128) 127 1 1 = (0, 0, [(1, 1, 2), (1, 1, 1)], 2) := by decide
theorem pl_1 : gtR (plO 1) 1 1 2 (-128) 127 1 1 = (82, 1, [], 0) := by decide
end Go.Proofs.YtmcdpbnpnifdfaaGreat

/- fixed of law08. -/
namespace Go.Proofs.YtmcdpbnpnifdfaaGreat
open Go.ChangeShapes Go.WideShapes Go.ChangeAt Go.RowKit
set_option linter.unusedVariables false
theorem pl_row {w : World} {g p q : Nat} {aa : Int} (h : w.heap[g]? = some (.cells #[.int .i64 1, .int .i64 aa, .int .i64 0, .int .i64 1, .int .i64 0, .int .i64 0, .int .i64 0, .int .i64 0, .int .i64 0, .int .i64 0, .int .i64 0, .int .i64 0, .slice (some ⟨p, 0, none⟩) 2 2, .slice (some ⟨q, 0, none⟩) 1 1, .int .i64 1, .int .i64 0, .int .i64 0, .int .i64 0, .int .i64 0, .int .i64 0, .int .i64 (-128), .int .i64 127] 49 (0, 0))) : MRow w (some ⟨g, 0, none⟩) 1 1 (plO aa) := by
  refine ⟨Nat.le_refl _, by unfold maxLen; omega, fun h => (by cases h), fun x hx i hi => ⟨some ⟨p, 0, none⟩, 2, 2, some ⟨q, 0, none⟩, 1, 1, rfl, rfl, fun j v hj => ?_⟩⟩
  cases hx
  obtain rfl : i = 0 := by omega
  rw [Addr.add_lit, (cells_at h).1, Nat.zero_mul, Nat.zero_add, Nat.zero_add]
  rw [← hj]
  simp [opl, plO]
theorem St.up4 {w0 w : World} {a b c d e : Nat × Array Value × TypeId} {l : List (Nat × Array Value × TypeId)} (h : St w0 w (a :: b :: c :: d :: e :: l)) : St w0 w (e :: a :: b :: c :: d :: l) :=
  h.sub fun z hz => by simp only [List.mem_cons] at *; rcases hz with h | h | h | h | h | h <;> simp [h]
theorem St.add {w0 w : World} {B : Nat} {c : Array Value} {t : TypeId} {l : List (Nat × Array Value × TypeId)} (h : St w0 w l) (hb : w.heap[B]? = some (.cells c t (0, 0))) (hB : w0.heap.size ≤ B) : St w0 w ((B, c, t) :: l) :=
  ⟨h.1, fun x hx => by
    rcases List.mem_cons.1 hx with rfl | hx
    · exact ⟨hb, hB⟩
    · exact h.2 x hx⟩
end Go.Proofs.YtmcdpbnpnifdfaaGreat
