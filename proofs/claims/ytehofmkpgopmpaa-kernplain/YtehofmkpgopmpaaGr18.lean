/- same and front of law08: what each returns. The document's Copy of layer 8: what it returns. plain and fixed of law08. fixed of law08. The document's Look of layer 8: what it returns. -/
import Derived.Test.YtehofmkpgopmpaaGr08
import Derived.Test.YtehofmkpgopmpaaGr12
import Derived.Test.YtehofmkpgopmpaaGr13
import Derived.Test.YtehofmkpgopmpaaGr17
import Derived.BigQuiet
import Derived.Laws.AppendOwnNone
/- same and front of law08: what each returns. -/
namespace Go.Proofs.Ytehofmkpgopmpaa
open Go.ChangeShapes Go.WideShapes Go.ChangeAt Go.RowKit
set_option linter.unusedVariables false
/-- A slice of shapes. -/
def SV (w : World) (v : Value) (L : List (Int × Int × Int)) : Prop :=
  ∃ a cap, v = .slice a L.length cap ∧ L.length ≤ cap ∧ cap ≤ maxLen ∧ (0 < L.length → ∃ g, a = some ⟨g, 0, none⟩ ∧ ∀ i, i < L.length →
    w.cell? ⟨g, i * 3, none⟩ = some (.int .i64 (L.getD i (0, 0, 0)).1) ∧ w.cell? ⟨g, i * 3 + 1, none⟩ = some (.int .i64 (L.getD i (0, 0, 0)).2.1) ∧ w.cell? ⟨g, i * 3 + 2, none⟩ = some (.int .i64 (L.getD i (0, 0, 0)).2.2))
theorem SV.below {w w' : World} {v : Value} {L : List (Int × Int × Int)} (h : SV w v L) (q : Below w.heap.size w w') : SV w' v L := by
  obtain ⟨a, cap, h1, h2, h3, h4⟩ := h
  refine ⟨a, cap, h1, h2, h3, fun h0 => ?_⟩
  obtain ⟨g, e, hc⟩ := h4 h0
  refine ⟨g, e, fun i hi => ?_⟩
  obtain ⟨c1, c2, c3⟩ := hc i hi
  exact ⟨(q.cell (World.block_lt_of_cell? w _ c1)).trans c1, (q.cell (World.block_lt_of_cell? w _ c2)).trans c2, (q.cell (World.block_lt_of_cell? w _ c3)).trans c3⟩
theorem sv_cu {w : World} {g cap : Nat} {cur : Array Value} {T : TypeId} {L M : List (Int × Int × Int)} (h : w.heap[g]? = some (.cells cur T (0, 0))) (hC : Cu cur cap L) (hm : cap ≤ maxLen) (n : Nat) (hn : n ≤ L.length) (hM : M = L.take n) : SV w (.slice (some ⟨g, 0, none⟩) n cap) M := by
  have hl : M.length = n := by rw [hM, List.length_take]; omega
  have hc := hC.2.1
  refine ⟨some ⟨g, 0, none⟩, cap, by rw [hl], by omega, hm, fun _ => ⟨g, rfl, fun i hi => ?_⟩⟩
  obtain ⟨a1, a2, a3⟩ := hC.at (i := i) (by omega)
  have e : M.getD i (0, 0, 0) = L.getD i (0, 0, 0) := by rw [hM]; simp [List.getD, show i < n by omega]
  rw [e]
  simp only [(cells_at h).1]
  exact ⟨a1, a2, a3⟩
theorem Shp.sv {w : World} {base : Nat} {v : Value} {L : List (Int × Int × Int)} (h : Shp w base v L) : SV w v L := by
  rcases h with ⟨rfl, rfl⟩ | ⟨g, cap, cur, rfl, h2, h3, h4, h5⟩
  · exact ⟨none, 0, rfl, Nat.le_refl _, by unfold maxLen; omega, fun h => by cases h⟩
  · exact sv_cu h3 h4 (by unfold maxLen; omega) L.length (Nat.le_refl _) (by simp)
theorem l3_step {xs ys : List (Int × Int × Int)} {k : Nat} {c d : Int × Int × Int} (kx : xs.getD k (0, 0, 0) = c) (ky : ys.getD k (0, 0, 0) = d) (hx : k < xs.length) (hy : k < ys.length) (he : xs.take k = ys.take k) : (c = d → xs.take (k + 1) = ys.take (k + 1)) ∧ (c ≠ d → decide (xs = ys) = false) := by
  rw [List.getD_eq_getElem?_getD, List.getElem?_eq_getElem hx, Option.getD_some] at kx
  rw [List.getD_eq_getElem?_getD, List.getElem?_eq_getElem hy, Option.getD_some] at ky
  constructor
  · intro h
    rw [List.take_add_one, List.take_add_one, he, List.getElem?_eq_getElem hx, List.getElem?_eq_getElem hy, kx, ky, h]
  · intro h
    refine decide_eq_false fun e => h ?_
    subst e
    rw [← kx, ← ky]
theorem l3_end {xs ys : List (Int × Int × Int)} {k n : Nat} (hx : xs.length = n) (hy : ys.length = n) (hk : n ≤ k) (he : xs.take k = ys.take k) : decide (xs = ys) = true := by
  rw [List.take_of_length_le (by omega), List.take_of_length_le (by omega)] at he
  exact decide_eq_true he
theorem retb {a b : Bool} (h : a = b) : Ending.returned (.bool a) = .returned (.bool b) := by rw [h]
/-! ### front -/
/-- The cells that lie there. -/
def mc (w : World) (x : Addr) (n : Nat) : List Value := (List.range n).map fun q => (w.cell? (x.add q)).getD (.bool false)
theorem mc_len (w : World) (x : Addr) (n : Nat) : (mc w x n).length = n := by simp [mc]
theorem mc_at {w : World} {x : Addr} {n q : Nat} {v : Value} (h : q < n) (hc : w.cell? (x.add q) = some v) : (mc w x n)[q]? = some v := by simp [mc, h, hc]
theorem opl_len (o : Nat → Int) (wa : Option Addr) (lw cw : Nat) (ba : Option Addr) (lb cb : Nat) : (opl o wa lw cw ba lb cb).length = 22 := rfl
theorem opl_one (o : Nat → Int) (wa : Option Addr) (lw cw : Nat) (ba : Option Addr) (lb cb : Nat) : ∀ v ∈ opl o wa lw cw ba lb cb, v.oneCell' = true := by simp [opl, Value.oneCell']
theorem MRow.cell {w : World} {x : Addr} {on oc : Nat} {O : Nat → Nat → Int} (h : MRow w (some x) on oc O) {q : Nat} (hq : q < on * 22) : ∃ v, w.cell? (x.add q) = some v ∧ v.oneCell' = true := by
  obtain ⟨wa, lw, cw, ba, lb, cb, -, -, h3⟩ := h.2.2.2 x rfl (q / 22) (by omega)
  have hj : q % 22 < (opl (O (q / 22)) wa lw cw ba lb cb).length := by rw [opl_len]; omega
  have := h3 (q % 22) _ (List.getElem?_eq_getElem hj)
  rw [show q / 22 * 22 + q % 22 = q by omega] at this
  exact ⟨_, this, opl_one _ _ _ _ _ _ _ _ (List.getElem_mem hj)⟩
theorem mc_of {w : World} {x : Addr} {on oc k : Nat} {O : Nat → Nat → Int} (h : MRow w (some x) on oc O) (hk : k ≤ on) : (∀ j u, (mc w x (k * 22))[j]? = some u → w.cell? (x.add j) = some u) ∧ ∀ u ∈ mc w x (k * 22), u.oneCell' = true := by
  constructor
  · intro j u hj
    have hj' : j < k * 22 := by have := (List.getElem?_eq_some_iff.1 hj).1; rwa [mc_len] at this
    obtain ⟨v, hv, -⟩ := h.cell (q := j) (by omega)
    rw [mc_at hj' hv] at hj
    rw [hv, hj]
  · intro u hu
    obtain ⟨j, hj⟩ := List.getElem?_of_mem hu
    have hj' : j < k * 22 := by have := (List.getElem?_eq_some_iff.1 hj).1; rwa [mc_len] at this
    obtain ⟨v, hv, h1⟩ := h.cell (q := j) (by omega)
    rw [mc_at hj' hv] at hj
    cases hj
    exact h1
theorem mrow_copy {w w' : World} {x : Addr} {on oc k base : Nat} {v : Value} {O : Nat → Nat → Int} (h : MRow w (some x) on oc O) (hk : k ≤ on) (hown : w'.ownsRow base 48 22 v k (mc w x (k * 22))) (hv : v ≠ .slice none 0 0) :
    ∃ g cap cur, v = .slice (some ⟨g, 0, none⟩) k cap ∧ base ≤ g ∧ w'.heap[g]? = some (.cells cur 48 (0, 0)) ∧ MRow w' (some ⟨g, 0, none⟩) k cap O := by
  rcases hown.2 with ⟨h0, -⟩ | ⟨g, cap, cur, h1, h2, h3, h4, h5, h6, h7⟩
  · exact absurd h0 hv
  · refine ⟨g, cap, cur, h1, h2, h3, h4, h5, fun q => (by cases q), fun y hy i hi => ?_⟩
    cases hy
    obtain ⟨wa, lw, cw, ba, lb, cb, e1, e2, e3⟩ := h.2.2.2 x rfl i (by omega)
    refine ⟨wa, lw, cw, ba, lb, cb, e1, e2, fun j u hj => ?_⟩
    have hj' : j < 22 := (List.getElem?_eq_some_iff.1 hj).1
    exact hown.cells (by rw [h1]; rfl) _ _ (mc_at (by omega) (e3 j u hj))
theorem MRow.heap {w w' : World} {g k cap : Nat} {O : Nat → Nat → Int} (h : MRow w (some ⟨g, 0, none⟩) k cap O) (e : w'.heap[g]? = w.heap[g]?) : MRow w' (some ⟨g, 0, none⟩) k cap O :=
  ⟨h.1, h.2.1, h.2.2.1, fun x hx i hi => by
    obtain ⟨wa, lw, cw, ba, lb, cb, h1, h2, h3⟩ := h.2.2.2 x hx i hi
    exact ⟨wa, lw, cw, ba, lb, cb, h1, h2, fun j v hj => (World.cell?_of_block (by rw [add_block]; cases hx; exact e)).trans (h3 j v hj)⟩⟩
end Go.Proofs.Ytehofmkpgopmpaa

/- The document's Copy of layer 8: what it returns. -/
namespace Go.Proofs.Ytehofmkpgopmpaa
open Go.ChangeShapes Go.WideShapes Go.ChangeAt Go.RowKit
set_option linter.unusedVariables false
/-- 'append' to an empty list of the call's own, from whatever slice within the reach. -/
theorem wpList_appB {k : IntKind} {T S : TypeId} {by8 : Nat} (kt : KT k T S by8) {w : World} {ops : Array Oper} {rest : List Oper} {o : Oper} {a : Act} {Q : Exit → Act → World → Prop} (hgd : o.guard = none) (s x : Operand)
    (ho : o.op = .call { callee := .builtin .append, args := #[s, x], argTypes := #[S, S] })
    (base : Nat) (v : Value) (ys : List Int) (hs : a.eval s = v) (hown : Own k T w base v []) (ao : Option Addr) (m c : Nat) (hx : a.eval x = .slice ao m c) (hy : IRow k w ao m c ys)
    (hlen : m * by8 ≤ 140737488351232) (hbase : base ≤ w.heap.size)
    (h : ∀ v' w', Own k T w' base v' ys → w.grownBy w' v.ownBlock → wpList Try.prog ops Q rest (a.put o.dst v') w') : wpList Try.prog ops Q (o :: rest) a w := by
  obtain ⟨hu, hin, b1, b8⟩ := kt
  obtain ⟨i0, hi, hz0, hz1, hz2⟩ := info_parts hin
  obtain ⟨hl, hc, hm, hb, hn, hcell⟩ := hy
  have hm2 : m ≤ 140737488351232 := Nat.le_trans (Nat.le_mul_of_pos_right m (by omega)) hlen
  cases ao with
  | none =>
    obtain rfl : c = 0 := hn rfl
    obtain rfl : m = 0 := by omega
    obtain rfl : ys = [] := List.eq_nil_of_length_eq_zero hl
    refine wpList_append_own_none hgd s x _ ho base T i0 1 hu hi v 0 _ hs hown.1 hx ?_
    exact h v w hown ⟨rfl, rfl, rfl, Nat.le_refl _, fun _ _ _ => rfl⟩
  | some ad =>
    refine wpList_append_own _ hgd s x _ ho base T i0 (.int k 0) 1 by8 hu hi hz0 hz1 hz2 rfl (by omega) v 0 _ hs hown.1 ad m c (ys.map (Value.int k)) hx (by simp [hl]) ?_ (ints_oneCell _ _) ?_ ?_ hbase ?_
    · intro j u hj
      have hj' : j < m := by
        have := (List.getElem?_eq_some_iff.1 hj).1
        simpa [hl] using this
      rw [hcell ad rfl j hj']
      simp [List.getD, show j < ys.length by omega] at hj ⊢
      exact hj
    · unfold maxLen; omega
    · rw [Nat.zero_add]; omega
    · intro v' w' h1 h2 h3
      refine h v' w' ⟨?_, hb⟩ h2
      rw [Nat.zero_add] at h1
      rw [hl]
      exact h1
theorem Own.grown {k : IntKind} {T : TypeId} {w w' : World} {base : Nat} {v : Value} {zs : List Int} {row : Option Nat} (h : Own k T w base v zs) (q : w.grownBy w' row) (hne : ∀ b, row = some b → ∀ c, w.heap[b]? ≠ some (.cells c T (0, 0))) : Own k T w' base v zs := by
  refine ⟨h.1.kept q ?_, h.2⟩
  rcases h.shape with ⟨rfl, _⟩ | ⟨g, cap, rfl, -, -, -, -, ⟨cur, hc, -⟩, -⟩
  · exact .inl rfl
  · exact .inr (fun e => hne g e.symm cur hc)
theorem Own.irow {k : IntKind} {T : TypeId} {w : World} {base n cap : Nat} {a : Option Addr} {zs : List Int} (h : Own k T w base (.slice a n cap) zs) : IRow k w a n cap zs := by
  obtain ⟨a', c', e, r, -⟩ := h.row
  obtain rfl := h.len
  cases e
  exact r
/-- A copied op: its cells, its lists. -/
def COp (w : World) (base : Nat) (xs : List Value) (q : Nat) (o : Nat → Int) (z b : List Int) : Prop :=
  ∃ (wa : Option Addr) (lw cw : Nat) (ba : Option Addr) (lb cb : Nat), o 12 = (lw : Int) ∧ o 13 = (lb : Int) ∧ (∀ j u, (opl o wa lw cw ba lb cb)[j]? = some u → xs[q * 22 + j]? = some u) ∧ Own .i16 82 w base (.slice wa lw cw) z ∧ Own .i32 21 w base (.slice ba lb cb) b ∧ lw * 2 ≤ 140737488351232 ∧ lb * 4 ≤ 140737488351232
def CRow (w : World) (base : Nat) (v : Value) (i : Nat) (O : Nat → Nat → Int) (Z B : Nat → List Int) : Prop :=
  ∃ xs, w.ownsRow base 48 22 v i xs ∧ ∀ q, q < i → COp w base xs q (O q) (Z q) (B q)
theorem COp.grown {w w' : World} {base : Nat} {xs ys : List Value} {q : Nat} {o : Nat → Int} {z b : List Int} {row : Option Nat} (h : COp w base xs q o z b) (g : w.grownBy w' row) (hne : ∀ b, row = some b → ∃ c, w.heap[b]? = some (.cells c 48 (0, 0))) : COp w' base (xs ++ ys) q o z b := by
  obtain ⟨wa, lw, cw, ba, lb, cb, h1, h2, h3, h4, h5, h6⟩ := h
  have ne : ∀ T, T ≠ 48 → ∀ b, row = some b → ∀ c, w.heap[b]? ≠ some (.cells c T (0, 0)) := fun T hT b hb c e => by
    obtain ⟨d, hd⟩ := hne b hb
    rw [hd] at e
    simp only [Option.some.injEq, Obj.cells.injEq] at e
    exact hT e.2.1.symm
  exact ⟨wa, lw, cw, ba, lb, cb, h1, h2, fun j u hj => List.getElem?_append_left (List.getElem?_eq_some_iff.1 (h3 j u hj)).1 |>.trans (h3 j u hj), h4.grown g (ne _ (by decide)), h5.grown g (ne _ (by decide)), h6⟩
theorem COp.below {w w' : World} {base : Nat} {xs : List Value} {q : Nat} {o : Nat → Int} {z b : List Int} (h : COp w base xs q o z b) (g : Below w.heap.size w w') : COp w' base xs q o z b := by
  obtain ⟨wa, lw, cw, ba, lb, cb, h1, h2, h3, h4, h5, h6⟩ := h
  exact ⟨wa, lw, cw, ba, lb, cb, h1, h2, h3, h4.below g, h5.below g, h6⟩
theorem CRow.below {w w' : World} {base : Nat} {v : Value} {i : Nat} {O : Nat → Nat → Int} {Z B : Nat → List Int} (h : CRow w base v i O Z B) (g : Below w.heap.size w w') : CRow w' base v i O Z B := by
  obtain ⟨xs, h1, h2⟩ := h
  refine ⟨xs, h1.kept (row := none) ⟨g.os, g.tape, g.output, g.size, fun i hi _ => g.block i hi⟩ ?_, fun q hq => (h2 q hq).below g⟩
  cases e : v.ownBlock with
  | none => exact .inl rfl
  | some b => exact .inr (by simp)
theorem CRow.slice {w : World} {base : Nat} {v : Value} {i : Nat} {O : Nat → Nat → Int} {Z B : Nat → List Int} (h : CRow w base v i O Z B) : ∃ a cap, v = .slice a i cap := by
  obtain ⟨xs, h1, -⟩ := h
  rcases h1.2 with ⟨rfl, rfl⟩ | ⟨g, cap, cur, rfl, -⟩
  · exact ⟨_, _, rfl⟩
  · exact ⟨_, _, rfl⟩
theorem CRow.nil (w : World) (base : Nat) (O : Nat → Nat → Int) (Z B : Nat → List Int) : CRow w base (.slice none 0 0) 0 O Z B := ⟨[], World.ownsRow_nil _ _ _ _, fun q hq => by omega⟩
theorem CRow.l {w : World} {base i : Nat} {a : Option Addr} {cap : Nat} {O : Nat → Nat → Int} {Z B : Nat → List Int} (h : CRow w base (.slice a i cap) i O Z B) : LRow w a i cap O Z B := by
  obtain ⟨xs, h1, h2⟩ := h
  rcases h1.2 with ⟨e, e0⟩ | ⟨g, cap', cur, e, hb, hg, hn, hm, hs, ht⟩
  · cases e
    exact ⟨Nat.le_refl _, by unfold maxLen; omega, fun _ => rfl, fun x hx => by cases hx⟩
  · cases e
    refine ⟨hn, hm, fun q => (by cases q), fun x hx q hq => ?_⟩
    cases hx
    obtain ⟨wa, lw, cw, ba, lb, cb, e1, e2, e3, e4, e5, e6⟩ := h2 q hq
    exact ⟨wa, lw, cw, ba, lb, cb, e1, e2, fun j u hj => by rw [Addr.add_add]; exact h1.cells rfl _ _ (e3 j u hj), e4.irow, e5.irow, e6⟩
theorem St.seti {w0 w : World} {B i : Nat} {c : Array Value} {t : TypeId} {l : List (Nat × Array Value × TypeId)} {v : Value} (h : St w0 w ((B, c, t) :: l)) (hl : ∀ x ∈ l, x.1 ≠ B) (d : Array Value) (hd : c.setIfInBounds i v = d) :
    St w0 (w.setCell ⟨B, i, none⟩ v) ((B, d, t) :: l) := by subst hd; exact h.set hl
theorem CRow.other {w w' : World} {base : Nat} {v : Value} {i : Nat} {O : Nat → Nat → Int} {Z B : Nat → List Int} (h : CRow w base v i O Z B) (q : ∀ (g : Nat) (c : Array Value) (t : TypeId), t ≠ 26 → w.heap[g]? = some (.cells c t (0, 0)) → w'.heap[g]? = some (.cells c t (0, 0))) : CRow w' base v i O Z B := by
  obtain ⟨xs, h1, h2⟩ := h
  refine ⟨xs, owns_other h1 (fun g c => q g c _ (by decide)), fun r hr => ?_⟩
  obtain ⟨wa, lw, cw, ba, lb, cb, e1, e2, e3, e4, e5, e6⟩ := h2 r hr
  exact ⟨wa, lw, cw, ba, lb, cb, e1, e2, e3, ⟨owns_other e4.1 (fun g c => q g c _ (by decide)), e4.2⟩, ⟨owns_other e5.1 (fun g c => q g c _ (by decide)), e5.2⟩, e6⟩
theorem LRow.at {w : World} {oa : Option Addr} {on oc : Nat} {O : Nat → Nat → Int} {Z B : Nat → List Int} (h : LRow w oa on oc O Z B) {i : Nat} (hi : i < on) : ∃ x, oa = some x ∧ LOp w (x.add (i * 22)) (O i) (Z i) (B i) := by
  cases oa with
  | none => have := h.2.2.1 rfl; have := h.1; omega
  | some x => exact ⟨x, rfl, h.2.2.2 x rfl i hi⟩
theorem grown_set (w : World) (N i : Nat) (v : Value) : w.grownBy (w.setCell ⟨N, i, none⟩ v) (some N) := ⟨rfl, rfl, rfl, by simp, fun k _ hk => Below.heap_setCell w ⟨N, i, none⟩ v k (fun e => hk (by rw [e]))⟩
theorem lit0 {k : IntKind} {T : TypeId} (w : World) (base : Nat) (hb : base ≤ w.heap.size) : Own k T (w.alloc (.cells #[] T)) base (.slice (some ⟨w.heap.size, 0, none⟩) 0 0) [] := own_lit k T w base [] (Wf.nil _) (by unfold maxLen; simp) hb
theorem Own.len2 {k : IntKind} {T : TypeId} {w : World} {base n : Nat} {v : Value} {zs : List Int} (h : Own k T w base v zs) (hn : zs.length = n) : ∃ a cap, v = .slice a n cap := by
  obtain ⟨a, c, e, -⟩ := h.row
  exact ⟨a, c, by rw [e, hn]⟩
theorem new22 {w : World} {c : List Value} {t : TypeId} : ∀ j u, c[j]? = some u → (w.alloc (.cells c.toArray t)).cell? ((⟨w.heap.size, 0, none⟩ : Addr).add j) = some u := by
  intro j u hu
  rw [Addr.add_lit, Nat.zero_add, (cells_at (heap_alloc_new w (.cells c.toArray t))).1]
  simpa using hu
theorem CRow.add {w w' : World} {base : Nat} {v v' : Value} {i : Nat} {O : Nat → Nat → Int} {Z B : Nat → List Int} {wa ba : Option Addr} {lw cw lb cb : Nat} (h : CRow w base v i O Z B) (g : w.grownBy w' v.ownBlock) (h12 : O i 12 = (lw : Int)) (h13 : O i 13 = (lb : Int))
    (hz : Own .i16 82 w base (.slice wa lw cw) (Z i)) (hb : Own .i32 21 w base (.slice ba lb cb) (B i)) (r1 : lw * 2 ≤ 140737488351232) (r2 : lb * 4 ≤ 140737488351232) (xs : List Value) (hxs : w.ownsRow base 48 22 v i xs) (hall : ∀ q, q < i → COp w base xs q (O q) (Z q) (B q))
    (hown : w'.ownsRow base 48 22 v' (i + 1) (xs ++ opl (O i) wa lw cw ba lb cb)) : CRow w' base v' (i + 1) O Z B := by
  have ty : ∀ b, v.ownBlock = some b → ∃ c, w.heap[b]? = some (.cells c 48 (0, 0)) := fun b hb => by
    rcases hxs.2 with ⟨rfl, -⟩ | ⟨f, cap, cur, rfl, -, h3, -⟩
    · simp [Value.ownBlock] at hb
    · obtain rfl : f = b := by simpa [Value.ownBlock] using hb
      exact ⟨cur, h3⟩
  have ne : ∀ T, T ≠ 48 → ∀ b, v.ownBlock = some b → ∀ c, w.heap[b]? ≠ some (.cells c T (0, 0)) := fun T hT b hb c e => by
    obtain ⟨d, hd⟩ := ty b hb
    rw [hd] at e
    simp only [Option.some.injEq, Obj.cells.injEq] at e
    exact hT e.2.1.symm
  refine ⟨_, hown, fun q hq => ?_⟩
  by_cases e : q = i
  · subst e
    refine ⟨wa, lw, cw, ba, lb, cb, h12, h13, fun j u hj => ?_, hz.grown g (ne _ (by decide)), hb.grown g (ne _ (by decide)), r1, r2⟩
    rw [List.getElem?_append_right (by rw [hxs.1]; omega), hxs.1, show q * 22 + j - q * 22 = j by omega]
    exact hj
  · exact (hall q (by omega)).grown g ty
end Go.Proofs.Ytehofmkpgopmpaa

/- plain and fixed of law08. -/
namespace Go.Proofs.Ytehofmkpgopmpaa
open Go.ChangeShapes Go.WideShapes Go.ChangeAt Go.RowKit
set_option linter.unusedVariables false
/-- The op of the plain model, its A being 'aa'. -/
def plO (aa : Int) (_ : Nat) (j : Nat) : Int := [1, aa, 0, 1, 0, 0, 0, 0, 0, 0, 0, 0, 2, 1, 1, 0, 0, 0, 0, 0, -128, 127].getD j 0
theorem pl_0 : gtR (plO 0) 1 1 2 (-128) 127 1 1 = (0, 0, [(1, 1, 2), (1, 1, 1)], 2) := by decide
theorem pl_1 : gtR (plO 1) 1 1 2 (-128) 127 1 1 = (82, 1, [], 0) := by decide
end Go.Proofs.Ytehofmkpgopmpaa

/- fixed of law08. -/
namespace Go.Proofs.Ytehofmkpgopmpaa
open Go.ChangeShapes Go.WideShapes Go.ChangeAt Go.RowKit
set_option linter.unusedVariables false
theorem pl_row {w : World} {g p q : Nat} {aa : Int} (h : w.heap[g]? = some (.cells #[.int .i64 1, .int .i64 aa, .int .i64 0, .int .i64 1, .int .i64 0, .int .i64 0, .int .i64 0, .int .i64 0, .int .i64 0, .int .i64 0, .int .i64 0, .int .i64 0, .slice (some ⟨p, 0, none⟩) 2 2, .slice (some ⟨q, 0, none⟩) 1 1, .int .i64 1, .int .i64 0, .int .i64 0, .int .i64 0, .int .i64 0, .int .i64 0, .int .i64 (-128), .int .i64 127] 48 (0, 0))) : MRow w (some ⟨g, 0, none⟩) 1 1 (plO aa) := by
  refine ⟨Nat.le_refl _, by unfold maxLen; omega, fun h => (by cases h), fun x hx i hi => ⟨some ⟨p, 0, none⟩, 2, 2, some ⟨q, 0, none⟩, 1, 1, rfl, rfl, fun j v hj => ?_⟩⟩
  cases hx
  obtain rfl : i = 0 := by omega
  rw [Addr.add_lit, (cells_at h).1, Nat.zero_mul, Nat.zero_add, Nat.zero_add]
  rw [← hj]
  simp [opl, plO]
theorem St.up4 {w0 w : World} {a b c d e : Nat × Array Value × TypeId} {l : List (Nat × Array Value × TypeId)} (h : St w0 w (a :: b :: c :: d :: e :: l)) : St w0 w (e :: a :: b :: c :: d :: l) :=
  h.sub fun z hz => by simp only [List.mem_cons] at *; rcases hz with h | h | h | h | h | h <;> simp [h]
theorem St.add {w0 w : World} {B : Nat} {c : Array Value} {t : TypeId} {l : List (Nat × Array Value × TypeId)} (h : St w0 w l) (hb : w.heap[B]? = some (.cells c t (0, 0))) (hB : w0.heap.size ≤ B) : St w0 w ((B, c, t) :: l) :=
  ⟨h.1, fun x hx => by
    rcases List.mem_cons.1 hx with rfl | hx
    · exact ⟨hb, hB⟩
    · exact h.2 x hx⟩
end Go.Proofs.Ytehofmkpgopmpaa

/- The document's Look of layer 8: what it returns. -/
namespace Go.Proofs.Ytehofmkpgopmpaa
open Go.ChangeShapes Go.WideShapes Go.ChangeAt Go.RowKit
set_option linter.unusedVariables false
/-- What is known of an op without an error. -/
theorem op_0 {k a b m kh kw sh sw tp lf bt rt : Int} {lw lb : Nat} {sm ss um us z p lo hi : Int} {L : List (Int × Int × Int)} (h : opE k a b m kh kw sh sw tp lf bt rt lw lb sm ss um us z p lo hi L = 0) (hv : ∀ s ∈ L, vS3 s = true) : vS3 (mk3 k m kh kw sh sw tp lf bt rt (ShA L a)) = true ∧ 0 ≤ opW k m kh kw sh sw tp lf bt rt (ShA L a) ∧ (0 ≤ a ∧ a < (L.length : Int)) ∧ (1 ≤ k ∧ k ≤ 8) ∧ mkE k m kh kw sh sw tp lf bt rt (ShA L a).1 (ShA L a).2.1 (ShA L a).2.2 = 0 := by
  have : tkE k a b m kh kw sh sw tp lf bt rt lw lb sm ss um us z p lo hi L (- opW k m kh kw sh sw tp lf bt rt (ShA L a)) = 0 := by
    unfold tkE
    rw [if_neg (by rw [h]; decide), if_neg (by omega)]
  obtain ⟨a1, a2, -, a4, a5, a6⟩ := tk_0 this hv
  exact ⟨a1, a2, a4, a5, a6⟩
theorem tk_e {k a b m kh kw sh sw tp lf bt rt : Int} {lw lb : Nat} {sm ss um us z p lo hi wk E : Int} {L : List (Int × Int × Int)} (h : opE k a b m kh kw sh sw tp lf bt rt lw lb sm ss um us z p lo hi L = E) (h0 : E ≠ 0) : tkE k a b m kh kw sh sw tp lf bt rt lw lb sm ss um us z p lo hi L wk = E := by unfold tkE; rw [h, if_pos h0]
theorem tk_w {k a b m kh kw sh sw tp lf bt rt : Int} {lw lb : Nat} {sm ss um us z p lo hi wk : Int} {L : List (Int × Int × Int)} (h : opE k a b m kh kw sh sw tp lf bt rt lw lb sm ss um us z p lo hi L = 0) (h0 : 131072 < wk + opW k m kh kw sh sw tp lf bt rt (ShA L a)) : tkE k a b m kh kw sh sw tp lf bt rt lw lb sm ss um us z p lo hi L wk = 86 := by unfold tkE; rw [h, if_neg (by decide), if_pos h0]
theorem tk_k {k a b m kh kw sh sw tp lf bt rt : Int} {lw lb : Nat} {sm ss um us z p lo hi wk : Int} {L : List (Int × Int × Int)} (h : opE k a b m kh kw sh sw tp lf bt rt lw lb sm ss um us z p lo hi L = 0) (h0 : ¬ 131072 < wk + opW k m kh kw sh sw tp lf bt rt (ShA L a)) : tkE k a b m kh kw sh sw tp lf bt rt lw lb sm ss um us z p lo hi L wk = 0 := by unfold tkE; rw [h, if_neg (by decide), if_neg h0]
/-- Shapes that the call owns. -/
def OSh (w : World) (base : Nat) (v : Value) (L : List (Int × Int × Int)) : Prop := w.ownsRow base 23 3 v L.length (s3 L)
theorem OSh.cu {w : World} {base : Nat} {v : Value} {L : List (Int × Int × Int)} (h : OSh w base v L) (h0 : 0 < L.length) : ∃ g cap cur, v = .slice (some ⟨g, 0, none⟩) L.length cap ∧ base ≤ g ∧ w.heap[g]? = some (.cells cur 23 (0, 0)) ∧ Cu cur cap L ∧ cap ≤ maxLen := by
  rcases h.2 with ⟨-, q⟩ | ⟨g, cap, cur, h1, h2, h3, h4, h5, h6, h7⟩
  · omega
  · exact ⟨g, cap, cur, h1, h2, h3, ⟨h6, h4, h7⟩, h5⟩
theorem OSh.nil (w : World) (base : Nat) : OSh w base (.slice none 0 0) [] := World.ownsRow_nil _ _ _ _
theorem OSh.below {w w' : World} {base : Nat} {v : Value} {L : List (Int × Int × Int)} (h : OSh w base v L) (g : Below w.heap.size w w') : OSh w' base v L := by
  refine World.ownsRow.kept h (row := none) ⟨g.os, g.tape, g.output, g.size, fun i hi _ => g.block i hi⟩ ?_
  cases e : v.ownBlock with
  | none => exact .inl rfl
  | some b => exact .inr (by simp)
theorem OSh.slice {w : World} {base : Nat} {v : Value} {L : List (Int × Int × Int)} (h : OSh w base v L) : ∃ a cap, v = .slice a L.length cap := by
  rcases h.2 with ⟨rfl, q⟩ | ⟨g, cap, cur, rfl, -⟩
  · exact ⟨_, _, by rw [q]⟩
  · exact ⟨_, _, rfl⟩
theorem ouE_50 {h w c lo hi ot : Int} {on : Nat} (g : vS h w c = false) : ouE h w c lo hi ot on = 50 := by unfold ouE; rw [if_pos g]
theorem ouE_85 {h w c lo hi ot : Int} {on : Nat} (g : vS h w c = true) (r : rgB lo hi = false) : ouE h w c lo hi ot on = 85 := by unfold ouE; rw [if_neg (by rw [g]; decide), if_pos r]
/-! ### A model that fails whatever its ops are -/
/-! ### The ops -/
theorem osh_one (w : World) (base : Nat) (h v c : Int) (hb : base ≤ w.heap.size) : OSh (w.alloc (.cells #[.int .i64 h, .int .i64 v, .int .i64 c] 23)) base (.slice (some ⟨w.heap.size, 0, none⟩) 1 1) [(h, v, c)] := by
  have := World.ownsRow_lit (base := base) (e := 23) (size := 3) w #[.int .i64 h, .int .i64 v, .int .i64 c] 1 hb (by unfold maxLen; omega) rfl
  exact this
theorem osh_cu {w : World} {g cap base : Nat} {cur : Array Value} {L : List (Int × Int × Int)} (h : w.heap[g]? = some (.cells cur 23 (0, 0))) (hb : base ≤ g) (hC : Cu cur cap L) (hcap : cap ≤ maxLen) : OSh w base (.slice (some ⟨g, 0, none⟩) L.length cap) L :=
  ⟨by rw [s3_len], .inr ⟨g, cap, cur, rfl, hb, h, hC.2.1, hcap, hC.1, hC.2.2⟩⟩
theorem OSh.lt {w : World} {base : Nat} {v : Value} {L : List (Int × Int × Int)} (h : OSh w base v L) : ∀ b, v.ownBlock = some b → base ≤ b := fun b e => (World.ownsRow.lt h b e).1
theorem OSh.sv {w : World} {base : Nat} {v : Value} {L : List (Int × Int × Int)} (h : OSh w base v L) : SV w v L := by
  rcases h.2 with ⟨rfl, q⟩ | ⟨g, cap, cur, rfl, h2, h3, h4, h5, h6, h7⟩
  · obtain rfl := List.eq_nil_of_length_eq_zero q
    exact ⟨none, 0, rfl, Nat.le_refl _, by unfold maxLen; omega, fun h => by cases h⟩
  · exact sv_cu h3 ⟨h6, h4, h7⟩ h5 L.length (Nat.le_refl _) (by simp)
end Go.Proofs.Ytehofmkpgopmpaa
