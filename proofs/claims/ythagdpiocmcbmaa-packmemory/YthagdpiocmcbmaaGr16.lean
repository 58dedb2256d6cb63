/- The document's Copy of layer 8: what it returns. The writer of package pack: a model. The reader of package pack: one op. Written by tools/gen/PckQ.py. The reader of package pack: the ops. -/
import Derived.Test.YthagdpiocmcbmaaGr03
import Derived.Test.YthagdpiocmcbmaaGr15
import Derived.Laws.AppendOwnNone
/- The document's Copy of layer 8: what it returns. -/
namespace Go.Proofs.Ythagdpiocmcbmaa
open Go.ChangeShapes Go.WideShapes Go.ChangeAt Go.RowKit
set_option linter.unusedVariables false
/-- 'append' to an empty list of the call's own, from whatever slice within the reach. -/
theorem wpList_appB {k : IntKind} {T S : TypeId} {by8 : Nat} (kt : KT k T S by8) {w : World} {ops : Array Oper} {rest : List Oper} {o : Oper} {a : Act} {Q : Exit → Act → World → Prop} (hgd : o.guard = none) (s x : Operand)
    (ho : o.op = .call { callee := .builtin .append, args := #[s, x], argTypes := #[S, S] })
    (base : Nat) (v : Value) (ys : List Int) (hs : a.eval s = v) (hown : Own k T w base v []) (ao : Option Addr) (m c : Nat) (hx : a.eval x = .slice ao m c) (hy : IRow k w ao m c ys)
    (hlen : m * by8 ≤ 140737488351232) (hbase : base ≤ w.heap.size)
    (h : ∀ v' w', Own k T w' base v' ys → w.grownBy w' v.ownBlock → wpList Try.prog ops Q rest (a.put o.dst v') w') : wpList Try.prog ops Q (o :: rest) a w := by
  obtain ⟨hu, hin, b1, b8⟩ := kt
  obtain ⟨i0, hi, hz0, hz1, hz2⟩ := info_parts hin
  obtain ⟨hl, hc, hm, hb, hn, hcell⟩ := hy
  have hm2 : m ≤ 140737488351232 := Nat.le_trans (Nat.le_mul_of_pos_right m (by omega)) hlen
  cases ao with
  | none =>
    obtain rfl : c = 0 := hn rfl
    obtain rfl : m = 0 := by omega
    obtain rfl : ys = [] := List.eq_nil_of_length_eq_zero hl
    refine wpList_append_own_none hgd s x _ ho base T i0 1 hu hi v 0 _ hs hown.1 hx ?_
    exact h v w hown ⟨rfl, rfl, rfl, Nat.le_refl _, fun _ _ _ => rfl⟩
  | some ad =>
    refine wpList_append_own _ hgd s x _ ho base T i0 (.int k 0) 1 by8 hu hi hz0 hz1 hz2 rfl (by omega) v 0 _ hs hown.1 ad m c (ys.map (Value.int k)) hx (by simp [hl]) ?_ (ints_oneCell _ _) ?_ ?_ hbase ?_
    · intro j u hj
      have hj' : j < m := by
        have := (List.getElem?_eq_some_iff.1 hj).1
        simpa [hl] using this
      rw [hcell ad rfl j hj']
      simp [List.getD, show j < ys.length by omega] at hj ⊢
      exact hj
    · unfold maxLen; omega
    · rw [Nat.zero_add]; omega
    · intro v' w' h1 h2 h3
      refine h v' w' ⟨?_, hb⟩ h2
      rw [Nat.zero_add] at h1
      rw [hl]
      exact h1
theorem Own.grown {k : IntKind} {T : TypeId} {w w' : World} {base : Nat} {v : Value} {zs : List Int} {row : Option Nat} (h : Own k T w base v zs) (q : w.grownBy w' row) (hne : ∀ b, row = some b → ∀ c, w.heap[b]? ≠ some (.cells c T (0, 0))) : Own k T w' base v zs := by
  refine ⟨h.1.kept q ?_, h.2⟩
  rcases h.shape with ⟨rfl, _⟩ | ⟨g, cap, rfl, -, -, -, -, ⟨cur, hc, -⟩, -⟩
  · exact .inl rfl
  · exact .inr (fun e => hne g e.symm cur hc)
theorem Own.irow {k : IntKind} {T : TypeId} {w : World} {base n cap : Nat} {a : Option Addr} {zs : List Int} (h : Own k T w base (.slice a n cap) zs) : IRow k w a n cap zs := by
  obtain ⟨a', c', e, r, -⟩ := h.row
  obtain rfl := h.len
  cases e
  exact r
/-- A copied op: its cells, its lists. -/
def COp (w : World) (base : Nat) (xs : List Value) (q : Nat) (o : Nat → Int) (z b : List Int) : Prop :=
  ∃ (wa : Option Addr) (lw cw : Nat) (ba : Option Addr) (lb cb : Nat), o 12 = (lw : Int) ∧ o 13 = (lb : Int) ∧ (∀ j u, (opl o wa lw cw ba lb cb)[j]? = some u → xs[q * 22 + j]? = some u) ∧ Own .i16 51 w base (.slice wa lw cw) z ∧ Own .i32 21 w base (.slice ba lb cb) b ∧ lw * 2 ≤ 140737488351232 ∧ lb * 4 ≤ 140737488351232
def CRow (w : World) (base : Nat) (v : Value) (i : Nat) (O : Nat → Nat → Int) (Z B : Nat → List Int) : Prop :=
  ∃ xs, w.ownsRow base 50 22 v i xs ∧ ∀ q, q < i → COp w base xs q (O q) (Z q) (B q)
theorem COp.grown {w w' : World} {base : Nat} {xs ys : List Value} {q : Nat} {o : Nat → Int} {z b : List Int} {row : Option Nat} (h : COp w base xs q o z b) (g : w.grownBy w' row) (hne : ∀ b, row = some b → ∃ c, w.heap[b]? = some (.cells c 50 (0, 0))) : COp w' base (xs ++ ys) q o z b := by
  obtain ⟨wa, lw, cw, ba, lb, cb, h1, h2, h3, h4, h5, h6⟩ := h
  have ne : ∀ T, T ≠ 50 → ∀ b, row = some b → ∀ c, w.heap[b]? ≠ some (.cells c T (0, 0)) := fun T hT b hb c e => by
    obtain ⟨d, hd⟩ := hne b hb
    rw [hd] at e
    simp only [Option.some.injEq, Obj.cells.injEq] at e
    exact hT e.2.1.symm
  exact ⟨wa, lw, cw, ba, lb, cb, h1, h2, fun j u hj => List.getElem?_append_left (List.getElem?_eq_some_iff.1 (h3 j u hj)).1 |>.trans (h3 j u hj), h4.grown g (ne _ (by decide)), h5.grown g (ne _ (by decide)), h6⟩
theorem COp.below {w w' : World} {base : Nat} {xs : List Value} {q : Nat} {o : Nat → Int} {z b : List Int} (h : COp w base xs q o z b) (g : Below w.heap.size w w') : COp w' base xs q o z b := by
  obtain ⟨wa, lw, cw, ba, lb, cb, h1, h2, h3, h4, h5, h6⟩ := h
  exact ⟨wa, lw, cw, ba, lb, cb, h1, h2, h3, h4.below g, h5.below g, h6⟩
theorem CRow.below {w w' : World} {base : Nat} {v : Value} {i : Nat} {O : Nat → Nat → Int} {Z B : Nat → List Int} (h : CRow w base v i O Z B) (g : Below w.heap.size w w') : CRow w' base v i O Z B := by
  obtain ⟨xs, h1, h2⟩ := h
  refine ⟨xs, h1.kept (row := none) ⟨g.os, g.tape, g.output, g.size, fun i hi _ => g.block i hi⟩ ?_, fun q hq => (h2 q hq).below g⟩
  cases e : v.ownBlock with
  | none => exact .inl rfl
  | some b => exact .inr (by simp)
theorem CRow.slice {w : World} {base : Nat} {v : Value} {i : Nat} {O : Nat → Nat → Int} {Z B : Nat → List Int} (h : CRow w base v i O Z B) : ∃ a cap, v = .slice a i cap := by
  obtain ⟨xs, h1, -⟩ := h
  rcases h1.2 with ⟨rfl, rfl⟩ | ⟨g, cap, cur, rfl, -⟩
  · exact ⟨_, _, rfl⟩
  · exact ⟨_, _, rfl⟩
theorem CRow.nil (w : World) (base : Nat) (O : Nat → Nat → Int) (Z B : Nat → List Int) : CRow w base (.slice none 0 0) 0 O Z B := ⟨[], World.ownsRow_nil _ _ _ _, fun q hq => by omega⟩
theorem CRow.l {w : World} {base i : Nat} {a : Option Addr} {cap : Nat} {O : Nat → Nat → Int} {Z B : Nat → List Int} (h : CRow w base (.slice a i cap) i O Z B) : LRow w a i cap O Z B := by
  obtain ⟨xs, h1, h2⟩ := h
  rcases h1.2 with ⟨e, e0⟩ | ⟨g, cap', cur, e, hb, hg, hn, hm, hs, ht⟩
  · cases e
    exact ⟨Nat.le_refl _, by unfold maxLen; omega, fun _ => rfl, fun x hx => by cases hx⟩
  · cases e
    refine ⟨hn, hm, fun q => (by cases q), fun x hx q hq => ?_⟩
    cases hx
    obtain ⟨wa, lw, cw, ba, lb, cb, e1, e2, e3, e4, e5, e6⟩ := h2 q hq
    exact ⟨wa, lw, cw, ba, lb, cb, e1, e2, fun j u hj => by rw [Addr.add_add]; exact h1.cells rfl _ _ (e3 j u hj), e4.irow, e5.irow, e6⟩
theorem St.seti {w0 w : World} {B i : Nat} {c : Array Value} {t : TypeId} {l : List (Nat × Array Value × TypeId)} {v : Value} (h : St w0 w ((B, c, t) :: l)) (hl : ∀ x ∈ l, x.1 ≠ B) (d : Array Value) (hd : c.setIfInBounds i v = d) :
    St w0 (w.setCell ⟨B, i, none⟩ v) ((B, d, t) :: l) := by subst hd; exact h.set hl
theorem grown_below {w w' : World} {row : Option Nat} {n : Nat} (g : w.grownBy w' row) (hn : n ≤ w.heap.size) (hr : ∀ b, row = some b → n ≤ b) : Below n w w' := (Below.refl n w).grown g hn hr
theorem owns_other {w w' : World} {base : Nat} {e : TypeId} {size : Nat} {v : Value} {n : Nat} {xs : List Value} (h : w.ownsRow base e size v n xs) (q : ∀ (g : Nat) (c : Array Value), w.heap[g]? = some (.cells c e (0, 0)) → w'.heap[g]? = some (.cells c e (0, 0))) : w'.ownsRow base e size v n xs := by
  refine ⟨h.1, ?_⟩
  rcases h.2 with h0 | ⟨g, cap, cur, h1, h2, h3, h4⟩
  · exact .inl h0
  · exact .inr ⟨g, cap, cur, h1, h2, q g cur h3, h4⟩
theorem CRow.other {w w' : World} {base : Nat} {v : Value} {i : Nat} {O : Nat → Nat → Int} {Z B : Nat → List Int} (h : CRow w base v i O Z B) (q : ∀ (g : Nat) (c : Array Value) (t : TypeId), t ≠ 26 → w.heap[g]? = some (.cells c t (0, 0)) → w'.heap[g]? = some (.cells c t (0, 0))) : CRow w' base v i O Z B := by
  obtain ⟨xs, h1, h2⟩ := h
  refine ⟨xs, owns_other h1 (fun g c => q g c _ (by decide)), fun r hr => ?_⟩
  obtain ⟨wa, lw, cw, ba, lb, cb, e1, e2, e3, e4, e5, e6⟩ := h2 r hr
  exact ⟨wa, lw, cw, ba, lb, cb, e1, e2, e3, ⟨owns_other e4.1 (fun g c => q g c _ (by decide)), e4.2⟩, ⟨owns_other e5.1 (fun g c => q g c _ (by decide)), e5.2⟩, e6⟩
theorem LRow.at {w : World} {oa : Option Addr} {on oc : Nat} {O : Nat → Nat → Int} {Z B : Nat → List Int} (h : LRow w oa on oc O Z B) {i : Nat} (hi : i < on) : ∃ x, oa = some x ∧ LOp w (x.add (i * 22)) (O i) (Z i) (B i) := by
  cases oa with
  | none => have := h.2.2.1 rfl; have := h.1; omega
  | some x => exact ⟨x, rfl, h.2.2.2 x rfl i hi⟩
theorem grown_set (w : World) (N i : Nat) (v : Value) : w.grownBy (w.setCell ⟨N, i, none⟩ v) (some N) := ⟨rfl, rfl, rfl, by simp, fun k _ hk => Below.heap_setCell w ⟨N, i, none⟩ v k (fun e => hk (by rw [e]))⟩
theorem lit0 {k : IntKind} {T : TypeId} (w : World) (base : Nat) (hb : base ≤ w.heap.size) : Own k T (w.alloc (.cells #[] T)) base (.slice (some ⟨w.heap.size, 0, none⟩) 0 0) [] := own_lit k T w base [] (Wf.nil _) (by unfold maxLen; simp) hb
theorem Own.len2 {k : IntKind} {T : TypeId} {w : World} {base n : Nat} {v : Value} {zs : List Int} (h : Own k T w base v zs) (hn : zs.length = n) : ∃ a cap, v = .slice a n cap := by
  obtain ⟨a, c, e, -⟩ := h.row
  exact ⟨a, c, by rw [e, hn]⟩
theorem app_below {w w' : World} {T : TypeId} {c : Array Value} (g : (w.alloc (.cells c T)).grownBy w' (Value.slice (some ⟨w.heap.size, 0, none⟩) 0 0).ownBlock) : Below w.heap.size w w' :=
  ((Below.refl _ w).alloc (Nat.le_refl _) _).grown g (by simp) (fun b e => by simp [Value.ownBlock] at e; omega)
theorem own_ne {w : World} {base : Nat} {e u : TypeId} {size : Nat} {v : Value} {n b : Nat} {xs : List Value} {c : Array Value} (h : w.ownsRow base e size v n xs) (hb : w.heap[b]? = some (.cells c u (0, 0))) (q : u ≠ e) : some b ≠ v.ownBlock := by
  rcases h.2 with ⟨rfl, -⟩ | ⟨f, cap, cur, rfl, -, h3, -⟩
  · simp [Value.ownBlock]
  · intro k
    obtain rfl : b = f := by simpa [Value.ownBlock] using k
    rw [h3] at hb
    simp only [Option.some.injEq, Obj.cells.injEq] at hb
    exact q hb.2.1.symm
theorem new22 {w : World} {c : List Value} {t : TypeId} : ∀ j u, c[j]? = some u → (w.alloc (.cells c.toArray t)).cell? ((⟨w.heap.size, 0, none⟩ : Addr).add j) = some u := by
  intro j u hu
  rw [Addr.add_lit, Nat.zero_add, (cells_at (heap_alloc_new w (.cells c.toArray t))).1]
  simpa using hu
theorem CRow.add {w w' : World} {base : Nat} {v v' : Value} {i : Nat} {O : Nat → Nat → Int} {Z B : Nat → List Int} {wa ba : Option Addr} {lw cw lb cb : Nat} (h : CRow w base v i O Z B) (g : w.grownBy w' v.ownBlock) (h12 : O i 12 = (lw : Int)) (h13 : O i 13 = (lb : Int))
    (hz : Own .i16 51 w base (.slice wa lw cw) (Z i)) (hb : Own .i32 21 w base (.slice ba lb cb) (B i)) (r1 : lw * 2 ≤ 140737488351232) (r2 : lb * 4 ≤ 140737488351232) (xs : List Value) (hxs : w.ownsRow base 50 22 v i xs) (hall : ∀ q, q < i → COp w base xs q (O q) (Z q) (B q))
    (hown : w'.ownsRow base 50 22 v' (i + 1) (xs ++ opl (O i) wa lw cw ba lb cb)) : CRow w' base v' (i + 1) O Z B := by
  have ty : ∀ b, v.ownBlock = some b → ∃ c, w.heap[b]? = some (.cells c 50 (0, 0)) := fun b hb => by
    rcases hxs.2 with ⟨rfl, -⟩ | ⟨f, cap, cur, rfl, -, h3, -⟩
    · simp [Value.ownBlock] at hb
    · obtain rfl : f = b := by simpa [Value.ownBlock] using hb
      exact ⟨cur, h3⟩
  have ne : ∀ T, T ≠ 50 → ∀ b, v.ownBlock = some b → ∀ c, w.heap[b]? ≠ some (.cells c T (0, 0)) := fun T hT b hb c e => by
    obtain ⟨d, hd⟩ := ty b hb
    rw [hd] at e
    simp only [Option.some.injEq, Obj.cells.injEq] at e
    exact hT e.2.1.symm
  refine ⟨_, hown, fun q hq => ?_⟩
  by_cases e : q = i
  · subst e
    refine ⟨wa, lw, cw, ba, lb, cb, h12, h13, fun j u hj => ?_, hz.grown g (ne _ (by decide)), hb.grown g (ne _ (by decide)), r1, r2⟩
    rw [List.getElem?_append_right (by rw [hxs.1]; omega), hxs.1, show q * 22 + j - q * 22 = j by omega]
    exact hj
  · exact (hall q (by omega)).grown g ty
set_option maxHeartbeats 4000000 in
set_option maxRecDepth 100000 in
theorem copy_any (h w c lo hi ot : Int) (oa : Option Addr) (on oc : Nat) (O : Nat → Nat → Int) (Z B : Nat → List Int) (W : World) (hL : LRow W oa on oc O Z B) (hr : on * 208 ≤ 140737488351232) :
    Calls Try.prog 8 #[.agg #[.int .i64 h, .int .i64 w, .int .i64 c, .int .i64 lo, .int .i64 hi, .slice oa on oc, .int .i64 ot]] W fun e w' => ∃ oa' oc', e = .returned (.agg #[.int .i64 h, .int .i64 w, .int .i64 c, .int .i64 lo, .int .i64 hi, .slice oa' on oc', .int .i64 ot]) ∧ LRow w' oa' on oc' O Z B ∧ Below W.heap.size W w' := by
  have hocc := hL.1
  have hocm := hL.2.1
  unfold maxLen at hocm
  have HL : Hid (LRow W oa on oc O Z B) := hL
  clear hL
  have s0 := ((St.start W).new (c := #[.int .i64 h, .int .i64 w, .int .i64 c, .int .i64 lo, .int .i64 hi, .slice oa on oc, .int .i64 ot]) (t := 26)).new (c := #[.int .i64 0, .int .i64 0, .int .i64 0, .int .i64 0, .int .i64 0, .slice none 0 0, .int .i64 0]) (t := 26)
  simp only [World.size_alloc] at s0
  have H0 : Hid (St W _ _) := s0
  clear s0
  go_enter Try.func8, Try.ntmps8
  go_wp2
  go_loopw [3, 9] (fun v i wr => ∃ (k : Nat), k ≤ on ∧ i = .int .i64 k ∧ CRow wr W.heap.size v k O Z B ∧ St W wr [(W.heap.size + 1, #[.int .i64 0, .int .i64 0, .int .i64 0, .int .i64 0, .int .i64 0, .slice none 0 0, .int .i64 0], 26), (W.heap.size, #[.int .i64 h, .int .i64 w, .int .i64 c, .int .i64 lo, .int .i64 hi, .slice oa on oc, .int .i64 ot], 26)]) (fun _ i _ => on - (intOf i).toNat)
  case atStart => exact ⟨0, Nat.zero_le _, rfl, CRow.nil _ _ _ _ _, H0.out⟩
  case round =>
    obtain ⟨i, hi0, rfl, hC, sr⟩ := hrel
    obtain ⟨va, vc, rfl⟩ := hC.slice
    obtain ⟨c1, f1, zr1, c2, f2, zr2, -⟩ := sr.rules
    by_cases hlt : i < on
    rotate_left
    · obtain rfl : i = on := by omega
      have HC : Hid (CRow wr W.heap.size (.slice va i vc) i O Z B) := hC
      have Hs : Hid (St W wr _) := sr
      clear sr hC
      go_wp2
      refine bodyPost_ret (v := .agg #[.int .i64 h, .int .i64 w, .int .i64 c, .int .i64 lo, .int .i64 hi, .slice va i vc, .int .i64 ot]) (by simp [results, Try.results8, go_sem, *]) rfl ⟨va, vc, rfl, (HC.out.other ?_).l, ?_⟩
      · intro g cc t ht hg
        have ng1 : g ≠ W.heap.size := ne_of_ty hg Hs.out.h2 ht
        have ng2 : g ≠ W.heap.size + 1 := ne_of_ty hg Hs.out.h1 ht
        have e1 : ∀ (w : World) (i : Nat) (v : Value), (w.setCell ⟨W.heap.size, i, none⟩ v).heap[g]? = w.heap[g]? := fun w i v => Below.heap_setCell w ⟨W.heap.size, i, none⟩ v g ng1
        have e2 : ∀ (w : World) (i : Nat) (v : Value), (w.setCell ⟨W.heap.size + 1, i, none⟩ v).heap[g]? = w.heap[g]? := fun w i v => Below.heap_setCell w ⟨W.heap.size + 1, i, none⟩ v g ng2
        simp only [e1, e2]
        exact hg
      · repeat refine Below.setCell (p := ⟨_, _, none⟩) ?_ (by simp) _
        exact Hs.out.below
    · obtain ⟨x, rfl, wa, lw, cw, ba, lb, cb, e12, e13, hcell, hz, hbz, rz, rb⟩ := (HL.out.below sr.below).at hlt
      have hcell' : Hid (∀ q v, [.int .i64 (O i 0), .int .i64 (O i 1), .int .i64 (O i 2), .int .i64 (O i 3), .int .i64 (O i 4), .int .i64 (O i 5), .int .i64 (O i 6), .int .i64 (O i 7), .int .i64 (O i 8), .int .i64 (O i 9), .int .i64 (O i 10), .int .i64 (O i 11), .slice wa lw cw, .slice ba lb cb, .int .i64 (O i 14), .int .i64 (O i 15), .int .i64 (O i 16), .int .i64 (O i 17), .int .i64 (O i 18), .int .i64 (O i 19), .int .i64 (O i 20), .int .i64 (O i 21)][q]? = some v → wr.cell? ((x.add (i * 22)).add q) = some v) := hcell
      have sb := sr.new (c := #[.int .i64 (O i 0), .int .i64 (O i 1), .int .i64 (O i 2), .int .i64 (O i 3), .int .i64 (O i 4), .int .i64 (O i 5), .int .i64 (O i 6), .int .i64 (O i 7), .int .i64 (O i 8), .int .i64 (O i 9), .int .i64 (O i 10), .int .i64 (O i 11), .slice wa lw cw, .slice ba lb cb, .int .i64 (O i 14), .int .i64 (O i 15), .int .i64 (O i 16), .int .i64 (O i 17), .int .i64 (O i 18), .int .i64 (O i 19), .int .i64 (O i 20), .int .i64 (O i 21)]) (t := 50)
      have HZ : Hid (IRow .i16 wr wa lw cw (Z i)) := hz
      have HB : Hid (IRow .i32 wr ba lb cb (B i)) := hbz
      have HC : Hid (CRow wr W.heap.size (.slice va i vc) i O Z B) := hC
      have D0 := bal wr (.cells #[.int .i64 (O i 0), .int .i64 (O i 1), .int .i64 (O i 2), .int .i64 (O i 3), .int .i64 (O i 4), .int .i64 (O i 5), .int .i64 (O i 6), .int .i64 (O i 7), .int .i64 (O i 8), .int .i64 (O i 9), .int .i64 (O i 10), .int .i64 (O i 11), .slice wa lw cw, .slice ba lb cb, .int .i64 (O i 14), .int .i64 (O i 15), .int .i64 (O i 16), .int .i64 (O i 17), .int .i64 (O i 18), .int .i64 (O i 19), .int .i64 (O i 20), .int .i64 (O i 21)] 50)
      clear hcell hz hbz hC H0
      go_upto_region 4 with fail
      go_upto_region 5 with (first
        | (refine wpList_load_any rfl 50 (.tmp 11) rfl _ rfl [.int .i64 (O i 0), .int .i64 (O i 1), .int .i64 (O i 2), .int .i64 (O i 3), .int .i64 (O i 4), .int .i64 (O i 5), .int .i64 (O i 6), .int .i64 (O i 7), .int .i64 (O i 8), .int .i64 (O i 9), .int .i64 (O i 10), .int .i64 (O i 11), .slice wa lw cw, .slice ba lb cb, .int .i64 (O i 14), .int .i64 (O i 15), .int .i64 (O i 16), .int .i64 (O i 17), .int .i64 (O i 18), .int .i64 (O i 19), .int .i64 (O i 20), .int .i64 (O i 21)] _ hcell'.out Try.underlying50 rfl (by kernel_rfl) ?_)
        | (refine wpList_st_new rfl 50 (.tmp 5) (.tmp 12) rfl wr _ #[.int .i64 (O i 0), .int .i64 (O i 1), .int .i64 (O i 2), .int .i64 (O i 3), .int .i64 (O i 4), .int .i64 (O i 5), .int .i64 (O i 6), .int .i64 (O i 7), .int .i64 (O i 8), .int .i64 (O i 9), .int .i64 (O i 10), .int .i64 (O i 11), .slice wa lw cw, .slice ba lb cb, .int .i64 (O i 14), .int .i64 (O i 15), .int .i64 (O i 16), .int .i64 (O i 17), .int .i64 (O i 18), .int .i64 (O i 19), .int .i64 (O i 20), .int .i64 (O i 21)] rfl rfl (by kernel_rfl) rfl (by simp [Value.oneCell']) ?_))
      obtain ⟨wb, hwb⟩ : ∃ wb, wr.alloc (.cells #[.int .i64 (O i 0), .int .i64 (O i 1), .int .i64 (O i 2), .int .i64 (O i 3), .int .i64 (O i 4), .int .i64 (O i 5), .int .i64 (O i 6), .int .i64 (O i 7), .int .i64 (O i 8), .int .i64 (O i 9), .int .i64 (O i 10), .int .i64 (O i 11), .slice wa lw cw, .slice ba lb cb, .int .i64 (O i 14), .int .i64 (O i 15), .int .i64 (O i 16), .int .i64 (O i 17), .int .i64 (O i 18), .int .i64 (O i 19), .int .i64 (O i 20), .int .i64 (O i 21)] 50) = wb := ⟨_, rfl⟩
      rw [hwb] at sb D0 ⊢
      clear hwb hcell' c1 f1 c2 f2
      obtain ⟨c1, f1, zb1, c2, f2, zb2, c3, f3, zb3, -⟩ := sb.rules
      go_upto_region 6 with (at_builtin; refine wpList_appB kt_i16 rfl (.tmp 13) (.tmp 15) rfl W.heap.size (.slice (some ⟨wb.heap.size, 0, none⟩) 0 0) (Z i) rfl (lit0 wb W.heap.size (by omega)) wa lw cw rfl ((HZ.out.below D0).below (bal _ _)) rz (by simp; omega) ?_; intro v1 w5 hO1 hg; obtain ⟨wa', cw', rfl⟩ := hO1.len2 HZ.out.1; have s5 := sb.call (app_below hg); have D1 := bt D0 (app_below hg); clear hg sb D0 c1 f1 c2 f2 c3 f3; obtain ⟨c1, f1, zc1, c2, f2, zc2, c3, f3, zc3, -⟩ := s5.rules)
      have s6 := s5.seti (i := 12) (v := .slice wa' lw cw') (by simp; omega) #[.int .i64 (O i 0), .int .i64 (O i 1), .int .i64 (O i 2), .int .i64 (O i 3), .int .i64 (O i 4), .int .i64 (O i 5), .int .i64 (O i 6), .int .i64 (O i 7), .int .i64 (O i 8), .int .i64 (O i 9), .int .i64 (O i 10), .int .i64 (O i 11), .slice wa' lw cw', .slice ba lb cb, .int .i64 (O i 14), .int .i64 (O i 15), .int .i64 (O i 16), .int .i64 (O i 17), .int .i64 (O i 18), .int .i64 (O i 19), .int .i64 (O i 20), .int .i64 (O i 21)] (by simp)
      have D2 := D1.setCell (p := ⟨wr.heap.size, 12, none⟩) (Nat.le_refl _) (.slice wa' lw cw')
      have hO2 := hO1.grown (grown_set w5 wr.heap.size 12 (.slice wa' lw cw')) (fun b e cc => by cases e; rw [s5.h1]; simp)
      obtain ⟨w6, hw6⟩ : ∃ w6, w5.setCell ⟨wr.heap.size, 12, none⟩ (.slice wa' lw cw') = w6 := ⟨_, rfl⟩
      rw [hw6] at s6 D2 hO2 ⊢
      clear hw6 hO1 D1 s5 c1 f1 c2 f2 c3 f3
      obtain ⟨c1, f1, zd1, c2, f2, zd2, c3, f3, zd3, -⟩ := s6.rules
      go_upto_region 7 with (at_builtin; refine wpList_appB kt_i32 rfl (.tmp 18) (.tmp 20) rfl W.heap.size (.slice (some ⟨w6.heap.size, 0, none⟩) 0 0) (B i) rfl (lit0 w6 W.heap.size (by omega)) ba lb cb rfl ((HB.out.below D2).below (bal _ _)) rb (by simp; omega) ?_; intro v1 w7 hO3 hg; obtain ⟨ba', cb', rfl⟩ := hO3.len2 HB.out.1; have s7 := s6.call (app_below hg); have D3 := bt D2 (app_below hg); have hO4 := hO2.below (app_below hg); clear hg s6 D2 hO2 c1 f1 c2 f2 c3 f3; obtain ⟨c1, f1, ze1, c2, f2, ze2, c3, f3, ze3, -⟩ := s7.rules)
      have s8 := s7.seti (i := 13) (v := .slice ba' lb cb') (by simp; omega) #[.int .i64 (O i 0), .int .i64 (O i 1), .int .i64 (O i 2), .int .i64 (O i 3), .int .i64 (O i 4), .int .i64 (O i 5), .int .i64 (O i 6), .int .i64 (O i 7), .int .i64 (O i 8), .int .i64 (O i 9), .int .i64 (O i 10), .int .i64 (O i 11), .slice wa' lw cw', .slice ba' lb cb', .int .i64 (O i 14), .int .i64 (O i 15), .int .i64 (O i 16), .int .i64 (O i 17), .int .i64 (O i 18), .int .i64 (O i 19), .int .i64 (O i 20), .int .i64 (O i 21)] (by simp)
      have D4 := D3.setCell (p := ⟨wr.heap.size, 13, none⟩) (Nat.le_refl _) (.slice ba' lb cb')
      have hO5 := hO3.grown (grown_set w7 wr.heap.size 13 (.slice ba' lb cb')) (fun b e cc => by cases e; rw [s7.h1]; simp)
      have hO6 := hO4.grown (grown_set w7 wr.heap.size 13 (.slice ba' lb cb')) (fun b e cc => by cases e; rw [s7.h1]; simp)
      obtain ⟨w8, hw8⟩ : ∃ w8, w7.setCell ⟨wr.heap.size, 13, none⟩ (.slice ba' lb cb') = w8 := ⟨_, rfl⟩
      rw [hw8] at s8 D4 hO5 hO6 ⊢
      clear hw8 hO3 hO4 D3 s7 c1 f1 c2 f2 c3 f3
      have zw8 := s8.size
      have s9 := s8.new (c := #[.int .i64 (O i 0), .int .i64 (O i 1), .int .i64 (O i 2), .int .i64 (O i 3), .int .i64 (O i 4), .int .i64 (O i 5), .int .i64 (O i 6), .int .i64 (O i 7), .int .i64 (O i 8), .int .i64 (O i 9), .int .i64 (O i 10), .int .i64 (O i 11), .slice wa' lw cw', .slice ba' lb cb', .int .i64 (O i 14), .int .i64 (O i 15), .int .i64 (O i 16), .int .i64 (O i 17), .int .i64 (O i 18), .int .i64 (O i 19), .int .i64 (O i 20), .int .i64 (O i 21)]) (t := 50)
      obtain ⟨xs, hxs, hall⟩ := (HC.out.below D4).below (bal w8 (.cells #[.int .i64 (O i 0), .int .i64 (O i 1), .int .i64 (O i 2), .int .i64 (O i 3), .int .i64 (O i 4), .int .i64 (O i 5), .int .i64 (O i 6), .int .i64 (O i 7), .int .i64 (O i 8), .int .i64 (O i 9), .int .i64 (O i 10), .int .i64 (O i 11), .slice wa' lw cw', .slice ba' lb cb', .int .i64 (O i 14), .int .i64 (O i 15), .int .i64 (O i 16), .int .i64 (O i 17), .int .i64 (O i 18), .int .i64 (O i 19), .int .i64 (O i 20), .int .i64 (O i 21)] 50))
      have HX : Hid (World.ownsRow _ _ _ _ _ _ _) := hxs
      have HA : Hid (∀ q, q < i → _) := hall
      have H5 : Hid (Own .i32 _ _ _ _ _) := hO5.below (bal w8 (.cells #[.int .i64 (O i 0), .int .i64 (O i 1), .int .i64 (O i 2), .int .i64 (O i 3), .int .i64 (O i 4), .int .i64 (O i 5), .int .i64 (O i 6), .int .i64 (O i 7), .int .i64 (O i 8), .int .i64 (O i 9), .int .i64 (O i 10), .int .i64 (O i 11), .slice wa' lw cw', .slice ba' lb cb', .int .i64 (O i 14), .int .i64 (O i 15), .int .i64 (O i 16), .int .i64 (O i 17), .int .i64 (O i 18), .int .i64 (O i 19), .int .i64 (O i 20), .int .i64 (O i 21)] 50))
      have H6 : Hid (Own .i16 _ _ _ _ _) := hO6.below (bal w8 (.cells #[.int .i64 (O i 0), .int .i64 (O i 1), .int .i64 (O i 2), .int .i64 (O i 3), .int .i64 (O i 4), .int .i64 (O i 5), .int .i64 (O i 6), .int .i64 (O i 7), .int .i64 (O i 8), .int .i64 (O i 9), .int .i64 (O i 10), .int .i64 (O i 11), .slice wa' lw cw', .slice ba' lb cb', .int .i64 (O i 14), .int .i64 (O i 15), .int .i64 (O i 16), .int .i64 (O i 17), .int .i64 (O i 18), .int .i64 (O i 19), .int .i64 (O i 20), .int .i64 (O i 21)] 50))
      have HCC : Hid (CRow _ _ _ _ _ _ _) := (HC.out.below D4).below (bal w8 (.cells #[.int .i64 (O i 0), .int .i64 (O i 1), .int .i64 (O i 2), .int .i64 (O i 3), .int .i64 (O i 4), .int .i64 (O i 5), .int .i64 (O i 6), .int .i64 (O i 7), .int .i64 (O i 8), .int .i64 (O i 9), .int .i64 (O i 10), .int .i64 (O i 11), .slice wa' lw cw', .slice ba' lb cb', .int .i64 (O i 14), .int .i64 (O i 15), .int .i64 (O i 16), .int .i64 (O i 17), .int .i64 (O i 18), .int .i64 (O i 19), .int .i64 (O i 20), .int .i64 (O i 21)] 50))
      have H12 : Hid (O i 12 = (lw : Int)) := e12
      have H13 : Hid (O i 13 = (lb : Int)) := e13
      obtain ⟨i0, hi1, hz0, hz1, hz2⟩ := info_parts (show (Try.prog.info? 50).map (fun i => (i.zero, i.size, i.bytes)) = some (some (.agg #[.int .i64 0, .int .i64 0, .int .i64 0, .int .i64 0, .int .i64 0, .int .i64 0, .int .i64 0, .int .i64 0, .int .i64 0, .int .i64 0, .int .i64 0, .int .i64 0, .slice none 0 0, .slice none 0 0, .int .i64 0, .int .i64 0, .int .i64 0, .int .i64 0, .int .i64 0, .int .i64 0, .int .i64 0, .int .i64 0]), 22, 208) by kernel_rfl)
      clear hO5 hO6 hxs hall e12 e13 HZ HB
      go_upto_region 8 with (first
        | (refine wpList_load_row rfl 50 (.tmp 5) rfl _ rfl 50 _ (0, 0) _ s8.h1 Try.underlying50 rfl (by kernel_rfl) ?_)
        | (at_builtin; refine wpList_append_own _ rfl (.tmp 23) (.tmp 25) 24 rfl W.heap.size 50 i0 _ 22 208 Try.underlying24 hi1 hz0 hz1 hz2 rfl (by decide) (.slice va i vc) i xs rfl HX.out ⟨w8.heap.size, 0, none⟩ 1 1 (opl (O i) wa' lw cw' ba' lb cb') rfl rfl new22 (opl_one _ _ _ _ _ _ _) (by unfold maxLen; omega) (by omega) (by simp; omega) ?_; intro v2 w9 hown hgr hnn; have hC2 := HCC.out.add hgr H12.out H13.out H6.out H5.out rz rb xs HX.out HA.out hown; have s10 := s9.tail.tail.grown hgr (fun b e => (HX.out.lt b e).1) (fun y hy => by simp only [List.mem_cons, List.not_mem_nil, or_false] at hy; rcases hy with rfl | rfl; exact own_ne HX.out s9.h3 (by decide); exact own_ne HX.out s9.h4 (by decide)); obtain ⟨va2, vc2, rfl⟩ := hC2.slice; clear hown hgr hnn s9))
      have HC2 : Hid (CRow w9 W.heap.size (.slice va2 (i + 1) vc2) (i + 1) O Z B) := hC2
      have Hs10 : Hid (St W w9 _) := s10
      clear hC2 s10
      go_wp2
      go_round
      case rel => exact ⟨i + 1, by omega, by go_num, HC2.out, Hs10.out⟩
      case measure => simp [intOf]; omega
end Go.Proofs.Ythagdpiocmcbmaa

/- The writer of package pack: a model. -/
namespace Go.Proofs.Ythagdpiocmcbmaa
open Wr
open Go.ChangeShapes Go.WideShapes Go.ChangeAt Go.RowKit
set_option linter.unusedVariables false
def dOps (O : Nat → Nat → Int) (Z B : Nat → List Int) (n : Nat) : List OpD := (List.range n).map fun i => dOp (O i) (Z i) (B i)
theorem dOps_succ (O : Nat → Nat → Int) (Z B : Nat → List Int) (n : Nat) : dOps O Z B (n + 1) = dOps O Z B n ++ [dOp (O n) (Z n) (B n)] := by
  unfold dOps; rw [List.range_succ, List.map_append]; rfl
theorem dOps_len (O : Nat → Nat → Int) (Z B : Nat → List Int) (n : Nat) : (dOps O Z B n).length = n := by simp [dOps]
def dMod (h w c lo hi ot : Int) (on : Nat) (O : Nat → Nat → Int) (Z B : Nat → List Int) : ModD := ⟨[h, w, c], [lo, hi], dOps O Z B on, ot⟩
/-- Ops that can be put. -/
def OFit (on : Nat) (O : Nat → Nat → Int) (Z B : Nat → List Int) : Prop := on ≤ 64 ∧ ∀ i, i < on → (Z i).length ≤ 131072 ∧ (B i).length ≤ 1024 ∧ In16 (Z i) ∧ InS (B i) ∧ In64 [O i 18, O i 19, O i 20, O i 21]
theorem eOp_le (o : Nat → Int) (z b : List Int) (l1 : z.length ≤ 131072) (l2 : b.length ≤ 1024) (h1 : In16 z) (h2 : InS b) (h3 : In64 [o 18, o 19, o 20, o 21]) : (eOp (dOp o z b)).length ≤ 1400000 := by
  have a1 := eU_le [o 0, o 1, o 2, o 3, o 4, o 5, o 6, o 7, o 8, o 9, o 10, o 11]
  have a2 := eU_le [o 14, o 15, o 16, o 17]
  have a3 := eS_le [o 18, o 19, o 20, o 21] h3
  have a4 := eS_le z fun q hq => by have := h1 q hq; omega
  have a5 := eS_le b fun q hq => by have := h2 q hq; omega
  have a6 := put_le (n := z.length) (by omega)
  have a7 := put_le (n := b.length) (by omega)
  unfold eOp dOp
  simp only [List.length_append, List.length_cons, List.length_nil] at *
  omega
theorem eOps_le {on : Nat} {O : Nat → Nat → Int} {Z B : Nat → List Int} (h : OFit on O Z B) : ∀ n, n ≤ on → (eOps (dOps O Z B n)).length ≤ n * 1400000
  | 0, _ => by simp [eOps, dOps]
  | n + 1, hn => by
    have := eOps_le h n (by omega)
    obtain ⟨a, b, c, d, e⟩ := h.2 n (by omega)
    have := eOp_le (O n) (Z n) (B n) a b c d e
    rw [dOps_succ]
    unfold eOps at *
    rw [List.flatMap_append, List.length_append]
    simp only [List.flatMap_cons, List.flatMap_nil, List.append_nil]
    omega
set_option maxHeartbeats 4000000 in
set_option maxRecDepth 100000 in
theorem wmodel_any (Wb : Nat) (xs : List Int) (h w c lo hi ot : Int) (oa : Option Addr) (on oc : Nat) (O : Nat → Nat → Int) (Z B : Nat → List Int) (W V : World) (hT : Wt V Wb W.heap.size xs) (hW : Below W.heap.size W V) (hb : W.heap.size ≤ Wb)
    (hL : LRow W oa on oc O Z B) (hF : OFit on O Z B) (h64 : In64 [lo, hi]) (hs : xs.length ≤ 1000) :
    Calls Try.prog 16 #[(.pointer (some ⟨Wb, 0, none⟩)), .agg #[.int .i64 h, .int .i64 w, .int .i64 c, .int .i64 lo, .int .i64 hi, .slice oa on oc, .int .i64 ot]] V fun e w' => e = .returned (.tuple #[]) ∧ WtO w' Wb W.heap.size (xs ++ eMod (dMod h w c lo hi ot on O Z B)) ∧ Wk W.heap.size Wb V w' := by
  have hlt := hT.lt
  have hon := hF.1
  have hoc := hL.1
  have hom := hL.2.1
  unfold maxLen at hom
  have HL : Hid (LRow W oa on oc O Z B) := hL
  have HF : Hid (OFit on O Z B) := hF
  have H64 : Hid (In64 [lo, hi]) := h64
  have HW : Hid (Below W.heap.size W V) := hW
  have H : Hid (Wt V Wb W.heap.size xs) := hT
  have e1 : Hid ((eU [h, w, c]).length ≤ 30) := eU_le _
  have e2 : Hid ((eS [lo, hi]).length ≤ 20) := eS_le _ h64
  have e3 : Hid ((putR on).length ≤ 10) := put_le (by omega)
  have hp : Hid (eU [(on : Int)] = putR on) := by
    unfold Hid eU; rw [List.flatMap_singleton, u64_of (by omega) (by omega), Int.toNat_natCast]
  have k0 : Hid (Wk W.heap.size Wb V (V.alloc (.cells #[.int .i64 h, .int .i64 w, .int .i64 c, .int .i64 lo, .int .i64 hi, .slice oa on oc, .int .i64 ot] 26))) := wk_al _ (by omega)
  have B0 : Hid ((V.alloc (.cells #[.int .i64 h, .int .i64 w, .int .i64 c, .int .i64 lo, .int .i64 hi, .slice oa on oc, .int .i64 ot] 26)).heap[V.heap.size]? = some (.cells #[.int .i64 h, .int .i64 w, .int .i64 c, .int .i64 lo, .int .i64 hi, .slice oa on oc, .int .i64 ot] 26 (0, 0))) := heap_alloc_new V _
  clear hT hW hL hF h64
  go_enter Try.func16, Try.ntmps16
  go_wp2_with fail
  refine (unsigned_any Wb W.heap.size (V.heap.size + 1) 3 xs [h, w, c] _ ((H.out.al _).al _) (by unfold Nums; simpa using heap_alloc_new (V.alloc _) _) rfl (by omega) hb (by omega) (by omega) trivial).mono ?_
  rintro e w1 ⟨rfl, T1, K1, -⟩
  have k1 : Hid (Wk W.heap.size Wb V w1) := k0.out.trans ((wk_al _ (by simp; omega)).trans K1)
  have B1 : Hid (w1.heap[V.heap.size]? = some (.cells #[.int .i64 h, .int .i64 w, .int .i64 c, .int .i64 lo, .int .i64 hi, .slice oa on oc, .int .i64 ot] 26 (0, 0))) := K1.2 _ _ _ (by omega) (by decide) (((bal _ _).block _ (by simp)).trans B0.out)
  have t1 : Hid (Wt w1 Wb W.heap.size _) := T1
  have hl1 := t1.out.lt
  obtain ⟨c1, f1, y1⟩ := cells_at B1.out
  clear K1 T1
  go_wp2_with fail
  refine (signed_any Wb W.heap.size w1.heap.size 2 _ [lo, hi] _ (t1.out.al _) (heap_alloc_new w1 _) rfl (by omega) hb (by have := e1.out; simp only [List.length_append]; omega) (by omega) H64.out).mono ?_
  rintro e w2 ⟨rfl, T2, K2, -⟩
  have k2 : Hid (Wk W.heap.size Wb V w2) := k1.out.trans ((wk_al _ (by omega)).trans K2)
  have B2 : Hid (w2.heap[V.heap.size]? = some (.cells #[.int .i64 h, .int .i64 w, .int .i64 c, .int .i64 lo, .int .i64 hi, .slice oa on oc, .int .i64 ot] 26 (0, 0))) := K2.2 _ _ _ (by omega) (by decide) (((bal _ _).block _ y1).trans B1.out)
  have t2 : Hid (Wt w2 Wb W.heap.size _) := T2
  have hl2 := t2.out.lt
  clear K2 T2 c1 f1 y1 k1 B1 t1
  obtain ⟨c1, f1, y1⟩ := cells_at B2.out
  go_wp2_with fail
  refine (unsigned_any Wb W.heap.size w2.heap.size 1 _ [(on : Int)] _ (t2.out.al _) (heap_alloc_new w2 _) rfl (by omega) hb (by have := e1.out; have := e2.out; simp only [List.length_append]; omega) (by omega) trivial).mono ?_
  rintro e w3 ⟨rfl, T3, K3, -⟩
  have k3 : Hid (Wk W.heap.size Wb V w3) := k2.out.trans ((wk_al _ (by omega)).trans K3)
  have B3 : Hid (w3.heap[V.heap.size]? = some (.cells #[.int .i64 h, .int .i64 w, .int .i64 c, .int .i64 lo, .int .i64 hi, .slice oa on oc, .int .i64 ot] 26 (0, 0))) := K3.2 _ _ _ (by omega) (by decide) (((bal _ _).block _ y1).trans B2.out)
  have t3 : Hid (Wt w3 Wb W.heap.size (xs ++ (eU [h, w, c] ++ (eS [lo, hi] ++ (putR on ++ eOps (dOps O Z B 0)))))) := by
    unfold Hid; rw [hp.out] at T3; simpa [eOps, dOps] using T3
  clear K3 T3 c1 f1 y1 k2 B2 t2
  obtain ⟨c1, f1, y1⟩ := cells_at B3.out
  go_wp2
  go_loopw [34] (fun i wr => ∃ k : Nat, k ≤ on ∧ i = .int .i64 k ∧ Wt wr Wb W.heap.size (xs ++ (eU [h, w, c] ++ (eS [lo, hi] ++ (putR on ++ eOps (dOps O Z B k))))) ∧ Wk W.heap.size Wb V wr ∧ wr.heap[V.heap.size]? = some (.cells #[.int .i64 h, .int .i64 w, .int .i64 c, .int .i64 lo, .int .i64 hi, .slice oa on oc, .int .i64 ot] 26 (0, 0))) (fun i _ => on - (intOf i).toNat)
  case atStart => exact ⟨0, Nat.zero_le _, rfl, t3.out, k3.out, B3.out⟩
  case round =>
    obtain ⟨k, hk, rfl, hT, hK, hB⟩ := hrel
    clear t3 k3 B3 c1 f1 y1
    have hltr := hT.lt
    have hT' : Hid (Wt wr Wb W.heap.size _) := hT
    have hK' : Hid (Wk W.heap.size Wb V wr) := hK
    have hB' : Hid (wr.heap[V.heap.size]? = some (.cells #[.int .i64 h, .int .i64 w, .int .i64 c, .int .i64 lo, .int .i64 hi, .slice oa on oc, .int .i64 ot] 26 (0, 0))) := hB
    have hlen : Hid ((eOps (dOps O Z B k)).length ≤ k * 1400000) := eOps_le HF.out k hk
    have hyV := lt_of_heap hB
    by_cases hlk : k < on
    · obtain ⟨x, rfl, wa, lw, cw, ba, lb, cb, e12, e13, hcx, hz1, hb1, -, -⟩ := HL.out.at hlk
      obtain ⟨g1, g2, g3, g4, g5⟩ := HF.out.2 k hlk
      have hcell : Hid (∀ j v, [.int .i64 (O k 0), .int .i64 (O k 1), .int .i64 (O k 2), .int .i64 (O k 3), .int .i64 (O k 4), .int .i64 (O k 5), .int .i64 (O k 6), .int .i64 (O k 7), .int .i64 (O k 8), .int .i64 (O k 9), .int .i64 (O k 10), .int .i64 (O k 11), .slice wa lw cw, .slice ba lb cb, .int .i64 (O k 14), .int .i64 (O k 15), .int .i64 (O k 16), .int .i64 (O k 17), .int .i64 (O k 18), .int .i64 (O k 19), .int .i64 (O k 20), .int .i64 (O k 21)][j]? = some v → wr.cell? ((x.add (k * 22)).add j) = some v) := fun j v hj => by
        have := hcx j v hj
        exact ((HW.out.trans hK.1).cell (World.block_lt_of_cell? W _ this)).trans this
      have Hbox : (wr.alloc (.cells #[.int .i64 (O k 0), .int .i64 (O k 1), .int .i64 (O k 2), .int .i64 (O k 3), .int .i64 (O k 4), .int .i64 (O k 5), .int .i64 (O k 6), .int .i64 (O k 7), .int .i64 (O k 8), .int .i64 (O k 9), .int .i64 (O k 10), .int .i64 (O k 11), .slice wa lw cw, .slice ba lb cb, .int .i64 (O k 14), .int .i64 (O k 15), .int .i64 (O k 16), .int .i64 (O k 17), .int .i64 (O k 18), .int .i64 (O k 19), .int .i64 (O k 20), .int .i64 (O k 21)] 50)).heap[wr.heap.size]? = some (.cells #[.int .i64 (O k 0), .int .i64 (O k 1), .int .i64 (O k 2), .int .i64 (O k 3), .int .i64 (O k 4), .int .i64 (O k 5), .int .i64 (O k 6), .int .i64 (O k 7), .int .i64 (O k 8), .int .i64 (O k 9), .int .i64 (O k 10), .int .i64 (O k 11), .slice wa lw cw, .slice ba lb cb, .int .i64 (O k 14), .int .i64 (O k 15), .int .i64 (O k 16), .int .i64 (O k 17), .int .i64 (O k 18), .int .i64 (O k 19), .int .i64 (O k 20), .int .i64 (O k 21)] 50 (0, 0)) := heap_alloc_new wr _
      have Hcall : Hid _ := wop_any Wb _ (O k) (Z k) (B k) wa lw cw ba lb cb W (wr.alloc (.cells #[.int .i64 (O k 0), .int .i64 (O k 1), .int .i64 (O k 2), .int .i64 (O k 3), .int .i64 (O k 4), .int .i64 (O k 5), .int .i64 (O k 6), .int .i64 (O k 7), .int .i64 (O k 8), .int .i64 (O k 9), .int .i64 (O k 10), .int .i64 (O k 11), .slice wa lw cw, .slice ba lb cb, .int .i64 (O k 14), .int .i64 (O k 15), .int .i64 (O k 16), .int .i64 (O k 17), .int .i64 (O k 18), .int .i64 (O k 19), .int .i64 (O k 20), .int .i64 (O k 21)] 50)) (hT.al _) ((HW.out.trans hK.1).trans (wk_al (Wb := Wb) _ (by omega)).1) hb hz1 hb1 (by rw [← hz1.1]; exact g1) (by rw [← hb1.1]; exact g2) g5 (by have := hlen.out; have := e1.out; have := e2.out; have := e3.out; simp only [List.length_append]; omega)
      have hnext : Hid (xs ++ (eU [h, w, c] ++ (eS [lo, hi] ++ (putR on ++ eOps (dOps O Z B k)))) ++ eOp (dOp (O k) (Z k) (B k)) = xs ++ (eU [h, w, c] ++ (eS [lo, hi] ++ (putR on ++ eOps (dOps O Z B (k + 1)))))) := by
        unfold Hid; rw [dOps_succ]; simp [eOps]
      clear hT hK hB hz1 hb1 g1 g2 g3 g4 g5 e12 e13 hcx
      go_upto_region 6 with fail
      go_wp2_with (first
        | (refine wpList_load_any rfl 50 (.tmp 36) rfl _ rfl [.int .i64 (O k 0), .int .i64 (O k 1), .int .i64 (O k 2), .int .i64 (O k 3), .int .i64 (O k 4), .int .i64 (O k 5), .int .i64 (O k 6), .int .i64 (O k 7), .int .i64 (O k 8), .int .i64 (O k 9), .int .i64 (O k 10), .int .i64 (O k 11), .slice wa lw cw, .slice ba lb cb, .int .i64 (O k 14), .int .i64 (O k 15), .int .i64 (O k 16), .int .i64 (O k 17), .int .i64 (O k 18), .int .i64 (O k 19), .int .i64 (O k 20), .int .i64 (O k 21)] _ hcell.out Try.underlying50 rfl (by kernel_rfl) ?_)
        | (refine wpList_st_new rfl 50 (.tmp 5) (.tmp 37) rfl wr _ #[.int .i64 (O k 0), .int .i64 (O k 1), .int .i64 (O k 2), .int .i64 (O k 3), .int .i64 (O k 4), .int .i64 (O k 5), .int .i64 (O k 6), .int .i64 (O k 7), .int .i64 (O k 8), .int .i64 (O k 9), .int .i64 (O k 10), .int .i64 (O k 11), .slice wa lw cw, .slice ba lb cb, .int .i64 (O k 14), .int .i64 (O k 15), .int .i64 (O k 16), .int .i64 (O k 17), .int .i64 (O k 18), .int .i64 (O k 19), .int .i64 (O k 20), .int .i64 (O k 21)] rfl rfl (by kernel_rfl) rfl (by simp [Value.oneCell']) ?_)
        | (refine wpList_load_row rfl 50 (.tmp 5) rfl wr.heap.size rfl 50 _ (0, 0) _ Hbox Try.underlying50 rfl (by kernel_rfl) ?_))
      refine Calls.mono Hcall.out ?_
      rintro e w4 ⟨rfl, T4, K4⟩
      have t4 : Hid (Wt w4 Wb W.heap.size _) := hnext.out ▸ T4
      have k4 : Hid (Wk W.heap.size Wb V w4) := hK'.out.trans ((wk_al _ (by omega)).trans K4)
      have B4 : Hid (w4.heap[V.heap.size]? = some (.cells _ 26 (0, 0))) := K4.2 _ _ _ (by omega) (by decide) (((bal _ _).block _ hyV).trans hB'.out)
      clear T4 K4 hT' Hbox hcell Hcall
      go_wp2
      go_roundw
      case rel => exact ⟨k + 1, by omega, by go_num, t4.out, k4.out, B4.out⟩
      case measure => simp [intOf]; omega
    · obtain rfl : k = on := by omega
      obtain ⟨c1, f1, y1⟩ := cells_at hB
      clear hT hK hB
      go_wp2_with fail
      refine (unsigned_any Wb W.heap.size wr.heap.size 1 _ [ot] _ (hT'.out.al _) (heap_alloc_new wr _) rfl (by omega) hb (by have := hlen.out; have := e1.out; have := e2.out; have := e3.out; simp only [List.length_append]; omega) (by omega) trivial).mono ?_
      rintro e w5 ⟨rfl, T5, K5, O5⟩
      have t5 : Hid (WtO w5 Wb W.heap.size (xs ++ eMod (dMod h w c lo hi ot k O Z B))) := by
        replace T5 := O5 (by omega)
        unfold Hid eMod dMod
        rw [dOps_len]
        simp only [List.append_assoc] at T5 ⊢
        simpa [eU] using T5
      have k5 : Hid (Wk W.heap.size Wb V w5) := hK'.out.trans ((wk_al _ (by omega)).trans K5)
      clear T5 K5 c1 O5
      go_wp2
      go_end0
      exact ⟨rfl, t5.out, k5.out⟩
end Go.Proofs.Ythagdpiocmcbmaa

/- The reader of package pack: one op. Written by tools/gen/PckQ.py. -/
namespace Go.Proofs.Ythagdpiocmcbmaa
open Wr
open Go.ChangeShapes Go.WideShapes Go.ChangeAt Go.RowKit
set_option linter.unusedVariables false
theorem pbind_assoc {α β γ : Type} (x : Sum (Int × Int) (α × List Int)) (f : α → List Int → Sum (Int × Int) (β × List Int)) (g : β → List Int → Sum (Int × Int) (γ × List Int)) : pbind (pbind x f) g = pbind x fun a r => pbind (f a r) g := by
  match x with
  | .inl e => rfl
  | .inr (a, r) => rfl
theorem pbind_congr {α β : Type} {x : Sum (Int × Int) (α × List Int)} {f g : α → List Int → Sum (Int × Int) (β × List Int)} (h : ∀ a r, f a r = g a r) : pbind x f = pbind x g := by
  rw [show f = g from funext fun a => funext fun r => h a r]
theorem pL_add (p : List Int → Sum (Int × Int) (Int × List Int)) : ∀ (m n : Nat) (zs : List Int), pL p (m + n) zs = pbind (pL p m zs) fun a r => pbind (pL p n r) fun b r' => .inr (a ++ b, r')
  | 0, n, zs => by
    rw [Nat.zero_add]
    show _ = pbind (pL p n zs) _
    match pL p n zs with
    | .inl e => rfl
    | .inr (l, r) => rfl
  | m + 1, n, zs => by
    rw [show m + 1 + n = (m + n) + 1 by omega]
    show pbind (p zs) _ = pbind (pbind (p zs) _) _
    rw [pbind_assoc]
    refine pbind_congr fun a r => ?_
    rw [pL_add p m n r, pbind_assoc, pbind_assoc]
    refine pbind_congr fun b r' => ?_
    rw [pbind_assoc, pbind_r]
    refine pbind_congr fun c r'' => ?_
    rw [pbind_r, List.cons_append]
theorem pOp_eq (t : Int) (zs : List Int) : pOp t zs = pbind (pL (pU t) 4 zs) fun a r1 => pbind (pL (pU t) 8 r1) fun b r2 => pbind (pT t 131072 (p16 t) r2) fun z r3 => pbind (pT t 1024 (p32 t) r3) fun bb r4 => pbind (pL (pU t) 2 r4) fun c r5 => pbind (pL (pU t) 2 r5) fun d r6 => pbind (pL (p32 t) 4 r6) fun ss r7 => .inr (⟨a ++ b, z, bb, c ++ d, ss⟩, r7) := by
  unfold pOp pT
  rw [show (12 : Nat) = 4 + 8 from rfl, pL_add, pbind_assoc]
  refine pbind_congr fun a r1 => ?_
  rw [pbind_assoc]
  refine pbind_congr fun b r2 => ?_
  rw [pbind_r, pbind_assoc]
  refine pbind_congr fun n r3 => ?_
  refine pbind_congr fun z r4 => ?_
  rw [pbind_assoc]
  refine pbind_congr fun m r5 => ?_
  refine pbind_congr fun bb r6 => ?_
  rw [show pL (pU t) 4 r6 = _ from pL_add (pU t) 2 2 r6, pbind_assoc]
  refine pbind_congr fun c r7 => ?_
  rw [pbind_assoc]
  refine pbind_congr fun d r8 => ?_
  rw [pbind_r]
theorem own_row {k : IntKind} {T : TypeId} {w : World} {base N : Nat} {v : Value} {zs : List Int} {cs : Array Value} (h : Own k T w base v zs) (hN : N < base) : Own k T (w.setRow N cs) base v zs := by
  refine ⟨⟨h.1.1, ?_⟩, h.2⟩
  rcases h.1.2 with h0 | ⟨g, cap, cur, h1, h2, h3, h4⟩
  · exact .inl h0
  · exact .inr ⟨g, cap, cur, h1, h2, (setRow_other w N g cs (by omega)).trans h3, h4⟩
set_option maxHeartbeats 4000000 in
set_option maxRecDepth 100000 in
theorem oneop_any (Rb B : Nat) (zs : List Int) (t : Int) (w : World) (h : PR w Rb B zs t) :
    Calls Try.prog 76 #[(.pointer (some ⟨Rb, 0, none⟩))] w fun r w' => (∃ x, pOp t zs = .inl x ∧ r = fpan x.1 x.2 ∧ Wr.Kept [B] w w') ∨
      ∃ (o : Nat → Int) (z b : List Int) (wa : Option Addr) (lw cw : Nat) (ba : Option Addr) (lb cb : Nat) (rs : List Int), pOp t zs = .inr (dOp o z b, rs) ∧ o 12 = (lw : Int) ∧ o 13 = (lb : Int) ∧ lw ≤ 131072 ∧ lb ≤ 1024 ∧ r = .returned (.agg #[.int .i64 (o 0), .int .i64 (o 1), .int .i64 (o 2), .int .i64 (o 3), .int .i64 (o 4), .int .i64 (o 5), .int .i64 (o 6), .int .i64 (o 7), .int .i64 (o 8), .int .i64 (o 9), .int .i64 (o 10), .int .i64 (o 11), .slice wa lw cw, .slice ba lb cb, .int .i64 (o 14), .int .i64 (o 15), .int .i64 (o 16), .int .i64 (o 17), .int .i64 (o 18), .int .i64 (o 19), .int .i64 (o 20), .int .i64 (o 21)]) ∧
        Own .i16 51 w' (w.heap.size + 1) (.slice wa lw cw) z ∧ Own .i32 21 w' (w.heap.size + 1) (.slice ba lb cb) b ∧ PR w' Rb B rs t ∧ Wr.Kept [B] w w' := by
  have hlt := h.ltB
  have p0 : Hid (PR (w.alloc (.cells #[.int .i64 0, .int .i64 0, .int .i64 0, .int .i64 0, .int .i64 0, .int .i64 0, .int .i64 0, .int .i64 0, .int .i64 0, .int .i64 0, .int .i64 0, .int .i64 0, .slice none 0 0, .slice none 0 0, .int .i64 0, .int .i64 0, .int .i64 0, .int .i64 0, .int .i64 0, .int .i64 0, .int .i64 0, .int .i64 0] 50)) Rb B zs t) := h.al _
  have k0 : Hid (Wr.Kept [B] w (w.alloc (.cells #[.int .i64 0, .int .i64 0, .int .i64 0, .int .i64 0, .int .i64 0, .int .i64 0, .int .i64 0, .int .i64 0, .int .i64 0, .int .i64 0, .int .i64 0, .int .i64 0, .slice none 0 0, .slice none 0 0, .int .i64 0, .int .i64 0, .int .i64 0, .int .i64 0, .int .i64 0, .int .i64 0, .int .i64 0, .int .i64 0] 50))) := Kept.of (bal _ _)
  have b0 : Hid ((w.alloc (.cells #[.int .i64 0, .int .i64 0, .int .i64 0, .int .i64 0, .int .i64 0, .int .i64 0, .int .i64 0, .int .i64 0, .int .i64 0, .int .i64 0, .int .i64 0, .int .i64 0, .slice none 0 0, .slice none 0 0, .int .i64 0, .int .i64 0, .int .i64 0, .int .i64 0, .int .i64 0, .int .i64 0, .int .i64 0, .int .i64 0] 50)).heap[w.heap.size]? = some (.cells #[.int .i64 0, .int .i64 0, .int .i64 0, .int .i64 0, .int .i64 0, .int .i64 0, .int .i64 0, .int .i64 0, .int .i64 0, .int .i64 0, .int .i64 0, .int .i64 0, .slice none 0 0, .slice none 0 0, .int .i64 0, .int .i64 0, .int .i64 0, .int .i64 0, .int .i64 0, .int .i64 0, .int .i64 0, .int .i64 0] 50 (0, 0))) := heap_alloc_new w _
  have s0 : w.heap.size + 1 ≤ (w.alloc (.cells #[.int .i64 0, .int .i64 0, .int .i64 0, .int .i64 0, .int .i64 0, .int .i64 0, .int .i64 0, .int .i64 0, .int .i64 0, .int .i64 0, .int .i64 0, .int .i64 0, .slice none 0 0, .slice none 0 0, .int .i64 0, .int .i64 0, .int .i64 0, .int .i64 0, .int .i64 0, .int .i64 0, .int .i64 0, .int .i64 0] 50)).heap.size := by simp
  have hE : Hid (pOp t zs = _) := pOp_eq t zs
  clear h
  go_enter Try.func76, Try.ntmps76
  go_wp2_with fail
  refine Calls.mono (runsigned_any Rb B _ t _ p0.out) ?_
  rintro r w1 (⟨x, hx, rfl, k⟩ | ⟨v1, r1, hx, rfl, p, k⟩)
  · exact ⟨rfl, .inl ⟨x, by rw [hE.out, show pL (pU t) 4 zs = .inl x by simp only [pL, pbind, hx]]; rfl, rfl, k0.out.trans k⟩⟩
  have h1 : Hid (pU t zs = .inr (v1, r1)) := hx
  have p1 : Hid (PR w1 Rb B r1 t) := p
  have k1 : Hid (Wr.Kept [B] w w1) := k0.out.trans k
  have s1 : w.heap.size + 1 ≤ w1.heap.size := Nat.le_trans s0 k.2.2.2.1
  have b1 : Hid (w1.heap[w.heap.size]? = some (.cells #[.int .i64 0, .int .i64 0, .int .i64 0, .int .i64 0, .int .i64 0, .int .i64 0, .int .i64 0, .int .i64 0, .int .i64 0, .int .i64 0, .int .i64 0, .int .i64 0, .slice none 0 0, .slice none 0 0, .int .i64 0, .int .i64 0, .int .i64 0, .int .i64 0, .int .i64 0, .int .i64 0, .int .i64 0, .int .i64 0] 50 (0, 0))) := (k.2.2.2.2 _ (lt_of_heap b0.out) (by simp; omega)).trans b0.out
  clear hx p k p0 k0 s0 b0
  go_wp2_with fail
  refine Calls.mono (runsigned_any Rb B _ t _ p1.out) ?_
  rintro r w2 (⟨x, hx, rfl, k⟩ | ⟨v2, r2, hx, rfl, p, k⟩)
  · exact ⟨rfl, .inl ⟨x, by rw [hE.out, show pL (pU t) 4 zs = .inl x by simp only [pL, pbind, h1.out, hx]]; rfl, rfl, k1.out.trans k⟩⟩
  have h2 : Hid (pU t r1 = .inr (v2, r2)) := hx
  have p2 : Hid (PR w2 Rb B r2 t) := p
  have k2 : Hid (Wr.Kept [B] w w2) := k1.out.trans k
  have s2 : w.heap.size + 1 ≤ w2.heap.size := Nat.le_trans s1 k.2.2.2.1
  have b2 : Hid (w2.heap[w.heap.size]? = some (.cells #[.int .i64 0, .int .i64 0, .int .i64 0, .int .i64 0, .int .i64 0, .int .i64 0, .int .i64 0, .int .i64 0, .int .i64 0, .int .i64 0, .int .i64 0, .int .i64 0, .slice none 0 0, .slice none 0 0, .int .i64 0, .int .i64 0, .int .i64 0, .int .i64 0, .int .i64 0, .int .i64 0, .int .i64 0, .int .i64 0] 50 (0, 0))) := (k.2.2.2.2 _ (lt_of_heap b1.out) (by simp; omega)).trans b1.out
  clear hx p k p1 k1 s1 b1
  go_wp2_with fail
  refine Calls.mono (runsigned_any Rb B _ t _ p2.out) ?_
  rintro r w3 (⟨x, hx, rfl, k⟩ | ⟨v3, r3, hx, rfl, p, k⟩)
  · exact ⟨rfl, .inl ⟨x, by rw [hE.out, show pL (pU t) 4 zs = .inl x by simp only [pL, pbind, h1.out, h2.out, hx]]; rfl, rfl, k2.out.trans k⟩⟩
  have h3 : Hid (pU t r2 = .inr (v3, r3)) := hx
  have p3 : Hid (PR w3 Rb B r3 t) := p
  have k3 : Hid (Wr.Kept [B] w w3) := k2.out.trans k
  have s3 : w.heap.size + 1 ≤ w3.heap.size := Nat.le_trans s2 k.2.2.2.1
  have b3 : Hid (w3.heap[w.heap.size]? = some (.cells #[.int .i64 0, .int .i64 0, .int .i64 0, .int .i64 0, .int .i64 0, .int .i64 0, .int .i64 0, .int .i64 0, .int .i64 0, .int .i64 0, .int .i64 0, .int .i64 0, .slice none 0 0, .slice none 0 0, .int .i64 0, .int .i64 0, .int .i64 0, .int .i64 0, .int .i64 0, .int .i64 0, .int .i64 0, .int .i64 0] 50 (0, 0))) := (k.2.2.2.2 _ (lt_of_heap b2.out) (by simp; omega)).trans b2.out
  clear hx p k p2 k2 s2 b2
  go_wp2_with fail
  refine Calls.mono (runsigned_any Rb B _ t _ p3.out) ?_
  rintro r w4 (⟨x, hx, rfl, k⟩ | ⟨v4, r4, hx, rfl, p, k⟩)
  · exact ⟨rfl, .inl ⟨x, by rw [hE.out, show pL (pU t) 4 zs = .inl x by simp only [pL, pbind, h1.out, h2.out, h3.out, hx]]; rfl, rfl, k3.out.trans k⟩⟩
  have h4 : Hid (pU t r3 = .inr (v4, r4)) := hx
  have p4 : Hid (PR w4 Rb B r4 t) := p
  have k4 : Hid (Wr.Kept [B] w w4) := k3.out.trans k
  have s4 : w.heap.size + 1 ≤ w4.heap.size := Nat.le_trans s3 k.2.2.2.1
  have b4 : Hid (w4.heap[w.heap.size]? = some (.cells #[.int .i64 0, .int .i64 0, .int .i64 0, .int .i64 0, .int .i64 0, .int .i64 0, .int .i64 0, .int .i64 0, .int .i64 0, .int .i64 0, .int .i64 0, .int .i64 0, .slice none 0 0, .slice none 0 0, .int .i64 0, .int .i64 0, .int .i64 0, .int .i64 0, .int .i64 0, .int .i64 0, .int .i64 0, .int .i64 0] 50 (0, 0))) := (k.2.2.2.2 _ (lt_of_heap b3.out) (by simp; omega)).trans b3.out
  clear hx p k p3 k3 s3 b3
  have a4 : Hid (pL (pU t) 4 zs = .inr ([v1, v2, v3, v4], r4)) := by simp only [Hid, pL, pbind, h1.out, h2.out, h3.out, h4.out]
  clear h1 h2 h3 h4
  go_wp2_with fail
  refine Calls.mono (rwindow_any Rb B _ t _ p4.out) ?_
  rintro r w5 (⟨x, hx, rfl, k⟩ | ⟨u1, u2, u3, u4, u5, u6, u7, u8, r5, hx, rfl, p, k⟩)
  · exact ⟨rfl, .inl ⟨x, by rw [hE.out, a4.out, pbind_r, hx]; rfl, rfl, k4.out.trans k⟩⟩
  have h5 : Hid (pL (pU t) 8 r4 = .inr ([u1, u2, u3, u4, u5, u6, u7, u8], r5)) := hx
  have p5 : Hid (PR w5 Rb B r5 t) := p
  have k5 : Hid (Wr.Kept [B] w w5) := k4.out.trans k
  have s5 : w.heap.size + 1 ≤ w5.heap.size := Nat.le_trans s4 k.2.2.2.1
  have b5 : Hid (w5.heap[w.heap.size]? = some (.cells #[.int .i64 0, .int .i64 0, .int .i64 0, .int .i64 0, .int .i64 0, .int .i64 0, .int .i64 0, .int .i64 0, .int .i64 0, .int .i64 0, .int .i64 0, .int .i64 0, .slice none 0 0, .slice none 0 0, .int .i64 0, .int .i64 0, .int .i64 0, .int .i64 0, .int .i64 0, .int .i64 0, .int .i64 0, .int .i64 0] 50 (0, 0))) := (k.2.2.2.2 _ (lt_of_heap b4.out) (by simp; omega)).trans b4.out
  clear hx p k p4 k4 s4 b4
  go_wp2_with fail
  refine Calls.mono (take_i16 Rb B _ t 131072 _ p5.out (by omega) (by omega)) ?_
  rintro r w6 (⟨x, hx, rfl, k⟩ | ⟨z, r6, v, hx, hl, rfl, ow, p, k⟩)
  · exact ⟨rfl, .inl ⟨x, by rw [hE.out, a4.out, pbind_r, h5.out, pbind_r, hx]; rfl, rfl, k5.out.trans k⟩⟩
  have h6 : Hid (pT t 131072 (p16 t) r5 = .inr (z, r6)) := hx
  have p6 : Hid (PR w6 Rb B r6 t) := p
  have k6 : Hid (Wr.Kept [B] w w6) := k5.out.trans k
  have s6 : w.heap.size + 1 ≤ w6.heap.size := Nat.le_trans s5 k.2.2.2.1
  have b6 : Hid (w6.heap[w.heap.size]? = some (.cells #[.int .i64 0, .int .i64 0, .int .i64 0, .int .i64 0, .int .i64 0, .int .i64 0, .int .i64 0, .int .i64 0, .int .i64 0, .int .i64 0, .int .i64 0, .int .i64 0, .slice none 0 0, .slice none 0 0, .int .i64 0, .int .i64 0, .int .i64 0, .int .i64 0, .int .i64 0, .int .i64 0, .int .i64 0, .int .i64 0] 50 (0, 0))) := (k.2.2.2.2 _ (lt_of_heap b5.out) (by simp; omega)).trans b5.out
  obtain ⟨wa, lw, cw, rfl, hlw⟩ : ∃ wa lw cw, v = .slice wa lw cw ∧ z.length = lw := by
    obtain ⟨a, c, e, -⟩ := ow.row
    exact ⟨a, _, c, e, rfl⟩
  have lw6 : lw ≤ 131072 := by omega
  have oz6 : Hid (Own .i16 51 w6 (w.heap.size + 1) (.slice wa lw cw) z) := ow.base s5
  clear ow hl hlw
  clear hx p k p5 k5 s5 b5
  go_wp2_with fail
  refine Calls.mono (take_i32 Rb B _ t 1024 _ p6.out (by omega) (by omega)) ?_
  rintro r w7 (⟨x, hx, rfl, k⟩ | ⟨bb, r7, v, hx, hl, rfl, ow, p, k⟩)
  · exact ⟨rfl, .inl ⟨x, by rw [hE.out, a4.out, pbind_r, h5.out, pbind_r, h6.out, pbind_r, hx]; rfl, rfl, k6.out.trans k⟩⟩
  have h7 : Hid (pT t 1024 (p32 t) r6 = .inr (bb, r7)) := hx
  have p7 : Hid (PR w7 Rb B r7 t) := p
  have k7 : Hid (Wr.Kept [B] w w7) := k6.out.trans k
  have s7 : w.heap.size + 1 ≤ w7.heap.size := Nat.le_trans s6 k.2.2.2.1
  have b7 : Hid (w7.heap[w.heap.size]? = some (.cells #[.int .i64 0, .int .i64 0, .int .i64 0, .int .i64 0, .int .i64 0, .int .i64 0, .int .i64 0, .int .i64 0, .int .i64 0, .int .i64 0, .int .i64 0, .int .i64 0, .slice none 0 0, .slice none 0 0, .int .i64 0, .int .i64 0, .int .i64 0, .int .i64 0, .int .i64 0, .int .i64 0, .int .i64 0, .int .i64 0] 50 (0, 0))) := (k.2.2.2.2 _ (lt_of_heap b6.out) (by simp; omega)).trans b6.out
  have oz7 : Hid (Own .i16 51 w7 (w.heap.size + 1) (.slice wa lw cw) z) := own_kept oz6.out k (by omega)
  obtain ⟨ba, lb, cb, rfl, hlb⟩ : ∃ ba lb cb, v = .slice ba lb cb ∧ bb.length = lb := by
    obtain ⟨a, c, e, -⟩ := ow.row
    exact ⟨a, _, c, e, rfl⟩
  have lb7 : lb ≤ 1024 := by omega
  have ob7 : Hid (Own .i32 21 w7 (w.heap.size + 1) (.slice ba lb cb) bb) := ow.base s6
  clear ow hl hlb
  clear hx p k p6 k6 s6 b6 oz6
  go_wp2_with fail
  refine Calls.mono (scale_any Rb B _ t _ p7.out) ?_
  rintro r w8 (⟨x, hx, rfl, k⟩ | ⟨x1, x2, r8, hx, rfl, p, k⟩)
  · exact ⟨rfl, .inl ⟨x, by rw [hE.out, a4.out, pbind_r, h5.out, pbind_r, h6.out, pbind_r, h7.out, pbind_r, hx]; rfl, rfl, k7.out.trans k⟩⟩
  have h8 : Hid (pL (pU t) 2 r7 = .inr ([x1, x2], r8)) := hx
  have p8 : Hid (PR w8 Rb B r8 t) := p
  have k8 : Hid (Wr.Kept [B] w w8) := k7.out.trans k
  have s8 : w.heap.size + 1 ≤ w8.heap.size := Nat.le_trans s7 k.2.2.2.1
  have b8 : Hid (w8.heap[w.heap.size]? = some (.cells #[.int .i64 0, .int .i64 0, .int .i64 0, .int .i64 0, .int .i64 0, .int .i64 0, .int .i64 0, .int .i64 0, .int .i64 0, .int .i64 0, .int .i64 0, .int .i64 0, .slice none 0 0, .slice none 0 0, .int .i64 0, .int .i64 0, .int .i64 0, .int .i64 0, .int .i64 0, .int .i64 0, .int .i64 0, .int .i64 0] 50 (0, 0))) := (k.2.2.2.2 _ (lt_of_heap b7.out) (by simp; omega)).trans b7.out
  have oz8 : Hid (Own .i16 51 w8 (w.heap.size + 1) (.slice wa lw cw) z) := own_kept oz7.out k (by omega)
  have ob8 : Hid (Own .i32 21 w8 (w.heap.size + 1) (.slice ba lb cb) bb) := own_kept ob7.out k (by omega)
  clear hx p k p7 k7 s7 b7 oz7 ob7
  go_wp2_with fail
  refine Calls.mono (scale_any Rb B _ t _ p8.out) ?_
  rintro r w9 (⟨x, hx, rfl, k⟩ | ⟨x3, x4, r9, hx, rfl, p, k⟩)
  · exact ⟨rfl, .inl ⟨x, by rw [hE.out, a4.out, pbind_r, h5.out, pbind_r, h6.out, pbind_r, h7.out, pbind_r, h8.out, pbind_r, hx]; rfl, rfl, k8.out.trans k⟩⟩
  have h9 : Hid (pL (pU t) 2 r8 = .inr ([x3, x4], r9)) := hx
  have p9 : Hid (PR w9 Rb B r9 t) := p
  have k9 : Hid (Wr.Kept [B] w w9) := k8.out.trans k
  have s9 : w.heap.size + 1 ≤ w9.heap.size := Nat.le_trans s8 k.2.2.2.1
  have b9 : Hid (w9.heap[w.heap.size]? = some (.cells #[.int .i64 0, .int .i64 0, .int .i64 0, .int .i64 0, .int .i64 0, .int .i64 0, .int .i64 0, .int .i64 0, .int .i64 0, .int .i64 0, .int .i64 0, .int .i64 0, .slice none 0 0, .slice none 0 0, .int .i64 0, .int .i64 0, .int .i64 0, .int .i64 0, .int .i64 0, .int .i64 0, .int .i64 0, .int .i64 0] 50 (0, 0))) := (k.2.2.2.2 _ (lt_of_heap b8.out) (by simp; omega)).trans b8.out
  have oz9 : Hid (Own .i16 51 w9 (w.heap.size + 1) (.slice wa lw cw) z) := own_kept oz8.out k (by omega)
  have ob9 : Hid (Own .i32 21 w9 (w.heap.size + 1) (.slice ba lb cb) bb) := own_kept ob8.out k (by omega)
  clear hx p k p8 k8 s8 b8 oz8 ob8
  go_wp2_with fail
  refine Calls.mono (whole_any Rb B _ t _ p9.out) ?_
  rintro r w10 (⟨x, hx, rfl, k⟩ | ⟨y1, r10, hx, rfl, p, k⟩)
  · exact ⟨rfl, .inl ⟨x, by rw [hE.out, a4.out, pbind_r, h5.out, pbind_r, h6.out, pbind_r, h7.out, pbind_r, h8.out, pbind_r, h9.out, pbind_r, show pL (p32 t) 4 r9 = .inl x by simp only [pL, pbind, hx]]; rfl, rfl, k9.out.trans k⟩⟩
  have h10 : Hid (p32 t r9 = .inr (y1, r10)) := hx
  have p10 : Hid (PR w10 Rb B r10 t) := p
  have k10 : Hid (Wr.Kept [B] w w10) := k9.out.trans k
  have s10 : w.heap.size + 1 ≤ w10.heap.size := Nat.le_trans s9 k.2.2.2.1
  have b10 : Hid (w10.heap[w.heap.size]? = some (.cells #[.int .i64 0, .int .i64 0, .int .i64 0, .int .i64 0, .int .i64 0, .int .i64 0, .int .i64 0, .int .i64 0, .int .i64 0, .int .i64 0, .int .i64 0, .int .i64 0, .slice none 0 0, .slice none 0 0, .int .i64 0, .int .i64 0, .int .i64 0, .int .i64 0, .int .i64 0, .int .i64 0, .int .i64 0, .int .i64 0] 50 (0, 0))) := (k.2.2.2.2 _ (lt_of_heap b9.out) (by simp; omega)).trans b9.out
  have oz10 : Hid (Own .i16 51 w10 (w.heap.size + 1) (.slice wa lw cw) z) := own_kept oz9.out k (by omega)
  have ob10 : Hid (Own .i32 21 w10 (w.heap.size + 1) (.slice ba lb cb) bb) := own_kept ob9.out k (by omega)
  clear hx p k p9 k9 s9 b9 oz9 ob9
  go_wp2_with fail
  refine Calls.mono (whole_any Rb B _ t _ p10.out) ?_
  rintro r w11 (⟨x, hx, rfl, k⟩ | ⟨y2, r11, hx, rfl, p, k⟩)
  · exact ⟨rfl, .inl ⟨x, by rw [hE.out, a4.out, pbind_r, h5.out, pbind_r, h6.out, pbind_r, h7.out, pbind_r, h8.out, pbind_r, h9.out, pbind_r, show pL (p32 t) 4 r9 = .inl x by simp only [pL, pbind, h10.out, hx]]; rfl, rfl, k10.out.trans k⟩⟩
  have h11 : Hid (p32 t r10 = .inr (y2, r11)) := hx
  have p11 : Hid (PR w11 Rb B r11 t) := p
  have k11 : Hid (Wr.Kept [B] w w11) := k10.out.trans k
  have s11 : w.heap.size + 1 ≤ w11.heap.size := Nat.le_trans s10 k.2.2.2.1
  have b11 : Hid (w11.heap[w.heap.size]? = some (.cells #[.int .i64 0, .int .i64 0, .int .i64 0, .int .i64 0, .int .i64 0, .int .i64 0, .int .i64 0, .int .i64 0, .int .i64 0, .int .i64 0, .int .i64 0, .int .i64 0, .slice none 0 0, .slice none 0 0, .int .i64 0, .int .i64 0, .int .i64 0, .int .i64 0, .int .i64 0, .int .i64 0, .int .i64 0, .int .i64 0] 50 (0, 0))) := (k.2.2.2.2 _ (lt_of_heap b10.out) (by simp; omega)).trans b10.out
  have oz11 : Hid (Own .i16 51 w11 (w.heap.size + 1) (.slice wa lw cw) z) := own_kept oz10.out k (by omega)
  have ob11 : Hid (Own .i32 21 w11 (w.heap.size + 1) (.slice ba lb cb) bb) := own_kept ob10.out k (by omega)
  clear hx p k p10 k10 s10 b10 oz10 ob10
  go_wp2_with fail
  refine Calls.mono (whole_any Rb B _ t _ p11.out) ?_
  rintro r w12 (⟨x, hx, rfl, k⟩ | ⟨y3, r12, hx, rfl, p, k⟩)
  · exact ⟨rfl, .inl ⟨x, by rw [hE.out, a4.out, pbind_r, h5.out, pbind_r, h6.out, pbind_r, h7.out, pbind_r, h8.out, pbind_r, h9.out, pbind_r, show pL (p32 t) 4 r9 = .inl x by simp only [pL, pbind, h10.out, h11.out, hx]]; rfl, rfl, k11.out.trans k⟩⟩
  have h12 : Hid (p32 t r11 = .inr (y3, r12)) := hx
  have p12 : Hid (PR w12 Rb B r12 t) := p
  have k12 : Hid (Wr.Kept [B] w w12) := k11.out.trans k
  have s12 : w.heap.size + 1 ≤ w12.heap.size := Nat.le_trans s11 k.2.2.2.1
  have b12 : Hid (w12.heap[w.heap.size]? = some (.cells #[.int .i64 0, .int .i64 0, .int .i64 0, .int .i64 0, .int .i64 0, .int .i64 0, .int .i64 0, .int .i64 0, .int .i64 0, .int .i64 0, .int .i64 0, .int .i64 0, .slice none 0 0, .slice none 0 0, .int .i64 0, .int .i64 0, .int .i64 0, .int .i64 0, .int .i64 0, .int .i64 0, .int .i64 0, .int .i64 0] 50 (0, 0))) := (k.2.2.2.2 _ (lt_of_heap b11.out) (by simp; omega)).trans b11.out
  have oz12 : Hid (Own .i16 51 w12 (w.heap.size + 1) (.slice wa lw cw) z) := own_kept oz11.out k (by omega)
  have ob12 : Hid (Own .i32 21 w12 (w.heap.size + 1) (.slice ba lb cb) bb) := own_kept ob11.out k (by omega)
  clear hx p k p11 k11 s11 b11 oz11 ob11
  go_wp2_with fail
  refine Calls.mono (whole_any Rb B _ t _ p12.out) ?_
  rintro r w13 (⟨x, hx, rfl, k⟩ | ⟨y4, r13, hx, rfl, p, k⟩)
  · exact ⟨rfl, .inl ⟨x, by rw [hE.out, a4.out, pbind_r, h5.out, pbind_r, h6.out, pbind_r, h7.out, pbind_r, h8.out, pbind_r, h9.out, pbind_r, show pL (p32 t) 4 r9 = .inl x by simp only [pL, pbind, h10.out, h11.out, h12.out, hx]]; rfl, rfl, k12.out.trans k⟩⟩
  have h13 : Hid (p32 t r12 = .inr (y4, r13)) := hx
  have p13 : Hid (PR w13 Rb B r13 t) := p
  have k13 : Hid (Wr.Kept [B] w w13) := k12.out.trans k
  have s13 : w.heap.size + 1 ≤ w13.heap.size := Nat.le_trans s12 k.2.2.2.1
  have b13 : Hid (w13.heap[w.heap.size]? = some (.cells #[.int .i64 0, .int .i64 0, .int .i64 0, .int .i64 0, .int .i64 0, .int .i64 0, .int .i64 0, .int .i64 0, .int .i64 0, .int .i64 0, .int .i64 0, .int .i64 0, .slice none 0 0, .slice none 0 0, .int .i64 0, .int .i64 0, .int .i64 0, .int .i64 0, .int .i64 0, .int .i64 0, .int .i64 0, .int .i64 0] 50 (0, 0))) := (k.2.2.2.2 _ (lt_of_heap b12.out) (by simp; omega)).trans b12.out
  have oz13 : Hid (Own .i16 51 w13 (w.heap.size + 1) (.slice wa lw cw) z) := own_kept oz12.out k (by omega)
  have ob13 : Hid (Own .i32 21 w13 (w.heap.size + 1) (.slice ba lb cb) bb) := own_kept ob12.out k (by omega)
  clear hx p k p12 k12 s12 b12 oz12 ob12
  have hP : Hid (pOp t zs = .inr (dOp (oL v1 v2 v3 v4 u1 u2 u3 u4 u5 u6 u7 u8 lw lb x1 x2 x3 x4 y1 y2 y3 y4) z bb, r13)) := by
    unfold Hid
    rw [hE.out, a4.out, pbind_r, h5.out, pbind_r, h6.out, pbind_r, h7.out, pbind_r, h8.out, pbind_r, h9.out, pbind_r, show pL (p32 t) 4 r9 = .inr ([y1, y2, y3, y4], r13) by simp only [pL, pbind, h10.out, h11.out, h12.out, h13.out]]
    rfl
  have q : Hid (PR (w13.setRow w.heap.size #[.int .i64 v1, .int .i64 v2, .int .i64 v3, .int .i64 v4, .int .i64 u1, .int .i64 u2, .int .i64 u3, .int .i64 u4, .int .i64 u5, .int .i64 u6, .int .i64 u7, .int .i64 u8, .slice wa lw cw, .slice ba lb cb, .int .i64 x1, .int .i64 x2, .int .i64 x3, .int .i64 x4, .int .i64 y1, .int .i64 y2, .int .i64 y3, .int .i64 y4]) Rb B r13 t ∧ Wr.Kept [B] w (w13.setRow w.heap.size #[.int .i64 v1, .int .i64 v2, .int .i64 v3, .int .i64 v4, .int .i64 u1, .int .i64 u2, .int .i64 u3, .int .i64 u4, .int .i64 u5, .int .i64 u6, .int .i64 u7, .int .i64 u8, .slice wa lw cw, .slice ba lb cb, .int .i64 x1, .int .i64 x2, .int .i64 x3, .int .i64 x4, .int .i64 y1, .int .i64 y2, .int .i64 y3, .int .i64 y4]) ∧ (w13.setRow w.heap.size #[.int .i64 v1, .int .i64 v2, .int .i64 v3, .int .i64 v4, .int .i64 u1, .int .i64 u2, .int .i64 u3, .int .i64 u4, .int .i64 u5, .int .i64 u6, .int .i64 u7, .int .i64 u8, .slice wa lw cw, .slice ba lb cb, .int .i64 x1, .int .i64 x2, .int .i64 x3, .int .i64 x4, .int .i64 y1, .int .i64 y2, .int .i64 y3, .int .i64 y4]).heap[w.heap.size]? = some (.cells #[.int .i64 v1, .int .i64 v2, .int .i64 v3, .int .i64 v4, .int .i64 u1, .int .i64 u2, .int .i64 u3, .int .i64 u4, .int .i64 u5, .int .i64 u6, .int .i64 u7, .int .i64 u8, .slice wa lw cw, .slice ba lb cb, .int .i64 x1, .int .i64 x2, .int .i64 x3, .int .i64 x4, .int .i64 y1, .int .i64 y2, .int .i64 y3, .int .i64 y4] 50 (0, 0))) := ⟨p13.out.keep (below_row hlt), kept_row k13.out (Nat.le_refl _), setRow_heap _ _ _ _ _ _ b13.out⟩
  have qz : Hid (Own .i16 51 (w13.setRow w.heap.size #[.int .i64 v1, .int .i64 v2, .int .i64 v3, .int .i64 v4, .int .i64 u1, .int .i64 u2, .int .i64 u3, .int .i64 u4, .int .i64 u5, .int .i64 u6, .int .i64 u7, .int .i64 u8, .slice wa lw cw, .slice ba lb cb, .int .i64 x1, .int .i64 x2, .int .i64 x3, .int .i64 x4, .int .i64 y1, .int .i64 y2, .int .i64 y3, .int .i64 y4]) (w.heap.size + 1) (.slice wa lw cw) z) := own_row oz13.out (by omega)
  have qb : Hid (Own .i32 21 (w13.setRow w.heap.size #[.int .i64 v1, .int .i64 v2, .int .i64 v3, .int .i64 v4, .int .i64 u1, .int .i64 u2, .int .i64 u3, .int .i64 u4, .int .i64 u5, .int .i64 u6, .int .i64 u7, .int .i64 u8, .slice wa lw cw, .slice ba lb cb, .int .i64 x1, .int .i64 x2, .int .i64 x3, .int .i64 x4, .int .i64 y1, .int .i64 y2, .int .i64 y3, .int .i64 y4]) (w.heap.size + 1) (.slice ba lb cb) bb) := own_row ob13.out (by omega)
  have bn := b13.out
  clear p13 k13 b13 oz13 ob13 hE a4 h5 h6 h7 h8 h9 h10 h11 h12 h13
  go_wp2_with (refine wpList_store_row rfl 50 (.tmp 2) (.tmp 29) rfl w.heap.size #[.int .i64 v1, .int .i64 v2, .int .i64 v3, .int .i64 v4, .int .i64 u1, .int .i64 u2, .int .i64 u3, .int .i64 u4, .int .i64 u5, .int .i64 u6, .int .i64 u7, .int .i64 u8, .slice wa lw cw, .slice ba lb cb, .int .i64 x1, .int .i64 x2, .int .i64 x3, .int .i64 x4, .int .i64 y1, .int .i64 y2, .int .i64 y3, .int .i64 y4] rfl rfl 50 _ bn (by kernel_rfl) rfl (by simp [Value.oneCell']) ?_)
  exact bodyPost_ret (results_cell_row Try.results76 _ _ w.heap.size 50 _ (0, 0) _ rfl q.out.2.2 Try.underlying50 rfl (by kernel_rfl)) rfl (.inr ⟨oL v1 v2 v3 v4 u1 u2 u3 u4 u5 u6 u7 u8 lw lb x1 x2 x3 x4 y1 y2 y3 y4, z, bb, wa, lw, cw, ba, lb, cb, _, hP.out, rfl, rfl, lw6, lb7, rfl, qz.out, qb.out, q.out.1, q.out.2.1⟩)
end Go.Proofs.Ythagdpiocmcbmaa

/- The reader of package pack: the ops. -/
namespace Go.Proofs.Ythagdpiocmcbmaa
open Wr
open Go.ChangeShapes Go.WideShapes Go.ChangeAt Go.RowKit
set_option linter.unusedVariables false
def upA {α : Type} (f : Nat → α) (k : Nat) (x : α) (q : Nat) : α := if q = k then x else f q
theorem upA_same {α : Type} (f : Nat → α) (k : Nat) (x : α) : upA f k x k = x := if_pos rfl
theorem upA_ne {α : Type} (f : Nat → α) {k q : Nat} (x : α) (h : q ≠ k) : upA f k x q = f q := if_neg h
theorem dOps_up (O : Nat → Nat → Int) (Z B : Nat → List Int) (k : Nat) (o : Nat → Int) (z b : List Int) : dOps (upA O k o) (upA Z k z) (upA B k b) (k + 1) = dOps O Z B k ++ [dOp o z b] := by
  rw [dOps_succ, upA_same, upA_same, upA_same]
  congr 1
  unfold dOps
  refine List.map_congr_left fun i hi => ?_
  have : i ≠ k := by have := List.mem_range.1 hi; omega
  rw [upA_ne _ _ this, upA_ne _ _ this, upA_ne _ _ this]
theorem CRow.up {w : World} {base : Nat} {v : Value} {k : Nat} {O : Nat → Nat → Int} {Z B : Nat → List Int} (h : CRow w base v k O Z B) (o : Nat → Int) (z b : List Int) : CRow w base v k (upA O k o) (upA Z k z) (upA B k b) := by
  obtain ⟨xs, h1, h2⟩ := h
  refine ⟨xs, h1, fun q hq => ?_⟩
  have : q ≠ k := by omega
  rw [upA_ne _ _ this, upA_ne _ _ this, upA_ne _ _ this]
  exact h2 q hq
theorem own_keptL {k : IntKind} {T : TypeId} {w w' : World} {base : Nat} {v : Value} {zs : List Int} {L : List Nat} (h : Own k T w base v zs) (q : Wr.Kept L w w') (hL : ∀ i ∈ L, i < base) : Own k T w' base v zs := by
  refine ⟨⟨h.1.1, ?_⟩, h.2⟩
  rcases h.1.2 with h0 | ⟨g, cap, cur, h1, h2, h3, h4⟩
  · exact .inl h0
  · exact .inr ⟨g, cap, cur, h1, h2, (q.2.2.2.2 g (lt_of_heap h3) (fun e => by have := hL g e; omega)).trans h3, h4⟩
theorem CRow.kept {w w' : World} {base : Nat} {v : Value} {i : Nat} {O : Nat → Nat → Int} {Z B : Nat → List Int} {L : List Nat} (h : CRow w base v i O Z B) (q : Wr.Kept L w w') (hL : ∀ i ∈ L, i < base) : CRow w' base v i O Z B := by
  obtain ⟨xs, h1, h2⟩ := h
  refine ⟨xs, ⟨h1.1, ?_⟩, fun r hr => ?_⟩
  · rcases h1.2 with h0 | ⟨g, cap, cur, e1, e2, e3, e4⟩
    · exact .inl h0
    · exact .inr ⟨g, cap, cur, e1, e2, (q.2.2.2.2 g (lt_of_heap e3) (fun e => by have := hL g e; omega)).trans e3, e4⟩
  · obtain ⟨wa, lw, cw, ba, lb, cb, e1, e2, e3, e4, e5, e6⟩ := h2 r hr
    exact ⟨wa, lw, cw, ba, lb, cb, e1, e2, e3, own_keptL e4 q hL, own_keptL e5 q hL, e6⟩
theorem kept_belowL {w w1 w2 : World} {L : List Nat} (k : Wr.Kept L w w1) (h : Below w.heap.size w1 w2) : Wr.Kept L w w2 :=
  ⟨h.os.trans k.1, h.tape.trans k.2.1, h.output.trans k.2.2.1, Nat.le_trans k.2.2.2.1 h.size, fun i hi hB => (h.block i hi).trans (k.2.2.2.2 i hi hB)⟩
theorem prc_noB {w : World} {Rb B : Nat} {t : Int} (h : PRc w Rb B t) : NoB w Rb := by
  refine ⟨_, _, h, fun i v e => ?_⟩
  match i, e with
  | 0, e => simp at e
  | 1, e => simp at e
  | n + 2, e => simp at e
/-- The op within which a reader is. -/
theorem PR.op {w : World} {Rb B : Nat} {zs : List Int} {t : Int} (h : PR w Rb B zs t) (t' : Int) : PR (w.setCell ⟨Rb, 1, none⟩ (.int .i64 t')) Rb B zs t' := by
  have hne := h.ne
  obtain ⟨h1, ⟨a, len, cap, h2, h3, h4⟩, h5⟩ := h
  exact ⟨heap_setCell_at h1, ⟨a, len, cap, by rw [Below.heap_setCell _ _ _ _ (fun e => hne e.symm)]; exact h2, h3.kept Kept.set (by simpa using prc_noB h1), h4⟩, h5⟩
def preO (d : List OpD) (x : Sum (Int × Int) (List OpD × List Int)) : Sum (Int × Int) (List OpD × List Int) := pbind x fun l r => .inr (d ++ l, r)
theorem preO_nil (x : Sum (Int × Int) (List OpD × List Int)) : preO [] x = x := by
  match x with
  | .inl e => rfl
  | .inr (l, r) => rfl
theorem preO_ok {d : List OpD} {r rs : List Int} {n k : Nat} {v : OpD} (h : pOp ((k : Int) + 1) r = .inr (v, rs)) : preO d (pOps (n + 1) k r) = preO (d ++ [v]) (pOps n (k + 1) rs) := by
  unfold preO
  rw [pOps, h, pbind_r]
  match pOps n (k + 1) rs with
  | .inl e => rfl
  | .inr (l, r') => simp [pbind]
theorem preO_bad {d : List OpD} {r : List Int} {n k : Nat} {x : Int × Int} (h : pOp ((k : Int) + 1) r = .inl x) : preO d (pOps (n + 1) k r) = .inl x := by
  unfold preO
  rw [pOps, h]; rfl
def pTO (zs : List Int) : Sum (Int × Int) (List OpD × List Int) := pbind (pN 0 64 zs) fun n r => pOps n.toNat 0 r
set_option maxHeartbeats 4000000 in
set_option maxRecDepth 100000 in
theorem rops_any (Rb B : Nat) (zs : List Int) (w : World) (h : PR w Rb B zs 0) :
    Calls Try.prog 53 #[(.pointer (some ⟨Rb, 0, none⟩))] w fun r w' => (∃ x, pTO zs = .inl x ∧ r = fpan x.1 x.2 ∧ Wr.Kept [B, Rb] w w') ∨
      ∃ (n : Nat) (O : Nat → Nat → Int) (Z Bs : Nat → List Int) (v : Value) (rs : List Int), pTO zs = .inr (dOps O Z Bs n, rs) ∧ n ≤ 64 ∧ r = .returned v ∧ CRow w' w.heap.size v n O Z Bs ∧ PR w' Rb B rs 0 ∧ Wr.Kept [B, Rb] w w' := by
  have hlt := h.ltB
  have hRB := h.2.2
  have H : Hid _ := rcount_any Rb B zs 0 64 w h (by omega) (by omega)
  clear h
  go_enter Try.func53, Try.ntmps53
  go_wp2_with fail
  refine Calls.mono H.out ?_
  rintro r w1 (⟨x, hx, rfl, k⟩ | ⟨n, r0, hx, hn, rfl, p, k⟩)
  · exact ⟨rfl, .inl ⟨x, by simp only [pTO, pbind, hx], rfl, k.wide (by simp)⟩⟩
  have hP : Hid (pTO zs = preO [] (pOps n 0 r0)) := by simp only [Hid, pTO, hx, pbind_r, Int.toNat_natCast, preO_nil]
  have hp0 : Hid (PR w1 Rb B r0 0 ∧ Wr.Kept [B, Rb] w w1) := ⟨p, k.wide (by simp)⟩
  have hn64 : n ≤ 64 := by omega
  clear hx p k H hn
  go_wp2
  go_loopw [3, 7] (fun l i wr => ∃ (k : Nat) (O : Nat → Nat → Int) (Z Bs : Nat → List Int) (rs : List Int) (tt : Int), k ≤ n ∧ i = .int .i64 k ∧ preO [] (pOps n 0 r0) = preO (dOps O Z Bs k) (pOps (n - k) k rs) ∧ CRow wr w.heap.size l k O Z Bs ∧ PR wr Rb B rs tt ∧ Wr.Kept [B, Rb] w wr) (fun _ i _ => n - (intOf i).toNat)
  case atStart => exact ⟨0, fun _ _ => 0, fun _ => [], fun _ => [], r0, 0, Nat.zero_le _, rfl, rfl, CRow.nil _ _ _ _ _, hp0.out.1, hp0.out.2⟩
  case round =>
    obtain ⟨k, O, Z, Bs, rs, tt, hk, rfl, hE, hC, hp, hK⟩ := hrel
    have hsz := hK.2.2.2.1
    have hE' : Hid (preO [] (pOps n 0 r0) = preO (dOps O Z Bs k) (pOps (n - k) k rs)) := hE
    have hK' : Hid (Wr.Kept [B, Rb] w wr) := hK
    obtain ⟨la, lc, rfl⟩ := hC.slice
    have hC' : Hid (CRow wr w.heap.size (.slice la k lc) k O Z Bs) := hC
    obtain ⟨c1, f1, y1⟩ := cells_at hp.1
    clear hE hK hC hp0
    by_cases hlk : k < n
    · obtain ⟨m, hm⟩ : ∃ m, n - k = m + 1 := ⟨n - k - 1, by omega⟩
      have hm' : Hid (n - k = m + 1) := hm
      have hp1 := hp.op ((k : Int) + 1)
      have H : Hid _ := oneop_any Rb B rs ((k : Int) + 1) _ hp1
      have hC1 : Hid (CRow (wr.setCell ⟨Rb, 1, none⟩ (.int .i64 ((k : Int) + 1))) w.heap.size (.slice la k lc) k O Z Bs) := hC'.out.kept (L := [Rb]) Kept.set (by simp; omega)
      have hK1 : Hid (Wr.Kept [B, Rb] w (wr.setCell ⟨Rb, 1, none⟩ (.int .i64 ((k : Int) + 1)))) := hK'.out.trans ((Kept.set (B := Rb)).wide (by simp))
      clear hp hp1 hm hK' hC'
      go_wp2_with fail
      refine Calls.mono H.out ?_
      rintro r w2 (⟨x, hx, rfl, k2⟩ | ⟨o, z, b, wa, lw, cw, ba, lb, cb, r2, hx, o12, o13, l1, l2, rfl, oz, ob, p2, k2⟩)
      · exact ⟨rfl, .inl ⟨x, by rw [hP.out, hE'.out, hm'.out]; exact preO_bad hx, rfl, hK1.out.trans (k2.wide (by simp))⟩⟩
      have hs2 := k2.2.2.2.1
      simp only [World.size_setCell] at hs2 oz ob
      have hbw : Hid (Below w2.heap.size w2 (w2.alloc (.cells #[.int .i64 (o 0), .int .i64 (o 1), .int .i64 (o 2), .int .i64 (o 3), .int .i64 (o 4), .int .i64 (o 5), .int .i64 (o 6), .int .i64 (o 7), .int .i64 (o 8), .int .i64 (o 9), .int .i64 (o 10), .int .i64 (o 11), .slice wa lw cw, .slice ba lb cb, .int .i64 (o 14), .int .i64 (o 15), .int .i64 (o 16), .int .i64 (o 17), .int .i64 (o 18), .int .i64 (o 19), .int .i64 (o 20), .int .i64 (o 21)] 50))) := bal _ _
      have hC2 := (((hC1.out.kept (k2.wide (M := [B, Rb]) (by simp)) (by simp; omega)).below hbw.out).up o z b)
      obtain ⟨xs, hxs, hall⟩ := hC2
      have HX : Hid (World.ownsRow _ _ _ _ _ _ _) := hxs
      have HA : Hid (∀ q, q < k → _) := hall
      have HCC : Hid (CRow _ _ _ _ _ _ _) := ⟨xs, hxs, hall⟩
      have HZ : Hid (Own .i16 51 (w2.alloc (.cells #[.int .i64 (o 0), .int .i64 (o 1), .int .i64 (o 2), .int .i64 (o 3), .int .i64 (o 4), .int .i64 (o 5), .int .i64 (o 6), .int .i64 (o 7), .int .i64 (o 8), .int .i64 (o 9), .int .i64 (o 10), .int .i64 (o 11), .slice wa lw cw, .slice ba lb cb, .int .i64 (o 14), .int .i64 (o 15), .int .i64 (o 16), .int .i64 (o 17), .int .i64 (o 18), .int .i64 (o 19), .int .i64 (o 20), .int .i64 (o 21)] 50)) w.heap.size (.slice wa lw cw) (upA Z k z k)) := by rw [upA_same]; exact (oz.base (by omega)).below hbw.out
      have HB : Hid (Own .i32 21 (w2.alloc (.cells #[.int .i64 (o 0), .int .i64 (o 1), .int .i64 (o 2), .int .i64 (o 3), .int .i64 (o 4), .int .i64 (o 5), .int .i64 (o 6), .int .i64 (o 7), .int .i64 (o 8), .int .i64 (o 9), .int .i64 (o 10), .int .i64 (o 11), .slice wa lw cw, .slice ba lb cb, .int .i64 (o 14), .int .i64 (o 15), .int .i64 (o 16), .int .i64 (o 17), .int .i64 (o 18), .int .i64 (o 19), .int .i64 (o 20), .int .i64 (o 21)] 50)) w.heap.size (.slice ba lb cb) (upA Bs k b k)) := by rw [upA_same]; exact (ob.base (by omega)).below hbw.out
      have H12 : Hid (upA O k o k 12 = (lw : Int)) := by rw [upA_same]; exact o12
      have H13 : Hid (upA O k o k 13 = (lb : Int)) := by rw [upA_same]; exact o13
      have hN : Hid (preO [] (pOps n 0 r0) = preO (dOps (upA O k o) (upA Z k z) (upA Bs k b) (k + 1)) (pOps (n - (k + 1)) (k + 1) r2)) := by
        unfold Hid; rw [hE'.out, hm'.out, preO_ok hx, dOps_up, show n - (k + 1) = m by have := hm'.out; omega]
      have hp2 : Hid (PR w2 Rb B r2 ((k : Int) + 1)) := p2
      have hk2 : Hid (Wr.Kept [B, Rb] w w2) := hK1.out.trans (k2.wide (by simp))
      obtain ⟨i0, hi1, hz0, hz1, hz2⟩ := info_parts (show (Try.prog.info? 50).map (fun i => (i.zero, i.size, i.bytes)) = some (some (.agg #[.int .i64 0, .int .i64 0, .int .i64 0, .int .i64 0, .int .i64 0, .int .i64 0, .int .i64 0, .int .i64 0, .int .i64 0, .int .i64 0, .int .i64 0, .int .i64 0, .slice none 0 0, .slice none 0 0, .int .i64 0, .int .i64 0, .int .i64 0, .int .i64 0, .int .i64 0, .int .i64 0, .int .i64 0, .int .i64 0]), 22, 208) by kernel_rfl)
      clear hx p2 k2 H hE' oz ob o12 o13 hxs hall hC1 c1 f1 hK1
      go_wp2_with (at_builtin; refine wpList_append_own _ rfl (.tmp 15) (.tmp 18) 24 rfl w.heap.size 50 i0 _ 22 208 Try.underlying24 hi1 hz0 hz1 hz2 rfl (by decide) (.slice la k lc) k xs rfl HX.out ⟨w2.heap.size, 0, none⟩ 1 1 (opl o wa lw cw ba lb cb) rfl rfl new22 (opl_one _ _ _ _ _ _ _) (by unfold maxLen; omega) (by omega) (by simp; omega) ?_; intro v3 w3 hown hgr hnn)
      have hC3 := HCC.out.add hgr H12.out H13.out HZ.out HB.out (by omega) (by omega) xs HX.out HA.out (by rw [upA_same]; exact hown)
      have hb3 : Below w.heap.size w2 w3 := (hbw.out.mono (by omega)).grown hgr (by simp; omega) (fun b e => (HX.out.lt b e).1)
      have hR : Hid (CRow w3 w.heap.size v3 (k + 1) (upA O k o) (upA Z k z) (upA Bs k b) ∧ PR w3 Rb B r2 ((k : Int) + 1) ∧ Wr.Kept [B, Rb] w w3) := ⟨hC3, hp2.out.keep (hb3.mono (by omega)), kept_belowL hk2.out hb3⟩
      clear hC3 hown hgr hnn hb3 HX HA HCC HZ HB hp2 hbw
      go_wp2
      go_roundw
      case rel => exact ⟨k + 1, _, _, _, r2, _, by omega, by go_num, hN.out, hR.out.1, hR.out.2.1, hR.out.2.2⟩
      case measure => simp [intOf]; omega
    · obtain rfl : k = n := by omega
      have hF : Hid (pTO zs = .inr (dOps O Z Bs k, rs)) := by
        unfold Hid; rw [hP.out, hE'.out, Nat.sub_self]; simp [preO, pOps, pbind]
      have hR : Hid (CRow (wr.setCell ⟨Rb, 1, none⟩ (.int .i64 0)) w.heap.size (.slice la k lc) k O Z Bs ∧ PR (wr.setCell ⟨Rb, 1, none⟩ (.int .i64 0)) Rb B rs 0 ∧ Wr.Kept [B, Rb] w (wr.setCell ⟨Rb, 1, none⟩ (.int .i64 0))) := ⟨hC'.out.kept (L := [Rb]) Kept.set (by simp; omega), hp.op 0, hK'.out.trans ((Kept.set (B := Rb)).wide (by simp))⟩
      clear hp
      go_wp2
      go_ret
      exact .inr ⟨k, O, Z, Bs, _, rs, hF.out, hn64, rfl, hR.out.1, hR.out.2.1, hR.out.2.2⟩
end Go.Proofs.Ythagdpiocmcbmaa
