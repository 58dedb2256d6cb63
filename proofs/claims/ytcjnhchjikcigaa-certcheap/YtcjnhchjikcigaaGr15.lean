/- The document's Copy of layer 8: what it returns. The document's SameOp and Same of layer 8, of like ops and models: what each returns. What Form of package cert returns. -/
import Derived.Test.YtcjnhchjikcigaaGr14
import Derived.Laws.AppendOwnNone
/- The document's Copy of layer 8: what it returns. -/
namespace Go.Proofs.Ytcjnhchjikcigaa
open Go.ChangeShapes Go.WideShapes Go.ChangeAt Go.RowKit
set_option linter.unusedVariables false
/-- 'append' to an empty list of the call's own, from whatever slice within the reach. -/
theorem wpList_appB {k : IntKind} {T S : TypeId} {by8 : Nat} (kt : KT k T S by8) {w : World} {ops : Array Oper} {rest : List Oper} {o : Oper} {a : Act} {Q : Exit → Act → World → Prop} (hgd : o.guard = none) (s x : Operand)
    (ho : o.op = .call { callee := .builtin .append, args := #[s, x], argTypes := #[S, S] })
    (base : Nat) (v : Value) (ys : List Int) (hs : a.eval s = v) (hown : Own k T w base v []) (ao : Option Addr) (m c : Nat) (hx : a.eval x = .slice ao m c) (hy : IRow k w ao m c ys)
    (hlen : m * by8 ≤ 140737488351232) (hbase : base ≤ w.heap.size)
    (h : ∀ v' w', Own k T w' base v' ys → w.grownBy w' v.ownBlock → wpList Try.prog ops Q rest (a.put o.dst v') w') : wpList Try.prog ops Q (o :: rest) a w := by
  obtain ⟨hu, hin, b1, b8⟩ := kt
  obtain ⟨i0, hi, hz0, hz1, hz2⟩ := info_parts hin
  obtain ⟨hl, hc, hm, hb, hn, hcell⟩ := hy
  have hm2 : m ≤ 140737488351232 := Nat.le_trans (Nat.le_mul_of_pos_right m (by omega)) hlen
  cases ao with
  | none =>
    obtain rfl : c = 0 := hn rfl
    obtain rfl : m = 0 := by omega
    obtain rfl : ys = [] := List.eq_nil_of_length_eq_zero hl
    refine wpList_append_own_none hgd s x _ ho base T i0 1 hu hi v 0 _ hs hown.1 hx ?_
    exact h v w hown ⟨rfl, rfl, rfl, Nat.le_refl _, fun _ _ _ => rfl⟩
  | some ad =>
    refine wpList_append_own _ hgd s x _ ho base T i0 (.int k 0) 1 by8 hu hi hz0 hz1 hz2 rfl (by omega) v 0 _ hs hown.1 ad m c (ys.map (Value.int k)) hx (by simp [hl]) ?_ (ints_oneCell _ _) ?_ ?_ hbase ?_
    · intro j u hj
      have hj' : j < m := by
        have := (List.getElem?_eq_some_iff.1 hj).1
        simpa [hl] using this
      rw [hcell ad rfl j hj']
      simp [List.getD, show j < ys.length by omega] at hj ⊢
      exact hj
    · unfold maxLen; omega
    · rw [Nat.zero_add]; omega
    · intro v' w' h1 h2 h3
      refine h v' w' ⟨?_, hb⟩ h2
      rw [Nat.zero_add] at h1
      rw [hl]
      exact h1
theorem Own.grown {k : IntKind} {T : TypeId} {w w' : World} {base : Nat} {v : Value} {zs : List Int} {row : Option Nat} (h : Own k T w base v zs) (q : w.grownBy w' row) (hne : ∀ b, row = some b → ∀ c, w.heap[b]? ≠ some (.cells c T (0, 0))) : Own k T w' base v zs := by
  refine ⟨h.1.kept q ?_, h.2⟩
  rcases h.shape with ⟨rfl, _⟩ | ⟨g, cap, rfl, -, -, -, -, ⟨cur, hc, -⟩, -⟩
  · exact .inl rfl
  · exact .inr (fun e => hne g e.symm cur hc)
theorem Own.irow {k : IntKind} {T : TypeId} {w : World} {base n cap : Nat} {a : Option Addr} {zs : List Int} (h : Own k T w base (.slice a n cap) zs) : IRow k w a n cap zs := by
  obtain ⟨a', c', e, r, -⟩ := h.row
  obtain rfl := h.len
  cases e
  exact r
/-- A copied op: its cells, its lists. -/
def COp (w : World) (base : Nat) (xs : List Value) (q : Nat) (o : Nat → Int) (z b : List Int) : Prop :=
  ∃ (wa : Option Addr) (lw cw : Nat) (ba : Option Addr) (lb cb : Nat), o 12 = (lw : Int) ∧ o 13 = (lb : Int) ∧ (∀ j u, (opl o wa lw cw ba lb cb)[j]? = some u → xs[q * 22 + j]? = some u) ∧ Own .i16 102 w base (.slice wa lw cw) z ∧ Own .i32 21 w base (.slice ba lb cb) b ∧ lw * 2 ≤ 140737488351232 ∧ lb * 4 ≤ 140737488351232
def CRow (w : World) (base : Nat) (v : Value) (i : Nat) (O : Nat → Nat → Int) (Z B : Nat → List Int) : Prop :=
  ∃ xs, w.ownsRow base 70 22 v i xs ∧ ∀ q, q < i → COp w base xs q (O q) (Z q) (B q)
theorem COp.grown {w w' : World} {base : Nat} {xs ys : List Value} {q : Nat} {o : Nat → Int} {z b : List Int} {row : Option Nat} (h : COp w base xs q o z b) (g : w.grownBy w' row) (hne : ∀ b, row = some b → ∃ c, w.heap[b]? = some (.cells c 70 (0, 0))) : COp w' base (xs ++ ys) q o z b := by
  obtain ⟨wa, lw, cw, ba, lb, cb, h1, h2, h3, h4, h5, h6⟩ := h
  have ne : ∀ T, T ≠ 70 → ∀ b, row = some b → ∀ c, w.heap[b]? ≠ some (.cells c T (0, 0)) := fun T hT b hb c e => by
    obtain ⟨d, hd⟩ := hne b hb
    rw [hd] at e
    simp only [Option.some.injEq, Obj.cells.injEq] at e
    exact hT e.2.1.symm
  exact ⟨wa, lw, cw, ba, lb, cb, h1, h2, fun j u hj => List.getElem?_append_left (List.getElem?_eq_some_iff.1 (h3 j u hj)).1 |>.trans (h3 j u hj), h4.grown g (ne _ (by decide)), h5.grown g (ne _ (by decide)), h6⟩
theorem COp.below {w w' : World} {base : Nat} {xs : List Value} {q : Nat} {o : Nat → Int} {z b : List Int} (h : COp w base xs q o z b) (g : Below w.heap.size w w') : COp w' base xs q o z b := by
  obtain ⟨wa, lw, cw, ba, lb, cb, h1, h2, h3, h4, h5, h6⟩ := h
  exact ⟨wa, lw, cw, ba, lb, cb, h1, h2, h3, h4.below g, h5.below g, h6⟩
theorem CRow.below {w w' : World} {base : Nat} {v : Value} {i : Nat} {O : Nat → Nat → Int} {Z B : Nat → List Int} (h : CRow w base v i O Z B) (g : Below w.heap.size w w') : CRow w' base v i O Z B := by
  obtain ⟨xs, h1, h2⟩ := h
  refine ⟨xs, h1.kept (row := none) ⟨g.os, g.tape, g.output, g.size, fun i hi _ => g.block i hi⟩ ?_, fun q hq => (h2 q hq).below g⟩
  cases e : v.ownBlock with
  | none => exact .inl rfl
  | some b => exact .inr (by simp)
theorem CRow.slice {w : World} {base : Nat} {v : Value} {i : Nat} {O : Nat → Nat → Int} {Z B : Nat → List Int} (h : CRow w base v i O Z B) : ∃ a cap, v = .slice a i cap := by
  obtain ⟨xs, h1, -⟩ := h
  rcases h1.2 with ⟨rfl, rfl⟩ | ⟨g, cap, cur, rfl, -⟩
  · exact ⟨_, _, rfl⟩
  · exact ⟨_, _, rfl⟩
theorem CRow.nil (w : World) (base : Nat) (O : Nat → Nat → Int) (Z B : Nat → List Int) : CRow w base (.slice none 0 0) 0 O Z B := ⟨[], World.ownsRow_nil _ _ _ _, fun q hq => by omega⟩
theorem CRow.l {w : World} {base i : Nat} {a : Option Addr} {cap : Nat} {O : Nat → Nat → Int} {Z B : Nat → List Int} (h : CRow w base (.slice a i cap) i O Z B) : LRow w a i cap O Z B := by
  obtain ⟨xs, h1, h2⟩ := h
  rcases h1.2 with ⟨e, e0⟩ | ⟨g, cap', cur, e, hb, hg, hn, hm, hs, ht⟩
  · cases e
    exact ⟨Nat.le_refl _, by unfold maxLen; omega, fun _ => rfl, fun x hx => by cases hx⟩
  · cases e
    refine ⟨hn, hm, fun q => (by cases q), fun x hx q hq => ?_⟩
    cases hx
    obtain ⟨wa, lw, cw, ba, lb, cb, e1, e2, e3, e4, e5, e6⟩ := h2 q hq
    exact ⟨wa, lw, cw, ba, lb, cb, e1, e2, fun j u hj => by rw [Addr.add_add]; exact h1.cells rfl _ _ (e3 j u hj), e4.irow, e5.irow, e6⟩
theorem St.seti {w0 w : World} {B i : Nat} {c : Array Value} {t : TypeId} {l : List (Nat × Array Value × TypeId)} {v : Value} (h : St w0 w ((B, c, t) :: l)) (hl : ∀ x ∈ l, x.1 ≠ B) (d : Array Value) (hd : c.setIfInBounds i v = d) :
    St w0 (w.setCell ⟨B, i, none⟩ v) ((B, d, t) :: l) := by subst hd; exact h.set hl
theorem grown_below {w w' : World} {row : Option Nat} {n : Nat} (g : w.grownBy w' row) (hn : n ≤ w.heap.size) (hr : ∀ b, row = some b → n ≤ b) : Below n w w' := (Below.refl n w).grown g hn hr
theorem owns_other {w w' : World} {base : Nat} {e : TypeId} {size : Nat} {v : Value} {n : Nat} {xs : List Value} (h : w.ownsRow base e size v n xs) (q : ∀ (g : Nat) (c : Array Value), w.heap[g]? = some (.cells c e (0, 0)) → w'.heap[g]? = some (.cells c e (0, 0))) : w'.ownsRow base e size v n xs := by
  refine ⟨h.1, ?_⟩
  rcases h.2 with h0 | ⟨g, cap, cur, h1, h2, h3, h4⟩
  · exact .inl h0
  · exact .inr ⟨g, cap, cur, h1, h2, q g cur h3, h4⟩
theorem CRow.other {w w' : World} {base : Nat} {v : Value} {i : Nat} {O : Nat → Nat → Int} {Z B : Nat → List Int} (h : CRow w base v i O Z B) (q : ∀ (g : Nat) (c : Array Value) (t : TypeId), t ≠ 26 → w.heap[g]? = some (.cells c t (0, 0)) → w'.heap[g]? = some (.cells c t (0, 0))) : CRow w' base v i O Z B := by
  obtain ⟨xs, h1, h2⟩ := h
  refine ⟨xs, owns_other h1 (fun g c => q g c _ (by decide)), fun r hr => ?_⟩
  obtain ⟨wa, lw, cw, ba, lb, cb, e1, e2, e3, e4, e5, e6⟩ := h2 r hr
  exact ⟨wa, lw, cw, ba, lb, cb, e1, e2, e3, ⟨owns_other e4.1 (fun g c => q g c _ (by decide)), e4.2⟩, ⟨owns_other e5.1 (fun g c => q g c _ (by decide)), e5.2⟩, e6⟩
theorem LRow.at {w : World} {oa : Option Addr} {on oc : Nat} {O : Nat → Nat → Int} {Z B : Nat → List Int} (h : LRow w oa on oc O Z B) {i : Nat} (hi : i < on) : ∃ x, oa = some x ∧ LOp w (x.add (i * 22)) (O i) (Z i) (B i) := by
  cases oa with
  | none => have := h.2.2.1 rfl; have := h.1; omega
  | some x => exact ⟨x, rfl, h.2.2.2 x rfl i hi⟩
theorem grown_set (w : World) (N i : Nat) (v : Value) : w.grownBy (w.setCell ⟨N, i, none⟩ v) (some N) := ⟨rfl, rfl, rfl, by simp, fun k _ hk => Below.heap_setCell w ⟨N, i, none⟩ v k (fun e => hk (by rw [e]))⟩
theorem lit0 {k : IntKind} {T : TypeId} (w : World) (base : Nat) (hb : base ≤ w.heap.size) : Own k T (w.alloc (.cells #[] T)) base (.slice (some ⟨w.heap.size, 0, none⟩) 0 0) [] := own_lit k T w base [] (Wf.nil _) (by unfold maxLen; simp) hb
theorem Own.len2 {k : IntKind} {T : TypeId} {w : World} {base n : Nat} {v : Value} {zs : List Int} (h : Own k T w base v zs) (hn : zs.length = n) : ∃ a cap, v = .slice a n cap := by
  obtain ⟨a, c, e, -⟩ := h.row
  exact ⟨a, c, by rw [e, hn]⟩
theorem app_below {w w' : World} {T : TypeId} {c : Array Value} (g : (w.alloc (.cells c T)).grownBy w' (Value.slice (some ⟨w.heap.size, 0, none⟩) 0 0).ownBlock) : Below w.heap.size w w' :=
  ((Below.refl _ w).alloc (Nat.le_refl _) _).grown g (by simp) (fun b e => by simp [Value.ownBlock] at e; omega)
theorem own_ne {w : World} {base : Nat} {e u : TypeId} {size : Nat} {v : Value} {n b : Nat} {xs : List Value} {c : Array Value} (h : w.ownsRow base e size v n xs) (hb : w.heap[b]? = some (.cells c u (0, 0))) (q : u ≠ e) : some b ≠ v.ownBlock := by
  rcases h.2 with ⟨rfl, -⟩ | ⟨f, cap, cur, rfl, -, h3, -⟩
  · simp [Value.ownBlock]
  · intro k
    obtain rfl : b = f := by simpa [Value.ownBlock] using k
    rw [h3] at hb
    simp only [Option.some.injEq, Obj.cells.injEq] at hb
    exact q hb.2.1.symm
theorem new22 {w : World} {c : List Value} {t : TypeId} : ∀ j u, c[j]? = some u → (w.alloc (.cells c.toArray t)).cell? ((⟨w.heap.size, 0, none⟩ : Addr).add j) = some u := by
  intro j u hu
  rw [Addr.add_lit, Nat.zero_add, (cells_at (heap_alloc_new w (.cells c.toArray t))).1]
  simpa using hu
theorem CRow.add {w w' : World} {base : Nat} {v v' : Value} {i : Nat} {O : Nat → Nat → Int} {Z B : Nat → List Int} {wa ba : Option Addr} {lw cw lb cb : Nat} (h : CRow w base v i O Z B) (g : w.grownBy w' v.ownBlock) (h12 : O i 12 = (lw : Int)) (h13 : O i 13 = (lb : Int))
    (hz : Own .i16 102 w base (.slice wa lw cw) (Z i)) (hb : Own .i32 21 w base (.slice ba lb cb) (B i)) (r1 : lw * 2 ≤ 140737488351232) (r2 : lb * 4 ≤ 140737488351232) (xs : List Value) (hxs : w.ownsRow base 70 22 v i xs) (hall : ∀ q, q < i → COp w base xs q (O q) (Z q) (B q))
    (hown : w'.ownsRow base 70 22 v' (i + 1) (xs ++ opl (O i) wa lw cw ba lb cb)) : CRow w' base v' (i + 1) O Z B := by
  have ty : ∀ b, v.ownBlock = some b → ∃ c, w.heap[b]? = some (.cells c 70 (0, 0)) := fun b hb => by
    rcases hxs.2 with ⟨rfl, -⟩ | ⟨f, cap, cur, rfl, -, h3, -⟩
    · simp [Value.ownBlock] at hb
    · obtain rfl : f = b := by simpa [Value.ownBlock] using hb
      exact ⟨cur, h3⟩
  have ne : ∀ T, T ≠ 70 → ∀ b, v.ownBlock = some b → ∀ c, w.heap[b]? ≠ some (.cells c T (0, 0)) := fun T hT b hb c e => by
    obtain ⟨d, hd⟩ := ty b hb
    rw [hd] at e
    simp only [Option.some.injEq, Obj.cells.injEq] at e
    exact hT e.2.1.symm
  refine ⟨_, hown, fun q hq => ?_⟩
  by_cases e : q = i
  · subst e
    refine ⟨wa, lw, cw, ba, lb, cb, h12, h13, fun j u hj => ?_, hz.grown g (ne _ (by decide)), hb.grown g (ne _ (by decide)), r1, r2⟩
    rw [List.getElem?_append_right (by rw [hxs.1]; omega), hxs.1, show q * 22 + j - q * 22 = j by omega]
    exact hj
  · exact (hall q (by omega)).grown g ty
set_option maxHeartbeats 4000000 in
set_option maxRecDepth 100000 in
theorem copy_any (h w c lo hi ot : Int) (oa : Option Addr) (on oc : Nat) (O : Nat → Nat → Int) (Z B : Nat → List Int) (W : World) (hL : LRow W oa on oc O Z B) (hr : on * 208 ≤ 140737488351232) :
    Calls Try.prog 7 #[.agg #[.int .i64 h, .int .i64 w, .int .i64 c, .int .i64 lo, .int .i64 hi, .slice oa on oc, .int .i64 ot]] W fun e w' => ∃ oa' oc', e = .returned (.agg #[.int .i64 h, .int .i64 w, .int .i64 c, .int .i64 lo, .int .i64 hi, .slice oa' on oc', .int .i64 ot]) ∧ LRow w' oa' on oc' O Z B ∧ Below W.heap.size W w' := by
  have hocc := hL.1
  have hocm := hL.2.1
  unfold maxLen at hocm
  have HL : Hid (LRow W oa on oc O Z B) := hL
  clear hL
  have s0 := ((St.start W).new (c := #[.int .i64 h, .int .i64 w, .int .i64 c, .int .i64 lo, .int .i64 hi, .slice oa on oc, .int .i64 ot]) (t := 26)).new (c := #[.int .i64 0, .int .i64 0, .int .i64 0, .int .i64 0, .int .i64 0, .slice none 0 0, .int .i64 0]) (t := 26)
  simp only [World.size_alloc] at s0
  have H0 : Hid (St W _ _) := s0
  clear s0
  go_enter Try.func7, Try.ntmps7
  go_wp2
  go_loopw [3, 9] (fun v i wr => ∃ (k : Nat), k ≤ on ∧ i = .int .i64 k ∧ CRow wr W.heap.size v k O Z B ∧ St W wr [(W.heap.size + 1, #[.int .i64 0, .int .i64 0, .int .i64 0, .int .i64 0, .int .i64 0, .slice none 0 0, .int .i64 0], 26), (W.heap.size, #[.int .i64 h, .int .i64 w, .int .i64 c, .int .i64 lo, .int .i64 hi, .slice oa on oc, .int .i64 ot], 26)]) (fun _ i _ => on - (intOf i).toNat)
  case atStart => exact ⟨0, Nat.zero_le _, rfl, CRow.nil _ _ _ _ _, H0.out⟩
  case round =>
    obtain ⟨i, hi0, rfl, hC, sr⟩ := hrel
    obtain ⟨va, vc, rfl⟩ := hC.slice
    obtain ⟨c1, f1, zr1, c2, f2, zr2, -⟩ := sr.rules
    by_cases hlt : i < on
    rotate_left
    · obtain rfl : i = on := by omega
      have HC : Hid (CRow wr W.heap.size (.slice va i vc) i O Z B) := hC
      have Hs : Hid (St W wr _) := sr
      clear sr hC
      go_wp2
      refine bodyPost_ret (v := .agg #[.int .i64 h, .int .i64 w, .int .i64 c, .int .i64 lo, .int .i64 hi, .slice va i vc, .int .i64 ot]) (by simp [results, Try.results7, go_sem, *]) rfl ⟨va, vc, rfl, (HC.out.other ?_).l, ?_⟩
      · intro g cc t ht hg
        have ng1 : g ≠ W.heap.size := ne_of_ty hg Hs.out.h2 ht
        have ng2 : g ≠ W.heap.size + 1 := ne_of_ty hg Hs.out.h1 ht
        have e1 : ∀ (w : World) (i : Nat) (v : Value), (w.setCell ⟨W.heap.size, i, none⟩ v).heap[g]? = w.heap[g]? := fun w i v => Below.heap_setCell w ⟨W.heap.size, i, none⟩ v g ng1
        have e2 : ∀ (w : World) (i : Nat) (v : Value), (w.setCell ⟨W.heap.size + 1, i, none⟩ v).heap[g]? = w.heap[g]? := fun w i v => Below.heap_setCell w ⟨W.heap.size + 1, i, none⟩ v g ng2
        simp only [e1, e2]
        exact hg
      · repeat refine Below.setCell (p := ⟨_, _, none⟩) ?_ (by simp) _
        exact Hs.out.below
    · obtain ⟨x, rfl, wa, lw, cw, ba, lb, cb, e12, e13, hcell, hz, hbz, rz, rb⟩ := (HL.out.below sr.below).at hlt
      have hcell' : Hid (∀ q v, [.int .i64 (O i 0), .int .i64 (O i 1), .int .i64 (O i 2), .int .i64 (O i 3), .int .i64 (O i 4), .int .i64 (O i 5), .int .i64 (O i 6), .int .i64 (O i 7), .int .i64 (O i 8), .int .i64 (O i 9), .int .i64 (O i 10), .int .i64 (O i 11), .slice wa lw cw, .slice ba lb cb, .int .i64 (O i 14), .int .i64 (O i 15), .int .i64 (O i 16), .int .i64 (O i 17), .int .i64 (O i 18), .int .i64 (O i 19), .int .i64 (O i 20), .int .i64 (O i 21)][q]? = some v → wr.cell? ((x.add (i * 22)).add q) = some v) := hcell
      have sb := sr.new (c := #[.int .i64 (O i 0), .int .i64 (O i 1), .int .i64 (O i 2), .int .i64 (O i 3), .int .i64 (O i 4), .int .i64 (O i 5), .int .i64 (O i 6), .int .i64 (O i 7), .int .i64 (O i 8), .int .i64 (O i 9), .int .i64 (O i 10), .int .i64 (O i 11), .slice wa lw cw, .slice ba lb cb, .int .i64 (O i 14), .int .i64 (O i 15), .int .i64 (O i 16), .int .i64 (O i 17), .int .i64 (O i 18), .int .i64 (O i 19), .int .i64 (O i 20), .int .i64 (O i 21)]) (t := 70)
      have HZ : Hid (IRow .i16 wr wa lw cw (Z i)) := hz
      have HB : Hid (IRow .i32 wr ba lb cb (B i)) := hbz
      have HC : Hid (CRow wr W.heap.size (.slice va i vc) i O Z B) := hC
      have D0 := bal wr (.cells #[.int .i64 (O i 0), .int .i64 (O i 1), .int .i64 (O i 2), .int .i64 (O i 3), .int .i64 (O i 4), .int .i64 (O i 5), .int .i64 (O i 6), .int .i64 (O i 7), .int .i64 (O i 8), .int .i64 (O i 9), .int .i64 (O i 10), .int .i64 (O i 11), .slice wa lw cw, .slice ba lb cb, .int .i64 (O i 14), .int .i64 (O i 15), .int .i64 (O i 16), .int .i64 (O i 17), .int .i64 (O i 18), .int .i64 (O i 19), .int .i64 (O i 20), .int .i64 (O i 21)] 70)
      clear hcell hz hbz hC H0
      go_upto_region 4 with fail
      go_upto_region 5 with (first
        | (refine wpList_load_any rfl 70 (.tmp 11) rfl _ rfl [.int .i64 (O i 0), .int .i64 (O i 1), .int .i64 (O i 2), .int .i64 (O i 3), .int .i64 (O i 4), .int .i64 (O i 5), .int .i64 (O i 6), .int .i64 (O i 7), .int .i64 (O i 8), .int .i64 (O i 9), .int .i64 (O i 10), .int .i64 (O i 11), .slice wa lw cw, .slice ba lb cb, .int .i64 (O i 14), .int .i64 (O i 15), .int .i64 (O i 16), .int .i64 (O i 17), .int .i64 (O i 18), .int .i64 (O i 19), .int .i64 (O i 20), .int .i64 (O i 21)] _ hcell'.out Try.underlying70 rfl (by kernel_rfl) ?_)
        | (refine wpList_st_new rfl 70 (.tmp 5) (.tmp 12) rfl wr _ #[.int .i64 (O i 0), .int .i64 (O i 1), .int .i64 (O i 2), .int .i64 (O i 3), .int .i64 (O i 4), .int .i64 (O i 5), .int .i64 (O i 6), .int .i64 (O i 7), .int .i64 (O i 8), .int .i64 (O i 9), .int .i64 (O i 10), .int .i64 (O i 11), .slice wa lw cw, .slice ba lb cb, .int .i64 (O i 14), .int .i64 (O i 15), .int .i64 (O i 16), .int .i64 (O i 17), .int .i64 (O i 18), .int .i64 (O i 19), .int .i64 (O i 20), .int .i64 (O i 21)] rfl rfl (by kernel_rfl) rfl (by simp [Value.oneCell']) ?_))
      obtain ⟨wb, hwb⟩ : ∃ wb, wr.alloc (.cells #[.int .i64 (O i 0), .int .i64 (O i 1), .int .i64 (O i 2), .int .i64 (O i 3), .int .i64 (O i 4), .int .i64 (O i 5), .int .i64 (O i 6), .int .i64 (O i 7), .int .i64 (O i 8), .int .i64 (O i 9), .int .i64 (O i 10), .int .i64 (O i 11), .slice wa lw cw, .slice ba lb cb, .int .i64 (O i 14), .int .i64 (O i 15), .int .i64 (O i 16), .int .i64 (O i 17), .int .i64 (O i 18), .int .i64 (O i 19), .int .i64 (O i 20), .int .i64 (O i 21)] 70) = wb := ⟨_, rfl⟩
      rw [hwb] at sb D0 ⊢
      clear hwb hcell' c1 f1 c2 f2
      obtain ⟨c1, f1, zb1, c2, f2, zb2, c3, f3, zb3, -⟩ := sb.rules
      go_upto_region 6 with (at_builtin; refine wpList_appB kt_i16 rfl (.tmp 13) (.tmp 15) rfl W.heap.size (.slice (some ⟨wb.heap.size, 0, none⟩) 0 0) (Z i) rfl (lit0 wb W.heap.size (by omega)) wa lw cw rfl ((HZ.out.below D0).below (bal _ _)) rz (by simp; omega) ?_; intro v1 w5 hO1 hg; obtain ⟨wa', cw', rfl⟩ := hO1.len2 HZ.out.1; have s5 := sb.call (app_below hg); have D1 := bt D0 (app_below hg); clear hg sb D0 c1 f1 c2 f2 c3 f3; obtain ⟨c1, f1, zc1, c2, f2, zc2, c3, f3, zc3, -⟩ := s5.rules)
      have s6 := s5.seti (i := 12) (v := .slice wa' lw cw') (by simp; omega) #[.int .i64 (O i 0), .int .i64 (O i 1), .int .i64 (O i 2), .int .i64 (O i 3), .int .i64 (O i 4), .int .i64 (O i 5), .int .i64 (O i 6), .int .i64 (O i 7), .int .i64 (O i 8), .int .i64 (O i 9), .int .i64 (O i 10), .int .i64 (O i 11), .slice wa' lw cw', .slice ba lb cb, .int .i64 (O i 14), .int .i64 (O i 15), .int .i64 (O i 16), .int .i64 (O i 17), .int .i64 (O i 18), .int .i64 (O i 19), .int .i64 (O i 20), .int .i64 (O i 21)] (by simp)
      have D2 := D1.setCell (p := ⟨wr.heap.size, 12, none⟩) (Nat.le_refl _) (.slice wa' lw cw')
      have hO2 := hO1.grown (grown_set w5 wr.heap.size 12 (.slice wa' lw cw')) (fun b e cc => by cases e; rw [s5.h1]; simp)
      obtain ⟨w6, hw6⟩ : ∃ w6, w5.setCell ⟨wr.heap.size, 12, none⟩ (.slice wa' lw cw') = w6 := ⟨_, rfl⟩
      rw [hw6] at s6 D2 hO2 ⊢
      clear hw6 hO1 D1 s5 c1 f1 c2 f2 c3 f3
      obtain ⟨c1, f1, zd1, c2, f2, zd2, c3, f3, zd3, -⟩ := s6.rules
      go_upto_region 7 with (at_builtin; refine wpList_appB kt_i32 rfl (.tmp 18) (.tmp 20) rfl W.heap.size (.slice (some ⟨w6.heap.size, 0, none⟩) 0 0) (B i) rfl (lit0 w6 W.heap.size (by omega)) ba lb cb rfl ((HB.out.below D2).below (bal _ _)) rb (by simp; omega) ?_; intro v1 w7 hO3 hg; obtain ⟨ba', cb', rfl⟩ := hO3.len2 HB.out.1; have s7 := s6.call (app_below hg); have D3 := bt D2 (app_below hg); have hO4 := hO2.below (app_below hg); clear hg s6 D2 hO2 c1 f1 c2 f2 c3 f3; obtain ⟨c1, f1, ze1, c2, f2, ze2, c3, f3, ze3, -⟩ := s7.rules)
      have s8 := s7.seti (i := 13) (v := .slice ba' lb cb') (by simp; omega) #[.int .i64 (O i 0), .int .i64 (O i 1), .int .i64 (O i 2), .int .i64 (O i 3), .int .i64 (O i 4), .int .i64 (O i 5), .int .i64 (O i 6), .int .i64 (O i 7), .int .i64 (O i 8), .int .i64 (O i 9), .int .i64 (O i 10), .int .i64 (O i 11), .slice wa' lw cw', .slice ba' lb cb', .int .i64 (O i 14), .int .i64 (O i 15), .int .i64 (O i 16), .int .i64 (O i 17), .int .i64 (O i 18), .int .i64 (O i 19), .int .i64 (O i 20), .int .i64 (O i 21)] (by simp)
      have D4 := D3.setCell (p := ⟨wr.heap.size, 13, none⟩) (Nat.le_refl _) (.slice ba' lb cb')
      have hO5 := hO3.grown (grown_set w7 wr.heap.size 13 (.slice ba' lb cb')) (fun b e cc => by cases e; rw [s7.h1]; simp)
      have hO6 := hO4.grown (grown_set w7 wr.heap.size 13 (.slice ba' lb cb')) (fun b e cc => by cases e; rw [s7.h1]; simp)
      obtain ⟨w8, hw8⟩ : ∃ w8, w7.setCell ⟨wr.heap.size, 13, none⟩ (.slice ba' lb cb') = w8 := ⟨_, rfl⟩
      rw [hw8] at s8 D4 hO5 hO6 ⊢
      clear hw8 hO3 hO4 D3 s7 c1 f1 c2 f2 c3 f3
      have zw8 := s8.size
      have s9 := s8.new (c := #[.int .i64 (O i 0), .int .i64 (O i 1), .int .i64 (O i 2), .int .i64 (O i 3), .int .i64 (O i 4), .int .i64 (O i 5), .int .i64 (O i 6), .int .i64 (O i 7), .int .i64 (O i 8), .int .i64 (O i 9), .int .i64 (O i 10), .int .i64 (O i 11), .slice wa' lw cw', .slice ba' lb cb', .int .i64 (O i 14), .int .i64 (O i 15), .int .i64 (O i 16), .int .i64 (O i 17), .int .i64 (O i 18), .int .i64 (O i 19), .int .i64 (O i 20), .int .i64 (O i 21)]) (t := 70)
      obtain ⟨xs, hxs, hall⟩ := (HC.out.below D4).below (bal w8 (.cells #[.int .i64 (O i 0), .int .i64 (O i 1), .int .i64 (O i 2), .int .i64 (O i 3), .int .i64 (O i 4), .int .i64 (O i 5), .int .i64 (O i 6), .int .i64 (O i 7), .int .i64 (O i 8), .int .i64 (O i 9), .int .i64 (O i 10), .int .i64 (O i 11), .slice wa' lw cw', .slice ba' lb cb', .int .i64 (O i 14), .int .i64 (O i 15), .int .i64 (O i 16), .int .i64 (O i 17), .int .i64 (O i 18), .int .i64 (O i 19), .int .i64 (O i 20), .int .i64 (O i 21)] 70))
      have HX : Hid (World.ownsRow _ _ _ _ _ _ _) := hxs
      have HA : Hid (∀ q, q < i → _) := hall
      have H5 : Hid (Own .i32 _ _ _ _ _) := hO5.below (bal w8 (.cells #[.int .i64 (O i 0), .int .i64 (O i 1), .int .i64 (O i 2), .int .i64 (O i 3), .int .i64 (O i 4), .int .i64 (O i 5), .int .i64 (O i 6), .int .i64 (O i 7), .int .i64 (O i 8), .int .i64 (O i 9), .int .i64 (O i 10), .int .i64 (O i 11), .slice wa' lw cw', .slice ba' lb cb', .int .i64 (O i 14), .int .i64 (O i 15), .int .i64 (O i 16), .int .i64 (O i 17), .int .i64 (O i 18), .int .i64 (O i 19), .int .i64 (O i 20), .int .i64 (O i 21)] 70))
      have H6 : Hid (Own .i16 _ _ _ _ _) := hO6.below (bal w8 (.cells #[.int .i64 (O i 0), .int .i64 (O i 1), .int .i64 (O i 2), .int .i64 (O i 3), .int .i64 (O i 4), .int .i64 (O i 5), .int .i64 (O i 6), .int .i64 (O i 7), .int .i64 (O i 8), .int .i64 (O i 9), .int .i64 (O i 10), .int .i64 (O i 11), .slice wa' lw cw', .slice ba' lb cb', .int .i64 (O i 14), .int .i64 (O i 15), .int .i64 (O i 16), .int .i64 (O i 17), .int .i64 (O i 18), .int .i64 (O i 19), .int .i64 (O i 20), .int .i64 (O i 21)] 70))
      have HCC : Hid (CRow _ _ _ _ _ _ _) := (HC.out.below D4).below (bal w8 (.cells #[.int .i64 (O i 0), .int .i64 (O i 1), .int .i64 (O i 2), .int .i64 (O i 3), .int .i64 (O i 4), .int .i64 (O i 5), .int .i64 (O i 6), .int .i64 (O i 7), .int .i64 (O i 8), .int .i64 (O i 9), .int .i64 (O i 10), .int .i64 (O i 11), .slice wa' lw cw', .slice ba' lb cb', .int .i64 (O i 14), .int .i64 (O i 15), .int .i64 (O i 16), .int .i64 (O i 17), .int .i64 (O i 18), .int .i64 (O i 19), .int .i64 (O i 20), .int .i64 (O i 21)] 70))
      have H12 : Hid (O i 12 = (lw : Int)) := e12
      have H13 : Hid (O i 13 = (lb : Int)) := e13
      obtain ⟨i0, hi1, hz0, hz1, hz2⟩ := info_parts (show (Try.prog.info? 70).map (fun i => (i.zero, i.size, i.bytes)) = some (some (.agg #[.int .i64 0, .int .i64 0, .int .i64 0, .int .i64 0, .int .i64 0, .int .i64 0, .int .i64 0, .int .i64 0, .int .i64 0, .int .i64 0, .int .i64 0, .int .i64 0, .slice none 0 0, .slice none 0 0, .int .i64 0, .int .i64 0, .int .i64 0, .int .i64 0, .int .i64 0, .int .i64 0, .int .i64 0, .int .i64 0]), 22, 208) by kernel_rfl)
      clear hO5 hO6 hxs hall e12 e13 HZ HB
      go_upto_region 8 with (first
        | (refine wpList_load_row rfl 70 (.tmp 5) rfl _ rfl 70 _ (0, 0) _ s8.h1 Try.underlying70 rfl (by kernel_rfl) ?_)
        | (at_builtin; refine wpList_append_own _ rfl (.tmp 23) (.tmp 25) 24 rfl W.heap.size 70 i0 _ 22 208 Try.underlying24 hi1 hz0 hz1 hz2 rfl (by decide) (.slice va i vc) i xs rfl HX.out ⟨w8.heap.size, 0, none⟩ 1 1 (opl (O i) wa' lw cw' ba' lb cb') rfl rfl new22 (opl_one _ _ _ _ _ _ _) (by unfold maxLen; omega) (by omega) (by simp; omega) ?_; intro v2 w9 hown hgr hnn; have hC2 := HCC.out.add hgr H12.out H13.out H6.out H5.out rz rb xs HX.out HA.out hown; have s10 := s9.tail.tail.grown hgr (fun b e => (HX.out.lt b e).1) (fun y hy => by simp only [List.mem_cons, List.not_mem_nil, or_false] at hy; rcases hy with rfl | rfl; exact own_ne HX.out s9.h3 (by decide); exact own_ne HX.out s9.h4 (by decide)); obtain ⟨va2, vc2, rfl⟩ := hC2.slice; clear hown hgr hnn s9))
      have HC2 : Hid (CRow w9 W.heap.size (.slice va2 (i + 1) vc2) (i + 1) O Z B) := hC2
      have Hs10 : Hid (St W w9 _) := s10
      clear hC2 s10
      go_wp2
      go_round
      case rel => exact ⟨i + 1, by omega, by go_num, HC2.out, Hs10.out⟩
      case measure => simp [intOf]; omega
end Go.Proofs.Ytcjnhchjikcigaa

/- The document's SameOp and Same of layer 8, of like ops and models: what each returns. -/
namespace Go.Proofs.Ytcjnhchjikcigaa
open Go.ChangeShapes Go.WideShapes Go.ChangeAt Go.RowKit
set_option linter.unusedVariables false
set_option maxHeartbeats 4000000 in
set_option maxRecDepth 100000 in
theorem sameop_any (o : Nat → Int) (z b : List Int) (wa ba xa ya : Option Addr) (lw cw lb cb dw db : Nat) (W : World) (h1 : IRow .i16 W wa lw cw z) (h2 : IRow .i16 W xa lw dw z) (h3 : IRow .i32 W ba lb cb b) (h4 : IRow .i32 W ya lb db b) :
    Calls Try.prog 36 #[.agg #[.int .i64 (o 0), .int .i64 (o 1), .int .i64 (o 2), .int .i64 (o 3), .int .i64 (o 4), .int .i64 (o 5), .int .i64 (o 6), .int .i64 (o 7), .int .i64 (o 8), .int .i64 (o 9), .int .i64 (o 10), .int .i64 (o 11), .slice wa lw cw, .slice ba lb cb, .int .i64 (o 14), .int .i64 (o 15), .int .i64 (o 16), .int .i64 (o 17), .int .i64 (o 18), .int .i64 (o 19), .int .i64 (o 20), .int .i64 (o 21)], .agg #[.int .i64 (o 0), .int .i64 (o 1), .int .i64 (o 2), .int .i64 (o 3), .int .i64 (o 4), .int .i64 (o 5), .int .i64 (o 6), .int .i64 (o 7), .int .i64 (o 8), .int .i64 (o 9), .int .i64 (o 10), .int .i64 (o 11), .slice xa lw dw, .slice ya lb db, .int .i64 (o 14), .int .i64 (o 15), .int .i64 (o 16), .int .i64 (o 17), .int .i64 (o 18), .int .i64 (o 19), .int .i64 (o 20), .int .i64 (o 21)]] W fun e w' => e = .returned (.bool true) ∧ Below W.heap.size W w' := by
  have n8 := ne8 64 rfl (o 4) (o 5) (o 6) (o 7) (o 8) (o 9) (o 10) (o 11) (o 4) (o 5) (o 6) (o 7) (o 8) (o 9) (o 10) (o 11) true (by simp)
  have n2 := ne2 68 rfl (o 14) (o 15) (o 14) (o 15) true (by simp)
  have n2' := ne2 68 rfl (o 16) (o 17) (o 16) (o 17) true (by simp)
  have lm1 := h1.2.1
  have lm2 := h1.2.2.1
  have lm3 := h3.2.1
  have lm4 := h3.2.2.1
  have lm5 := h2.2.1
  have lm6 := h2.2.2.1
  have lm7 := h4.2.1
  have lm8 := h4.2.2.1
  unfold maxLen at lm2 lm4 lm6 lm8
  have H1 : Hid (IRow .i16 W wa lw cw z) := h1
  have H2 : Hid (IRow .i16 W xa lw dw z) := h2
  have H3 : Hid (IRow .i32 W ba lb cb b) := h3
  have H4 : Hid (IRow .i32 W ya lb db b) := h4
  have s1 := ((St.start W).new (c := #[.int .i64 (o 0), .int .i64 (o 1), .int .i64 (o 2), .int .i64 (o 3), .int .i64 (o 4), .int .i64 (o 5), .int .i64 (o 6), .int .i64 (o 7), .int .i64 (o 8), .int .i64 (o 9), .int .i64 (o 10), .int .i64 (o 11), .slice wa lw cw, .slice ba lb cb, .int .i64 (o 14), .int .i64 (o 15), .int .i64 (o 16), .int .i64 (o 17), .int .i64 (o 18), .int .i64 (o 19), .int .i64 (o 20), .int .i64 (o 21)]) (t := 70)).new (c := #[.int .i64 (o 0), .int .i64 (o 1), .int .i64 (o 2), .int .i64 (o 3), .int .i64 (o 4), .int .i64 (o 5), .int .i64 (o 6), .int .i64 (o 7), .int .i64 (o 8), .int .i64 (o 9), .int .i64 (o 10), .int .i64 (o 11), .slice xa lw dw, .slice ya lb db, .int .i64 (o 14), .int .i64 (o 15), .int .i64 (o 16), .int .i64 (o 17), .int .i64 (o 18), .int .i64 (o 19), .int .i64 (o 20), .int .i64 (o 21)]) (t := 70)
  simp only [World.size_alloc] at s1
  clear h1 h2 h3 h4
  go_enter Try.func36, Try.ntmps36
  go_upto_region 1 with fail
  obtain ⟨wv, hwv⟩ : ∃ wv, (W.alloc (.cells #[.int .i64 (o 0), .int .i64 (o 1), .int .i64 (o 2), .int .i64 (o 3), .int .i64 (o 4), .int .i64 (o 5), .int .i64 (o 6), .int .i64 (o 7), .int .i64 (o 8), .int .i64 (o 9), .int .i64 (o 10), .int .i64 (o 11), .slice wa lw cw, .slice ba lb cb, .int .i64 (o 14), .int .i64 (o 15), .int .i64 (o 16), .int .i64 (o 17), .int .i64 (o 18), .int .i64 (o 19), .int .i64 (o 20), .int .i64 (o 21)] 70)).alloc (.cells #[.int .i64 (o 0), .int .i64 (o 1), .int .i64 (o 2), .int .i64 (o 3), .int .i64 (o 4), .int .i64 (o 5), .int .i64 (o 6), .int .i64 (o 7), .int .i64 (o 8), .int .i64 (o 9), .int .i64 (o 10), .int .i64 (o 11), .slice xa lw dw, .slice ya lb db, .int .i64 (o 14), .int .i64 (o 15), .int .i64 (o 16), .int .i64 (o 17), .int .i64 (o 18), .int .i64 (o 19), .int .i64 (o 20), .int .i64 (o 21)] 70) = wv := ⟨_, rfl⟩
  rw [hwv] at s1 ⊢
  clear hwv
  obtain ⟨c1, f1, z1, c2, f2, z2, -⟩ := s1.rules
  simp only [List.append]
  go_upto_region 3 with fail
  have r1 : Hid (IRow .i16 wv wa lw cw z) := H1.out.below s1.below
  have r2 : Hid (IRow .i16 wv xa lw dw z) := H2.out.below s1.below
  have r3 : Hid (IRow .i32 wv ba lb cb b) := H3.out.below s1.below
  have r4 : Hid (IRow .i32 wv ya lb db b) := H4.out.below s1.below
  have hbel : Hid (Below W.heap.size W wv) := s1.below
  clear H1 H2 H3 H4 s1 n8 n2 n2'
  go_wp2
  go_loopw [101] (fun i wr => ∃ k n : Nat, k ≤ lw ∧ i = .int .i64 k ∧ wr = wv.drewN n) (fun i _ => lw - (intOf i).toNat)
  case atStart => exact ⟨0, 0, Nat.zero_le _, rfl, rfl⟩
  case round =>
    obtain ⟨k, n, hk, rfl, rfl⟩ := hrel
    by_cases hlt : k < lw
    · obtain ⟨x, u, rfl, hu, -, hz1, -⟩ := r1.out.at hlt
      obtain ⟨y, u', rfl, hu', -, hz2, -⟩ := r2.out.at hlt
      rw [hz1] at hz2
      cases hz2
      clear hz1
      go_wp2
      go_quiet (fail)
      go_wp2
      go_roundw
      case rel => exact ⟨k + 1, _, by omega, by go_num, rfl⟩
      case measure => simp [intOf]; omega
    · obtain rfl : k = lw := by omega
      go_wp2
      go_loopw [119] (fun i wr => ∃ k n : Nat, k ≤ lb ∧ i = .int .i64 k ∧ wr = wv.drewN n) (fun i _ => lb - (intOf i).toNat)
      case atStart => exact ⟨0, n, Nat.zero_le _, rfl, rfl⟩
      case round =>
        obtain ⟨j, n', hk', rfl, rfl⟩ := hrel
        by_cases hlt' : j < lb
        · obtain ⟨x, u, rfl, hu, -, hz1, -⟩ := r3.out.at hlt'
          obtain ⟨y, u', rfl, hu', -, hz2, -⟩ := r4.out.at hlt'
          rw [hz1] at hz2
          cases hz2
          clear hz1
          go_wp2
          go_quiet (fail)
          go_wp2
          go_roundw
          case rel => exact ⟨j + 1, _, by omega, by go_num, rfl⟩
          case measure => simp [intOf]; omega
        · go_wp2
          go_ret
          exact ⟨rfl, bt hbel.out (dbel _ _)⟩
/-! ### A load of a whole struct out of a slice, in a region that draws its order -/
theorem quiet_la {P : Program} {C : World → Prop} {a a' : Act} {o : Oper} {K : Act → Prop} (ty : TypeId) (x : Operand) (h : o.op = .load ty x) (y : Addr) (hx : a.eval x = .pointer (some y)) (cs : List Value) (d : TypeDesc)
    (hC : ∀ w, C w → ∀ j v, cs[j]? = some v → w.cell? (y.add j) = some v) (hu : P.underlying ty = some d) (hd : (match d with | .struct _ | .array _ _ => true | _ => false) = true) (hi : (P.info? ty).map (·.size) = some cs.length) (ha : a.put o.dst (.agg cs.toArray) = a') (hk : K a') : o.quiet P a C K := by
  refine ⟨.agg cs.toArray, fun w hw => ?_, by rw [ha]; exact hk⟩
  have hl : (loadCells y cs.length).run P w = .ok cs.toArray w := run_loadCells_list (P := P) w y cs (hC w hw)
  have hv : (loadVar ty y).run P w = .ok (.agg cs.toArray) w := by
    cases hq : P.info? ty with
    | none => simp [hq] at hi
    | some i =>
      have hs : i.size = cs.length := by simpa [hq] using hi
      have hagg : (isAgg ty).run P w = .ok true w := by
        unfold isAgg
        rw [Sem.run_bind, run_underlying hu w]
        cases d <;> simp_all
      simp [loadVar, Sem.run_bind, hagg, sizeOf, typeInfo, hq, hs, hl]
  unfold Oper.quietAt execOp
  simp only [h, hx, Instr.loadAt, Instr.sureAddr, Sem.run_bind, Sem.run_pure, Result.andThen_ok, hv]
  exact ⟨rfl, rfl⟩
set_option maxHeartbeats 4000000 in
set_option maxRecDepth 100000 in
theorem samem_any (h w c lo hi ot : Int) (oa oa' : Option Addr) (on oc oc' : Nat) (O : Nat → Nat → Int) (Z B : Nat → List Int) (W : World) (hL : LRow W oa on oc O Z B) (hL' : LRow W oa' on oc' O Z B) :
    Calls Try.prog 14 #[.agg #[.int .i64 h, .int .i64 w, .int .i64 c, .int .i64 lo, .int .i64 hi, .slice oa on oc, .int .i64 ot], .agg #[.int .i64 h, .int .i64 w, .int .i64 c, .int .i64 lo, .int .i64 hi, .slice oa' on oc', .int .i64 ot]] W fun e w' => e = .returned (.bool true) ∧ Below W.heap.size W w' := by
  have n3 := ne3 23 rfl h w c h w c true (by simp)
  have l1 := hL.1
  have l2 := hL.2.1
  have l3 := hL'.1
  have l4 := hL'.2.1
  unfold maxLen at l2 l4
  have H1 : Hid (LRow W oa on oc O Z B) := hL
  have H2 : Hid (LRow W oa' on oc' O Z B) := hL'
  have s1 := ((St.start W).new (c := #[.int .i64 h, .int .i64 w, .int .i64 c, .int .i64 lo, .int .i64 hi, .slice oa on oc, .int .i64 ot]) (t := 26)).new (c := #[.int .i64 h, .int .i64 w, .int .i64 c, .int .i64 lo, .int .i64 hi, .slice oa' on oc', .int .i64 ot]) (t := 26)
  simp only [World.size_alloc] at s1
  have S1 : Hid (St W _ ([(W.heap.size + 1, #[.int .i64 h, .int .i64 w, .int .i64 c, .int .i64 lo, .int .i64 hi, .slice oa' on oc', .int .i64 ot], 26), (W.heap.size, #[.int .i64 h, .int .i64 w, .int .i64 c, .int .i64 lo, .int .i64 hi, .slice oa on oc, .int .i64 ot], 26)])) := s1
  clear hL hL' s1
  go_enter Try.func14, Try.ntmps14
  go_wp2
  go_loopw [44] (fun i wr => ∃ k : Nat, k ≤ on ∧ i = .int .i64 k ∧ St W wr ([(W.heap.size + 1, #[.int .i64 h, .int .i64 w, .int .i64 c, .int .i64 lo, .int .i64 hi, .slice oa' on oc', .int .i64 ot], 26), (W.heap.size, #[.int .i64 h, .int .i64 w, .int .i64 c, .int .i64 lo, .int .i64 hi, .slice oa on oc, .int .i64 ot], 26)])) (fun i _ => on - (intOf i).toNat)
  case atStart => exact ⟨0, Nat.zero_le _, rfl, S1.out⟩
  case round =>
    obtain ⟨i, hi0, rfl, sr⟩ := hrel
    by_cases hlt : i < on
    rotate_left
    · have hbel : Hid (Below W.heap.size W wr) := sr.below
      clear sr S1
      go_wp2
      go_ret
      exact ⟨rfl, hbel.out⟩
    · obtain ⟨x, rfl, wa, lw, cw, ba, lb, cb, e12, e13, hcx, hz1, hb1, -, -⟩ := H1.out.at hlt
      obtain ⟨y, rfl, xa, lw', dw, ya, lb', db, d12, d13, hcy, hz2, hb2, -, -⟩ := H2.out.at hlt
      obtain rfl : lw' = lw := by rw [e12] at d12; omega
      obtain rfl : lb' = lb := by rw [e13] at d13; omega
      have hSO : Hid (∀ n : Wd W ([(W.heap.size + 1, #[.int .i64 h, .int .i64 w, .int .i64 c, .int .i64 lo, .int .i64 hi, .slice (some y) on oc', .int .i64 ot], 26), (W.heap.size, #[.int .i64 h, .int .i64 w, .int .i64 c, .int .i64 lo, .int .i64 hi, .slice (some x) on oc, .int .i64 ot], 26)]), Calls Try.prog 36 #[.agg #[.int .i64 (O i 0), .int .i64 (O i 1), .int .i64 (O i 2), .int .i64 (O i 3), .int .i64 (O i 4), .int .i64 (O i 5), .int .i64 (O i 6), .int .i64 (O i 7), .int .i64 (O i 8), .int .i64 (O i 9), .int .i64 (O i 10), .int .i64 (O i 11), .slice wa lw' cw, .slice ba lb' cb, .int .i64 (O i 14), .int .i64 (O i 15), .int .i64 (O i 16), .int .i64 (O i 17), .int .i64 (O i 18), .int .i64 (O i 19), .int .i64 (O i 20), .int .i64 (O i 21)], .agg #[.int .i64 (O i 0), .int .i64 (O i 1), .int .i64 (O i 2), .int .i64 (O i 3), .int .i64 (O i 4), .int .i64 (O i 5), .int .i64 (O i 6), .int .i64 (O i 7), .int .i64 (O i 8), .int .i64 (O i 9), .int .i64 (O i 10), .int .i64 (O i 11), .slice xa lw' dw, .slice ya lb' db, .int .i64 (O i 14), .int .i64 (O i 15), .int .i64 (O i 16), .int .i64 (O i 17), .int .i64 (O i 18), .int .i64 (O i 19), .int .i64 (O i 20), .int .i64 (O i 21)]] n.w fun e w' => e = .returned (.bool true) ∧ Below n.w.heap.size n.w w') := fun n => sameop_any (O i) (Z i) (B i) wa ba xa ya lw' cw lb' cb dw db n.w (hz1.below n.h.below) (hz2.below n.h.below) (hb1.below n.h.below) (hb2.below n.h.below)
      have hCx : Hid (∀ wz, (∃ n : Wd W ([(W.heap.size + 1, #[.int .i64 h, .int .i64 w, .int .i64 c, .int .i64 lo, .int .i64 hi, .slice (some y) on oc', .int .i64 ot], 26), (W.heap.size, #[.int .i64 h, .int .i64 w, .int .i64 c, .int .i64 lo, .int .i64 hi, .slice (some x) on oc, .int .i64 ot], 26)]), wz = n.w) → ∀ j v, [.int .i64 (O i 0), .int .i64 (O i 1), .int .i64 (O i 2), .int .i64 (O i 3), .int .i64 (O i 4), .int .i64 (O i 5), .int .i64 (O i 6), .int .i64 (O i 7), .int .i64 (O i 8), .int .i64 (O i 9), .int .i64 (O i 10), .int .i64 (O i 11), .slice wa lw' cw, .slice ba lb' cb, .int .i64 (O i 14), .int .i64 (O i 15), .int .i64 (O i 16), .int .i64 (O i 17), .int .i64 (O i 18), .int .i64 (O i 19), .int .i64 (O i 20), .int .i64 (O i 21)][j]? = some v → wz.cell? ((x.add (i * 22)).add j) = some v) := fun wz hw j v hj => by
        obtain ⟨n, rfl⟩ := hw
        have := hcx j v hj
        exact (n.h.below.cell (World.block_lt_of_cell? W _ this)).trans this
      have hCy : Hid (∀ wz, (∃ n : Wd W ([(W.heap.size + 1, #[.int .i64 h, .int .i64 w, .int .i64 c, .int .i64 lo, .int .i64 hi, .slice (some y) on oc', .int .i64 ot], 26), (W.heap.size, #[.int .i64 h, .int .i64 w, .int .i64 c, .int .i64 lo, .int .i64 hi, .slice (some x) on oc, .int .i64 ot], 26)]), wz = n.w) → ∀ j v, [.int .i64 (O i 0), .int .i64 (O i 1), .int .i64 (O i 2), .int .i64 (O i 3), .int .i64 (O i 4), .int .i64 (O i 5), .int .i64 (O i 6), .int .i64 (O i 7), .int .i64 (O i 8), .int .i64 (O i 9), .int .i64 (O i 10), .int .i64 (O i 11), .slice xa lw' dw, .slice ya lb' db, .int .i64 (O i 14), .int .i64 (O i 15), .int .i64 (O i 16), .int .i64 (O i 17), .int .i64 (O i 18), .int .i64 (O i 19), .int .i64 (O i 20), .int .i64 (O i 21)][j]? = some v → wz.cell? ((y.add (i * 22)).add j) = some v) := fun wz hw j v hj => by
        obtain ⟨n, rfl⟩ := hw
        have := hcy j v hj
        exact (n.h.below.cell (World.block_lt_of_cell? W _ this)).trans this
      clear hcx hcy hz1 hz2 hb1 hb2 e12 e13 d12 d13 S1
      go_upto_region 6 with fail
      obtain ⟨q1, y1, q2, y2, -⟩ := rulesQ_st sr
      have hne := Nonempty.intro (Wd.mk _ sr)
      refine region_held sr (by kernel_rfl) (by kernel_rfl) ?_
      go_big_quiet_step (fail)
      go_big_quiet_step (fail)
      go_big_quiet_step (fail)
      go_big_quiet_step (fail)
      go_big_quiet_want
      refine quiet_la 70 (.tmp 50) rfl _ rfl [.int .i64 (O i 0), .int .i64 (O i 1), .int .i64 (O i 2), .int .i64 (O i 3), .int .i64 (O i 4), .int .i64 (O i 5), .int .i64 (O i 6), .int .i64 (O i 7), .int .i64 (O i 8), .int .i64 (O i 9), .int .i64 (O i 10), .int .i64 (O i 11), .slice wa lw' cw, .slice ba lb' cb, .int .i64 (O i 14), .int .i64 (O i 15), .int .i64 (O i 16), .int .i64 (O i 17), .int .i64 (O i 18), .int .i64 (O i 19), .int .i64 (O i 20), .int .i64 (O i 21)] _ hCx.out Try.underlying70 rfl (by kernel_rfl) rfl ?_
      go_simp
      go_big_quiet_on
      go_big_quiet_step (fail)
      go_big_quiet_step (fail)
      go_big_quiet_step (fail)
      go_big_quiet_step (fail)
      go_big_quiet_want
      refine quiet_la 70 (.tmp 55) rfl _ rfl [.int .i64 (O i 0), .int .i64 (O i 1), .int .i64 (O i 2), .int .i64 (O i 3), .int .i64 (O i 4), .int .i64 (O i 5), .int .i64 (O i 6), .int .i64 (O i 7), .int .i64 (O i 8), .int .i64 (O i 9), .int .i64 (O i 10), .int .i64 (O i 11), .slice xa lw' dw, .slice ya lb' db, .int .i64 (O i 14), .int .i64 (O i 15), .int .i64 (O i 16), .int .i64 (O i 17), .int .i64 (O i 18), .int .i64 (O i 19), .int .i64 (O i 20), .int .i64 (O i 21)] _ hCy.out Try.underlying70 rfl (by kernel_rfl) rfl ?_
      go_simp
      go_big_quiet_on
      repeat (go_big_quiet_step ((go_at_call 36; exact held_of (hSO.out _))))
      refine wpQuiet_nil ?_
      intro _ hw'
      obtain ⟨nq, rfl⟩ := hw'
      obtain ⟨w5, hw5⟩ : ∃ w5, nq.w = w5 := ⟨_, rfl⟩
      have s5 : Hid (St W w5 _) := hw5 ▸ nq.h
      rw [hw5]
      clear q1 y1 q2 y2 hne hw5 sr hSO hCx hCy
      clear nq
      go_wp2
      go_round
      case rel => exact ⟨i + 1, by omega, by go_num, s5.out⟩
      case measure => simp [intOf]; omega
end Go.Proofs.Ytcjnhchjikcigaa

/- What Form of package cert returns. -/
namespace Go.Proofs.Ytcjnhchjikcigaa
open Go.ChangeShapes Go.WideShapes Go.ChangeAt Go.RowKit
set_option linter.unusedVariables false
theorem neFo (T : TypeId) (hT : T = 39) (a b c d e f : Int) (v : Bool) (h : decide (a = d ∧ b = e ∧ c = f) = v) : ∀ W, (binOp .neq T (.agg #[.int .i64 a, .int .i64 b, .int .i64 c]) (.agg #[.int .i64 d, .int .i64 e, .int .i64 f])).run Try.prog W = .ok (.bool (!v)) W := by
  intro W; subst h hT; simp [go_sem]; repeat' split
  all_goals simp_all
/-- How many plans the list of op i ought to have. -/
def nuP (O : Nat → Nat → Int) (RL : List (Int × Int × Int)) (i : Nat) : Int := if rdB (O i 0) = true then (RL.getD (i + 1) (0, 0, 0)).2.2 else 0
/-! ### A model that isn't well-formed; lists of the wrong length -/
set_option maxHeartbeats 4000000 in
set_option maxRecDepth 100000 in
theorem cform_e (h w c lo hi ot : Int) (oa : Option Addr) (on oc : Nat) (O : Nat → Nat → Int) (ra : Option Addr) (rn rc : Nat) (R : List (Int × Int)) (pa : Option Addr) (pn pc : Nat) (P : List (List Pl)) (W : World) (hM : MRow W oa on oc O) (Re Ra Rw : Int) (RL : List (Int × Int × Int)) (hG : gtR O h w c lo hi ot on = (Re, Ra, RL, Rw)) (he : Re ≠ 0) :
    Calls Try.prog 12 #[.agg #[.int .i64 h, .int .i64 w, .int .i64 c, .int .i64 lo, .int .i64 hi, .slice oa on oc, .int .i64 ot], .agg #[.slice ra rn rc, .slice pa pn pc]] W fun e w' => e = .returned (.agg #[.int .i64 Re, .int .i64 Ra, .int .i64 0]) ∧ Below W.heap.size W w' := by
  have hS : Hid (∀ W, MRow W oa on oc O → _) := fun W hW => shapes_any h w c lo hi ot oa on oc O W hW
  rw [hG] at hS
  simp only at hS
  have hM2 : Hid (MRow W oa on oc O) := hM
  have qn := neFo 39 rfl Re Ra 0 0 0 0 false (decide_eq_false (fun q => he q.1))
  clear hG hM he
  have s0 := (((St.start W).new (c := #[.int .i64 h, .int .i64 w, .int .i64 c, .int .i64 lo, .int .i64 hi, .slice oa on oc, .int .i64 ot]) (t := 26)).new (c := #[.slice ra rn rc, .slice pa pn pc]) (t := 30)).new (c := #[.int .i64 0, .int .i64 0, .int .i64 0]) (t := 39)
  simp only [World.size_alloc] at s0
  go_enter Try.func12, Try.ntmps12
  go_wp2_with fail
  refine Calls.mono (hS.out _ (hM2.out.below s0.below)) ?_
  rintro e w1 ⟨v, rfl, hSh, hb⟩
  obtain ⟨va, vc, rfl⟩ := hSh.slice
  have s1 := s0.call hb
  obtain ⟨c1, f1, z1, c2, f2, z2, c3, f3, z3, -⟩ := s1.rules
  have Hs : Hid (Below W.heap.size W w1) := s1.below
  clear hb hSh s0 s1
  go_wp2
  exact bodyPost_ret (v := .agg #[.int .i64 Re, .int .i64 Ra, .int .i64 0]) (by simp [results, Try.results12, go_sem, *]) rfl ⟨rfl, bt (set3b Hs.out (by omega)) (bal _ _)⟩
set_option maxHeartbeats 4000000 in
set_option maxRecDepth 100000 in
theorem cform_l (h w c lo hi ot : Int) (oa : Option Addr) (on oc : Nat) (O : Nat → Nat → Int) (ra : Option Addr) (rn rc : Nat) (R : List (Int × Int)) (pa : Option Addr) (pn pc : Nat) (P : List (List Pl)) (W : World) (hM : MRow W oa on oc O) (Rw : Int) (RL : List (Int × Int × Int)) (hG : gtR O h w c lo hi ot on = (0, 0, RL, Rw)) (hrn : rn ≤ 140737488351232) (hpn : pn ≤ 140737488351232) (hl : ¬ (rn = on + 1 ∧ pn = on)) :
    Calls Try.prog 12 #[.agg #[.int .i64 h, .int .i64 w, .int .i64 c, .int .i64 lo, .int .i64 hi, .slice oa on oc, .int .i64 ot], .agg #[.slice ra rn rc, .slice pa pn pc]] W fun e w' => e = .returned (.agg #[.int .i64 70, .int .i64 0, .int .i64 0]) ∧ Below W.heap.size W w' := by
  have hS : Hid (∀ W, MRow W oa on oc O → _) := fun W hW => shapes_any h w c lo hi ot oa on oc O W hW
  obtain ⟨-, hRl, ho64, -, -, -⟩ := gtR_ok hG
  rw [hG] at hS
  simp only at hS
  have hM2 : Hid (MRow W oa on oc O) := hM
  have qn := neFo 39 rfl 0 0 0 0 0 0 true (by decide)
  clear hG hM
  have s0 := (((St.start W).new (c := #[.int .i64 h, .int .i64 w, .int .i64 c, .int .i64 lo, .int .i64 hi, .slice oa on oc, .int .i64 ot]) (t := 26)).new (c := #[.slice ra rn rc, .slice pa pn pc]) (t := 30)).new (c := #[.int .i64 0, .int .i64 0, .int .i64 0]) (t := 39)
  simp only [World.size_alloc] at s0
  go_enter Try.func12, Try.ntmps12
  go_wp2_with fail
  refine Calls.mono (hS.out _ (hM2.out.below s0.below)) ?_
  rintro e w1 ⟨v, rfl, hSh, hb⟩
  obtain ⟨va, vc, rfl⟩ := hSh.slice
  have s1 := s0.call hb
  obtain ⟨c1, f1, z1, c2, f2, z2, c3, f3, z3, -⟩ := s1.rules
  have Hs : Hid (Below W.heap.size W w1) := s1.below
  clear hb hSh s0 s1 hRl
  by_cases q1 : (rn : Int) = (on : Int) + 1
  · have q2 : ¬ (pn : Int) = (on : Int) := by omega
    have q1' : (rn : Int) = 1 + (on : Int) := by omega
    clear hl q1
    go_wp2
    exact bodyPost_ret (v := .agg #[.int .i64 70, .int .i64 0, .int .i64 0]) (by simp [results, Try.results12, go_sem, *]) rfl ⟨rfl, bt (set3b Hs.out (by omega)) (bal _ _)⟩
  · have q1' : ¬ (rn : Int) = 1 + (on : Int) := by omega
    clear hl q1
    go_wp2
    exact bodyPost_ret (v := .agg #[.int .i64 70, .int .i64 0, .int .i64 0]) (by simp [results, Try.results12, go_sem, *]) rfl ⟨rfl, bt (set3b Hs.out (by omega)) (bal _ _)⟩
/-! ### Span by span, op by op -/
theorem shp_at {w : World} {base : Nat} {v : Value} {L : List (Int × Int × Int)} {n : Nat} (h : Shp w base v L) (hn : L.length = n + 1) : ∃ g cap, v = .slice (some ⟨g, 0, none⟩) (n + 1) cap ∧ n + 1 ≤ cap ∧ ∀ i, i < n + 1 → ∀ A B C, L.getD i (0, 0, 0) = (A, B, C) → ∀ j u, [Value.int .i64 A, .int .i64 B, .int .i64 C][j]? = some u → w.cell? ((⟨g, i * 3, none⟩ : Addr).add j) = some u := by
  rcases h with ⟨-, q⟩ | ⟨g, cap, cur, q1, q2, q3, q4, -⟩
  · rw [q] at hn; simp at hn
  · refine ⟨g, cap, by rw [q1, hn], by rw [← hn]; exact q4.2.1, fun i hi A B C e j u hj => ?_⟩
    obtain ⟨b1, b2, b3⟩ := q4.at (show i < L.length by omega)
    rw [e] at b1 b2 b3
    simp only at b1 b2 b3
    rw [Addr.add_lit, (cells_at q3).1]
    match j, hj with
    | 0, hj => simp only [List.getElem?_cons_zero] at hj; rw [← hj]; exact b1
    | 1, hj => simp only [List.getElem?_cons_succ, List.getElem?_cons_zero] at hj; rw [← hj]; exact b2
    | 2, hj => simp only [List.getElem?_cons_succ, List.getElem?_cons_zero] at hj; rw [← hj]; exact b3
    | j + 3, hj => simp at hj
end Go.Proofs.Ytcjnhchjikcigaa
