/- The document's In: an op. Written by tools/gen/PdD.py. Steps over ops, in plain lists; the op in the document's In. -/
import Derived.Test.YthagdpiocmcbmaaGreatGr03
import Derived.Test.YthagdpiocmcbmaaGreatGr16
import Derived.Deep.CutBlock
import Derived.Deep.DeepCutAuto
/- The document's In: an op. Written by tools/gen/PdD.py. -/
namespace Go.Proofs.YthagdpiocmcbmaaGreat
open Wr
open Go.ChangeShapes Go.WideShapes Go.ChangeAt Go.RowKit
set_option linter.unusedVariables false
/-- 'append' of numbers, in a region that draws its order. -/
theorem step_app {k : IntKind} {T S : TypeId} {by8 : Nat} (kt : KT k T S by8) {w : World} {ops : Array Oper} {o : Oper} {a : Act} {K : Act → World → Prop} {Q : Exit → Act → World → Prop} {E : Prop} (hgd : o.guard = none) (s x : Operand)
    (ho : o.op = .call { callee := .builtin .append, args := #[s, x], argTypes := #[S, S] })
    (base : Nat) (v : Value) (xs ys : List Int) (hs : a.eval s = v) (hown : Own k T w base v xs) (ad : Addr) (m c : Nat) (hx : a.eval x = .slice (some ad) m c) (hy : IRow k w (some ad) m c ys)
    (hlen : xs.length + ys.length ≤ 10000000) (hbase : base ≤ w.heap.size)
    (hK : ∀ v' w', Own k T w' base v' (xs ++ ys) → w.grownBy w' v.ownBlock → (v ≠ .slice none 0 0 → v' ≠ .slice none 0 0) → K (a.put o.dst v') w') : if Region.wanted o (yielded ops a.tmps) = true then Oper.wp Tryz.prog o a w K Q else E := by
  have hw : Region.wanted o (yielded ops a.tmps) = true := by simp [Region.wanted, hgd]
  rw [if_pos hw]
  obtain ⟨hu, hin, b1, b8⟩ := kt
  obtain ⟨i0, hi, hz0, hz1, hz2⟩ := info_parts hin
  obtain ⟨hl, hc, hm, hb, hn, hcell⟩ := hy
  have hby : by8 * (xs.length + ys.length) ≤ 8 * (xs.length + ys.length) := Nat.mul_le_mul_right _ b8
  have hby' : (xs.length + m) * by8 ≤ 140737488355328 := by rw [hl] at hby hlen; rw [Nat.mul_comm]; omega
  have hcs : ∀ j u, (ys.map (Value.int k))[j]? = some u → w.cell? (ad.add j) = some u := by
    intro j u hj
    have hj' : j < m := by
      have := (List.getElem?_eq_some_iff.1 hj).1
      simpa [hl] using this
    rw [hcell ad rfl j hj']
    simp [List.getD, show j < ys.length by omega] at hj ⊢
    exact hj
  obtain ⟨v', w', hrun, r1, r2, r3⟩ := run_append_own (P := Tryz.prog) w base S o.type T i0 (.int k 0) 1 by8 hu hi hz0 hz1 hz2 rfl (by omega) v xs.length _ hown.1 ad m c (ys.map (Value.int k)) (by simp [hl]) hcs (ints_oneCell _ _) (by unfold maxLen; omega) hby' hbase
  unfold Oper.wp
  simp [execOp, ho, resolve, invoke, builtin, hs, hx, hrun, Result.andThen]
  refine hK v' w' ⟨?_, hown.2.app hb⟩ r2 (fun hv e => hv (r3.1 e).1)
  rw [List.length_append, hl, List.map_append]
  exact r1
theorem heap_eq {x : Option Obj} {c c' : Array Value} {t : TypeId} (h : x = some (.cells c t (0, 0))) (e : c = c') : x = some (.cells c' t (0, 0)) := by rw [h, e]
theorem own_slice {k : IntKind} {T : TypeId} {w : World} {base n : Nat} {v : Value} {zs : List Int} (h : Own k T w base v zs) (hn : zs.length = n) : ∃ la lc, v = .slice la n lc := by
  obtain ⟨a, c, e, -⟩ := h.row
  exact ⟨a, c, by rw [e, hn]⟩
theorem own_set {k : IntKind} {T : TypeId} {w : World} {base N i : Nat} {x v : Value} {zs : List Int} (h : Own k T w base v zs) (hN : N < base) : Own k T (w.setCell ⟨N, i, none⟩ x) base v zs := own_kept h Kept.set hN
theorem hwr_i16 {v : Int} (h0 : -32768 ≤ v) (h1 : v ≤ 32767) : IntKind.i16.wrap v = v := by
  obtain ⟨x, e, -, -, h⟩ := wrap_i16 v
  rw [e, h ⟨h0, h1⟩]
theorem hwr_i32 {v : Int} (h0 : -2147483648 ≤ v) (h1 : v ≤ 2147483647) : IntKind.i32.wrap v = v := by
  have e : IntKind.i32.wrap v = (v + 2147483648) % 4294967296 - 2147483648 := by simp [IntKind.wrap, IntKind.bits, IntKind.signed]; omega
  rw [e]; omega
theorem stp_T {t most : Int} {p : List Int → Sum (Int × Int) (Int × List Int)} {n : Nat} {s s1 s2 : Sum (Int × Int) (List Int)} {z : List Int} (h : Stp (pN t most) s (n : Int) s1) (k : Stp (pL p n) s1 z s2) : Stp (pT t most p) s z s2 := by
  have e : pL p n = (fun (m : Int) (r : List Int) => pL p m.toNat r) (n : Int) := rfl
  rw [e] at k
  exact h.bind k
theorem stp_op {q : Int} {s0 s1 s2 s3 s4 s5 s6 s7 s8 s9 s10 s11 s12 s13 s14 s15 : Sum (Int × Int) (List Int)} {n m lw lb : Nat} {zw zb : List Int} {v1 v2 v3 v4 g1 g2 g3 g4 g5 g6 g7 g8 x1 x2 x3 x4 y1 y2 y3 y4 : Int} (h1 : Stp (pU q) s0 v1 s1) (h2 : Stp (pU q) s1 v2 s2) (h3 : Stp (pU q) s2 v3 s3) (h4 : Stp (pU q) s3 v4 s4) (h5 : Stp (pL (pU q) 8) s4 [g1, g2, g3, g4, g5, g6, g7, g8] s5) (h6 : Stp (pN q 131072) s5 (n : Int) s6) (h7 : Stp (pL (p16 q) n) s6 zw s7) (h8 : Stp (pN q 1024) s7 (m : Int) s8) (h9 : Stp (pL (p32 q) m) s8 zb s9) (h10 : Stp (pL (pU q) 2) s9 [x1, x2] s10) (h11 : Stp (pL (pU q) 2) s10 [x3, x4] s11) (h12 : Stp (p32 q) s11 y1 s12) (h13 : Stp (p32 q) s12 y2 s13) (h14 : Stp (p32 q) s13 y3 s14) (h15 : Stp (p32 q) s14 y4 s15) : Stp (pOp q) s0 (dOp (oL v1 v2 v3 v4 g1 g2 g3 g4 g5 g6 g7 g8 lw lb x1 x2 x3 x4 y1 y2 y3 y4) zw zb) s15 := by
  have hA : Stp (pL (pU q) 4) s0 [v1, v2, v3, v4] s4 := h1.cons (h2.cons (h3.cons (h4.cons (.nil _))))
  have hS : Stp (pL (p32 q) 4) s11 [y1, y2, y3, y4] s15 := h12.cons (h13.cons (h14.cons (h15.cons (.nil _))))
  rw [show pOp q = _ from funext (pOp_eq q)]
  exact hA.bind (h5.bind ((stp_T h6 h7).bind ((stp_T h8 h9).bind (h10.bind (h11.bind (hS.last fun ss => (⟨[v1, v2, v3, v4] ++ [g1, g2, g3, g4, g5, g6, g7, g8], zw, zb, [x1, x2] ++ [x3, x4], ss⟩ : OpD)))))))
theorem kept_two {w w1 w2 : World} {P O : Nat} (k : Wr.Kept [P] w w1) (q : Wr.Kept [P, O] w1 w2) (hO : w.heap.size ≤ O) : Wr.Kept [P] w w2 :=
  ⟨q.1.trans k.1, q.2.1.trans k.2.1, q.2.2.1.trans k.2.2.1, Nat.le_trans k.2.2.2.1 q.2.2.2.1, fun i hi hB => (q.2.2.2.2 i (Nat.lt_of_lt_of_le hi k.2.2.2.1) (by simp at hB ⊢; omega)).trans (k.2.2.2.2 i hi hB)⟩
set_option maxHeartbeats 8000000 in
set_option maxRecDepth 100000 in
theorem inop_any (P : Nat) (q : Int) (s0 : Sum (Int × Int) (List Int)) (w : World) (h : InQ w P q s0) :
    Calls Tryz.prog 16 #[(.pointer (some ⟨P, 0, none⟩))] w fun r w' => ∃ (o : Nat → Int) (z b : List Int) (wa : Option Addr) (lw cw : Nat) (ba : Option Addr) (lb cb : Nat) (s' : Sum (Int × Int) (List Int)), r = .returned (.agg #[.int .i64 (o 0), .int .i64 (o 1), .int .i64 (o 2), .int .i64 (o 3), .int .i64 (o 4), .int .i64 (o 5), .int .i64 (o 6), .int .i64 (o 7), .int .i64 (o 8), .int .i64 (o 9), .int .i64 (o 10), .int .i64 (o 11), .slice wa lw cw, .slice ba lb cb, .int .i64 (o 14), .int .i64 (o 15), .int .i64 (o 16), .int .i64 (o 17), .int .i64 (o 18), .int .i64 (o 19), .int .i64 (o 20), .int .i64 (o 21)]) ∧ o 12 = (lw : Int) ∧ o 13 = (lb : Int) ∧ lw ≤ 131072 ∧ lb ≤ 1024 ∧
      Stp (pOp q) s0 (dOp o z b) s' ∧ Own .i16 82 w' (w.heap.size + 1) (.slice wa lw cw) z ∧ Own .i32 21 w' (w.heap.size + 1) (.slice ba lb cb) b ∧ InQ w' P q s' ∧ Wr.Kept [P] w w' := by
  have hlt := h.lt
  have p0 : Hid (InQ ((w.alloc (.cells #[.int .i64 0, .int .i64 0, .int .i64 0, .int .i64 0, .int .i64 0, .int .i64 0, .int .i64 0, .int .i64 0, .int .i64 0, .int .i64 0, .int .i64 0, .int .i64 0, .slice none 0 0, .slice none 0 0, .int .i64 0, .int .i64 0, .int .i64 0, .int .i64 0, .int .i64 0, .int .i64 0, .int .i64 0, .int .i64 0] 55)).alloc (.cells #[.int .i64 0, .int .i64 0, .int .i64 0, .int .i64 0, .int .i64 0, .int .i64 0, .int .i64 0, .int .i64 0, .int .i64 0, .int .i64 0, .int .i64 0, .int .i64 0, .slice none 0 0, .slice none 0 0, .int .i64 0, .int .i64 0, .int .i64 0, .int .i64 0, .int .i64 0, .int .i64 0, .int .i64 0, .int .i64 0] 55)) P q s0) := (h.al _).al _
  have k0 : Hid (Wr.Kept [P] w ((w.alloc (.cells #[.int .i64 0, .int .i64 0, .int .i64 0, .int .i64 0, .int .i64 0, .int .i64 0, .int .i64 0, .int .i64 0, .int .i64 0, .int .i64 0, .int .i64 0, .int .i64 0, .slice none 0 0, .slice none 0 0, .int .i64 0, .int .i64 0, .int .i64 0, .int .i64 0, .int .i64 0, .int .i64 0, .int .i64 0, .int .i64 0] 55)).alloc (.cells #[.int .i64 0, .int .i64 0, .int .i64 0, .int .i64 0, .int .i64 0, .int .i64 0, .int .i64 0, .int .i64 0, .int .i64 0, .int .i64 0, .int .i64 0, .int .i64 0, .slice none 0 0, .slice none 0 0, .int .i64 0, .int .i64 0, .int .i64 0, .int .i64 0, .int .i64 0, .int .i64 0, .int .i64 0, .int .i64 0] 55))) := (Kept.of (bal _ _)).trans (Kept.of (bal _ _))
  have b0 : Hid (((w.alloc (.cells #[.int .i64 0, .int .i64 0, .int .i64 0, .int .i64 0, .int .i64 0, .int .i64 0, .int .i64 0, .int .i64 0, .int .i64 0, .int .i64 0, .int .i64 0, .int .i64 0, .slice none 0 0, .slice none 0 0, .int .i64 0, .int .i64 0, .int .i64 0, .int .i64 0, .int .i64 0, .int .i64 0, .int .i64 0, .int .i64 0] 55)).alloc (.cells #[.int .i64 0, .int .i64 0, .int .i64 0, .int .i64 0, .int .i64 0, .int .i64 0, .int .i64 0, .int .i64 0, .int .i64 0, .int .i64 0, .int .i64 0, .int .i64 0, .slice none 0 0, .slice none 0 0, .int .i64 0, .int .i64 0, .int .i64 0, .int .i64 0, .int .i64 0, .int .i64 0, .int .i64 0, .int .i64 0] 55)).heap[w.heap.size]? = some (.cells #[.int .i64 0, .int .i64 0, .int .i64 0, .int .i64 0, .int .i64 0, .int .i64 0, .int .i64 0, .int .i64 0, .int .i64 0, .int .i64 0, .int .i64 0, .int .i64 0, .slice none 0 0, .slice none 0 0, .int .i64 0, .int .i64 0, .int .i64 0, .int .i64 0, .int .i64 0, .int .i64 0, .int .i64 0, .int .i64 0] 55 (0, 0))) := ((bal (w.alloc (.cells #[.int .i64 0, .int .i64 0, .int .i64 0, .int .i64 0, .int .i64 0, .int .i64 0, .int .i64 0, .int .i64 0, .int .i64 0, .int .i64 0, .int .i64 0, .int .i64 0, .slice none 0 0, .slice none 0 0, .int .i64 0, .int .i64 0, .int .i64 0, .int .i64 0, .int .i64 0, .int .i64 0, .int .i64 0, .int .i64 0] 55)) _).block _ (by simp)).trans (heap_alloc_new w _)
  have d0 : Hid (((w.alloc (.cells #[.int .i64 0, .int .i64 0, .int .i64 0, .int .i64 0, .int .i64 0, .int .i64 0, .int .i64 0, .int .i64 0, .int .i64 0, .int .i64 0, .int .i64 0, .int .i64 0, .slice none 0 0, .slice none 0 0, .int .i64 0, .int .i64 0, .int .i64 0, .int .i64 0, .int .i64 0, .int .i64 0, .int .i64 0, .int .i64 0] 55)).alloc (.cells #[.int .i64 0, .int .i64 0, .int .i64 0, .int .i64 0, .int .i64 0, .int .i64 0, .int .i64 0, .int .i64 0, .int .i64 0, .int .i64 0, .int .i64 0, .int .i64 0, .slice none 0 0, .slice none 0 0, .int .i64 0, .int .i64 0, .int .i64 0, .int .i64 0, .int .i64 0, .int .i64 0, .int .i64 0, .int .i64 0] 55)).heap[w.heap.size + 1]? = some (.cells #[.int .i64 0, .int .i64 0, .int .i64 0, .int .i64 0, .int .i64 0, .int .i64 0, .int .i64 0, .int .i64 0, .int .i64 0, .int .i64 0, .int .i64 0, .int .i64 0, .slice none 0 0, .slice none 0 0, .int .i64 0, .int .i64 0, .int .i64 0, .int .i64 0, .int .i64 0, .int .i64 0, .int .i64 0, .int .i64 0] 55 (0, 0))) := by
    have := heap_alloc_new (w.alloc (.cells #[.int .i64 0, .int .i64 0, .int .i64 0, .int .i64 0, .int .i64 0, .int .i64 0, .int .i64 0, .int .i64 0, .int .i64 0, .int .i64 0, .int .i64 0, .int .i64 0, .slice none 0 0, .slice none 0 0, .int .i64 0, .int .i64 0, .int .i64 0, .int .i64 0, .int .i64 0, .int .i64 0, .int .i64 0, .int .i64 0] 55)) (.cells #[.int .i64 0, .int .i64 0, .int .i64 0, .int .i64 0, .int .i64 0, .int .i64 0, .int .i64 0, .int .i64 0, .int .i64 0, .int .i64 0, .int .i64 0, .int .i64 0, .slice none 0 0, .slice none 0 0, .int .i64 0, .int .i64 0, .int .i64 0, .int .i64 0, .int .i64 0, .int .i64 0, .int .i64 0, .int .i64 0] 55)
    rw [show (w.alloc (.cells #[.int .i64 0, .int .i64 0, .int .i64 0, .int .i64 0, .int .i64 0, .int .i64 0, .int .i64 0, .int .i64 0, .int .i64 0, .int .i64 0, .int .i64 0, .int .i64 0, .slice none 0 0, .slice none 0 0, .int .i64 0, .int .i64 0, .int .i64 0, .int .i64 0, .int .i64 0, .int .i64 0, .int .i64 0, .int .i64 0] 55)).heap.size = w.heap.size + 1 by simp] at this
    exact this
  clear h
  go_enter Tryz.func16, Tryz.ntmps16
  go_wp2_with fail
  refine Calls.mono (inU_any P q _ _ p0.out) ?_
  rintro r w1 ⟨v1, s1, rfl, st, p, k⟩
  have h1 : Hid (Stp (pU q) s0 v1 s1) := st
  have d1' := (k.2.2.2.2 _ (lt_of_heap d0.out) (by simp; omega)).trans d0.out
  have p1 : Hid (InQ (w1.setCell ⟨w.heap.size + 1, 0, none⟩ (.int .i64 v1)) P q s1) := (p.keep (below_set (by omega)))
  have k1 : Hid (Wr.Kept [P] w (w1.setCell ⟨w.heap.size + 1, 0, none⟩ (.int .i64 v1))) := kept_set (k0.out.trans k) (by omega)
  have b1 : Hid ((w1.setCell ⟨w.heap.size + 1, 0, none⟩ (.int .i64 v1)).heap[w.heap.size]? = some (.cells #[.int .i64 0, .int .i64 0, .int .i64 0, .int .i64 0, .int .i64 0, .int .i64 0, .int .i64 0, .int .i64 0, .int .i64 0, .int .i64 0, .int .i64 0, .int .i64 0, .slice none 0 0, .slice none 0 0, .int .i64 0, .int .i64 0, .int .i64 0, .int .i64 0, .int .i64 0, .int .i64 0, .int .i64 0, .int .i64 0] 55 (0, 0))) := ((Below.heap_setCell _ _ _ _ (by simp)).trans ((k.2.2.2.2 _ (lt_of_heap b0.out) (by simp; omega)).trans b0.out))
  have d1 : Hid ((w1.setCell ⟨w.heap.size + 1, 0, none⟩ (.int .i64 v1)).heap[w.heap.size + 1]? = some (.cells #[.int .i64 v1, .int .i64 0, .int .i64 0, .int .i64 0, .int .i64 0, .int .i64 0, .int .i64 0, .int .i64 0, .int .i64 0, .int .i64 0, .int .i64 0, .int .i64 0, .slice none 0 0, .slice none 0 0, .int .i64 0, .int .i64 0, .int .i64 0, .int .i64 0, .int .i64 0, .int .i64 0, .int .i64 0, .int .i64 0] 55 (0, 0))) := set_at (i := 0) (v := .int .i64 v1) (d1')
  obtain ⟨cB1, fB1, zB1⟩ := cells_at d1'
  clear st p k p0 k0 b0 d0 d1' 
  go_wp2_with fail
  refine Calls.mono (inU_any P q _ _ p1.out) ?_
  rintro r w2 ⟨v2, s2, rfl, st, p, k⟩
  have h2 : Hid (Stp (pU q) s1 v2 s2) := st
  have d2' := (k.2.2.2.2 _ (lt_of_heap d1.out) (by simp; omega)).trans d1.out
  have p2 : Hid (InQ (w2.setCell ⟨w.heap.size + 1, 1, none⟩ (.int .i64 v2)) P q s2) := (p.keep (below_set (by omega)))
  have k2 : Hid (Wr.Kept [P] w (w2.setCell ⟨w.heap.size + 1, 1, none⟩ (.int .i64 v2))) := kept_set (k1.out.trans k) (by omega)
  have b2 : Hid ((w2.setCell ⟨w.heap.size + 1, 1, none⟩ (.int .i64 v2)).heap[w.heap.size]? = some (.cells #[.int .i64 0, .int .i64 0, .int .i64 0, .int .i64 0, .int .i64 0, .int .i64 0, .int .i64 0, .int .i64 0, .int .i64 0, .int .i64 0, .int .i64 0, .int .i64 0, .slice none 0 0, .slice none 0 0, .int .i64 0, .int .i64 0, .int .i64 0, .int .i64 0, .int .i64 0, .int .i64 0, .int .i64 0, .int .i64 0] 55 (0, 0))) := ((Below.heap_setCell _ _ _ _ (by simp)).trans ((k.2.2.2.2 _ (lt_of_heap b1.out) (by simp; omega)).trans b1.out))
  have d2 : Hid ((w2.setCell ⟨w.heap.size + 1, 1, none⟩ (.int .i64 v2)).heap[w.heap.size + 1]? = some (.cells #[.int .i64 v1, .int .i64 v2, .int .i64 0, .int .i64 0, .int .i64 0, .int .i64 0, .int .i64 0, .int .i64 0, .int .i64 0, .int .i64 0, .int .i64 0, .int .i64 0, .slice none 0 0, .slice none 0 0, .int .i64 0, .int .i64 0, .int .i64 0, .int .i64 0, .int .i64 0, .int .i64 0, .int .i64 0, .int .i64 0] 55 (0, 0))) := set_at (i := 1) (v := .int .i64 v2) (d2')
  obtain ⟨cB2, fB2, zB2⟩ := cells_at d2'
  clear st p k p1 k1 b1 d1 d2' cB1 fB1 zB1
  go_wp2_with fail
  refine Calls.mono (inU_any P q _ _ p2.out) ?_
  rintro r w3 ⟨v3, s3, rfl, st, p, k⟩
  have h3 : Hid (Stp (pU q) s2 v3 s3) := st
  have d3' := (k.2.2.2.2 _ (lt_of_heap d2.out) (by simp; omega)).trans d2.out
  have p3 : Hid (InQ (w3.setCell ⟨w.heap.size + 1, 2, none⟩ (.int .i64 v3)) P q s3) := (p.keep (below_set (by omega)))
  have k3 : Hid (Wr.Kept [P] w (w3.setCell ⟨w.heap.size + 1, 2, none⟩ (.int .i64 v3))) := kept_set (k2.out.trans k) (by omega)
  have b3 : Hid ((w3.setCell ⟨w.heap.size + 1, 2, none⟩ (.int .i64 v3)).heap[w.heap.size]? = some (.cells #[.int .i64 0, .int .i64 0, .int .i64 0, .int .i64 0, .int .i64 0, .int .i64 0, .int .i64 0, .int .i64 0, .int .i64 0, .int .i64 0, .int .i64 0, .int .i64 0, .slice none 0 0, .slice none 0 0, .int .i64 0, .int .i64 0, .int .i64 0, .int .i64 0, .int .i64 0, .int .i64 0, .int .i64 0, .int .i64 0] 55 (0, 0))) := ((Below.heap_setCell _ _ _ _ (by simp)).trans ((k.2.2.2.2 _ (lt_of_heap b2.out) (by simp; omega)).trans b2.out))
  have d3 : Hid ((w3.setCell ⟨w.heap.size + 1, 2, none⟩ (.int .i64 v3)).heap[w.heap.size + 1]? = some (.cells #[.int .i64 v1, .int .i64 v2, .int .i64 v3, .int .i64 0, .int .i64 0, .int .i64 0, .int .i64 0, .int .i64 0, .int .i64 0, .int .i64 0, .int .i64 0, .int .i64 0, .slice none 0 0, .slice none 0 0, .int .i64 0, .int .i64 0, .int .i64 0, .int .i64 0, .int .i64 0, .int .i64 0, .int .i64 0, .int .i64 0] 55 (0, 0))) := set_at (i := 2) (v := .int .i64 v3) (d3')
  obtain ⟨cB3, fB3, zB3⟩ := cells_at d3'
  clear st p k p2 k2 b2 d2 d3' cB2 fB2 zB2
  go_wp2_with fail
  refine Calls.mono (inU_any P q _ _ p3.out) ?_
  rintro r w4 ⟨v4, s4, rfl, st, p, k⟩
  have h4 : Hid (Stp (pU q) s3 v4 s4) := st
  have d4' := (k.2.2.2.2 _ (lt_of_heap d3.out) (by simp; omega)).trans d3.out
  have p4 : Hid (InQ (w4.setCell ⟨w.heap.size + 1, 3, none⟩ (.int .i64 v4)) P q s4) := (p.keep (below_set (by omega)))
  have k4 : Hid (Wr.Kept [P] w (w4.setCell ⟨w.heap.size + 1, 3, none⟩ (.int .i64 v4))) := kept_set (k3.out.trans k) (by omega)
  have b4 : Hid ((w4.setCell ⟨w.heap.size + 1, 3, none⟩ (.int .i64 v4)).heap[w.heap.size]? = some (.cells #[.int .i64 0, .int .i64 0, .int .i64 0, .int .i64 0, .int .i64 0, .int .i64 0, .int .i64 0, .int .i64 0, .int .i64 0, .int .i64 0, .int .i64 0, .int .i64 0, .slice none 0 0, .slice none 0 0, .int .i64 0, .int .i64 0, .int .i64 0, .int .i64 0, .int .i64 0, .int .i64 0, .int .i64 0, .int .i64 0] 55 (0, 0))) := ((Below.heap_setCell _ _ _ _ (by simp)).trans ((k.2.2.2.2 _ (lt_of_heap b3.out) (by simp; omega)).trans b3.out))
  have d4 : Hid ((w4.setCell ⟨w.heap.size + 1, 3, none⟩ (.int .i64 v4)).heap[w.heap.size + 1]? = some (.cells #[.int .i64 v1, .int .i64 v2, .int .i64 v3, .int .i64 v4, .int .i64 0, .int .i64 0, .int .i64 0, .int .i64 0, .int .i64 0, .int .i64 0, .int .i64 0, .int .i64 0, .slice none 0 0, .slice none 0 0, .int .i64 0, .int .i64 0, .int .i64 0, .int .i64 0, .int .i64 0, .int .i64 0, .int .i64 0, .int .i64 0] 55 (0, 0))) := set_at (i := 3) (v := .int .i64 v4) (d4')
  obtain ⟨cB4, fB4, zB4⟩ := cells_at d4'
  clear st p k p3 k3 b3 d3 d4' cB3 fB3 zB3
  go_wp2_with fail
  refine Calls.mono (inwindow_any P q _ _ p4.out) ?_
  rintro r w5 ⟨g1, g2, g3, g4, g5, g6, g7, g8, s5, rfl, st, p, k⟩
  have h5 : Hid (Stp (pL (pU q) 8) s4 [g1, g2, g3, g4, g5, g6, g7, g8] s5) := st
  have d5' := (k.2.2.2.2 _ (lt_of_heap d4.out) (by simp; omega)).trans d4.out
  have p5 : Hid (InQ ((((((((w5.setCell ⟨w.heap.size + 1, 4, none⟩ (.int .i64 g1)).setCell ⟨w.heap.size + 1, 5, none⟩ (.int .i64 g2)).setCell ⟨w.heap.size + 1, 6, none⟩ (.int .i64 g3)).setCell ⟨w.heap.size + 1, 7, none⟩ (.int .i64 g4)).setCell ⟨w.heap.size + 1, 8, none⟩ (.int .i64 g5)).setCell ⟨w.heap.size + 1, 9, none⟩ (.int .i64 g6)).setCell ⟨w.heap.size + 1, 10, none⟩ (.int .i64 g7)).setCell ⟨w.heap.size + 1, 11, none⟩ (.int .i64 g8)) P q s5) := ((((((((p.keep (below_set (by omega))).keep (below_set (by omega))).keep (below_set (by omega))).keep (below_set (by omega))).keep (below_set (by omega))).keep (below_set (by omega))).keep (below_set (by omega))).keep (below_set (by omega)))
  have k5 : Hid (Wr.Kept [P] w ((((((((w5.setCell ⟨w.heap.size + 1, 4, none⟩ (.int .i64 g1)).setCell ⟨w.heap.size + 1, 5, none⟩ (.int .i64 g2)).setCell ⟨w.heap.size + 1, 6, none⟩ (.int .i64 g3)).setCell ⟨w.heap.size + 1, 7, none⟩ (.int .i64 g4)).setCell ⟨w.heap.size + 1, 8, none⟩ (.int .i64 g5)).setCell ⟨w.heap.size + 1, 9, none⟩ (.int .i64 g6)).setCell ⟨w.heap.size + 1, 10, none⟩ (.int .i64 g7)).setCell ⟨w.heap.size + 1, 11, none⟩ (.int .i64 g8))) := kept_set (kept_set (kept_set (kept_set (kept_set (kept_set (kept_set (kept_set (k4.out.trans k) (by omega)) (by omega)) (by omega)) (by omega)) (by omega)) (by omega)) (by omega)) (by omega)
  have b5 : Hid (((((((((w5.setCell ⟨w.heap.size + 1, 4, none⟩ (.int .i64 g1)).setCell ⟨w.heap.size + 1, 5, none⟩ (.int .i64 g2)).setCell ⟨w.heap.size + 1, 6, none⟩ (.int .i64 g3)).setCell ⟨w.heap.size + 1, 7, none⟩ (.int .i64 g4)).setCell ⟨w.heap.size + 1, 8, none⟩ (.int .i64 g5)).setCell ⟨w.heap.size + 1, 9, none⟩ (.int .i64 g6)).setCell ⟨w.heap.size + 1, 10, none⟩ (.int .i64 g7)).setCell ⟨w.heap.size + 1, 11, none⟩ (.int .i64 g8)).heap[w.heap.size]? = some (.cells #[.int .i64 0, .int .i64 0, .int .i64 0, .int .i64 0, .int .i64 0, .int .i64 0, .int .i64 0, .int .i64 0, .int .i64 0, .int .i64 0, .int .i64 0, .int .i64 0, .slice none 0 0, .slice none 0 0, .int .i64 0, .int .i64 0, .int .i64 0, .int .i64 0, .int .i64 0, .int .i64 0, .int .i64 0, .int .i64 0] 55 (0, 0))) := ((Below.heap_setCell _ _ _ _ (by simp)).trans ((Below.heap_setCell _ _ _ _ (by simp)).trans ((Below.heap_setCell _ _ _ _ (by simp)).trans ((Below.heap_setCell _ _ _ _ (by simp)).trans ((Below.heap_setCell _ _ _ _ (by simp)).trans ((Below.heap_setCell _ _ _ _ (by simp)).trans ((Below.heap_setCell _ _ _ _ (by simp)).trans ((Below.heap_setCell _ _ _ _ (by simp)).trans ((k.2.2.2.2 _ (lt_of_heap b4.out) (by simp; omega)).trans b4.out)))))))))
  have d5 : Hid (((((((((w5.setCell ⟨w.heap.size + 1, 4, none⟩ (.int .i64 g1)).setCell ⟨w.heap.size + 1, 5, none⟩ (.int .i64 g2)).setCell ⟨w.heap.size + 1, 6, none⟩ (.int .i64 g3)).setCell ⟨w.heap.size + 1, 7, none⟩ (.int .i64 g4)).setCell ⟨w.heap.size + 1, 8, none⟩ (.int .i64 g5)).setCell ⟨w.heap.size + 1, 9, none⟩ (.int .i64 g6)).setCell ⟨w.heap.size + 1, 10, none⟩ (.int .i64 g7)).setCell ⟨w.heap.size + 1, 11, none⟩ (.int .i64 g8)).heap[w.heap.size + 1]? = some (.cells #[.int .i64 v1, .int .i64 v2, .int .i64 v3, .int .i64 v4, .int .i64 g1, .int .i64 g2, .int .i64 g3, .int .i64 g4, .int .i64 g5, .int .i64 g6, .int .i64 g7, .int .i64 g8, .slice none 0 0, .slice none 0 0, .int .i64 0, .int .i64 0, .int .i64 0, .int .i64 0, .int .i64 0, .int .i64 0, .int .i64 0, .int .i64 0] 55 (0, 0))) := heap_eq (set_at (i := 11) (v := .int .i64 g8) (set_at (i := 10) (v := .int .i64 g7) (set_at (i := 9) (v := .int .i64 g6) (set_at (i := 8) (v := .int .i64 g5) (set_at (i := 7) (v := .int .i64 g4) (set_at (i := 6) (v := .int .i64 g3) (set_at (i := 5) (v := .int .i64 g2) (set_at (i := 4) (v := .int .i64 g1) (d5'))))))))) (by kernel_rfl)
  obtain ⟨cB5, fB5, zB5⟩ := cells_at d5'
  clear st p k p4 k4 b4 d4 d5' cB4 fB4 zB4
  go_wp2_with fail
  refine Calls.mono (inN_any P q 131072 _ _ p5.out (by omega) (by omega)) ?_
  rintro r w6 ⟨n, s6, rfl, hn, st, p, k⟩
  have h6 : Hid (Stp (pN q 131072) s5 (n : Int) s6) := st
  have d6' := (k.2.2.2.2 _ (lt_of_heap d5.out) (by simp; omega)).trans d5.out
  have p6 : Hid (InQ w6 P q s6) := p
  have k6 : Hid (Wr.Kept [P] w w6) := k5.out.trans k
  have b6 : Hid (w6.heap[w.heap.size]? = some (.cells #[.int .i64 0, .int .i64 0, .int .i64 0, .int .i64 0, .int .i64 0, .int .i64 0, .int .i64 0, .int .i64 0, .int .i64 0, .int .i64 0, .int .i64 0, .int .i64 0, .slice none 0 0, .slice none 0 0, .int .i64 0, .int .i64 0, .int .i64 0, .int .i64 0, .int .i64 0, .int .i64 0, .int .i64 0, .int .i64 0] 55 (0, 0))) := ((k.2.2.2.2 _ (lt_of_heap b5.out) (by simp; omega)).trans b5.out)
  have d6 : Hid (w6.heap[w.heap.size + 1]? = some (.cells #[.int .i64 v1, .int .i64 v2, .int .i64 v3, .int .i64 v4, .int .i64 g1, .int .i64 g2, .int .i64 g3, .int .i64 g4, .int .i64 g5, .int .i64 g6, .int .i64 g7, .int .i64 g8, .slice none 0 0, .slice none 0 0, .int .i64 0, .int .i64 0, .int .i64 0, .int .i64 0, .int .i64 0, .int .i64 0, .int .i64 0, .int .i64 0] 55 (0, 0))) := d6'
  clear st p k p5 k5 b5 d5 d6' cB5 fB5 zB5
  have z6 : w.heap.size + 2 ≤ w6.heap.size := by have := lt_of_heap d6.out; omega
  go_upto_block 0 with fail
  go_cut [] (fun wx => ∃ (zw : List Int) (s7 : Sum (Int × Int) (List Int)) (wa : Option Addr) (lw cw : Nat), lw ≤ 131072 ∧ Stp (pL (p16 q) n) s6 zw s7 ∧ Own .i16 82 wx (w.heap.size + 2) (.slice wa lw cw) zw ∧ InQ wx P q s7 ∧ Wr.Kept [P] w wx ∧ wx.heap[w.heap.size]? = some (.cells #[.int .i64 0, .int .i64 0, .int .i64 0, .int .i64 0, .int .i64 0, .int .i64 0, .int .i64 0, .int .i64 0, .int .i64 0, .int .i64 0, .int .i64 0, .int .i64 0, .slice none 0 0, .slice none 0 0, .int .i64 0, .int .i64 0, .int .i64 0, .int .i64 0, .int .i64 0, .int .i64 0, .int .i64 0, .int .i64 0] 55 (0, 0)) ∧ wx.heap[w.heap.size + 1]? = some (.cells #[.int .i64 v1, .int .i64 v2, .int .i64 v3, .int .i64 v4, .int .i64 g1, .int .i64 g2, .int .i64 g3, .int .i64 g4, .int .i64 g5, .int .i64 g6, .int .i64 g7, .int .i64 g8, .slice wa lw cw, .slice none 0 0, .int .i64 0, .int .i64 0, .int .i64 0, .int .i64 0, .int .i64 0, .int .i64 0, .int .i64 0, .int .i64 0] 55 (0, 0)))
  case first =>
    go_wp2_with fail
    go_loopw [5] (fun i wr => ∃ (k : Nat) (z : List Int) (s : Sum (Int × Int) (List Int)) (la : Option Addr) (lc : Nat), k ≤ n ∧ i = .int .i64 k ∧ z.length = k ∧ Stp (pL (p16 q) k) s6 z s ∧ Own .i16 82 wr w6.heap.size (.slice la k lc) z ∧ InQ wr P q s ∧ Wr.Kept [P, w.heap.size + 1] w6 wr ∧ wr.heap[w.heap.size + 1]? = some (.cells #[.int .i64 v1, .int .i64 v2, .int .i64 v3, .int .i64 v4, .int .i64 g1, .int .i64 g2, .int .i64 g3, .int .i64 g4, .int .i64 g5, .int .i64 g6, .int .i64 g7, .int .i64 g8, .slice la k lc, .slice none 0 0, .int .i64 0, .int .i64 0, .int .i64 0, .int .i64 0, .int .i64 0, .int .i64 0, .int .i64 0, .int .i64 0] 55 (0, 0))) (fun i _ => n - (intOf i).toNat)
    case atStart => exact ⟨0, [], s6, none, 0, Nat.zero_le _, rfl, rfl, .nil _, own_none _ _ _ _, p6.out, Kept.of (Below.refl _ _), d6.out⟩
    case round =>
      obtain ⟨k, z, s, la, lc, hk, rfl, hz, hS, hO, hQ, hK, hd⟩ := hrel
      have hz' : Hid (z.length = k) := hz
      have hS' : Hid (Stp (pL (p16 q) k) s6 z s) := hS
      have hO' : Hid (Own .i16 82 wr w6.heap.size (.slice la k lc) z) := hO
      have hQ' : Hid (InQ wr P q s) := hQ
      have hK' : Hid (Wr.Kept [P, w.heap.size + 1] w6 wr) := hK
      have hd' : Hid (wr.heap[w.heap.size + 1]? = some (.cells #[.int .i64 v1, .int .i64 v2, .int .i64 v3, .int .i64 v4, .int .i64 g1, .int .i64 g2, .int .i64 g3, .int .i64 g4, .int .i64 g5, .int .i64 g6, .int .i64 g7, .int .i64 g8, .slice la k lc, .slice none 0 0, .int .i64 0, .int .i64 0, .int .i64 0, .int .i64 0, .int .i64 0, .int .i64 0, .int .i64 0, .int .i64 0] 55 (0, 0))) := hd
      have EX : Hid ((k = n ∨ ∃ e, s = .inl e) → ∃ (zw : List Int) (s7 : Sum (Int × Int) (List Int)) (wa : Option Addr) (lw cw : Nat), lw ≤ 131072 ∧ Stp (pL (p16 q) n) s6 zw s7 ∧ Own .i16 82 wr (w.heap.size + 2) (.slice wa lw cw) zw ∧ InQ wr P q s7 ∧ Wr.Kept [P] w wr ∧ wr.heap[w.heap.size]? = some (.cells #[.int .i64 0, .int .i64 0, .int .i64 0, .int .i64 0, .int .i64 0, .int .i64 0, .int .i64 0, .int .i64 0, .int .i64 0, .int .i64 0, .int .i64 0, .int .i64 0, .slice none 0 0, .slice none 0 0, .int .i64 0, .int .i64 0, .int .i64 0, .int .i64 0, .int .i64 0, .int .i64 0, .int .i64 0, .int .i64 0] 55 (0, 0)) ∧ wr.heap[w.heap.size + 1]? = some (.cells #[.int .i64 v1, .int .i64 v2, .int .i64 v3, .int .i64 v4, .int .i64 g1, .int .i64 g2, .int .i64 g3, .int .i64 g4, .int .i64 g5, .int .i64 g6, .int .i64 g7, .int .i64 g8, .slice wa lw cw, .slice none 0 0, .int .i64 0, .int .i64 0, .int .i64 0, .int .i64 0, .int .i64 0, .int .i64 0, .int .i64 0, .int .i64 0] 55 (0, 0))) := fun hx =>
        ⟨z, s, la, k, lc, by omega, by rcases hx with rfl | ⟨e, rfl⟩; exact hS; exact hS.more hk, hO.base z6, hQ, kept_two k6.out hK (by omega), (hK.2.2.2.2 _ (by omega) (by simp; omega)).trans b6.out, hd⟩
      obtain ⟨zs, f, qe, qt, hi, hs⟩ := hQ.split
      obtain ⟨ra, rl, rc, hB, -, -⟩ := hi
      obtain ⟨cP, fP, zP⟩ := cells_at hB
      obtain ⟨cO, fO, zO⟩ := cells_at hd
      clear hz hS hO hQ hK hd hB
      by_cases hlk : k < n
      · by_cases hqe : qe = 0
        · subst hqe
          have qD : Hid (InQ wr.drew P q s) := hQ'.out.below (Below.refl _ _).drew
          have kD : Hid (Wr.Kept [P, w.heap.size + 1] w6 wr.drew) := hK'.out.trans (Kept.of (Below.refl _ _).drew)
          have oD : Hid (Own .i16 82 wr.drew w6.heap.size (.slice la k lc) z) := hO'.out.below (Below.refl _ _).drew
          have dD : Hid (wr.drew.heap[w.heap.size + 1]? = some (.cells #[.int .i64 v1, .int .i64 v2, .int .i64 v3, .int .i64 v4, .int .i64 g1, .int .i64 g2, .int .i64 g3, .int .i64 g4, .int .i64 g5, .int .i64 g6, .int .i64 g7, .int .i64 g8, .slice la k lc, .slice none 0 0, .int .i64 0, .int .i64 0, .int .i64 0, .int .i64 0, .int .i64 0, .int .i64 0, .int .i64 0, .int .i64 0] 55 (0, 0))) := hd'.out
          clear EX hs hQ' hK' hO'
          go_wp2
          go_region_law (first
            | (go_simp; go_at_call 14; refine (inS16_any P q s _ qD.out).mono ?_; rintro e w1 ⟨v, s1, rfl, hv, st, q1, k1⟩; obtain ⟨hv1, hv2⟩ := hv; have hwr := hwr_i16 hv1 hv2; have hd1 := (k1.2.2.2.2 _ (lt_of_heap dD.out) (by simp; omega)).trans dD.out; obtain ⟨cQ, fQ, zQ⟩ := cells_at hd1; have o1 := own_kept oD.out k1 (by omega))
            | (refine step_app kt_i16 rfl (.tmp 38) (.tmp 42) rfl w6.heap.size (.slice la k lc) z [v] rfl (o1.alloc (.cells #[.int .i16 v] 82)) ⟨w1.heap.size, 0, none⟩ 1 1 rfl (row_one .i16 82 w1 v (inf_i16 ⟨hv1, hv2⟩)) (by have := hz'.out; simp; omega) (by have := k1.2.2.2.1; have := kD.out.2.2.2.1; simp; omega) ?_; intro v3 w3 own3 gr3 nn3; have hb3 : Below w6.heap.size w1 w3 := (o1.alloc (.cells #[.int .i16 v] 82)).bel ((bal w1 _).mono (by have := k1.2.2.2.1; have := kD.out.2.2.2.1; omega)) gr3 (Nat.le_refl _) (by have := k1.2.2.2.1; have := kD.out.2.2.2.1; simp; omega); have hd3 := (hb3.block _ (by omega)).trans hd1; obtain ⟨cS, fS, zS⟩ := cells_at hd3; obtain ⟨la3, lc3, rfl⟩ := own_slice own3 (show (z ++ [v]).length = k + 1 by rw [List.length_append, hz'.out]; rfl)))
          all_goals
            have hE : Hid (Stp (pL (p16 q) (k + 1)) s6 (z ++ [v]) s1 ∧ Own .i16 82 (w3.setCell ⟨w.heap.size + 1, 12, none⟩ (.slice la3 (k + 1) lc3)) w6.heap.size (.slice la3 (k + 1) lc3) (z ++ [v]) ∧ InQ (w3.setCell ⟨w.heap.size + 1, 12, none⟩ (.slice la3 (k + 1) lc3)) P q s1 ∧ Wr.Kept [P, w.heap.size + 1] w6 (w3.setCell ⟨w.heap.size + 1, 12, none⟩ (.slice la3 (k + 1) lc3)) ∧ (w3.setCell ⟨w.heap.size + 1, 12, none⟩ (.slice la3 (k + 1) lc3)).heap[w.heap.size + 1]? = some (.cells #[.int .i64 v1, .int .i64 v2, .int .i64 v3, .int .i64 v4, .int .i64 g1, .int .i64 g2, .int .i64 g3, .int .i64 g4, .int .i64 g5, .int .i64 g6, .int .i64 g7, .int .i64 g8, .slice la3 (k + 1) lc3, .slice none 0 0, .int .i64 0, .int .i64 0, .int .i64 0, .int .i64 0, .int .i64 0, .int .i64 0, .int .i64 0, .int .i64 0] 55 (0, 0))) :=
              ⟨hS'.out.snoc st, own_keptL own3 (Kept.set (B := w.heap.size + 1)) (by simp; omega), (q1.keep (hb3.mono (by omega))).keep (below_set (by omega)), (kept_belowL (kD.out.trans (k1.wide (by simp))) hb3).trans ((Kept.set (B := w.heap.size + 1)).wide (by simp)), set_at hd3⟩
            clear st q1 k1 own3 gr3 nn3 hb3 hd3 cS hd1 cQ cO o1
            go_wp2
            go_roundw
            case rel => exact ⟨k + 1, z ++ [v], s1, la3, lc3, by omega, by go_num, by rw [List.length_append, hz'.out]; rfl, hE.out.1, hE.out.2.1, hE.out.2.2.1, hE.out.2.2.2.1, hE.out.2.2.2.2⟩
            case measure => simp [intOf]; omega
        · have hb : (qe == 0) = false := by simpa using hqe
          have EX' : Hid _ := EX.out (.inr (by rcases hs with ⟨rfl, -⟩ | ⟨-, h, -⟩; exact ⟨_, rfl⟩; exact absurd h hqe))
          clear EX hs
          go_wp2
          go_meet
          exact EX'.out
      · have EX' : Hid _ := EX.out (.inl (by omega))
        clear EX hs
        go_wp2
        go_meet
        exact EX'.out
  case rest =>
  obtain ⟨zw, s7, wa, lw, cw, hl7, st, ow, p, k, hbb, hdd⟩ := hcut
  obtain ⟨w7, rfl⟩ : ∃ wo, wo = wc := ⟨_, rfl⟩
  have h7 : Hid (Stp (pL (p16 q) n) s6 zw s7) := st
  have p7 : Hid (InQ w7 P q s7) := p
  have k7 : Hid (Wr.Kept [P] w w7) := k
  have b7 : Hid (w7.heap[w.heap.size]? = some (.cells #[.int .i64 0, .int .i64 0, .int .i64 0, .int .i64 0, .int .i64 0, .int .i64 0, .int .i64 0, .int .i64 0, .int .i64 0, .int .i64 0, .int .i64 0, .int .i64 0, .slice none 0 0, .slice none 0 0, .int .i64 0, .int .i64 0, .int .i64 0, .int .i64 0, .int .i64 0, .int .i64 0, .int .i64 0, .int .i64 0] 55 (0, 0))) := hbb
  have d7 : Hid (w7.heap[w.heap.size + 1]? = some (.cells #[.int .i64 v1, .int .i64 v2, .int .i64 v3, .int .i64 v4, .int .i64 g1, .int .i64 g2, .int .i64 g3, .int .i64 g4, .int .i64 g5, .int .i64 g6, .int .i64 g7, .int .i64 g8, .slice wa lw cw, .slice none 0 0, .int .i64 0, .int .i64 0, .int .i64 0, .int .i64 0, .int .i64 0, .int .i64 0, .int .i64 0, .int .i64 0] 55 (0, 0))) := hdd
  have oz7 : Hid (Own .i16 82 w7 (w.heap.size + 2) (.slice wa lw cw) zw) := ow
  clear st ow p k hbb hdd p6 k6 b6 d6 z6
  go_wp2_with fail
  refine Calls.mono (inN_any P q 1024 _ _ p7.out (by omega) (by omega)) ?_
  rintro r w8 ⟨m, s8, rfl, hm, st, p, k⟩
  have h8 : Hid (Stp (pN q 1024) s7 (m : Int) s8) := st
  have d8' := (k.2.2.2.2 _ (lt_of_heap d7.out) (by simp; omega)).trans d7.out
  have p8 : Hid (InQ w8 P q s8) := p
  have k8 : Hid (Wr.Kept [P] w w8) := k7.out.trans k
  have b8 : Hid (w8.heap[w.heap.size]? = some (.cells #[.int .i64 0, .int .i64 0, .int .i64 0, .int .i64 0, .int .i64 0, .int .i64 0, .int .i64 0, .int .i64 0, .int .i64 0, .int .i64 0, .int .i64 0, .int .i64 0, .slice none 0 0, .slice none 0 0, .int .i64 0, .int .i64 0, .int .i64 0, .int .i64 0, .int .i64 0, .int .i64 0, .int .i64 0, .int .i64 0] 55 (0, 0))) := ((k.2.2.2.2 _ (lt_of_heap b7.out) (by simp; omega)).trans b7.out)
  have d8 : Hid (w8.heap[w.heap.size + 1]? = some (.cells #[.int .i64 v1, .int .i64 v2, .int .i64 v3, .int .i64 v4, .int .i64 g1, .int .i64 g2, .int .i64 g3, .int .i64 g4, .int .i64 g5, .int .i64 g6, .int .i64 g7, .int .i64 g8, .slice wa lw cw, .slice none 0 0, .int .i64 0, .int .i64 0, .int .i64 0, .int .i64 0, .int .i64 0, .int .i64 0, .int .i64 0, .int .i64 0] 55 (0, 0))) := d8'
  have oz8 : Hid (Own .i16 82 w8 (w.heap.size + 2) (.slice wa lw cw) zw) := own_kept oz7.out k (by omega)
  clear st p k p7 k7 b7 d7 d8'  oz7
  have z8 : w.heap.size + 2 ≤ w8.heap.size := by have := lt_of_heap d8.out; omega
  go_upto_block 2 with fail
  go_cut [] (fun wx => ∃ (zb : List Int) (s9 : Sum (Int × Int) (List Int)) (ba : Option Addr) (lb cb : Nat), lb ≤ 1024 ∧ Stp (pL (p32 q) m) s8 zb s9 ∧ Own .i32 21 wx (w.heap.size + 2) (.slice ba lb cb) zb ∧ InQ wx P q s9 ∧ Wr.Kept [P] w wx ∧ wx.heap[w.heap.size]? = some (.cells #[.int .i64 0, .int .i64 0, .int .i64 0, .int .i64 0, .int .i64 0, .int .i64 0, .int .i64 0, .int .i64 0, .int .i64 0, .int .i64 0, .int .i64 0, .int .i64 0, .slice none 0 0, .slice none 0 0, .int .i64 0, .int .i64 0, .int .i64 0, .int .i64 0, .int .i64 0, .int .i64 0, .int .i64 0, .int .i64 0] 55 (0, 0)) ∧ wx.heap[w.heap.size + 1]? = some (.cells #[.int .i64 v1, .int .i64 v2, .int .i64 v3, .int .i64 v4, .int .i64 g1, .int .i64 g2, .int .i64 g3, .int .i64 g4, .int .i64 g5, .int .i64 g6, .int .i64 g7, .int .i64 g8, .slice wa lw cw, .slice ba lb cb, .int .i64 0, .int .i64 0, .int .i64 0, .int .i64 0, .int .i64 0, .int .i64 0, .int .i64 0, .int .i64 0] 55 (0, 0)) ∧ Own .i16 82 wx (w.heap.size + 2) (.slice wa lw cw) zw)
  case first =>
    go_wp2_with fail
    go_loopw [6] (fun i wr => ∃ (k : Nat) (z : List Int) (s : Sum (Int × Int) (List Int)) (la : Option Addr) (lc : Nat), k ≤ m ∧ i = .int .i64 k ∧ z.length = k ∧ Stp (pL (p32 q) k) s8 z s ∧ Own .i32 21 wr w8.heap.size (.slice la k lc) z ∧ InQ wr P q s ∧ Wr.Kept [P, w.heap.size + 1] w8 wr ∧ wr.heap[w.heap.size + 1]? = some (.cells #[.int .i64 v1, .int .i64 v2, .int .i64 v3, .int .i64 v4, .int .i64 g1, .int .i64 g2, .int .i64 g3, .int .i64 g4, .int .i64 g5, .int .i64 g6, .int .i64 g7, .int .i64 g8, .slice wa lw cw, .slice la k lc, .int .i64 0, .int .i64 0, .int .i64 0, .int .i64 0, .int .i64 0, .int .i64 0, .int .i64 0, .int .i64 0] 55 (0, 0))) (fun i _ => m - (intOf i).toNat)
    case atStart => exact ⟨0, [], s8, none, 0, Nat.zero_le _, rfl, rfl, .nil _, own_none _ _ _ _, p8.out, Kept.of (Below.refl _ _), d8.out⟩
    case round =>
      obtain ⟨k, z, s, la, lc, hk, rfl, hz, hS, hO, hQ, hK, hd⟩ := hrel
      have hz' : Hid (z.length = k) := hz
      have hS' : Hid (Stp (pL (p32 q) k) s8 z s) := hS
      have hO' : Hid (Own .i32 21 wr w8.heap.size (.slice la k lc) z) := hO
      have hQ' : Hid (InQ wr P q s) := hQ
      have hK' : Hid (Wr.Kept [P, w.heap.size + 1] w8 wr) := hK
      have hd' : Hid (wr.heap[w.heap.size + 1]? = some (.cells #[.int .i64 v1, .int .i64 v2, .int .i64 v3, .int .i64 v4, .int .i64 g1, .int .i64 g2, .int .i64 g3, .int .i64 g4, .int .i64 g5, .int .i64 g6, .int .i64 g7, .int .i64 g8, .slice wa lw cw, .slice la k lc, .int .i64 0, .int .i64 0, .int .i64 0, .int .i64 0, .int .i64 0, .int .i64 0, .int .i64 0, .int .i64 0] 55 (0, 0))) := hd
      have EX : Hid ((k = m ∨ ∃ e, s = .inl e) → ∃ (zb : List Int) (s9 : Sum (Int × Int) (List Int)) (ba : Option Addr) (lb cb : Nat), lb ≤ 1024 ∧ Stp (pL (p32 q) m) s8 zb s9 ∧ Own .i32 21 wr (w.heap.size + 2) (.slice ba lb cb) zb ∧ InQ wr P q s9 ∧ Wr.Kept [P] w wr ∧ wr.heap[w.heap.size]? = some (.cells #[.int .i64 0, .int .i64 0, .int .i64 0, .int .i64 0, .int .i64 0, .int .i64 0, .int .i64 0, .int .i64 0, .int .i64 0, .int .i64 0, .int .i64 0, .int .i64 0, .slice none 0 0, .slice none 0 0, .int .i64 0, .int .i64 0, .int .i64 0, .int .i64 0, .int .i64 0, .int .i64 0, .int .i64 0, .int .i64 0] 55 (0, 0)) ∧ wr.heap[w.heap.size + 1]? = some (.cells #[.int .i64 v1, .int .i64 v2, .int .i64 v3, .int .i64 v4, .int .i64 g1, .int .i64 g2, .int .i64 g3, .int .i64 g4, .int .i64 g5, .int .i64 g6, .int .i64 g7, .int .i64 g8, .slice wa lw cw, .slice ba lb cb, .int .i64 0, .int .i64 0, .int .i64 0, .int .i64 0, .int .i64 0, .int .i64 0, .int .i64 0, .int .i64 0] 55 (0, 0)) ∧ Own .i16 82 wr (w.heap.size + 2) (.slice wa lw cw) zw) := fun hx =>
        ⟨z, s, la, k, lc, by omega, by rcases hx with rfl | ⟨e, rfl⟩; exact hS; exact hS.more hk, hO.base z8, hQ, kept_two k8.out hK (by omega), (hK.2.2.2.2 _ (by omega) (by simp; omega)).trans b8.out, hd, own_keptL oz8.out hK (by simp; omega)⟩
      obtain ⟨zs, f, qe, qt, hi, hs⟩ := hQ.split
      obtain ⟨ra, rl, rc, hB, -, -⟩ := hi
      obtain ⟨cP, fP, zP⟩ := cells_at hB
      obtain ⟨cO, fO, zO⟩ := cells_at hd
      clear hz hS hO hQ hK hd hB
      by_cases hlk : k < m
      · by_cases hqe : qe = 0
        · subst hqe
          have qD : Hid (InQ wr.drew P q s) := hQ'.out.below (Below.refl _ _).drew
          have kD : Hid (Wr.Kept [P, w.heap.size + 1] w8 wr.drew) := hK'.out.trans (Kept.of (Below.refl _ _).drew)
          have oD : Hid (Own .i32 21 wr.drew w8.heap.size (.slice la k lc) z) := hO'.out.below (Below.refl _ _).drew
          have dD : Hid (wr.drew.heap[w.heap.size + 1]? = some (.cells #[.int .i64 v1, .int .i64 v2, .int .i64 v3, .int .i64 v4, .int .i64 g1, .int .i64 g2, .int .i64 g3, .int .i64 g4, .int .i64 g5, .int .i64 g6, .int .i64 g7, .int .i64 g8, .slice wa lw cw, .slice la k lc, .int .i64 0, .int .i64 0, .int .i64 0, .int .i64 0, .int .i64 0, .int .i64 0, .int .i64 0, .int .i64 0] 55 (0, 0))) := hd'.out
          clear EX hs hQ' hK' hO'
          go_wp2
          go_region_law (first
            | (go_simp; go_at_call 14; refine (inS32_any P q s _ qD.out).mono ?_; rintro e w1 ⟨v, s1, rfl, hv, st, q1, k1⟩; obtain ⟨hv1, hv2⟩ := hv; have hwr := hwr_i32 hv1 hv2; have hd1 := (k1.2.2.2.2 _ (lt_of_heap dD.out) (by simp; omega)).trans dD.out; obtain ⟨cQ, fQ, zQ⟩ := cells_at hd1; have o1 := own_kept oD.out k1 (by omega))
            | (refine step_app kt_i32 rfl (.tmp 61) (.tmp 65) rfl w8.heap.size (.slice la k lc) z [v] rfl (o1.alloc (.cells #[.int .i32 v] 21)) ⟨w1.heap.size, 0, none⟩ 1 1 rfl (row_one .i32 21 w1 v (inf_i32 ⟨hv1, hv2⟩)) (by have := hz'.out; simp; omega) (by have := k1.2.2.2.1; have := kD.out.2.2.2.1; simp; omega) ?_; intro v3 w3 own3 gr3 nn3; have hb3 : Below w8.heap.size w1 w3 := (o1.alloc (.cells #[.int .i32 v] 21)).bel ((bal w1 _).mono (by have := k1.2.2.2.1; have := kD.out.2.2.2.1; omega)) gr3 (Nat.le_refl _) (by have := k1.2.2.2.1; have := kD.out.2.2.2.1; simp; omega); have hd3 := (hb3.block _ (by omega)).trans hd1; obtain ⟨cS, fS, zS⟩ := cells_at hd3; obtain ⟨la3, lc3, rfl⟩ := own_slice own3 (show (z ++ [v]).length = k + 1 by rw [List.length_append, hz'.out]; rfl)))
          all_goals
            have hE : Hid (Stp (pL (p32 q) (k + 1)) s8 (z ++ [v]) s1 ∧ Own .i32 21 (w3.setCell ⟨w.heap.size + 1, 13, none⟩ (.slice la3 (k + 1) lc3)) w8.heap.size (.slice la3 (k + 1) lc3) (z ++ [v]) ∧ InQ (w3.setCell ⟨w.heap.size + 1, 13, none⟩ (.slice la3 (k + 1) lc3)) P q s1 ∧ Wr.Kept [P, w.heap.size + 1] w8 (w3.setCell ⟨w.heap.size + 1, 13, none⟩ (.slice la3 (k + 1) lc3)) ∧ (w3.setCell ⟨w.heap.size + 1, 13, none⟩ (.slice la3 (k + 1) lc3)).heap[w.heap.size + 1]? = some (.cells #[.int .i64 v1, .int .i64 v2, .int .i64 v3, .int .i64 v4, .int .i64 g1, .int .i64 g2, .int .i64 g3, .int .i64 g4, .int .i64 g5, .int .i64 g6, .int .i64 g7, .int .i64 g8, .slice wa lw cw, .slice la3 (k + 1) lc3, .int .i64 0, .int .i64 0, .int .i64 0, .int .i64 0, .int .i64 0, .int .i64 0, .int .i64 0, .int .i64 0] 55 (0, 0))) :=
              ⟨hS'.out.snoc st, own_keptL own3 (Kept.set (B := w.heap.size + 1)) (by simp; omega), (q1.keep (hb3.mono (by omega))).keep (below_set (by omega)), (kept_belowL (kD.out.trans (k1.wide (by simp))) hb3).trans ((Kept.set (B := w.heap.size + 1)).wide (by simp)), set_at hd3⟩
            clear st q1 k1 own3 gr3 nn3 hb3 hd3 cS hd1 cQ cO o1
            go_wp2
            go_roundw
            case rel => exact ⟨k + 1, z ++ [v], s1, la3, lc3, by omega, by go_num, by rw [List.length_append, hz'.out]; rfl, hE.out.1, hE.out.2.1, hE.out.2.2.1, hE.out.2.2.2.1, hE.out.2.2.2.2⟩
            case measure => simp [intOf]; omega
        · have hb : (qe == 0) = false := by simpa using hqe
          have EX' : Hid _ := EX.out (.inr (by rcases hs with ⟨rfl, -⟩ | ⟨-, h, -⟩; exact ⟨_, rfl⟩; exact absurd h hqe))
          clear EX hs
          go_wp2
          go_meet
          exact EX'.out
      · have EX' : Hid _ := EX.out (.inl (by omega))
        clear EX hs
        go_wp2
        go_meet
        exact EX'.out
  case rest =>
  obtain ⟨zb, s9, ba, lb, cb, hl9, st, ow, p, k, hbb, hdd, ooz⟩ := hcut
  obtain ⟨w9, rfl⟩ : ∃ wo, wo = wc := ⟨_, rfl⟩
  have h9 : Hid (Stp (pL (p32 q) m) s8 zb s9) := st
  have p9 : Hid (InQ w9 P q s9) := p
  have k9 : Hid (Wr.Kept [P] w w9) := k
  have b9 : Hid (w9.heap[w.heap.size]? = some (.cells #[.int .i64 0, .int .i64 0, .int .i64 0, .int .i64 0, .int .i64 0, .int .i64 0, .int .i64 0, .int .i64 0, .int .i64 0, .int .i64 0, .int .i64 0, .int .i64 0, .slice none 0 0, .slice none 0 0, .int .i64 0, .int .i64 0, .int .i64 0, .int .i64 0, .int .i64 0, .int .i64 0, .int .i64 0, .int .i64 0] 55 (0, 0))) := hbb
  have d9 : Hid (w9.heap[w.heap.size + 1]? = some (.cells #[.int .i64 v1, .int .i64 v2, .int .i64 v3, .int .i64 v4, .int .i64 g1, .int .i64 g2, .int .i64 g3, .int .i64 g4, .int .i64 g5, .int .i64 g6, .int .i64 g7, .int .i64 g8, .slice wa lw cw, .slice ba lb cb, .int .i64 0, .int .i64 0, .int .i64 0, .int .i64 0, .int .i64 0, .int .i64 0, .int .i64 0, .int .i64 0] 55 (0, 0))) := hdd
  have ob9 : Hid (Own .i32 21 w9 (w.heap.size + 2) (.slice ba lb cb) zb) := ow
  have oz9 : Hid (Own .i16 82 w9 (w.heap.size + 2) (.slice wa lw cw) zw) := ooz
  clear st ow p k hbb hdd p8 k8 b8 d8 z8 ooz oz8
  go_wp2_with fail
  refine Calls.mono (inscale_any P q _ _ p9.out) ?_
  rintro r w10 ⟨x1, x2, s10, rfl, st, p, k⟩
  have h10 : Hid (Stp (pL (pU q) 2) s9 [x1, x2] s10) := st
  have d10' := (k.2.2.2.2 _ (lt_of_heap d9.out) (by simp; omega)).trans d9.out
  have p10 : Hid (InQ ((w10.setCell ⟨w.heap.size + 1, 14, none⟩ (.int .i64 x1)).setCell ⟨w.heap.size + 1, 15, none⟩ (.int .i64 x2)) P q s10) := ((p.keep (below_set (by omega))).keep (below_set (by omega)))
  have k10 : Hid (Wr.Kept [P] w ((w10.setCell ⟨w.heap.size + 1, 14, none⟩ (.int .i64 x1)).setCell ⟨w.heap.size + 1, 15, none⟩ (.int .i64 x2))) := kept_set (kept_set (k9.out.trans k) (by omega)) (by omega)
  have b10 : Hid (((w10.setCell ⟨w.heap.size + 1, 14, none⟩ (.int .i64 x1)).setCell ⟨w.heap.size + 1, 15, none⟩ (.int .i64 x2)).heap[w.heap.size]? = some (.cells #[.int .i64 0, .int .i64 0, .int .i64 0, .int .i64 0, .int .i64 0, .int .i64 0, .int .i64 0, .int .i64 0, .int .i64 0, .int .i64 0, .int .i64 0, .int .i64 0, .slice none 0 0, .slice none 0 0, .int .i64 0, .int .i64 0, .int .i64 0, .int .i64 0, .int .i64 0, .int .i64 0, .int .i64 0, .int .i64 0] 55 (0, 0))) := ((Below.heap_setCell _ _ _ _ (by simp)).trans ((Below.heap_setCell _ _ _ _ (by simp)).trans ((k.2.2.2.2 _ (lt_of_heap b9.out) (by simp; omega)).trans b9.out)))
  have d10 : Hid (((w10.setCell ⟨w.heap.size + 1, 14, none⟩ (.int .i64 x1)).setCell ⟨w.heap.size + 1, 15, none⟩ (.int .i64 x2)).heap[w.heap.size + 1]? = some (.cells #[.int .i64 v1, .int .i64 v2, .int .i64 v3, .int .i64 v4, .int .i64 g1, .int .i64 g2, .int .i64 g3, .int .i64 g4, .int .i64 g5, .int .i64 g6, .int .i64 g7, .int .i64 g8, .slice wa lw cw, .slice ba lb cb, .int .i64 x1, .int .i64 x2, .int .i64 0, .int .i64 0, .int .i64 0, .int .i64 0, .int .i64 0, .int .i64 0] 55 (0, 0))) := heap_eq (set_at (i := 15) (v := .int .i64 x2) (set_at (i := 14) (v := .int .i64 x1) (d10'))) (by kernel_rfl)
  have oz10 : Hid (Own .i16 82 ((w10.setCell ⟨w.heap.size + 1, 14, none⟩ (.int .i64 x1)).setCell ⟨w.heap.size + 1, 15, none⟩ (.int .i64 x2)) (w.heap.size + 2) (.slice wa lw cw) zw) := own_set (own_set (own_kept oz9.out k (by omega)) (by omega)) (by omega)
  have ob10 : Hid (Own .i32 21 ((w10.setCell ⟨w.heap.size + 1, 14, none⟩ (.int .i64 x1)).setCell ⟨w.heap.size + 1, 15, none⟩ (.int .i64 x2)) (w.heap.size + 2) (.slice ba lb cb) zb) := own_set (own_set (own_kept ob9.out k (by omega)) (by omega)) (by omega)
  obtain ⟨cB10, fB10, zB10⟩ := cells_at d10'
  clear st p k p9 k9 b9 d9 d10'  oz9 ob9
  go_wp2_with fail
  refine Calls.mono (inscale_any P q _ _ p10.out) ?_
  rintro r w11 ⟨x3, x4, s11, rfl, st, p, k⟩
  have h11 : Hid (Stp (pL (pU q) 2) s10 [x3, x4] s11) := st
  have d11' := (k.2.2.2.2 _ (lt_of_heap d10.out) (by simp; omega)).trans d10.out
  have p11 : Hid (InQ ((w11.setCell ⟨w.heap.size + 1, 16, none⟩ (.int .i64 x3)).setCell ⟨w.heap.size + 1, 17, none⟩ (.int .i64 x4)) P q s11) := ((p.keep (below_set (by omega))).keep (below_set (by omega)))
  have k11 : Hid (Wr.Kept [P] w ((w11.setCell ⟨w.heap.size + 1, 16, none⟩ (.int .i64 x3)).setCell ⟨w.heap.size + 1, 17, none⟩ (.int .i64 x4))) := kept_set (kept_set (k10.out.trans k) (by omega)) (by omega)
  have b11 : Hid (((w11.setCell ⟨w.heap.size + 1, 16, none⟩ (.int .i64 x3)).setCell ⟨w.heap.size + 1, 17, none⟩ (.int .i64 x4)).heap[w.heap.size]? = some (.cells #[.int .i64 0, .int .i64 0, .int .i64 0, .int .i64 0, .int .i64 0, .int .i64 0, .int .i64 0, .int .i64 0, .int .i64 0, .int .i64 0, .int .i64 0, .int .i64 0, .slice none 0 0, .slice none 0 0, .int .i64 0, .int .i64 0, .int .i64 0, .int .i64 0, .int .i64 0, .int .i64 0, .int .i64 0, .int .i64 0] 55 (0, 0))) := ((Below.heap_setCell _ _ _ _ (by simp)).trans ((Below.heap_setCell _ _ _ _ (by simp)).trans ((k.2.2.2.2 _ (lt_of_heap b10.out) (by simp; omega)).trans b10.out)))
  have d11 : Hid (((w11.setCell ⟨w.heap.size + 1, 16, none⟩ (.int .i64 x3)).setCell ⟨w.heap.size + 1, 17, none⟩ (.int .i64 x4)).heap[w.heap.size + 1]? = some (.cells #[.int .i64 v1, .int .i64 v2, .int .i64 v3, .int .i64 v4, .int .i64 g1, .int .i64 g2, .int .i64 g3, .int .i64 g4, .int .i64 g5, .int .i64 g6, .int .i64 g7, .int .i64 g8, .slice wa lw cw, .slice ba lb cb, .int .i64 x1, .int .i64 x2, .int .i64 x3, .int .i64 x4, .int .i64 0, .int .i64 0, .int .i64 0, .int .i64 0] 55 (0, 0))) := heap_eq (set_at (i := 17) (v := .int .i64 x4) (set_at (i := 16) (v := .int .i64 x3) (d11'))) (by kernel_rfl)
  have oz11 : Hid (Own .i16 82 ((w11.setCell ⟨w.heap.size + 1, 16, none⟩ (.int .i64 x3)).setCell ⟨w.heap.size + 1, 17, none⟩ (.int .i64 x4)) (w.heap.size + 2) (.slice wa lw cw) zw) := own_set (own_set (own_kept oz10.out k (by omega)) (by omega)) (by omega)
  have ob11 : Hid (Own .i32 21 ((w11.setCell ⟨w.heap.size + 1, 16, none⟩ (.int .i64 x3)).setCell ⟨w.heap.size + 1, 17, none⟩ (.int .i64 x4)) (w.heap.size + 2) (.slice ba lb cb) zb) := own_set (own_set (own_kept ob10.out k (by omega)) (by omega)) (by omega)
  obtain ⟨cB11, fB11, zB11⟩ := cells_at d11'
  clear st p k p10 k10 b10 d10 d11' cB10 fB10 zB10 oz10 ob10
  go_wp2_with fail
  refine Calls.mono (inS32_any P q _ _ p11.out) ?_
  rintro r w12 ⟨y1, s12, rfl, hy1, st, p, k⟩
  have h12 : Hid (Stp (p32 q) s11 y1 s12) := st
  have d12' := (k.2.2.2.2 _ (lt_of_heap d11.out) (by simp; omega)).trans d11.out
  have p12 : Hid (InQ (w12.setCell ⟨w.heap.size + 1, 18, none⟩ (.int .i64 y1)) P q s12) := (p.keep (below_set (by omega)))
  have k12 : Hid (Wr.Kept [P] w (w12.setCell ⟨w.heap.size + 1, 18, none⟩ (.int .i64 y1))) := kept_set (k11.out.trans k) (by omega)
  have b12 : Hid ((w12.setCell ⟨w.heap.size + 1, 18, none⟩ (.int .i64 y1)).heap[w.heap.size]? = some (.cells #[.int .i64 0, .int .i64 0, .int .i64 0, .int .i64 0, .int .i64 0, .int .i64 0, .int .i64 0, .int .i64 0, .int .i64 0, .int .i64 0, .int .i64 0, .int .i64 0, .slice none 0 0, .slice none 0 0, .int .i64 0, .int .i64 0, .int .i64 0, .int .i64 0, .int .i64 0, .int .i64 0, .int .i64 0, .int .i64 0] 55 (0, 0))) := ((Below.heap_setCell _ _ _ _ (by simp)).trans ((k.2.2.2.2 _ (lt_of_heap b11.out) (by simp; omega)).trans b11.out))
  have d12 : Hid ((w12.setCell ⟨w.heap.size + 1, 18, none⟩ (.int .i64 y1)).heap[w.heap.size + 1]? = some (.cells #[.int .i64 v1, .int .i64 v2, .int .i64 v3, .int .i64 v4, .int .i64 g1, .int .i64 g2, .int .i64 g3, .int .i64 g4, .int .i64 g5, .int .i64 g6, .int .i64 g7, .int .i64 g8, .slice wa lw cw, .slice ba lb cb, .int .i64 x1, .int .i64 x2, .int .i64 x3, .int .i64 x4, .int .i64 y1, .int .i64 0, .int .i64 0, .int .i64 0] 55 (0, 0))) := set_at (i := 18) (v := .int .i64 y1) (d12')
  have oz12 : Hid (Own .i16 82 (w12.setCell ⟨w.heap.size + 1, 18, none⟩ (.int .i64 y1)) (w.heap.size + 2) (.slice wa lw cw) zw) := own_set (own_kept oz11.out k (by omega)) (by omega)
  have ob12 : Hid (Own .i32 21 (w12.setCell ⟨w.heap.size + 1, 18, none⟩ (.int .i64 y1)) (w.heap.size + 2) (.slice ba lb cb) zb) := own_set (own_kept ob11.out k (by omega)) (by omega)
  obtain ⟨cB12, fB12, zB12⟩ := cells_at d12'
  clear st p k p11 k11 b11 d11 d12' cB11 fB11 zB11 oz11 ob11
  go_wp2_with fail
  refine Calls.mono (inS32_any P q _ _ p12.out) ?_
  rintro r w13 ⟨y2, s13, rfl, hy2, st, p, k⟩
  have h13 : Hid (Stp (p32 q) s12 y2 s13) := st
  have d13' := (k.2.2.2.2 _ (lt_of_heap d12.out) (by simp; omega)).trans d12.out
  have p13 : Hid (InQ (w13.setCell ⟨w.heap.size + 1, 19, none⟩ (.int .i64 y2)) P q s13) := (p.keep (below_set (by omega)))
  have k13 : Hid (Wr.Kept [P] w (w13.setCell ⟨w.heap.size + 1, 19, none⟩ (.int .i64 y2))) := kept_set (k12.out.trans k) (by omega)
  have b13 : Hid ((w13.setCell ⟨w.heap.size + 1, 19, none⟩ (.int .i64 y2)).heap[w.heap.size]? = some (.cells #[.int .i64 0, .int .i64 0, .int .i64 0, .int .i64 0, .int .i64 0, .int .i64 0, .int .i64 0, .int .i64 0, .int .i64 0, .int .i64 0, .int .i64 0, .int .i64 0, .slice none 0 0, .slice none 0 0, .int .i64 0, .int .i64 0, .int .i64 0, .int .i64 0, .int .i64 0, .int .i64 0, .int .i64 0, .int .i64 0] 55 (0, 0))) := ((Below.heap_setCell _ _ _ _ (by simp)).trans ((k.2.2.2.2 _ (lt_of_heap b12.out) (by simp; omega)).trans b12.out))
  have d13 : Hid ((w13.setCell ⟨w.heap.size + 1, 19, none⟩ (.int .i64 y2)).heap[w.heap.size + 1]? = some (.cells #[.int .i64 v1, .int .i64 v2, .int .i64 v3, .int .i64 v4, .int .i64 g1, .int .i64 g2, .int .i64 g3, .int .i64 g4, .int .i64 g5, .int .i64 g6, .int .i64 g7, .int .i64 g8, .slice wa lw cw, .slice ba lb cb, .int .i64 x1, .int .i64 x2, .int .i64 x3, .int .i64 x4, .int .i64 y1, .int .i64 y2, .int .i64 0, .int .i64 0] 55 (0, 0))) := set_at (i := 19) (v := .int .i64 y2) (d13')
  have oz13 : Hid (Own .i16 82 (w13.setCell ⟨w.heap.size + 1, 19, none⟩ (.int .i64 y2)) (w.heap.size + 2) (.slice wa lw cw) zw) := own_set (own_kept oz12.out k (by omega)) (by omega)
  have ob13 : Hid (Own .i32 21 (w13.setCell ⟨w.heap.size + 1, 19, none⟩ (.int .i64 y2)) (w.heap.size + 2) (.slice ba lb cb) zb) := own_set (own_kept ob12.out k (by omega)) (by omega)
  obtain ⟨cB13, fB13, zB13⟩ := cells_at d13'
  clear st p k p12 k12 b12 d12 d13' cB12 fB12 zB12 oz12 ob12
  go_wp2_with fail
  refine Calls.mono (inS32_any P q _ _ p13.out) ?_
  rintro r w14 ⟨y3, s14, rfl, hy3, st, p, k⟩
  have h14 : Hid (Stp (p32 q) s13 y3 s14) := st
  have d14' := (k.2.2.2.2 _ (lt_of_heap d13.out) (by simp; omega)).trans d13.out
  have p14 : Hid (InQ (w14.setCell ⟨w.heap.size + 1, 20, none⟩ (.int .i64 y3)) P q s14) := (p.keep (below_set (by omega)))
  have k14 : Hid (Wr.Kept [P] w (w14.setCell ⟨w.heap.size + 1, 20, none⟩ (.int .i64 y3))) := kept_set (k13.out.trans k) (by omega)
  have b14 : Hid ((w14.setCell ⟨w.heap.size + 1, 20, none⟩ (.int .i64 y3)).heap[w.heap.size]? = some (.cells #[.int .i64 0, .int .i64 0, .int .i64 0, .int .i64 0, .int .i64 0, .int .i64 0, .int .i64 0, .int .i64 0, .int .i64 0, .int .i64 0, .int .i64 0, .int .i64 0, .slice none 0 0, .slice none 0 0, .int .i64 0, .int .i64 0, .int .i64 0, .int .i64 0, .int .i64 0, .int .i64 0, .int .i64 0, .int .i64 0] 55 (0, 0))) := ((Below.heap_setCell _ _ _ _ (by simp)).trans ((k.2.2.2.2 _ (lt_of_heap b13.out) (by simp; omega)).trans b13.out))
  have d14 : Hid ((w14.setCell ⟨w.heap.size + 1, 20, none⟩ (.int .i64 y3)).heap[w.heap.size + 1]? = some (.cells #[.int .i64 v1, .int .i64 v2, .int .i64 v3, .int .i64 v4, .int .i64 g1, .int .i64 g2, .int .i64 g3, .int .i64 g4, .int .i64 g5, .int .i64 g6, .int .i64 g7, .int .i64 g8, .slice wa lw cw, .slice ba lb cb, .int .i64 x1, .int .i64 x2, .int .i64 x3, .int .i64 x4, .int .i64 y1, .int .i64 y2, .int .i64 y3, .int .i64 0] 55 (0, 0))) := set_at (i := 20) (v := .int .i64 y3) (d14')
  have oz14 : Hid (Own .i16 82 (w14.setCell ⟨w.heap.size + 1, 20, none⟩ (.int .i64 y3)) (w.heap.size + 2) (.slice wa lw cw) zw) := own_set (own_kept oz13.out k (by omega)) (by omega)
  have ob14 : Hid (Own .i32 21 (w14.setCell ⟨w.heap.size + 1, 20, none⟩ (.int .i64 y3)) (w.heap.size + 2) (.slice ba lb cb) zb) := own_set (own_kept ob13.out k (by omega)) (by omega)
  obtain ⟨cB14, fB14, zB14⟩ := cells_at d14'
  clear st p k p13 k13 b13 d13 d14' cB13 fB13 zB13 oz13 ob13
  go_wp2_with fail
  refine Calls.mono (inS32_any P q _ _ p14.out) ?_
  rintro r w15 ⟨y4, s15, rfl, hy4, st, p, k⟩
  have h15 : Hid (Stp (p32 q) s14 y4 s15) := st
  have d15' := (k.2.2.2.2 _ (lt_of_heap d14.out) (by simp; omega)).trans d14.out
  have p15 : Hid (InQ (w15.setCell ⟨w.heap.size + 1, 21, none⟩ (.int .i64 y4)) P q s15) := (p.keep (below_set (by omega)))
  have k15 : Hid (Wr.Kept [P] w (w15.setCell ⟨w.heap.size + 1, 21, none⟩ (.int .i64 y4))) := kept_set (k14.out.trans k) (by omega)
  have b15 : Hid ((w15.setCell ⟨w.heap.size + 1, 21, none⟩ (.int .i64 y4)).heap[w.heap.size]? = some (.cells #[.int .i64 0, .int .i64 0, .int .i64 0, .int .i64 0, .int .i64 0, .int .i64 0, .int .i64 0, .int .i64 0, .int .i64 0, .int .i64 0, .int .i64 0, .int .i64 0, .slice none 0 0, .slice none 0 0, .int .i64 0, .int .i64 0, .int .i64 0, .int .i64 0, .int .i64 0, .int .i64 0, .int .i64 0, .int .i64 0] 55 (0, 0))) := ((Below.heap_setCell _ _ _ _ (by simp)).trans ((k.2.2.2.2 _ (lt_of_heap b14.out) (by simp; omega)).trans b14.out))
  have d15 : Hid ((w15.setCell ⟨w.heap.size + 1, 21, none⟩ (.int .i64 y4)).heap[w.heap.size + 1]? = some (.cells #[.int .i64 v1, .int .i64 v2, .int .i64 v3, .int .i64 v4, .int .i64 g1, .int .i64 g2, .int .i64 g3, .int .i64 g4, .int .i64 g5, .int .i64 g6, .int .i64 g7, .int .i64 g8, .slice wa lw cw, .slice ba lb cb, .int .i64 x1, .int .i64 x2, .int .i64 x3, .int .i64 x4, .int .i64 y1, .int .i64 y2, .int .i64 y3, .int .i64 y4] 55 (0, 0))) := set_at (i := 21) (v := .int .i64 y4) (d15')
  have oz15 : Hid (Own .i16 82 (w15.setCell ⟨w.heap.size + 1, 21, none⟩ (.int .i64 y4)) (w.heap.size + 2) (.slice wa lw cw) zw) := own_set (own_kept oz14.out k (by omega)) (by omega)
  have ob15 : Hid (Own .i32 21 (w15.setCell ⟨w.heap.size + 1, 21, none⟩ (.int .i64 y4)) (w.heap.size + 2) (.slice ba lb cb) zb) := own_set (own_kept ob14.out k (by omega)) (by omega)
  obtain ⟨cB15, fB15, zB15⟩ := cells_at d15'
  clear st p k p14 k14 b14 d14 d15' cB14 fB14 zB14 oz14 ob14
  have hP : Hid (Stp (pOp q) s0 (dOp (oL v1 v2 v3 v4 g1 g2 g3 g4 g5 g6 g7 g8 lw lb x1 x2 x3 x4 y1 y2 y3 y4) zw zb) s15) := stp_op h1.out h2.out h3.out h4.out h5.out h6.out h7.out h8.out h9.out h10.out h11.out h12.out h13.out h14.out h15.out
  have qq : Hid (InQ ((w15.setCell ⟨w.heap.size + 1, 21, none⟩ (.int .i64 y4)).setRow w.heap.size #[.int .i64 v1, .int .i64 v2, .int .i64 v3, .int .i64 v4, .int .i64 g1, .int .i64 g2, .int .i64 g3, .int .i64 g4, .int .i64 g5, .int .i64 g6, .int .i64 g7, .int .i64 g8, .slice wa lw cw, .slice ba lb cb, .int .i64 x1, .int .i64 x2, .int .i64 x3, .int .i64 x4, .int .i64 y1, .int .i64 y2, .int .i64 y3, .int .i64 y4]) P q s15 ∧ Wr.Kept [P] w ((w15.setCell ⟨w.heap.size + 1, 21, none⟩ (.int .i64 y4)).setRow w.heap.size #[.int .i64 v1, .int .i64 v2, .int .i64 v3, .int .i64 v4, .int .i64 g1, .int .i64 g2, .int .i64 g3, .int .i64 g4, .int .i64 g5, .int .i64 g6, .int .i64 g7, .int .i64 g8, .slice wa lw cw, .slice ba lb cb, .int .i64 x1, .int .i64 x2, .int .i64 x3, .int .i64 x4, .int .i64 y1, .int .i64 y2, .int .i64 y3, .int .i64 y4]) ∧ ((w15.setCell ⟨w.heap.size + 1, 21, none⟩ (.int .i64 y4)).setRow w.heap.size #[.int .i64 v1, .int .i64 v2, .int .i64 v3, .int .i64 v4, .int .i64 g1, .int .i64 g2, .int .i64 g3, .int .i64 g4, .int .i64 g5, .int .i64 g6, .int .i64 g7, .int .i64 g8, .slice wa lw cw, .slice ba lb cb, .int .i64 x1, .int .i64 x2, .int .i64 x3, .int .i64 x4, .int .i64 y1, .int .i64 y2, .int .i64 y3, .int .i64 y4]).heap[w.heap.size]? = some (.cells #[.int .i64 v1, .int .i64 v2, .int .i64 v3, .int .i64 v4, .int .i64 g1, .int .i64 g2, .int .i64 g3, .int .i64 g4, .int .i64 g5, .int .i64 g6, .int .i64 g7, .int .i64 g8, .slice wa lw cw, .slice ba lb cb, .int .i64 x1, .int .i64 x2, .int .i64 x3, .int .i64 x4, .int .i64 y1, .int .i64 y2, .int .i64 y3, .int .i64 y4] 55 (0, 0))) := ⟨p15.out.keep (below_row hlt), kept_row k15.out (Nat.le_refl _), setRow_heap _ _ _ _ _ _ b15.out⟩
  have qz : Hid (Own .i16 82 ((w15.setCell ⟨w.heap.size + 1, 21, none⟩ (.int .i64 y4)).setRow w.heap.size #[.int .i64 v1, .int .i64 v2, .int .i64 v3, .int .i64 v4, .int .i64 g1, .int .i64 g2, .int .i64 g3, .int .i64 g4, .int .i64 g5, .int .i64 g6, .int .i64 g7, .int .i64 g8, .slice wa lw cw, .slice ba lb cb, .int .i64 x1, .int .i64 x2, .int .i64 x3, .int .i64 x4, .int .i64 y1, .int .i64 y2, .int .i64 y3, .int .i64 y4]) (w.heap.size + 1) (.slice wa lw cw) zw) := (own_row oz15.out (by omega)).base (by omega)
  have qb : Hid (Own .i32 21 ((w15.setCell ⟨w.heap.size + 1, 21, none⟩ (.int .i64 y4)).setRow w.heap.size #[.int .i64 v1, .int .i64 v2, .int .i64 v3, .int .i64 v4, .int .i64 g1, .int .i64 g2, .int .i64 g3, .int .i64 g4, .int .i64 g5, .int .i64 g6, .int .i64 g7, .int .i64 g8, .slice wa lw cw, .slice ba lb cb, .int .i64 x1, .int .i64 x2, .int .i64 x3, .int .i64 x4, .int .i64 y1, .int .i64 y2, .int .i64 y3, .int .i64 y4]) (w.heap.size + 1) (.slice ba lb cb) zb) := (own_row ob15.out (by omega)).base (by omega)
  have bn := b15.out
  clear p15 k15 b15 oz15 ob15 h1 h2 h3 h4 h5 h6 h7 h8 h9 h10 h11 h12 h13 h14 h15
  have dn := d15.out
  go_upto_region 23 with fail
  clear cB15 fB15 zB15 d15
  go_wp2_with (first
    | refine wpList_load_row rfl 55 (.tmp 3) rfl (w.heap.size + 1) rfl 55 #[.int .i64 v1, .int .i64 v2, .int .i64 v3, .int .i64 v4, .int .i64 g1, .int .i64 g2, .int .i64 g3, .int .i64 g4, .int .i64 g5, .int .i64 g6, .int .i64 g7, .int .i64 g8, .slice wa lw cw, .slice ba lb cb, .int .i64 x1, .int .i64 x2, .int .i64 x3, .int .i64 x4, .int .i64 y1, .int .i64 y2, .int .i64 y3, .int .i64 y4] (0, 0) _ dn Tryz.underlying55 rfl (by kernel_rfl) ?_
    | refine wpList_store_row rfl 55 (.tmp 2) (.tmp 86) rfl w.heap.size #[.int .i64 v1, .int .i64 v2, .int .i64 v3, .int .i64 v4, .int .i64 g1, .int .i64 g2, .int .i64 g3, .int .i64 g4, .int .i64 g5, .int .i64 g6, .int .i64 g7, .int .i64 g8, .slice wa lw cw, .slice ba lb cb, .int .i64 x1, .int .i64 x2, .int .i64 x3, .int .i64 x4, .int .i64 y1, .int .i64 y2, .int .i64 y3, .int .i64 y4] rfl rfl 55 _ bn (by kernel_rfl) rfl (by simp [Value.oneCell']) ?_)
  exact bodyPost_ret (results_cell_row Tryz.results16 _ _ w.heap.size 55 _ (0, 0) _ rfl qq.out.2.2 Tryz.underlying55 rfl (by kernel_rfl)) rfl ⟨oL v1 v2 v3 v4 g1 g2 g3 g4 g5 g6 g7 g8 lw lb x1 x2 x3 x4 y1 y2 y3 y4, zw, zb, wa, lw, cw, ba, lb, cb, _, rfl, rfl, rfl, hl7, hl9, hP.out, qz.out, qb.out, qq.out.1, qq.out.2.1⟩
end Go.Proofs.YthagdpiocmcbmaaGreat

/- Steps over ops, in plain lists; the op in the document's In. -/
namespace Go.Proofs.YthagdpiocmcbmaaGreat
open Wr
open Go.ChangeShapes Go.WideShapes Go.ChangeAt Go.RowKit
set_option linter.unusedVariables false
theorem pOps_snoc : ∀ (n i : Nat) (zs : List Int), pOps (n + 1) i zs = pbind (pOps n i zs) fun l r => pbind (pOp (((i + n : Nat) : Int) + 1) r) fun a r' => .inr (l ++ [a], r')
  | 0, i, zs => by
    simp only [pOps, pbind, Nat.add_zero]
    match pOp ((i : Int) + 1) zs with
    | .inl e => rfl
    | .inr (a, r) => rfl
  | n + 1, i, zs => by
    rw [pOps, show pOps (n + 1) i zs = pbind (pOp ((i : Int) + 1) zs) fun o r => pbind (pOps n (i + 1) r) fun l r' => .inr (o :: l, r') from rfl]
    match pOp ((i : Int) + 1) zs with
    | .inl e => rfl
    | .inr (a, r) =>
      simp only [pbind_r]
      rw [pOps_snoc n (i + 1) r, show i + 1 + n = i + (n + 1) by omega]
      match pOps n (i + 1) r with
      | .inl e => rfl
      | .inr (l, r') =>
        simp only [pbind_r]
        match pOp (((i + (n + 1) : Nat) : Int) + 1) r' with
        | .inl e => rfl
        | .inr (c, r'') => rfl
theorem Stp.nilO (s : Sum (Int × Int) (List Int)) : Stp (pOps 0 0) s [] s := by
  match s with
  | .inl e => exact .stay _ _
  | .inr r => exact .ok _ _ _ rfl
theorem Stp.snocO {n : Nat} {s s1 s2 : Sum (Int × Int) (List Int)} {a : OpD} {l : List OpD} (h : Stp (pOps n 0) s l s1) (k : Stp (pOp ((n : Int) + 1)) s1 a s2) : Stp (pOps (n + 1) 0) s (l ++ [a]) s2 := by
  rw [show pOps (n + 1) 0 = fun zs => pbind (pOps n 0 zs) fun l r => pbind (pOp ((n : Int) + 1) r) fun a r' => .inr (l ++ [a], r') from funext fun zs => by rw [pOps_snoc n 0 zs, Nat.zero_add]]
  exact h.bind (q := fun l r => pbind (pOp ((n : Int) + 1) r) fun a r' => .inr (l ++ [a], r')) (k.last (l ++ [·]))
theorem pOps_more {zs : List Int} {e : Int × Int} {n : Nat} (h : pOps n 0 zs = .inl e) : ∀ d, pOps (n + d) 0 zs = .inl e
  | 0 => h
  | d + 1 => by rw [← Nat.add_assoc, pOps_snoc, pOps_more h d]; rfl
theorem Stp.moreO {n k : Nat} {s : Sum (Int × Int) (List Int)} {e : Int × Int} {l : List OpD} (h : Stp (pOps k 0) s l (.inl e)) (hk : k ≤ n) : Stp (pOps n 0) s l (.inl e) := by
  cases h with
  | stay e => exact .stay _ _
  | bad r e _ h =>
    obtain ⟨d, rfl⟩ := Nat.exists_eq_add_of_le hk
    exact .bad _ _ _ (pOps_more h d)
theorem InR.op {w : World} {P : Nat} {zs : List Int} {f o qe qt : Int} (h : InR w P zs f o qe qt) (o' : Int) : InR (w.setCell ⟨P, 2, none⟩ (.int .i64 o')) P zs f o' qe qt := by
  have hnb := h.noB
  obtain ⟨a, len, cap, h1, h2, h3⟩ := h
  exact ⟨a, len, cap, set_at h1, h2.kept Kept.set (by simpa using hnb), h3⟩
theorem InQ.op {w : World} {P : Nat} {o : Int} {s : Sum (Int × Int) (List Int)} (h : InQ w P o s) (o' : Int) : InQ (w.setCell ⟨P, 2, none⟩ (.int .i64 o')) P o' s := by
  match s, h with
  | .inl x, ⟨hx, zs, f, h⟩ => exact ⟨hx, zs, f, InR.op h o'⟩
  | .inr zs, h => exact InR.op h o'
end Go.Proofs.YthagdpiocmcbmaaGreat
