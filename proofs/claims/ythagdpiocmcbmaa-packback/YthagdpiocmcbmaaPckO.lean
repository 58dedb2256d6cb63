/- The writer of package pack: an op. -/
import Derived.Test.YthagdpiocmcbmaaPckX
namespace Go.Proofs.Ythagdpiocmcbmaa
open Wr
open Go.ChangeShapes Go.WideShapes Go.ChangeAt Go.RowKit
set_option linter.unusedVariables false
def dOp (o : Nat → Int) (z b : List Int) : OpD := ⟨[o 0, o 1, o 2, o 3, o 4, o 5, o 6, o 7, o 8, o 9, o 10, o 11], z, b, [o 14, o 15, o 16, o 17], [o 18, o 19, o 20, o 21]⟩
theorem eOp_is (o : Nat → Int) (z b xs : List Int) : xs ++ eU [o 0, o 1, o 2, o 3] ++ eU [o 4, o 5, o 6, o 7, o 8, o 9, o 10, o 11] ++ (putR z.length ++ eS z) ++ (putR b.length ++ eS b) ++ eU [o 14, o 15, o 16, o 17] ++ eS [o 18, o 19, o 20, o 21] = xs ++ eOp (dOp o z b) := by
  unfold eOp dOp
  simp only [List.append_assoc]
  rw [show [o 0, o 1, o 2, o 3, o 4, o 5, o 6, o 7, o 8, o 9, o 10, o 11] = [o 0, o 1, o 2, o 3] ++ [o 4, o 5, o 6, o 7, o 8, o 9, o 10, o 11] from rfl, eU_app]
  simp only [List.append_assoc]
theorem put_le {n : Nat} (h : n ≤ 1000000000) : (putR n).length ≤ 10 := putR_ten (by omega)
set_option maxHeartbeats 4000000 in
set_option maxRecDepth 100000 in
theorem wop_any (Wb : Nat) (xs : List Int) (o : Nat → Int) (z b : List Int) (wa : Option Addr) (lw cw : Nat) (ba : Option Addr) (lb cb : Nat) (W w : World) (h : Wt w Wb W.heap.size xs) (hW : Below W.heap.size W w) (hb : W.heap.size ≤ Wb)
    (h1 : IRow .i16 W wa lw cw z) (h2 : IRow .i32 W ba lb cb b) (l1 : lw ≤ 131072) (l2 : lb ≤ 1024) (h3 : In64 [o 18, o 19, o 20, o 21]) (hs : xs.length + 2000000 ≤ 140737488355328) :
    Calls Try.prog 26 #[(.pointer (some ⟨Wb, 0, none⟩)), .agg #[.int .i64 (o 0), .int .i64 (o 1), .int .i64 (o 2), .int .i64 (o 3), .int .i64 (o 4), .int .i64 (o 5), .int .i64 (o 6), .int .i64 (o 7), .int .i64 (o 8), .int .i64 (o 9), .int .i64 (o 10), .int .i64 (o 11), .slice wa lw cw, .slice ba lb cb, .int .i64 (o 14), .int .i64 (o 15), .int .i64 (o 16), .int .i64 (o 17), .int .i64 (o 18), .int .i64 (o 19), .int .i64 (o 20), .int .i64 (o 21)]] w fun e w' => e = .returned (.tuple #[]) ∧ Wt w' Wb W.heap.size (xs ++ eOp (dOp o z b)) ∧ Wk W.heap.size Wb w w' := by
  have hlt := h.lt
  have H1 : Hid (IRow .i16 W wa lw cw z) := h1
  have H2 : Hid (IRow .i32 W ba lb cb b) := h2
  have H3 : Hid (In64 [o 18, o 19, o 20, o 21]) := h3
  have HW : Hid (Below W.heap.size W w) := hW
  have zl : Hid (z.length = lw) := h1.1
  have bl : Hid (b.length = lb) := h2.1
  have e1 : Hid ((eU [o 0, o 1, o 2, o 3]).length ≤ 40) := eU_le _
  have e2 : Hid ((eU [o 4, o 5, o 6, o 7, o 8, o 9, o 10, o 11]).length ≤ 80) := eU_le _
  have e3 : Hid ((eS z).length ≤ 10 * z.length) := eS_le _ fun q hq => by have := i16_of (h1.2.2.2.1 q hq); omega
  have e4 : Hid ((eS b).length ≤ 10 * b.length) := eS_le _ fun q hq => by have := i32_of (h2.2.2.2.1 q hq); omega
  have e5 : Hid ((putR z.length).length ≤ 10 ∧ (putR b.length).length ≤ 10) := ⟨put_le (by have := zl.out; omega), put_le (by have := bl.out; omega)⟩
  have e6 : Hid ((eU [o 14, o 15, o 16, o 17]).length ≤ 40) := eU_le _
  have E := eOp_is o z b xs
  have HE : Hid _ := E
  have H : Hid (Wt w Wb W.heap.size xs) := h
  have k0 : Hid (Wk W.heap.size Wb w (w.alloc (.cells #[.int .i64 (o 0), .int .i64 (o 1), .int .i64 (o 2), .int .i64 (o 3), .int .i64 (o 4), .int .i64 (o 5), .int .i64 (o 6), .int .i64 (o 7), .int .i64 (o 8), .int .i64 (o 9), .int .i64 (o 10), .int .i64 (o 11), .slice wa lw cw, .slice ba lb cb, .int .i64 (o 14), .int .i64 (o 15), .int .i64 (o 16), .int .i64 (o 17), .int .i64 (o 18), .int .i64 (o 19), .int .i64 (o 20), .int .i64 (o 21)] 50))) := wk_al _ (by omega)
  have B0 : Hid ((w.alloc (.cells #[.int .i64 (o 0), .int .i64 (o 1), .int .i64 (o 2), .int .i64 (o 3), .int .i64 (o 4), .int .i64 (o 5), .int .i64 (o 6), .int .i64 (o 7), .int .i64 (o 8), .int .i64 (o 9), .int .i64 (o 10), .int .i64 (o 11), .slice wa lw cw, .slice ba lb cb, .int .i64 (o 14), .int .i64 (o 15), .int .i64 (o 16), .int .i64 (o 17), .int .i64 (o 18), .int .i64 (o 19), .int .i64 (o 20), .int .i64 (o 21)] 50)).heap[w.heap.size]? = some (.cells #[.int .i64 (o 0), .int .i64 (o 1), .int .i64 (o 2), .int .i64 (o 3), .int .i64 (o 4), .int .i64 (o 5), .int .i64 (o 6), .int .i64 (o 7), .int .i64 (o 8), .int .i64 (o 9), .int .i64 (o 10), .int .i64 (o 11), .slice wa lw cw, .slice ba lb cb, .int .i64 (o 14), .int .i64 (o 15), .int .i64 (o 16), .int .i64 (o 17), .int .i64 (o 18), .int .i64 (o 19), .int .i64 (o 20), .int .i64 (o 21)] 50 (0, 0))) := heap_alloc_new w _
  clear h h1 h2 h3 hW E
  go_enter Try.func26, Try.ntmps26
  go_wp2_with fail
  refine (unsigned_any Wb W.heap.size (w.heap.size + 1) 4 xs [o 0, o 1, o 2, o 3] _ ((H.out.al _).al _) (by unfold Nums; simpa using heap_alloc_new (w.alloc _) _) rfl (by omega) hb (by omega) (by omega) trivial).mono ?_
  rintro e w1 ⟨rfl, T1, K1, -⟩
  have k1 : Hid (Wk W.heap.size Wb w w1) := k0.out.trans ((wk_al _ (by simp; omega)).trans K1)
  have B1 : Hid (w1.heap[w.heap.size]? = some (.cells #[.int .i64 (o 0), .int .i64 (o 1), .int .i64 (o 2), .int .i64 (o 3), .int .i64 (o 4), .int .i64 (o 5), .int .i64 (o 6), .int .i64 (o 7), .int .i64 (o 8), .int .i64 (o 9), .int .i64 (o 10), .int .i64 (o 11), .slice wa lw cw, .slice ba lb cb, .int .i64 (o 14), .int .i64 (o 15), .int .i64 (o 16), .int .i64 (o 17), .int .i64 (o 18), .int .i64 (o 19), .int .i64 (o 20), .int .i64 (o 21)] 50 (0, 0))) := K1.2 _ _ _ (by omega) (by decide) (((bal _ _).block _ (by simp)).trans B0.out)
  have t1 : Hid (Wt w1 Wb W.heap.size _) := T1
  have hl1 := k1.out.size
  obtain ⟨c1, f1, y1⟩ := cells_at B1.out
  clear K1 T1
  go_wp2_with fail
  refine (wwindow_any Wb W.heap.size _ (o 4) (o 5) (o 6) (o 7) (o 8) (o 9) (o 10) (o 11) _ t1.out hb (by have := e1.out; simp only [List.length_append]; omega)).mono ?_
  rintro e w2 ⟨rfl, T2, K2⟩
  have k2 : Hid (Wk W.heap.size Wb w w2) := k1.out.trans K2
  have B2 : Hid (w2.heap[w.heap.size]? = some (.cells #[.int .i64 (o 0), .int .i64 (o 1), .int .i64 (o 2), .int .i64 (o 3), .int .i64 (o 4), .int .i64 (o 5), .int .i64 (o 6), .int .i64 (o 7), .int .i64 (o 8), .int .i64 (o 9), .int .i64 (o 10), .int .i64 (o 11), .slice wa lw cw, .slice ba lb cb, .int .i64 (o 14), .int .i64 (o 15), .int .i64 (o 16), .int .i64 (o 17), .int .i64 (o 18), .int .i64 (o 19), .int .i64 (o 20), .int .i64 (o 21)] 50 (0, 0))) := K2.2 _ _ _ (by omega) (by decide) B1.out
  have t2 : Hid (Wt w2 Wb W.heap.size _) := T2
  clear K2 T2 c1 f1 y1 k1 B1 t1
  obtain ⟨c1, f1, y1⟩ := cells_at B2.out
  go_wp2_with fail
  refine (put_i16 Wb _ z wa lw cw W _ t2.out (HW.out.trans k2.out.1) H1.out hb (by have := e1.out; have := e2.out; simp only [List.length_append]; omega)).mono ?_
  rintro e w3 ⟨rfl, T3, K3⟩
  have k3 : Hid (Wk W.heap.size Wb w w3) := k2.out.trans K3
  have B3 : Hid (w3.heap[w.heap.size]? = some (.cells #[.int .i64 (o 0), .int .i64 (o 1), .int .i64 (o 2), .int .i64 (o 3), .int .i64 (o 4), .int .i64 (o 5), .int .i64 (o 6), .int .i64 (o 7), .int .i64 (o 8), .int .i64 (o 9), .int .i64 (o 10), .int .i64 (o 11), .slice wa lw cw, .slice ba lb cb, .int .i64 (o 14), .int .i64 (o 15), .int .i64 (o 16), .int .i64 (o 17), .int .i64 (o 18), .int .i64 (o 19), .int .i64 (o 20), .int .i64 (o 21)] 50 (0, 0))) := K3.2 _ _ _ (by omega) (by decide) B2.out
  have t3 : Hid (Wt w3 Wb W.heap.size _) := T3
  clear K3 T3 c1 f1 y1 k2 B2 t2
  obtain ⟨c1, f1, y1⟩ := cells_at B3.out
  go_wp2_with fail
  refine (put_i32 Wb _ b ba lb cb W _ t3.out (HW.out.trans k3.out.1) H2.out hb (by have := e1.out; have := e2.out; have := e3.out; have := e5.out.1; have := zl.out; simp only [List.length_append]; omega)).mono ?_
  rintro e w4 ⟨rfl, T4, K4⟩
  have k4 : Hid (Wk W.heap.size Wb w w4) := k3.out.trans K4
  have B4 : Hid (w4.heap[w.heap.size]? = some (.cells #[.int .i64 (o 0), .int .i64 (o 1), .int .i64 (o 2), .int .i64 (o 3), .int .i64 (o 4), .int .i64 (o 5), .int .i64 (o 6), .int .i64 (o 7), .int .i64 (o 8), .int .i64 (o 9), .int .i64 (o 10), .int .i64 (o 11), .slice wa lw cw, .slice ba lb cb, .int .i64 (o 14), .int .i64 (o 15), .int .i64 (o 16), .int .i64 (o 17), .int .i64 (o 18), .int .i64 (o 19), .int .i64 (o 20), .int .i64 (o 21)] 50 (0, 0))) := K4.2 _ _ _ (by omega) (by decide) B3.out
  have t4 : Hid (Wt w4 Wb W.heap.size _) := T4
  have hl4 := t4.out.lt
  clear K4 T4 c1 f1 y1 k3 B3 t3
  obtain ⟨c1, f1, y1⟩ := cells_at B4.out
  go_wp2_with fail
  refine (unsigned_any Wb W.heap.size w4.heap.size 4 _ [o 14, o 15, o 16, o 17] _ (t4.out.al _) (heap_alloc_new w4 _) rfl (by omega) hb (by have := e1.out; have := e2.out; have := e3.out; have := e4.out; have := e5.out; have := zl.out; have := bl.out; simp only [List.length_append]; omega) (by omega) trivial).mono ?_
  rintro e w5 ⟨rfl, T5, K5, -⟩
  have k5 : Hid (Wk W.heap.size Wb w w5) := k4.out.trans ((wk_al _ (by omega)).trans K5)
  have B5 : Hid (w5.heap[w.heap.size]? = some (.cells #[.int .i64 (o 0), .int .i64 (o 1), .int .i64 (o 2), .int .i64 (o 3), .int .i64 (o 4), .int .i64 (o 5), .int .i64 (o 6), .int .i64 (o 7), .int .i64 (o 8), .int .i64 (o 9), .int .i64 (o 10), .int .i64 (o 11), .slice wa lw cw, .slice ba lb cb, .int .i64 (o 14), .int .i64 (o 15), .int .i64 (o 16), .int .i64 (o 17), .int .i64 (o 18), .int .i64 (o 19), .int .i64 (o 20), .int .i64 (o 21)] 50 (0, 0))) := K5.2 _ _ _ (by omega) (by decide) (((bal _ _).block _ y1).trans B4.out)
  have t5 : Hid (Wt w5 Wb W.heap.size _) := T5
  have hl5 := t5.out.lt
  clear K5 T5 c1 f1 y1 k4 B4 t4
  obtain ⟨c1, f1, y1⟩ := cells_at B5.out
  go_wp2_with fail
  refine (signed_any Wb W.heap.size w5.heap.size 4 _ [o 18, o 19, o 20, o 21] _ (t5.out.al _) (heap_alloc_new w5 _) rfl (by omega) hb (by have := e1.out; have := e2.out; have := e3.out; have := e4.out; have := e5.out; have := e6.out; have := zl.out; have := bl.out; simp only [List.length_append]; omega) (by omega) H3.out).mono ?_
  rintro e w6 ⟨rfl, T6, K6, -⟩
  have k6 : Hid (Wk W.heap.size Wb w w6) := k5.out.trans ((wk_al _ (by omega)).trans K6)
  have t6 : Hid (Wt w6 Wb W.heap.size (xs ++ eOp (dOp o z b))) := by unfold Hid; rw [← HE.out]; exact T6
  clear K6 T6 c1 f1 y1 k5 B5 t5
  go_wp2
  go_end0
  exact ⟨rfl, t6.out, k6.out⟩
end Go.Proofs.Ythagdpiocmcbmaa
