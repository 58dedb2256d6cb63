/- The reader of package pack: scales and windows. Written by tools/gen/PckS.py. -/
import Derived.Test.YthagdpiocmcbmaaPckR
import Derived.Laws.Tables
namespace Go.Proofs.Ythagdpiocmcbmaa
open Wr
open Go.ChangeShapes Go.WideShapes Go.ChangeAt Go.RowKit
set_option linter.unusedVariables false
theorem kept_row {w wn : World} {B N : Nat} {cs : Array Value} (k : Wr.Kept [B] w wn) (hN : w.heap.size ≤ N) : Wr.Kept [B] w (wn.setRow N cs) :=
  ⟨k.1, k.2.1, k.2.2.1, by rw [size_setRow]; exact k.2.2.2.1, fun i hi hB => (setRow_other wn N i cs (by omega)).trans (k.2.2.2.2 i hi hB)⟩
theorem below_row {wn : World} {b N : Nat} {cs : Array Value} (hb : b < N) : Below (b + 1) wn (wn.setRow N cs) :=
  ⟨rfl, rfl, rfl, by rw [size_setRow]; exact Nat.le_refl _, fun i hi => setRow_other wn N i cs (by omega)⟩
set_option maxHeartbeats 2000000 in
set_option maxRecDepth 100000 in
theorem scale_any (Rb B : Nat) (zs : List Int) (t : Int) (w : World) (h : PR w Rb B zs t) :
    Calls Try.prog 93 #[(.pointer (some ⟨Rb, 0, none⟩))] w fun r w' => (∃ x, pL (pU t) 2 zs = .inl x ∧ r = fpan x.1 x.2 ∧ Wr.Kept [B] w w') ∨ ∃ v1 v2 rs, pL (pU t) 2 zs = .inr ([v1, v2], rs) ∧ r = .returned (.agg #[.int .i64 v1, .int .i64 v2]) ∧ PR w' Rb B rs t ∧ Wr.Kept [B] w w' := by
  have hlt := h.ltB
  have p0 : Hid (PR (w.alloc (.cells #[.int .i64 0, .int .i64 0] 48)) Rb B zs t) := h.al _
  have k0 : Hid (Wr.Kept [B] w (w.alloc (.cells #[.int .i64 0, .int .i64 0] 48))) := Kept.of (bal _ _)
  have b0 : Hid ((w.alloc (.cells #[.int .i64 0, .int .i64 0] 48)).heap[w.heap.size]? = some (.cells #[.int .i64 0, .int .i64 0] 48 (0, 0))) := heap_alloc_new w _
  clear h
  go_enter Try.func93, Try.ntmps93
  go_wp2_with fail
  refine Calls.mono (runsigned_any Rb B _ t _ p0.out) ?_
  rintro r w1 (⟨x, hx, rfl, k⟩ | ⟨v1, r1, hx, rfl, p, k⟩)
  · exact ⟨rfl, .inl ⟨x, by simp only [pL, pbind, hx], rfl, k0.out.trans k⟩⟩
  have h1 : Hid (pU t zs = .inr (v1, r1)) := hx
  have p1 : Hid (PR w1 Rb B r1 t) := p
  have k1 : Hid (Wr.Kept [B] w w1) := k0.out.trans k
  have b1 : Hid (w1.heap[w.heap.size]? = some (.cells #[.int .i64 0, .int .i64 0] 48 (0, 0))) := (k.2.2.2.2 _ (lt_of_heap b0.out) (by simp; omega)).trans b0.out
  clear hx p k p0 k0 b0
  go_wp2_with fail
  refine Calls.mono (runsigned_any Rb B _ t _ p1.out) ?_
  rintro r w2 (⟨x, hx, rfl, k⟩ | ⟨v2, r2, hx, rfl, p, k⟩)
  · exact ⟨rfl, .inl ⟨x, by simp only [pL, pbind, h1.out, hx], rfl, k1.out.trans k⟩⟩
  have h2 : Hid (pU t r1 = .inr (v2, r2)) := hx
  have p2 : Hid (PR w2 Rb B r2 t) := p
  have k2 : Hid (Wr.Kept [B] w w2) := k1.out.trans k
  have b2 : Hid (w2.heap[w.heap.size]? = some (.cells #[.int .i64 0, .int .i64 0] 48 (0, 0))) := (k.2.2.2.2 _ (lt_of_heap b1.out) (by simp; omega)).trans b1.out
  clear hx p k p1 k1 b1
  have hP : Hid (pL (pU t) 2 zs = .inr ([v1, v2], r2)) := by simp only [Hid, pL, pbind, h1.out, h2.out]
  have q : Hid (PR (w2.setRow w.heap.size #[.int .i64 v1, .int .i64 v2]) Rb B r2 t ∧ Wr.Kept [B] w (w2.setRow w.heap.size #[.int .i64 v1, .int .i64 v2]) ∧ (w2.setRow w.heap.size #[.int .i64 v1, .int .i64 v2]).heap[w.heap.size]? = some (.cells #[.int .i64 v1, .int .i64 v2] 48 (0, 0))) := ⟨p2.out.keep (below_row hlt), kept_row k2.out (Nat.le_refl _), setRow_heap _ _ _ _ _ _ b2.out⟩
  have bn := b2.out
  clear p2 k2 b2 h1 h2
  go_wp2_with (refine wpList_store_row rfl 48 (.tmp 2) (.tmp 7) rfl w.heap.size #[.int .i64 v1, .int .i64 v2] rfl rfl 48 _ bn (by kernel_rfl) rfl (by simp [Value.oneCell']) ?_)
  exact bodyPost_ret (results_cell_row Try.results93 _ _ w.heap.size 48 _ (0, 0) _ rfl q.out.2.2 Try.underlying48 rfl (by kernel_rfl)) rfl (.inr ⟨_, _, _, hP.out, rfl, q.out.1, q.out.2.1⟩)
set_option maxHeartbeats 2000000 in
set_option maxRecDepth 100000 in
theorem rwindow_any (Rb B : Nat) (zs : List Int) (t : Int) (w : World) (h : PR w Rb B zs t) :
    Calls Try.prog 90 #[(.pointer (some ⟨Rb, 0, none⟩))] w fun r w' => (∃ x, pL (pU t) 8 zs = .inl x ∧ r = fpan x.1 x.2 ∧ Wr.Kept [B] w w') ∨ ∃ v1 v2 v3 v4 v5 v6 v7 v8 rs, pL (pU t) 8 zs = .inr ([v1, v2, v3, v4, v5, v6, v7, v8], rs) ∧ r = .returned (.agg #[.int .i64 v1, .int .i64 v2, .int .i64 v3, .int .i64 v4, .int .i64 v5, .int .i64 v6, .int .i64 v7, .int .i64 v8]) ∧ PR w' Rb B rs t ∧ Wr.Kept [B] w w' := by
  have hlt := h.ltB
  have p0 : Hid (PR (w.alloc (.cells #[.int .i64 0, .int .i64 0, .int .i64 0, .int .i64 0, .int .i64 0, .int .i64 0, .int .i64 0, .int .i64 0] 44)) Rb B zs t) := h.al _
  have k0 : Hid (Wr.Kept [B] w (w.alloc (.cells #[.int .i64 0, .int .i64 0, .int .i64 0, .int .i64 0, .int .i64 0, .int .i64 0, .int .i64 0, .int .i64 0] 44))) := Kept.of (bal _ _)
  have b0 : Hid ((w.alloc (.cells #[.int .i64 0, .int .i64 0, .int .i64 0, .int .i64 0, .int .i64 0, .int .i64 0, .int .i64 0, .int .i64 0] 44)).heap[w.heap.size]? = some (.cells #[.int .i64 0, .int .i64 0, .int .i64 0, .int .i64 0, .int .i64 0, .int .i64 0, .int .i64 0, .int .i64 0] 44 (0, 0))) := heap_alloc_new w _
  clear h
  go_enter Try.func90, Try.ntmps90
  go_wp2_with fail
  refine Calls.mono (runsigned_any Rb B _ t _ p0.out) ?_
  rintro r w1 (⟨x, hx, rfl, k⟩ | ⟨v1, r1, hx, rfl, p, k⟩)
  · exact ⟨rfl, .inl ⟨x, by simp only [pL, pbind, hx], rfl, k0.out.trans k⟩⟩
  have h1 : Hid (pU t zs = .inr (v1, r1)) := hx
  have p1 : Hid (PR w1 Rb B r1 t) := p
  have k1 : Hid (Wr.Kept [B] w w1) := k0.out.trans k
  have b1 : Hid (w1.heap[w.heap.size]? = some (.cells #[.int .i64 0, .int .i64 0, .int .i64 0, .int .i64 0, .int .i64 0, .int .i64 0, .int .i64 0, .int .i64 0] 44 (0, 0))) := (k.2.2.2.2 _ (lt_of_heap b0.out) (by simp; omega)).trans b0.out
  clear hx p k p0 k0 b0
  go_wp2_with fail
  refine Calls.mono (runsigned_any Rb B _ t _ p1.out) ?_
  rintro r w2 (⟨x, hx, rfl, k⟩ | ⟨v2, r2, hx, rfl, p, k⟩)
  · exact ⟨rfl, .inl ⟨x, by simp only [pL, pbind, h1.out, hx], rfl, k1.out.trans k⟩⟩
  have h2 : Hid (pU t r1 = .inr (v2, r2)) := hx
  have p2 : Hid (PR w2 Rb B r2 t) := p
  have k2 : Hid (Wr.Kept [B] w w2) := k1.out.trans k
  have b2 : Hid (w2.heap[w.heap.size]? = some (.cells #[.int .i64 0, .int .i64 0, .int .i64 0, .int .i64 0, .int .i64 0, .int .i64 0, .int .i64 0, .int .i64 0] 44 (0, 0))) := (k.2.2.2.2 _ (lt_of_heap b1.out) (by simp; omega)).trans b1.out
  clear hx p k p1 k1 b1
  go_wp2_with fail
  refine Calls.mono (runsigned_any Rb B _ t _ p2.out) ?_
  rintro r w3 (⟨x, hx, rfl, k⟩ | ⟨v3, r3, hx, rfl, p, k⟩)
  · exact ⟨rfl, .inl ⟨x, by simp only [pL, pbind, h1.out, h2.out, hx], rfl, k2.out.trans k⟩⟩
  have h3 : Hid (pU t r2 = .inr (v3, r3)) := hx
  have p3 : Hid (PR w3 Rb B r3 t) := p
  have k3 : Hid (Wr.Kept [B] w w3) := k2.out.trans k
  have b3 : Hid (w3.heap[w.heap.size]? = some (.cells #[.int .i64 0, .int .i64 0, .int .i64 0, .int .i64 0, .int .i64 0, .int .i64 0, .int .i64 0, .int .i64 0] 44 (0, 0))) := (k.2.2.2.2 _ (lt_of_heap b2.out) (by simp; omega)).trans b2.out
  clear hx p k p2 k2 b2
  go_wp2_with fail
  refine Calls.mono (runsigned_any Rb B _ t _ p3.out) ?_
  rintro r w4 (⟨x, hx, rfl, k⟩ | ⟨v4, r4, hx, rfl, p, k⟩)
  · exact ⟨rfl, .inl ⟨x, by simp only [pL, pbind, h1.out, h2.out, h3.out, hx], rfl, k3.out.trans k⟩⟩
  have h4 : Hid (pU t r3 = .inr (v4, r4)) := hx
  have p4 : Hid (PR w4 Rb B r4 t) := p
  have k4 : Hid (Wr.Kept [B] w w4) := k3.out.trans k
  have b4 : Hid (w4.heap[w.heap.size]? = some (.cells #[.int .i64 0, .int .i64 0, .int .i64 0, .int .i64 0, .int .i64 0, .int .i64 0, .int .i64 0, .int .i64 0] 44 (0, 0))) := (k.2.2.2.2 _ (lt_of_heap b3.out) (by simp; omega)).trans b3.out
  clear hx p k p3 k3 b3
  go_wp2_with fail
  refine Calls.mono (runsigned_any Rb B _ t _ p4.out) ?_
  rintro r w5 (⟨x, hx, rfl, k⟩ | ⟨v5, r5, hx, rfl, p, k⟩)
  · exact ⟨rfl, .inl ⟨x, by simp only [pL, pbind, h1.out, h2.out, h3.out, h4.out, hx], rfl, k4.out.trans k⟩⟩
  have h5 : Hid (pU t r4 = .inr (v5, r5)) := hx
  have p5 : Hid (PR w5 Rb B r5 t) := p
  have k5 : Hid (Wr.Kept [B] w w5) := k4.out.trans k
  have b5 : Hid (w5.heap[w.heap.size]? = some (.cells #[.int .i64 0, .int .i64 0, .int .i64 0, .int .i64 0, .int .i64 0, .int .i64 0, .int .i64 0, .int .i64 0] 44 (0, 0))) := (k.2.2.2.2 _ (lt_of_heap b4.out) (by simp; omega)).trans b4.out
  clear hx p k p4 k4 b4
  go_wp2_with fail
  refine Calls.mono (runsigned_any Rb B _ t _ p5.out) ?_
  rintro r w6 (⟨x, hx, rfl, k⟩ | ⟨v6, r6, hx, rfl, p, k⟩)
  · exact ⟨rfl, .inl ⟨x, by simp only [pL, pbind, h1.out, h2.out, h3.out, h4.out, h5.out, hx], rfl, k5.out.trans k⟩⟩
  have h6 : Hid (pU t r5 = .inr (v6, r6)) := hx
  have p6 : Hid (PR w6 Rb B r6 t) := p
  have k6 : Hid (Wr.Kept [B] w w6) := k5.out.trans k
  have b6 : Hid (w6.heap[w.heap.size]? = some (.cells #[.int .i64 0, .int .i64 0, .int .i64 0, .int .i64 0, .int .i64 0, .int .i64 0, .int .i64 0, .int .i64 0] 44 (0, 0))) := (k.2.2.2.2 _ (lt_of_heap b5.out) (by simp; omega)).trans b5.out
  clear hx p k p5 k5 b5
  go_wp2_with fail
  refine Calls.mono (runsigned_any Rb B _ t _ p6.out) ?_
  rintro r w7 (⟨x, hx, rfl, k⟩ | ⟨v7, r7, hx, rfl, p, k⟩)
  · exact ⟨rfl, .inl ⟨x, by simp only [pL, pbind, h1.out, h2.out, h3.out, h4.out, h5.out, h6.out, hx], rfl, k6.out.trans k⟩⟩
  have h7 : Hid (pU t r6 = .inr (v7, r7)) := hx
  have p7 : Hid (PR w7 Rb B r7 t) := p
  have k7 : Hid (Wr.Kept [B] w w7) := k6.out.trans k
  have b7 : Hid (w7.heap[w.heap.size]? = some (.cells #[.int .i64 0, .int .i64 0, .int .i64 0, .int .i64 0, .int .i64 0, .int .i64 0, .int .i64 0, .int .i64 0] 44 (0, 0))) := (k.2.2.2.2 _ (lt_of_heap b6.out) (by simp; omega)).trans b6.out
  clear hx p k p6 k6 b6
  go_wp2_with fail
  refine Calls.mono (runsigned_any Rb B _ t _ p7.out) ?_
  rintro r w8 (⟨x, hx, rfl, k⟩ | ⟨v8, r8, hx, rfl, p, k⟩)
  · exact ⟨rfl, .inl ⟨x, by simp only [pL, pbind, h1.out, h2.out, h3.out, h4.out, h5.out, h6.out, h7.out, hx], rfl, k7.out.trans k⟩⟩
  have h8 : Hid (pU t r7 = .inr (v8, r8)) := hx
  have p8 : Hid (PR w8 Rb B r8 t) := p
  have k8 : Hid (Wr.Kept [B] w w8) := k7.out.trans k
  have b8 : Hid (w8.heap[w.heap.size]? = some (.cells #[.int .i64 0, .int .i64 0, .int .i64 0, .int .i64 0, .int .i64 0, .int .i64 0, .int .i64 0, .int .i64 0] 44 (0, 0))) := (k.2.2.2.2 _ (lt_of_heap b7.out) (by simp; omega)).trans b7.out
  clear hx p k p7 k7 b7
  have hP : Hid (pL (pU t) 8 zs = .inr ([v1, v2, v3, v4, v5, v6, v7, v8], r8)) := by simp only [Hid, pL, pbind, h1.out, h2.out, h3.out, h4.out, h5.out, h6.out, h7.out, h8.out]
  have q : Hid (PR (w8.setRow w.heap.size #[.int .i64 v1, .int .i64 v2, .int .i64 v3, .int .i64 v4, .int .i64 v5, .int .i64 v6, .int .i64 v7, .int .i64 v8]) Rb B r8 t ∧ Wr.Kept [B] w (w8.setRow w.heap.size #[.int .i64 v1, .int .i64 v2, .int .i64 v3, .int .i64 v4, .int .i64 v5, .int .i64 v6, .int .i64 v7, .int .i64 v8]) ∧ (w8.setRow w.heap.size #[.int .i64 v1, .int .i64 v2, .int .i64 v3, .int .i64 v4, .int .i64 v5, .int .i64 v6, .int .i64 v7, .int .i64 v8]).heap[w.heap.size]? = some (.cells #[.int .i64 v1, .int .i64 v2, .int .i64 v3, .int .i64 v4, .int .i64 v5, .int .i64 v6, .int .i64 v7, .int .i64 v8] 44 (0, 0))) := ⟨p8.out.keep (below_row hlt), kept_row k8.out (Nat.le_refl _), setRow_heap _ _ _ _ _ _ b8.out⟩
  have bn := b8.out
  clear p8 k8 b8 h1 h2 h3 h4 h5 h6 h7 h8
  go_wp2_with (refine wpList_store_row rfl 44 (.tmp 2) (.tmp 19) rfl w.heap.size #[.int .i64 v1, .int .i64 v2, .int .i64 v3, .int .i64 v4, .int .i64 v5, .int .i64 v6, .int .i64 v7, .int .i64 v8] rfl rfl 44 _ bn (by kernel_rfl) rfl (by simp [Value.oneCell']) ?_)
  exact bodyPost_ret (results_cell_row Try.results90 _ _ w.heap.size 44 _ (0, 0) _ rfl q.out.2.2 Try.underlying44 rfl (by kernel_rfl)) rfl (.inr ⟨_, _, _, _, _, _, _, _, _, hP.out, rfl, q.out.1, q.out.2.1⟩)
end Go.Proofs.Ythagdpiocmcbmaa
