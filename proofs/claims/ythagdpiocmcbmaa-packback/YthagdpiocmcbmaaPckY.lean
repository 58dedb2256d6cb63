/- The reader of package pack: a model. Written by tools/gen/PckY.py. -/
import Derived.Test.YthagdpiocmcbmaaPckU
namespace Go.Proofs.Ythagdpiocmcbmaa
open Wr
open Go.ChangeShapes Go.WideShapes Go.ChangeAt Go.RowKit
set_option linter.unusedVariables false
theorem pMod_eq (zs : List Int) : pMod zs = pbind (pL (pU 0) 3 zs) fun s r1 => pbind (pL (p32 0) 2 r1) fun lh r2 => pbind (pTO r2) fun ops r4 => pbind (pU 0 r4) fun ot r5 => .inr (⟨s, lh, ops, ot⟩, r5) := by
  unfold pMod pTO
  refine pbind_congr fun s r1 => ?_
  refine pbind_congr fun lh r2 => ?_
  rw [pbind_assoc]
theorem CRow.row {w : World} {base N : Nat} {v : Value} {i : Nat} {O : Nat → Nat → Int} {Z B : Nat → List Int} {cs : Array Value} (h : CRow w base v i O Z B) (hN : N < base) : CRow (w.setRow N cs) base v i O Z B :=
  h.kept (L := [N]) ⟨rfl, rfl, rfl, by rw [size_setRow]; exact Nat.le_refl _, fun j hj hL => setRow_other w N j cs (by simpa using hL)⟩ (by simpa using hN)
theorem CRow.base {w : World} {b c : Nat} {v : Value} {i : Nat} {O : Nat → Nat → Int} {Z B : Nat → List Int} (h : CRow w b v i O Z B) (q : c ≤ b) : CRow w c v i O Z B := by
  obtain ⟨xs, h1, h2⟩ := h
  refine ⟨xs, ⟨h1.1, ?_⟩, fun r hr => ?_⟩
  · rcases h1.2 with h0 | ⟨g, cap, cur, e1, e2, e3⟩
    · exact .inl h0
    · exact .inr ⟨g, cap, cur, e1, Nat.le_trans q e2, e3⟩
  · obtain ⟨wa, lw, cw, ba, lb, cb, e1, e2, e3, e4, e5, e6⟩ := h2 r hr
    exact ⟨wa, lw, cw, ba, lb, cb, e1, e2, e3, e4.base q, e5.base q, e6⟩
theorem kept_rowL {w wn : World} {L : List Nat} {N : Nat} {cs : Array Value} (k : Wr.Kept L w wn) (hN : w.heap.size ≤ N) : Wr.Kept L w (wn.setRow N cs) :=
  ⟨k.1, k.2.1, k.2.2.1, by rw [size_setRow]; exact k.2.2.2.1, fun i hi hB => (setRow_other wn N i cs (by omega)).trans (k.2.2.2.2 i hi hB)⟩
set_option maxHeartbeats 4000000 in
set_option maxRecDepth 100000 in
theorem rmodel_any (Rb B : Nat) (zs : List Int) (w : World) (h : PR w Rb B zs 0) :
    Calls Try.prog 33 #[(.pointer (some ⟨Rb, 0, none⟩))] w fun r w' => (∃ x, pMod zs = .inl x ∧ r = fpan x.1 x.2 ∧ Wr.Kept [B, Rb] w w') ∨
      ∃ (h0 w0 c0 lo hi ot : Int) (oa : Option Addr) (n oc : Nat) (O : Nat → Nat → Int) (Z Bs : Nat → List Int) (rs : List Int), pMod zs = .inr (dMod h0 w0 c0 lo hi ot n O Z Bs, rs) ∧ n ≤ 64 ∧ r = .returned (.agg #[.int .i64 h0, .int .i64 w0, .int .i64 c0, .int .i64 lo, .int .i64 hi, .slice oa n oc, .int .i64 ot]) ∧
        CRow w' (w.heap.size + 1) (.slice oa n oc) n O Z Bs ∧ PR w' Rb B rs 0 ∧ Wr.Kept [B, Rb] w w' := by
  have hlt := h.ltB
  have hRB := h.2.2
  have p0 : Hid (PR (w.alloc (.cells #[.int .i64 0, .int .i64 0, .int .i64 0, .int .i64 0, .int .i64 0, .slice none 0 0, .int .i64 0] 26)) Rb B zs 0) := h.al _
  have k0 : Hid (Wr.Kept [B, Rb] w (w.alloc (.cells #[.int .i64 0, .int .i64 0, .int .i64 0, .int .i64 0, .int .i64 0, .slice none 0 0, .int .i64 0] 26))) := Kept.of (bal _ _)
  have b0 : Hid ((w.alloc (.cells #[.int .i64 0, .int .i64 0, .int .i64 0, .int .i64 0, .int .i64 0, .slice none 0 0, .int .i64 0] 26)).heap[w.heap.size]? = some (.cells #[.int .i64 0, .int .i64 0, .int .i64 0, .int .i64 0, .int .i64 0, .slice none 0 0, .int .i64 0] 26 (0, 0))) := heap_alloc_new w _
  have s0 : w.heap.size + 1 ≤ (w.alloc (.cells #[.int .i64 0, .int .i64 0, .int .i64 0, .int .i64 0, .int .i64 0, .slice none 0 0, .int .i64 0] 26)).heap.size := by simp
  have hE : Hid (pMod zs = _) := pMod_eq zs
  clear h
  go_enter Try.func33, Try.ntmps33
  go_wp2_with fail
  refine Calls.mono (runsigned_any Rb B _ 0 _ p0.out) ?_
  rintro r w1 (⟨x, hx, rfl, k⟩ | ⟨v1, r1, hx, rfl, p, k⟩)
  · exact ⟨rfl, .inl ⟨x, by rw [hE.out, show pL (pU 0) 3 zs = .inl x by simp only [pL, pbind, hx]]; rfl, rfl, k0.out.trans (k.wide (by simp))⟩⟩
  have h1 : Hid (pU 0 zs = .inr (v1, r1)) := hx
  have p1 : Hid (PR w1 Rb B r1 0) := p
  have k1 : Hid (Wr.Kept [B, Rb] w w1) := k0.out.trans (k.wide (by simp))
  have s1 : w.heap.size + 1 ≤ w1.heap.size := Nat.le_trans s0 k.2.2.2.1
  have b1 : Hid (w1.heap[w.heap.size]? = some (.cells #[.int .i64 0, .int .i64 0, .int .i64 0, .int .i64 0, .int .i64 0, .slice none 0 0, .int .i64 0] 26 (0, 0))) := (k.2.2.2.2 _ (lt_of_heap b0.out) (by simp; omega)).trans b0.out
  clear hx p k p0 k0 s0 b0
  go_wp2_with fail
  refine Calls.mono (runsigned_any Rb B _ 0 _ p1.out) ?_
  rintro r w2 (⟨x, hx, rfl, k⟩ | ⟨v2, r2, hx, rfl, p, k⟩)
  · exact ⟨rfl, .inl ⟨x, by rw [hE.out, show pL (pU 0) 3 zs = .inl x by simp only [pL, pbind, h1.out, hx]]; rfl, rfl, k1.out.trans (k.wide (by simp))⟩⟩
  have h2 : Hid (pU 0 r1 = .inr (v2, r2)) := hx
  have p2 : Hid (PR w2 Rb B r2 0) := p
  have k2 : Hid (Wr.Kept [B, Rb] w w2) := k1.out.trans (k.wide (by simp))
  have s2 : w.heap.size + 1 ≤ w2.heap.size := Nat.le_trans s1 k.2.2.2.1
  have b2 : Hid (w2.heap[w.heap.size]? = some (.cells #[.int .i64 0, .int .i64 0, .int .i64 0, .int .i64 0, .int .i64 0, .slice none 0 0, .int .i64 0] 26 (0, 0))) := (k.2.2.2.2 _ (lt_of_heap b1.out) (by simp; omega)).trans b1.out
  clear hx p k p1 k1 s1 b1
  go_wp2_with fail
  refine Calls.mono (runsigned_any Rb B _ 0 _ p2.out) ?_
  rintro r w3 (⟨x, hx, rfl, k⟩ | ⟨v3, r3, hx, rfl, p, k⟩)
  · exact ⟨rfl, .inl ⟨x, by rw [hE.out, show pL (pU 0) 3 zs = .inl x by simp only [pL, pbind, h1.out, h2.out, hx]]; rfl, rfl, k2.out.trans (k.wide (by simp))⟩⟩
  have h3 : Hid (pU 0 r2 = .inr (v3, r3)) := hx
  have p3 : Hid (PR w3 Rb B r3 0) := p
  have k3 : Hid (Wr.Kept [B, Rb] w w3) := k2.out.trans (k.wide (by simp))
  have s3 : w.heap.size + 1 ≤ w3.heap.size := Nat.le_trans s2 k.2.2.2.1
  have b3 : Hid (w3.heap[w.heap.size]? = some (.cells #[.int .i64 0, .int .i64 0, .int .i64 0, .int .i64 0, .int .i64 0, .slice none 0 0, .int .i64 0] 26 (0, 0))) := (k.2.2.2.2 _ (lt_of_heap b2.out) (by simp; omega)).trans b2.out
  clear hx p k p2 k2 s2 b2
  have a3 : Hid (pL (pU 0) 3 zs = .inr ([v1, v2, v3], r3)) := by simp only [Hid, pL, pbind, h1.out, h2.out, h3.out]
  clear h1 h2 h3
  go_wp2_with fail
  refine Calls.mono (whole_any Rb B _ 0 _ p3.out) ?_
  rintro r w4 (⟨x, hx, rfl, k⟩ | ⟨y1, r4, hx, rfl, p, k⟩)
  · exact ⟨rfl, .inl ⟨x, by rw [hE.out, a3.out, pbind_r, show pL (p32 0) 2 r3 = .inl x by simp only [pL, pbind, hx]]; rfl, rfl, k3.out.trans (k.wide (by simp))⟩⟩
  have h4 : Hid (p32 0 r3 = .inr (y1, r4)) := hx
  have p4 : Hid (PR w4 Rb B r4 0) := p
  have k4 : Hid (Wr.Kept [B, Rb] w w4) := k3.out.trans (k.wide (by simp))
  have s4 : w.heap.size + 1 ≤ w4.heap.size := Nat.le_trans s3 k.2.2.2.1
  have b4 : Hid (w4.heap[w.heap.size]? = some (.cells #[.int .i64 0, .int .i64 0, .int .i64 0, .int .i64 0, .int .i64 0, .slice none 0 0, .int .i64 0] 26 (0, 0))) := (k.2.2.2.2 _ (lt_of_heap b3.out) (by simp; omega)).trans b3.out
  clear hx p k p3 k3 s3 b3
  go_wp2_with fail
  refine Calls.mono (whole_any Rb B _ 0 _ p4.out) ?_
  rintro r w5 (⟨x, hx, rfl, k⟩ | ⟨y2, r5, hx, rfl, p, k⟩)
  · exact ⟨rfl, .inl ⟨x, by rw [hE.out, a3.out, pbind_r, show pL (p32 0) 2 r3 = .inl x by simp only [pL, pbind, h4.out, hx]]; rfl, rfl, k4.out.trans (k.wide (by simp))⟩⟩
  have h5 : Hid (p32 0 r4 = .inr (y2, r5)) := hx
  have p5 : Hid (PR w5 Rb B r5 0) := p
  have k5 : Hid (Wr.Kept [B, Rb] w w5) := k4.out.trans (k.wide (by simp))
  have s5 : w.heap.size + 1 ≤ w5.heap.size := Nat.le_trans s4 k.2.2.2.1
  have b5 : Hid (w5.heap[w.heap.size]? = some (.cells #[.int .i64 0, .int .i64 0, .int .i64 0, .int .i64 0, .int .i64 0, .slice none 0 0, .int .i64 0] 26 (0, 0))) := (k.2.2.2.2 _ (lt_of_heap b4.out) (by simp; omega)).trans b4.out
  clear hx p k p4 k4 s4 b4
  have a5 : Hid (pL (p32 0) 2 r3 = .inr ([y1, y2], r5)) := by simp only [Hid, pL, pbind, h4.out, h5.out]
  clear h4 h5
  go_wp2_with fail
  refine Calls.mono (rops_any Rb B _ _ p5.out) ?_
  rintro r w6 (⟨x, hx, rfl, k⟩ | ⟨n, O, Z, Bs, v, r6, hx, hn, rfl, cr, p, k⟩)
  · exact ⟨rfl, .inl ⟨x, by rw [hE.out, a3.out, pbind_r, a5.out, pbind_r, hx]; rfl, rfl, k5.out.trans k⟩⟩
  have h6 : Hid (pTO r5 = .inr (dOps O Z Bs n, r6)) := hx
  have p6 : Hid (PR w6 Rb B r6 0) := p
  have k6 : Hid (Wr.Kept [B, Rb] w w6) := k5.out.trans k
  have s6 : w.heap.size + 1 ≤ w6.heap.size := Nat.le_trans s5 k.2.2.2.1
  have b6 : Hid (w6.heap[w.heap.size]? = some (.cells #[.int .i64 0, .int .i64 0, .int .i64 0, .int .i64 0, .int .i64 0, .slice none 0 0, .int .i64 0] 26 (0, 0))) := (k.2.2.2.2 _ (lt_of_heap b5.out) (by simp; omega)).trans b5.out
  obtain ⟨oa, oc, rfl⟩ := cr.slice
  have cr6 : Hid (CRow w6 (w.heap.size + 1) (.slice oa n oc) n O Z Bs) := cr.base s5
  clear cr
  clear hx p k p5 k5 s5 b5
  go_wp2_with fail
  refine Calls.mono (runsigned_any Rb B _ 0 _ p6.out) ?_
  rintro r w7 (⟨x, hx, rfl, k⟩ | ⟨ot, r7, hx, rfl, p, k⟩)
  · exact ⟨rfl, .inl ⟨x, by rw [hE.out, a3.out, pbind_r, a5.out, pbind_r, h6.out, pbind_r, hx]; rfl, rfl, k6.out.trans (k.wide (by simp))⟩⟩
  have h7 : Hid (pU 0 r6 = .inr (ot, r7)) := hx
  have p7 : Hid (PR w7 Rb B r7 0) := p
  have k7 : Hid (Wr.Kept [B, Rb] w w7) := k6.out.trans (k.wide (by simp))
  have s7 : w.heap.size + 1 ≤ w7.heap.size := Nat.le_trans s6 k.2.2.2.1
  have b7 : Hid (w7.heap[w.heap.size]? = some (.cells #[.int .i64 0, .int .i64 0, .int .i64 0, .int .i64 0, .int .i64 0, .slice none 0 0, .int .i64 0] 26 (0, 0))) := (k.2.2.2.2 _ (lt_of_heap b6.out) (by simp; omega)).trans b6.out
  have cr7 : Hid (CRow w7 (w.heap.size + 1) (.slice oa n oc) n O Z Bs) := cr6.out.kept k (by simp; omega)
  clear hx p k p6 k6 s6 b6 cr6
  have hP : Hid (pMod zs = .inr (dMod v1 v2 v3 y1 y2 ot n O Z Bs, r7)) := by
    unfold Hid
    rw [hE.out, a3.out, pbind_r, a5.out, pbind_r, h6.out, pbind_r, h7.out]
    rfl
  have q : Hid (PR (w7.setRow w.heap.size #[.int .i64 v1, .int .i64 v2, .int .i64 v3, .int .i64 y1, .int .i64 y2, .slice oa n oc, .int .i64 ot]) Rb B r7 0 ∧ Wr.Kept [B, Rb] w (w7.setRow w.heap.size #[.int .i64 v1, .int .i64 v2, .int .i64 v3, .int .i64 y1, .int .i64 y2, .slice oa n oc, .int .i64 ot]) ∧ (w7.setRow w.heap.size #[.int .i64 v1, .int .i64 v2, .int .i64 v3, .int .i64 y1, .int .i64 y2, .slice oa n oc, .int .i64 ot]).heap[w.heap.size]? = some (.cells #[.int .i64 v1, .int .i64 v2, .int .i64 v3, .int .i64 y1, .int .i64 y2, .slice oa n oc, .int .i64 ot] 26 (0, 0))) := ⟨p7.out.keep (below_row hlt), kept_rowL k7.out (Nat.le_refl _), setRow_heap _ _ _ _ _ _ b7.out⟩
  have qc : Hid (CRow (w7.setRow w.heap.size #[.int .i64 v1, .int .i64 v2, .int .i64 v3, .int .i64 y1, .int .i64 y2, .slice oa n oc, .int .i64 ot]) (w.heap.size + 1) (.slice oa n oc) n O Z Bs) := cr7.out.row (by omega)
  have bn := b7.out
  clear p7 k7 b7 cr7 hE a3 a5 h6 h7
  go_wp2_with (refine wpList_store_row rfl 26 (.tmp 2) (.tmp 18) rfl w.heap.size #[.int .i64 v1, .int .i64 v2, .int .i64 v3, .int .i64 y1, .int .i64 y2, .slice oa n oc, .int .i64 ot] rfl rfl 26 _ bn (by kernel_rfl) rfl (by simp [Value.oneCell']) ?_)
  exact bodyPost_ret (results_cell_row Try.results33 _ _ w.heap.size 26 _ (0, 0) _ rfl q.out.2.2 Try.underlying26 rfl (by kernel_rfl)) rfl (.inr ⟨v1, v2, v3, y1, y2, ot, oa, n, oc, O, Z, Bs, _, hP.out, hn, rfl, qc.out, q.out.1, q.out.2.1⟩)
end Go.Proofs.Ythagdpiocmcbmaa
