/- The reader of package pack: a model. Written by tools/gen/PckY.py. A well-formed model's numbers fit their forms. Encode of package pack: what it returns. bytes.Equal, HasPrefix, CutPrefix, at a prefix of four bytes. Decode of package pack: what it returns. What like bytes say of like models; errors are never 0. -/
import Derived.Test.YthagdpiocmcbmaaGr16
import Derived.Lib.SlBytesConst
import Derived.Laws.BytesArg
import Derived.Lib.Bytes
import Derived.Defers
import Derived.Recover
/- The reader of package pack: a model. Written by tools/gen/PckY.py. -/
namespace Go.Proofs.Ythagdpiocmcbmaa
open Wr
open Go.ChangeShapes Go.WideShapes Go.ChangeAt Go.RowKit
set_option linter.unusedVariables false
theorem pMod_eq (zs : List Int) : pMod zs = pbind (pL (pU 0) 3 zs) fun s r1 => pbind (pL (p32 0) 2 r1) fun lh r2 => pbind (pTO r2) fun ops r4 => pbind (pU 0 r4) fun ot r5 => .inr (⟨s, lh, ops, ot⟩, r5) := by
  unfold pMod pTO
  refine pbind_congr fun s r1 => ?_
  refine pbind_congr fun lh r2 => ?_
  rw [pbind_assoc]
theorem CRow.row {w : World} {base N : Nat} {v : Value} {i : Nat} {O : Nat → Nat → Int} {Z B : Nat → List Int} {cs : Array Value} (h : CRow w base v i O Z B) (hN : N < base) : CRow (w.setRow N cs) base v i O Z B :=
  h.kept (L := [N]) ⟨rfl, rfl, rfl, by rw [size_setRow]; exact Nat.le_refl _, fun j hj hL => setRow_other w N j cs (by simpa using hL)⟩ (by simpa using hN)
theorem CRow.base {w : World} {b c : Nat} {v : Value} {i : Nat} {O : Nat → Nat → Int} {Z B : Nat → List Int} (h : CRow w b v i O Z B) (q : c ≤ b) : CRow w c v i O Z B := by
  obtain ⟨xs, h1, h2⟩ := h
  refine ⟨xs, ⟨h1.1, ?_⟩, fun r hr => ?_⟩
  · rcases h1.2 with h0 | ⟨g, cap, cur, e1, e2, e3⟩
    · exact .inl h0
    · exact .inr ⟨g, cap, cur, e1, Nat.le_trans q e2, e3⟩
  · obtain ⟨wa, lw, cw, ba, lb, cb, e1, e2, e3, e4, e5, e6⟩ := h2 r hr
    exact ⟨wa, lw, cw, ba, lb, cb, e1, e2, e3, e4.base q, e5.base q, e6⟩
theorem kept_rowL {w wn : World} {L : List Nat} {N : Nat} {cs : Array Value} (k : Wr.Kept L w wn) (hN : w.heap.size ≤ N) : Wr.Kept L w (wn.setRow N cs) :=
  ⟨k.1, k.2.1, k.2.2.1, by rw [size_setRow]; exact k.2.2.2.1, fun i hi hB => (setRow_other wn N i cs (by omega)).trans (k.2.2.2.2 i hi hB)⟩
set_option maxHeartbeats 4000000 in
set_option maxRecDepth 100000 in
theorem rmodel_any (Rb B : Nat) (zs : List Int) (w : World) (h : PR w Rb B zs 0) :
    Calls Try.prog 33 #[(.pointer (some ⟨Rb, 0, none⟩))] w fun r w' => (∃ x, pMod zs = .inl x ∧ r = fpan x.1 x.2 ∧ Wr.Kept [B, Rb] w w') ∨
      ∃ (h0 w0 c0 lo hi ot : Int) (oa : Option Addr) (n oc : Nat) (O : Nat → Nat → Int) (Z Bs : Nat → List Int) (rs : List Int), pMod zs = .inr (dMod h0 w0 c0 lo hi ot n O Z Bs, rs) ∧ n ≤ 64 ∧ r = .returned (.agg #[.int .i64 h0, .int .i64 w0, .int .i64 c0, .int .i64 lo, .int .i64 hi, .slice oa n oc, .int .i64 ot]) ∧
        CRow w' (w.heap.size + 1) (.slice oa n oc) n O Z Bs ∧ PR w' Rb B rs 0 ∧ Wr.Kept [B, Rb] w w' := by
  have hlt := h.ltB
  have hRB := h.2.2
  have p0 : Hid (PR (w.alloc (.cells #[.int .i64 0, .int .i64 0, .int .i64 0, .int .i64 0, .int .i64 0, .slice none 0 0, .int .i64 0] 26)) Rb B zs 0) := h.al _
  have k0 : Hid (Wr.Kept [B, Rb] w (w.alloc (.cells #[.int .i64 0, .int .i64 0, .int .i64 0, .int .i64 0, .int .i64 0, .slice none 0 0, .int .i64 0] 26))) := Kept.of (bal _ _)
  have b0 : Hid ((w.alloc (.cells #[.int .i64 0, .int .i64 0, .int .i64 0, .int .i64 0, .int .i64 0, .slice none 0 0, .int .i64 0] 26)).heap[w.heap.size]? = some (.cells #[.int .i64 0, .int .i64 0, .int .i64 0, .int .i64 0, .int .i64 0, .slice none 0 0, .int .i64 0] 26 (0, 0))) := heap_alloc_new w _
  have s0 : w.heap.size + 1 ≤ (w.alloc (.cells #[.int .i64 0, .int .i64 0, .int .i64 0, .int .i64 0, .int .i64 0, .slice none 0 0, .int .i64 0] 26)).heap.size := by simp
  have hE : Hid (pMod zs = _) := pMod_eq zs
  clear h
  go_enter Try.func33, Try.ntmps33
  go_wp2_with fail
  refine Calls.mono (runsigned_any Rb B _ 0 _ p0.out) ?_
  rintro r w1 (⟨x, hx, rfl, k⟩ | ⟨v1, r1, hx, rfl, p, k⟩)
  · exact ⟨rfl, .inl ⟨x, by rw [hE.out, show pL (pU 0) 3 zs = .inl x by simp only [pL, pbind, hx]]; rfl, rfl, k0.out.trans (k.wide (by simp))⟩⟩
  have h1 : Hid (pU 0 zs = .inr (v1, r1)) := hx
  have p1 : Hid (PR w1 Rb B r1 0) := p
  have k1 : Hid (Wr.Kept [B, Rb] w w1) := k0.out.trans (k.wide (by simp))
  have s1 : w.heap.size + 1 ≤ w1.heap.size := Nat.le_trans s0 k.2.2.2.1
  have b1 : Hid (w1.heap[w.heap.size]? = some (.cells #[.int .i64 0, .int .i64 0, .int .i64 0, .int .i64 0, .int .i64 0, .slice none 0 0, .int .i64 0] 26 (0, 0))) := (k.2.2.2.2 _ (lt_of_heap b0.out) (by simp; omega)).trans b0.out
  clear hx p k p0 k0 s0 b0
  go_wp2_with fail
  refine Calls.mono (runsigned_any Rb B _ 0 _ p1.out) ?_
  rintro r w2 (⟨x, hx, rfl, k⟩ | ⟨v2, r2, hx, rfl, p, k⟩)
  · exact ⟨rfl, .inl ⟨x, by rw [hE.out, show pL (pU 0) 3 zs = .inl x by simp only [pL, pbind, h1.out, hx]]; rfl, rfl, k1.out.trans (k.wide (by simp))⟩⟩
  have h2 : Hid (pU 0 r1 = .inr (v2, r2)) := hx
  have p2 : Hid (PR w2 Rb B r2 0) := p
  have k2 : Hid (Wr.Kept [B, Rb] w w2) := k1.out.trans (k.wide (by simp))
  have s2 : w.heap.size + 1 ≤ w2.heap.size := Nat.le_trans s1 k.2.2.2.1
  have b2 : Hid (w2.heap[w.heap.size]? = some (.cells #[.int .i64 0, .int .i64 0, .int .i64 0, .int .i64 0, .int .i64 0, .slice none 0 0, .int .i64 0] 26 (0, 0))) := (k.2.2.2.2 _ (lt_of_heap b1.out) (by simp; omega)).trans b1.out
  clear hx p k p1 k1 s1 b1
  go_wp2_with fail
  refine Calls.mono (runsigned_any Rb B _ 0 _ p2.out) ?_
  rintro r w3 (⟨x, hx, rfl, k⟩ | ⟨v3, r3, hx, rfl, p, k⟩)
  · exact ⟨rfl, .inl ⟨x, by rw [hE.out, show pL (pU 0) 3 zs = .inl x by simp only [pL, pbind, h1.out, h2.out, hx]]; rfl, rfl, k2.out.trans (k.wide (by simp))⟩⟩
  have h3 : Hid (pU 0 r2 = .inr (v3, r3)) := hx
  have p3 : Hid (PR w3 Rb B r3 0) := p
  have k3 : Hid (Wr.Kept [B, Rb] w w3) := k2.out.trans (k.wide (by simp))
  have s3 : w.heap.size + 1 ≤ w3.heap.size := Nat.le_trans s2 k.2.2.2.1
  have b3 : Hid (w3.heap[w.heap.size]? = some (.cells #[.int .i64 0, .int .i64 0, .int .i64 0, .int .i64 0, .int .i64 0, .slice none 0 0, .int .i64 0] 26 (0, 0))) := (k.2.2.2.2 _ (lt_of_heap b2.out) (by simp; omega)).trans b2.out
  clear hx p k p2 k2 s2 b2
  have a3 : Hid (pL (pU 0) 3 zs = .inr ([v1, v2, v3], r3)) := by simp only [Hid, pL, pbind, h1.out, h2.out, h3.out]
  clear h1 h2 h3
  go_wp2_with fail
  refine Calls.mono (whole_any Rb B _ 0 _ p3.out) ?_
  rintro r w4 (⟨x, hx, rfl, k⟩ | ⟨y1, r4, hx, rfl, p, k⟩)
  · exact ⟨rfl, .inl ⟨x, by rw [hE.out, a3.out, pbind_r, show pL (p32 0) 2 r3 = .inl x by simp only [pL, pbind, hx]]; rfl, rfl, k3.out.trans (k.wide (by simp))⟩⟩
  have h4 : Hid (p32 0 r3 = .inr (y1, r4)) := hx
  have p4 : Hid (PR w4 Rb B r4 0) := p
  have k4 : Hid (Wr.Kept [B, Rb] w w4) := k3.out.trans (k.wide (by simp))
  have s4 : w.heap.size + 1 ≤ w4.heap.size := Nat.le_trans s3 k.2.2.2.1
  have b4 : Hid (w4.heap[w.heap.size]? = some (.cells #[.int .i64 0, .int .i64 0, .int .i64 0, .int .i64 0, .int .i64 0, .slice none 0 0, .int .i64 0] 26 (0, 0))) := (k.2.2.2.2 _ (lt_of_heap b3.out) (by simp; omega)).trans b3.out
  clear hx p k p3 k3 s3 b3
  go_wp2_with fail
  refine Calls.mono (whole_any Rb B _ 0 _ p4.out) ?_
  rintro r w5 (⟨x, hx, rfl, k⟩ | ⟨y2, r5, hx, rfl, p, k⟩)
  · exact ⟨rfl, .inl ⟨x, by rw [hE.out, a3.out, pbind_r, show pL (p32 0) 2 r3 = .inl x by simp only [pL, pbind, h4.out, hx]]; rfl, rfl, k4.out.trans (k.wide (by simp))⟩⟩
  have h5 : Hid (p32 0 r4 = .inr (y2, r5)) := hx
  have p5 : Hid (PR w5 Rb B r5 0) := p
  have k5 : Hid (Wr.Kept [B, Rb] w w5) := k4.out.trans (k.wide (by simp))
  have s5 : w.heap.size + 1 ≤ w5.heap.size := Nat.le_trans s4 k.2.2.2.1
  have b5 : Hid (w5.heap[w.heap.size]? = some (.cells #[.int .i64 0, .int .i64 0, .int .i64 0, .int .i64 0, .int .i64 0, .slice none 0 0, .int .i64 0] 26 (0, 0))) := (k.2.2.2.2 _ (lt_of_heap b4.out) (by simp; omega)).trans b4.out
  clear hx p k p4 k4 s4 b4
  have a5 : Hid (pL (p32 0) 2 r3 = .inr ([y1, y2], r5)) := by simp only [Hid, pL, pbind, h4.out, h5.out]
  clear h4 h5
  go_wp2_with fail
  refine Calls.mono (rops_any Rb B _ _ p5.out) ?_
  rintro r w6 (⟨x, hx, rfl, k⟩ | ⟨n, O, Z, Bs, v, r6, hx, hn, rfl, cr, p, k⟩)
  · exact ⟨rfl, .inl ⟨x, by rw [hE.out, a3.out, pbind_r, a5.out, pbind_r, hx]; rfl, rfl, k5.out.trans k⟩⟩
  have h6 : Hid (pTO r5 = .inr (dOps O Z Bs n, r6)) := hx
  have p6 : Hid (PR w6 Rb B r6 0) := p
  have k6 : Hid (Wr.Kept [B, Rb] w w6) := k5.out.trans k
  have s6 : w.heap.size + 1 ≤ w6.heap.size := Nat.le_trans s5 k.2.2.2.1
  have b6 : Hid (w6.heap[w.heap.size]? = some (.cells #[.int .i64 0, .int .i64 0, .int .i64 0, .int .i64 0, .int .i64 0, .slice none 0 0, .int .i64 0] 26 (0, 0))) := (k.2.2.2.2 _ (lt_of_heap b5.out) (by simp; omega)).trans b5.out
  obtain ⟨oa, oc, rfl⟩ := cr.slice
  have cr6 : Hid (CRow w6 (w.heap.size + 1) (.slice oa n oc) n O Z Bs) := cr.base s5
  clear cr
  clear hx p k p5 k5 s5 b5
  go_wp2_with fail
  refine Calls.mono (runsigned_any Rb B _ 0 _ p6.out) ?_
  rintro r w7 (⟨x, hx, rfl, k⟩ | ⟨ot, r7, hx, rfl, p, k⟩)
  · exact ⟨rfl, .inl ⟨x, by rw [hE.out, a3.out, pbind_r, a5.out, pbind_r, h6.out, pbind_r, hx]; rfl, rfl, k6.out.trans (k.wide (by simp))⟩⟩
  have h7 : Hid (pU 0 r6 = .inr (ot, r7)) := hx
  have p7 : Hid (PR w7 Rb B r7 0) := p
  have k7 : Hid (Wr.Kept [B, Rb] w w7) := k6.out.trans (k.wide (by simp))
  have s7 : w.heap.size + 1 ≤ w7.heap.size := Nat.le_trans s6 k.2.2.2.1
  have b7 : Hid (w7.heap[w.heap.size]? = some (.cells #[.int .i64 0, .int .i64 0, .int .i64 0, .int .i64 0, .int .i64 0, .slice none 0 0, .int .i64 0] 26 (0, 0))) := (k.2.2.2.2 _ (lt_of_heap b6.out) (by simp; omega)).trans b6.out
  have cr7 : Hid (CRow w7 (w.heap.size + 1) (.slice oa n oc) n O Z Bs) := cr6.out.kept k (by simp; omega)
  clear hx p k p6 k6 s6 b6 cr6
  have hP : Hid (pMod zs = .inr (dMod v1 v2 v3 y1 y2 ot n O Z Bs, r7)) := by
    unfold Hid
    rw [hE.out, a3.out, pbind_r, a5.out, pbind_r, h6.out, pbind_r, h7.out]
    rfl
  have q : Hid (PR (w7.setRow w.heap.size #[.int .i64 v1, .int .i64 v2, .int .i64 v3, .int .i64 y1, .int .i64 y2, .slice oa n oc, .int .i64 ot]) Rb B r7 0 ∧ Wr.Kept [B, Rb] w (w7.setRow w.heap.size #[.int .i64 v1, .int .i64 v2, .int .i64 v3, .int .i64 y1, .int .i64 y2, .slice oa n oc, .int .i64 ot]) ∧ (w7.setRow w.heap.size #[.int .i64 v1, .int .i64 v2, .int .i64 v3, .int .i64 y1, .int .i64 y2, .slice oa n oc, .int .i64 ot]).heap[w.heap.size]? = some (.cells #[.int .i64 v1, .int .i64 v2, .int .i64 v3, .int .i64 y1, .int .i64 y2, .slice oa n oc, .int .i64 ot] 26 (0, 0))) := ⟨p7.out.keep (below_row hlt), kept_rowL k7.out (Nat.le_refl _), setRow_heap _ _ _ _ _ _ b7.out⟩
  have qc : Hid (CRow (w7.setRow w.heap.size #[.int .i64 v1, .int .i64 v2, .int .i64 v3, .int .i64 y1, .int .i64 y2, .slice oa n oc, .int .i64 ot]) (w.heap.size + 1) (.slice oa n oc) n O Z Bs) := cr7.out.row (by omega)
  have bn := b7.out
  clear p7 k7 b7 cr7 hE a3 a5 h6 h7
  go_wp2_with (refine wpList_store_row rfl 26 (.tmp 2) (.tmp 18) rfl w.heap.size #[.int .i64 v1, .int .i64 v2, .int .i64 v3, .int .i64 y1, .int .i64 y2, .slice oa n oc, .int .i64 ot] rfl rfl 26 _ bn (by kernel_rfl) rfl (by simp [Value.oneCell']) ?_)
  exact bodyPost_ret (results_cell_row Try.results33 _ _ w.heap.size 26 _ (0, 0) _ rfl q.out.2.2 Try.underlying26 rfl (by kernel_rfl)) rfl (.inr ⟨v1, v2, v3, y1, y2, ot, oa, n, oc, O, Z, Bs, _, hP.out, hn, rfl, qc.out, q.out.1, q.out.2.1⟩)
end Go.Proofs.Ythagdpiocmcbmaa

/- A well-formed model's numbers fit their forms. -/
namespace Go.Proofs.Ythagdpiocmcbmaa
open Wr
set_option linter.unusedVariables false
theorem tk_more {k a b m kh kw sh sw tp lf bt rt : Int} {lw lb : Nat} {sm ss um us z p lo hi : Int} {L : List (Int × Int × Int)} {wk : Int} (h : tkE k a b m kh kw sh sw tp lf bt rt lw lb sm ss um us z p lo hi L wk = 0) : ozB k b m kh kw sh sw tp lf bt rt lw lb sm ss um us z p = true ∧ (k = 6 → 0 ≤ b ∧ b < (L.length : Int)) ∧ nuE k (mk3 k m kh kw sh sw tp lf bt rt (ShA L a)).2.2 (st3 k kh kw (ShA L a)) lw lb sm ss um us z p lo hi = 0 := by
  have h1 : opE k a b m kh kw sh sw tp lf bt rt lw lb sm ss um us z p lo hi L = 0 := by
    unfold tkE at h
    by_cases q : opE k a b m kh kw sh sw tp lf bt rt lw lb sm ss um us z p lo hi L ≠ 0
    · rw [if_pos q] at h; exact h
    · exact Decidable.not_not.1 q
  unfold opE at h1
  by_cases q1 : fmE k a b L.length (ozB k b m kh kw sh sw tp lf bt rt lw lb sm ss um us z p) ≠ 0
  · rw [if_pos q1] at h1; exact absurd h1 q1
  rw [if_neg q1] at h1
  obtain ⟨-, -, hb, ho⟩ := fmE_0 (Decidable.not_not.1 q1)
  by_cases q2 : mkE k m kh kw sh sw tp lf bt rt (ShA L a).1 (ShA L a).2.1 (ShA L a).2.2 ≠ 0
  · rw [if_pos q2] at h1; exact absurd h1 q2
  rw [if_neg q2] at h1
  by_cases q3 : k = 6 ∧ ShA L a ≠ ShA L b
  · rw [if_pos q3] at h1; cases h1
  rw [if_neg q3] at h1
  by_cases q4 : rdB k = true ∧ 512 < st3 k kh kw (ShA L a)
  · rw [if_pos q4] at h1; cases h1
  rw [if_neg q4] at h1
  exact ⟨ho, hb, h1⟩
theorem mkE_m {k m kh kw sh sw tp lf bt rt h w c : Int} (hx : mkE k m kh kw sh sw tp lf bt rt h w c = 0) : k ≤ 2 → 1 ≤ m ∧ m ≤ 1024 := by
  unfold mkE at hx
  by_cases hM : mkM k m = false
  · rw [if_pos hM] at hx; cases hx
  · have : mkM k m = true := by cases e : mkM k m with | true => rfl | false => exact absurd e hM
    unfold mkM at this
    exact of_decide_eq_true this
theorem win_of {k m kh kw sh sw tp lf bt rt h w c : Int} (hx : mkE k m kh kw sh sw tp lf bt rt h w c = 0) (hk : 2 ≤ k ∧ k ≤ 5) : InW kh kw sh sw tp lf bt rt := by
  have hw := mkE_parts hx
  unfold mkW at hw
  rw [if_pos hk] at hw
  rcases ouR_cases h w c kh kw sh sw tp lf bt rt with ⟨e, he, h1⟩ | ⟨r, q, -, hF⟩
  · rw [he] at hw; simp only at hw; omega
  · exact hF.2.1
theorem mul4 {r q ch n W : Int} (hr : 1 ≤ r) (hq : 1 ≤ q) (hc : 0 ≤ ch) (hn : 0 ≤ n) (h : r * q * ch * n ≤ W) : ch * n ≤ W := by
  have h1 : 1 * 1 ≤ r * q := Int.mul_le_mul hr hq (by omega) (by omega)
  have h2 : 0 ≤ ch * n := Int.mul_nonneg hc hn
  have h3 : 1 * (ch * n) ≤ r * q * (ch * n) := Int.mul_le_mul_of_nonneg_right (by omega) h2
  rw [Int.mul_assoc] at h
  omega
/-- One op that is taken. -/
theorem op_fits {k a b m kh kw sh sw tp lf bt rt : Int} {lw lb : Nat} {sm ss um us z p lo hi : Int} {L : List (Int × Int × Int)} {wk : Int} (h : tkE k a b m kh kw sh sw tp lf bt rt lw lb sm ss um us z p lo hi L wk = 0) (hv : ∀ s ∈ L, vS3 s = true) (hl : L.length ≤ 65) (hwk : 0 ≤ wk) :
    InU [k, a, b, m, kh, kw, sh, sw, tp, lf, bt, rt] ∧ lw ≤ 131072 ∧ lb ≤ 1024 ∧ InU [sm, ss, um, us] ∧ InS [z, p, lo, hi] := by
  obtain ⟨t1, t2, t3, ⟨a0, a1⟩, ⟨k1, k2⟩, hx⟩ := tk_0 h hv
  obtain ⟨ho, hb, hn⟩ := tk_more h
  obtain ⟨n1, n2, n3⟩ := nuE_0 hn
  unfold ozB at ho
  obtain ⟨o1, o2, o3, o4, o5, o6, o7⟩ := of_decide_eq_true ho
  have hm := mkE_m hx
  have hW : (2 ≤ k ∧ k ≤ 5) → InW kh kw sh sw tp lf bt rt := win_of hx
  simp only [rzB, rgB, Bool.and_eq_true] at n3
  obtain ⟨⟨⟨⟨r1, r2⟩, -⟩, r3⟩, r4⟩ := n3
  have r1 := vlB_yes r1
  have r2 := vlB_yes r2
  have r3 := vlB_yes r3
  have r4 := vlB_yes r4
  unfold leB at n1
  have n1 := of_decide_eq_true n1
  have n2a : scK k = true → scB sm ss = true := fun e => by simp only [ssB, e, Bool.not_true, Bool.false_or, Bool.and_eq_true] at n2; exact n2.1
  have n2b : k = 6 → scB um us = true := fun e => by subst e; simp only [ssB, Bool.and_eq_true] at n2; simpa using n2.2
  have s1 : (k ≤ 3 ∨ k = 6 ∨ k = 7) → 1 ≤ sm ∧ sm ≤ 2147483647 ∧ 0 ≤ ss ∧ ss ≤ 62 := fun e => by
    have := n2a (by unfold scK; exact decide_eq_true (by omega))
    unfold scB at this
    exact of_decide_eq_true this
  have s2 : k = 6 → 1 ≤ um ∧ um ≤ 2147483647 ∧ 0 ≤ us ∧ us ≤ 62 := fun e => by
    have := n2b e
    unfold scB at this
    exact of_decide_eq_true this
  obtain ⟨i, rfl⟩ := Int.eq_ofNat_of_zero_le a0
  have hg := hv _ (ShA_mem (show i < L.length by omega))
  have hst := stR_bd ⟨k1, k2⟩ hg (mkE_win hx)
  unfold vS3 at t1
  have v := vS_yes t1
  have hlw : k ≤ 3 → (lw : Int) ≤ 131072 ∧ (lb : Int) ≤ 1024 := fun e => by
    obtain ⟨e1, e2⟩ := n1 e
    have hst0 : 0 ≤ st3 k kh kw (ShA L i) := by have := hst.1; unfold st3; omega
    have t4 : (mk3 k m kh kw sh sw tp lf bt rt (ShA L i)).1 * (mk3 k m kh kw sh sw tp lf bt rt (ShA L i)).2.1 * (mk3 k m kh kw sh sw tp lf bt rt (ShA L i)).2.2 * st3 k kh kw (ShA L i) ≤ 131072 := by unfold opW at t3; omega
    have := mul4 v.1.1 v.2.1.1 (by omega) hst0 t4
    omega
  refine ⟨?_, ?_, ?_, ?_, ?_⟩
  · intro x hx'
    simp only [List.mem_cons, List.not_mem_nil, or_false] at hx'
    by_cases w1 : 2 ≤ k ∧ k ≤ 5
    · have hw := hW w1
      unfold InW at hw
      rcases hx' with rfl | rfl | rfl | rfl | rfl | rfl | rfl | rfl | rfl | rfl | rfl | rfl <;> omega
    · rcases hx' with rfl | rfl | rfl | rfl | rfl | rfl | rfl | rfl | rfl | rfl | rfl | rfl <;> omega
  · by_cases e : k ≤ 3
    · have := hlw e; omega
    · have := o3 (by omega); omega
  · by_cases e : k ≤ 3
    · have := hlw e; omega
    · have := o3 (by omega); omega
  · intro x hx'
    simp only [List.mem_cons, List.not_mem_nil, or_false] at hx'
    rcases hx' with rfl | rfl | rfl | rfl <;> omega
  · intro x hx'
    simp only [List.mem_cons, List.not_mem_nil, or_false] at hx'
    rcases hx' with rfl | rfl | rfl | rfl <;> omega
/-- Lists that an op has: their lengths, their kinds. -/
def Lens (on : Nat) (O : Nat → Nat → Int) (Z B : Nat → List Int) : Prop := ∀ i, i < on → O i 12 = ((Z i).length : Int) ∧ O i 13 = ((B i).length : Int) ∧ In16 (Z i) ∧ InS (B i)
theorem lens_of {w : World} {oa : Option Addr} {on oc : Nat} {O : Nat → Nat → Int} {Z B : Nat → List Int} (h : LRow w oa on oc O Z B) : Lens on O Z B := by
  intro i hi
  obtain ⟨x, -, wa, lw, cw, ba, lb, cb, e12, e13, -, hz, hb, -, -⟩ := h.at hi
  exact ⟨by rw [e12, hz.1], by rw [e13, hb.1], fun q hq => i16_of (hz.2.2.2.1 q hq), fun q hq => i32_of (hb.2.2.2.1 q hq)⟩
theorem mod_fits {O : Nat → Nat → Int} {Z B : Nat → List Int} {h w c lo hi ot t wk : Int} {on : Nat} {L : List (Int × Int × Int)} (q : gtR O h w c lo hi ot on = (0, t, L, wk)) (hL : Lens on O Z B) :
    ModF (dMod h w c lo hi ot on O Z B) ∧ OFit on O Z B ∧ In64 [lo, hi] := by
  obtain ⟨hx, rfl, q2⟩ := gtR_st q
  obtain ⟨v1, v2, v3, v4, v5⟩ := ouE_0 hx
  have v := vS_yes v1
  simp only [rgB, Bool.and_eq_true] at v2
  obtain ⟨⟨u1, u2⟩, -⟩ := v2
  have u1 := vlB_yes u1
  have u2 := vlB_yes u2
  have v0 : vS3 (h, w, c) = true := v1
  have each : ∀ i, i < on → OpF (dOp (O i) (Z i) (B i)) := fun i hi => by
    obtain ⟨wi, g1, -⟩ := stG_pre v0 on L wk q2 (i + 1) (by omega)
    obtain ⟨L0, wk0, h0, hx0, -, -⟩ := stG_step g1
    obtain ⟨i1, i2, i3, -⟩ := stG_inv v0 i _ _ h0
    obtain ⟨l1, l2, l3, l4⟩ := hL i hi
    obtain ⟨f1, f2, f3, f4, f5⟩ := op_fits hx0 i2 (by omega) i3
    rw [l1] at f2
    rw [l2] at f3
    exact ⟨rfl, f1, f2, l3, f3, l4, rfl, f4, rfl, f5⟩
  refine ⟨⟨rfl, fun x hx => ?_, rfl, fun x hx => ?_, by simp [dMod, dOps_len]; omega, fun d hd => ?_, v4, by simp only [dMod]; omega⟩, ⟨by omega, fun i hi => ?_⟩, fun x hx => ?_⟩
  · simp only [dMod, List.mem_cons, List.not_mem_nil, or_false] at hx
    rcases hx with rfl | rfl | rfl <;> omega
  · simp only [dMod, List.mem_cons, List.not_mem_nil, or_false] at hx
    rcases hx with rfl | rfl <;> omega
  · simp only [dMod, dOps, List.mem_map, List.mem_range] at hd
    obtain ⟨i, hi, rfl⟩ := hd
    exact each i hi
  · obtain ⟨-, -, f2, l3, f3, l4, -, -, -, f5⟩ := each i hi
    exact ⟨f2, f3, l3, l4, fun x hx => by have := f5 x hx; omega⟩
  · simp only [List.mem_cons, List.not_mem_nil, or_false] at hx
    rcases hx with rfl | rfl <;> omega
end Go.Proofs.Ythagdpiocmcbmaa

/- Encode of package pack: what it returns. -/
namespace Go.Proofs.Ythagdpiocmcbmaa
open Wr
open Go.ChangeShapes Go.WideShapes Go.ChangeAt Go.RowKit
set_option linter.unusedVariables false
/-! ### Faults compared -/
theorem neF (a b c d e f : Int) (v : Bool) (h : decide (a = d ∧ b = e ∧ c = f) = v) : ∀ W, (binOp .neq 31 (.agg #[.int .i64 a, .int .i64 b, .int .i64 c]) (.agg #[.int .i64 d, .int .i64 e, .int .i64 f])).run Try.prog W = .ok (.bool (!v)) W := by
  intro W; subst h; simp [go_sem]; repeat' split
  all_goals simp_all
theorem eqF (a b c d e f : Int) (v : Bool) (h : decide (a = d ∧ b = e ∧ c = f) = v) : ∀ W, (binOp .eql 31 (.agg #[.int .i64 a, .int .i64 b, .int .i64 c]) (.agg #[.int .i64 d, .int .i64 e, .int .i64 f])).run Try.prog W = .ok (.bool v) W := by
  intro W; subst h; simp [go_sem]; repeat' split
  all_goals simp_all
/-- The bytes of a constant, as a row with its mark. -/
theorem row_mark (w : World) (zs : List Int) (hb : Byt zs) (hm : zs.length ≤ maxLen) (r : Nat × Nat) : Wr.Row (w.alloc (.cells (zs.map (Value.int .u8)).toArray 5 r)) (some ⟨w.heap.size, 0, none⟩) zs.length zs.length zs := by
  refine ⟨rfl, Nat.le_refl _, hm, hb, fun h => (by cases h), fun x hx i hi => ?_⟩
  cases hx
  rw [Addr.add_lit, Nat.zero_add]
  simp only [World.cell?, heap_alloc_new]
  simp [List.getD, hi]
theorem cv1 (w : World) (C : Array Value) (n c : Nat) : (convert 28 28 (.slice (some ⟨w.heap.size, 0, none⟩) n c)).run Try.prog (w.alloc (.cells C 5)) = .ok (.slice (some ⟨w.heap.size, 0, none⟩) n c) (w.alloc (.cells C 5 (C.size, C.size + 1))) :=
  Lib.run_convert_bytes_const (P := Try.prog) w 28 5 C n c Try.underlying28 Try.underlying5
theorem cv2 (w : World) (o : Obj) (C : Array Value) (n c : Nat) : (convert 28 28 (.slice (some ⟨w.heap.size + 1, 0, none⟩) n c)).run Try.prog ((w.alloc o).alloc (.cells C 5)) = .ok (.slice (some ⟨w.heap.size + 1, 0, none⟩) n c) ((w.alloc o).alloc (.cells C 5 (C.size, C.size + 1))) := by
  have := cv1 (w.alloc o) C n c
  simpa using this
theorem head_byt : Byt head4 := by intro z hz; simp only [head4, List.mem_cons, List.not_mem_nil, or_false] at hz; omega
theorem own_set3 {w : World} {base N : Nat} {v a b c : Value} {zs : List Int} {d : Array Value} {T : TypeId} (h : Wr.Own w base v zs) (hN : w.heap[N]? = some (.cells d T (0, 0))) (hT : 5 ≠ T) : Wr.Own (((w.setCell ⟨N, 0, none⟩ a).setCell ⟨N, 1, none⟩ b).setCell ⟨N, 2, none⟩ c) base v zs :=
  own_oth h fun g cs hg => by
    have hne := ne_ty hN hg hT
    rw [Below.heap_setCell _ _ _ _ hne, Below.heap_setCell _ _ _ _ hne, Below.heap_setCell _ _ _ _ hne]
    exact hg
set_option maxHeartbeats 2000000 in
theorem encode_bad (h w c lo hi ot : Int) (oa : Option Addr) (on oc : Nat) (O : Nat → Nat → Int) (Z B : Nat → List Int) (W : World) (hL : LRow W oa on oc O Z B) (x t : Int) (L : List (Int × Int × Int)) (wk : Int) (hg : gtR O h w c lo hi ot on = (x, t, L, wk)) (hx : x ≠ 0) :
    Calls Try.prog 9 #[.agg #[.int .i64 h, .int .i64 w, .int .i64 c, .int .i64 lo, .int .i64 hi, .slice oa on oc, .int .i64 ot]] W fun e w' => e = .returned (.tuple #[.slice none 0 0, .agg #[.int .i64 x, .int .i64 t, .int .i64 0]]) ∧ Below W.heap.size W w' := by
  have hC : Hid (∀ W, MRow W oa on oc O → _) := fun W hM => check_any h w c lo hi ot oa on oc O W hM
  rw [hg] at hC
  simp only at hC
  have hM : Hid (MRow W oa on oc O) := hL.m
  have n3 := neF x t 0 0 0 0 false (by simp [hx])
  clear hL hg hx
  go_enter Try.func9, Try.ntmps9
  go_wp2_with fail
  refine Calls.mono (hC.out _ (hM.out.below (St.start W).new.new.below)) ?_
  rintro e w1 ⟨rfl, hb⟩
  have s1 := ((St.start W).new.new).call hb
  simp only [World.size_alloc] at s1
  obtain ⟨c1, f1, z1, c2, f2, z2, -⟩ := s1.rules
  have hs1 : Hid (Below W.heap.size W w1) := s1.below
  clear hb hC s1
  go_wp2
  go_region_law (fail)
  all_goals
    go_wp2
    exact bodyPost_ret (v := .tuple #[.slice none 0 0, .agg #[.int .i64 x, .int .i64 t, .int .i64 0]]) (by simp [results, Try.results9, go_sem, *]) rfl ⟨rfl, (bt (set3b hs1.out (by omega)) (bal _ _)).drew⟩
set_option maxHeartbeats 2000000 in
set_option maxRecDepth 100000 in
theorem encode_ok (h w c lo hi ot : Int) (oa : Option Addr) (on oc : Nat) (O : Nat → Nat → Int) (Z B : Nat → List Int) (W : World) (hL : LRow W oa on oc O Z B) (t : Int) (L : List (Int × Int × Int)) (wk : Int) (hg : gtR O h w c lo hi ot on = (0, t, L, wk)) :
    Calls Try.prog 9 #[.agg #[.int .i64 h, .int .i64 w, .int .i64 c, .int .i64 lo, .int .i64 hi, .slice oa on oc, .int .i64 ot]] W fun e w' => ∃ v, e = .returned (.tuple #[v, .agg #[.int .i64 0, .int .i64 0, .int .i64 0]]) ∧ Wr.Own w' W.heap.size v (eAll (dMod h w c lo hi ot on O Z B)) ∧ v ≠ .slice none 0 0 ∧ Below W.heap.size W w' := by
  have hC : Hid (∀ W, MRow W oa on oc O → _) := fun W hM => check_any h w c lo hi ot oa on oc O W hM
  obtain ⟨-, rfl, -⟩ := gtR_st hg
  obtain ⟨-, hF, h64⟩ := mod_fits hg (lens_of hL)
  rw [hg] at hC
  simp only at hC
  have HL : Hid (LRow W oa on oc O Z B) := hL
  have HF : Hid (OFit on O Z B ∧ In64 [lo, hi]) := ⟨hF, h64⟩
  have n3 := neF 0 0 0 0 0 0 true (by simp)
  have cv := cv2
  clear hL hg hF h64
  go_enter Try.func9, Try.ntmps9
  go_wp2_with fail
  refine Calls.mono (hC.out _ (HL.out.m.below (St.start W).new.new.below)) ?_
  rintro e w1 ⟨rfl, hb⟩
  have s1 := ((St.start W).new (c := #[.int .i64 h, .int .i64 w, .int .i64 c, .int .i64 lo, .int .i64 hi, .slice oa on oc, .int .i64 ot]) (t := 26)).new (c := #[.int .i64 0, .int .i64 0, .int .i64 0]) (t := 31)
  have s2 := s1.call hb
  simp only [World.size_alloc] at s2
  obtain ⟨c1, f1, z1, c2, f2, z2, -⟩ := s2.rules
  have s3 := ((s2.new (c := #[.int .i64 0, .int .i64 0, .int .i64 0]) (t := 31)).skip (.cells #[.int .u8 83, .int .u8 87, .int .u8 77, .int .u8 49] 5 (4, 5))).new (c := #[.slice (some ⟨w1.heap.size + 1, 0, none⟩) 4 4]) (t := 54)
  simp only [World.size_alloc] at s3
  have S3 : Hid (St W _ _) := s3
  have hR := ((row_mark (w1.alloc (.cells #[.int .i64 0, .int .i64 0, .int .i64 0] 31)) head4 head_byt (by unfold maxLen; simp [head4]) (4, 5)).below (bal _ (.cells #[.slice (some ⟨w1.heap.size + 1, 0, none⟩) 4 4] 54)))
  simp only [World.size_alloc] at hR
  have hT : Hid (Wt _ (w1.heap.size + 1 + 1) W.heap.size head4) := ⟨_, s3.h1, .inr ⟨_, rfl, hR⟩⟩
  clear hb hC s1 s2 s3 hR
  have HM := S3.out.h4
  go_wp2_with (refine wpList_load_row rfl 26 (.tmp 1) rfl W.heap.size rfl 26 _ (0, 0) _ HM Try.underlying26 rfl (by kernel_rfl) ?_)
  refine (wmodel_any (w1.heap.size + 1 + 1) head4 h w c lo hi ot oa on oc O Z B W _ hT.out S3.out.below (by omega) HL.out HF.out.1 HF.out.2 (by simp [head4])).mono ?_
  rintro e w3 ⟨rfl, ⟨v, hv, own, nn⟩, K3⟩
  have hB : Hid (w3.heap[W.heap.size + 1]? = some (.cells #[.int .i64 0, .int .i64 0, .int .i64 0] 31 (0, 0))) := K3.2 _ _ _ (by omega) (by decide) S3.out.h3
  have hbel : Hid (Below W.heap.size W w3) := S3.out.below.trans K3.1
  obtain ⟨va, vn, vc, rfl⟩ := own_ltr own nn
  have hown : Hid (Wr.Own w3 W.heap.size (.slice (some va) vn vc) (eAll (dMod h w c lo hi ot on O Z B))) := own
  clear K3 own c1 f1 z1 c2 f2 hT S3
  obtain ⟨c1, f1, z1⟩ := cells_at hB.out
  obtain ⟨c2, f2, z2⟩ := cells_at hv
  clear hv
  go_wp2
  exact bodyPost_ret (v := .tuple #[.slice (some va) vn vc, .agg #[.int .i64 0, .int .i64 0, .int .i64 0]]) (by simp [results, Try.results9, go_sem, *]) rfl ⟨_, rfl, own_set3 hown.out hB.out (by decide), by simp, set3b hbel.out (by omega)⟩
end Go.Proofs.Ythagdpiocmcbmaa

/- bytes.Equal, HasPrefix, CutPrefix, at a prefix of four bytes. -/
namespace Go.Proofs.Ythagdpiocmcbmaa
open Wr
open Go.ChangeShapes Go.WideShapes Go.ChangeAt Go.RowKit
set_option linter.unusedVariables false
theorem row_conv {w : World} {a : Option Addr} {n c : Nat} {xs : List Int} (h : Wr.Row w a n c xs) (hn : 0 < n) : (convert 28 9 (.slice a n c)).run Try.prog w = .ok (.string (strOfNums xs)) w := by
  obtain ⟨h1, h2, h3, h4, h5, h6⟩ := h
  cases a with
  | none => have := h5 rfl; omega
  | some x =>
    have hc := h6 x rfl
    obtain ⟨b, o, s⟩ := x
    obtain rfl : s = none := by simpa [Addr.add] using World.cell?_spot (hc 0 hn)
    exact run_convert_bytes_arg (P := Try.prog) w 28 5 Try.underlying28 Try.underlying5 b o n c xs h1 (fun i hi => by have := hc i hi; rw [Addr.add_lit] at this; exact this) 9 Try.underlying9
theorem u8_inj {x y : Int} (hx : 0 ≤ x ∧ x < 256) (hy : 0 ≤ y ∧ y < 256) (h : UInt8.ofNat x.toNat = UInt8.ofNat y.toNat) : x = y := by
  have := congrArg UInt8.toNat h
  simp only [UInt8.toNat_ofNat'] at this
  omega
theorem map_u8 : ∀ {xs ys : List Int}, Byt xs → Byt ys → Lib.bytesOf xs = Lib.bytesOf ys → xs = ys
  | [], [], _, _, _ => rfl
  | [], y :: ys, _, _, h => by simp [Lib.bytesOf] at h
  | x :: xs, [], _, _, h => by simp [Lib.bytesOf] at h
  | x :: xs, y :: ys, hx, hy, h => by
    simp only [Lib.bytesOf, List.map_cons, List.cons.injEq] at h
    rw [u8_inj (hx x List.mem_cons_self) (hy y List.mem_cons_self) h.1, map_u8 (fun z hz => hx z (List.mem_cons_of_mem _ hz)) (fun z hz => hy z (List.mem_cons_of_mem _ hz)) h.2]
theorem str_eq {xs ys : List Int} (hx : Byt xs) (hy : Byt ys) : ((strOfNums xs).toList == (strOfNums ys).toList) = decide (xs = ys) := by
  rw [Lib.strOfNums_toList, Lib.strOfNums_toList]
  by_cases h : xs = ys
  · subst h; simp
  · rw [decide_eq_false h]
    have : ¬ Lib.bytesOf xs = Lib.bytesOf ys := fun e => h (map_u8 hx hy e)
    simpa using this
theorem equal_any (a b : Option Addr) (n c d : Nat) (xs ys : List Int) (w : World) (hx : Wr.Row w a n c xs) (hy : Wr.Row w b n d ys) (hn : 0 < n) :
    Calls Try.prog 72 #[.slice a n c, .slice b n d] w fun e w' => e = .returned (.bool (decide (xs = ys))) ∧ w' = w := by
  have e1 := row_conv hx hn
  have e2 := row_conv hy hn
  have hs : Hid _ := str_eq hx.2.2.2.1 hy.2.2.2.1
  clear hx hy
  go_enter Try.func72, Try.ntmps72
  go_wp2
  go_ret
  exact ⟨by rw [hs.out]; rfl, rfl⟩
theorem row_front {w : World} {a : Option Addr} {n c m : Nat} {xs : List Int} (h : Wr.Row w a n c xs) (hm : m ≤ n) : Wr.Row w a m c (xs.take m) := by
  obtain ⟨h1, h2, h3, h4, h5, h6⟩ := h
  refine ⟨by rw [List.length_take]; omega, by omega, h3, h4.take m, h5, fun x hx i hi => ?_⟩
  rw [h6 x hx i (by omega)]
  simp [List.getD, hi]
set_option maxHeartbeats 1000000 in
theorem hasp_any (a b : Option Addr) (n c d : Nat) (xs ys : List Int) (w : World) (hx : Wr.Row w a n c xs) (hy : Wr.Row w b 4 d ys) (hn : 4 ≤ n) :
    Calls Try.prog 49 #[.slice a n c, .slice b 4 d] w fun e w' => e = .returned (.bool (decide (xs.take 4 = ys))) ∧ w' = w := by
  have H : Hid _ := equal_any a b 4 c d (xs.take 4) ys w (row_front hx hn) hy (by omega)
  have hc := hx.2.1
  have hm := hx.2.2.1
  unfold maxLen at hm
  clear hx hy
  go_enter Try.func49, Try.ntmps49
  go_wp2_with fail
  refine Calls.mono H.out ?_
  rintro e w1 ⟨rfl, rfl⟩
  go_wp2
  go_ret
  exact ⟨rfl, rfl⟩
set_option maxHeartbeats 1000000 in
theorem cutp_any (a b : Option Addr) (n c d : Nat) (xs ys : List Int) (w : World) (hx : Wr.Row w a n c xs) (hy : Wr.Row w b 4 d ys) (hn : 4 ≤ n) :
    Calls Try.prog 31 #[.slice a n c, .slice b 4 d] w fun e w' => ((xs.take 4 ≠ ys ∧ e = .returned (.tuple #[.slice a n c, .bool false])) ∨ xs.take 4 = ys ∧ ∃ a', e = .returned (.tuple #[.slice a' (n - 4) (c - 4), .bool true]) ∧ Wr.Row w a' (n - 4) (c - 4) (xs.drop 4)) ∧ w' = w := by
  have H : Hid _ := hasp_any a b n c d xs ys w hx hy hn
  have HX : Hid (Wr.Row w a n c xs) := hx
  have hc := hx.2.1
  have hm := hx.2.2.1
  unfold maxLen at hm
  obtain ⟨q, hq⟩ : ∃ q, decide (xs.take 4 = ys) = q := ⟨_, rfl⟩
  rw [hq] at H
  have hq' : Hid (decide (xs.take 4 = ys) = q) := hq
  clear hx hy hq
  cases q with
  | false =>
    go_enter Try.func31, Try.ntmps31
    go_wp2_with fail
    refine Calls.mono H.out ?_
    rintro e w1 ⟨rfl, rfl⟩
    go_wp2
    go_ret2
    exact ⟨.inl ⟨of_decide_eq_false hq'.out, rfl⟩, rfl⟩
  | true =>
    go_enter Try.func31, Try.ntmps31
    go_wp2_with fail
    refine Calls.mono H.out ?_
    rintro e w1 ⟨rfl, rfl⟩
    go_wp2
    all_goals go_ret2
    · obtain rfl : c = 4 := by assumption
      exact ⟨.inr ⟨of_decide_eq_true hq'.out, a, rfl, HX.out.drop hn (fun x _ hx => absurd hx (by omega)) id⟩, rfl⟩
    · exact ⟨.inr ⟨of_decide_eq_true hq'.out, a.map (·.add 4), rfl, HX.out.drop hn (fun x hx _ => by rw [hx]; rfl) (fun hx => by rw [hx]; rfl)⟩, rfl⟩
/-! ### readAll -/
theorem cv3 (w : World) (o o' : Obj) (C : Array Value) (n c : Nat) : (convert 28 28 (.slice (some ⟨w.heap.size + 1 + 1, 0, none⟩) n c)).run Try.prog (((w.alloc o).alloc o').alloc (.cells C 5)) = .ok (.slice (some ⟨w.heap.size + 1 + 1, 0, none⟩) n c) (((w.alloc o).alloc o').alloc (.cells C 5 (C.size, C.size + 1))) := by
  have := cv1 ((w.alloc o).alloc o') C n c
  simpa using this
theorem pall_mod {zs : List Int} (h4 : ¬ zs.length < 4) (hh : zs.take 4 = head4) : pAll zs = match pMod (zs.drop 4) with
    | .inl e => .inl e
    | .inr (m, r) => if r = [] then .inr m else .inl (43, 0) := by
  unfold pAll; rw [if_neg h4, if_neg (by simp [hh])]
  rfl
theorem giveup_gen (Rb : Nat) (q : Value) (t e : Int) (w : World) (h : w.heap[Rb]? = some (.cells #[q, .int .i64 t] 75 (0, 0))) :
    Calls Try.prog 30 #[.pointer (some ⟨Rb, 0, none⟩), .int .i64 e] w fun r w' => r = fpan e t ∧ w' = w := by
  obtain ⟨c1, f1, z1⟩ := cells_at h
  clear h
  go_enter Try.func30, Try.ntmps30
  go_wp2
  exact ⟨rfl, rfl, rfl⟩
set_option maxHeartbeats 4000000 in
set_option maxRecDepth 100000 in
theorem readall_any (a : Option Addr) (len cap : Nat) (zs : List Int) (w : World) (hr : Wr.Row w a len cap zs) (hs : len ≤ 140737488355328) :
    Calls Try.prog 22 #[.slice a len cap] w fun r w' => (∃ x, pAll zs = .inl x ∧ r = fpan x.1 x.2 ∧ Below w.heap.size w w') ∨
      ∃ (h0 w0 c0 lo hi ot : Int) (oa : Option Addr) (n oc : Nat) (O : Nat → Nat → Int) (Z Bs : Nat → List Int), pAll zs = .inr (dMod h0 w0 c0 lo hi ot n O Z Bs) ∧ n ≤ 64 ∧ r = .returned (.agg #[.int .i64 h0, .int .i64 w0, .int .i64 c0, .int .i64 lo, .int .i64 hi, .slice oa n oc, .int .i64 ot]) ∧
        CRow w' w.heap.size (.slice oa n oc) n O Z Bs ∧ Below w.heap.size w w' := by
  have hl := hr.1
  have s0 := ((St.start w).new (c := #[.int .i64 0, .int .i64 0, .int .i64 0, .int .i64 0, .int .i64 0, .slice none 0 0, .int .i64 0]) (t := 26)).new (c := #[.pointer none, .int .i64 0]) (t := 75)
  simp only [World.size_alloc] at s0
  have S0 : Hid (St w _ _) := s0
  have HR : Hid (Wr.Row w a len cap zs) := hr
  by_cases h4 : len < 4
  · have hP : Hid (pAll zs = .inl (40, 0)) := by unfold Hid pAll; rw [if_pos (by omega)]
    clear hr hl s0
    go_enter Try.func22, Try.ntmps22
    go_wp2_with fail
    refine (giveup_gen (w.heap.size + 1) _ 0 40 _ S0.out.h1).mono ?_
    rintro r w1 ⟨rfl, rfl⟩
    exact ⟨rfl, .inl ⟨_, hP.out, rfl, S0.out.below⟩⟩
  have cv := cv3
  have hM := row_mark ((w.alloc (.cells #[.int .i64 0, .int .i64 0, .int .i64 0, .int .i64 0, .int .i64 0, .slice none 0 0, .int .i64 0] 26)).alloc (.cells #[.pointer none, .int .i64 0] 75)) head4 head_byt (by unfold maxLen; simp [head4]) (4, 5)
  simp only [World.size_alloc] at hM
  have hM' : Hid (Wr.Row _ _ _ _ head4) := hM
  have B1 : Hid (Below w.heap.size w _) := S0.out.below.trans ((bal _ (.cells #[.int .u8 83, .int .u8 87, .int .u8 77, .int .u8 49] 5 (4, 5))).mono (by simp; omega))
  have R1 : Hid (Wr.Row _ a len cap zs) := HR.out.below B1.out
  have C1 : Hid (St w _ _) := S0.out.skip (.cells #[.int .u8 83, .int .u8 87, .int .u8 77, .int .u8 49] 5 (4, 5))
  have Z4 : Hid (¬ zs.length < 4) := by unfold Hid; omega
  clear hr hl s0 hM
  go_enter Try.func22, Try.ntmps22
  go_wp2_with fail
  refine (cutp_any a _ len cap 4 zs head4 _ R1.out hM'.out (by omega)).mono ?_
  rintro r w1 ⟨h, rfl⟩
  rcases h with ⟨hne, rfl⟩ | ⟨heq, a', rfl, R2⟩
  · have hP : Hid (pAll zs = .inl (41, 0)) := by unfold Hid pAll; rw [if_neg Z4.out, if_pos hne]
    clear hne cv
    go_wp2_with fail
    refine (giveup_gen (w.heap.size + 1) _ 0 41 _ C1.out.h1).mono ?_
    rintro r w1 ⟨rfl, rfl⟩
    exact ⟨rfl, .inl ⟨_, hP.out, rfl, B1.out⟩⟩
  have hP : Hid (pAll zs = _) := pall_mod Z4.out heq
  have R2' : Hid (Wr.Row _ a' (len - 4) (cap - 4) (zs.drop 4)) := R2
  clear heq R2 cv
  go_wp2_with fail
  refine (new_is a' _ _ _ _ R2'.out (by omega)).mono ?_
  rintro r w2 ⟨B, rfl, rd2, hB, b2⟩
  simp only [World.size_alloc] at hB
  have s2 := C1.out.call b2
  have hprc := s2.h1
  have S2 : Hid (St w w2 _) := s2
  obtain ⟨c1, f1, y1, c2, f2, y2, -⟩ := s2.rules
  have hnB : NoB w2 (w.heap.size + 1) := ⟨_, _, hprc, fun i v e => by
    match i, e with
    | 0, e => simp at e
    | 1, e => simp at e
    | n + 2, e => simp at e⟩
  have P3 : Hid (PR (w2.setCell ⟨w.heap.size + 1, 0, none⟩ (.pointer (some ⟨B, 0, none⟩))) (w.heap.size + 1) B (zs.drop 4) 0) := ⟨heap_setCell_at hprc, rd2.kept Kept.set (by simp; omega) (by simpa using hnB), by omega⟩
  have B3 : Hid (Below w.heap.size w (w2.setCell ⟨w.heap.size + 1, 0, none⟩ (.pointer (some ⟨B, 0, none⟩)))) := s2.below.setCell (p := ⟨w.heap.size + 1, 0, none⟩) (by simp) _
  have N3 : Hid ((w2.setCell ⟨w.heap.size + 1, 0, none⟩ (.pointer (some ⟨B, 0, none⟩))).heap[w.heap.size]? = some (.cells #[.int .i64 0, .int .i64 0, .int .i64 0, .int .i64 0, .int .i64 0, .slice none 0 0, .int .i64 0] 26 (0, 0))) := by
    unfold Hid; rw [Below.heap_setCell _ _ _ _ (show w.heap.size ≠ w.heap.size + 1 by omega)]; exact s2.h2
  clear rd2 b2 s2 hprc hnB C1 R2' hM' R1 S0
  go_wp2_with fail
  refine Calls.mono (rmodel_any _ B (zs.drop 4) _ P3.out) ?_
  rintro r w4 (⟨x, hx, rfl, k4⟩ | ⟨h0, w0, c0, lo, hi, ot, oa, n, oc, O, Z, Bs, rs, hx, hn, rfl, cr, p4, k4⟩)
  · exact ⟨rfl, .inl ⟨x, by rw [hP.out, hx], rfl, k4.below B3.out (by simp; omega) (by simp; omega)⟩⟩
  have hsz := k4.2.2.2.1
  simp only [World.size_setCell] at hsz cr
  have hx' : Hid (pMod (zs.drop 4) = .inr (dMod h0 w0 c0 lo hi ot n O Z Bs, rs)) := hx
  have N4 : Hid (w4.heap[w.heap.size]? = some (.cells #[.int .i64 0, .int .i64 0, .int .i64 0, .int .i64 0, .int .i64 0, .slice none 0 0, .int .i64 0] 26 (0, 0))) := (k4.2.2.2.2 _ (lt_of_heap N3.out) (by simp; omega)).trans N3.out
  have B4 : Hid (Below w.heap.size w w4) := k4.below B3.out (by simp; omega) (by simp; omega)
  have cr4 : Hid (CRow w4 (w.heap.size + 1 + 1) (.slice oa n oc) n O Z Bs) := cr.base (by omega)
  have P4 : Hid (PR w4 (w.heap.size + 1) B rs 0) := p4
  have y4 : w.heap.size + 1 < w4.heap.size := p4.lt
  clear c1 f1 y1 c2 f2 y2
  obtain ⟨c1, f1, y1⟩ := cells_at p4.1
  have HE : Hid _ := rEnd_is B rs 0 _ (p4.al (.cells #[.int .i64 h0, .int .i64 w0, .int .i64 c0, .int .i64 lo, .int .i64 hi, .slice oa n oc, .int .i64 ot] 26)).2.1
  clear hx cr p4 k4 N3 B3 P3 S2
  go_wp2_with fail
  refine Calls.mono HE.out ?_
  rintro r w5 ⟨rfl, hw5⟩
  obtain rfl := hw5.symm
  by_cases hrs : rs = []
  · have hE0 : endR rs 0 = 0 := by unfold endR; rw [if_pos rfl, if_pos (by simp [hrs])]
    have hF : Hid (pAll zs = .inr (dMod h0 w0 c0 lo hi ot n O Z Bs)) := by unfold Hid; rw [hP.out, hx'.out]; simp [hrs]
    rw [hE0]
    have NB := ((bal w4 (.cells #[.int .i64 h0, .int .i64 w0, .int .i64 c0, .int .i64 lo, .int .i64 hi, .slice oa n oc, .int .i64 ot] 26)).block _ (show w.heap.size < w4.heap.size by omega)).trans N4.out
    have NM := heap_alloc_new w4 (.cells #[.int .i64 h0, .int .i64 w0, .int .i64 c0, .int .i64 lo, .int .i64 hi, .slice oa n oc, .int .i64 ot] 26)
    have qc : Hid (CRow ((w4.alloc (.cells #[.int .i64 h0, .int .i64 w0, .int .i64 c0, .int .i64 lo, .int .i64 hi, .slice oa n oc, .int .i64 ot] 26)).setRow w.heap.size #[.int .i64 h0, .int .i64 w0, .int .i64 c0, .int .i64 lo, .int .i64 hi, .slice oa n oc, .int .i64 ot]) (w.heap.size + 1 + 1) (.slice oa n oc) n O Z Bs) := (cr4.out.below (bal _ _)).row (by omega)
    have qh : Hid (((w4.alloc (.cells #[.int .i64 h0, .int .i64 w0, .int .i64 c0, .int .i64 lo, .int .i64 hi, .slice oa n oc, .int .i64 ot] 26)).setRow w.heap.size #[.int .i64 h0, .int .i64 w0, .int .i64 c0, .int .i64 lo, .int .i64 hi, .slice oa n oc, .int .i64 ot]).heap[w.heap.size]? = some (.cells #[.int .i64 h0, .int .i64 w0, .int .i64 c0, .int .i64 lo, .int .i64 hi, .slice oa n oc, .int .i64 ot] 26 (0, 0))) := setRow_heap _ _ _ _ _ _ NB
    have qb : Hid (Below w.heap.size w ((w4.alloc (.cells #[.int .i64 h0, .int .i64 w0, .int .i64 c0, .int .i64 lo, .int .i64 hi, .slice oa n oc, .int .i64 ot] 26)).setRow w.heap.size #[.int .i64 h0, .int .i64 w0, .int .i64 c0, .int .i64 lo, .int .i64 hi, .slice oa n oc, .int .i64 ot])) := by
      have b := bt B4.out (bal w4 (.cells #[.int .i64 h0, .int .i64 w0, .int .i64 c0, .int .i64 lo, .int .i64 hi, .slice oa n oc, .int .i64 ot] 26))
      exact ⟨b.os, b.tape, b.output, by rw [size_setRow]; exact b.size, fun i hi => (setRow_other _ _ i _ (by omega)).trans (b.block i hi)⟩
    clear hE0 hrs HE
    go_wp2_with fail
    refine (ask_ok _ _).mono ?_
    rintro r w6 ⟨rfl, hw6⟩
    obtain rfl := hw6.symm
    go_wp2_with (first
      | (refine wpList_load_row rfl 26 (.tmp 6) rfl w4.heap.size rfl 26 _ (0, 0) _ NM Try.underlying26 rfl (by kernel_rfl) ?_)
      | (refine wpList_store_row rfl 26 (.tmp 2) (.tmp 29) rfl w.heap.size #[.int .i64 h0, .int .i64 w0, .int .i64 c0, .int .i64 lo, .int .i64 hi, .slice oa n oc, .int .i64 ot] rfl rfl 26 _ NB (by kernel_rfl) rfl (by simp [Value.oneCell']) ?_))
    exact bodyPost_ret (results_cell_row Try.results22 _ _ w.heap.size 26 _ (0, 0) _ rfl qh.out Try.underlying26 rfl (by kernel_rfl)) rfl (.inr ⟨h0, w0, c0, lo, hi, ot, oa, n, oc, O, Z, Bs, hF.out, hn, rfl, qc.out.base (by omega), qb.out⟩)
  · have hE0 : endR rs 0 = 43 := by unfold endR; rw [if_pos rfl, if_neg (by simpa using hrs)]
    have hF : Hid (pAll zs = .inl (43, 0)) := by unfold Hid; rw [hP.out, hx'.out]; simp [hrs]
    rw [hE0]
    have hc : Hid (PRc (w4.alloc (.cells #[.int .i64 h0, .int .i64 w0, .int .i64 c0, .int .i64 lo, .int .i64 hi, .slice oa n oc, .int .i64 ot] 26)) (w.heap.size + 1) B 0) := (P4.out.al _).1
    clear hE0 hrs HE
    go_wp2_with fail
    refine (ask_bad _ B 0 43 _ hc.out (by decide)).mono ?_
    rintro r w6 ⟨rfl, hw6⟩
    obtain rfl := hw6.symm
    exact ⟨rfl, .inl ⟨_, hF.out, rfl, bt B4.out (bal _ _)⟩⟩
end Go.Proofs.Ythagdpiocmcbmaa

/- Decode of package pack: what it returns. -/
namespace Go.Proofs.Ythagdpiocmcbmaa
open Wr
open Go.ChangeShapes Go.WideShapes Go.ChangeAt Go.RowKit
set_option linter.unusedVariables false
theorem catch_idle (p q : Addr) (w : World) :
    CallsD Try.prog 21 #[.pointer (some p), .pointer (some q)] .returning w fun e u' w' => e = .returned (.tuple #[]) ∧ u' = .returning ∧ w' = w := by
  refine callsD_of_wpS Try.func21 rfl fun c₀ cs hu => ?_
  apply wpS_seq
  apply wpS_region
  simp [wpOpsS, go_sem, recoverD, hu, Try.ntmps21, Exit.thenS]
  refine wpS_of_wp ?_
  have ht : (#[Value.pointer (some p), Value.pointer (some q)] ++ ((Array.replicate 7 undef).setIfInBounds 1 Value.nilIface).setIfInBounds 0 Value.nilIface) = #[.pointer (some p), .pointer (some q), .nilIface, .nilIface, undef, undef, undef, undef, undef] := rfl
  rw [ht]
  go_wp2
  cases c₀
  simp_all [bodyPostS, results, Try.results21]
/-- What was given up with is a fault. -/
theorem as_fault (v : Value) : ∀ W, (Instr.typeAssert (.iface 31 v) 20 31 false).run Try.prog W = .ok v W := by
  intro W
  simp [Instr.typeAssert, go_sem]
theorem drew_at {w : World} {N : Nat} {o : Obj} (h : w.heap[N]? = some o) : w.drew.heap[N]? = some o := h
theorem set73 {w : World} {N M base : Nat} {S T : TypeId} {o0 o1 o2 o3 o4 o5 o6 v0 v1 v2 v3 v4 v5 v6 p0 p1 p2 a b c : Value} (hN : w.heap[N]? = some (.cells #[o0, o1, o2, o3, o4, o5, o6] S (0, 0))) (hM : w.heap[M]? = some (.cells #[p0, p1, p2] T (0, 0))) (hne : N ≠ M) (h1 : base ≤ N) (h2 : base ≤ M) {w' : World}
    (hw : w' = (((((((((w.setCell ⟨N, 0, none⟩ v0).setCell ⟨N, 1, none⟩ v1).setCell ⟨N, 2, none⟩ v2).setCell ⟨N, 3, none⟩ v3).setCell ⟨N, 4, none⟩ v4).setCell ⟨N, 5, none⟩ v5).setCell ⟨N, 6, none⟩ v6).setCell ⟨M, 0, none⟩ a).setCell ⟨M, 1, none⟩ b).setCell ⟨M, 2, none⟩ c) :
    w'.heap[N]? = some (.cells #[v0, v1, v2, v3, v4, v5, v6] S (0, 0)) ∧ w'.heap[M]? = some (.cells #[a, b, c] T (0, 0)) ∧ Below base w w' ∧ ∀ k, k ≠ N → k ≠ M → w'.heap[k]? = w.heap[k]? := by
  subst hw
  have n1 : (w.setCell ⟨N, 0, none⟩ v0).heap[N]? = some (.cells #[v0, o1, o2, o3, o4, o5, o6] S (0, 0)) := heap_setCell_at hN
  have n2 : ((w.setCell ⟨N, 0, none⟩ v0).setCell ⟨N, 1, none⟩ v1).heap[N]? = some (.cells #[v0, v1, o2, o3, o4, o5, o6] S (0, 0)) := heap_setCell_at n1
  have n3 : (((w.setCell ⟨N, 0, none⟩ v0).setCell ⟨N, 1, none⟩ v1).setCell ⟨N, 2, none⟩ v2).heap[N]? = some (.cells #[v0, v1, v2, o3, o4, o5, o6] S (0, 0)) := heap_setCell_at n2
  have n4 : ((((w.setCell ⟨N, 0, none⟩ v0).setCell ⟨N, 1, none⟩ v1).setCell ⟨N, 2, none⟩ v2).setCell ⟨N, 3, none⟩ v3).heap[N]? = some (.cells #[v0, v1, v2, v3, o4, o5, o6] S (0, 0)) := heap_setCell_at n3
  have n5 : (((((w.setCell ⟨N, 0, none⟩ v0).setCell ⟨N, 1, none⟩ v1).setCell ⟨N, 2, none⟩ v2).setCell ⟨N, 3, none⟩ v3).setCell ⟨N, 4, none⟩ v4).heap[N]? = some (.cells #[v0, v1, v2, v3, v4, o5, o6] S (0, 0)) := heap_setCell_at n4
  have n6 : ((((((w.setCell ⟨N, 0, none⟩ v0).setCell ⟨N, 1, none⟩ v1).setCell ⟨N, 2, none⟩ v2).setCell ⟨N, 3, none⟩ v3).setCell ⟨N, 4, none⟩ v4).setCell ⟨N, 5, none⟩ v5).heap[N]? = some (.cells #[v0, v1, v2, v3, v4, v5, o6] S (0, 0)) := heap_setCell_at n5
  have n7 : (((((((w.setCell ⟨N, 0, none⟩ v0).setCell ⟨N, 1, none⟩ v1).setCell ⟨N, 2, none⟩ v2).setCell ⟨N, 3, none⟩ v3).setCell ⟨N, 4, none⟩ v4).setCell ⟨N, 5, none⟩ v5).setCell ⟨N, 6, none⟩ v6).heap[N]? = some (.cells #[v0, v1, v2, v3, v4, v5, v6] S (0, 0)) := heap_setCell_at n6
  have m1 : (((((((w.setCell ⟨N, 0, none⟩ v0).setCell ⟨N, 1, none⟩ v1).setCell ⟨N, 2, none⟩ v2).setCell ⟨N, 3, none⟩ v3).setCell ⟨N, 4, none⟩ v4).setCell ⟨N, 5, none⟩ v5).setCell ⟨N, 6, none⟩ v6).heap[M]? = some (.cells #[p0, p1, p2] T (0, 0)) := by
    rw [Below.heap_setCell _ _ _ _ hne.symm, Below.heap_setCell _ _ _ _ hne.symm, Below.heap_setCell _ _ _ _ hne.symm, Below.heap_setCell _ _ _ _ hne.symm, Below.heap_setCell _ _ _ _ hne.symm, Below.heap_setCell _ _ _ _ hne.symm, Below.heap_setCell _ _ _ _ hne.symm]
    exact hM
  have m2 : ((((((((w.setCell ⟨N, 0, none⟩ v0).setCell ⟨N, 1, none⟩ v1).setCell ⟨N, 2, none⟩ v2).setCell ⟨N, 3, none⟩ v3).setCell ⟨N, 4, none⟩ v4).setCell ⟨N, 5, none⟩ v5).setCell ⟨N, 6, none⟩ v6).setCell ⟨M, 0, none⟩ a).heap[M]? = some (.cells #[a, p1, p2] T (0, 0)) := heap_setCell_at m1
  have m3 : (((((((((w.setCell ⟨N, 0, none⟩ v0).setCell ⟨N, 1, none⟩ v1).setCell ⟨N, 2, none⟩ v2).setCell ⟨N, 3, none⟩ v3).setCell ⟨N, 4, none⟩ v4).setCell ⟨N, 5, none⟩ v5).setCell ⟨N, 6, none⟩ v6).setCell ⟨M, 0, none⟩ a).setCell ⟨M, 1, none⟩ b).heap[M]? = some (.cells #[a, b, p2] T (0, 0)) := heap_setCell_at m2
  have m4 : ((((((((((w.setCell ⟨N, 0, none⟩ v0).setCell ⟨N, 1, none⟩ v1).setCell ⟨N, 2, none⟩ v2).setCell ⟨N, 3, none⟩ v3).setCell ⟨N, 4, none⟩ v4).setCell ⟨N, 5, none⟩ v5).setCell ⟨N, 6, none⟩ v6).setCell ⟨M, 0, none⟩ a).setCell ⟨M, 1, none⟩ b).setCell ⟨M, 2, none⟩ c).heap[M]? = some (.cells #[a, b, c] T (0, 0)) := heap_setCell_at m3
  refine ⟨?_, m4, ?_, fun k k1 k2 => ?_⟩
  · rw [Below.heap_setCell _ _ _ _ hne, Below.heap_setCell _ _ _ _ hne, Below.heap_setCell _ _ _ _ hne]
    exact n7
  · exact set3b ((((((((Below.refl base w).setCell (p := ⟨N, 0, none⟩) h1 _).setCell (p := ⟨N, 1, none⟩) h1 _).setCell (p := ⟨N, 2, none⟩) h1 _).setCell (p := ⟨N, 3, none⟩) h1 _).setCell (p := ⟨N, 4, none⟩) h1 _).setCell (p := ⟨N, 5, none⟩) h1 _).setCell (p := ⟨N, 6, none⟩) h1 _) h2
  · rw [Below.heap_setCell _ _ _ _ k2, Below.heap_setCell _ _ _ _ k2, Below.heap_setCell _ _ _ _ k2, Below.heap_setCell _ _ _ _ k1, Below.heap_setCell _ _ _ _ k1, Below.heap_setCell _ _ _ _ k1, Below.heap_setCell _ _ _ _ k1, Below.heap_setCell _ _ _ _ k1, Below.heap_setCell _ _ _ _ k1, Below.heap_setCell _ _ _ _ k1]
set_option maxHeartbeats 1000000 in
theorem catch_panicking (N M base : Nat) (x t : Int) (older : List PanicEntry) (w : World) (hN : w.heap[N]? = some (.cells #[.int .i64 0, .int .i64 0, .int .i64 0, .int .i64 0, .int .i64 0, .slice none 0 0, .int .i64 0] 26 (0, 0))) (hM : w.heap[M]? = some (.cells #[.int .i64 0, .int .i64 0, .int .i64 0] 31 (0, 0))) (h1 : base ≤ N) (h2 : base ≤ M) :
    CallsD Try.prog 21 #[.pointer (some ⟨N, 0, none⟩), .pointer (some ⟨M, 0, none⟩)] (.panicking ({ v := .iface 31 (.agg #[.int .i64 x, .int .i64 t, .int .i64 0]), recovered := false } :: older)) w fun e u' w' =>
      e = .returned (.tuple #[]) ∧ u' = .panicking ({ v := .iface 31 (.agg #[.int .i64 x, .int .i64 t, .int .i64 0]), recovered := true } :: older) ∧ w'.heap[N]? = some (.cells #[.int .i64 0, .int .i64 0, .int .i64 0, .int .i64 0, .int .i64 0, .slice none 0 0, .int .i64 0] 26 (0, 0)) ∧ w'.heap[M]? = some (.cells #[.int .i64 x, .int .i64 t, .int .i64 0] 31 (0, 0)) ∧ Below base w w' := by
  refine callsD_of_wpS Try.func21 rfl fun c₀ cs hu => ?_
  apply wpS_seq
  apply wpS_region
  simp [wpOpsS, go_sem, recoverD, hu, Try.ntmps21, Exit.thenS]
  refine wpS_of_wp ?_
  have ht : (#[Value.pointer (some ⟨N, 0, none⟩), Value.pointer (some ⟨M, 0, none⟩)] ++ ((Array.replicate 7 undef).setIfInBounds 1 (.iface 31 (.agg #[.int .i64 x, .int .i64 t, .int .i64 0]))).setIfInBounds 0 (.iface 31 (.agg #[.int .i64 x, .int .i64 t, .int .i64 0]))) = #[.pointer (some ⟨N, 0, none⟩), .pointer (some ⟨M, 0, none⟩), .iface 31 (.agg #[.int .i64 x, .int .i64 t, .int .i64 0]), .iface 31 (.agg #[.int .i64 x, .int .i64 t, .int .i64 0]), undef, undef, undef, undef, undef] := rfl
  rw [ht]
  obtain ⟨c1, f1, z1⟩ := cells_at hN
  obtain ⟨c2, f2, z2⟩ := cells_at hM
  have ta := as_fault
  have ne1 : N ≠ M := ne_ty hM hN (by decide)
  have ne2 : M ≠ N := fun e => ne1 e.symm
  go_wp2
  go_region_law (fail)
  all_goals
    obtain ⟨q1, q2, q3, -⟩ := set73 (v0 := .int .i64 0) (v1 := .int .i64 0) (v2 := .int .i64 0) (v3 := .int .i64 0) (v4 := .int .i64 0) (v5 := .slice none 0 0) (v6 := .int .i64 0) (a := .int .i64 x) (b := .int .i64 t) (c := .int .i64 0) hN hM ne1 h1 h2 rfl
    exact ⟨rfl, _, rfl, .tuple #[], by simp [results, Try.results21], rfl, rfl, drew_at q1, drew_at q2, q3.drew⟩
/-- What Decode answers. -/
def Dec (zs : List Int) (w w' : World) (r : Ending) : Prop :=
  (∃ x t, pAll zs = .inl (x, t) ∧ r = .returned (.tuple #[.agg #[.int .i64 0, .int .i64 0, .int .i64 0, .int .i64 0, .int .i64 0, .slice none 0 0, .int .i64 0], .agg #[.int .i64 x, .int .i64 t, .int .i64 0]])) ∨
  ∃ (h0 w0 c0 lo hi ot : Int) (oa : Option Addr) (n oc : Nat) (O : Nat → Nat → Int) (Z Bs : Nat → List Int) (x t : Int) (L : List (Int × Int × Int)) (wk : Int), pAll zs = .inr (dMod h0 w0 c0 lo hi ot n O Z Bs) ∧ gtR O h0 w0 c0 lo hi ot n = (x, t, L, wk) ∧ Lens n O Z Bs ∧
    ((x ≠ 0 ∧ r = .returned (.tuple #[.agg #[.int .i64 0, .int .i64 0, .int .i64 0, .int .i64 0, .int .i64 0, .slice none 0 0, .int .i64 0], .agg #[.int .i64 x, .int .i64 t, .int .i64 0]])) ∨ x = 0 ∧ r = .returned (.tuple #[.agg #[.int .i64 h0, .int .i64 w0, .int .i64 c0, .int .i64 lo, .int .i64 hi, .slice oa n oc, .int .i64 ot], .agg #[.int .i64 0, .int .i64 0, .int .i64 0]]) ∧ CRow w' w.heap.size (.slice oa n oc) n O Z Bs)
set_option maxHeartbeats 4000000 in
set_option maxRecDepth 100000 in
theorem decode_any (a : Option Addr) (len cap : Nat) (zs : List Int) (w : World) (hr : Wr.Row w a len cap zs) (hs : len ≤ 140737488355328) :
    Calls Try.prog 14 #[.slice a len cap] w fun r w' => Dec zs w w' r ∧ Below w.heap.size w w' := by
  have hmf : ∀ (fn : Fn) (first cap : Array Value) (w : World), (Instr.makeFunc fn first cap).run Try.prog w = .ok (.func fn first cap) w := fun _ _ _ _ => rfl
  have s0 := ((St.start w).new (c := #[.int .i64 0, .int .i64 0, .int .i64 0, .int .i64 0, .int .i64 0, .slice none 0 0, .int .i64 0]) (t := 26)).new (c := #[.int .i64 0, .int .i64 0, .int .i64 0]) (t := 31)
  simp only [World.size_alloc] at s0
  have S0 : Hid (St w _ _) := s0
  have HR : Hid (Wr.Row _ a len cap zs) := hr.below s0.below
  clear hr s0
  go_enter_defers Try.func14, Try.ntmps14
  go_wp2_with fail
  refine Calls.mono (readall_any a len cap zs _ HR.out hs) ?_
  rintro r w1 (⟨x, hx, rfl, b1⟩ | ⟨h0, w0, c0, lo, hi, ot, oa, n, oc, O, Z, Bs, hx, hn, rfl, cr, b1⟩)
  · have S1 : Hid (St w w1 _) := S0.out.call b1
    unfold fpan
    clear hmf
    refine leaves_cons (f := 21) (args := #[.pointer (some ⟨w.heap.size, 0, none⟩), .pointer (some ⟨w.heap.size + 1, 0, none⟩)]) (by simp) (by simp [go_sem]) ?_
    refine (catch_panicking w.heap.size (w.heap.size + 1) w.heap.size x.1 x.2 [] _ S1.out.h2 S1.out.h1 (by omega) (by omega)).mono ?_
    rintro e u' w2 ⟨rfl, rfl, q1, q2, q3⟩
    obtain ⟨c1, f1, z1⟩ := cells_at q1
    obtain ⟨c2, f2, z2⟩ := cells_at q2
    simp [Leaves, settle, results, Try.results14, go_sem, c1, c2]
    exact ⟨.inl ⟨x.1, x.2, hx, rfl⟩, S1.out.below.trans q3⟩
  obtain ⟨x, t, L, wk, hg⟩ : ∃ x t L wk, gtR O h0 w0 c0 lo hi ot n = (x, t, L, wk) := ⟨_, _, _, _, rfl⟩
  have hz1 : w.heap.size + 1 < w1.heap.size := lt_of_heap (S0.out.call b1).h1
  have S1 := (S0.out.call b1).new (c := #[.int .i64 h0, .int .i64 w0, .int .i64 c0, .int .i64 lo, .int .i64 hi, .slice oa n oc, .int .i64 ot]) (t := 26)
  have hC : Hid _ := check_any h0 w0 c0 lo hi ot oa n oc O (w1.alloc (.cells #[.int .i64 h0, .int .i64 w0, .int .i64 c0, .int .i64 lo, .int .i64 hi, .slice oa n oc, .int .i64 ot] 26)) (cr.l.m.below (bal _ _))
  rw [hg] at hC
  simp only at hC
  simp only [World.size_alloc] at cr
  have cr1 : Hid (CRow w1 (w.heap.size + 1 + 1) (.slice oa n oc) n O Z Bs) := cr
  have hX : Hid (pAll zs = _) := hx
  have hLn : Hid (Lens n O Z Bs) := lens_of cr.l
  have hG : Hid (gtR O h0 w0 c0 lo hi ot n = (x, t, L, wk)) := hg
  have T1 : Hid (St w _ _) := S1
  obtain ⟨-, -, -, c2, f2, z2, c3, f3, z3, -⟩ := S1.rules
  clear hx hg cr b1 S1 S0 HR
  go_wp2_with fail
  refine Calls.mono hC.out ?_
  rintro r w2 ⟨rfl, b2⟩
  have s2 := T1.out.call b2
  have S2 : Hid (St w w2 _) := s2
  have cr2 : Hid (CRow w2 (w.heap.size + 1 + 1) (.slice oa n oc) n O Z Bs) := (cr1.out.below (bal _ _)).below b2
  clear c2 f2 z2 c3 f3 z3
  obtain ⟨c1, f1, z1, c2, f2, z2, c3, f3, z3, -⟩ := s2.rules
  clear b2 s2 T1 cr1 hC
  obtain ⟨w3, hw3⟩ : ∃ w3, w3 = ((w2.setCell ⟨w.heap.size + 1, 0, none⟩ (.int .i64 x)).setCell ⟨w.heap.size + 1, 1, none⟩ (.int .i64 t)).setCell ⟨w.heap.size + 1, 2, none⟩ (.int .i64 0) := ⟨_, rfl⟩
  have hne : w.heap.size ≠ w.heap.size + 1 := by omega
  have hN3 : w3.heap[w.heap.size]? = some (.cells #[.int .i64 0, .int .i64 0, .int .i64 0, .int .i64 0, .int .i64 0, .slice none 0 0, .int .i64 0] 26 (0, 0)) := by
    rw [hw3, Below.heap_setCell _ _ _ _ hne, Below.heap_setCell _ _ _ _ hne, Below.heap_setCell _ _ _ _ hne]; exact S2.out.h3
  have m1 : (w2.setCell ⟨w.heap.size + 1, 0, none⟩ (.int .i64 x)).heap[w.heap.size + 1]? = some (.cells #[.int .i64 x, .int .i64 0, .int .i64 0] 31 (0, 0)) := heap_setCell_at S2.out.h2
  have m2 : ((w2.setCell ⟨w.heap.size + 1, 0, none⟩ (.int .i64 x)).setCell ⟨w.heap.size + 1, 1, none⟩ (.int .i64 t)).heap[w.heap.size + 1]? = some (.cells #[.int .i64 x, .int .i64 t, .int .i64 0] 31 (0, 0)) := heap_setCell_at m1
  have hM3 : w3.heap[w.heap.size + 1]? = some (.cells #[.int .i64 x, .int .i64 t, .int .i64 0] 31 (0, 0)) := by rw [hw3]; exact heap_setCell_at m2
  have hO3 : ∀ k, k ≠ w.heap.size + 1 → w3.heap[k]? = w2.heap[k]? := fun k hk => by rw [hw3, Below.heap_setCell _ _ _ _ hk, Below.heap_setCell _ _ _ _ hk, Below.heap_setCell _ _ _ _ hk]
  have b3 : Hid (Below w.heap.size w w3) := by unfold Hid; rw [hw3]; exact set3b S2.out.below (by omega)
  have HM3 : Hid (w3.heap[w1.heap.size]? = some (.cells #[.int .i64 h0, .int .i64 w0, .int .i64 c0, .int .i64 lo, .int .i64 hi, .slice oa n oc, .int .i64 ot] 26 (0, 0))) := (hO3 _ (by omega)).trans S2.out.h1
  have cr3 : Hid (CRow w3 (w.heap.size + 1 + 1) (.slice oa n oc) n O Z Bs) := cr2.out.kept (L := [w.heap.size + 1]) ⟨by rw [hw3]; rfl, by rw [hw3]; rfl, by rw [hw3]; rfl, by rw [hw3]; simp, fun k _ hk => hO3 k (by simpa using hk)⟩ (by simp)
  have HN3 : Hid _ := hN3
  have HMM : Hid _ := hM3
  clear m1 m2 hO3 cr2
  by_cases hx0 : x = 0
  · subst hx0
    obtain ⟨-, rfl, -⟩ := gtR_st hG.out
    have n3 := neF 0 0 0 0 0 0 true (by simp)
    go_upto_region 6 with fail
    rw [← hw3]
    clear hw3 c1 f1 z1 c2 f2 z2 c3 f3 z3 n3
    obtain ⟨c1, f1, z1⟩ := cells_at hN3
    obtain ⟨c2, f2, z2⟩ := cells_at hM3
    obtain ⟨c3, f3, z3⟩ := cells_at HM3.out
    go_region_law (fail)
    all_goals
      obtain ⟨wz, hwz⟩ : ∃ wz, wz = ((((((((((w3.setCell ⟨w.heap.size, 0, none⟩ (.int .i64 h0)).setCell ⟨w.heap.size, 1, none⟩ (.int .i64 w0)).setCell ⟨w.heap.size, 2, none⟩ (.int .i64 c0)).setCell ⟨w.heap.size, 3, none⟩ (.int .i64 lo)).setCell ⟨w.heap.size, 4, none⟩ (.int .i64 hi)).setCell ⟨w.heap.size, 5, none⟩ (.slice oa n oc)).setCell ⟨w.heap.size, 6, none⟩ (.int .i64 ot)).setCell ⟨w.heap.size + 1, 0, none⟩ (.int .i64 0)).setCell ⟨w.heap.size + 1, 1, none⟩ (.int .i64 0)).setCell ⟨w.heap.size + 1, 2, none⟩ (.int .i64 0)) := ⟨_, rfl⟩
      rw [← hwz]
      obtain ⟨q1, q2, q3, q4⟩ := set73 hN3 hM3 hne (Nat.le_refl _) (Nat.le_succ _) hwz
      have Q3 : Hid (Below w.heap.size w wz) := b3.out.trans q3
      have Q4 : Hid (∀ k, k ≠ w.heap.size → k ≠ w.heap.size + 1 → wz.heap[k]? = w3.heap[k]?) := q4
      have QS : Hid (wz.os = w3.os ∧ wz.tape = w3.tape ∧ wz.output = w3.output ∧ w3.heap.size ≤ wz.heap.size) := ⟨q3.os, q3.tape, q3.output, q3.size⟩
      clear hwz q3 q4 c1 f1 z1 c2 f2 z2 c3 f3 z3 hN3 hM3
      obtain ⟨c1, f1, z1⟩ := cells_at q1
      obtain ⟨c2, f2, z2⟩ := cells_at q2
      go_wp2
      refine leaves_cons (f := 21) (args := #[.pointer (some ⟨w.heap.size, 0, none⟩), .pointer (some ⟨w.heap.size + 1, 0, none⟩)]) (by simp) (by simp [go_sem]) ?_
      refine (catch_idle _ _ _).mono ?_
      rintro e u' w5 ⟨rfl, rfl, hw5⟩
      obtain rfl := hw5.symm
      simp [Leaves, settle, results, Try.results14, go_sem, c1, c2]
      exact ⟨.inr ⟨h0, w0, c0, lo, hi, ot, oa, n, oc, O, Z, Bs, 0, 0, L, wk, hX.out, hG.out, hLn.out, .inr ⟨rfl, rfl, ((cr3.out.kept (L := [w.heap.size, w.heap.size + 1]) ⟨QS.out.1, QS.out.2.1, QS.out.2.2.1, QS.out.2.2.2, fun k _ hk => Q4.out k (fun e => hk (by simp [e])) (fun e => hk (by simp [e]))⟩ (by simp; omega)).below (Below.refl _ _).drew).base (by omega)⟩⟩, Q3.out.drew⟩
  · have n3 := neF x t 0 0 0 0 false (by simp [hx0])
    have hx0' : Hid (x ≠ 0) := hx0
    clear hx0
    go_upto_region 5 with fail
    rw [← hw3]
    clear hw3 c1 f1 z1 c2 f2 z2 c3 f3 z3 n3
    obtain ⟨c1, f1, z1⟩ := cells_at hN3
    obtain ⟨c2, f2, z2⟩ := cells_at hM3
    obtain ⟨c3, f3, z3⟩ := cells_at HM3.out
    refine wp_region_noPanic ?_
    go_region_law (fail)
    all_goals
      refine NoPanic.normal ?_
      obtain ⟨wz, hwz⟩ : ∃ wz, wz = ((((((((((w3.setCell ⟨w.heap.size, 0, none⟩ (.int .i64 0)).setCell ⟨w.heap.size, 1, none⟩ (.int .i64 0)).setCell ⟨w.heap.size, 2, none⟩ (.int .i64 0)).setCell ⟨w.heap.size, 3, none⟩ (.int .i64 0)).setCell ⟨w.heap.size, 4, none⟩ (.int .i64 0)).setCell ⟨w.heap.size, 5, none⟩ (.slice none 0 0)).setCell ⟨w.heap.size, 6, none⟩ (.int .i64 0)).setCell ⟨w.heap.size + 1, 0, none⟩ (.int .i64 x)).setCell ⟨w.heap.size + 1, 1, none⟩ (.int .i64 t)).setCell ⟨w.heap.size + 1, 2, none⟩ (.int .i64 0)) := ⟨_, rfl⟩
      rw [← hwz]
      obtain ⟨q1, q2, q3, q4⟩ := set73 hN3 hM3 hne (Nat.le_refl _) (Nat.le_succ _) hwz
      have Q3 : Hid (Below w.heap.size w wz) := b3.out.trans q3
      have Q4 : Hid (∀ k, k ≠ w.heap.size → k ≠ w.heap.size + 1 → wz.heap[k]? = w3.heap[k]?) := q4
      have QS : Hid (wz.os = w3.os ∧ wz.tape = w3.tape ∧ wz.output = w3.output ∧ w3.heap.size ≤ wz.heap.size) := ⟨q3.os, q3.tape, q3.output, q3.size⟩
      clear hwz q3 q4 c1 f1 z1 c2 f2 z2 c3 f3 z3 hN3 hM3
      obtain ⟨c1, f1, z1⟩ := cells_at q1
      obtain ⟨c2, f2, z2⟩ := cells_at q2
      go_wp2
      refine leaves_cons (f := 21) (args := #[.pointer (some ⟨w.heap.size, 0, none⟩), .pointer (some ⟨w.heap.size + 1, 0, none⟩)]) (by simp) (by simp [go_sem]) ?_
      refine (catch_idle _ _ _).mono ?_
      rintro e u' w5 ⟨rfl, rfl, hw5⟩
      obtain rfl := hw5.symm
      simp [Leaves, settle, results, Try.results14, go_sem, c1, c2]
      exact ⟨.inr ⟨h0, w0, c0, lo, hi, ot, oa, n, oc, O, Z, Bs, x, t, L, wk, hX.out, hG.out, hLn.out, .inl ⟨hx0'.out, rfl⟩⟩, Q3.out.drew⟩
end Go.Proofs.Ythagdpiocmcbmaa

/- What like bytes say of like models; errors are never 0. -/
namespace Go.Proofs.Ythagdpiocmcbmaa
open Wr
open Go.ChangeShapes Go.WideShapes Go.ChangeAt Go.RowKit
set_option linter.unusedVariables false
/-! ### No error is 0 -/
def NoZ {α : Type} (p : List Int → Sum (Int × Int) (α × List Int)) : Prop := ∀ zs e, p zs = .inl e → e.1 ≠ 0
theorem NoZ.bind {α β : Type} {p : List Int → Sum (Int × Int) (α × List Int)} {q : α → List Int → Sum (Int × Int) (β × List Int)} (h : NoZ p) (k : ∀ a, NoZ (q a)) : NoZ fun zs => pbind (p zs) q := by
  intro zs e he
  match hp : p zs, he with
  | .inl x, he =>
    have : pbind (p zs) q = .inl e := he
    rw [hp] at this
    cases this
    exact h zs _ hp
  | .inr (a, r), he =>
    have : pbind (p zs) q = .inl e := he
    rw [hp, pbind_r] at this
    exact k a r e this
theorem noz_end {α β : Type} (f : α → β) (a : α) : NoZ fun r => (.inr (f a, r) : Sum (Int × Int) (β × List Int)) := fun zs e h => by cases h
theorem noz_U (t : Int) : NoZ (pU t) := by
  intro zs e h
  unfold pU at h
  by_cases c : (getR zs).2.2 ≠ 0
  · rw [if_pos c] at h; cases h; exact c
  · rw [if_neg c] at h
    by_cases d : 2147483647 < (getR zs).1
    · rw [if_pos d] at h; cases h; show (41 : Int) ≠ 0; decide
    · rw [if_neg d] at h; cases h
theorem noz_N (t most : Int) : NoZ (pN t most) := by
  intro zs e h
  unfold pN at h
  by_cases c : (cut most (getR zs)).2.2 ≠ 0
  · rw [if_pos c] at h; cases h; exact c
  · rw [if_neg c] at h; cases h
theorem noz_S (t lo hi : Int) : NoZ (pS t lo hi) := by
  intro zs e h
  unfold pS at h
  by_cases c : (getR zs).2.2 ≠ 0
  · rw [if_pos c] at h; cases h; exact c
  · rw [if_neg c] at h
    by_cases d : unfR (getR zs).1 < lo ∨ hi < unfR (getR zs).1
    · rw [if_pos d] at h; cases h; show (41 : Int) ≠ 0; decide
    · rw [if_neg d] at h; cases h
theorem noz_L {p : List Int → Sum (Int × Int) (Int × List Int)} (h : NoZ p) : ∀ n, NoZ (pL p n)
  | 0 => fun zs e h => by cases h
  | n + 1 => h.bind fun a => (noz_L h n).bind fun l zs e h => by cases h
theorem noz_Op (t : Int) : NoZ (pOp t) := (noz_L (noz_U t) 12).bind fun us => (noz_N t 131072).bind fun n => (noz_L (noz_S t _ _) _).bind fun z => (noz_N t 1024).bind fun m => (noz_L (noz_S t _ _) _).bind fun b => (noz_L (noz_U t) 4).bind fun vs => (noz_L (noz_S t _ _) 4).bind fun ss zs e h => by cases h
theorem noz_Ops : ∀ (n i : Nat), NoZ (pOps n i)
  | 0, i => fun zs e h => by cases h
  | n + 1, i => (noz_Op _).bind fun a => (noz_Ops n (i + 1)).bind fun l zs e h => by cases h
theorem noz_Mod : NoZ pMod := (noz_L (noz_U 0) 3).bind fun s => (noz_L (noz_S 0 _ _) 2).bind fun lh => (noz_N 0 64).bind fun n => (noz_Ops _ 0).bind fun ops => (noz_U 0).bind fun ot zs e h => by cases h
theorem pall_ne {zs : List Int} {x t : Int} (h : pAll zs = .inl (x, t)) : x ≠ 0 := by
  unfold pAll at h
  by_cases c : zs.length < 4
  · rw [if_pos c] at h; cases h; decide
  rw [if_neg c] at h
  by_cases d : zs.take 4 ≠ head4
  · rw [if_pos d] at h; cases h; decide
  rw [if_neg d] at h
  match hp : pMod (zs.drop 4), h with
  | .inl e, h => simp only at h; cases h; exact noz_Mod _ _ hp
  | .inr (m', r), h =>
    simp only at h
    by_cases hr : r = []
    · rw [if_pos hr] at h; cases h
    · rw [if_neg hr] at h; cases h; decide
/-! ### Models that are like -/
def Agree (n : Nat) (O : Nat → Nat → Int) (Z B : Nat → List Int) (O' : Nat → Nat → Int) (Z' B' : Nat → List Int) : Prop := ∀ i, i < n → (∀ j, j < 22 → O i j = O' i j) ∧ Z i = Z' i ∧ B i = B' i
theorem dOps_at {O : Nat → Nat → Int} {Z B : Nat → List Int} {n i : Nat} (h : i < n) : (dOps O Z B n)[i]? = some (dOp (O i) (Z i) (B i)) := by
  unfold dOps; simp [h]
theorem same_mod {h w c lo hi ot h' w' c' lo' hi' ot' : Int} {n n' : Nat} {O O' : Nat → Nat → Int} {Z B Z' B' : Nat → List Int} (l : Lens n O Z B) (l' : Lens n' O' Z' B') (e : dMod h w c lo hi ot n O Z B = dMod h' w' c' lo' hi' ot' n' O' Z' B') :
    h = h' ∧ w = w' ∧ c = c' ∧ lo = lo' ∧ hi = hi' ∧ ot = ot' ∧ n = n' ∧ Agree n O Z B O' Z' B' := by
  unfold dMod at e
  simp only [ModD.mk.injEq, List.cons.injEq, and_true] at e
  obtain ⟨⟨e1, e2, e3⟩, ⟨e4, e5⟩, e6, e7⟩ := e
  have en : n = n' := by
    have := congrArg List.length e6
    rwa [dOps_len, dOps_len] at this
  subst en
  refine ⟨e1, e2, e3, e4, e5, e7, rfl, fun i hi => ?_⟩
  have q := dOps_at (O := O) (Z := Z) (B := B) hi
  rw [e6, dOps_at hi] at q
  simp only [Option.some.injEq, dOp, OpD.mk.injEq, List.cons.injEq, and_true] at q
  obtain ⟨⟨a0, a1, a2, a3, a4, a5, a6, a7, a8, a9, a10, a11⟩, ez, eb, ⟨a14, a15, a16, a17⟩, a18, a19, a20, a21⟩ := q
  obtain ⟨l1, l2, -, -⟩ := l i hi
  obtain ⟨l3, l4, -, -⟩ := l' i hi
  refine ⟨fun j hj => ?_, ez.symm, eb.symm⟩
  have : j = 0 ∨ j = 1 ∨ j = 2 ∨ j = 3 ∨ j = 4 ∨ j = 5 ∨ j = 6 ∨ j = 7 ∨ j = 8 ∨ j = 9 ∨ j = 10 ∨ j = 11 ∨ j = 12 ∨ j = 13 ∨ j = 14 ∨ j = 15 ∨ j = 16 ∨ j = 17 ∨ j = 18 ∨ j = 19 ∨ j = 20 ∨ j = 21 := by omega
  rcases this with rfl | rfl | rfl | rfl | rfl | rfl | rfl | rfl | rfl | rfl | rfl | rfl | rfl | rfl | rfl | rfl | rfl | rfl | rfl | rfl | rfl | rfl
  · exact a0.symm
  · exact a1.symm
  · exact a2.symm
  · exact a3.symm
  · exact a4.symm
  · exact a5.symm
  · exact a6.symm
  · exact a7.symm
  · exact a8.symm
  · exact a9.symm
  · exact a10.symm
  · exact a11.symm
  · rw [l1, l3, ez]
  · rw [l2, l4, eb]
  · exact a14.symm
  · exact a15.symm
  · exact a16.symm
  · exact a17.symm
  · exact a18.symm
  · exact a19.symm
  · exact a20.symm
  · exact a21.symm
theorem Agree.symm {n : Nat} {O O' : Nat → Nat → Int} {Z B Z' B' : Nat → List Int} (h : Agree n O Z B O' Z' B') : Agree n O' Z' B' O Z B := fun i hi => ⟨fun j hj => ((h i hi).1 j hj).symm, (h i hi).2.1.symm, (h i hi).2.2.symm⟩
theorem opl_agree {o o' : Nat → Int} (h : ∀ j, j < 22 → o j = o' j) (wa : Option Addr) (lw cw : Nat) (ba : Option Addr) (lb cb : Nat) : opl o wa lw cw ba lb cb = opl o' wa lw cw ba lb cb := by
  unfold opl
  rw [h 0 (by omega), h 1 (by omega), h 2 (by omega), h 3 (by omega), h 4 (by omega), h 5 (by omega), h 6 (by omega), h 7 (by omega), h 8 (by omega), h 9 (by omega), h 10 (by omega), h 11 (by omega), h 14 (by omega), h 15 (by omega), h 16 (by omega), h 17 (by omega), h 18 (by omega), h 19 (by omega), h 20 (by omega), h 21 (by omega)]
theorem LRow.agree {w : World} {oa : Option Addr} {n oc : Nat} {O O' : Nat → Nat → Int} {Z B Z' B' : Nat → List Int} (h : LRow w oa n oc O Z B) (g : Agree n O Z B O' Z' B') : LRow w oa n oc O' Z' B' := by
  refine ⟨h.1, h.2.1, h.2.2.1, fun x hx i hi => ?_⟩
  obtain ⟨wa, lw, cw, ba, lb, cb, e1, e2, e3, e4, e5, e6⟩ := h.2.2.2 x hx i hi
  obtain ⟨g1, g2, g3⟩ := g i hi
  rw [← g2, ← g3]
  exact ⟨wa, lw, cw, ba, lb, cb, by rw [← g1 12 (by omega)]; exact e1, by rw [← g1 13 (by omega)]; exact e2, fun j v hj => e3 j v (by rw [opl_agree g1]; exact hj), e4, e5, e6⟩
theorem oT_agree {o o' : Nat → Int} (h : ∀ j, j < 22 → o j = o' j) (L : List (Int × Int × Int)) (wk : Int) : oT o L wk = oT o' L wk ∧ oM o L = oM o' L ∧ oW o L = oW o' L := by
  unfold oT oM oW
  rw [h 0 (by omega), h 1 (by omega), h 2 (by omega), h 3 (by omega), h 4 (by omega), h 5 (by omega), h 6 (by omega), h 7 (by omega), h 8 (by omega), h 9 (by omega), h 10 (by omega), h 11 (by omega), h 12 (by omega), h 13 (by omega), h 14 (by omega), h 15 (by omega), h 16 (by omega), h 17 (by omega), h 18 (by omega), h 19 (by omega), h 20 (by omega), h 21 (by omega)]
  exact ⟨rfl, rfl, rfl⟩
theorem stG_agree {O O' : Nat → Nat → Int} {s0 : Int × Int × Int} {n : Nat} (h : ∀ i, i < n → ∀ j, j < 22 → O i j = O' i j) : ∀ k, k ≤ n → stG O s0 k = stG O' s0 k
  | 0, _ => rfl
  | k + 1, hk => by
    rw [stG_succ, stG_succ, stG_agree h k (by omega)]
    obtain ⟨a, b, c⟩ := oT_agree (h k (by omega)) (stG O' s0 k).2.2.1 (stG O' s0 k).2.2.2
    rw [a, b, c]
theorem gtR_agree {O O' : Nat → Nat → Int} {Z B Z' B' : Nat → List Int} {n : Nat} (g : Agree n O Z B O' Z' B') (h w c lo hi ot : Int) : gtR O h w c lo hi ot n = gtR O' h w c lo hi ot n := by
  unfold gtR
  rw [stG_agree (fun i hi => (g i hi).1) n (Nat.le_refl _)]
/-- The bytes of a well-formed model, decoded. -/
theorem dec_back {zs : List Int} {w w' : World} {r : Ending} {h v c lo hi ot t : Int} {n : Nat} {O : Nat → Nat → Int} {Z B : Nat → List Int} {L : List (Int × Int × Int)} {wk : Int} (hd : Dec zs w w' r) (l : Lens n O Z B) (hg : gtR O h v c lo hi ot n = (0, t, L, wk)) (hz : zs = eAll (dMod h v c lo hi ot n O Z B)) :
    ∃ (oa : Option Addr) (oc : Nat), r = .returned (.tuple #[.agg #[.int .i64 h, .int .i64 v, .int .i64 c, .int .i64 lo, .int .i64 hi, .slice oa n oc, .int .i64 ot], .agg #[.int .i64 0, .int .i64 0, .int .i64 0]]) ∧ LRow w' oa n oc O Z B ∧ ∃ (O' : Nat → Nat → Int) (Z' B' : Nat → List Int), CRow w' w.heap.size (.slice oa n oc) n O' Z' B' := by
  have hp : pAll zs = .inr (dMod h v c lo hi ot n O Z B) := by rw [hz]; exact all_back (mod_fits hg l).1
  rcases hd with ⟨x, t, h1, -⟩ | ⟨h0, w0, c0, lo0, hi0, ot0, oa, m, oc, O', Z', B', x, t, L', wk', h1, h2, l', h3⟩
  · rw [hp] at h1; cases h1
  · rw [hp] at h1
    simp only [Sum.inr.injEq] at h1
    rcases h3 with ⟨hx, -⟩ | ⟨hx, hr, cr⟩
    · exfalso
      obtain ⟨rfl, rfl, rfl, rfl, rfl, rfl, rfl, ag⟩ := same_mod l l' h1
      rw [gtR_agree ag] at hg
      rw [hg] at h2
      simp only [Prod.mk.injEq] at h2
      exact hx h2.1.symm
    · obtain ⟨rfl, rfl, rfl, rfl, rfl, rfl, rfl, ag⟩ := same_mod l l' h1
      exact ⟨oa, oc, hr, cr.l.agree ag.symm, O', Z', B', cr⟩
end Go.Proofs.Ythagdpiocmcbmaa
