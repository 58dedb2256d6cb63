/- The reader of package pack: one op. Written by tools/gen/PckQ.py. -/
import Derived.Test.YthagdpiocmcbmaaPckT
import Derived.Test.YthagdpiocmcbmaaPckM
namespace Go.Proofs.Ythagdpiocmcbmaa
open Wr
open Go.ChangeShapes Go.WideShapes Go.ChangeAt Go.RowKit
set_option linter.unusedVariables false
theorem pbind_assoc {α β γ : Type} (x : Sum (Int × Int) (α × List Int)) (f : α → List Int → Sum (Int × Int) (β × List Int)) (g : β → List Int → Sum (Int × Int) (γ × List Int)) : pbind (pbind x f) g = pbind x fun a r => pbind (f a r) g := by
  match x with
  | .inl e => rfl
  | .inr (a, r) => rfl
theorem pbind_congr {α β : Type} {x : Sum (Int × Int) (α × List Int)} {f g : α → List Int → Sum (Int × Int) (β × List Int)} (h : ∀ a r, f a r = g a r) : pbind x f = pbind x g := by
  rw [show f = g from funext fun a => funext fun r => h a r]
theorem pL_add (p : List Int → Sum (Int × Int) (Int × List Int)) : ∀ (m n : Nat) (zs : List Int), pL p (m + n) zs = pbind (pL p m zs) fun a r => pbind (pL p n r) fun b r' => .inr (a ++ b, r')
  | 0, n, zs => by
    rw [Nat.zero_add]
    show _ = pbind (pL p n zs) _
    match pL p n zs with
    | .inl e => rfl
    | .inr (l, r) => rfl
  | m + 1, n, zs => by
    rw [show m + 1 + n = (m + n) + 1 by omega]
    show pbind (p zs) _ = pbind (pbind (p zs) _) _
    rw [pbind_assoc]
    refine pbind_congr fun a r => ?_
    rw [pL_add p m n r, pbind_assoc, pbind_assoc]
    refine pbind_congr fun b r' => ?_
    rw [pbind_assoc, pbind_r]
    refine pbind_congr fun c r'' => ?_
    rw [pbind_r, List.cons_append]
theorem pOp_eq (t : Int) (zs : List Int) : pOp t zs = pbind (pL (pU t) 4 zs) fun a r1 => pbind (pL (pU t) 8 r1) fun b r2 => pbind (pT t 131072 (p16 t) r2) fun z r3 => pbind (pT t 1024 (p32 t) r3) fun bb r4 => pbind (pL (pU t) 2 r4) fun c r5 => pbind (pL (pU t) 2 r5) fun d r6 => pbind (pL (p32 t) 4 r6) fun ss r7 => .inr (⟨a ++ b, z, bb, c ++ d, ss⟩, r7) := by
  unfold pOp pT
  rw [show (12 : Nat) = 4 + 8 from rfl, pL_add, pbind_assoc]
  refine pbind_congr fun a r1 => ?_
  rw [pbind_assoc]
  refine pbind_congr fun b r2 => ?_
  rw [pbind_r, pbind_assoc]
  refine pbind_congr fun n r3 => ?_
  refine pbind_congr fun z r4 => ?_
  rw [pbind_assoc]
  refine pbind_congr fun m r5 => ?_
  refine pbind_congr fun bb r6 => ?_
  rw [show pL (pU t) 4 r6 = _ from pL_add (pU t) 2 2 r6, pbind_assoc]
  refine pbind_congr fun c r7 => ?_
  rw [pbind_assoc]
  refine pbind_congr fun d r8 => ?_
  rw [pbind_r]
theorem own_row {k : IntKind} {T : TypeId} {w : World} {base N : Nat} {v : Value} {zs : List Int} {cs : Array Value} (h : Own k T w base v zs) (hN : N < base) : Own k T (w.setRow N cs) base v zs := by
  refine ⟨⟨h.1.1, ?_⟩, h.2⟩
  rcases h.1.2 with h0 | ⟨g, cap, cur, h1, h2, h3, h4⟩
  · exact .inl h0
  · exact .inr ⟨g, cap, cur, h1, h2, (setRow_other w N g cs (by omega)).trans h3, h4⟩
set_option maxHeartbeats 4000000 in
set_option maxRecDepth 100000 in
theorem oneop_any (Rb B : Nat) (zs : List Int) (t : Int) (w : World) (h : PR w Rb B zs t) :
    Calls Try.prog 76 #[(.pointer (some ⟨Rb, 0, none⟩))] w fun r w' => (∃ x, pOp t zs = .inl x ∧ r = fpan x.1 x.2 ∧ Wr.Kept [B] w w') ∨
      ∃ (o : Nat → Int) (z b : List Int) (wa : Option Addr) (lw cw : Nat) (ba : Option Addr) (lb cb : Nat) (rs : List Int), pOp t zs = .inr (dOp o z b, rs) ∧ o 12 = (lw : Int) ∧ o 13 = (lb : Int) ∧ lw ≤ 131072 ∧ lb ≤ 1024 ∧ r = .returned (.agg #[.int .i64 (o 0), .int .i64 (o 1), .int .i64 (o 2), .int .i64 (o 3), .int .i64 (o 4), .int .i64 (o 5), .int .i64 (o 6), .int .i64 (o 7), .int .i64 (o 8), .int .i64 (o 9), .int .i64 (o 10), .int .i64 (o 11), .slice wa lw cw, .slice ba lb cb, .int .i64 (o 14), .int .i64 (o 15), .int .i64 (o 16), .int .i64 (o 17), .int .i64 (o 18), .int .i64 (o 19), .int .i64 (o 20), .int .i64 (o 21)]) ∧
        Own .i16 51 w' (w.heap.size + 1) (.slice wa lw cw) z ∧ Own .i32 21 w' (w.heap.size + 1) (.slice ba lb cb) b ∧ PR w' Rb B rs t ∧ Wr.Kept [B] w w' := by
  have hlt := h.ltB
  have p0 : Hid (PR (w.alloc (.cells #[.int .i64 0, .int .i64 0, .int .i64 0, .int .i64 0, .int .i64 0, .int .i64 0, .int .i64 0, .int .i64 0, .int .i64 0, .int .i64 0, .int .i64 0, .int .i64 0, .slice none 0 0, .slice none 0 0, .int .i64 0, .int .i64 0, .int .i64 0, .int .i64 0, .int .i64 0, .int .i64 0, .int .i64 0, .int .i64 0] 50)) Rb B zs t) := h.al _
  have k0 : Hid (Wr.Kept [B] w (w.alloc (.cells #[.int .i64 0, .int .i64 0, .int .i64 0, .int .i64 0, .int .i64 0, .int .i64 0, .int .i64 0, .int .i64 0, .int .i64 0, .int .i64 0, .int .i64 0, .int .i64 0, .slice none 0 0, .slice none 0 0, .int .i64 0, .int .i64 0, .int .i64 0, .int .i64 0, .int .i64 0, .int .i64 0, .int .i64 0, .int .i64 0] 50))) := Kept.of (bal _ _)
  have b0 : Hid ((w.alloc (.cells #[.int .i64 0, .int .i64 0, .int .i64 0, .int .i64 0, .int .i64 0, .int .i64 0, .int .i64 0, .int .i64 0, .int .i64 0, .int .i64 0, .int .i64 0, .int .i64 0, .slice none 0 0, .slice none 0 0, .int .i64 0, .int .i64 0, .int .i64 0, .int .i64 0, .int .i64 0, .int .i64 0, .int .i64 0, .int .i64 0] 50)).heap[w.heap.size]? = some (.cells #[.int .i64 0, .int .i64 0, .int .i64 0, .int .i64 0, .int .i64 0, .int .i64 0, .int .i64 0, .int .i64 0, .int .i64 0, .int .i64 0, .int .i64 0, .int .i64 0, .slice none 0 0, .slice none 0 0, .int .i64 0, .int .i64 0, .int .i64 0, .int .i64 0, .int .i64 0, .int .i64 0, .int .i64 0, .int .i64 0] 50 (0, 0))) := heap_alloc_new w _
  have s0 : w.heap.size + 1 ≤ (w.alloc (.cells #[.int .i64 0, .int .i64 0, .int .i64 0, .int .i64 0, .int .i64 0, .int .i64 0, .int .i64 0, .int .i64 0, .int .i64 0, .int .i64 0, .int .i64 0, .int .i64 0, .slice none 0 0, .slice none 0 0, .int .i64 0, .int .i64 0, .int .i64 0, .int .i64 0, .int .i64 0, .int .i64 0, .int .i64 0, .int .i64 0] 50)).heap.size := by simp
  have hE : Hid (pOp t zs = _) := pOp_eq t zs
  clear h
  go_enter Try.func76, Try.ntmps76
  go_wp2_with fail
  refine Calls.mono (runsigned_any Rb B _ t _ p0.out) ?_
  rintro r w1 (⟨x, hx, rfl, k⟩ | ⟨v1, r1, hx, rfl, p, k⟩)
  · exact ⟨rfl, .inl ⟨x, by rw [hE.out, show pL (pU t) 4 zs = .inl x by simp only [pL, pbind, hx]]; rfl, rfl, k0.out.trans k⟩⟩
  have h1 : Hid (pU t zs = .inr (v1, r1)) := hx
  have p1 : Hid (PR w1 Rb B r1 t) := p
  have k1 : Hid (Wr.Kept [B] w w1) := k0.out.trans k
  have s1 : w.heap.size + 1 ≤ w1.heap.size := Nat.le_trans s0 k.2.2.2.1
  have b1 : Hid (w1.heap[w.heap.size]? = some (.cells #[.int .i64 0, .int .i64 0, .int .i64 0, .int .i64 0, .int .i64 0, .int .i64 0, .int .i64 0, .int .i64 0, .int .i64 0, .int .i64 0, .int .i64 0, .int .i64 0, .slice none 0 0, .slice none 0 0, .int .i64 0, .int .i64 0, .int .i64 0, .int .i64 0, .int .i64 0, .int .i64 0, .int .i64 0, .int .i64 0] 50 (0, 0))) := (k.2.2.2.2 _ (lt_of_heap b0.out) (by simp; omega)).trans b0.out
  clear hx p k p0 k0 s0 b0
  go_wp2_with fail
  refine Calls.mono (runsigned_any Rb B _ t _ p1.out) ?_
  rintro r w2 (⟨x, hx, rfl, k⟩ | ⟨v2, r2, hx, rfl, p, k⟩)
  · exact ⟨rfl, .inl ⟨x, by rw [hE.out, show pL (pU t) 4 zs = .inl x by simp only [pL, pbind, h1.out, hx]]; rfl, rfl, k1.out.trans k⟩⟩
  have h2 : Hid (pU t r1 = .inr (v2, r2)) := hx
  have p2 : Hid (PR w2 Rb B r2 t) := p
  have k2 : Hid (Wr.Kept [B] w w2) := k1.out.trans k
  have s2 : w.heap.size + 1 ≤ w2.heap.size := Nat.le_trans s1 k.2.2.2.1
  have b2 : Hid (w2.heap[w.heap.size]? = some (.cells #[.int .i64 0, .int .i64 0, .int .i64 0, .int .i64 0, .int .i64 0, .int .i64 0, .int .i64 0, .int .i64 0, .int .i64 0, .int .i64 0, .int .i64 0, .int .i64 0, .slice none 0 0, .slice none 0 0, .int .i64 0, .int .i64 0, .int .i64 0, .int .i64 0, .int .i64 0, .int .i64 0, .int .i64 0, .int .i64 0] 50 (0, 0))) := (k.2.2.2.2 _ (lt_of_heap b1.out) (by simp; omega)).trans b1.out
  clear hx p k p1 k1 s1 b1
  go_wp2_with fail
  refine Calls.mono (runsigned_any Rb B _ t _ p2.out) ?_
  rintro r w3 (⟨x, hx, rfl, k⟩ | ⟨v3, r3, hx, rfl, p, k⟩)
  · exact ⟨rfl, .inl ⟨x, by rw [hE.out, show pL (pU t) 4 zs = .inl x by simp only [pL, pbind, h1.out, h2.out, hx]]; rfl, rfl, k2.out.trans k⟩⟩
  have h3 : Hid (pU t r2 = .inr (v3, r3)) := hx
  have p3 : Hid (PR w3 Rb B r3 t) := p
  have k3 : Hid (Wr.Kept [B] w w3) := k2.out.trans k
  have s3 : w.heap.size + 1 ≤ w3.heap.size := Nat.le_trans s2 k.2.2.2.1
  have b3 : Hid (w3.heap[w.heap.size]? = some (.cells #[.int .i64 0, .int .i64 0, .int .i64 0, .int .i64 0, .int .i64 0, .int .i64 0, .int .i64 0, .int .i64 0, .int .i64 0, .int .i64 0, .int .i64 0, .int .i64 0, .slice none 0 0, .slice none 0 0, .int .i64 0, .int .i64 0, .int .i64 0, .int .i64 0, .int .i64 0, .int .i64 0, .int .i64 0, .int .i64 0] 50 (0, 0))) := (k.2.2.2.2 _ (lt_of_heap b2.out) (by simp; omega)).trans b2.out
  clear hx p k p2 k2 s2 b2
  go_wp2_with fail
  refine Calls.mono (runsigned_any Rb B _ t _ p3.out) ?_
  rintro r w4 (⟨x, hx, rfl, k⟩ | ⟨v4, r4, hx, rfl, p, k⟩)
  · exact ⟨rfl, .inl ⟨x, by rw [hE.out, show pL (pU t) 4 zs = .inl x by simp only [pL, pbind, h1.out, h2.out, h3.out, hx]]; rfl, rfl, k3.out.trans k⟩⟩
  have h4 : Hid (pU t r3 = .inr (v4, r4)) := hx
  have p4 : Hid (PR w4 Rb B r4 t) := p
  have k4 : Hid (Wr.Kept [B] w w4) := k3.out.trans k
  have s4 : w.heap.size + 1 ≤ w4.heap.size := Nat.le_trans s3 k.2.2.2.1
  have b4 : Hid (w4.heap[w.heap.size]? = some (.cells #[.int .i64 0, .int .i64 0, .int .i64 0, .int .i64 0, .int .i64 0, .int .i64 0, .int .i64 0, .int .i64 0, .int .i64 0, .int .i64 0, .int .i64 0, .int .i64 0, .slice none 0 0, .slice none 0 0, .int .i64 0, .int .i64 0, .int .i64 0, .int .i64 0, .int .i64 0, .int .i64 0, .int .i64 0, .int .i64 0] 50 (0, 0))) := (k.2.2.2.2 _ (lt_of_heap b3.out) (by simp; omega)).trans b3.out
  clear hx p k p3 k3 s3 b3
  have a4 : Hid (pL (pU t) 4 zs = .inr ([v1, v2, v3, v4], r4)) := by simp only [Hid, pL, pbind, h1.out, h2.out, h3.out, h4.out]
  clear h1 h2 h3 h4
  go_wp2_with fail
  refine Calls.mono (rwindow_any Rb B _ t _ p4.out) ?_
  rintro r w5 (⟨x, hx, rfl, k⟩ | ⟨u1, u2, u3, u4, u5, u6, u7, u8, r5, hx, rfl, p, k⟩)
  · exact ⟨rfl, .inl ⟨x, by rw [hE.out, a4.out, pbind_r, hx]; rfl, rfl, k4.out.trans k⟩⟩
  have h5 : Hid (pL (pU t) 8 r4 = .inr ([u1, u2, u3, u4, u5, u6, u7, u8], r5)) := hx
  have p5 : Hid (PR w5 Rb B r5 t) := p
  have k5 : Hid (Wr.Kept [B] w w5) := k4.out.trans k
  have s5 : w.heap.size + 1 ≤ w5.heap.size := Nat.le_trans s4 k.2.2.2.1
  have b5 : Hid (w5.heap[w.heap.size]? = some (.cells #[.int .i64 0, .int .i64 0, .int .i64 0, .int .i64 0, .int .i64 0, .int .i64 0, .int .i64 0, .int .i64 0, .int .i64 0, .int .i64 0, .int .i64 0, .int .i64 0, .slice none 0 0, .slice none 0 0, .int .i64 0, .int .i64 0, .int .i64 0, .int .i64 0, .int .i64 0, .int .i64 0, .int .i64 0, .int .i64 0] 50 (0, 0))) := (k.2.2.2.2 _ (lt_of_heap b4.out) (by simp; omega)).trans b4.out
  clear hx p k p4 k4 s4 b4
  go_wp2_with fail
  refine Calls.mono (take_i16 Rb B _ t 131072 _ p5.out (by omega) (by omega)) ?_
  rintro r w6 (⟨x, hx, rfl, k⟩ | ⟨z, r6, v, hx, hl, rfl, ow, p, k⟩)
  · exact ⟨rfl, .inl ⟨x, by rw [hE.out, a4.out, pbind_r, h5.out, pbind_r, hx]; rfl, rfl, k5.out.trans k⟩⟩
  have h6 : Hid (pT t 131072 (p16 t) r5 = .inr (z, r6)) := hx
  have p6 : Hid (PR w6 Rb B r6 t) := p
  have k6 : Hid (Wr.Kept [B] w w6) := k5.out.trans k
  have s6 : w.heap.size + 1 ≤ w6.heap.size := Nat.le_trans s5 k.2.2.2.1
  have b6 : Hid (w6.heap[w.heap.size]? = some (.cells #[.int .i64 0, .int .i64 0, .int .i64 0, .int .i64 0, .int .i64 0, .int .i64 0, .int .i64 0, .int .i64 0, .int .i64 0, .int .i64 0, .int .i64 0, .int .i64 0, .slice none 0 0, .slice none 0 0, .int .i64 0, .int .i64 0, .int .i64 0, .int .i64 0, .int .i64 0, .int .i64 0, .int .i64 0, .int .i64 0] 50 (0, 0))) := (k.2.2.2.2 _ (lt_of_heap b5.out) (by simp; omega)).trans b5.out
  obtain ⟨wa, lw, cw, rfl, hlw⟩ : ∃ wa lw cw, v = .slice wa lw cw ∧ z.length = lw := by
    obtain ⟨a, c, e, -⟩ := ow.row
    exact ⟨a, _, c, e, rfl⟩
  have lw6 : lw ≤ 131072 := by omega
  have oz6 : Hid (Own .i16 51 w6 (w.heap.size + 1) (.slice wa lw cw) z) := ow.base s5
  clear ow hl hlw
  clear hx p k p5 k5 s5 b5
  go_wp2_with fail
  refine Calls.mono (take_i32 Rb B _ t 1024 _ p6.out (by omega) (by omega)) ?_
  rintro r w7 (⟨x, hx, rfl, k⟩ | ⟨bb, r7, v, hx, hl, rfl, ow, p, k⟩)
  · exact ⟨rfl, .inl ⟨x, by rw [hE.out, a4.out, pbind_r, h5.out, pbind_r, h6.out, pbind_r, hx]; rfl, rfl, k6.out.trans k⟩⟩
  have h7 : Hid (pT t 1024 (p32 t) r6 = .inr (bb, r7)) := hx
  have p7 : Hid (PR w7 Rb B r7 t) := p
  have k7 : Hid (Wr.Kept [B] w w7) := k6.out.trans k
  have s7 : w.heap.size + 1 ≤ w7.heap.size := Nat.le_trans s6 k.2.2.2.1
  have b7 : Hid (w7.heap[w.heap.size]? = some (.cells #[.int .i64 0, .int .i64 0, .int .i64 0, .int .i64 0, .int .i64 0, .int .i64 0, .int .i64 0, .int .i64 0, .int .i64 0, .int .i64 0, .int .i64 0, .int .i64 0, .slice none 0 0, .slice none 0 0, .int .i64 0, .int .i64 0, .int .i64 0, .int .i64 0, .int .i64 0, .int .i64 0, .int .i64 0, .int .i64 0] 50 (0, 0))) := (k.2.2.2.2 _ (lt_of_heap b6.out) (by simp; omega)).trans b6.out
  have oz7 : Hid (Own .i16 51 w7 (w.heap.size + 1) (.slice wa lw cw) z) := own_kept oz6.out k (by omega)
  obtain ⟨ba, lb, cb, rfl, hlb⟩ : ∃ ba lb cb, v = .slice ba lb cb ∧ bb.length = lb := by
    obtain ⟨a, c, e, -⟩ := ow.row
    exact ⟨a, _, c, e, rfl⟩
  have lb7 : lb ≤ 1024 := by omega
  have ob7 : Hid (Own .i32 21 w7 (w.heap.size + 1) (.slice ba lb cb) bb) := ow.base s6
  clear ow hl hlb
  clear hx p k p6 k6 s6 b6 oz6
  go_wp2_with fail
  refine Calls.mono (scale_any Rb B _ t _ p7.out) ?_
  rintro r w8 (⟨x, hx, rfl, k⟩ | ⟨x1, x2, r8, hx, rfl, p, k⟩)
  · exact ⟨rfl, .inl ⟨x, by rw [hE.out, a4.out, pbind_r, h5.out, pbind_r, h6.out, pbind_r, h7.out, pbind_r, hx]; rfl, rfl, k7.out.trans k⟩⟩
  have h8 : Hid (pL (pU t) 2 r7 = .inr ([x1, x2], r8)) := hx
  have p8 : Hid (PR w8 Rb B r8 t) := p
  have k8 : Hid (Wr.Kept [B] w w8) := k7.out.trans k
  have s8 : w.heap.size + 1 ≤ w8.heap.size := Nat.le_trans s7 k.2.2.2.1
  have b8 : Hid (w8.heap[w.heap.size]? = some (.cells #[.int .i64 0, .int .i64 0, .int .i64 0, .int .i64 0, .int .i64 0, .int .i64 0, .int .i64 0, .int .i64 0, .int .i64 0, .int .i64 0, .int .i64 0, .int .i64 0, .slice none 0 0, .slice none 0 0, .int .i64 0, .int .i64 0, .int .i64 0, .int .i64 0, .int .i64 0, .int .i64 0, .int .i64 0, .int .i64 0] 50 (0, 0))) := (k.2.2.2.2 _ (lt_of_heap b7.out) (by simp; omega)).trans b7.out
  have oz8 : Hid (Own .i16 51 w8 (w.heap.size + 1) (.slice wa lw cw) z) := own_kept oz7.out k (by omega)
  have ob8 : Hid (Own .i32 21 w8 (w.heap.size + 1) (.slice ba lb cb) bb) := own_kept ob7.out k (by omega)
  clear hx p k p7 k7 s7 b7 oz7 ob7
  go_wp2_with fail
  refine Calls.mono (scale_any Rb B _ t _ p8.out) ?_
  rintro r w9 (⟨x, hx, rfl, k⟩ | ⟨x3, x4, r9, hx, rfl, p, k⟩)
  · exact ⟨rfl, .inl ⟨x, by rw [hE.out, a4.out, pbind_r, h5.out, pbind_r, h6.out, pbind_r, h7.out, pbind_r, h8.out, pbind_r, hx]; rfl, rfl, k8.out.trans k⟩⟩
  have h9 : Hid (pL (pU t) 2 r8 = .inr ([x3, x4], r9)) := hx
  have p9 : Hid (PR w9 Rb B r9 t) := p
  have k9 : Hid (Wr.Kept [B] w w9) := k8.out.trans k
  have s9 : w.heap.size + 1 ≤ w9.heap.size := Nat.le_trans s8 k.2.2.2.1
  have b9 : Hid (w9.heap[w.heap.size]? = some (.cells #[.int .i64 0, .int .i64 0, .int .i64 0, .int .i64 0, .int .i64 0, .int .i64 0, .int .i64 0, .int .i64 0, .int .i64 0, .int .i64 0, .int .i64 0, .int .i64 0, .slice none 0 0, .slice none 0 0, .int .i64 0, .int .i64 0, .int .i64 0, .int .i64 0, .int .i64 0, .int .i64 0, .int .i64 0, .int .i64 0] 50 (0, 0))) := (k.2.2.2.2 _ (lt_of_heap b8.out) (by simp; omega)).trans b8.out
  have oz9 : Hid (Own .i16 51 w9 (w.heap.size + 1) (.slice wa lw cw) z) := own_kept oz8.out k (by omega)
  have ob9 : Hid (Own .i32 21 w9 (w.heap.size + 1) (.slice ba lb cb) bb) := own_kept ob8.out k (by omega)
  clear hx p k p8 k8 s8 b8 oz8 ob8
  go_wp2_with fail
  refine Calls.mono (whole_any Rb B _ t _ p9.out) ?_
  rintro r w10 (⟨x, hx, rfl, k⟩ | ⟨y1, r10, hx, rfl, p, k⟩)
  · exact ⟨rfl, .inl ⟨x, by rw [hE.out, a4.out, pbind_r, h5.out, pbind_r, h6.out, pbind_r, h7.out, pbind_r, h8.out, pbind_r, h9.out, pbind_r, show pL (p32 t) 4 r9 = .inl x by simp only [pL, pbind, hx]]; rfl, rfl, k9.out.trans k⟩⟩
  have h10 : Hid (p32 t r9 = .inr (y1, r10)) := hx
  have p10 : Hid (PR w10 Rb B r10 t) := p
  have k10 : Hid (Wr.Kept [B] w w10) := k9.out.trans k
  have s10 : w.heap.size + 1 ≤ w10.heap.size := Nat.le_trans s9 k.2.2.2.1
  have b10 : Hid (w10.heap[w.heap.size]? = some (.cells #[.int .i64 0, .int .i64 0, .int .i64 0, .int .i64 0, .int .i64 0, .int .i64 0, .int .i64 0, .int .i64 0, .int .i64 0, .int .i64 0, .int .i64 0, .int .i64 0, .slice none 0 0, .slice none 0 0, .int .i64 0, .int .i64 0, .int .i64 0, .int .i64 0, .int .i64 0, .int .i64 0, .int .i64 0, .int .i64 0] 50 (0, 0))) := (k.2.2.2.2 _ (lt_of_heap b9.out) (by simp; omega)).trans b9.out
  have oz10 : Hid (Own .i16 51 w10 (w.heap.size + 1) (.slice wa lw cw) z) := own_kept oz9.out k (by omega)
  have ob10 : Hid (Own .i32 21 w10 (w.heap.size + 1) (.slice ba lb cb) bb) := own_kept ob9.out k (by omega)
  clear hx p k p9 k9 s9 b9 oz9 ob9
  go_wp2_with fail
  refine Calls.mono (whole_any Rb B _ t _ p10.out) ?_
  rintro r w11 (⟨x, hx, rfl, k⟩ | ⟨y2, r11, hx, rfl, p, k⟩)
  · exact ⟨rfl, .inl ⟨x, by rw [hE.out, a4.out, pbind_r, h5.out, pbind_r, h6.out, pbind_r, h7.out, pbind_r, h8.out, pbind_r, h9.out, pbind_r, show pL (p32 t) 4 r9 = .inl x by simp only [pL, pbind, h10.out, hx]]; rfl, rfl, k10.out.trans k⟩⟩
  have h11 : Hid (p32 t r10 = .inr (y2, r11)) := hx
  have p11 : Hid (PR w11 Rb B r11 t) := p
  have k11 : Hid (Wr.Kept [B] w w11) := k10.out.trans k
  have s11 : w.heap.size + 1 ≤ w11.heap.size := Nat.le_trans s10 k.2.2.2.1
  have b11 : Hid (w11.heap[w.heap.size]? = some (.cells #[.int .i64 0, .int .i64 0, .int .i64 0, .int .i64 0, .int .i64 0, .int .i64 0, .int .i64 0, .int .i64 0, .int .i64 0, .int .i64 0, .int .i64 0, .int .i64 0, .slice none 0 0, .slice none 0 0, .int .i64 0, .int .i64 0, .int .i64 0, .int .i64 0, .int .i64 0, .int .i64 0, .int .i64 0, .int .i64 0] 50 (0, 0))) := (k.2.2.2.2 _ (lt_of_heap b10.out) (by simp; omega)).trans b10.out
  have oz11 : Hid (Own .i16 51 w11 (w.heap.size + 1) (.slice wa lw cw) z) := own_kept oz10.out k (by omega)
  have ob11 : Hid (Own .i32 21 w11 (w.heap.size + 1) (.slice ba lb cb) bb) := own_kept ob10.out k (by omega)
  clear hx p k p10 k10 s10 b10 oz10 ob10
  go_wp2_with fail
  refine Calls.mono (whole_any Rb B _ t _ p11.out) ?_
  rintro r w12 (⟨x, hx, rfl, k⟩ | ⟨y3, r12, hx, rfl, p, k⟩)
  · exact ⟨rfl, .inl ⟨x, by rw [hE.out, a4.out, pbind_r, h5.out, pbind_r, h6.out, pbind_r, h7.out, pbind_r, h8.out, pbind_r, h9.out, pbind_r, show pL (p32 t) 4 r9 = .inl x by simp only [pL, pbind, h10.out, h11.out, hx]]; rfl, rfl, k11.out.trans k⟩⟩
  have h12 : Hid (p32 t r11 = .inr (y3, r12)) := hx
  have p12 : Hid (PR w12 Rb B r12 t) := p
  have k12 : Hid (Wr.Kept [B] w w12) := k11.out.trans k
  have s12 : w.heap.size + 1 ≤ w12.heap.size := Nat.le_trans s11 k.2.2.2.1
  have b12 : Hid (w12.heap[w.heap.size]? = some (.cells #[.int .i64 0, .int .i64 0, .int .i64 0, .int .i64 0, .int .i64 0, .int .i64 0, .int .i64 0, .int .i64 0, .int .i64 0, .int .i64 0, .int .i64 0, .int .i64 0, .slice none 0 0, .slice none 0 0, .int .i64 0, .int .i64 0, .int .i64 0, .int .i64 0, .int .i64 0, .int .i64 0, .int .i64 0, .int .i64 0] 50 (0, 0))) := (k.2.2.2.2 _ (lt_of_heap b11.out) (by simp; omega)).trans b11.out
  have oz12 : Hid (Own .i16 51 w12 (w.heap.size + 1) (.slice wa lw cw) z) := own_kept oz11.out k (by omega)
  have ob12 : Hid (Own .i32 21 w12 (w.heap.size + 1) (.slice ba lb cb) bb) := own_kept ob11.out k (by omega)
  clear hx p k p11 k11 s11 b11 oz11 ob11
  go_wp2_with fail
  refine Calls.mono (whole_any Rb B _ t _ p12.out) ?_
  rintro r w13 (⟨x, hx, rfl, k⟩ | ⟨y4, r13, hx, rfl, p, k⟩)
  · exact ⟨rfl, .inl ⟨x, by rw [hE.out, a4.out, pbind_r, h5.out, pbind_r, h6.out, pbind_r, h7.out, pbind_r, h8.out, pbind_r, h9.out, pbind_r, show pL (p32 t) 4 r9 = .inl x by simp only [pL, pbind, h10.out, h11.out, h12.out, hx]]; rfl, rfl, k12.out.trans k⟩⟩
  have h13 : Hid (p32 t r12 = .inr (y4, r13)) := hx
  have p13 : Hid (PR w13 Rb B r13 t) := p
  have k13 : Hid (Wr.Kept [B] w w13) := k12.out.trans k
  have s13 : w.heap.size + 1 ≤ w13.heap.size := Nat.le_trans s12 k.2.2.2.1
  have b13 : Hid (w13.heap[w.heap.size]? = some (.cells #[.int .i64 0, .int .i64 0, .int .i64 0, .int .i64 0, .int .i64 0, .int .i64 0, .int .i64 0, .int .i64 0, .int .i64 0, .int .i64 0, .int .i64 0, .int .i64 0, .slice none 0 0, .slice none 0 0, .int .i64 0, .int .i64 0, .int .i64 0, .int .i64 0, .int .i64 0, .int .i64 0, .int .i64 0, .int .i64 0] 50 (0, 0))) := (k.2.2.2.2 _ (lt_of_heap b12.out) (by simp; omega)).trans b12.out
  have oz13 : Hid (Own .i16 51 w13 (w.heap.size + 1) (.slice wa lw cw) z) := own_kept oz12.out k (by omega)
  have ob13 : Hid (Own .i32 21 w13 (w.heap.size + 1) (.slice ba lb cb) bb) := own_kept ob12.out k (by omega)
  clear hx p k p12 k12 s12 b12 oz12 ob12
  have hP : Hid (pOp t zs = .inr (dOp (oL v1 v2 v3 v4 u1 u2 u3 u4 u5 u6 u7 u8 lw lb x1 x2 x3 x4 y1 y2 y3 y4) z bb, r13)) := by
    unfold Hid
    rw [hE.out, a4.out, pbind_r, h5.out, pbind_r, h6.out, pbind_r, h7.out, pbind_r, h8.out, pbind_r, h9.out, pbind_r, show pL (p32 t) 4 r9 = .inr ([y1, y2, y3, y4], r13) by simp only [pL, pbind, h10.out, h11.out, h12.out, h13.out]]
    rfl
  have q : Hid (PR (w13.setRow w.heap.size #[.int .i64 v1, .int .i64 v2, .int .i64 v3, .int .i64 v4, .int .i64 u1, .int .i64 u2, .int .i64 u3, .int .i64 u4, .int .i64 u5, .int .i64 u6, .int .i64 u7, .int .i64 u8, .slice wa lw cw, .slice ba lb cb, .int .i64 x1, .int .i64 x2, .int .i64 x3, .int .i64 x4, .int .i64 y1, .int .i64 y2, .int .i64 y3, .int .i64 y4]) Rb B r13 t ∧ Wr.Kept [B] w (w13.setRow w.heap.size #[.int .i64 v1, .int .i64 v2, .int .i64 v3, .int .i64 v4, .int .i64 u1, .int .i64 u2, .int .i64 u3, .int .i64 u4, .int .i64 u5, .int .i64 u6, .int .i64 u7, .int .i64 u8, .slice wa lw cw, .slice ba lb cb, .int .i64 x1, .int .i64 x2, .int .i64 x3, .int .i64 x4, .int .i64 y1, .int .i64 y2, .int .i64 y3, .int .i64 y4]) ∧ (w13.setRow w.heap.size #[.int .i64 v1, .int .i64 v2, .int .i64 v3, .int .i64 v4, .int .i64 u1, .int .i64 u2, .int .i64 u3, .int .i64 u4, .int .i64 u5, .int .i64 u6, .int .i64 u7, .int .i64 u8, .slice wa lw cw, .slice ba lb cb, .int .i64 x1, .int .i64 x2, .int .i64 x3, .int .i64 x4, .int .i64 y1, .int .i64 y2, .int .i64 y3, .int .i64 y4]).heap[w.heap.size]? = some (.cells #[.int .i64 v1, .int .i64 v2, .int .i64 v3, .int .i64 v4, .int .i64 u1, .int .i64 u2, .int .i64 u3, .int .i64 u4, .int .i64 u5, .int .i64 u6, .int .i64 u7, .int .i64 u8, .slice wa lw cw, .slice ba lb cb, .int .i64 x1, .int .i64 x2, .int .i64 x3, .int .i64 x4, .int .i64 y1, .int .i64 y2, .int .i64 y3, .int .i64 y4] 50 (0, 0))) := ⟨p13.out.keep (below_row hlt), kept_row k13.out (Nat.le_refl _), setRow_heap _ _ _ _ _ _ b13.out⟩
  have qz : Hid (Own .i16 51 (w13.setRow w.heap.size #[.int .i64 v1, .int .i64 v2, .int .i64 v3, .int .i64 v4, .int .i64 u1, .int .i64 u2, .int .i64 u3, .int .i64 u4, .int .i64 u5, .int .i64 u6, .int .i64 u7, .int .i64 u8, .slice wa lw cw, .slice ba lb cb, .int .i64 x1, .int .i64 x2, .int .i64 x3, .int .i64 x4, .int .i64 y1, .int .i64 y2, .int .i64 y3, .int .i64 y4]) (w.heap.size + 1) (.slice wa lw cw) z) := own_row oz13.out (by omega)
  have qb : Hid (Own .i32 21 (w13.setRow w.heap.size #[.int .i64 v1, .int .i64 v2, .int .i64 v3, .int .i64 v4, .int .i64 u1, .int .i64 u2, .int .i64 u3, .int .i64 u4, .int .i64 u5, .int .i64 u6, .int .i64 u7, .int .i64 u8, .slice wa lw cw, .slice ba lb cb, .int .i64 x1, .int .i64 x2, .int .i64 x3, .int .i64 x4, .int .i64 y1, .int .i64 y2, .int .i64 y3, .int .i64 y4]) (w.heap.size + 1) (.slice ba lb cb) bb) := own_row ob13.out (by omega)
  have bn := b13.out
  clear p13 k13 b13 oz13 ob13 hE a4 h5 h6 h7 h8 h9 h10 h11 h12 h13
  go_wp2_with (refine wpList_store_row rfl 50 (.tmp 2) (.tmp 29) rfl w.heap.size #[.int .i64 v1, .int .i64 v2, .int .i64 v3, .int .i64 v4, .int .i64 u1, .int .i64 u2, .int .i64 u3, .int .i64 u4, .int .i64 u5, .int .i64 u6, .int .i64 u7, .int .i64 u8, .slice wa lw cw, .slice ba lb cb, .int .i64 x1, .int .i64 x2, .int .i64 x3, .int .i64 x4, .int .i64 y1, .int .i64 y2, .int .i64 y3, .int .i64 y4] rfl rfl 50 _ bn (by kernel_rfl) rfl (by simp [Value.oneCell']) ?_)
  exact bodyPost_ret (results_cell_row Try.results76 _ _ w.heap.size 50 _ (0, 0) _ rfl q.out.2.2 Try.underlying50 rfl (by kernel_rfl)) rfl (.inr ⟨oL v1 v2 v3 v4 u1 u2 u3 u4 u5 u6 u7 u8 lw lb x1 x2 x3 x4 y1 y2 y3 y4, z, bb, wa, lw, cw, ba, lb, cb, _, hP.out, rfl, rfl, lw6, lb7, rfl, qz.out, qb.out, q.out.1, q.out.2.1⟩)
end Go.Proofs.Ythagdpiocmcbmaa
