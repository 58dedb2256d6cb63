/- The document's in of layer 16: plans, lists of plans. -/
import Derived.Test.YthlnhodfgmpabaaSdB
import Derived.Test.YthlnhodfgmpabaaSelL
namespace Go.Proofs.Ythlnhodfgmpabaa.Sl
open Wr
open Go.ChangeShapes Go.WideShapes Go.ChangeAt Go.RowKit
set_option linter.unusedVariables false
theorem below_set {w : World} {b N i : Nat} {v : Value} (hb : b < N) : Below (b + 1) w (w.setCell ⟨N, i, none⟩ v) :=
  ⟨rfl, rfl, rfl, by simp, fun k hk => Below.heap_setCell _ _ _ _ (fun e => by simp at e; omega)⟩
theorem kept_set {w wn : World} {L : List Nat} {N i : Nat} {v : Value} (k : Wr.Kept L w wn) (hN : w.heap.size ≤ N) : Wr.Kept L w (wn.setCell ⟨N, i, none⟩ v) :=
  ⟨k.1, k.2.1, k.2.2.1, by simpa using k.2.2.2.1, fun j hj hB => (Below.heap_setCell _ _ _ _ (fun e => by simp at e; omega)).trans (k.2.2.2.2 j hj hB)⟩
set_option maxHeartbeats 4000000 in
set_option maxRecDepth 100000 in
theorem inplan_any (P : Nat) (o : Int) (s0 : Sum (Int × Int) (List Int)) (w : World) (h : InQ w P o s0) :
    Calls Try.prog 51 #[(.pointer (some ⟨P, 0, none⟩))] w fun r w' => ∃ v1 v2 v3 v4 v5 v6 s', r = .returned (.agg #[.int .i64 v1, .int .i64 v2, .int .i64 v3, .int .i64 v4, .int .i64 v5, .int .i64 v6]) ∧ Stp (pPl o) s0 (v1, v2, v3, v4, v5, v6) s' ∧ InQ w' P o s' ∧ Wr.Kept [P] w w' := by
  have hlt := h.lt
  have p0 : Hid (InQ ((w.alloc (.cells #[.int .i64 0, .int .i64 0, .int .i64 0, .int .i64 0, .int .i64 0, .int .i64 0] 47)).alloc (.cells #[.int .i64 0, .int .i64 0, .int .i64 0, .int .i64 0, .int .i64 0, .int .i64 0] 47)) P o s0) := (h.al _).al _
  have k0 : Hid (Wr.Kept [P] w ((w.alloc (.cells #[.int .i64 0, .int .i64 0, .int .i64 0, .int .i64 0, .int .i64 0, .int .i64 0] 47)).alloc (.cells #[.int .i64 0, .int .i64 0, .int .i64 0, .int .i64 0, .int .i64 0, .int .i64 0] 47))) := (Kept.of (bal _ _)).trans (Kept.of (bal _ _))
  have b0 : Hid ((((w.alloc (.cells #[.int .i64 0, .int .i64 0, .int .i64 0, .int .i64 0, .int .i64 0, .int .i64 0] 47)).alloc (.cells #[.int .i64 0, .int .i64 0, .int .i64 0, .int .i64 0, .int .i64 0, .int .i64 0] 47))).heap[w.heap.size]? = some (.cells #[.int .i64 0, .int .i64 0, .int .i64 0, .int .i64 0, .int .i64 0, .int .i64 0] 47 (0, 0))) := ((bal (w.alloc (.cells #[.int .i64 0, .int .i64 0, .int .i64 0, .int .i64 0, .int .i64 0, .int .i64 0] 47)) _).block _ (by simp)).trans (heap_alloc_new w _)
  have d0 : Hid ((((w.alloc (.cells #[.int .i64 0, .int .i64 0, .int .i64 0, .int .i64 0, .int .i64 0, .int .i64 0] 47)).alloc (.cells #[.int .i64 0, .int .i64 0, .int .i64 0, .int .i64 0, .int .i64 0, .int .i64 0] 47))).heap[(w.heap.size + 1)]? = some (.cells #[.int .i64 0, .int .i64 0, .int .i64 0, .int .i64 0, .int .i64 0, .int .i64 0] 47 (0, 0))) := by
    have := heap_alloc_new (w.alloc (.cells #[.int .i64 0, .int .i64 0, .int .i64 0, .int .i64 0, .int .i64 0, .int .i64 0] 47)) (.cells #[.int .i64 0, .int .i64 0, .int .i64 0, .int .i64 0, .int .i64 0, .int .i64 0] 47)
    rw [show (w.alloc (.cells #[.int .i64 0, .int .i64 0, .int .i64 0, .int .i64 0, .int .i64 0, .int .i64 0] 47)).heap.size = w.heap.size + 1 by simp] at this
    exact this
  clear h
  go_enter Try.func51, Try.ntmps51
  go_wp2_with fail
  refine Calls.mono (inU_any P o _ _ p0.out) ?_
  rintro r w1 ⟨v1, s1, rfl, st, p, k⟩
  have h1 : Hid (Stp (pU o) s0 v1 s1) := st
  have d1' := (k.2.2.2.2 _ (lt_of_heap d0.out) (by simp; omega)).trans d0.out
  have p1 : Hid (InQ (w1.setCell ⟨(w.heap.size + 1), 0, none⟩ (.int .i64 v1)) P o s1) := p.keep (below_set (by omega))
  have k1 : Hid (Wr.Kept [P] w (w1.setCell ⟨(w.heap.size + 1), 0, none⟩ (.int .i64 v1))) := kept_set (k0.out.trans k) (by omega)
  have b1 : Hid (((w1.setCell ⟨(w.heap.size + 1), 0, none⟩ (.int .i64 v1))).heap[w.heap.size]? = some (.cells #[.int .i64 0, .int .i64 0, .int .i64 0, .int .i64 0, .int .i64 0, .int .i64 0] 47 (0, 0))) := (Below.heap_setCell _ _ _ _ (by simp)).trans ((k.2.2.2.2 _ (lt_of_heap b0.out) (by simp; omega)).trans b0.out)
  have d1 : Hid (((w1.setCell ⟨(w.heap.size + 1), 0, none⟩ (.int .i64 v1))).heap[(w.heap.size + 1)]? = some (.cells #[.int .i64 v1, .int .i64 0, .int .i64 0, .int .i64 0, .int .i64 0, .int .i64 0] 47 (0, 0))) := set_at d1'
  obtain ⟨cB, fB, zB⟩ := cells_at d1'
  clear st p k p0 k0 b0 d0 d1'
  go_wp2_with fail
  refine Calls.mono (inU_any P o _ _ p1.out) ?_
  rintro r w2 ⟨v2, s2, rfl, st, p, k⟩
  have h2 : Hid (Stp (pU o) s1 v2 s2) := st
  have d2' := (k.2.2.2.2 _ (lt_of_heap d1.out) (by simp; omega)).trans d1.out
  have p2 : Hid (InQ (w2.setCell ⟨(w.heap.size + 1), 1, none⟩ (.int .i64 v2)) P o s2) := p.keep (below_set (by omega))
  have k2 : Hid (Wr.Kept [P] w (w2.setCell ⟨(w.heap.size + 1), 1, none⟩ (.int .i64 v2))) := kept_set (k1.out.trans k) (by omega)
  have b2 : Hid (((w2.setCell ⟨(w.heap.size + 1), 1, none⟩ (.int .i64 v2))).heap[w.heap.size]? = some (.cells #[.int .i64 0, .int .i64 0, .int .i64 0, .int .i64 0, .int .i64 0, .int .i64 0] 47 (0, 0))) := (Below.heap_setCell _ _ _ _ (by simp)).trans ((k.2.2.2.2 _ (lt_of_heap b1.out) (by simp; omega)).trans b1.out)
  have d2 : Hid (((w2.setCell ⟨(w.heap.size + 1), 1, none⟩ (.int .i64 v2))).heap[(w.heap.size + 1)]? = some (.cells #[.int .i64 v1, .int .i64 v2, .int .i64 0, .int .i64 0, .int .i64 0, .int .i64 0] 47 (0, 0))) := set_at d2'
  clear cB fB zB
  obtain ⟨cB, fB, zB⟩ := cells_at d2'
  clear st p k p1 k1 b1 d1 d2'
  go_wp2_with fail
  refine Calls.mono (inspan_any P o _ _ p2.out) ?_
  rintro r w3 ⟨v3, v4, s3, rfl, st, p, k⟩
  have h3 : Hid (Stp (pSp o) s2 (v3, v4) s3) := st
  have d3' := (k.2.2.2.2 _ (lt_of_heap d2.out) (by simp; omega)).trans d2.out
  have p3 : Hid (InQ ((w3.setCell ⟨(w.heap.size + 1), 2, none⟩ (.int .i64 v3)).setCell ⟨(w.heap.size + 1), 3, none⟩ (.int .i64 v4)) P o s3) := (p.keep (below_set (by omega))).keep (below_set (by omega))
  have k3 : Hid (Wr.Kept [P] w ((w3.setCell ⟨(w.heap.size + 1), 2, none⟩ (.int .i64 v3)).setCell ⟨(w.heap.size + 1), 3, none⟩ (.int .i64 v4))) := kept_set (kept_set (k2.out.trans k) (by omega)) (by omega)
  have b3 : Hid ((((w3.setCell ⟨(w.heap.size + 1), 2, none⟩ (.int .i64 v3)).setCell ⟨(w.heap.size + 1), 3, none⟩ (.int .i64 v4))).heap[w.heap.size]? = some (.cells #[.int .i64 0, .int .i64 0, .int .i64 0, .int .i64 0, .int .i64 0, .int .i64 0] 47 (0, 0))) := (Below.heap_setCell _ _ _ _ (by simp)).trans ((Below.heap_setCell _ _ _ _ (by simp)).trans ((k.2.2.2.2 _ (lt_of_heap b2.out) (by simp; omega)).trans b2.out))
  have d3 : Hid ((((w3.setCell ⟨(w.heap.size + 1), 2, none⟩ (.int .i64 v3)).setCell ⟨(w.heap.size + 1), 3, none⟩ (.int .i64 v4))).heap[(w.heap.size + 1)]? = some (.cells #[.int .i64 v1, .int .i64 v2, .int .i64 v3, .int .i64 v4, .int .i64 0, .int .i64 0] 47 (0, 0))) := set_at (set_at d3')
  clear cB fB zB
  obtain ⟨cB, fB, zB⟩ := cells_at d3'
  clear st p k p2 k2 b2 d2 d3'
  go_wp2_with fail
  refine Calls.mono (inspan_any P o _ _ p3.out) ?_
  rintro r w4 ⟨v5, v6, s4, rfl, st, p, k⟩
  have h4 : Hid (Stp (pSp o) s3 (v5, v6) s4) := st
  have d4' := (k.2.2.2.2 _ (lt_of_heap d3.out) (by simp; omega)).trans d3.out
  have p4 : Hid (InQ ((w4.setCell ⟨(w.heap.size + 1), 4, none⟩ (.int .i64 v5)).setCell ⟨(w.heap.size + 1), 5, none⟩ (.int .i64 v6)) P o s4) := (p.keep (below_set (by omega))).keep (below_set (by omega))
  have k4 : Hid (Wr.Kept [P] w ((w4.setCell ⟨(w.heap.size + 1), 4, none⟩ (.int .i64 v5)).setCell ⟨(w.heap.size + 1), 5, none⟩ (.int .i64 v6))) := kept_set (kept_set (k3.out.trans k) (by omega)) (by omega)
  have b4 : Hid ((((w4.setCell ⟨(w.heap.size + 1), 4, none⟩ (.int .i64 v5)).setCell ⟨(w.heap.size + 1), 5, none⟩ (.int .i64 v6))).heap[w.heap.size]? = some (.cells #[.int .i64 0, .int .i64 0, .int .i64 0, .int .i64 0, .int .i64 0, .int .i64 0] 47 (0, 0))) := (Below.heap_setCell _ _ _ _ (by simp)).trans ((Below.heap_setCell _ _ _ _ (by simp)).trans ((k.2.2.2.2 _ (lt_of_heap b3.out) (by simp; omega)).trans b3.out))
  have d4 : Hid ((((w4.setCell ⟨(w.heap.size + 1), 4, none⟩ (.int .i64 v5)).setCell ⟨(w.heap.size + 1), 5, none⟩ (.int .i64 v6))).heap[(w.heap.size + 1)]? = some (.cells #[.int .i64 v1, .int .i64 v2, .int .i64 v3, .int .i64 v4, .int .i64 v5, .int .i64 v6] 47 (0, 0))) := set_at (set_at d4')
  clear cB fB zB
  obtain ⟨cB, fB, zB⟩ := cells_at d4'
  clear st p k p3 k3 b3 d3 d4'
  have hP : Hid (Stp (pPl o) s0 (v1, v2, v3, v4, v5, v6) s4) := h1.out.bind (h2.out.bind (h3.out.bind (h4.out.last fun q => ((v1, v2, v3, v4, q.1, q.2) : Pl))))
  obtain ⟨w5, hw5⟩ : ∃ w5, w5 = ((w4.setCell ⟨(w.heap.size + 1), 4, none⟩ (.int .i64 v5)).setCell ⟨(w.heap.size + 1), 5, none⟩ (.int .i64 v6)) := ⟨_, rfl⟩
  rw [← hw5] at p4 k4 b4 d4
  have q : Hid (InQ (w5.setRow w.heap.size #[.int .i64 v1, .int .i64 v2, .int .i64 v3, .int .i64 v4, .int .i64 v5, .int .i64 v6]) P o s4 ∧ Wr.Kept [P] w (w5.setRow w.heap.size #[.int .i64 v1, .int .i64 v2, .int .i64 v3, .int .i64 v4, .int .i64 v5, .int .i64 v6]) ∧ (w5.setRow w.heap.size #[.int .i64 v1, .int .i64 v2, .int .i64 v3, .int .i64 v4, .int .i64 v5, .int .i64 v6]).heap[w.heap.size]? = some (.cells #[.int .i64 v1, .int .i64 v2, .int .i64 v3, .int .i64 v4, .int .i64 v5, .int .i64 v6] 47 (0, 0))) := ⟨p4.out.keep (below_row hlt), kept_row k4.out (Nat.le_refl _), setRow_heap _ _ _ _ _ _ b4.out⟩
  have bn := b4.out
  have dn := d4.out
  clear p4 k4 b4 d4 h1 h2 h3 h4
  go_upto_region 6 with fail
  rw [← hw5]
  clear hw5 cB fB zB
  go_wp2_with (first
    | (refine wpList_load_row rfl 47 (.tmp 3) rfl (w.heap.size + 1) rfl 47 _ (0, 0) _ dn Try.underlying47 rfl (by kernel_rfl) ?_)
    | (refine wpList_store_row rfl 47 (.tmp 2) (.tmp 16) rfl w.heap.size #[.int .i64 v1, .int .i64 v2, .int .i64 v3, .int .i64 v4, .int .i64 v5, .int .i64 v6] rfl rfl 47 _ bn (by kernel_rfl) rfl (by simp [Value.oneCell']) ?_))
  exact bodyPost_ret (results_cell_row Try.results51 _ _ w.heap.size 47 _ (0, 0) _ rfl q.out.2.2 Try.underlying47 rfl (by kernel_rfl)) rfl ⟨_, _, _, _, _, _, _, rfl, hP.out, q.out.1, q.out.2.1⟩
/-- Where the document's in is, written. -/
theorem InR.ch {w : World} {P : Nat} {zs : List Int} {f o qe qt o' c : Int} (h : InR w P zs f o qe qt) (h1 : o' / 4096 = o / 4096) (h2 : o' % 4096 = c) : InR (w.setCell ⟨P, 3, none⟩ (.int .i64 c)) P zs f o' qe qt := by
  have hnb := h.noB
  obtain ⟨a, len, cap, g1, g2, g3⟩ := h
  refine ⟨a, len, cap, ?_, g2.kept Kept.set (by simpa using hnb), g3⟩
  rw [h1, h2]
  exact set_at g1
theorem InR.op {w : World} {P : Nat} {zs : List Int} {f o qe qt o' c : Int} (h : InR w P zs f o qe qt) (h1 : o' / 4096 = c) (h2 : o' % 4096 = o % 4096) : InR (w.setCell ⟨P, 2, none⟩ (.int .i64 c)) P zs f o' qe qt := by
  have hnb := h.noB
  obtain ⟨a, len, cap, g1, g2, g3⟩ := h
  refine ⟨a, len, cap, ?_, g2.kept Kept.set (by simpa using hnb), g3⟩
  rw [h1, h2]
  exact set_at g1
theorem InQ.ch {w : World} {P : Nat} {o o' c : Int} {s : Sum (Int × Int) (List Int)} (h : InQ w P o s) (h1 : o' / 4096 = o / 4096) (h2 : o' % 4096 = c) : InQ (w.setCell ⟨P, 3, none⟩ (.int .i64 c)) P o' s := by
  match s, h with
  | .inl x, ⟨hx, zs, f, h⟩ => exact ⟨hx, zs, f, InR.ch h h1 h2⟩
  | .inr zs, h => exact InR.ch h h1 h2
theorem InQ.op {w : World} {P : Nat} {o o' c : Int} {s : Sum (Int × Int) (List Int)} (h : InQ w P o s) (h1 : o' / 4096 = c) (h2 : o' % 4096 = o % 4096) : InQ (w.setCell ⟨P, 2, none⟩ (.int .i64 c)) P o' s := by
  match s, h with
  | .inl x, ⟨hx, zs, f, h⟩ => exact ⟨hx, zs, f, InR.op h h1 h2⟩
  | .inr zs, h => exact InR.op h h1 h2
set_option maxHeartbeats 4000000 in
set_option maxRecDepth 100000 in
theorem inlist_any (P : Nat) (o : Int) (s0 : Sum (Int × Int) (List Int)) (w : World) (h : InQ w P (o * 4096) s0) (ho : 0 ≤ o ∧ o ≤ 1000) :
    Calls Try.prog 29 #[(.pointer (some ⟨P, 0, none⟩))] w fun r w' => ∃ z s' la lc, r = .returned (.slice la z.length lc) ∧ z.length ≤ 1024 ∧ Stp (pLi o) s0 z s' ∧ w'.ownsRow w.heap.size 47 6 (.slice la z.length lc) z.length (z.flatMap pcs) ∧ InQ w' P (o * 4096) s' ∧ Wr.Kept [P] w w' := by
  have hlt := h.lt
  have H : Hid _ := inN_any P (o * 4096) 1024 s0 w h (by omega) (by omega)
  obtain ⟨i0, hi1, hz0, hz1, hz2⟩ := info_parts (show (Try.prog.info? 47).map (fun i => (i.zero, i.size, i.bytes)) = some (some (.agg #[.int .i64 0, .int .i64 0, .int .i64 0, .int .i64 0, .int .i64 0, .int .i64 0]), 6, 48) by kernel_rfl)
  clear h
  go_enter Try.func29, Try.ntmps29
  go_wp2_with fail
  refine Calls.mono H.out ?_
  rintro r w1 ⟨n, s1, rfl, hn, st, p, k⟩
  have h1 : Hid (Stp (pN (o * 4096) 1024) s0 (n : Int) s1) := st
  have p1 : Hid (InQ w1 P (o * 4096) s1 ∧ Wr.Kept [P] w w1) := ⟨p, k⟩
  have hn24 : n ≤ 1024 := by omega
  clear st p k H hn
  go_wp2_with fail
  go_loopw [3, 5] (fun l i wr => ∃ (k : Nat) (z : List Pl) (s : Sum (Int × Int) (List Int)) (tt : Int), k ≤ n ∧ i = .int .i64 k ∧ z.length = k ∧ tt / 4096 = o ∧ Stp (pI (fun k => pPl (o * 4096 + ((k : Int) + 1))) k 0) s1 z s ∧ wr.ownsRow w.heap.size 47 6 l z.length (z.flatMap pcs) ∧ InQ wr P tt s ∧ Wr.Kept [P] w wr) (fun _ i _ => n - (intOf i).toNat)
  case atStart => exact ⟨0, [], s1, o * 4096, Nat.zero_le _, rfl, rfl, by omega, .nilI _, World.ownsRow_nil _ _ _ _, p1.out.1, p1.out.2⟩
  case round =>
    clear p1
    obtain ⟨k, z, s, tt, hk, rfl, hz, htt, hS, hO, hQ, hK⟩ := hrel
    have hsz := hK.2.2.2.1
    rw [hz] at hO
    obtain ⟨la, lc, rfl⟩ := owns_slice hO
    have hz' : Hid (z.length = k) := hz
    have hS' : Hid (Stp (pI (fun k => pPl (o * 4096 + ((k : Int) + 1))) k 0) s1 z s) := hS
    have hO' : Hid (wr.ownsRow w.heap.size 47 6 (.slice la k lc) k (z.flatMap pcs)) := hO
    have hQ' : Hid (InQ wr P tt s) := hQ
    have hK' : Hid (Wr.Kept [P] w wr) := hK
    have htt' : Hid (tt / 4096 = o) := htt
    have EX : Hid ((k = n ∨ ∃ e, s = .inl e) → Stp (pLi o) s0 z s) := fun hx => by
      have e : pI (fun k => pPl (o * 4096 + ((k : Int) + 1))) n 0 = (fun (m : Int) (r : List Int) => pI (fun k => pPl (o * 4096 + ((k : Int) + 1))) m.toNat 0 r) (n : Int) := rfl
      have h7 : Stp (pI (fun k => pPl (o * 4096 + ((k : Int) + 1))) n 0) s1 z s := by rcases hx with rfl | ⟨e, rfl⟩; exact hS; exact hS.moreI hk
      rw [e] at h7
      exact h1.out.bind h7
    have qE : Hid (InQ (wr.setCell ⟨P, 3, none⟩ (.int .i64 0)) P (o * 4096) s) := hQ.ch (by omega) (by omega)
    have oE : Hid ((wr.setCell ⟨P, 3, none⟩ (.int .i64 0)).ownsRow w.heap.size 47 6 (.slice la k lc) k (z.flatMap pcs)) := owns_kept (L := [P]) hO Kept.set (by simpa using hlt)
    have kE : Hid (Wr.Kept [P] w (wr.setCell ⟨P, 3, none⟩ (.int .i64 0))) := hK.trans Kept.set
    obtain ⟨zs, f, qe, qt, hi, hs⟩ := hQ.split
    obtain ⟨ra, rl, rc, hB, -, -⟩ := hi
    obtain ⟨cP, fP, zP⟩ := cells_at hB
    clear hz hS hO hQ hK hB htt
    by_cases hlk : k < n
    · by_cases hqe : qe = 0
      · subst hqe
        have hp1 : Hid (InQ (wr.setCell ⟨P, 3, none⟩ (.int .i64 ((k : Int) + 1))) P (o * 4096 + ((k : Int) + 1)) s) := hQ'.out.ch (by have := htt'.out; omega) (by omega)
        have hO1 : Hid ((wr.setCell ⟨P, 3, none⟩ (.int .i64 ((k : Int) + 1))).ownsRow w.heap.size 47 6 (.slice la k lc) k (z.flatMap pcs)) := owns_kept (L := [P]) hO'.out Kept.set (by simpa using hlt)
        have hK1 : Hid (Wr.Kept [P] w (wr.setCell ⟨P, 3, none⟩ (.int .i64 ((k : Int) + 1)))) := hK'.out.trans Kept.set
        clear EX qE oE kE hs hQ' hK' hO'
        go_wp2_with fail
        refine Calls.mono (inplan_any P _ _ _ hp1.out) ?_
        rintro r w2 ⟨v1, v2, v3, v4, v5, v6, s2, rfl, st, q2, k2⟩
        have hs2 := k2.2.2.2.1
        simp only [World.size_setCell] at hs2
        have own2 := owns_below (owns_kept hO1.out k2 (by simpa using hlt)) (bal w2 (.cells #[.int .i64 v1, .int .i64 v2, .int .i64 v3, .int .i64 v4, .int .i64 v5, .int .i64 v6] 47))
        have hN : Hid (Stp (pI (fun k => pPl (o * 4096 + ((k : Int) + 1))) (k + 1) 0) s1 (z ++ [(v1, v2, v3, v4, v5, v6)]) s2) := hS'.out.snocI (p := (fun k => pPl (o * 4096 + ((k : Int) + 1)))) st
        have hq2 : Hid (InQ w2 P (o * 4096 + ((k : Int) + 1)) s2) := q2
        have hk2 : Hid (Wr.Kept [P] w w2) := hK1.out.trans k2
        clear st q2 k2 hO1 hK1 hp1 cP fP zP hS'
        go_wp2_with (at_builtin; refine wpList_append_own _ rfl (.tmp 26) (.tmp 29) 45 rfl w.heap.size 47 i0 _ 6 48 Try.underlying45 hi1 hz0 hz1 hz2 rfl (by decide) (.slice la k lc) k (z.flatMap pcs) rfl own2 ⟨w2.heap.size, 0, none⟩ 1 1 [.int .i64 v1, .int .i64 v2, .int .i64 v3, .int .i64 v4, .int .i64 v5, .int .i64 v6] rfl rfl (ecells (heap_alloc_new w2 _)) (by simp [Value.oneCell']) (by unfold maxLen; omega) (by omega) (by simp; omega) ?_; intro u3 w3 own3 gr3 nn3)
        have hb3 : Below w.heap.size w2 w3 := ((bal w2 _).mono (by omega)).grown gr3 (by simp; omega) (fun b e => (own2.lt b e).1)
        have hl3 : Hid ((z ++ [(v1, v2, v3, v4, v5, v6)]).length = k + 1) := by unfold Hid; rw [List.length_append, hz'.out]; rfl
        have hR : Hid (w3.ownsRow w.heap.size 47 6 u3 (z ++ [(v1, v2, v3, v4, v5, v6)]).length ((z ++ [(v1, v2, v3, v4, v5, v6)]).flatMap pcs) ∧ InQ w3 P (o * 4096 + ((k : Int) + 1)) s2 ∧ Wr.Kept [P] w w3) := ⟨by rw [hl3.out, flat_snoc]; exact own3, hq2.out.keep (hb3.mono (by omega)), kept_below hk2.out hb3⟩
        clear own3 gr3 nn3 hb3 own2 hq2
        go_wp2
        go_roundw
        case rel => exact ⟨k + 1, z ++ [(v1, v2, v3, v4, v5, v6)], s2, o * 4096 + ((k : Int) + 1), by omega, by go_num, hl3.out, by omega, hN.out, hR.out.1, hR.out.2.1, hR.out.2.2⟩
        case measure => simp [intOf]; omega
      · have hb : (qe == 0) = false := by simpa using hqe
        have EX' : Hid _ := EX.out (.inr (by rcases hs with ⟨rfl, -⟩ | ⟨-, h, -⟩; exact ⟨_, rfl⟩; exact absurd h hqe))
        clear EX hs hqe
        go_wp2
        go_ret
        exact ⟨z, s, la, lc, by rw [hz'.out]; rfl, by rw [hz'.out]; omega, EX'.out, by rw [hz'.out]; exact oE.out, qE.out, kE.out⟩
    · have EX' : Hid _ := EX.out (.inl (by omega))
      clear EX hs
      go_wp2
      go_ret
      exact ⟨z, s, la, lc, by rw [hz'.out]; rfl, by rw [hz'.out]; omega, EX'.out, by rw [hz'.out]; exact oE.out, qE.out, kE.out⟩
end Go.Proofs.Ythlnhodfgmpabaa.Sl
