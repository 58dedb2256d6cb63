/- The reader of package pack: the ops. -/
import Derived.Test.YthagdpiocmcbmaaPckQ
namespace Go.Proofs.Ythagdpiocmcbmaa
open Wr
open Go.ChangeShapes Go.WideShapes Go.ChangeAt Go.RowKit
set_option linter.unusedVariables false
def upA {α : Type} (f : Nat → α) (k : Nat) (x : α) (q : Nat) : α := if q = k then x else f q
theorem upA_same {α : Type} (f : Nat → α) (k : Nat) (x : α) : upA f k x k = x := if_pos rfl
theorem upA_ne {α : Type} (f : Nat → α) {k q : Nat} (x : α) (h : q ≠ k) : upA f k x q = f q := if_neg h
theorem dOps_up (O : Nat → Nat → Int) (Z B : Nat → List Int) (k : Nat) (o : Nat → Int) (z b : List Int) : dOps (upA O k o) (upA Z k z) (upA B k b) (k + 1) = dOps O Z B k ++ [dOp o z b] := by
  rw [dOps_succ, upA_same, upA_same, upA_same]
  congr 1
  unfold dOps
  refine List.map_congr_left fun i hi => ?_
  have : i ≠ k := by have := List.mem_range.1 hi; omega
  rw [upA_ne _ _ this, upA_ne _ _ this, upA_ne _ _ this]
theorem CRow.up {w : World} {base : Nat} {v : Value} {k : Nat} {O : Nat → Nat → Int} {Z B : Nat → List Int} (h : CRow w base v k O Z B) (o : Nat → Int) (z b : List Int) : CRow w base v k (upA O k o) (upA Z k z) (upA B k b) := by
  obtain ⟨xs, h1, h2⟩ := h
  refine ⟨xs, h1, fun q hq => ?_⟩
  have : q ≠ k := by omega
  rw [upA_ne _ _ this, upA_ne _ _ this, upA_ne _ _ this]
  exact h2 q hq
theorem own_keptL {k : IntKind} {T : TypeId} {w w' : World} {base : Nat} {v : Value} {zs : List Int} {L : List Nat} (h : Own k T w base v zs) (q : Wr.Kept L w w') (hL : ∀ i ∈ L, i < base) : Own k T w' base v zs := by
  refine ⟨⟨h.1.1, ?_⟩, h.2⟩
  rcases h.1.2 with h0 | ⟨g, cap, cur, h1, h2, h3, h4⟩
  · exact .inl h0
  · exact .inr ⟨g, cap, cur, h1, h2, (q.2.2.2.2 g (lt_of_heap h3) (fun e => by have := hL g e; omega)).trans h3, h4⟩
theorem CRow.kept {w w' : World} {base : Nat} {v : Value} {i : Nat} {O : Nat → Nat → Int} {Z B : Nat → List Int} {L : List Nat} (h : CRow w base v i O Z B) (q : Wr.Kept L w w') (hL : ∀ i ∈ L, i < base) : CRow w' base v i O Z B := by
  obtain ⟨xs, h1, h2⟩ := h
  refine ⟨xs, ⟨h1.1, ?_⟩, fun r hr => ?_⟩
  · rcases h1.2 with h0 | ⟨g, cap, cur, e1, e2, e3, e4⟩
    · exact .inl h0
    · exact .inr ⟨g, cap, cur, e1, e2, (q.2.2.2.2 g (lt_of_heap e3) (fun e => by have := hL g e; omega)).trans e3, e4⟩
  · obtain ⟨wa, lw, cw, ba, lb, cb, e1, e2, e3, e4, e5, e6⟩ := h2 r hr
    exact ⟨wa, lw, cw, ba, lb, cb, e1, e2, e3, own_keptL e4 q hL, own_keptL e5 q hL, e6⟩
theorem kept_belowL {w w1 w2 : World} {L : List Nat} (k : Wr.Kept L w w1) (h : Below w.heap.size w1 w2) : Wr.Kept L w w2 :=
  ⟨h.os.trans k.1, h.tape.trans k.2.1, h.output.trans k.2.2.1, Nat.le_trans k.2.2.2.1 h.size, fun i hi hB => (h.block i hi).trans (k.2.2.2.2 i hi hB)⟩
theorem prc_noB {w : World} {Rb B : Nat} {t : Int} (h : PRc w Rb B t) : NoB w Rb := by
  refine ⟨_, _, h, fun i v e => ?_⟩
  match i, e with
  | 0, e => simp at e
  | 1, e => simp at e
  | n + 2, e => simp at e
/-- The op within which a reader is. -/
theorem PR.op {w : World} {Rb B : Nat} {zs : List Int} {t : Int} (h : PR w Rb B zs t) (t' : Int) : PR (w.setCell ⟨Rb, 1, none⟩ (.int .i64 t')) Rb B zs t' := by
  have hne := h.ne
  obtain ⟨h1, ⟨a, len, cap, h2, h3, h4⟩, h5⟩ := h
  exact ⟨heap_setCell_at h1, ⟨a, len, cap, by rw [Below.heap_setCell _ _ _ _ (fun e => hne e.symm)]; exact h2, h3.kept Kept.set (by simpa using prc_noB h1), h4⟩, h5⟩
def preO (d : List OpD) (x : Sum (Int × Int) (List OpD × List Int)) : Sum (Int × Int) (List OpD × List Int) := pbind x fun l r => .inr (d ++ l, r)
theorem preO_nil (x : Sum (Int × Int) (List OpD × List Int)) : preO [] x = x := by
  match x with
  | .inl e => rfl
  | .inr (l, r) => rfl
theorem preO_ok {d : List OpD} {r rs : List Int} {n k : Nat} {v : OpD} (h : pOp ((k : Int) + 1) r = .inr (v, rs)) : preO d (pOps (n + 1) k r) = preO (d ++ [v]) (pOps n (k + 1) rs) := by
  unfold preO
  rw [pOps, h, pbind_r]
  match pOps n (k + 1) rs with
  | .inl e => rfl
  | .inr (l, r') => simp [pbind]
theorem preO_bad {d : List OpD} {r : List Int} {n k : Nat} {x : Int × Int} (h : pOp ((k : Int) + 1) r = .inl x) : preO d (pOps (n + 1) k r) = .inl x := by
  unfold preO
  rw [pOps, h]; rfl
def pTO (zs : List Int) : Sum (Int × Int) (List OpD × List Int) := pbind (pN 0 64 zs) fun n r => pOps n.toNat 0 r
set_option maxHeartbeats 4000000 in
set_option maxRecDepth 100000 in
theorem rops_any (Rb B : Nat) (zs : List Int) (w : World) (h : PR w Rb B zs 0) :
    Calls Try.prog 53 #[(.pointer (some ⟨Rb, 0, none⟩))] w fun r w' => (∃ x, pTO zs = .inl x ∧ r = fpan x.1 x.2 ∧ Wr.Kept [B, Rb] w w') ∨
      ∃ (n : Nat) (O : Nat → Nat → Int) (Z Bs : Nat → List Int) (v : Value) (rs : List Int), pTO zs = .inr (dOps O Z Bs n, rs) ∧ n ≤ 64 ∧ r = .returned v ∧ CRow w' w.heap.size v n O Z Bs ∧ PR w' Rb B rs 0 ∧ Wr.Kept [B, Rb] w w' := by
  have hlt := h.ltB
  have hRB := h.2.2
  have H : Hid _ := rcount_any Rb B zs 0 64 w h (by omega) (by omega)
  clear h
  go_enter Try.func53, Try.ntmps53
  go_wp2_with fail
  refine Calls.mono H.out ?_
  rintro r w1 (⟨x, hx, rfl, k⟩ | ⟨n, r0, hx, hn, rfl, p, k⟩)
  · exact ⟨rfl, .inl ⟨x, by simp only [pTO, pbind, hx], rfl, k.wide (by simp)⟩⟩
  have hP : Hid (pTO zs = preO [] (pOps n 0 r0)) := by simp only [Hid, pTO, hx, pbind_r, Int.toNat_natCast, preO_nil]
  have hp0 : Hid (PR w1 Rb B r0 0 ∧ Wr.Kept [B, Rb] w w1) := ⟨p, k.wide (by simp)⟩
  have hn64 : n ≤ 64 := by omega
  clear hx p k H hn
  go_wp2
  go_loopw [3, 7] (fun l i wr => ∃ (k : Nat) (O : Nat → Nat → Int) (Z Bs : Nat → List Int) (rs : List Int) (tt : Int), k ≤ n ∧ i = .int .i64 k ∧ preO [] (pOps n 0 r0) = preO (dOps O Z Bs k) (pOps (n - k) k rs) ∧ CRow wr w.heap.size l k O Z Bs ∧ PR wr Rb B rs tt ∧ Wr.Kept [B, Rb] w wr) (fun _ i _ => n - (intOf i).toNat)
  case atStart => exact ⟨0, fun _ _ => 0, fun _ => [], fun _ => [], r0, 0, Nat.zero_le _, rfl, rfl, CRow.nil _ _ _ _ _, hp0.out.1, hp0.out.2⟩
  case round =>
    obtain ⟨k, O, Z, Bs, rs, tt, hk, rfl, hE, hC, hp, hK⟩ := hrel
    have hsz := hK.2.2.2.1
    have hE' : Hid (preO [] (pOps n 0 r0) = preO (dOps O Z Bs k) (pOps (n - k) k rs)) := hE
    have hK' : Hid (Wr.Kept [B, Rb] w wr) := hK
    obtain ⟨la, lc, rfl⟩ := hC.slice
    have hC' : Hid (CRow wr w.heap.size (.slice la k lc) k O Z Bs) := hC
    obtain ⟨c1, f1, y1⟩ := cells_at hp.1
    clear hE hK hC hp0
    by_cases hlk : k < n
    · obtain ⟨m, hm⟩ : ∃ m, n - k = m + 1 := ⟨n - k - 1, by omega⟩
      have hm' : Hid (n - k = m + 1) := hm
      have hp1 := hp.op ((k : Int) + 1)
      have H : Hid _ := oneop_any Rb B rs ((k : Int) + 1) _ hp1
      have hC1 : Hid (CRow (wr.setCell ⟨Rb, 1, none⟩ (.int .i64 ((k : Int) + 1))) w.heap.size (.slice la k lc) k O Z Bs) := hC'.out.kept (L := [Rb]) Kept.set (by simp; omega)
      have hK1 : Hid (Wr.Kept [B, Rb] w (wr.setCell ⟨Rb, 1, none⟩ (.int .i64 ((k : Int) + 1)))) := hK'.out.trans ((Kept.set (B := Rb)).wide (by simp))
      clear hp hp1 hm hK' hC'
      go_wp2_with fail
      refine Calls.mono H.out ?_
      rintro r w2 (⟨x, hx, rfl, k2⟩ | ⟨o, z, b, wa, lw, cw, ba, lb, cb, r2, hx, o12, o13, l1, l2, rfl, oz, ob, p2, k2⟩)
      · exact ⟨rfl, .inl ⟨x, by rw [hP.out, hE'.out, hm'.out]; exact preO_bad hx, rfl, hK1.out.trans (k2.wide (by simp))⟩⟩
      have hs2 := k2.2.2.2.1
      simp only [World.size_setCell] at hs2 oz ob
      have hbw : Hid (Below w2.heap.size w2 (w2.alloc (.cells #[.int .i64 (o 0), .int .i64 (o 1), .int .i64 (o 2), .int .i64 (o 3), .int .i64 (o 4), .int .i64 (o 5), .int .i64 (o 6), .int .i64 (o 7), .int .i64 (o 8), .int .i64 (o 9), .int .i64 (o 10), .int .i64 (o 11), .slice wa lw cw, .slice ba lb cb, .int .i64 (o 14), .int .i64 (o 15), .int .i64 (o 16), .int .i64 (o 17), .int .i64 (o 18), .int .i64 (o 19), .int .i64 (o 20), .int .i64 (o 21)] 50))) := bal _ _
      have hC2 := (((hC1.out.kept (k2.wide (M := [B, Rb]) (by simp)) (by simp; omega)).below hbw.out).up o z b)
      obtain ⟨xs, hxs, hall⟩ := hC2
      have HX : Hid (World.ownsRow _ _ _ _ _ _ _) := hxs
      have HA : Hid (∀ q, q < k → _) := hall
      have HCC : Hid (CRow _ _ _ _ _ _ _) := ⟨xs, hxs, hall⟩
      have HZ : Hid (Own .i16 51 (w2.alloc (.cells #[.int .i64 (o 0), .int .i64 (o 1), .int .i64 (o 2), .int .i64 (o 3), .int .i64 (o 4), .int .i64 (o 5), .int .i64 (o 6), .int .i64 (o 7), .int .i64 (o 8), .int .i64 (o 9), .int .i64 (o 10), .int .i64 (o 11), .slice wa lw cw, .slice ba lb cb, .int .i64 (o 14), .int .i64 (o 15), .int .i64 (o 16), .int .i64 (o 17), .int .i64 (o 18), .int .i64 (o 19), .int .i64 (o 20), .int .i64 (o 21)] 50)) w.heap.size (.slice wa lw cw) (upA Z k z k)) := by rw [upA_same]; exact (oz.base (by omega)).below hbw.out
      have HB : Hid (Own .i32 21 (w2.alloc (.cells #[.int .i64 (o 0), .int .i64 (o 1), .int .i64 (o 2), .int .i64 (o 3), .int .i64 (o 4), .int .i64 (o 5), .int .i64 (o 6), .int .i64 (o 7), .int .i64 (o 8), .int .i64 (o 9), .int .i64 (o 10), .int .i64 (o 11), .slice wa lw cw, .slice ba lb cb, .int .i64 (o 14), .int .i64 (o 15), .int .i64 (o 16), .int .i64 (o 17), .int .i64 (o 18), .int .i64 (o 19), .int .i64 (o 20), .int .i64 (o 21)] 50)) w.heap.size (.slice ba lb cb) (upA Bs k b k)) := by rw [upA_same]; exact (ob.base (by omega)).below hbw.out
      have H12 : Hid (upA O k o k 12 = (lw : Int)) := by rw [upA_same]; exact o12
      have H13 : Hid (upA O k o k 13 = (lb : Int)) := by rw [upA_same]; exact o13
      have hN : Hid (preO [] (pOps n 0 r0) = preO (dOps (upA O k o) (upA Z k z) (upA Bs k b) (k + 1)) (pOps (n - (k + 1)) (k + 1) r2)) := by
        unfold Hid; rw [hE'.out, hm'.out, preO_ok hx, dOps_up, show n - (k + 1) = m by have := hm'.out; omega]
      have hp2 : Hid (PR w2 Rb B r2 ((k : Int) + 1)) := p2
      have hk2 : Hid (Wr.Kept [B, Rb] w w2) := hK1.out.trans (k2.wide (by simp))
      obtain ⟨i0, hi1, hz0, hz1, hz2⟩ := info_parts (show (Try.prog.info? 50).map (fun i => (i.zero, i.size, i.bytes)) = some (some (.agg #[.int .i64 0, .int .i64 0, .int .i64 0, .int .i64 0, .int .i64 0, .int .i64 0, .int .i64 0, .int .i64 0, .int .i64 0, .int .i64 0, .int .i64 0, .int .i64 0, .slice none 0 0, .slice none 0 0, .int .i64 0, .int .i64 0, .int .i64 0, .int .i64 0, .int .i64 0, .int .i64 0, .int .i64 0, .int .i64 0]), 22, 208) by kernel_rfl)
      clear hx p2 k2 H hE' oz ob o12 o13 hxs hall hC1 c1 f1 hK1
      go_wp2_with (at_builtin; refine wpList_append_own _ rfl (.tmp 15) (.tmp 18) 24 rfl w.heap.size 50 i0 _ 22 208 Try.underlying24 hi1 hz0 hz1 hz2 rfl (by decide) (.slice la k lc) k xs rfl HX.out ⟨w2.heap.size, 0, none⟩ 1 1 (opl o wa lw cw ba lb cb) rfl rfl new22 (opl_one _ _ _ _ _ _ _) (by unfold maxLen; omega) (by omega) (by simp; omega) ?_; intro v3 w3 hown hgr hnn)
      have hC3 := HCC.out.add hgr H12.out H13.out HZ.out HB.out (by omega) (by omega) xs HX.out HA.out (by rw [upA_same]; exact hown)
      have hb3 : Below w.heap.size w2 w3 := (hbw.out.mono (by omega)).grown hgr (by simp; omega) (fun b e => (HX.out.lt b e).1)
      have hR : Hid (CRow w3 w.heap.size v3 (k + 1) (upA O k o) (upA Z k z) (upA Bs k b) ∧ PR w3 Rb B r2 ((k : Int) + 1) ∧ Wr.Kept [B, Rb] w w3) := ⟨hC3, hp2.out.keep (hb3.mono (by omega)), kept_belowL hk2.out hb3⟩
      clear hC3 hown hgr hnn hb3 HX HA HCC HZ HB hp2 hbw
      go_wp2
      go_roundw
      case rel => exact ⟨k + 1, _, _, _, r2, _, by omega, by go_num, hN.out, hR.out.1, hR.out.2.1, hR.out.2.2⟩
      case measure => simp [intOf]; omega
    · obtain rfl : k = n := by omega
      have hF : Hid (pTO zs = .inr (dOps O Z Bs k, rs)) := by
        unfold Hid; rw [hP.out, hE'.out, Nat.sub_self]; simp [preO, pOps, pbind]
      have hR : Hid (CRow (wr.setCell ⟨Rb, 1, none⟩ (.int .i64 0)) w.heap.size (.slice la k lc) k O Z Bs ∧ PR (wr.setCell ⟨Rb, 1, none⟩ (.int .i64 0)) Rb B rs 0 ∧ Wr.Kept [B, Rb] w (wr.setCell ⟨Rb, 1, none⟩ (.int .i64 0))) := ⟨hC'.out.kept (L := [Rb]) Kept.set (by simp; omega), hp.op 0, hK'.out.trans ((Kept.set (B := Rb)).wide (by simp))⟩
      clear hp
      go_wp2
      go_ret
      exact .inr ⟨k, O, Z, Bs, _, rs, hF.out, hn64, rfl, hR.out.1, hR.out.2.1, hR.out.2.2⟩
end Go.Proofs.Ythagdpiocmcbmaa
