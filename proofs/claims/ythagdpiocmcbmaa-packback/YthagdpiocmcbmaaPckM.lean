/- The writer of package pack: a model. -/
import Derived.Test.YthagdpiocmcbmaaPckO
import Derived.Test.YthagdpiocmcbmaaMdmA
namespace Go.Proofs.Ythagdpiocmcbmaa
open Wr
open Go.ChangeShapes Go.WideShapes Go.ChangeAt Go.RowKit
set_option linter.unusedVariables false
def dOps (O : Nat → Nat → Int) (Z B : Nat → List Int) (n : Nat) : List OpD := (List.range n).map fun i => dOp (O i) (Z i) (B i)
theorem dOps_succ (O : Nat → Nat → Int) (Z B : Nat → List Int) (n : Nat) : dOps O Z B (n + 1) = dOps O Z B n ++ [dOp (O n) (Z n) (B n)] := by
  unfold dOps; rw [List.range_succ, List.map_append]; rfl
theorem dOps_len (O : Nat → Nat → Int) (Z B : Nat → List Int) (n : Nat) : (dOps O Z B n).length = n := by simp [dOps]
def dMod (h w c lo hi ot : Int) (on : Nat) (O : Nat → Nat → Int) (Z B : Nat → List Int) : ModD := ⟨[h, w, c], [lo, hi], dOps O Z B on, ot⟩
/-- Ops that can be put. -/
def OFit (on : Nat) (O : Nat → Nat → Int) (Z B : Nat → List Int) : Prop := on ≤ 64 ∧ ∀ i, i < on → (Z i).length ≤ 131072 ∧ (B i).length ≤ 1024 ∧ In16 (Z i) ∧ InS (B i) ∧ In64 [O i 18, O i 19, O i 20, O i 21]
theorem eOp_le (o : Nat → Int) (z b : List Int) (l1 : z.length ≤ 131072) (l2 : b.length ≤ 1024) (h1 : In16 z) (h2 : InS b) (h3 : In64 [o 18, o 19, o 20, o 21]) : (eOp (dOp o z b)).length ≤ 1400000 := by
  have a1 := eU_le [o 0, o 1, o 2, o 3, o 4, o 5, o 6, o 7, o 8, o 9, o 10, o 11]
  have a2 := eU_le [o 14, o 15, o 16, o 17]
  have a3 := eS_le [o 18, o 19, o 20, o 21] h3
  have a4 := eS_le z fun q hq => by have := h1 q hq; omega
  have a5 := eS_le b fun q hq => by have := h2 q hq; omega
  have a6 := put_le (n := z.length) (by omega)
  have a7 := put_le (n := b.length) (by omega)
  unfold eOp dOp
  simp only [List.length_append, List.length_cons, List.length_nil] at *
  omega
theorem eOps_le {on : Nat} {O : Nat → Nat → Int} {Z B : Nat → List Int} (h : OFit on O Z B) : ∀ n, n ≤ on → (eOps (dOps O Z B n)).length ≤ n * 1400000
  | 0, _ => by simp [eOps, dOps]
  | n + 1, hn => by
    have := eOps_le h n (by omega)
    obtain ⟨a, b, c, d, e⟩ := h.2 n (by omega)
    have := eOp_le (O n) (Z n) (B n) a b c d e
    rw [dOps_succ]
    unfold eOps at *
    rw [List.flatMap_append, List.length_append]
    simp only [List.flatMap_cons, List.flatMap_nil, List.append_nil]
    omega
set_option maxHeartbeats 4000000 in
set_option maxRecDepth 100000 in
theorem wmodel_any (Wb : Nat) (xs : List Int) (h w c lo hi ot : Int) (oa : Option Addr) (on oc : Nat) (O : Nat → Nat → Int) (Z B : Nat → List Int) (W V : World) (hT : Wt V Wb W.heap.size xs) (hW : Below W.heap.size W V) (hb : W.heap.size ≤ Wb)
    (hL : LRow W oa on oc O Z B) (hF : OFit on O Z B) (h64 : In64 [lo, hi]) (hs : xs.length ≤ 1000) :
    Calls Try.prog 16 #[(.pointer (some ⟨Wb, 0, none⟩)), .agg #[.int .i64 h, .int .i64 w, .int .i64 c, .int .i64 lo, .int .i64 hi, .slice oa on oc, .int .i64 ot]] V fun e w' => e = .returned (.tuple #[]) ∧ WtO w' Wb W.heap.size (xs ++ eMod (dMod h w c lo hi ot on O Z B)) ∧ Wk W.heap.size Wb V w' := by
  have hlt := hT.lt
  have hon := hF.1
  have hoc := hL.1
  have hom := hL.2.1
  unfold maxLen at hom
  have HL : Hid (LRow W oa on oc O Z B) := hL
  have HF : Hid (OFit on O Z B) := hF
  have H64 : Hid (In64 [lo, hi]) := h64
  have HW : Hid (Below W.heap.size W V) := hW
  have H : Hid (Wt V Wb W.heap.size xs) := hT
  have e1 : Hid ((eU [h, w, c]).length ≤ 30) := eU_le _
  have e2 : Hid ((eS [lo, hi]).length ≤ 20) := eS_le _ h64
  have e3 : Hid ((putR on).length ≤ 10) := put_le (by omega)
  have hp : Hid (eU [(on : Int)] = putR on) := by
    unfold Hid eU; rw [List.flatMap_singleton, u64_of (by omega) (by omega), Int.toNat_natCast]
  have k0 : Hid (Wk W.heap.size Wb V (V.alloc (.cells #[.int .i64 h, .int .i64 w, .int .i64 c, .int .i64 lo, .int .i64 hi, .slice oa on oc, .int .i64 ot] 26))) := wk_al _ (by omega)
  have B0 : Hid ((V.alloc (.cells #[.int .i64 h, .int .i64 w, .int .i64 c, .int .i64 lo, .int .i64 hi, .slice oa on oc, .int .i64 ot] 26)).heap[V.heap.size]? = some (.cells #[.int .i64 h, .int .i64 w, .int .i64 c, .int .i64 lo, .int .i64 hi, .slice oa on oc, .int .i64 ot] 26 (0, 0))) := heap_alloc_new V _
  clear hT hW hL hF h64
  go_enter Try.func16, Try.ntmps16
  go_wp2_with fail
  refine (unsigned_any Wb W.heap.size (V.heap.size + 1) 3 xs [h, w, c] _ ((H.out.al _).al _) (by unfold Nums; simpa using heap_alloc_new (V.alloc _) _) rfl (by omega) hb (by omega) (by omega) trivial).mono ?_
  rintro e w1 ⟨rfl, T1, K1, -⟩
  have k1 : Hid (Wk W.heap.size Wb V w1) := k0.out.trans ((wk_al _ (by simp; omega)).trans K1)
  have B1 : Hid (w1.heap[V.heap.size]? = some (.cells #[.int .i64 h, .int .i64 w, .int .i64 c, .int .i64 lo, .int .i64 hi, .slice oa on oc, .int .i64 ot] 26 (0, 0))) := K1.2 _ _ _ (by omega) (by decide) (((bal _ _).block _ (by simp)).trans B0.out)
  have t1 : Hid (Wt w1 Wb W.heap.size _) := T1
  have hl1 := t1.out.lt
  obtain ⟨c1, f1, y1⟩ := cells_at B1.out
  clear K1 T1
  go_wp2_with fail
  refine (signed_any Wb W.heap.size w1.heap.size 2 _ [lo, hi] _ (t1.out.al _) (heap_alloc_new w1 _) rfl (by omega) hb (by have := e1.out; simp only [List.length_append]; omega) (by omega) H64.out).mono ?_
  rintro e w2 ⟨rfl, T2, K2, -⟩
  have k2 : Hid (Wk W.heap.size Wb V w2) := k1.out.trans ((wk_al _ (by omega)).trans K2)
  have B2 : Hid (w2.heap[V.heap.size]? = some (.cells #[.int .i64 h, .int .i64 w, .int .i64 c, .int .i64 lo, .int .i64 hi, .slice oa on oc, .int .i64 ot] 26 (0, 0))) := K2.2 _ _ _ (by omega) (by decide) (((bal _ _).block _ y1).trans B1.out)
  have t2 : Hid (Wt w2 Wb W.heap.size _) := T2
  have hl2 := t2.out.lt
  clear K2 T2 c1 f1 y1 k1 B1 t1
  obtain ⟨c1, f1, y1⟩ := cells_at B2.out
  go_wp2_with fail
  refine (unsigned_any Wb W.heap.size w2.heap.size 1 _ [(on : Int)] _ (t2.out.al _) (heap_alloc_new w2 _) rfl (by omega) hb (by have := e1.out; have := e2.out; simp only [List.length_append]; omega) (by omega) trivial).mono ?_
  rintro e w3 ⟨rfl, T3, K3, -⟩
  have k3 : Hid (Wk W.heap.size Wb V w3) := k2.out.trans ((wk_al _ (by omega)).trans K3)
  have B3 : Hid (w3.heap[V.heap.size]? = some (.cells #[.int .i64 h, .int .i64 w, .int .i64 c, .int .i64 lo, .int .i64 hi, .slice oa on oc, .int .i64 ot] 26 (0, 0))) := K3.2 _ _ _ (by omega) (by decide) (((bal _ _).block _ y1).trans B2.out)
  have t3 : Hid (Wt w3 Wb W.heap.size (xs ++ (eU [h, w, c] ++ (eS [lo, hi] ++ (putR on ++ eOps (dOps O Z B 0)))))) := by
    unfold Hid; rw [hp.out] at T3; simpa [eOps, dOps] using T3
  clear K3 T3 c1 f1 y1 k2 B2 t2
  obtain ⟨c1, f1, y1⟩ := cells_at B3.out
  go_wp2
  go_loopw [34] (fun i wr => ∃ k : Nat, k ≤ on ∧ i = .int .i64 k ∧ Wt wr Wb W.heap.size (xs ++ (eU [h, w, c] ++ (eS [lo, hi] ++ (putR on ++ eOps (dOps O Z B k))))) ∧ Wk W.heap.size Wb V wr ∧ wr.heap[V.heap.size]? = some (.cells #[.int .i64 h, .int .i64 w, .int .i64 c, .int .i64 lo, .int .i64 hi, .slice oa on oc, .int .i64 ot] 26 (0, 0))) (fun i _ => on - (intOf i).toNat)
  case atStart => exact ⟨0, Nat.zero_le _, rfl, t3.out, k3.out, B3.out⟩
  case round =>
    obtain ⟨k, hk, rfl, hT, hK, hB⟩ := hrel
    clear t3 k3 B3 c1 f1 y1
    have hltr := hT.lt
    have hT' : Hid (Wt wr Wb W.heap.size _) := hT
    have hK' : Hid (Wk W.heap.size Wb V wr) := hK
    have hB' : Hid (wr.heap[V.heap.size]? = some (.cells #[.int .i64 h, .int .i64 w, .int .i64 c, .int .i64 lo, .int .i64 hi, .slice oa on oc, .int .i64 ot] 26 (0, 0))) := hB
    have hlen : Hid ((eOps (dOps O Z B k)).length ≤ k * 1400000) := eOps_le HF.out k hk
    have hyV := lt_of_heap hB
    by_cases hlk : k < on
    · obtain ⟨x, rfl, wa, lw, cw, ba, lb, cb, e12, e13, hcx, hz1, hb1, -, -⟩ := HL.out.at hlk
      obtain ⟨g1, g2, g3, g4, g5⟩ := HF.out.2 k hlk
      have hcell : Hid (∀ j v, [.int .i64 (O k 0), .int .i64 (O k 1), .int .i64 (O k 2), .int .i64 (O k 3), .int .i64 (O k 4), .int .i64 (O k 5), .int .i64 (O k 6), .int .i64 (O k 7), .int .i64 (O k 8), .int .i64 (O k 9), .int .i64 (O k 10), .int .i64 (O k 11), .slice wa lw cw, .slice ba lb cb, .int .i64 (O k 14), .int .i64 (O k 15), .int .i64 (O k 16), .int .i64 (O k 17), .int .i64 (O k 18), .int .i64 (O k 19), .int .i64 (O k 20), .int .i64 (O k 21)][j]? = some v → wr.cell? ((x.add (k * 22)).add j) = some v) := fun j v hj => by
        have := hcx j v hj
        exact ((HW.out.trans hK.1).cell (World.block_lt_of_cell? W _ this)).trans this
      have Hbox : (wr.alloc (.cells #[.int .i64 (O k 0), .int .i64 (O k 1), .int .i64 (O k 2), .int .i64 (O k 3), .int .i64 (O k 4), .int .i64 (O k 5), .int .i64 (O k 6), .int .i64 (O k 7), .int .i64 (O k 8), .int .i64 (O k 9), .int .i64 (O k 10), .int .i64 (O k 11), .slice wa lw cw, .slice ba lb cb, .int .i64 (O k 14), .int .i64 (O k 15), .int .i64 (O k 16), .int .i64 (O k 17), .int .i64 (O k 18), .int .i64 (O k 19), .int .i64 (O k 20), .int .i64 (O k 21)] 50)).heap[wr.heap.size]? = some (.cells #[.int .i64 (O k 0), .int .i64 (O k 1), .int .i64 (O k 2), .int .i64 (O k 3), .int .i64 (O k 4), .int .i64 (O k 5), .int .i64 (O k 6), .int .i64 (O k 7), .int .i64 (O k 8), .int .i64 (O k 9), .int .i64 (O k 10), .int .i64 (O k 11), .slice wa lw cw, .slice ba lb cb, .int .i64 (O k 14), .int .i64 (O k 15), .int .i64 (O k 16), .int .i64 (O k 17), .int .i64 (O k 18), .int .i64 (O k 19), .int .i64 (O k 20), .int .i64 (O k 21)] 50 (0, 0)) := heap_alloc_new wr _
      have Hcall : Hid _ := wop_any Wb _ (O k) (Z k) (B k) wa lw cw ba lb cb W (wr.alloc (.cells #[.int .i64 (O k 0), .int .i64 (O k 1), .int .i64 (O k 2), .int .i64 (O k 3), .int .i64 (O k 4), .int .i64 (O k 5), .int .i64 (O k 6), .int .i64 (O k 7), .int .i64 (O k 8), .int .i64 (O k 9), .int .i64 (O k 10), .int .i64 (O k 11), .slice wa lw cw, .slice ba lb cb, .int .i64 (O k 14), .int .i64 (O k 15), .int .i64 (O k 16), .int .i64 (O k 17), .int .i64 (O k 18), .int .i64 (O k 19), .int .i64 (O k 20), .int .i64 (O k 21)] 50)) (hT.al _) ((HW.out.trans hK.1).trans (wk_al (Wb := Wb) _ (by omega)).1) hb hz1 hb1 (by rw [← hz1.1]; exact g1) (by rw [← hb1.1]; exact g2) g5 (by have := hlen.out; have := e1.out; have := e2.out; have := e3.out; simp only [List.length_append]; omega)
      have hnext : Hid (xs ++ (eU [h, w, c] ++ (eS [lo, hi] ++ (putR on ++ eOps (dOps O Z B k)))) ++ eOp (dOp (O k) (Z k) (B k)) = xs ++ (eU [h, w, c] ++ (eS [lo, hi] ++ (putR on ++ eOps (dOps O Z B (k + 1)))))) := by
        unfold Hid; rw [dOps_succ]; simp [eOps]
      clear hT hK hB hz1 hb1 g1 g2 g3 g4 g5 e12 e13 hcx
      go_upto_region 6 with fail
      go_wp2_with (first
        | (refine wpList_load_any rfl 50 (.tmp 36) rfl _ rfl [.int .i64 (O k 0), .int .i64 (O k 1), .int .i64 (O k 2), .int .i64 (O k 3), .int .i64 (O k 4), .int .i64 (O k 5), .int .i64 (O k 6), .int .i64 (O k 7), .int .i64 (O k 8), .int .i64 (O k 9), .int .i64 (O k 10), .int .i64 (O k 11), .slice wa lw cw, .slice ba lb cb, .int .i64 (O k 14), .int .i64 (O k 15), .int .i64 (O k 16), .int .i64 (O k 17), .int .i64 (O k 18), .int .i64 (O k 19), .int .i64 (O k 20), .int .i64 (O k 21)] _ hcell.out Try.underlying50 rfl (by kernel_rfl) ?_)
        | (refine wpList_st_new rfl 50 (.tmp 5) (.tmp 37) rfl wr _ #[.int .i64 (O k 0), .int .i64 (O k 1), .int .i64 (O k 2), .int .i64 (O k 3), .int .i64 (O k 4), .int .i64 (O k 5), .int .i64 (O k 6), .int .i64 (O k 7), .int .i64 (O k 8), .int .i64 (O k 9), .int .i64 (O k 10), .int .i64 (O k 11), .slice wa lw cw, .slice ba lb cb, .int .i64 (O k 14), .int .i64 (O k 15), .int .i64 (O k 16), .int .i64 (O k 17), .int .i64 (O k 18), .int .i64 (O k 19), .int .i64 (O k 20), .int .i64 (O k 21)] rfl rfl (by kernel_rfl) rfl (by simp [Value.oneCell']) ?_)
        | (refine wpList_load_row rfl 50 (.tmp 5) rfl wr.heap.size rfl 50 _ (0, 0) _ Hbox Try.underlying50 rfl (by kernel_rfl) ?_))
      refine Calls.mono Hcall.out ?_
      rintro e w4 ⟨rfl, T4, K4⟩
      have t4 : Hid (Wt w4 Wb W.heap.size _) := hnext.out ▸ T4
      have k4 : Hid (Wk W.heap.size Wb V w4) := hK'.out.trans ((wk_al _ (by omega)).trans K4)
      have B4 : Hid (w4.heap[V.heap.size]? = some (.cells _ 26 (0, 0))) := K4.2 _ _ _ (by omega) (by decide) (((bal _ _).block _ hyV).trans hB'.out)
      clear T4 K4 hT' Hbox hcell Hcall
      go_wp2
      go_roundw
      case rel => exact ⟨k + 1, by omega, by go_num, t4.out, k4.out, B4.out⟩
      case measure => simp [intOf]; omega
    · obtain rfl : k = on := by omega
      obtain ⟨c1, f1, y1⟩ := cells_at hB
      clear hT hK hB
      go_wp2_with fail
      refine (unsigned_any Wb W.heap.size wr.heap.size 1 _ [ot] _ (hT'.out.al _) (heap_alloc_new wr _) rfl (by omega) hb (by have := hlen.out; have := e1.out; have := e2.out; have := e3.out; simp only [List.length_append]; omega) (by omega) trivial).mono ?_
      rintro e w5 ⟨rfl, T5, K5, O5⟩
      have t5 : Hid (WtO w5 Wb W.heap.size (xs ++ eMod (dMod h w c lo hi ot k O Z B))) := by
        replace T5 := O5 (by omega)
        unfold Hid eMod dMod
        rw [dOps_len]
        simp only [List.append_assoc] at T5 ⊢
        simpa [eU] using T5
      have k5 : Hid (Wk W.heap.size Wb V w5) := hK'.out.trans ((wk_al _ (by omega)).trans K5)
      clear T5 K5 c1 O5
      go_wp2
      go_end0
      exact ⟨rfl, t5.out, k5.out⟩
end Go.Proofs.Ythagdpiocmcbmaa
