/- What the small functions of package bound return: one, plus, ofValues, product, running. What ends of package bound returns: the ends of the terms at a position. The iterators of package bound: the ends position by position; the blocks of a row. The blocks of a row: what slices.Chunk gives. A hull that grows: what the closure of hull takes, and what of the memory stays. What hull of package bound returns, whatever is taken. Slices of structs that came in, opened. Readings whose every list is within the reach: slices of integers, and slices of structs that hold slices, opened with that. Fronts of models in plain numbers; what is known of each op of a well-formed model; ops that came in. Sums of ops that reduce, in plain numbers: their terms, their bias, and what is known of such an op of a well-formed model. -/
import Derived.Test.YtgiohlcipndakaaGreatGz01
import Derived.Test.YtgiohlcipndakaaGreatGz13
import Derived.SizedLaws
/- What the small functions of package bound return: one, plus, ofValues, product, running. -/
namespace Go.Proofs.YtgiohlcipndakaaGreat
open Go.Value renaming int → U
open Go.IntKind renaming i64 → i6
set_option maxRecDepth 100000
set_option maxHeartbeats 16000000
open Go.ChangeShapes Go.WideShapes Go.ChangeAt Go.RowKit
set_option linter.unusedVariables false
theorem bone_any (x : Int) (W : World) : Calls Tryz.prog 46 #[U i6 x] W fun e w' => e = .returned (.agg #[U i6 x, U i6 x]) ∧ Below W.heap.size W w' := by
 go_enter Tryz.func46, Tryz.ntmps46
 go_wp2
 exact bodyPost_ret (v := .agg #[U i6 x, U i6 x]) (by simp [results, Tryz.results46, go_sem]) rfl ⟨rfl, bal _ _⟩
theorem bplus_ok (a b : Int × Int) (W : World) (ha : Vd 10000000000 a) (hb : Vd 10000000000 b) : Calls Tryz.prog 39 #[.agg #[U i6 a.1, U i6 a.2], .agg #[U i6 b.1, U i6 b.2]] W fun e w' => e = .returned (.agg #[U i6 (plS a b).1, U i6 (plS a b).2]) ∧ Below W.heap.size W w' := by
 obtain ⟨a1, a2⟩ := a
 obtain ⟨b1, b2⟩ := b
 obtain ⟨h1, h2, h3⟩ := ha.sm (by omega)
 obtain ⟨g1, g2, g3⟩ := hb.sm (by omega)
 have HA : Hid (∀ w, _) := fun w => xadd_ok a1 a2 b1 b2 w h3 g3 h1 h2 g1 g2
 clear ha hb h1 h2 h3 g1 g2 g3
 simp only [plS]
 go_enter Tryz.func39, Tryz.ntmps39
 go_wp2_with fail
 refine (HA.out _).mono ?_
 rintro e w1 ⟨rfl, hb⟩
 have s1 := ((St.start W).new.new.new.call hb).new (c := #[U i6 (a1 + b1), U i6 (a2 + b2)]) (t := 28)
 simp only [World.size_alloc] at s1
 obtain ⟨c0, f0, z0, c1, f1, z1, -⟩ := s1.rules
 have s2 := s1.up1.out2 (i := 0) (j := 1) (u := U i6 (a1 + b1)) (v := U i6 (a2 + b2))
 clear hb s1
 go_wp2
 exact bodyPost_ret (v := .agg #[U i6 (a1 + b1), U i6 (a2 + b2)]) (by simp [results, Tryz.results39, go_sem, *]) rfl ⟨rfl, s2⟩
def vbB (lo hi : Int) : Bool := decide (-128 ≤ lo ∧ lo ≤ hi ∧ hi ≤ 127)
theorem vbB_yes {lo hi : Int} (h : vbB lo hi = true) : -128 ≤ lo ∧ lo ≤ hi ∧ hi ≤ 127 := by simpa [vbB] using h
theorem bofv_any (lo hi : Int) (W : World) : Calls Tryz.prog 52 #[.agg #[U i6 lo, U i6 hi]] W fun e w' => e = .returned (.bool (vbB lo hi)) ∧ Below W.heap.size W w' := by
 have HH : Hid (∀ w, Calls Tryz.prog 69 #[.agg #[U i6 (-128), U i6 127], .agg #[U i6 lo, U i6 hi]] w fun e w' => e = .returned (.bool (vbB lo hi)) ∧ Below w.heap.size w w') := fun w => by
  have := xholds_any (-128) 127 lo hi w
  have e : xho (-128) 127 lo hi = vbB lo hi := by unfold xho vbB; rw [Bool.eq_iff_iff]; simp; omega
  rwa [e] at this
 go_enter Tryz.func52, Tryz.ntmps52
 go_wp2_with fail
 refine (HH.out _).mono ?_
 rintro e w1 ⟨rfl, hb⟩
 have s1 := (St.start W).new.call hb
 clear hb
 go_wp2
 go_ret
 exact ⟨rfl, s1.below⟩
theorem bprod_any (ch n ln bi slo shi p h w c : Int) (g0 : Nat) (q : Nat) (W : World) (hq : W.heap[q]? = some (.cells #[U i6 ch, U i6 n, U i6 ln, U i6 bi, U i6 slo, U i6 shi, U i6 p, U i6 p, U i6 h, U i6 w, U i6 c, U i6 0, U i6 0, .slice (some ⟨g0, 0, none⟩) 1 1, U i6 0] 78 (0, 0))) (t : Int × Int) (hs : -128 ≤ slo ∧ slo ≤ shi ∧ shi ≤ 127) (hp : -128 ≤ p ∧ p ≤ 127) (ht : -32768 ≤ t.1 ∧ t.1 ≤ 32767) :
  Calls Tryz.prog 87 #[.pointer (some ⟨q, 0, none⟩), .agg #[U i6 t.1, U i6 t.2]] W fun e w' => e = .returned (.agg #[U i6 (tmE slo shi p t).1, U i6 (tmE slo shi p t).2]) ∧ Below W.heap.size W w' := by
 obtain ⟨t1, t2⟩ := t
 obtain ⟨y1, y2, y3⟩ := cells_at hq
 simp only at ht
 obtain ⟨q1, q2⟩ := prod_bd (a := slo) (by omega) ht
 obtain ⟨q3, q4⟩ := prod_bd (a := shi) (by omega) ht
 obtain ⟨q5, q6⟩ := prod_bd hp ht
 have HS : Hid (∀ w, _) := fun w => xtimes_ok slo shi t1 w hs.2.1 (by unfold Sm; omega) (by unfold Sm; omega) (by unfold Sm; omega)
 have HP : Hid (∀ w, _) := fun w => xtimes_ok p p t1 w (Int.le_refl _) (by unfold Sm; omega) (by unfold Sm; omega) (by unfold Sm; omega)
 clear hs hp ht q1 q2 q3 q4 q5 q6
 have s0 := ((((St.start W).new (c := #[U i6 t1, U i6 t2]) (t := 93)).new (c := #[U i6 0, U i6 0]) (t := 28)).new (c := #[U i6 slo, U i6 shi]) (t := 28))
 simp only [World.size_alloc] at s0
 have HQ : Hid (W.heap[q]? = some (.cells #[U i6 ch, U i6 n, U i6 ln, U i6 bi, U i6 slo, U i6 shi, U i6 p, U i6 p, U i6 h, U i6 w, U i6 c, U i6 0, U i6 0, .slice (some ⟨g0, 0, none⟩) 1 1, U i6 0] 78 (0, 0))) := hq
 clear hq
 by_cases neg : t2 < 0
 ·have HE : Hid (tmE slo shi p (t1, t2) = xti p p t1) := by unfold Hid tmE xti; rw [if_pos neg]; simp
  rw [HE.out]
  obtain ⟨e1, e2, hx⟩ : ∃ e1 e2, xti p p t1 = (e1, e2) := ⟨_, _, rfl⟩
  rw [hx] at HP ⊢
  clear hx
  clear HE HS
  go_enter Tryz.func87, Tryz.ntmps87
  go_upto_region 2 with fail
  obtain ⟨w0, hw0⟩ : ∃ w0, (((W.alloc (.cells #[U i6 t1, U i6 t2] 93)).alloc (.cells #[U i6 0, U i6 0] 28)).alloc (.cells #[U i6 slo, U i6 shi] 28)) = w0 := ⟨_, rfl⟩
  rw [hw0] at s0 ⊢
  clear y1 y2 hw0
  obtain ⟨y1, y2, -⟩ := cells_at ((s0.below.block q y3).trans HQ.out)
  obtain ⟨c0, f0, z0, c1, f1, z1, c2, f2, z2, -⟩ := s0.rules
  have s1 := s0.set2 (u := U i6 p) (v := U i6 p) (by simp; omega)
  go_wp2_with fail
  refine (HP.out _).mono ?_
  rintro e w1 ⟨rfl, hb⟩
  have s2 := (s1.call hb).new (c := #[U i6 e1, U i6 e2]) (t := 28)
  clear c0 f0 z0 c1 f1 z1 c2 f2 z2 y1 y2 s0 s1 hb
  obtain ⟨c0, f0, z0, c1, f1, z1, c2, f2, z2, -⟩ := s2.rules
  have s3 := s2.up2.out2 (i := 0) (j := 1) (u := U i6 e1) (v := U i6 e2)
  clear s2
  go_wp2
  exact bodyPost_ret (v := .agg #[U i6 e1, U i6 e2]) (by simp [results, Tryz.results87, go_sem, *]) rfl ⟨rfl, s3⟩
 ·have HE : Hid (tmE slo shi p (t1, t2) = xti slo shi t1) := by unfold Hid tmE; rw [if_neg neg]
  rw [HE.out]
  obtain ⟨e1, e2, hx⟩ : ∃ e1 e2, xti slo shi t1 = (e1, e2) := ⟨_, _, rfl⟩
  rw [hx] at HS ⊢
  clear hx
  clear HE HP
  go_enter Tryz.func87, Tryz.ntmps87
  go_upto_region 2 with fail
  obtain ⟨w0, hw0⟩ : ∃ w0, (((W.alloc (.cells #[U i6 t1, U i6 t2] 93)).alloc (.cells #[U i6 0, U i6 0] 28)).alloc (.cells #[U i6 slo, U i6 shi] 28)) = w0 := ⟨_, rfl⟩
  rw [hw0] at s0 ⊢
  clear y1 y2 hw0
  obtain ⟨c0, f0, z0, c1, f1, z1, c2, f2, z2, -⟩ := s0.rules
  go_wp2_with fail
  refine (HS.out _).mono ?_
  rintro e w1 ⟨rfl, hb⟩
  have s2 := (s0.call hb).new (c := #[U i6 e1, U i6 e2]) (t := 28)
  clear c0 f0 z0 c1 f1 z1 c2 f2 z2 s0 hb
  obtain ⟨c0, f0, z0, c1, f1, z1, c2, f2, z2, -⟩ := s2.rules
  have s3 := s2.up2.out2 (i := 0) (j := 1) (u := U i6 e1) (v := U i6 e2)
  clear s2
  go_wp2
  exact bodyPost_ret (v := .agg #[U i6 e1, U i6 e2]) (by simp [results, Tryz.results87, go_sem, *]) rfl ⟨rfl, s3⟩
theorem bends_any (ch n ln bi slo shi p h w c : Int) (g0 : Nat) (q : Nat) (W : World) (hq : W.heap[q]? = some (.cells #[U i6 ch, U i6 n, U i6 ln, U i6 bi, U i6 slo, U i6 shi, U i6 p, U i6 p, U i6 h, U i6 w, U i6 c, U i6 0, U i6 0, .slice (some ⟨g0, 0, none⟩) 1 1, U i6 0] 78 (0, 0))) (at' b' : Int) (TL : List (Int × Int)) (hs : -128 ≤ slo ∧ slo ≤ shi ∧ shi ≤ 127) (hp : -128 ≤ p ∧ p ≤ 127) (ht : ∀ t ∈ TL, -32768 ≤ t.1 ∧ t.1 ≤ 32767) (hl : TL.length ≤ 512)
  (hO : ∀ W', Below W.heap.size W W' → Calls Tryz.prog 51 #[.agg #[U i6 h, U i6 w, U i6 c, U i6 0, U i6 0, .slice (some ⟨g0, 0, none⟩) 1 1, U i6 0], U i6 1, U i6 ch, U i6 at'] W' fun e w' => (∃ v, e = .returned (.tuple #[v, U i6 b', U i6 0]) ∧ OTm w' W'.heap.size v TL) ∧ Below W'.heap.size W' w') :
  Calls Tryz.prog 73 #[.pointer (some ⟨q, 0, none⟩), U i6 at'] W fun e w' => (∃ u, e = .returned u ∧ OSp w' W.heap.size u (enL slo shi p TL)) ∧ Below W.heap.size W w' := by
 have HO : Hid (∀ W', Below W.heap.size W W' → _) := hO
 have HQ : Hid (W.heap[q]? = some (.cells #[U i6 ch, U i6 n, U i6 ln, U i6 bi, U i6 slo, U i6 shi, U i6 p, U i6 p, U i6 h, U i6 w, U i6 c, U i6 0, U i6 0, .slice (some ⟨g0, 0, none⟩) 1 1, U i6 0] 78 (0, 0))) := hq
 have hqz := lt_of_heap hq
 obtain ⟨N, hN⟩ : ∃ N, TL.length = N := ⟨_, rfl⟩
 have HN : Hid (TL.length = N) := hN
 rw [hN] at hl
 have HT : Hid (∀ t ∈ TL, -32768 ≤ t.1 ∧ t.1 ≤ 32767) := ht
 have HL : Hid ((enL slo shi p TL).length = N) := by unfold Hid; rw [enL_len, hN]
 have HP : Hid (∀ (W' : World) (t : Int × Int), Below W.heap.size W W' → t ∈ TL → Calls Tryz.prog 87 #[.pointer (some ⟨q, 0, none⟩), .agg #[U i6 t.1, U i6 t.2]] W' fun e w' => e = .returned (.agg #[U i6 (tmE slo shi p t).1, U i6 (tmE slo shi p t).2]) ∧ Below W'.heap.size W' w') := fun W' t hb hm => bprod_any ch n ln bi slo shi p h w c g0 q W' ((hb.block q hqz).trans hq) t hs hp (ht t hm)
 clear hO hq hN ht hs hp
 go_enter Tryz.func73, Tryz.ntmps73
 go_upto_region 1 with fail
 refine regionC (fun w' => Below W.heap.size W w') (by kernel_rfl) ?_
 obtain ⟨w3, hw3⟩ : ∃ w3, W.drew = w3 := ⟨_, rfl⟩
 have B3 : Hid (Below W.heap.size W w3) := by unfold Hid; rw [← hw3]; exact (Below.refl _ _).drew
 rw [hw3]
 clear hw3
 have HC : Hid (∀ w', Below W.heap.size W w' → ∀ i, w'.cell? ⟨q, i, none⟩ = (#[U i6 ch, U i6 n, U i6 ln, U i6 bi, U i6 slo, U i6 shi, U i6 p, U i6 p, U i6 h, U i6 w, U i6 c, U i6 0, U i6 0, .slice (some ⟨g0, 0, none⟩) 1 1, U i6 0])[i]?) := fun w' hb => (cells_at ((hb.block q hqz).trans HQ.out)).1
 refine takeC 0 (v := .pointer (some ⟨q, 0, none⟩)) rfl rfl (by kernel_rfl) (by kernel_rfl) (by kernel_rfl) (fun _ _ _ h => h) (fun _ => rfl) rfl (fun w' hw' => by go_simp) ?_
 refine takeC 1 (v := .pointer (some ⟨q, 0, none⟩)) rfl rfl (by kernel_rfl) (by kernel_rfl) (by kernel_rfl) (fun _ _ _ h => h) (fun _ => rfl) rfl (fun w' hw' => by go_simp) ?_
 refine takeC 2 (v := .pointer (some ⟨q, 8, none⟩)) rfl rfl (by kernel_rfl) (by kernel_rfl) (by kernel_rfl) (fun _ _ _ h => h) (fun _ => rfl) rfl (fun w' hw' => by go_simp) ?_
 refine takeC 3 (v := .agg #[U i6 h, U i6 w, U i6 c, U i6 0, U i6 0, .slice (some ⟨g0, 0, none⟩) 1 1, U i6 0]) rfl rfl (by kernel_rfl) (by kernel_rfl) (by kernel_rfl) (fun _ _ _ h => h) (fun _ => rfl) rfl (fun w' hw' => run_la 26 (.tmp 14) rfl ⟨q, 8, none⟩ (by kernel_rfl) [U i6 h, U i6 w, U i6 c, U i6 0, U i6 0, .slice (some ⟨g0, 0, none⟩) 1 1, U i6 0] _ (fun j v hj => by
  rw [Addr.add_lit, HC.out w' hw']
  have := (List.getElem?_eq_some_iff.1 hj).1
  rcases (show j = 0 ∨ j = 1 ∨ j = 2 ∨ j = 3 ∨ j = 4 ∨ j = 5 ∨ j = 6 by simp at this; omega) with rfl | rfl | rfl | rfl | rfl | rfl | rfl <;> simpa using hj) Tryz.underlying26 rfl (by kernel_rfl)) ?_
 refine takeC 4 (v := .pointer (some ⟨q, 0, none⟩)) rfl rfl (by kernel_rfl) (by kernel_rfl) (by kernel_rfl) (fun _ _ _ h => h) (fun _ => rfl) rfl (fun w' hw' => by go_simp) ?_
 refine takeC 5 (v := .pointer (some ⟨q, 0, none⟩)) rfl rfl (by kernel_rfl) (by kernel_rfl) (by kernel_rfl) (fun _ _ _ h => h) (fun _ => rfl) rfl (fun w' hw' => by go_simp) ?_
 refine takeC 6 (v := .pointer (some ⟨q, 0, none⟩)) rfl rfl (by kernel_rfl) (by kernel_rfl) (by kernel_rfl) (fun _ _ _ h => h) (fun _ => rfl) rfl (fun w' hw' => by go_simp) ?_
 refine takeC 7 (v := U i6 ch) rfl rfl (by kernel_rfl) (by kernel_rfl) (by kernel_rfl) (fun _ _ _ h => h) (fun _ => rfl) rfl (fun w' hw' => by have := HC.out w' hw'; go_simp) ?_
 refine takeC 8 (v := U i6 at') rfl rfl (by kernel_rfl) (by kernel_rfl) (by kernel_rfl) (fun _ _ _ h => h) (fun _ => rfl) rfl (fun w' hw' => by go_simp) ?_
 refine yK 9 B3.out (by kernel_rfl) rfl rfl 51 #[.agg #[U i6 h, U i6 w, U i6 c, U i6 0, U i6 0, .slice (some ⟨g0, 0, none⟩) 1 1, U i6 0], U i6 1, U i6 ch, U i6 at'] (by kernel_rfl) (HO.out w3 B3.out) ?_
 rintro e w4 ⟨⟨tv, rfl, ho⟩, hb4⟩
 refine ⟨_, rfl, ?_⟩
 have B4 : Hid (Below W.heap.size W w4) := B3.out.trans (hb4.mono B3.out.size)
 have OT : Hid (TV w4 tv TL) := ho.tv
 obtain ⟨ta, tc, rfl⟩ := ho.slice
 clear ho hb4 B3
 refine takeC 10 (v := .tuple #[.slice ta TL.length tc, U i6 b', U i6 0]) rfl rfl (by kernel_rfl) (by kernel_rfl) (by kernel_rfl) (fun _ _ _ h => h) (fun _ => rfl) rfl (fun w' hw' => by go_simp) ?_
 refine takeC 11 (v := .slice ta TL.length tc) rfl rfl (by kernel_rfl) (by kernel_rfl) (by kernel_rfl) (fun _ _ _ h => h) (fun _ => rfl) rfl (fun w' hw' => by go_simp) ?_
 refine takeC 12 (v := U i6 b') rfl rfl (by kernel_rfl) (by kernel_rfl) (by kernel_rfl) (fun _ _ _ h => h) (fun _ => rfl) rfl (fun w' hw' => by go_simp) ?_
 refine takeC 13 (v := U i6 0) rfl rfl (by kernel_rfl) (by kernel_rfl) (by kernel_rfl) (fun _ _ _ h => h) (fun _ => rfl) rfl (fun w' hw' => by go_simp) ?_
 refine yR 14 B4.out (by kernel_rfl) rfl rfl (.slice ta TL.length tc) w4 (by go_simp) ?_
 refine yR 15 B4.out (by kernel_rfl) rfl rfl (U i6 b') w4 (by go_simp) ?_
 refine yR 16 B4.out (by kernel_rfl) rfl rfl (U i6 0) w4 (by go_simp) ?_
 refine doneC B4.out (by kernel_rfl) ?_ _
 rw [HN.out]
 obtain ⟨G, hG⟩ : ∃ G, w4.heap.size = G := ⟨_, rfl⟩
 have hGz : W.heap.size ≤ G := by rw [← hG]; exact B4.out.size
 clear HC
 go_wp2_with (at_make; refine wpList_mkS rfl _ rfl N rfl (by omega) ?_; intro cur0 hG0 hS0)
 rw [hG] at hG0
 have HG0 : Hid ((w4.alloc (.cells cur0 28)).heap[G]? = some (.cells cur0 28 (0, 0))) := hG0
 have HS0 : Hid (Cu2 cur0 N []) := hS0
 have HB0 : Hid (Below G w4 (w4.alloc (.cells cur0 28))) := by unfold Hid; rw [← hG]; exact bal _ _
 have HG : Hid (w4.heap.size = G) := hG
 obtain ⟨w5, hw5⟩ : ∃ w5, w4.alloc (.cells cur0 28) = w5 := ⟨_, rfl⟩
 rw [hw5] at HG0 HB0 ⊢
 clear hG0 hS0 hG hw5
 go_loopw [30] (fun i wr => ∃ (y : Nat) (cur : Array Value), y ≤ N ∧ i = U i6 y ∧ wr.heap[G]? = some (.cells cur 28 (0, 0)) ∧ Cu2 cur N ((enL slo shi p TL).take y) ∧ Below G w4 wr) (fun i _ => N - (intOf i).toNat)
 case atStart => exact ⟨0, cur0, Nat.zero_le _, rfl, HG0.out, by simpa using HS0.out, HB0.out⟩
 case round =>
  obtain ⟨y, cur, hy, rfl, hG, hC, hb⟩ := hrel
  clear HG0 HB0 HS0
  have HC : Hid (Cu2 cur N ((enL slo shi p TL).take y)) := hC
  have hsz := hC.1
  by_cases hlt : y < N
  ·obtain ⟨ta', tc', e0, -, -, h4⟩ := OT.out
   obtain ⟨g, rfl, hc⟩ := h4 (by rw [HN.out]; omega)
   have e1 : ta = some ⟨g, 0, none⟩ := by simpa using (Value.slice.inj e0).1
   subst e1
   obtain ⟨q1, q2⟩ := TV.at hc (show y < TL.length by rw [HN.out]; exact hlt)
   obtain ⟨A1, A2, hA⟩ : ∃ A1 A2, TL.getD y (0, 0) = (A1, A2) := ⟨_, _, rfl⟩
   rw [hA] at q1 q2
   simp only at q1 q2
   have hmem : (A1, A2) ∈ TL := by
    rw [← hA, List.getD_eq_getElem?_getD, List.getElem?_eq_getElem (by rw [HN.out]; exact hlt)]
    exact List.getElem_mem _
   have hbz := hb.size
   have p1 := (hb.cell (by rw [← HG.out]; exact World.block_lt_of_cell? w4 _ q1)).trans q1
   have p2 := (hb.cell (by rw [← HG.out]; exact World.block_lt_of_cell? w4 _ q2)).trans q2
   have hbW : Below W.heap.size W wr := B4.out.trans (hb.mono hGz)
   have HPr : Hid (∀ (W' : World), Below wr.heap.size wr W' → _) := fun W' hb' => HP.out W' (A1, A2) (hbW.trans (hb'.mono hbW.size)) hmem
   have HE : Hid ((enL slo shi p TL).getD y (0, 0) = tmE slo shi p (A1, A2)) := by unfold Hid; rw [enL_getD _ _ _ (by rw [HN.out]; exact hlt) _ (0, 0), hA]
   obtain ⟨E1, E2, hE⟩ : ∃ E1 E2, tmE slo shi p (A1, A2) = (E1, E2) := ⟨_, _, rfl⟩
   rw [hE] at HPr HE
   simp only at HPr
   have hGr := lt_of_heap hG
   clear e0 h4 hc q1 q2 hA hmem hE hC
   go_wp2_with fail
   refine (HPr.out _ (bal _ _)).mono ?_
   rintro e w6 ⟨rfl, hb6⟩
   have hb7 := (bal wr (.cells #[U i6 A1, U i6 A2] 93)).trans (hb6.mono (by simp))
   have hG3 : w6.heap[G]? = some (.cells cur 28 (0, 0)) := (hb7.block G hGr).trans hG
   have hb3 : Below G w4 w6 := hb.trans (hb7.mono (by omega))
   obtain ⟨u1, hu1⟩ : ∃ v, w6.cell? ⟨G, y * 2, none⟩ = some v := ⟨cur[y * 2]'(by omega), by rw [(cells_at hG3).1]; exact Array.getElem?_eq_getElem _⟩
   obtain ⟨u2, hu2⟩ : ∃ v, w6.cell? ⟨G, y * 2 + 1, none⟩ = some v := ⟨cur[y * 2 + 1]'(by omega), by rw [(cells_at hG3).1]; exact Array.getElem?_eq_getElem _⟩
   have hf3 := (cells_at hG3).2.1
   have HG3 : Hid (w6.heap[G]? = some (.cells cur 28 (0, 0))) := hG3
   have HB3 : Hid (Below G w4 w6) := hb3
   clear hG hG3 hb hb3 hb6 hb7 hbW p1 p2 HPr
   go_wp2
   go_roundw
   case rel =>
    have hlen : ((enL slo shi p TL).take y).length = y := by rw [List.length_take, HL.out]; omega
    have hA := HC.out.add (by rw [hlen]; exact hlt) E1 E2
    rw [← take_snoc (by rw [HL.out]; exact hlt) HE.out, hlen] at hA
    exact ⟨y + 1, _, by omega, by go_num, heap_setCell_at (heap_setCell_at HG3.out), hA, (HB3.out.setCell (p := ⟨G, y * 2, none⟩) (Nat.le_refl _) _).setCell (p := ⟨G, y * 2 + 1, none⟩) (Nat.le_refl _) _⟩
   case measure => simp [intOf]; omega
  ·obtain rfl : y = N := by omega
   have hO := OSp.of (base := W.heap.size) hG hGz hC (by unfold maxLen; omega)
   rw [List.take_of_length_le (by rw [HL.out]; exact Nat.le_refl _), HL.out] at hO
   have HO' : Hid (OSp _ _ _ _) := hO
   have HF : Hid (Below W.heap.size W wr) := B4.out.trans (hb.mono hGz)
   clear hO hC hb
   go_wp2
   go_ret
   exact ⟨⟨_, rfl, HO'.out⟩, HF.out⟩
open Go.ChangeShapes Go.WideShapes Go.ChangeAt Go.RowKit Go.Shelf
attribute [local go_sem] Oper.semAt_some
theorem abide_b {B : Nat} {J : Nat → World → Prop} (hJ : AbidesFrom B J) {s : Nat} {W W' : World} (h : J s W) (k : Below W.heap.size W W') : J s W' :=
 hJ s W W' none h (grownBy_of_below k) (fun r e => by cases e)
theorem brows1_in (m l B q n0 nb : Nat) (ch n ln bi slo shi p h w c : Int) (g0 : Nat) (R : Nat → List (Int × Int)) (N : Nat) (hn : n = (N : Int)) (hN : N ≤ 100000000) (J : Nat → World → Prop) (W : World) (hnb : nb ≤ W.heap.size) (hn0 : n0 ≤ W.heap.size) (hqn : q < n0)
  (c1 : W.heap[B]? = some (.cells #[.pointer (some ⟨q, 0, none⟩)] 107 (0, 0))) (hq : W.heap[q]? = some (.cells #[U i6 ch, U i6 n, U i6 ln, U i6 bi, U i6 slo, U i6 shi, U i6 p, U i6 p, U i6 h, U i6 w, U i6 c, U i6 0, U i6 0, .slice (some ⟨g0, 0, none⟩) 1 1, U i6 0] 78 (0, 0)))
  (hE : ∀ W' (k : Nat), Below n0 W W' → k < N → Calls Tryz.prog 73 #[.pointer (some ⟨q, 0, none⟩), U i6 (k : Int)] W' fun e w' => (∃ u, e = .returned u ∧ OSp w' W'.heap.size u (R k)) ∧ Below W'.heap.size W' w')
  (hJ : AbidesFrom W.heap.size J)
  (hY : ∀ k x W1, J k W1 → k < N → SpV W1 x (R k) → Nb nb x → YieldAt Fence.wide (m - 1) Tryz.prog l #[x] W1 fun e W' => e = .returned (.bool true) ∧ J (k + 1) W' ∧ Kps n0 [B] W1 W') (h0 : J 0 W) :
  CallsIn Fence.wide m Tryz.prog 72 #[.func (.yield l) #[] #[], .pointer (some ⟨B, 0, none⟩)] W fun e W' => (∃ v, e = .returned v) ∧ J N W' := by
 subst hn
 have HE : Hid (∀ W' (k : Nat), Below n0 W W' → k < N → _) := hE
 have HY : Hid (∀ k x W1, J k W1 → k < N → SpV W1 x (R k) → _) := hY
 obtain ⟨x1, -, -⟩ := cells_at c1
 obtain ⟨y1, -, -⟩ := cells_at hq
 have HC1 : Hid (W.heap[B]? = _) := c1
 clear hE hY c1 hq
 refine callsIn_of_wp Tryz.func72 rfl trivial ?_ rfl
 simp only [Tryz.ntmps72, List.size_toArray, List.length_cons, List.length_nil, Nat.reduceAdd, Nat.reduceSub, Array.replicate_succ, Array.replicate_zero, List.push_toArray, List.append_toArray, List.nil_append, List.cons_append]
 gi_wp2
 gi_loopw [8] (fun i wr => ∃ k : Nat, k ≤ N ∧ i = U i6 k ∧ J k wr ∧ Kps n0 [B] W wr)
  (fun i _ => N - (intOf i).toNat)
 case atStart => exact ⟨0, Nat.zero_le _, rfl, h0, Below.refl _ _, Kept.refl _ _⟩
 case round =>
  clear x1 y1
  obtain ⟨k, hk, rfl, hJs, hkp⟩ := hrel
  by_cases hlt : k < N
  ·obtain ⟨x1, -, -⟩ := cells_at (hkp.2 B (by simp) _ _ HC1.out)
   have hfn : ∀ f, Fence.wide.fn f := fun _ => trivial
   have hdp : Fence.wide.depth = none := rfl
   gi_wp2_with fail
   refine (callsIn_wide.2 (HE.out _ k hkp.1 hlt)).mono ?_
   rintro e w1 ⟨⟨u, rfl, hu⟩, hb1⟩
   obtain ⟨fn, tmps, assign, body, hy, hR⟩ := HY.out k u w1 (abide_b hJ hJs hb1) hlt hu.sv (hu.nb.mono (by have := hkp.1.size; omega))
   have hkz := hkp.1.size
   gi_wp2
   refine hR.mono ?_
   rintro e W3 ⟨rfl, hJ3, hk3⟩
   gi_wp2
   go_roundw
   case rel => exact ⟨k + 1, by omega, by simp, hJ3, (hkp.trans (Kps.of hb1 (by omega))).trans hk3⟩
   case measure => simp [intOf]; omega
  ·obtain rfl : k = N := by omega
   gi_wp2
   go_end0
   exact ⟨⟨_, rfl⟩, hJs⟩
theorem brows_any (q n0 : Nat) (ch n ln bi slo shi p h w c : Int) (g0 : Nat) (R : Nat → List (Int × Int)) (N : Nat) (hn : n = (N : Int)) (hN : N ≤ 100000000) (W : World) (hn0 : n0 ≤ W.heap.size) (hqn : q < n0)
  (hq : W.heap[q]? = some (.cells #[U i6 ch, U i6 n, U i6 ln, U i6 bi, U i6 slo, U i6 shi, U i6 p, U i6 p, U i6 h, U i6 w, U i6 c, U i6 0, U i6 0, .slice (some ⟨g0, 0, none⟩) 1 1, U i6 0] 78 (0, 0)))
  (hE : ∀ W' (k : Nat), Below n0 W W' → k < N → Calls Tryz.prog 73 #[.pointer (some ⟨q, 0, none⟩), U i6 (k : Int)] W' fun e w' => (∃ u, e = .returned u ∧ OSp w' W'.heap.size u (R k)) ∧ Below W'.heap.size W' w') :
  Calls Tryz.prog 56 #[.pointer (some ⟨q, 0, none⟩)] W fun e w' => (∃ lb, e = .returned (.func (.func 72) #[] lb) ∧ Sq n0 W.heap.size [W.heap.size] (fun _ => True) w' (.func (.func 72) #[] lb) R N) ∧ Below W.heap.size W w' ∧ w'.heap[W.heap.size]? = some (.cells #[.pointer (some ⟨q, 0, none⟩)] 107 (0, 0)) := by
 have hmf : ∀ (fn : Fn) (first cap : Array Value) (w : World), (Instr.makeFunc fn first cap).run Tryz.prog w = .ok (.func fn first cap) w := fun _ _ _ _ => rfl
 have s1 := (St.start W).new (c := #[.pointer (some ⟨q, 0, none⟩)]) (t := 107)
 have HE : Hid (∀ W' (k : Nat), Below n0 W W' → k < N → _) := hE
 have HQ : Hid (W.heap[q]? = _) := hq
 clear hE hq
 go_enter Tryz.func56, Tryz.ntmps56
 go_wp2
 go_ret
 refine ⟨⟨_, rfl, _, _, rfl, enters_of Tryz.func72 (by kernel_rfl) rfl, fun l m J W1 hW hJ _ hY h0 => ?_⟩, s1.below, s1.h1⟩
 have hb := s1.below.trans (hW.mono s1.below.size)
 exact brows1_in m l W.heap.size q n0 W.heap.size ch n ln bi slo shi p h w c g0 R N hn hN J W1 hb.size (by have := hb.size; omega) hqn ((hW.block _ (lt_of_heap s1.h1)).trans s1.h1) ((hb.block q (by omega)).trans HQ.out) (fun W' k hW' hk => HE.out W' k ((hb.mono hn0).trans hW') hk) hJ hY h0
theorem min2 (x y M : Int) (h : xmn x y = M) : ∀ (W : World) (ts : Array TypeId) (t : TypeId), (Builtin.min_ ts t #[U i6 x, U i6 y]).run Tryz.prog W = .ok (U i6 M) W := by
 intro W ts t
 subst h
 simp [Builtin.min_, Builtin.min2, xmn]
 repeat' split
 all_goals first | rfl | omega
attribute [local go_sem] Oper.semAt_some
theorem cell_box {w : World} {B : Nat} {v : Value} {t : TypeId} (h : w.heap[B]? = some (.cells #[v] t (0, 0))) : w.cell? ⟨B, 0, none⟩ = some v := by rw [(cells_at h).1]; rfl
theorem chunk1_in (m l Bs Bd n0 nb d : Nat) (v : Value) (E : List (Int × Int)) (hnv : Nb nb v) (hd : 0 < d) (hd2 : d ≤ 512) (hl : E.length ≤ 512) (J : Nat → World → Prop) (W : World) (hn0 : n0 ≤ W.heap.size) (hPr : ∀ k W1, J k W1 → SpV W1 v E)
  (c1 : W.heap[Bs]? = some (.cells #[v] 82 (0, 0))) (c2 : W.heap[Bd]? = some (.cells #[U i6 (d : Int)] 3 (0, 0)))
  (hJ : AbidesFrom W.heap.size J)
  (hY : ∀ k x W1, J k W1 → k < chN d E.length → SpV W1 x (chk d E k) → Nb nb x → YieldAt Fence.wide (m - 1) Tryz.prog l #[x] W1 fun e W' => e = .returned (.bool true) ∧ J (k + 1) W' ∧ Kps n0 [Bs, Bd] W1 W') (h0 : J 0 W) :
  CallsIn Fence.wide m Tryz.prog 57 #[.func (.yield l) #[] #[], .pointer (some ⟨Bs, 0, none⟩), .pointer (some ⟨Bd, 0, none⟩)] W fun e W' => (∃ v, e = .returned v) ∧ J (chN d E.length) W' := by
 have HY : Hid (∀ k x W1, J k W1 → k < chN d E.length → SpV W1 x (chk d E k) → _) := hY
 obtain ⟨N, hN⟩ : ∃ N, E.length = N := ⟨_, rfl⟩
 obtain ⟨n, hn⟩ : ∃ n, chN d N = n := ⟨_, rfl⟩
 have HPr : Hid (∀ k W1, J k W1 → SpV W1 v E) := hPr
 obtain ⟨va, vc, hve, -⟩ := hPr 0 W h0
 clear hPr
 rw [hN] at hve HY hl ⊢
 have HN : Hid (E.length = N) := hN
 have HL : Hid (∀ k, k < n ↔ k * d < N) := fun k => by rw [← hn]; exact chN_lt hd
 have HX : Hid (chN d N = n) := hn
 rw [hn] at HY ⊢
 have HC1 : Hid (W.heap[Bs]? = _) := c1
 have HC2 : Hid (W.heap[Bd]? = _) := c2
 clear hY c1 c2 hN hn
 refine callsIn_of_wp Tryz.func57 rfl trivial ?_ rfl
 simp only [Tryz.ntmps57, List.size_toArray, List.length_cons, List.length_nil, Nat.reduceAdd, Nat.reduceSub, Array.replicate_succ, Array.replicate_zero, List.push_toArray, List.append_toArray, List.nil_append, List.cons_append]
 gi_wp2
 gi_loopw [4] (fun i wr => ∃ k : Nat, k ≤ n ∧ i = U i6 ((k * d : Nat) : Int) ∧ J k wr ∧ Kps n0 [Bs, Bd] W wr)
  (fun i _ => N + d - (intOf i).toNat)
 case atStart => exact ⟨0, Nat.zero_le _, by simp, h0, Below.refl _ _, Kept.refl _ _⟩
 case round =>
  obtain ⟨k, hk, rfl, hJs, hkp⟩ := hrel
  have k1 := hkp.2 Bs (by simp) _ _ HC1.out
  have k2 := hkp.2 Bd (by simp) _ _ HC2.out
  have x1 := cell_box k1
  have x2 := cell_box k2
  obtain ⟨I, hI⟩ : ∃ I, k * d = I := ⟨_, rfl⟩
  have hlt' := HL.out k
  rw [hI] at hlt' ⊢
  have HI : Hid (k * d = I) := hI
  have hfn : ∀ f, Fence.wide.fn f := fun _ => trivial
  have hdp : Fence.wide.depth = none := rfl
  clear hI
  by_cases hlt : I < N
  ·have hkn := hlt'.2 hlt
   have HV : Hid (SpV wr v E) := HPr.out k wr hJs
   obtain ⟨v1, hs1, sp1⟩ := HV.out.from (k := I) (by rw [HN.out]; exact hlt) rfl
   obtain ⟨⟨a1, p1, rfl, -⟩, -⟩ := sp1
   rw [List.length_drop, HN.out] at hs1
   obtain ⟨M, hM⟩ : ∃ M : Nat, min d (N - I) = M := ⟨_, rfl⟩
   have hmn := min2 (d : Int) ((N - I : Nat) : Int) (M : Int) (by unfold xmn; split <;> omega)
   obtain ⟨v2, hs2, sp2, nb2⟩ := HV.out.mid (k := I) (m := M) (by rw [HN.out]; omega) (by omega) rfl rfl
   have hck : (E.drop I).take M = chk d E k := by
    unfold chk
    rw [HI.out, ← hM]
    apply List.ext_getElem?
    intro j
    rw [List.getElem?_take, List.getElem?_take]
    by_cases q1 : j < min d (N - I)
    ·rw [if_pos q1, if_pos (by omega)]
    ·rw [if_neg q1]
     by_cases q2 : j < d
     ·rw [if_pos q2, List.getElem?_drop, List.getElem?_eq_none (by rw [HN.out]; omega)]
     ·rw [if_neg q2]
   rw [hck] at sp2
   have HS2 : Hid (SpV wr v2 (chk d E k)) := sp2
   have HN2 : Hid (Nb nb v2) := nb2 nb hnv
   have HM : Hid (M ≤ d ∧ M ≤ 512) := ⟨by omega, by omega⟩
   have hM1 : M ≤ 512 := HM.out.2
   clear hck sp2 hM HV HL hlt' nb2
   refine wpIn_wide.2 ?_
   subst hve
   go_upto_region 3 with fail
   refine regionC (fun w' => w'.heap[Bs]? = some (.cells #[.slice va N vc] 82 (0, 0)) ∧ w'.heap[Bd]? = some (.cells #[U i6 (d : Int)] 3 (0, 0))) (by kernel_rfl) ?_
   have DC : Hid ((fun w' => w'.heap[Bs]? = some (.cells #[.slice va N vc] 82 (0, 0)) ∧ w'.heap[Bd]? = some (.cells #[U i6 (d : Int)] 3 (0, 0))) wr.drew) := ⟨k1, k2⟩
   have DB : Hid (Below wr.heap.size wr wr.drew) := (Below.refl _ _).drew
   obtain ⟨w3, hw3⟩ : ∃ w3, wr.drew = w3 := ⟨_, rfl⟩
   rw [hw3] at DC DB ⊢
   clear hw3
   refine takeC 0 (v := U i6 (d : Int)) rfl rfl (by kernel_rfl) (by kernel_rfl) (by kernel_rfl) (fun _ _ _ h => h) (fun _ => rfl) rfl (fun w' hw' => by have := cell_box hw'.2; go_simp) ?_
   refine takeC 1 (v := .slice va N vc) rfl rfl (by kernel_rfl) (by kernel_rfl) (by kernel_rfl) (fun _ _ _ h => h) (fun _ => rfl) rfl (fun w' hw' => by have := cell_box hw'.1; go_simp) ?_
   refine takeC 2 (v := U i6 (I : Int)) rfl rfl (by kernel_rfl) (by kernel_rfl) (by kernel_rfl) (fun _ _ _ h => h) (fun _ => rfl) rfl (fun w' hw' => by go_simp) ?_
   refine takeC 3 (v := .slice a1 (N - I) p1) rfl rfl (by kernel_rfl) (by kernel_rfl) (by kernel_rfl) (fun _ _ _ h => h) (fun _ => rfl) rfl (fun w' hw' => by have := hs1 w'; go_simp) ?_
   refine takeC 4 (v := U i6 ((N - I : Nat) : Int)) rfl rfl (by kernel_rfl) (by kernel_rfl) (by kernel_rfl) (fun _ _ _ h => h) (fun _ => rfl) rfl (fun w' hw' => by go_simp) ?_
   refine takeC 5 (v := U i6 (M : Int)) rfl rfl (by kernel_rfl) (by kernel_rfl) (by kernel_rfl) (fun _ _ _ h => h) (fun _ => rfl) rfl (fun w' hw' => by have := hmn w'; go_simp) ?_
   refine yR 6 DC.out (by kernel_rfl) rfl rfl (U i6 (M : Int)) w3 (by go_simp) ?_
   refine doneC DC.out (by kernel_rfl) ?_ _
   have x1 := cell_box DC.out.1
   have x2 := cell_box DC.out.2
   have hB3 := (hkp.trans (Kps.of DB.out (by have := hkp.1.size; omega)))
   have hJ3 := abide_b hJ hJs DB.out
   have sp3 := HS2.out.below DB.out
   have hI512 : I < 512 := by omega
   have HKB : Hid (Kps n0 [Bs, Bd] W w3) := hB3
   obtain ⟨fn, tmps, assign, body, hy, hR⟩ := HY.out k v2 w3 hJ3 hkn sp3 HN2.out
   have hs2' := hs2 w3
   clear hs1 hmn hs2 HS2 k1 k2 hJs hkp hB3 hJ3 DB DC sp3
   go_upto_region 4 with fail
   refine (wpIn_wide (n := m)).1 ?_
   gi_wp2
   refine hR.mono ?_
   rintro e W3 ⟨rfl, hJ3, hk3⟩
   have HK3 : Hid (Kps n0 [Bs, Bd] W W3) := HKB.out.trans hk3
   have x2 := cell_box (HK3.out.2 Bd (by simp) _ _ HC2.out)
   have HE : Hid ((k + 1) * d = I + d) := by unfold Hid; rw [Nat.add_mul, HI.out, Nat.one_mul]
   clear x1 hk3 hy hs2' HKB hR
   gi_wp2
   go_wp2
   go_roundw
   case rel => exact ⟨k + 1, by omega, by rw [HE.out]; go_num, hJ3, HK3.out⟩
   case measure => simp [intOf]; omega
  ·have hkn : ¬ k < n := fun q => hlt (hlt'.1 q)
   obtain rfl : k = n := by omega
   subst hve
   gi_wp2
   go_end0
   exact ⟨⟨_, rfl⟩, hJs⟩
theorem chunk_any (n0 nb d : Nat) (v : Value) (E : List (Int × Int)) (W : World) (hv : SpV W v E) (hnv : Nb nb v) (hd : 0 < d) (hd2 : d ≤ 512) (hl : E.length ≤ 512) (hn0 : n0 ≤ W.heap.size) :
  Calls Tryz.prog 38 #[v, U i6 (d : Int)] W fun e w' => (∃ lb, e = .returned (.func (.func 57) #[] lb) ∧ Sq n0 nb [W.heap.size, W.heap.size + 1] (fun W1 => SpV W1 v E) w' (.func (.func 57) #[] lb) (chk d E) (chN d E.length)) ∧ Below W.heap.size W w' ∧ W.heap.size + 1 + 1 ≤ w'.heap.size := by
 have hmf : ∀ (fn : Fn) (first cap : Array Value) (w : World), (Instr.makeFunc fn first cap).run Tryz.prog w = .ok (.func fn first cap) w := fun _ _ _ _ => rfl
 have s1 := ((St.start W).new (c := #[v]) (t := 82)).new (c := #[U i6 (d : Int)]) (t := 3)
 simp only [World.size_alloc] at s1
 obtain ⟨va, vc, hve, -⟩ := id hv
 have HNV : Hid (Nb nb v) := hnv
 have hve' : Hid (v = _) := hve
 clear hv hve hnv
 rw [hve'.out] at s1 HNV ⊢
 go_enter Tryz.func38, Tryz.ntmps38
 go_wp2
 go_ret
 refine ⟨⟨_, rfl, _, _, rfl, enters_of Tryz.func57 (by kernel_rfl) rfl, fun l m J W1 hW hJ hPr hY h0 => ?_⟩, s1.below, by have := lt_of_heap s1.h1; omega⟩
 have hb := s1.below.trans (hW.mono s1.below.size)
 exact chunk1_in m l W.heap.size (W.heap.size + 1) n0 nb d _ E HNV.out hd hd2 hl J W1 (by have := hb.size; omega) hPr ((hW.block _ (lt_of_heap s1.h2)).trans s1.h2) ((hW.block _ (lt_of_heap s1.h1)).trans s1.h1) hJ hY h0
def Tch (b : Nat) (w w' : World) : Prop := w'.os = w.os ∧ w'.tape = w.tape ∧ w'.output = w.output ∧ w.heap.size ≤ w'.heap.size ∧ ∀ i, i < w.heap.size → i ≠ b → i ≠ b + 1 → w'.heap[i]? = w.heap[i]?
theorem Tch.refl (b : Nat) (w : World) : Tch b w w := ⟨rfl, rfl, rfl, Nat.le_refl _, fun _ _ _ _ => rfl⟩
theorem Tch.trans {b : Nat} {w w1 w2 : World} (h : Tch b w w1) (k : Tch b w1 w2) : Tch b w w2 :=
 ⟨k.1.trans h.1, k.2.1.trans h.2.1, k.2.2.1.trans h.2.2.1, Nat.le_trans h.2.2.2.1 k.2.2.2.1, fun i hi h1 h2 => (k.2.2.2.2 i (Nat.lt_of_lt_of_le hi h.2.2.2.1) h1 h2).trans (h.2.2.2.2 i hi h1 h2)⟩
theorem Tch.of {b : Nat} {w w' : World} (h : Below w.heap.size w w') : Tch b w w' := ⟨h.os, h.tape, h.output, h.size, fun i hi _ _ => h.block i hi⟩
theorem Tch.bel {b : Nat} {w w1 w2 : World} (h : Tch b w w1) (k : Below w1.heap.size w1 w2) : Tch b w w2 := h.trans (Tch.of k)
theorem Tch.size {b : Nat} {w w' : World} (h : Tch b w w') : w.heap.size ≤ w'.heap.size := h.2.2.2.1
theorem Tch.set {b B i : Nat} {v : Value} {w w1 : World} (h : Tch b w w1) (hB : B = b ∨ B = b + 1 ∨ w.heap.size ≤ B) : Tch b w (w1.setCell ⟨B, i, none⟩ v) :=
 ⟨h.1, h.2.1, h.2.2.1, by simpa using h.size, fun j hj h1 h2 => (Below.heap_setCell _ _ _ _ (by show j ≠ B; omega)).trans (h.2.2.2.2 j hj h1 h2)⟩
theorem Tch.below {b n0 : Nat} {w w' : World} (h : Tch b w w') (hn : n0 ≤ b) (hs : n0 ≤ w.heap.size) : Below n0 w w' := ⟨h.1, h.2.1, h.2.2.1, h.size, fun k hk => h.2.2.2.2 k (by omega) (by omega) (by omega)⟩
theorem Tch.kept {b : Nat} {bs : List Nat} {w w' : World} (h : Tch b w w') (hb : ∀ x ∈ bs, x ≠ b ∧ x ≠ b + 1) : Kept bs w w' := fun x hx c t hc => (h.2.2.2.2 x (lt_of_heap hc) (hb x hx).1 (hb x hx).2).trans hc
theorem Tch.kps {b n0 : Nat} {bs : List Nat} {w w' : World} (h : Tch b w w') (hn : n0 ≤ b) (hs : n0 ≤ w.heap.size) (hb : ∀ x ∈ bs, x ≠ b ∧ x ≠ b + 1) : Kps n0 bs w w' := ⟨h.below hn hs, h.kept hb⟩
theorem Tch.from {b B : Nat} {w w' : World} (h : Tch b w w') (hB : b + 1 < B) : KeepsFrom B w w' := ⟨h.size, fun k o hk ho _ => (h.2.2.2.2 k (lt_of_heap ho) (by omega) (by omega)).trans ho⟩
theorem Tch.cell {b B i : Nat} {v : Value} {w w' : World} (h : Tch b w w') (hc : w.cell? ⟨B, i, none⟩ = some v) (h1 : B ≠ b) (h2 : B ≠ b + 1) : w'.cell? ⟨B, i, none⟩ = some v :=
 (World.cell?_of_block (h.2.2.2.2 B (World.block_lt_of_cell? w _ hc) h1 h2)).trans hc
theorem SpV.tch {b nb : Nat} {w w' : World} {v : Value} {L : List (Int × Int)} (h : SpV w v L) (hn : Nb nb v) (hb : b + 2 ≤ nb) (k : Tch b w w') : SpV w' v L := by
 obtain ⟨a, cap, rfl, h2, h3, h4⟩ := h
 refine ⟨a, cap, rfl, h2, h3, fun h0 => ?_⟩
 obtain ⟨g, o, rfl, hc⟩ := h4 h0
 have hg : nb ≤ g := hn _ _ _ rfl
 exact ⟨g, o, rfl, fun j u hj => k.cell (hc j u hj) (by omega) (by omega)⟩
theorem St.tch {b : Nat} {w0 w w' : World} {l : List (Nat × Array Value × TypeId)} (h : St w0 w l) (k : Tch b w w') (hb : w0.heap.size ≤ b) (hl : ∀ x ∈ l, x.1 ≠ b ∧ x.1 ≠ b + 1) : St w0 w' l :=
 ⟨h.1.trans (k.below hb h.1.size), fun x hx => ⟨(k.2.2.2.2 _ (lt_of_heap (h.2 x hx).1) (hl x hx).1 (hl x hx).2).trans (h.2 x hx).1, (h.2 x hx).2⟩⟩
def SB (b : Nat) (w0 w : World) (l : List (Nat × Array Value × TypeId)) : Prop := Tch b w0 w ∧ ∀ x ∈ l, w.heap[x.1]? = some (.cells x.2.1 x.2.2) ∧ w0.heap.size ≤ x.1
theorem SB.start (b : Nat) (w : World) : SB b w w [] := ⟨Tch.refl _ _, fun _ h => by cases h⟩
theorem SB.of {b : Nat} {w0 w : World} {l : List (Nat × Array Value × TypeId)} (h : St w0 w l) : SB b w0 w l := ⟨Tch.of h.1, h.2⟩
theorem SB.call {b : Nat} {w0 w w1 : World} {l : List (Nat × Array Value × TypeId)} (h : SB b w0 w l) (hb : Below w.heap.size w w1) : SB b w0 w1 l :=
 ⟨h.1.bel hb, fun x hx => ⟨by rw [hb.block _ (lt_of_heap (h.2 x hx).1)]; exact (h.2 x hx).1, (h.2 x hx).2⟩⟩
theorem SB.take {b : Nat} {w0 w w1 : World} {l : List (Nat × Array Value × TypeId)} (h : SB b w0 w l) (k : Tch b w w1) (hb : b + 1 < w0.heap.size) : SB b w0 w1 l :=
 ⟨h.1.trans k, fun x hx => ⟨by have := (h.2 x hx).2; rw [k.2.2.2.2 _ (lt_of_heap (h.2 x hx).1) (by omega) (by omega)]; exact (h.2 x hx).1, (h.2 x hx).2⟩⟩
theorem SB.new {b : Nat} {w0 w : World} {l : List (Nat × Array Value × TypeId)} {c : Array Value} {t : TypeId} (h : SB b w0 w l) : SB b w0 (w.alloc (.cells c t)) ((w.heap.size, c, t) :: l) := by
 have h2 := h.call (bal w (.cells c t))
 refine ⟨h2.1, fun x hx => ?_⟩
 rcases List.mem_cons.1 hx with rfl | hx
 ·exact ⟨by show (w.heap.push _)[w.heap.size]? = _; simp, h.1.size⟩
 ·exact h2.2 x hx
theorem SB.skip {b : Nat} {w0 w : World} {l : List (Nat × Array Value × TypeId)} (h : SB b w0 w l) (o : Obj) : SB b w0 (w.alloc o) l := h.call (bal w o)
theorem SB.set {b : Nat} {w0 w : World} {B i : Nat} {c : Array Value} {t : TypeId} {l : List (Nat × Array Value × TypeId)} {v : Value} (h : SB b w0 w ((B, c, t) :: l)) (hl : ∀ x ∈ l, x.1 ≠ B) :
  SB b w0 (w.setCell ⟨B, i, none⟩ v) ((B, c.setIfInBounds i v, t) :: l) := by
 have hB := (h.2 _ List.mem_cons_self)
 refine ⟨h.1.set (.inr (.inr hB.2)), fun x hx => ?_⟩
 rcases List.mem_cons.1 hx with rfl | hx
 ·exact ⟨heap_setCell_at hB.1, hB.2⟩
 ·have := h.2 x (List.mem_cons_of_mem _ hx)
  exact ⟨by rw [Below.heap_setCell _ _ _ _ (hl x hx)]; exact this.1, this.2⟩
theorem SB.set2 {b : Nat} {w0 w : World} {B : Nat} {a c u v : Value} {t : TypeId} {l : List (Nat × Array Value × TypeId)} (h : SB b w0 w ((B, #[a, c], t) :: l)) (hl : ∀ x ∈ l, x.1 ≠ B) :
  SB b w0 ((w.setCell ⟨B, 0, none⟩ u).setCell ⟨B, 1, none⟩ v) ((B, #[u, v], t) :: l) := (h.set hl (i := 0) (v := u)).set hl (i := 1) (v := v)
theorem SB.rules {b : Nat} {w0 w : World} {l : List (Nat × Array Value × TypeId)} (h : SB b w0 w l) : Rules w l := rules_of l fun x hx => (h.2 x hx).1
theorem SB.tail {b : Nat} {w0 w : World} {x : Nat × Array Value × TypeId} {l : List (Nat × Array Value × TypeId)} (h : SB b w0 w (x :: l)) : SB b w0 w l := ⟨h.1, fun y hy => h.2 y (List.mem_cons_of_mem _ hy)⟩
theorem SB.size {b : Nat} {w0 w : World} {l : List (Nat × Array Value × TypeId)} (h : SB b w0 w l) : w0.heap.size ≤ w.heap.size := h.1.size
theorem SB.h1 {b : Nat} {w0 w : World} {B : Nat} {c : Array Value} {t : TypeId} {l : List (Nat × Array Value × TypeId)} (h : SB b w0 w ((B, c, t) :: l)) : w.heap[B]? = some (.cells c t (0, 0)) := (h.2 _ List.mem_cons_self).1
def Tk (w : World) (b : Nat) (L : List (Int × Int)) : Prop := w.heap[b]? = some (.cells #[U i6 (huA L).1, U i6 (huA L).2] 28 (0, 0)) ∧ w.heap[b + 1]? = some (.cells #[.bool (!L.isEmpty)] 4 (0, 0))
theorem Tk.lt {w : World} {b : Nat} {L : List (Int × Int)} (h : Tk w b L) : b + 1 < w.heap.size := lt_of_heap h.2
theorem Tk.below {w w' : World} {b : Nat} {L : List (Int × Int)} (h : Tk w b L) (k : Below w.heap.size w w') : Tk w' b L := ⟨(k.block _ (lt_of_heap h.1)).trans h.1, (k.block _ (lt_of_heap h.2)).trans h.2⟩
theorem Tk.set {w : World} {b B i : Nat} {L : List (Int × Int)} {v : Value} (h : Tk w b L) (h1 : b ≠ B) (h2 : b + 1 ≠ B) : Tk (w.setCell ⟨B, i, none⟩ v) b L := ⟨(Below.heap_setCell _ _ _ _ h1).trans h.1, (Below.heap_setCell _ _ _ _ h2).trans h.2⟩
theorem Tk.turn {w w' : World} {b : Nat} {L : List (Int × Int)} {row : Option Nat} (h : Tk w b L) (g : w.grownBy w' row) (hr : ∀ r, row = some r → ∃ o : Obj, w.heap[r]? = some o ∧ o.isCells = false) : Tk w' b L :=
 ⟨(grownBy_keeps_cells g hr h.1 rfl).trans h.1, (grownBy_keeps_cells g hr h.2 rfl).trans h.2⟩
theorem two_at {w : World} {B : Nat} {a c u v : Value} {t : TypeId} (h : w.heap[B]? = some (.cells #[a, c] t (0, 0))) : ((w.setCell ⟨B, 0, none⟩ u).setCell ⟨B, 1, none⟩ v).heap[B]? = some (.cells #[u, v] t (0, 0)) := heap_setCell_at (heap_setCell_at h)
def fTk (b : Nat) : Value := .func (.func 54) #[] #[.pointer (some ⟨b + 1, 0, none⟩), .pointer (some ⟨b, 0, none⟩)]
theorem btake_any (b : Nat) (x : Int × Int) (L : List (Int × Int)) (W : World) (hT : Tk W b L) (hL : ∀ y ∈ L, Vd 10000000000 y) (hx : Vd 10000000000 x) :
  Calls Tryz.prog 54 #[.agg #[U i6 x.1, U i6 x.2], .pointer (some ⟨b + 1, 0, none⟩), .pointer (some ⟨b, 0, none⟩)] W fun e w' => (∃ u, e = .returned u) ∧ Tk w' b (L ++ [x]) ∧ Tch b W w' := by
 obtain ⟨x1, x2⟩ := x
 have hbz := hT.lt
 have s0 := (SB.start b W).new (c := #[U i6 x1, U i6 x2]) (t := 28)
 have T0 := hT.below (bal W (.cells #[U i6 x1, U i6 x2] 28))
 have hn : b ≠ b + 1 := by omega
 have hn' : b + 1 ≠ b := by omega
 cases L with
 | nil =>
  have HH : Hid (∀ w, _) := fun w => xhull_ok x1 x2 x1 x2 w hx.2.1 hx.2.1
  have hm1 : xmn x1 x1 = x1 := by unfold xmn; simp
  have hm2 : xmx x2 x2 = x2 := by unfold xmx; simp
  rw [hm1, hm2] at HH
  obtain ⟨t1, t2⟩ := T0
  simp only [huA, List.isEmpty_nil, Bool.not_true] at t1 t2
  obtain ⟨p1, p2, p3⟩ := cells_at t1
  obtain ⟨q1, q2, q3⟩ := cells_at t2
  obtain ⟨c0, f0, z0, -⟩ := s0.rules
  obtain ⟨w0, hw0⟩ : ∃ w0, W.alloc (.cells #[U i6 x1, U i6 x2] 28) = w0 := ⟨_, rfl⟩
  rw [hw0] at s0 t1 t2 p1 p2 p3 q1 q2 q3 c0 f0 z0
  have wA1 : Hid (_) := two_at (u := U i6 x1) (v := U i6 x2) t1
  have T1 : Hid (Tch b W ((w0.setCell ⟨b, 0, none⟩ (U i6 x1)).setCell ⟨b, 1, none⟩ (U i6 x2))) := (s0.1.set (.inl rfl)).set (.inl rfl)
  have A2 : Hid (((w0.setCell ⟨b, 0, none⟩ (U i6 x1)).setCell ⟨b, 1, none⟩ (U i6 x2)).heap[b + 1]? = some (.cells #[.bool false] 4 (0, 0))) := ((Below.heap_setCell _ _ _ _ hn').trans (Below.heap_setCell _ _ _ _ hn')).trans t2
  clear hx hL hT s0 t1 t2
  go_enter Tryz.func54, Tryz.ntmps54
  go_upto_region 1 with fail
  clear hw0
  go_wp2_with fail
  refine (HH.out _).mono ?_
  rintro e w1 ⟨rfl, hb⟩
  have t1 := (hb.block b (by simp; exact p3)).trans ((Below.heap_setCell _ _ _ _ hn).trans wA1.out)
  have t2 := (hb.block (b + 1) (by simp; exact q3)).trans (heap_setCell_at A2.out)
  have T2 : Hid (Tch b W _) := (T1.out.set (B := b + 1) (i := 0) (v := .bool true) (.inr (.inl rfl))).bel hb
  clear p1 p2 p3 q1 q2 q3 c0 f0 z0 wA1 A2 T1 hb
  obtain ⟨p1, p2, p3⟩ := cells_at t1
  have T3 : Hid (Tk ((w1.setCell ⟨b, 0, none⟩ (U i6 x1)).setCell ⟨b, 1, none⟩ (U i6 x2)) b ([] ++ [(x1, x2)])) := ⟨two_at t1, ((Below.heap_setCell _ _ _ _ hn').trans (Below.heap_setCell _ _ _ _ hn')).trans t2⟩
  clear t1 t2
  go_wp2
  go_end0
  exact ⟨⟨_, rfl⟩, T3.out, (T2.out.set (.inl rfl)).set (.inl rfl)⟩
 | cons y l =>
  have hvd : Vd 10000000000 (huA (y :: l)) := huF_vd (hL y List.mem_cons_self) fun z hz => hL z (List.mem_cons_of_mem _ hz)
  obtain ⟨m1, m2, hm⟩ : ∃ m1 m2, huA (y :: l) = (m1, m2) := ⟨_, _, rfl⟩
  have HS : Hid (huA ((y :: l) ++ [(x1, x2)]) = (xmn m1 x1, xmx m2 x2)) := by unfold Hid; rw [huA_snoc (by simp), hm]; rfl
  obtain ⟨t1, t2⟩ := T0
  rw [hm] at t1 hvd
  have HH : Hid (∀ w, _) := fun w => xhull_ok m1 m2 x1 x2 w hvd.2.1 hx.2.1
  simp only [List.isEmpty_cons, Bool.not_false] at t1 t2
  obtain ⟨p1, p2, p3⟩ := cells_at t1
  obtain ⟨q1, q2, q3⟩ := cells_at t2
  obtain ⟨c0, f0, z0, -⟩ := s0.rules
  obtain ⟨w0, hw0⟩ : ∃ w0, W.alloc (.cells #[U i6 x1, U i6 x2] 28) = w0 := ⟨_, rfl⟩
  rw [hw0] at s0 t1 t2 p1 p2 p3 q1 q2 q3 c0 f0 z0
  have A1 : Hid (w0.heap[b]? = _) := t1
  have A2 : Hid (w0.heap[b + 1]? = _) := t2
  have T1 : Hid (Tch b W w0) := s0.1
  clear hx hL hT s0 t1 t2 hm hvd
  go_enter Tryz.func54, Tryz.ntmps54
  go_upto_region 1 with fail
  clear hw0
  go_wp2_with fail
  refine (HH.out _).mono ?_
  rintro e w1 ⟨rfl, hb⟩
  have t1 := (hb.block b p3).trans A1.out
  have t2 := (hb.block (b + 1) q3).trans A2.out
  have T2 : Hid (Tch b W w1) := T1.out.bel hb
  clear p1 p2 p3 q1 q2 q3 c0 f0 z0 A1 A2 T1 hb
  obtain ⟨p1, p2, p3⟩ := cells_at t1
  have T3 : Hid (Tk ((w1.setCell ⟨b, 0, none⟩ (U i6 (xmn m1 x1))).setCell ⟨b, 1, none⟩ (U i6 (xmx m2 x2))) b ((y :: l) ++ [(x1, x2)])) := by
   refine ⟨?_, ((Below.heap_setCell _ _ _ _ hn').trans (Below.heap_setCell _ _ _ _ hn')).trans t2⟩
   rw [HS.out]
   exact two_at t1
  clear t1 t2
  go_wp2
  go_end0
  exact ⟨⟨_, rfl⟩, T3.out, (T2.out.set (.inl rfl)).set (.inl rfl)⟩
attribute [local go_sem] Oper.semAt_some
theorem run_store_func {P : Program} {w : World} {a : Addr} {m : Mode} (fn : Fn) (f c : Array Value) : (store a (.func fn f c) m).run P w = stored P w a (.func fn f c) m := run_store P w a _ m rfl
attribute [local go_sem] run_store_func
def piT (F : List (Int × Int) → List (Int × Int)) (R : Nat → List (Int × Int)) (N : Nat) : List (Int × Int) := (List.range N).flatMap fun k => F (R k)
theorem piT_succ (F : List (Int × Int) → List (Int × Int)) (R : Nat → List (Int × Int)) (k : Nat) : piT F R (k + 1) = piT F R k ++ F (R k) := by unfold piT; rw [List.range_succ, List.flatMap_append]; simp
theorem mem_piT {F : List (Int × Int) → List (Int × Int)} {R : Nat → List (Int × Int)} {N : Nat} {x : Int × Int} : x ∈ piT F R N ↔ ∃ k, k < N ∧ x ∈ F (R k) := by simp [piT]
def Pik (W : World) (gf : Nat) (cl : Array Value) (F : List (Int × Int) → List (Int × Int)) : Prop :=
 ∀ W' (v : Value) (E L : List (Int × Int)) (nb b : Nat), Below W.heap.size W W' → Rb E → 0 < E.length → E.length ≤ 512 → SpV W' v E → Nb nb v → b + 2 ≤ nb → Tk W' b L → (∀ y ∈ L, Vd 10000000000 y) → Calls Tryz.prog gf (#[v, fTk b] ++ cl) W' fun e w' => (∃ u, e = .returned u) ∧ Tk w' b (L ++ F E) ∧ Tch b W' w'
theorem bhull_any (q : Nat) (ch n ln bi slo shi p h w c : Int) (g0 : Nat) (R : Nat → List (Int × Int)) (N : Nat) (hn : n = (N : Int)) (hN : N ≤ 100000000) (F : List (Int × Int) → List (Int × Int)) (gf : Nat) (lb : Array Value) (W : World)
  (hq : W.heap[q]? = some (.cells #[U i6 ch, U i6 n, U i6 ln, U i6 bi, U i6 slo, U i6 shi, U i6 p, U i6 p, U i6 h, U i6 w, U i6 c, U i6 0, U i6 0, .slice (some ⟨g0, 0, none⟩) 1 1, U i6 0] 78 (0, 0)))
  (hE : ∀ W' (k : Nat), Below W.heap.size W W' → k < N → Calls Tryz.prog 73 #[.pointer (some ⟨q, 0, none⟩), U i6 (k : Int)] W' fun e w' => (∃ u, e = .returned u ∧ OSp w' W'.heap.size u (R k)) ∧ Below W'.heap.size W' w')
  (eg : ∀ args w, (callFunc gf args).run Tryz.prog w = .ok (.enter gf args) w)
  (hP : ∀ W' (v : Value) (k nb b : Nat) (L : List (Int × Int)), Below W.heap.size W W' → k < N → SpV W' v (R k) → Nb nb v → b + 2 ≤ nb → Tk W' b L → (∀ y ∈ L, Vd 10000000000 y) → Calls Tryz.prog gf (#[v, fTk b] ++ lb) W' fun e w' => (∃ u, e = .returned u) ∧ Tk w' b (L ++ F (R k)) ∧ Tch b W' w')
  (hF : ∀ k, k < N → ∀ x ∈ F (R k), Vd 10000000000 x) :
  Calls Tryz.prog 36 #[.pointer (some ⟨q, 0, none⟩), .func (.func gf) #[] lb] W fun e w' => e = .returned (.agg #[U i6 (huA (piT F R N)).1, U i6 (huA (piT F R N)).2]) ∧ Below W.heap.size W w' := by
 have HE : Hid (∀ W' (k : Nat), Below W.heap.size W W' → k < N → _) := hE
 have HP : Hid (∀ W' (v : Value) (k nb b : Nat) (L : List (Int × Int)), Below W.heap.size W W' → k < N → SpV W' v (R k) → Nb nb v → b + 2 ≤ nb → Tk W' b L → (∀ y ∈ L, Vd 10000000000 y) → _) := hP
 have HL : Hid (∀ k, k < N → ∀ y ∈ piT F R k, Vd 10000000000 y) := fun k hk y hy => by
  obtain ⟨j, hj, hy'⟩ := mem_piT.1 hy
  exact hF j (by omega) y hy'
 have HQ : Hid (W.heap[q]? = _) := hq
 have hqz := lt_of_heap hq
 have s0 := ((((St.start W).new (c := #[.func (.func gf) #[] lb]) (t := 88)).new (c := #[U i6 0, U i6 0]) (t := 28)).new (c := #[U i6 0, U i6 0]) (t := 28)).new (c := #[.bool false]) (t := 4)
 have s1 := s0.new (c := #[.func (.func 54) #[] #[.pointer (some ⟨W.heap.size + 1 + 1 + 1, 0, none⟩), .pointer (some ⟨W.heap.size + 1 + 1, 0, none⟩)]]) (t := 83)
 simp only [World.size_alloc] at s1
 clear s0
 have HN : Hid (n = (N : Int)) := hn
 clear hE hP hF hq hn
 unfold fTk at HP
 have hfn : ∀ f, Fence.wide.fn f := fun _ => trivial
 have hdp : Fence.wide.depth = none := rfl
 have hmf : ∀ (fn : Fn) (first cap : Array Value) (w : World), (Instr.makeFunc fn first cap).run Tryz.prog w = .ok (.func fn first cap) w := fun _ _ _ _ => rfl
 refine (callsIn_wide (n := 3)).1 ?_
 refine callsIn_of_wp_marks Tryz.func36 rfl trivial ?_ rfl
 simp only [Tryz.ntmps36, List.size_toArray, List.length_cons, List.length_nil, Nat.reduceAdd, Nat.reduceSub, Array.replicate_succ, Array.replicate_zero, List.push_toArray, List.append_toArray, List.nil_append, List.cons_append]
 refine wpIn_wide.2 ?_
 go_upto_region 4 with fail
 obtain ⟨w8, hw8⟩ : ∃ w8, ((((W.alloc (.cells #[.func (.func gf) #[] lb] 88)).alloc (.cells #[U i6 0, U i6 0] 28)).alloc (.cells #[U i6 0, U i6 0] 28)).alloc (.cells #[.bool false] 4)).alloc (.cells #[.func (.func 54) #[] #[.pointer (some ⟨W.heap.size + 1 + 1 + 1, 0, none⟩), .pointer (some ⟨W.heap.size + 1 + 1, 0, none⟩)]] 83) = w8 := ⟨_, rfl⟩
 rw [hw8] at s1 ⊢
 clear hw8
 obtain ⟨b, hb⟩ : ∃ b, W.heap.size + 1 + 1 = b := ⟨_, rfl⟩
 rw [hb] at s1 ⊢
 have T8 : Hid (Tk w8 b []) := ⟨(s1.tail.tail).h1, s1.tail.h1⟩
 have HS8 : Hid (St W w8 [(b + 1 + 1, #[.func (.func 54) #[] #[.pointer (some ⟨b + 1, 0, none⟩), .pointer (some ⟨b, 0, none⟩)]], 83), (W.heap.size + 1, #[U i6 0, U i6 0], 28), (W.heap.size, #[.func (.func gf) #[] lb], 88)]) := s1.sub fun x hx => by
  simp only [List.mem_cons, List.not_mem_nil, or_false] at hx ⊢
  rcases hx with h | h | h
  ·exact .inl h
  ·exact .inr (.inr (.inr (.inl h)))
  ·exact .inr (.inr (.inr (.inr h)))
 have hB8 : b + 1 + 1 < w8.heap.size := lt_of_heap HS8.out.h1
 have hbW : W.heap.size + 2 = b := by omega
 clear s1 hb
 go_wp2_with fail
 refine (brows_any q W.heap.size ch n ln bi slo shi p h w c g0 R N HN.out hN w8 HS8.out.size hqz ((HS8.out.below.block q hqz).trans HQ.out) (fun W' k hb hk => HE.out W' k (HS8.out.below.trans hb) hk)).mono ?_
 rintro e w9 ⟨⟨lb', rfl, hsq⟩, hb9, hc9⟩
 have HSQ : Hid (Sq _ _ _ _ w9 _ _ _) := hsq
 have HS9 : Hid (St W w9 [(b + 1 + 1, #[.func (.func 54) #[] #[.pointer (some ⟨b + 1, 0, none⟩), .pointer (some ⟨b, 0, none⟩)]], 83), (W.heap.size + 1, #[U i6 0, U i6 0], 28), (W.heap.size, #[.func (.func gf) #[] lb], 88)]) := HS8.out.call hb9
 have HT9 : Hid (Tk w9 b []) := T8.out.below hb9
 have hz9 := hb9.size
 clear hsq hb9 hc9 HS8 T8
 go_wp2
 refine (wpIn_wide (n := 5)).1 ?_
 refine range_sq HSQ.out rfl rfl (by omega) HS9.out.size
  (fun k W' => St W W' [(b + 1 + 1, #[.func (.func 54) #[] #[.pointer (some ⟨b + 1, 0, none⟩), .pointer (some ⟨b, 0, none⟩)]], 83), (W.heap.size + 1, #[U i6 0, U i6 0], 28), (W.heap.size, #[.func (.func gf) #[] lb], 88)] ∧ Tk W' b (piT F R k) ∧ w8.heap.size ≤ W'.heap.size)
  ?own (fun _ _ _ => trivial) ⟨HS9.out, by simpa [piT] using HT9.out, hz9⟩ ?a₁ ?assign ?body ?done
 case own =>
  rintro k A B row ⟨h1, h2, h3⟩ hg hr
  have hz := HS9.out.size
  exact ⟨h1.turn hg (fun r e => ⟨by have := (hr r e).1; omega, (hr r e).2⟩), h2.turn hg (fun r e => (hr r e).2), Nat.le_trans h3 hg.size⟩
 case assign =>
  intro l x W' K hK
  gi_wp2
  exact hK
 case done =>
  rintro D W' hD ⟨h1, h2, h3⟩ hK
  have hz := HS9.out.size
  obtain ⟨m1, m2, hm⟩ : ∃ m1 m2, huA (piT F R N) = (m1, m2) := ⟨_, _, rfl⟩
  have HM : Hid (huA (piT F R N) = (m1, m2)) := hm
  have t1 := h2.1
  rw [hm] at t1
  simp only at t1
  obtain ⟨p1, p2, p3⟩ := cells_at t1
  have h1' := h1.tail
  obtain ⟨c1, f1, z1, -⟩ := h1'.rules
  have sF := (h1'.set2 (u := U i6 m1) (v := U i6 m2) (by simp)).turn (grownBy_putObj' _ D (.deferred none)) (fun r e => by cases e; exact ⟨by omega, _, (Below.heap_setCell _ _ _ _ (by show D ≠ W.heap.size + 1; omega)).trans ((Below.heap_setCell _ _ _ _ (by show D ≠ W.heap.size + 1; omega)).trans hK), rfl⟩)
  obtain ⟨cF, -⟩ := sF.rules
  have HFb : Hid (Below W.heap.size W _) := sF.below
  clear h1 h1' h2 sF hm t1
  go_wp2
  refine ⟨by simp, .inl ⟨_, _, rfl, run_takeDeferred ((Below.heap_setCell _ _ _ _ (by show D ≠ W.heap.size + 1; omega)).trans ((Below.heap_setCell _ _ _ _ (by show D ≠ W.heap.size + 1; omega)).trans hK)), ?_⟩⟩
  exact ⟨.agg #[U i6 m1, U i6 m2], by simp [results, Tryz.f36, go_sem, cF], by rw [HM.out], HFb.out⟩
 case body =>
  rintro l k x W' ⟨h1, h2, h3⟩ hk hx hxn
  obtain ⟨c1, f1, z1, c2, f2, z2, c3, f3, z3, -⟩ := h1.rules
  have HC : Hid _ := HP.out W' x k w8.heap.size b (piT F R k) h1.below hk hx hxn (by omega) h2 (HL.out k hk)
  have H1 : Hid (St W W' [(b + 1 + 1, #[.func (.func 54) #[] #[.pointer (some ⟨b + 1, 0, none⟩), .pointer (some ⟨b, 0, none⟩)]], 83), (W.heap.size + 1, #[U i6 0, U i6 0], 28), (W.heap.size, #[.func (.func gf) #[] lb], 88)]) := h1
  have HPs : Hid (piT F R (k + 1) = piT F R k ++ F (R k)) := piT_succ F R k
  obtain ⟨xa, xc, hxe, -⟩ := hx
  subst hxe
  clear h1 h2 HSQ HS9 HT9
  gi_wp2_with fail
  refine (CallsIn.inRound l (callsIn_wide.2 HC.out)).mono ?_
  rintro e w1 ⟨⟨u, rfl⟩, tk1, tc1⟩
  have S1 : Hid (St W w1 [(b + 1 + 1, #[.func (.func 54) #[] #[.pointer (some ⟨b + 1, 0, none⟩), .pointer (some ⟨b, 0, none⟩)]], 83), (W.heap.size + 1, #[U i6 0, U i6 0], 28), (W.heap.size, #[.func (.func gf) #[] lb], 88)]) := H1.out.tch tc1 (by omega) (by simp; omega)
  have T1 : Hid (Tk w1 b (piT F R (k + 1))) := by unfold Hid; rw [HPs.out]; exact tk1
  have K1 : Hid (Tch b W' w1) := tc1
  have hs1 := H1.out.size
  clear HC H1 tk1 tc1 c1 f1 z1 c2 f2 z2 c3 f3 z3 hxn
  gi_wp2
  have hz9' := K1.out.size
  exact ⟨K1.out.from (by omega), K1.out.kps (by omega) hs1 (by simp; omega), S1.out, T1.out, by omega⟩
open Go.ChangeShapes Go.WideShapes Go.ChangeAt Go.RowKit Go.Deep
def ORow (nc : Nat) (R : List Value → Prop) (w : World) (a : Option Addr) (len cap : Nat) : Prop :=
 len ≤ cap ∧ cap ≤ maxLen ∧ (a = none → cap = 0) ∧ ∀ x, a = some x → ∀ i, i < len → ∃ cs, cs.length = nc ∧ R cs ∧ ∀ j, j < nc → w.cell? (x.add (i * nc + j)) = cs[j]?
def Sz {H : Type} (t : TypeId) (d : DataW H) : Prop := ∀ n ∈ d.weights Tryz.prog t, n ≤ reachBytes
theorem weightsAll_mem {H : Type} {e : TypeId} : ∀ {ds : List (DataW H)} {d : DataW H}, d ∈ ds → ∀ n ∈ d.weights Tryz.prog e, n ∈ DataW.weightsAll Tryz.prog e ds
 | x :: r, d, hd, n, hn => by
  simp only [DataW.weightsAll, List.mem_append]
  rcases List.mem_cons.1 hd with rfl | hd
  ·exact .inl hn
  ·exact .inr (weightsAll_mem hd n hn)
theorem sz_arg {H : Type} {ts : List TypeId} {ds : List (DataW H)} (h : (DataW.weightsEach Tryz.prog ts ds).all (· ≤ reachBytes) = true) {j : Nat} {t : TypeId} {d : DataW H} (ht : ts[j]? = some t) (hd : ds[j]? = some d) : Sz t d := fun n hn => by
 simpa using List.all_eq_true.1 h n (DataW.weights_mem_each ht hd n hn)
theorem Sz.slice {H : Type} {t e : TypeId} {el sp : List (DataW H)} (h : Sz t (.slice el sp)) (hu : Tryz.prog.underlying t = some (.slice e)) : (el.length + sp.length) * Tryz.prog.bytesOf e ≤ reachBytes ∧ ∀ x ∈ el, Sz e x := by
 refine ⟨h _ (by simp [DataW.weights, hu]), fun x hx n hn => h n ?_⟩
 simp only [DataW.weights, hu]
 exact List.mem_cons_of_mem _ (List.mem_append_left _ (weightsAll_mem hx n hn))
theorem Sz.part {H : Type} {t : TypeId} {fs : Array Field} {ps : List (DataW H)} (h : Sz t (.agg ps)) (hu : Tryz.prog.underlying t = some (.struct fs)) {j : Nat} {f : Field} {d : DataW H} (hf : fs[j]? = some f) (hd : ps[j]? = some d) : Sz f.type d := fun n hn => by
 refine h n ?_
 simp only [DataW.weights, hu]
 refine DataW.weights_mem_each (j := j) ?_ hd n hn
 rw [List.getElem?_map, Array.getElem?_toList, hf]
 rfl
theorem openIz {H : Type} {enc : TypeId × Value → H} {W : World} {fuel : Nat} {a : Option Addr} {len cap : Nat} {d : DataW H} {p : List MemPlace} {t e : TypeId} {k : IntKind} {b : Nat}
  (ht : Tryz.prog.underlying t = some (.slice e)) (he : Tryz.prog.underlying e = some (.int k)) (hc : Tryz.prog.cellsOf e = 1) (hb : Tryz.prog.bytesOf e = b)
  (hf : DataW.trod enc Tryz.prog W 0 (fun _ => true) true fuel t (Value.slice a len cap).cells.toList = some (d, p)) (hs : Sz t d) : ∃ zs, IRow k W a len cap zs ∧ len * b ≤ 140737488351232 := by
 obtain ⟨zs, h1, h2⟩ := openI ht he hc hf
 refine ⟨zs, h1, ?_⟩
 rcases h2 with ⟨_, h0⟩ | ⟨el, sp, rfl, hl⟩
 ·rw [h0]; omega
 ·have := (hs.slice ht).1
  rw [hb, hl] at this
  simp only [reachBytes] at this
  have e2 : len * b ≤ (len + sp.length) * b := Nat.mul_le_mul_right _ (by omega)
  omega
theorem openF {H : Type} {enc : TypeId × Value → H} {W : World} {fuel : Nat} {cs : List Value} {x : DataW H × List MemPlace} {t e : TypeId} {k : IntKind} {b : Nat}
  (ht : Tryz.prog.underlying t = some (.slice e)) (he : Tryz.prog.underlying e = some (.int k)) (hc : Tryz.prog.cellsOf e = 1) (hb : Tryz.prog.bytesOf e = b)
  (hf : DataW.trod enc Tryz.prog W 0 (fun _ => true) true fuel t cs = some x) (hs : Sz t x.1) : ∃ a len cap zs, cs = [.slice a len cap] ∧ IRow k W a len cap zs ∧ len * b ≤ 140737488351232 := by
 rcases open_slice ht hf with ⟨rfl, _⟩ | ⟨a, l, c, m, n, D, Pl, rfl, _⟩
 ·obtain ⟨zs, h1, h2⟩ := openIz (a := none) (len := 0) (cap := 0) (d := x.1) (p := x.2) ht he hc hb hf hs
  exact ⟨none, 0, 0, zs, rfl, h1, h2⟩
 ·obtain ⟨zs, h1, h2⟩ := openIz (a := some a) (len := l) (cap := c) (d := x.1) (p := x.2) ht he hc hb hf hs
  exact ⟨some a, l, c, zs, rfl, h1, h2⟩
theorem openOz {H : Type} {enc : TypeId × Value → H} {W : World} {fuel : Nat} {a : Option Addr} {len cap : Nat} {d : DataW H} {p : List MemPlace} {t e : TypeId} {nc b : Nat} (R : List Value → Prop)
  (ht : Tryz.prog.underlying t = some (.slice e)) (ce : Tryz.prog.cellsOf e = nc) (hb : Tryz.prog.bytesOf e = b) (hR : ∀ n cs x, DataW.trod enc Tryz.prog W 0 (fun _ => true) true n e cs = some x → Sz e x.1 → R cs)
  (hf : DataW.trod enc Tryz.prog W 0 (fun _ => true) true fuel t (Value.slice a len cap).cells.toList = some (d, p)) (hs : Sz t d) : ORow nc R W a len cap ∧ len * b ≤ 140737488351232 := by
 rcases open_slice ht hf with ⟨hcs, hx⟩ | ⟨x, l, c, m, n, D, Pl, hcs, _, hl, hm, hmm, hx, hcell⟩
 ·simp [Value.cells] at hcs
  obtain ⟨rfl, rfl, rfl⟩ := hcs
  exact ⟨⟨Nat.le_refl _, by unfold maxLen; omega, fun _ => rfl, fun x h => by cases h⟩, by omega⟩
 ·simp [Value.cells] at hcs
  obtain ⟨rfl, rfl, rfl⟩ := hcs
  simp only [Prod.mk.injEq] at hx
  simp only [if_true] at hmm
  obtain ⟨rfl, -⟩ := hx
  obtain ⟨hz, hz2⟩ := hs.slice ht
  refine ⟨⟨hl, hm, fun h => (by cases h), fun y hy i hi => ?_⟩, ?_⟩
  ·obtain rfl := Option.some.inj hy
   obtain ⟨cs, h1, h2⟩ := hcell i (by omega)
   rw [ce] at h1
   obtain ⟨_, hlen, hc⟩ := World.cells?_some h1
   refine ⟨cs, hlen, hR _ _ _ h2 (hz2 _ (List.mem_map.2 ⟨i, by simpa using hi, rfl⟩)), fun j hj => ?_⟩
   have := hc j (by omega)
   rw [Addr.add_add] at this
   exact this
  ·rw [hb] at hz
   simp only [List.length_map, List.length_range, reachBytes] at hz
   have e2 : len * b ≤ (len + (m - len)) * b := Nat.mul_le_mul_right _ (by omega)
   omega
theorem openFo {H : Type} {enc : TypeId × Value → H} {W : World} {fuel : Nat} {cs : List Value} {x : DataW H × List MemPlace} {t e : TypeId} {nc b : Nat} (R : List Value → Prop)
  (ht : Tryz.prog.underlying t = some (.slice e)) (ce : Tryz.prog.cellsOf e = nc) (hb : Tryz.prog.bytesOf e = b) (hR : ∀ n cs x, DataW.trod enc Tryz.prog W 0 (fun _ => true) true n e cs = some x → Sz e x.1 → R cs)
  (hf : DataW.trod enc Tryz.prog W 0 (fun _ => true) true fuel t cs = some x) (hs : Sz t x.1) : ∃ a len cap, cs = [.slice a len cap] ∧ ORow nc R W a len cap ∧ len * b ≤ 140737488351232 := by
 rcases open_slice ht hf with ⟨rfl, _⟩ | ⟨a, l, c, m, n, D, Pl, rfl, _⟩
 ·have := openOz (a := none) (len := 0) (cap := 0) (d := x.1) (p := x.2) R ht ce hb hR hf hs
  exact ⟨none, 0, 0, rfl, this⟩
 ·have := openOz (a := some a) (len := l) (cap := c) (d := x.1) (p := x.2) R ht ce hb hR hf hs
  exact ⟨some a, l, c, rfl, this⟩
theorem stG_step {O : Nat → Nat → Int} {s0 : Int × Int × Int} {n : Nat} {L : List (Int × Int × Int)} {wk : Int} (h : stG O s0 (n + 1) = (0, 0, L, wk)) :
  ∃ L0 wk0, stG O s0 n = (0, 0, L0, wk0) ∧ oT (O n) L0 wk0 = 0 ∧ L = L0 ++ [oM (O n) L0] ∧ wk = wk0 + oW (O n) L0 := by
 obtain ⟨e, t, L0, wk0, h0⟩ : ∃ e t L0 wk0, stG O s0 n = (e, t, L0, wk0) := ⟨_, _, _, _, rfl⟩
 by_cases he : e = 0
 ·have ht : t = 0 := stG_at0 h0 he
  subst he ht
  by_cases hx : oT (O n) L0 wk0 = 0
  ·rw [stG_ok h0 hx] at h
   simp only [Prod.mk.injEq, true_and] at h
   exact ⟨L0, wk0, h0, hx, h.1.symm, h.2.symm⟩
  ·rw [stG_err h0 rfl hx] at h
   simp only [Prod.mk.injEq] at h
   exact absurd h.1 hx
 ·have := stG_bad (O := O) (s0 := s0) (i := n) (by rw [h0]; exact he) 1
  rw [h, h0] at this
  simp only [Prod.mk.injEq] at this
  exact absurd this.1.symm he
theorem stG_pre {O : Nat → Nat → Int} {s0 : Int × Int × Int} (hs : vS3 s0 = true) : ∀ (n : Nat) (L : List (Int × Int × Int)) (wk : Int), stG O s0 n = (0, 0, L, wk) → ∀ i, i ≤ n → ∃ wi, stG O s0 i = (0, 0, L.take (i + 1), wi) ∧ 0 ≤ wi ∧ wi ≤ wk
 | 0, L, wk, h, i, hi => by
  obtain rfl : i = 0 := by omega
  obtain ⟨h1, -, h3, -⟩ := stG_inv hs 0 L wk h
  exact ⟨wk, by rw [List.take_of_length_le (by omega)]; exact h, h3, Int.le_refl _⟩
 | n + 1, L, wk, h, i, hi => by
  obtain ⟨h1, -, h3, -⟩ := stG_inv hs (n + 1) L wk h
  by_cases e : i = n + 1
  ·subst e
   exact ⟨wk, by rw [List.take_of_length_le (by omega)]; exact h, h3, Int.le_refl _⟩
  ·obtain ⟨L0, wk0, h0, hx, hL, hw⟩ := stG_step h
   obtain ⟨i1, i2, i3, i4⟩ := stG_inv hs n L0 wk0 h0
   obtain ⟨wi, g1, g2, g3⟩ := stG_pre hs n L0 wk0 h0 i (by omega)
   obtain ⟨-, t2, -, -⟩ := tk_0 hx i2
   have t2' : 0 ≤ oW (O n) L0 := t2
   refine ⟨wi, ?_, g2, by omega⟩
   rw [g1, hL, List.take_append_of_le_length (by omega)]
theorem ouE_front {h w c lo hi ot : Int} {on j : Nat} (q : ouE h w c lo hi ot on = 0) (hj : j ≤ on) : ouE h w c lo hi (j : Int) j = 0 := by
 obtain ⟨a1, a2, a3, -, -⟩ := ouE_0 q
 unfold ouE
 rw [if_neg (by rw [a1]; decide), if_neg (by rw [a2]; decide), if_neg (by omega), if_neg (by omega)]
theorem gtR_of {O : Nat → Nat → Int} {h w c lo hi ot : Int} {on : Nat} (q : ouE h w c lo hi ot on = 0) : gtR O h w c lo hi ot on = stG O (h, w, c) on := by unfold gtR; rw [q, if_neg (by decide)]
theorem gtR_st {O : Nat → Nat → Int} {h w c lo hi ot t wk : Int} {on : Nat} {L : List (Int × Int × Int)} (q : gtR O h w c lo hi ot on = (0, t, L, wk)) : ouE h w c lo hi ot on = 0 ∧ t = 0 ∧ stG O (h, w, c) on = (0, 0, L, wk) := by
 by_cases hx : ouE h w c lo hi ot on = 0
 ·rw [gtR_of hx] at q
  have ht := stG_at0 q rfl
  subst ht
  exact ⟨hx, rfl, q⟩
 ·unfold gtR at q
  rw [if_pos hx] at q
  simp only [Prod.mk.injEq] at q
  exact absurd q.1 hx
theorem gtR_ok {O : Nat → Nat → Int} {h w c lo hi ot t wk : Int} {on : Nat} {L : List (Int × Int × Int)} (q : gtR O h w c lo hi ot on = (0, t, L, wk)) :
  t = 0 ∧ L.length = on + 1 ∧ on ≤ 64 ∧ 0 ≤ wk ∧ wk ≤ 131072 ∧ ∀ k : Nat, k ≤ on → ∃ wi, gtR O h w c lo hi (k : Int) k = (0, 0, L.take (k + 1), wi) ∧ 0 ≤ wi ∧ wi ≤ wk := by
 obtain ⟨hx, rfl, q2⟩ := gtR_st q
 clear q
 have q := q2
 have hv : vS3 (h, w, c) = true := (ouE_0 hx).1
 obtain ⟨h1, -, h3, h4⟩ := stG_inv hv on L wk q
 refine ⟨rfl, h1, (ouE_0 hx).2.2.1, h3, h4, fun k hk => ?_⟩
 obtain ⟨wi, g1, g2⟩ := stG_pre hv on L wk q k hk
 exact ⟨wi, by rw [gtR_of (ouE_front hx hk)]; exact g1, g2⟩
theorem mkE_parts {k m kh kw sh sw tp lf bt rt h w c : Int} (hx : mkE k m kh kw sh sw tp lf bt rt h w c = 0) : mkW k kh kw sh sw tp lf bt rt h w c = 0 := by
 unfold mkE at hx
 by_cases hM : mkM k m = false
 ·rw [if_pos hM] at hx; cases hx
 ·rw [if_neg hM] at hx
  by_cases hw : mkW k kh kw sh sw tp lf bt rt h w c ≠ 0
  ·rw [if_pos hw] at hx; exact absurd hx hw
  ·exact Decidable.not_not.1 hw
def OpFit (k kh kw sh sw tp lf bt rt : Int) (A B : Int × Int × Int) : Prop :=
 vS B.1 B.2.1 B.2.2 = true ∧ (2 ≤ k ∧ k ≤ 5 → ouR A.1 A.2.1 A.2.2 kh kw sh sw tp lf bt rt = (B.1, B.2.1, 0) ∧ (k ≠ 2 → B.2.2 = A.2.2)) ∧ (6 ≤ k → B = A)
theorem fit_of {k m kh kw sh sw tp lf bt rt : Int} {A : Int × Int × Int} (hx : mkE k m kh kw sh sw tp lf bt rt A.1 A.2.1 A.2.2 = 0) (hv : vS3 (mk3 k m kh kw sh sw tp lf bt rt A) = true) : OpFit k kh kw sh sw tp lf bt rt A (mk3 k m kh kw sh sw tp lf bt rt A) := by
 refine ⟨hv, fun hk => ?_, fun hk => ?_⟩
 ·have hw := mkE_parts hx
  unfold mkW at hw
  rw [if_pos hk] at hw
  obtain ⟨r, q, e, ho⟩ : ∃ r q e, ouR A.1 A.2.1 A.2.2 kh kw sh sw tp lf bt rt = (r, q, e) := ⟨_, _, _, rfl⟩
  rw [ho] at hw
  simp only at hw
  subst hw
  by_cases k2 : k = 2
  ·have hm : mk3 k m kh kw sh sw tp lf bt rt A = (r, q, m) := by unfold mk3 mkS; rw [if_neg (by omega), if_pos k2, ho]
   rw [hm]
   exact ⟨ho, fun h => absurd k2 h⟩
  ·have hm : mk3 k m kh kw sh sw tp lf bt rt A = (r, q, A.2.2) := by unfold mk3 mkS; rw [if_neg (by omega), if_neg k2, if_pos (by omega), ho]
   rw [hm]
   exact ⟨ho, fun _ => rfl⟩
 ·unfold mk3 mkS
  rw [if_neg (by omega), if_neg (by omega), if_neg (by omega)]
theorem ShA_take {L : List (Int × Int × Int)} {i n : Nat} (h : i < n) : ShA (L.take n) (i : Int) = ShA L (i : Int) := by
 unfold ShA
 rw [Int.toNat_natCast]
 simp [List.getD, h]
theorem gtR_at {O : Nat → Nat → Int} {h w c lo hi ot t wk : Int} {on : Nat} {L : List (Int × Int × Int)} (q : gtR O h w c lo hi ot on = (0, t, L, wk)) :
  ShA L ((0 : Nat) : Int) = (h, w, c) ∧ ∀ i, i < on → ∃ j : Nat, O i 1 = (j : Int) ∧ j ≤ i ∧ OpFit (O i 0) (O i 4) (O i 5) (O i 6) (O i 7) (O i 8) (O i 9) (O i 10) (O i 11) (ShA L (j : Int)) (ShA L ((i + 1 : Nat) : Int)) := by
 obtain ⟨hx, rfl, q2⟩ := gtR_st q
 clear q
 have q := q2
 have hv : vS3 (h, w, c) = true := (ouE_0 hx).1
 refine ⟨?_, fun i hi => ?_⟩
 ·obtain ⟨wi, g1, -⟩ := stG_pre hv on L wk q 0 (by omega)
  unfold stG at g1
  simp only [Prod.mk.injEq, true_and] at g1
  rw [← ShA_take (n := 0 + 1) (by omega), ← g1.1]
  rfl
 ·obtain ⟨wi, g1, -⟩ := stG_pre hv on L wk q (i + 1) (by omega)
  obtain ⟨L0, wk0, h0, hx0, hL, -⟩ := stG_step g1
  obtain ⟨w2, g2, -⟩ := stG_pre hv on L wk q i (by omega)
  rw [g2] at h0
  simp only [Prod.mk.injEq, true_and] at h0
  obtain ⟨rfl, rfl⟩ := h0
  obtain ⟨i1, i2, -⟩ := stG_inv hv i _ _ g2
  obtain ⟨t1, -, -, ⟨a0, a1⟩, -, t6⟩ := tk_0 hx0 i2
  obtain ⟨j, hj⟩ := Int.eq_ofNat_of_zero_le a0
  rw [hj] at a1 t1 t6
  refine ⟨j, hj, by omega, ?_⟩
  have e1 : ShA (L.take (i + 1)) (j : Int) = ShA L (j : Int) := ShA_take (by omega)
  have e2 : ShA L ((i + 1 : Nat) : Int) = mk3 (O i 0) (O i 3) (O i 4) (O i 5) (O i 6) (O i 7) (O i 8) (O i 9) (O i 10) (O i 11) (ShA L (j : Int)) := by
   rw [← ShA_take (n := i + 1 + 1) (by omega), hL]
   unfold ShA at e1 ⊢
   rw [Int.toNat_natCast]
   simp only [List.getD]
   rw [List.getElem?_append_right (by omega), i1, Nat.sub_self]
   unfold oM ShA
   rw [hj, Int.toNat_natCast]
   rw [Int.toNat_natCast] at e1
   simp only [List.getElem?_cons_zero, Option.getD_some]
   rw [e1]
   rfl
  rw [e1] at t1 t6
  rw [e2]
  exact fit_of t6 t1
def OpIn (w : World) (cs : List Value) : Prop :=
 ∃ (b0 : Int) (b1 : Int) (b2 : Int) (b3 : Int) (b4 : Int) (b5 : Int) (b6 : Int) (b7 : Int) (b8 : Int) (b9 : Int) (b10 : Int) (b11 : Int) (b12 : Option Addr) (l12 c12 : Nat) (z12 : List Int) (b13 : Option Addr) (l13 c13 : Nat) (z13 : List Int) (b14 : Int) (b15 : Int) (b16 : Int) (b17 : Int) (b18 : Int) (b19 : Int) (b20 : Int) (b21 : Int), cs = [U i6 b0, U i6 b1, U i6 b2, U i6 b3, U i6 b4, U i6 b5, U i6 b6, U i6 b7, U i6 b8, U i6 b9, U i6 b10, U i6 b11, .slice b12 l12 c12, .slice b13 l13 c13, U i6 b14, U i6 b15, U i6 b16, U i6 b17, U i6 b18, U i6 b19, U i6 b20, U i6 b21] ∧
  (Lit.int .i64 b0).wf = true ∧ (Lit.int .i64 b1).wf = true ∧ (Lit.int .i64 b2).wf = true ∧ (Lit.int .i64 b3).wf = true ∧ (Lit.int .i64 b4).wf = true ∧ (Lit.int .i64 b5).wf = true ∧ (Lit.int .i64 b6).wf = true ∧ (Lit.int .i64 b7).wf = true ∧ (Lit.int .i64 b8).wf = true ∧ (Lit.int .i64 b9).wf = true ∧ (Lit.int .i64 b10).wf = true ∧ (Lit.int .i64 b11).wf = true ∧
  IRow .i16 w b12 l12 c12 z12 ∧ l12 * 2 ≤ 140737488351232 ∧ IRow .i32 w b13 l13 c13 z13 ∧ l13 * 4 ≤ 140737488351232 ∧
  (Lit.int .i64 b14).wf = true ∧ (Lit.int .i64 b15).wf = true ∧ (Lit.int .i64 b16).wf = true ∧ (Lit.int .i64 b17).wf = true ∧ (Lit.int .i64 b18).wf = true ∧ (Lit.int .i64 b19).wf = true ∧ (Lit.int .i64 b20).wf = true ∧ (Lit.int .i64 b21).wf = true
def LOp (w : World) (x : Addr) (o : Nat → Int) (z b : List Int) : Prop :=
 ∃ (wa : Option Addr) (lw cw : Nat) (ba : Option Addr) (lb cb : Nat), o 12 = (lw : Int) ∧ o 13 = (lb : Int) ∧ (∀ j v, (opl o wa lw cw ba lb cb)[j]? = some v → w.cell? (x.add j) = some v) ∧ IRow .i16 w wa lw cw z ∧ IRow .i32 w ba lb cb b ∧ lw * 2 ≤ 140737488351232 ∧ lb * 4 ≤ 140737488351232
def LRow (w : World) (oa : Option Addr) (on oc : Nat) (O : Nat → Nat → Int) (Z B : Nat → List Int) : Prop :=
 on ≤ oc ∧ oc ≤ maxLen ∧ (oa = none → oc = 0) ∧ ∀ x, oa = some x → ∀ i, i < on → LOp w (x.add (i * 22)) (O i) (Z i) (B i)
theorem LRow.m {w : World} {oa : Option Addr} {on oc : Nat} {O : Nat → Nat → Int} {Z B : Nat → List Int} (h : LRow w oa on oc O Z B) : MRow w oa on oc O :=
 ⟨h.1, h.2.1, h.2.2.1, fun x hx i hi => by
  obtain ⟨wa, lw, cw, ba, lb, cb, h1, h2, h3, -⟩ := h.2.2.2 x hx i hi
  exact ⟨wa, lw, cw, ba, lb, cb, h1, h2, fun j v hj => by rw [← Addr.add_add]; exact h3 j v hj⟩⟩
theorem LOp.below {w w' : World} {x : Addr} {o : Nat → Int} {z b : List Int} (h : LOp w x o z b) (g : Below w.heap.size w w') : LOp w' x o z b := by
 obtain ⟨wa, lw, cw, ba, lb, cb, h1, h2, h3, h4, h5, h6⟩ := h
 exact ⟨wa, lw, cw, ba, lb, cb, h1, h2, fun j v hj => (g.cell (World.block_lt_of_cell? w _ (h3 j v hj))).trans (h3 j v hj), h4.below g, h5.below g, h6⟩
theorem LRow.below {w w' : World} {oa : Option Addr} {on oc : Nat} {O : Nat → Nat → Int} {Z B : Nat → List Int} (h : LRow w oa on oc O Z B) (g : Below w.heap.size w w') : LRow w' oa on oc O Z B :=
 ⟨h.1, h.2.1, h.2.2.1, fun x hx i hi => (h.2.2.2 x hx i hi).below g⟩
def oL (b0 b1 b2 b3 b4 b5 b6 b7 b8 b9 b10 b11 b12 b13 b14 b15 b16 b17 b18 b19 b20 b21 : Int) (j : Nat) : Int := [b0, b1, b2, b3, b4, b5, b6, b7, b8, b9, b10, b11, b12, b13, b14, b15, b16, b17, b18, b19, b20, b21].getD j 0
theorem lop_of {w : World} {x : Addr} {cs : List Value} (h : OpIn w cs) (hc : ∀ j, j < 22 → w.cell? (x.add j) = cs[j]?) : ∃ o z b, LOp w x o z b := by
 obtain ⟨b0, b1, b2, b3, b4, b5, b6, b7, b8, b9, b10, b11, b12, l12, c12, z12, b13, l13, c13, z13, b14, b15, b16, b17, b18, b19, b20, b21, rfl, -, -, -, -, -, -, -, -, -, -, -, -, h1, h2, h3, h4, -⟩ := h
 refine ⟨oL b0 b1 b2 b3 b4 b5 b6 b7 b8 b9 b10 b11 l12 l13 b14 b15 b16 b17 b18 b19 b20 b21, z12, z13, b12, l12, c12, b13, l13, c13, rfl, rfl, fun j v hj => ?_, h1, h3, h2, h4⟩
 have hj' : j < 22 := (List.getElem?_eq_some_iff.1 hj).1
 rw [hc j hj', ← hj]
 rfl
theorem lrow_of {w : World} {oa : Option Addr} {on oc : Nat} (h : ORow 22 (OpIn w) w oa on oc) : ∃ O Z B, LRow w oa on oc O Z B := by
 obtain ⟨h1, h2, h3, h4⟩ := h
 cases oa with
 | none => exact ⟨fun _ _ => 0, fun _ => [], fun _ => [], h1, h2, h3, fun x hx => by cases hx⟩
 | some x =>
  have q : ∀ i, ∃ y : (Nat → Int) × List Int × List Int, i < on → LOp w (x.add (i * 22)) y.1 y.2.1 y.2.2 := by
   intro i
   by_cases hi : i < on
   ·obtain ⟨cs, -, g1, g2⟩ := h4 x rfl i hi
    obtain ⟨o, z, b, g⟩ := lop_of (x := x.add (i * 22)) g1 (fun j hj => by rw [Addr.add_add]; exact g2 j hj)
    exact ⟨(o, z, b), fun _ => g⟩
   ·exact ⟨(fun _ => 0, [], []), fun h => absurd h hi⟩
  obtain ⟨f, hf⟩ := Classical.skolem.1 q
  exact ⟨fun i => (f i).1, fun i => (f i).2.1, fun i => (f i).2.2, h1, h2, h3, fun y hy i hi => by cases hy; exact hf i hi⟩
def Sit (k kh kw sh sw tp lf bt rt h w c H V C : Int) (lw lb : Nat) : Prop :=
 (1 ≤ k ∧ k ≤ 4) ∧ vS h w c = true ∧ vS H V C = true ∧ (2 ≤ k → ouR h w c kh kw sh sw tp lf bt rt = (H, V, 0)) ∧ (k = 1 → H = 1 ∧ V = 1) ∧ (2 ≤ k → (1 ≤ kh ∧ kh ≤ 32) ∧ (1 ≤ kw ∧ kw ≤ 32)) ∧
  (k ≤ 3 → (lw : Int) = C * stR k kh kw h w c ∧ (lb : Int) = C) ∧ (3 ≤ k → C = c) ∧ (1 ≤ stR k kh kw h w c ∧ stR k kh kw h w c ≤ 512)
theorem op_sit {k a b m kh kw sh sw tp lf bt rt : Int} {lw lb : Nat} {sm ss um us z p lo hi wk : Int} {L : List (Int × Int × Int)} (hx : tkE k a b m kh kw sh sw tp lf bt rt lw lb sm ss um us z p lo hi L wk = 0) (hk : 1 ≤ k ∧ k ≤ 4) (hv : ∀ s ∈ L, vS3 s = true)
  {h w c H V C : Int} (hA : ShA L a = (h, w, c)) (hB : mk3 k m kh kw sh sw tp lf bt rt (h, w, c) = (H, V, C)) : Sit k kh kw sh sw tp lf bt rt h w c H V C lw lb := by
 obtain ⟨t1, -, -, ⟨a0, a1⟩, -, t6⟩ := tk_0 hx hv
 have hg : vS h w c = true := by
  obtain ⟨i, rfl⟩ := Int.eq_ofNat_of_zero_le a0
  have := hv _ (ShA_mem (show i < L.length by omega))
  rw [hA] at this
  exact this
 have h1 : opE k a b m kh kw sh sw tp lf bt rt lw lb sm ss um us z p lo hi L = 0 := by
  unfold tkE at hx
  by_cases q : opE k a b m kh kw sh sw tp lf bt rt lw lb sm ss um us z p lo hi L ≠ 0
  ·rw [if_pos q] at hx; exact hx
  ·exact Decidable.not_not.1 q
 rw [hA] at t1 t6
 rw [hB] at t1
 have fit := fit_of (A := (h, w, c)) t6 (by rw [hB]; exact t1)
 rw [hB] at fit
 obtain ⟨f1, f2, -⟩ := fit
 have hw : 2 ≤ k ∧ k ≤ 5 → (1 ≤ kh ∧ kh ≤ 32) ∧ (1 ≤ kw ∧ kw ≤ 32) := mkE_win t6
 have hst := stR_bd (k := k) (kh := kh) (kw := kw) (by omega) hg hw
 unfold opE at h1
 rw [hA] at h1
 rw [hB] at h1
 by_cases q1 : fmE k a b L.length (ozB k b m kh kw sh sw tp lf bt rt lw lb sm ss um us z p) ≠ 0
 ·rw [if_pos q1] at h1; exact absurd h1 q1
 rw [if_neg q1] at h1
 simp only at h1
 rw [t6, if_neg (by decide), if_neg (by omega)] at h1
 by_cases q2 : rdB k = true ∧ 512 < st3 k kh kw (h, w, c)
 ·rw [if_pos q2] at h1; cases h1
 rw [if_neg q2] at h1
 have h512 : stR k kh kw h w c ≤ 512 := by
  by_cases q : stR k kh kw h w c ≤ 512
  ·exact q
  ·exact absurd ⟨decide_eq_true (by omega), by show 512 < stR k kh kw h w c; omega⟩ q2
 unfold nuE at h1
 have hle : leB k C (st3 k kh kw (h, w, c)) lw lb = true := by
  cases q : leB k C (st3 k kh kw (h, w, c)) lw lb with
  | true => rfl
  | false => rw [q, if_pos rfl] at h1; cases h1
 have hle' := of_decide_eq_true hle
 refine ⟨hk, hg, f1, fun q => (f2 (by omega)).1, fun q => ?_, fun q => hw (by omega), hle', fun q => (f2 (by omega)).2 (by omega), hst.1, h512⟩
 subst q
 have : mk3 1 m kh kw sh sw tp lf bt rt (h, w, c) = (1, 1, m) := by unfold mk3 mkS; rw [if_pos rfl]
 rw [this] at hB
 simp only [Prod.mk.injEq] at hB
 exact ⟨hB.1.symm, hB.2.1.symm⟩
theorem sit_of {O : Nat → Nat → Int} {h w c lo hi ot t wk : Int} {on : Nat} {L : List (Int × Int × Int)} (q : gtR O h w c lo hi ot on = (0, t, L, wk)) {i : Nat} (hi0 : i < on) (hk : 1 ≤ O i 0 ∧ O i 0 ≤ 4) :
  ∃ j : Nat, O i 1 = (j : Int) ∧ j ≤ i ∧ ∀ x y z H V C, ShA L (j : Int) = (x, y, z) → ShA L ((i + 1 : Nat) : Int) = (H, V, C) → Sit (O i 0) (O i 4) (O i 5) (O i 6) (O i 7) (O i 8) (O i 9) (O i 10) (O i 11) x y z H V C (O i 12).toNat (O i 13).toNat := by
 obtain ⟨hx, rfl, q2⟩ := gtR_st q
 clear q
 have q := q2
 have hv : vS3 (h, w, c) = true := (ouE_0 hx).1
 obtain ⟨wi, g1, -⟩ := stG_pre hv on L wk q (i + 1) (by omega)
 obtain ⟨L0, wk0, h0, hx0, hL, -⟩ := stG_step g1
 obtain ⟨w2, g2, -⟩ := stG_pre hv on L wk q i (by omega)
 rw [g2] at h0
 simp only [Prod.mk.injEq, true_and] at h0
 obtain ⟨rfl, rfl⟩ := h0
 obtain ⟨i1, i2, -⟩ := stG_inv hv i _ _ g2
 obtain ⟨t1, -, -, ⟨a0, a1⟩, -, t6⟩ := tk_0 hx0 i2
 obtain ⟨j, hj⟩ := Int.eq_ofNat_of_zero_le a0
 rw [hj] at a1
 have e1 : ShA (L.take (i + 1)) (j : Int) = ShA L (j : Int) := ShA_take (by omega)
 have e2 : ShA L ((i + 1 : Nat) : Int) = mk3 (O i 0) (O i 3) (O i 4) (O i 5) (O i 6) (O i 7) (O i 8) (O i 9) (O i 10) (O i 11) (ShA L (j : Int)) := by
  rw [← ShA_take (n := i + 1 + 1) (by omega), hL]
  unfold ShA at e1 ⊢
  rw [Int.toNat_natCast]
  simp only [List.getD]
  rw [List.getElem?_append_right (by omega), i1, Nat.sub_self]
  unfold oM ShA
  rw [hj, Int.toNat_natCast]
  rw [Int.toNat_natCast] at e1
  simp only [List.getElem?_cons_zero, Option.getD_some]
  rw [e1]
  rfl
 refine ⟨j, hj, by omega, fun x y z H V C hA hB => ?_⟩
 exact op_sit hx0 hk i2 (by rw [hj, e1]; exact hA) (by rw [← hB, e2, hA])
def cov (C p c : Int) : Int := if p = -1 then -1 else p * C + c
def tpc (h w kw t u q : Int) : Int := plc h w (t + q / kw) (u + q % kw)
def plA (k C ch h w kw t u i : Int) : Int := if k = 1 then i else if k = 2 then cov C (tpc h w kw t u (i / C)) (i % C) else cov C (tpc h w kw t u i) (ch - 1)
def wgA (k ch st : Int) (z : List Int) (i : Int) : Int := if k = 4 then 1 else z.getD ((ch - 1) * st + i).toNat 0
def biA (k ch : Int) (b : List Int) : Int := if k = 4 then 0 else b.getD (ch - 1).toNat 0
def tmL (k C ch h w kw t u st : Int) (z : List Int) (n : Nat) : List (Int × Int) := (List.range n).map fun (i : Nat) => (wgA k ch st z i, plA k C ch h w kw t u i)
theorem tmL_len (k C ch h w kw t u st : Int) (z : List Int) (n : Nat) : (tmL k C ch h w kw t u st z n).length = n := by simp [tmL]
theorem tmL_succ (k C ch h w kw t u st : Int) (z : List Int) (n : Nat) : tmL k C ch h w kw t u st z (n + 1) = tmL k C ch h w kw t u st z n ++ [(wgA k ch st z n, plA k C ch h w kw t u n)] := by simp [tmL, List.range_succ]
def siL (k kh kw sh sw tp lf bt rt h w c ch at' : Int) (z : List Int) : List (Int × Int) :=
 tmL k c ch h w kw (coR h w c kh kw sh sw tp lf bt rt at').1 (coR h w c kh kw sh sw tp lf bt rt at').2.1 (stR k kh kw h w c) z (stR k kh kw h w c).toNat
def fiE (O : Nat → Nat → Int) (h w c lo hi ot : Int) (on : Nat) (op : Int) : Int :=
 if (gtR O h w c lo hi ot on).1 ≠ 0 then (gtR O h w c lo hi ot on).1 else if ¬ (1 ≤ op ∧ op ≤ (on : Int)) then 3 else if rdB (O (op - 1).toNat 0) = false then 81 else 0
theorem fiE_err {O : Nat → Nat → Int} {h w c lo hi ot op e : Int} {on : Nat} (g : (gtR O h w c lo hi ot on).1 = e) (he : e ≠ 0) : fiE O h w c lo hi ot on op = e := by unfold fiE; rw [g, if_pos he]
theorem fiE_3 {O : Nat → Nat → Int} {h w c lo hi ot op : Int} {on : Nat} (g : (gtR O h w c lo hi ot on).1 = 0) (ho : ¬ (1 ≤ op ∧ op ≤ (on : Int))) : fiE O h w c lo hi ot on op = 3 := by unfold fiE; rw [g, if_neg (by decide), if_pos ho]
theorem fiE_81 {O : Nat → Nat → Int} {h w c lo hi ot : Int} {on i : Nat} (g : (gtR O h w c lo hi ot on).1 = 0) (ho : i < on) (hk : rdB (O i 0) = false) : fiE O h w c lo hi ot on ((i : Int) + 1) = 81 := by
 unfold fiE; rw [g, if_neg (by decide), if_neg (by omega), show ((i : Int) + 1 - 1).toNat = i by omega, hk, if_pos rfl]
theorem fiE_0 {O : Nat → Nat → Int} {h w c lo hi ot : Int} {on i : Nat} (g : (gtR O h w c lo hi ot on).1 = 0) (ho : i < on) (hk : rdB (O i 0) = true) : fiE O h w c lo hi ot on ((i : Int) + 1) = 0 := by
 unfold fiE; rw [g, if_neg (by decide), if_neg (by omega), show ((i : Int) + 1 - 1).toNat = i by omega, hk, if_neg (by decide)]
end Go.Proofs.YtgiohlcipndakaaGreat
