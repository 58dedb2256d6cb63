/- What the small functions of package bound return: one, plus, ofValues, product, running. What ends of package bound returns: the ends of the terms at a position. The iterators of package bound: the ends position by position; the blocks of a row. The blocks of a row: what slices.Chunk gives. A hull that grows: what the closure of hull takes, and what of the memory stays. The small functions of package depth: within, int16s, int32s; the search; Safe and Most's closure of what they ask. -/
import Derived.Test.YtgiohlcipndakaaGr13
import Derived.ScopeJumps
import Derived.WalkMore
/- What the small functions of package bound return: one, plus, ofValues, product, running. -/
namespace Go.Proofs.Ytgiohlcipndakaa
open Go.ChangeShapes Go.WideShapes Go.ChangeAt Go.RowKit
set_option linter.unusedVariables false
theorem bone_any (x : Int) (W : World) : Calls Try.prog 42 #[.int .i64 x] W fun e w' => e = .returned (.agg #[.int .i64 x, .int .i64 x]) ∧ Below W.heap.size W w' := by
  go_enter Try.func42, Try.ntmps42
  go_wp2
  exact bodyPost_ret (v := .agg #[.int .i64 x, .int .i64 x]) (by simp [results, Try.results42, go_sem]) rfl ⟨rfl, bal _ _⟩
set_option maxHeartbeats 1000000 in
theorem bplus_ok (a b : Int × Int) (W : World) (ha : Vd 10000000000 a) (hb : Vd 10000000000 b) : Calls Try.prog 30 #[.agg #[.int .i64 a.1, .int .i64 a.2], .agg #[.int .i64 b.1, .int .i64 b.2]] W fun e w' => e = .returned (.agg #[.int .i64 (plS a b).1, .int .i64 (plS a b).2]) ∧ Below W.heap.size W w' := by
  obtain ⟨a1, a2⟩ := a
  obtain ⟨b1, b2⟩ := b
  obtain ⟨h1, h2, h3⟩ := ha.sm (by omega)
  obtain ⟨g1, g2, g3⟩ := hb.sm (by omega)
  have HA : Hid (∀ w, _) := fun w => xadd_ok a1 a2 b1 b2 w h3 g3 h1 h2 g1 g2
  clear ha hb h1 h2 h3 g1 g2 g3
  simp only [plS]
  go_enter Try.func30, Try.ntmps30
  go_wp2_with fail
  refine (HA.out _).mono ?_
  rintro e w1 ⟨rfl, hb⟩
  have s1 := ((St.start W).new.new.new.call hb).new (c := #[.int .i64 (a1 + b1), .int .i64 (a2 + b2)]) (t := 28)
  simp only [World.size_alloc] at s1
  obtain ⟨c0, f0, z0, c1, f1, z1, -⟩ := s1.rules
  have s2 := s1.up1.out2 (i := 0) (j := 1) (u := .int .i64 (a1 + b1)) (v := .int .i64 (a2 + b2))
  clear hb s1
  go_wp2
  exact bodyPost_ret (v := .agg #[.int .i64 (a1 + b1), .int .i64 (a2 + b2)]) (by simp [results, Try.results30, go_sem, *]) rfl ⟨rfl, s2⟩
def vbB (lo hi : Int) : Bool := decide (-128 ≤ lo ∧ lo ≤ hi ∧ hi ≤ 127)
theorem vbB_yes {lo hi : Int} (h : vbB lo hi = true) : -128 ≤ lo ∧ lo ≤ hi ∧ hi ≤ 127 := by simpa [vbB] using h
theorem bofv_any (lo hi : Int) (W : World) : Calls Try.prog 41 #[.agg #[.int .i64 lo, .int .i64 hi]] W fun e w' => e = .returned (.bool (vbB lo hi)) ∧ Below W.heap.size W w' := by
  have HH : Hid (∀ w, Calls Try.prog 10 #[.agg #[.int .i64 (-128), .int .i64 127], .agg #[.int .i64 lo, .int .i64 hi]] w fun e w' => e = .returned (.bool (vbB lo hi)) ∧ Below w.heap.size w w') := fun w => by
    have := xholds_any (-128) 127 lo hi w
    have e : xho (-128) 127 lo hi = vbB lo hi := by unfold xho vbB; rw [Bool.eq_iff_iff]; simp; omega
    rwa [e] at this
  go_enter Try.func41, Try.ntmps41
  go_wp2_with fail
  refine (HH.out _).mono ?_
  rintro e w1 ⟨rfl, hb⟩
  have s1 := (St.start W).new.call hb
  clear hb
  go_wp2
  go_ret
  exact ⟨rfl, s1.below⟩
set_option maxHeartbeats 2000000 in
theorem bprod_any (ch n ln bi slo shi p h w c : Int) (g0 : Nat) (q : Nat) (W : World) (hq : W.heap[q]? = some (.cells #[.int .i64 ch, .int .i64 n, .int .i64 ln, .int .i64 bi, .int .i64 slo, .int .i64 shi, .int .i64 p, .int .i64 p, .int .i64 h, .int .i64 w, .int .i64 c, .int .i64 0, .int .i64 0, .slice (some ⟨g0, 0, none⟩) 1 1, .int .i64 0] 67 (0, 0))) (t : Int × Int) (hs : -128 ≤ slo ∧ slo ≤ shi ∧ shi ≤ 127) (hp : -128 ≤ p ∧ p ≤ 127) (ht : -32768 ≤ t.1 ∧ t.1 ≤ 32767) :
    Calls Try.prog 68 #[.pointer (some ⟨q, 0, none⟩), .agg #[.int .i64 t.1, .int .i64 t.2]] W fun e w' => e = .returned (.agg #[.int .i64 (tmE slo shi p t).1, .int .i64 (tmE slo shi p t).2]) ∧ Below W.heap.size W w' := by
  obtain ⟨t1, t2⟩ := t
  obtain ⟨y1, y2, y3⟩ := cells_at hq
  simp only at ht
  obtain ⟨q1, q2⟩ := prod_bd (a := slo) (by omega) ht
  obtain ⟨q3, q4⟩ := prod_bd (a := shi) (by omega) ht
  obtain ⟨q5, q6⟩ := prod_bd hp ht
  have HS : Hid (∀ w, _) := fun w => xtimes_ok slo shi t1 w hs.2.1 (by unfold Sm; omega) (by unfold Sm; omega) (by unfold Sm; omega)
  have HP : Hid (∀ w, _) := fun w => xtimes_ok p p t1 w (Int.le_refl _) (by unfold Sm; omega) (by unfold Sm; omega) (by unfold Sm; omega)
  clear hs hp ht q1 q2 q3 q4 q5 q6
  have s0 := ((((St.start W).new (c := #[.int .i64 t1, .int .i64 t2]) (t := 117)).new (c := #[.int .i64 0, .int .i64 0]) (t := 28)).new (c := #[.int .i64 slo, .int .i64 shi]) (t := 28))
  simp only [World.size_alloc] at s0
  have HQ : Hid (W.heap[q]? = some (.cells #[.int .i64 ch, .int .i64 n, .int .i64 ln, .int .i64 bi, .int .i64 slo, .int .i64 shi, .int .i64 p, .int .i64 p, .int .i64 h, .int .i64 w, .int .i64 c, .int .i64 0, .int .i64 0, .slice (some ⟨g0, 0, none⟩) 1 1, .int .i64 0] 67 (0, 0))) := hq
  clear hq
  by_cases neg : t2 < 0
  · have HE : Hid (tmE slo shi p (t1, t2) = xti p p t1) := by unfold Hid tmE xti; rw [if_pos neg]; simp
    rw [HE.out]
    obtain ⟨e1, e2, hx⟩ : ∃ e1 e2, xti p p t1 = (e1, e2) := ⟨_, _, rfl⟩
    rw [hx] at HP ⊢
    clear hx
    clear HE HS
    go_enter Try.func68, Try.ntmps68
    go_upto_region 2 with fail
    obtain ⟨w0, hw0⟩ : ∃ w0, (((W.alloc (.cells #[.int .i64 t1, .int .i64 t2] 117)).alloc (.cells #[.int .i64 0, .int .i64 0] 28)).alloc (.cells #[.int .i64 slo, .int .i64 shi] 28)) = w0 := ⟨_, rfl⟩
    rw [hw0] at s0 ⊢
    clear y1 y2 hw0
    obtain ⟨y1, y2, -⟩ := cells_at ((s0.below.block q y3).trans HQ.out)
    obtain ⟨c0, f0, z0, c1, f1, z1, c2, f2, z2, -⟩ := s0.rules
    have s1 := s0.set2 (u := .int .i64 p) (v := .int .i64 p) (by simp; omega)
    go_wp2_with fail
    refine (HP.out _).mono ?_
    rintro e w1 ⟨rfl, hb⟩
    have s2 := (s1.call hb).new (c := #[.int .i64 e1, .int .i64 e2]) (t := 28)
    clear c0 f0 z0 c1 f1 z1 c2 f2 z2 y1 y2 s0 s1 hb
    obtain ⟨c0, f0, z0, c1, f1, z1, c2, f2, z2, -⟩ := s2.rules
    have s3 := s2.up2.out2 (i := 0) (j := 1) (u := .int .i64 e1) (v := .int .i64 e2)
    clear s2
    go_wp2
    exact bodyPost_ret (v := .agg #[.int .i64 e1, .int .i64 e2]) (by simp [results, Try.results68, go_sem, *]) rfl ⟨rfl, s3⟩
  · have HE : Hid (tmE slo shi p (t1, t2) = xti slo shi t1) := by unfold Hid tmE; rw [if_neg neg]
    rw [HE.out]
    obtain ⟨e1, e2, hx⟩ : ∃ e1 e2, xti slo shi t1 = (e1, e2) := ⟨_, _, rfl⟩
    rw [hx] at HS ⊢
    clear hx
    clear HE HP
    go_enter Try.func68, Try.ntmps68
    go_upto_region 2 with fail
    obtain ⟨w0, hw0⟩ : ∃ w0, (((W.alloc (.cells #[.int .i64 t1, .int .i64 t2] 117)).alloc (.cells #[.int .i64 0, .int .i64 0] 28)).alloc (.cells #[.int .i64 slo, .int .i64 shi] 28)) = w0 := ⟨_, rfl⟩
    rw [hw0] at s0 ⊢
    clear y1 y2 hw0
    obtain ⟨c0, f0, z0, c1, f1, z1, c2, f2, z2, -⟩ := s0.rules
    go_wp2_with fail
    refine (HS.out _).mono ?_
    rintro e w1 ⟨rfl, hb⟩
    have s2 := (s0.call hb).new (c := #[.int .i64 e1, .int .i64 e2]) (t := 28)
    clear c0 f0 z0 c1 f1 z1 c2 f2 z2 s0 hb
    obtain ⟨c0, f0, z0, c1, f1, z1, c2, f2, z2, -⟩ := s2.rules
    have s3 := s2.up2.out2 (i := 0) (j := 1) (u := .int .i64 e1) (v := .int .i64 e2)
    clear s2
    go_wp2
    exact bodyPost_ret (v := .agg #[.int .i64 e1, .int .i64 e2]) (by simp [results, Try.results68, go_sem, *]) rfl ⟨rfl, s3⟩
end Go.Proofs.Ytgiohlcipndakaa

/- What ends of package bound returns: the ends of the terms at a position. -/
namespace Go.Proofs.Ytgiohlcipndakaa
open Go.ChangeShapes Go.WideShapes Go.ChangeAt Go.RowKit
set_option linter.unusedVariables false
set_option maxRecDepth 100000 in
set_option maxHeartbeats 8000000 in
theorem bends_any (ch n ln bi slo shi p h w c : Int) (g0 : Nat) (q : Nat) (W : World) (hq : W.heap[q]? = some (.cells #[.int .i64 ch, .int .i64 n, .int .i64 ln, .int .i64 bi, .int .i64 slo, .int .i64 shi, .int .i64 p, .int .i64 p, .int .i64 h, .int .i64 w, .int .i64 c, .int .i64 0, .int .i64 0, .slice (some ⟨g0, 0, none⟩) 1 1, .int .i64 0] 67 (0, 0))) (at' b' : Int) (TL : List (Int × Int)) (hs : -128 ≤ slo ∧ slo ≤ shi ∧ shi ≤ 127) (hp : -128 ≤ p ∧ p ≤ 127) (ht : ∀ t ∈ TL, -32768 ≤ t.1 ∧ t.1 ≤ 32767) (hl : TL.length ≤ 512)
    (hO : ∀ W', Below W.heap.size W W' → Calls Try.prog 40 #[.agg #[.int .i64 h, .int .i64 w, .int .i64 c, .int .i64 0, .int .i64 0, .slice (some ⟨g0, 0, none⟩) 1 1, .int .i64 0], .int .i64 1, .int .i64 ch, .int .i64 at'] W' fun e w' => (∃ v, e = .returned (.tuple #[v, .int .i64 b', .int .i64 0]) ∧ OTm w' W'.heap.size v TL) ∧ Below W'.heap.size W' w') :
    Calls Try.prog 61 #[.pointer (some ⟨q, 0, none⟩), .int .i64 at'] W fun e w' => (∃ u, e = .returned u ∧ OSp w' W.heap.size u (enL slo shi p TL)) ∧ Below W.heap.size W w' := by
  have HO : Hid (∀ W', Below W.heap.size W W' → _) := hO
  have HQ : Hid (W.heap[q]? = some (.cells #[.int .i64 ch, .int .i64 n, .int .i64 ln, .int .i64 bi, .int .i64 slo, .int .i64 shi, .int .i64 p, .int .i64 p, .int .i64 h, .int .i64 w, .int .i64 c, .int .i64 0, .int .i64 0, .slice (some ⟨g0, 0, none⟩) 1 1, .int .i64 0] 67 (0, 0))) := hq
  have hqz := lt_of_heap hq
  obtain ⟨N, hN⟩ : ∃ N, TL.length = N := ⟨_, rfl⟩
  have HN : Hid (TL.length = N) := hN
  rw [hN] at hl
  have HT : Hid (∀ t ∈ TL, -32768 ≤ t.1 ∧ t.1 ≤ 32767) := ht
  have HL : Hid ((enL slo shi p TL).length = N) := by unfold Hid; rw [enL_len, hN]
  have HP : Hid (∀ (W' : World) (t : Int × Int), Below W.heap.size W W' → t ∈ TL → Calls Try.prog 68 #[.pointer (some ⟨q, 0, none⟩), .agg #[.int .i64 t.1, .int .i64 t.2]] W' fun e w' => e = .returned (.agg #[.int .i64 (tmE slo shi p t).1, .int .i64 (tmE slo shi p t).2]) ∧ Below W'.heap.size W' w') := fun W' t hb hm => bprod_any ch n ln bi slo shi p h w c g0 q W' ((hb.block q hqz).trans hq) t hs hp (ht t hm)
  clear hO hq hN ht hs hp
  go_enter Try.func61, Try.ntmps61
  go_upto_region 1 with fail
  refine regionC (fun w' => Below W.heap.size W w') (by kernel_rfl) ?_
  obtain ⟨w3, hw3⟩ : ∃ w3, W.drew = w3 := ⟨_, rfl⟩
  have B3 : Hid (Below W.heap.size W w3) := by unfold Hid; rw [← hw3]; exact (Below.refl _ _).drew
  rw [hw3]
  clear hw3
  have HC : Hid (∀ w', Below W.heap.size W w' → ∀ i, w'.cell? ⟨q, i, none⟩ = (#[.int .i64 ch, .int .i64 n, .int .i64 ln, .int .i64 bi, .int .i64 slo, .int .i64 shi, .int .i64 p, .int .i64 p, .int .i64 h, .int .i64 w, .int .i64 c, .int .i64 0, .int .i64 0, .slice (some ⟨g0, 0, none⟩) 1 1, .int .i64 0])[i]?) := fun w' hb => (cells_at ((hb.block q hqz).trans HQ.out)).1
  refine takeC 0 (v := .pointer (some ⟨q, 0, none⟩)) rfl rfl (by kernel_rfl) (by kernel_rfl) (by kernel_rfl) (fun _ _ _ h => h) (fun _ => rfl) rfl (fun w' hw' => by go_simp) ?_
  refine takeC 1 (v := .pointer (some ⟨q, 0, none⟩)) rfl rfl (by kernel_rfl) (by kernel_rfl) (by kernel_rfl) (fun _ _ _ h => h) (fun _ => rfl) rfl (fun w' hw' => by go_simp) ?_
  refine takeC 2 (v := .pointer (some ⟨q, 8, none⟩)) rfl rfl (by kernel_rfl) (by kernel_rfl) (by kernel_rfl) (fun _ _ _ h => h) (fun _ => rfl) rfl (fun w' hw' => by go_simp) ?_
  refine takeC 3 (v := .agg #[.int .i64 h, .int .i64 w, .int .i64 c, .int .i64 0, .int .i64 0, .slice (some ⟨g0, 0, none⟩) 1 1, .int .i64 0]) rfl rfl (by kernel_rfl) (by kernel_rfl) (by kernel_rfl) (fun _ _ _ h => h) (fun _ => rfl) rfl (fun w' hw' => run_la 26 (.tmp 14) rfl ⟨q, 8, none⟩ (by kernel_rfl) [.int .i64 h, .int .i64 w, .int .i64 c, .int .i64 0, .int .i64 0, .slice (some ⟨g0, 0, none⟩) 1 1, .int .i64 0] _ (fun j v hj => by
    rw [Addr.add_lit, HC.out w' hw']
    have := (List.getElem?_eq_some_iff.1 hj).1
    rcases (show j = 0 ∨ j = 1 ∨ j = 2 ∨ j = 3 ∨ j = 4 ∨ j = 5 ∨ j = 6 by simp at this; omega) with rfl | rfl | rfl | rfl | rfl | rfl | rfl <;> simpa using hj) Try.underlying26 rfl (by kernel_rfl)) ?_
  refine takeC 4 (v := .pointer (some ⟨q, 0, none⟩)) rfl rfl (by kernel_rfl) (by kernel_rfl) (by kernel_rfl) (fun _ _ _ h => h) (fun _ => rfl) rfl (fun w' hw' => by go_simp) ?_
  refine takeC 5 (v := .pointer (some ⟨q, 0, none⟩)) rfl rfl (by kernel_rfl) (by kernel_rfl) (by kernel_rfl) (fun _ _ _ h => h) (fun _ => rfl) rfl (fun w' hw' => by go_simp) ?_
  refine takeC 6 (v := .pointer (some ⟨q, 0, none⟩)) rfl rfl (by kernel_rfl) (by kernel_rfl) (by kernel_rfl) (fun _ _ _ h => h) (fun _ => rfl) rfl (fun w' hw' => by go_simp) ?_
  refine takeC 7 (v := .int .i64 ch) rfl rfl (by kernel_rfl) (by kernel_rfl) (by kernel_rfl) (fun _ _ _ h => h) (fun _ => rfl) rfl (fun w' hw' => by have := HC.out w' hw'; go_simp) ?_
  refine takeC 8 (v := .int .i64 at') rfl rfl (by kernel_rfl) (by kernel_rfl) (by kernel_rfl) (fun _ _ _ h => h) (fun _ => rfl) rfl (fun w' hw' => by go_simp) ?_
  refine yK 9 B3.out (by kernel_rfl) rfl rfl 40 #[.agg #[.int .i64 h, .int .i64 w, .int .i64 c, .int .i64 0, .int .i64 0, .slice (some ⟨g0, 0, none⟩) 1 1, .int .i64 0], .int .i64 1, .int .i64 ch, .int .i64 at'] (by kernel_rfl) (HO.out w3 B3.out) ?_
  rintro e w4 ⟨⟨tv, rfl, ho⟩, hb4⟩
  refine ⟨_, rfl, ?_⟩
  have B4 : Hid (Below W.heap.size W w4) := B3.out.trans (hb4.mono B3.out.size)
  have OT : Hid (TV w4 tv TL) := ho.tv
  obtain ⟨ta, tc, rfl⟩ := ho.slice
  clear ho hb4 B3
  refine takeC 10 (v := .tuple #[.slice ta TL.length tc, .int .i64 b', .int .i64 0]) rfl rfl (by kernel_rfl) (by kernel_rfl) (by kernel_rfl) (fun _ _ _ h => h) (fun _ => rfl) rfl (fun w' hw' => by go_simp) ?_
  refine takeC 11 (v := .slice ta TL.length tc) rfl rfl (by kernel_rfl) (by kernel_rfl) (by kernel_rfl) (fun _ _ _ h => h) (fun _ => rfl) rfl (fun w' hw' => by go_simp) ?_
  refine takeC 12 (v := .int .i64 b') rfl rfl (by kernel_rfl) (by kernel_rfl) (by kernel_rfl) (fun _ _ _ h => h) (fun _ => rfl) rfl (fun w' hw' => by go_simp) ?_
  refine takeC 13 (v := .int .i64 0) rfl rfl (by kernel_rfl) (by kernel_rfl) (by kernel_rfl) (fun _ _ _ h => h) (fun _ => rfl) rfl (fun w' hw' => by go_simp) ?_
  refine yR 14 B4.out (by kernel_rfl) rfl rfl (.slice ta TL.length tc) w4 (by go_simp) ?_
  refine yR 15 B4.out (by kernel_rfl) rfl rfl (.int .i64 b') w4 (by go_simp) ?_
  refine yR 16 B4.out (by kernel_rfl) rfl rfl (.int .i64 0) w4 (by go_simp) ?_
  refine doneC B4.out (by kernel_rfl) ?_ _
  rw [HN.out]
  obtain ⟨G, hG⟩ : ∃ G, w4.heap.size = G := ⟨_, rfl⟩
  have hGz : W.heap.size ≤ G := by rw [← hG]; exact B4.out.size
  clear HC
  go_wp2_with (at_make; refine wpList_mkS rfl _ rfl N rfl (by omega) ?_; intro cur0 hG0 hS0)
  rw [hG] at hG0
  have HG0 : Hid ((w4.alloc (.cells cur0 28)).heap[G]? = some (.cells cur0 28 (0, 0))) := hG0
  have HS0 : Hid (Cu2 cur0 N []) := hS0
  have HB0 : Hid (Below G w4 (w4.alloc (.cells cur0 28))) := by unfold Hid; rw [← hG]; exact bal _ _
  have HG : Hid (w4.heap.size = G) := hG
  obtain ⟨w5, hw5⟩ : ∃ w5, w4.alloc (.cells cur0 28) = w5 := ⟨_, rfl⟩
  rw [hw5] at HG0 HB0 ⊢
  clear hG0 hS0 hG hw5
  go_loopw [30] (fun i wr => ∃ (y : Nat) (cur : Array Value), y ≤ N ∧ i = .int .i64 y ∧ wr.heap[G]? = some (.cells cur 28 (0, 0)) ∧ Cu2 cur N ((enL slo shi p TL).take y) ∧ Below G w4 wr) (fun i _ => N - (intOf i).toNat)
  case atStart => exact ⟨0, cur0, Nat.zero_le _, rfl, HG0.out, by simpa using HS0.out, HB0.out⟩
  case round =>
    obtain ⟨y, cur, hy, rfl, hG, hC, hb⟩ := hrel
    clear HG0 HB0 HS0
    have HC : Hid (Cu2 cur N ((enL slo shi p TL).take y)) := hC
    have hsz := hC.1
    by_cases hlt : y < N
    · obtain ⟨ta', tc', e0, -, -, h4⟩ := OT.out
      obtain ⟨g, rfl, hc⟩ := h4 (by rw [HN.out]; omega)
      have e1 : ta = some ⟨g, 0, none⟩ := by simpa using (Value.slice.inj e0).1
      subst e1
      obtain ⟨q1, q2⟩ := TV.at hc (show y < TL.length by rw [HN.out]; exact hlt)
      obtain ⟨A1, A2, hA⟩ : ∃ A1 A2, TL.getD y (0, 0) = (A1, A2) := ⟨_, _, rfl⟩
      rw [hA] at q1 q2
      simp only at q1 q2
      have hmem : (A1, A2) ∈ TL := by
        rw [← hA, List.getD_eq_getElem?_getD, List.getElem?_eq_getElem (by rw [HN.out]; exact hlt)]
        exact List.getElem_mem _
      have hbz := hb.size
      have p1 := (hb.cell (by rw [← HG.out]; exact World.block_lt_of_cell? w4 _ q1)).trans q1
      have p2 := (hb.cell (by rw [← HG.out]; exact World.block_lt_of_cell? w4 _ q2)).trans q2
      have hbW : Below W.heap.size W wr := B4.out.trans (hb.mono hGz)
      have HPr : Hid (∀ (W' : World), Below wr.heap.size wr W' → _) := fun W' hb' => HP.out W' (A1, A2) (hbW.trans (hb'.mono hbW.size)) hmem
      have HE : Hid ((enL slo shi p TL).getD y (0, 0) = tmE slo shi p (A1, A2)) := by unfold Hid; rw [enL_getD _ _ _ (by rw [HN.out]; exact hlt) _ (0, 0), hA]
      obtain ⟨E1, E2, hE⟩ : ∃ E1 E2, tmE slo shi p (A1, A2) = (E1, E2) := ⟨_, _, rfl⟩
      rw [hE] at HPr HE
      simp only at HPr
      have hGr := lt_of_heap hG
      clear e0 h4 hc q1 q2 hA hmem hE hC
      go_wp2_with fail
      refine (HPr.out _ (bal _ _)).mono ?_
      rintro e w6 ⟨rfl, hb6⟩
      have hb7 := (bal wr (.cells #[.int .i64 A1, .int .i64 A2] 117)).trans (hb6.mono (by simp))
      have hG3 : w6.heap[G]? = some (.cells cur 28 (0, 0)) := (hb7.block G hGr).trans hG
      have hb3 : Below G w4 w6 := hb.trans (hb7.mono (by omega))
      obtain ⟨u1, hu1⟩ : ∃ v, w6.cell? ⟨G, y * 2, none⟩ = some v := ⟨cur[y * 2]'(by omega), by rw [(cells_at hG3).1]; exact Array.getElem?_eq_getElem _⟩
      obtain ⟨u2, hu2⟩ : ∃ v, w6.cell? ⟨G, y * 2 + 1, none⟩ = some v := ⟨cur[y * 2 + 1]'(by omega), by rw [(cells_at hG3).1]; exact Array.getElem?_eq_getElem _⟩
      have hf3 := (cells_at hG3).2.1
      have HG3 : Hid (w6.heap[G]? = some (.cells cur 28 (0, 0))) := hG3
      have HB3 : Hid (Below G w4 w6) := hb3
      clear hG hG3 hb hb3 hb6 hb7 hbW p1 p2 HPr
      go_wp2
      go_roundw
      case rel =>
        have hlen : ((enL slo shi p TL).take y).length = y := by rw [List.length_take, HL.out]; omega
        have hA := HC.out.add (by rw [hlen]; exact hlt) E1 E2
        rw [← take_snoc (by rw [HL.out]; exact hlt) HE.out, hlen] at hA
        exact ⟨y + 1, _, by omega, by go_num, heap_setCell_at (heap_setCell_at HG3.out), hA, (HB3.out.setCell (p := ⟨G, y * 2, none⟩) (Nat.le_refl _) _).setCell (p := ⟨G, y * 2 + 1, none⟩) (Nat.le_refl _) _⟩
      case measure => simp [intOf]; omega
    · obtain rfl : y = N := by omega
      have hO := OSp.of (base := W.heap.size) hG hGz hC (by unfold maxLen; omega)
      rw [List.take_of_length_le (by rw [HL.out]; exact Nat.le_refl _), HL.out] at hO
      have HO' : Hid (OSp _ _ _ _) := hO
      have HF : Hid (Below W.heap.size W wr) := B4.out.trans (hb.mono hGz)
      clear hO hC hb
      go_wp2
      go_ret
      exact ⟨⟨_, rfl, HO'.out⟩, HF.out⟩
end Go.Proofs.Ytgiohlcipndakaa

/- The iterators of package bound: the ends position by position; the blocks of a row. -/
namespace Go.Proofs.Ytgiohlcipndakaa
open Go.ChangeShapes Go.WideShapes Go.ChangeAt Go.RowKit Go.Shelf
set_option linter.unusedVariables false
attribute [local go_sem] Oper.semAt_some
theorem abide_b {B : Nat} {J : Nat → World → Prop} (hJ : AbidesFrom B J) {s : Nat} {W W' : World} (h : J s W) (k : Below W.heap.size W W') : J s W' :=
  hJ s W W' none h (grownBy_of_below k) (fun r e => by cases e)
set_option maxRecDepth 100000 in
set_option maxHeartbeats 4000000 in
theorem brows1_in (m l B q n0 nb : Nat) (ch n ln bi slo shi p h w c : Int) (g0 : Nat) (R : Nat → List (Int × Int)) (N : Nat) (hn : n = (N : Int)) (hN : N ≤ 100000000) (J : Nat → World → Prop) (W : World) (hnb : nb ≤ W.heap.size) (hn0 : n0 ≤ W.heap.size) (hqn : q < n0)
    (c1 : W.heap[B]? = some (.cells #[.pointer (some ⟨q, 0, none⟩)] 94 (0, 0))) (hq : W.heap[q]? = some (.cells #[.int .i64 ch, .int .i64 n, .int .i64 ln, .int .i64 bi, .int .i64 slo, .int .i64 shi, .int .i64 p, .int .i64 p, .int .i64 h, .int .i64 w, .int .i64 c, .int .i64 0, .int .i64 0, .slice (some ⟨g0, 0, none⟩) 1 1, .int .i64 0] 67 (0, 0)))
    (hE : ∀ W' (k : Nat), Below n0 W W' → k < N → Calls Try.prog 61 #[.pointer (some ⟨q, 0, none⟩), .int .i64 (k : Int)] W' fun e w' => (∃ u, e = .returned u ∧ OSp w' W'.heap.size u (R k)) ∧ Below W'.heap.size W' w')
    (hJ : AbidesFrom W.heap.size J)
    (hY : ∀ k x W1, J k W1 → k < N → SpV W1 x (R k) → Nb nb x → YieldAt Fence.wide (m - 1) Try.prog l #[x] W1 fun e W' => e = .returned (.bool true) ∧ J (k + 1) W' ∧ Kps n0 [B] W1 W') (h0 : J 0 W) :
    CallsIn Fence.wide m Try.prog 60 #[.func (.yield l) #[] #[], .pointer (some ⟨B, 0, none⟩)] W fun e W' => (∃ v, e = .returned v) ∧ J N W' := by
  subst hn
  have HE : Hid (∀ W' (k : Nat), Below n0 W W' → k < N → _) := hE
  have HY : Hid (∀ k x W1, J k W1 → k < N → SpV W1 x (R k) → _) := hY
  obtain ⟨x1, -, -⟩ := cells_at c1
  obtain ⟨y1, -, -⟩ := cells_at hq
  have HC1 : Hid (W.heap[B]? = _) := c1
  clear hE hY c1 hq
  refine callsIn_of_wp Try.func60 rfl trivial ?_ rfl
  simp only [Try.ntmps60, List.size_toArray, List.length_cons, List.length_nil, Nat.reduceAdd, Nat.reduceSub, Array.replicate_succ, Array.replicate_zero, List.push_toArray, List.append_toArray, List.nil_append, List.cons_append]
  gi_wp2
  gi_loopw [8] (fun i wr => ∃ k : Nat, k ≤ N ∧ i = .int .i64 k ∧ J k wr ∧ Kps n0 [B] W wr)
    (fun i _ => N - (intOf i).toNat)
  case atStart => exact ⟨0, Nat.zero_le _, rfl, h0, Below.refl _ _, Kept.refl _ _⟩
  case round =>
    clear x1 y1
    obtain ⟨k, hk, rfl, hJs, hkp⟩ := hrel
    by_cases hlt : k < N
    · obtain ⟨x1, -, -⟩ := cells_at (hkp.2 B (by simp) _ _ HC1.out)
      have hfn : ∀ f, Fence.wide.fn f := fun _ => trivial
      have hdp : Fence.wide.depth = none := rfl
      gi_wp2_with fail
      refine (callsIn_wide.2 (HE.out _ k hkp.1 hlt)).mono ?_
      rintro e w1 ⟨⟨u, rfl, hu⟩, hb1⟩
      obtain ⟨fn, tmps, assign, body, hy, hR⟩ := HY.out k u w1 (abide_b hJ hJs hb1) hlt hu.sv (hu.nb.mono (by have := hkp.1.size; omega))
      have hkz := hkp.1.size
      gi_wp2
      refine hR.mono ?_
      rintro e W3 ⟨rfl, hJ3, hk3⟩
      gi_wp2
      go_roundw
      case rel => exact ⟨k + 1, by omega, by simp, hJ3, (hkp.trans (Kps.of hb1 (by omega))).trans hk3⟩
      case measure => simp [intOf]; omega
    · obtain rfl : k = N := by omega
      gi_wp2
      go_end0
      exact ⟨⟨_, rfl⟩, hJs⟩
set_option maxHeartbeats 1000000 in
theorem brows_any (q n0 : Nat) (ch n ln bi slo shi p h w c : Int) (g0 : Nat) (R : Nat → List (Int × Int)) (N : Nat) (hn : n = (N : Int)) (hN : N ≤ 100000000) (W : World) (hn0 : n0 ≤ W.heap.size) (hqn : q < n0)
    (hq : W.heap[q]? = some (.cells #[.int .i64 ch, .int .i64 n, .int .i64 ln, .int .i64 bi, .int .i64 slo, .int .i64 shi, .int .i64 p, .int .i64 p, .int .i64 h, .int .i64 w, .int .i64 c, .int .i64 0, .int .i64 0, .slice (some ⟨g0, 0, none⟩) 1 1, .int .i64 0] 67 (0, 0)))
    (hE : ∀ W' (k : Nat), Below n0 W W' → k < N → Calls Try.prog 61 #[.pointer (some ⟨q, 0, none⟩), .int .i64 (k : Int)] W' fun e w' => (∃ u, e = .returned u ∧ OSp w' W'.heap.size u (R k)) ∧ Below W'.heap.size W' w') :
    Calls Try.prog 45 #[.pointer (some ⟨q, 0, none⟩)] W fun e w' => (∃ lb, e = .returned (.func (.func 60) #[] lb) ∧ Sq n0 W.heap.size [W.heap.size] (fun _ => True) w' (.func (.func 60) #[] lb) R N) ∧ Below W.heap.size W w' ∧ w'.heap[W.heap.size]? = some (.cells #[.pointer (some ⟨q, 0, none⟩)] 94 (0, 0)) := by
  have hmf : ∀ (fn : Fn) (first cap : Array Value) (w : World), (Instr.makeFunc fn first cap).run Try.prog w = .ok (.func fn first cap) w := fun _ _ _ _ => rfl
  have s1 := (St.start W).new (c := #[.pointer (some ⟨q, 0, none⟩)]) (t := 94)
  have HE : Hid (∀ W' (k : Nat), Below n0 W W' → k < N → _) := hE
  have HQ : Hid (W.heap[q]? = _) := hq
  clear hE hq
  go_enter Try.func45, Try.ntmps45
  go_wp2
  go_ret
  refine ⟨⟨_, rfl, _, _, rfl, enters_of Try.func60 (by kernel_rfl) rfl, fun l m J W1 hW hJ _ hY h0 => ?_⟩, s1.below, s1.h1⟩
  have hb := s1.below.trans (hW.mono s1.below.size)
  exact brows1_in m l W.heap.size q n0 W.heap.size ch n ln bi slo shi p h w c g0 R N hn hN J W1 hb.size (by have := hb.size; omega) hqn ((hW.block _ (lt_of_heap s1.h1)).trans s1.h1) ((hb.block q (by omega)).trans HQ.out) (fun W' k hW' hk => HE.out W' k ((hb.mono hn0).trans hW') hk) hJ hY h0
/-- The lesser of two. -/
theorem min2 (x y M : Int) (h : xmn x y = M) : ∀ (W : World) (ts : Array TypeId) (t : TypeId), (Builtin.min_ ts t #[.int .i64 x, .int .i64 y]).run Try.prog W = .ok (.int .i64 M) W := by
  intro W ts t
  subst h
  simp [Builtin.min_, Builtin.min2, xmn]
  repeat' split
  all_goals first | rfl | omega
end Go.Proofs.Ytgiohlcipndakaa

/- The blocks of a row: what slices.Chunk gives. -/
namespace Go.Proofs.Ytgiohlcipndakaa
open Go.ChangeShapes Go.WideShapes Go.ChangeAt Go.RowKit Go.Shelf
set_option linter.unusedVariables false
attribute [local go_sem] Oper.semAt_some
theorem cell_box {w : World} {B : Nat} {v : Value} {t : TypeId} (h : w.heap[B]? = some (.cells #[v] t (0, 0))) : w.cell? ⟨B, 0, none⟩ = some v := by rw [(cells_at h).1]; rfl
set_option maxRecDepth 100000 in
set_option maxHeartbeats 4000000 in
theorem chunk1_in (m l Bs Bd n0 nb d : Nat) (v : Value) (E : List (Int × Int)) (hnv : Nb nb v) (hd : 0 < d) (hd2 : d ≤ 512) (hl : E.length ≤ 512) (J : Nat → World → Prop) (W : World) (hn0 : n0 ≤ W.heap.size) (hPr : ∀ k W1, J k W1 → SpV W1 v E)
    (c1 : W.heap[Bs]? = some (.cells #[v] 71 (0, 0))) (c2 : W.heap[Bd]? = some (.cells #[.int .i64 (d : Int)] 3 (0, 0)))
    (hJ : AbidesFrom W.heap.size J)
    (hY : ∀ k x W1, J k W1 → k < chN d E.length → SpV W1 x (chk d E k) → Nb nb x → YieldAt Fence.wide (m - 1) Try.prog l #[x] W1 fun e W' => e = .returned (.bool true) ∧ J (k + 1) W' ∧ Kps n0 [Bs, Bd] W1 W') (h0 : J 0 W) :
    CallsIn Fence.wide m Try.prog 46 #[.func (.yield l) #[] #[], .pointer (some ⟨Bs, 0, none⟩), .pointer (some ⟨Bd, 0, none⟩)] W fun e W' => (∃ v, e = .returned v) ∧ J (chN d E.length) W' := by
  have HY : Hid (∀ k x W1, J k W1 → k < chN d E.length → SpV W1 x (chk d E k) → _) := hY
  obtain ⟨N, hN⟩ : ∃ N, E.length = N := ⟨_, rfl⟩
  obtain ⟨n, hn⟩ : ∃ n, chN d N = n := ⟨_, rfl⟩
  have HPr : Hid (∀ k W1, J k W1 → SpV W1 v E) := hPr
  obtain ⟨va, vc, hve, -⟩ := hPr 0 W h0
  clear hPr
  rw [hN] at hve HY hl ⊢
  have HN : Hid (E.length = N) := hN
  have HL : Hid (∀ k, k < n ↔ k * d < N) := fun k => by rw [← hn]; exact chN_lt hd
  have HX : Hid (chN d N = n) := hn
  rw [hn] at HY ⊢
  have HC1 : Hid (W.heap[Bs]? = _) := c1
  have HC2 : Hid (W.heap[Bd]? = _) := c2
  clear hY c1 c2 hN hn
  refine callsIn_of_wp Try.func46 rfl trivial ?_ rfl
  simp only [Try.ntmps46, List.size_toArray, List.length_cons, List.length_nil, Nat.reduceAdd, Nat.reduceSub, Array.replicate_succ, Array.replicate_zero, List.push_toArray, List.append_toArray, List.nil_append, List.cons_append]
  gi_wp2
  gi_loopw [4] (fun i wr => ∃ k : Nat, k ≤ n ∧ i = .int .i64 ((k * d : Nat) : Int) ∧ J k wr ∧ Kps n0 [Bs, Bd] W wr)
    (fun i _ => N + d - (intOf i).toNat)
  case atStart => exact ⟨0, Nat.zero_le _, by simp, h0, Below.refl _ _, Kept.refl _ _⟩
  case round =>
    obtain ⟨k, hk, rfl, hJs, hkp⟩ := hrel
    have k1 := hkp.2 Bs (by simp) _ _ HC1.out
    have k2 := hkp.2 Bd (by simp) _ _ HC2.out
    have x1 := cell_box k1
    have x2 := cell_box k2
    obtain ⟨I, hI⟩ : ∃ I, k * d = I := ⟨_, rfl⟩
    have hlt' := HL.out k
    rw [hI] at hlt' ⊢
    have HI : Hid (k * d = I) := hI
    have hfn : ∀ f, Fence.wide.fn f := fun _ => trivial
    have hdp : Fence.wide.depth = none := rfl
    clear hI
    by_cases hlt : I < N
    · have hkn := hlt'.2 hlt
      have HV : Hid (SpV wr v E) := HPr.out k wr hJs
      obtain ⟨v1, hs1, sp1⟩ := HV.out.from (k := I) (by rw [HN.out]; exact hlt) rfl
      obtain ⟨⟨a1, p1, rfl, -⟩, -⟩ := sp1
      rw [List.length_drop, HN.out] at hs1
      obtain ⟨M, hM⟩ : ∃ M : Nat, min d (N - I) = M := ⟨_, rfl⟩
      have hmn := min2 (d : Int) ((N - I : Nat) : Int) (M : Int) (by unfold xmn; split <;> omega)
      obtain ⟨v2, hs2, sp2, nb2⟩ := HV.out.mid (k := I) (m := M) (by rw [HN.out]; omega) (by omega) rfl rfl
      have hck : (E.drop I).take M = chk d E k := by
        unfold chk
        rw [HI.out, ← hM]
        apply List.ext_getElem?
        intro j
        rw [List.getElem?_take, List.getElem?_take]
        by_cases q1 : j < min d (N - I)
        · rw [if_pos q1, if_pos (by omega)]
        · rw [if_neg q1]
          by_cases q2 : j < d
          · rw [if_pos q2, List.getElem?_drop, List.getElem?_eq_none (by rw [HN.out]; omega)]
          · rw [if_neg q2]
      rw [hck] at sp2
      have HS2 : Hid (SpV wr v2 (chk d E k)) := sp2
      have HN2 : Hid (Nb nb v2) := nb2 nb hnv
      have HM : Hid (M ≤ d ∧ M ≤ 512) := ⟨by omega, by omega⟩
      have hM1 : M ≤ 512 := HM.out.2
      clear hck sp2 hM HV HL hlt' nb2
      refine wpIn_wide.2 ?_
      subst hve
      go_upto_region 3 with fail
      refine regionC (fun w' => w'.heap[Bs]? = some (.cells #[.slice va N vc] 71 (0, 0)) ∧ w'.heap[Bd]? = some (.cells #[.int .i64 (d : Int)] 3 (0, 0))) (by kernel_rfl) ?_
      have DC : Hid ((fun w' => w'.heap[Bs]? = some (.cells #[.slice va N vc] 71 (0, 0)) ∧ w'.heap[Bd]? = some (.cells #[.int .i64 (d : Int)] 3 (0, 0))) wr.drew) := ⟨k1, k2⟩
      have DB : Hid (Below wr.heap.size wr wr.drew) := (Below.refl _ _).drew
      obtain ⟨w3, hw3⟩ : ∃ w3, wr.drew = w3 := ⟨_, rfl⟩
      rw [hw3] at DC DB ⊢
      clear hw3
      refine takeC 0 (v := .int .i64 (d : Int)) rfl rfl (by kernel_rfl) (by kernel_rfl) (by kernel_rfl) (fun _ _ _ h => h) (fun _ => rfl) rfl (fun w' hw' => by have := cell_box hw'.2; go_simp) ?_
      refine takeC 1 (v := .slice va N vc) rfl rfl (by kernel_rfl) (by kernel_rfl) (by kernel_rfl) (fun _ _ _ h => h) (fun _ => rfl) rfl (fun w' hw' => by have := cell_box hw'.1; go_simp) ?_
      refine takeC 2 (v := .int .i64 (I : Int)) rfl rfl (by kernel_rfl) (by kernel_rfl) (by kernel_rfl) (fun _ _ _ h => h) (fun _ => rfl) rfl (fun w' hw' => by go_simp) ?_
      refine takeC 3 (v := .slice a1 (N - I) p1) rfl rfl (by kernel_rfl) (by kernel_rfl) (by kernel_rfl) (fun _ _ _ h => h) (fun _ => rfl) rfl (fun w' hw' => by have := hs1 w'; go_simp) ?_
      refine takeC 4 (v := .int .i64 ((N - I : Nat) : Int)) rfl rfl (by kernel_rfl) (by kernel_rfl) (by kernel_rfl) (fun _ _ _ h => h) (fun _ => rfl) rfl (fun w' hw' => by go_simp) ?_
      refine takeC 5 (v := .int .i64 (M : Int)) rfl rfl (by kernel_rfl) (by kernel_rfl) (by kernel_rfl) (fun _ _ _ h => h) (fun _ => rfl) rfl (fun w' hw' => by have := hmn w'; go_simp) ?_
      refine yR 6 DC.out (by kernel_rfl) rfl rfl (.int .i64 (M : Int)) w3 (by go_simp) ?_
      refine doneC DC.out (by kernel_rfl) ?_ _
      have x1 := cell_box DC.out.1
      have x2 := cell_box DC.out.2
      have hB3 := (hkp.trans (Kps.of DB.out (by have := hkp.1.size; omega)))
      have hJ3 := abide_b hJ hJs DB.out
      have sp3 := HS2.out.below DB.out
      have hI512 : I < 512 := by omega
      have HKB : Hid (Kps n0 [Bs, Bd] W w3) := hB3
      obtain ⟨fn, tmps, assign, body, hy, hR⟩ := HY.out k v2 w3 hJ3 hkn sp3 HN2.out
      have hs2' := hs2 w3
      clear hs1 hmn hs2 HS2 k1 k2 hJs hkp hB3 hJ3 DB DC sp3
      go_upto_region 4 with fail
      refine (wpIn_wide (n := m)).1 ?_
      gi_wp2
      refine hR.mono ?_
      rintro e W3 ⟨rfl, hJ3, hk3⟩
      have HK3 : Hid (Kps n0 [Bs, Bd] W W3) := HKB.out.trans hk3
      have x2 := cell_box (HK3.out.2 Bd (by simp) _ _ HC2.out)
      have HE : Hid ((k + 1) * d = I + d) := by unfold Hid; rw [Nat.add_mul, HI.out, Nat.one_mul]
      clear x1 hk3 hy hs2' HKB hR
      gi_wp2
      go_wp2
      go_roundw
      case rel => exact ⟨k + 1, by omega, by rw [HE.out]; go_num, hJ3, HK3.out⟩
      case measure => simp [intOf]; omega
    · have hkn : ¬ k < n := fun q => hlt (hlt'.1 q)
      obtain rfl : k = n := by omega
      subst hve
      gi_wp2
      go_end0
      exact ⟨⟨_, rfl⟩, hJs⟩
set_option maxHeartbeats 1000000 in
theorem chunk_any (n0 nb d : Nat) (v : Value) (E : List (Int × Int)) (W : World) (hv : SpV W v E) (hnv : Nb nb v) (hd : 0 < d) (hd2 : d ≤ 512) (hl : E.length ≤ 512) (hn0 : n0 ≤ W.heap.size) :
    Calls Try.prog 29 #[v, .int .i64 (d : Int)] W fun e w' => (∃ lb, e = .returned (.func (.func 46) #[] lb) ∧ Sq n0 nb [W.heap.size, W.heap.size + 1] (fun W1 => SpV W1 v E) w' (.func (.func 46) #[] lb) (chk d E) (chN d E.length)) ∧ Below W.heap.size W w' ∧ W.heap.size + 1 + 1 ≤ w'.heap.size := by
  have hmf : ∀ (fn : Fn) (first cap : Array Value) (w : World), (Instr.makeFunc fn first cap).run Try.prog w = .ok (.func fn first cap) w := fun _ _ _ _ => rfl
  have s1 := ((St.start W).new (c := #[v]) (t := 71)).new (c := #[.int .i64 (d : Int)]) (t := 3)
  simp only [World.size_alloc] at s1
  obtain ⟨va, vc, hve, -⟩ := id hv
  have HNV : Hid (Nb nb v) := hnv
  have hve' : Hid (v = _) := hve
  clear hv hve hnv
  rw [hve'.out] at s1 HNV ⊢
  go_enter Try.func29, Try.ntmps29
  go_wp2
  go_ret
  refine ⟨⟨_, rfl, _, _, rfl, enters_of Try.func46 (by kernel_rfl) rfl, fun l m J W1 hW hJ hPr hY h0 => ?_⟩, s1.below, by have := lt_of_heap s1.h1; omega⟩
  have hb := s1.below.trans (hW.mono s1.below.size)
  exact chunk1_in m l W.heap.size (W.heap.size + 1) n0 nb d _ E HNV.out hd hd2 hl J W1 (by have := hb.size; omega) hPr ((hW.block _ (lt_of_heap s1.h2)).trans s1.h2) ((hW.block _ (lt_of_heap s1.h1)).trans s1.h1) hJ hY h0
end Go.Proofs.Ytgiohlcipndakaa

/- A hull that grows: what the closure of hull takes, and what of the memory stays. -/
namespace Go.Proofs.Ytgiohlcipndakaa
open Go.ChangeShapes Go.WideShapes Go.ChangeAt Go.RowKit Go.Shelf
set_option linter.unusedVariables false
/-- Of the elder blocks the two from b on alone may turn. -/
def Tch (b : Nat) (w w' : World) : Prop := w'.os = w.os ∧ w'.tape = w.tape ∧ w'.output = w.output ∧ w.heap.size ≤ w'.heap.size ∧ ∀ i, i < w.heap.size → i ≠ b → i ≠ b + 1 → w'.heap[i]? = w.heap[i]?
theorem Tch.refl (b : Nat) (w : World) : Tch b w w := ⟨rfl, rfl, rfl, Nat.le_refl _, fun _ _ _ _ => rfl⟩
theorem Tch.trans {b : Nat} {w w1 w2 : World} (h : Tch b w w1) (k : Tch b w1 w2) : Tch b w w2 :=
  ⟨k.1.trans h.1, k.2.1.trans h.2.1, k.2.2.1.trans h.2.2.1, Nat.le_trans h.2.2.2.1 k.2.2.2.1, fun i hi h1 h2 => (k.2.2.2.2 i (Nat.lt_of_lt_of_le hi h.2.2.2.1) h1 h2).trans (h.2.2.2.2 i hi h1 h2)⟩
theorem Tch.of {b : Nat} {w w' : World} (h : Below w.heap.size w w') : Tch b w w' := ⟨h.os, h.tape, h.output, h.size, fun i hi _ _ => h.block i hi⟩
theorem Tch.bel {b : Nat} {w w1 w2 : World} (h : Tch b w w1) (k : Below w1.heap.size w1 w2) : Tch b w w2 := h.trans (Tch.of k)
theorem Tch.size {b : Nat} {w w' : World} (h : Tch b w w') : w.heap.size ≤ w'.heap.size := h.2.2.2.1
/-- A store into one of the two, or into what is new. -/
theorem Tch.set {b B i : Nat} {v : Value} {w w1 : World} (h : Tch b w w1) (hB : B = b ∨ B = b + 1 ∨ w.heap.size ≤ B) : Tch b w (w1.setCell ⟨B, i, none⟩ v) :=
  ⟨h.1, h.2.1, h.2.2.1, by simpa using h.size, fun j hj h1 h2 => (Below.heap_setCell _ _ _ _ (by show j ≠ B; omega)).trans (h.2.2.2.2 j hj h1 h2)⟩
theorem Tch.below {b n0 : Nat} {w w' : World} (h : Tch b w w') (hn : n0 ≤ b) (hs : n0 ≤ w.heap.size) : Below n0 w w' := ⟨h.1, h.2.1, h.2.2.1, h.size, fun k hk => h.2.2.2.2 k (by omega) (by omega) (by omega)⟩
theorem Tch.kept {b : Nat} {bs : List Nat} {w w' : World} (h : Tch b w w') (hb : ∀ x ∈ bs, x ≠ b ∧ x ≠ b + 1) : Kept bs w w' := fun x hx c t hc => (h.2.2.2.2 x (lt_of_heap hc) (hb x hx).1 (hb x hx).2).trans hc
theorem Tch.kps {b n0 : Nat} {bs : List Nat} {w w' : World} (h : Tch b w w') (hn : n0 ≤ b) (hs : n0 ≤ w.heap.size) (hb : ∀ x ∈ bs, x ≠ b ∧ x ≠ b + 1) : Kps n0 bs w w' := ⟨h.below hn hs, h.kept hb⟩
theorem Tch.from {b B : Nat} {w w' : World} (h : Tch b w w') (hB : b + 1 < B) : KeepsFrom B w w' := ⟨h.size, fun k o hk ho _ => (h.2.2.2.2 k (lt_of_heap ho) (by omega) (by omega)).trans ho⟩
theorem Tch.cell {b B i : Nat} {v : Value} {w w' : World} (h : Tch b w w') (hc : w.cell? ⟨B, i, none⟩ = some v) (h1 : B ≠ b) (h2 : B ≠ b + 1) : w'.cell? ⟨B, i, none⟩ = some v :=
  (World.cell?_of_block (h.2.2.2.2 B (World.block_lt_of_cell? w _ hc) h1 h2)).trans hc
theorem SpV.tch {b nb : Nat} {w w' : World} {v : Value} {L : List (Int × Int)} (h : SpV w v L) (hn : Nb nb v) (hb : b + 2 ≤ nb) (k : Tch b w w') : SpV w' v L := by
  obtain ⟨a, cap, rfl, h2, h3, h4⟩ := h
  refine ⟨a, cap, rfl, h2, h3, fun h0 => ?_⟩
  obtain ⟨g, o, rfl, hc⟩ := h4 h0
  have hg : nb ≤ g := hn _ _ _ rfl
  exact ⟨g, o, rfl, fun j u hj => k.cell (hc j u hj) (by omega) (by omega)⟩
theorem St.tch {b : Nat} {w0 w w' : World} {l : List (Nat × Array Value × TypeId)} (h : St w0 w l) (k : Tch b w w') (hb : w0.heap.size ≤ b) (hl : ∀ x ∈ l, x.1 ≠ b ∧ x.1 ≠ b + 1) : St w0 w' l :=
  ⟨h.1.trans (k.below hb h.1.size), fun x hx => ⟨(k.2.2.2.2 _ (lt_of_heap (h.2 x hx).1) (hl x hx).1 (hl x hx).2).trans (h.2 x hx).1, (h.2 x hx).2⟩⟩
/-- As St, where the two blocks may turn. -/
def SB (b : Nat) (w0 w : World) (l : List (Nat × Array Value × TypeId)) : Prop := Tch b w0 w ∧ ∀ x ∈ l, w.heap[x.1]? = some (.cells x.2.1 x.2.2) ∧ w0.heap.size ≤ x.1
theorem SB.start (b : Nat) (w : World) : SB b w w [] := ⟨Tch.refl _ _, fun _ h => by cases h⟩
theorem SB.of {b : Nat} {w0 w : World} {l : List (Nat × Array Value × TypeId)} (h : St w0 w l) : SB b w0 w l := ⟨Tch.of h.1, h.2⟩
theorem SB.call {b : Nat} {w0 w w1 : World} {l : List (Nat × Array Value × TypeId)} (h : SB b w0 w l) (hb : Below w.heap.size w w1) : SB b w0 w1 l :=
  ⟨h.1.bel hb, fun x hx => ⟨by rw [hb.block _ (lt_of_heap (h.2 x hx).1)]; exact (h.2 x hx).1, (h.2 x hx).2⟩⟩
theorem SB.take {b : Nat} {w0 w w1 : World} {l : List (Nat × Array Value × TypeId)} (h : SB b w0 w l) (k : Tch b w w1) (hb : b + 1 < w0.heap.size) : SB b w0 w1 l :=
  ⟨h.1.trans k, fun x hx => ⟨by have := (h.2 x hx).2; rw [k.2.2.2.2 _ (lt_of_heap (h.2 x hx).1) (by omega) (by omega)]; exact (h.2 x hx).1, (h.2 x hx).2⟩⟩
theorem SB.new {b : Nat} {w0 w : World} {l : List (Nat × Array Value × TypeId)} {c : Array Value} {t : TypeId} (h : SB b w0 w l) : SB b w0 (w.alloc (.cells c t)) ((w.heap.size, c, t) :: l) := by
  have h2 := h.call (bal w (.cells c t))
  refine ⟨h2.1, fun x hx => ?_⟩
  rcases List.mem_cons.1 hx with rfl | hx
  · exact ⟨by show (w.heap.push _)[w.heap.size]? = _; simp, h.1.size⟩
  · exact h2.2 x hx
theorem SB.skip {b : Nat} {w0 w : World} {l : List (Nat × Array Value × TypeId)} (h : SB b w0 w l) (o : Obj) : SB b w0 (w.alloc o) l := h.call (bal w o)
theorem SB.set {b : Nat} {w0 w : World} {B i : Nat} {c : Array Value} {t : TypeId} {l : List (Nat × Array Value × TypeId)} {v : Value} (h : SB b w0 w ((B, c, t) :: l)) (hl : ∀ x ∈ l, x.1 ≠ B) :
    SB b w0 (w.setCell ⟨B, i, none⟩ v) ((B, c.setIfInBounds i v, t) :: l) := by
  have hB := (h.2 _ List.mem_cons_self)
  refine ⟨h.1.set (.inr (.inr hB.2)), fun x hx => ?_⟩
  rcases List.mem_cons.1 hx with rfl | hx
  · exact ⟨heap_setCell_at hB.1, hB.2⟩
  · have := h.2 x (List.mem_cons_of_mem _ hx)
    exact ⟨by rw [Below.heap_setCell _ _ _ _ (hl x hx)]; exact this.1, this.2⟩
theorem SB.set2 {b : Nat} {w0 w : World} {B : Nat} {a c u v : Value} {t : TypeId} {l : List (Nat × Array Value × TypeId)} (h : SB b w0 w ((B, #[a, c], t) :: l)) (hl : ∀ x ∈ l, x.1 ≠ B) :
    SB b w0 ((w.setCell ⟨B, 0, none⟩ u).setCell ⟨B, 1, none⟩ v) ((B, #[u, v], t) :: l) := (h.set hl (i := 0) (v := u)).set hl (i := 1) (v := v)
theorem SB.rules {b : Nat} {w0 w : World} {l : List (Nat × Array Value × TypeId)} (h : SB b w0 w l) : Rules w l := rules_of l fun x hx => (h.2 x hx).1
theorem SB.tail {b : Nat} {w0 w : World} {x : Nat × Array Value × TypeId} {l : List (Nat × Array Value × TypeId)} (h : SB b w0 w (x :: l)) : SB b w0 w l := ⟨h.1, fun y hy => h.2 y (List.mem_cons_of_mem _ hy)⟩
theorem SB.size {b : Nat} {w0 w : World} {l : List (Nat × Array Value × TypeId)} (h : SB b w0 w l) : w0.heap.size ≤ w.heap.size := h.1.size
theorem SB.h1 {b : Nat} {w0 w : World} {B : Nat} {c : Array Value} {t : TypeId} {l : List (Nat × Array Value × TypeId)} (h : SB b w0 w ((B, c, t) :: l)) : w.heap[B]? = some (.cells c t (0, 0)) := (h.2 _ List.mem_cons_self).1
/-! ### What is taken -/
/-- The hull of what was taken, and whether something was. -/
def Tk (w : World) (b : Nat) (L : List (Int × Int)) : Prop := w.heap[b]? = some (.cells #[.int .i64 (huA L).1, .int .i64 (huA L).2] 28 (0, 0)) ∧ w.heap[b + 1]? = some (.cells #[.bool (!L.isEmpty)] 4 (0, 0))
theorem Tk.lt {w : World} {b : Nat} {L : List (Int × Int)} (h : Tk w b L) : b + 1 < w.heap.size := lt_of_heap h.2
theorem Tk.below {w w' : World} {b : Nat} {L : List (Int × Int)} (h : Tk w b L) (k : Below w.heap.size w w') : Tk w' b L := ⟨(k.block _ (lt_of_heap h.1)).trans h.1, (k.block _ (lt_of_heap h.2)).trans h.2⟩
theorem Tk.set {w : World} {b B i : Nat} {L : List (Int × Int)} {v : Value} (h : Tk w b L) (h1 : b ≠ B) (h2 : b + 1 ≠ B) : Tk (w.setCell ⟨B, i, none⟩ v) b L := ⟨(Below.heap_setCell _ _ _ _ h1).trans h.1, (Below.heap_setCell _ _ _ _ h2).trans h.2⟩
theorem Tk.turn {w w' : World} {b : Nat} {L : List (Int × Int)} {row : Option Nat} (h : Tk w b L) (g : w.grownBy w' row) (hr : ∀ r, row = some r → ∃ o : Obj, w.heap[r]? = some o ∧ o.isCells = false) : Tk w' b L :=
  ⟨(grownBy_keeps_cells g hr h.1 rfl).trans h.1, (grownBy_keeps_cells g hr h.2 rfl).trans h.2⟩
theorem two_at {w : World} {B : Nat} {a c u v : Value} {t : TypeId} (h : w.heap[B]? = some (.cells #[a, c] t (0, 0))) : ((w.setCell ⟨B, 0, none⟩ u).setCell ⟨B, 1, none⟩ v).heap[B]? = some (.cells #[u, v] t (0, 0)) := heap_setCell_at (heap_setCell_at h)
def fTk (b : Nat) : Value := .func (.func 43) #[] #[.pointer (some ⟨b + 1, 0, none⟩), .pointer (some ⟨b, 0, none⟩)]
set_option maxHeartbeats 2000000 in
theorem btake_any (b : Nat) (x : Int × Int) (L : List (Int × Int)) (W : World) (hT : Tk W b L) (hL : ∀ y ∈ L, Vd 10000000000 y) (hx : Vd 10000000000 x) :
    Calls Try.prog 43 #[.agg #[.int .i64 x.1, .int .i64 x.2], .pointer (some ⟨b + 1, 0, none⟩), .pointer (some ⟨b, 0, none⟩)] W fun e w' => (∃ u, e = .returned u) ∧ Tk w' b (L ++ [x]) ∧ Tch b W w' := by
  obtain ⟨x1, x2⟩ := x
  have hbz := hT.lt
  have s0 := (SB.start b W).new (c := #[.int .i64 x1, .int .i64 x2]) (t := 28)
  have T0 := hT.below (bal W (.cells #[.int .i64 x1, .int .i64 x2] 28))
  have hn : b ≠ b + 1 := by omega
  have hn' : b + 1 ≠ b := by omega
  cases L with
  | nil =>
    have HH : Hid (∀ w, _) := fun w => xhull_ok x1 x2 x1 x2 w hx.2.1 hx.2.1
    have hm1 : xmn x1 x1 = x1 := by unfold xmn; simp
    have hm2 : xmx x2 x2 = x2 := by unfold xmx; simp
    rw [hm1, hm2] at HH
    obtain ⟨t1, t2⟩ := T0
    simp only [huA, List.isEmpty_nil, Bool.not_true] at t1 t2
    obtain ⟨p1, p2, p3⟩ := cells_at t1
    obtain ⟨q1, q2, q3⟩ := cells_at t2
    obtain ⟨c0, f0, z0, -⟩ := s0.rules
    obtain ⟨w0, hw0⟩ : ∃ w0, W.alloc (.cells #[.int .i64 x1, .int .i64 x2] 28) = w0 := ⟨_, rfl⟩
    rw [hw0] at s0 t1 t2 p1 p2 p3 q1 q2 q3 c0 f0 z0
    have wA1 : Hid (_) := two_at (u := .int .i64 x1) (v := .int .i64 x2) t1
    have T1 : Hid (Tch b W ((w0.setCell ⟨b, 0, none⟩ (.int .i64 x1)).setCell ⟨b, 1, none⟩ (.int .i64 x2))) := (s0.1.set (.inl rfl)).set (.inl rfl)
    have A2 : Hid (((w0.setCell ⟨b, 0, none⟩ (.int .i64 x1)).setCell ⟨b, 1, none⟩ (.int .i64 x2)).heap[b + 1]? = some (.cells #[.bool false] 4 (0, 0))) := ((Below.heap_setCell _ _ _ _ hn').trans (Below.heap_setCell _ _ _ _ hn')).trans t2
    clear hx hL hT s0 t1 t2
    go_enter Try.func43, Try.ntmps43
    go_upto_region 1 with fail
    clear hw0
    go_wp2_with fail
    refine (HH.out _).mono ?_
    rintro e w1 ⟨rfl, hb⟩
    have t1 := (hb.block b (by simp; exact p3)).trans ((Below.heap_setCell _ _ _ _ hn).trans wA1.out)
    have t2 := (hb.block (b + 1) (by simp; exact q3)).trans (heap_setCell_at A2.out)
    have T2 : Hid (Tch b W _) := (T1.out.set (B := b + 1) (i := 0) (v := .bool true) (.inr (.inl rfl))).bel hb
    clear p1 p2 p3 q1 q2 q3 c0 f0 z0 wA1 A2 T1 hb
    obtain ⟨p1, p2, p3⟩ := cells_at t1
    have T3 : Hid (Tk ((w1.setCell ⟨b, 0, none⟩ (.int .i64 x1)).setCell ⟨b, 1, none⟩ (.int .i64 x2)) b ([] ++ [(x1, x2)])) := ⟨two_at t1, ((Below.heap_setCell _ _ _ _ hn').trans (Below.heap_setCell _ _ _ _ hn')).trans t2⟩
    clear t1 t2
    go_wp2
    go_end0
    exact ⟨⟨_, rfl⟩, T3.out, (T2.out.set (.inl rfl)).set (.inl rfl)⟩
  | cons y l =>
    have hvd : Vd 10000000000 (huA (y :: l)) := huF_vd (hL y List.mem_cons_self) fun z hz => hL z (List.mem_cons_of_mem _ hz)
    obtain ⟨m1, m2, hm⟩ : ∃ m1 m2, huA (y :: l) = (m1, m2) := ⟨_, _, rfl⟩
    have HS : Hid (huA ((y :: l) ++ [(x1, x2)]) = (xmn m1 x1, xmx m2 x2)) := by unfold Hid; rw [huA_snoc (by simp), hm]; rfl
    obtain ⟨t1, t2⟩ := T0
    rw [hm] at t1 hvd
    have HH : Hid (∀ w, _) := fun w => xhull_ok m1 m2 x1 x2 w hvd.2.1 hx.2.1
    simp only [List.isEmpty_cons, Bool.not_false] at t1 t2
    obtain ⟨p1, p2, p3⟩ := cells_at t1
    obtain ⟨q1, q2, q3⟩ := cells_at t2
    obtain ⟨c0, f0, z0, -⟩ := s0.rules
    obtain ⟨w0, hw0⟩ : ∃ w0, W.alloc (.cells #[.int .i64 x1, .int .i64 x2] 28) = w0 := ⟨_, rfl⟩
    rw [hw0] at s0 t1 t2 p1 p2 p3 q1 q2 q3 c0 f0 z0
    have A1 : Hid (w0.heap[b]? = _) := t1
    have A2 : Hid (w0.heap[b + 1]? = _) := t2
    have T1 : Hid (Tch b W w0) := s0.1
    clear hx hL hT s0 t1 t2 hm hvd
    go_enter Try.func43, Try.ntmps43
    go_upto_region 1 with fail
    clear hw0
    go_wp2_with fail
    refine (HH.out _).mono ?_
    rintro e w1 ⟨rfl, hb⟩
    have t1 := (hb.block b p3).trans A1.out
    have t2 := (hb.block (b + 1) q3).trans A2.out
    have T2 : Hid (Tch b W w1) := T1.out.bel hb
    clear p1 p2 p3 q1 q2 q3 c0 f0 z0 A1 A2 T1 hb
    obtain ⟨p1, p2, p3⟩ := cells_at t1
    have T3 : Hid (Tk ((w1.setCell ⟨b, 0, none⟩ (.int .i64 (xmn m1 x1))).setCell ⟨b, 1, none⟩ (.int .i64 (xmx m2 x2))) b ((y :: l) ++ [(x1, x2)])) := by
      refine ⟨?_, ((Below.heap_setCell _ _ _ _ hn').trans (Below.heap_setCell _ _ _ _ hn')).trans t2⟩
      rw [HS.out]
      exact two_at t1
    clear t1 t2
    go_wp2
    go_end0
    exact ⟨⟨_, rfl⟩, T3.out, (T2.out.set (.inl rfl)).set (.inl rfl)⟩
end Go.Proofs.Ytgiohlcipndakaa

/- The small functions of package depth: within, int16s, int32s; the search; Safe and Most's closure of what they ask. -/
namespace Go.Proofs.Ytgiohlcipndakaa
open Go.ChangeShapes Go.WideShapes Go.ChangeAt Go.RowKit
set_option linter.unusedVariables false
/-- Do both ends lie in the register's? -/
def wiB (a b c d : Int) : Bool := decide (a ≤ c ∧ d ≤ b)
def w16 (r : Int × Int) : Bool := wiB (-32768) 32767 r.1 r.2
def w32 (r : Int × Int) : Bool := wiB (-2147483648) 2147483647 r.1 r.2
theorem dwit_any (a b c d : Int) (W : World) : Calls Try.prog 16 #[.agg #[.int .i64 a, .int .i64 b], .agg #[.int .i64 c, .int .i64 d]] W fun e w' => e = .returned (.bool (wiB a b c d)) ∧ Below W.heap.size W w' := by
  have s0 := ((St.start W).new (c := #[.int .i64 a, .int .i64 b]) (t := 28)).new (c := #[.int .i64 c, .int .i64 d]) (t := 28)
  by_cases h1 : a ≤ c
  · have HR : Hid (decide (d ≤ b) = wiB a b c d) := by unfold Hid wiB; simp [h1]
    go_enter Try.func16, Try.ntmps16
    go_wp2
    go_ret
    exact ⟨retB HR.out, s0.below⟩
  · have HR : Hid (false = wiB a b c d) := by unfold Hid wiB; simp [h1]
    go_enter Try.func16, Try.ntmps16
    go_wp2
    go_ret
    exact ⟨retB HR.out, s0.below⟩
theorem d16_any (W : World) : Calls Try.prog 17 #[] W fun e w' => e = .returned (.agg #[.int .i64 (-32768), .int .i64 32767]) ∧ Below W.heap.size W w' := by
  go_enter Try.func17, Try.ntmps17
  go_wp2
  exact bodyPost_ret (v := .agg #[.int .i64 (-32768), .int .i64 32767]) (by simp [results, Try.results17, go_sem]) rfl ⟨rfl, bal _ _⟩
theorem d32_any (W : World) : Calls Try.prog 32 #[] W fun e w' => e = .returned (.agg #[.int .i64 (-2147483648), .int .i64 2147483647]) ∧ Below W.heap.size W w' := by
  go_enter Try.func32, Try.ntmps32
  go_wp2
  exact bodyPost_ret (v := .agg #[.int .i64 (-2147483648), .int .i64 2147483647]) (by simp [results, Try.results32, go_sem]) rfl ⟨rfl, bal _ _⟩
/-! ### The search -/
/-- The greatest number up to that one which is safe, or 0. -/
def grN (S : Nat → Bool) : Nat → Nat
  | 0 => 0
  | k + 1 => if S (k + 1) = true then k + 1 else grN S k
theorem grN_le (S : Nat → Bool) : ∀ N, grN S N ≤ N
  | 0 => Nat.le_refl _
  | k + 1 => by
    have := grN_le S k
    unfold grN
    split
    · exact Nat.le_refl _
    · omega
theorem grN_safe (S : Nat → Bool) : ∀ N, 0 < grN S N → S (grN S N) = true
  | 0, h => absurd h (Nat.lt_irrefl 0)
  | k + 1, h => by
    unfold grN at h ⊢
    split at h
    · rename_i q; rw [if_pos q]; exact q
    · rename_i q; rw [if_neg q]; exact grN_safe S k h
theorem grN_max (S : Nat → Bool) : ∀ N d, grN S N < d → d ≤ N → S d = false
  | 0, d, h, h' => by omega
  | k + 1, d, h, h' => by
    unfold grN at h
    split at h
    · omega
    · rename_i q
      by_cases e : d = k + 1
      · subst e; simpa using q
      · exact grN_max S k d h (by omega)
set_option maxHeartbeats 2000000 in
set_option maxRecDepth 100000 in
theorem dgre_any (N : Nat) (hN : N ≤ 1000000) (S : Nat → Bool) (gf : Nat) (cl : Array Value) (W : World)
    (eg : ∀ args w, (callFunc gf args).run Try.prog w = .ok (.enter gf args) w)
    (hP : ∀ W' (d : Nat), Below W.heap.size W W' → 1 ≤ d → d ≤ N → Calls Try.prog gf (#[.int .i64 (d : Int)] ++ cl) W' fun e w' => e = .returned (.bool (S d)) ∧ Below W'.heap.size W' w') :
    Calls Try.prog 18 #[.int .i64 (N : Int), .func (.func gf) #[] cl] W fun e w' => e = .returned (.int .i64 (grN S N : Nat)) ∧ Below W.heap.size W w' := by
  have HP : Hid (∀ W' (d : Nat), Below W.heap.size W W' → 1 ≤ d → d ≤ N → _) := hP
  clear hP
  go_enter Try.func18, Try.ntmps18
  go_wp2
  refine wp_scope_jumps 0 (fun a' w' => ∃ (k : Nat) (u6 u7 u8 u9 u10 u11 u12 u13 u14 u15 u16 : Value), a' = { tmps := #[.int .i64 (N : Int), .func (.func gf) #[] cl, undef, undef, .int .i64 0, .int .i64 (k : Int), u6, u7, u8, u9, u10, u11, u12, u13, u14, u15, u16, undef], defers := [] } ∧ k ≤ N ∧ grN S k = grN S N ∧ Below W.heap.size W w') (fun a' _ => (intOf (a'.tmps.getD 5 undef)).toNat) rfl ?_ ?_
  · have B1 : Hid (Below W.heap.size W W) := Below.refl _ _
    go_wp2
    go_step3
    by_cases h0 : N = 0
    · subst h0
      go_wp2
      simp only [Exit.jump]
      go_ret
      exact ⟨rfl, B1.out⟩
    · have HC : Hid _ := HP.out W N B1.out (by omega) (Nat.le_refl _)
      have hpos : (0 : Int) < (N : Int) := by omega
      go_wp2_with fail
      refine Calls.mono HC.out ?_
      rintro e w1 ⟨rfl, hb1⟩
      have HB : Hid (Below W.heap.size W w1) := hb1
      clear hb1 HC
      obtain ⟨m, rfl⟩ : ∃ m, N = m + 1 := ⟨N - 1, by omega⟩
      cases hS : S (m + 1) with
      | true =>
        go_wp2
        simp only [Exit.jump]
        go_ret
        exact ⟨by simp [grN, hS], HB.out⟩
      | false =>
        have hw : IntKind.i64.wrap (((m + 1 : Nat) : Int) - 1) = (m : Int) := by rw [IntKind.wrap_i64]; omega
        go_wp2
        go_step3
        refine ⟨rfl, m, _, _, _, _, _, _, _, _, _, _, _, rfl, by omega, by simp [grN, hS], HB.out⟩
  · rintro a' w' ⟨k, u6, u7, u8, u9, u10, u11, u12, u13, u14, u15, u16, rfl, hk, hg, hb⟩
    have B1 : Hid (Below W.heap.size W w') := hb
    by_cases h0 : k = 0
    · subst h0
      clear hb
      go_wp2
      simp only [Exit.jump]
      go_ret
      exact ⟨by rw [← hg]; rfl, B1.out⟩
    · have HC : Hid _ := HP.out w' k hb (by omega) hk
      have hpos : (0 : Int) < (k : Int) := by omega
      have hgk : Hid (grN S k = grN S N) := hg
      clear hg hb
      go_wp2_with fail
      refine Calls.mono HC.out ?_
      rintro e w1 ⟨rfl, hb1⟩
      have HB : Hid (Below W.heap.size W w1) := B1.out.trans (hb1.mono B1.out.size)
      clear hb1 HC
      obtain ⟨m, rfl⟩ : ∃ m, k = m + 1 := ⟨k - 1, by omega⟩
      cases hS : S (m + 1) with
      | true =>
        go_wp2
        simp only [Exit.jump]
        go_ret
        exact ⟨by rw [← hgk.out]; simp [grN, hS], HB.out⟩
      | false =>
        have hw : IntKind.i64.wrap (((m + 1 : Nat) : Int) - 1) = (m : Int) := by rw [IntKind.wrap_i64]; omega
        go_wp2
        go_step3
        refine ⟨rfl, ⟨m, _, _, _, _, _, _, _, _, _, _, _, rfl, by omega, by rw [← hgk.out]; simp [grN, hS], HB.out⟩, ?_⟩
        simp [intOf]
end Go.Proofs.Ytgiohlcipndakaa
