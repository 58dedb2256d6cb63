/- What ends of package bound returns: the ends of the terms at a position. The iterators of package bound: the ends position by position; the blocks of a row. The blocks of a row: what slices.Chunk gives. What running of package bound returns. What partial of package bound returns: the partial sums of all blocks. What hull of package bound returns, whatever it picks. -/
import Derived.Test.YtcphealigifdiaaGr20
/- What ends of package bound returns: the ends of the terms at a position. -/
namespace Go.Proofs.Ytcphealigifdiaa
open Go.ChangeShapes Go.WideShapes Go.ChangeAt Go.RowKit
set_option linter.unusedVariables false
set_option maxRecDepth 100000 in
set_option maxHeartbeats 8000000 in
theorem bends_any (ch n ln bi slo shi p h w c : Int) (g0 : Nat) (q : Nat) (W : World) (hq : W.heap[q]? = some (.cells #[Jv ch, Jv n, Jv ln, Jv bi, Jv slo, Jv shi, Jv p, Jv p, Jv h, Jv w, Jv c, Jv 0, Jv 0, .slice (some ⟨g0, 0, none⟩) 1 1, Jv 0] 73 (0, 0))) (at' b' : Int) (TL : List (Int × Int)) (hs : -128 ≤ slo ∧ slo ≤ shi ∧ shi ≤ 127) (hp : -128 ≤ p ∧ p ≤ 127) (ht : ∀ t ∈ TL, -32768 ≤ t.1 ∧ t.1 ≤ 32767) (hl : TL.length ≤ 512)
    (hO : ∀ W', Below W.heap.size W W' → Calls Try.prog 7 #[.agg #[Jv h, Jv w, Jv c, Jv 0, Jv 0, .slice (some ⟨g0, 0, none⟩) 1 1, Jv 0], Jv 1, Jv ch, Jv at'] W' fun e w' => (∃ v, e = .returned (.tuple #[v, Jv b', Jv 0]) ∧ OTm w' W'.heap.size v TL) ∧ Below W'.heap.size W' w') :
    Calls Try.prog 46 #[.pointer (some ⟨q, 0, none⟩), Jv at'] W fun e w' => (∃ u, e = .returned u ∧ OSp w' W.heap.size u (enL slo shi p TL)) ∧ Below W.heap.size W w' := by
  have HO : Hid (∀ W', Below W.heap.size W W' → _) := hO
  have HQ : Hid (W.heap[q]? = some (.cells #[Jv ch, Jv n, Jv ln, Jv bi, Jv slo, Jv shi, Jv p, Jv p, Jv h, Jv w, Jv c, Jv 0, Jv 0, .slice (some ⟨g0, 0, none⟩) 1 1, Jv 0] 73 (0, 0))) := hq
  have hqz := lt_of_heap hq
  obtain ⟨N, hN⟩ : ∃ N, TL.length = N := ⟨_, rfl⟩
  have HN : Hid (TL.length = N) := hN
  rw [hN] at hl
  have HT : Hid (∀ t ∈ TL, -32768 ≤ t.1 ∧ t.1 ≤ 32767) := ht
  have HL : Hid ((enL slo shi p TL).length = N) := by unfold Hid; rw [enL_len, hN]
  have HP : Hid (∀ (W' : World) (t : Int × Int), Below W.heap.size W W' → t ∈ TL → Calls Try.prog 64 #[.pointer (some ⟨q, 0, none⟩), .agg #[Jv t.1, Jv t.2]] W' fun e w' => e = .returned (.agg #[Jv (tmE slo shi p t).1, Jv (tmE slo shi p t).2]) ∧ Below W'.heap.size W' w') := fun W' t hb hm => bprod_any ch n ln bi slo shi p h w c g0 q W' ((hb.block q hqz).trans hq) t hs hp (ht t hm)
  clear hO hq hN ht hs hp
  go_enter Try.func46, Try.ntmps46
  go_upto_region 1 with fail
  refine regionC (fun w' => Below W.heap.size W w') (by kernel_rfl) ?_
  obtain ⟨w3, hw3⟩ : ∃ w3, W.drew = w3 := ⟨_, rfl⟩
  have B3 : Hid (Below W.heap.size W w3) := by unfold Hid; rw [← hw3]; exact (Below.refl _ _).drew
  rw [hw3]
  clear hw3
  have HC : Hid (∀ w', Below W.heap.size W w' → ∀ i, w'.cell? ⟨q, i, none⟩ = (#[Jv ch, Jv n, Jv ln, Jv bi, Jv slo, Jv shi, Jv p, Jv p, Jv h, Jv w, Jv c, Jv 0, Jv 0, .slice (some ⟨g0, 0, none⟩) 1 1, Jv 0])[i]?) := fun w' hb => (cells_at ((hb.block q hqz).trans HQ.out)).1
  refine takeC 0 (v := .pointer (some ⟨q, 0, none⟩)) rfl rfl (by kernel_rfl) (by kernel_rfl) (by kernel_rfl) (fun _ _ _ h => h) (fun _ => rfl) rfl (fun w' hw' => by go_simp) ?_
  refine takeC 1 (v := .pointer (some ⟨q, 0, none⟩)) rfl rfl (by kernel_rfl) (by kernel_rfl) (by kernel_rfl) (fun _ _ _ h => h) (fun _ => rfl) rfl (fun w' hw' => by go_simp) ?_
  refine takeC 2 (v := .pointer (some ⟨q, 8, none⟩)) rfl rfl (by kernel_rfl) (by kernel_rfl) (by kernel_rfl) (fun _ _ _ h => h) (fun _ => rfl) rfl (fun w' hw' => by go_simp) ?_
  refine takeC 3 (v := .agg #[Jv h, Jv w, Jv c, Jv 0, Jv 0, .slice (some ⟨g0, 0, none⟩) 1 1, Jv 0]) rfl rfl (by kernel_rfl) (by kernel_rfl) (by kernel_rfl) (fun _ _ _ h => h) (fun _ => rfl) rfl (fun w' hw' => run_la 26 (.tmp 14) rfl ⟨q, 8, none⟩ (by kernel_rfl) [Jv h, Jv w, Jv c, Jv 0, Jv 0, .slice (some ⟨g0, 0, none⟩) 1 1, Jv 0] _ (fun j v hj => by
    rw [Addr.add_lit, HC.out w' hw']
    have := (List.getElem?_eq_some_iff.1 hj).1
    rcases (show j = 0 ∨ j = 1 ∨ j = 2 ∨ j = 3 ∨ j = 4 ∨ j = 5 ∨ j = 6 by simp at this; omega) with rfl | rfl | rfl | rfl | rfl | rfl | rfl <;> simpa using hj) Try.underlying26 rfl (by kernel_rfl)) ?_
  refine takeC 4 (v := .pointer (some ⟨q, 0, none⟩)) rfl rfl (by kernel_rfl) (by kernel_rfl) (by kernel_rfl) (fun _ _ _ h => h) (fun _ => rfl) rfl (fun w' hw' => by go_simp) ?_
  refine takeC 5 (v := .pointer (some ⟨q, 0, none⟩)) rfl rfl (by kernel_rfl) (by kernel_rfl) (by kernel_rfl) (fun _ _ _ h => h) (fun _ => rfl) rfl (fun w' hw' => by go_simp) ?_
  refine takeC 6 (v := .pointer (some ⟨q, 0, none⟩)) rfl rfl (by kernel_rfl) (by kernel_rfl) (by kernel_rfl) (fun _ _ _ h => h) (fun _ => rfl) rfl (fun w' hw' => by go_simp) ?_
  refine takeC 7 (v := Jv ch) rfl rfl (by kernel_rfl) (by kernel_rfl) (by kernel_rfl) (fun _ _ _ h => h) (fun _ => rfl) rfl (fun w' hw' => by have := HC.out w' hw'; go_simp) ?_
  refine takeC 8 (v := Jv at') rfl rfl (by kernel_rfl) (by kernel_rfl) (by kernel_rfl) (fun _ _ _ h => h) (fun _ => rfl) rfl (fun w' hw' => by go_simp) ?_
  refine yK 9 B3.out (by kernel_rfl) rfl rfl 7 #[.agg #[Jv h, Jv w, Jv c, Jv 0, Jv 0, .slice (some ⟨g0, 0, none⟩) 1 1, Jv 0], Jv 1, Jv ch, Jv at'] (by kernel_rfl) (HO.out w3 B3.out) ?_
  rintro e w4 ⟨⟨tv, rfl, ho⟩, hb4⟩
  refine ⟨_, rfl, ?_⟩
  have B4 : Hid (Below W.heap.size W w4) := B3.out.trans (hb4.mono B3.out.size)
  have OT : Hid (TV w4 tv TL) := ho.tv
  obtain ⟨ta, tc, rfl⟩ := ho.slice
  clear ho hb4 B3
  refine takeC 10 (v := .tuple #[.slice ta TL.length tc, Jv b', Jv 0]) rfl rfl (by kernel_rfl) (by kernel_rfl) (by kernel_rfl) (fun _ _ _ h => h) (fun _ => rfl) rfl (fun w' hw' => by go_simp) ?_
  refine takeC 11 (v := .slice ta TL.length tc) rfl rfl (by kernel_rfl) (by kernel_rfl) (by kernel_rfl) (fun _ _ _ h => h) (fun _ => rfl) rfl (fun w' hw' => by go_simp) ?_
  refine takeC 12 (v := Jv b') rfl rfl (by kernel_rfl) (by kernel_rfl) (by kernel_rfl) (fun _ _ _ h => h) (fun _ => rfl) rfl (fun w' hw' => by go_simp) ?_
  refine takeC 13 (v := Jv 0) rfl rfl (by kernel_rfl) (by kernel_rfl) (by kernel_rfl) (fun _ _ _ h => h) (fun _ => rfl) rfl (fun w' hw' => by go_simp) ?_
  refine yR 14 B4.out (by kernel_rfl) rfl rfl (.slice ta TL.length tc) w4 (by go_simp) ?_
  refine yR 15 B4.out (by kernel_rfl) rfl rfl (Jv b') w4 (by go_simp) ?_
  refine yR 16 B4.out (by kernel_rfl) rfl rfl (Jv 0) w4 (by go_simp) ?_
  refine doneC B4.out (by kernel_rfl) ?_ _
  rw [HN.out]
  obtain ⟨G, hG⟩ : ∃ G, w4.heap.size = G := ⟨_, rfl⟩
  have hGz : W.heap.size ≤ G := by rw [← hG]; exact B4.out.size
  clear HC
  go_wp2_with (at_make; refine wpList_mkS rfl _ rfl N rfl (by omega) ?_; intro cur0 hG0 hS0)
  rw [hG] at hG0
  have HG0 : Hid ((w4.alloc (.cells cur0 28)).heap[G]? = some (.cells cur0 28 (0, 0))) := hG0
  have HS0 : Hid (Cu2 cur0 N []) := hS0
  have HB0 : Hid (Below G w4 (w4.alloc (.cells cur0 28))) := by unfold Hid; rw [← hG]; exact bal _ _
  have HG : Hid (w4.heap.size = G) := hG
  obtain ⟨w5, hw5⟩ : ∃ w5, w4.alloc (.cells cur0 28) = w5 := ⟨_, rfl⟩
  rw [hw5] at HG0 HB0 ⊢
  clear hG0 hS0 hG hw5
  go_loopw [30] (fun i wr => ∃ (y : Nat) (cur : Array Value), y ≤ N ∧ i = Jv y ∧ wr.heap[G]? = some (.cells cur 28 (0, 0)) ∧ Cu2 cur N ((enL slo shi p TL).take y) ∧ Below G w4 wr) (fun i _ => N - (intOf i).toNat)
  case atStart => exact ⟨0, cur0, Nat.zero_le _, rfl, HG0.out, by simpa using HS0.out, HB0.out⟩
  case round =>
    obtain ⟨y, cur, hy, rfl, hG, hC, hb⟩ := hrel
    clear HG0 HB0 HS0
    have HC : Hid (Cu2 cur N ((enL slo shi p TL).take y)) := hC
    have hsz := hC.1
    by_cases hlt : y < N
    · obtain ⟨ta', tc', e0, -, -, h4⟩ := OT.out
      obtain ⟨g, rfl, hc⟩ := h4 (by rw [HN.out]; omega)
      have e1 : ta = some ⟨g, 0, none⟩ := by simpa using (Value.slice.inj e0).1
      subst e1
      obtain ⟨q1, q2⟩ := TV.at hc (show y < TL.length by rw [HN.out]; exact hlt)
      obtain ⟨A1, A2, hA⟩ : ∃ A1 A2, TL.getD y (0, 0) = (A1, A2) := ⟨_, _, rfl⟩
      rw [hA] at q1 q2
      simp only at q1 q2
      have hmem : (A1, A2) ∈ TL := by
        rw [← hA, List.getD_eq_getElem?_getD, List.getElem?_eq_getElem (by rw [HN.out]; exact hlt)]
        exact List.getElem_mem _
      have hbz := hb.size
      have p1 := (hb.cell (by rw [← HG.out]; exact World.block_lt_of_cell? w4 _ q1)).trans q1
      have p2 := (hb.cell (by rw [← HG.out]; exact World.block_lt_of_cell? w4 _ q2)).trans q2
      have hbW : Below W.heap.size W wr := B4.out.trans (hb.mono hGz)
      have HPr : Hid (∀ (W' : World), Below wr.heap.size wr W' → _) := fun W' hb' => HP.out W' (A1, A2) (hbW.trans (hb'.mono hbW.size)) hmem
      have HE : Hid ((enL slo shi p TL).getD y (0, 0) = tmE slo shi p (A1, A2)) := by unfold Hid; rw [enL_getD _ _ _ (by rw [HN.out]; exact hlt) _ (0, 0), hA]
      obtain ⟨E1, E2, hE⟩ : ∃ E1 E2, tmE slo shi p (A1, A2) = (E1, E2) := ⟨_, _, rfl⟩
      rw [hE] at HPr HE
      simp only at HPr
      have hGr := lt_of_heap hG
      clear e0 h4 hc q1 q2 hA hmem hE hC
      go_wp2_with fail
      refine (HPr.out _ (bal _ _)).mono ?_
      rintro e w6 ⟨rfl, hb6⟩
      have hb7 := (bal wr (.cells #[Jv A1, Jv A2] 53)).trans (hb6.mono (by simp))
      have hG3 : w6.heap[G]? = some (.cells cur 28 (0, 0)) := (hb7.block G hGr).trans hG
      have hb3 : Below G w4 w6 := hb.trans (hb7.mono (by omega))
      obtain ⟨u1, hu1⟩ : ∃ v, w6.cell? ⟨G, y * 2, none⟩ = some v := ⟨cur[y * 2]'(by omega), by rw [(cells_at hG3).1]; exact Array.getElem?_eq_getElem _⟩
      obtain ⟨u2, hu2⟩ : ∃ v, w6.cell? ⟨G, y * 2 + 1, none⟩ = some v := ⟨cur[y * 2 + 1]'(by omega), by rw [(cells_at hG3).1]; exact Array.getElem?_eq_getElem _⟩
      have hf3 := (cells_at hG3).2.1
      have HG3 : Hid (w6.heap[G]? = some (.cells cur 28 (0, 0))) := hG3
      have HB3 : Hid (Below G w4 w6) := hb3
      clear hG hG3 hb hb3 hb6 hb7 hbW p1 p2 HPr
      go_wp2
      go_roundw
      case rel =>
        have hlen : ((enL slo shi p TL).take y).length = y := by rw [List.length_take, HL.out]; omega
        have hA := HC.out.add (by rw [hlen]; exact hlt) E1 E2
        rw [← take_snoc (by rw [HL.out]; exact hlt) HE.out, hlen] at hA
        exact ⟨y + 1, _, by omega, by go_num, heap_setCell_at (heap_setCell_at HG3.out), hA, (HB3.out.setCell (p := ⟨G, y * 2, none⟩) (Nat.le_refl _) _).setCell (p := ⟨G, y * 2 + 1, none⟩) (Nat.le_refl _) _⟩
      case measure => simp [intOf]; omega
    · obtain rfl : y = N := by omega
      have hO := OSp.of (base := W.heap.size) hG hGz hC (by unfold maxLen; omega)
      rw [List.take_of_length_le (by rw [HL.out]; exact Nat.le_refl _), HL.out] at hO
      have HO' : Hid (OSp _ _ _ _) := hO
      have HF : Hid (Below W.heap.size W wr) := B4.out.trans (hb.mono hGz)
      clear hO hC hb
      go_wp2
      go_ret
      exact ⟨⟨_, rfl, HO'.out⟩, HF.out⟩
end Go.Proofs.Ytcphealigifdiaa

/- The iterators of package bound: the ends position by position; the blocks of a row. -/
namespace Go.Proofs.Ytcphealigifdiaa
open Go.ChangeShapes Go.WideShapes Go.ChangeAt Go.RowKit Go.Shelf
set_option linter.unusedVariables false
attribute [local go_sem] Oper.semAt_some
theorem abide_b {B : Nat} {J : Nat → World → Prop} (hJ : AbidesFrom B J) {s : Nat} {W W' : World} (h : J s W) (k : Below W.heap.size W W') : J s W' :=
  hJ s W W' none h (grownBy_of_below k) (fun r e => by cases e)
set_option maxRecDepth 100000 in
set_option maxHeartbeats 4000000 in
theorem brows1_in (m l B q n0 nb : Nat) (ch n ln bi slo shi p h w c : Int) (g0 : Nat) (R : Nat → List (Int × Int)) (N : Nat) (hn : n = (N : Int)) (hN : N ≤ 100000000) (J : Nat → World → Prop) (W : World) (hnb : nb ≤ W.heap.size) (hn0 : n0 ≤ W.heap.size) (hqn : q < n0)
    (c1 : W.heap[B]? = some (.cells #[.pointer (some ⟨q, 0, none⟩)] 102 (0, 0))) (hq : W.heap[q]? = some (.cells #[Jv ch, Jv n, Jv ln, Jv bi, Jv slo, Jv shi, Jv p, Jv p, Jv h, Jv w, Jv c, Jv 0, Jv 0, .slice (some ⟨g0, 0, none⟩) 1 1, Jv 0] 73 (0, 0)))
    (hE : ∀ W' (k : Nat), Below n0 W W' → k < N → Calls Try.prog 46 #[.pointer (some ⟨q, 0, none⟩), Jv (k : Int)] W' fun e w' => (∃ u, e = .returned u ∧ OSp w' W'.heap.size u (R k)) ∧ Below W'.heap.size W' w')
    (hJ : AbidesFrom W.heap.size J)
    (hY : ∀ k x W1, J k W1 → k < N → SpV W1 x (R k) → Nb nb x → YieldAt Fence.wide (m - 1) Try.prog l #[x] W1 fun e W' => e = .returned (.bool true) ∧ J (k + 1) W' ∧ Kps n0 [B] W1 W') (h0 : J 0 W) :
    CallsIn Fence.wide m Try.prog 65 #[.func (.yield l) #[] #[], .pointer (some ⟨B, 0, none⟩)] W fun e W' => (∃ v, e = .returned v) ∧ J N W' := by
  subst hn
  have HE : Hid (∀ W' (k : Nat), Below n0 W W' → k < N → _) := hE
  have HY : Hid (∀ k x W1, J k W1 → k < N → SpV W1 x (R k) → _) := hY
  obtain ⟨x1, -, -⟩ := cells_at c1
  obtain ⟨y1, -, -⟩ := cells_at hq
  have HC1 : Hid (W.heap[B]? = _) := c1
  clear hE hY c1 hq
  refine callsIn_of_wp Try.func65 rfl trivial ?_ rfl
  simp only [Try.ntmps65, List.size_toArray, List.length_cons, List.length_nil, Nat.reduceAdd, Nat.reduceSub, Array.replicate_succ, Array.replicate_zero, List.push_toArray, List.append_toArray, List.nil_append, List.cons_append]
  gi_wp2
  gi_loopw [8] (fun i wr => ∃ k : Nat, k ≤ N ∧ i = Jv k ∧ J k wr ∧ Kps n0 [B] W wr)
    (fun i _ => N - (intOf i).toNat)
  case atStart => exact ⟨0, Nat.zero_le _, rfl, h0, Below.refl _ _, Kept.refl _ _⟩
  case round =>
    clear x1 y1
    obtain ⟨k, hk, rfl, hJs, hkp⟩ := hrel
    by_cases hlt : k < N
    · obtain ⟨x1, -, -⟩ := cells_at (hkp.2 B (by simp) _ _ HC1.out)
      have hfn : ∀ f, Fence.wide.fn f := fun _ => trivial
      have hdp : Fence.wide.depth = none := rfl
      gi_wp2_with fail
      refine (callsIn_wide.2 (HE.out _ k hkp.1 hlt)).mono ?_
      rintro e w1 ⟨⟨u, rfl, hu⟩, hb1⟩
      obtain ⟨fn, tmps, assign, body, hy, hR⟩ := HY.out k u w1 (abide_b hJ hJs hb1) hlt hu.sv (hu.nb.mono (by have := hkp.1.size; omega))
      have hkz := hkp.1.size
      gi_wp2
      refine hR.mono ?_
      rintro e W3 ⟨rfl, hJ3, hk3⟩
      gi_wp2
      go_roundw
      case rel => exact ⟨k + 1, by omega, by simp, hJ3, (hkp.trans (Kps.of hb1 (by omega))).trans hk3⟩
      case measure => simp [intOf]; omega
    · obtain rfl : k = N := by omega
      gi_wp2
      go_end0
      exact ⟨⟨_, rfl⟩, hJs⟩
set_option maxHeartbeats 1000000 in
theorem brows_any (q n0 : Nat) (ch n ln bi slo shi p h w c : Int) (g0 : Nat) (R : Nat → List (Int × Int)) (N : Nat) (hn : n = (N : Int)) (hN : N ≤ 100000000) (W : World) (hn0 : n0 ≤ W.heap.size) (hqn : q < n0)
    (hq : W.heap[q]? = some (.cells #[Jv ch, Jv n, Jv ln, Jv bi, Jv slo, Jv shi, Jv p, Jv p, Jv h, Jv w, Jv c, Jv 0, Jv 0, .slice (some ⟨g0, 0, none⟩) 1 1, Jv 0] 73 (0, 0)))
    (hE : ∀ W' (k : Nat), Below n0 W W' → k < N → Calls Try.prog 46 #[.pointer (some ⟨q, 0, none⟩), Jv (k : Int)] W' fun e w' => (∃ u, e = .returned u ∧ OSp w' W'.heap.size u (R k)) ∧ Below W'.heap.size W' w') :
    Calls Try.prog 47 #[.pointer (some ⟨q, 0, none⟩)] W fun e w' => (∃ lb, e = .returned (.func (.func 65) #[] lb) ∧ Sq n0 W.heap.size [W.heap.size] w' (.func (.func 65) #[] lb) R N) ∧ Below W.heap.size W w' ∧ w'.heap[W.heap.size]? = some (.cells #[.pointer (some ⟨q, 0, none⟩)] 102 (0, 0)) := by
  have hmf : ∀ (fn : Fn) (first cap : Array Value) (w : World), (Instr.makeFunc fn first cap).run Try.prog w = .ok (.func fn first cap) w := fun _ _ _ _ => rfl
  have s1 := (St.start W).new (c := #[.pointer (some ⟨q, 0, none⟩)]) (t := 102)
  have HE : Hid (∀ W' (k : Nat), Below n0 W W' → k < N → _) := hE
  have HQ : Hid (W.heap[q]? = _) := hq
  clear hE hq
  go_enter Try.func47, Try.ntmps47
  go_wp2
  go_ret
  refine ⟨⟨_, rfl, _, _, rfl, enters_of Try.func65 (by kernel_rfl) rfl, fun l m J W1 hW hJ hY h0 => ?_⟩, s1.below, s1.h1⟩
  have hb := s1.below.trans (hW.mono s1.below.size)
  exact brows1_in m l W.heap.size q n0 W.heap.size ch n ln bi slo shi p h w c g0 R N hn hN J W1 hb.size (by have := hb.size; omega) hqn ((hW.block _ (lt_of_heap s1.h1)).trans s1.h1) ((hb.block q (by omega)).trans HQ.out) (fun W' k hW' hk => HE.out W' k ((hb.mono hn0).trans hW') hk) hJ hY h0
/-- The lesser of two. -/
theorem min2 (x y M : Int) (h : xmn x y = M) : ∀ (W : World) (ts : Array TypeId) (t : TypeId), (Builtin.min_ ts t #[Jv x, Jv y]).run Try.prog W = .ok (Jv M) W := by
  intro W ts t
  subst h
  simp [Builtin.min_, Builtin.min2, xmn]
  repeat' split
  all_goals first | rfl | omega
end Go.Proofs.Ytcphealigifdiaa

/- The blocks of a row: what slices.Chunk gives. -/
namespace Go.Proofs.Ytcphealigifdiaa
open Go.ChangeShapes Go.WideShapes Go.ChangeAt Go.RowKit Go.Shelf
set_option linter.unusedVariables false
attribute [local go_sem] Oper.semAt_some
theorem cell_box {w : World} {B : Nat} {v : Value} {t : TypeId} (h : w.heap[B]? = some (.cells #[v] t (0, 0))) : w.cell? ⟨B, 0, none⟩ = some v := by rw [(cells_at h).1]; rfl
set_option maxRecDepth 100000 in
set_option maxHeartbeats 4000000 in
theorem chunk1_in (m l Bs Bd n0 d : Nat) (v : Value) (E : List (Int × Int)) (W0 : World) (hv : SpV W0 v E) (hd : 0 < d) (hd2 : d ≤ 512) (hl : E.length ≤ 512) (hz0 : W0.heap.size = n0) (J : Nat → World → Prop) (W : World) (hb0 : Below n0 W0 W)
    (c1 : W.heap[Bs]? = some (.cells #[v] 77 (0, 0))) (c2 : W.heap[Bd]? = some (.cells #[Jv (d : Int)] 3 (0, 0)))
    (hJ : AbidesFrom W.heap.size J)
    (hY : ∀ k x W1, J k W1 → k < chN d E.length → SpV W1 x (chk d E k) → Nb 0 x → YieldAt Fence.wide (m - 1) Try.prog l #[x] W1 fun e W' => e = .returned (.bool true) ∧ J (k + 1) W' ∧ Kps n0 [Bs, Bd] W1 W') (h0 : J 0 W) :
    CallsIn Fence.wide m Try.prog 67 #[.func (.yield l) #[] #[], .pointer (some ⟨Bs, 0, none⟩), .pointer (some ⟨Bd, 0, none⟩)] W fun e W' => (∃ v, e = .returned v) ∧ J (chN d E.length) W' := by
  have HY : Hid (∀ k x W1, J k W1 → k < chN d E.length → SpV W1 x (chk d E k) → _) := hY
  obtain ⟨N, hN⟩ : ∃ N, E.length = N := ⟨_, rfl⟩
  obtain ⟨n, hn⟩ : ∃ n, chN d N = n := ⟨_, rfl⟩
  have HV : Hid (SpV W0 v E) := hv
  obtain ⟨va, vc, hve, -⟩ := hv
  rw [hN] at hve HY hl ⊢
  have HN : Hid (E.length = N) := hN
  have HL : Hid (∀ k, k < n ↔ k * d < N) := fun k => by rw [← hn]; exact chN_lt hd
  have HX : Hid (chN d N = n) := hn
  rw [hn] at HY ⊢
  have HC1 : Hid (W.heap[Bs]? = _) := c1
  have HC2 : Hid (W.heap[Bd]? = _) := c2
  clear hY c1 c2 hN hn
  refine callsIn_of_wp Try.func67 rfl trivial ?_ rfl
  simp only [Try.ntmps67, List.size_toArray, List.length_cons, List.length_nil, Nat.reduceAdd, Nat.reduceSub, Array.replicate_succ, Array.replicate_zero, List.push_toArray, List.append_toArray, List.nil_append, List.cons_append]
  gi_wp2
  gi_loopw [4] (fun i wr => ∃ k : Nat, k ≤ n ∧ i = Jv ((k * d : Nat) : Int) ∧ J k wr ∧ Kps n0 [Bs, Bd] W wr)
    (fun i _ => N + d - (intOf i).toNat)
  case atStart => exact ⟨0, Nat.zero_le _, by simp, h0, Below.refl _ _, Kept.refl _ _⟩
  case round =>
    obtain ⟨k, hk, rfl, hJs, hkp⟩ := hrel
    have k1 := hkp.2 Bs (by simp) _ _ HC1.out
    have k2 := hkp.2 Bd (by simp) _ _ HC2.out
    have x1 := cell_box k1
    have x2 := cell_box k2
    obtain ⟨I, hI⟩ : ∃ I, k * d = I := ⟨_, rfl⟩
    have hlt' := HL.out k
    rw [hI] at hlt' ⊢
    have HI : Hid (k * d = I) := hI
    have hfn : ∀ f, Fence.wide.fn f := fun _ => trivial
    have hdp : Fence.wide.depth = none := rfl
    clear hI
    by_cases hlt : I < N
    · have hkn := hlt'.2 hlt
      obtain ⟨v1, hs1, sp1⟩ := HV.out.from (k := I) (by rw [HN.out]; exact hlt) rfl
      obtain ⟨⟨a1, p1, rfl, -⟩, -⟩ := sp1
      rw [List.length_drop, HN.out] at hs1
      obtain ⟨M, hM⟩ : ∃ M : Nat, min d (N - I) = M := ⟨_, rfl⟩
      have hmn := min2 (d : Int) ((N - I : Nat) : Int) (M : Int) (by unfold xmn; split <;> omega)
      obtain ⟨v2, hs2, sp2⟩ := HV.out.mid (k := I) (m := M) (by rw [HN.out]; omega) (by omega) rfl rfl
      have hck : (E.drop I).take M = chk d E k := by
        unfold chk
        rw [HI.out, ← hM]
        apply List.ext_getElem?
        intro j
        rw [List.getElem?_take, List.getElem?_take]
        by_cases q1 : j < min d (N - I)
        · rw [if_pos q1, if_pos (by omega)]
        · rw [if_neg q1]
          by_cases q2 : j < d
          · rw [if_pos q2, List.getElem?_drop, List.getElem?_eq_none (by rw [HN.out]; omega)]
          · rw [if_neg q2]
      rw [hck] at sp2
      have HS2 : Hid (SpV W0 v2 (chk d E k)) := sp2
      have HM : Hid (M ≤ d ∧ M ≤ 512) := ⟨by omega, by omega⟩
      have hM1 : M ≤ 512 := HM.out.2
      clear hck sp2 hM HV HL hlt'
      refine wpIn_wide.2 ?_
      subst hve
      go_upto_region 3 with fail
      refine regionC (fun w' => w'.heap[Bs]? = some (.cells #[.slice va N vc] 77 (0, 0)) ∧ w'.heap[Bd]? = some (.cells #[Jv (d : Int)] 3 (0, 0))) (by kernel_rfl) ?_
      have DC : Hid ((fun w' => w'.heap[Bs]? = some (.cells #[.slice va N vc] 77 (0, 0)) ∧ w'.heap[Bd]? = some (.cells #[Jv (d : Int)] 3 (0, 0))) wr.drew) := ⟨k1, k2⟩
      have DB : Hid (Below wr.heap.size wr wr.drew) := (Below.refl _ _).drew
      obtain ⟨w3, hw3⟩ : ∃ w3, wr.drew = w3 := ⟨_, rfl⟩
      rw [hw3] at DC DB ⊢
      clear hw3
      refine takeC 0 (v := Jv (d : Int)) rfl rfl (by kernel_rfl) (by kernel_rfl) (by kernel_rfl) (fun _ _ _ h => h) (fun _ => rfl) rfl (fun w' hw' => by have := cell_box hw'.2; go_simp) ?_
      refine takeC 1 (v := .slice va N vc) rfl rfl (by kernel_rfl) (by kernel_rfl) (by kernel_rfl) (fun _ _ _ h => h) (fun _ => rfl) rfl (fun w' hw' => by have := cell_box hw'.1; go_simp) ?_
      refine takeC 2 (v := Jv (I : Int)) rfl rfl (by kernel_rfl) (by kernel_rfl) (by kernel_rfl) (fun _ _ _ h => h) (fun _ => rfl) rfl (fun w' hw' => by go_simp) ?_
      refine takeC 3 (v := .slice a1 (N - I) p1) rfl rfl (by kernel_rfl) (by kernel_rfl) (by kernel_rfl) (fun _ _ _ h => h) (fun _ => rfl) rfl (fun w' hw' => by have := hs1 w'; go_simp) ?_
      refine takeC 4 (v := Jv ((N - I : Nat) : Int)) rfl rfl (by kernel_rfl) (by kernel_rfl) (by kernel_rfl) (fun _ _ _ h => h) (fun _ => rfl) rfl (fun w' hw' => by go_simp) ?_
      refine takeC 5 (v := Jv (M : Int)) rfl rfl (by kernel_rfl) (by kernel_rfl) (by kernel_rfl) (fun _ _ _ h => h) (fun _ => rfl) rfl (fun w' hw' => by have := hmn w'; go_simp) ?_
      refine yR 6 DC.out (by kernel_rfl) rfl rfl (Jv (M : Int)) w3 (by go_simp) ?_
      refine doneC DC.out (by kernel_rfl) ?_ _
      have x1 := cell_box DC.out.1
      have x2 := cell_box DC.out.2
      have hB3 := (hkp.trans (Kps.of DB.out (by have := hkp.1.size; have := hb0.size; omega)))
      have hJ3 := abide_b hJ hJs DB.out
      have sp3 := HS2.out.below (hz0 ▸ (hb0.trans hB3.1))
      have hI512 : I < 512 := by omega
      have HKB : Hid (Kps n0 [Bs, Bd] W w3) := hB3
      obtain ⟨fn, tmps, assign, body, hy, hR⟩ := HY.out k v2 w3 hJ3 hkn sp3 (Nb.zero _)
      have hs2' := hs2 w3
      clear hs1 hmn hs2 HS2 k1 k2 hJs hkp hB3 hJ3 DB DC sp3
      go_upto_region 4 with fail
      refine (wpIn_wide (n := m)).1 ?_
      gi_wp2
      refine hR.mono ?_
      rintro e W3 ⟨rfl, hJ3, hk3⟩
      have HK3 : Hid (Kps n0 [Bs, Bd] W W3) := HKB.out.trans hk3
      have x2 := cell_box (HK3.out.2 Bd (by simp) _ _ HC2.out)
      have HE : Hid ((k + 1) * d = I + d) := by unfold Hid; rw [Nat.add_mul, HI.out, Nat.one_mul]
      clear x1 hk3 hy hs2' HKB hR
      gi_wp2
      go_wp2
      go_roundw
      case rel => exact ⟨k + 1, by omega, by rw [HE.out]; go_num, hJ3, HK3.out⟩
      case measure => simp [intOf]; omega
    · have hkn : ¬ k < n := fun q => hlt (hlt'.1 q)
      obtain rfl : k = n := by omega
      subst hve
      gi_wp2
      go_end0
      exact ⟨⟨_, rfl⟩, hJs⟩
set_option maxHeartbeats 1000000 in
theorem chunk_any (n0 d : Nat) (v : Value) (E : List (Int × Int)) (W0 W : World) (hv : SpV W0 v E) (hd : 0 < d) (hd2 : d ≤ 512) (hl : E.length ≤ 512) (hz0 : W0.heap.size = n0) (hb0 : Below n0 W0 W) :
    Calls Try.prog 50 #[v, Jv (d : Int)] W fun e w' => (∃ lb, e = .returned (.func (.func 67) #[] lb) ∧ Sq n0 0 [W.heap.size, W.heap.size + 1] w' (.func (.func 67) #[] lb) (chk d E) (chN d E.length)) ∧ Below W.heap.size W w' ∧ W.heap.size + 1 + 1 ≤ w'.heap.size := by
  have hmf : ∀ (fn : Fn) (first cap : Array Value) (w : World), (Instr.makeFunc fn first cap).run Try.prog w = .ok (.func fn first cap) w := fun _ _ _ _ => rfl
  have s1 := ((St.start W).new (c := #[v]) (t := 77)).new (c := #[Jv (d : Int)]) (t := 3)
  simp only [World.size_alloc] at s1
  obtain ⟨va, vc, hve, -⟩ := id hv
  have HV : Hid (SpV W0 v E) := hv
  have hve' : Hid (v = _) := hve
  clear hv hve
  rw [hve'.out] at s1 ⊢
  go_enter Try.func50, Try.ntmps50
  go_wp2
  go_ret
  refine ⟨⟨_, rfl, _, _, rfl, enters_of Try.func67 (by kernel_rfl) rfl, fun l m J W1 hW hJ hY h0 => ?_⟩, s1.below, by have := lt_of_heap s1.h1; omega⟩
  have hb := s1.below.trans (hW.mono s1.below.size)
  exact chunk1_in m l W.heap.size (W.heap.size + 1) n0 d _ E W0 (hve'.out ▸ HV.out) hd hd2 hl hz0 J W1 (hb0.trans (hb.mono (by have := hb0.size; omega))) ((hW.block _ (lt_of_heap s1.h2)).trans s1.h2) ((hW.block _ (lt_of_heap s1.h1)).trans s1.h1) hJ hY h0
end Go.Proofs.Ytcphealigifdiaa

/- What running of package bound returns. -/
namespace Go.Proofs.Ytcphealigifdiaa
open Go.ChangeShapes Go.WideShapes Go.ChangeAt Go.RowKit
set_option linter.unusedVariables false
theorem ret_v {u v : Value} (h : u = v) : Ending.returned u = .returned v := by rw [h]
set_option maxRecDepth 100000 in
set_option maxHeartbeats 8000000 in
theorem brun_any (b : Int) (v : Value) (E : List (Int × Int)) (W : World) (hv : SpV W v E) (hE : Rb E) (hl : E.length ≤ 512) (hb : Vd 4294967296 (b, b)) :
    Calls Try.prog 27 #[Jv b, v] W fun e w' => (∃ u, e = .returned u ∧ OSp w' W.heap.size u (ruL (b, b) E)) ∧ Below W.heap.size W w' := by
  obtain ⟨i0, hi0, hz0, hz1, hz2⟩ := info_parts Try.infoS
  obtain ⟨va, vc, rfl, h2, h3, h4⟩ := hv
  obtain ⟨N, hN⟩ : ∃ N, E.length = N := ⟨_, rfl⟩
  have HV : Hid (∀ k, k ≤ N → Vd 10000000000 (suS (b, b) (E.take k))) := fun k hk => suS_vd (hE.take k) (by rw [List.length_take]; omega) hb
  have HE : Hid (∀ k, k < N → Vd 10000000000 (E.getD k (0, 0))) := fun k hk => by
    rw [List.getD_eq_getElem?_getD, List.getElem?_eq_getElem (by omega)]
    exact hE.vd _ (List.getElem_mem _)
  have HA : Hid (ruT (b, b) E N = ruL (b, b) E) := by rw [← hN]; exact ruT_all _ _
  have H0 : Hid (ruT (b, b) E 0 = [(b, b)]) := ruT_0 _ _
  have HN : Hid (E.length = N) := hN
  rw [hN] at h2 h4 hl ⊢
  have H4 : Hid (0 < N → _) := h4
  unfold maxLen at h3
  clear h4 hN hE hb
  go_enter Try.func27, Try.ntmps27
  go_wp2_with fail
  refine (bone_any _ _).mono ?_
  rintro e w1 ⟨rfl, hb1⟩
  have s1 := ((St.start W).call hb1).new (c := #[Jv b, Jv b]) (t := 28)
  have hz := s1.size
  have hz1w := hb1.size
  obtain ⟨B, hB⟩ : ∃ B, w1.heap.size = B := ⟨_, rfl⟩
  rw [hB] at s1 hz1w
  go_upto_region 2 with fail
  obtain ⟨w2, hw2⟩ : ∃ w2, w1.alloc (.cells #[Jv b, Jv b] 28) = w2 := ⟨_, rfl⟩
  rw [hw2] at s1 ⊢
  have hz2w : w2.heap.size = B + 1 := by rw [← hw2, ← hB]; simp
  have S1 : Hid (St W w2 [(B, #[Jv b, Jv b], 28)]) := s1
  clear hw2 hB hb1 s1 hz
  refine regionC (fun w' => w'.heap[B]? = some (.cells #[Jv b, Jv b] 28 (0, 0))) (by kernel_rfl) ?_
  obtain ⟨w3, hw3⟩ : ∃ w3, w2.drew = w3 := ⟨_, rfl⟩
  have S3 : Hid (St W w3 [(B, #[Jv b, Jv b], 28)]) := by unfold Hid; rw [← hw3]; exact S1.out.drew
  have hz3 : w3.heap.size = B + 1 := by rw [← hw3]; exact hz2w
  rw [hw3]
  clear hw3 hz2w S1
  have HD : Hid (w3.heap[B]? = some (.cells #[Jv b, Jv b] 28 (0, 0))) := S3.out.h1
  have hwr : IntKind.i64.wrap ((N : Int) + 1) = (N : Int) + 1 := by rw [IntKind.wrap_i64]; omega
  refine takeC 0 (v := .slice va N vc) rfl rfl (by kernel_rfl) (by kernel_rfl) (by kernel_rfl) (fun _ _ _ h => h) (fun _ => rfl) rfl (fun w' hw' => by go_simp) ?_
  refine takeC 1 (v := Jv (N : Int)) rfl rfl (by kernel_rfl) (by kernel_rfl) (by kernel_rfl) (fun _ _ _ h => h) (fun _ => rfl) rfl (fun w' hw' => by go_simp) ?_
  refine takeC 2 (v := Jv ((N : Int) + 1)) rfl rfl (by kernel_rfl) (by kernel_rfl) (by kernel_rfl) (fun _ _ _ h => h) (fun _ => rfl) rfl (fun w' hw' => by go_simp) ?_
  refine takeC 4 (v := .agg #[Jv b, Jv b]) rfl rfl (by kernel_rfl) (by kernel_rfl) (by kernel_rfl) (fun _ _ _ h => h) (fun _ => rfl) rfl (fun w' hw' => run_la 28 (.tmp 5) rfl ⟨B, 0, none⟩ (by kernel_rfl) [Jv b, Jv b] _ (fun q v hq => by rw [Addr.add_lit, Nat.zero_add, (cells_at hw').1]; simpa using hq) Try.underlying28 rfl (by kernel_rfl)) ?_
  refine y2 3 5 HD.out (by kernel_rfl) ?_ ?_
  obtain ⟨w4, hmk, own4, gr4⟩ := run_make_own (P := Try.prog) w3 (B + 1) 77 28 i0 (.agg #[Jv 0, Jv 0]) 2 Try.underlying77 hi0 hz0 hz1 .i64 .i64 (N + 1) (by rw [hz2]; omega) (by unfold maxLen; omega) (by omega)
  rw [show ((N + 1 : Nat) : Int) = (N : Int) + 1 by omega] at hmk
  refine yO rfl rfl (.slice (some ⟨w3.heap.size, 0, none⟩) 0 (N + 1)) w4 (by go_simp) ?_
  have b4 : Below w3.heap.size w3 w4 := (Below.refl _ _).grown gr4 (Nat.le_refl _) (fun _ h => by cases h)
  have s4 := (S3.out.call b4).new (c := #[Jv b, Jv b]) (t := 28)
  have z4 := b4.size
  refine yR 5 (S3.out.call b4).h1 (by kernel_rfl) rfl rfl (.slice (some ⟨w4.heap.size, 0, none⟩) 1 1) (w4.alloc (.cells #[Jv b, Jv b] 28)) (by kernel_rfl) ?_
  refine yA 6 s4.h2 (by kernel_rfl) rfl rfl (.tmp 14) (.tmp 16) rfl (B + 1) _ [] [(b, b)] (by kernel_rfl) (OSp.below own4 (bal _ _)) _ (by kernel_rfl) (span_one w4 b b) (by simp) (by simp) (by simp; omega) ?_
  intro v5 w5 own5 gr5 _
  have s5 := s4.tail.row (OSp.below (L := []) own4 (bal _ _)) gr5 (by simp) (by omega)
  rotate_left
  have s4' := S3.out.new (c := #[Jv b, Jv b]) (t := 28)
  refine yO rfl rfl (.slice (some ⟨w3.heap.size, 0, none⟩) 1 1) (w3.alloc (.cells #[Jv b, Jv b] 28)) (by kernel_rfl) ?_
  have hz4 : (w3.alloc (.cells #[Jv b, Jv b] 28)).heap.size = B + 1 + 1 := by rw [World.size_alloc, hz3]
  have so := span_one w3 b b
  obtain ⟨w3', hw3'⟩ : ∃ w3', w3.alloc (.cells #[Jv b, Jv b] 28) = w3' := ⟨_, rfl⟩
  rw [hw3'] at s4' hz4 so ⊢
  clear hw3'
  obtain ⟨w4, hmk, own4, gr4⟩ := run_make_own (P := Try.prog) w3' (B + 1) 77 28 i0 (.agg #[Jv 0, Jv 0]) 2 Try.underlying77 hi0 hz0 hz1 .i64 .i64 (N + 1) (by rw [hz2]; omega) (by unfold maxLen; omega) (by omega)
  rw [show ((N + 1 : Nat) : Int) = (N : Int) + 1 by omega] at hmk
  have b4 : Below w3'.heap.size w3' w4 := (Below.refl _ _).grown gr4 (Nat.le_refl _) (fun _ h => by cases h)
  have s4 := s4'.call b4
  have z4 := b4.size
  refine yR 3 s4'.h2 (by kernel_rfl) rfl rfl (.slice (some ⟨w3'.heap.size, 0, none⟩) 0 (N + 1)) w4 (by go_simp) ?_
  refine yA 6 s4.h2 (by kernel_rfl) rfl rfl (.tmp 14) (.tmp 16) rfl (B + 1) _ [] [(b, b)] (by kernel_rfl) own4 _ (by kernel_rfl) (so.below b4) (by simp) (by simp) (by omega) ?_
  intro v5 w5 own5 gr5 _
  have s5 := s4.tail.row (show OSp w4 (B + 1) _ [] from own4) gr5 (by simp) (by omega)
  clear so s4' hz4
  all_goals
    have O5 : Hid (OSp w5 (B + 1) v5 (ruT (b, b) E 0)) := by unfold Hid; rw [H0.out]; exact own5
    have S5 : Hid (St W w5 _) := s5
    refine yR 7 s5.h1 (by kernel_rfl) rfl rfl v5 w5 (by go_simp) ?_
    refine doneC s5.h1 (by kernel_rfl) ?_ _
    clear hmk own4 gr4 own5 gr5 s4 s5 b4 z4 S3 HD hz3 hwr
    obtain ⟨v6, hv6⟩ : ∃ v6, v5 = v6 := ⟨_, rfl⟩
    rw [hv6] at O5 ⊢
    clear hv6
    go_wp2
    go_loopw [6, 20] (fun L i wr => ∃ k : Nat, k ≤ N ∧ i = Jv k ∧ ∃ v0, v0 = L ∧ OSp wr (B + 1) v0 (ruT (b, b) E k) ∧ St W wr [(B, #[Jv (suS (b, b) (E.take k)).1, Jv (suS (b, b) (E.take k)).2], 28)]) (fun _ i _ => N - (intOf i).toNat)
    case atStart => exact ⟨0, Nat.zero_le _, rfl, _, rfl, O5.out, S5.out⟩
    case round =>
      obtain ⟨k, hk, rfl, v0, rfl, own, s⟩ := hrel
      have OW : Hid (OSp wr (B + 1) v0 (ruT (b, b) E k)) := own
      have hzr := s.size
      by_cases hlt : k < N
      · obtain ⟨g, o, rfl, hc⟩ := H4.out (by omega)
        obtain ⟨q1, q2⟩ := SpV.at hc (show k < E.length by rw [HN.out]; exact hlt)
        have hve := HE.out k hlt
        have hvs := HV.out k hk
        obtain ⟨e1, e2, he⟩ : ∃ e1 e2, E.getD k (0, 0) = (e1, e2) := ⟨_, _, rfl⟩
        obtain ⟨m1, m2, hm⟩ : ∃ m1 m2, suS (b, b) (E.take k) = (m1, m2) := ⟨_, _, rfl⟩
        have HS : Hid (suS (b, b) (E.take (k + 1)) = (m1 + e1, m2 + e2)) := by unfold Hid; rw [suS_take _ (show k < E.length by rw [HN.out]; exact hlt) he, hm]; rfl
        have HR : Hid (ruT (b, b) E (k + 1) = ruT (b, b) E k ++ [(m1 + e1, m2 + e2)]) := by unfold Hid; rw [ruT_succ, HS.out]
        have HL : Hid ((ruT (b, b) E k).length = k + 1) := ruT_len _ _ _
        rw [he] at q1 q2 hve
        rw [hm] at s hvs
        simp only at q1 q2 s
        have HP : Hid (∀ w, _) := fun w => bplus_ok (m1, m2) (e1, e2) w hvs hve
        have p1 := (s.below.cell (World.block_lt_of_cell? W _ q1)).trans q1
        have p2 := (s.below.cell (World.block_lt_of_cell? W _ q2)).trans q2
        have S : Hid (St W wr [(B, #[Jv m1, Jv m2], 28)]) := s
        obtain ⟨c1, f1, z1, -⟩ := s.rules
        clear q1 q2 hc he hm hve hvs s own H4 HV HE O5 S5
        go_wp2_with fail
        refine (HP.out _).mono ?_
        rintro e w3 ⟨rfl, hb3⟩
        have s3 := (S.out.skip (.cells #[Jv e1, Jv e2] 28)).call hb3
        have s4 := s3.set2 (u := Jv (m1 + e1)) (v := Jv (m2 + e2)) (by simp)
        have o4 := ((OW.out.below (bal _ (.cells #[Jv e1, Jv e2] 28))).below hb3).set (B := B) (i := 0) (u := Jv (m1 + e1)) (by omega) |>.set (B := B) (i := 1) (u := Jv (m2 + e2)) (by omega)
        have hz4 := s4.size
        have hz3 := hb3.size
        clear c1 f1 z1 p1 p2 S OW hb3
        obtain ⟨c1, f1, z1, -⟩ := s3.rules
        clear s3
        simp only [plS]
        have S4 : Hid (St W _ _) := s4
        have O4 : Hid (OSp _ _ _ _) := o4
        clear s4 o4
        go_wp2_with (at_builtin; refine wpList_apS rfl _ _ rfl (B + 1) _ (ruT (b, b) E k) [(m1 + e1, m2 + e2)] rfl (O4.out.below (bal _ _)) (.slice (some ⟨w3.heap.size, 0, none⟩) 1 1) rfl (span_at _ _ _ (by simp)) (by simp) (by simp [HL.out]; omega) (by simp at hz3 hz4 ⊢; omega) ?_; intro v5 w5 own5 gr5 _; have S5 := (S4.out.skip (.cells #[Jv (m1 + e1), Jv (m2 + e2)] 28)).row (O4.out.below (bal _ _)) gr5 (by simp) (by omega); have T5 : Hid (St W w5 _) := S5; have O5 : Hid (OSp w5 _ _ _) := own5; clear S5 own5 gr5)
        go_roundw
        case rel => exact ⟨k + 1, by omega, by go_num, _, rfl, by rw [HR.out]; exact O5.out, by rw [HS.out]; exact T5.out⟩
        case measure => simp [intOf]; omega
      · obtain rfl : k = N := by omega
        have hbl := s.below
        clear H4 s own
        go_wp2
        go_ret
        exact ⟨⟨_, rfl, by rw [← HA.out]; exact OW.out.base (by omega)⟩, hbl⟩
end Go.Proofs.Ytcphealigifdiaa

/- What partial of package bound returns: the partial sums of all blocks. -/
namespace Go.Proofs.Ytcphealigifdiaa
open Go.ChangeShapes Go.WideShapes Go.ChangeAt Go.RowKit Go.Shelf
set_option linter.unusedVariables false
attribute [local go_sem] Oper.semAt_some
set_option maxRecDepth 100000 in
set_option maxHeartbeats 8000000 in
theorem bpart_any (d : Nat) (v : Value) (E : List (Int × Int)) (W : World) (hv : SpV W v E) (hE : Rb E) (hl : E.length ≤ 512) (hd : 0 < d) (hd2 : d ≤ 512) :
    Calls Try.prog 30 #[v, Jv (d : Int)] W fun e w' => (∃ u, e = .returned u ∧ OSp w' W.heap.size u (paL d E)) ∧ Below W.heap.size W w' := by
  have s0 := (St.start W).new (c := #[.slice none 0 0]) (t := 77)
  have HRn : Hid (∀ (W1 : World) (x : Value) (k : Nat), SpV W1 x (chk d E k) → _) := fun W1 x k hx => brun_any 0 x (chk d E k) W1 hx ((hE.drop _).take _) (by rw [chk_len]; omega) (by unfold Vd; simp)
  have HCh : Hid (∀ W1, Below W.heap.size W W1 → _) := fun W1 hb => chunk_any W.heap.size d v E W W1 hv hd hd2 hl rfl hb
  have HPl : Hid (∀ k, k ≤ chN d E.length → (paT d E k).length ≤ 1000000 - 1000) := fun k hk => by
    have h1 := paT_len d E k
    have h2 := chN_le (n := E.length) hd
    have h3 := Nat.mul_le_mul (show k ≤ 512 by omega) hd2
    omega
  have HK1 : Hid (∀ k, k < chN d E.length → 1 < (ruL (0, 0) (chk d E k)).length ∧ (ruL (0, 0) (chk d E k)).length ≤ 513) := fun k hk => by
    have := (chN_lt hd).1 hk
    rw [ruL_len, chk_len]
    omega
  obtain ⟨va, vc, hve, -⟩ := id hv
  clear hv hE
  rw [hve] at HCh ⊢
  clear hve hl hd hd2
  have HS0 : Hid (St W _ _) := s0
  have hfn : ∀ f, Fence.wide.fn f := fun _ => trivial
  have hdp : Fence.wide.depth = none := rfl
  refine (callsIn_wide (n := 3)).1 ?_
  refine callsIn_of_wp_marks Try.func30 rfl trivial ?_ rfl
  simp only [Try.ntmps30, List.size_toArray, List.length_cons, List.length_nil, Nat.reduceAdd, Nat.reduceSub, Array.replicate_succ, Array.replicate_zero, List.push_toArray, List.append_toArray, List.nil_append, List.cons_append]
  refine wpIn_wide.2 ?_
  go_wp2_with fail
  refine (HCh.out _ HS0.out.below).mono ?_
  rintro e w5 ⟨⟨lb, rfl, hsq⟩, hb5, hz5⟩
  have s5 := HS0.out.call hb5
  simp only [World.size_alloc] at hsq hz5
  clear s0 hb5 HCh HS0
  have HSQ : Hid (Sq _ _ _ w5 _ _ _) := hsq
  have HS5 : Hid (St W w5 [(W.heap.size, #[.slice none 0 0], 77)]) := s5
  clear hsq s5
  go_wp2
  refine (wpIn_wide (n := 5)).1 ?_
  refine range_sq HSQ.out rfl rfl (by omega) HS5.out.size
    (fun k W' => ∃ u, St W W' [(W.heap.size, #[u], 77)] ∧ OSp W' w5.heap.size u (paT d E k) ∧ w5.heap.size ≤ W'.heap.size)
    ?own ⟨_, HS5.out, by simpa [paT] using OSp.nil _ _, Nat.le_refl _⟩ ?a₁ ?assign ?body ?done
  case own =>
    rintro k A B row ⟨u, h1, h2, h3⟩ hg hr
    have hz := HS5.out.size
    exact ⟨u, h1.turn hg (fun r e => ⟨by have := (hr r e).1; omega, (hr r e).2⟩), h2.turn hg (fun r e => (hr r e).2), Nat.le_trans h3 hg.size⟩
  case assign =>
    intro l x W' K hK
    gi_wp2
    exact hK
  case done =>
    rintro D W' hD ⟨u, h1, h2, h3⟩ hK
    have hc := cell_box h1.h1
    have HF : Hid (OSp W' w5.heap.size u (paT d E (chN d E.length))) := h2
    have HB : Hid (Below W.heap.size W W') := h1.below
    have hz := HS5.out.size
    clear h1 h2
    go_wp2
    refine ⟨by simp, .inl ⟨_, _, rfl, run_takeDeferred hK, ?_⟩⟩
    refine ⟨u, by simp [results, Try.f30, go_sem], ⟨_, rfl, ?_⟩, ?_⟩
    · exact OSp.base (ownsRow_putObj HF.out _ hK rfl) hz
    · exact HB.out.trans (belowK_b (w := W) (Nat.le_refl _) W' D _ _ (by omega) hK rfl rfl)
  case body =>
    rintro l k x W' ⟨u, h1, h2, h3⟩ hk hx _
    have HX : Hid (SpV W' x (chk d E k)) := hx
    have H1 : Hid (St W W' _) := h1
    have H2 : Hid (OSp W' w5.heap.size u (paT d E k)) := h2
    have hz := HS5.out.size
    clear h1 h2 hx HSQ HS5
    gi_wp2
    refine regionC_round (fun _ => True) (by kernel_rfl) (by kernel_rfl) ?_
    have DB : Hid (Below W'.heap.size W' W'.drew) := (Below.refl _ _).drew
    obtain ⟨w3, hw3⟩ : ∃ w3, W'.drew = w3 := ⟨_, rfl⟩
    rw [hw3] at DB ⊢
    clear hw3
    have S3 : Hid (St W w3 [(W.heap.size, #[u], 77)]) := H1.out.call DB.out
    have O3 : Hid (OSp w3 w5.heap.size u (paT d E k)) := H2.out.below DB.out
    have X3 : Hid (SpV w3 x (chk d E k)) := HX.out.below DB.out
    obtain ⟨g1, g2⟩ := HK1.out k hk
    have x3 := cell_box S3.out.h1
    refine takeC 1 (v := x) rfl rfl (by kernel_rfl) (by kernel_rfl) (by kernel_rfl) (fun _ _ _ h => h) (fun _ => rfl) rfl (fun w' hw' => by go_simp) ?_
    refine y2 0 2 trivial (by kernel_rfl) ?_ ?_
    refine yO rfl rfl u w3 (by go_simp) ?_
    refine yK 2 trivial (by kernel_rfl) rfl rfl 27 #[Jv 0, x] (by kernel_rfl) (HRn.out w3 x k X3.out) ?_
    rintro e w4 ⟨⟨r, rfl, hr4⟩, hb4⟩
    refine ⟨_, rfl, ?_⟩
    obtain ⟨r', hs4, hr5, -⟩ := hr4.sv.from (k := 1) (K := 1) (by omega) rfl
    have hs4' := hs4 w4
    rw [run_sliceAt_slice (h := Try.unS)] at hs4'
    refine yR 3 trivial (by kernel_rfl) rfl rfl r' w4 (by go_simp) ?_
    rotate_left
    refine yC rfl rfl 27 #[Jv 0, x] (by kernel_rfl) (HRn.out w3 x k X3.out) ?_
    rintro e w4 ⟨⟨r, rfl, hr4⟩, hb4⟩
    refine ⟨_, rfl, ?_⟩
    have x4 := cell_box (S3.out.call hb4).h1
    obtain ⟨r', hs4, hr5, -⟩ := hr4.sv.from (k := 1) (K := 1) (by omega) rfl
    have hs4' := hs4 w4
    rw [run_sliceAt_slice (h := Try.unS)] at hs4'
    refine y2 0 3 trivial (by kernel_rfl) ?_ ?_
    refine yO rfl rfl u w4 (by go_simp) ?_
    refine yR 3 trivial (by kernel_rfl) rfl rfl r' w4 (by go_simp) ?_
    rotate_left
    refine yO rfl rfl r' w4 (by go_simp) ?_
    refine yR 0 trivial (by kernel_rfl) rfl rfl u w4 (by go_simp) ?_
    all_goals
      have hlen : ((ruL (0, 0) (chk d E k)).drop 1).length + 1 ≤ 513 := by rw [List.length_drop]; omega
      have hlp := HPl.out k (Nat.le_of_lt hk)
      have hz3 := DB.out.size
      have hz4 := hb4.size
      refine yA 4 trivial (by kernel_rfl) rfl rfl (.tmp 11) (.tmp 14) rfl w5.heap.size u (paT d E k) ((ruL (0, 0) (chk d E k)).drop 1) (by kernel_rfl) (O3.out.below hb4) r' (by kernel_rfl) hr5 (by rw [List.length_drop]; omega) (by omega) (by omega) ?_
      intro u' w6 ou gr _
      have s6 := (S3.out.call hb4).row (O3.out.below hb4) gr (by simp; omega) (by omega)
      have x6 := cell_box s6.h1
      have f6 := (cells_at s6.h1).2.1
      have z6 := lt_of_heap s6.h1
      obtain ⟨ua, uc, hue⟩ := ou.slice
      subst hue
      obtain ⟨u', hue⟩ : ∃ u', u' = Value.slice ua (paT d E k ++ (ruL (0, 0) (chk d E k)).drop 1).length uc := ⟨_, rfl⟩
      refine yT 5 trivial (by kernel_rfl) rfl rfl (w6.setCell ⟨W.heap.size, 0, none⟩ (.slice ua (paT d E k ++ (ruL (0, 0) (chk d E k)).drop 1).length uc)) (by go_simp) ?_
      rw [← hue] at ou ⊢
      clear hue
      refine doneC trivial (by kernel_rfl) ?_ _
      have HF : Hid (St W (w6.setCell ⟨W.heap.size, 0, none⟩ u') [(W.heap.size, #[u'], 77)]) := s6.set (i := 0) (v := u') (by simp)
      have HG : Hid (OSp (w6.setCell ⟨W.heap.size, 0, none⟩ u') w5.heap.size u' (paT d E (k + 1))) := by
        unfold Hid
        rw [paT_succ, ← List.drop_one]
        exact ou.set (by omega)
      have HKo : Hid (KeepsOthers W' (w6.setCell ⟨W.heap.size, 0, none⟩ u')) := (((ko_below DB.out).trans (ko_below hb4)).trans (ko_row (O3.out.below hb4) gr)).trans (KeepsOthers.setCell _ _ _)
      have HKp : Hid (Kps W.heap.size [W.heap.size + 1, W.heap.size + 1 + 1] W' (w6.setCell ⟨W.heap.size, 0, none⟩ u')) := (((Kps.of DB.out (by omega)).trans (Kps.of hb4 (by omega))).trans (Kps.row (O3.out.below hb4) gr (by omega) (by omega) (by simp; omega))).trans (Kps.set _ (Nat.le_refl _) (by simp; omega))
      have hzs : w5.heap.size ≤ (w6.setCell ⟨W.heap.size, 0, none⟩ u').heap.size := by simp; have := gr.size; omega
      clear s6 ou gr hr5 hr4 hb4 hs4 hs4' x6 f6 z6 x3
      gi_wp2
      exact ⟨HKo.out.from _, HKp.out, u', HF.out, HG.out, hzs⟩
end Go.Proofs.Ytcphealigifdiaa

/- What hull of package bound returns, whatever it picks. -/
namespace Go.Proofs.Ytcphealigifdiaa
open Go.ChangeShapes Go.WideShapes Go.ChangeAt Go.RowKit Go.Shelf
set_option linter.unusedVariables false
attribute [local go_sem] Oper.semAt_some
/-- What is picked, position by position, as far as so many. -/
def piT (F : List (Int × Int) → List (Int × Int)) (R : Nat → List (Int × Int)) (N : Nat) : List (Int × Int) := (List.range N).flatMap fun k => F (R k)
theorem piT_succ (F : List (Int × Int) → List (Int × Int)) (R : Nat → List (Int × Int)) (k : Nat) : piT F R (k + 1) = piT F R k ++ F (R k) := by unfold piT; rw [List.range_succ, List.flatMap_append]; simp
theorem piT_head {F : List (Int × Int) → List (Int × Int)} {R : Nat → List (Int × Int)} {N : Nat} (hN : 0 < N) {x : Int × Int} {l : List (Int × Int)} (h : F (R 0) = x :: l) : ∃ m, piT F R N = x :: m := by
  obtain ⟨n, rfl⟩ : ∃ n, N = n + 1 := ⟨N - 1, by omega⟩
  unfold piT
  rw [List.range_succ_eq_map, List.flatMap_cons, h]
  exact ⟨_, rfl⟩
theorem mem_piT {F : List (Int × Int) → List (Int × Int)} {R : Nat → List (Int × Int)} {N : Nat} {x : Int × Int} : x ∈ piT F R N ↔ ∃ k, k < N ∧ x ∈ F (R k) := by simp [piT]
theorem St.rowset {w0 w : World} {B : Nat} {c c' : Array Value} {t : TypeId} {l : List (Nat × Array Value × TypeId)} (h : St w0 w ((B, c, t) :: l)) (hl : ∀ x ∈ l, x.1 ≠ B) : St w0 (w.setRow B c') ((B, c', t) :: l) := by
  refine ⟨below_setRow h.1 (h.2 _ List.mem_cons_self).2 c', fun x hx => ?_⟩
  rcases List.mem_cons.1 hx with rfl | hx
  · exact ⟨setRow_heap w _ c c' t (0, 0) h.h1, (h.2 _ List.mem_cons_self).2⟩
  · exact ⟨(setRow_other _ _ _ _ (hl x hx)).trans (h.2 x (List.mem_cons_of_mem _ hx)).1, (h.2 x (List.mem_cons_of_mem _ hx)).2⟩
set_option maxRecDepth 100000 in
set_option maxHeartbeats 8000000 in
theorem bhull_any (q : Nat) (ch n ln bi slo shi p h w c : Int) (g0 : Nat) (R : Nat → List (Int × Int)) (N : Nat) (hn : n = (N : Int)) (hN : N ≤ 100000000) (hN0 : 0 < N) (F : List (Int × Int) → List (Int × Int)) (gf : Nat) (lb : Array Value) (W : World)
    (hq : W.heap[q]? = some (.cells #[Jv ch, Jv n, Jv ln, Jv bi, Jv slo, Jv shi, Jv p, Jv p, Jv h, Jv w, Jv c, Jv 0, Jv 0, .slice (some ⟨g0, 0, none⟩) 1 1, Jv 0] 73 (0, 0)))
    (hE : ∀ W' (k : Nat), Below W.heap.size W W' → k < N → Calls Try.prog 46 #[.pointer (some ⟨q, 0, none⟩), Jv (k : Int)] W' fun e w' => (∃ u, e = .returned u ∧ OSp w' W'.heap.size u (R k)) ∧ Below W'.heap.size W' w')
    (eg : ∀ args w, (callFunc gf args).run Try.prog w = .ok (.enter gf args) w)
    (hP : ∀ W' (v : Value) (k nb : Nat), Below W.heap.size W W' → k < N → SpV W' v (R k) → Nb nb v → nb ≤ W'.heap.size → Calls Try.prog gf (#[v] ++ lb) W' fun e w' => (∃ u, e = .returned u ∧ SpV w' u (F (R k)) ∧ Nb nb u) ∧ Below W'.heap.size W' w')
    (hF : ∀ k, k < N → 0 < (F (R k)).length ∧ (F (R k)).length ≤ 1000000 ∧ ∀ x ∈ F (R k), Vd 10000000000 x) :
    Calls Try.prog 25 #[.pointer (some ⟨q, 0, none⟩), .func (.func gf) #[] lb] W fun e w' => e = .returned (.agg #[Jv (huA (piT F R N)).1, Jv (huA (piT F R N)).2]) ∧ Below W.heap.size W w' := by
  obtain ⟨x0, l0, hx0⟩ : ∃ x l, F (R 0) = x :: l := by
    cases e : F (R 0) with
    | nil => have := (hF 0 hN0).1; rw [e] at this; cases this
    | cons x l => exact ⟨x, l, rfl⟩
  have HA : Hid (huA (piT F R N) = huF x0 (piT F R N)) := by
    obtain ⟨m, hm⟩ := piT_head hN0 hx0
    unfold Hid
    rw [hm, huF_self]
  have HV0 : Hid (Vd 10000000000 x0) := (hF 0 hN0).2.2 x0 (by rw [hx0]; exact List.mem_cons_self)
  have HV : Hid (∀ k, k ≤ N → Vd 10000000000 (huF x0 (piT F R k))) := fun k hk => huF_vd HV0.out fun y hy => by
    obtain ⟨j, hj, hy'⟩ := mem_piT.1 hy
    exact (hF j (by omega)).2.2 y hy'
  have HE : Hid (∀ W' (k : Nat), Below W.heap.size W W' → k < N → _) := hE
  have HP : Hid (∀ W' (v : Value) (k nb : Nat), Below W.heap.size W W' → k < N → SpV W' v (R k) → Nb nb v → nb ≤ W'.heap.size → _) := hP
  have HF : Hid (∀ k, k < N → 0 < (F (R k)).length ∧ (F (R k)).length ≤ 1000000 ∧ ∀ x ∈ F (R k), Vd 10000000000 x) := hF
  have HX0 : Hid (F (R 0) = x0 :: l0) := hx0
  have HQ : Hid (W.heap[q]? = _) := hq
  have hqz := lt_of_heap hq
  have s0 := ((St.start W).new (c := #[.func (.func gf) #[] lb]) (t := 79)).new (c := #[Jv 0, Jv 0]) (t := 28)
  simp only [World.size_alloc] at s0
  have HN : Hid (n = (N : Int)) := hn
  rw [HA.out]
  clear hE hP hF hx0 hq hn
  have hfn : ∀ f, Fence.wide.fn f := fun _ => trivial
  have hdp : Fence.wide.depth = none := rfl
  refine (callsIn_wide (n := 3)).1 ?_
  refine callsIn_of_wp_marks Try.func25 rfl trivial ?_ rfl
  simp only [Try.ntmps25, List.size_toArray, List.length_cons, List.length_nil, Nat.reduceAdd, Nat.reduceSub, Array.replicate_succ, Array.replicate_zero, List.push_toArray, List.append_toArray, List.nil_append, List.cons_append]
  refine wpIn_wide.2 ?_
  go_upto_region 1 with fail
  obtain ⟨w2, hw2⟩ : ∃ w2, (W.alloc (.cells #[.func (.func gf) #[] lb] 79)).alloc (.cells #[Jv 0, Jv 0] 28) = w2 := ⟨_, rfl⟩
  have hz2 : w2.heap.size = W.heap.size + 1 + 1 := by rw [← hw2]; simp
  rw [hw2] at s0 ⊢
  clear hw2
  obtain ⟨x1, x2⟩ := x0
  refine regionM (fun w' => w'.heap[W.heap.size]? = some (.cells #[.func (.func gf) #[] lb] 79 (0, 0))) (fun a' w' => ∃ (v : Value) (g o cap B5 : Nat), a' = { tmps := #[.pointer (some ⟨q, 0, none⟩), .func (.func gf) #[] lb, undef, .pointer (some ⟨W.heap.size, 0, none⟩), .pointer (some ⟨W.heap.size + 1, 0, none⟩), .pointer (some ⟨B5, 0, none⟩), undef, undef, undef, .func (.func gf) #[] lb, .pointer (some ⟨q, 0, none⟩), v, .slice (some ⟨g, o, none⟩) (F (R 0)).length cap, .pointer (some ⟨g, o, none⟩), .agg #[Jv x1, Jv x2], undef, undef, undef, undef, undef, undef, undef, undef, undef, undef, undef, undef, undef, undef, undef, undef, undef, undef, undef], defers := [] } ∧ W.heap.size + 1 + 1 ≤ B5 ∧ St W w' ((B5, #[Jv x1, Jv x2], 28) :: [(W.heap.size + 1, #[Jv 0, Jv 0], 28), (W.heap.size, #[.func (.func gf) #[] lb], 79)])) (by kernel_rfl) ?_ ?_
  rotate_left
  · rintro a' w8 ⟨v, g, o, cap, B5, rfl, hB2, S8⟩
    have HS8 : Hid (St W w8 _) := S8
    clear S8 s0 hz2
    have hB8 := lt_of_heap HS8.out.h1
    go_wp2_with fail
    refine (brows_any q W.heap.size ch n ln bi slo shi p h w c g0 R N HN.out hN w8 HS8.out.size hqz ((HS8.out.below.block q hqz).trans HQ.out) (fun W' k hb hk => HE.out W' k (HS8.out.below.trans hb) hk)).mono ?_
    rintro e w9 ⟨⟨lb', rfl, hsq⟩, hb9, hc9⟩
    have HSQ : Hid (Sq _ _ _ w9 _ _ _) := hsq
    have HS9 : Hid (St W w9 _) := HS8.out.call hb9
    have hz9 := hb9.size
    clear hsq hb9 hc9 HS8
    go_wp2
    refine (wpIn_wide (n := 5)).1 ?_
    refine range_sq HSQ.out rfl rfl (by omega) HS9.out.size
      (fun k W' => St W W' ((B5, #[Jv (huF (x1, x2) (piT F R k)).1, Jv (huF (x1, x2) (piT F R k)).2], 28) :: [(W.heap.size + 1, #[Jv 0, Jv 0], 28), (W.heap.size, #[.func (.func gf) #[] lb], 79)]) ∧ w8.heap.size ≤ W'.heap.size)
      ?own ⟨by simpa [piT, huF] using HS9.out, hz9⟩ ?a₁ ?assign ?body ?done
    case own =>
      rintro k A B row ⟨h1, h2⟩ hg hr
      have hz := HS9.out.size
      exact ⟨h1.turn hg (fun r e => ⟨by have := (hr r e).1; omega, (hr r e).2⟩), Nat.le_trans h2 hg.size⟩
    case assign =>
      intro l x W' K hK
      gi_wp2
      exact hK
    case done =>
      rintro D W' hD ⟨h1, h2⟩ hK
      obtain ⟨c1, f1, z1, c2, f2, z2, -⟩ := h1.rules
      have hz := HS9.out.size
      obtain ⟨m1, m2, hm⟩ : ∃ m1 m2, huF (x1, x2) (piT F R N) = (m1, m2) := ⟨_, _, rfl⟩
      rw [hm] at c1 h1
      simp only at c1 h1
      have HM : Hid (huF (x1, x2) (piT F R N) = (m1, m2)) := hm
      clear hm
      have sF := (h1.tail.set2 (u := Jv m1) (v := Jv m2) (by simp)).turn (grownBy_putObj' _ D (.deferred none)) (fun r e => by cases e; exact ⟨by omega, _, (Below.heap_setCell _ _ _ _ (by show D ≠ W.heap.size + 1; omega)).trans ((Below.heap_setCell _ _ _ _ (by show D ≠ W.heap.size + 1; omega)).trans hK), rfl⟩)
      obtain ⟨cF, -⟩ := sF.rules
      have HFb : Hid (Below W.heap.size W _) := sF.below
      clear h1 sF
      go_wp2
      refine ⟨by simp, .inl ⟨_, _, rfl, run_takeDeferred ((Below.heap_setCell _ _ _ _ (by show D ≠ W.heap.size + 1; omega)).trans ((Below.heap_setCell _ _ _ _ (by show D ≠ W.heap.size + 1; omega)).trans hK)), ?_⟩⟩
      exact ⟨.agg #[Jv m1, Jv m2], by simp [results, Try.f25, go_sem, cF], by rw [HM.out], HFb.out⟩
    case body =>
      rintro l k x W' ⟨h1, h2⟩ hk hx hxn
      have hvd := HV.out k (Nat.le_of_lt hk)
      obtain ⟨c1, f1, z1, c2, f2, z2, c3, f3, z3, -⟩ := h1.rules
      have H1 : Hid (St W W' _) := h1
      have HC : Hid _ := HP.out W' x k w8.heap.size h1.below hk hx hxn h2
      obtain ⟨hM0, hM1, hMv⟩ := HF.out k hk
      have HMv : Hid (∀ x ∈ F (R k), Vd 10000000000 x) := hMv
      have HVk : Hid (Vd 10000000000 (huF (x1, x2) (piT F R k))) := hvd
      have HPs : Hid (piT F R (k + 1) = piT F R k ++ F (R k)) := piT_succ F R k
      obtain ⟨L, hL⟩ : ∃ L, F (R k) = L := ⟨_, rfl⟩
      obtain ⟨P, hPP⟩ : ∃ P, piT F R k = P := ⟨_, rfl⟩
      rw [hL] at HMv hM0 hM1 HPs HC
      rw [hPP] at HVk HPs H1
      clear h1 hvd hx hMv HSQ HS9 hPP hL c1 f1 c2 f2
      gi_wp2_with fail
      refine (CallsIn.inRound l (callsIn_wide.2 HC.out)).mono ?_
      rintro e w1 ⟨⟨u, rfl, hu, hun⟩, hb1⟩
      have HU : Hid (SpV w1 u L) := hu
      have HUn : Hid (Nb w8.heap.size u) := hun
      obtain ⟨ua, uc, hue, -⟩ := hu
      subst hue
      obtain ⟨M, hM⟩ : ∃ M, L.length = M := ⟨_, rfl⟩
      have HM : Hid (L.length = M) := hM
      rw [hM] at hM0 hM1 HU HUn ⊢
      have S1 : Hid (St W w1 _) := H1.out.call hb1
      have K1 : Hid (KeepsOthers W' w1) := ko_below hb1
      have K2 : Hid (Kps W.heap.size [w8.heap.size] W' w1) := Kps.of hb1 H1.out.size
      have z1' := hb1.size
      clear hM HC H1 hb1 c3 f3 z1 z2 z3 hun hxn
      gi_wp2
      gi_loopw [22] (fun i wr => ∃ j : Nat, j ≤ M ∧ i = Jv j ∧ St W wr ((B5, #[Jv (huF (x1, x2) (P ++ L.take j)).1, Jv (huF (x1, x2) (P ++ L.take j)).2], 28) :: [(W.heap.size + 1, #[Jv 0, Jv 0], 28), (W.heap.size, #[.func (.func gf) #[] lb], 79)]) ∧ SpV wr (.slice ua M uc) L ∧ KeepsOthers W' wr ∧ Kps W.heap.size [w8.heap.size] W' wr ∧ w8.heap.size ≤ wr.heap.size) (fun i _ => M - (intOf i).toNat)
      case atStart => exact ⟨0, Nat.zero_le _, rfl, by simpa using S1.out, HU.out, K1.out, K2.out, by omega⟩
      case round =>
        obtain ⟨j, hj, rfl, s, hu, ko, kp, hz⟩ := hrel
        clear S1 K1 K2 HU
        by_cases hlt : j < M
        · have hjL : j < L.length := by rw [HM.out]; exact hlt
          have hve := HMv.out (L.getD j (0, 0)) (by rw [List.getD_eq_getElem?_getD, List.getElem?_eq_getElem hjL]; exact List.getElem_mem _)
          have hvm : Vd 10000000000 (huF (x1, x2) (P ++ L.take j)) := by
            rw [huF_app]
            exact huF_vd HVk.out fun y hy => HMv.out y (List.mem_of_mem_take hy)
          obtain ⟨ua', uc', e0, -, -, h4⟩ := id hu
          obtain ⟨g', o', hg', hc⟩ := h4 (by omega)
          have e1 : ua = some ⟨g', o', none⟩ := by rw [(Value.slice.inj e0).1]; exact hg'
          subst e1
          obtain ⟨q1, q2⟩ := SpV.at hc hjL
          obtain ⟨e1, e2, he⟩ : ∃ e1 e2, L.getD j (0, 0) = (e1, e2) := ⟨_, _, rfl⟩
          obtain ⟨m1, m2, hm⟩ : ∃ m1 m2, huF (x1, x2) (P ++ L.take j) = (m1, m2) := ⟨_, _, rfl⟩
          have HS : Hid (huF (x1, x2) (P ++ L.take (j + 1)) = (xmn m1 e1, xmx m2 e2)) := by
            unfold Hid
            rw [take_snoc hjL he, ← List.append_assoc, huF_snoc, hm]
            rfl
          rw [he] at q1 q2 hve
          rw [hm] at s hvm
          simp only at q1 q2 s
          have HH : Hid (∀ w, _) := fun w => xhull_ok m1 m2 e1 e2 w hvm.2.1 hve.2.1
          obtain ⟨c1, f1, z1, c2, f2, z2, c3, f3, z3, -⟩ := s.rules
          have S : Hid (St W wr _) := s
          have HUj : Hid (SpV wr (.slice (some ⟨g', o', none⟩) M uc) L) := hu
          have hg2 := World.block_lt_of_cell? wr _ q1
          simp only at hg2
          clear e0 h4 hg' hc he hm s hu hve hvm c2 f2 c3 f3
          gi_wp2_with fail
          refine (CallsIn.inRound l (callsIn_wide.2 (HH.out _))).mono ?_
          rintro e w4 ⟨rfl, hb4⟩
          have s4 := (S.out.skip (.cells #[Jv e1, Jv e2] 28)).call hb4
          have hb5 := bt (bal wr (.cells #[Jv e1, Jv e2] 28)) hb4
          have z4 := hb5.size
          clear c1 f1 z1 q1 q2
          obtain ⟨c1, f1, z1, -⟩ := s4.rules
          have s5 := s4.set2 (u := Jv (xmn m1 e1)) (v := Jv (xmx m2 e2)) (by simp; omega)
          have S5 : Hid (St W _ _) := s5
          have U5 : Hid (SpV _ _ L) := ((HUj.out.below hb5).set HUn.out hB8 (i := 0) (u := Jv (xmn m1 e1))).set HUn.out hB8 (i := 1) (u := Jv (xmx m2 e2))
          have K5 : Hid (KeepsOthers W' _) := ((ko.trans (ko_below hb5)).trans (KeepsOthers.setCell _ ⟨B5, 0, none⟩ (Jv (xmn m1 e1)))).trans (KeepsOthers.setCell _ ⟨B5, 1, none⟩ (Jv (xmx m2 e2)))
          have P5 : Hid (Kps W.heap.size [w8.heap.size] W' _) := ((kp.trans (Kps.of hb5 S.out.size)).trans (Kps.set _ (B := B5) (by omega) (by simp; omega) (i := 0) (v := Jv (xmn m1 e1)))).trans (Kps.set _ (B := B5) (by omega) (by simp; omega) (i := 1) (v := Jv (xmx m2 e2)))
          clear s4 s5 hb4 hb5 ko kp S HUj
          gi_wp2
          go_roundw
          case rel => exact ⟨j + 1, by omega, by go_num, by rw [HS.out]; exact S5.out, U5.out, K5.out, P5.out, by simp; omega⟩
          case measure => simp [intOf]; omega
        · obtain rfl : j = M := by omega
          gi_wp2
          rw [List.take_of_length_le (by rw [HM.out]; exact Nat.le_refl _), ← HPs.out] at s
          exact ⟨ko.from _, kp, s, hz⟩
  have s3 := s0.drew
  obtain ⟨w3, hw3⟩ : ∃ w3, w2.drew = w3 := ⟨_, rfl⟩
  have hz3 : w3.heap.size = W.heap.size + 1 + 1 := by rw [← hw3]; exact hz2
  rw [hw3] at s3 ⊢
  clear hw3 s0 hz2
  have S3 : Hid (St W w3 [(W.heap.size + 1, #[Jv 0, Jv 0], 28), (W.heap.size, #[.func (.func gf) #[] lb], 79)]) := s3
  clear s3
  refine takeC 0 (v := .func (.func gf) #[] lb) rfl rfl (by kernel_rfl) (by kernel_rfl) (by kernel_rfl) (fun _ _ _ h => h) (fun _ => rfl) rfl (fun w' hw' => by have := cell_box hw'; go_simp) ?_
  refine takeC 1 (v := .pointer (some ⟨q, 0, none⟩)) rfl rfl (by kernel_rfl) (by kernel_rfl) (by kernel_rfl) (fun _ _ _ h => h) (fun _ => rfl) rfl (fun w' hw' => by go_simp) ?_
  have HE0 : Hid (∀ W', Below W.heap.size W W' → Calls Try.prog 46 #[.pointer (some ⟨q, 0, none⟩), Jv 0] W' fun e w' => (∃ u, e = .returned u ∧ OSp w' W'.heap.size u (R 0)) ∧ Below W'.heap.size W' w') := fun W' hb => HE.out W' 0 hb hN0
  have HLD : Hid (∀ (w' : World) (u : Value), SpV w' u (F (R 0)) → ∃ (g o cap : Nat), u = .slice (some ⟨g, o, none⟩) (F (R 0)).length cap ∧ ∀ w'', Below w'.heap.size w' w'' → ∀ (j : Nat) (v : Value), [Value.int .i64 x1, Jv x2][j]? = some v → w''.cell? ((⟨g, o, none⟩ : Addr).add j) = some v) := by
    rintro w' u ⟨a, cap, rfl, -, -, h4⟩
    obtain ⟨g, o, rfl, hc⟩ := h4 (HF.out 0 hN0).1
    refine ⟨g, o, cap, rfl, fun w'' hb j v hj => ?_⟩
    rw [Addr.add_lit]
    have hc0 := hc j v (by rw [HX0.out]; simp only [p2]; exact List.getElem?_append_left (l₂ := p2 l0) (List.getElem?_eq_some_iff.1 hj).1 ▸ hj)
    exact (hb.cell (World.block_lt_of_cell? w' _ hc0)).trans hc0
  have hl0 := (HF.out 0 hN0).1
  refine y2 2 6 S3.out.h2 (by kernel_rfl) ?_ ?_
  -- the ends first
  refine yC rfl rfl 46 #[.pointer (some ⟨q, 0, none⟩), Jv 0] (by kernel_rfl) (HE0.out w3 S3.out.below) ?_
  rintro e w4 ⟨⟨v, rfl, hv4⟩, hb4⟩
  refine ⟨_, rfl, ?_⟩
  have S4 := S3.out.call hb4
  have hz4 := hb4.size
  refine y2 3 6 S4.h2 (by kernel_rfl) ?_ ?_
  -- then what is picked
  refine yC rfl rfl gf (#[v] ++ lb) (by go_simp) (HP.out w4 v 0 0 S4.below hN0 hv4.sv (Nb.zero _) (Nat.zero_le _)) ?_
  rintro e w5 ⟨⟨u, rfl, hu5, -⟩, hb5⟩
  refine ⟨_, rfl, ?_⟩
  have S5 := S4.call hb5
  have hz5 := hb5.size
  obtain ⟨g, o, cap, rfl, hld⟩ := HLD.out w5 u hu5
  refine takeC 4 (v := .pointer (some ⟨g, o, none⟩)) rfl rfl (by kernel_rfl) (by kernel_rfl) (by kernel_rfl) (fun _ _ _ h => h) (fun _ => rfl) rfl (fun w' hw' => by go_simp) ?_
  refine y2 5 6 S5.h2 (by kernel_rfl) ?_ ?_
  -- then the load, then the variable
  refine yO rfl rfl (.agg #[Jv x1, Jv x2]) w5 (run_la 28 (.tmp 13) rfl ⟨g, o, none⟩ (by kernel_rfl) [Jv x1, Jv x2] _ (hld w5 (Below.refl _ _)) Try.underlying28 rfl (by kernel_rfl)) ?_
  refine yR 6 S5.h2 (by kernel_rfl) rfl rfl (.pointer (some ⟨w5.heap.size, 0, none⟩)) (w5.alloc (.cells #[Jv 0, Jv 0] 28)) (by kernel_rfl) ?_
  have S7 := S5.new (c := #[Jv 0, Jv 0]) (t := 28)
  obtain ⟨B5, hB5⟩ : ∃ B5, w5.heap.size = B5 := ⟨_, rfl⟩
  obtain ⟨w7, hw7⟩ : ∃ w7, w5.alloc (.cells #[Jv 0, Jv 0] 28) = w7 := ⟨_, rfl⟩
  rw [hw7, hB5] at S7 ⊢
  have hB2 : W.heap.size + 1 + 1 ≤ B5 := by omega
  clear hw7 hB5 hu5 hv4 hb4 hb5 hld S4 S5 hz4 hz5
  rotate_left
  -- the variable, then the load
  refine yO rfl rfl (.pointer (some ⟨w5.heap.size, 0, none⟩)) (w5.alloc (.cells #[Jv 0, Jv 0] 28)) (by kernel_rfl) ?_
  have S7 := S5.new (c := #[Jv 0, Jv 0]) (t := 28)
  refine yR 5 S7.h3 (by kernel_rfl) rfl rfl (.agg #[Jv x1, Jv x2]) (w5.alloc (.cells #[Jv 0, Jv 0] 28)) (run_la 28 (.tmp 13) rfl ⟨g, o, none⟩ (by kernel_rfl) [Jv x1, Jv x2] _ (hld _ (bal _ _)) Try.underlying28 rfl (by kernel_rfl)) ?_
  obtain ⟨B5, hB5⟩ : ∃ B5, w5.heap.size = B5 := ⟨_, rfl⟩
  obtain ⟨w7, hw7⟩ : ∃ w7, w5.alloc (.cells #[Jv 0, Jv 0] 28) = w7 := ⟨_, rfl⟩
  rw [hw7, hB5] at S7 ⊢
  have hB2 : W.heap.size + 1 + 1 ≤ B5 := by omega
  clear hw7 hB5 hu5 hv4 hb4 hb5 hld S4 S5 hz4 hz5
  rotate_left
  -- the variable ahead of what is picked
  refine yO rfl rfl (.pointer (some ⟨w4.heap.size, 0, none⟩)) (w4.alloc (.cells #[Jv 0, Jv 0] 28)) (by kernel_rfl) ?_
  have S5 := S4.new (c := #[Jv 0, Jv 0]) (t := 28)
  refine yK 3 S5.h3 (by kernel_rfl) rfl rfl gf (#[v] ++ lb) (by go_simp) (HP.out _ v 0 0 S5.below hN0 (hv4.sv.below (bal _ _)) (Nb.zero _) (Nat.zero_le _)) ?_
  rintro e w5 ⟨⟨u, rfl, hu5, -⟩, hb5⟩
  refine ⟨_, rfl, ?_⟩
  have S7 := S5.call hb5
  have hz5 := hb5.size
  obtain ⟨g, o, cap, rfl, hld⟩ := HLD.out w5 u hu5
  refine takeC 4 (v := .pointer (some ⟨g, o, none⟩)) rfl rfl (by kernel_rfl) (by kernel_rfl) (by kernel_rfl) (fun _ _ _ h => h) (fun _ => rfl) rfl (fun w' hw' => by go_simp) ?_
  refine yR 5 S7.h3 (by kernel_rfl) rfl rfl (.agg #[Jv x1, Jv x2]) w5 (run_la 28 (.tmp 13) rfl ⟨g, o, none⟩ (by kernel_rfl) [Jv x1, Jv x2] _ (hld _ (Below.refl _ _)) Try.underlying28 rfl (by kernel_rfl)) ?_
  obtain ⟨B5, hB5⟩ : ∃ B5, w4.heap.size = B5 := ⟨_, rfl⟩
  obtain ⟨w7, hw7⟩ : ∃ w7, w5 = w7 := ⟨_, rfl⟩
  rw [hw7, hB5] at S7
  rw [hw7, hB5]
  have hB2 : W.heap.size + 1 + 1 ≤ B5 := by omega
  clear hw7 hB5 hu5 hv4 hb4 hb5 hld S4 S5 hz4 hz5
  rotate_left
  -- the variable ahead of all
  refine yO rfl rfl (.pointer (some ⟨w3.heap.size, 0, none⟩)) (w3.alloc (.cells #[Jv 0, Jv 0] 28)) (by kernel_rfl) ?_
  have S4 := S3.out.new (c := #[Jv 0, Jv 0]) (t := 28)
  refine yK 2 S4.h3 (by kernel_rfl) rfl rfl 46 #[.pointer (some ⟨q, 0, none⟩), Jv 0] (by kernel_rfl) (HE0.out _ S4.below) ?_
  rintro e w4 ⟨⟨v, rfl, hv4⟩, hb4⟩
  refine ⟨_, rfl, ?_⟩
  have S5 := S4.call hb4
  refine yK 3 S5.h3 (by kernel_rfl) rfl rfl gf (#[v] ++ lb) (by go_simp) (HP.out w4 v 0 0 S5.below hN0 hv4.sv (Nb.zero _) (Nat.zero_le _)) ?_
  rintro e w5 ⟨⟨u, rfl, hu5, -⟩, hb5⟩
  refine ⟨_, rfl, ?_⟩
  have S7 := S5.call hb5
  obtain ⟨g, o, cap, rfl, hld⟩ := HLD.out w5 u hu5
  refine takeC 4 (v := .pointer (some ⟨g, o, none⟩)) rfl rfl (by kernel_rfl) (by kernel_rfl) (by kernel_rfl) (fun _ _ _ h => h) (fun _ => rfl) rfl (fun w' hw' => by go_simp) ?_
  refine yR 5 S7.h3 (by kernel_rfl) rfl rfl (.agg #[Jv x1, Jv x2]) w5 (run_la 28 (.tmp 13) rfl ⟨g, o, none⟩ (by kernel_rfl) [Jv x1, Jv x2] _ (hld _ (Below.refl _ _)) Try.underlying28 rfl (by kernel_rfl)) ?_
  obtain ⟨B5, hB5⟩ : ∃ B5, w3.heap.size = B5 := ⟨_, rfl⟩
  obtain ⟨w7, hw7⟩ : ∃ w7, w5 = w7 := ⟨_, rfl⟩
  rw [hw7, hB5] at S7
  rw [hw7, hB5]
  have hB2 : W.heap.size + 1 + 1 ≤ B5 := by omega
  clear hw7 hB5 hu5 hv4 hb4 hb5 hld S4 S5
  all_goals
    refine yS 7 S7.h3 (by kernel_rfl) rfl rfl 28 (.tmp 5) (.tmp 14) rfl B5 #[Jv x1, Jv x2] (by kernel_rfl) (by kernel_rfl) 28 #[Jv 0, Jv 0] S7.h1 (by kernel_rfl) rfl (by simp [Value.oneCell']) ?_
    have S8 := S7.rowset (c' := #[Jv x1, Jv x2]) (by simp; omega)
    obtain ⟨w8, hw8⟩ : ∃ w8, w7.setRow B5 #[Jv x1, Jv x2] = w8 := ⟨_, rfl⟩
    rw [hw8] at S8 ⊢
    exact doneM S8.h3 (by kernel_rfl) ⟨v, g, o, cap, B5, by kernel_rfl, hB2, S8⟩ _
end Go.Proofs.Ytcphealigifdiaa
