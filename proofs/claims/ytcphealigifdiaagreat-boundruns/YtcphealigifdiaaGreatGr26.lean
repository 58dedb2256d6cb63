/- What the document's Total of layer 13 returns. What the document's Part and Product of layer 13 return. What the document's Find of layer 10 returns: the op that is asked, with its shapes; the error. -/
import Derived.Test.YtcphealigifdiaaGreatGr21
import Derived.Test.YtcphealigifdiaaGreatGr25
/- What the document's Total of layer 13 returns. -/
namespace Go.Proofs.YtcphealigifdiaaGreat
open Go.ChangeShapes Go.WideShapes Go.ChangeAt Go.RowKit
set_option linter.unusedVariables false
theorem own_mid {w w' : World} {lo hi n size : Nat} {e : TypeId} {v : Value} {xs : List Value} (h : w.ownsRow lo e size v n xs) (hm : Mid lo hi w w') (hz : w.heap.size ≤ hi) : w'.ownsRow lo e size v n xs := by
  refine ⟨h.1, ?_⟩
  rcases h.2 with q | ⟨g, cap, cur, h1, h2, h3, h4⟩
  · exact .inl q
  · exact .inr ⟨g, cap, cur, h1, h2, hm g h2 (Nat.lt_of_lt_of_le (lt_of_heap h3) hz) _ _ h3, h4⟩
/-- The rows by name. -/
def RwU (w : World) (lo : Nat) (v : Value) (R : Nat → List (Int × Int)) (N : Nat) (us : List Value) : Prop := us.length = N ∧ w.ownsRow lo 58 1 v N us ∧ ∀ j, j < N → OSp w lo (us.getD j undef) (R j)
theorem RwU.mid {w w' : World} {lo hi : Nat} {v : Value} {R : Nat → List (Int × Int)} {N : Nat} {us : List Value} (h : RwU w lo v R N us) (hm : Mid lo hi w w') (hz : w.heap.size ≤ hi) : RwU w' lo v R N us :=
  ⟨h.1, own_mid h.2.1 hm hz, fun j hj => own_mid (h.2.2 j hj) hm hz⟩
theorem RwU.at {w : World} {lo : Nat} {v : Value} {R : Nat → List (Int × Int)} {N : Nat} {us : List Value} (h : RwU w lo v R N us) {k : Nat} (hk : k < N) : ∃ g cap, v = .slice (some ⟨g, 0, none⟩) N cap ∧ w.cell? ⟨g, k, none⟩ = some (us.getD k undef) ∧ N ≤ cap ∧ cap ≤ maxLen := by
  obtain ⟨h1, h2, h3⟩ := h
  rcases h2.2 with ⟨-, q⟩ | ⟨g, cap, cur, rfl, -, hg, hc, hm, hcs, hcu⟩
  · omega
  · refine ⟨g, cap, rfl, ?_, hc, hm⟩
    rw [(cells_at hg).1]
    have e : (cur.toList.take (N * 1))[k]? = us[k]? := by rw [hcu]
    rw [List.getElem?_take, if_pos (by omega), List.getElem?_eq_getElem (by omega : k < us.length)] at e
    rw [List.getD_eq_getElem?_getD, List.getElem?_eq_getElem (by omega : k < us.length)]
    simpa using e
theorem St.put1 {w0 w w' : World} {B : Nat} {c c' : Array Value} {t : TypeId} {l : List (Nat × Array Value × TypeId)} (h : St w0 w ((B, c, t) :: l)) (g : w.grownBy w' (some B)) (hB : w'.heap[B]? = some (.cells c' t (0, 0))) (hl : ∀ x ∈ l, x.1 ≠ B) : St w0 w' ((B, c', t) :: l) := by
  have h0 := (h.2 _ List.mem_cons_self).2
  refine ⟨h.1.grown g h.1.size (fun b e => by cases e; exact h0), fun x hx => ?_⟩
  rcases List.mem_cons.1 hx with rfl | hx
  · exact ⟨hB, h0⟩
  · have := h.2 x (List.mem_cons_of_mem _ hx)
    exact ⟨(g.block x.1 (lt_of_heap this.1) (fun e => hl x hx (by simpa using e))).trans this.1, this.2⟩
set_option maxRecDepth 100000 in
set_option maxHeartbeats 8000000 in
theorem rtot_any (k a b m kh kw sh sw tp lf bt rt : Int) (wa : Option Addr) (lw wc : Nat) (ba : Option Addr) (lb bc : Nat) (sm ss um us z p lo hi h w c H V C : Int) (W : World) (ch slo shi bi : Int) (R : Nat → List (Int × Int)) (N : Nat) (hN : N ≤ 10000000) (hR : ∀ j, Rb (R j) ∧ (R j).length ≤ 512) (hRw : ∀ W', Below W.heap.size W W' → Calls Tryz.prog 25 #[.agg #[Jv k, Jv a, Jv b, Jv m, Jv kh, Jv kw, Jv sh, Jv sw, Jv tp, Jv lf, Jv bt, Jv rt, .slice wa lw wc, .slice ba lb bc, Jv sm, Jv ss, Jv um, Jv us, Jv z, Jv p, Jv lo, Jv hi, Jv h, Jv w, Jv c, Jv H, Jv V, Jv C], Jv ch, .agg #[Jv slo, Jv shi]] W' fun e w' => (∃ v, e = .returned v ∧ RwO w' W'.heap.size v R N) ∧ Below W'.heap.size W' w') (hbi : -2147483648 ≤ bi ∧ bi ≤ 2147483647) (hBg : ∀ W', Below W.heap.size W W' → Calls Tryz.prog 26 #[.agg #[Jv k, Jv a, Jv b, Jv m, Jv kh, Jv kw, Jv sh, Jv sw, Jv tp, Jv lf, Jv bt, Jv rt, .slice wa lw wc, .slice ba lb bc, Jv sm, Jv ss, Jv um, Jv us, Jv z, Jv p, Jv lo, Jv hi, Jv h, Jv w, Jv c, Jv H, Jv V, Jv C], Jv ch] W' fun e w' => e = .returned (.agg #[Jv bi, Jv bi]) ∧ Below W'.heap.size W' w') :
    Calls Tryz.prog 10 #[.agg #[Jv k, Jv a, Jv b, Jv m, Jv kh, Jv kw, Jv sh, Jv sw, Jv tp, Jv lf, Jv bt, Jv rt, .slice wa lw wc, .slice ba lb bc, Jv sm, Jv ss, Jv um, Jv us, Jv z, Jv p, Jv lo, Jv hi, Jv h, Jv w, Jv c, Jv H, Jv V, Jv C], Jv ch, .agg #[Jv slo, Jv shi]] W fun e w' => e = .returned (.agg #[Jv (hbT bi R N).1, Jv (hbT bi R N).2]) ∧ Below W.heap.size W w' := by
  have HRw : Hid (∀ W', Below W.heap.size W W' → _) := hRw
  have HBg : Hid (∀ W', Below W.heap.size W W' → _) := hBg
  have HV : Hid (∀ k j, Vd 10000000000 (suS (bi, bi) ((R k).take j))) := fun k j => suS_vd ((hR k).1.take j) (by rw [List.length_take]; have := (hR k).2; omega) (vd_bi hbi)
  have HE : Hid (∀ k j, j < (R k).length → Vd 10000000000 ((R k).getD j (0, 0))) := fun k j hj => by
    rw [List.getD_eq_getElem?_getD, List.getElem?_eq_getElem hj]
    exact (hR k).1.vd _ (List.getElem_mem _)
  have HLn : Hid (∀ k, (R k).length ≤ 512) := fun k => (hR k).2
  have HPs : Hid (∀ k, piT (fun E => [suS (bi, bi) E]) R (k + 1) = piT (fun E => [suS (bi, bi) E]) R k ++ [suS (bi, bi) (R k)]) := fun k => piT_succ _ R k
  have HRes : Hid (hbT bi R N = huA (piT (fun E => [suS (bi, bi) E]) R N)) := rfl
  have s0 := ((((St.start W).new (c := #[Jv k, Jv a, Jv b, Jv m, Jv kh, Jv kw, Jv sh, Jv sw, Jv tp, Jv lf, Jv bt, Jv rt, .slice wa lw wc, .slice ba lb bc, Jv sm, Jv ss, Jv um, Jv us, Jv z, Jv p, Jv lo, Jv hi, Jv h, Jv w, Jv c, Jv H, Jv V, Jv C]) (t := 44)).new (c := #[Jv slo, Jv shi]) (t := 28)).new (c := #[Jv 0, Jv 0]) (t := 28)).new (c := huV []) (t := 65)
  simp only [World.size_alloc] at s0
  have S0 : Hid (St W _ ((W.heap.size + 1 + 1 + 1, huV [], 65) :: [(W.heap.size + 1 + 1, #[Jv 0, Jv 0], 28), (W.heap.size + 1, #[Jv slo, Jv shi], 28), (W.heap.size, #[Jv k, Jv a, Jv b, Jv m, Jv kh, Jv kw, Jv sh, Jv sw, Jv tp, Jv lf, Jv bt, Jv rt, .slice wa lw wc, .slice ba lb bc, Jv sm, Jv ss, Jv um, Jv us, Jv z, Jv p, Jv lo, Jv hi, Jv h, Jv w, Jv c, Jv H, Jv V, Jv C], 44)])) := s0
  clear hRw hBg hR hbi s0
  go_enter Tryz.func10, Tryz.ntmps10
  go_upto_region 2 with fail
  rw [← huV_0]
  obtain ⟨w4, hw4⟩ : ∃ w4, (((W.alloc (.cells #[Jv k, Jv a, Jv b, Jv m, Jv kh, Jv kw, Jv sh, Jv sw, Jv tp, Jv lf, Jv bt, Jv rt, .slice wa lw wc, .slice ba lb bc, Jv sm, Jv ss, Jv um, Jv us, Jv z, Jv p, Jv lo, Jv hi, Jv h, Jv w, Jv c, Jv H, Jv V, Jv C] 44)).alloc (.cells #[Jv slo, Jv shi] 28)).alloc (.cells #[Jv 0, Jv 0] 28)).alloc (.cells (huV []) 65) = w4 := ⟨_, rfl⟩
  have hz4 : w4.heap.size = W.heap.size + 1 + 1 + 1 + 1 := by rw [← hw4]; simp
  rw [hw4] at S0 ⊢
  clear hw4
  obtain ⟨-, -, -, -, -, -, c3, f3, z3, -⟩ := S0.out.rules
  go_wp2_with (refine wpList_load_row rfl 44 (.tmp 3) rfl W.heap.size rfl 44 _ (0, 0) _ S0.out.h4 Tryz.underlying44 rfl (by kernel_rfl) ?_)
  refine Calls.mono (HRw.out _ S0.out.below) ?_
  rintro e w5 ⟨⟨v, rfl, hrw⟩, hb5⟩
  obtain ⟨va, vc, hve⟩ := hrw.slice
  obtain ⟨us', hus⟩ := hrw
  have RO : Hid (RwU w5 w4.heap.size v R N us') := hus
  subst hve
  have S5 : Hid (St W w5 ((W.heap.size + 1 + 1 + 1, huV [], 65) :: [(W.heap.size + 1 + 1, #[Jv 0, Jv 0], 28), (W.heap.size + 1, #[Jv slo, Jv shi], 28), (W.heap.size, #[Jv k, Jv a, Jv b, Jv m, Jv kh, Jv kw, Jv sh, Jv sw, Jv tp, Jv lf, Jv bt, Jv rt, .slice wa lw wc, .slice ba lb bc, Jv sm, Jv ss, Jv um, Jv us, Jv z, Jv p, Jv lo, Jv hi, Jv h, Jv w, Jv c, Jv H, Jv V, Jv C], 44)])) := S0.out.call hb5
  have hz5 := hb5.size
  obtain ⟨lo', hlo⟩ : ∃ x, w4.heap.size = x := ⟨_, rfl⟩
  obtain ⟨hi', hhi⟩ : ∃ x, w5.heap.size = x := ⟨_, rfl⟩
  have HHi : Hid (w5.heap.size = hi') := hhi
  rw [hlo] at RO hz4 hz5
  rw [hhi] at hz5
  clear hus hb5 S0 c3 f3 z3 HRw hlo hhi
  go_wp2
  go_loopw [18] (fun i wr => ∃ k' : Nat, k' ≤ N ∧ i = Jv k' ∧ St W wr ((W.heap.size + 1 + 1 + 1, huV (piT (fun E => [suS (bi, bi) E]) R k'), 65) :: [(W.heap.size + 1 + 1, #[Jv 0, Jv 0], 28), (W.heap.size + 1, #[Jv slo, Jv shi], 28), (W.heap.size, #[Jv k, Jv a, Jv b, Jv m, Jv kh, Jv kw, Jv sh, Jv sw, Jv tp, Jv lf, Jv bt, Jv rt, .slice wa lw wc, .slice ba lb bc, Jv sm, Jv ss, Jv um, Jv us, Jv z, Jv p, Jv lo, Jv hi, Jv h, Jv w, Jv c, Jv H, Jv V, Jv C], 44)]) ∧ Mid lo' hi' w5 wr ∧ hi' ≤ wr.heap.size) (fun i _ => N - (intOf i).toNat)
  case atStart => exact ⟨0, Nat.zero_le _, rfl, by simpa [piT] using S5.out, Mid.refl _ _ _, by rw [HHi.out]; exact Nat.le_refl _⟩
  case round =>
    obtain ⟨y, hy, rfl, s, hm, hz⟩ := hrel
    clear S5
    have S : Hid (St W wr _) := s
    have HMd : Hid (Mid lo' hi' w5 wr) := hm
    by_cases hlt : y < N
    · obtain ⟨g, cap, e0, hcu, hc1, hc2⟩ := (RO.out.mid hm (by rw [HHi.out]; exact Nat.le_refl _)).at hlt
      have hou := (RO.out.mid hm (by rw [HHi.out]; exact Nat.le_refl _)).2.2 y hlt
      have HOy : Hid (∀ w', Mid lo' hi' w5 w' → OSp w' lo' (us'.getD y undef) (R y)) := fun w' hm' => (RO.out.mid hm' (by rw [HHi.out]; exact Nat.le_refl _)).2.2 y hlt
      obtain ⟨u, hu0⟩ : ∃ u, us'.getD y undef = u := ⟨_, rfl⟩
      rw [hu0] at hcu hou HOy
      obtain ⟨M, hM⟩ : ∃ M, (R y).length = M := ⟨_, rfl⟩
      have HM : Hid ((R y).length = M) := hM
      obtain ⟨ua, uc, hue⟩ := hou.slice
      rw [hM] at hue
      subst hue
      have e1 : va = some ⟨g, 0, none⟩ := (Value.slice.inj e0).1
      subst e1
      have hM5 : M ≤ 512 := by rw [← hM]; exact HLn.out y
      clear hou hM s hm hc1 hc2 hu0
      go_upto_region 5 with fail
      go_wp2_with (refine wpList_load_row rfl 44 (.tmp 3) rfl W.heap.size rfl 44 _ (0, 0) _ S.out.h4 Tryz.underlying44 rfl (by kernel_rfl) ?_)
      refine Calls.mono (HBg.out _ S.out.below) ?_
      rintro e w6 ⟨rfl, hb6⟩
      have s7 := (S.out.call hb6).new (c := #[Jv bi, Jv bi]) (t := 28)
      have hz6 := hb6.size
      have M7 : Mid lo' hi' w5 (w6.alloc (.cells #[Jv bi, Jv bi] 28)) := (HMd.out.trans (Mid.later hb6)).trans (Mid.later (bal _ _))
      obtain ⟨Bs, hBs⟩ : ∃ B, w6.heap.size = B := ⟨_, rfl⟩
      obtain ⟨w7, hw7⟩ : ∃ w7, w6.alloc (.cells #[Jv bi, Jv bi] 28) = w7 := ⟨_, rfl⟩
      go_upto_region 6 with fail
      rw [hw7] at s7 M7
      rw [hBs] at s7 hz6
      have hz7 : w7.heap.size = Bs + 1 := by rw [← hw7, ← hBs]; simp
      have S7 : Hid (St W w7 ((Bs, #[Jv bi, Jv bi], 28) :: (W.heap.size + 1 + 1 + 1, huV (piT (fun E => [suS (bi, bi) E]) R y), 65) :: [(W.heap.size + 1 + 1, #[Jv 0, Jv 0], 28), (W.heap.size + 1, #[Jv slo, Jv shi], 28), (W.heap.size, #[Jv k, Jv a, Jv b, Jv m, Jv kh, Jv kw, Jv sh, Jv sw, Jv tp, Jv lf, Jv bt, Jv rt, .slice wa lw wc, .slice ba lb bc, Jv sm, Jv ss, Jv um, Jv us, Jv z, Jv p, Jv lo, Jv hi, Jv h, Jv w, Jv c, Jv H, Jv V, Jv C], 44)])) := s7
      have HM7 : Hid (Mid lo' hi' w5 w7) := M7
      have hBs2 : hi' ≤ Bs := by omega
      clear hw7 hBs s7 M7 hb6 S HMd hcu
      go_wp2
      go_loopw [27] (fun i w' => ∃ j : Nat, j ≤ M ∧ i = Jv j ∧ St W w' ((Bs, #[Jv (suS (bi, bi) ((R y).take j)).1, Jv (suS (bi, bi) ((R y).take j)).2], 28) :: (W.heap.size + 1 + 1 + 1, huV (piT (fun E => [suS (bi, bi) E]) R y), 65) :: [(W.heap.size + 1 + 1, #[Jv 0, Jv 0], 28), (W.heap.size + 1, #[Jv slo, Jv shi], 28), (W.heap.size, #[Jv k, Jv a, Jv b, Jv m, Jv kh, Jv kw, Jv sh, Jv sw, Jv tp, Jv lf, Jv bt, Jv rt, .slice wa lw wc, .slice ba lb bc, Jv sm, Jv ss, Jv um, Jv us, Jv z, Jv p, Jv lo, Jv hi, Jv h, Jv w, Jv c, Jv H, Jv V, Jv C], 44)]) ∧ Mid lo' hi' w5 w' ∧ hi' ≤ w'.heap.size) (fun i _ => M - (intOf i).toNat)
      case atStart => exact ⟨0, Nat.zero_le _, rfl, by simpa [suS] using S7.out, HM7.out, by omega⟩
      case round =>
        obtain ⟨j, hj, rfl, s, hm, hz'⟩ := hrel
        clear S7 HM7
        by_cases hjl : j < M
        · have hsp := (HOy.out wr hm).sv
          have hjL : j < (R y).length := by rw [HM.out]; exact hjl
          have hve := HE.out y j hjL
          have hvm := HV.out y j
          obtain ⟨a9, c9, e9, -, -, h9⟩ := hsp
          obtain ⟨g9, o9, hg9, hc9⟩ := h9 (by omega)
          have e10 : ua = some ⟨g9, o9, none⟩ := by rw [(Value.slice.inj e9).1]; exact hg9
          subst e10
          obtain ⟨q1, q2⟩ := SpV.at hc9 hjL
          obtain ⟨e1, e2, he⟩ : ∃ e1 e2, (R y).getD j (0, 0) = (e1, e2) := ⟨_, _, rfl⟩
          obtain ⟨m1, m2, hmm⟩ : ∃ m1 m2, suS (bi, bi) ((R y).take j) = (m1, m2) := ⟨_, _, rfl⟩
          have HS : Hid (suS (bi, bi) ((R y).take (j + 1)) = (m1 + e1, m2 + e2)) := by unfold Hid; rw [suS_take _ hjL he, hmm]; rfl
          rw [he] at q1 q2 hve
          rw [hmm] at s hvm
          simp only at q1 q2 s
          have HP : Hid (∀ w, _) := fun w => rplus_any (m1, m2) (e1, e2) w hvm hve
          have S : Hid (St W wr _) := s
          have HMd : Hid (Mid lo' hi' w5 wr) := hm
          obtain ⟨c1, f1, z1, -⟩ := s.rules
          clear e9 h9 hg9 hc9 he hmm s hm hve hvm
          go_wp2_with fail
          refine Calls.mono (HP.out _) ?_
          rintro e w8 ⟨rfl, hb8⟩
          have hb9 := (bal wr (.cells #[Jv e1, Jv e2] 28)).trans (hb8.mono (by simp))
          have s9 := S.out.call hb9
          have z9 := hb9.size
          clear c1 f1 z1 q1 q2
          obtain ⟨c1, f1, z1, -⟩ := s9.rules
          have S9 : Hid (St W _ _) := s9.set2 (u := Jv (m1 + e1)) (v := Jv (m2 + e2)) (by simp; omega)
          have M9 : Hid (Mid lo' hi' w5 _) := ((HMd.out.trans (Mid.later hb9)).trans (Mid.set _ (B := Bs) (i := 0) (v := Jv (m1 + e1)) (.inr hBs2))).trans (Mid.set _ (B := Bs) (i := 1) (v := Jv (m2 + e2)) (.inr hBs2))
          simp only [plS]
          clear s9 hb8 hb9 S HMd HP
          go_wp2
          go_roundw
          case rel => exact ⟨j + 1, by omega, by go_num, by rw [HS.out]; exact S9.out, M9.out, by simp; omega⟩
          case measure => simp [intOf]; omega
        · obtain rfl : j = M := by omega
          rw [List.take_of_length_le (by rw [HM.out]; exact Nat.le_refl _)] at s
          have hnew := HPs.out y
          have hlh : ∀ x ∈ ((Bs, #[Jv (suS (bi, bi) (R y)).1, Jv (suS (bi, bi) (R y)).2], 28) :: [(W.heap.size + 1 + 1, #[Jv 0, Jv 0], 28), (W.heap.size + 1, #[Jv slo, Jv shi], 28), (W.heap.size, #[Jv k, Jv a, Jv b, Jv m, Jv kh, Jv kw, Jv sh, Jv sw, Jv tp, Jv lf, Jv bt, Jv rt, .slice wa lw wc, .slice ba lb bc, Jv sm, Jv ss, Jv um, Jv us, Jv z, Jv p, Jv lo, Jv hi, Jv h, Jv w, Jv c, Jv H, Jv V, Jv C], 44)] : List (Nat × Array Value × TypeId)), x.1 ≠ W.heap.size + 1 + 1 + 1 := by simp; omega
          have HTk : Hid _ := rtake_any (W.heap.size + 1 + 1 + 1) (piT (fun E => [suS (bi, bi) E]) R y) (suS (bi, bi) (R y)) wr s.h2
          rw [← hnew] at HTk
          have SS : Hid (St W wr _) := s.up1
          have HMd : Hid (Mid lo' hi' w5 wr) := hm
          obtain ⟨q1, q2, hq⟩ : ∃ q1 q2, suS (bi, bi) (R y) = (q1, q2) := ⟨_, _, rfl⟩
          rw [hq] at s HTk SS hlh
          simp only at s HTk SS hlh
          obtain ⟨c1, f1, z1, c2, f2, z2, -⟩ := s.rules
          clear s hm hq hnew
          go_wp2_with fail
          refine Calls.mono HTk.out ?_
          rintro e w8 ⟨⟨vv, rfl⟩, gr, hB8⟩
          have S8 : Hid (St W w8 _) := (SS.out.put1 gr hB8 hlh).up1.tail
          have M8 : Hid (Mid lo' hi' w5 w8) := HMd.out.trans (Mid.grown gr (fun b e => by cases e; omega))
          have hz8 := gr.size
          clear SS HMd gr hB8 c1 f1 c2 f2 z1 z2 HTk
          go_wp2
          go_roundw
          case rel => exact ⟨y + 1, by omega, by go_num, S8.out, M8.out, by omega⟩
          case measure => simp [intOf]; omega
    · obtain rfl : y = N := by omega
      obtain ⟨c1, f1, z1, c2, f2, z2, -⟩ := s.rules
      have HB : Hid (Below W.heap.size W _) := s.tail.out2 (i := 0) (j := 1) (u := Jv (hbT bi R y).1) (v := Jv (hbT bi R y).2)
      unfold huV at c1
      rw [← HRes.out] at c1
      obtain ⟨m1, m2, hmm⟩ : ∃ m1 m2, hbT bi R y = (m1, m2) := ⟨_, _, rfl⟩
      have HMM : Hid (hbT bi R y = (m1, m2)) := hmm
      rw [hmm] at c1 HB
      simp only at c1 HB
      clear s hm S hmm
      go_wp2
      exact bodyPost_ret (v := .agg #[Jv m1, Jv m2]) (by simp [results, Tryz.results10, go_sem, c2]) rfl ⟨by rw [HMM.out], HB.out⟩
end Go.Proofs.YtcphealigifdiaaGreat

/- What the document's Part and Product of layer 13 return. -/
namespace Go.Proofs.YtcphealigifdiaaGreat
open Go.ChangeShapes Go.WideShapes Go.ChangeAt Go.RowKit
set_option linter.unusedVariables false
/-- The sum ahead of the j-th term. -/
def psT (d : Nat) (E : List (Int × Int)) (j : Nat) : Int × Int := if j = 0 then (0, 0) else psm d E (j - 1)
def paI (d : Nat) (E : List (Int × Int)) (j : Nat) : List (Int × Int) := (List.range j).flatMap fun i => [psm d E i, E.getD i (0, 0)]
theorem paI_succ (d : Nat) (E : List (Int × Int)) (j : Nat) : paI d E (j + 1) = paI d E j ++ [psm d E j] ++ [E.getD j (0, 0)] := by unfold paI; rw [List.range_succ, List.flatMap_append]; simp
theorem psT_succ (d : Nat) (E : List (Int × Int)) (j : Nat) : psT d E (j + 1) = psm d E j := by unfold psT; rw [if_neg (by omega)]; rfl
theorem psm_zero {d : Nat} {E : List (Int × Int)} {j : Nat} (hd : 0 < d) (hj : j < E.length) (h : j % d = 0) {e : Int × Int} (he : E.getD j (0, 0) = e) : psm d E j = plS (0, 0) e := by
  unfold psm
  have e1 : j / d * d = j := by have := Nat.div_add_mod j d; rw [h, Nat.mul_comm] at this; omega
  rw [e1, h, suS_take (0, 0) (d := (0, 0)) (e := e) (by rw [List.length_drop]; omega) (by rw [List.getD_eq_getElem?_getD, List.getElem?_drop, Nat.add_zero, ← List.getD_eq_getElem?_getD, he])]
  simp [suS]
theorem psm_more {d : Nat} {E : List (Int × Int)} {j : Nat} (hd : 0 < d) (hj : j < E.length) (h : j % d ≠ 0) {e : Int × Int} (he : E.getD j (0, 0) = e) : psm d E j = plS (psT d E j) e := by
  have h0 : j ≠ 0 := fun q => h (by rw [q]; exact Nat.zero_mod d)
  have hm := Nat.mod_lt j hd
  have hdm := Nat.div_add_mod j d
  have e1 : (j - 1) / d = j / d := by
    have : j - 1 = d * (j / d) + (j % d - 1) := by omega
    rw [this, Nat.mul_add_div hd, Nat.div_eq_of_lt (show j % d - 1 < d by omega), Nat.add_zero]
  have e2 : (j - 1) % d + 1 = j % d := by
    have : j - 1 = d * (j / d) + (j % d - 1) := by omega
    rw [this, Nat.mul_add_mod, Nat.mod_eq_of_lt (show j % d - 1 < d by omega)]
    omega
  unfold psT
  rw [if_neg h0]
  unfold psm
  rw [e1, e2]
  rw [Nat.mul_comm] at hdm
  exact suS_take (0, 0) (d := (0, 0)) (by rw [List.length_drop]; omega) (by rw [List.getD_eq_getElem?_getD, List.getElem?_drop, hdm, ← List.getD_eq_getElem?_getD, he])
theorem mem_paI {d : Nat} {E : List (Int × Int)} {x : Int × Int} (hd : 0 < d) : x ∈ paI d E E.length ↔ x ∈ paL d E ++ E := by
  unfold paI
  rw [List.mem_append, mem_paL hd]
  simp only [List.mem_flatMap, List.mem_range, List.mem_cons, List.not_mem_nil, or_false]
  constructor
  · rintro ⟨i, hi, rfl | rfl⟩
    · exact .inl ⟨i, hi, rfl⟩
    · refine .inr ?_
      rw [List.getD_eq_getElem?_getD, List.getElem?_eq_getElem hi]
      exact List.getElem_mem _
  · rintro (⟨i, hi, rfl⟩ | h)
    · exact ⟨i, hi, .inl rfl⟩
    · obtain ⟨i, hi, rfl⟩ := List.mem_iff_getElem.1 h
      exact ⟨i, hi, .inr (by rw [List.getD_eq_getElem?_getD, List.getElem?_eq_getElem hi]; rfl)⟩
theorem hbD_eq {d : Nat} (hd : 0 < d) {R : Nat → List (Int × Int)} {N : Nat} (hN : 0 < N) (h0 : 0 < (R 0).length) : huA (piT (fun E => paI d E E.length) R N) = hbD d R N := by
  refine huA_eq (fun e => ?_) fun x => ?_
  · have : (R 0).getD 0 (0, 0) ∈ piT (fun E => paI d E E.length) R N := mem_piT.2 ⟨0, hN, (mem_paI hd).2 (List.mem_append_right _ (by rw [List.getD_eq_getElem?_getD, List.getElem?_eq_getElem h0]; exact List.getElem_mem _))⟩
    rw [e] at this; cases this
  · rw [mem_piT, mem_piT]
    exact ⟨fun ⟨k, hk, hx⟩ => ⟨k, hk, (mem_paI hd).1 hx⟩, fun ⟨k, hk, hx⟩ => ⟨k, hk, (mem_paI hd).2 hx⟩⟩
theorem psT_vd {E : List (Int × Int)} {d : Nat} (hE : Rb E) (hl : E.length ≤ 512) (j : Nat) : Vd 10000000000 (psT d E j) := by
  unfold psT
  split
  · unfold Vd; simp
  · exact psm_vd hE hl
set_option maxRecDepth 100000 in
set_option maxHeartbeats 8000000 in
theorem rprt_any (k a b m kh kw sh sw tp lf bt rt : Int) (wa : Option Addr) (lw wc : Nat) (ba : Option Addr) (lb bc : Nat) (sm ss um us z p lo hi h w c H V C : Int) (W : World) (ch slo shi bi : Int) (R : Nat → List (Int × Int)) (N : Nat) (hN : N ≤ 10000000) (hR : ∀ j, Rb (R j) ∧ (R j).length ≤ 512) (hRw : ∀ W', Below W.heap.size W W' → Calls Tryz.prog 25 #[.agg #[Jv k, Jv a, Jv b, Jv m, Jv kh, Jv kw, Jv sh, Jv sw, Jv tp, Jv lf, Jv bt, Jv rt, .slice wa lw wc, .slice ba lb bc, Jv sm, Jv ss, Jv um, Jv us, Jv z, Jv p, Jv lo, Jv hi, Jv h, Jv w, Jv c, Jv H, Jv V, Jv C], Jv ch, .agg #[Jv slo, Jv shi]] W' fun e w' => (∃ v, e = .returned v ∧ RwO w' W'.heap.size v R N) ∧ Below W'.heap.size W' w') (d : Nat) (hd : 0 < d) (hd2 : d ≤ 512) (hN0 : 0 < N) (h00 : 0 < (R 0).length) :
    Calls Tryz.prog 16 #[.agg #[Jv k, Jv a, Jv b, Jv m, Jv kh, Jv kw, Jv sh, Jv sw, Jv tp, Jv lf, Jv bt, Jv rt, .slice wa lw wc, .slice ba lb bc, Jv sm, Jv ss, Jv um, Jv us, Jv z, Jv p, Jv lo, Jv hi, Jv h, Jv w, Jv c, Jv H, Jv V, Jv C], Jv ch, .agg #[Jv slo, Jv shi], Jv (d : Int)] W fun e w' => e = .returned (.agg #[Jv (hbD d R N).1, Jv (hbD d R N).2]) ∧ Below W.heap.size W w' := by
  have HRw : Hid (∀ W', Below W.heap.size W W' → _) := hRw
  have HV : Hid (∀ k j, Vd 10000000000 (psT d (R k) j)) := fun k j => psT_vd (hR k).1 (hR k).2 j
  have HE : Hid (∀ k j, j < (R k).length → Vd 10000000000 ((R k).getD j (0, 0))) := fun k j hj => by
    rw [List.getD_eq_getElem?_getD, List.getElem?_eq_getElem hj]
    exact (hR k).1.vd _ (List.getElem_mem _)
  have HLn : Hid (∀ k, (R k).length ≤ 512) := fun k => (hR k).2
  have HPs : Hid (∀ k, piT (fun E => paI d E E.length) R (k + 1) = piT (fun E => paI d E E.length) R k ++ paI d (R k) (R k).length) := fun k => piT_succ _ R k
  have HRes : Hid (hbD d R N = huA (piT (fun E => paI d E E.length) R N)) := (hbD_eq hd hN0 h00).symm
  have s0 := ((((St.start W).new (c := #[Jv k, Jv a, Jv b, Jv m, Jv kh, Jv kw, Jv sh, Jv sw, Jv tp, Jv lf, Jv bt, Jv rt, .slice wa lw wc, .slice ba lb bc, Jv sm, Jv ss, Jv um, Jv us, Jv z, Jv p, Jv lo, Jv hi, Jv h, Jv w, Jv c, Jv H, Jv V, Jv C]) (t := 44)).new (c := #[Jv slo, Jv shi]) (t := 28)).new (c := #[Jv 0, Jv 0]) (t := 28)).new (c := huV []) (t := 65)
  simp only [World.size_alloc] at s0
  have S0 : Hid (St W _ ((W.heap.size + 1 + 1 + 1, huV [], 65) :: [(W.heap.size + 1 + 1, #[Jv 0, Jv 0], 28), (W.heap.size + 1, #[Jv slo, Jv shi], 28), (W.heap.size, #[Jv k, Jv a, Jv b, Jv m, Jv kh, Jv kw, Jv sh, Jv sw, Jv tp, Jv lf, Jv bt, Jv rt, .slice wa lw wc, .slice ba lb bc, Jv sm, Jv ss, Jv um, Jv us, Jv z, Jv p, Jv lo, Jv hi, Jv h, Jv w, Jv c, Jv H, Jv V, Jv C], 44)])) := s0
  clear hRw hR s0 hN0 h00
  go_enter Tryz.func16, Tryz.ntmps16
  go_upto_region 2 with fail
  rw [← huV_0]
  obtain ⟨w4, hw4⟩ : ∃ w4, (((W.alloc (.cells #[Jv k, Jv a, Jv b, Jv m, Jv kh, Jv kw, Jv sh, Jv sw, Jv tp, Jv lf, Jv bt, Jv rt, .slice wa lw wc, .slice ba lb bc, Jv sm, Jv ss, Jv um, Jv us, Jv z, Jv p, Jv lo, Jv hi, Jv h, Jv w, Jv c, Jv H, Jv V, Jv C] 44)).alloc (.cells #[Jv slo, Jv shi] 28)).alloc (.cells #[Jv 0, Jv 0] 28)).alloc (.cells (huV []) 65) = w4 := ⟨_, rfl⟩
  have hz4 : w4.heap.size = W.heap.size + 1 + 1 + 1 + 1 := by rw [← hw4]; simp
  rw [hw4] at S0 ⊢
  clear hw4
  obtain ⟨-, -, -, -, -, -, c3, f3, z3, -⟩ := S0.out.rules
  go_wp2_with (refine wpList_load_row rfl 44 (.tmp 4) rfl W.heap.size rfl 44 _ (0, 0) _ S0.out.h4 Tryz.underlying44 rfl (by kernel_rfl) ?_)
  refine Calls.mono (HRw.out _ S0.out.below) ?_
  rintro e w5 ⟨⟨v, rfl, hrw⟩, hb5⟩
  obtain ⟨va, vc, hve⟩ := hrw.slice
  obtain ⟨us', hus⟩ := hrw
  have RO : Hid (RwU w5 w4.heap.size v R N us') := hus
  subst hve
  have S5 : Hid (St W w5 ((W.heap.size + 1 + 1 + 1, huV [], 65) :: [(W.heap.size + 1 + 1, #[Jv 0, Jv 0], 28), (W.heap.size + 1, #[Jv slo, Jv shi], 28), (W.heap.size, #[Jv k, Jv a, Jv b, Jv m, Jv kh, Jv kw, Jv sh, Jv sw, Jv tp, Jv lf, Jv bt, Jv rt, .slice wa lw wc, .slice ba lb bc, Jv sm, Jv ss, Jv um, Jv us, Jv z, Jv p, Jv lo, Jv hi, Jv h, Jv w, Jv c, Jv H, Jv V, Jv C], 44)])) := S0.out.call hb5
  have hz5 := hb5.size
  obtain ⟨lo', hlo⟩ : ∃ x, w4.heap.size = x := ⟨_, rfl⟩
  obtain ⟨hi', hhi⟩ : ∃ x, w5.heap.size = x := ⟨_, rfl⟩
  have HHi : Hid (w5.heap.size = hi') := hhi
  rw [hlo] at RO hz4 hz5
  rw [hhi] at hz5
  clear hus hb5 S0 c3 f3 z3 HRw hlo hhi
  go_wp2
  go_loopw [20] (fun i wr => ∃ k' : Nat, k' ≤ N ∧ i = Jv k' ∧ St W wr ((W.heap.size + 1 + 1 + 1, huV (piT (fun E => paI d E E.length) R k'), 65) :: [(W.heap.size + 1 + 1, #[Jv 0, Jv 0], 28), (W.heap.size + 1, #[Jv slo, Jv shi], 28), (W.heap.size, #[Jv k, Jv a, Jv b, Jv m, Jv kh, Jv kw, Jv sh, Jv sw, Jv tp, Jv lf, Jv bt, Jv rt, .slice wa lw wc, .slice ba lb bc, Jv sm, Jv ss, Jv um, Jv us, Jv z, Jv p, Jv lo, Jv hi, Jv h, Jv w, Jv c, Jv H, Jv V, Jv C], 44)]) ∧ Mid lo' hi' w5 wr ∧ hi' ≤ wr.heap.size) (fun i _ => N - (intOf i).toNat)
  case atStart => exact ⟨0, Nat.zero_le _, rfl, by simpa [piT] using S5.out, Mid.refl _ _ _, by rw [HHi.out]; exact Nat.le_refl _⟩
  case round =>
    obtain ⟨y, hy, rfl, s, hm, hz⟩ := hrel
    clear S5
    have S : Hid (St W wr _) := s
    have HMd : Hid (Mid lo' hi' w5 wr) := hm
    by_cases hlt : y < N
    · obtain ⟨g, cap, e0, hcu, hc1, hc2⟩ := (RO.out.mid hm (by rw [HHi.out]; exact Nat.le_refl _)).at hlt
      have hou := (RO.out.mid hm (by rw [HHi.out]; exact Nat.le_refl _)).2.2 y hlt
      have HOy : Hid (∀ w', Mid lo' hi' w5 w' → OSp w' lo' (us'.getD y undef) (R y)) := fun w' hm' => (RO.out.mid hm' (by rw [HHi.out]; exact Nat.le_refl _)).2.2 y hlt
      obtain ⟨u, hu0⟩ : ∃ u, us'.getD y undef = u := ⟨_, rfl⟩
      rw [hu0] at hcu hou HOy
      obtain ⟨M, hM⟩ : ∃ M, (R y).length = M := ⟨_, rfl⟩
      have HM : Hid ((R y).length = M) := hM
      obtain ⟨ua, uc, hue⟩ := hou.slice
      rw [hM] at hue
      subst hue
      have e1 : va = some ⟨g, 0, none⟩ := (Value.slice.inj e0).1
      subst e1
      have hM5 : M ≤ 512 := by rw [← hM]; exact HLn.out y
      clear hou hM s hm hc1 hc2 hu0
      have s7 := S.out.new (c := #[Jv 0, Jv 0]) (t := 28)
      have M7 : Mid lo' hi' w5 (wr.alloc (.cells #[Jv 0, Jv 0] 28)) := HMd.out.trans (Mid.later (bal _ _))
      go_upto_region 6 with fail
      obtain ⟨Bs, hBs⟩ : ∃ B, wr.heap.size = B := ⟨_, rfl⟩
      obtain ⟨w7, hw7⟩ : ∃ w7, wr.alloc (.cells #[Jv 0, Jv 0] 28) = w7 := ⟨_, rfl⟩
      rw [hw7] at s7 M7 ⊢
      rw [hBs] at s7 hz ⊢
      have hz7 : w7.heap.size = Bs + 1 := by rw [← hw7, ← hBs]; simp
      have S7 : Hid (St W w7 ((Bs, #[Jv 0, Jv 0], 28) :: (W.heap.size + 1 + 1 + 1, huV (piT (fun E => paI d E E.length) R y), 65) :: [(W.heap.size + 1 + 1, #[Jv 0, Jv 0], 28), (W.heap.size + 1, #[Jv slo, Jv shi], 28), (W.heap.size, #[Jv k, Jv a, Jv b, Jv m, Jv kh, Jv kw, Jv sh, Jv sw, Jv tp, Jv lf, Jv bt, Jv rt, .slice wa lw wc, .slice ba lb bc, Jv sm, Jv ss, Jv um, Jv us, Jv z, Jv p, Jv lo, Jv hi, Jv h, Jv w, Jv c, Jv H, Jv V, Jv C], 44)])) := s7
      have HM7 : Hid (Mid lo' hi' w5 w7) := M7
      clear hw7 hBs s7 M7 S HMd hcu
      go_wp2
      go_loopw [26] (fun i w' => ∃ j : Nat, j ≤ M ∧ i = Jv j ∧ St W w' ((Bs, #[Jv (psT d (R y) j).1, Jv (psT d (R y) j).2], 28) :: (W.heap.size + 1 + 1 + 1, huV (piT (fun E => paI d E E.length) R y ++ paI d (R y) j), 65) :: [(W.heap.size + 1 + 1, #[Jv 0, Jv 0], 28), (W.heap.size + 1, #[Jv slo, Jv shi], 28), (W.heap.size, #[Jv k, Jv a, Jv b, Jv m, Jv kh, Jv kw, Jv sh, Jv sw, Jv tp, Jv lf, Jv bt, Jv rt, .slice wa lw wc, .slice ba lb bc, Jv sm, Jv ss, Jv um, Jv us, Jv z, Jv p, Jv lo, Jv hi, Jv h, Jv w, Jv c, Jv H, Jv V, Jv C], 44)]) ∧ Mid lo' hi' w5 w' ∧ hi' ≤ w'.heap.size) (fun i _ => M - (intOf i).toNat)
      case atStart => exact ⟨0, Nat.zero_le _, rfl, by simpa [psT, paI] using S7.out, HM7.out, by omega⟩
      case round =>
        obtain ⟨j, hj, rfl, s, hm, hz'⟩ := hrel
        clear S7 HM7
        by_cases hjl : j < M
        · have hsp := (HOy.out wr hm).sv
          have hjL : j < (R y).length := by rw [HM.out]; exact hjl
          have hve := HE.out y j hjL
          have hvm := HV.out y j
          obtain ⟨a9, c9, e9, -, -, h9⟩ := hsp
          obtain ⟨g9, o9, hg9, hc9⟩ := h9 (by omega)
          have e10 : ua = some ⟨g9, o9, none⟩ := by rw [(Value.slice.inj e9).1]; exact hg9
          subst e10
          obtain ⟨q1, q2⟩ := SpV.at hc9 hjL
          obtain ⟨e1, e2, he⟩ : ∃ e1 e2, (R y).getD j (0, 0) = (e1, e2) := ⟨_, _, rfl⟩
          have HPI : Hid (paI d (R y) (j + 1) = paI d (R y) j ++ [psm d (R y) j] ++ [(e1, e2)]) := by unfold Hid; rw [paI_succ, he]
          have HPT : Hid (psT d (R y) (j + 1) = psm d (R y) j) := psT_succ _ _ _
          have hdm : Int.tmod (j : Int) (d : Int) = ((j % d : Nat) : Int) := by rw [Int.tmod_eq_emod_of_nonneg (by omega)]; rfl
          have hd0 : ¬ (d : Int) = 0 := by omega
          obtain ⟨r, hr⟩ : ∃ r, j % d = r := ⟨_, rfl⟩
          rw [hr] at hdm
          have hrl : r < d := by rw [← hr]; exact Nat.mod_lt _ hd
          have hj5 : j < 512 := by omega
          have HMd : Hid (Mid lo' hi' w5 wr) := hm
          rw [he] at q1 q2 hve
          simp only at q1 q2
          clear e9 h9 hg9 hc9 hm
          obtain ⟨c1, f1, z1, -⟩ := s.rules
          have hb5 := bal wr (.cells #[Jv e1, Jv e2] 28)
          have s8 := s.call hb5
          have s8n := s.new (c := #[Jv e1, Jv e2]) (t := 28)
          have M8 : Mid lo' hi' w5 (wr.alloc (.cells #[Jv e1, Jv e2] 28)) := HMd.out.trans (Mid.later hb5)
          go_upto_region 9 with fail
          obtain ⟨Be, hBe⟩ : ∃ B, wr.heap.size = B := ⟨_, rfl⟩
          obtain ⟨w8, hw8⟩ : ∃ w8, wr.alloc (.cells #[Jv e1, Jv e2] 28) = w8 := ⟨_, rfl⟩
          have hBsr := lt_of_heap s.h1
          rw [hw8] at s8n M8 ⊢
          rw [hBe] at s8n hz' hBsr ⊢
          have hz8 : w8.heap.size = Be + 1 := by rw [← hw8, ← hBe]; simp
          have S8 : Hid (St W w8 ((Bs, #[Jv (psT d (R y) j).1, Jv (psT d (R y) j).2], 28) :: (Be, #[Jv e1, Jv e2], 28) :: (W.heap.size + 1 + 1 + 1, huV (piT (fun E => paI d E E.length) R y ++ paI d (R y) j), 65) :: [(W.heap.size + 1 + 1, #[Jv 0, Jv 0], 28), (W.heap.size + 1, #[Jv slo, Jv shi], 28), (W.heap.size, #[Jv k, Jv a, Jv b, Jv m, Jv kh, Jv kw, Jv sh, Jv sw, Jv tp, Jv lf, Jv bt, Jv rt, .slice wa lw wc, .slice ba lb bc, Jv sm, Jv ss, Jv um, Jv us, Jv z, Jv p, Jv lo, Jv hi, Jv h, Jv w, Jv c, Jv H, Jv V, Jv C], 44)])) := s8n.up1
          have HM8 : Hid (Mid lo' hi' w5 w8) := M8
          clear hw8 hBe s8n s8 s M8 HMd c1 f1 z1 q1 q2 hb5
          by_cases hr0 : r = 0
          · subst hr0
            have hps : psm d (R y) j = (0 + e1, 0 + e2) := psm_zero hd hjL hr he
            obtain ⟨m1, hm1⟩ : ∃ m : Int, m = 0 := ⟨_, rfl⟩
            obtain ⟨m2, hm2⟩ : ∃ m : Int, m = 0 := ⟨_, rfl⟩
            have s9 := S8.out.set2 (u := Jv 0) (v := Jv 0) (by simp; omega)
            have M9 := (HM8.out.trans (Mid.set _ (B := Bs) (i := 0) (v := Jv 0) (.inr hz))).trans (Mid.set _ (B := Bs) (i := 1) (v := Jv 0) (.inr hz))
            obtain ⟨c1, f1, z1, -⟩ := S8.out.rules
            have hvm : Vd 10000000000 ((m1, m2) : Int × Int) := by rw [hm1, hm2]; unfold Vd; simp
            clear he hr HV HE
            go_upto_region 11 with fail
            obtain ⟨w9, hw9⟩ : ∃ w9, (w8.setCell ⟨Bs, 0, none⟩ (Jv 0)).setCell ⟨Bs, 1, none⟩ (Jv 0) = w9 := ⟨_, rfl⟩
            have hz9 : w9.heap.size = w8.heap.size := by rw [← hw9]; simp
            rw [hw9] at s9 M9 ⊢
            have S9 : Hid (St W w9 ((Bs, #[Jv m1, Jv m2], 28) :: (Be, #[Jv e1, Jv e2], 28) :: (W.heap.size + 1 + 1 + 1, huV (piT (fun E => paI d E E.length) R y ++ paI d (R y) j), 65) :: [(W.heap.size + 1 + 1, #[Jv 0, Jv 0], 28), (W.heap.size + 1, #[Jv slo, Jv shi], 28), (W.heap.size, #[Jv k, Jv a, Jv b, Jv m, Jv kh, Jv kw, Jv sh, Jv sw, Jv tp, Jv lf, Jv bt, Jv rt, .slice wa lw wc, .slice ba lb bc, Jv sm, Jv ss, Jv um, Jv us, Jv z, Jv p, Jv lo, Jv hi, Jv h, Jv w, Jv c, Jv H, Jv V, Jv C], 44)])) := by unfold Hid; rw [hm1, hm2]; exact s9
            have HM9 : Hid (Mid lo' hi' w5 w9) := M9
            rw [show (0 : Int) + e1 = m1 + e1 by rw [hm1], show (0 : Int) + e2 = m2 + e2 by rw [hm2]] at hps
            clear hw9 s9 M9 S8 HM8 c1 f1 z1 hm1 hm2
            have HP : Hid (∀ w, _) := fun w => rplus_any (m1, m2) (e1, e2) w hvm hve
            have HTk1 : Hid (∀ W' : World, W'.heap[W.heap.size + 1 + 1 + 1]? = some (.cells (huV (piT (fun E => paI d E E.length) R y ++ paI d (R y) j)) 65 (0, 0)) → _) := fun W' hB => rtake_any (W.heap.size + 1 + 1 + 1) (piT (fun E => paI d E E.length) R y ++ paI d (R y) j) (m1 + e1, m2 + e2) W' hB
            have HTk2 : Hid (∀ W' : World, W'.heap[W.heap.size + 1 + 1 + 1]? = some (.cells (huV (piT (fun E => paI d E E.length) R y ++ paI d (R y) j ++ [(m1 + e1, m2 + e2)])) 65 (0, 0)) → _) := fun W' hB => rtake_any (W.heap.size + 1 + 1 + 1) (piT (fun E => paI d E E.length) R y ++ paI d (R y) j ++ [(m1 + e1, m2 + e2)]) (e1, e2) W' hB
            have HFin : Hid (piT (fun E => paI d E E.length) R y ++ paI d (R y) j ++ [(m1 + e1, m2 + e2)] ++ [(e1, e2)] = piT (fun E => paI d E E.length) R y ++ paI d (R y) (j + 1)) := by unfold Hid; rw [HPI.out, hps]; simp
            have HPT2 : Hid (psT d (R y) (j + 1) = (m1 + e1, m2 + e2)) := by unfold Hid; rw [HPT.out, hps]
            obtain ⟨c1, f1, z1, c2, f2, z2, -⟩ := S9.out.rules
            clear hvm hve hps HPI HPT
            go_wp2_with fail
            refine Calls.mono (HP.out _) ?_
            rintro e w10 ⟨rfl, hb10⟩
            have s10 := S9.out.call hb10
            have z10 := hb10.size
            clear c1 f1 z1 c2 f2 z2
            obtain ⟨c1, f1, z1, c2, f2, z2, -⟩ := s10.rules
            have S11 : Hid (St W _ _) := s10.set2 (u := Jv (m1 + e1)) (v := Jv (m2 + e2)) (by simp; omega)
            have M11 : Hid (Mid lo' hi' w5 _) := ((HM9.out.trans (Mid.later hb10)).trans (Mid.set _ (B := Bs) (i := 0) (v := Jv (m1 + e1)) (.inr hz))).trans (Mid.set _ (B := Bs) (i := 1) (v := Jv (m2 + e2)) (.inr hz))
            have HTa : Hid _ := HTk1.out _ S11.out.h3
            simp only [plS]
            clear s10 hb10 S9 HM9 HP HTk1
            go_wp2_with fail
            refine Calls.mono HTa.out ?_
            rintro e w12 ⟨⟨vv, rfl⟩, gr, hB12⟩
            have S12 : Hid (St W w12 _) := S11.out.up2.put1 gr hB12 (by simp; omega)
            have M12 : Hid (Mid lo' hi' w5 w12) := M11.out.trans (Mid.grown gr (fun b e => by cases e; omega))
            have z12 := gr.size
            simp only [World.size_setCell] at z12
            clear S11 M11 gr hB12 HTa c1 f1 z1 c2 f2 z2
            obtain ⟨c0, f0, z0', c1, f1, z1, c2, f2, z2, -⟩ := S12.out.rules
            have HTb : Hid _ := HTk2.out _ S12.out.h1
            rw [HFin.out] at HTb
            clear HTk2 c0 f0
            go_wp2_with fail
            refine Calls.mono HTb.out ?_
            rintro e w13 ⟨⟨vv', rfl⟩, gr, hB13⟩
            have S13 : Hid (St W w13 ((Bs, #[Jv (m1 + e1), Jv (m2 + e2)], 28) :: (W.heap.size + 1 + 1 + 1, huV (piT (fun E => paI d E E.length) R y ++ paI d (R y) (j + 1)), 65) :: [(W.heap.size + 1 + 1, #[Jv 0, Jv 0], 28), (W.heap.size + 1, #[Jv slo, Jv shi], 28), (W.heap.size, #[Jv k, Jv a, Jv b, Jv m, Jv kh, Jv kw, Jv sh, Jv sw, Jv tp, Jv lf, Jv bt, Jv rt, .slice wa lw wc, .slice ba lb bc, Jv sm, Jv ss, Jv um, Jv us, Jv z, Jv p, Jv lo, Jv hi, Jv h, Jv w, Jv c, Jv H, Jv V, Jv C], 44)])) := (S12.out.put1 gr hB13 (by simp; omega)).sub (fun x hx => by simp only [List.mem_cons, List.not_mem_nil, or_false] at hx ⊢; rcases hx with h | h | h | h | h <;> simp [h])
            have M13 : Hid (Mid lo' hi' w5 w13) := M12.out.trans (Mid.grown gr (fun b e => by cases e; omega))
            have z13 := gr.size
            clear S12 M12 gr hB13 HTb c1 f1 z1 c2 f2 z2
            go_wp2
            go_roundw
            case rel => exact ⟨j + 1, by omega, by go_num, by rw [HPT2.out]; exact S13.out, M13.out, by omega⟩
            case measure => simp [intOf]; omega
          · have hps0 : psm d (R y) j = plS (psT d (R y) j) (e1, e2) := psm_more hd hjL (by rw [hr]; exact hr0) he
            obtain ⟨m1, m2, hmm⟩ : ∃ m1 m2, psT d (R y) j = (m1, m2) := ⟨_, _, rfl⟩
            have hps : psm d (R y) j = (m1 + e1, m2 + e2) := by rw [hps0, hmm]; rfl
            have hr1 : ((r : Int) == 0) = false := by simp; omega
            rw [hmm] at hvm
            have S9 : Hid (St W w8 ((Bs, #[Jv m1, Jv m2], 28) :: (Be, #[Jv e1, Jv e2], 28) :: (W.heap.size + 1 + 1 + 1, huV (piT (fun E => paI d E E.length) R y ++ paI d (R y) j), 65) :: [(W.heap.size + 1 + 1, #[Jv 0, Jv 0], 28), (W.heap.size + 1, #[Jv slo, Jv shi], 28), (W.heap.size, #[Jv k, Jv a, Jv b, Jv m, Jv kh, Jv kw, Jv sh, Jv sw, Jv tp, Jv lf, Jv bt, Jv rt, .slice wa lw wc, .slice ba lb bc, Jv sm, Jv ss, Jv um, Jv us, Jv z, Jv p, Jv lo, Jv hi, Jv h, Jv w, Jv c, Jv H, Jv V, Jv C], 44)])) := by have q := S8.out; rw [hmm] at q; exact q
            have HM9 : Hid (Mid lo' hi' w5 w8) := HM8.out
            clear he hr HV HE hps0 hmm S8 HM8
            go_upto_region 11 with fail
            have HP : Hid (∀ w, _) := fun w => rplus_any (m1, m2) (e1, e2) w hvm hve
            have HTk1 : Hid (∀ W' : World, W'.heap[W.heap.size + 1 + 1 + 1]? = some (.cells (huV (piT (fun E => paI d E E.length) R y ++ paI d (R y) j)) 65 (0, 0)) → _) := fun W' hB => rtake_any (W.heap.size + 1 + 1 + 1) (piT (fun E => paI d E E.length) R y ++ paI d (R y) j) (m1 + e1, m2 + e2) W' hB
            have HTk2 : Hid (∀ W' : World, W'.heap[W.heap.size + 1 + 1 + 1]? = some (.cells (huV (piT (fun E => paI d E E.length) R y ++ paI d (R y) j ++ [(m1 + e1, m2 + e2)])) 65 (0, 0)) → _) := fun W' hB => rtake_any (W.heap.size + 1 + 1 + 1) (piT (fun E => paI d E E.length) R y ++ paI d (R y) j ++ [(m1 + e1, m2 + e2)]) (e1, e2) W' hB
            have HFin : Hid (piT (fun E => paI d E E.length) R y ++ paI d (R y) j ++ [(m1 + e1, m2 + e2)] ++ [(e1, e2)] = piT (fun E => paI d E E.length) R y ++ paI d (R y) (j + 1)) := by unfold Hid; rw [HPI.out, hps]; simp
            have HPT2 : Hid (psT d (R y) (j + 1) = (m1 + e1, m2 + e2)) := by unfold Hid; rw [HPT.out, hps]
            obtain ⟨c1, f1, z1, c2, f2, z2, -⟩ := S9.out.rules
            clear hvm hve hps HPI HPT
            go_wp2_with fail
            refine Calls.mono (HP.out _) ?_
            rintro e w10 ⟨rfl, hb10⟩
            have s10 := S9.out.call hb10
            have z10 := hb10.size
            clear c1 f1 z1 c2 f2 z2
            obtain ⟨c1, f1, z1, c2, f2, z2, -⟩ := s10.rules
            have S11 : Hid (St W _ _) := s10.set2 (u := Jv (m1 + e1)) (v := Jv (m2 + e2)) (by simp; omega)
            have M11 : Hid (Mid lo' hi' w5 _) := ((HM9.out.trans (Mid.later hb10)).trans (Mid.set _ (B := Bs) (i := 0) (v := Jv (m1 + e1)) (.inr hz))).trans (Mid.set _ (B := Bs) (i := 1) (v := Jv (m2 + e2)) (.inr hz))
            have HTa : Hid _ := HTk1.out _ S11.out.h3
            simp only [plS]
            clear s10 hb10 S9 HM9 HP HTk1
            go_wp2_with fail
            refine Calls.mono HTa.out ?_
            rintro e w12 ⟨⟨vv, rfl⟩, gr, hB12⟩
            have S12 : Hid (St W w12 _) := S11.out.up2.put1 gr hB12 (by simp; omega)
            have M12 : Hid (Mid lo' hi' w5 w12) := M11.out.trans (Mid.grown gr (fun b e => by cases e; omega))
            have z12 := gr.size
            simp only [World.size_setCell] at z12
            clear S11 M11 gr hB12 HTa c1 f1 z1 c2 f2 z2
            obtain ⟨c0, f0, z0', c1, f1, z1, c2, f2, z2, -⟩ := S12.out.rules
            have HTb : Hid _ := HTk2.out _ S12.out.h1
            rw [HFin.out] at HTb
            clear HTk2 c0 f0
            go_wp2_with fail
            refine Calls.mono HTb.out ?_
            rintro e w13 ⟨⟨vv', rfl⟩, gr, hB13⟩
            have S13 : Hid (St W w13 ((Bs, #[Jv (m1 + e1), Jv (m2 + e2)], 28) :: (W.heap.size + 1 + 1 + 1, huV (piT (fun E => paI d E E.length) R y ++ paI d (R y) (j + 1)), 65) :: [(W.heap.size + 1 + 1, #[Jv 0, Jv 0], 28), (W.heap.size + 1, #[Jv slo, Jv shi], 28), (W.heap.size, #[Jv k, Jv a, Jv b, Jv m, Jv kh, Jv kw, Jv sh, Jv sw, Jv tp, Jv lf, Jv bt, Jv rt, .slice wa lw wc, .slice ba lb bc, Jv sm, Jv ss, Jv um, Jv us, Jv z, Jv p, Jv lo, Jv hi, Jv h, Jv w, Jv c, Jv H, Jv V, Jv C], 44)])) := (S12.out.put1 gr hB13 (by simp; omega)).sub (fun x hx => by simp only [List.mem_cons, List.not_mem_nil, or_false] at hx ⊢; rcases hx with h | h | h | h | h <;> simp [h])
            have M13 : Hid (Mid lo' hi' w5 w13) := M12.out.trans (Mid.grown gr (fun b e => by cases e; omega))
            have z13 := gr.size
            clear S12 M12 gr hB13 HTb c1 f1 z1 c2 f2 z2
            go_wp2
            go_roundw
            case rel => exact ⟨j + 1, by omega, by go_num, by rw [HPT2.out]; exact S13.out, M13.out, by omega⟩
            case measure => simp [intOf]; omega
        · obtain rfl : j = M := by omega
          have e5 : paI d (R y) j = paI d (R y) (R y).length := by rw [HM.out]
          rw [e5, ← HPs.out y] at s
          have S8 : Hid (St W wr _) := s.tail
          have M8 : Hid (Mid lo' hi' w5 wr) := hm
          clear s hm e5
          go_wp2
          go_roundw
          case rel => exact ⟨y + 1, by omega, by go_num, S8.out, M8.out, by omega⟩
          case measure => simp [intOf]; omega
    · obtain rfl : y = N := by omega
      obtain ⟨c1, f1, z1, c2, f2, z2, -⟩ := s.rules
      have HB : Hid (Below W.heap.size W _) := s.tail.out2 (i := 0) (j := 1) (u := Jv (hbD d R y).1) (v := Jv (hbD d R y).2)
      unfold huV at c1
      rw [← HRes.out] at c1
      obtain ⟨m1, m2, hmm⟩ : ∃ m1 m2, hbD d R y = (m1, m2) := ⟨_, _, rfl⟩
      have HMM : Hid (hbD d R y = (m1, m2)) := hmm
      rw [hmm] at c1 HB
      simp only at c1 HB
      clear s hm S hmm
      go_wp2
      exact bodyPost_ret (v := .agg #[Jv m1, Jv m2]) (by simp [results, Tryz.results16, go_sem, c2]) rfl ⟨by rw [HMM.out], HB.out⟩
end Go.Proofs.YtcphealigifdiaaGreat

/- What the document's Find of layer 10 returns: the op that is asked, with its shapes; the error. -/
namespace Go.Proofs.YtcphealigifdiaaGreat
open Go.ChangeShapes Go.WideShapes Go.ChangeAt Go.RowKit
set_option linter.unusedVariables false
set_option maxRecDepth 100000 in
set_option maxHeartbeats 4000000 in
theorem rfind_e (h w c lo hi ot op ch : Int) (oa : Option Addr) (on oc : Nat) (O : Nat → Nat → Int) (Z B : Nat → List Int) (W : World) (hM : LRow W oa on oc O Z B) (hon : on ≤ 1000000000000) (Re Ra Rw : Int) (RL : List (Int × Int × Int)) (hR : gtR O h w c lo hi ot on = (Re, Ra, RL, Rw)) (he : Re ≠ 0) :
    Calls Tryz.prog 41 #[.agg #[Jv h, Jv w, Jv c, Jv lo, Jv hi, .slice oa on oc, Jv ot], Jv op, Jv ch] W fun e w' => e = .returned (.tuple #[.agg #[Jv 0, Jv 0, Jv 0, Jv 0, Jv 0, Jv 0, Jv 0, Jv 0, Jv 0, Jv 0, Jv 0, Jv 0, .slice none 0 0, .slice none 0 0, Jv 0, Jv 0, Jv 0, Jv 0, Jv 0, Jv 0, Jv 0, Jv 0, Jv 0, Jv 0, Jv 0, Jv 0, Jv 0, Jv 0], Jv Re]) ∧ Below W.heap.size W w' := by
  have hS : Hid (∀ W, LRow W oa on oc O Z B → _) := fun W hW => look_any h w c lo hi ot oa on oc O Z B W hW hon
  rw [hR] at hS
  simp only at hS
  have he' : (Re == 0) = false := by simp [he]
  have hM2 : Hid (LRow W oa on oc O Z B) := hM
  clear hR hM
  have s0 := ((St.start W).new (c := #[Jv h, Jv w, Jv c, Jv lo, Jv hi, .slice oa on oc, Jv ot]) (t := 26)).new (c := #[Jv 0, Jv 0, Jv 0, Jv 0, Jv 0, Jv 0, Jv 0, Jv 0, Jv 0, Jv 0, Jv 0, Jv 0, .slice none 0 0, .slice none 0 0, Jv 0, Jv 0, Jv 0, Jv 0, Jv 0, Jv 0, Jv 0, Jv 0, Jv 0, Jv 0, Jv 0, Jv 0, Jv 0, Jv 0]) (t := 44)
  simp only [World.size_alloc] at s0
  go_enter Tryz.func41, Tryz.ntmps41
  go_wp2_with fail
  refine Calls.mono (hS.out _ (hM2.out.below s0.below)) ?_
  rintro e w1 ⟨v, rfl, hSh, hb⟩
  have s1 := (s0.call hb).new (c := #[Jv Re, Jv Ra, Jv 0]) (t := 78)
  obtain ⟨va, vc, rfl⟩ := hSh.slice
  obtain ⟨c1, f1, z1, c2, f2, z2, -⟩ := (s0.call hb).rules
  clear hb hSh
  go_wp2
  obtain ⟨w2, hw2⟩ : ∃ w2, w1.alloc (.cells #[Jv Re, Jv Ra, Jv 0] 78) = w2 := ⟨_, rfl⟩
  rw [hw2] at s1 ⊢
  have hF := s1.h1
  have hZ := s1.h2
  have S1 : Hid (St W w2 _) := s1
  clear hw2 s0 s1 c1 f1 c2 f2
  refine regionC (fun w' => w'.heap[w1.heap.size]? = some (.cells #[Jv Re, Jv Ra, Jv 0] 78 (0, 0))) (by kernel_rfl) ?_
  refine takeC 0 (v := .agg #[Jv 0, Jv 0, Jv 0, Jv 0, Jv 0, Jv 0, Jv 0, Jv 0, Jv 0, Jv 0, Jv 0, Jv 0, .slice none 0 0, .slice none 0 0, Jv 0, Jv 0, Jv 0, Jv 0, Jv 0, Jv 0, Jv 0, Jv 0, Jv 0, Jv 0, Jv 0, Jv 0, Jv 0, Jv 0]) rfl rfl (by kernel_rfl) (by kernel_rfl) (by kernel_rfl) (fun _ _ _ h => h) (fun _ => rfl) rfl (fun w' hw' => by kernel_rfl) ?_
  refine takeC 1 (v := .pointer (some ⟨w1.heap.size, 0, none⟩)) rfl rfl (by kernel_rfl) (by kernel_rfl) (by kernel_rfl) (fun _ _ _ h => h) (fun _ => rfl) rfl (fun w' hw' => by go_simp) ?_
  refine takeC 2 (v := Jv Re) rfl rfl (by kernel_rfl) (by kernel_rfl) (by kernel_rfl) (fun _ _ _ h => h) (fun _ => rfl) rfl (fun w' hw' => by have hc := (cells_at hw').1 0; go_simp) ?_
  have hne : w1.heap.size ≠ W.heap.size + 1 := by omega
  refine stepC 3 hF (by kernel_rfl) rfl (fun K hK => step_wp rfl (wp_store_row 44 (.tmp 6) (.tmp 22) rfl (W.heap.size + 1) #[Jv 0, Jv 0, Jv 0, Jv 0, Jv 0, Jv 0, Jv 0, Jv 0, Jv 0, Jv 0, Jv 0, Jv 0, .slice none 0 0, .slice none 0 0, Jv 0, Jv 0, Jv 0, Jv 0, Jv 0, Jv 0, Jv 0, Jv 0, Jv 0, Jv 0, Jv 0, Jv 0, Jv 0, Jv 0] rfl rfl 44 #[Jv 0, Jv 0, Jv 0, Jv 0, Jv 0, Jv 0, Jv 0, Jv 0, Jv 0, Jv 0, Jv 0, Jv 0, .slice none 0 0, .slice none 0 0, Jv 0, Jv 0, Jv 0, Jv 0, Jv 0, Jv 0, Jv 0, Jv 0, Jv 0, Jv 0, Jv 0, Jv 0, Jv 0, Jv 0] hZ (by kernel_rfl) rfl (by simp [Value.oneCell']) (hK _ _ ?_)))
  refine takeC 4 (v := Jv Re) rfl rfl (by kernel_rfl) (by kernel_rfl) (by kernel_rfl) (fun _ _ _ h => h) (fun _ => rfl) rfl (fun w' hw' => by go_simp) ?_
  refine doneC ((setRow_other _ _ _ _ hne).trans hF) (by kernel_rfl) ?_ _
  have hZ' := setRow_heap w2.drew (W.heap.size + 1) #[Jv 0, Jv 0, Jv 0, Jv 0, Jv 0, Jv 0, Jv 0, Jv 0, Jv 0, Jv 0, Jv 0, Jv 0, .slice none 0 0, .slice none 0 0, Jv 0, Jv 0, Jv 0, Jv 0, Jv 0, Jv 0, Jv 0, Jv 0, Jv 0, Jv 0, Jv 0, Jv 0, Jv 0, Jv 0] #[Jv 0, Jv 0, Jv 0, Jv 0, Jv 0, Jv 0, Jv 0, Jv 0, Jv 0, Jv 0, Jv 0, Jv 0, .slice none 0 0, .slice none 0 0, Jv 0, Jv 0, Jv 0, Jv 0, Jv 0, Jv 0, Jv 0, Jv 0, Jv 0, Jv 0, Jv 0, Jv 0, Jv 0, Jv 0] 44 (0, 0) hZ
  have hB' : Hid (Below W.heap.size W (w2.drew.setRow (W.heap.size + 1) #[Jv 0, Jv 0, Jv 0, Jv 0, Jv 0, Jv 0, Jv 0, Jv 0, Jv 0, Jv 0, Jv 0, Jv 0, .slice none 0 0, .slice none 0 0, Jv 0, Jv 0, Jv 0, Jv 0, Jv 0, Jv 0, Jv 0, Jv 0, Jv 0, Jv 0, Jv 0, Jv 0, Jv 0, Jv 0])) := below_setRow S1.out.drew.below (by omega) _
  obtain ⟨w3, hw3⟩ : ∃ w3, w2.drew.setRow (W.heap.size + 1) #[Jv 0, Jv 0, Jv 0, Jv 0, Jv 0, Jv 0, Jv 0, Jv 0, Jv 0, Jv 0, Jv 0, Jv 0, .slice none 0 0, .slice none 0 0, Jv 0, Jv 0, Jv 0, Jv 0, Jv 0, Jv 0, Jv 0, Jv 0, Jv 0, Jv 0, Jv 0, Jv 0, Jv 0, Jv 0] = w3 := ⟨_, rfl⟩
  rw [hw3] at hZ' hB' ⊢
  clear hw3
  go_wp2
  exact bodyPost_ret (results_row_tmp Tryz.results41 _ _ (W.heap.size + 1) 44 _ _ (Jv Re) rfl hZ' Tryz.underlying44 rfl (by kernel_rfl) rfl) rfl ⟨rfl, hB'.out⟩
set_option maxRecDepth 100000 in
set_option maxHeartbeats 4000000 in
theorem rfind_3 (h w c lo hi ot op ch : Int) (oa : Option Addr) (on oc : Nat) (O : Nat → Nat → Int) (Z B : Nat → List Int) (W : World) (hM : LRow W oa on oc O Z B) (hon : on ≤ 1000000000000) (Ra Rw : Int) (RL : List (Int × Int × Int)) (hR : gtR O h w c lo hi ot on = (0, Ra, RL, Rw)) (ho : ¬ (1 ≤ op ∧ op ≤ (on : Int))) :
    Calls Tryz.prog 41 #[.agg #[Jv h, Jv w, Jv c, Jv lo, Jv hi, .slice oa on oc, Jv ot], Jv op, Jv ch] W fun e w' => e = .returned (.tuple #[.agg #[Jv 0, Jv 0, Jv 0, Jv 0, Jv 0, Jv 0, Jv 0, Jv 0, Jv 0, Jv 0, Jv 0, Jv 0, .slice none 0 0, .slice none 0 0, Jv 0, Jv 0, Jv 0, Jv 0, Jv 0, Jv 0, Jv 0, Jv 0, Jv 0, Jv 0, Jv 0, Jv 0, Jv 0, Jv 0], Jv 3]) ∧ Below W.heap.size W w' := by
  have hS : Hid (∀ W, LRow W oa on oc O Z B → _) := fun W hW => look_any h w c lo hi ot oa on oc O Z B W hW hon
  rw [hR] at hS
  simp only at hS
  have hM2 : Hid (LRow W oa on oc O Z B) := hM
  have hocm := hM.1
  have hocx := hM.2.1
  unfold maxLen at hocx
  clear hR hM
  have s0 := ((St.start W).new (c := #[Jv h, Jv w, Jv c, Jv lo, Jv hi, .slice oa on oc, Jv ot]) (t := 26)).new (c := #[Jv 0, Jv 0, Jv 0, Jv 0, Jv 0, Jv 0, Jv 0, Jv 0, Jv 0, Jv 0, Jv 0, Jv 0, .slice none 0 0, .slice none 0 0, Jv 0, Jv 0, Jv 0, Jv 0, Jv 0, Jv 0, Jv 0, Jv 0, Jv 0, Jv 0, Jv 0, Jv 0, Jv 0, Jv 0]) (t := 44)
  simp only [World.size_alloc] at s0
  by_cases ho1 : op < 1
  · go_enter Tryz.func41, Tryz.ntmps41
    go_wp2_with fail
    refine Calls.mono (hS.out _ (hM2.out.below s0.below)) ?_
    rintro e w1 ⟨v, rfl, hSh, hb⟩
    have s1 := (s0.call hb).new (c := #[Jv 0, Jv Ra, Jv 0]) (t := 78)
    obtain ⟨va, vc, rfl⟩ := hSh.slice
    obtain ⟨c1, f1, z1, c2, f2, z2, -⟩ := (s0.call hb).rules
    have ho2 : op < 1 ∨ (on : Int) < op := by omega
    clear hb hSh ho
    go_wp2_with (refine wpList_store_row rfl 44 (.tmp 6) (.tmp 34) rfl (W.heap.size + 1) #[Jv 0, Jv 0, Jv 0, Jv 0, Jv 0, Jv 0, Jv 0, Jv 0, Jv 0, Jv 0, Jv 0, Jv 0, .slice none 0 0, .slice none 0 0, Jv 0, Jv 0, Jv 0, Jv 0, Jv 0, Jv 0, Jv 0, Jv 0, Jv 0, Jv 0, Jv 0, Jv 0, Jv 0, Jv 0] rfl rfl 44 #[Jv 0, Jv 0, Jv 0, Jv 0, Jv 0, Jv 0, Jv 0, Jv 0, Jv 0, Jv 0, Jv 0, Jv 0, .slice none 0 0, .slice none 0 0, Jv 0, Jv 0, Jv 0, Jv 0, Jv 0, Jv 0, Jv 0, Jv 0, Jv 0, Jv 0, Jv 0, Jv 0, Jv 0, Jv 0] s1.h2 (by kernel_rfl) rfl (by simp [Value.oneCell']) ?_; have hZ' := setRow_heap _ (W.heap.size + 1) #[Jv 0, Jv 0, Jv 0, Jv 0, Jv 0, Jv 0, Jv 0, Jv 0, Jv 0, Jv 0, Jv 0, Jv 0, .slice none 0 0, .slice none 0 0, Jv 0, Jv 0, Jv 0, Jv 0, Jv 0, Jv 0, Jv 0, Jv 0, Jv 0, Jv 0, Jv 0, Jv 0, Jv 0, Jv 0] #[Jv 0, Jv 0, Jv 0, Jv 0, Jv 0, Jv 0, Jv 0, Jv 0, Jv 0, Jv 0, Jv 0, Jv 0, .slice none 0 0, .slice none 0 0, Jv 0, Jv 0, Jv 0, Jv 0, Jv 0, Jv 0, Jv 0, Jv 0, Jv 0, Jv 0, Jv 0, Jv 0, Jv 0, Jv 0] 44 (0, 0) s1.h2; have hB' : Hid (Below W.heap.size W (_ : World)) := below_setRow s1.below (show W.heap.size ≤ W.heap.size + 1 by omega) #[Jv 0, Jv 0, Jv 0, Jv 0, Jv 0, Jv 0, Jv 0, Jv 0, Jv 0, Jv 0, Jv 0, Jv 0, .slice none 0 0, .slice none 0 0, Jv 0, Jv 0, Jv 0, Jv 0, Jv 0, Jv 0, Jv 0, Jv 0, Jv 0, Jv 0, Jv 0, Jv 0, Jv 0, Jv 0]; clear c1 f1 c2 f2; generalize World.setRow _ _ _ = w3 at hZ' hB' ⊢)
    exact bodyPost_ret (results_row_tmp Tryz.results41 _ _ (W.heap.size + 1) 44 _ _ (Jv 3) rfl hZ' Tryz.underlying44 rfl (by kernel_rfl) rfl) rfl ⟨rfl, hB'.out⟩
  · go_enter Tryz.func41, Tryz.ntmps41
    go_wp2_with fail
    refine Calls.mono (hS.out _ (hM2.out.below s0.below)) ?_
    rintro e w1 ⟨v, rfl, hSh, hb⟩
    have s1 := (s0.call hb).new (c := #[Jv 0, Jv Ra, Jv 0]) (t := 78)
    obtain ⟨va, vc, rfl⟩ := hSh.slice
    obtain ⟨c1, f1, z1, c2, f2, z2, -⟩ := (s0.call hb).rules
    have ho2 : op < 1 ∨ (on : Int) < op := by omega
    clear hb hSh ho
    go_wp2_with (refine wpList_store_row rfl 44 (.tmp 6) (.tmp 34) rfl (W.heap.size + 1) #[Jv 0, Jv 0, Jv 0, Jv 0, Jv 0, Jv 0, Jv 0, Jv 0, Jv 0, Jv 0, Jv 0, Jv 0, .slice none 0 0, .slice none 0 0, Jv 0, Jv 0, Jv 0, Jv 0, Jv 0, Jv 0, Jv 0, Jv 0, Jv 0, Jv 0, Jv 0, Jv 0, Jv 0, Jv 0] rfl rfl 44 #[Jv 0, Jv 0, Jv 0, Jv 0, Jv 0, Jv 0, Jv 0, Jv 0, Jv 0, Jv 0, Jv 0, Jv 0, .slice none 0 0, .slice none 0 0, Jv 0, Jv 0, Jv 0, Jv 0, Jv 0, Jv 0, Jv 0, Jv 0, Jv 0, Jv 0, Jv 0, Jv 0, Jv 0, Jv 0] s1.h2 (by kernel_rfl) rfl (by simp [Value.oneCell']) ?_; have hZ' := setRow_heap _ (W.heap.size + 1) #[Jv 0, Jv 0, Jv 0, Jv 0, Jv 0, Jv 0, Jv 0, Jv 0, Jv 0, Jv 0, Jv 0, Jv 0, .slice none 0 0, .slice none 0 0, Jv 0, Jv 0, Jv 0, Jv 0, Jv 0, Jv 0, Jv 0, Jv 0, Jv 0, Jv 0, Jv 0, Jv 0, Jv 0, Jv 0] #[Jv 0, Jv 0, Jv 0, Jv 0, Jv 0, Jv 0, Jv 0, Jv 0, Jv 0, Jv 0, Jv 0, Jv 0, .slice none 0 0, .slice none 0 0, Jv 0, Jv 0, Jv 0, Jv 0, Jv 0, Jv 0, Jv 0, Jv 0, Jv 0, Jv 0, Jv 0, Jv 0, Jv 0, Jv 0] 44 (0, 0) s1.h2; have hB' : Hid (Below W.heap.size W (_ : World)) := below_setRow s1.below (show W.heap.size ≤ W.heap.size + 1 by omega) #[Jv 0, Jv 0, Jv 0, Jv 0, Jv 0, Jv 0, Jv 0, Jv 0, Jv 0, Jv 0, Jv 0, Jv 0, .slice none 0 0, .slice none 0 0, Jv 0, Jv 0, Jv 0, Jv 0, Jv 0, Jv 0, Jv 0, Jv 0, Jv 0, Jv 0, Jv 0, Jv 0, Jv 0, Jv 0]; clear c1 f1 c2 f2; generalize World.setRow _ _ _ = w3 at hZ' hB' ⊢)
    exact bodyPost_ret (results_row_tmp Tryz.results41 _ _ (W.heap.size + 1) 44 _ _ (Jv 3) rfl hZ' Tryz.underlying44 rfl (by kernel_rfl) rfl) rfl ⟨rfl, hB'.out⟩
end Go.Proofs.YtcphealigifdiaaGreat
