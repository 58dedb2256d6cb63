/- What the document's Run of layer 13 returns. The document's answers of layer 13 at an op that is there. The walks of BoundTotals, BoundRuns, BoundParts. -/
import Derived.Test.YtcphealigifdiaaGreatGr26
import Derived.Test.YtcphealigifdiaaGreatGr27
import Derived.Test.YtcphealigifdiaaGreatGr28
/- What the document's Run of layer 13 returns. -/
namespace Go.Proofs.YtcphealigifdiaaGreat
open Go.ChangeShapes Go.WideShapes Go.ChangeAt Go.RowKit
set_option linter.unusedVariables false
set_option maxRecDepth 100000 in
set_option maxHeartbeats 8000000 in
theorem rrun_any (k a b m kh kw sh sw tp lf bt rt : Int) (wa : Option Addr) (lw wc : Nat) (ba : Option Addr) (lb bc : Nat) (sm ss um us z p lo hi h w c H V C : Int) (W : World) (ch slo shi bi : Int) (R : Nat → List (Int × Int)) (N : Nat) (hN : N ≤ 10000000) (hR : ∀ j, Rb (R j) ∧ (R j).length ≤ 512) (hRw : ∀ W', Below W.heap.size W W' → Calls Tryz.prog 25 #[.agg #[Jv k, Jv a, Jv b, Jv m, Jv kh, Jv kw, Jv sh, Jv sw, Jv tp, Jv lf, Jv bt, Jv rt, .slice wa lw wc, .slice ba lb bc, Jv sm, Jv ss, Jv um, Jv us, Jv z, Jv p, Jv lo, Jv hi, Jv h, Jv w, Jv c, Jv H, Jv V, Jv C], Jv ch, .agg #[Jv slo, Jv shi]] W' fun e w' => (∃ v, e = .returned v ∧ RwO w' W'.heap.size v R N) ∧ Below W'.heap.size W' w') (hbi : -2147483648 ≤ bi ∧ bi ≤ 2147483647) (hBg : ∀ W', Below W.heap.size W W' → Calls Tryz.prog 26 #[.agg #[Jv k, Jv a, Jv b, Jv m, Jv kh, Jv kw, Jv sh, Jv sw, Jv tp, Jv lf, Jv bt, Jv rt, .slice wa lw wc, .slice ba lb bc, Jv sm, Jv ss, Jv um, Jv us, Jv z, Jv p, Jv lo, Jv hi, Jv h, Jv w, Jv c, Jv H, Jv V, Jv C], Jv ch] W' fun e w' => e = .returned (.agg #[Jv bi, Jv bi]) ∧ Below W'.heap.size W' w') :
    Calls Tryz.prog 13 #[.agg #[Jv k, Jv a, Jv b, Jv m, Jv kh, Jv kw, Jv sh, Jv sw, Jv tp, Jv lf, Jv bt, Jv rt, .slice wa lw wc, .slice ba lb bc, Jv sm, Jv ss, Jv um, Jv us, Jv z, Jv p, Jv lo, Jv hi, Jv h, Jv w, Jv c, Jv H, Jv V, Jv C], Jv ch, .agg #[Jv slo, Jv shi]] W fun e w' => e = .returned (.agg #[Jv (hbR bi R N).1, Jv (hbR bi R N).2]) ∧ Below W.heap.size W w' := by
  have HRw : Hid (∀ W', Below W.heap.size W W' → _) := hRw
  have HBg : Hid (∀ W', Below W.heap.size W W' → _) := hBg
  have HV : Hid (∀ k j, Vd 10000000000 (suS (bi, bi) ((R k).take j))) := fun k j => suS_vd ((hR k).1.take j) (by rw [List.length_take]; have := (hR k).2; omega) (vd_bi hbi)
  have HE : Hid (∀ k j, j < (R k).length → Vd 10000000000 ((R k).getD j (0, 0))) := fun k j hj => by
    rw [List.getD_eq_getElem?_getD, List.getElem?_eq_getElem hj]
    exact (hR k).1.vd _ (List.getElem_mem _)
  have HLn : Hid (∀ k, (R k).length ≤ 512) := fun k => (hR k).2
  have HPs : Hid (∀ k, piT (fun E => ruL (bi, bi) E) R (k + 1) = piT (fun E => ruL (bi, bi) E) R k ++ ruL (bi, bi) (R k)) := fun k => piT_succ _ R k
  have HRes : Hid (hbR bi R N = huA (piT (fun E => ruL (bi, bi) E) R N)) := rfl
  have s0 := ((((St.start W).new (c := #[Jv k, Jv a, Jv b, Jv m, Jv kh, Jv kw, Jv sh, Jv sw, Jv tp, Jv lf, Jv bt, Jv rt, .slice wa lw wc, .slice ba lb bc, Jv sm, Jv ss, Jv um, Jv us, Jv z, Jv p, Jv lo, Jv hi, Jv h, Jv w, Jv c, Jv H, Jv V, Jv C]) (t := 44)).new (c := #[Jv slo, Jv shi]) (t := 28)).new (c := #[Jv 0, Jv 0]) (t := 28)).new (c := huV []) (t := 65)
  simp only [World.size_alloc] at s0
  have S0 : Hid (St W _ ((W.heap.size + 1 + 1 + 1, huV [], 65) :: [(W.heap.size + 1 + 1, #[Jv 0, Jv 0], 28), (W.heap.size + 1, #[Jv slo, Jv shi], 28), (W.heap.size, #[Jv k, Jv a, Jv b, Jv m, Jv kh, Jv kw, Jv sh, Jv sw, Jv tp, Jv lf, Jv bt, Jv rt, .slice wa lw wc, .slice ba lb bc, Jv sm, Jv ss, Jv um, Jv us, Jv z, Jv p, Jv lo, Jv hi, Jv h, Jv w, Jv c, Jv H, Jv V, Jv C], 44)])) := s0
  clear hRw hBg hR hbi s0
  go_enter Tryz.func13, Tryz.ntmps13
  go_upto_region 2 with fail
  rw [← huV_0]
  obtain ⟨w4, hw4⟩ : ∃ w4, (((W.alloc (.cells #[Jv k, Jv a, Jv b, Jv m, Jv kh, Jv kw, Jv sh, Jv sw, Jv tp, Jv lf, Jv bt, Jv rt, .slice wa lw wc, .slice ba lb bc, Jv sm, Jv ss, Jv um, Jv us, Jv z, Jv p, Jv lo, Jv hi, Jv h, Jv w, Jv c, Jv H, Jv V, Jv C] 44)).alloc (.cells #[Jv slo, Jv shi] 28)).alloc (.cells #[Jv 0, Jv 0] 28)).alloc (.cells (huV []) 65) = w4 := ⟨_, rfl⟩
  have hz4 : w4.heap.size = W.heap.size + 1 + 1 + 1 + 1 := by rw [← hw4]; simp
  rw [hw4] at S0 ⊢
  clear hw4
  obtain ⟨-, -, -, -, -, -, c3, f3, z3, -⟩ := S0.out.rules
  go_wp2_with (refine wpList_load_row rfl 44 (.tmp 3) rfl W.heap.size rfl 44 _ (0, 0) _ S0.out.h4 Tryz.underlying44 rfl (by kernel_rfl) ?_)
  refine Calls.mono (HRw.out _ S0.out.below) ?_
  rintro e w5 ⟨⟨v, rfl, hrw⟩, hb5⟩
  obtain ⟨va, vc, hve⟩ := hrw.slice
  obtain ⟨us', hus⟩ := hrw
  have RO : Hid (RwU w5 w4.heap.size v R N us') := hus
  subst hve
  have S5 : Hid (St W w5 ((W.heap.size + 1 + 1 + 1, huV [], 65) :: [(W.heap.size + 1 + 1, #[Jv 0, Jv 0], 28), (W.heap.size + 1, #[Jv slo, Jv shi], 28), (W.heap.size, #[Jv k, Jv a, Jv b, Jv m, Jv kh, Jv kw, Jv sh, Jv sw, Jv tp, Jv lf, Jv bt, Jv rt, .slice wa lw wc, .slice ba lb bc, Jv sm, Jv ss, Jv um, Jv us, Jv z, Jv p, Jv lo, Jv hi, Jv h, Jv w, Jv c, Jv H, Jv V, Jv C], 44)])) := S0.out.call hb5
  have hz5 := hb5.size
  obtain ⟨lo', hlo⟩ : ∃ x, w4.heap.size = x := ⟨_, rfl⟩
  obtain ⟨hi', hhi⟩ : ∃ x, w5.heap.size = x := ⟨_, rfl⟩
  have HHi : Hid (w5.heap.size = hi') := hhi
  rw [hlo] at RO hz4 hz5
  rw [hhi] at hz5
  clear hus hb5 S0 c3 f3 z3 HRw hlo hhi
  go_wp2
  go_loopw [18] (fun i wr => ∃ k' : Nat, k' ≤ N ∧ i = Jv k' ∧ St W wr ((W.heap.size + 1 + 1 + 1, huV (piT (fun E => ruL (bi, bi) E) R k'), 65) :: [(W.heap.size + 1 + 1, #[Jv 0, Jv 0], 28), (W.heap.size + 1, #[Jv slo, Jv shi], 28), (W.heap.size, #[Jv k, Jv a, Jv b, Jv m, Jv kh, Jv kw, Jv sh, Jv sw, Jv tp, Jv lf, Jv bt, Jv rt, .slice wa lw wc, .slice ba lb bc, Jv sm, Jv ss, Jv um, Jv us, Jv z, Jv p, Jv lo, Jv hi, Jv h, Jv w, Jv c, Jv H, Jv V, Jv C], 44)]) ∧ Mid lo' hi' w5 wr ∧ hi' ≤ wr.heap.size) (fun i _ => N - (intOf i).toNat)
  case atStart => exact ⟨0, Nat.zero_le _, rfl, by simpa [piT] using S5.out, Mid.refl _ _ _, by rw [HHi.out]; exact Nat.le_refl _⟩
  case round =>
    obtain ⟨y, hy, rfl, s, hm, hz⟩ := hrel
    clear S5
    have S : Hid (St W wr _) := s
    have HMd : Hid (Mid lo' hi' w5 wr) := hm
    by_cases hlt : y < N
    · obtain ⟨g, cap, e0, hcu, hc1, hc2⟩ := (RO.out.mid hm (by rw [HHi.out]; exact Nat.le_refl _)).at hlt
      have hou := (RO.out.mid hm (by rw [HHi.out]; exact Nat.le_refl _)).2.2 y hlt
      have HOy : Hid (∀ w', Mid lo' hi' w5 w' → OSp w' lo' (us'.getD y undef) (R y)) := fun w' hm' => (RO.out.mid hm' (by rw [HHi.out]; exact Nat.le_refl _)).2.2 y hlt
      obtain ⟨u, hu0⟩ : ∃ u, us'.getD y undef = u := ⟨_, rfl⟩
      rw [hu0] at hcu hou HOy
      obtain ⟨M, hM⟩ : ∃ M, (R y).length = M := ⟨_, rfl⟩
      have HM : Hid ((R y).length = M) := hM
      obtain ⟨ua, uc, hue⟩ := hou.slice
      rw [hM] at hue
      subst hue
      have e1 : va = some ⟨g, 0, none⟩ := (Value.slice.inj e0).1
      subst e1
      have hM5 : M ≤ 512 := by rw [← hM]; exact HLn.out y
      clear hou hM s hm hc1 hc2 hu0
      go_upto_region 5 with fail
      go_wp2_with (refine wpList_load_row rfl 44 (.tmp 3) rfl W.heap.size rfl 44 _ (0, 0) _ S.out.h4 Tryz.underlying44 rfl (by kernel_rfl) ?_)
      refine Calls.mono (HBg.out _ S.out.below) ?_
      rintro e w6 ⟨rfl, hb6⟩
      have s7 := (S.out.call hb6).new (c := #[Jv bi, Jv bi]) (t := 28)
      have hz6 := hb6.size
      have M7 : Mid lo' hi' w5 (w6.alloc (.cells #[Jv bi, Jv bi] 28)) := (HMd.out.trans (Mid.later hb6)).trans (Mid.later (bal _ _))
      obtain ⟨Bs, hBs⟩ : ∃ B, w6.heap.size = B := ⟨_, rfl⟩
      obtain ⟨w7, hw7⟩ : ∃ w7, w6.alloc (.cells #[Jv bi, Jv bi] 28) = w7 := ⟨_, rfl⟩
      go_upto_region 6 with fail
      rw [hw7] at s7 M7
      rw [hBs] at s7 hz6
      have hz7 : w7.heap.size = Bs + 1 := by rw [← hw7, ← hBs]; simp
      have hBs2 : hi' ≤ Bs := by omega
      have HTk0 : Hid _ := rtake_any (W.heap.size + 1 + 1 + 1) (piT (fun E => ruL (bi, bi) E) R y) (bi, bi) w7 s7.h2
      obtain ⟨c1, f1, z1, c2, f2, z2, -⟩ := s7.rules
      have SS7 : Hid (St W w7 _) := s7.up1
      have HM7 : Hid (Mid lo' hi' w5 w7) := M7
      have hlh7 : ∀ x ∈ ((Bs, #[Jv bi, Jv bi], 28) :: [(W.heap.size + 1 + 1, #[Jv 0, Jv 0], 28), (W.heap.size + 1, #[Jv slo, Jv shi], 28), (W.heap.size, #[Jv k, Jv a, Jv b, Jv m, Jv kh, Jv kw, Jv sh, Jv sw, Jv tp, Jv lf, Jv bt, Jv rt, .slice wa lw wc, .slice ba lb bc, Jv sm, Jv ss, Jv um, Jv us, Jv z, Jv p, Jv lo, Jv hi, Jv h, Jv w, Jv c, Jv H, Jv V, Jv C], 44)] : List (Nat × Array Value × TypeId)), x.1 ≠ W.heap.size + 1 + 1 + 1 := by simp; omega
      clear hw7 hBs s7 M7 hb6 S HMd hcu
      go_wp2_with fail
      refine Calls.mono HTk0.out ?_
      rintro e w8 ⟨⟨vv, rfl⟩, gr, hB8⟩
      have S7 : Hid (St W w8 ((Bs, #[Jv bi, Jv bi], 28) :: (W.heap.size + 1 + 1 + 1, huV (piT (fun E => ruL (bi, bi) E) R y ++ ruT (bi, bi) (R y) 0), 65) :: [(W.heap.size + 1 + 1, #[Jv 0, Jv 0], 28), (W.heap.size + 1, #[Jv slo, Jv shi], 28), (W.heap.size, #[Jv k, Jv a, Jv b, Jv m, Jv kh, Jv kw, Jv sh, Jv sw, Jv tp, Jv lf, Jv bt, Jv rt, .slice wa lw wc, .slice ba lb bc, Jv sm, Jv ss, Jv um, Jv us, Jv z, Jv p, Jv lo, Jv hi, Jv h, Jv w, Jv c, Jv H, Jv V, Jv C], 44)])) := by unfold Hid; rw [ruT_0]; exact (SS7.out.put1 gr hB8 hlh7).up1
      have HM8 : Hid (Mid lo' hi' w5 w8) := HM7.out.trans (Mid.grown gr (fun b e => by cases e; omega))
      have hz8 := gr.size
      clear SS7 HM7 gr hB8 HTk0 c1 f1 z1 c2 f2 z2 hlh7
      go_wp2
      go_loopw [29] (fun i w' => ∃ j : Nat, j ≤ M ∧ i = Jv j ∧ St W w' ((Bs, #[Jv (suS (bi, bi) ((R y).take j)).1, Jv (suS (bi, bi) ((R y).take j)).2], 28) :: (W.heap.size + 1 + 1 + 1, huV (piT (fun E => ruL (bi, bi) E) R y ++ ruT (bi, bi) (R y) j), 65) :: [(W.heap.size + 1 + 1, #[Jv 0, Jv 0], 28), (W.heap.size + 1, #[Jv slo, Jv shi], 28), (W.heap.size, #[Jv k, Jv a, Jv b, Jv m, Jv kh, Jv kw, Jv sh, Jv sw, Jv tp, Jv lf, Jv bt, Jv rt, .slice wa lw wc, .slice ba lb bc, Jv sm, Jv ss, Jv um, Jv us, Jv z, Jv p, Jv lo, Jv hi, Jv h, Jv w, Jv c, Jv H, Jv V, Jv C], 44)]) ∧ Mid lo' hi' w5 w' ∧ hi' ≤ w'.heap.size) (fun i _ => M - (intOf i).toNat)
      case atStart => exact ⟨0, Nat.zero_le _, rfl, by simpa [suS] using S7.out, HM8.out, by omega⟩
      case round =>
        obtain ⟨j, hj, rfl, s, hm, hz'⟩ := hrel
        clear S7 HM8
        by_cases hjl : j < M
        · have hsp := (HOy.out wr hm).sv
          have hjL : j < (R y).length := by rw [HM.out]; exact hjl
          have hve := HE.out y j hjL
          have hvm := HV.out y j
          obtain ⟨a9, c9, e9, -, -, h9⟩ := hsp
          obtain ⟨g9, o9, hg9, hc9⟩ := h9 (by omega)
          have e10 : ua = some ⟨g9, o9, none⟩ := by rw [(Value.slice.inj e9).1]; exact hg9
          subst e10
          obtain ⟨q1, q2⟩ := SpV.at hc9 hjL
          obtain ⟨e1, e2, he⟩ : ∃ e1 e2, (R y).getD j (0, 0) = (e1, e2) := ⟨_, _, rfl⟩
          obtain ⟨m1, m2, hmm⟩ : ∃ m1 m2, suS (bi, bi) ((R y).take j) = (m1, m2) := ⟨_, _, rfl⟩
          have HS : Hid (suS (bi, bi) ((R y).take (j + 1)) = (m1 + e1, m2 + e2)) := by unfold Hid; rw [suS_take _ hjL he, hmm]; rfl
          have HRu : Hid (ruT (bi, bi) (R y) j ++ [(m1 + e1, m2 + e2)] = ruT (bi, bi) (R y) (j + 1)) := by unfold Hid; rw [ruT_succ, HS.out]
          rw [he] at q1 q2 hve
          rw [hmm] at s hvm
          simp only at q1 q2 s
          have HP : Hid (∀ w, _) := fun w => rplus_any (m1, m2) (e1, e2) w hvm hve
          have S : Hid (St W wr _) := s
          have HMd : Hid (Mid lo' hi' w5 wr) := hm
          obtain ⟨c1, f1, z1, -⟩ := s.rules
          clear e9 h9 hg9 hc9 he hmm s hm hve hvm
          go_wp2_with fail
          refine Calls.mono (HP.out _) ?_
          rintro e w8 ⟨rfl, hb8⟩
          have hb9 := (bal wr (.cells #[Jv e1, Jv e2] 28)).trans (hb8.mono (by simp))
          have s9 := S.out.call hb9
          have z9 := hb9.size
          clear c1 f1 z1 q1 q2
          obtain ⟨c1, f1, z1, -⟩ := s9.rules
          have S9 : Hid (St W _ _) := s9.set2 (u := Jv (m1 + e1)) (v := Jv (m2 + e2)) (by simp; omega)
          have M9 : Hid (Mid lo' hi' w5 _) := ((HMd.out.trans (Mid.later hb9)).trans (Mid.set _ (B := Bs) (i := 0) (v := Jv (m1 + e1)) (.inr hBs2))).trans (Mid.set _ (B := Bs) (i := 1) (v := Jv (m2 + e2)) (.inr hBs2))
          simp only [plS]
          have hBs3 : Bs ≠ W.heap.size + 1 + 1 + 1 := by omega
          have HTk : Hid _ := rtake_any (W.heap.size + 1 + 1 + 1) (piT (fun E => ruL (bi, bi) E) R y ++ ruT (bi, bi) (R y) j) (m1 + e1, m2 + e2) _ S9.out.h2
          rw [List.append_assoc, HRu.out] at HTk
          have hlh : ∀ x ∈ ((Bs, #[Jv (m1 + e1), Jv (m2 + e2)], 28) :: [(W.heap.size + 1 + 1, #[Jv 0, Jv 0], 28), (W.heap.size + 1, #[Jv slo, Jv shi], 28), (W.heap.size, #[Jv k, Jv a, Jv b, Jv m, Jv kh, Jv kw, Jv sh, Jv sw, Jv tp, Jv lf, Jv bt, Jv rt, .slice wa lw wc, .slice ba lb bc, Jv sm, Jv ss, Jv um, Jv us, Jv z, Jv p, Jv lo, Jv hi, Jv h, Jv w, Jv c, Jv H, Jv V, Jv C], 44)] : List (Nat × Array Value × TypeId)), x.1 ≠ W.heap.size + 1 + 1 + 1 := by simp; omega
          clear s9 hb8 hb9 S HMd HP
          go_wp2_with fail
          refine Calls.mono HTk.out ?_
          rintro e w10 ⟨⟨vv, rfl⟩, gr, hB8⟩
          have S10 : Hid (St W w10 _) := (S9.out.up1.put1 gr hB8 hlh).up1
          have M10 : Hid (Mid lo' hi' w5 w10) := M9.out.trans (Mid.grown gr (fun b e => by cases e; omega))
          have hz10 := gr.size
          simp only [World.size_setCell] at hz10
          clear S9 M9 gr hB8 HTk hlh c1 f1 z1
          go_wp2
          go_roundw
          case rel => exact ⟨j + 1, by omega, by go_num, by rw [HS.out]; exact S10.out, M10.out, by omega⟩
          case measure => simp [intOf]; omega
        · obtain rfl : j = M := by omega
          have e5 : ruT (bi, bi) (R y) j = ruL (bi, bi) (R y) := by rw [← HM.out]; exact ruT_all _ _
          rw [e5, ← HPs.out y] at s
          have S8 : Hid (St W wr _) := s.tail
          have M8 : Hid (Mid lo' hi' w5 wr) := hm
          clear s hm e5
          go_wp2
          go_roundw
          case rel => exact ⟨y + 1, by omega, by go_num, S8.out, M8.out, by omega⟩
          case measure => simp [intOf]; omega
    · obtain rfl : y = N := by omega
      obtain ⟨c1, f1, z1, c2, f2, z2, -⟩ := s.rules
      have HB : Hid (Below W.heap.size W _) := s.tail.out2 (i := 0) (j := 1) (u := Jv (hbR bi R y).1) (v := Jv (hbR bi R y).2)
      unfold huV at c1
      rw [← HRes.out] at c1
      obtain ⟨m1, m2, hmm⟩ : ∃ m1 m2, hbR bi R y = (m1, m2) := ⟨_, _, rfl⟩
      have HMM : Hid (hbR bi R y = (m1, m2)) := hmm
      rw [hmm] at c1 HB
      simp only at c1 HB
      clear s hm S hmm
      go_wp2
      exact bodyPost_ret (v := .agg #[Jv m1, Jv m2]) (by simp [results, Tryz.results13, go_sem, c2]) rfl ⟨by rw [HMM.out], HB.out⟩
end Go.Proofs.YtcphealigifdiaaGreat

/- The document's answers of layer 13 at an op that is there. -/
namespace Go.Proofs.YtcphealigifdiaaGreat
open Go.ChangeShapes Go.WideShapes Go.ChangeAt Go.RowKit
set_option linter.unusedVariables false
theorem mem_pb1 {E : List (Int × Int)} {x : Int × Int} : x ∈ paL 1 E ++ E ↔ x ∈ E := by
  rw [List.mem_append, mem_paL (by omega)]
  constructor
  · rintro (⟨i, hi, rfl⟩ | h)
    · unfold psm
      rw [Nat.div_one, Nat.mul_one, Nat.mod_one, Nat.zero_add]
      rw [List.take_one, List.head?_drop, List.getElem?_eq_getElem hi]
      simp only [Option.toList, suS, List.foldl, plS, Int.zero_add]
      exact List.getElem_mem hi
    · exact h
  · exact .inr
theorem hbD_1 {R : Nat → List (Int × Int)} {N : Nat} (hN : 0 < N) (h0 : 0 < (R 0).length) : hbD 1 R N = hbP R N := by
  have h : piT (fun E => paL 1 E ++ E) R N ≠ [] := fun e => by
    have : (R 0).getD 0 (0, 0) ∈ piT (fun E => paL 1 E ++ E) R N := mem_piT.2 ⟨0, hN, List.mem_append_right _ (by rw [List.getD_eq_getElem?_getD, List.getElem?_eq_getElem h0]; exact List.getElem_mem _)⟩
    rw [e] at this; cases this
  refine huA_eq h fun x => ?_
  rw [mem_piT, mem_piT]
  constructor
  · rintro ⟨k, hk, hx⟩; exact ⟨k, hk, mem_pb1.1 hx⟩
  · rintro ⟨k, hk, hx⟩; exact ⟨k, hk, mem_pb1.2 hx⟩
theorem rask (h w c lo hi ot : Int) (oa : Option Addr) (on oc : Nat) (O : Nat → Nat → Int) (Z B : Nat → List Int) (W : World) (hL : LRow W oa on oc O Z B) (hon : on ≤ 1000000000000) (op ch : Int) :
    (∃ E : Int, E ≠ 0 ∧ (∀ W', Below W.heap.size W W' → Calls Tryz.prog 33 #[.agg #[Jv h, Jv w, Jv c, Jv lo, Jv hi, .slice oa on oc, Jv ot], Jv op, Jv ch, Jv 0] W' fun e w' => e = .returned (.tuple #[.slice none 0 0, Jv 0, Jv E]) ∧ Below W'.heap.size W' w') ∧
      (∀ W', Below W.heap.size W W' → Calls Tryz.prog 22 #[.agg #[Jv h, Jv w, Jv c, Jv lo, Jv hi, .slice oa on oc, Jv ot], Jv op, Jv ch] W' fun e w' => e = .returned (.tuple #[.agg #[Jv 0, Jv 0, Jv 0, Jv 0, Jv 0, Jv 0, Jv 0, Jv 0, Jv 0, Jv 0, Jv 0, Jv 0, .slice none 0 0, .slice none 0 0, Jv 0, Jv 0, Jv 0, Jv 0, Jv 0, Jv 0, Jv 0, Jv 0, Jv 0, Jv 0, Jv 0, Jv 0, Jv 0, Jv 0], Jv E]) ∧ Below W'.heap.size W' w')) ∨
    (∃ (RL : List (Int × Int × Int)) (Rw : Int), gtR O h w c lo hi ot on = (0, 0, RL, Rw) ∧ ∃ (i : Nat) (x : Addr) (wa : Option Addr) (lw cw : Nat) (ba : Option Addr) (lb cb : Nat) (x0 y0 z0 H V C : Int), op = (i : Int) + 1 ∧ Fnd W oa on O Z B RL i x wa lw cw ba lb cb x0 y0 z0 H V C ∧ (1 ≤ ch ∧ ch ≤ C)) := by
  obtain ⟨E, hf⟩ : ∃ E, fiE O h w c lo hi ot on op = E := ⟨_, rfl⟩
  by_cases hE : E = 0
  · subst hE
    obtain ⟨RL, Rw, hR, i, x, wa, lw, cw, ba, lb, cb, x0, y0, z0, H, V, C, rfl, hF⟩ := found h w c lo hi ot oa on oc O Z B W hL op hf
    by_cases hch : 1 ≤ ch ∧ ch ≤ C
    · exact .inr ⟨RL, Rw, hR, i, x, wa, lw, cw, ba, lb, cb, x0, y0, z0, H, V, C, rfl, hF, hch⟩
    · refine .inl ⟨3, by omega, fun W' hb => of_place h w c lo hi ot oa on oc O Z B W' (hL.below hb) ch 0 RL Rw hR i x wa lw cw ba lb cb x0 y0 z0 H V C (hF.below hb) (fun q => hch q.1), fun W' hb => ?_⟩
      by_cases h0 : 0 ≤ ch ∧ ch ≤ C
      · obtain rfl : ch = 0 := by omega
        exact fch_0 (O := O) (i := i) (x := x) (wa := wa) (lw := lw) (cw := cw) (ba := ba) (lb := lb) (cb := cb) (x0 := x0) (y0 := y0) (z0 := z0) (H := H) (V := V) (C := C) h w c lo hi ot oa on oc W' ((i : Int) + 1) (fun W'' hb' => rfind_ok h w c lo hi ot oa on oc O Z B W'' (hL.below (hb.trans (hb'.mono hb.size))) hon 0 RL Rw hR i x wa lw cw ba lb cb x0 y0 z0 H V C (hF.below (hb.trans (hb'.mono hb.size))) h0)
      · exact fch_z (x9 := 0) h w c lo hi ot oa on oc W' ((i : Int) + 1) ch 3 (by omega) (fun W'' hb' => rfind_no h w c lo hi ot oa on oc O Z B W'' (hL.below (hb.trans (hb'.mono hb.size))) hon ch RL Rw hR i x wa lw cw ba lb cb x0 y0 z0 H V C (hF.below (hb.trans (hb'.mono hb.size))) h0)
  · exact .inl ⟨E, hE, fun W' hb => of_bad h w c lo hi ot oa on oc O Z B W' (hL.below hb) op ch 0 E hf hE, fun W' hb => fch_z (x9 := 0) h w c lo hi ot oa on oc W' op ch E (by omega) (fun W'' hb' => rfind_bad h w c lo hi ot oa on oc O Z B W'' (hL.below (hb.trans (hb'.mono hb.size))) hon op ch E hf hE)⟩
theorem rfc_ok (h w c lo hi ot : Int) (oa : Option Addr) (on oc : Nat) (O : Nat → Nat → Int) (Z B : Nat → List Int) (W : World) (hL : LRow W oa on oc O Z B) (hon : on ≤ 1000000000000) (ch : Int) (RL : List (Int × Int × Int)) (Rw : Int) (hR : gtR O h w c lo hi ot on = (0, 0, RL, Rw)) (i : Nat) (x : Addr) (wa : Option Addr) (lw cw : Nat) (ba : Option Addr) (lb cb : Nat) (x0 y0 z0 H V C : Int) (hF : Fnd W oa on O Z B RL i x wa lw cw ba lb cb x0 y0 z0 H V C) (hch : 1 ≤ ch ∧ ch ≤ C) : ∀ W', Below W.heap.size W W' → Calls Tryz.prog 22 #[.agg #[Jv h, Jv w, Jv c, Jv lo, Jv hi, .slice oa on oc, Jv ot], Jv ((i : Int) + 1), Jv ch] W' fun e w' => e = .returned (.tuple #[.agg #[Jv (O i 0), Jv (O i 1), Jv (O i 2), Jv (O i 3), Jv (O i 4), Jv (O i 5), Jv (O i 6), Jv (O i 7), Jv (O i 8), Jv (O i 9), Jv (O i 10), Jv (O i 11), .slice wa lw cw, .slice ba lb cb, Jv (O i 14), Jv (O i 15), Jv (O i 16), Jv (O i 17), Jv (O i 18), Jv (O i 19), Jv (O i 20), Jv (O i 21), Jv x0, Jv y0, Jv z0, Jv H, Jv V, Jv C], Jv 0]) ∧ Below W'.heap.size W' w' := fun W' hb =>
  fch_r (O := O) (i := i) (x := x) (wa := wa) (lw := lw) (cw := cw) (ba := ba) (lb := lb) (cb := cb) (x0 := x0) (y0 := y0) (z0 := z0) (H := H) (V := V) (C := C) h w c lo hi ot oa on oc W' ((i : Int) + 1) ch 0 (fun q => by omega) (fun W'' hb' => rfind_ok h w c lo hi ot oa on oc O Z B W'' (hL.below (hb.trans (hb'.mono hb.size))) hon ch RL Rw hR i x wa lw cw ba lb cb x0 y0 z0 H V C (hF.below (hb.trans (hb'.mono hb.size))) ⟨by omega, hch.2⟩)
theorem rrw_ok (h w c lo hi ot : Int) (oa : Option Addr) (on oc : Nat) (O : Nat → Nat → Int) (Z B : Nat → List Int) (W : World) (hL : LRow W oa on oc O Z B) (ch : Int) (RL : List (Int × Int × Int)) (Rw : Int) (hR : gtR O h w c lo hi ot on = (0, 0, RL, Rw)) (i : Nat) (x : Addr) (wa : Option Addr) (lw cw : Nat) (ba : Option Addr) (lb cb : Nat) (x0 y0 z0 H V C : Int) (hF : Fnd W oa on O Z B RL i x wa lw cw ba lb cb x0 y0 z0 H V C) (hch : 1 ≤ ch ∧ ch ≤ C) (slo shi : Int) (hs : -128 ≤ slo ∧ slo ≤ shi ∧ shi ≤ 127) : ∀ W', Below W.heap.size W W' → Calls Tryz.prog 25 #[.agg #[Jv (O i 0), Jv (O i 1), Jv (O i 2), Jv (O i 3), Jv (O i 4), Jv (O i 5), Jv (O i 6), Jv (O i 7), Jv (O i 8), Jv (O i 9), Jv (O i 10), Jv (O i 11), .slice wa lw cw, .slice ba lb cb, Jv (O i 14), Jv (O i 15), Jv (O i 16), Jv (O i 17), Jv (O i 18), Jv (O i 19), Jv (O i 20), Jv (O i 21), Jv x0, Jv y0, Jv z0, Jv H, Jv V, Jv C], Jv ch, .agg #[Jv slo, Jv shi]] W' fun e w' => (∃ v, e = .returned v ∧ RwO w' W'.heap.size v (fun (j : Nat) => enL slo shi (O i 19) (siL (O i 0) (O i 4) (O i 5) (O i 6) (O i 7) (O i 8) (O i 9) (O i 10) (O i 11) x0 y0 z0 ch (j : Int) (Z i))) (H * V).toNat) ∧ Below W'.heap.size W' w' := fun W' hb => by
  have hSit := hF.2.2.2.2.2.2.2.2.2.1
  have hz := hF.2.2.2.2.2.1.2.2.2.1
  obtain ⟨-, -, -, -, hp, hbi, hHV⟩ := bfacts hL RL Rw hR i x wa lw cw ba lb cb x0 y0 z0 H V C hF hch
  have e : (((H * V).toNat : Nat) : Int) = H * V := by omega
  exact rrows_any (O i 0) (O i 1) (O i 2) (O i 3) (O i 4) (O i 5) (O i 6) (O i 7) (O i 8) (O i 9) (O i 10) (O i 11) wa lw cw ba lb cb (O i 14) (O i 15) (O i 16) (O i 17) (O i 18) (O i 19) (O i 20) (O i 21) x0 y0 z0 H V C W' ch slo shi (fun (j : Nat) => enL slo shi (O i 19) (siL (O i 0) (O i 4) (O i 5) (O i 6) (O i 7) (O i 8) (O i 9) (O i 10) (O i 11) x0 y0 z0 ch (j : Int) (Z i))) (fun (j : Nat) => siL (O i 0) (O i 4) (O i 5) (O i 6) (O i 7) (O i 8) (O i 9) (O i 10) (O i 11) x0 y0 z0 ch (j : Int) (Z i)) (H * V).toNat (by omega) (fun j => rfl) (fun j => ⟨(siL_facts hSit hz hch _).1, fun t ht => ((siL_facts hSit hz hch _).2 t ht).1⟩) hs hp (fun W'' => by rw [e]; exact rpos_any (O i 0) (O i 1) (O i 2) (O i 3) (O i 4) (O i 5) (O i 6) (O i 7) (O i 8) (O i 9) (O i 10) (O i 11) wa lw cw ba lb cb (O i 14) (O i 15) (O i 16) (O i 17) (O i 18) (O i 19) (O i 20) (O i 21) x0 y0 z0 H V C W'' hSit.2.2.1) (fun W'' j hb' hj => rterms_any (O i 0) (O i 1) (O i 2) (O i 3) (O i 4) (O i 5) (O i 6) (O i 7) (O i 8) (O i 9) (O i 10) (O i 11) wa lw cw ba lb cb (O i 14) (O i 15) (O i 16) (O i 17) (O i 18) (O i 19) (O i 20) (O i 21) x0 y0 z0 H V C W'' (Z i) (hF.2.2.2.2.2.1.below (hb.trans (hb'.mono hb.size))) hSit ch j hch ⟨by omega, by omega⟩)
theorem rbg_ok (h w c lo hi ot : Int) (oa : Option Addr) (on oc : Nat) (O : Nat → Nat → Int) (Z B : Nat → List Int) (W : World) (hL : LRow W oa on oc O Z B) (ch : Int) (RL : List (Int × Int × Int)) (Rw : Int) (hR : gtR O h w c lo hi ot on = (0, 0, RL, Rw)) (i : Nat) (x : Addr) (wa : Option Addr) (lw cw : Nat) (ba : Option Addr) (lb cb : Nat) (x0 y0 z0 H V C : Int) (hF : Fnd W oa on O Z B RL i x wa lw cw ba lb cb x0 y0 z0 H V C) (hch : 1 ≤ ch ∧ ch ≤ C) : ∀ W', Below W.heap.size W W' → Calls Tryz.prog 26 #[.agg #[Jv (O i 0), Jv (O i 1), Jv (O i 2), Jv (O i 3), Jv (O i 4), Jv (O i 5), Jv (O i 6), Jv (O i 7), Jv (O i 8), Jv (O i 9), Jv (O i 10), Jv (O i 11), .slice wa lw cw, .slice ba lb cb, Jv (O i 14), Jv (O i 15), Jv (O i 16), Jv (O i 17), Jv (O i 18), Jv (O i 19), Jv (O i 20), Jv (O i 21), Jv x0, Jv y0, Jv z0, Jv H, Jv V, Jv C], Jv ch] W' fun e w' => e = .returned (.agg #[Jv (biA (O i 0) ch (B i)), Jv (biA (O i 0) ch (B i))]) ∧ Below W'.heap.size W' w' := fun W' hb =>
  rbeg_any (O i 0) (O i 1) (O i 2) (O i 3) (O i 4) (O i 5) (O i 6) (O i 7) (O i 8) (O i 9) (O i 10) (O i 11) wa lw cw ba lb cb (O i 14) (O i 15) (O i 16) (O i 17) (O i 18) (O i 19) (O i 20) (O i 21) x0 y0 z0 H V C W' (biA (O i 0) ch (B i)) ch (fun W'' hb' => rbias_any (O i 0) (O i 1) (O i 2) (O i 3) (O i 4) (O i 5) (O i 6) (O i 7) (O i 8) (O i 9) (O i 10) (O i 11) wa lw cw ba lb cb (O i 14) (O i 15) (O i 16) (O i 17) (O i 18) (O i 19) (O i 20) (O i 21) x0 y0 z0 H V C W'' (B i) (hF.2.2.2.2.2.2.1.below (hb.trans (hb'.mono hb.size))) hF.2.2.2.2.2.2.2.2.2.1 ch hch)
theorem dto_ok (h w c lo hi ot : Int) (oa : Option Addr) (on oc : Nat) (O : Nat → Nat → Int) (Z B : Nat → List Int) (W : World) (hL : LRow W oa on oc O Z B) (ch : Int) (RL : List (Int × Int × Int)) (Rw : Int) (hR : gtR O h w c lo hi ot on = (0, 0, RL, Rw)) (i : Nat) (x : Addr) (wa : Option Addr) (lw cw : Nat) (ba : Option Addr) (lb cb : Nat) (x0 y0 z0 H V C : Int) (hF : Fnd W oa on O Z B RL i x wa lw cw ba lb cb x0 y0 z0 H V C) (hch : 1 ≤ ch ∧ ch ≤ C) (slo shi : Int) (hs : -128 ≤ slo ∧ slo ≤ shi ∧ shi ≤ 127) : ∀ W', Below W.heap.size W W' → Calls Tryz.prog 10 #[.agg #[Jv (O i 0), Jv (O i 1), Jv (O i 2), Jv (O i 3), Jv (O i 4), Jv (O i 5), Jv (O i 6), Jv (O i 7), Jv (O i 8), Jv (O i 9), Jv (O i 10), Jv (O i 11), .slice wa lw cw, .slice ba lb cb, Jv (O i 14), Jv (O i 15), Jv (O i 16), Jv (O i 17), Jv (O i 18), Jv (O i 19), Jv (O i 20), Jv (O i 21), Jv x0, Jv y0, Jv z0, Jv H, Jv V, Jv C], Jv ch, .agg #[Jv slo, Jv shi]] W' fun e w' => e = .returned (.agg #[Jv (hbT (biA (O i 0) ch (B i)) (fun (j : Nat) => enL slo shi (O i 19) (siL (O i 0) (O i 4) (O i 5) (O i 6) (O i 7) (O i 8) (O i 9) (O i 10) (O i 11) x0 y0 z0 ch (j : Int) (Z i))) (H * V).toNat).1, Jv (hbT (biA (O i 0) ch (B i)) (fun (j : Nat) => enL slo shi (O i 19) (siL (O i 0) (O i 4) (O i 5) (O i 6) (O i 7) (O i 8) (O i 9) (O i 10) (O i 11) x0 y0 z0 ch (j : Int) (Z i))) (H * V).toNat).2]) ∧ Below W'.heap.size W' w' := fun W' hb => by
  have hSit := hF.2.2.2.2.2.2.2.2.2.1
  have hz := hF.2.2.2.2.2.1.2.2.2.1
  obtain ⟨-, -, -, -, hp, hbi, hHV⟩ := bfacts hL RL Rw hR i x wa lw cw ba lb cb x0 y0 z0 H V C hF hch
  exact rtot_any (O i 0) (O i 1) (O i 2) (O i 3) (O i 4) (O i 5) (O i 6) (O i 7) (O i 8) (O i 9) (O i 10) (O i 11) wa lw cw ba lb cb (O i 14) (O i 15) (O i 16) (O i 17) (O i 18) (O i 19) (O i 20) (O i 21) x0 y0 z0 H V C W' ch slo shi (biA (O i 0) ch (B i)) (fun (j : Nat) => enL slo shi (O i 19) (siL (O i 0) (O i 4) (O i 5) (O i 6) (O i 7) (O i 8) (O i 9) (O i 10) (O i 11) x0 y0 z0 ch (j : Int) (Z i))) (H * V).toNat (by omega) (fun j => have q := row_facts hSit hz hch hs hp (j : Int); ⟨q.1, q.2.2⟩) (fun W'' hb' => rrw_ok h w c lo hi ot oa on oc O Z B W hL ch RL Rw hR i x wa lw cw ba lb cb x0 y0 z0 H V C hF hch slo shi hs W'' (hb.trans (hb'.mono hb.size))) hbi (fun W'' hb' => rbg_ok h w c lo hi ot oa on oc O Z B W hL ch RL Rw hR i x wa lw cw ba lb cb x0 y0 z0 H V C hF hch W'' (hb.trans (hb'.mono hb.size)))
theorem dru_ok (h w c lo hi ot : Int) (oa : Option Addr) (on oc : Nat) (O : Nat → Nat → Int) (Z B : Nat → List Int) (W : World) (hL : LRow W oa on oc O Z B) (ch : Int) (RL : List (Int × Int × Int)) (Rw : Int) (hR : gtR O h w c lo hi ot on = (0, 0, RL, Rw)) (i : Nat) (x : Addr) (wa : Option Addr) (lw cw : Nat) (ba : Option Addr) (lb cb : Nat) (x0 y0 z0 H V C : Int) (hF : Fnd W oa on O Z B RL i x wa lw cw ba lb cb x0 y0 z0 H V C) (hch : 1 ≤ ch ∧ ch ≤ C) (slo shi : Int) (hs : -128 ≤ slo ∧ slo ≤ shi ∧ shi ≤ 127) : ∀ W', Below W.heap.size W W' → Calls Tryz.prog 13 #[.agg #[Jv (O i 0), Jv (O i 1), Jv (O i 2), Jv (O i 3), Jv (O i 4), Jv (O i 5), Jv (O i 6), Jv (O i 7), Jv (O i 8), Jv (O i 9), Jv (O i 10), Jv (O i 11), .slice wa lw cw, .slice ba lb cb, Jv (O i 14), Jv (O i 15), Jv (O i 16), Jv (O i 17), Jv (O i 18), Jv (O i 19), Jv (O i 20), Jv (O i 21), Jv x0, Jv y0, Jv z0, Jv H, Jv V, Jv C], Jv ch, .agg #[Jv slo, Jv shi]] W' fun e w' => e = .returned (.agg #[Jv (hbR (biA (O i 0) ch (B i)) (fun (j : Nat) => enL slo shi (O i 19) (siL (O i 0) (O i 4) (O i 5) (O i 6) (O i 7) (O i 8) (O i 9) (O i 10) (O i 11) x0 y0 z0 ch (j : Int) (Z i))) (H * V).toNat).1, Jv (hbR (biA (O i 0) ch (B i)) (fun (j : Nat) => enL slo shi (O i 19) (siL (O i 0) (O i 4) (O i 5) (O i 6) (O i 7) (O i 8) (O i 9) (O i 10) (O i 11) x0 y0 z0 ch (j : Int) (Z i))) (H * V).toNat).2]) ∧ Below W'.heap.size W' w' := fun W' hb => by
  have hSit := hF.2.2.2.2.2.2.2.2.2.1
  have hz := hF.2.2.2.2.2.1.2.2.2.1
  obtain ⟨-, -, -, -, hp, hbi, hHV⟩ := bfacts hL RL Rw hR i x wa lw cw ba lb cb x0 y0 z0 H V C hF hch
  exact rrun_any (O i 0) (O i 1) (O i 2) (O i 3) (O i 4) (O i 5) (O i 6) (O i 7) (O i 8) (O i 9) (O i 10) (O i 11) wa lw cw ba lb cb (O i 14) (O i 15) (O i 16) (O i 17) (O i 18) (O i 19) (O i 20) (O i 21) x0 y0 z0 H V C W' ch slo shi (biA (O i 0) ch (B i)) (fun (j : Nat) => enL slo shi (O i 19) (siL (O i 0) (O i 4) (O i 5) (O i 6) (O i 7) (O i 8) (O i 9) (O i 10) (O i 11) x0 y0 z0 ch (j : Int) (Z i))) (H * V).toNat (by omega) (fun j => have q := row_facts hSit hz hch hs hp (j : Int); ⟨q.1, q.2.2⟩) (fun W'' hb' => rrw_ok h w c lo hi ot oa on oc O Z B W hL ch RL Rw hR i x wa lw cw ba lb cb x0 y0 z0 H V C hF hch slo shi hs W'' (hb.trans (hb'.mono hb.size))) hbi (fun W'' hb' => rbg_ok h w c lo hi ot oa on oc O Z B W hL ch RL Rw hR i x wa lw cw ba lb cb x0 y0 z0 H V C hF hch W'' (hb.trans (hb'.mono hb.size)))
theorem dpa_ok (h w c lo hi ot : Int) (oa : Option Addr) (on oc : Nat) (O : Nat → Nat → Int) (Z B : Nat → List Int) (W : World) (hL : LRow W oa on oc O Z B) (ch : Int) (RL : List (Int × Int × Int)) (Rw : Int) (hR : gtR O h w c lo hi ot on = (0, 0, RL, Rw)) (i : Nat) (x : Addr) (wa : Option Addr) (lw cw : Nat) (ba : Option Addr) (lb cb : Nat) (x0 y0 z0 H V C : Int) (hF : Fnd W oa on O Z B RL i x wa lw cw ba lb cb x0 y0 z0 H V C) (hch : 1 ≤ ch ∧ ch ≤ C) (slo shi : Int) (hs : -128 ≤ slo ∧ slo ≤ shi ∧ shi ≤ 127) (d : Nat) (hd : 0 < d) (hd2 : d ≤ 512) : ∀ W', Below W.heap.size W W' → Calls Tryz.prog 16 #[.agg #[Jv (O i 0), Jv (O i 1), Jv (O i 2), Jv (O i 3), Jv (O i 4), Jv (O i 5), Jv (O i 6), Jv (O i 7), Jv (O i 8), Jv (O i 9), Jv (O i 10), Jv (O i 11), .slice wa lw cw, .slice ba lb cb, Jv (O i 14), Jv (O i 15), Jv (O i 16), Jv (O i 17), Jv (O i 18), Jv (O i 19), Jv (O i 20), Jv (O i 21), Jv x0, Jv y0, Jv z0, Jv H, Jv V, Jv C], Jv ch, .agg #[Jv slo, Jv shi], Jv (d : Int)] W' fun e w' => e = .returned (.agg #[Jv (hbD d (fun (j : Nat) => enL slo shi (O i 19) (siL (O i 0) (O i 4) (O i 5) (O i 6) (O i 7) (O i 8) (O i 9) (O i 10) (O i 11) x0 y0 z0 ch (j : Int) (Z i))) (H * V).toNat).1, Jv (hbD d (fun (j : Nat) => enL slo shi (O i 19) (siL (O i 0) (O i 4) (O i 5) (O i 6) (O i 7) (O i 8) (O i 9) (O i 10) (O i 11) x0 y0 z0 ch (j : Int) (Z i))) (H * V).toNat).2]) ∧ Below W'.heap.size W' w' := fun W' hb => by
  have hSit := hF.2.2.2.2.2.2.2.2.2.1
  have hz := hF.2.2.2.2.2.1.2.2.2.1
  obtain ⟨-, -, -, -, hp, hbi, hHV⟩ := bfacts hL RL Rw hR i x wa lw cw ba lb cb x0 y0 z0 H V C hF hch
  exact rprt_any (O i 0) (O i 1) (O i 2) (O i 3) (O i 4) (O i 5) (O i 6) (O i 7) (O i 8) (O i 9) (O i 10) (O i 11) wa lw cw ba lb cb (O i 14) (O i 15) (O i 16) (O i 17) (O i 18) (O i 19) (O i 20) (O i 21) x0 y0 z0 H V C W' ch slo shi (biA (O i 0) ch (B i)) (fun (j : Nat) => enL slo shi (O i 19) (siL (O i 0) (O i 4) (O i 5) (O i 6) (O i 7) (O i 8) (O i 9) (O i 10) (O i 11) x0 y0 z0 ch (j : Int) (Z i))) (H * V).toNat (by omega) (fun j => have q := row_facts hSit hz hch hs hp (j : Int); ⟨q.1, q.2.2⟩) (fun W'' hb' => rrw_ok h w c lo hi ot oa on oc O Z B W hL ch RL Rw hR i x wa lw cw ba lb cb x0 y0 z0 H V C hF hch slo shi hs W'' (hb.trans (hb'.mono hb.size))) d hd hd2 (by omega) (row_facts hSit hz hch hs hp ((0 : Nat) : Int)).2.1
theorem dpr_ok (h w c lo hi ot : Int) (oa : Option Addr) (on oc : Nat) (O : Nat → Nat → Int) (Z B : Nat → List Int) (W : World) (hL : LRow W oa on oc O Z B) (ch : Int) (RL : List (Int × Int × Int)) (Rw : Int) (hR : gtR O h w c lo hi ot on = (0, 0, RL, Rw)) (i : Nat) (x : Addr) (wa : Option Addr) (lw cw : Nat) (ba : Option Addr) (lb cb : Nat) (x0 y0 z0 H V C : Int) (hF : Fnd W oa on O Z B RL i x wa lw cw ba lb cb x0 y0 z0 H V C) (hch : 1 ≤ ch ∧ ch ≤ C) (slo shi : Int) (hs : -128 ≤ slo ∧ slo ≤ shi ∧ shi ≤ 127) : ∀ W', Below W.heap.size W W' → Calls Tryz.prog 11 #[.agg #[Jv (O i 0), Jv (O i 1), Jv (O i 2), Jv (O i 3), Jv (O i 4), Jv (O i 5), Jv (O i 6), Jv (O i 7), Jv (O i 8), Jv (O i 9), Jv (O i 10), Jv (O i 11), .slice wa lw cw, .slice ba lb cb, Jv (O i 14), Jv (O i 15), Jv (O i 16), Jv (O i 17), Jv (O i 18), Jv (O i 19), Jv (O i 20), Jv (O i 21), Jv x0, Jv y0, Jv z0, Jv H, Jv V, Jv C], Jv ch, .agg #[Jv slo, Jv shi]] W' fun e w' => e = .returned (.agg #[Jv (hbP (fun (j : Nat) => enL slo shi (O i 19) (siL (O i 0) (O i 4) (O i 5) (O i 6) (O i 7) (O i 8) (O i 9) (O i 10) (O i 11) x0 y0 z0 ch (j : Int) (Z i))) (H * V).toNat).1, Jv (hbP (fun (j : Nat) => enL slo shi (O i 19) (siL (O i 0) (O i 4) (O i 5) (O i 6) (O i 7) (O i 8) (O i 9) (O i 10) (O i 11) x0 y0 z0 ch (j : Int) (Z i))) (H * V).toNat).2]) ∧ Below W'.heap.size W' w' := fun W' hb => by
  have hSit := hF.2.2.2.2.2.2.2.2.2.1
  have hz := hF.2.2.2.2.2.1.2.2.2.1
  obtain ⟨-, -, -, -, hp, hbi, hHV⟩ := bfacts hL RL Rw hR i x wa lw cw ba lb cb x0 y0 z0 H V C hF hch
  rw [← hbD_1 (R := (fun (j : Nat) => enL slo shi (O i 19) (siL (O i 0) (O i 4) (O i 5) (O i 6) (O i 7) (O i 8) (O i 9) (O i 10) (O i 11) x0 y0 z0 ch (j : Int) (Z i)))) (N := (H * V).toNat) (by omega) (row_facts hSit hz hch hs hp ((0 : Nat) : Int)).2.1]
  exact rprd_any (O i 0) (O i 1) (O i 2) (O i 3) (O i 4) (O i 5) (O i 6) (O i 7) (O i 8) (O i 9) (O i 10) (O i 11) wa lw cw ba lb cb (O i 14) (O i 15) (O i 16) (O i 17) (O i 18) (O i 19) (O i 20) (O i 21) x0 y0 z0 H V C W' ch slo shi _ _ (fun W'' hb' => dpa_ok h w c lo hi ot oa on oc O Z B W hL ch RL Rw hR i x wa lw cw ba lb cb x0 y0 z0 H V C hF hch slo shi hs 1 (by omega) (by omega) W'' (hb.trans (hb'.mono hb.size)))
theorem dle_ok (h w c lo hi ot : Int) (oa : Option Addr) (on oc : Nat) (O : Nat → Nat → Int) (Z B : Nat → List Int) (W : World) (hL : LRow W oa on oc O Z B) (ch : Int) (RL : List (Int × Int × Int)) (Rw : Int) (hR : gtR O h w c lo hi ot on = (0, 0, RL, Rw)) (i : Nat) (x : Addr) (wa : Option Addr) (lw cw : Nat) (ba : Option Addr) (lb cb : Nat) (x0 y0 z0 H V C : Int) (hF : Fnd W oa on O Z B RL i x wa lw cw ba lb cb x0 y0 z0 H V C) (hch : 1 ≤ ch ∧ ch ≤ C) : ∀ W', Below W.heap.size W W' → Calls Tryz.prog 15 #[.agg #[Jv (O i 0), Jv (O i 1), Jv (O i 2), Jv (O i 3), Jv (O i 4), Jv (O i 5), Jv (O i 6), Jv (O i 7), Jv (O i 8), Jv (O i 9), Jv (O i 10), Jv (O i 11), .slice wa lw cw, .slice ba lb cb, Jv (O i 14), Jv (O i 15), Jv (O i 16), Jv (O i 17), Jv (O i 18), Jv (O i 19), Jv (O i 20), Jv (O i 21), Jv x0, Jv y0, Jv z0, Jv H, Jv V, Jv C]] W' fun e w' => e = .returned (Jv ((siL (O i 0) (O i 4) (O i 5) (O i 6) (O i 7) (O i 8) (O i 9) (O i 10) (O i 11) x0 y0 z0 ch 0 (Z i)).length : Int)) ∧ Below W'.heap.size W' w' := fun W' hb => by
  have hSit := hF.2.2.2.2.2.2.2.2.2.1
  have e : (((siL (O i 0) (O i 4) (O i 5) (O i 6) (O i 7) (O i 8) (O i 9) (O i 10) (O i 11) x0 y0 z0 ch 0 (Z i)).length : Nat) : Int) = stR (O i 0) (O i 4) (O i 5) x0 y0 z0 := by
    unfold siL; rw [tmL_len]
    have := hSit.2.2.2.2.2.2.2.2.1; omega
  rw [e]
  exact rlen_any (O i 0) (O i 1) (O i 2) (O i 3) (O i 4) (O i 5) (O i 6) (O i 7) (O i 8) (O i 9) (O i 10) (O i 11) wa lw cw ba lb cb (O i 14) (O i 15) (O i 16) (O i 17) (O i 18) (O i 19) (O i 20) (O i 21) x0 y0 z0 H V C W' hSit
end Go.Proofs.YtcphealigifdiaaGreat

/- The walks of BoundTotals, BoundRuns, BoundParts. -/
namespace Go.Proofs.YtcphealigifdiaaGreat
open Go.ChangeShapes Go.WideShapes Go.ChangeAt Go.RowKit
set_option linter.unusedVariables false
set_option maxHeartbeats 8000000 in
set_option maxRecDepth 100000 in
theorem totals_e (h w c lo hi : Int) (oa : Option Addr) (on oc : Nat) (ot op ch slo shi dp at' : Int) (ad : Option Addr) (n cap : Nat) (W : World) (k a b m kh kw sh sw tp lf bt rt : Int) (wa : Option Addr) (lw wc : Nat) (ba : Option Addr) (lb bc : Nat) (sm ss um us z p l2 h2 x0 y0 z0 H V C : Int) (E : Int) (hE : E ≠ 0) (HT : Hid (∀ W', Below W.heap.size W W' → Calls Tryz.prog 6 #[.agg #[Jv h, Jv w, Jv c, Jv lo, Jv hi, .slice oa on oc, Jv ot], Jv op, Jv ch, .agg #[Jv slo, Jv shi]] W' fun e w' => e = .returned (.tuple #[.agg #[Jv 0, Jv 0], Jv E]) ∧ Below W'.heap.size W' w')) (HP : Hid (∀ W', Below W.heap.size W W' → Calls Tryz.prog 7 #[.agg #[Jv h, Jv w, Jv c, Jv lo, Jv hi, .slice oa on oc, Jv ot], Jv op, Jv ch, .agg #[Jv slo, Jv shi]] W' fun e w' => e = .returned (.tuple #[.agg #[Jv 0, Jv 0], Jv E]) ∧ Below W'.heap.size W' w')) (HF : Hid (∀ W', Below W.heap.size W W' → Calls Tryz.prog 8 #[.agg #[Jv h, Jv w, Jv c, Jv lo, Jv hi, .slice oa on oc, Jv ot], Jv op, Jv ch, .agg #[Jv slo, Jv shi]] W' fun e w' => e = .returned (.tuple #[.agg #[Jv k, Jv a, Jv b, Jv m, Jv kh, Jv kw, Jv sh, Jv sw, Jv tp, Jv lf, Jv bt, Jv rt, .slice wa lw wc, .slice ba lb bc, Jv sm, Jv ss, Jv um, Jv us, Jv z, Jv p, Jv l2, Jv h2, Jv x0, Jv y0, Jv z0, Jv H, Jv V, Jv C], Jv E]) ∧ Below W'.heap.size W' w')) :
    Calls Tryz.prog 3 #[.agg #[Jv h, Jv w, Jv c, Jv lo, Jv hi, .slice oa on oc, Jv ot, Jv op, Jv ch, Jv slo, Jv shi, Jv dp, Jv at', .slice ad n cap]] W fun e w' => e = .returned (.bool true) ∧ Below W.heap.size W w' := by
  have s0 := (St.start W).new (c := #[Jv h, Jv w, Jv c, Jv lo, Jv hi, .slice oa on oc, Jv ot, Jv op, Jv ch, Jv slo, Jv shi, Jv dp, Jv at', .slice ad n cap]) (t := 31)
  have hE' : (E == 0) = false := by simp [hE]
  have q1 := beqS 28 rfl 0 0 0 0 true (by decide)
  obtain ⟨c1, f1, z1, -⟩ := s0.rules
  go_enter Tryz.func3, Tryz.ntmps3
  go_wp2_with fail
  refine Calls.mono (HT.out _ s0.below) ?_
  rintro e w1 ⟨rfl, hb⟩
  have s1 := (s0.call hb).new (c := #[Jv 0, Jv 0]) (t := 28)
  clear hb s0 HT c1 f1 z1
  obtain ⟨c1, f1, z1, c2, f2, z2, -⟩ := s1.rules
  go_wp2_with fail
  refine Calls.mono (HP.out _ s1.below) ?_
  rintro e w2 ⟨rfl, hb⟩
  have s2 := (s1.call hb).new (c := #[Jv 0, Jv 0]) (t := 28)
  clear hb s1 HP c1 f1 z1 c2 f2 z2
  obtain ⟨c1, f1, z1, c2, f2, z2, c3, f3, z3, -⟩ := s2.rules
  go_wp2_with fail
  refine Calls.mono (HF.out _ s2.below) ?_
  rintro e w3 ⟨rfl, hb⟩
  have s3 := (s2.call hb).new (c := #[Jv k, Jv a, Jv b, Jv m, Jv kh, Jv kw, Jv sh, Jv sw, Jv tp, Jv lf, Jv bt, Jv rt, .slice wa lw wc, .slice ba lb bc, Jv sm, Jv ss, Jv um, Jv us, Jv z, Jv p, Jv l2, Jv h2, Jv x0, Jv y0, Jv z0, Jv H, Jv V, Jv C]) (t := 44)
  clear hb s2 HF c1 f1 z1 c2 f2 z2 c3 f3 z3

  go_wp2_with (refine wpList_st_new rfl 44 (.tmp 7) (.tmp 43) rfl w3 _ #[Jv k, Jv a, Jv b, Jv m, Jv kh, Jv kw, Jv sh, Jv sw, Jv tp, Jv lf, Jv bt, Jv rt, .slice wa lw wc, .slice ba lb bc, Jv sm, Jv ss, Jv um, Jv us, Jv z, Jv p, Jv l2, Jv h2, Jv x0, Jv y0, Jv z0, Jv H, Jv V, Jv C] rfl rfl (by kernel_rfl) rfl (by simp [Value.oneCell']) ?_)
  refine (fixed13_any _).mono ?_
  rintro e w4 ⟨rfl, hb⟩
  have s4 := s3.call hb
  clear hb s3
  obtain ⟨-, -, -, c2, f2, z2, c3, f3, z3, -⟩ := s4.rules
  go_wp2
  go_ret
  exact ⟨rfl, s4.below⟩
set_option maxHeartbeats 8000000 in
set_option maxRecDepth 100000 in
theorem totals_w (h w c lo hi : Int) (oa : Option Addr) (on oc : Nat) (ot op ch slo shi dp at' : Int) (ad : Option Addr) (n cap : Nat) (W : World) (k a b m kh kw sh sw tp lf bt rt : Int) (wa : Option Addr) (lw wc : Nat) (ba : Option Addr) (lb bc : Nat) (sm ss um us z p l2 h2 x0 y0 z0 H V C : Int) (T1 T2 Q1 Q2 : Int) (HT : Hid (∀ W', Below W.heap.size W W' → Calls Tryz.prog 6 #[.agg #[Jv h, Jv w, Jv c, Jv lo, Jv hi, .slice oa on oc, Jv ot], Jv op, Jv ch, .agg #[Jv slo, Jv shi]] W' fun e w' => e = .returned (.tuple #[.agg #[Jv T1, Jv T2], Jv 0]) ∧ Below W'.heap.size W' w')) (HP : Hid (∀ W', Below W.heap.size W W' → Calls Tryz.prog 7 #[.agg #[Jv h, Jv w, Jv c, Jv lo, Jv hi, .slice oa on oc, Jv ot], Jv op, Jv ch, .agg #[Jv slo, Jv shi]] W' fun e w' => e = .returned (.tuple #[.agg #[Jv Q1, Jv Q2], Jv 0]) ∧ Below W'.heap.size W' w')) (HF : Hid (∀ W', Below W.heap.size W W' → Calls Tryz.prog 8 #[.agg #[Jv h, Jv w, Jv c, Jv lo, Jv hi, .slice oa on oc, Jv ot], Jv op, Jv ch, .agg #[Jv slo, Jv shi]] W' fun e w' => e = .returned (.tuple #[.agg #[Jv k, Jv a, Jv b, Jv m, Jv kh, Jv kw, Jv sh, Jv sw, Jv tp, Jv lf, Jv bt, Jv rt, .slice wa lw wc, .slice ba lb bc, Jv sm, Jv ss, Jv um, Jv us, Jv z, Jv p, Jv l2, Jv h2, Jv x0, Jv y0, Jv z0, Jv H, Jv V, Jv C], Jv 0]) ∧ Below W'.heap.size W' w')) (HD : Hid (∀ W', Below W.heap.size W W' → Calls Tryz.prog 10 #[.agg #[Jv k, Jv a, Jv b, Jv m, Jv kh, Jv kw, Jv sh, Jv sw, Jv tp, Jv lf, Jv bt, Jv rt, .slice wa lw wc, .slice ba lb bc, Jv sm, Jv ss, Jv um, Jv us, Jv z, Jv p, Jv l2, Jv h2, Jv x0, Jv y0, Jv z0, Jv H, Jv V, Jv C], Jv ch, .agg #[Jv slo, Jv shi]] W' fun e w' => e = .returned (.agg #[Jv T1, Jv T2]) ∧ Below W'.heap.size W' w')) (HE : Hid (∀ W', Below W.heap.size W W' → Calls Tryz.prog 11 #[.agg #[Jv k, Jv a, Jv b, Jv m, Jv kh, Jv kw, Jv sh, Jv sw, Jv tp, Jv lf, Jv bt, Jv rt, .slice wa lw wc, .slice ba lb bc, Jv sm, Jv ss, Jv um, Jv us, Jv z, Jv p, Jv l2, Jv h2, Jv x0, Jv y0, Jv z0, Jv H, Jv V, Jv C], Jv ch, .agg #[Jv slo, Jv shi]] W' fun e w' => e = .returned (.agg #[Jv Q1, Jv Q2]) ∧ Below W'.heap.size W' w')) :
    Calls Tryz.prog 3 #[.agg #[Jv h, Jv w, Jv c, Jv lo, Jv hi, .slice oa on oc, Jv ot, Jv op, Jv ch, Jv slo, Jv shi, Jv dp, Jv at', .slice ad n cap]] W fun e w' => e = .returned (.bool true) ∧ Below W.heap.size W w' := by
  have q1 := beqS 28 rfl T1 T2 T1 T2 true (by simp)
  have q2 := beqS 28 rfl Q1 Q2 Q1 Q2 true (by simp)
  have s0 := (St.start W).new (c := #[Jv h, Jv w, Jv c, Jv lo, Jv hi, .slice oa on oc, Jv ot, Jv op, Jv ch, Jv slo, Jv shi, Jv dp, Jv at', .slice ad n cap]) (t := 31)
  obtain ⟨c1, f1, z1, -⟩ := s0.rules
  go_enter Tryz.func3, Tryz.ntmps3
  go_wp2_with fail
  refine Calls.mono (HT.out _ s0.below) ?_
  rintro e w1 ⟨rfl, hb⟩
  have s1 := (s0.call hb).new (c := #[Jv T1, Jv T2]) (t := 28)
  clear hb s0 HT c1 f1 z1
  obtain ⟨c1, f1, z1, c2, f2, z2, -⟩ := s1.rules
  go_wp2_with fail
  refine Calls.mono (HP.out _ s1.below) ?_
  rintro e w2 ⟨rfl, hb⟩
  have s2 := (s1.call hb).new (c := #[Jv Q1, Jv Q2]) (t := 28)
  clear hb s1 HP c1 f1 z1 c2 f2 z2
  obtain ⟨c1, f1, z1, c2, f2, z2, c3, f3, z3, -⟩ := s2.rules
  go_wp2_with fail
  refine Calls.mono (HF.out _ s2.below) ?_
  rintro e w9 ⟨rfl, hb⟩
  have s9 := (s2.call hb).new (c := #[Jv k, Jv a, Jv b, Jv m, Jv kh, Jv kw, Jv sh, Jv sw, Jv tp, Jv lf, Jv bt, Jv rt, .slice wa lw wc, .slice ba lb bc, Jv sm, Jv ss, Jv um, Jv us, Jv z, Jv p, Jv l2, Jv h2, Jv x0, Jv y0, Jv z0, Jv H, Jv V, Jv C]) (t := 44)
  clear hb s2 HF c1 f1 z1 c2 f2 z2 c3 f3 z3
  go_wp2_with (refine wpList_st_new rfl 44 (.tmp 7) (.tmp 43) rfl w9 _ #[Jv k, Jv a, Jv b, Jv m, Jv kh, Jv kw, Jv sh, Jv sw, Jv tp, Jv lf, Jv bt, Jv rt, .slice wa lw wc, .slice ba lb bc, Jv sm, Jv ss, Jv um, Jv us, Jv z, Jv p, Jv l2, Jv h2, Jv x0, Jv y0, Jv z0, Jv H, Jv V, Jv C] rfl rfl (by kernel_rfl) rfl (by simp [Value.oneCell']) ?_)
  refine (fixed13_any _).mono ?_
  rintro e w10 ⟨rfl, hb⟩
  have s10 := s9.call hb
  clear hb s9
  go_wp2_with fail
  obtain ⟨c1, g1, c2, g2, c3, g3, c4, g4, -⟩ := rulesQ_st s10
  have hne := Nonempty.intro (Wd.mk _ s10)
  refine region_held s10 (by kernel_rfl) (by kernel_rfl) ?_
  repeat (first
    | (go_big_quiet_want; refine quiet_ld 44 (.tmp 7) rfl _ rfl 44 _ _ (Wd.hp List.mem_cons_self) Tryz.underlying44 rfl (by kernel_rfl) rfl ?_; go_simp; go_big_quiet_on)
    | (go_big_quiet_step ((go_at_call 10; exact held_of (HD.out _ (Wd.h _).below))))
    | (go_big_quiet_step ((go_at_call 11; exact held_of (HE.out _ (Wd.h _).below)))))
  refine wpQuiet_nil ?_
  intro _ hw'
  obtain ⟨nq, rfl⟩ := hw'
  have s12 := nq.h
  obtain ⟨w12, hw12⟩ : ∃ w, nq.w = w := ⟨_, rfl⟩
  rw [hw12] at s12 ⊢
  clear c1 g1 c2 g2 c3 g3 c4 g4 hne s10 hw12
  go_wp2
  go_ret
  exact ⟨rfl, s12.below⟩
set_option maxHeartbeats 8000000 in
set_option maxRecDepth 100000 in
theorem runs_e (h w c lo hi : Int) (oa : Option Addr) (on oc : Nat) (ot op ch slo shi dp at' : Int) (ad : Option Addr) (n cap : Nat) (W : World) (k a b m kh kw sh sw tp lf bt rt : Int) (wa : Option Addr) (lw wc : Nat) (ba : Option Addr) (lb bc : Nat) (sm ss um us z p l2 h2 x0 y0 z0 H V C : Int) (E : Int) (hE : E ≠ 0) (HT : Hid (∀ W', Below W.heap.size W W' → Calls Tryz.prog 12 #[.agg #[Jv h, Jv w, Jv c, Jv lo, Jv hi, .slice oa on oc, Jv ot], Jv op, Jv ch, .agg #[Jv slo, Jv shi]] W' fun e w' => e = .returned (.tuple #[.agg #[Jv 0, Jv 0], Jv E]) ∧ Below W'.heap.size W' w')) (HF : Hid (∀ W', Below W.heap.size W W' → Calls Tryz.prog 8 #[.agg #[Jv h, Jv w, Jv c, Jv lo, Jv hi, .slice oa on oc, Jv ot], Jv op, Jv ch, .agg #[Jv slo, Jv shi]] W' fun e w' => e = .returned (.tuple #[.agg #[Jv k, Jv a, Jv b, Jv m, Jv kh, Jv kw, Jv sh, Jv sw, Jv tp, Jv lf, Jv bt, Jv rt, .slice wa lw wc, .slice ba lb bc, Jv sm, Jv ss, Jv um, Jv us, Jv z, Jv p, Jv l2, Jv h2, Jv x0, Jv y0, Jv z0, Jv H, Jv V, Jv C], Jv E]) ∧ Below W'.heap.size W' w')) :
    Calls Tryz.prog 4 #[.agg #[Jv h, Jv w, Jv c, Jv lo, Jv hi, .slice oa on oc, Jv ot, Jv op, Jv ch, Jv slo, Jv shi, Jv dp, Jv at', .slice ad n cap]] W fun e w' => e = .returned (.bool true) ∧ Below W.heap.size W w' := by
  have hE' : (E == 0) = false := by simp [hE]
  have q1 := beqS 28 rfl 0 0 0 0 true (by decide)
  have s0 := (St.start W).new (c := #[Jv h, Jv w, Jv c, Jv lo, Jv hi, .slice oa on oc, Jv ot, Jv op, Jv ch, Jv slo, Jv shi, Jv dp, Jv at', .slice ad n cap]) (t := 31)
  obtain ⟨c1, f1, z1, -⟩ := s0.rules
  go_enter Tryz.func4, Tryz.ntmps4
  go_wp2_with fail
  refine Calls.mono (HT.out _ s0.below) ?_
  rintro e w1 ⟨rfl, hb⟩
  have s1 := (s0.call hb).new (c := #[Jv 0, Jv 0]) (t := 28)
  clear hb s0 HT c1 f1 z1
  obtain ⟨c1, f1, z1, c2, f2, z2, -⟩ := s1.rules
  go_wp2_with fail
  refine Calls.mono (HF.out _ s1.below) ?_
  rintro e w9 ⟨rfl, hb⟩
  have s9 := (s1.call hb).new (c := #[Jv k, Jv a, Jv b, Jv m, Jv kh, Jv kw, Jv sh, Jv sw, Jv tp, Jv lf, Jv bt, Jv rt, .slice wa lw wc, .slice ba lb bc, Jv sm, Jv ss, Jv um, Jv us, Jv z, Jv p, Jv l2, Jv h2, Jv x0, Jv y0, Jv z0, Jv H, Jv V, Jv C]) (t := 44)
  clear hb s1 HF c1 f1 z1 c2 f2 z2
  go_wp2_with (refine wpList_st_new rfl 44 (.tmp 5) (.tmp 29) rfl w9 _ #[Jv k, Jv a, Jv b, Jv m, Jv kh, Jv kw, Jv sh, Jv sw, Jv tp, Jv lf, Jv bt, Jv rt, .slice wa lw wc, .slice ba lb bc, Jv sm, Jv ss, Jv um, Jv us, Jv z, Jv p, Jv l2, Jv h2, Jv x0, Jv y0, Jv z0, Jv H, Jv V, Jv C] rfl rfl (by kernel_rfl) rfl (by simp [Value.oneCell']) ?_)
  refine (fixed13_any _).mono ?_
  rintro e w10 ⟨rfl, hb⟩
  have s10 := s9.call hb
  clear hb s9
  obtain ⟨-, -, -, c2, f2, z2, -⟩ := s10.rules
  go_wp2
  go_ret
  exact ⟨rfl, s10.below⟩
set_option maxHeartbeats 8000000 in
set_option maxRecDepth 100000 in
theorem runs_w (h w c lo hi : Int) (oa : Option Addr) (on oc : Nat) (ot op ch slo shi dp at' : Int) (ad : Option Addr) (n cap : Nat) (W : World) (k a b m kh kw sh sw tp lf bt rt : Int) (wa : Option Addr) (lw wc : Nat) (ba : Option Addr) (lb bc : Nat) (sm ss um us z p l2 h2 x0 y0 z0 H V C : Int) (T1 T2 : Int) (HT : Hid (∀ W', Below W.heap.size W W' → Calls Tryz.prog 12 #[.agg #[Jv h, Jv w, Jv c, Jv lo, Jv hi, .slice oa on oc, Jv ot], Jv op, Jv ch, .agg #[Jv slo, Jv shi]] W' fun e w' => e = .returned (.tuple #[.agg #[Jv T1, Jv T2], Jv 0]) ∧ Below W'.heap.size W' w')) (HF : Hid (∀ W', Below W.heap.size W W' → Calls Tryz.prog 8 #[.agg #[Jv h, Jv w, Jv c, Jv lo, Jv hi, .slice oa on oc, Jv ot], Jv op, Jv ch, .agg #[Jv slo, Jv shi]] W' fun e w' => e = .returned (.tuple #[.agg #[Jv k, Jv a, Jv b, Jv m, Jv kh, Jv kw, Jv sh, Jv sw, Jv tp, Jv lf, Jv bt, Jv rt, .slice wa lw wc, .slice ba lb bc, Jv sm, Jv ss, Jv um, Jv us, Jv z, Jv p, Jv l2, Jv h2, Jv x0, Jv y0, Jv z0, Jv H, Jv V, Jv C], Jv 0]) ∧ Below W'.heap.size W' w')) (HD : Hid (∀ W', Below W.heap.size W W' → Calls Tryz.prog 13 #[.agg #[Jv k, Jv a, Jv b, Jv m, Jv kh, Jv kw, Jv sh, Jv sw, Jv tp, Jv lf, Jv bt, Jv rt, .slice wa lw wc, .slice ba lb bc, Jv sm, Jv ss, Jv um, Jv us, Jv z, Jv p, Jv l2, Jv h2, Jv x0, Jv y0, Jv z0, Jv H, Jv V, Jv C], Jv ch, .agg #[Jv slo, Jv shi]] W' fun e w' => e = .returned (.agg #[Jv T1, Jv T2]) ∧ Below W'.heap.size W' w')) :
    Calls Tryz.prog 4 #[.agg #[Jv h, Jv w, Jv c, Jv lo, Jv hi, .slice oa on oc, Jv ot, Jv op, Jv ch, Jv slo, Jv shi, Jv dp, Jv at', .slice ad n cap]] W fun e w' => e = .returned (.bool true) ∧ Below W.heap.size W w' := by
  have q1 := beqS 28 rfl T1 T2 T1 T2 true (by simp)
  have s0 := (St.start W).new (c := #[Jv h, Jv w, Jv c, Jv lo, Jv hi, .slice oa on oc, Jv ot, Jv op, Jv ch, Jv slo, Jv shi, Jv dp, Jv at', .slice ad n cap]) (t := 31)
  obtain ⟨c1, f1, z1, -⟩ := s0.rules
  go_enter Tryz.func4, Tryz.ntmps4
  go_wp2_with fail
  refine Calls.mono (HT.out _ s0.below) ?_
  rintro e w1 ⟨rfl, hb⟩
  have s1 := (s0.call hb).new (c := #[Jv T1, Jv T2]) (t := 28)
  clear hb s0 HT c1 f1 z1
  obtain ⟨c1, f1, z1, c2, f2, z2, -⟩ := s1.rules
  go_wp2_with fail
  refine Calls.mono (HF.out _ s1.below) ?_
  rintro e w9 ⟨rfl, hb⟩
  have s9 := (s1.call hb).new (c := #[Jv k, Jv a, Jv b, Jv m, Jv kh, Jv kw, Jv sh, Jv sw, Jv tp, Jv lf, Jv bt, Jv rt, .slice wa lw wc, .slice ba lb bc, Jv sm, Jv ss, Jv um, Jv us, Jv z, Jv p, Jv l2, Jv h2, Jv x0, Jv y0, Jv z0, Jv H, Jv V, Jv C]) (t := 44)
  clear hb s1 HF c1 f1 z1 c2 f2 z2
  go_wp2_with (refine wpList_st_new rfl 44 (.tmp 5) (.tmp 29) rfl w9 _ #[Jv k, Jv a, Jv b, Jv m, Jv kh, Jv kw, Jv sh, Jv sw, Jv tp, Jv lf, Jv bt, Jv rt, .slice wa lw wc, .slice ba lb bc, Jv sm, Jv ss, Jv um, Jv us, Jv z, Jv p, Jv l2, Jv h2, Jv x0, Jv y0, Jv z0, Jv H, Jv V, Jv C] rfl rfl (by kernel_rfl) rfl (by simp [Value.oneCell']) ?_)
  refine (fixed13_any _).mono ?_
  rintro e w10 ⟨rfl, hb⟩
  have s10 := s9.call hb
  clear hb s9
  go_wp2_with fail
  obtain ⟨c1, g1, c2, g2, c3, g3, -⟩ := rulesQ_st s10
  have hne := Nonempty.intro (Wd.mk _ s10)
  refine region_held s10 (by kernel_rfl) (by kernel_rfl) ?_
  repeat (first
    | (go_big_quiet_want; refine quiet_ld 44 (.tmp 5) rfl _ rfl 44 _ _ (Wd.hp List.mem_cons_self) Tryz.underlying44 rfl (by kernel_rfl) rfl ?_; go_simp; go_big_quiet_on)
    | (go_big_quiet_step ((go_at_call 13; exact held_of (HD.out _ (Wd.h _).below)))))
  refine wpQuiet_nil ?_
  intro _ hw'
  obtain ⟨nq, rfl⟩ := hw'
  have s11 := nq.h
  obtain ⟨w11, hw11⟩ : ∃ w, nq.w = w := ⟨_, rfl⟩
  rw [hw11] at s11 ⊢
  clear c1 g1 c2 g2 c3 g3 hne s10 hw11
  go_wp2
  go_ret
  exact ⟨rfl, s11.below⟩
set_option maxHeartbeats 8000000 in
set_option maxRecDepth 100000 in
theorem parts_e (h w c lo hi : Int) (oa : Option Addr) (on oc : Nat) (ot op ch slo shi dp at' : Int) (ad : Option Addr) (n cap : Nat) (W : World) (k a b m kh kw sh sw tp lf bt rt : Int) (wa : Option Addr) (lw wc : Nat) (ba : Option Addr) (lb bc : Nat) (sm ss um us z p l2 h2 x0 y0 z0 H V C : Int) (E : Int) (hE : E ≠ 0) (HT : Hid (∀ W', Below W.heap.size W W' → Calls Tryz.prog 14 #[.agg #[Jv h, Jv w, Jv c, Jv lo, Jv hi, .slice oa on oc, Jv ot], Jv op, Jv ch, .agg #[Jv slo, Jv shi], Jv dp] W' fun e w' => e = .returned (.tuple #[.agg #[Jv 0, Jv 0], Jv E]) ∧ Below W'.heap.size W' w')) (HF : Hid (∀ W', Below W.heap.size W W' → Calls Tryz.prog 8 #[.agg #[Jv h, Jv w, Jv c, Jv lo, Jv hi, .slice oa on oc, Jv ot], Jv op, Jv ch, .agg #[Jv slo, Jv shi]] W' fun e w' => e = .returned (.tuple #[.agg #[Jv k, Jv a, Jv b, Jv m, Jv kh, Jv kw, Jv sh, Jv sw, Jv tp, Jv lf, Jv bt, Jv rt, .slice wa lw wc, .slice ba lb bc, Jv sm, Jv ss, Jv um, Jv us, Jv z, Jv p, Jv l2, Jv h2, Jv x0, Jv y0, Jv z0, Jv H, Jv V, Jv C], Jv E]) ∧ Below W'.heap.size W' w')) :
    Calls Tryz.prog 5 #[.agg #[Jv h, Jv w, Jv c, Jv lo, Jv hi, .slice oa on oc, Jv ot, Jv op, Jv ch, Jv slo, Jv shi, Jv dp, Jv at', .slice ad n cap]] W fun e w' => e = .returned (.bool true) ∧ Below W.heap.size W w' := by
  have hE' : (E == 0) = false := by simp [hE]
  have q1 := beqS 28 rfl 0 0 0 0 true (by decide)
  have s0 := (St.start W).new (c := #[Jv h, Jv w, Jv c, Jv lo, Jv hi, .slice oa on oc, Jv ot, Jv op, Jv ch, Jv slo, Jv shi, Jv dp, Jv at', .slice ad n cap]) (t := 31)
  obtain ⟨c1, f1, z1, -⟩ := s0.rules
  go_enter Tryz.func5, Tryz.ntmps5
  go_wp2_with fail
  refine Calls.mono (HT.out _ s0.below) ?_
  rintro e w1 ⟨rfl, hb⟩
  have s1 := (s0.call hb).new (c := #[Jv 0, Jv 0]) (t := 28)
  clear hb s0 HT c1 f1 z1
  obtain ⟨c1, f1, z1, c2, f2, z2, -⟩ := s1.rules
  go_wp2_with fail
  refine Calls.mono (HF.out _ s1.below) ?_
  rintro e w9 ⟨rfl, hb⟩
  have s9 := (s1.call hb).new (c := #[Jv k, Jv a, Jv b, Jv m, Jv kh, Jv kw, Jv sh, Jv sw, Jv tp, Jv lf, Jv bt, Jv rt, .slice wa lw wc, .slice ba lb bc, Jv sm, Jv ss, Jv um, Jv us, Jv z, Jv p, Jv l2, Jv h2, Jv x0, Jv y0, Jv z0, Jv H, Jv V, Jv C]) (t := 44)
  clear hb s1 HF c1 f1 z1 c2 f2 z2
  go_wp2_with (refine wpList_st_new rfl 44 (.tmp 5) (.tmp 31) rfl w9 _ #[Jv k, Jv a, Jv b, Jv m, Jv kh, Jv kw, Jv sh, Jv sw, Jv tp, Jv lf, Jv bt, Jv rt, .slice wa lw wc, .slice ba lb bc, Jv sm, Jv ss, Jv um, Jv us, Jv z, Jv p, Jv l2, Jv h2, Jv x0, Jv y0, Jv z0, Jv H, Jv V, Jv C] rfl rfl (by kernel_rfl) rfl (by simp [Value.oneCell']) ?_)
  obtain ⟨c1, g1, c2, g2, c3, g3, -⟩ := rulesQ_st s9
  have hne := Nonempty.intro (Wd.mk _ s9)
  refine region_held s9 (by kernel_rfl) (by kernel_rfl) ?_
  repeat (first
    | (go_big_quiet_want; refine quiet_ld 44 (.tmp 5) rfl _ rfl 44 _ _ (Wd.hp List.mem_cons_self) Tryz.underlying44 rfl (by kernel_rfl) rfl ?_; go_simp; go_big_quiet_on)
    | (go_big_quiet_step (fail)))
  refine wpQuiet_nil ?_
  intro _ hw'
  obtain ⟨nq, rfl⟩ := hw'
  have s8 := nq.h
  obtain ⟨w8, hw8⟩ : ∃ w, nq.w = w := ⟨_, rfl⟩
  rw [hw8] at s8 ⊢
  clear c1 g1 c2 g2 c3 g3 hne s9 hw8
  go_wp2_with fail
  refine (fixed13_any _).mono ?_
  rintro e w10 ⟨rfl, hb⟩
  have s10 := s8.call hb
  clear hb s8
  obtain ⟨-, -, -, c2, f2, z2, -⟩ := s10.rules
  go_wp2
  go_ret
  exact ⟨rfl, s10.below⟩
set_option maxHeartbeats 8000000 in
set_option maxRecDepth 100000 in
theorem parts_0 (h w c lo hi : Int) (oa : Option Addr) (on oc : Nat) (ot op ch slo shi dp at' : Int) (ad : Option Addr) (n cap : Nat) (W : World) (k a b m kh kw sh sw tp lf bt rt : Int) (wa : Option Addr) (lw wc : Nat) (ba : Option Addr) (lb bc : Nat) (sm ss um us z p l2 h2 x0 y0 z0 H V C : Int) (hd : dp < 1) (HT : Hid (∀ W', Below W.heap.size W W' → Calls Tryz.prog 14 #[.agg #[Jv h, Jv w, Jv c, Jv lo, Jv hi, .slice oa on oc, Jv ot], Jv op, Jv ch, .agg #[Jv slo, Jv shi], Jv dp] W' fun e w' => e = .returned (.tuple #[.agg #[Jv 0, Jv 0], Jv 151]) ∧ Below W'.heap.size W' w')) (HF : Hid (∀ W', Below W.heap.size W W' → Calls Tryz.prog 8 #[.agg #[Jv h, Jv w, Jv c, Jv lo, Jv hi, .slice oa on oc, Jv ot], Jv op, Jv ch, .agg #[Jv slo, Jv shi]] W' fun e w' => e = .returned (.tuple #[.agg #[Jv k, Jv a, Jv b, Jv m, Jv kh, Jv kw, Jv sh, Jv sw, Jv tp, Jv lf, Jv bt, Jv rt, .slice wa lw wc, .slice ba lb bc, Jv sm, Jv ss, Jv um, Jv us, Jv z, Jv p, Jv l2, Jv h2, Jv x0, Jv y0, Jv z0, Jv H, Jv V, Jv C], Jv 0]) ∧ Below W'.heap.size W' w')) :
    Calls Tryz.prog 5 #[.agg #[Jv h, Jv w, Jv c, Jv lo, Jv hi, .slice oa on oc, Jv ot, Jv op, Jv ch, Jv slo, Jv shi, Jv dp, Jv at', .slice ad n cap]] W fun e w' => e = .returned (.bool true) ∧ Below W.heap.size W w' := by
  have q1 := beqS 28 rfl 0 0 0 0 true (by decide)
  have s0 := (St.start W).new (c := #[Jv h, Jv w, Jv c, Jv lo, Jv hi, .slice oa on oc, Jv ot, Jv op, Jv ch, Jv slo, Jv shi, Jv dp, Jv at', .slice ad n cap]) (t := 31)
  obtain ⟨c1, f1, z1, -⟩ := s0.rules
  go_enter Tryz.func5, Tryz.ntmps5
  go_wp2_with fail
  refine Calls.mono (HT.out _ s0.below) ?_
  rintro e w1 ⟨rfl, hb⟩
  have s1 := (s0.call hb).new (c := #[Jv 0, Jv 0]) (t := 28)
  clear hb s0 HT c1 f1 z1
  obtain ⟨c1, f1, z1, c2, f2, z2, -⟩ := s1.rules
  go_wp2_with fail
  refine Calls.mono (HF.out _ s1.below) ?_
  rintro e w9 ⟨rfl, hb⟩
  have s9 := (s1.call hb).new (c := #[Jv k, Jv a, Jv b, Jv m, Jv kh, Jv kw, Jv sh, Jv sw, Jv tp, Jv lf, Jv bt, Jv rt, .slice wa lw wc, .slice ba lb bc, Jv sm, Jv ss, Jv um, Jv us, Jv z, Jv p, Jv l2, Jv h2, Jv x0, Jv y0, Jv z0, Jv H, Jv V, Jv C]) (t := 44)
  clear hb s1 HF c1 f1 z1 c2 f2 z2
  have hdt : decide (dp < 1) = true := decide_eq_true hd
  go_wp2_with (refine wpList_st_new rfl 44 (.tmp 5) (.tmp 31) rfl w9 _ #[Jv k, Jv a, Jv b, Jv m, Jv kh, Jv kw, Jv sh, Jv sw, Jv tp, Jv lf, Jv bt, Jv rt, .slice wa lw wc, .slice ba lb bc, Jv sm, Jv ss, Jv um, Jv us, Jv z, Jv p, Jv l2, Jv h2, Jv x0, Jv y0, Jv z0, Jv H, Jv V, Jv C] rfl rfl (by kernel_rfl) rfl (by simp [Value.oneCell']) ?_)
  obtain ⟨c1, g1, c2, g2, c3, g3, -⟩ := rulesQ_st s9
  have hne := Nonempty.intro (Wd.mk _ s9)
  refine region_held s9 (by kernel_rfl) (by kernel_rfl) ?_
  repeat (first
    | (go_big_quiet_want; refine quiet_ld 44 (.tmp 5) rfl _ rfl 44 _ _ (Wd.hp List.mem_cons_self) Tryz.underlying44 rfl (by kernel_rfl) rfl ?_; go_simp; go_big_quiet_on)
    | (go_big_quiet_step (fail)))
  refine wpQuiet_nil ?_
  intro _ hw'
  obtain ⟨nq, rfl⟩ := hw'
  have s8 := nq.h
  obtain ⟨w8, hw8⟩ : ∃ w, nq.w = w := ⟨_, rfl⟩
  rw [hw8] at s8 ⊢
  clear c1 g1 c2 g2 c3 g3 hne s9 hw8
  go_wp2_with fail
  refine (fixed13_any _).mono ?_
  rintro e w10 ⟨rfl, hb⟩
  have s10 := s8.call hb
  clear hb s8
  obtain ⟨-, -, -, c2, f2, z2, -⟩ := s10.rules
  go_wp2
  go_ret
  exact ⟨rfl, s10.below⟩
set_option maxHeartbeats 8000000 in
set_option maxRecDepth 100000 in
theorem parts_n (h w c lo hi : Int) (oa : Option Addr) (on oc : Nat) (ot op ch slo shi dp at' : Int) (ad : Option Addr) (n cap : Nat) (W : World) (k a b m kh kw sh sw tp lf bt rt : Int) (wa : Option Addr) (lw wc : Nat) (ba : Option Addr) (lb bc : Nat) (sm ss um us z p l2 h2 x0 y0 z0 H V C : Int) (N : Int) (hd : ¬ dp < 1) (hn : N < dp) (HT : Hid (∀ W', Below W.heap.size W W' → Calls Tryz.prog 14 #[.agg #[Jv h, Jv w, Jv c, Jv lo, Jv hi, .slice oa on oc, Jv ot], Jv op, Jv ch, .agg #[Jv slo, Jv shi], Jv dp] W' fun e w' => e = .returned (.tuple #[.agg #[Jv 0, Jv 0], Jv 151]) ∧ Below W'.heap.size W' w')) (HF : Hid (∀ W', Below W.heap.size W W' → Calls Tryz.prog 8 #[.agg #[Jv h, Jv w, Jv c, Jv lo, Jv hi, .slice oa on oc, Jv ot], Jv op, Jv ch, .agg #[Jv slo, Jv shi]] W' fun e w' => e = .returned (.tuple #[.agg #[Jv k, Jv a, Jv b, Jv m, Jv kh, Jv kw, Jv sh, Jv sw, Jv tp, Jv lf, Jv bt, Jv rt, .slice wa lw wc, .slice ba lb bc, Jv sm, Jv ss, Jv um, Jv us, Jv z, Jv p, Jv l2, Jv h2, Jv x0, Jv y0, Jv z0, Jv H, Jv V, Jv C], Jv 0]) ∧ Below W'.heap.size W' w')) (HN : Hid (∀ W', Below W.heap.size W W' → Calls Tryz.prog 15 #[.agg #[Jv k, Jv a, Jv b, Jv m, Jv kh, Jv kw, Jv sh, Jv sw, Jv tp, Jv lf, Jv bt, Jv rt, .slice wa lw wc, .slice ba lb bc, Jv sm, Jv ss, Jv um, Jv us, Jv z, Jv p, Jv l2, Jv h2, Jv x0, Jv y0, Jv z0, Jv H, Jv V, Jv C]] W' fun e w' => e = .returned (Jv N) ∧ Below W'.heap.size W' w')) :
    Calls Tryz.prog 5 #[.agg #[Jv h, Jv w, Jv c, Jv lo, Jv hi, .slice oa on oc, Jv ot, Jv op, Jv ch, Jv slo, Jv shi, Jv dp, Jv at', .slice ad n cap]] W fun e w' => e = .returned (.bool true) ∧ Below W.heap.size W w' := by
  have hdn : decide (dp < 1) = false := decide_eq_false hd
  have hnt : decide (N < dp) = true := decide_eq_true hn
  have q1 := beqS 28 rfl 0 0 0 0 true (by decide)
  have s0 := (St.start W).new (c := #[Jv h, Jv w, Jv c, Jv lo, Jv hi, .slice oa on oc, Jv ot, Jv op, Jv ch, Jv slo, Jv shi, Jv dp, Jv at', .slice ad n cap]) (t := 31)
  obtain ⟨c1, f1, z1, -⟩ := s0.rules
  go_enter Tryz.func5, Tryz.ntmps5
  go_wp2_with fail
  refine Calls.mono (HT.out _ s0.below) ?_
  rintro e w1 ⟨rfl, hb⟩
  have s1 := (s0.call hb).new (c := #[Jv 0, Jv 0]) (t := 28)
  clear hb s0 HT c1 f1 z1
  obtain ⟨c1, f1, z1, c2, f2, z2, -⟩ := s1.rules
  go_wp2_with fail
  refine Calls.mono (HF.out _ s1.below) ?_
  rintro e w9 ⟨rfl, hb⟩
  have s9 := (s1.call hb).new (c := #[Jv k, Jv a, Jv b, Jv m, Jv kh, Jv kw, Jv sh, Jv sw, Jv tp, Jv lf, Jv bt, Jv rt, .slice wa lw wc, .slice ba lb bc, Jv sm, Jv ss, Jv um, Jv us, Jv z, Jv p, Jv l2, Jv h2, Jv x0, Jv y0, Jv z0, Jv H, Jv V, Jv C]) (t := 44)
  clear hb s1 HF c1 f1 z1 c2 f2 z2
  go_wp2_with (refine wpList_st_new rfl 44 (.tmp 5) (.tmp 31) rfl w9 _ #[Jv k, Jv a, Jv b, Jv m, Jv kh, Jv kw, Jv sh, Jv sw, Jv tp, Jv lf, Jv bt, Jv rt, .slice wa lw wc, .slice ba lb bc, Jv sm, Jv ss, Jv um, Jv us, Jv z, Jv p, Jv l2, Jv h2, Jv x0, Jv y0, Jv z0, Jv H, Jv V, Jv C] rfl rfl (by kernel_rfl) rfl (by simp [Value.oneCell']) ?_)
  obtain ⟨c1, g1, c2, g2, c3, g3, -⟩ := rulesQ_st s9
  have hne := Nonempty.intro (Wd.mk _ s9)
  refine region_held s9 (by kernel_rfl) (by kernel_rfl) ?_
  repeat (first
    | (go_big_quiet_want; refine quiet_ld 44 (.tmp 5) rfl _ rfl 44 _ _ (Wd.hp List.mem_cons_self) Tryz.underlying44 rfl (by kernel_rfl) rfl ?_; go_simp; go_big_quiet_on)
    | (go_big_quiet_step ((go_at_call 15; exact held_of (HN.out _ (Wd.h _).below)))))
  refine wpQuiet_nil ?_
  intro _ hw'
  obtain ⟨nq, rfl⟩ := hw'
  have s8 := nq.h
  obtain ⟨w8, hw8⟩ : ∃ w, nq.w = w := ⟨_, rfl⟩
  rw [hw8] at s8 ⊢
  clear c1 g1 c2 g2 c3 g3 hne s9 hw8
  go_wp2_with fail
  refine (fixed13_any _).mono ?_
  rintro e w10 ⟨rfl, hb⟩
  have s10 := s8.call hb
  clear hb s8
  obtain ⟨-, -, -, c2, f2, z2, -⟩ := s10.rules
  go_wp2
  go_ret
  exact ⟨rfl, s10.below⟩
set_option maxHeartbeats 8000000 in
set_option maxRecDepth 100000 in
theorem parts_w (h w c lo hi : Int) (oa : Option Addr) (on oc : Nat) (ot op ch slo shi dp at' : Int) (ad : Option Addr) (n cap : Nat) (W : World) (k a b m kh kw sh sw tp lf bt rt : Int) (wa : Option Addr) (lw wc : Nat) (ba : Option Addr) (lb bc : Nat) (sm ss um us z p l2 h2 x0 y0 z0 H V C : Int) (T1 T2 N : Int) (hd : ¬ dp < 1) (hn : ¬ N < dp) (HT : Hid (∀ W', Below W.heap.size W W' → Calls Tryz.prog 14 #[.agg #[Jv h, Jv w, Jv c, Jv lo, Jv hi, .slice oa on oc, Jv ot], Jv op, Jv ch, .agg #[Jv slo, Jv shi], Jv dp] W' fun e w' => e = .returned (.tuple #[.agg #[Jv T1, Jv T2], Jv 0]) ∧ Below W'.heap.size W' w')) (HF : Hid (∀ W', Below W.heap.size W W' → Calls Tryz.prog 8 #[.agg #[Jv h, Jv w, Jv c, Jv lo, Jv hi, .slice oa on oc, Jv ot], Jv op, Jv ch, .agg #[Jv slo, Jv shi]] W' fun e w' => e = .returned (.tuple #[.agg #[Jv k, Jv a, Jv b, Jv m, Jv kh, Jv kw, Jv sh, Jv sw, Jv tp, Jv lf, Jv bt, Jv rt, .slice wa lw wc, .slice ba lb bc, Jv sm, Jv ss, Jv um, Jv us, Jv z, Jv p, Jv l2, Jv h2, Jv x0, Jv y0, Jv z0, Jv H, Jv V, Jv C], Jv 0]) ∧ Below W'.heap.size W' w')) (HN : Hid (∀ W', Below W.heap.size W W' → Calls Tryz.prog 15 #[.agg #[Jv k, Jv a, Jv b, Jv m, Jv kh, Jv kw, Jv sh, Jv sw, Jv tp, Jv lf, Jv bt, Jv rt, .slice wa lw wc, .slice ba lb bc, Jv sm, Jv ss, Jv um, Jv us, Jv z, Jv p, Jv l2, Jv h2, Jv x0, Jv y0, Jv z0, Jv H, Jv V, Jv C]] W' fun e w' => e = .returned (Jv N) ∧ Below W'.heap.size W' w')) (HD : Hid (∀ W', Below W.heap.size W W' → Calls Tryz.prog 16 #[.agg #[Jv k, Jv a, Jv b, Jv m, Jv kh, Jv kw, Jv sh, Jv sw, Jv tp, Jv lf, Jv bt, Jv rt, .slice wa lw wc, .slice ba lb bc, Jv sm, Jv ss, Jv um, Jv us, Jv z, Jv p, Jv l2, Jv h2, Jv x0, Jv y0, Jv z0, Jv H, Jv V, Jv C], Jv ch, .agg #[Jv slo, Jv shi], Jv dp] W' fun e w' => e = .returned (.agg #[Jv T1, Jv T2]) ∧ Below W'.heap.size W' w')) :
    Calls Tryz.prog 5 #[.agg #[Jv h, Jv w, Jv c, Jv lo, Jv hi, .slice oa on oc, Jv ot, Jv op, Jv ch, Jv slo, Jv shi, Jv dp, Jv at', .slice ad n cap]] W fun e w' => e = .returned (.bool true) ∧ Below W.heap.size W w' := by
  have hdn : decide (dp < 1) = false := decide_eq_false hd
  have hnf : decide (N < dp) = false := decide_eq_false hn
  have q1 := beqS 28 rfl T1 T2 T1 T2 true (by simp)
  have s0 := (St.start W).new (c := #[Jv h, Jv w, Jv c, Jv lo, Jv hi, .slice oa on oc, Jv ot, Jv op, Jv ch, Jv slo, Jv shi, Jv dp, Jv at', .slice ad n cap]) (t := 31)
  obtain ⟨c1, f1, z1, -⟩ := s0.rules
  go_enter Tryz.func5, Tryz.ntmps5
  go_wp2_with fail
  refine Calls.mono (HT.out _ s0.below) ?_
  rintro e w1 ⟨rfl, hb⟩
  have s1 := (s0.call hb).new (c := #[Jv T1, Jv T2]) (t := 28)
  clear hb s0 HT c1 f1 z1
  obtain ⟨c1, f1, z1, c2, f2, z2, -⟩ := s1.rules
  go_wp2_with fail
  refine Calls.mono (HF.out _ s1.below) ?_
  rintro e w9 ⟨rfl, hb⟩
  have s9 := (s1.call hb).new (c := #[Jv k, Jv a, Jv b, Jv m, Jv kh, Jv kw, Jv sh, Jv sw, Jv tp, Jv lf, Jv bt, Jv rt, .slice wa lw wc, .slice ba lb bc, Jv sm, Jv ss, Jv um, Jv us, Jv z, Jv p, Jv l2, Jv h2, Jv x0, Jv y0, Jv z0, Jv H, Jv V, Jv C]) (t := 44)
  clear hb s1 HF c1 f1 z1 c2 f2 z2
  go_wp2_with (refine wpList_st_new rfl 44 (.tmp 5) (.tmp 31) rfl w9 _ #[Jv k, Jv a, Jv b, Jv m, Jv kh, Jv kw, Jv sh, Jv sw, Jv tp, Jv lf, Jv bt, Jv rt, .slice wa lw wc, .slice ba lb bc, Jv sm, Jv ss, Jv um, Jv us, Jv z, Jv p, Jv l2, Jv h2, Jv x0, Jv y0, Jv z0, Jv H, Jv V, Jv C] rfl rfl (by kernel_rfl) rfl (by simp [Value.oneCell']) ?_)
  obtain ⟨c1, g1, c2, g2, c3, g3, -⟩ := rulesQ_st s9
  have hne := Nonempty.intro (Wd.mk _ s9)
  refine region_held s9 (by kernel_rfl) (by kernel_rfl) ?_
  repeat (first
    | (go_big_quiet_want; refine quiet_ld 44 (.tmp 5) rfl _ rfl 44 _ _ (Wd.hp List.mem_cons_self) Tryz.underlying44 rfl (by kernel_rfl) rfl ?_; go_simp; go_big_quiet_on)
    | (go_big_quiet_step ((go_at_call 15; exact held_of (HN.out _ (Wd.h _).below)))))
  refine wpQuiet_nil ?_
  intro _ hw'
  obtain ⟨nq, rfl⟩ := hw'
  have s8 := nq.h
  obtain ⟨w8, hw8⟩ : ∃ w, nq.w = w := ⟨_, rfl⟩
  rw [hw8] at s8 ⊢
  clear c1 g1 c2 g2 c3 g3 hne s9 hw8
  go_wp2_with fail
  refine (fixed13_any _).mono ?_
  rintro e w10 ⟨rfl, hb⟩
  have s10 := s8.call hb
  clear hb s8
  go_wp2_with fail
  obtain ⟨c1, g1, c2, g2, c3, g3, -⟩ := rulesQ_st s10
  have hne := Nonempty.intro (Wd.mk _ s10)
  refine region_held s10 (by kernel_rfl) (by kernel_rfl) ?_
  repeat (first
    | (go_big_quiet_want; refine quiet_ld 44 (.tmp 5) rfl _ rfl 44 _ _ (Wd.hp List.mem_cons_self) Tryz.underlying44 rfl (by kernel_rfl) rfl ?_; go_simp; go_big_quiet_on)
    | (go_big_quiet_step ((go_at_call 16; exact held_of (HD.out _ (Wd.h _).below)))))
  refine wpQuiet_nil ?_
  intro _ hw'
  obtain ⟨nq, rfl⟩ := hw'
  have s11 := nq.h
  obtain ⟨w11, hw11⟩ : ∃ w, nq.w = w := ⟨_, rfl⟩
  rw [hw11] at s11 ⊢
  clear c1 g1 c2 g2 c3 g3 hne s10 hw11
  go_wp2
  go_ret
  exact ⟨rfl, s11.below⟩
end Go.Proofs.YtcphealigifdiaaGreat
