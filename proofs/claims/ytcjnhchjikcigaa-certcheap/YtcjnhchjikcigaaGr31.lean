/- What the document's Cost of layer 15 returns, of a certificate that has the form. -/
import Derived.Test.YtcjnhchjikcigaaGr26
import Derived.Test.YtcjnhchjikcigaaGr30
/- What the document's Cost of layer 15 returns, of a certificate that has the form. -/
namespace Go.Proofs.Ytcjnhchjikcigaa
open Go.ChangeShapes Go.WideShapes Go.ChangeAt Go.RowKit
set_option linter.unusedVariables false
section
variable {P : Program} {ops : Array Oper} {md : Region.Mode} {C : World → Prop} {Q : Exit → Act → World → Prop} {fuel : Nat} {listed : Array Bool} {a : Act} {w : World} {o : Oper}
/-- Two that may come up, in either order. -/
theorem z2 (i j : Nat) (hC : C w) (hr : Region.ready md ops listed = [i, j])
    (h1 : wpOpIn Fence.wide 3 P ops Q i (wpAnyC Fence.wide 3 P md ops C Q fuel (listed.setIfInBounds i true)) a w)
    (h2 : wpOpIn Fence.wide 3 P ops Q j (wpAnyC Fence.wide 3 P md ops C Q fuel (listed.setIfInBounds j true)) a w) : wpAnyC Fence.wide 3 P md ops C Q (fuel + 1) listed a w :=
  ⟨hC, fun h0 => (by rw [hr] at h0; cases h0), fun k hk => by
    rw [hr] at hk
    simp only [List.mem_cons, List.not_mem_nil, or_false] at hk
    rcases hk with rfl | rfl
    · exact h1
    · exact h2⟩
theorem zO {i : Nat} (ho : ops[i]? = some o) (hg : o.guard = none) (v : Value) (w' : World) (hrun : (execOp a.eval o).run P w = .ok (.value v) w') {K : Act → World → Prop} (h : K (a.put o.dst v) w') : wpOpIn Fence.wide 3 P ops Q i K a w :=
  wpOpIn_step ho fun K' hK' => step_wp hg (by unfold Oper.wp; rw [hrun, Oper.upon_value]; exact hK' _ _ h)
theorem zC {i : Nat} (ho : ops[i]? = some o) (hg : o.guard = none) (f : FuncId) (args : Array Value) (hrun : (execOp a.eval o).run P w = .ok (.enter f args) w) {R : Ending → World → Prop} (hcall : Calls P f args w R) {K : Act → World → Prop}
    (h : ∀ e w', R e w' → ∃ v, e = .returned v ∧ K (a.put o.dst v) w') : wpOpIn Fence.wide 3 P ops Q i K a w :=
  wpOpIn_step ho fun K' hK' => step_wp hg (by
    unfold Oper.wp
    rw [hrun]
    refine Calls.mono hcall fun e w' he => ?_
    obtain ⟨v, rfl, h2⟩ := h e w' he
    exact hK' _ _ h2)
theorem zR (i : Nat) (hC : C w) (hr : Region.ready md ops listed = [i]) (ho : ops[i]? = some o) (hg : o.guard = none)
    (v : Value) (w' : World) (hrun : (execOp a.eval o).run P w = .ok (.value v) w') (h : wpAnyC Fence.wide 3 P md ops C Q fuel (listed.setIfInBounds i true) (a.put o.dst v) w') : wpAnyC Fence.wide 3 P md ops C Q (fuel + 1) listed a w :=
  stepC i hC hr ho fun K hK => step_wp hg (by unfold Oper.wp; rw [hrun, Oper.upon_value]; exact hK _ _ h)
theorem zT (i : Nat) (hC : C w) (hr : Region.ready md ops listed = [i]) (ho : ops[i]? = some o) (hg : o.guard = none)
    (w' : World) (hrun : (execOp a.eval o).run P w = .ok .skip w') (h : wpAnyC Fence.wide 3 P md ops C Q fuel (listed.setIfInBounds i true) (a.put o.dst undef) w') : wpAnyC Fence.wide 3 P md ops C Q (fuel + 1) listed a w :=
  stepC i hC hr ho fun K hK => step_wp hg (by unfold Oper.wp; rw [hrun]; exact hK _ _ h)
end
set_option maxHeartbeats 16000000 in
set_option maxRecDepth 100000 in
theorem rcost_w (h w c lo hi ot : Int) (oa : Option Addr) (on oc : Nat) (O : Nat → Nat → Int) (Z B : Nat → List Int) (ra : Option Addr) (rn rc : Nat) (R : List (Int × Int)) (pa : Option Addr) (pc : Nat) (P : List (List Pl)) (W : World) (hL : LRow W oa on oc O Z B) (hR : ERow 2 scs W ra rn rc R) (hP : QRow W pa on pc P) (hrn : rn ≤ 140737488351232) (Rw : Int) (RL : List (Int × Int × Int)) (hG : gtR O h w c lo hi ot on = (0, 0, RL, Rw)) (hX : foE 0 0 on (nuP O RL) R P = (0, 0, 0)) (y1 y2 y3 y4 e1 e2 e3 : Int) (hY : coP (leN O RL) (poN RL) P 0 (0, 0, 0, 0) = ((y1, y2, y3, y4), e1, e2, e3)) :
    Calls Try.prog 10 #[.agg #[.int .i64 h, .int .i64 w, .int .i64 c, .int .i64 lo, .int .i64 hi, .slice oa on oc, .int .i64 ot], .agg #[.slice ra rn rc, .slice pa on pc]] W fun e w' => e = .returned (.tuple #[.agg #[.int .i64 y1, .int .i64 y2, .int .i64 y3, .int .i64 y4, .int .i64 0, .int .i64 0, .int .i64 0, .int .i64 0, .int .i64 0], .agg #[.int .i64 e1, .int .i64 e2, .int .i64 e3]]) ∧ Below W.heap.size W w' := by
  obtain ⟨-, hRl, ho64, -, -, -⟩ := gtR_ok hG
  have HF : Hid (∀ w', Below W.heap.size W w' → _) := fun w' hb => rform_any h w c lo hi ot oa on oc O Z B ra rn rc R pa on pc P w' (hL.below hb) (by omega) (hR.below hb) (hP.below hb) hrn (by omega) 0 0 Rw RL hG 0 0 0 hX
  have hG2 : Hid (gtR O h w c lo hi ot on = (0, 0, RL, Rw)) := hG
  have HL : Hid (LRow W oa on oc O Z B) := hL
  have HP : Hid (QRow W pa on pc P) := hP
  have HN : Hid (∀ j l, P[j]? = some l → (l.length : Int) = nuP O RL j) := fun j l hj => by
    have q := (foE_0 (show (foE 0 0 on (nuP O RL) R P).1 = 0 by rw [hX]) (fun _ => rfl)).2.2.2.2.2
    have := psE_len P 0 q j l hj
    rwa [Nat.zero_add] at this
  have HY : Hid (coP (leN O RL) (poN RL) P 0 (0, 0, 0, 0) = ((y1, y2, y3, y4), e1, e2, e3)) := hY
  have m1 := hL.1
  have m2 := hL.2.1
  have m5 := hP.2.1
  have m6 := hP.2.2.1
  unfold maxLen at m2 m6
  clear hG hL hR hP hX hY hRl
  have s0 := ((((St.start W).new (c := #[.int .i64 h, .int .i64 w, .int .i64 c, .int .i64 lo, .int .i64 hi, .slice oa on oc, .int .i64 ot]) (t := 26)).new (c := #[.slice ra rn rc, .slice pa on pc]) (t := 30)).new (c := #[.int .i64 0, .int .i64 0, .int .i64 0, .int .i64 0, .int .i64 0, .int .i64 0, .int .i64 0, .int .i64 0, .int .i64 0]) (t := 36)).new (c := #[.int .i64 0, .int .i64 0, .int .i64 0]) (t := 39)
  simp only [World.size_alloc] at s0
  go_enter Try.func10, Try.ntmps10
  go_wp2_with fail
  refine (HF.out _ s0.below).mono ?_
  rintro e w1 ⟨rfl, hb⟩
  have s1 := (s0.call hb).call (bal w1 (.cells #[.int .i64 0, .int .i64 0, .int .i64 0] 39))
  obtain ⟨c1, f1, z1, c2, f2, z2, c3, f3, z3, c4, f4, z4, -⟩ := (s0.call hb).rules
  clear hb s0 HF
  go_upto_region 4 with fail
  obtain ⟨wS, hwS⟩ : ∃ wS, w1.alloc (.cells #[.int .i64 0, .int .i64 0, .int .i64 0] 39) = wS := ⟨_, rfl⟩
  rw [hwS] at s1 ⊢
  clear hwS c1 f1 z1 c2 f2 z2 c3 f3 z3 c4 f4 z4
  have S1 : Hid (St W wS ([(W.heap.size + 1 + 1 + 1, #[.int .i64 0, .int .i64 0, .int .i64 0], 39), (W.heap.size + 1 + 1, #[.int .i64 0, .int .i64 0, .int .i64 0, .int .i64 0, .int .i64 0, .int .i64 0, .int .i64 0, .int .i64 0, .int .i64 0], 36), (W.heap.size + 1, #[.slice ra rn rc, .slice pa on pc], 30), (W.heap.size, #[.int .i64 h, .int .i64 w, .int .i64 c, .int .i64 lo, .int .i64 hi, .slice oa on oc, .int .i64 ot], 26)])) := s1
  obtain ⟨c1, f1, z1, c2, f2, z2, c3, f3, z3, c4, f4, z4, -⟩ := s1.rules
  clear s1
  have ST : Hid (St wS _ [(wS.heap.size, #[.int .i64 0, .int .i64 0, .int .i64 0, .int .i64 0, .int .i64 0, .int .i64 0, .int .i64 0, .int .i64 0, .int .i64 0], 36)]) := (St.start wS).new (c := #[.int .i64 0, .int .i64 0, .int .i64 0, .int .i64 0, .int .i64 0, .int .i64 0, .int .i64 0, .int .i64 0, .int .i64 0]) (t := 36)
  go_wp2
  go_loopw [29] (fun i wr => ∃ (k : Nat) (t1 t2 t3 t4 : Int), k ≤ on ∧ i = .int .i64 k ∧ coP (leN O RL) (poN RL) (P.drop k) k (t1, t2, t3, t4) = ((y1, y2, y3, y4), e1, e2, e3) ∧ Tb (t1, t2, t3, t4) ((k : Int) * 8388608) ∧ St wS wr [(wS.heap.size, #[.int .i64 t1, .int .i64 t2, .int .i64 t3, .int .i64 t4, .int .i64 0, .int .i64 0, .int .i64 0, .int .i64 0, .int .i64 0], 36)]) (fun i _ => on - (intOf i).toNat)
  case atStart => exact ⟨0, 0, 0, 0, 0, Nat.zero_le _, rfl, by simpa using HY.out, by unfold Tb; simp, ST.out⟩
  case round =>
    clear c1 f1 c2 f2 c3 f3 c4 f4
    obtain ⟨i, t1, t2, t3, t4, hi0, rfl, hp, htb, sr⟩ := hrel
    by_cases hlt : i < on
    rotate_left
    · rw [List.drop_of_length_le (by rw [HP.out.1]; omega)] at hp
      unfold coP at hp
      simp only [Prod.mk.injEq] at hp
      obtain ⟨⟨rfl, rfl, rfl, rfl⟩, rfl, rfl, rfl⟩ := hp
      have S4 : Hid (St W wr ([(W.heap.size + 1 + 1 + 1, #[.int .i64 0, .int .i64 0, .int .i64 0], 39), (W.heap.size + 1 + 1, #[.int .i64 0, .int .i64 0, .int .i64 0, .int .i64 0, .int .i64 0, .int .i64 0, .int .i64 0, .int .i64 0, .int .i64 0], 36), (W.heap.size + 1, #[.slice ra rn rc, .slice pa on pc], 30), (W.heap.size, #[.int .i64 h, .int .i64 w, .int .i64 c, .int .i64 lo, .int .i64 hi, .slice oa on oc, .int .i64 ot], 26)])) := S1.out.call sr.below
      have h9 : Hid (wr.heap[wS.heap.size]? = some (.cells #[.int .i64 t1, .int .i64 t2, .int .i64 t3, .int .i64 t4, .int .i64 0, .int .i64 0, .int .i64 0, .int .i64 0, .int .i64 0] 36 (0, 0))) := sr.h1
      clear sr htb ST HY
      go_wp2_with (first
        | (refine wpList_load_row rfl 36 (.tmp 7) rfl _ rfl 36 _ (0, 0) _ h9.out Try.underlying36 rfl (by kernel_rfl) ?_)
        | (refine wpList_store_row rfl 36 (.tmp 4) (.tmp 107) rfl (W.heap.size + 1 + 1) #[.int .i64 t1, .int .i64 t2, .int .i64 t3, .int .i64 t4, .int .i64 0, .int .i64 0, .int .i64 0, .int .i64 0, .int .i64 0] rfl rfl 36 #[.int .i64 0, .int .i64 0, .int .i64 0, .int .i64 0, .int .i64 0, .int .i64 0, .int .i64 0, .int .i64 0, .int .i64 0] S4.out.h2 (by kernel_rfl) rfl (by simp [Value.oneCell']) ?_; have s5 := (S4.out.sub (l' := [(W.heap.size + 1 + 1, #[.int .i64 0, .int .i64 0, .int .i64 0, .int .i64 0, .int .i64 0, .int .i64 0, .int .i64 0, .int .i64 0, .int .i64 0], 36), (W.heap.size + 1 + 1 + 1, #[.int .i64 0, .int .i64 0, .int .i64 0], 39)]) (by simp)).row #[.int .i64 t1, .int .i64 t2, .int .i64 t3, .int .i64 t4, .int .i64 0, .int .i64 0, .int .i64 0, .int .i64 0, .int .i64 0] (by simp); generalize World.setRow _ _ _ = w5 at s5 ⊢; have S5 : Hid (St W w5 _) := s5; clear s5)
        | (refine wpList_store_row rfl 39 (.tmp 5) (.tmp 108) rfl (W.heap.size + 1 + 1 + 1) #[.int .i64 0, .int .i64 0, .int .i64 0] rfl rfl 39 #[.int .i64 0, .int .i64 0, .int .i64 0] S5.out.h2 (by kernel_rfl) rfl (by simp [Value.oneCell']) ?_; have s6 := (S5.out.sub (l' := [(W.heap.size + 1 + 1 + 1, #[.int .i64 0, .int .i64 0, .int .i64 0], 39), (W.heap.size + 1 + 1, #[.int .i64 t1, .int .i64 t2, .int .i64 t3, .int .i64 t4, .int .i64 0, .int .i64 0, .int .i64 0, .int .i64 0, .int .i64 0], 36)]) (by simp)).row #[.int .i64 0, .int .i64 0, .int .i64 0] (by simp); generalize World.setRow _ _ _ = w6 at s6 ⊢; have S6 : Hid (St W w6 _) := s6; clear s6))
      exact bodyPost_ret (results_row_row Try.results10 _ _ (W.heap.size + 1 + 1) (W.heap.size + 1 + 1 + 1) 36 39 _ _ _ _ (by kernel_rfl) (by kernel_rfl) S6.out.h2 S6.out.h1 Try.underlying36 rfl (by kernel_rfl) Try.underlying39 rfl (by kernel_rfl)) rfl ⟨rfl, S6.out.below⟩
    · have hbr := sr.below
      obtain ⟨x, l, ca, cc, rfl, hPi, hd, hclS, hE, -⟩ := (HP.out.below S1.out.below).at hlt
      have hcl := (hbr.cell (World.block_lt_of_cell? _ _ hclS)).trans hclS
      obtain ⟨⟨k1, k2⟩, ⟨k3, k4⟩, k5, k6, k7, -⟩ := co_facts hG2.out hlt
      have hln := HN.out i l hPi
      rw [hd] at hp
      have Hp : Hid (coP (leN O RL) (poN RL) (l :: P.drop (i + 1)) i (t1, t2, t3, t4) = ((y1, y2, y3, y4), e1, e2, e3)) := hp
      have Htb : Hid (Tb (t1, t2, t3, t4) ((i : Int) * 8388608)) := htb
      obtain ⟨LN, hLN⟩ : ∃ LN, leN O RL i = LN := ⟨_, rfl⟩
      obtain ⟨QP, hQP⟩ : ∃ QP, poN RL i = QP := ⟨_, rfl⟩
      have HLQ : Hid (leN O RL i = LN ∧ poN RL i = QP) := ⟨hLN, hQP⟩
      rw [hLN] at k1 k2 k5 k6 k7
      rw [hQP] at k3 k4 k5 k6
      rw [← hln] at k6
      have K7 : Hid (rdB (O i 0) = true → 1 ≤ LN) := k7
      have K6 : Hid ((l.length : Int) * (LN * QP) ≤ 8388608) := k6
      have K5 : Hid (0 ≤ LN * QP) := k5
      have HNU : Hid ((l.length : Int) = nuP O RL i) := hln
      obtain ⟨ln, hlnn⟩ : ∃ ln, l.length = ln := ⟨_, rfl⟩
      rw [hlnn] at hcl hE K6 HNU
      have HLL : Hid (l.length = ln) := hlnn
      have HE5 : Hid (ERow 6 pcs wS ca ln cc l) := hE
      have l1 := hE.2.1
      have l2 := hE.2.2.1
      unfold maxLen at l2
      have Hsr : Hid (St wS wr _) := sr
      clear hln hLN hQP hlnn hE hd hp htb hPi k5 k6 k7 hclS sr hbr ST HY z1 z2 z3 z4
      go_wp2
      clear hcl
      go_loopw [36] (fun j wv => ∃ (k : Nat) (r1 r2 r3 r4 : Int), k ≤ ln ∧ j = .int .i64 k ∧ coL ((i : Int) + 1) LN QP (l.drop k) k (r1, r2, r3, r4) = coL ((i : Int) + 1) LN QP l 0 (t1, t2, t3, t4) ∧ Tb (r1, r2, r3, r4) ((i : Int) * 8388608 + (k : Int) * (LN * QP)) ∧ St wS wv [(wS.heap.size, #[.int .i64 r1, .int .i64 r2, .int .i64 r3, .int .i64 r4, .int .i64 0, .int .i64 0, .int .i64 0, .int .i64 0, .int .i64 0], 36)]) (fun j _ => ln - (intOf j).toNat)
      case atStart => exact ⟨0, t1, t2, t3, t4, Nat.zero_le _, rfl, by simp, by simpa using Htb.out, Hsr.out⟩
      case round =>
        clear Hsr Htb
        obtain ⟨k, r1, r2, r3, r4, hk, rfl, hq, htb, sv⟩ := hrel
        by_cases hlk : k < ln
        rotate_left
        · rw [List.drop_of_length_le (by rw [HLL.out]; omega)] at hq
          rw [show coL ((i : Int) + 1) LN QP [] k (r1, r2, r3, r4) = ((r1, r2, r3, r4), 0, 0, 0) from rfl] at hq
          obtain ⟨a1, a2⟩ := HLQ.out
          have hp := Hp.out
          rw [coP_yes (by rw [a1, a2, ← hq]), a1, a2, ← hq] at hp
          have HQ : Hid (coP (leN O RL) (poN RL) (P.drop (i + 1)) (i + 1) (r1, r2, r3, r4) = ((y1, y2, y3, y4), e1, e2, e3)) := hp
          have HT : Hid (Tb (r1, r2, r3, r4) (((i + 1 : Nat) : Int) * 8388608)) := htb.le (by
            have e1 := K6.out
            have e2 : (k : Int) = (ln : Int) := by omega
            rw [e2]
            omega)
          have HS : Hid (St wS wr _) := sv
          clear hq htb sv a1 a2 hp
          go_wp2
          go_roundw
          case rel => exact ⟨i + 1, r1, r2, r3, r4, by omega, by go_num, HQ.out, HT.out, HS.out⟩
          case measure => simp [intOf]; omega
        · obtain ⟨s, p, rfl, hpk, hdk, hck⟩ := (HE5.out.below sv.below).at hlk
          obtain ⟨p1, p2, p3, p4, p5, p6⟩ := p
          rw [hdk] at hq
          have hrd : rdB (O i 0) = true := by
            cases q : rdB (O i 0) with
            | true => rfl
            | false => have := HNU.out; unfold nuP at this; rw [q, if_neg (by decide)] at this; omega
          obtain ⟨RL2, Rw2, hR2, i', x', wa, lw, cw, ba, lb, cb, x0, y0, z0, H, V, C, hop, hF⟩ := found h w c lo hi ot oa on oc O Z B W HL.out ((i : Int) + 1) (fiE_0 (by rw [hG2.out]) hlt hrd)
          obtain rfl : i = i' := by omega
          rw [hG2.out] at hR2
          simp only [Prod.mk.injEq, true_and] at hR2
          obtain ⟨rfl, rfl⟩ := hR2
          have hFC := vS_yes hF.2.2.2.2.2.2.2.2.2.1.2.2.1
          have hFi : Hid (∀ w', Below W.heap.size W w' → _) := fun w' hb => rfind_ok h w c lo hi ot oa on oc O Z B w' (HL.out.below hb) (by omega) 0 RL Rw hG2.out i x' wa lw cw ba lb cb x0 y0 z0 H V C (hF.below hb) ⟨Int.le_refl _, by omega⟩
          have hle : stR (O i 0) (O i 4) (O i 5) x0 y0 z0 = LN := by
            have := HLQ.out.1
            unfold leN at this
            rw [hrd, if_pos rfl, hF.2.2.2.2.2.2.2.1] at this
            exact this
          have hpo : H * V = QP := by
            have := HLQ.out.2
            unfold poN at this
            rw [hF.2.2.2.2.2.2.2.2.1] at this
            exact this
          have hLe : Hid (∀ w, _) := fun w => rlen_any (O i 0) (O i 1) (O i 2) (O i 3) (O i 4) (O i 5) (O i 6) (O i 7) (O i 8) (O i 9) (O i 10) (O i 11) wa lw cw ba lb cb (O i 14) (O i 15) (O i 16) (O i 17) (O i 18) (O i 19) (O i 20) (O i 21) x0 y0 z0 H V C w hF.2.2.2.2.2.2.2.2.2.1
          have hPo : Hid (∀ w, _) := fun w => rpos_any (O i 0) (O i 1) (O i 2) (O i 3) (O i 4) (O i 5) (O i 6) (O i 7) (O i 8) (O i 9) (O i 10) (O i 11) wa lw cw ba lb cb (O i 14) (O i 15) (O i 16) (O i 17) (O i 18) (O i 19) (O i 20) (O i 21) x0 y0 z0 H V C w hF.2.2.2.2.2.2.2.2.2.1.2.2.1
          rw [hle] at hLe
          rw [hpo] at hPo
          have hDe : Hid (∀ w, _) := fun w => rdeep_any p1 p2 p3 p4 p5 p6 LN (K7.out hrd) w
          have kLN := K7.out hrd
          have hcell : Hid (∀ q v, [.int .i64 p1, .int .i64 p2, .int .i64 p3, .int .i64 p4, .int .i64 p5, .int .i64 p6][q]? = some v → wr.cell? ((s.add (k * 6)).add q) = some v) := hck
          have HQ : Hid (coL ((i : Int) + 1) LN QP ((p1, p2, p3, p4, p5, p6) :: l.drop (k + 1)) k (r1, r2, r3, r4) = coL ((i : Int) + 1) LN QP l 0 (t1, t2, t3, t4)) := hq
          have Htb : Hid (Tb (r1, r2, r3, r4) ((i : Int) * 8388608 + (k : Int) * (LN * QP))) := htb
          have sb := sv.new (c := #[.int .i64 p1, .int .i64 p2, .int .i64 p3, .int .i64 p4, .int .i64 p5, .int .i64 p6]) (t := 61)
          have hz1 : wS.heap.size < wr.heap.size := lt_of_heap sv.h1
          clear hpk hdk hck hq htb sv hrd hop hF hFC hle hpo
          go_upto_region 11 with (first
            | (refine wpList_load_any rfl 61 (.tmp 39) rfl _ rfl [.int .i64 p1, .int .i64 p2, .int .i64 p3, .int .i64 p4, .int .i64 p5, .int .i64 p6] _ hcell.out Try.underlying61 rfl (by kernel_rfl) ?_)
            | (refine wpList_st_new rfl 61 (.tmp 11) (.tmp 40) rfl wr _ #[.int .i64 p1, .int .i64 p2, .int .i64 p3, .int .i64 p4, .int .i64 p5, .int .i64 p6] rfl rfl (by kernel_rfl) rfl (by simp [Value.oneCell']) ?_))
          obtain ⟨B11, hB11⟩ : ∃ B11, wr.heap.size = B11 := ⟨_, rfl⟩
          obtain ⟨wb, hwb⟩ : ∃ wb, wr.alloc (.cells #[.int .i64 p1, .int .i64 p2, .int .i64 p3, .int .i64 p4, .int .i64 p5, .int .i64 p6] 61) = wb := ⟨_, rfl⟩
          rw [hwb, hB11] at sb
          rw [hwb, hB11]
          rw [hB11] at hz1
          have Sb : Hid (St wS wb _) := sb
          have sW := S1.out.call sb.below
          have hM0 := sW.h4
          clear hwb hcell hB11 sb
          go_wp2_with (refine wpList_load_row rfl 26 (.tmp 2) rfl _ rfl 26 _ (0, 0) _ hM0 Try.underlying26 rfl (by kernel_rfl) ?_)
          refine (hFi.out _ sW.below).mono ?_
          rintro e w7 ⟨rfl, hb⟩
          have s7 := (Sb.out.call hb).new (c := #[.int .i64 (O i 0), .int .i64 (O i 1), .int .i64 (O i 2), .int .i64 (O i 3), .int .i64 (O i 4), .int .i64 (O i 5), .int .i64 (O i 6), .int .i64 (O i 7), .int .i64 (O i 8), .int .i64 (O i 9), .int .i64 (O i 10), .int .i64 (O i 11), .slice wa lw cw, .slice ba lb cb, .int .i64 (O i 14), .int .i64 (O i 15), .int .i64 (O i 16), .int .i64 (O i 17), .int .i64 (O i 18), .int .i64 (O i 19), .int .i64 (O i 20), .int .i64 (O i 21), .int .i64 x0, .int .i64 y0, .int .i64 z0, .int .i64 H, .int .i64 V, .int .i64 C]) (t := 79)
          have hz2 : B11 < w7.heap.size := lt_of_heap (Sb.out.call hb).h1
          clear hb Sb sW hM0 hFi
          go_upto_region 12 with (refine wpList_st_new rfl 79 (.tmp 12) (.tmp 46) rfl w7 _ #[.int .i64 (O i 0), .int .i64 (O i 1), .int .i64 (O i 2), .int .i64 (O i 3), .int .i64 (O i 4), .int .i64 (O i 5), .int .i64 (O i 6), .int .i64 (O i 7), .int .i64 (O i 8), .int .i64 (O i 9), .int .i64 (O i 10), .int .i64 (O i 11), .slice wa lw cw, .slice ba lb cb, .int .i64 (O i 14), .int .i64 (O i 15), .int .i64 (O i 16), .int .i64 (O i 17), .int .i64 (O i 18), .int .i64 (O i 19), .int .i64 (O i 20), .int .i64 (O i 21), .int .i64 x0, .int .i64 y0, .int .i64 z0, .int .i64 H, .int .i64 V, .int .i64 C] rfl rfl (by kernel_rfl) rfl (by simp [Value.oneCell']) ?_)
          obtain ⟨B12, hB12⟩ : ∃ B12, w7.heap.size = B12 := ⟨_, rfl⟩
          obtain ⟨w8, hw8⟩ : ∃ w8, w7.alloc (.cells #[.int .i64 (O i 0), .int .i64 (O i 1), .int .i64 (O i 2), .int .i64 (O i 3), .int .i64 (O i 4), .int .i64 (O i 5), .int .i64 (O i 6), .int .i64 (O i 7), .int .i64 (O i 8), .int .i64 (O i 9), .int .i64 (O i 10), .int .i64 (O i 11), .slice wa lw cw, .slice ba lb cb, .int .i64 (O i 14), .int .i64 (O i 15), .int .i64 (O i 16), .int .i64 (O i 17), .int .i64 (O i 18), .int .i64 (O i 19), .int .i64 (O i 20), .int .i64 (O i 21), .int .i64 x0, .int .i64 y0, .int .i64 z0, .int .i64 H, .int .i64 V, .int .i64 C] 79) = w8 := ⟨_, rfl⟩
          rw [hw8, hB12] at s7
          rw [hw8, hB12]
          rw [hB12] at hz2
          have S8 : Hid (St wS w8 ([(wS.heap.size, #[.int .i64 r1, .int .i64 r2, .int .i64 r3, .int .i64 r4, .int .i64 0, .int .i64 0, .int .i64 0, .int .i64 0, .int .i64 0], 36), (B12, #[.int .i64 (O i 0), .int .i64 (O i 1), .int .i64 (O i 2), .int .i64 (O i 3), .int .i64 (O i 4), .int .i64 (O i 5), .int .i64 (O i 6), .int .i64 (O i 7), .int .i64 (O i 8), .int .i64 (O i 9), .int .i64 (O i 10), .int .i64 (O i 11), .slice wa lw cw, .slice ba lb cb, .int .i64 (O i 14), .int .i64 (O i 15), .int .i64 (O i 16), .int .i64 (O i 17), .int .i64 (O i 18), .int .i64 (O i 19), .int .i64 (O i 20), .int .i64 (O i 21), .int .i64 x0, .int .i64 y0, .int .i64 z0, .int .i64 H, .int .i64 V, .int .i64 C], 79), (B11, #[.int .i64 p1, .int .i64 p2, .int .i64 p3, .int .i64 p4, .int .i64 p5, .int .i64 p6], 61)])) := s7.sub (by simp)
          clear hw8 hB12 s7
          obtain ⟨E, hE⟩ : ∃ E, deE (p1, p2, p3, p4, p5, p6) LN = E := ⟨_, rfl⟩
          rw [hE] at hDe
          have hSt := St.start w8
          have hne := Nonempty.intro (Wd.mk _ hSt)
          have hCp : Hid (∀ wz, (∃ n : Wd w8 [], wz = n.w) → ∀ j v, [.int .i64 p1, .int .i64 p2, .int .i64 p3, .int .i64 p4, .int .i64 p5, .int .i64 p6][j]? = some v → wz.cell? ((⟨B11, 0, none⟩ : Addr).add j) = some v) := wd_cells (ecells (cs := [.int .i64 p1, .int .i64 p2, .int .i64 p3, .int .i64 p4, .int .i64 p5, .int .i64 p6]) S8.out.h3)
          have hCr : Hid (∀ wz, (∃ n : Wd w8 [], wz = n.w) → ∀ j v, [.int .i64 (O i 0), .int .i64 (O i 1), .int .i64 (O i 2), .int .i64 (O i 3), .int .i64 (O i 4), .int .i64 (O i 5), .int .i64 (O i 6), .int .i64 (O i 7), .int .i64 (O i 8), .int .i64 (O i 9), .int .i64 (O i 10), .int .i64 (O i 11), .slice wa lw cw, .slice ba lb cb, .int .i64 (O i 14), .int .i64 (O i 15), .int .i64 (O i 16), .int .i64 (O i 17), .int .i64 (O i 18), .int .i64 (O i 19), .int .i64 (O i 20), .int .i64 (O i 21), .int .i64 x0, .int .i64 y0, .int .i64 z0, .int .i64 H, .int .i64 V, .int .i64 C][j]? = some v → wz.cell? ((⟨B12, 0, none⟩ : Addr).add j) = some v) := wd_cells (ecells (cs := [.int .i64 (O i 0), .int .i64 (O i 1), .int .i64 (O i 2), .int .i64 (O i 3), .int .i64 (O i 4), .int .i64 (O i 5), .int .i64 (O i 6), .int .i64 (O i 7), .int .i64 (O i 8), .int .i64 (O i 9), .int .i64 (O i 10), .int .i64 (O i 11), .slice wa lw cw, .slice ba lb cb, .int .i64 (O i 14), .int .i64 (O i 15), .int .i64 (O i 16), .int .i64 (O i 17), .int .i64 (O i 18), .int .i64 (O i 19), .int .i64 (O i 20), .int .i64 (O i 21), .int .i64 x0, .int .i64 y0, .int .i64 z0, .int .i64 H, .int .i64 V, .int .i64 C]) S8.out.h2)
          refine region_held hSt (by kernel_rfl) (by kernel_rfl) ?_
          go_big_quiet_want
          refine quiet_la 61 (.tmp 11) rfl _ rfl [.int .i64 p1, .int .i64 p2, .int .i64 p3, .int .i64 p4, .int .i64 p5, .int .i64 p6] _ hCp.out Try.underlying61 rfl (by kernel_rfl) rfl ?_
          go_simp
          go_big_quiet_on
          go_big_quiet_want
          refine quiet_la 79 (.tmp 12) rfl _ rfl [.int .i64 (O i 0), .int .i64 (O i 1), .int .i64 (O i 2), .int .i64 (O i 3), .int .i64 (O i 4), .int .i64 (O i 5), .int .i64 (O i 6), .int .i64 (O i 7), .int .i64 (O i 8), .int .i64 (O i 9), .int .i64 (O i 10), .int .i64 (O i 11), .slice wa lw cw, .slice ba lb cb, .int .i64 (O i 14), .int .i64 (O i 15), .int .i64 (O i 16), .int .i64 (O i 17), .int .i64 (O i 18), .int .i64 (O i 19), .int .i64 (O i 20), .int .i64 (O i 21), .int .i64 x0, .int .i64 y0, .int .i64 z0, .int .i64 H, .int .i64 V, .int .i64 C] _ hCr.out Try.underlying79 rfl (by kernel_rfl) rfl ?_
          go_simp
          go_big_quiet_on
          repeat (go_big_quiet_step ((first | (go_at_call 26; exact held_of (hLe.out _)) | (go_at_call 25; exact held_of (hDe.out _)))))
          refine wpQuiet_nil ?_
          intro _ hw'
          obtain ⟨nq, rfl⟩ := hw'
          obtain ⟨w9, hw9⟩ : ∃ w9, nq.w = w9 := ⟨_, rfl⟩
          have hb9 : Below w8.heap.size w8 w9 := hw9 ▸ nq.h.below
          rw [hw9]
          have S9 : Hid (St wS w9 ([(wS.heap.size, #[.int .i64 r1, .int .i64 r2, .int .i64 r3, .int .i64 r4, .int .i64 0, .int .i64 0, .int .i64 0, .int .i64 0, .int .i64 0], 36), (B12, #[.int .i64 (O i 0), .int .i64 (O i 1), .int .i64 (O i 2), .int .i64 (O i 3), .int .i64 (O i 4), .int .i64 (O i 5), .int .i64 (O i 6), .int .i64 (O i 7), .int .i64 (O i 8), .int .i64 (O i 9), .int .i64 (O i 10), .int .i64 (O i 11), .slice wa lw cw, .slice ba lb cb, .int .i64 (O i 14), .int .i64 (O i 15), .int .i64 (O i 16), .int .i64 (O i 17), .int .i64 (O i 18), .int .i64 (O i 19), .int .i64 (O i 20), .int .i64 (O i 21), .int .i64 x0, .int .i64 y0, .int .i64 z0, .int .i64 H, .int .i64 V, .int .i64 C], 79), (B11, #[.int .i64 p1, .int .i64 p2, .int .i64 p3, .int .i64 p4, .int .i64 p5, .int .i64 p6], 61)])) := S8.out.call hb9
          clear hne hw9 hSt hCp hCr hb9 S8 hDe
          clear nq
          by_cases h0 : E = 0
          rotate_left
          · have hQ2 := (coL_no (by rw [hE]; exact h0)).symm.trans HQ.out
            rw [hE] at hQ2
            obtain ⟨a1, a2⟩ := HLQ.out
            have hp := Hp.out
            rw [coP_no (by rw [a1, a2, ← hQ2]; exact h0), a1, a2, ← hQ2] at hp
            simp only [Prod.mk.injEq] at hp
            obtain ⟨⟨rfl, rfl, rfl, rfl⟩, rfl, rfl, rfl⟩ := hp
            have hE1 : (E == 0) = false := by simp [h0]
            have S4 : Hid (St W w9 (_)) := S1.out.call S9.out.below
            clear hQ2 a1 a2 HQ Htb hE S9
            go_wp2_with (first
              | (refine wpList_store_row rfl 36 (.tmp 4) (.tmp 54) rfl (W.heap.size + 1 + 1) #[.int .i64 0, .int .i64 0, .int .i64 0, .int .i64 0, .int .i64 0, .int .i64 0, .int .i64 0, .int .i64 0, .int .i64 0] rfl rfl 36 #[.int .i64 0, .int .i64 0, .int .i64 0, .int .i64 0, .int .i64 0, .int .i64 0, .int .i64 0, .int .i64 0, .int .i64 0] S4.out.h2 (by kernel_rfl) rfl (by simp [Value.oneCell']) ?_; have s5 := (S4.out.sub (l' := [(W.heap.size + 1 + 1, #[.int .i64 0, .int .i64 0, .int .i64 0, .int .i64 0, .int .i64 0, .int .i64 0, .int .i64 0, .int .i64 0, .int .i64 0], 36), (W.heap.size + 1 + 1 + 1, #[.int .i64 0, .int .i64 0, .int .i64 0], 39)]) (by simp)).row #[.int .i64 0, .int .i64 0, .int .i64 0, .int .i64 0, .int .i64 0, .int .i64 0, .int .i64 0, .int .i64 0, .int .i64 0] (by simp); generalize World.setRow _ _ _ = w15 at s5 ⊢; have S15 : Hid (St W w15 _) := s5; clear s5)
              | (refine wpList_store_row rfl 39 (.tmp 5) (.tmp 60) rfl (W.heap.size + 1 + 1 + 1) #[.int .i64 E, .int .i64 ((i : Int) + 1), .int .i64 ((k : Int) + 1)] rfl rfl 39 #[.int .i64 0, .int .i64 0, .int .i64 0] S15.out.h2 (by kernel_rfl) rfl (by simp [Value.oneCell']) ?_; have s6 := (S15.out.sub (l' := [(W.heap.size + 1 + 1 + 1, #[.int .i64 0, .int .i64 0, .int .i64 0], 39), (W.heap.size + 1 + 1, #[.int .i64 0, .int .i64 0, .int .i64 0, .int .i64 0, .int .i64 0, .int .i64 0, .int .i64 0, .int .i64 0, .int .i64 0], 36)]) (by simp)).row #[.int .i64 E, .int .i64 ((i : Int) + 1), .int .i64 ((k : Int) + 1)] (by simp); generalize World.setRow _ _ _ = w16 at s6 ⊢; have S16 : Hid (St W w16 _) := s6; clear s6))
            exact bodyPost_ret (results_row_row Try.results10 _ _ (W.heap.size + 1 + 1) (W.heap.size + 1 + 1 + 1) 36 39 _ _ _ _ (by kernel_rfl) (by kernel_rfl) S16.out.h2 S16.out.h1 Try.underlying36 rfl (by kernel_rfl) Try.underlying39 rfl (by kernel_rfl)) rfl ⟨rfl, S16.out.below⟩
          · subst h0
            have hQ2 := (coL_yes hE).symm.trans HQ.out
            have hT2 := Htb.out.add k1 (by omega : 0 ≤ QP) hE
            have dm : LN * QP ≤ 512 * 1048576 := Int.mul_le_mul k2 k4 (by omega) (by omega)
            have dk : (k : Int) * (LN * QP) ≤ (ln : Int) * (LN * QP) := Int.mul_le_mul_of_nonneg_right (by omega) K5.out
            have d0 := Htb.out
            have dl := K6.out
            have dz := K5.out
            unfold Tb at d0
            simp only at d0
            obtain ⟨NN, hNN⟩ : ∃ NN, LN * QP = NN := ⟨_, rfl⟩
            have hkk : ((k + 1 : Nat) : Int) * (LN * QP) = (k : Int) * (LN * QP) + LN * QP := by rw [Int.natCast_add, Int.add_mul]; simp
            have HT2 : Hid (Tb (adT (r1, r2, r3, r4) (coS (p1, p2, p3, p4, p5, p6) LN) QP) ((i : Int) * 8388608 + ((k + 1 : Nat) : Int) * (LN * QP))) := by
              unfold Hid
              rw [hkk, ← Int.add_assoc]
              exact hT2
            have HQ2 : Hid (coL ((i : Int) + 1) LN QP (l.drop (k + 1)) (k + 1) (adT (r1, r2, r3, r4) (coS (p1, p2, p3, p4, p5, p6) LN) QP) = coL ((i : Int) + 1) LN QP l 0 (t1, t2, t3, t4)) := hQ2
            have n0 : 0 ≤ NN ∧ NN ≤ 536870912 := by rw [← hNN]; omega
            have r1b : 0 ≤ r1 ∧ r1 ≤ 1000000000 := by omega
            have r2b : 0 ≤ r2 ∧ r2 ≤ 1000000000 := by omega
            have r3b : 0 ≤ r3 ∧ r3 ≤ 1000000000 := by omega
            have r4b : 0 ≤ r4 ∧ r4 ≤ 1000000000 := by omega
            have HE0 : Hid (deE (p1, p2, p3, p4, p5, p6) LN = 0) := hE
            have HNN : Hid (LN * QP = NN) := hNN
            clear hQ2 hT2 dm dk d0 dl dz hkk HQ Htb hE
            go_upto_region 15 with fail
            have hSt := St.start w9
            have hne := Nonempty.intro (Wd.mk _ hSt)
            have hCr : Hid (∀ wz, (∃ n : Wd w9 [], wz = n.w) → ∀ j v, [.int .i64 (O i 0), .int .i64 (O i 1), .int .i64 (O i 2), .int .i64 (O i 3), .int .i64 (O i 4), .int .i64 (O i 5), .int .i64 (O i 6), .int .i64 (O i 7), .int .i64 (O i 8), .int .i64 (O i 9), .int .i64 (O i 10), .int .i64 (O i 11), .slice wa lw cw, .slice ba lb cb, .int .i64 (O i 14), .int .i64 (O i 15), .int .i64 (O i 16), .int .i64 (O i 17), .int .i64 (O i 18), .int .i64 (O i 19), .int .i64 (O i 20), .int .i64 (O i 21), .int .i64 x0, .int .i64 y0, .int .i64 z0, .int .i64 H, .int .i64 V, .int .i64 C][j]? = some v → wz.cell? ((⟨B12, 0, none⟩ : Addr).add j) = some v) := wd_cells (ecells (cs := [.int .i64 (O i 0), .int .i64 (O i 1), .int .i64 (O i 2), .int .i64 (O i 3), .int .i64 (O i 4), .int .i64 (O i 5), .int .i64 (O i 6), .int .i64 (O i 7), .int .i64 (O i 8), .int .i64 (O i 9), .int .i64 (O i 10), .int .i64 (O i 11), .slice wa lw cw, .slice ba lb cb, .int .i64 (O i 14), .int .i64 (O i 15), .int .i64 (O i 16), .int .i64 (O i 17), .int .i64 (O i 18), .int .i64 (O i 19), .int .i64 (O i 20), .int .i64 (O i 21), .int .i64 x0, .int .i64 y0, .int .i64 z0, .int .i64 H, .int .i64 V, .int .i64 C]) S9.out.h2)
            refine region_held hSt (by kernel_rfl) (by kernel_rfl) ?_
            go_big_quiet_want
            refine quiet_la 79 (.tmp 12) rfl _ rfl [.int .i64 (O i 0), .int .i64 (O i 1), .int .i64 (O i 2), .int .i64 (O i 3), .int .i64 (O i 4), .int .i64 (O i 5), .int .i64 (O i 6), .int .i64 (O i 7), .int .i64 (O i 8), .int .i64 (O i 9), .int .i64 (O i 10), .int .i64 (O i 11), .slice wa lw cw, .slice ba lb cb, .int .i64 (O i 14), .int .i64 (O i 15), .int .i64 (O i 16), .int .i64 (O i 17), .int .i64 (O i 18), .int .i64 (O i 19), .int .i64 (O i 20), .int .i64 (O i 21), .int .i64 x0, .int .i64 y0, .int .i64 z0, .int .i64 H, .int .i64 V, .int .i64 C] _ hCr.out Try.underlying79 rfl (by kernel_rfl) rfl ?_
            go_simp
            go_big_quiet_on
            go_big_quiet_step ((go_at_call 26; exact held_of (hLe.out _)))
            go_big_quiet_want
            refine quiet_la 79 (.tmp 12) rfl _ rfl [.int .i64 (O i 0), .int .i64 (O i 1), .int .i64 (O i 2), .int .i64 (O i 3), .int .i64 (O i 4), .int .i64 (O i 5), .int .i64 (O i 6), .int .i64 (O i 7), .int .i64 (O i 8), .int .i64 (O i 9), .int .i64 (O i 10), .int .i64 (O i 11), .slice wa lw cw, .slice ba lb cb, .int .i64 (O i 14), .int .i64 (O i 15), .int .i64 (O i 16), .int .i64 (O i 17), .int .i64 (O i 18), .int .i64 (O i 19), .int .i64 (O i 20), .int .i64 (O i 21), .int .i64 x0, .int .i64 y0, .int .i64 z0, .int .i64 H, .int .i64 V, .int .i64 C] _ hCr.out Try.underlying79 rfl (by kernel_rfl) rfl ?_
            go_simp
            go_big_quiet_on
            repeat (go_big_quiet_step ((go_at_call 27; exact held_of (hPo.out _))))
            refine wpQuiet_nil ?_
            intro _ hw'
            obtain ⟨nq, rfl⟩ := hw'
            obtain ⟨wA, hwA⟩ : ∃ wA, nq.w = wA := ⟨_, rfl⟩
            have hbA : Below w9.heap.size w9 wA := hwA ▸ nq.h.below
            rw [hwA]
            have SA : Hid (St wS wA ([(wS.heap.size, #[.int .i64 r1, .int .i64 r2, .int .i64 r3, .int .i64 r4, .int .i64 0, .int .i64 0, .int .i64 0, .int .i64 0, .int .i64 0], 36), (B12, #[.int .i64 (O i 0), .int .i64 (O i 1), .int .i64 (O i 2), .int .i64 (O i 3), .int .i64 (O i 4), .int .i64 (O i 5), .int .i64 (O i 6), .int .i64 (O i 7), .int .i64 (O i 8), .int .i64 (O i 9), .int .i64 (O i 10), .int .i64 (O i 11), .slice wa lw cw, .slice ba lb cb, .int .i64 (O i 14), .int .i64 (O i 15), .int .i64 (O i 16), .int .i64 (O i 17), .int .i64 (O i 18), .int .i64 (O i 19), .int .i64 (O i 20), .int .i64 (O i 21), .int .i64 x0, .int .i64 y0, .int .i64 z0, .int .i64 H, .int .i64 V, .int .i64 C], 79), (B11, #[.int .i64 p1, .int .i64 p2, .int .i64 p3, .int .i64 p4, .int .i64 p5, .int .i64 p6], 61)])) := S9.out.call hbA
            clear hne hwA hSt hCr hbA S9
            clear nq
            obtain ⟨c7, f7, z7, c12, f12, z12, c11, f11, z11, -⟩ := SA.out.rules
            clear hNN
            by_cases h32 : p1 = 32
            · subst h32
              have HQ3 := HQ2.out
              have HT3 := HT2.out
              rw [ad_32 rfl, HNN.out] at HQ3
              rw [ad_32 rfl, HNN.out] at HT3
              have HQ4 : Hid (coL ((i : Int) + 1) LN QP (l.drop (k + 1)) (k + 1) (r1, r2, r3 + NN, r4 + NN) = coL ((i : Int) + 1) LN QP l 0 (t1, t2, t3, t4)) := HQ3
              have HT4 : Hid (Tb (r1, r2, r3 + NN, r4 + NN) ((i : Int) * 8388608 + ((k + 1 : Nat) : Int) * NN)) := HT3
              have sF := ((SA.out.seti (i := 2) (v := .int .i64 (r3 + NN)) (by simp; omega) #[.int .i64 r1, .int .i64 r2, .int .i64 (r3 + NN), .int .i64 r4, .int .i64 0, .int .i64 0, .int .i64 0, .int .i64 0, .int .i64 0] (by simp)).seti (i := 3) (v := .int .i64 (r4 + NN)) (by simp; omega) #[.int .i64 r1, .int .i64 r2, .int .i64 (r3 + NN), .int .i64 (r4 + NN), .int .i64 0, .int .i64 0, .int .i64 0, .int .i64 0, .int .i64 0] (by simp))
              have SF : Hid (St wS _ [(wS.heap.size, #[.int .i64 r1, .int .i64 r2, .int .i64 (r3 + NN), .int .i64 (r4 + NN), .int .i64 0, .int .i64 0, .int .i64 0, .int .i64 0, .int .i64 0], 36)]) := sF.sub (by simp)
              clear HQ3 HT3 HQ2 HT2 HE0 sF SA
              go_wp2
              go_roundw
              case rel => exact ⟨k + 1, r1, r2, r3 + NN, r4 + NN, by omega, by go_num, HQ4.out, by rw [HNN.out]; exact HT4.out, SF.out⟩
              case measure => simp [intOf]; omega
            · have h16 : p1 = 16 := by
                have := HE0.out
                by_cases q : p1 = 16
                · exact q
                · rw [deE_w q h32] at this; cases this
              subst h16
              clear h32
              obtain ⟨a1, a2⟩ := deE_16 rfl HE0.out
              simp only at a1 a2
              have hBk : Hid (∀ w, _) := fun w => rblk_ok LN p2 a1 a2 (by omega) w
              obtain ⟨b1, b2⟩ := bkV_bd ⟨a1, a2⟩
              have d1 := mulbd (x := bkV LN p2) (n := LN) (q := QP) ⟨by omega, b2⟩ (by omega)
              have HQ3 := HQ2.out
              have HT3 := HT2.out
              rw [ad_16 rfl rfl, HNN.out] at HQ3
              rw [ad_16 rfl rfl, HNN.out] at HT3
              rw [HNN.out] at d1
              obtain ⟨BK, hBK⟩ : ∃ BK, bkV LN p2 = BK := ⟨_, rfl⟩
              simp only at HQ3 HT3
              rw [hBK] at hBk d1 HQ3 HT3 b1 b2
              obtain ⟨BQ, hBQ⟩ : ∃ BQ, BK * QP = BQ := ⟨_, rfl⟩
              rw [hBQ] at d1 HQ3 HT3
              have HQ4 : Hid (coL ((i : Int) + 1) LN QP (l.drop (k + 1)) (k + 1) (r1 + NN, r2 + NN, r3, r4 + BQ) = coL ((i : Int) + 1) LN QP l 0 (t1, t2, t3, t4)) := HQ3
              have HT4 : Hid (Tb (r1 + NN, r2 + NN, r3, r4 + BQ) ((i : Int) * 8388608 + ((k + 1 : Nat) : Int) * NN)) := HT3
              clear HQ3 HT3 HQ2 HT2 HE0 hBK a1 a2
              go_upto_region 19 with fail
              clear c7 f7 c12 f12 c11 f11
              have hSt := St.start wA
              have hne := Nonempty.intro (Wd.mk _ hSt)
              have hCr : Hid (∀ wz, (∃ n : Wd wA [], wz = n.w) → ∀ j v, [.int .i64 (O i 0), .int .i64 (O i 1), .int .i64 (O i 2), .int .i64 (O i 3), .int .i64 (O i 4), .int .i64 (O i 5), .int .i64 (O i 6), .int .i64 (O i 7), .int .i64 (O i 8), .int .i64 (O i 9), .int .i64 (O i 10), .int .i64 (O i 11), .slice wa lw cw, .slice ba lb cb, .int .i64 (O i 14), .int .i64 (O i 15), .int .i64 (O i 16), .int .i64 (O i 17), .int .i64 (O i 18), .int .i64 (O i 19), .int .i64 (O i 20), .int .i64 (O i 21), .int .i64 x0, .int .i64 y0, .int .i64 z0, .int .i64 H, .int .i64 V, .int .i64 C][j]? = some v → wz.cell? ((⟨B12, 0, none⟩ : Addr).add j) = some v) := wd_cells (ecells (cs := [.int .i64 (O i 0), .int .i64 (O i 1), .int .i64 (O i 2), .int .i64 (O i 3), .int .i64 (O i 4), .int .i64 (O i 5), .int .i64 (O i 6), .int .i64 (O i 7), .int .i64 (O i 8), .int .i64 (O i 9), .int .i64 (O i 10), .int .i64 (O i 11), .slice wa lw cw, .slice ba lb cb, .int .i64 (O i 14), .int .i64 (O i 15), .int .i64 (O i 16), .int .i64 (O i 17), .int .i64 (O i 18), .int .i64 (O i 19), .int .i64 (O i 20), .int .i64 (O i 21), .int .i64 x0, .int .i64 y0, .int .i64 z0, .int .i64 H, .int .i64 V, .int .i64 C]) SA.out.h2)
              obtain ⟨u7, v7, u12, v12, u11, v11, -⟩ := SA.out.rulesE
              refine region_held hSt (by kernel_rfl) (by kernel_rfl) ?_
              go_big_quiet_want
              refine quiet_la 79 (.tmp 12) rfl _ rfl [.int .i64 (O i 0), .int .i64 (O i 1), .int .i64 (O i 2), .int .i64 (O i 3), .int .i64 (O i 4), .int .i64 (O i 5), .int .i64 (O i 6), .int .i64 (O i 7), .int .i64 (O i 8), .int .i64 (O i 9), .int .i64 (O i 10), .int .i64 (O i 11), .slice wa lw cw, .slice ba lb cb, .int .i64 (O i 14), .int .i64 (O i 15), .int .i64 (O i 16), .int .i64 (O i 17), .int .i64 (O i 18), .int .i64 (O i 19), .int .i64 (O i 20), .int .i64 (O i 21), .int .i64 x0, .int .i64 y0, .int .i64 z0, .int .i64 H, .int .i64 V, .int .i64 C] _ hCr.out Try.underlying79 rfl (by kernel_rfl) rfl ?_
              go_simp
              go_big_quiet_on
              repeat (go_big_quiet_step ((first | (go_at_call 26; exact held_of (hLe.out _)) | (go_at_call 18; exact held_same (hBk.out _)))))
              refine wpQuiet_nil ?_
              intro _ hw'
              obtain ⟨nq, rfl⟩ := hw'
              obtain ⟨wB, hwB⟩ : ∃ wB, nq.w = wB := ⟨_, rfl⟩
              have hbB : Below wA.heap.size wA wB := hwB ▸ nq.h.below
              rw [hwB]
              have sB := SA.out.call hbB
              clear hne hwB hSt hCr hbB SA u7 v7 u12 v12 u11 v11
              clear nq
              obtain ⟨c7, f7, y7, c12, f12, y12, c11, f11, y11, -⟩ := sB.rules
              have sF := ((sB.seti (i := 0) (v := .int .i64 (r1 + NN)) (by simp; omega) #[.int .i64 (r1 + NN), .int .i64 r2, .int .i64 r3, .int .i64 r4, .int .i64 0, .int .i64 0, .int .i64 0, .int .i64 0, .int .i64 0] (by simp)).seti (i := 1) (v := .int .i64 (r2 + NN)) (by simp; omega) #[.int .i64 (r1 + NN), .int .i64 (r2 + NN), .int .i64 r3, .int .i64 r4, .int .i64 0, .int .i64 0, .int .i64 0, .int .i64 0, .int .i64 0] (by simp))
              have SF : Hid (St wS _ _) := sF
              clear sF sB
              go_upto_region 22 with fail
              clear c7 f7 c12 f12 c11 f11 y7 y12 y11
              obtain ⟨wC, hwC⟩ : ∃ wC, (wB.setCell ⟨wS.heap.size, 0, none⟩ (.int .i64 (r1 + NN))).setCell ⟨wS.heap.size, 1, none⟩ (.int .i64 (r2 + NN)) = wC := ⟨_, rfl⟩
              rw [hwC] at SF ⊢
              clear hwC
              have SG : Hid (St wS wC.drew _) := SF.out.drew
              clear SF
              refine regionC (fun w' => w'.heap[B12]? = some (.cells #[.int .i64 (O i 0), .int .i64 (O i 1), .int .i64 (O i 2), .int .i64 (O i 3), .int .i64 (O i 4), .int .i64 (O i 5), .int .i64 (O i 6), .int .i64 (O i 7), .int .i64 (O i 8), .int .i64 (O i 9), .int .i64 (O i 10), .int .i64 (O i 11), .slice wa lw cw, .slice ba lb cb, .int .i64 (O i 14), .int .i64 (O i 15), .int .i64 (O i 16), .int .i64 (O i 17), .int .i64 (O i 18), .int .i64 (O i 19), .int .i64 (O i 20), .int .i64 (O i 21), .int .i64 x0, .int .i64 y0, .int .i64 z0, .int .i64 H, .int .i64 V, .int .i64 C] 79 (0, 0))) (by kernel_rfl) ?_
              generalize World.drew _ = wD at SG ⊢
              refine takeC 0 (v := .pointer (some ⟨wS.heap.size, 3, none⟩)) rfl rfl (by kernel_rfl) (by kernel_rfl) (by kernel_rfl) (fun _ _ _ h => h) (fun _ => by kernel_rfl) (by kernel_rfl) (fun w' hw' => by go_simp) ?_
              refine takeC 2 (v := .int .i64 BK) rfl rfl (by kernel_rfl) (by kernel_rfl) (by kernel_rfl) (fun _ _ _ h => h) (fun _ => by kernel_rfl) (by kernel_rfl) (fun w' hw' => by kernel_rfl) ?_
              refine takeC 3 (v := .agg #[.int .i64 (O i 0), .int .i64 (O i 1), .int .i64 (O i 2), .int .i64 (O i 3), .int .i64 (O i 4), .int .i64 (O i 5), .int .i64 (O i 6), .int .i64 (O i 7), .int .i64 (O i 8), .int .i64 (O i 9), .int .i64 (O i 10), .int .i64 (O i 11), .slice wa lw cw, .slice ba lb cb, .int .i64 (O i 14), .int .i64 (O i 15), .int .i64 (O i 16), .int .i64 (O i 17), .int .i64 (O i 18), .int .i64 (O i 19), .int .i64 (O i 20), .int .i64 (O i 21), .int .i64 x0, .int .i64 y0, .int .i64 z0, .int .i64 H, .int .i64 V, .int .i64 C]) rfl rfl (by kernel_rfl) (by kernel_rfl) (by kernel_rfl) (fun _ _ _ h => h) (fun _ => by kernel_rfl) (by kernel_rfl) (fun w' hw' => run_la 79 (.tmp 12) rfl ⟨B12, 0, none⟩ (by kernel_rfl) [.int .i64 (O i 0), .int .i64 (O i 1), .int .i64 (O i 2), .int .i64 (O i 3), .int .i64 (O i 4), .int .i64 (O i 5), .int .i64 (O i 6), .int .i64 (O i 7), .int .i64 (O i 8), .int .i64 (O i 9), .int .i64 (O i 10), .int .i64 (O i 11), .slice wa lw cw, .slice ba lb cb, .int .i64 (O i 14), .int .i64 (O i 15), .int .i64 (O i 16), .int .i64 (O i 17), .int .i64 (O i 18), .int .i64 (O i 19), .int .i64 (O i 20), .int .i64 (O i 21), .int .i64 x0, .int .i64 y0, .int .i64 z0, .int .i64 H, .int .i64 V, .int .i64 C] _ (ecells (cs := [.int .i64 (O i 0), .int .i64 (O i 1), .int .i64 (O i 2), .int .i64 (O i 3), .int .i64 (O i 4), .int .i64 (O i 5), .int .i64 (O i 6), .int .i64 (O i 7), .int .i64 (O i 8), .int .i64 (O i 9), .int .i64 (O i 10), .int .i64 (O i 11), .slice wa lw cw, .slice ba lb cb, .int .i64 (O i 14), .int .i64 (O i 15), .int .i64 (O i 16), .int .i64 (O i 17), .int .i64 (O i 18), .int .i64 (O i 19), .int .i64 (O i 20), .int .i64 (O i 21), .int .i64 x0, .int .i64 y0, .int .i64 z0, .int .i64 H, .int .i64 V, .int .i64 C]) hw') Try.underlying79 rfl (by kernel_rfl)) ?_
              refine z2 1 4 SG.out.h2 (by kernel_rfl) ?_ ?_
              · have ck3 := (cells_at SG.out.h1).1 3
                refine zO rfl rfl (.int .i64 r4) wD (by go_simp) ?_
                clear ck3
                refine zK 4 SG.out.h2 (by kernel_rfl) rfl (by kernel_rfl) 27 #[.agg #[.int .i64 (O i 0), .int .i64 (O i 1), .int .i64 (O i 2), .int .i64 (O i 3), .int .i64 (O i 4), .int .i64 (O i 5), .int .i64 (O i 6), .int .i64 (O i 7), .int .i64 (O i 8), .int .i64 (O i 9), .int .i64 (O i 10), .int .i64 (O i 11), .slice wa lw cw, .slice ba lb cb, .int .i64 (O i 14), .int .i64 (O i 15), .int .i64 (O i 16), .int .i64 (O i 17), .int .i64 (O i 18), .int .i64 (O i 19), .int .i64 (O i 20), .int .i64 (O i 21), .int .i64 x0, .int .i64 y0, .int .i64 z0, .int .i64 H, .int .i64 V, .int .i64 C]] (by kernel_rfl) (hPo.out _) ?_
                rintro e wE ⟨rfl, hb⟩
                refine ⟨_, rfl, ?_⟩
                have SH : Hid (St wS wE _) := SG.out.call hb
                clear hb SG
                refine takeC 5 (v := .int .i64 BQ) rfl rfl (by kernel_rfl) (by kernel_rfl) (by kernel_rfl) (fun _ _ _ h => h) (fun _ => by kernel_rfl) (by kernel_rfl) (fun w' hw' => by go_simp; rw [IntKind.wrap_i64]; omega) ?_
                refine takeC 6 (v := .int .i64 (r4 + BQ)) rfl rfl (by kernel_rfl) (by kernel_rfl) (by kernel_rfl) (fun _ _ _ h => h) (fun _ => by kernel_rfl) (by kernel_rfl) (fun w' hw' => by go_simp; rw [IntKind.wrap_i64]; omega) ?_
                refine takeC 7 (v := .pointer (some ⟨wS.heap.size, 3, none⟩)) rfl rfl (by kernel_rfl) (by kernel_rfl) (by kernel_rfl) (fun _ _ _ h => h) (fun _ => by kernel_rfl) (by kernel_rfl) (fun w' hw' => by go_simp) ?_
                obtain ⟨ck, fk, zk⟩ := cells_at SH.out.h1
                have ck3 := ck 3
                have SJ : Hid (St wS (wE.setCell ⟨wS.heap.size, 3, none⟩ (.int .i64 (r4 + BQ))) _) := SH.out.seti (i := 3) (v := .int .i64 (r4 + BQ)) (by simp; omega) #[.int .i64 (r1 + NN), .int .i64 (r2 + NN), .int .i64 r3, .int .i64 (r4 + BQ), .int .i64 0, .int .i64 0, .int .i64 0, .int .i64 0, .int .i64 0] (by simp)
                refine zT 8 SH.out.h2 (by kernel_rfl) rfl rfl (wE.setCell ⟨wS.heap.size, 3, none⟩ (.int .i64 (r4 + BQ))) (by go_simp) ?_
                clear ck fk zk ck3 SH
                refine doneC SJ.out.h2 (by kernel_rfl) ?_ _
                generalize World.setCell _ _ _ = wF at SJ ⊢
                go_wp2
                go_roundw
                case rel => exact ⟨k + 1, r1 + NN, r2 + NN, r3, r4 + BQ, by omega, by go_num, HQ4.out, by rw [HNN.out]; exact HT4.out, SJ.out.sub (by simp)⟩
                case measure => simp [intOf]; omega
              · refine zC rfl rfl 27 #[.agg #[.int .i64 (O i 0), .int .i64 (O i 1), .int .i64 (O i 2), .int .i64 (O i 3), .int .i64 (O i 4), .int .i64 (O i 5), .int .i64 (O i 6), .int .i64 (O i 7), .int .i64 (O i 8), .int .i64 (O i 9), .int .i64 (O i 10), .int .i64 (O i 11), .slice wa lw cw, .slice ba lb cb, .int .i64 (O i 14), .int .i64 (O i 15), .int .i64 (O i 16), .int .i64 (O i 17), .int .i64 (O i 18), .int .i64 (O i 19), .int .i64 (O i 20), .int .i64 (O i 21), .int .i64 x0, .int .i64 y0, .int .i64 z0, .int .i64 H, .int .i64 V, .int .i64 C]] (by kernel_rfl) (hPo.out _) ?_
                rintro e wE ⟨rfl, hb⟩
                refine ⟨_, rfl, ?_⟩
                have SH : Hid (St wS wE _) := SG.out.call hb
                clear hb SG
                refine takeC 5 (v := .int .i64 BQ) rfl rfl (by kernel_rfl) (by kernel_rfl) (by kernel_rfl) (fun _ _ _ h => h) (fun _ => by kernel_rfl) (by kernel_rfl) (fun w' hw' => by go_simp; rw [IntKind.wrap_i64]; omega) ?_
                have ck3 := (cells_at SH.out.h1).1 3
                refine zR 1 SH.out.h2 (by kernel_rfl) rfl rfl (.int .i64 r4) wE (by go_simp) ?_
                clear ck3
                refine takeC 6 (v := .int .i64 (r4 + BQ)) rfl rfl (by kernel_rfl) (by kernel_rfl) (by kernel_rfl) (fun _ _ _ h => h) (fun _ => by kernel_rfl) (by kernel_rfl) (fun w' hw' => by go_simp; rw [IntKind.wrap_i64]; omega) ?_
                refine takeC 7 (v := .pointer (some ⟨wS.heap.size, 3, none⟩)) rfl rfl (by kernel_rfl) (by kernel_rfl) (by kernel_rfl) (fun _ _ _ h => h) (fun _ => by kernel_rfl) (by kernel_rfl) (fun w' hw' => by go_simp) ?_
                obtain ⟨ck, fk, zk⟩ := cells_at SH.out.h1
                have ck3 := ck 3
                have SJ : Hid (St wS (wE.setCell ⟨wS.heap.size, 3, none⟩ (.int .i64 (r4 + BQ))) _) := SH.out.seti (i := 3) (v := .int .i64 (r4 + BQ)) (by simp; omega) #[.int .i64 (r1 + NN), .int .i64 (r2 + NN), .int .i64 r3, .int .i64 (r4 + BQ), .int .i64 0, .int .i64 0, .int .i64 0, .int .i64 0, .int .i64 0] (by simp)
                refine zT 8 SH.out.h2 (by kernel_rfl) rfl rfl (wE.setCell ⟨wS.heap.size, 3, none⟩ (.int .i64 (r4 + BQ))) (by go_simp) ?_
                clear ck fk zk ck3 SH
                refine doneC SJ.out.h2 (by kernel_rfl) ?_ _
                generalize World.setCell _ _ _ = wF at SJ ⊢
                go_wp2
                go_roundw
                case rel => exact ⟨k + 1, r1 + NN, r2 + NN, r3, r4 + BQ, by omega, by go_num, HQ4.out, by rw [HNN.out]; exact HT4.out, SJ.out.sub (by simp)⟩
                case measure => simp [intOf]; omega
end Go.Proofs.Ytcjnhchjikcigaa
