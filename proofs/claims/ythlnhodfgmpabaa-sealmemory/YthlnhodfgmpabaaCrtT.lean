/- What Same of package cert and Same of its document return. -/
import Derived.Test.YthlnhodfgmpabaaCrtS
namespace Go.Proofs.Ythlnhodfgmpabaa
open Go.ChangeShapes Go.WideShapes Go.ChangeAt Go.RowKit
set_option linter.unusedVariables false
/-- Are the certificates the same? -/
noncomputable def ceB (R : List (Int × Int)) (P : List (List Pl)) (S : List (Int × Int)) (Q : List (List Pl)) : Bool := if R = S then smP P Q else false
theorem ceB_n {R S : List (Int × Int)} {P Q : List (List Pl)} (h : R ≠ S) : ceB R P S Q = false := if_neg h
theorem ceB_y {R S : List (Int × Int)} {P Q : List (List Pl)} (h : R = S) : ceB R P S Q = smP P Q := if_pos h
theorem ceB_t {R : List (Int × Int)} {P : List (List Pl)} : ceB R P R P = true := by rw [ceB_y rfl, smP_t rfl]
theorem ceB_m {R S : List (Int × Int)} {P Q : List (List Pl)} (h : P ≠ Q) : ceB R P S Q = false := by unfold ceB; rw [smP_f h]; split <;> rfl
theorem ceB_sym (R S : List (Int × Int)) (P Q : List (List Pl)) : ceB S Q R P = ceB R P S Q := by
  by_cases h : R = S
  · subst h
    by_cases g : P = Q
    · subst g; rfl
    · rw [ceB_m g, ceB_m (fun e => g e.symm)]
  · rw [ceB_n h, ceB_n (fun e => h e.symm)]
set_option maxHeartbeats 4000000 in
set_option maxRecDepth 100000 in
theorem csame_any (ra : Option Addr) (rn rc : Nat) (R : List (Int × Int)) (pa : Option Addr) (pn pc : Nat) (P : List (List Pl)) (sa : Option Addr) (sn sc : Nat) (S : List (Int × Int)) (qa : Option Addr) (qn qc : Nat) (Q : List (List Pl)) (W : World) (h1 : ERow 2 scs W ra rn rc R) (h2 : QRow W pa pn pc P) (h3 : ERow 2 scs W sa sn sc S) (h4 : QRow W qa qn qc Q) :
    Calls Try.prog 17 #[.agg #[.slice ra rn rc, .slice pa pn pc], .agg #[.slice sa sn sc, .slice qa qn qc]] W fun e w' => e = .returned (.bool (ceB R P S Q)) ∧ Below W.heap.size W w' := by
  have s0 := ((St.start W).new (c := #[.slice ra rn rc, .slice pa pn pc]) (t := 25)).new (c := #[.slice sa sn sc, .slice qa qn qc]) (t := 25)
  simp only [World.size_alloc] at s0
  have HE : Hid (∀ w', Below W.heap.size W w' → _) := fun w' hb => eqS_any ra sa rn rc sn sc R S w' (h1.below hb) (h3.below hb)
  have HF : Hid (∀ w', Below W.heap.size W w' → _) := fun w' hb => eqF_any pa qa pn pc qn qc P Q w' (h2.below hb) (h4.below hb)
  clear h1 h2 h3 h4
  by_cases hr : R = S
  · rw [ceB_y hr]
    rw [decide_eq_true hr] at HE
    clear hr
    go_enter Try.func17, Try.ntmps17
    go_wp2_with fail
    refine (HE.out _ s0.below).mono ?_
    rintro e w1 ⟨rfl, hb⟩
    have s1 := s0.call hb
    obtain ⟨c1, f1, z1, c2, f2, z2, -⟩ := s1.rules
    clear hb
    go_wp2_with fail
    refine (HF.out _ s1.below).mono ?_
    rintro e w2 ⟨rfl, hb⟩
    have s2 : Hid (St W w2 _) := s1.call hb
    clear hb c1 f1 c2 f2
    go_wp2
    go_ret
    exact ⟨rfl, s2.out.below⟩
  · rw [ceB_n hr]
    rw [decide_eq_false hr] at HE
    clear hr
    go_enter Try.func17, Try.ntmps17
    go_wp2_with fail
    refine (HE.out _ s0.below).mono ?_
    rintro e w1 ⟨rfl, hb⟩
    have s1 : Hid (St W w1 _) := s0.call hb
    clear hb
    go_wp2
    go_ret
    exact ⟨rfl, s1.out.below⟩
/-! ### The document's -/
set_option maxHeartbeats 4000000 in
set_option maxRecDepth 100000 in
theorem rsame_l (ra : Option Addr) (rn rc : Nat) (R : List (Int × Int)) (pa : Option Addr) (pn pc : Nat) (P : List (List Pl)) (sa : Option Addr) (sn sc : Nat) (S : List (Int × Int)) (qa : Option Addr) (qn qc : Nat) (Q : List (List Pl)) (W : World) (h1 : ERow 2 scs W ra rn rc R) (h2 : QRow W pa pn pc P) (h3 : ERow 2 scs W sa sn sc S) (h4 : QRow W qa qn qc Q) (hl : ¬ (rn = sn ∧ pn = qn)) :
    Calls Try.prog 14 #[.agg #[.slice ra rn rc, .slice pa pn pc], .agg #[.slice sa sn sc, .slice qa qn qc]] W fun e w' => e = .returned (.bool false) ∧ Below W.heap.size W w' := by
  clear h1 h2 h3 h4
  by_cases q1 : (rn : Int) = (sn : Int)
  · have q2 : ¬ (pn : Int) = (qn : Int) := by omega
    clear hl
    go_enter Try.func14, Try.ntmps14
    go_wp2
    go_ret
    exact ⟨rfl, bt (bal _ _) (bal _ _)⟩
  · clear hl
    go_enter Try.func14, Try.ntmps14
    go_wp2
    go_ret
    exact ⟨rfl, bt (bal _ _) (bal _ _)⟩
set_option maxHeartbeats 8000000 in
set_option maxRecDepth 100000 in
theorem rsame_w (ra : Option Addr) (rn rc : Nat) (R : List (Int × Int)) (pa : Option Addr) (pn pc : Nat) (P : List (List Pl)) (sa : Option Addr) (sc : Nat) (S : List (Int × Int)) (qa : Option Addr) (qc : Nat) (Q : List (List Pl)) (W : World) (h1 : ERow 2 scs W ra rn rc R) (h2 : QRow W pa pn pc P) (h3 : ERow 2 scs W sa rn sc S) (h4 : QRow W qa pn qc Q) :
    Calls Try.prog 14 #[.agg #[.slice ra rn rc, .slice pa pn pc], .agg #[.slice sa rn sc, .slice qa pn qc]] W fun e w' => e = .returned (.bool (ceB R P S Q)) ∧ Below W.heap.size W w' := by
  have l1 := h1.2.1
  have l2 := h1.2.2.1
  have l3 := h2.2.1
  have l4 := h2.2.2.1
  have l5 := h3.2.1
  have l6 := h3.2.2.1
  have l7 := h4.2.1
  have l8 := h4.2.2.1
  unfold maxLen at l2 l4 l6 l8
  have H1 : Hid (ERow 2 scs W ra rn rc R) := h1
  have H2 : Hid (QRow W pa pn pc P) := h2
  have H3 : Hid (ERow 2 scs W sa rn sc S) := h3
  have H4 : Hid (QRow W qa pn qc Q) := h4
  clear h1 h2 h3 h4
  obtain ⟨v, hv⟩ : ∃ v, ceB R P S Q = v := ⟨_, rfl⟩
  rw [hv]
  have HV : Hid (ceB R P S Q = v) := hv
  clear hv
  have s0 := ((St.start W).new (c := #[.slice ra rn rc, .slice pa pn pc]) (t := 25)).new (c := #[.slice sa rn sc, .slice qa pn qc]) (t := 25)
  simp only [World.size_alloc] at s0
  have S0 : Hid (St W _ ([(W.heap.size + 1, #[.slice sa rn sc, .slice qa pn qc], 25), (W.heap.size, #[.slice ra rn rc, .slice pa pn pc], 25)])) := s0
  clear s0
  go_enter Try.func14, Try.ntmps14
  go_wp2
  go_loopw [27] (fun i wr => ∃ k : Nat, k ≤ rn ∧ i = .int .i64 k ∧ R.take k = S.take k ∧ St W wr ([(W.heap.size + 1, #[.slice sa rn sc, .slice qa pn qc], 25), (W.heap.size, #[.slice ra rn rc, .slice pa pn pc], 25)])) (fun i _ => rn - (intOf i).toNat)
  case atStart => exact ⟨0, Nat.zero_le _, rfl, by simp, S0.out⟩
  case round =>
    clear S0
    obtain ⟨k, hk, rfl, ht, sr⟩ := hrel
    by_cases hlt : k < rn
    · obtain ⟨x, p, rfl, hp, -, hcx⟩ := (H1.out.below sr.below).at hlt
      obtain ⟨y, q, rfl, hq, -, hcy⟩ := (H3.out.below sr.below).at hlt
      have HT : Hid (R.take k = S.take k) := ht
      obtain ⟨a1, a2⟩ := p
      obtain ⟨b1, b2⟩ := q
      have hCx : Hid (∀ wz, (∃ n : Wd wr [], wz = n.w) → ∀ j v, [.int .i64 a1, .int .i64 a2][j]? = some v → wz.cell? ((x.add (k * 2)).add j) = some v) := wd_cells hcx
      have hCy : Hid (∀ wz, (∃ n : Wd wr [], wz = n.w) → ∀ j v, [.int .i64 b1, .int .i64 b2][j]? = some v → wz.cell? ((y.add (k * 2)).add j) = some v) := wd_cells hcy
      have HP : Hid (R[k]? = some _) := hp
      have HQ : Hid (S[k]? = some _) := hq
      clear hcx hcy ht hp hq
      obtain ⟨ev, hev⟩ : ∃ ev, ev = decide ((a1, a2) = (b1, b2)) := ⟨_, rfl⟩
      have hN := neS2 a1 a2 b1 b2 ev hev.symm
      have HEV : Hid (ev = _) := hev
      clear hev
      go_upto_region 6 with fail
      have hSt := St.start wr
      obtain ⟨q1, y1, q2, y2, -⟩ := sr.rulesE
      have Hsr : Hid (St W wr (_)) := sr
      have hne := Nonempty.intro (Wd.mk _ hSt)
      clear sr
      refine region_held hSt (by kernel_rfl) (by kernel_rfl) ?_
      go_big_quiet_step (fail)
      go_big_quiet_step (fail)
      go_big_quiet_step (fail)
      go_big_quiet_step (fail)
      go_big_quiet_want
      refine quiet_la 44 (.tmp 33) rfl _ rfl [.int .i64 a1, .int .i64 a2] _ hCx.out Try.underlying44 rfl (by kernel_rfl) rfl ?_
      go_simp
      go_big_quiet_on
      go_big_quiet_step (fail)
      go_big_quiet_step (fail)
      go_big_quiet_step (fail)
      go_big_quiet_step (fail)
      go_big_quiet_want
      refine quiet_la 44 (.tmp 38) rfl _ rfl [.int .i64 b1, .int .i64 b2] _ hCy.out Try.underlying44 rfl (by kernel_rfl) rfl ?_
      go_simp
      go_big_quiet_on
      repeat (go_big_quiet_step (fail))
      refine wpQuiet_nil ?_
      intro _ hw'
      obtain ⟨nq, rfl⟩ := hw'
      obtain ⟨w5, hw5⟩ : ∃ w5, nq.w = w5 := ⟨_, rfl⟩
      have hb5 : Below wr.heap.size wr w5 := hw5 ▸ nq.h.below
      rw [hw5]
      have S5 : Hid (St W w5 (_)) := Hsr.out.call hb5
      clear hne hw5 hSt hCx hCy hb5 q1 y1 q2 y2 Hsr
      clear nq
      cases ev with
      | true =>
        have e := of_decide_eq_true HEV.out.symm
        have HT2 : Hid (R.take (k + 1) = S.take (k + 1)) := te_step HP.out (by rw [e]; exact HQ.out) HT.out
        clear e HEV HT HP HQ hN
        go_wp2
        go_roundw
        case rel => exact ⟨k + 1, by omega, by go_num, HT2.out, S5.out⟩
        case measure => simp [intOf]; omega
      | false =>
        have e := te_ne HP.out HQ.out (of_decide_eq_false HEV.out.symm)
        have hv := HV.out
        rw [ceB_n e] at hv
        subst hv
        clear e HEV HT HP HQ hN
        go_wp2
        go_ret
        exact ⟨rfl, S5.out.below⟩
    · have e := te_end H1.out.1 H3.out.1 (by omega) ht
      have hv := HV.out
      rw [ceB_y e] at hv
      have HW : Hid (smP P Q = v) := hv
      obtain ⟨c1, f1, z1, c2, f2, z2, -⟩ := sr.rules
      have Hsr : Hid (St W wr (_)) := sr
      clear ht e hv HV sr
      go_wp2
      clear c1 f1 c2 f2
      go_loopw [45] (fun i wv => ∃ k : Nat, k ≤ pn ∧ i = .int .i64 k ∧ P.take k = Q.take k ∧ St W wv ([(W.heap.size + 1, #[.slice sa rn sc, .slice qa pn qc], 25), (W.heap.size, #[.slice ra rn rc, .slice pa pn pc], 25)])) (fun i _ => pn - (intOf i).toNat)
      case atStart => exact ⟨0, Nat.zero_le _, rfl, by simp, Hsr.out⟩
      case round =>
        clear Hsr z1 z2
        obtain ⟨i, hi0, rfl, ht, sr⟩ := hrel
        by_cases hli : i < pn
        rotate_left
        · have e := te_end H2.out.1 H4.out.1 (by omega) ht
          have hv := HW.out
          rw [smP_t e] at hv
          subst hv
          have Hsr : Hid (St W wr (_)) := sr
          clear ht e sr
          go_wp2
          go_ret
          exact ⟨rfl, Hsr.out.below⟩
        · obtain ⟨x, p, xa, xc, rfl, hp, -, hcx, hex, -⟩ := (H2.out.below sr.below).at hli
          obtain ⟨y, q, ya, yc, rfl, hq, -, hcy, hey, -⟩ := (H4.out.below sr.below).at hli
          have HT : Hid (P.take i = Q.take i) := ht
          have HP : Hid (P[i]? = some p) := hp
          have HQ : Hid (Q[i]? = some q) := hq
          obtain ⟨np, hnp⟩ : ∃ np, p.length = np := ⟨_, rfl⟩
          obtain ⟨nq, hnq⟩ : ∃ nq, q.length = nq := ⟨_, rfl⟩
          rw [hnp] at hcx hex
          rw [hnq] at hcy hey
          have HX : Hid (ERow 6 pcs wr xa np xc p) := hex
          have HY : Hid (ERow 6 pcs wr ya nq yc q) := hey
          have m1 := hex.2.1
          have m2 := hex.2.2.1
          have m3 := hey.2.1
          have m4 := hey.2.2.1
          unfold maxLen at m2 m4
          have qx : ∀ n : Wd wr [], n.w.cell? (x.add i) = some (.slice xa np xc) := fun n => (n.h.below.cell (World.block_lt_of_cell? wr _ hcx)).trans hcx
          have qy : ∀ n : Wd wr [], n.w.cell? (y.add i) = some (.slice ya nq yc) := fun n => (n.h.below.cell (World.block_lt_of_cell? wr _ hcy)).trans hcy
          have Hcx : Hid (wr.cell? (x.add i) = some (.slice xa np xc)) := hcx
          have Hcy : Hid (wr.cell? (y.add i) = some (.slice ya nq yc)) := hcy
          have HN1 : Hid (p.length = np) := hnp
          have HN2 : Hid (q.length = nq) := hnq
          clear hnp hnq hex hey ht hp hq hcx hcy
          go_upto_region 12 with fail
          have hSt := St.start wr
          obtain ⟨q1, y1, q2, y2, -⟩ := sr.rulesE
          have Hsr : Hid (St W wr (_)) := sr
          have hne := Nonempty.intro (Wd.mk _ hSt)
          clear sr
          refine region_held hSt (by kernel_rfl) (by kernel_rfl) ?_
          repeat (go_big_quiet_step (fail))
          refine wpQuiet_nil ?_
          intro _ hw'
          obtain ⟨nw, rfl⟩ := hw'
          obtain ⟨w5, hw5⟩ : ∃ w5, nw.w = w5 := ⟨_, rfl⟩
          have hb5 : Below wr.heap.size wr w5 := hw5 ▸ nw.h.below
          rw [hw5]
          have s5 := Hsr.out.call hb5
          have hcx : w5.cell? (x.add i) = some (.slice xa np xc) := (hb5.cell (World.block_lt_of_cell? wr _ Hcx.out)).trans Hcx.out
          have hcy : w5.cell? (y.add i) = some (.slice ya nq yc) := (hb5.cell (World.block_lt_of_cell? wr _ Hcy.out)).trans Hcy.out
          have HX5 : Hid (ERow 6 pcs w5 xa np xc p) := HX.out.below hb5
          have HY5 : Hid (ERow 6 pcs w5 ya nq yc q) := HY.out.below hb5
          clear hne hw5 hSt hb5 q1 y1 q2 y2 Hsr qx qy HX HY Hcx Hcy
          clear nw
          obtain ⟨c1, f1, z1, c2, f2, z2, -⟩ := s5.rules
          have S5 : Hid (St W w5 (_)) := s5
          clear s5
          by_cases hnn : (np : Int) = (nq : Int)
          rotate_left
          · have e := te_ne HP.out HQ.out (fun e => hnn (by rw [← HN1.out, ← HN2.out, e]))
            have hv := HW.out
            rw [smP_f e] at hv
            subst hv
            clear e HT HP HQ hcx hcy c1 f1 c2 f2
            go_wp2
            go_ret
            exact ⟨rfl, S5.out.below⟩
          · obtain rfl : np = nq := by omega
            clear hnn
            simp only [bne_self_eq_false]
            go_wp2
            clear c1 f1 c2 f2
            go_loopw [67] (fun j wv => ∃ k : Nat, k ≤ np ∧ j = .int .i64 k ∧ p.take k = q.take k ∧ Below w5.heap.size w5 wv) (fun j _ => np - (intOf j).toNat)
            case atStart => exact ⟨0, Nat.zero_le _, rfl, by simp, Below.refl _ _⟩
            case round =>
              obtain ⟨j, hj0, rfl, hu, hbr⟩ := hrel
              have sr := S5.out.call hbr
              by_cases hlj : j < np
              rotate_left
              · have e := te_end HN1.out HN2.out (by omega) hu
                have HT2 : Hid (P.take (i + 1) = Q.take (i + 1)) := te_step HP.out (by rw [e]; exact HQ.out) HT.out
                have Hsr : Hid (St W wr (_)) := sr
                clear e hu sr hbr HT HP HQ hcx hcy
                go_wp2
                go_roundw
                case rel => exact ⟨i + 1, by omega, by go_num, HT2.out, Hsr.out⟩
                case measure => simp [intOf]; omega
              · obtain ⟨s, a, rfl, ha, -, hca⟩ := (HX5.out.below hbr).at hlj
                obtain ⟨t, b, rfl, hb, -, hcb⟩ := (HY5.out.below hbr).at hlj
                obtain ⟨a1, a2, a3, a4, a5, a6⟩ := a
                obtain ⟨b1, b2, b3, b4, b5, b6⟩ := b
                have hCx : Hid (∀ wz, (∃ n : Wd wr [], wz = n.w) → ∀ r v, [.int .i64 a1, .int .i64 a2, .int .i64 a3, .int .i64 a4, .int .i64 a5, .int .i64 a6][r]? = some v → wz.cell? ((s.add (j * 6)).add r) = some v) := wd_cells hca
                have hCy : Hid (∀ wz, (∃ n : Wd wr [], wz = n.w) → ∀ r v, [.int .i64 b1, .int .i64 b2, .int .i64 b3, .int .i64 b4, .int .i64 b5, .int .i64 b6][r]? = some v → wz.cell? ((t.add (j * 6)).add r) = some v) := wd_cells hcb
                have HA : Hid (p[j]? = some _) := ha
                have HB : Hid (q[j]? = some _) := hb
                have HU : Hid (p.take j = q.take j) := hu
                have hcx' := (hbr.cell (World.block_lt_of_cell? w5 _ hcx)).trans hcx
                have hcy' := (hbr.cell (World.block_lt_of_cell? w5 _ hcy)).trans hcy
                have qx : ∀ n : Wd wr [], n.w.cell? (x.add i) = some (.slice (some s) np xc) := fun n => (n.h.below.cell (World.block_lt_of_cell? wr _ hcx')).trans hcx'
                have qy : ∀ n : Wd wr [], n.w.cell? (y.add i) = some (.slice (some t) np yc) := fun n => (n.h.below.cell (World.block_lt_of_cell? wr _ hcy')).trans hcy'
                obtain ⟨ev, hev⟩ : ∃ ev, ev = decide ((a1, a2, a3, a4, a5, a6) = (b1, b2, b3, b4, b5, b6)) := ⟨_, rfl⟩
                have hN := neC6 a1 a2 a3 a4 a5 a6 b1 b2 b3 b4 b5 b6 ev hev.symm
                have HEV : Hid (ev = _) := hev
                have Hbr : Hid (Below w5.heap.size w5 wr) := hbr
                clear hev hca hcb ha hb hu hcx' hcy' hbr
                go_upto_region 17 with fail
                have hSt := St.start wr
                obtain ⟨q1, y1, q2, y2, -⟩ := sr.rulesE
                have hne := Nonempty.intro (Wd.mk _ hSt)
                clear sr hcx hcy
                refine region_held hSt (by kernel_rfl) (by kernel_rfl) ?_
                go_big_quiet_step (fail)
                go_big_quiet_step (fail)
                go_big_quiet_step (fail)
                go_big_quiet_step (fail)
                go_big_quiet_step (fail)
                go_big_quiet_step (fail)
                go_big_quiet_step (fail)
                go_big_quiet_want
                refine quiet_la 47 (.tmp 76) rfl _ rfl [.int .i64 a1, .int .i64 a2, .int .i64 a3, .int .i64 a4, .int .i64 a5, .int .i64 a6] _ hCx.out Try.underlying47 rfl (by kernel_rfl) rfl ?_
                go_simp
                go_big_quiet_on
                go_big_quiet_step (fail)
                go_big_quiet_step (fail)
                go_big_quiet_step (fail)
                go_big_quiet_step (fail)
                go_big_quiet_step (fail)
                go_big_quiet_step (fail)
                go_big_quiet_step (fail)
                go_big_quiet_want
                refine quiet_la 47 (.tmp 84) rfl _ rfl [.int .i64 b1, .int .i64 b2, .int .i64 b3, .int .i64 b4, .int .i64 b5, .int .i64 b6] _ hCy.out Try.underlying47 rfl (by kernel_rfl) rfl ?_
                go_simp
                go_big_quiet_on
                repeat (go_big_quiet_step (fail))
                refine wpQuiet_nil ?_
                intro _ hw'
                obtain ⟨nw, rfl⟩ := hw'
                obtain ⟨w7, hw7⟩ : ∃ w7, nw.w = w7 := ⟨_, rfl⟩
                have hb7 : Below wr.heap.size wr w7 := hw7 ▸ nw.h.below
                rw [hw7]
                have HB7 : Hid (Below w5.heap.size w5 w7) := Hbr.out.trans (hb7.mono Hbr.out.size)
                clear hne hw7 hSt hb7 q1 y1 q2 y2 qx qy Hbr hCx hCy
                clear nw
                cases ev with
                | true =>
                  have e := of_decide_eq_true HEV.out.symm
                  have HT2 : Hid (p.take (j + 1) = q.take (j + 1)) := te_step HA.out (by rw [e]; exact HB.out) HU.out
                  clear e HEV HU HA HB hN
                  go_wp2
                  go_roundw
                  case rel => exact ⟨j + 1, by omega, by go_num, HT2.out, HB7.out⟩
                  case measure => simp [intOf]; omega
                | false =>
                  have e := te_ne HP.out HQ.out (te_ne HA.out HB.out (of_decide_eq_false HEV.out.symm))
                  have hv := HW.out
                  rw [smP_f e] at hv
                  subst hv
                  clear e HEV HU HA HB hN
                  go_wp2
                  go_ret
                  exact ⟨rfl, (S5.out.call HB7.out).below⟩
theorem rsame_any (ra : Option Addr) (rn rc : Nat) (R : List (Int × Int)) (pa : Option Addr) (pn pc : Nat) (P : List (List Pl)) (sa : Option Addr) (sn sc : Nat) (S : List (Int × Int)) (qa : Option Addr) (qn qc : Nat) (Q : List (List Pl)) (W : World) (h1 : ERow 2 scs W ra rn rc R) (h2 : QRow W pa pn pc P) (h3 : ERow 2 scs W sa sn sc S) (h4 : QRow W qa qn qc Q) :
    Calls Try.prog 14 #[.agg #[.slice ra rn rc, .slice pa pn pc], .agg #[.slice sa sn sc, .slice qa qn qc]] W fun e w' => e = .returned (.bool (ceB R P S Q)) ∧ Below W.heap.size W w' := by
  by_cases hl : rn = sn ∧ pn = qn
  · obtain ⟨rfl, rfl⟩ := hl
    exact rsame_w ra rn rc R pa pn pc P sa sc S qa qc Q W h1 h2 h3 h4
  · have hf : ceB R P S Q = false := by
      by_cases e : R = S
      · refine ceB_m (fun q => hl ⟨?_, ?_⟩)
        · rw [← h1.1, ← h3.1, e]
        · rw [← h2.1, ← h4.1, q]
      · exact ceB_n e
    rw [hf]
    exact rsame_l ra rn rc R pa pn pc P sa sn sc S qa qn qc Q W h1 h2 h3 h4 hl
end Go.Proofs.Ythlnhodfgmpabaa
