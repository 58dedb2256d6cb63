/- What Same of package cert returns. -/
import Derived.Test.YthlnhodfgmpabaaCeA
namespace Go.Proofs.Ythlnhodfgmpabaa
open Go.ChangeShapes Go.WideShapes Go.ChangeAt Go.RowKit
set_option linter.unusedVariables false
theorem neS2 (a1 a2 b1 b2 : Int) (v : Bool) (h : decide ((a1, a2) = (b1, b2)) = v) : ∀ W, (binOp .neq 44 (.agg #[.int .i64 a1, .int .i64 a2]) (.agg #[.int .i64 b1, .int .i64 b2])).run Try.prog W = .ok (.bool (!v)) W := by
  intro W; subst h; simp [go_sem]; repeat' split
  all_goals simp_all
theorem neC6 (a1 a2 a3 a4 a5 a6 b1 b2 b3 b4 b5 b6 : Int) (v : Bool) (h : decide ((a1, a2, a3, a4, a5, a6) = (b1, b2, b3, b4, b5, b6)) = v) : ∀ W, (binOp .neq 47 (.agg #[.int .i64 a1, .int .i64 a2, .int .i64 a3, .int .i64 a4, .int .i64 a5, .int .i64 a6]) (.agg #[.int .i64 b1, .int .i64 b2, .int .i64 b3, .int .i64 b4, .int .i64 b5, .int .i64 b6])).run Try.prog W = .ok (.bool (!v)) W := by
  intro W; subst h; simp [go_sem]; repeat' split
  all_goals simp_all
theorem te_step {α : Type} {xs ys : List α} {k : Nat} {p : α} (hx : xs[k]? = some p) (hy : ys[k]? = some p) (h : xs.take k = ys.take k) : xs.take (k + 1) = ys.take (k + 1) := by
  rw [List.take_add_one, List.take_add_one, hx, hy, h]
theorem te_ne {α : Type} {xs ys : List α} {k : Nat} {p q : α} (hx : xs[k]? = some p) (hy : ys[k]? = some q) (h : p ≠ q) : xs ≠ ys := fun e => by
  rw [e, hy] at hx
  exact h (Option.some.inj hx).symm
theorem te_end {α : Type} {xs ys : List α} {k n : Nat} (hx : xs.length = n) (hy : ys.length = n) (hk : n ≤ k) (h : xs.take k = ys.take k) : xs = ys := by
  rwa [List.take_of_length_le (by omega), List.take_of_length_le (by omega)] at h
set_option maxHeartbeats 4000000 in
set_option maxRecDepth 100000 in
theorem eqS_any (a b : Option Addr) (n c m d : Nat) (xs ys : List (Int × Int)) (W : World) (ha : ERow 2 scs W a n c xs) (hb : ERow 2 scs W b m d ys) :
    Calls Try.prog 34 #[.slice a n c, .slice b m d] W fun e w' => e = .returned (.bool (decide (xs = ys))) ∧ Below W.heap.size W w' := by
  have l1 := ha.2.1
  have l2 := ha.2.2.1
  have l3 := hb.2.1
  have l4 := hb.2.2.1
  unfold maxLen at l2 l4
  have H1 : Hid (ERow 2 scs W a n c xs) := ha
  have H2 : Hid (ERow 2 scs W b m d ys) := hb
  clear ha hb
  by_cases hnm : n = m
  rotate_left
  · rw [decide_eq_false (fun e : xs = ys => hnm (by rw [← H1.out.1, ← H2.out.1, e]))]
    have hn2 : ¬ (n : Int) = (m : Int) := by omega
    clear H1 H2 hnm
    go_enter Try.func34, Try.ntmps34
    go_wp2
    go_ret
    exact ⟨rfl, Below.refl _ _⟩
  · subst hnm
    obtain ⟨v, hv⟩ : ∃ v, decide (xs = ys) = v := ⟨_, rfl⟩
    rw [hv]
    have HV : Hid (decide (xs = ys) = v) := hv
    clear hv
    go_enter Try.func34, Try.ntmps34
    go_wp2
    go_loopw [13] (fun i wr => ∃ k : Nat, k ≤ n ∧ i = .int .i64 k ∧ xs.take k = ys.take k ∧ Below W.heap.size W wr) (fun i _ => n - (intOf i).toNat)
    case atStart => exact ⟨0, Nat.zero_le _, rfl, by simp, Below.refl _ _⟩
    case round =>
      obtain ⟨k, hk, rfl, ht, hbr⟩ := hrel
      by_cases hlt : k < n
      rotate_left
      · have e := te_end H1.out.1 H2.out.1 (by omega) ht
        have hv := HV.out
        rw [decide_eq_true e] at hv
        subst hv
        have Hb : Hid (Below W.heap.size W wr) := hbr
        clear ht hbr e
        go_wp2
        go_ret
        exact ⟨rfl, Hb.out⟩
      · obtain ⟨x, p, rfl, hp, -, hcx⟩ := (H1.out.below hbr).at hlt
        obtain ⟨y, q, rfl, hq, -, hcy⟩ := (H2.out.below hbr).at hlt
        have HT : Hid (xs.take k = ys.take k) := ht
        have Hbr : Hid (Below W.heap.size W wr) := hbr
        obtain ⟨a1, a2⟩ := p
        obtain ⟨b1, b2⟩ := q
        have hCx : Hid (∀ wz, (∃ n : Wd wr [], wz = n.w) → ∀ j v, [.int .i64 a1, .int .i64 a2][j]? = some v → wz.cell? ((x.add (k * 2)).add j) = some v) := wd_cells hcx
        have hCy : Hid (∀ wz, (∃ n : Wd wr [], wz = n.w) → ∀ j v, [.int .i64 b1, .int .i64 b2][j]? = some v → wz.cell? ((y.add (k * 2)).add j) = some v) := wd_cells hcy
        have HP : Hid (xs[k]? = some _) := hp
        have HQ : Hid (ys[k]? = some _) := hq
        clear hcx hcy ht hbr hp hq
        obtain ⟨ev, hev⟩ : ∃ ev, ev = decide ((⟨a1, a2⟩ : Int × Int) = ⟨b1, b2⟩) := ⟨_, rfl⟩
        have hN := neS2 a1 a2 b1 b2 ev hev.symm
        have HEV : Hid (ev = _) := hev
        clear hev
        go_upto_region 6 with fail
        have hSt := St.start wr
        have hne := Nonempty.intro (Wd.mk _ hSt)
        refine region_held hSt (by kernel_rfl) (by kernel_rfl) ?_
        go_big_quiet_step (fail)
        go_big_quiet_step (fail)
        go_big_quiet_step (fail)
        go_big_quiet_want
        refine quiet_la 44 (.tmp 18) rfl _ rfl [.int .i64 a1, .int .i64 a2] _ hCx.out Try.underlying44 rfl (by kernel_rfl) rfl ?_
        go_simp
        go_big_quiet_on
        go_big_quiet_step (fail)
        go_big_quiet_step (fail)
        go_big_quiet_step (fail)
        go_big_quiet_want
        refine quiet_la 44 (.tmp 22) rfl _ rfl [.int .i64 b1, .int .i64 b2] _ hCy.out Try.underlying44 rfl (by kernel_rfl) rfl ?_
        go_simp
        go_big_quiet_on
        repeat (go_big_quiet_step (fail))
        refine wpQuiet_nil ?_
        intro _ hw'
        obtain ⟨nq, rfl⟩ := hw'
        obtain ⟨w5, hw5⟩ : ∃ w5, nq.w = w5 := ⟨_, rfl⟩
        have hb5 : Below wr.heap.size wr w5 := hw5 ▸ nq.h.below
        rw [hw5]
        have HB5 : Hid (Below W.heap.size W w5) := bt Hbr.out hb5
        clear hne hw5 hSt hCx hCy hb5 Hbr
        clear nq
        cases ev with
        | true =>
          have e := of_decide_eq_true HEV.out.symm
          have HT2 : Hid (xs.take (k + 1) = ys.take (k + 1)) := te_step HP.out (by rw [e]; exact HQ.out) HT.out
          clear e HEV HT HP HQ hN
          go_wp2
          go_roundw
          case rel => exact ⟨k + 1, by omega, by go_num, HT2.out, HB5.out⟩
          case measure => simp [intOf]; omega
        | false =>
          have e := te_ne HP.out HQ.out (of_decide_eq_false HEV.out.symm)
          have hv := HV.out
          rw [decide_eq_false e] at hv
          subst hv
          clear e HEV HT HP HQ hN
          go_wp2
          go_ret
          exact ⟨rfl, HB5.out⟩
set_option maxHeartbeats 4000000 in
set_option maxRecDepth 100000 in
theorem eqC_any (a b : Option Addr) (n c m d : Nat) (xs ys : List (Pl)) (W : World) (ha : ERow 6 pcs W a n c xs) (hb : ERow 6 pcs W b m d ys) :
    Calls Try.prog 33 #[.slice a n c, .slice b m d] W fun e w' => e = .returned (.bool (decide (xs = ys))) ∧ Below W.heap.size W w' := by
  have l1 := ha.2.1
  have l2 := ha.2.2.1
  have l3 := hb.2.1
  have l4 := hb.2.2.1
  unfold maxLen at l2 l4
  have H1 : Hid (ERow 6 pcs W a n c xs) := ha
  have H2 : Hid (ERow 6 pcs W b m d ys) := hb
  clear ha hb
  by_cases hnm : n = m
  rotate_left
  · rw [decide_eq_false (fun e : xs = ys => hnm (by rw [← H1.out.1, ← H2.out.1, e]))]
    have hn2 : ¬ (n : Int) = (m : Int) := by omega
    clear H1 H2 hnm
    go_enter Try.func33, Try.ntmps33
    go_wp2
    go_ret
    exact ⟨rfl, Below.refl _ _⟩
  · subst hnm
    obtain ⟨v, hv⟩ : ∃ v, decide (xs = ys) = v := ⟨_, rfl⟩
    rw [hv]
    have HV : Hid (decide (xs = ys) = v) := hv
    clear hv
    go_enter Try.func33, Try.ntmps33
    go_wp2
    go_loopw [13] (fun i wr => ∃ k : Nat, k ≤ n ∧ i = .int .i64 k ∧ xs.take k = ys.take k ∧ Below W.heap.size W wr) (fun i _ => n - (intOf i).toNat)
    case atStart => exact ⟨0, Nat.zero_le _, rfl, by simp, Below.refl _ _⟩
    case round =>
      obtain ⟨k, hk, rfl, ht, hbr⟩ := hrel
      by_cases hlt : k < n
      rotate_left
      · have e := te_end H1.out.1 H2.out.1 (by omega) ht
        have hv := HV.out
        rw [decide_eq_true e] at hv
        subst hv
        have Hb : Hid (Below W.heap.size W wr) := hbr
        clear ht hbr e
        go_wp2
        go_ret
        exact ⟨rfl, Hb.out⟩
      · obtain ⟨x, p, rfl, hp, -, hcx⟩ := (H1.out.below hbr).at hlt
        obtain ⟨y, q, rfl, hq, -, hcy⟩ := (H2.out.below hbr).at hlt
        have HT : Hid (xs.take k = ys.take k) := ht
        have Hbr : Hid (Below W.heap.size W wr) := hbr
        obtain ⟨a1, a2, a3, a4, a5, a6⟩ := p
        obtain ⟨b1, b2, b3, b4, b5, b6⟩ := q
        have hCx : Hid (∀ wz, (∃ n : Wd wr [], wz = n.w) → ∀ j v, [.int .i64 a1, .int .i64 a2, .int .i64 a3, .int .i64 a4, .int .i64 a5, .int .i64 a6][j]? = some v → wz.cell? ((x.add (k * 6)).add j) = some v) := wd_cells hcx
        have hCy : Hid (∀ wz, (∃ n : Wd wr [], wz = n.w) → ∀ j v, [.int .i64 b1, .int .i64 b2, .int .i64 b3, .int .i64 b4, .int .i64 b5, .int .i64 b6][j]? = some v → wz.cell? ((y.add (k * 6)).add j) = some v) := wd_cells hcy
        have HP : Hid (xs[k]? = some _) := hp
        have HQ : Hid (ys[k]? = some _) := hq
        clear hcx hcy ht hbr hp hq
        obtain ⟨ev, hev⟩ : ∃ ev, ev = decide ((⟨a1, a2, a3, a4, a5, a6⟩ : Pl) = ⟨b1, b2, b3, b4, b5, b6⟩) := ⟨_, rfl⟩
        have hN := neC6 a1 a2 a3 a4 a5 a6 b1 b2 b3 b4 b5 b6 ev hev.symm
        have HEV : Hid (ev = _) := hev
        clear hev
        go_upto_region 6 with fail
        have hSt := St.start wr
        have hne := Nonempty.intro (Wd.mk _ hSt)
        refine region_held hSt (by kernel_rfl) (by kernel_rfl) ?_
        go_big_quiet_step (fail)
        go_big_quiet_step (fail)
        go_big_quiet_step (fail)
        go_big_quiet_want
        refine quiet_la 47 (.tmp 18) rfl _ rfl [.int .i64 a1, .int .i64 a2, .int .i64 a3, .int .i64 a4, .int .i64 a5, .int .i64 a6] _ hCx.out Try.underlying47 rfl (by kernel_rfl) rfl ?_
        go_simp
        go_big_quiet_on
        go_big_quiet_step (fail)
        go_big_quiet_step (fail)
        go_big_quiet_step (fail)
        go_big_quiet_want
        refine quiet_la 47 (.tmp 22) rfl _ rfl [.int .i64 b1, .int .i64 b2, .int .i64 b3, .int .i64 b4, .int .i64 b5, .int .i64 b6] _ hCy.out Try.underlying47 rfl (by kernel_rfl) rfl ?_
        go_simp
        go_big_quiet_on
        repeat (go_big_quiet_step (fail))
        refine wpQuiet_nil ?_
        intro _ hw'
        obtain ⟨nq, rfl⟩ := hw'
        obtain ⟨w5, hw5⟩ : ∃ w5, nq.w = w5 := ⟨_, rfl⟩
        have hb5 : Below wr.heap.size wr w5 := hw5 ▸ nq.h.below
        rw [hw5]
        have HB5 : Hid (Below W.heap.size W w5) := bt Hbr.out hb5
        clear hne hw5 hSt hCx hCy hb5 Hbr
        clear nq
        cases ev with
        | true =>
          have e := of_decide_eq_true HEV.out.symm
          have HT2 : Hid (xs.take (k + 1) = ys.take (k + 1)) := te_step HP.out (by rw [e]; exact HQ.out) HT.out
          clear e HEV HT HP HQ hN
          go_wp2
          go_roundw
          case rel => exact ⟨k + 1, by omega, by go_num, HT2.out, HB5.out⟩
          case measure => simp [intOf]; omega
        | false =>
          have e := te_ne HP.out HQ.out (of_decide_eq_false HEV.out.symm)
          have hv := HV.out
          rw [decide_eq_false e] at hv
          subst hv
          clear e HEV HT HP HQ hN
          go_wp2
          go_ret
          exact ⟨rfl, HB5.out⟩
/-- Are the lists of plans the same? -/
noncomputable def smP (P Q : List (List Pl)) : Bool := @decide (P = Q) (Classical.propDecidable _)
theorem smP_t {P Q : List (List Pl)} (h : P = Q) : smP P Q = true := @decide_eq_true _ (Classical.propDecidable _) h
theorem smP_f {P Q : List (List Pl)} (h : P ≠ Q) : smP P Q = false := @decide_eq_false _ (Classical.propDecidable _) h
theorem same1_any (a b : Option Addr) (n c m d : Nat) (xs ys : List Pl) (W : World) (ha : ERow 6 pcs W a n c xs) (hb : ERow 6 pcs W b m d ys) :
    Calls Try.prog 32 #[.slice a n c, .slice b m d] W fun e w' => e = .returned (.bool (decide (xs = ys))) ∧ Below W.heap.size W w' := by
  have H : Hid (Calls Try.prog 33 #[.slice a n c, .slice b m d] W _) := eqC_any a b n c m d xs ys W ha hb
  clear ha hb
  go_enter Try.func32, Try.ntmps32
  go_wp2_with fail
  refine H.out.mono ?_
  rintro e w1 ⟨rfl, hb⟩
  go_wp2
  go_ret
  exact ⟨rfl, hb⟩
set_option maxHeartbeats 4000000 in
set_option maxRecDepth 100000 in
theorem eqF_any (a b : Option Addr) (n c m d : Nat) (P Q : List (List Pl)) (W : World) (ha : QRow W a n c P) (hb : QRow W b m d Q) :
    Calls Try.prog 35 #[.slice a n c, .slice b m d, .func (.func 32) #[] #[]] W fun e w' => e = .returned (.bool (smP P Q)) ∧ Below W.heap.size W w' := by
  have l1 := ha.2.1
  have l2 := ha.2.2.1
  have l3 := hb.2.1
  have l4 := hb.2.2.1
  unfold maxLen at l2 l4
  have H1 : Hid (QRow W a n c P) := ha
  have H2 : Hid (QRow W b m d Q) := hb
  clear ha hb
  by_cases hnm : n = m
  rotate_left
  · rw [smP_f (fun e : P = Q => hnm (by rw [← H1.out.1, ← H2.out.1, e]))]
    have hn2 : ¬ (n : Int) = (m : Int) := by omega
    clear H1 H2 hnm
    go_enter Try.func35, Try.ntmps35
    go_wp2
    go_ret
    exact ⟨rfl, Below.refl _ _⟩
  · subst hnm
    obtain ⟨v, hv⟩ : ∃ v, smP P Q = v := ⟨_, rfl⟩
    rw [hv]
    have HV : Hid (smP P Q = v) := hv
    clear hv
    go_enter Try.func35, Try.ntmps35
    go_wp2
    go_loopw [17] (fun i wr => ∃ k : Nat, k ≤ n ∧ i = .int .i64 k ∧ P.take k = Q.take k ∧ Below W.heap.size W wr) (fun i _ => n - (intOf i).toNat)
    case atStart => exact ⟨0, Nat.zero_le _, rfl, by simp, Below.refl _ _⟩
    case round =>
      obtain ⟨k, hk, rfl, ht, hbr⟩ := hrel
      by_cases hlt : k < n
      rotate_left
      · have e := te_end H1.out.1 H2.out.1 (by omega) ht
        have hv := HV.out
        rw [smP_t e] at hv
        subst hv
        have Hb : Hid (Below W.heap.size W wr) := hbr
        clear ht hbr e
        go_wp2
        go_ret
        exact ⟨rfl, Hb.out⟩
      · obtain ⟨x, p, xa, xc, rfl, hp, -, hcx, hex, -⟩ := (H1.out.below hbr).at hlt
        obtain ⟨y, q, ya, yc, rfl, hq, -, hcy, hey, -⟩ := (H2.out.below hbr).at hlt
        have HT : Hid (P.take k = Q.take k) := ht
        have HP : Hid (P[k]? = some p) := hp
        have HQ : Hid (Q[k]? = some q) := hq
        obtain ⟨np, hnp⟩ : ∃ np, p.length = np := ⟨_, rfl⟩
        obtain ⟨nq, hnq⟩ : ∃ nq, q.length = nq := ⟨_, rfl⟩
        rw [hnp] at hcx hex
        rw [hnq] at hcy hey
        have HS : Hid (Calls Try.prog 32 #[.slice xa np xc, .slice ya nq yc] wr _) := same1_any xa ya np xc nq yc p q wr hex hey
        have Hbr : Hid (Below W.heap.size W wr) := hbr
        obtain ⟨ev, hev⟩ : ∃ ev, decide (p = q) = ev := ⟨_, rfl⟩
        rw [hev] at HS
        have HEV : Hid (decide (p = q) = ev) := hev
        clear hev hex hey hnp hnq ht hp hq hbr
        go_wp2_with fail
        refine HS.out.mono ?_
        rintro e w5 ⟨rfl, hb5⟩
        have HB5 : Hid (Below W.heap.size W w5) := bt Hbr.out hb5
        clear hb5 Hbr HS hcx hcy
        cases ev with
        | true =>
          have e := of_decide_eq_true HEV.out
          have HT2 : Hid (P.take (k + 1) = Q.take (k + 1)) := te_step HP.out (by rw [e]; exact HQ.out) HT.out
          clear e HEV HT HP HQ
          go_wp2
          go_roundw
          case rel => exact ⟨k + 1, by omega, by go_num, HT2.out, HB5.out⟩
          case measure => simp [intOf]; omega
        | false =>
          have e := te_ne HP.out HQ.out (of_decide_eq_false HEV.out)
          have hv := HV.out
          rw [smP_f e] at hv
          subst hv
          clear e HEV HT HP HQ
          go_wp2
          go_ret
          exact ⟨rfl, HB5.out⟩
end Go.Proofs.Ythlnhodfgmpabaa
