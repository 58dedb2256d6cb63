/- What the document's Find and FindChan of layer 10 return, by the error of the op that is asked. The walk of PlainTotals. A number of an op that reduces: its sum, its mean or its scale, its Finish. -/
import Derived.Test.YtdknofbnhjdfjaaGr28
import Derived.Test.YtdknofbnhjdfjaaGr31
import Derived.Test.YtdknofbnhjdfjaaGr32
/- What the document's Find and FindChan of layer 10 return, by the error of the op that is asked. -/
namespace Go.Proofs.Ytdknofbnhjdfjaa
open Go.ChangeShapes Go.WideShapes Go.ChangeAt Go.RowKit
set_option linter.unusedVariables false
theorem rfind_bad (h w c lo hi ot : Int) (oa : Option Addr) (on oc : Nat) (O : Nat → Nat → Int) (Z B : Nat → List Int) (W : World) (hL : LRow W oa on oc O Z B) (hon : on ≤ 1000000000000) (op ch E : Int) (hf : fiE O h w c lo hi ot on op = E) (hE : E ≠ 0) :
    Calls Try.prog 7 #[.agg #[.int .i64 h, .int .i64 w, .int .i64 c, .int .i64 lo, .int .i64 hi, .slice oa on oc, .int .i64 ot], .int .i64 op, .int .i64 ch] W fun e w' => e = .returned (.tuple #[.agg #[.int .i64 0, .int .i64 0, .int .i64 0, .int .i64 0, .int .i64 0, .int .i64 0, .int .i64 0, .int .i64 0, .int .i64 0, .int .i64 0, .int .i64 0, .int .i64 0, .slice none 0 0, .slice none 0 0, .int .i64 0, .int .i64 0, .int .i64 0, .int .i64 0, .int .i64 0, .int .i64 0, .int .i64 0, .int .i64 0, .int .i64 0, .int .i64 0, .int .i64 0, .int .i64 0, .int .i64 0, .int .i64 0], .int .i64 E]) ∧ Below W.heap.size W w' := by
  obtain ⟨Re, Ra, RL, Rw, hR⟩ : ∃ Re Ra RL Rw, gtR O h w c lo hi ot on = (Re, Ra, RL, Rw) := ⟨_, _, _, _, rfl⟩
  by_cases q : Re = 0
  · subst q
    by_cases ho : 1 ≤ op ∧ op ≤ (on : Int)
    · obtain ⟨rfl, hl, h64, -, -, -⟩ := gtR_ok hR
      obtain ⟨i, rfl⟩ : ∃ i : Nat, op = (i : Int) + 1 := ⟨(op - 1).toNat, by omega⟩
      have hi0 : i < on := by omega
      cases hk : rdB (O i 0) with
      | true => rw [fiE_0 (by rw [hR]) hi0 hk] at hf; exact absurd hf.symm hE
      | false =>
        rw [fiE_81 (by rw [hR]) hi0 hk] at hf
        subst hf
        obtain ⟨x, rfl⟩ : ∃ x, oa = some x := by
          cases oa with
          | none => have h1 := hL.2.2.1 rfl; have h2 := hL.1; omega
          | some x => exact ⟨x, rfl⟩
        obtain ⟨wa, lw, cw, ba, lb, cb, e12, e13, hcell, hz, hb, -, -⟩ := hL.2.2.2 x rfl i hi0
        obtain ⟨j, hj, hji, -⟩ := (gtR_at hR).2 i hi0
        exact rfind_r h w c lo hi ot ch x on oc i O Z B W hL hon hi0 wa lw cw ba lb cb hcell Rw RL hR (by omega) (by omega) _ _ _ _ _ _ rfl rfl false hk
    · rw [fiE_3 (by rw [hR]) ho] at hf
      subst hf
      exact rfind_3 h w c lo hi ot op ch oa on oc O Z B W hL hon Ra Rw RL hR ho
  · rw [fiE_err (by rw [hR]) q] at hf
    subst hf
    exact rfind_e h w c lo hi ot op ch oa on oc O Z B W hL hon _ Ra Rw RL hR hE
theorem rfind_ok (h w c lo hi ot : Int) (oa : Option Addr) (on oc : Nat) (O : Nat → Nat → Int) (Z B : Nat → List Int) (W : World) (hL : LRow W oa on oc O Z B) (hon : on ≤ 1000000000000) (ch : Int) (RL : List (Int × Int × Int)) (Rw : Int) (hR : gtR O h w c lo hi ot on = (0, 0, RL, Rw)) (i : Nat) (x : Addr) (wa : Option Addr) (lw cw : Nat) (ba : Option Addr) (lb cb : Nat) (x0 y0 z0 H V C : Int) (hF : Fnd W oa on O Z B RL i x wa lw cw ba lb cb x0 y0 z0 H V C) (hc : 0 ≤ ch ∧ ch ≤ C) :
    Calls Try.prog 7 #[.agg #[.int .i64 h, .int .i64 w, .int .i64 c, .int .i64 lo, .int .i64 hi, .slice oa on oc, .int .i64 ot], .int .i64 ((i : Int) + 1), .int .i64 ch] W fun e w' => e = .returned (.tuple #[.agg #[.int .i64 (O i 0), .int .i64 (O i 1), .int .i64 (O i 2), .int .i64 (O i 3), .int .i64 (O i 4), .int .i64 (O i 5), .int .i64 (O i 6), .int .i64 (O i 7), .int .i64 (O i 8), .int .i64 (O i 9), .int .i64 (O i 10), .int .i64 (O i 11), .slice wa lw cw, .slice ba lb cb, .int .i64 (O i 14), .int .i64 (O i 15), .int .i64 (O i 16), .int .i64 (O i 17), .int .i64 (O i 18), .int .i64 (O i 19), .int .i64 (O i 20), .int .i64 (O i 21), .int .i64 x0, .int .i64 y0, .int .i64 z0, .int .i64 H, .int .i64 V, .int .i64 C], .int .i64 0]) ∧ Below W.heap.size W w' := by
  obtain ⟨h1, rfl, h3, h4, h5, h6, h7, h8, h9, h10, h11, h12⟩ := hF
  have := rfind_r h w c lo hi ot ch x on oc i O Z B W hL hon h1 wa lw cw ba lb cb h5 Rw RL hR h11.1 h11.2 _ _ _ _ _ _ h8 h9 true h12
  rw [if_pos rfl, if_pos hc] at this
  exact this
theorem rfind_no (h w c lo hi ot : Int) (oa : Option Addr) (on oc : Nat) (O : Nat → Nat → Int) (Z B : Nat → List Int) (W : World) (hL : LRow W oa on oc O Z B) (hon : on ≤ 1000000000000) (ch : Int) (RL : List (Int × Int × Int)) (Rw : Int) (hR : gtR O h w c lo hi ot on = (0, 0, RL, Rw)) (i : Nat) (x : Addr) (wa : Option Addr) (lw cw : Nat) (ba : Option Addr) (lb cb : Nat) (x0 y0 z0 H V C : Int) (hF : Fnd W oa on O Z B RL i x wa lw cw ba lb cb x0 y0 z0 H V C) (hc : ¬ (0 ≤ ch ∧ ch ≤ C)) :
    Calls Try.prog 7 #[.agg #[.int .i64 h, .int .i64 w, .int .i64 c, .int .i64 lo, .int .i64 hi, .slice oa on oc, .int .i64 ot], .int .i64 ((i : Int) + 1), .int .i64 ch] W fun e w' => e = .returned (.tuple #[.agg #[.int .i64 0, .int .i64 0, .int .i64 0, .int .i64 0, .int .i64 0, .int .i64 0, .int .i64 0, .int .i64 0, .int .i64 0, .int .i64 0, .int .i64 0, .int .i64 0, .slice none 0 0, .slice none 0 0, .int .i64 0, .int .i64 0, .int .i64 0, .int .i64 0, .int .i64 0, .int .i64 0, .int .i64 0, .int .i64 0, .int .i64 0, .int .i64 0, .int .i64 0, .int .i64 0, .int .i64 0, .int .i64 0], .int .i64 3]) ∧ Below W.heap.size W w' := by
  obtain ⟨h1, rfl, h3, h4, h5, h6, h7, h8, h9, h10, h11, h12⟩ := hF
  have := rfind_r h w c lo hi ot ch x on oc i O Z B W hL hon h1 wa lw cw ba lb cb h5 Rw RL hR h11.1 h11.2 _ _ _ _ _ _ h8 h9 true h12
  rw [if_pos rfl, if_neg hc] at this
  exact this
/-! ### FindChan -/
end Go.Proofs.Ytdknofbnhjdfjaa

/- The walk of PlainTotals. -/
namespace Go.Proofs.Ytdknofbnhjdfjaa
open Go.ChangeShapes Go.WideShapes Go.ChangeAt Go.RowKit
set_option linter.unusedVariables false
set_option maxHeartbeats 8000000 in
set_option maxRecDepth 100000 in
theorem totals_w_bad (h w c lo hi : Int) (oa : Option Addr) (on oc : Nat) (ot op : Int) (ad : Option Addr) (n cap : Nat) (W : World) (E : Int) (hE : E ≠ 0)
    (hT : Hid (∀ W', Below W.heap.size W W' → Calls Try.prog 6 #[.agg #[.int .i64 h, .int .i64 w, .int .i64 c, .int .i64 lo, .int .i64 hi, .slice oa on oc, .int .i64 ot], .int .i64 op, .slice ad n cap] W' fun e w' => e = .returned (.tuple #[.slice none 0 0, .int .i64 E]) ∧ Below W'.heap.size W' w'))
    (hFi : Hid (∀ W', Below W.heap.size W W' → Calls Try.prog 7 #[.agg #[.int .i64 h, .int .i64 w, .int .i64 c, .int .i64 lo, .int .i64 hi, .slice oa on oc, .int .i64 ot], .int .i64 op, .int .i64 0] W' fun e w' => e = .returned (.tuple #[.agg #[.int .i64 0, .int .i64 0, .int .i64 0, .int .i64 0, .int .i64 0, .int .i64 0, .int .i64 0, .int .i64 0, .int .i64 0, .int .i64 0, .int .i64 0, .int .i64 0, .slice none 0 0, .slice none 0 0, .int .i64 0, .int .i64 0, .int .i64 0, .int .i64 0, .int .i64 0, .int .i64 0, .int .i64 0, .int .i64 0, .int .i64 0, .int .i64 0, .int .i64 0, .int .i64 0, .int .i64 0, .int .i64 0], .int .i64 E]) ∧ Below W'.heap.size W' w')) :
    Calls Try.prog 3 #[.agg #[.int .i64 h, .int .i64 w, .int .i64 c, .int .i64 lo, .int .i64 hi, .slice oa on oc, .int .i64 ot], .int .i64 op, .slice ad n cap] W fun e w' => e = .returned (.bool true) ∧ Below W.heap.size W w' := by
  have s0 := (St.start W).new (c := #[.int .i64 h, .int .i64 w, .int .i64 c, .int .i64 lo, .int .i64 hi, .slice oa on oc, .int .i64 ot]) (t := 26)
  have hE' : (E == 0) = false := by simp [hE]
  go_enter Try.func3, Try.ntmps3
  go_wp2_with fail
  refine (hT.out _ s0.below).mono ?_
  rintro e w1 ⟨rfl, hb⟩
  have s1 := s0.call hb
  obtain ⟨c1, f1, z1, -⟩ := s1.rules
  clear hb s0 hT
  go_wp2_with fail
  refine (hFi.out _ s1.below).mono ?_
  rintro e w2 ⟨rfl, hb⟩
  have s2 := (s1.call hb).new (c := #[.int .i64 0, .int .i64 0, .int .i64 0, .int .i64 0, .int .i64 0, .int .i64 0, .int .i64 0, .int .i64 0, .int .i64 0, .int .i64 0, .int .i64 0, .int .i64 0, .slice none 0 0, .slice none 0 0, .int .i64 0, .int .i64 0, .int .i64 0, .int .i64 0, .int .i64 0, .int .i64 0, .int .i64 0, .int .i64 0, .int .i64 0, .int .i64 0, .int .i64 0, .int .i64 0, .int .i64 0, .int .i64 0]) (t := 41)
  have S2 : Hid (St W _ _) := s2
  clear hb s1 c1 f1 z1 hFi s2
  go_wp2_with (refine wpList_st_new rfl 41 (.tmp 9) (.tmp 24) rfl w2 _ #[.int .i64 0, .int .i64 0, .int .i64 0, .int .i64 0, .int .i64 0, .int .i64 0, .int .i64 0, .int .i64 0, .int .i64 0, .int .i64 0, .int .i64 0, .int .i64 0, .slice none 0 0, .slice none 0 0, .int .i64 0, .int .i64 0, .int .i64 0, .int .i64 0, .int .i64 0, .int .i64 0, .int .i64 0, .int .i64 0, .int .i64 0, .int .i64 0, .int .i64 0, .int .i64 0, .int .i64 0, .int .i64 0] rfl rfl (by kernel_rfl) rfl (by simp [Value.oneCell']) ?_)
  refine (fixed11_any _).mono ?_
  rintro e w3 ⟨rfl, hb⟩
  have hb3 := (S2.out.call hb).below
  clear hb S2
  go_wp2
  go_ret
  exact ⟨rfl, hb3⟩
set_option maxHeartbeats 8000000 in
set_option maxRecDepth 100000 in
theorem totals_w_ok {i : Nat} {x : Addr} {wa : Option Addr} {lw cw : Nat} {ba : Option Addr} {lb cb : Nat} {x0 y0 z0 H V C : Int} {RL : List (Int × Int × Int)} (h w c lo hi : Int) (oa : Option Addr) (on oc : Nat) (ot : Int) (ad : Option Addr) (n cap : Nat) (xs : List Int) (W : World) (O : Nat → Nat → Int) (Z B : Nat → List Int) (hX : IRow .i8 W ad n cap xs) (hvA : vS x0 y0 z0 = true) (SS : List Int)
    (hT : Hid (∀ W', Below W.heap.size W W' → Calls Try.prog 6 #[.agg #[.int .i64 h, .int .i64 w, .int .i64 c, .int .i64 lo, .int .i64 hi, .slice oa on oc, .int .i64 ot], .int .i64 ((i : Int) + 1), .slice ad n cap] W' fun e w' => (if (n : Int) = x0 * y0 * z0 then ∃ v, e = .returned (.tuple #[v, .int .i64 0]) ∧ Own .i64 2 w' W'.heap.size v SS else e = .returned (.tuple #[.slice none 0 0, .int .i64 70])) ∧ Below W'.heap.size W' w'))
    (hFi : Hid (∀ W', Below W.heap.size W W' → Calls Try.prog 7 #[.agg #[.int .i64 h, .int .i64 w, .int .i64 c, .int .i64 lo, .int .i64 hi, .slice oa on oc, .int .i64 ot], .int .i64 ((i : Int) + 1), .int .i64 0] W' fun e w' => e = .returned (.tuple #[.agg #[.int .i64 (O i 0), .int .i64 (O i 1), .int .i64 (O i 2), .int .i64 (O i 3), .int .i64 (O i 4), .int .i64 (O i 5), .int .i64 (O i 6), .int .i64 (O i 7), .int .i64 (O i 8), .int .i64 (O i 9), .int .i64 (O i 10), .int .i64 (O i 11), .slice wa lw cw, .slice ba lb cb, .int .i64 (O i 14), .int .i64 (O i 15), .int .i64 (O i 16), .int .i64 (O i 17), .int .i64 (O i 18), .int .i64 (O i 19), .int .i64 (O i 20), .int .i64 (O i 21), .int .i64 x0, .int .i64 y0, .int .i64 z0, .int .i64 H, .int .i64 V, .int .i64 C], .int .i64 0]) ∧ Below W'.heap.size W' w'))
    (hSu : Hid ((n : Int) = x0 * y0 * z0 → ∀ W', Below W.heap.size W W' → Calls Try.prog 9 #[.agg #[.int .i64 (O i 0), .int .i64 (O i 1), .int .i64 (O i 2), .int .i64 (O i 3), .int .i64 (O i 4), .int .i64 (O i 5), .int .i64 (O i 6), .int .i64 (O i 7), .int .i64 (O i 8), .int .i64 (O i 9), .int .i64 (O i 10), .int .i64 (O i 11), .slice wa lw cw, .slice ba lb cb, .int .i64 (O i 14), .int .i64 (O i 15), .int .i64 (O i 16), .int .i64 (O i 17), .int .i64 (O i 18), .int .i64 (O i 19), .int .i64 (O i 20), .int .i64 (O i 21), .int .i64 x0, .int .i64 y0, .int .i64 z0, .int .i64 H, .int .i64 V, .int .i64 C], .slice ad n cap] W' fun e w' => (∃ v, e = .returned v ∧ Own .i64 2 w' W'.heap.size v SS) ∧ Below W'.heap.size W' w')) :
    Calls Try.prog 3 #[.agg #[.int .i64 h, .int .i64 w, .int .i64 c, .int .i64 lo, .int .i64 hi, .slice oa on oc, .int .i64 ot], .int .i64 ((i : Int) + 1), .slice ad n cap] W fun e w' => e = .returned (.bool true) ∧ Below W.heap.size W w' := by
  have s0 := (St.start W).new (c := #[.int .i64 h, .int .i64 w, .int .i64 c, .int .i64 lo, .int .i64 hi, .slice oa on oc, .int .i64 ot]) (t := 26)
  have hc1 := hX.2.1
  have hc2 := hX.2.2.1
  unfold maxLen at hc2
  have p3 := vS_bd hvA
  obtain ⟨P1, hP1⟩ : ∃ P1, x0 * y0 = P1 := ⟨_, rfl⟩
  rw [hP1] at hT hSu p3
  obtain ⟨P2, hP2⟩ : ∃ P2, P1 * z0 = P2 := ⟨_, rfl⟩
  rw [hP2] at hT hSu p3
  have hw1 : IntKind.i64.wrap P1 = P1 := w64 (by omega)
  have hw2 : IntKind.i64.wrap P2 = P2 := w64 (by omega)
  clear hX hvA
  by_cases hnP : (n : Int) = P2
  · have hq : ((n : Int) == P2) = true := by simp [hnP]
    have hT2 : Hid (∀ W', Below W.heap.size W W' → Calls Try.prog 6 #[.agg #[.int .i64 h, .int .i64 w, .int .i64 c, .int .i64 lo, .int .i64 hi, .slice oa on oc, .int .i64 ot], .int .i64 ((i : Int) + 1), .slice ad n cap] W' fun e w' => (∃ v, e = .returned (.tuple #[v, .int .i64 0]) ∧ Own .i64 2 w' W'.heap.size v SS) ∧ Below W'.heap.size W' w') := fun W' hb => (hT.out W' hb).mono fun e w' ⟨q1, q2⟩ => ⟨by rw [if_pos hnP] at q1; exact q1, q2⟩
    have hS2 : Hid (∀ W', Below W.heap.size W W' → _) := hSu.out hnP
    clear hT hSu hnP
    go_enter Try.func3, Try.ntmps3
    go_wp2_with fail
    refine (hT2.out _ s0.below).mono ?_
    rintro e w1 ⟨⟨v, rfl, hO⟩, hb⟩
    have s1 := s0.call hb
    obtain ⟨va, vc, rfl, hrow, -⟩ := hO.row
    have HR1 : Hid (IRow .i64 w1 va SS.length vc SS) := hrow
    obtain ⟨NS, hNS⟩ : ∃ NS, SS.length = NS := ⟨_, rfl⟩
    rw [hNS] at HR1 ⊢
    have HNS : Hid (SS.length = NS) := hNS
    obtain ⟨c1, f1, z1, -⟩ := s1.rules
    clear hb s0 hT2 hO hrow hNS
    go_wp2_with fail
    refine (hFi.out _ s1.below).mono ?_
    rintro e w2 ⟨rfl, hb⟩
    have s2 := (s1.call hb).new (c := #[.int .i64 (O i 0), .int .i64 (O i 1), .int .i64 (O i 2), .int .i64 (O i 3), .int .i64 (O i 4), .int .i64 (O i 5), .int .i64 (O i 6), .int .i64 (O i 7), .int .i64 (O i 8), .int .i64 (O i 9), .int .i64 (O i 10), .int .i64 (O i 11), .slice wa lw cw, .slice ba lb cb, .int .i64 (O i 14), .int .i64 (O i 15), .int .i64 (O i 16), .int .i64 (O i 17), .int .i64 (O i 18), .int .i64 (O i 19), .int .i64 (O i 20), .int .i64 (O i 21), .int .i64 x0, .int .i64 y0, .int .i64 z0, .int .i64 H, .int .i64 V, .int .i64 C]) (t := 41)
    have HR2 : Hid (IRow .i64 _ va NS vc SS) := HR1.out.below (btr hb (bal w2 (.cells #[.int .i64 (O i 0), .int .i64 (O i 1), .int .i64 (O i 2), .int .i64 (O i 3), .int .i64 (O i 4), .int .i64 (O i 5), .int .i64 (O i 6), .int .i64 (O i 7), .int .i64 (O i 8), .int .i64 (O i 9), .int .i64 (O i 10), .int .i64 (O i 11), .slice wa lw cw, .slice ba lb cb, .int .i64 (O i 14), .int .i64 (O i 15), .int .i64 (O i 16), .int .i64 (O i 17), .int .i64 (O i 18), .int .i64 (O i 19), .int .i64 (O i 20), .int .i64 (O i 21), .int .i64 x0, .int .i64 y0, .int .i64 z0, .int .i64 H, .int .i64 V, .int .i64 C] 41)))
    clear hb s1 c1 f1 z1 hFi HR1
    obtain ⟨rb, hrb⟩ : ∃ rb, w2.heap.size = rb := ⟨_, rfl⟩
    obtain ⟨w3, hw3⟩ : ∃ w3, w2.alloc (.cells #[.int .i64 (O i 0), .int .i64 (O i 1), .int .i64 (O i 2), .int .i64 (O i 3), .int .i64 (O i 4), .int .i64 (O i 5), .int .i64 (O i 6), .int .i64 (O i 7), .int .i64 (O i 8), .int .i64 (O i 9), .int .i64 (O i 10), .int .i64 (O i 11), .slice wa lw cw, .slice ba lb cb, .int .i64 (O i 14), .int .i64 (O i 15), .int .i64 (O i 16), .int .i64 (O i 17), .int .i64 (O i 18), .int .i64 (O i 19), .int .i64 (O i 20), .int .i64 (O i 21), .int .i64 x0, .int .i64 y0, .int .i64 z0, .int .i64 H, .int .i64 V, .int .i64 C] 41) = w3 := ⟨_, rfl⟩
    rw [hw3, hrb] at s2
    rw [hw3] at HR2
    have S2 : Hid (St W w3 [(rb, #[.int .i64 (O i 0), .int .i64 (O i 1), .int .i64 (O i 2), .int .i64 (O i 3), .int .i64 (O i 4), .int .i64 (O i 5), .int .i64 (O i 6), .int .i64 (O i 7), .int .i64 (O i 8), .int .i64 (O i 9), .int .i64 (O i 10), .int .i64 (O i 11), .slice wa lw cw, .slice ba lb cb, .int .i64 (O i 14), .int .i64 (O i 15), .int .i64 (O i 16), .int .i64 (O i 17), .int .i64 (O i 18), .int .i64 (O i 19), .int .i64 (O i 20), .int .i64 (O i 21), .int .i64 x0, .int .i64 y0, .int .i64 z0, .int .i64 H, .int .i64 V, .int .i64 C], 41), (W.heap.size, #[.int .i64 h, .int .i64 w, .int .i64 c, .int .i64 lo, .int .i64 hi, .slice oa on oc, .int .i64 ot], 26)]) := s2
    have Hw3 : Hid (w2.alloc (.cells #[.int .i64 (O i 0), .int .i64 (O i 1), .int .i64 (O i 2), .int .i64 (O i 3), .int .i64 (O i 4), .int .i64 (O i 5), .int .i64 (O i 6), .int .i64 (O i 7), .int .i64 (O i 8), .int .i64 (O i 9), .int .i64 (O i 10), .int .i64 (O i 11), .slice wa lw cw, .slice ba lb cb, .int .i64 (O i 14), .int .i64 (O i 15), .int .i64 (O i 16), .int .i64 (O i 17), .int .i64 (O i 18), .int .i64 (O i 19), .int .i64 (O i 20), .int .i64 (O i 21), .int .i64 x0, .int .i64 y0, .int .i64 z0, .int .i64 H, .int .i64 V, .int .i64 C] 41) = w3) := hw3
    have Hrb : Hid (w2.heap.size = rb) := hrb
    clear s2 hw3 hrb
    go_upto_region 3 with (refine wpList_st_new rfl 41 (.tmp 9) (.tmp 24) rfl w2 _ #[.int .i64 (O i 0), .int .i64 (O i 1), .int .i64 (O i 2), .int .i64 (O i 3), .int .i64 (O i 4), .int .i64 (O i 5), .int .i64 (O i 6), .int .i64 (O i 7), .int .i64 (O i 8), .int .i64 (O i 9), .int .i64 (O i 10), .int .i64 (O i 11), .slice wa lw cw, .slice ba lb cb, .int .i64 (O i 14), .int .i64 (O i 15), .int .i64 (O i 16), .int .i64 (O i 17), .int .i64 (O i 18), .int .i64 (O i 19), .int .i64 (O i 20), .int .i64 (O i 21), .int .i64 x0, .int .i64 y0, .int .i64 z0, .int .i64 H, .int .i64 V, .int .i64 C] rfl rfl (by kernel_rfl) rfl (by simp [Value.oneCell']) ?_; rw [Hw3.out, Hrb.out])
    obtain ⟨c1, f1, z1, -⟩ := S2.out.rules
    go_wp2_with fail
    refine (fixed11_any _).mono ?_
    rintro e w4 ⟨rfl, hb⟩
    have S4 : Hid (St W w4 _) := S2.out.call hb
    have HR4 : Hid (IRow .i64 w4 va NS vc SS) := HR2.out.below hb
    clear hb S2 HR2 c1 f1 z1
    go_wp2_with (refine wpList_load_row rfl 41 (.tmp 9) rfl rb rfl 41 _ (0, 0) _ S4.out.h1 Try.underlying41 rfl (by kernel_rfl) ?_)
    refine Calls.mono (hS2.out _ S4.out.below) ?_
    rintro e w5 ⟨⟨v, rfl, hO⟩, hb⟩
    have HB5 : Hid (Below W.heap.size W w5) := btr S4.out.below hb
    have HR5 : Hid (IRow .i64 w5 va NS vc SS) := HR4.out.below hb
    obtain ⟨vb, vd, rfl, hrow, -⟩ := hO.row
    rw [HNS.out] at hrow ⊢
    have HQ5 : Hid (IRow .i64 w5 vb NS vd SS) := hrow
    have hl1 := HR5.out.2.1
    have hl2 := HR5.out.2.2.1
    have hl3 := HQ5.out.2.1
    have hl4 := HQ5.out.2.2.1
    unfold maxLen at hl2 hl4
    clear hb S4 HR4 hO hrow hS2
    go_wp2
    go_loopw [66] (fun i wr => ∃ k q : Nat, k ≤ NS ∧ i = .int .i64 k ∧ wr = w5.drewN q) (fun i _ => NS - (intOf i).toNat)
    case atStart => exact ⟨0, 0, Nat.zero_le _, rfl, rfl⟩
    case round =>
      obtain ⟨k, q, hk, rfl, rfl⟩ := hrel
      by_cases hlt : k < NS
      · obtain ⟨x1, u, rfl, hu, -, hz, -⟩ := HR5.out.at hlt
        obtain ⟨x2, u', rfl, hu', -, hz', -⟩ := HQ5.out.at hlt
        obtain rfl : u = u' := by rw [hz] at hz'; exact Option.some.inj hz'
        clear hz hz'
        go_wp2
        go_quiet (fail)
        go_wp2
        go_roundw
        case rel => exact ⟨k + 1, _, by omega, by go_num, rfl⟩
        case measure => simp [intOf]; omega
      · go_wp2
        go_ret
        exact ⟨rfl, btr HB5.out (dbel _ _)⟩
  · have hq : ((n : Int) == P2) = false := by simp [hnP]
    have hT2 : Hid (∀ W', Below W.heap.size W W' → Calls Try.prog 6 #[.agg #[.int .i64 h, .int .i64 w, .int .i64 c, .int .i64 lo, .int .i64 hi, .slice oa on oc, .int .i64 ot], .int .i64 ((i : Int) + 1), .slice ad n cap] W' fun e w' => e = .returned (.tuple #[.slice none 0 0, .int .i64 70]) ∧ Below W'.heap.size W' w') := fun W' hb => (hT.out W' hb).mono fun e w' ⟨q1, q2⟩ => ⟨by rw [if_neg hnP] at q1; exact q1, q2⟩
    clear hT hSu
    go_enter Try.func3, Try.ntmps3
    go_wp2_with fail
    refine (hT2.out _ s0.below).mono ?_
    rintro e w1 ⟨rfl, hb⟩
    have s1 := s0.call hb
    obtain ⟨c1, f1, z1, -⟩ := s1.rules
    clear hb s0 hT2
    go_wp2_with fail
    refine (hFi.out _ s1.below).mono ?_
    rintro e w2 ⟨rfl, hb⟩
    have s2 := (s1.call hb).new (c := #[.int .i64 (O i 0), .int .i64 (O i 1), .int .i64 (O i 2), .int .i64 (O i 3), .int .i64 (O i 4), .int .i64 (O i 5), .int .i64 (O i 6), .int .i64 (O i 7), .int .i64 (O i 8), .int .i64 (O i 9), .int .i64 (O i 10), .int .i64 (O i 11), .slice wa lw cw, .slice ba lb cb, .int .i64 (O i 14), .int .i64 (O i 15), .int .i64 (O i 16), .int .i64 (O i 17), .int .i64 (O i 18), .int .i64 (O i 19), .int .i64 (O i 20), .int .i64 (O i 21), .int .i64 x0, .int .i64 y0, .int .i64 z0, .int .i64 H, .int .i64 V, .int .i64 C]) (t := 41)
    clear hb s1 c1 f1 z1 hFi
    obtain ⟨rb, hrb⟩ : ∃ rb, w2.heap.size = rb := ⟨_, rfl⟩
    obtain ⟨w3, hw3⟩ : ∃ w3, w2.alloc (.cells #[.int .i64 (O i 0), .int .i64 (O i 1), .int .i64 (O i 2), .int .i64 (O i 3), .int .i64 (O i 4), .int .i64 (O i 5), .int .i64 (O i 6), .int .i64 (O i 7), .int .i64 (O i 8), .int .i64 (O i 9), .int .i64 (O i 10), .int .i64 (O i 11), .slice wa lw cw, .slice ba lb cb, .int .i64 (O i 14), .int .i64 (O i 15), .int .i64 (O i 16), .int .i64 (O i 17), .int .i64 (O i 18), .int .i64 (O i 19), .int .i64 (O i 20), .int .i64 (O i 21), .int .i64 x0, .int .i64 y0, .int .i64 z0, .int .i64 H, .int .i64 V, .int .i64 C] 41) = w3 := ⟨_, rfl⟩
    rw [hw3, hrb] at s2
    have S2 : Hid (St W w3 [(rb, #[.int .i64 (O i 0), .int .i64 (O i 1), .int .i64 (O i 2), .int .i64 (O i 3), .int .i64 (O i 4), .int .i64 (O i 5), .int .i64 (O i 6), .int .i64 (O i 7), .int .i64 (O i 8), .int .i64 (O i 9), .int .i64 (O i 10), .int .i64 (O i 11), .slice wa lw cw, .slice ba lb cb, .int .i64 (O i 14), .int .i64 (O i 15), .int .i64 (O i 16), .int .i64 (O i 17), .int .i64 (O i 18), .int .i64 (O i 19), .int .i64 (O i 20), .int .i64 (O i 21), .int .i64 x0, .int .i64 y0, .int .i64 z0, .int .i64 H, .int .i64 V, .int .i64 C], 41), (W.heap.size, #[.int .i64 h, .int .i64 w, .int .i64 c, .int .i64 lo, .int .i64 hi, .slice oa on oc, .int .i64 ot], 26)]) := s2
    have Hw3 : Hid (w2.alloc (.cells #[.int .i64 (O i 0), .int .i64 (O i 1), .int .i64 (O i 2), .int .i64 (O i 3), .int .i64 (O i 4), .int .i64 (O i 5), .int .i64 (O i 6), .int .i64 (O i 7), .int .i64 (O i 8), .int .i64 (O i 9), .int .i64 (O i 10), .int .i64 (O i 11), .slice wa lw cw, .slice ba lb cb, .int .i64 (O i 14), .int .i64 (O i 15), .int .i64 (O i 16), .int .i64 (O i 17), .int .i64 (O i 18), .int .i64 (O i 19), .int .i64 (O i 20), .int .i64 (O i 21), .int .i64 x0, .int .i64 y0, .int .i64 z0, .int .i64 H, .int .i64 V, .int .i64 C] 41) = w3) := hw3
    have Hrb : Hid (w2.heap.size = rb) := hrb
    clear s2 hw3 hrb
    go_upto_region 3 with (refine wpList_st_new rfl 41 (.tmp 9) (.tmp 24) rfl w2 _ #[.int .i64 (O i 0), .int .i64 (O i 1), .int .i64 (O i 2), .int .i64 (O i 3), .int .i64 (O i 4), .int .i64 (O i 5), .int .i64 (O i 6), .int .i64 (O i 7), .int .i64 (O i 8), .int .i64 (O i 9), .int .i64 (O i 10), .int .i64 (O i 11), .slice wa lw cw, .slice ba lb cb, .int .i64 (O i 14), .int .i64 (O i 15), .int .i64 (O i 16), .int .i64 (O i 17), .int .i64 (O i 18), .int .i64 (O i 19), .int .i64 (O i 20), .int .i64 (O i 21), .int .i64 x0, .int .i64 y0, .int .i64 z0, .int .i64 H, .int .i64 V, .int .i64 C] rfl rfl (by kernel_rfl) rfl (by simp [Value.oneCell']) ?_; rw [Hw3.out, Hrb.out])
    obtain ⟨c1, f1, z1, -⟩ := S2.out.rules
    go_wp2_with fail
    refine (fixed11_any _).mono ?_
    rintro e w4 ⟨rfl, hb⟩
    have hb4 := (S2.out.call hb).below
    clear hb S2 c1 f1 z1
    go_wp2
    go_ret
    exact ⟨rfl, hb4⟩
theorem plainTotals_walk (h w c lo hi : Int) (oa : Option Addr) (on oc : Nat) (ot op : Int) (ad : Option Addr) (n cap : Nat) (xs : List Int) (W : World) (_ : (Lit.int .i64 h).wf = true) (_ : (Lit.int .i64 w).wf = true) (_ : (Lit.int .i64 c).wf = true) (_ : (Lit.int .i64 lo).wf = true) (_ : (Lit.int .i64 hi).wf = true)
    (wo : ORow 22 (OpIn W) W oa on oc) (hr : on * 208 ≤ 140737488351232) (_ : (Lit.int .i64 ot).wf = true) (_ : (Lit.int .i64 op).wf = true) (hX : IRow .i8 W ad n cap xs) (hrx : n * 1 ≤ 140737488351232) :
    Calls Try.prog 3 #[.agg #[.int .i64 h, .int .i64 w, .int .i64 c, .int .i64 lo, .int .i64 hi, .slice oa on oc, .int .i64 ot], .int .i64 op, .slice ad n cap] W fun e w' => e = .returned (.bool true) ∧ Below W.heap.size W w' := by
  obtain ⟨O, Z, B, hL⟩ := lrow_of wo
  have hon : on ≤ 1000000000000 := by omega
  obtain ⟨E, hf⟩ : ∃ E, fiE O h w c lo hi ot on op = E := ⟨_, rfl⟩
  by_cases hE : E = 0
  · subst hE
    obtain ⟨RL, Rw, hR, i, x, wa, lw, cw, ba, lb, cb, x0, y0, z0, H, V, C, rfl, hF⟩ := found h w c lo hi ot oa on oc O Z B W hL op hf
    have hSit := hF.2.2.2.2.2.2.2.2.2.1
    have hCb := (vS_yes hSit.2.2.1).2.2.1
    have hp8 : I8 (O i 19) := by
      obtain ⟨ja, jb, e1, hja, e3, hjb, hO⟩ := opd_of hR hF.1
      have := (hO x0 y0 z0 H V C (by rw [← hF.2.2.2.2.2.2.2.1, e1, Int.toNat_natCast]) hF.2.2.2.2.2.2.2.2.1).1.rz
      unfold rzB vlB at this; simp at this; exact ⟨this.2.1, this.2.2⟩
    exact totals_w_ok (x := x) (RL := RL) h w c lo hi oa on oc ot ad n cap xs W O Z B hX hSit.2.1 (suL (O i 0) (O i 4) (O i 5) (O i 6) (O i 7) (O i 8) (O i 9) (O i 10) (O i 11) x0 y0 z0 C (O i 19) (Z i) (B i) xs (H * V * C).toNat) (fun W' hb => totals_ok h w c lo hi ot oa on oc O Z B W' (hL.below hb) RL Rw hR i x wa lw cw ba lb cb x0 y0 z0 H V C (hF.below hb) ad n cap xs (hX.below hb))
      (fun W' hb => rfind_ok h w c lo hi ot oa on oc O Z B W' (hL.below hb) hon 0 RL Rw hR i x wa lw cw ba lb cb x0 y0 z0 H V C (hF.below hb) (by omega))
      (fun hn W' hb => rsums_any (O i 0) (O i 1) (O i 2) (O i 3) (O i 4) (O i 5) (O i 6) (O i 7) (O i 8) (O i 9) (O i 10) (O i 11) wa lw cw ba lb cb (O i 14) (O i 15) (O i 16) (O i 17) (O i 18) (O i 19) (O i 20) (O i 21) x0 y0 z0 H V C W' hSit (Z i) (B i) (hF.2.2.2.2.2.1.below hb) (hF.2.2.2.2.2.2.1.below hb) ad n cap xs (hX.below hb) hn hp8)
  · exact totals_w_bad h w c lo hi oa on oc ot op ad n cap W E hE (fun W' hb => totals_bad h w c lo hi ot oa on oc O Z B W' (hL.below hb) op E hf hE ad n cap (by omega)) (fun W' hb => rfind_bad h w c lo hi ot oa on oc O Z B W' (hL.below hb) hon op 0 E hf hE)
end Go.Proofs.Ytdknofbnhjdfjaa

/- A number of an op that reduces: its sum, its mean or its scale, its Finish. -/
namespace Go.Proofs.Ytdknofbnhjdfjaa
open Go.ChangeShapes Go.WideShapes Go.ChangeAt Go.RowKit
set_option linter.unusedVariables false
theorem mapD_at {f : Int → Int} {l : List Int} {j : Nat} (hj : j < l.length) : (l.map f).getD j 0 = f (l.getD j 0) := by
  simp [List.getD, hj]
theorem suL_at (k kh kw sh sw tp lf bt rt h w c C p : Int) (zs bs x : List Int) (n j : Nat) (hj : j < n) : (suL k kh kw sh sw tp lf bt rt h w c C p zs bs x n).getD j 0 = suA k kh kw sh sw tp lf bt rt h w c p zs bs x ((j : Int) % C + 1) ((j : Int) / C) := by
  simp [suL, List.getD, hj]
theorem step_facts {O : Nat → Nat → Int} {Z B : Nat → List Int} {h w c lo hi ot wk : Int} {on : Nat} {L : List (Int × Int × Int)} {x : List Int} (q : gtR O h w c lo hi ot on = (0, 0, L, wk)) (hx : (x.length : Int) = h * w * c) (h8 : ∀ v ∈ x, I8 v) {i : Nat} (hi0 : i < on) (hk : O i 0 ≤ 4)
    (hz : ∀ v ∈ Z i, (Lit.int .i16 v).wf = true) (hb : ∀ v ∈ B i, (Lit.int .i32 v).wf = true) {ja : Nat} (e1 : O i 1 = (ja : Int)) {x0 y0 z0 H V C : Int} (hA : L.getD ja (0, 0, 0) = (x0, y0, z0)) (hB : L.getD (i + 1) (0, 0, 0) = (H, V, C)) :
    ((tnA O Z B L x ja).length : Int) = x0 * y0 * z0 ∧ (∀ v ∈ tnA O Z B L x ja, I8 v) ∧ ((tnA O Z B L x (i + 1)).length : Int) = H * V * C ∧ vS H V C = true ∧ I8 (O i 19) ∧ Fx.fiE (O i 18) (O i 20) (O i 21) = 0 ∧ (O i 0 = 4 → stR (O i 0) (O i 4) (O i 5) x0 y0 z0 = O i 4 * O i 5 ∧ Fx.meE (O i 4 * O i 5) = 0) ∧
    ∀ j, j < (H * V * C).toNat → ∀ S, S = suA (O i 0) (O i 4) (O i 5) (O i 6) (O i 7) (O i 8) (O i 9) (O i 10) (O i 11) x0 y0 z0 (O i 19) (Z i) (B i) (tnA O Z B L x ja) ((j : Int) % C + 1) ((j : Int) / C) →
      (-4294967296 ≤ S ∧ S ≤ 4294967296) ∧ (O i 0 ≠ 4 → Fx.apE S (O i 14) (O i 15) = 0) ∧ (tnA O Z B L x (i + 1)).getD j 0 = Fx.fiV (if O i 0 = 4 then Fx.meV S (O i 4 * O i 5) else Fx.apV S (O i 14) (O i 15)) (O i 18) (O i 20) (O i 21) ∧ (1 ≤ (j : Int) % C + 1 ∧ (j : Int) % C + 1 ≤ C) ∧ (0 ≤ (j : Int) / C ∧ (j : Int) / C < H * V) := by
  obtain ⟨ja', jb, f1, hja, f3, hjb, hO⟩ := opd_of q hi0
  obtain rfl : ja' = ja := by omega
  obtain ⟨s, -⟩ := hO _ _ _ _ _ _ hA hB
  have hF := tn_facts (Z := Z) (B := B) q hx h8
  have ha := hF ja' (by omega)
  rw [hA] at ha
  have hb1 := hF (i + 1) (by omega)
  rw [hB] at hb1
  have hSit := s.si hk
  have hrz := s.rz
  have hfi := fiB_of hrz
  have hp : I8 (O i 19) := by
    unfold rzB vlB at hrz
    simp only [Bool.and_eq_true, decide_eq_true_eq] at hrz
    exact hrz.2
  have hsu := tnA_succ (Z := Z) (B := B) (L := L) (x := x) f1 f3 hja hjb
  rw [hA, hB] at hsu
  have hVB := vS_bd s.hB
  have hC1 := (vS_yes s.hB).2.2.1
  refine ⟨ha.1, ha.2, hb1.1, s.hB, hp, by unfold Fx.fiE; rw [if_pos hfi], fun h4 => ?_, fun j hj S hS => ?_⟩
  · have hw := hSit.2.2.2.2.2.1 (by omega)
    refine ⟨by unfold stR; rw [if_neg (by omega), if_neg (by omega), if_pos (by omega)], ?_⟩
    have : 1 * 1 ≤ O i 4 * O i 5 := Int.mul_le_mul hw.1.1 hw.2.1 (by omega) (by omega)
    unfold Fx.meE
    rw [if_neg (by omega)]
  · have m1 := Int.emod_nonneg (j : Int) (show C ≠ 0 by omega)
    have m2 := Int.emod_lt_of_pos (j : Int) (show 0 < C by omega)
    have hch : 1 ≤ (j : Int) % C + 1 ∧ (j : Int) % C + 1 ≤ C := ⟨by omega, by omega⟩
    have hbd := suA_bd hSit hz hb hp ha.2 hch ((j : Int) / C)
    have hat : 0 ≤ (j : Int) / C ∧ (j : Int) / C < H * V := ⟨Int.ediv_nonneg (by omega) (by omega), Int.ediv_lt_of_lt_mul (by omega) (by omega)⟩
    rw [← hS] at hbd
    refine ⟨hbd, fun h4 => ?_, ?_, hch, hat⟩
    · have hsc := s.sc
      have hk1 := s.hk.1
      unfold ssB scK at hsc
      simp only [Bool.and_eq_true, Bool.or_eq_true, Bool.not_eq_true', decide_eq_false_iff_not] at hsc
      have hsc' : Fx.scB (O i 14) (O i 15) = true := by
        rcases hsc.1 with q | q
        · exact absurd (.inl ⟨by omega, by omega⟩) q
        · exact q
      unfold Fx.apE
      rw [if_pos hsc', if_pos (by unfold Fx.acB; exact decide_eq_true hbd)]
    · rw [hsu]
      unfold opT teL fiL
      simp only
      have hl : ((vaL (O i 0) (O i 4) (O i 5) (O i 6) (O i 7) (O i 8) (O i 9) (O i 10) (O i 11) (O i 14) (O i 15) (O i 16) (O i 17) (O i 19) x0 y0 z0 H V C (Z i) (B i) (tnA O Z B L x ja') (tnA O Z B L x jb)).length : Int) = H * V * C := vaL_len s ha.1
      rw [mapD_at (by omega)]
      congr 1
      unfold vaL
      by_cases h4 : O i 0 = 4
      · rw [if_neg (by omega), if_pos h4, if_pos h4]
        unfold meL
        rw [mapD_at (by rw [suL_len]; exact hj), suL_at _ _ _ _ _ _ _ _ _ _ _ _ _ _ _ _ _ _ _ hj, hS]
      · rw [if_pos (by omega), if_neg h4]
        unfold apL
        rw [mapD_at (by rw [suL_len]; exact hj), suL_at _ _ _ _ _ _ _ _ _ _ _ _ _ _ _ _ _ _ _ hj, hS]
end Go.Proofs.Ytdknofbnhjdfjaa
