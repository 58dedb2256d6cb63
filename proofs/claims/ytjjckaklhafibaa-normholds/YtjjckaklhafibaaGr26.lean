/- What the document's Find and FindChan of layer 10 return, by the error of the op that is asked. What the document's own functions of an op return: Length, Positions, weight, Bias. -/
import Derived.Test.YtjjckaklhafibaaGr14
import Derived.Test.YtjjckaklhafibaaGr16
import Derived.Test.YtjjckaklhafibaaGr22
import Derived.Test.YtjjckaklhafibaaGr25
/- What the document's Find and FindChan of layer 10 return, by the error of the op that is asked. -/
namespace Go.Proofs.Ytjjckaklhafibaa
open Go.ChangeShapes Go.WideShapes Go.ChangeAt Go.RowKit
set_option linter.unusedVariables false
theorem rfind_bad (h w c lo hi ot : Int) (oa : Option Addr) (on oc : Nat) (O : Nat → Nat → Int) (Z B : Nat → List Int) (W : World) (hL : LRow W oa on oc O Z B) (hon : on ≤ 1000000000000) (op ch E : Int) (hf : fiE O h w c lo hi ot on op = E) (hE : E ≠ 0) :
    Calls Try.prog 15 #[.agg #[.int .i64 h, .int .i64 w, .int .i64 c, .int .i64 lo, .int .i64 hi, .slice oa on oc, .int .i64 ot], .int .i64 op, .int .i64 ch] W fun e w' => e = .returned (.tuple #[.agg #[.int .i64 0, .int .i64 0, .int .i64 0, .int .i64 0, .int .i64 0, .int .i64 0, .int .i64 0, .int .i64 0, .int .i64 0, .int .i64 0, .int .i64 0, .int .i64 0, .slice none 0 0, .slice none 0 0, .int .i64 0, .int .i64 0, .int .i64 0, .int .i64 0, .int .i64 0, .int .i64 0, .int .i64 0, .int .i64 0, .int .i64 0, .int .i64 0, .int .i64 0, .int .i64 0, .int .i64 0, .int .i64 0], .int .i64 E]) ∧ Below W.heap.size W w' := by
  obtain ⟨Re, Ra, RL, Rw, hR⟩ : ∃ Re Ra RL Rw, gtR O h w c lo hi ot on = (Re, Ra, RL, Rw) := ⟨_, _, _, _, rfl⟩
  by_cases q : Re = 0
  · subst q
    by_cases ho : 1 ≤ op ∧ op ≤ (on : Int)
    · obtain ⟨rfl, hl, h64, -, -, -⟩ := gtR_ok hR
      obtain ⟨i, rfl⟩ : ∃ i : Nat, op = (i : Int) + 1 := ⟨(op - 1).toNat, by omega⟩
      have hi0 : i < on := by omega
      cases hk : rdB (O i 0) with
      | true => rw [fiE_0 (by rw [hR]) hi0 hk] at hf; exact absurd hf.symm hE
      | false =>
        rw [fiE_81 (by rw [hR]) hi0 hk] at hf
        subst hf
        obtain ⟨x, rfl⟩ : ∃ x, oa = some x := by
          cases oa with
          | none => have h1 := hL.2.2.1 rfl; have h2 := hL.1; omega
          | some x => exact ⟨x, rfl⟩
        obtain ⟨wa, lw, cw, ba, lb, cb, e12, e13, hcell, hz, hb, -, -⟩ := hL.2.2.2 x rfl i hi0
        obtain ⟨j, hj, hji, -⟩ := (gtR_at hR).2 i hi0
        exact rfind_r h w c lo hi ot ch x on oc i O Z B W hL hon hi0 wa lw cw ba lb cb hcell Rw RL hR (by omega) (by omega) _ _ _ _ _ _ rfl rfl false hk
    · rw [fiE_3 (by rw [hR]) ho] at hf
      subst hf
      exact rfind_3 h w c lo hi ot op ch oa on oc O Z B W hL hon Ra Rw RL hR ho
  · rw [fiE_err (by rw [hR]) q] at hf
    subst hf
    exact rfind_e h w c lo hi ot op ch oa on oc O Z B W hL hon _ Ra Rw RL hR hE
theorem rfind_ok (h w c lo hi ot : Int) (oa : Option Addr) (on oc : Nat) (O : Nat → Nat → Int) (Z B : Nat → List Int) (W : World) (hL : LRow W oa on oc O Z B) (hon : on ≤ 1000000000000) (ch : Int) (RL : List (Int × Int × Int)) (Rw : Int) (hR : gtR O h w c lo hi ot on = (0, 0, RL, Rw)) (i : Nat) (x : Addr) (wa : Option Addr) (lw cw : Nat) (ba : Option Addr) (lb cb : Nat) (x0 y0 z0 H V C : Int) (hF : Fnd W oa on O Z B RL i x wa lw cw ba lb cb x0 y0 z0 H V C) (hc : 0 ≤ ch ∧ ch ≤ C) :
    Calls Try.prog 15 #[.agg #[.int .i64 h, .int .i64 w, .int .i64 c, .int .i64 lo, .int .i64 hi, .slice oa on oc, .int .i64 ot], .int .i64 ((i : Int) + 1), .int .i64 ch] W fun e w' => e = .returned (.tuple #[.agg #[.int .i64 (O i 0), .int .i64 (O i 1), .int .i64 (O i 2), .int .i64 (O i 3), .int .i64 (O i 4), .int .i64 (O i 5), .int .i64 (O i 6), .int .i64 (O i 7), .int .i64 (O i 8), .int .i64 (O i 9), .int .i64 (O i 10), .int .i64 (O i 11), .slice wa lw cw, .slice ba lb cb, .int .i64 (O i 14), .int .i64 (O i 15), .int .i64 (O i 16), .int .i64 (O i 17), .int .i64 (O i 18), .int .i64 (O i 19), .int .i64 (O i 20), .int .i64 (O i 21), .int .i64 x0, .int .i64 y0, .int .i64 z0, .int .i64 H, .int .i64 V, .int .i64 C], .int .i64 0]) ∧ Below W.heap.size W w' := by
  obtain ⟨h1, rfl, h3, h4, h5, h6, h7, h8, h9, h10, h11, h12⟩ := hF
  have := rfind_r h w c lo hi ot ch x on oc i O Z B W hL hon h1 wa lw cw ba lb cb h5 Rw RL hR h11.1 h11.2 _ _ _ _ _ _ h8 h9 true h12
  rw [if_pos rfl, if_pos hc] at this
  exact this
theorem rfind_no (h w c lo hi ot : Int) (oa : Option Addr) (on oc : Nat) (O : Nat → Nat → Int) (Z B : Nat → List Int) (W : World) (hL : LRow W oa on oc O Z B) (hon : on ≤ 1000000000000) (ch : Int) (RL : List (Int × Int × Int)) (Rw : Int) (hR : gtR O h w c lo hi ot on = (0, 0, RL, Rw)) (i : Nat) (x : Addr) (wa : Option Addr) (lw cw : Nat) (ba : Option Addr) (lb cb : Nat) (x0 y0 z0 H V C : Int) (hF : Fnd W oa on O Z B RL i x wa lw cw ba lb cb x0 y0 z0 H V C) (hc : ¬ (0 ≤ ch ∧ ch ≤ C)) :
    Calls Try.prog 15 #[.agg #[.int .i64 h, .int .i64 w, .int .i64 c, .int .i64 lo, .int .i64 hi, .slice oa on oc, .int .i64 ot], .int .i64 ((i : Int) + 1), .int .i64 ch] W fun e w' => e = .returned (.tuple #[.agg #[.int .i64 0, .int .i64 0, .int .i64 0, .int .i64 0, .int .i64 0, .int .i64 0, .int .i64 0, .int .i64 0, .int .i64 0, .int .i64 0, .int .i64 0, .int .i64 0, .slice none 0 0, .slice none 0 0, .int .i64 0, .int .i64 0, .int .i64 0, .int .i64 0, .int .i64 0, .int .i64 0, .int .i64 0, .int .i64 0, .int .i64 0, .int .i64 0, .int .i64 0, .int .i64 0, .int .i64 0, .int .i64 0], .int .i64 3]) ∧ Below W.heap.size W w' := by
  obtain ⟨h1, rfl, h3, h4, h5, h6, h7, h8, h9, h10, h11, h12⟩ := hF
  have := rfind_r h w c lo hi ot ch x on oc i O Z B W hL hon h1 wa lw cw ba lb cb h5 Rw RL hR h11.1 h11.2 _ _ _ _ _ _ h8 h9 true h12
  rw [if_pos rfl, if_neg hc] at this
  exact this
/-! ### FindChan -/
set_option maxRecDepth 100000 in
set_option maxHeartbeats 4000000 in
theorem fch_z {x9 : Nat} (h w c lo hi ot : Int) (oa : Option Addr) (on oc : Nat) (W : World) (op ch E : Int) (hE : ¬ (E = 0 ∧ ch = 0))
    (hK : ∀ W', Below W.heap.size W W' → Calls Try.prog 15 #[.agg #[.int .i64 h, .int .i64 w, .int .i64 c, .int .i64 lo, .int .i64 hi, .slice oa on oc, .int .i64 ot], .int .i64 op, .int .i64 ch] W' fun e w' => e = .returned (.tuple #[.agg #[.int .i64 0, .int .i64 0, .int .i64 0, .int .i64 0, .int .i64 0, .int .i64 0, .int .i64 0, .int .i64 0, .int .i64 0, .int .i64 0, .int .i64 0, .int .i64 0, .slice none 0 0, .slice none 0 0, .int .i64 0, .int .i64 0, .int .i64 0, .int .i64 0, .int .i64 0, .int .i64 0, .int .i64 0, .int .i64 0, .int .i64 0, .int .i64 0, .int .i64 0, .int .i64 0, .int .i64 0, .int .i64 0], .int .i64 E]) ∧ Below W'.heap.size W' w') :
    Calls Try.prog 7 #[.agg #[.int .i64 h, .int .i64 w, .int .i64 c, .int .i64 lo, .int .i64 hi, .slice oa on oc, .int .i64 ot], .int .i64 op, .int .i64 ch] W fun e w' => e = .returned (.tuple #[.agg #[.int .i64 0, .int .i64 0, .int .i64 0, .int .i64 0, .int .i64 0, .int .i64 0, .int .i64 0, .int .i64 0, .int .i64 0, .int .i64 0, .int .i64 0, .int .i64 0, .slice none 0 0, .slice none 0 0, .int .i64 0, .int .i64 0, .int .i64 0, .int .i64 0, .int .i64 0, .int .i64 0, .int .i64 0, .int .i64 0, .int .i64 0, .int .i64 0, .int .i64 0, .int .i64 0, .int .i64 0, .int .i64 0], .int .i64 E]) ∧ Below W.heap.size W w' := by
  have s0 := ((St.start W).new (c := #[.int .i64 h, .int .i64 w, .int .i64 c, .int .i64 lo, .int .i64 hi, .slice oa on oc, .int .i64 ot]) (t := 26)).new (c := #[.int .i64 0, .int .i64 0, .int .i64 0, .int .i64 0, .int .i64 0, .int .i64 0, .int .i64 0, .int .i64 0, .int .i64 0, .int .i64 0, .int .i64 0, .int .i64 0, .slice none 0 0, .slice none 0 0, .int .i64 0, .int .i64 0, .int .i64 0, .int .i64 0, .int .i64 0, .int .i64 0, .int .i64 0, .int .i64 0, .int .i64 0, .int .i64 0, .int .i64 0, .int .i64 0, .int .i64 0, .int .i64 0]) (t := 41)
  simp only [World.size_alloc] at s0
  have HK : Hid (∀ W', _) := hK
  have hE' : ((E == 0) && (ch == 0)) = false := by
    cases q : (E == 0) with
    | false => rfl
    | true =>
      have e1 : E = 0 := by simpa using q
      have : ch ≠ 0 := fun e => hE ⟨e1, e⟩
      simp [this]
  clear hK
  by_cases e0 : E = 0
  · first
      | (have e0' : (E == 0) = true := by simp [e0]
         have c0' : (ch == 0) = false := by simp; exact fun e => hE ⟨e0, e⟩
         clear e0 hE hE')
      | (have e0' : (E == 0) = false := by simp [e0]
         clear e0 hE hE')
    go_enter Try.func7, Try.ntmps7
    go_wp2_with fail
    refine (HK.out _ s0.below).mono ?_
    rintro e w1 ⟨rfl, hb⟩
    have s1 := (s0.call hb).new (c := #[.int .i64 0, .int .i64 0, .int .i64 0, .int .i64 0, .int .i64 0, .int .i64 0, .int .i64 0, .int .i64 0, .int .i64 0, .int .i64 0, .int .i64 0, .int .i64 0, .slice none 0 0, .slice none 0 0, .int .i64 0, .int .i64 0, .int .i64 0, .int .i64 0, .int .i64 0, .int .i64 0, .int .i64 0, .int .i64 0, .int .i64 0, .int .i64 0, .int .i64 0, .int .i64 0, .int .i64 0, .int .i64 0]) (t := 41)
    have hR1 := s1.h1
    have HZ : Hid ((w1.alloc (.cells #[.int .i64 0, .int .i64 0, .int .i64 0, .int .i64 0, .int .i64 0, .int .i64 0, .int .i64 0, .int .i64 0, .int .i64 0, .int .i64 0, .int .i64 0, .int .i64 0, .slice none 0 0, .slice none 0 0, .int .i64 0, .int .i64 0, .int .i64 0, .int .i64 0, .int .i64 0, .int .i64 0, .int .i64 0, .int .i64 0, .int .i64 0, .int .i64 0, .int .i64 0, .int .i64 0, .int .i64 0, .int .i64 0] 41)).heap[W.heap.size + 1]? = some (.cells #[.int .i64 0, .int .i64 0, .int .i64 0, .int .i64 0, .int .i64 0, .int .i64 0, .int .i64 0, .int .i64 0, .int .i64 0, .int .i64 0, .int .i64 0, .int .i64 0, .slice none 0 0, .slice none 0 0, .int .i64 0, .int .i64 0, .int .i64 0, .int .i64 0, .int .i64 0, .int .i64 0, .int .i64 0, .int .i64 0, .int .i64 0, .int .i64 0, .int .i64 0, .int .i64 0, .int .i64 0, .int .i64 0] 41 (0, 0))) := s1.h2
    have hB1 : Hid (Below W.heap.size W (w1.alloc (.cells #[.int .i64 0, .int .i64 0, .int .i64 0, .int .i64 0, .int .i64 0, .int .i64 0, .int .i64 0, .int .i64 0, .int .i64 0, .int .i64 0, .int .i64 0, .int .i64 0, .slice none 0 0, .slice none 0 0, .int .i64 0, .int .i64 0, .int .i64 0, .int .i64 0, .int .i64 0, .int .i64 0, .int .i64 0, .int .i64 0, .int .i64 0, .int .i64 0, .int .i64 0, .int .i64 0, .int .i64 0, .int .i64 0] 41))) := s1.below
    clear hb s1 s0
    go_wp2_with (first
      | (refine wpList_st_new rfl 41 (.tmp 8) (.tmp 15) rfl w1 _ #[.int .i64 0, .int .i64 0, .int .i64 0, .int .i64 0, .int .i64 0, .int .i64 0, .int .i64 0, .int .i64 0, .int .i64 0, .int .i64 0, .int .i64 0, .int .i64 0, .slice none 0 0, .slice none 0 0, .int .i64 0, .int .i64 0, .int .i64 0, .int .i64 0, .int .i64 0, .int .i64 0, .int .i64 0, .int .i64 0, .int .i64 0, .int .i64 0, .int .i64 0, .int .i64 0, .int .i64 0, .int .i64 0] rfl rfl (by kernel_rfl) rfl (by simp [Value.oneCell']) ?_)
      | (refine wpList_load_row rfl 41 (.tmp 8) rfl w1.heap.size rfl 41 _ (0, 0) _ hR1 Try.underlying41 rfl (by kernel_rfl) ?_)
      | (refine wpList_store_row rfl 41 (.tmp 6) (.tmp 24) rfl (W.heap.size + 1) #[.int .i64 0, .int .i64 0, .int .i64 0, .int .i64 0, .int .i64 0, .int .i64 0, .int .i64 0, .int .i64 0, .int .i64 0, .int .i64 0, .int .i64 0, .int .i64 0, .slice none 0 0, .slice none 0 0, .int .i64 0, .int .i64 0, .int .i64 0, .int .i64 0, .int .i64 0, .int .i64 0, .int .i64 0, .int .i64 0, .int .i64 0, .int .i64 0, .int .i64 0, .int .i64 0, .int .i64 0, .int .i64 0] rfl rfl 41 #[.int .i64 0, .int .i64 0, .int .i64 0, .int .i64 0, .int .i64 0, .int .i64 0, .int .i64 0, .int .i64 0, .int .i64 0, .int .i64 0, .int .i64 0, .int .i64 0, .slice none 0 0, .slice none 0 0, .int .i64 0, .int .i64 0, .int .i64 0, .int .i64 0, .int .i64 0, .int .i64 0, .int .i64 0, .int .i64 0, .int .i64 0, .int .i64 0, .int .i64 0, .int .i64 0, .int .i64 0, .int .i64 0] HZ.out (by kernel_rfl) rfl (by simp [Value.oneCell']) ?_; have hZ' := setRow_heap _ (W.heap.size + 1) #[.int .i64 0, .int .i64 0, .int .i64 0, .int .i64 0, .int .i64 0, .int .i64 0, .int .i64 0, .int .i64 0, .int .i64 0, .int .i64 0, .int .i64 0, .int .i64 0, .slice none 0 0, .slice none 0 0, .int .i64 0, .int .i64 0, .int .i64 0, .int .i64 0, .int .i64 0, .int .i64 0, .int .i64 0, .int .i64 0, .int .i64 0, .int .i64 0, .int .i64 0, .int .i64 0, .int .i64 0, .int .i64 0] #[.int .i64 0, .int .i64 0, .int .i64 0, .int .i64 0, .int .i64 0, .int .i64 0, .int .i64 0, .int .i64 0, .int .i64 0, .int .i64 0, .int .i64 0, .int .i64 0, .slice none 0 0, .slice none 0 0, .int .i64 0, .int .i64 0, .int .i64 0, .int .i64 0, .int .i64 0, .int .i64 0, .int .i64 0, .int .i64 0, .int .i64 0, .int .i64 0, .int .i64 0, .int .i64 0, .int .i64 0, .int .i64 0] 41 (0, 0) HZ.out; have hB' : Hid (Below W.heap.size W (_ : World)) := below_setRow hB1.out (show W.heap.size ≤ W.heap.size + 1 by omega) #[.int .i64 0, .int .i64 0, .int .i64 0, .int .i64 0, .int .i64 0, .int .i64 0, .int .i64 0, .int .i64 0, .int .i64 0, .int .i64 0, .int .i64 0, .int .i64 0, .slice none 0 0, .slice none 0 0, .int .i64 0, .int .i64 0, .int .i64 0, .int .i64 0, .int .i64 0, .int .i64 0, .int .i64 0, .int .i64 0, .int .i64 0, .int .i64 0, .int .i64 0, .int .i64 0, .int .i64 0, .int .i64 0]; clear hR1; generalize World.setRow _ _ _ = w5 at hZ' hB' ⊢))
    exact bodyPost_ret (results_row_tmp Try.results7 _ _ (W.heap.size + 1) 41 _ _ (.int .i64 E) rfl hZ' Try.underlying41 rfl (by kernel_rfl) rfl) rfl ⟨rfl, hB'.out⟩
  · first
      | (have e0' : (E == 0) = true := by simp [e0]
         have c0' : (ch == 0) = false := by simp; exact fun e => hE ⟨e0, e⟩
         clear e0 hE hE')
      | (have e0' : (E == 0) = false := by simp [e0]
         clear e0 hE hE')
    go_enter Try.func7, Try.ntmps7
    go_wp2_with fail
    refine (HK.out _ s0.below).mono ?_
    rintro e w1 ⟨rfl, hb⟩
    have s1 := (s0.call hb).new (c := #[.int .i64 0, .int .i64 0, .int .i64 0, .int .i64 0, .int .i64 0, .int .i64 0, .int .i64 0, .int .i64 0, .int .i64 0, .int .i64 0, .int .i64 0, .int .i64 0, .slice none 0 0, .slice none 0 0, .int .i64 0, .int .i64 0, .int .i64 0, .int .i64 0, .int .i64 0, .int .i64 0, .int .i64 0, .int .i64 0, .int .i64 0, .int .i64 0, .int .i64 0, .int .i64 0, .int .i64 0, .int .i64 0]) (t := 41)
    have hR1 := s1.h1
    have HZ : Hid ((w1.alloc (.cells #[.int .i64 0, .int .i64 0, .int .i64 0, .int .i64 0, .int .i64 0, .int .i64 0, .int .i64 0, .int .i64 0, .int .i64 0, .int .i64 0, .int .i64 0, .int .i64 0, .slice none 0 0, .slice none 0 0, .int .i64 0, .int .i64 0, .int .i64 0, .int .i64 0, .int .i64 0, .int .i64 0, .int .i64 0, .int .i64 0, .int .i64 0, .int .i64 0, .int .i64 0, .int .i64 0, .int .i64 0, .int .i64 0] 41)).heap[W.heap.size + 1]? = some (.cells #[.int .i64 0, .int .i64 0, .int .i64 0, .int .i64 0, .int .i64 0, .int .i64 0, .int .i64 0, .int .i64 0, .int .i64 0, .int .i64 0, .int .i64 0, .int .i64 0, .slice none 0 0, .slice none 0 0, .int .i64 0, .int .i64 0, .int .i64 0, .int .i64 0, .int .i64 0, .int .i64 0, .int .i64 0, .int .i64 0, .int .i64 0, .int .i64 0, .int .i64 0, .int .i64 0, .int .i64 0, .int .i64 0] 41 (0, 0))) := s1.h2
    have hB1 : Hid (Below W.heap.size W (w1.alloc (.cells #[.int .i64 0, .int .i64 0, .int .i64 0, .int .i64 0, .int .i64 0, .int .i64 0, .int .i64 0, .int .i64 0, .int .i64 0, .int .i64 0, .int .i64 0, .int .i64 0, .slice none 0 0, .slice none 0 0, .int .i64 0, .int .i64 0, .int .i64 0, .int .i64 0, .int .i64 0, .int .i64 0, .int .i64 0, .int .i64 0, .int .i64 0, .int .i64 0, .int .i64 0, .int .i64 0, .int .i64 0, .int .i64 0] 41))) := s1.below
    clear hb s1 s0
    go_wp2_with (first
      | (refine wpList_st_new rfl 41 (.tmp 8) (.tmp 15) rfl w1 _ #[.int .i64 0, .int .i64 0, .int .i64 0, .int .i64 0, .int .i64 0, .int .i64 0, .int .i64 0, .int .i64 0, .int .i64 0, .int .i64 0, .int .i64 0, .int .i64 0, .slice none 0 0, .slice none 0 0, .int .i64 0, .int .i64 0, .int .i64 0, .int .i64 0, .int .i64 0, .int .i64 0, .int .i64 0, .int .i64 0, .int .i64 0, .int .i64 0, .int .i64 0, .int .i64 0, .int .i64 0, .int .i64 0] rfl rfl (by kernel_rfl) rfl (by simp [Value.oneCell']) ?_)
      | (refine wpList_load_row rfl 41 (.tmp 8) rfl w1.heap.size rfl 41 _ (0, 0) _ hR1 Try.underlying41 rfl (by kernel_rfl) ?_)
      | (refine wpList_store_row rfl 41 (.tmp 6) (.tmp 24) rfl (W.heap.size + 1) #[.int .i64 0, .int .i64 0, .int .i64 0, .int .i64 0, .int .i64 0, .int .i64 0, .int .i64 0, .int .i64 0, .int .i64 0, .int .i64 0, .int .i64 0, .int .i64 0, .slice none 0 0, .slice none 0 0, .int .i64 0, .int .i64 0, .int .i64 0, .int .i64 0, .int .i64 0, .int .i64 0, .int .i64 0, .int .i64 0, .int .i64 0, .int .i64 0, .int .i64 0, .int .i64 0, .int .i64 0, .int .i64 0] rfl rfl 41 #[.int .i64 0, .int .i64 0, .int .i64 0, .int .i64 0, .int .i64 0, .int .i64 0, .int .i64 0, .int .i64 0, .int .i64 0, .int .i64 0, .int .i64 0, .int .i64 0, .slice none 0 0, .slice none 0 0, .int .i64 0, .int .i64 0, .int .i64 0, .int .i64 0, .int .i64 0, .int .i64 0, .int .i64 0, .int .i64 0, .int .i64 0, .int .i64 0, .int .i64 0, .int .i64 0, .int .i64 0, .int .i64 0] HZ.out (by kernel_rfl) rfl (by simp [Value.oneCell']) ?_; have hZ' := setRow_heap _ (W.heap.size + 1) #[.int .i64 0, .int .i64 0, .int .i64 0, .int .i64 0, .int .i64 0, .int .i64 0, .int .i64 0, .int .i64 0, .int .i64 0, .int .i64 0, .int .i64 0, .int .i64 0, .slice none 0 0, .slice none 0 0, .int .i64 0, .int .i64 0, .int .i64 0, .int .i64 0, .int .i64 0, .int .i64 0, .int .i64 0, .int .i64 0, .int .i64 0, .int .i64 0, .int .i64 0, .int .i64 0, .int .i64 0, .int .i64 0] #[.int .i64 0, .int .i64 0, .int .i64 0, .int .i64 0, .int .i64 0, .int .i64 0, .int .i64 0, .int .i64 0, .int .i64 0, .int .i64 0, .int .i64 0, .int .i64 0, .slice none 0 0, .slice none 0 0, .int .i64 0, .int .i64 0, .int .i64 0, .int .i64 0, .int .i64 0, .int .i64 0, .int .i64 0, .int .i64 0, .int .i64 0, .int .i64 0, .int .i64 0, .int .i64 0, .int .i64 0, .int .i64 0] 41 (0, 0) HZ.out; have hB' : Hid (Below W.heap.size W (_ : World)) := below_setRow hB1.out (show W.heap.size ≤ W.heap.size + 1 by omega) #[.int .i64 0, .int .i64 0, .int .i64 0, .int .i64 0, .int .i64 0, .int .i64 0, .int .i64 0, .int .i64 0, .int .i64 0, .int .i64 0, .int .i64 0, .int .i64 0, .slice none 0 0, .slice none 0 0, .int .i64 0, .int .i64 0, .int .i64 0, .int .i64 0, .int .i64 0, .int .i64 0, .int .i64 0, .int .i64 0, .int .i64 0, .int .i64 0, .int .i64 0, .int .i64 0, .int .i64 0, .int .i64 0]; clear hR1; generalize World.setRow _ _ _ = w5 at hZ' hB' ⊢))
    exact bodyPost_ret (results_row_tmp Try.results7 _ _ (W.heap.size + 1) 41 _ _ (.int .i64 E) rfl hZ' Try.underlying41 rfl (by kernel_rfl) rfl) rfl ⟨rfl, hB'.out⟩
set_option maxRecDepth 100000 in
set_option maxHeartbeats 4000000 in
theorem fch_r {O : Nat → Nat → Int} {i : Nat} {x : Addr} {wa : Option Addr} {lw cw : Nat} {ba : Option Addr} {lb cb : Nat} {x0 y0 z0 H V C : Int} (h w c lo hi ot : Int) (oa : Option Addr) (on oc : Nat) (W : World) (op ch E : Int) (hE : ¬ (E = 0 ∧ ch = 0))
    (hK : ∀ W', Below W.heap.size W W' → Calls Try.prog 15 #[.agg #[.int .i64 h, .int .i64 w, .int .i64 c, .int .i64 lo, .int .i64 hi, .slice oa on oc, .int .i64 ot], .int .i64 op, .int .i64 ch] W' fun e w' => e = .returned (.tuple #[.agg #[.int .i64 (O i 0), .int .i64 (O i 1), .int .i64 (O i 2), .int .i64 (O i 3), .int .i64 (O i 4), .int .i64 (O i 5), .int .i64 (O i 6), .int .i64 (O i 7), .int .i64 (O i 8), .int .i64 (O i 9), .int .i64 (O i 10), .int .i64 (O i 11), .slice wa lw cw, .slice ba lb cb, .int .i64 (O i 14), .int .i64 (O i 15), .int .i64 (O i 16), .int .i64 (O i 17), .int .i64 (O i 18), .int .i64 (O i 19), .int .i64 (O i 20), .int .i64 (O i 21), .int .i64 x0, .int .i64 y0, .int .i64 z0, .int .i64 H, .int .i64 V, .int .i64 C], .int .i64 E]) ∧ Below W'.heap.size W' w') :
    Calls Try.prog 7 #[.agg #[.int .i64 h, .int .i64 w, .int .i64 c, .int .i64 lo, .int .i64 hi, .slice oa on oc, .int .i64 ot], .int .i64 op, .int .i64 ch] W fun e w' => e = .returned (.tuple #[.agg #[.int .i64 (O i 0), .int .i64 (O i 1), .int .i64 (O i 2), .int .i64 (O i 3), .int .i64 (O i 4), .int .i64 (O i 5), .int .i64 (O i 6), .int .i64 (O i 7), .int .i64 (O i 8), .int .i64 (O i 9), .int .i64 (O i 10), .int .i64 (O i 11), .slice wa lw cw, .slice ba lb cb, .int .i64 (O i 14), .int .i64 (O i 15), .int .i64 (O i 16), .int .i64 (O i 17), .int .i64 (O i 18), .int .i64 (O i 19), .int .i64 (O i 20), .int .i64 (O i 21), .int .i64 x0, .int .i64 y0, .int .i64 z0, .int .i64 H, .int .i64 V, .int .i64 C], .int .i64 E]) ∧ Below W.heap.size W w' := by
  have s0 := ((St.start W).new (c := #[.int .i64 h, .int .i64 w, .int .i64 c, .int .i64 lo, .int .i64 hi, .slice oa on oc, .int .i64 ot]) (t := 26)).new (c := #[.int .i64 0, .int .i64 0, .int .i64 0, .int .i64 0, .int .i64 0, .int .i64 0, .int .i64 0, .int .i64 0, .int .i64 0, .int .i64 0, .int .i64 0, .int .i64 0, .slice none 0 0, .slice none 0 0, .int .i64 0, .int .i64 0, .int .i64 0, .int .i64 0, .int .i64 0, .int .i64 0, .int .i64 0, .int .i64 0, .int .i64 0, .int .i64 0, .int .i64 0, .int .i64 0, .int .i64 0, .int .i64 0]) (t := 41)
  simp only [World.size_alloc] at s0
  have HK : Hid (∀ W', _) := hK
  have hE' : ((E == 0) && (ch == 0)) = false := by
    cases q : (E == 0) with
    | false => rfl
    | true =>
      have e1 : E = 0 := by simpa using q
      have : ch ≠ 0 := fun e => hE ⟨e1, e⟩
      simp [this]
  clear hK
  by_cases e0 : E = 0
  · first
      | (have e0' : (E == 0) = true := by simp [e0]
         have c0' : (ch == 0) = false := by simp; exact fun e => hE ⟨e0, e⟩
         clear e0 hE hE')
      | (have e0' : (E == 0) = false := by simp [e0]
         clear e0 hE hE')
    go_enter Try.func7, Try.ntmps7
    go_wp2_with fail
    refine (HK.out _ s0.below).mono ?_
    rintro e w1 ⟨rfl, hb⟩
    have s1 := (s0.call hb).new (c := #[.int .i64 (O i 0), .int .i64 (O i 1), .int .i64 (O i 2), .int .i64 (O i 3), .int .i64 (O i 4), .int .i64 (O i 5), .int .i64 (O i 6), .int .i64 (O i 7), .int .i64 (O i 8), .int .i64 (O i 9), .int .i64 (O i 10), .int .i64 (O i 11), .slice wa lw cw, .slice ba lb cb, .int .i64 (O i 14), .int .i64 (O i 15), .int .i64 (O i 16), .int .i64 (O i 17), .int .i64 (O i 18), .int .i64 (O i 19), .int .i64 (O i 20), .int .i64 (O i 21), .int .i64 x0, .int .i64 y0, .int .i64 z0, .int .i64 H, .int .i64 V, .int .i64 C]) (t := 41)
    have hR1 := s1.h1
    have HZ : Hid ((w1.alloc (.cells #[.int .i64 (O i 0), .int .i64 (O i 1), .int .i64 (O i 2), .int .i64 (O i 3), .int .i64 (O i 4), .int .i64 (O i 5), .int .i64 (O i 6), .int .i64 (O i 7), .int .i64 (O i 8), .int .i64 (O i 9), .int .i64 (O i 10), .int .i64 (O i 11), .slice wa lw cw, .slice ba lb cb, .int .i64 (O i 14), .int .i64 (O i 15), .int .i64 (O i 16), .int .i64 (O i 17), .int .i64 (O i 18), .int .i64 (O i 19), .int .i64 (O i 20), .int .i64 (O i 21), .int .i64 x0, .int .i64 y0, .int .i64 z0, .int .i64 H, .int .i64 V, .int .i64 C] 41)).heap[W.heap.size + 1]? = some (.cells #[.int .i64 0, .int .i64 0, .int .i64 0, .int .i64 0, .int .i64 0, .int .i64 0, .int .i64 0, .int .i64 0, .int .i64 0, .int .i64 0, .int .i64 0, .int .i64 0, .slice none 0 0, .slice none 0 0, .int .i64 0, .int .i64 0, .int .i64 0, .int .i64 0, .int .i64 0, .int .i64 0, .int .i64 0, .int .i64 0, .int .i64 0, .int .i64 0, .int .i64 0, .int .i64 0, .int .i64 0, .int .i64 0] 41 (0, 0))) := s1.h2
    have hB1 : Hid (Below W.heap.size W (w1.alloc (.cells #[.int .i64 (O i 0), .int .i64 (O i 1), .int .i64 (O i 2), .int .i64 (O i 3), .int .i64 (O i 4), .int .i64 (O i 5), .int .i64 (O i 6), .int .i64 (O i 7), .int .i64 (O i 8), .int .i64 (O i 9), .int .i64 (O i 10), .int .i64 (O i 11), .slice wa lw cw, .slice ba lb cb, .int .i64 (O i 14), .int .i64 (O i 15), .int .i64 (O i 16), .int .i64 (O i 17), .int .i64 (O i 18), .int .i64 (O i 19), .int .i64 (O i 20), .int .i64 (O i 21), .int .i64 x0, .int .i64 y0, .int .i64 z0, .int .i64 H, .int .i64 V, .int .i64 C] 41))) := s1.below
    clear hb s1 s0
    go_wp2_with (first
      | (refine wpList_st_new rfl 41 (.tmp 8) (.tmp 15) rfl w1 _ #[.int .i64 (O i 0), .int .i64 (O i 1), .int .i64 (O i 2), .int .i64 (O i 3), .int .i64 (O i 4), .int .i64 (O i 5), .int .i64 (O i 6), .int .i64 (O i 7), .int .i64 (O i 8), .int .i64 (O i 9), .int .i64 (O i 10), .int .i64 (O i 11), .slice wa lw cw, .slice ba lb cb, .int .i64 (O i 14), .int .i64 (O i 15), .int .i64 (O i 16), .int .i64 (O i 17), .int .i64 (O i 18), .int .i64 (O i 19), .int .i64 (O i 20), .int .i64 (O i 21), .int .i64 x0, .int .i64 y0, .int .i64 z0, .int .i64 H, .int .i64 V, .int .i64 C] rfl rfl (by kernel_rfl) rfl (by simp [Value.oneCell']) ?_)
      | (refine wpList_load_row rfl 41 (.tmp 8) rfl w1.heap.size rfl 41 _ (0, 0) _ hR1 Try.underlying41 rfl (by kernel_rfl) ?_)
      | (refine wpList_store_row rfl 41 (.tmp 6) (.tmp 24) rfl (W.heap.size + 1) #[.int .i64 (O i 0), .int .i64 (O i 1), .int .i64 (O i 2), .int .i64 (O i 3), .int .i64 (O i 4), .int .i64 (O i 5), .int .i64 (O i 6), .int .i64 (O i 7), .int .i64 (O i 8), .int .i64 (O i 9), .int .i64 (O i 10), .int .i64 (O i 11), .slice wa lw cw, .slice ba lb cb, .int .i64 (O i 14), .int .i64 (O i 15), .int .i64 (O i 16), .int .i64 (O i 17), .int .i64 (O i 18), .int .i64 (O i 19), .int .i64 (O i 20), .int .i64 (O i 21), .int .i64 x0, .int .i64 y0, .int .i64 z0, .int .i64 H, .int .i64 V, .int .i64 C] rfl rfl 41 #[.int .i64 0, .int .i64 0, .int .i64 0, .int .i64 0, .int .i64 0, .int .i64 0, .int .i64 0, .int .i64 0, .int .i64 0, .int .i64 0, .int .i64 0, .int .i64 0, .slice none 0 0, .slice none 0 0, .int .i64 0, .int .i64 0, .int .i64 0, .int .i64 0, .int .i64 0, .int .i64 0, .int .i64 0, .int .i64 0, .int .i64 0, .int .i64 0, .int .i64 0, .int .i64 0, .int .i64 0, .int .i64 0] HZ.out (by kernel_rfl) rfl (by simp [Value.oneCell']) ?_; have hZ' := setRow_heap _ (W.heap.size + 1) #[.int .i64 0, .int .i64 0, .int .i64 0, .int .i64 0, .int .i64 0, .int .i64 0, .int .i64 0, .int .i64 0, .int .i64 0, .int .i64 0, .int .i64 0, .int .i64 0, .slice none 0 0, .slice none 0 0, .int .i64 0, .int .i64 0, .int .i64 0, .int .i64 0, .int .i64 0, .int .i64 0, .int .i64 0, .int .i64 0, .int .i64 0, .int .i64 0, .int .i64 0, .int .i64 0, .int .i64 0, .int .i64 0] #[.int .i64 (O i 0), .int .i64 (O i 1), .int .i64 (O i 2), .int .i64 (O i 3), .int .i64 (O i 4), .int .i64 (O i 5), .int .i64 (O i 6), .int .i64 (O i 7), .int .i64 (O i 8), .int .i64 (O i 9), .int .i64 (O i 10), .int .i64 (O i 11), .slice wa lw cw, .slice ba lb cb, .int .i64 (O i 14), .int .i64 (O i 15), .int .i64 (O i 16), .int .i64 (O i 17), .int .i64 (O i 18), .int .i64 (O i 19), .int .i64 (O i 20), .int .i64 (O i 21), .int .i64 x0, .int .i64 y0, .int .i64 z0, .int .i64 H, .int .i64 V, .int .i64 C] 41 (0, 0) HZ.out; have hB' : Hid (Below W.heap.size W (_ : World)) := below_setRow hB1.out (show W.heap.size ≤ W.heap.size + 1 by omega) #[.int .i64 (O i 0), .int .i64 (O i 1), .int .i64 (O i 2), .int .i64 (O i 3), .int .i64 (O i 4), .int .i64 (O i 5), .int .i64 (O i 6), .int .i64 (O i 7), .int .i64 (O i 8), .int .i64 (O i 9), .int .i64 (O i 10), .int .i64 (O i 11), .slice wa lw cw, .slice ba lb cb, .int .i64 (O i 14), .int .i64 (O i 15), .int .i64 (O i 16), .int .i64 (O i 17), .int .i64 (O i 18), .int .i64 (O i 19), .int .i64 (O i 20), .int .i64 (O i 21), .int .i64 x0, .int .i64 y0, .int .i64 z0, .int .i64 H, .int .i64 V, .int .i64 C]; clear hR1; generalize World.setRow _ _ _ = w5 at hZ' hB' ⊢))
    exact bodyPost_ret (results_row_tmp Try.results7 _ _ (W.heap.size + 1) 41 _ _ (.int .i64 E) rfl hZ' Try.underlying41 rfl (by kernel_rfl) rfl) rfl ⟨rfl, hB'.out⟩
  · first
      | (have e0' : (E == 0) = true := by simp [e0]
         have c0' : (ch == 0) = false := by simp; exact fun e => hE ⟨e0, e⟩
         clear e0 hE hE')
      | (have e0' : (E == 0) = false := by simp [e0]
         clear e0 hE hE')
    go_enter Try.func7, Try.ntmps7
    go_wp2_with fail
    refine (HK.out _ s0.below).mono ?_
    rintro e w1 ⟨rfl, hb⟩
    have s1 := (s0.call hb).new (c := #[.int .i64 (O i 0), .int .i64 (O i 1), .int .i64 (O i 2), .int .i64 (O i 3), .int .i64 (O i 4), .int .i64 (O i 5), .int .i64 (O i 6), .int .i64 (O i 7), .int .i64 (O i 8), .int .i64 (O i 9), .int .i64 (O i 10), .int .i64 (O i 11), .slice wa lw cw, .slice ba lb cb, .int .i64 (O i 14), .int .i64 (O i 15), .int .i64 (O i 16), .int .i64 (O i 17), .int .i64 (O i 18), .int .i64 (O i 19), .int .i64 (O i 20), .int .i64 (O i 21), .int .i64 x0, .int .i64 y0, .int .i64 z0, .int .i64 H, .int .i64 V, .int .i64 C]) (t := 41)
    have hR1 := s1.h1
    have HZ : Hid ((w1.alloc (.cells #[.int .i64 (O i 0), .int .i64 (O i 1), .int .i64 (O i 2), .int .i64 (O i 3), .int .i64 (O i 4), .int .i64 (O i 5), .int .i64 (O i 6), .int .i64 (O i 7), .int .i64 (O i 8), .int .i64 (O i 9), .int .i64 (O i 10), .int .i64 (O i 11), .slice wa lw cw, .slice ba lb cb, .int .i64 (O i 14), .int .i64 (O i 15), .int .i64 (O i 16), .int .i64 (O i 17), .int .i64 (O i 18), .int .i64 (O i 19), .int .i64 (O i 20), .int .i64 (O i 21), .int .i64 x0, .int .i64 y0, .int .i64 z0, .int .i64 H, .int .i64 V, .int .i64 C] 41)).heap[W.heap.size + 1]? = some (.cells #[.int .i64 0, .int .i64 0, .int .i64 0, .int .i64 0, .int .i64 0, .int .i64 0, .int .i64 0, .int .i64 0, .int .i64 0, .int .i64 0, .int .i64 0, .int .i64 0, .slice none 0 0, .slice none 0 0, .int .i64 0, .int .i64 0, .int .i64 0, .int .i64 0, .int .i64 0, .int .i64 0, .int .i64 0, .int .i64 0, .int .i64 0, .int .i64 0, .int .i64 0, .int .i64 0, .int .i64 0, .int .i64 0] 41 (0, 0))) := s1.h2
    have hB1 : Hid (Below W.heap.size W (w1.alloc (.cells #[.int .i64 (O i 0), .int .i64 (O i 1), .int .i64 (O i 2), .int .i64 (O i 3), .int .i64 (O i 4), .int .i64 (O i 5), .int .i64 (O i 6), .int .i64 (O i 7), .int .i64 (O i 8), .int .i64 (O i 9), .int .i64 (O i 10), .int .i64 (O i 11), .slice wa lw cw, .slice ba lb cb, .int .i64 (O i 14), .int .i64 (O i 15), .int .i64 (O i 16), .int .i64 (O i 17), .int .i64 (O i 18), .int .i64 (O i 19), .int .i64 (O i 20), .int .i64 (O i 21), .int .i64 x0, .int .i64 y0, .int .i64 z0, .int .i64 H, .int .i64 V, .int .i64 C] 41))) := s1.below
    clear hb s1 s0
    go_wp2_with (first
      | (refine wpList_st_new rfl 41 (.tmp 8) (.tmp 15) rfl w1 _ #[.int .i64 (O i 0), .int .i64 (O i 1), .int .i64 (O i 2), .int .i64 (O i 3), .int .i64 (O i 4), .int .i64 (O i 5), .int .i64 (O i 6), .int .i64 (O i 7), .int .i64 (O i 8), .int .i64 (O i 9), .int .i64 (O i 10), .int .i64 (O i 11), .slice wa lw cw, .slice ba lb cb, .int .i64 (O i 14), .int .i64 (O i 15), .int .i64 (O i 16), .int .i64 (O i 17), .int .i64 (O i 18), .int .i64 (O i 19), .int .i64 (O i 20), .int .i64 (O i 21), .int .i64 x0, .int .i64 y0, .int .i64 z0, .int .i64 H, .int .i64 V, .int .i64 C] rfl rfl (by kernel_rfl) rfl (by simp [Value.oneCell']) ?_)
      | (refine wpList_load_row rfl 41 (.tmp 8) rfl w1.heap.size rfl 41 _ (0, 0) _ hR1 Try.underlying41 rfl (by kernel_rfl) ?_)
      | (refine wpList_store_row rfl 41 (.tmp 6) (.tmp 24) rfl (W.heap.size + 1) #[.int .i64 (O i 0), .int .i64 (O i 1), .int .i64 (O i 2), .int .i64 (O i 3), .int .i64 (O i 4), .int .i64 (O i 5), .int .i64 (O i 6), .int .i64 (O i 7), .int .i64 (O i 8), .int .i64 (O i 9), .int .i64 (O i 10), .int .i64 (O i 11), .slice wa lw cw, .slice ba lb cb, .int .i64 (O i 14), .int .i64 (O i 15), .int .i64 (O i 16), .int .i64 (O i 17), .int .i64 (O i 18), .int .i64 (O i 19), .int .i64 (O i 20), .int .i64 (O i 21), .int .i64 x0, .int .i64 y0, .int .i64 z0, .int .i64 H, .int .i64 V, .int .i64 C] rfl rfl 41 #[.int .i64 0, .int .i64 0, .int .i64 0, .int .i64 0, .int .i64 0, .int .i64 0, .int .i64 0, .int .i64 0, .int .i64 0, .int .i64 0, .int .i64 0, .int .i64 0, .slice none 0 0, .slice none 0 0, .int .i64 0, .int .i64 0, .int .i64 0, .int .i64 0, .int .i64 0, .int .i64 0, .int .i64 0, .int .i64 0, .int .i64 0, .int .i64 0, .int .i64 0, .int .i64 0, .int .i64 0, .int .i64 0] HZ.out (by kernel_rfl) rfl (by simp [Value.oneCell']) ?_; have hZ' := setRow_heap _ (W.heap.size + 1) #[.int .i64 0, .int .i64 0, .int .i64 0, .int .i64 0, .int .i64 0, .int .i64 0, .int .i64 0, .int .i64 0, .int .i64 0, .int .i64 0, .int .i64 0, .int .i64 0, .slice none 0 0, .slice none 0 0, .int .i64 0, .int .i64 0, .int .i64 0, .int .i64 0, .int .i64 0, .int .i64 0, .int .i64 0, .int .i64 0, .int .i64 0, .int .i64 0, .int .i64 0, .int .i64 0, .int .i64 0, .int .i64 0] #[.int .i64 (O i 0), .int .i64 (O i 1), .int .i64 (O i 2), .int .i64 (O i 3), .int .i64 (O i 4), .int .i64 (O i 5), .int .i64 (O i 6), .int .i64 (O i 7), .int .i64 (O i 8), .int .i64 (O i 9), .int .i64 (O i 10), .int .i64 (O i 11), .slice wa lw cw, .slice ba lb cb, .int .i64 (O i 14), .int .i64 (O i 15), .int .i64 (O i 16), .int .i64 (O i 17), .int .i64 (O i 18), .int .i64 (O i 19), .int .i64 (O i 20), .int .i64 (O i 21), .int .i64 x0, .int .i64 y0, .int .i64 z0, .int .i64 H, .int .i64 V, .int .i64 C] 41 (0, 0) HZ.out; have hB' : Hid (Below W.heap.size W (_ : World)) := below_setRow hB1.out (show W.heap.size ≤ W.heap.size + 1 by omega) #[.int .i64 (O i 0), .int .i64 (O i 1), .int .i64 (O i 2), .int .i64 (O i 3), .int .i64 (O i 4), .int .i64 (O i 5), .int .i64 (O i 6), .int .i64 (O i 7), .int .i64 (O i 8), .int .i64 (O i 9), .int .i64 (O i 10), .int .i64 (O i 11), .slice wa lw cw, .slice ba lb cb, .int .i64 (O i 14), .int .i64 (O i 15), .int .i64 (O i 16), .int .i64 (O i 17), .int .i64 (O i 18), .int .i64 (O i 19), .int .i64 (O i 20), .int .i64 (O i 21), .int .i64 x0, .int .i64 y0, .int .i64 z0, .int .i64 H, .int .i64 V, .int .i64 C]; clear hR1; generalize World.setRow _ _ _ = w5 at hZ' hB' ⊢))
    exact bodyPost_ret (results_row_tmp Try.results7 _ _ (W.heap.size + 1) 41 _ _ (.int .i64 E) rfl hZ' Try.underlying41 rfl (by kernel_rfl) rfl) rfl ⟨rfl, hB'.out⟩
set_option maxRecDepth 100000 in
set_option maxHeartbeats 4000000 in
theorem fch_0 {O : Nat → Nat → Int} {i : Nat} {x : Addr} {wa : Option Addr} {lw cw : Nat} {ba : Option Addr} {lb cb : Nat} {x0 y0 z0 H V C : Int} (h w c lo hi ot : Int) (oa : Option Addr) (on oc : Nat) (W : World) (op : Int)
    (hK : ∀ W', Below W.heap.size W W' → Calls Try.prog 15 #[.agg #[.int .i64 h, .int .i64 w, .int .i64 c, .int .i64 lo, .int .i64 hi, .slice oa on oc, .int .i64 ot], .int .i64 op, .int .i64 0] W' fun e w' => e = .returned (.tuple #[.agg #[.int .i64 (O i 0), .int .i64 (O i 1), .int .i64 (O i 2), .int .i64 (O i 3), .int .i64 (O i 4), .int .i64 (O i 5), .int .i64 (O i 6), .int .i64 (O i 7), .int .i64 (O i 8), .int .i64 (O i 9), .int .i64 (O i 10), .int .i64 (O i 11), .slice wa lw cw, .slice ba lb cb, .int .i64 (O i 14), .int .i64 (O i 15), .int .i64 (O i 16), .int .i64 (O i 17), .int .i64 (O i 18), .int .i64 (O i 19), .int .i64 (O i 20), .int .i64 (O i 21), .int .i64 x0, .int .i64 y0, .int .i64 z0, .int .i64 H, .int .i64 V, .int .i64 C], .int .i64 0]) ∧ Below W'.heap.size W' w') :
    Calls Try.prog 7 #[.agg #[.int .i64 h, .int .i64 w, .int .i64 c, .int .i64 lo, .int .i64 hi, .slice oa on oc, .int .i64 ot], .int .i64 op, .int .i64 0] W fun e w' => e = .returned (.tuple #[.agg #[.int .i64 0, .int .i64 0, .int .i64 0, .int .i64 0, .int .i64 0, .int .i64 0, .int .i64 0, .int .i64 0, .int .i64 0, .int .i64 0, .int .i64 0, .int .i64 0, .slice none 0 0, .slice none 0 0, .int .i64 0, .int .i64 0, .int .i64 0, .int .i64 0, .int .i64 0, .int .i64 0, .int .i64 0, .int .i64 0, .int .i64 0, .int .i64 0, .int .i64 0, .int .i64 0, .int .i64 0, .int .i64 0], .int .i64 3]) ∧ Below W.heap.size W w' := by
  have s0 := ((St.start W).new (c := #[.int .i64 h, .int .i64 w, .int .i64 c, .int .i64 lo, .int .i64 hi, .slice oa on oc, .int .i64 ot]) (t := 26)).new (c := #[.int .i64 0, .int .i64 0, .int .i64 0, .int .i64 0, .int .i64 0, .int .i64 0, .int .i64 0, .int .i64 0, .int .i64 0, .int .i64 0, .int .i64 0, .int .i64 0, .slice none 0 0, .slice none 0 0, .int .i64 0, .int .i64 0, .int .i64 0, .int .i64 0, .int .i64 0, .int .i64 0, .int .i64 0, .int .i64 0, .int .i64 0, .int .i64 0, .int .i64 0, .int .i64 0, .int .i64 0, .int .i64 0]) (t := 41)
  simp only [World.size_alloc] at s0
  have HK : Hid (∀ W', _) := hK
  clear hK
  go_enter Try.func7, Try.ntmps7
  go_wp2_with fail
  refine (HK.out _ s0.below).mono ?_
  rintro e w1 ⟨rfl, hb⟩
  have s1 := (s0.call hb).new (c := #[.int .i64 (O i 0), .int .i64 (O i 1), .int .i64 (O i 2), .int .i64 (O i 3), .int .i64 (O i 4), .int .i64 (O i 5), .int .i64 (O i 6), .int .i64 (O i 7), .int .i64 (O i 8), .int .i64 (O i 9), .int .i64 (O i 10), .int .i64 (O i 11), .slice wa lw cw, .slice ba lb cb, .int .i64 (O i 14), .int .i64 (O i 15), .int .i64 (O i 16), .int .i64 (O i 17), .int .i64 (O i 18), .int .i64 (O i 19), .int .i64 (O i 20), .int .i64 (O i 21), .int .i64 x0, .int .i64 y0, .int .i64 z0, .int .i64 H, .int .i64 V, .int .i64 C]) (t := 41)
  have HZ : Hid ((w1.alloc (.cells #[.int .i64 (O i 0), .int .i64 (O i 1), .int .i64 (O i 2), .int .i64 (O i 3), .int .i64 (O i 4), .int .i64 (O i 5), .int .i64 (O i 6), .int .i64 (O i 7), .int .i64 (O i 8), .int .i64 (O i 9), .int .i64 (O i 10), .int .i64 (O i 11), .slice wa lw cw, .slice ba lb cb, .int .i64 (O i 14), .int .i64 (O i 15), .int .i64 (O i 16), .int .i64 (O i 17), .int .i64 (O i 18), .int .i64 (O i 19), .int .i64 (O i 20), .int .i64 (O i 21), .int .i64 x0, .int .i64 y0, .int .i64 z0, .int .i64 H, .int .i64 V, .int .i64 C] 41)).heap[W.heap.size + 1]? = some (.cells #[.int .i64 0, .int .i64 0, .int .i64 0, .int .i64 0, .int .i64 0, .int .i64 0, .int .i64 0, .int .i64 0, .int .i64 0, .int .i64 0, .int .i64 0, .int .i64 0, .slice none 0 0, .slice none 0 0, .int .i64 0, .int .i64 0, .int .i64 0, .int .i64 0, .int .i64 0, .int .i64 0, .int .i64 0, .int .i64 0, .int .i64 0, .int .i64 0, .int .i64 0, .int .i64 0, .int .i64 0, .int .i64 0] 41 (0, 0))) := s1.h2
  have hB1 : Hid (Below W.heap.size W (w1.alloc (.cells #[.int .i64 (O i 0), .int .i64 (O i 1), .int .i64 (O i 2), .int .i64 (O i 3), .int .i64 (O i 4), .int .i64 (O i 5), .int .i64 (O i 6), .int .i64 (O i 7), .int .i64 (O i 8), .int .i64 (O i 9), .int .i64 (O i 10), .int .i64 (O i 11), .slice wa lw cw, .slice ba lb cb, .int .i64 (O i 14), .int .i64 (O i 15), .int .i64 (O i 16), .int .i64 (O i 17), .int .i64 (O i 18), .int .i64 (O i 19), .int .i64 (O i 20), .int .i64 (O i 21), .int .i64 x0, .int .i64 y0, .int .i64 z0, .int .i64 H, .int .i64 V, .int .i64 C] 41))) := s1.below
  clear hb s1 s0
  go_wp2_with (first
    | (refine wpList_st_new rfl 41 (.tmp 8) (.tmp 15) rfl w1 _ #[.int .i64 (O i 0), .int .i64 (O i 1), .int .i64 (O i 2), .int .i64 (O i 3), .int .i64 (O i 4), .int .i64 (O i 5), .int .i64 (O i 6), .int .i64 (O i 7), .int .i64 (O i 8), .int .i64 (O i 9), .int .i64 (O i 10), .int .i64 (O i 11), .slice wa lw cw, .slice ba lb cb, .int .i64 (O i 14), .int .i64 (O i 15), .int .i64 (O i 16), .int .i64 (O i 17), .int .i64 (O i 18), .int .i64 (O i 19), .int .i64 (O i 20), .int .i64 (O i 21), .int .i64 x0, .int .i64 y0, .int .i64 z0, .int .i64 H, .int .i64 V, .int .i64 C] rfl rfl (by kernel_rfl) rfl (by simp [Value.oneCell']) ?_)
    | (refine wpList_store_row rfl 41 (.tmp 6) (.tmp 23) rfl (W.heap.size + 1) #[.int .i64 0, .int .i64 0, .int .i64 0, .int .i64 0, .int .i64 0, .int .i64 0, .int .i64 0, .int .i64 0, .int .i64 0, .int .i64 0, .int .i64 0, .int .i64 0, .slice none 0 0, .slice none 0 0, .int .i64 0, .int .i64 0, .int .i64 0, .int .i64 0, .int .i64 0, .int .i64 0, .int .i64 0, .int .i64 0, .int .i64 0, .int .i64 0, .int .i64 0, .int .i64 0, .int .i64 0, .int .i64 0] rfl rfl 41 #[.int .i64 0, .int .i64 0, .int .i64 0, .int .i64 0, .int .i64 0, .int .i64 0, .int .i64 0, .int .i64 0, .int .i64 0, .int .i64 0, .int .i64 0, .int .i64 0, .slice none 0 0, .slice none 0 0, .int .i64 0, .int .i64 0, .int .i64 0, .int .i64 0, .int .i64 0, .int .i64 0, .int .i64 0, .int .i64 0, .int .i64 0, .int .i64 0, .int .i64 0, .int .i64 0, .int .i64 0, .int .i64 0] HZ.out (by kernel_rfl) rfl (by simp [Value.oneCell']) ?_; have hZ' := setRow_heap _ (W.heap.size + 1) #[.int .i64 0, .int .i64 0, .int .i64 0, .int .i64 0, .int .i64 0, .int .i64 0, .int .i64 0, .int .i64 0, .int .i64 0, .int .i64 0, .int .i64 0, .int .i64 0, .slice none 0 0, .slice none 0 0, .int .i64 0, .int .i64 0, .int .i64 0, .int .i64 0, .int .i64 0, .int .i64 0, .int .i64 0, .int .i64 0, .int .i64 0, .int .i64 0, .int .i64 0, .int .i64 0, .int .i64 0, .int .i64 0] #[.int .i64 0, .int .i64 0, .int .i64 0, .int .i64 0, .int .i64 0, .int .i64 0, .int .i64 0, .int .i64 0, .int .i64 0, .int .i64 0, .int .i64 0, .int .i64 0, .slice none 0 0, .slice none 0 0, .int .i64 0, .int .i64 0, .int .i64 0, .int .i64 0, .int .i64 0, .int .i64 0, .int .i64 0, .int .i64 0, .int .i64 0, .int .i64 0, .int .i64 0, .int .i64 0, .int .i64 0, .int .i64 0] 41 (0, 0) HZ.out; have hB' : Hid (Below W.heap.size W (_ : World)) := below_setRow hB1.out (show W.heap.size ≤ W.heap.size + 1 by omega) #[.int .i64 0, .int .i64 0, .int .i64 0, .int .i64 0, .int .i64 0, .int .i64 0, .int .i64 0, .int .i64 0, .int .i64 0, .int .i64 0, .int .i64 0, .int .i64 0, .slice none 0 0, .slice none 0 0, .int .i64 0, .int .i64 0, .int .i64 0, .int .i64 0, .int .i64 0, .int .i64 0, .int .i64 0, .int .i64 0, .int .i64 0, .int .i64 0, .int .i64 0, .int .i64 0, .int .i64 0, .int .i64 0]; generalize World.setRow _ _ _ = w5 at hZ' hB' ⊢))
  exact bodyPost_ret (results_row_tmp Try.results7 _ _ (W.heap.size + 1) 41 _ _ (.int .i64 3) rfl hZ' Try.underlying41 rfl (by kernel_rfl) rfl) rfl ⟨rfl, hB'.out⟩
end Go.Proofs.Ytjjckaklhafibaa

/- What the document's own functions of an op return: Length, Positions, weight, Bias. -/
namespace Go.Proofs.Ytjjckaklhafibaa
open Go.ChangeShapes Go.WideShapes Go.ChangeAt Go.RowKit
set_option linter.unusedVariables false
theorem list_cells {w : World} {B : Nat} {cs : Array Value} {T : TypeId} (h : w.heap[B]? = some (.cells cs T (0, 0))) {l : List Value} (hl : ∀ (q : Nat) (v : Value), l[q]? = some v → cs[q]? = some v) : ∀ (q : Nat) (v : Value), l[q]? = some v → w.cell? ((⟨B, 0, none⟩ : Addr).add q) = some v := fun q v hq => by
  rw [Addr.add_lit, Nat.zero_add, (cells_at h).1]
  exact hl q v hq
theorem front_get (l r : List Value) : ∀ (q : Nat) (v : Value), l[q]? = some v → (l ++ r).toArray[q]? = some v := fun q v hq => by
  have := (List.getElem?_eq_some_iff.1 hq).1
  rw [List.getElem?_toArray, List.getElem?_append_left this]
  exact hq
set_option maxRecDepth 100000 in
set_option maxHeartbeats 2000000 in
theorem rlen_any (k a b m kh kw sh sw tp lf bt rt : Int) (wa : Option Addr) (lw wc : Nat) (ba : Option Addr) (lb bc : Nat) (sm ss um us z p lo hi h w c H V C : Int) (W : World) (s : Sit k kh kw sh sw tp lf bt rt h w c H V C lw lb) :
    Calls Try.prog 37 #[.agg #[.int .i64 k, .int .i64 a, .int .i64 b, .int .i64 m, .int .i64 kh, .int .i64 kw, .int .i64 sh, .int .i64 sw, .int .i64 tp, .int .i64 lf, .int .i64 bt, .int .i64 rt, .slice wa lw wc, .slice ba lb bc, .int .i64 sm, .int .i64 ss, .int .i64 um, .int .i64 us, .int .i64 z, .int .i64 p, .int .i64 lo, .int .i64 hi, .int .i64 h, .int .i64 w, .int .i64 c, .int .i64 H, .int .i64 V, .int .i64 C]] W fun e w' => e = .returned (.int .i64 (stR k kh kw h w c)) ∧ Below W.heap.size W w' := by
  have s0 := (St.start W).new (c := #[.int .i64 k, .int .i64 a, .int .i64 b, .int .i64 m, .int .i64 kh, .int .i64 kw, .int .i64 sh, .int .i64 sw, .int .i64 tp, .int .i64 lf, .int .i64 bt, .int .i64 rt, .slice wa lw wc, .slice ba lb bc, .int .i64 sm, .int .i64 ss, .int .i64 um, .int .i64 us, .int .i64 z, .int .i64 p, .int .i64 lo, .int .i64 hi, .int .i64 h, .int .i64 w, .int .i64 c, .int .i64 H, .int .i64 V, .int .i64 C]) (t := 41)
  have hL : Hid (∀ W', _) := fun W' => length_any k a b m kh kw sh sw tp lf bt rt wa lw wc ba lb bc sm ss um us z p lo hi h w c W' (decide_eq_true s.1) s.2.1 (fun q => s.2.2.2.2.2.1 (by omega))
  have hC : Hid (∀ q v, [.int .i64 k, .int .i64 a, .int .i64 b, .int .i64 m, .int .i64 kh, .int .i64 kw, .int .i64 sh, .int .i64 sw, .int .i64 tp, .int .i64 lf, .int .i64 bt, .int .i64 rt, .slice wa lw wc, .slice ba lb bc, .int .i64 sm, .int .i64 ss, .int .i64 um, .int .i64 us, .int .i64 z, .int .i64 p, .int .i64 lo, .int .i64 hi][q]? = some v → (W.alloc (.cells #[.int .i64 k, .int .i64 a, .int .i64 b, .int .i64 m, .int .i64 kh, .int .i64 kw, .int .i64 sh, .int .i64 sw, .int .i64 tp, .int .i64 lf, .int .i64 bt, .int .i64 rt, .slice wa lw wc, .slice ba lb bc, .int .i64 sm, .int .i64 ss, .int .i64 um, .int .i64 us, .int .i64 z, .int .i64 p, .int .i64 lo, .int .i64 hi, .int .i64 h, .int .i64 w, .int .i64 c, .int .i64 H, .int .i64 V, .int .i64 C] 41)).cell? ((⟨W.heap.size, 0, none⟩ : Addr).add q) = some v) := list_cells (heap_alloc_new W _) (front_get [.int .i64 k, .int .i64 a, .int .i64 b, .int .i64 m, .int .i64 kh, .int .i64 kw, .int .i64 sh, .int .i64 sw, .int .i64 tp, .int .i64 lf, .int .i64 bt, .int .i64 rt, .slice wa lw wc, .slice ba lb bc, .int .i64 sm, .int .i64 ss, .int .i64 um, .int .i64 us, .int .i64 z, .int .i64 p, .int .i64 lo, .int .i64 hi] [.int .i64 h, .int .i64 w, .int .i64 c, .int .i64 H, .int .i64 V, .int .i64 C])
  clear s
  go_enter Try.func37, Try.ntmps37
  go_wp2_with (refine wpList_load_any rfl 39 (.tmp 3) rfl _ rfl [.int .i64 k, .int .i64 a, .int .i64 b, .int .i64 m, .int .i64 kh, .int .i64 kw, .int .i64 sh, .int .i64 sw, .int .i64 tp, .int .i64 lf, .int .i64 bt, .int .i64 rt, .slice wa lw wc, .slice ba lb bc, .int .i64 sm, .int .i64 ss, .int .i64 um, .int .i64 us, .int .i64 z, .int .i64 p, .int .i64 lo, .int .i64 hi] _ hC.out Try.underlying39 rfl (by kernel_rfl) ?_)
  refine (hL.out _).mono ?_
  rintro e w1 ⟨rfl, hb⟩
  have s1 := s0.call hb
  clear hb
  go_wp2
  go_ret
  exact ⟨rfl, s1.below⟩
set_option maxHeartbeats 2000000 in
theorem rbias_any (k a b m kh kw sh sw tp lf bt rt : Int) (wa : Option Addr) (lw wc : Nat) (ba : Option Addr) (lb bc : Nat) (sm ss um us z p lo hi h w c H V C : Int) (W : World) (bs : List Int) (hB : IRow .i32 W ba lb bc bs) (s : Sit k kh kw sh sw tp lf bt rt h w c H V C lw lb) (ch : Int) (hc : 1 ≤ ch ∧ ch ≤ C) :
    Calls Try.prog 25 #[.agg #[.int .i64 k, .int .i64 a, .int .i64 b, .int .i64 m, .int .i64 kh, .int .i64 kw, .int .i64 sh, .int .i64 sw, .int .i64 tp, .int .i64 lf, .int .i64 bt, .int .i64 rt, .slice wa lw wc, .slice ba lb bc, .int .i64 sm, .int .i64 ss, .int .i64 um, .int .i64 us, .int .i64 z, .int .i64 p, .int .i64 lo, .int .i64 hi, .int .i64 h, .int .i64 w, .int .i64 c, .int .i64 H, .int .i64 V, .int .i64 C], .int .i64 ch] W fun e w' => e = .returned (.int .i64 (biA k ch bs)) ∧ Below W.heap.size W w' := by
  have s0 := (St.start W).new (c := #[.int .i64 k, .int .i64 a, .int .i64 b, .int .i64 m, .int .i64 kh, .int .i64 kw, .int .i64 sh, .int .i64 sw, .int .i64 tp, .int .i64 lf, .int .i64 bt, .int .i64 rt, .slice wa lw wc, .slice ba lb bc, .int .i64 sm, .int .i64 ss, .int .i64 um, .int .i64 us, .int .i64 z, .int .i64 p, .int .i64 lo, .int .i64 hi, .int .i64 h, .int .i64 w, .int .i64 c, .int .i64 H, .int .i64 V, .int .i64 C]) (t := 41)
  obtain ⟨hk, -, hv, -, -, -, hl, -⟩ := s
  have hC := (vS_yes hv).2.2.1
  by_cases k4 : k = 4
  · subst k4
    rw [show biA 4 ch bs = 0 from if_pos rfl]
    go_enter Try.func25, Try.ntmps25
    go_wp2
    go_ret
    exact ⟨rfl, s0.below⟩
  · rw [show biA k ch bs = bs.getD (ch - 1).toNat 0 from if_neg k4]
    have hl2 := (hl (by omega)).2
    obtain ⟨n, rfl⟩ : ∃ n : Nat, ch = (n : Int) + 1 := ⟨(ch - 1).toNat, by omega⟩
    have hm := hB.2.2.1
    have hcc := hB.2.1
    unfold maxLen at hm
    obtain ⟨x, u, rfl, hu, hwf, hz, -⟩ := (hB.below s0.below).at (show n < lb by omega)
    obtain ⟨u1, u2⟩ := wf_i32 hwf
    have e : bs.getD ((n : Int) + 1 - 1).toNat 0 = u := by rw [show ((n : Int) + 1 - 1).toNat = n by omega, List.getD_eq_getElem?_getD, hz]; rfl
    rw [e]
    have k4' : (k == 4) = false := by simp [k4]
    have HB : Hid (Below W.heap.size W _) := s0.below
    obtain ⟨c1, f1, z1, -⟩ := s0.rules
    clear e hz hwf hB hl
    go_enter Try.func25, Try.ntmps25
    go_wp2
    go_ret
    exact ⟨rfl, HB.out⟩
set_option maxRecDepth 100000 in
set_option maxHeartbeats 4000000 in
theorem rwei_any (k a b m kh kw sh sw tp lf bt rt : Int) (wa : Option Addr) (lw wc : Nat) (ba : Option Addr) (lb bc : Nat) (sm ss um us z p lo hi h w c H V C : Int) (W : World) (zs : List Int) (hZ : IRow .i16 W wa lw wc zs) (s : Sit k kh kw sh sw tp lf bt rt h w c H V C lw lb) (ch : Int) (hc : 1 ≤ ch ∧ ch ≤ C) (i : Nat) (hi0 : (i : Int) < stR k kh kw h w c) :
    Calls Try.prog 38 #[.agg #[.int .i64 k, .int .i64 a, .int .i64 b, .int .i64 m, .int .i64 kh, .int .i64 kw, .int .i64 sh, .int .i64 sw, .int .i64 tp, .int .i64 lf, .int .i64 bt, .int .i64 rt, .slice wa lw wc, .slice ba lb bc, .int .i64 sm, .int .i64 ss, .int .i64 um, .int .i64 us, .int .i64 z, .int .i64 p, .int .i64 lo, .int .i64 hi, .int .i64 h, .int .i64 w, .int .i64 c, .int .i64 H, .int .i64 V, .int .i64 C], .int .i64 ch, .int .i64 i] W fun e w' => e = .returned (.int .i64 (wgA k ch (stR k kh kw h w c) zs i)) ∧ Below W.heap.size W w' := by
  have hL : Hid (∀ W', Calls Try.prog 37 #[.agg #[.int .i64 k, .int .i64 a, .int .i64 b, .int .i64 m, .int .i64 kh, .int .i64 kw, .int .i64 sh, .int .i64 sw, .int .i64 tp, .int .i64 lf, .int .i64 bt, .int .i64 rt, .slice wa lw wc, .slice ba lb bc, .int .i64 sm, .int .i64 ss, .int .i64 um, .int .i64 us, .int .i64 z, .int .i64 p, .int .i64 lo, .int .i64 hi, .int .i64 h, .int .i64 w, .int .i64 c, .int .i64 H, .int .i64 V, .int .i64 C]] W' fun e w' => e = .returned (.int .i64 (stR k kh kw h w c)) ∧ Below W'.heap.size W' w') := fun W' => rlen_any k a b m kh kw sh sw tp lf bt rt wa lw wc ba lb bc sm ss um us z p lo hi h w c H V C W' s
  have s0 := (St.start W).new (c := #[.int .i64 k, .int .i64 a, .int .i64 b, .int .i64 m, .int .i64 kh, .int .i64 kw, .int .i64 sh, .int .i64 sw, .int .i64 tp, .int .i64 lf, .int .i64 bt, .int .i64 rt, .slice wa lw wc, .slice ba lb bc, .int .i64 sm, .int .i64 ss, .int .i64 um, .int .i64 us, .int .i64 z, .int .i64 p, .int .i64 lo, .int .i64 hi, .int .i64 h, .int .i64 w, .int .i64 c, .int .i64 H, .int .i64 V, .int .i64 C]) (t := 41)
  obtain ⟨hk, -, hv, -, -, -, hl, -, hst0, hst1⟩ := s
  have hC := (vS_yes hv).2.2.1
  obtain ⟨st, hst⟩ : ∃ st, stR k kh kw h w c = st := ⟨_, rfl⟩
  rw [hst] at hL hl hst0 hst1 hi0 ⊢
  clear hst hv
  by_cases k4 : k = 4
  · subst k4
    rw [show wgA 4 ch st zs i = 1 from if_pos rfl]
    go_enter Try.func38, Try.ntmps38
    go_wp2
    go_ret
    exact ⟨rfl, s0.below⟩
  · rw [show wgA k ch st zs i = zs.getD ((ch - 1) * st + i).toNat 0 from if_neg k4]
    have hl2 := (hl (by omega)).1
    obtain ⟨d, rfl⟩ : ∃ d : Nat, ch = (d : Int) + 1 := ⟨(ch - 1).toNat, by omega⟩
    have hm := hZ.2.2.1
    have hcc := hZ.2.1
    unfold maxLen at hm
    have p1 : 0 ≤ (d : Int) * st := Int.mul_nonneg (by omega) (by omega)
    have p2 : (d : Int) * st + st ≤ C * st := by
      have := Int.mul_le_mul_of_nonneg_right (show (d : Int) + 1 ≤ C by omega) (show 0 ≤ st by omega)
      rwa [Int.add_mul, Int.one_mul] at this
    obtain ⟨p', ep⟩ : ∃ p', (d : Int) * st = p' := ⟨_, rfl⟩
    rw [show (d : Int) + 1 - 1 = d by omega, ep]
    rw [ep] at p1 p2
    rw [← hl2] at p2
    obtain ⟨N, eN⟩ : ∃ N : Nat, p' + (i : Int) = (N : Int) := ⟨(p' + i).toNat, by omega⟩
    rw [eN]
    have hN : N < lw := by omega
    have hZ2 := hZ.below s0.below
    obtain ⟨x, u, rfl, hu, hwf, hz, -⟩ := hZ2.at hN
    obtain ⟨u1, u2⟩ := wf_i16 hwf
    have e : zs.getD ((N : Int)).toNat 0 = u := by rw [Int.toNat_natCast, List.getD_eq_getElem?_getD, hz]; rfl
    rw [e]
    have k4' : (k == 4) = false := by simp [k4]
    have hd1 : (d : Int) + 1 ≤ 1024 := by omega
    have hi2 : (i : Int) ≤ 512 := by omega
    have hNl : (N : Int) < (lw : Int) := by omega
    clear e hz hwf hl hl2 hC hc hZ hZ2
    go_enter Try.func38, Try.ntmps38
    go_upto_region 3 with fail
    obtain ⟨wv, hwv⟩ : ∃ wv, W.alloc (.cells #[.int .i64 k, .int .i64 a, .int .i64 b, .int .i64 m, .int .i64 kh, .int .i64 kw, .int .i64 sh, .int .i64 sw, .int .i64 tp, .int .i64 lf, .int .i64 bt, .int .i64 rt, .slice (some x) lw wc, .slice ba lb bc, .int .i64 sm, .int .i64 ss, .int .i64 um, .int .i64 us, .int .i64 z, .int .i64 p, .int .i64 lo, .int .i64 hi, .int .i64 h, .int .i64 w, .int .i64 c, .int .i64 H, .int .i64 V, .int .i64 C] 41) = wv := ⟨_, rfl⟩
    rw [hwv] at s0 hu ⊢
    have hbel : Hid (Below W.heap.size W wv) := s0.below
    have hG := s0.h1
    have hGz := lt_of_heap hG
    have hux : Hid ((x.add N).block < wv.heap.size) := World.block_lt_of_cell? _ _ hu
    clear s0 hwv
    refine regionC (fun w' => Below wv.heap.size wv w') (by kernel_rfl) ?_
    obtain ⟨wd, hwd⟩ : ∃ wd, wv.drew = wd := ⟨_, rfl⟩
    have HD : Hid (Below wv.heap.size wv wd) := by unfold Hid; rw [← hwd]; exact (Below.refl _ _).drew
    rw [hwd]
    clear hwd
    refine takeC 0 (v := .pointer (some ⟨W.heap.size, 0, none⟩)) rfl rfl (by kernel_rfl) (by kernel_rfl) (by kernel_rfl) (fun _ _ _ h => h) (fun _ => rfl) rfl (fun w' hw' => by go_simp) ?_
    refine takeC 1 (v := .pointer (some ⟨W.heap.size, 12, none⟩)) rfl rfl (by kernel_rfl) (by kernel_rfl) (by kernel_rfl) (fun _ _ _ h => h) (fun _ => rfl) rfl (fun w' hw' => by go_simp) ?_
    refine takeC 2 (v := .slice (some x) lw wc) rfl rfl (by kernel_rfl) (by kernel_rfl) (by kernel_rfl) (fun _ _ _ h => h) (fun _ => rfl) rfl (fun w' hw' => by have hc := (cells_at ((hw'.block _ hGz).trans hG)).1 12; go_simp) ?_
    refine takeC 3 (v := .int .i64 ((d : Int) + 1)) rfl rfl (by kernel_rfl) (by kernel_rfl) (by kernel_rfl) (fun _ _ _ h => h) (fun _ => rfl) rfl (fun w' hw' => by go_simp) ?_
    refine takeC 4 (v := .int .i64 (d : Int)) rfl rfl (by kernel_rfl) (by kernel_rfl) (by kernel_rfl) (fun _ _ _ h => h) (fun _ => rfl) rfl (fun w' hw' => by go_simp; rw [IntKind.wrap_i64]; omega) ?_
    refine takeC 5 (v := .agg #[.int .i64 k, .int .i64 a, .int .i64 b, .int .i64 m, .int .i64 kh, .int .i64 kw, .int .i64 sh, .int .i64 sw, .int .i64 tp, .int .i64 lf, .int .i64 bt, .int .i64 rt, .slice (some x) lw wc, .slice ba lb bc, .int .i64 sm, .int .i64 ss, .int .i64 um, .int .i64 us, .int .i64 z, .int .i64 p, .int .i64 lo, .int .i64 hi, .int .i64 h, .int .i64 w, .int .i64 c, .int .i64 H, .int .i64 V, .int .i64 C]) rfl rfl (by kernel_rfl) (by kernel_rfl) (by kernel_rfl) (fun _ _ _ h => h) (fun _ => rfl) rfl (fun w' hw' => run_la 41 (.tmp 3) rfl ⟨W.heap.size, 0, none⟩ (by kernel_rfl) [.int .i64 k, .int .i64 a, .int .i64 b, .int .i64 m, .int .i64 kh, .int .i64 kw, .int .i64 sh, .int .i64 sw, .int .i64 tp, .int .i64 lf, .int .i64 bt, .int .i64 rt, .slice (some x) lw wc, .slice ba lb bc, .int .i64 sm, .int .i64 ss, .int .i64 um, .int .i64 us, .int .i64 z, .int .i64 p, .int .i64 lo, .int .i64 hi, .int .i64 h, .int .i64 w, .int .i64 c, .int .i64 H, .int .i64 V, .int .i64 C] _ (list_cells ((hw'.block _ hGz).trans hG) (fun q v hq => by simpa using hq)) Try.underlying41 rfl (by kernel_rfl)) ?_
    refine takeC 8 (v := .int .i64 (i : Int)) rfl rfl (by kernel_rfl) (by kernel_rfl) (by kernel_rfl) (fun _ _ _ h => h) (fun _ => rfl) rfl (fun w' hw' => by go_simp) ?_
    refine stepC 6 HD.out (by kernel_rfl) rfl (fun K hK => step_wp rfl ?_)
    go_simp
    refine (hL.out _).mono ?_
    rintro e w3 ⟨rfl, hb3⟩
    refine hK _ _ ?_
    clear hK K
    have H3 : Hid (Below wv.heap.size wv w3) := HD.out.trans (hb3.mono HD.out.size)
    clear hb3 HD
    refine takeC 7 (v := .int .i64 p') rfl rfl (by kernel_rfl) (by kernel_rfl) (by kernel_rfl) (fun _ _ _ h => h) (fun _ => rfl) rfl (fun w' hw' => by go_simp; try (rw [IntKind.wrap_i64]; omega)) ?_
    refine takeC 9 (v := .int .i64 (N : Int)) rfl rfl (by kernel_rfl) (by kernel_rfl) (by kernel_rfl) (fun _ _ _ h => h) (fun _ => rfl) rfl (fun w' hw' => by go_simp; try (rw [IntKind.wrap_i64]; omega)) ?_
    refine takeC 10 (v := .pointer (some (x.add N))) rfl rfl (by kernel_rfl) (by kernel_rfl) (by kernel_rfl) (fun _ _ _ h => h) (fun _ => rfl) rfl (fun w' hw' => by go_simp) ?_
    refine takeC 11 (v := .int .i16 u) rfl rfl (by kernel_rfl) (by kernel_rfl) (by kernel_rfl) (fun _ _ _ h => h) (fun _ => rfl) rfl (fun w' hw' => by have hc := (hw'.cell hux.out).trans hu; go_simp) ?_
    refine takeC 12 (v := .int .i64 u) rfl rfl (by kernel_rfl) (by kernel_rfl) (by kernel_rfl) (fun _ _ _ h => h) (fun _ => rfl) rfl (fun w' hw' => by go_simp; try (rw [IntKind.wrap_i64]; omega)) ?_
    refine takeC 13 (v := .int .i64 u) rfl rfl (by kernel_rfl) (by kernel_rfl) (by kernel_rfl) (fun _ _ _ h => h) (fun _ => rfl) rfl (fun w' hw' => by go_simp) ?_
    refine doneC H3.out (by kernel_rfl) ?_ _
    go_wp2
    go_ret
    exact ⟨rfl, hbel.out.trans (H3.out.mono hbel.out.size)⟩
end Go.Proofs.Ytjjckaklhafibaa
