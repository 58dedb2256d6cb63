/- What the document's Find and FindChan of layer 10 return, by the error of the op that is asked. What Length, Channels and Positions of package terms return. What terms of package terms returns: the terms of a channel's sum at a position. What Of of package terms returns. plain and fixed of law10. -/
import Derived.Test.YtnjdnbbemjdabaaGr15
import Derived.Test.YtnjdnbbemjdabaaGr20
import Derived.Test.YtnjdnbbemjdabaaGr24
import Derived.Test.YtnjdnbbemjdabaaGr25
/- What the document's Find and FindChan of layer 10 return, by the error of the op that is asked. -/
namespace Go.Proofs.Ytnjdnbbemjdabaa
open Go.ChangeShapes Go.WideShapes Go.ChangeAt Go.RowKit
set_option linter.unusedVariables false
theorem rfind_bad (h w c lo hi ot : Int) (oa : Option Addr) (on oc : Nat) (O : Nat → Nat → Int) (Z B : Nat → List Int) (W : World) (hL : LRow W oa on oc O Z B) (hon : on ≤ 1000000000000) (op ch E : Int) (hf : fiE O h w c lo hi ot on op = E) (hE : E ≠ 0) :
    Calls Try.prog 7 #[.agg #[.int .i64 h, .int .i64 w, .int .i64 c, .int .i64 lo, .int .i64 hi, .slice oa on oc, .int .i64 ot], .int .i64 op, .int .i64 ch] W fun e w' => e = .returned (.tuple #[.agg #[.int .i64 0, .int .i64 0, .int .i64 0, .int .i64 0, .int .i64 0, .int .i64 0, .int .i64 0, .int .i64 0, .int .i64 0, .int .i64 0, .int .i64 0, .int .i64 0, .slice none 0 0, .slice none 0 0, .int .i64 0, .int .i64 0, .int .i64 0, .int .i64 0, .int .i64 0, .int .i64 0, .int .i64 0, .int .i64 0, .int .i64 0, .int .i64 0, .int .i64 0, .int .i64 0, .int .i64 0, .int .i64 0], .int .i64 E]) ∧ Below W.heap.size W w' := by
  obtain ⟨Re, Ra, RL, Rw, hR⟩ : ∃ Re Ra RL Rw, gtR O h w c lo hi ot on = (Re, Ra, RL, Rw) := ⟨_, _, _, _, rfl⟩
  by_cases q : Re = 0
  · subst q
    by_cases ho : 1 ≤ op ∧ op ≤ (on : Int)
    · obtain ⟨rfl, hl, h64, -, -, -⟩ := gtR_ok hR
      obtain ⟨i, rfl⟩ : ∃ i : Nat, op = (i : Int) + 1 := ⟨(op - 1).toNat, by omega⟩
      have hi0 : i < on := by omega
      cases hk : rdB (O i 0) with
      | true => rw [fiE_0 (by rw [hR]) hi0 hk] at hf; exact absurd hf.symm hE
      | false =>
        rw [fiE_81 (by rw [hR]) hi0 hk] at hf
        subst hf
        obtain ⟨x, rfl⟩ : ∃ x, oa = some x := by
          cases oa with
          | none => have h1 := hL.2.2.1 rfl; have h2 := hL.1; omega
          | some x => exact ⟨x, rfl⟩
        obtain ⟨wa, lw, cw, ba, lb, cb, e12, e13, hcell, hz, hb, -, -⟩ := hL.2.2.2 x rfl i hi0
        obtain ⟨j, hj, hji, -⟩ := (gtR_at hR).2 i hi0
        exact rfind_r h w c lo hi ot ch x on oc i O Z B W hL hon hi0 wa lw cw ba lb cb hcell Rw RL hR (by omega) (by omega) _ _ _ _ _ _ rfl rfl false hk
    · rw [fiE_3 (by rw [hR]) ho] at hf
      subst hf
      exact rfind_3 h w c lo hi ot op ch oa on oc O Z B W hL hon Ra Rw RL hR ho
  · rw [fiE_err (by rw [hR]) q] at hf
    subst hf
    exact rfind_e h w c lo hi ot op ch oa on oc O Z B W hL hon _ Ra Rw RL hR hE
theorem rfind_ok (h w c lo hi ot : Int) (oa : Option Addr) (on oc : Nat) (O : Nat → Nat → Int) (Z B : Nat → List Int) (W : World) (hL : LRow W oa on oc O Z B) (hon : on ≤ 1000000000000) (ch : Int) (RL : List (Int × Int × Int)) (Rw : Int) (hR : gtR O h w c lo hi ot on = (0, 0, RL, Rw)) (i : Nat) (x : Addr) (wa : Option Addr) (lw cw : Nat) (ba : Option Addr) (lb cb : Nat) (x0 y0 z0 H V C : Int) (hF : Fnd W oa on O Z B RL i x wa lw cw ba lb cb x0 y0 z0 H V C) (hc : 0 ≤ ch ∧ ch ≤ C) :
    Calls Try.prog 7 #[.agg #[.int .i64 h, .int .i64 w, .int .i64 c, .int .i64 lo, .int .i64 hi, .slice oa on oc, .int .i64 ot], .int .i64 ((i : Int) + 1), .int .i64 ch] W fun e w' => e = .returned (.tuple #[.agg #[.int .i64 (O i 0), .int .i64 (O i 1), .int .i64 (O i 2), .int .i64 (O i 3), .int .i64 (O i 4), .int .i64 (O i 5), .int .i64 (O i 6), .int .i64 (O i 7), .int .i64 (O i 8), .int .i64 (O i 9), .int .i64 (O i 10), .int .i64 (O i 11), .slice wa lw cw, .slice ba lb cb, .int .i64 (O i 14), .int .i64 (O i 15), .int .i64 (O i 16), .int .i64 (O i 17), .int .i64 (O i 18), .int .i64 (O i 19), .int .i64 (O i 20), .int .i64 (O i 21), .int .i64 x0, .int .i64 y0, .int .i64 z0, .int .i64 H, .int .i64 V, .int .i64 C], .int .i64 0]) ∧ Below W.heap.size W w' := by
  obtain ⟨h1, rfl, h3, h4, h5, h6, h7, h8, h9, h10, h11, h12⟩ := hF
  have := rfind_r h w c lo hi ot ch x on oc i O Z B W hL hon h1 wa lw cw ba lb cb h5 Rw RL hR h11.1 h11.2 _ _ _ _ _ _ h8 h9 true h12
  rw [if_pos rfl, if_pos hc] at this
  exact this
theorem rfind_no (h w c lo hi ot : Int) (oa : Option Addr) (on oc : Nat) (O : Nat → Nat → Int) (Z B : Nat → List Int) (W : World) (hL : LRow W oa on oc O Z B) (hon : on ≤ 1000000000000) (ch : Int) (RL : List (Int × Int × Int)) (Rw : Int) (hR : gtR O h w c lo hi ot on = (0, 0, RL, Rw)) (i : Nat) (x : Addr) (wa : Option Addr) (lw cw : Nat) (ba : Option Addr) (lb cb : Nat) (x0 y0 z0 H V C : Int) (hF : Fnd W oa on O Z B RL i x wa lw cw ba lb cb x0 y0 z0 H V C) (hc : ¬ (0 ≤ ch ∧ ch ≤ C)) :
    Calls Try.prog 7 #[.agg #[.int .i64 h, .int .i64 w, .int .i64 c, .int .i64 lo, .int .i64 hi, .slice oa on oc, .int .i64 ot], .int .i64 ((i : Int) + 1), .int .i64 ch] W fun e w' => e = .returned (.tuple #[.agg #[.int .i64 0, .int .i64 0, .int .i64 0, .int .i64 0, .int .i64 0, .int .i64 0, .int .i64 0, .int .i64 0, .int .i64 0, .int .i64 0, .int .i64 0, .int .i64 0, .slice none 0 0, .slice none 0 0, .int .i64 0, .int .i64 0, .int .i64 0, .int .i64 0, .int .i64 0, .int .i64 0, .int .i64 0, .int .i64 0, .int .i64 0, .int .i64 0, .int .i64 0, .int .i64 0, .int .i64 0, .int .i64 0], .int .i64 3]) ∧ Below W.heap.size W w' := by
  obtain ⟨h1, rfl, h3, h4, h5, h6, h7, h8, h9, h10, h11, h12⟩ := hF
  have := rfind_r h w c lo hi ot ch x on oc i O Z B W hL hon h1 wa lw cw ba lb cb h5 Rw RL hR h11.1 h11.2 _ _ _ _ _ _ h8 h9 true h12
  rw [if_pos rfl, if_neg hc] at this
  exact this
/-! ### FindChan -/
set_option maxRecDepth 100000 in
set_option maxHeartbeats 4000000 in
theorem fch_z {x9 : Nat} (h w c lo hi ot : Int) (oa : Option Addr) (on oc : Nat) (W : World) (op ch E : Int) (hE : ¬ (E = 0 ∧ ch = 0))
    (hK : ∀ W', Below W.heap.size W W' → Calls Try.prog 7 #[.agg #[.int .i64 h, .int .i64 w, .int .i64 c, .int .i64 lo, .int .i64 hi, .slice oa on oc, .int .i64 ot], .int .i64 op, .int .i64 ch] W' fun e w' => e = .returned (.tuple #[.agg #[.int .i64 0, .int .i64 0, .int .i64 0, .int .i64 0, .int .i64 0, .int .i64 0, .int .i64 0, .int .i64 0, .int .i64 0, .int .i64 0, .int .i64 0, .int .i64 0, .slice none 0 0, .slice none 0 0, .int .i64 0, .int .i64 0, .int .i64 0, .int .i64 0, .int .i64 0, .int .i64 0, .int .i64 0, .int .i64 0, .int .i64 0, .int .i64 0, .int .i64 0, .int .i64 0, .int .i64 0, .int .i64 0], .int .i64 E]) ∧ Below W'.heap.size W' w') :
    Calls Try.prog 15 #[.agg #[.int .i64 h, .int .i64 w, .int .i64 c, .int .i64 lo, .int .i64 hi, .slice oa on oc, .int .i64 ot], .int .i64 op, .int .i64 ch] W fun e w' => e = .returned (.tuple #[.agg #[.int .i64 0, .int .i64 0, .int .i64 0, .int .i64 0, .int .i64 0, .int .i64 0, .int .i64 0, .int .i64 0, .int .i64 0, .int .i64 0, .int .i64 0, .int .i64 0, .slice none 0 0, .slice none 0 0, .int .i64 0, .int .i64 0, .int .i64 0, .int .i64 0, .int .i64 0, .int .i64 0, .int .i64 0, .int .i64 0, .int .i64 0, .int .i64 0, .int .i64 0, .int .i64 0, .int .i64 0, .int .i64 0], .int .i64 E]) ∧ Below W.heap.size W w' := by
  have s0 := ((St.start W).new (c := #[.int .i64 h, .int .i64 w, .int .i64 c, .int .i64 lo, .int .i64 hi, .slice oa on oc, .int .i64 ot]) (t := 26)).new (c := #[.int .i64 0, .int .i64 0, .int .i64 0, .int .i64 0, .int .i64 0, .int .i64 0, .int .i64 0, .int .i64 0, .int .i64 0, .int .i64 0, .int .i64 0, .int .i64 0, .slice none 0 0, .slice none 0 0, .int .i64 0, .int .i64 0, .int .i64 0, .int .i64 0, .int .i64 0, .int .i64 0, .int .i64 0, .int .i64 0, .int .i64 0, .int .i64 0, .int .i64 0, .int .i64 0, .int .i64 0, .int .i64 0]) (t := 36)
  simp only [World.size_alloc] at s0
  have HK : Hid (∀ W', _) := hK
  have hE' : ((E == 0) && (ch == 0)) = false := by
    cases q : (E == 0) with
    | false => rfl
    | true =>
      have e1 : E = 0 := by simpa using q
      have : ch ≠ 0 := fun e => hE ⟨e1, e⟩
      simp [this]
  clear hK
  by_cases e0 : E = 0
  · first
      | (have e0' : (E == 0) = true := by simp [e0]
         have c0' : (ch == 0) = false := by simp; exact fun e => hE ⟨e0, e⟩
         clear e0 hE hE')
      | (have e0' : (E == 0) = false := by simp [e0]
         clear e0 hE hE')
    go_enter Try.func15, Try.ntmps15
    go_wp2_with fail
    refine (HK.out _ s0.below).mono ?_
    rintro e w1 ⟨rfl, hb⟩
    have s1 := (s0.call hb).new (c := #[.int .i64 0, .int .i64 0, .int .i64 0, .int .i64 0, .int .i64 0, .int .i64 0, .int .i64 0, .int .i64 0, .int .i64 0, .int .i64 0, .int .i64 0, .int .i64 0, .slice none 0 0, .slice none 0 0, .int .i64 0, .int .i64 0, .int .i64 0, .int .i64 0, .int .i64 0, .int .i64 0, .int .i64 0, .int .i64 0, .int .i64 0, .int .i64 0, .int .i64 0, .int .i64 0, .int .i64 0, .int .i64 0]) (t := 36)
    have hR1 := s1.h1
    have HZ : Hid ((w1.alloc (.cells #[.int .i64 0, .int .i64 0, .int .i64 0, .int .i64 0, .int .i64 0, .int .i64 0, .int .i64 0, .int .i64 0, .int .i64 0, .int .i64 0, .int .i64 0, .int .i64 0, .slice none 0 0, .slice none 0 0, .int .i64 0, .int .i64 0, .int .i64 0, .int .i64 0, .int .i64 0, .int .i64 0, .int .i64 0, .int .i64 0, .int .i64 0, .int .i64 0, .int .i64 0, .int .i64 0, .int .i64 0, .int .i64 0] 36)).heap[W.heap.size + 1]? = some (.cells #[.int .i64 0, .int .i64 0, .int .i64 0, .int .i64 0, .int .i64 0, .int .i64 0, .int .i64 0, .int .i64 0, .int .i64 0, .int .i64 0, .int .i64 0, .int .i64 0, .slice none 0 0, .slice none 0 0, .int .i64 0, .int .i64 0, .int .i64 0, .int .i64 0, .int .i64 0, .int .i64 0, .int .i64 0, .int .i64 0, .int .i64 0, .int .i64 0, .int .i64 0, .int .i64 0, .int .i64 0, .int .i64 0] 36 (0, 0))) := s1.h2
    have hB1 : Hid (Below W.heap.size W (w1.alloc (.cells #[.int .i64 0, .int .i64 0, .int .i64 0, .int .i64 0, .int .i64 0, .int .i64 0, .int .i64 0, .int .i64 0, .int .i64 0, .int .i64 0, .int .i64 0, .int .i64 0, .slice none 0 0, .slice none 0 0, .int .i64 0, .int .i64 0, .int .i64 0, .int .i64 0, .int .i64 0, .int .i64 0, .int .i64 0, .int .i64 0, .int .i64 0, .int .i64 0, .int .i64 0, .int .i64 0, .int .i64 0, .int .i64 0] 36))) := s1.below
    clear hb s1 s0
    go_wp2_with (first
      | (refine wpList_st_new rfl 36 (.tmp 8) (.tmp 15) rfl w1 _ #[.int .i64 0, .int .i64 0, .int .i64 0, .int .i64 0, .int .i64 0, .int .i64 0, .int .i64 0, .int .i64 0, .int .i64 0, .int .i64 0, .int .i64 0, .int .i64 0, .slice none 0 0, .slice none 0 0, .int .i64 0, .int .i64 0, .int .i64 0, .int .i64 0, .int .i64 0, .int .i64 0, .int .i64 0, .int .i64 0, .int .i64 0, .int .i64 0, .int .i64 0, .int .i64 0, .int .i64 0, .int .i64 0] rfl rfl (by kernel_rfl) rfl (by simp [Value.oneCell']) ?_)
      | (refine wpList_load_row rfl 36 (.tmp 8) rfl w1.heap.size rfl 36 _ (0, 0) _ hR1 Try.underlying36 rfl (by kernel_rfl) ?_)
      | (refine wpList_store_row rfl 36 (.tmp 6) (.tmp 24) rfl (W.heap.size + 1) #[.int .i64 0, .int .i64 0, .int .i64 0, .int .i64 0, .int .i64 0, .int .i64 0, .int .i64 0, .int .i64 0, .int .i64 0, .int .i64 0, .int .i64 0, .int .i64 0, .slice none 0 0, .slice none 0 0, .int .i64 0, .int .i64 0, .int .i64 0, .int .i64 0, .int .i64 0, .int .i64 0, .int .i64 0, .int .i64 0, .int .i64 0, .int .i64 0, .int .i64 0, .int .i64 0, .int .i64 0, .int .i64 0] rfl rfl 36 #[.int .i64 0, .int .i64 0, .int .i64 0, .int .i64 0, .int .i64 0, .int .i64 0, .int .i64 0, .int .i64 0, .int .i64 0, .int .i64 0, .int .i64 0, .int .i64 0, .slice none 0 0, .slice none 0 0, .int .i64 0, .int .i64 0, .int .i64 0, .int .i64 0, .int .i64 0, .int .i64 0, .int .i64 0, .int .i64 0, .int .i64 0, .int .i64 0, .int .i64 0, .int .i64 0, .int .i64 0, .int .i64 0] HZ.out (by kernel_rfl) rfl (by simp [Value.oneCell']) ?_; have hZ' := setRow_heap _ (W.heap.size + 1) #[.int .i64 0, .int .i64 0, .int .i64 0, .int .i64 0, .int .i64 0, .int .i64 0, .int .i64 0, .int .i64 0, .int .i64 0, .int .i64 0, .int .i64 0, .int .i64 0, .slice none 0 0, .slice none 0 0, .int .i64 0, .int .i64 0, .int .i64 0, .int .i64 0, .int .i64 0, .int .i64 0, .int .i64 0, .int .i64 0, .int .i64 0, .int .i64 0, .int .i64 0, .int .i64 0, .int .i64 0, .int .i64 0] #[.int .i64 0, .int .i64 0, .int .i64 0, .int .i64 0, .int .i64 0, .int .i64 0, .int .i64 0, .int .i64 0, .int .i64 0, .int .i64 0, .int .i64 0, .int .i64 0, .slice none 0 0, .slice none 0 0, .int .i64 0, .int .i64 0, .int .i64 0, .int .i64 0, .int .i64 0, .int .i64 0, .int .i64 0, .int .i64 0, .int .i64 0, .int .i64 0, .int .i64 0, .int .i64 0, .int .i64 0, .int .i64 0] 36 (0, 0) HZ.out; have hB' : Hid (Below W.heap.size W (_ : World)) := below_setRow hB1.out (show W.heap.size ≤ W.heap.size + 1 by omega) #[.int .i64 0, .int .i64 0, .int .i64 0, .int .i64 0, .int .i64 0, .int .i64 0, .int .i64 0, .int .i64 0, .int .i64 0, .int .i64 0, .int .i64 0, .int .i64 0, .slice none 0 0, .slice none 0 0, .int .i64 0, .int .i64 0, .int .i64 0, .int .i64 0, .int .i64 0, .int .i64 0, .int .i64 0, .int .i64 0, .int .i64 0, .int .i64 0, .int .i64 0, .int .i64 0, .int .i64 0, .int .i64 0]; clear hR1; generalize World.setRow _ _ _ = w5 at hZ' hB' ⊢))
    exact bodyPost_ret (results_row_tmp Try.results15 _ _ (W.heap.size + 1) 36 _ _ (.int .i64 E) rfl hZ' Try.underlying36 rfl (by kernel_rfl) rfl) rfl ⟨rfl, hB'.out⟩
  · first
      | (have e0' : (E == 0) = true := by simp [e0]
         have c0' : (ch == 0) = false := by simp; exact fun e => hE ⟨e0, e⟩
         clear e0 hE hE')
      | (have e0' : (E == 0) = false := by simp [e0]
         clear e0 hE hE')
    go_enter Try.func15, Try.ntmps15
    go_wp2_with fail
    refine (HK.out _ s0.below).mono ?_
    rintro e w1 ⟨rfl, hb⟩
    have s1 := (s0.call hb).new (c := #[.int .i64 0, .int .i64 0, .int .i64 0, .int .i64 0, .int .i64 0, .int .i64 0, .int .i64 0, .int .i64 0, .int .i64 0, .int .i64 0, .int .i64 0, .int .i64 0, .slice none 0 0, .slice none 0 0, .int .i64 0, .int .i64 0, .int .i64 0, .int .i64 0, .int .i64 0, .int .i64 0, .int .i64 0, .int .i64 0, .int .i64 0, .int .i64 0, .int .i64 0, .int .i64 0, .int .i64 0, .int .i64 0]) (t := 36)
    have hR1 := s1.h1
    have HZ : Hid ((w1.alloc (.cells #[.int .i64 0, .int .i64 0, .int .i64 0, .int .i64 0, .int .i64 0, .int .i64 0, .int .i64 0, .int .i64 0, .int .i64 0, .int .i64 0, .int .i64 0, .int .i64 0, .slice none 0 0, .slice none 0 0, .int .i64 0, .int .i64 0, .int .i64 0, .int .i64 0, .int .i64 0, .int .i64 0, .int .i64 0, .int .i64 0, .int .i64 0, .int .i64 0, .int .i64 0, .int .i64 0, .int .i64 0, .int .i64 0] 36)).heap[W.heap.size + 1]? = some (.cells #[.int .i64 0, .int .i64 0, .int .i64 0, .int .i64 0, .int .i64 0, .int .i64 0, .int .i64 0, .int .i64 0, .int .i64 0, .int .i64 0, .int .i64 0, .int .i64 0, .slice none 0 0, .slice none 0 0, .int .i64 0, .int .i64 0, .int .i64 0, .int .i64 0, .int .i64 0, .int .i64 0, .int .i64 0, .int .i64 0, .int .i64 0, .int .i64 0, .int .i64 0, .int .i64 0, .int .i64 0, .int .i64 0] 36 (0, 0))) := s1.h2
    have hB1 : Hid (Below W.heap.size W (w1.alloc (.cells #[.int .i64 0, .int .i64 0, .int .i64 0, .int .i64 0, .int .i64 0, .int .i64 0, .int .i64 0, .int .i64 0, .int .i64 0, .int .i64 0, .int .i64 0, .int .i64 0, .slice none 0 0, .slice none 0 0, .int .i64 0, .int .i64 0, .int .i64 0, .int .i64 0, .int .i64 0, .int .i64 0, .int .i64 0, .int .i64 0, .int .i64 0, .int .i64 0, .int .i64 0, .int .i64 0, .int .i64 0, .int .i64 0] 36))) := s1.below
    clear hb s1 s0
    go_wp2_with (first
      | (refine wpList_st_new rfl 36 (.tmp 8) (.tmp 15) rfl w1 _ #[.int .i64 0, .int .i64 0, .int .i64 0, .int .i64 0, .int .i64 0, .int .i64 0, .int .i64 0, .int .i64 0, .int .i64 0, .int .i64 0, .int .i64 0, .int .i64 0, .slice none 0 0, .slice none 0 0, .int .i64 0, .int .i64 0, .int .i64 0, .int .i64 0, .int .i64 0, .int .i64 0, .int .i64 0, .int .i64 0, .int .i64 0, .int .i64 0, .int .i64 0, .int .i64 0, .int .i64 0, .int .i64 0] rfl rfl (by kernel_rfl) rfl (by simp [Value.oneCell']) ?_)
      | (refine wpList_load_row rfl 36 (.tmp 8) rfl w1.heap.size rfl 36 _ (0, 0) _ hR1 Try.underlying36 rfl (by kernel_rfl) ?_)
      | (refine wpList_store_row rfl 36 (.tmp 6) (.tmp 24) rfl (W.heap.size + 1) #[.int .i64 0, .int .i64 0, .int .i64 0, .int .i64 0, .int .i64 0, .int .i64 0, .int .i64 0, .int .i64 0, .int .i64 0, .int .i64 0, .int .i64 0, .int .i64 0, .slice none 0 0, .slice none 0 0, .int .i64 0, .int .i64 0, .int .i64 0, .int .i64 0, .int .i64 0, .int .i64 0, .int .i64 0, .int .i64 0, .int .i64 0, .int .i64 0, .int .i64 0, .int .i64 0, .int .i64 0, .int .i64 0] rfl rfl 36 #[.int .i64 0, .int .i64 0, .int .i64 0, .int .i64 0, .int .i64 0, .int .i64 0, .int .i64 0, .int .i64 0, .int .i64 0, .int .i64 0, .int .i64 0, .int .i64 0, .slice none 0 0, .slice none 0 0, .int .i64 0, .int .i64 0, .int .i64 0, .int .i64 0, .int .i64 0, .int .i64 0, .int .i64 0, .int .i64 0, .int .i64 0, .int .i64 0, .int .i64 0, .int .i64 0, .int .i64 0, .int .i64 0] HZ.out (by kernel_rfl) rfl (by simp [Value.oneCell']) ?_; have hZ' := setRow_heap _ (W.heap.size + 1) #[.int .i64 0, .int .i64 0, .int .i64 0, .int .i64 0, .int .i64 0, .int .i64 0, .int .i64 0, .int .i64 0, .int .i64 0, .int .i64 0, .int .i64 0, .int .i64 0, .slice none 0 0, .slice none 0 0, .int .i64 0, .int .i64 0, .int .i64 0, .int .i64 0, .int .i64 0, .int .i64 0, .int .i64 0, .int .i64 0, .int .i64 0, .int .i64 0, .int .i64 0, .int .i64 0, .int .i64 0, .int .i64 0] #[.int .i64 0, .int .i64 0, .int .i64 0, .int .i64 0, .int .i64 0, .int .i64 0, .int .i64 0, .int .i64 0, .int .i64 0, .int .i64 0, .int .i64 0, .int .i64 0, .slice none 0 0, .slice none 0 0, .int .i64 0, .int .i64 0, .int .i64 0, .int .i64 0, .int .i64 0, .int .i64 0, .int .i64 0, .int .i64 0, .int .i64 0, .int .i64 0, .int .i64 0, .int .i64 0, .int .i64 0, .int .i64 0] 36 (0, 0) HZ.out; have hB' : Hid (Below W.heap.size W (_ : World)) := below_setRow hB1.out (show W.heap.size ≤ W.heap.size + 1 by omega) #[.int .i64 0, .int .i64 0, .int .i64 0, .int .i64 0, .int .i64 0, .int .i64 0, .int .i64 0, .int .i64 0, .int .i64 0, .int .i64 0, .int .i64 0, .int .i64 0, .slice none 0 0, .slice none 0 0, .int .i64 0, .int .i64 0, .int .i64 0, .int .i64 0, .int .i64 0, .int .i64 0, .int .i64 0, .int .i64 0, .int .i64 0, .int .i64 0, .int .i64 0, .int .i64 0, .int .i64 0, .int .i64 0]; clear hR1; generalize World.setRow _ _ _ = w5 at hZ' hB' ⊢))
    exact bodyPost_ret (results_row_tmp Try.results15 _ _ (W.heap.size + 1) 36 _ _ (.int .i64 E) rfl hZ' Try.underlying36 rfl (by kernel_rfl) rfl) rfl ⟨rfl, hB'.out⟩
set_option maxRecDepth 100000 in
set_option maxHeartbeats 4000000 in
theorem fch_r {O : Nat → Nat → Int} {i : Nat} {x : Addr} {wa : Option Addr} {lw cw : Nat} {ba : Option Addr} {lb cb : Nat} {x0 y0 z0 H V C : Int} (h w c lo hi ot : Int) (oa : Option Addr) (on oc : Nat) (W : World) (op ch E : Int) (hE : ¬ (E = 0 ∧ ch = 0))
    (hK : ∀ W', Below W.heap.size W W' → Calls Try.prog 7 #[.agg #[.int .i64 h, .int .i64 w, .int .i64 c, .int .i64 lo, .int .i64 hi, .slice oa on oc, .int .i64 ot], .int .i64 op, .int .i64 ch] W' fun e w' => e = .returned (.tuple #[.agg #[.int .i64 (O i 0), .int .i64 (O i 1), .int .i64 (O i 2), .int .i64 (O i 3), .int .i64 (O i 4), .int .i64 (O i 5), .int .i64 (O i 6), .int .i64 (O i 7), .int .i64 (O i 8), .int .i64 (O i 9), .int .i64 (O i 10), .int .i64 (O i 11), .slice wa lw cw, .slice ba lb cb, .int .i64 (O i 14), .int .i64 (O i 15), .int .i64 (O i 16), .int .i64 (O i 17), .int .i64 (O i 18), .int .i64 (O i 19), .int .i64 (O i 20), .int .i64 (O i 21), .int .i64 x0, .int .i64 y0, .int .i64 z0, .int .i64 H, .int .i64 V, .int .i64 C], .int .i64 E]) ∧ Below W'.heap.size W' w') :
    Calls Try.prog 15 #[.agg #[.int .i64 h, .int .i64 w, .int .i64 c, .int .i64 lo, .int .i64 hi, .slice oa on oc, .int .i64 ot], .int .i64 op, .int .i64 ch] W fun e w' => e = .returned (.tuple #[.agg #[.int .i64 (O i 0), .int .i64 (O i 1), .int .i64 (O i 2), .int .i64 (O i 3), .int .i64 (O i 4), .int .i64 (O i 5), .int .i64 (O i 6), .int .i64 (O i 7), .int .i64 (O i 8), .int .i64 (O i 9), .int .i64 (O i 10), .int .i64 (O i 11), .slice wa lw cw, .slice ba lb cb, .int .i64 (O i 14), .int .i64 (O i 15), .int .i64 (O i 16), .int .i64 (O i 17), .int .i64 (O i 18), .int .i64 (O i 19), .int .i64 (O i 20), .int .i64 (O i 21), .int .i64 x0, .int .i64 y0, .int .i64 z0, .int .i64 H, .int .i64 V, .int .i64 C], .int .i64 E]) ∧ Below W.heap.size W w' := by
  have s0 := ((St.start W).new (c := #[.int .i64 h, .int .i64 w, .int .i64 c, .int .i64 lo, .int .i64 hi, .slice oa on oc, .int .i64 ot]) (t := 26)).new (c := #[.int .i64 0, .int .i64 0, .int .i64 0, .int .i64 0, .int .i64 0, .int .i64 0, .int .i64 0, .int .i64 0, .int .i64 0, .int .i64 0, .int .i64 0, .int .i64 0, .slice none 0 0, .slice none 0 0, .int .i64 0, .int .i64 0, .int .i64 0, .int .i64 0, .int .i64 0, .int .i64 0, .int .i64 0, .int .i64 0, .int .i64 0, .int .i64 0, .int .i64 0, .int .i64 0, .int .i64 0, .int .i64 0]) (t := 36)
  simp only [World.size_alloc] at s0
  have HK : Hid (∀ W', _) := hK
  have hE' : ((E == 0) && (ch == 0)) = false := by
    cases q : (E == 0) with
    | false => rfl
    | true =>
      have e1 : E = 0 := by simpa using q
      have : ch ≠ 0 := fun e => hE ⟨e1, e⟩
      simp [this]
  clear hK
  by_cases e0 : E = 0
  · first
      | (have e0' : (E == 0) = true := by simp [e0]
         have c0' : (ch == 0) = false := by simp; exact fun e => hE ⟨e0, e⟩
         clear e0 hE hE')
      | (have e0' : (E == 0) = false := by simp [e0]
         clear e0 hE hE')
    go_enter Try.func15, Try.ntmps15
    go_wp2_with fail
    refine (HK.out _ s0.below).mono ?_
    rintro e w1 ⟨rfl, hb⟩
    have s1 := (s0.call hb).new (c := #[.int .i64 (O i 0), .int .i64 (O i 1), .int .i64 (O i 2), .int .i64 (O i 3), .int .i64 (O i 4), .int .i64 (O i 5), .int .i64 (O i 6), .int .i64 (O i 7), .int .i64 (O i 8), .int .i64 (O i 9), .int .i64 (O i 10), .int .i64 (O i 11), .slice wa lw cw, .slice ba lb cb, .int .i64 (O i 14), .int .i64 (O i 15), .int .i64 (O i 16), .int .i64 (O i 17), .int .i64 (O i 18), .int .i64 (O i 19), .int .i64 (O i 20), .int .i64 (O i 21), .int .i64 x0, .int .i64 y0, .int .i64 z0, .int .i64 H, .int .i64 V, .int .i64 C]) (t := 36)
    have hR1 := s1.h1
    have HZ : Hid ((w1.alloc (.cells #[.int .i64 (O i 0), .int .i64 (O i 1), .int .i64 (O i 2), .int .i64 (O i 3), .int .i64 (O i 4), .int .i64 (O i 5), .int .i64 (O i 6), .int .i64 (O i 7), .int .i64 (O i 8), .int .i64 (O i 9), .int .i64 (O i 10), .int .i64 (O i 11), .slice wa lw cw, .slice ba lb cb, .int .i64 (O i 14), .int .i64 (O i 15), .int .i64 (O i 16), .int .i64 (O i 17), .int .i64 (O i 18), .int .i64 (O i 19), .int .i64 (O i 20), .int .i64 (O i 21), .int .i64 x0, .int .i64 y0, .int .i64 z0, .int .i64 H, .int .i64 V, .int .i64 C] 36)).heap[W.heap.size + 1]? = some (.cells #[.int .i64 0, .int .i64 0, .int .i64 0, .int .i64 0, .int .i64 0, .int .i64 0, .int .i64 0, .int .i64 0, .int .i64 0, .int .i64 0, .int .i64 0, .int .i64 0, .slice none 0 0, .slice none 0 0, .int .i64 0, .int .i64 0, .int .i64 0, .int .i64 0, .int .i64 0, .int .i64 0, .int .i64 0, .int .i64 0, .int .i64 0, .int .i64 0, .int .i64 0, .int .i64 0, .int .i64 0, .int .i64 0] 36 (0, 0))) := s1.h2
    have hB1 : Hid (Below W.heap.size W (w1.alloc (.cells #[.int .i64 (O i 0), .int .i64 (O i 1), .int .i64 (O i 2), .int .i64 (O i 3), .int .i64 (O i 4), .int .i64 (O i 5), .int .i64 (O i 6), .int .i64 (O i 7), .int .i64 (O i 8), .int .i64 (O i 9), .int .i64 (O i 10), .int .i64 (O i 11), .slice wa lw cw, .slice ba lb cb, .int .i64 (O i 14), .int .i64 (O i 15), .int .i64 (O i 16), .int .i64 (O i 17), .int .i64 (O i 18), .int .i64 (O i 19), .int .i64 (O i 20), .int .i64 (O i 21), .int .i64 x0, .int .i64 y0, .int .i64 z0, .int .i64 H, .int .i64 V, .int .i64 C] 36))) := s1.below
    clear hb s1 s0
    go_wp2_with (first
      | (refine wpList_st_new rfl 36 (.tmp 8) (.tmp 15) rfl w1 _ #[.int .i64 (O i 0), .int .i64 (O i 1), .int .i64 (O i 2), .int .i64 (O i 3), .int .i64 (O i 4), .int .i64 (O i 5), .int .i64 (O i 6), .int .i64 (O i 7), .int .i64 (O i 8), .int .i64 (O i 9), .int .i64 (O i 10), .int .i64 (O i 11), .slice wa lw cw, .slice ba lb cb, .int .i64 (O i 14), .int .i64 (O i 15), .int .i64 (O i 16), .int .i64 (O i 17), .int .i64 (O i 18), .int .i64 (O i 19), .int .i64 (O i 20), .int .i64 (O i 21), .int .i64 x0, .int .i64 y0, .int .i64 z0, .int .i64 H, .int .i64 V, .int .i64 C] rfl rfl (by kernel_rfl) rfl (by simp [Value.oneCell']) ?_)
      | (refine wpList_load_row rfl 36 (.tmp 8) rfl w1.heap.size rfl 36 _ (0, 0) _ hR1 Try.underlying36 rfl (by kernel_rfl) ?_)
      | (refine wpList_store_row rfl 36 (.tmp 6) (.tmp 24) rfl (W.heap.size + 1) #[.int .i64 (O i 0), .int .i64 (O i 1), .int .i64 (O i 2), .int .i64 (O i 3), .int .i64 (O i 4), .int .i64 (O i 5), .int .i64 (O i 6), .int .i64 (O i 7), .int .i64 (O i 8), .int .i64 (O i 9), .int .i64 (O i 10), .int .i64 (O i 11), .slice wa lw cw, .slice ba lb cb, .int .i64 (O i 14), .int .i64 (O i 15), .int .i64 (O i 16), .int .i64 (O i 17), .int .i64 (O i 18), .int .i64 (O i 19), .int .i64 (O i 20), .int .i64 (O i 21), .int .i64 x0, .int .i64 y0, .int .i64 z0, .int .i64 H, .int .i64 V, .int .i64 C] rfl rfl 36 #[.int .i64 0, .int .i64 0, .int .i64 0, .int .i64 0, .int .i64 0, .int .i64 0, .int .i64 0, .int .i64 0, .int .i64 0, .int .i64 0, .int .i64 0, .int .i64 0, .slice none 0 0, .slice none 0 0, .int .i64 0, .int .i64 0, .int .i64 0, .int .i64 0, .int .i64 0, .int .i64 0, .int .i64 0, .int .i64 0, .int .i64 0, .int .i64 0, .int .i64 0, .int .i64 0, .int .i64 0, .int .i64 0] HZ.out (by kernel_rfl) rfl (by simp [Value.oneCell']) ?_; have hZ' := setRow_heap _ (W.heap.size + 1) #[.int .i64 0, .int .i64 0, .int .i64 0, .int .i64 0, .int .i64 0, .int .i64 0, .int .i64 0, .int .i64 0, .int .i64 0, .int .i64 0, .int .i64 0, .int .i64 0, .slice none 0 0, .slice none 0 0, .int .i64 0, .int .i64 0, .int .i64 0, .int .i64 0, .int .i64 0, .int .i64 0, .int .i64 0, .int .i64 0, .int .i64 0, .int .i64 0, .int .i64 0, .int .i64 0, .int .i64 0, .int .i64 0] #[.int .i64 (O i 0), .int .i64 (O i 1), .int .i64 (O i 2), .int .i64 (O i 3), .int .i64 (O i 4), .int .i64 (O i 5), .int .i64 (O i 6), .int .i64 (O i 7), .int .i64 (O i 8), .int .i64 (O i 9), .int .i64 (O i 10), .int .i64 (O i 11), .slice wa lw cw, .slice ba lb cb, .int .i64 (O i 14), .int .i64 (O i 15), .int .i64 (O i 16), .int .i64 (O i 17), .int .i64 (O i 18), .int .i64 (O i 19), .int .i64 (O i 20), .int .i64 (O i 21), .int .i64 x0, .int .i64 y0, .int .i64 z0, .int .i64 H, .int .i64 V, .int .i64 C] 36 (0, 0) HZ.out; have hB' : Hid (Below W.heap.size W (_ : World)) := below_setRow hB1.out (show W.heap.size ≤ W.heap.size + 1 by omega) #[.int .i64 (O i 0), .int .i64 (O i 1), .int .i64 (O i 2), .int .i64 (O i 3), .int .i64 (O i 4), .int .i64 (O i 5), .int .i64 (O i 6), .int .i64 (O i 7), .int .i64 (O i 8), .int .i64 (O i 9), .int .i64 (O i 10), .int .i64 (O i 11), .slice wa lw cw, .slice ba lb cb, .int .i64 (O i 14), .int .i64 (O i 15), .int .i64 (O i 16), .int .i64 (O i 17), .int .i64 (O i 18), .int .i64 (O i 19), .int .i64 (O i 20), .int .i64 (O i 21), .int .i64 x0, .int .i64 y0, .int .i64 z0, .int .i64 H, .int .i64 V, .int .i64 C]; clear hR1; generalize World.setRow _ _ _ = w5 at hZ' hB' ⊢))
    exact bodyPost_ret (results_row_tmp Try.results15 _ _ (W.heap.size + 1) 36 _ _ (.int .i64 E) rfl hZ' Try.underlying36 rfl (by kernel_rfl) rfl) rfl ⟨rfl, hB'.out⟩
  · first
      | (have e0' : (E == 0) = true := by simp [e0]
         have c0' : (ch == 0) = false := by simp; exact fun e => hE ⟨e0, e⟩
         clear e0 hE hE')
      | (have e0' : (E == 0) = false := by simp [e0]
         clear e0 hE hE')
    go_enter Try.func15, Try.ntmps15
    go_wp2_with fail
    refine (HK.out _ s0.below).mono ?_
    rintro e w1 ⟨rfl, hb⟩
    have s1 := (s0.call hb).new (c := #[.int .i64 (O i 0), .int .i64 (O i 1), .int .i64 (O i 2), .int .i64 (O i 3), .int .i64 (O i 4), .int .i64 (O i 5), .int .i64 (O i 6), .int .i64 (O i 7), .int .i64 (O i 8), .int .i64 (O i 9), .int .i64 (O i 10), .int .i64 (O i 11), .slice wa lw cw, .slice ba lb cb, .int .i64 (O i 14), .int .i64 (O i 15), .int .i64 (O i 16), .int .i64 (O i 17), .int .i64 (O i 18), .int .i64 (O i 19), .int .i64 (O i 20), .int .i64 (O i 21), .int .i64 x0, .int .i64 y0, .int .i64 z0, .int .i64 H, .int .i64 V, .int .i64 C]) (t := 36)
    have hR1 := s1.h1
    have HZ : Hid ((w1.alloc (.cells #[.int .i64 (O i 0), .int .i64 (O i 1), .int .i64 (O i 2), .int .i64 (O i 3), .int .i64 (O i 4), .int .i64 (O i 5), .int .i64 (O i 6), .int .i64 (O i 7), .int .i64 (O i 8), .int .i64 (O i 9), .int .i64 (O i 10), .int .i64 (O i 11), .slice wa lw cw, .slice ba lb cb, .int .i64 (O i 14), .int .i64 (O i 15), .int .i64 (O i 16), .int .i64 (O i 17), .int .i64 (O i 18), .int .i64 (O i 19), .int .i64 (O i 20), .int .i64 (O i 21), .int .i64 x0, .int .i64 y0, .int .i64 z0, .int .i64 H, .int .i64 V, .int .i64 C] 36)).heap[W.heap.size + 1]? = some (.cells #[.int .i64 0, .int .i64 0, .int .i64 0, .int .i64 0, .int .i64 0, .int .i64 0, .int .i64 0, .int .i64 0, .int .i64 0, .int .i64 0, .int .i64 0, .int .i64 0, .slice none 0 0, .slice none 0 0, .int .i64 0, .int .i64 0, .int .i64 0, .int .i64 0, .int .i64 0, .int .i64 0, .int .i64 0, .int .i64 0, .int .i64 0, .int .i64 0, .int .i64 0, .int .i64 0, .int .i64 0, .int .i64 0] 36 (0, 0))) := s1.h2
    have hB1 : Hid (Below W.heap.size W (w1.alloc (.cells #[.int .i64 (O i 0), .int .i64 (O i 1), .int .i64 (O i 2), .int .i64 (O i 3), .int .i64 (O i 4), .int .i64 (O i 5), .int .i64 (O i 6), .int .i64 (O i 7), .int .i64 (O i 8), .int .i64 (O i 9), .int .i64 (O i 10), .int .i64 (O i 11), .slice wa lw cw, .slice ba lb cb, .int .i64 (O i 14), .int .i64 (O i 15), .int .i64 (O i 16), .int .i64 (O i 17), .int .i64 (O i 18), .int .i64 (O i 19), .int .i64 (O i 20), .int .i64 (O i 21), .int .i64 x0, .int .i64 y0, .int .i64 z0, .int .i64 H, .int .i64 V, .int .i64 C] 36))) := s1.below
    clear hb s1 s0
    go_wp2_with (first
      | (refine wpList_st_new rfl 36 (.tmp 8) (.tmp 15) rfl w1 _ #[.int .i64 (O i 0), .int .i64 (O i 1), .int .i64 (O i 2), .int .i64 (O i 3), .int .i64 (O i 4), .int .i64 (O i 5), .int .i64 (O i 6), .int .i64 (O i 7), .int .i64 (O i 8), .int .i64 (O i 9), .int .i64 (O i 10), .int .i64 (O i 11), .slice wa lw cw, .slice ba lb cb, .int .i64 (O i 14), .int .i64 (O i 15), .int .i64 (O i 16), .int .i64 (O i 17), .int .i64 (O i 18), .int .i64 (O i 19), .int .i64 (O i 20), .int .i64 (O i 21), .int .i64 x0, .int .i64 y0, .int .i64 z0, .int .i64 H, .int .i64 V, .int .i64 C] rfl rfl (by kernel_rfl) rfl (by simp [Value.oneCell']) ?_)
      | (refine wpList_load_row rfl 36 (.tmp 8) rfl w1.heap.size rfl 36 _ (0, 0) _ hR1 Try.underlying36 rfl (by kernel_rfl) ?_)
      | (refine wpList_store_row rfl 36 (.tmp 6) (.tmp 24) rfl (W.heap.size + 1) #[.int .i64 (O i 0), .int .i64 (O i 1), .int .i64 (O i 2), .int .i64 (O i 3), .int .i64 (O i 4), .int .i64 (O i 5), .int .i64 (O i 6), .int .i64 (O i 7), .int .i64 (O i 8), .int .i64 (O i 9), .int .i64 (O i 10), .int .i64 (O i 11), .slice wa lw cw, .slice ba lb cb, .int .i64 (O i 14), .int .i64 (O i 15), .int .i64 (O i 16), .int .i64 (O i 17), .int .i64 (O i 18), .int .i64 (O i 19), .int .i64 (O i 20), .int .i64 (O i 21), .int .i64 x0, .int .i64 y0, .int .i64 z0, .int .i64 H, .int .i64 V, .int .i64 C] rfl rfl 36 #[.int .i64 0, .int .i64 0, .int .i64 0, .int .i64 0, .int .i64 0, .int .i64 0, .int .i64 0, .int .i64 0, .int .i64 0, .int .i64 0, .int .i64 0, .int .i64 0, .slice none 0 0, .slice none 0 0, .int .i64 0, .int .i64 0, .int .i64 0, .int .i64 0, .int .i64 0, .int .i64 0, .int .i64 0, .int .i64 0, .int .i64 0, .int .i64 0, .int .i64 0, .int .i64 0, .int .i64 0, .int .i64 0] HZ.out (by kernel_rfl) rfl (by simp [Value.oneCell']) ?_; have hZ' := setRow_heap _ (W.heap.size + 1) #[.int .i64 0, .int .i64 0, .int .i64 0, .int .i64 0, .int .i64 0, .int .i64 0, .int .i64 0, .int .i64 0, .int .i64 0, .int .i64 0, .int .i64 0, .int .i64 0, .slice none 0 0, .slice none 0 0, .int .i64 0, .int .i64 0, .int .i64 0, .int .i64 0, .int .i64 0, .int .i64 0, .int .i64 0, .int .i64 0, .int .i64 0, .int .i64 0, .int .i64 0, .int .i64 0, .int .i64 0, .int .i64 0] #[.int .i64 (O i 0), .int .i64 (O i 1), .int .i64 (O i 2), .int .i64 (O i 3), .int .i64 (O i 4), .int .i64 (O i 5), .int .i64 (O i 6), .int .i64 (O i 7), .int .i64 (O i 8), .int .i64 (O i 9), .int .i64 (O i 10), .int .i64 (O i 11), .slice wa lw cw, .slice ba lb cb, .int .i64 (O i 14), .int .i64 (O i 15), .int .i64 (O i 16), .int .i64 (O i 17), .int .i64 (O i 18), .int .i64 (O i 19), .int .i64 (O i 20), .int .i64 (O i 21), .int .i64 x0, .int .i64 y0, .int .i64 z0, .int .i64 H, .int .i64 V, .int .i64 C] 36 (0, 0) HZ.out; have hB' : Hid (Below W.heap.size W (_ : World)) := below_setRow hB1.out (show W.heap.size ≤ W.heap.size + 1 by omega) #[.int .i64 (O i 0), .int .i64 (O i 1), .int .i64 (O i 2), .int .i64 (O i 3), .int .i64 (O i 4), .int .i64 (O i 5), .int .i64 (O i 6), .int .i64 (O i 7), .int .i64 (O i 8), .int .i64 (O i 9), .int .i64 (O i 10), .int .i64 (O i 11), .slice wa lw cw, .slice ba lb cb, .int .i64 (O i 14), .int .i64 (O i 15), .int .i64 (O i 16), .int .i64 (O i 17), .int .i64 (O i 18), .int .i64 (O i 19), .int .i64 (O i 20), .int .i64 (O i 21), .int .i64 x0, .int .i64 y0, .int .i64 z0, .int .i64 H, .int .i64 V, .int .i64 C]; clear hR1; generalize World.setRow _ _ _ = w5 at hZ' hB' ⊢))
    exact bodyPost_ret (results_row_tmp Try.results15 _ _ (W.heap.size + 1) 36 _ _ (.int .i64 E) rfl hZ' Try.underlying36 rfl (by kernel_rfl) rfl) rfl ⟨rfl, hB'.out⟩
set_option maxRecDepth 100000 in
set_option maxHeartbeats 4000000 in
theorem fch_0 {O : Nat → Nat → Int} {i : Nat} {x : Addr} {wa : Option Addr} {lw cw : Nat} {ba : Option Addr} {lb cb : Nat} {x0 y0 z0 H V C : Int} (h w c lo hi ot : Int) (oa : Option Addr) (on oc : Nat) (W : World) (op : Int)
    (hK : ∀ W', Below W.heap.size W W' → Calls Try.prog 7 #[.agg #[.int .i64 h, .int .i64 w, .int .i64 c, .int .i64 lo, .int .i64 hi, .slice oa on oc, .int .i64 ot], .int .i64 op, .int .i64 0] W' fun e w' => e = .returned (.tuple #[.agg #[.int .i64 (O i 0), .int .i64 (O i 1), .int .i64 (O i 2), .int .i64 (O i 3), .int .i64 (O i 4), .int .i64 (O i 5), .int .i64 (O i 6), .int .i64 (O i 7), .int .i64 (O i 8), .int .i64 (O i 9), .int .i64 (O i 10), .int .i64 (O i 11), .slice wa lw cw, .slice ba lb cb, .int .i64 (O i 14), .int .i64 (O i 15), .int .i64 (O i 16), .int .i64 (O i 17), .int .i64 (O i 18), .int .i64 (O i 19), .int .i64 (O i 20), .int .i64 (O i 21), .int .i64 x0, .int .i64 y0, .int .i64 z0, .int .i64 H, .int .i64 V, .int .i64 C], .int .i64 0]) ∧ Below W'.heap.size W' w') :
    Calls Try.prog 15 #[.agg #[.int .i64 h, .int .i64 w, .int .i64 c, .int .i64 lo, .int .i64 hi, .slice oa on oc, .int .i64 ot], .int .i64 op, .int .i64 0] W fun e w' => e = .returned (.tuple #[.agg #[.int .i64 0, .int .i64 0, .int .i64 0, .int .i64 0, .int .i64 0, .int .i64 0, .int .i64 0, .int .i64 0, .int .i64 0, .int .i64 0, .int .i64 0, .int .i64 0, .slice none 0 0, .slice none 0 0, .int .i64 0, .int .i64 0, .int .i64 0, .int .i64 0, .int .i64 0, .int .i64 0, .int .i64 0, .int .i64 0, .int .i64 0, .int .i64 0, .int .i64 0, .int .i64 0, .int .i64 0, .int .i64 0], .int .i64 3]) ∧ Below W.heap.size W w' := by
  have s0 := ((St.start W).new (c := #[.int .i64 h, .int .i64 w, .int .i64 c, .int .i64 lo, .int .i64 hi, .slice oa on oc, .int .i64 ot]) (t := 26)).new (c := #[.int .i64 0, .int .i64 0, .int .i64 0, .int .i64 0, .int .i64 0, .int .i64 0, .int .i64 0, .int .i64 0, .int .i64 0, .int .i64 0, .int .i64 0, .int .i64 0, .slice none 0 0, .slice none 0 0, .int .i64 0, .int .i64 0, .int .i64 0, .int .i64 0, .int .i64 0, .int .i64 0, .int .i64 0, .int .i64 0, .int .i64 0, .int .i64 0, .int .i64 0, .int .i64 0, .int .i64 0, .int .i64 0]) (t := 36)
  simp only [World.size_alloc] at s0
  have HK : Hid (∀ W', _) := hK
  clear hK
  go_enter Try.func15, Try.ntmps15
  go_wp2_with fail
  refine (HK.out _ s0.below).mono ?_
  rintro e w1 ⟨rfl, hb⟩
  have s1 := (s0.call hb).new (c := #[.int .i64 (O i 0), .int .i64 (O i 1), .int .i64 (O i 2), .int .i64 (O i 3), .int .i64 (O i 4), .int .i64 (O i 5), .int .i64 (O i 6), .int .i64 (O i 7), .int .i64 (O i 8), .int .i64 (O i 9), .int .i64 (O i 10), .int .i64 (O i 11), .slice wa lw cw, .slice ba lb cb, .int .i64 (O i 14), .int .i64 (O i 15), .int .i64 (O i 16), .int .i64 (O i 17), .int .i64 (O i 18), .int .i64 (O i 19), .int .i64 (O i 20), .int .i64 (O i 21), .int .i64 x0, .int .i64 y0, .int .i64 z0, .int .i64 H, .int .i64 V, .int .i64 C]) (t := 36)
  have HZ : Hid ((w1.alloc (.cells #[.int .i64 (O i 0), .int .i64 (O i 1), .int .i64 (O i 2), .int .i64 (O i 3), .int .i64 (O i 4), .int .i64 (O i 5), .int .i64 (O i 6), .int .i64 (O i 7), .int .i64 (O i 8), .int .i64 (O i 9), .int .i64 (O i 10), .int .i64 (O i 11), .slice wa lw cw, .slice ba lb cb, .int .i64 (O i 14), .int .i64 (O i 15), .int .i64 (O i 16), .int .i64 (O i 17), .int .i64 (O i 18), .int .i64 (O i 19), .int .i64 (O i 20), .int .i64 (O i 21), .int .i64 x0, .int .i64 y0, .int .i64 z0, .int .i64 H, .int .i64 V, .int .i64 C] 36)).heap[W.heap.size + 1]? = some (.cells #[.int .i64 0, .int .i64 0, .int .i64 0, .int .i64 0, .int .i64 0, .int .i64 0, .int .i64 0, .int .i64 0, .int .i64 0, .int .i64 0, .int .i64 0, .int .i64 0, .slice none 0 0, .slice none 0 0, .int .i64 0, .int .i64 0, .int .i64 0, .int .i64 0, .int .i64 0, .int .i64 0, .int .i64 0, .int .i64 0, .int .i64 0, .int .i64 0, .int .i64 0, .int .i64 0, .int .i64 0, .int .i64 0] 36 (0, 0))) := s1.h2
  have hB1 : Hid (Below W.heap.size W (w1.alloc (.cells #[.int .i64 (O i 0), .int .i64 (O i 1), .int .i64 (O i 2), .int .i64 (O i 3), .int .i64 (O i 4), .int .i64 (O i 5), .int .i64 (O i 6), .int .i64 (O i 7), .int .i64 (O i 8), .int .i64 (O i 9), .int .i64 (O i 10), .int .i64 (O i 11), .slice wa lw cw, .slice ba lb cb, .int .i64 (O i 14), .int .i64 (O i 15), .int .i64 (O i 16), .int .i64 (O i 17), .int .i64 (O i 18), .int .i64 (O i 19), .int .i64 (O i 20), .int .i64 (O i 21), .int .i64 x0, .int .i64 y0, .int .i64 z0, .int .i64 H, .int .i64 V, .int .i64 C] 36))) := s1.below
  clear hb s1 s0
  go_wp2_with (first
    | (refine wpList_st_new rfl 36 (.tmp 8) (.tmp 15) rfl w1 _ #[.int .i64 (O i 0), .int .i64 (O i 1), .int .i64 (O i 2), .int .i64 (O i 3), .int .i64 (O i 4), .int .i64 (O i 5), .int .i64 (O i 6), .int .i64 (O i 7), .int .i64 (O i 8), .int .i64 (O i 9), .int .i64 (O i 10), .int .i64 (O i 11), .slice wa lw cw, .slice ba lb cb, .int .i64 (O i 14), .int .i64 (O i 15), .int .i64 (O i 16), .int .i64 (O i 17), .int .i64 (O i 18), .int .i64 (O i 19), .int .i64 (O i 20), .int .i64 (O i 21), .int .i64 x0, .int .i64 y0, .int .i64 z0, .int .i64 H, .int .i64 V, .int .i64 C] rfl rfl (by kernel_rfl) rfl (by simp [Value.oneCell']) ?_)
    | (refine wpList_store_row rfl 36 (.tmp 6) (.tmp 23) rfl (W.heap.size + 1) #[.int .i64 0, .int .i64 0, .int .i64 0, .int .i64 0, .int .i64 0, .int .i64 0, .int .i64 0, .int .i64 0, .int .i64 0, .int .i64 0, .int .i64 0, .int .i64 0, .slice none 0 0, .slice none 0 0, .int .i64 0, .int .i64 0, .int .i64 0, .int .i64 0, .int .i64 0, .int .i64 0, .int .i64 0, .int .i64 0, .int .i64 0, .int .i64 0, .int .i64 0, .int .i64 0, .int .i64 0, .int .i64 0] rfl rfl 36 #[.int .i64 0, .int .i64 0, .int .i64 0, .int .i64 0, .int .i64 0, .int .i64 0, .int .i64 0, .int .i64 0, .int .i64 0, .int .i64 0, .int .i64 0, .int .i64 0, .slice none 0 0, .slice none 0 0, .int .i64 0, .int .i64 0, .int .i64 0, .int .i64 0, .int .i64 0, .int .i64 0, .int .i64 0, .int .i64 0, .int .i64 0, .int .i64 0, .int .i64 0, .int .i64 0, .int .i64 0, .int .i64 0] HZ.out (by kernel_rfl) rfl (by simp [Value.oneCell']) ?_; have hZ' := setRow_heap _ (W.heap.size + 1) #[.int .i64 0, .int .i64 0, .int .i64 0, .int .i64 0, .int .i64 0, .int .i64 0, .int .i64 0, .int .i64 0, .int .i64 0, .int .i64 0, .int .i64 0, .int .i64 0, .slice none 0 0, .slice none 0 0, .int .i64 0, .int .i64 0, .int .i64 0, .int .i64 0, .int .i64 0, .int .i64 0, .int .i64 0, .int .i64 0, .int .i64 0, .int .i64 0, .int .i64 0, .int .i64 0, .int .i64 0, .int .i64 0] #[.int .i64 0, .int .i64 0, .int .i64 0, .int .i64 0, .int .i64 0, .int .i64 0, .int .i64 0, .int .i64 0, .int .i64 0, .int .i64 0, .int .i64 0, .int .i64 0, .slice none 0 0, .slice none 0 0, .int .i64 0, .int .i64 0, .int .i64 0, .int .i64 0, .int .i64 0, .int .i64 0, .int .i64 0, .int .i64 0, .int .i64 0, .int .i64 0, .int .i64 0, .int .i64 0, .int .i64 0, .int .i64 0] 36 (0, 0) HZ.out; have hB' : Hid (Below W.heap.size W (_ : World)) := below_setRow hB1.out (show W.heap.size ≤ W.heap.size + 1 by omega) #[.int .i64 0, .int .i64 0, .int .i64 0, .int .i64 0, .int .i64 0, .int .i64 0, .int .i64 0, .int .i64 0, .int .i64 0, .int .i64 0, .int .i64 0, .int .i64 0, .slice none 0 0, .slice none 0 0, .int .i64 0, .int .i64 0, .int .i64 0, .int .i64 0, .int .i64 0, .int .i64 0, .int .i64 0, .int .i64 0, .int .i64 0, .int .i64 0, .int .i64 0, .int .i64 0, .int .i64 0, .int .i64 0]; generalize World.setRow _ _ _ = w5 at hZ' hB' ⊢))
  exact bodyPost_ret (results_row_tmp Try.results15 _ _ (W.heap.size + 1) 36 _ _ (.int .i64 3) rfl hZ' Try.underlying36 rfl (by kernel_rfl) rfl) rfl ⟨rfl, hB'.out⟩
end Go.Proofs.Ytnjdnbbemjdabaa

/- What Length, Channels and Positions of package terms return. -/
namespace Go.Proofs.Ytnjdnbbemjdabaa
open Go.ChangeShapes Go.WideShapes Go.ChangeAt Go.RowKit
set_option linter.unusedVariables false
set_option maxRecDepth 100000 in
set_option maxHeartbeats 2000000 in
theorem lenT_bad (h w c lo hi ot : Int) (oa : Option Addr) (on oc : Nat) (O : Nat → Nat → Int) (Z B : Nat → List Int) (W : World) (hL : LRow W oa on oc O Z B) (op E : Int) (hf : fiE O h w c lo hi ot on op = E) (hE : E ≠ 0) :
    Calls Try.prog 8 #[.agg #[.int .i64 h, .int .i64 w, .int .i64 c, .int .i64 lo, .int .i64 hi, .slice oa on oc, .int .i64 ot], .int .i64 op] W fun e w' => e = .returned (.tuple #[.int .i64 0, .int .i64 E]) ∧ Below W.heap.size W w' := by
  have s0 := (St.start W).new (c := #[.int .i64 h, .int .i64 w, .int .i64 c, .int .i64 lo, .int .i64 hi, .slice oa on oc, .int .i64 ot]) (t := 26)
  have hF : Hid (∀ W', Below W.heap.size W W' → _) := fun W' hb => find_bad h w c lo hi ot oa on oc O Z B W' (hL.below hb) op E hf hE
  have hE' : (E == 0) = false := by simp [hE]
  clear hf hL
  go_enter Try.func8, Try.ntmps8
  go_wp2_with fail
  refine (hF.out _ s0.below).mono ?_
  rintro e w1 ⟨rfl, hb⟩
  have s1 := (s0.call hb).new (c := #[.int .i64 0, .int .i64 0, .int .i64 0, .int .i64 0, .int .i64 0, .int .i64 0, .int .i64 0, .int .i64 0, .int .i64 0, .int .i64 0, .int .i64 0, .int .i64 0, .slice none 0 0, .slice none 0 0, .int .i64 0, .int .i64 0, .int .i64 0, .int .i64 0, .int .i64 0, .int .i64 0, .int .i64 0, .int .i64 0, .int .i64 0, .int .i64 0, .int .i64 0, .int .i64 0, .int .i64 0, .int .i64 0]) (t := 66)
  clear hb
  go_wp2_with (refine wpList_st_new rfl 66 (.tmp 6) (.tmp 12) rfl w1 _ #[.int .i64 0, .int .i64 0, .int .i64 0, .int .i64 0, .int .i64 0, .int .i64 0, .int .i64 0, .int .i64 0, .int .i64 0, .int .i64 0, .int .i64 0, .int .i64 0, .slice none 0 0, .slice none 0 0, .int .i64 0, .int .i64 0, .int .i64 0, .int .i64 0, .int .i64 0, .int .i64 0, .int .i64 0, .int .i64 0, .int .i64 0, .int .i64 0, .int .i64 0, .int .i64 0, .int .i64 0, .int .i64 0] rfl rfl (by kernel_rfl) rfl (by simp [Value.oneCell']) ?_)
  go_ret2
  exact ⟨rfl, s1.below⟩
set_option maxRecDepth 100000 in
set_option maxHeartbeats 2000000 in
theorem lenT_ok (h w c lo hi ot : Int) (oa : Option Addr) (on oc : Nat) (O : Nat → Nat → Int) (Z B : Nat → List Int) (W : World) (hL : LRow W oa on oc O Z B) (RL : List (Int × Int × Int)) (Rw : Int) (hR : gtR O h w c lo hi ot on = (0, 0, RL, Rw)) (i : Nat) (x : Addr) (wa : Option Addr) (lw cw : Nat) (ba : Option Addr) (lb cb : Nat) (x0 y0 z0 H V C : Int) (hF : Fnd W oa on O Z B RL i x wa lw cw ba lb cb x0 y0 z0 H V C) :
    Calls Try.prog 8 #[.agg #[.int .i64 h, .int .i64 w, .int .i64 c, .int .i64 lo, .int .i64 hi, .slice oa on oc, .int .i64 ot], .int .i64 ((i : Int) + 1)] W fun e w' => e = .returned (.tuple #[.int .i64 (stR (O i 0) (O i 4) (O i 5) x0 y0 z0), .int .i64 0]) ∧ Below W.heap.size W w' := by
  have s0 := (St.start W).new (c := #[.int .i64 h, .int .i64 w, .int .i64 c, .int .i64 lo, .int .i64 hi, .slice oa on oc, .int .i64 ot]) (t := 26)
  have hSit : Hid (Sit (O i 0) (O i 4) (O i 5) (O i 6) (O i 7) (O i 8) (O i 9) (O i 10) (O i 11) x0 y0 z0 H V C lw lb) := hF.2.2.2.2.2.2.2.2.2.1
  have hK : Hid (∀ W', Below W.heap.size W W' → _) := fun W' hb => find_ok h w c lo hi ot oa on oc O Z B W' (hL.below hb) RL Rw hR i x wa lw cw ba lb cb x0 y0 z0 H V C (hF.below hb)
  clear hF hR hL
  go_enter Try.func8, Try.ntmps8
  go_wp2_with fail
  refine (hK.out _ s0.below).mono ?_
  rintro e w1 ⟨rfl, hb⟩
  have s1 := (s0.call hb).new (c := #[.int .i64 (O i 0), .int .i64 (O i 1), .int .i64 (O i 2), .int .i64 (O i 3), .int .i64 (O i 4), .int .i64 (O i 5), .int .i64 (O i 6), .int .i64 (O i 7), .int .i64 (O i 8), .int .i64 (O i 9), .int .i64 (O i 10), .int .i64 (O i 11), .slice wa lw cw, .slice ba lb cb, .int .i64 (O i 14), .int .i64 (O i 15), .int .i64 (O i 16), .int .i64 (O i 17), .int .i64 (O i 18), .int .i64 (O i 19), .int .i64 (O i 20), .int .i64 (O i 21), .int .i64 x0, .int .i64 y0, .int .i64 z0, .int .i64 H, .int .i64 V, .int .i64 C]) (t := 66)
  clear hb
  go_wp2_with (refine wpList_st_new rfl 66 (.tmp 6) (.tmp 12) rfl w1 _ #[.int .i64 (O i 0), .int .i64 (O i 1), .int .i64 (O i 2), .int .i64 (O i 3), .int .i64 (O i 4), .int .i64 (O i 5), .int .i64 (O i 6), .int .i64 (O i 7), .int .i64 (O i 8), .int .i64 (O i 9), .int .i64 (O i 10), .int .i64 (O i 11), .slice wa lw cw, .slice ba lb cb, .int .i64 (O i 14), .int .i64 (O i 15), .int .i64 (O i 16), .int .i64 (O i 17), .int .i64 (O i 18), .int .i64 (O i 19), .int .i64 (O i 20), .int .i64 (O i 21), .int .i64 x0, .int .i64 y0, .int .i64 z0, .int .i64 H, .int .i64 V, .int .i64 C] rfl rfl (by kernel_rfl) rfl (by simp [Value.oneCell']) ?_)
  refine (tlen_any (O i 0) (O i 1) (O i 2) (O i 3) (O i 4) (O i 5) (O i 6) (O i 7) (O i 8) (O i 9) (O i 10) (O i 11) wa lw cw ba lb cb (O i 14) (O i 15) (O i 16) (O i 17) (O i 18) (O i 19) (O i 20) (O i 21) x0 y0 z0 H V C _ _ (heap_alloc_new w1 _) hSit.out).mono ?_
  rintro e w2 ⟨rfl, hw2⟩
  have hb2 : Hid (Below W.heap.size W w2) := by first | (obtain ⟨n, rfl⟩ := hw2; exact bt s1.below (dbel _ n)) | (subst hw2; exact s1.below)
  clear hw2
  go_wp2
  go_ret2
  exact ⟨rfl, hb2.out⟩
set_option maxRecDepth 100000 in
set_option maxHeartbeats 2000000 in
theorem chaT_bad (h w c lo hi ot : Int) (oa : Option Addr) (on oc : Nat) (O : Nat → Nat → Int) (Z B : Nat → List Int) (W : World) (hL : LRow W oa on oc O Z B) (op E : Int) (hf : fiE O h w c lo hi ot on op = E) (hE : E ≠ 0) :
    Calls Try.prog 9 #[.agg #[.int .i64 h, .int .i64 w, .int .i64 c, .int .i64 lo, .int .i64 hi, .slice oa on oc, .int .i64 ot], .int .i64 op] W fun e w' => e = .returned (.tuple #[.int .i64 0, .int .i64 E]) ∧ Below W.heap.size W w' := by
  have s0 := (St.start W).new (c := #[.int .i64 h, .int .i64 w, .int .i64 c, .int .i64 lo, .int .i64 hi, .slice oa on oc, .int .i64 ot]) (t := 26)
  have hF : Hid (∀ W', Below W.heap.size W W' → _) := fun W' hb => find_bad h w c lo hi ot oa on oc O Z B W' (hL.below hb) op E hf hE
  have hE' : (E == 0) = false := by simp [hE]
  clear hf hL
  go_enter Try.func9, Try.ntmps9
  go_wp2_with fail
  refine (hF.out _ s0.below).mono ?_
  rintro e w1 ⟨rfl, hb⟩
  have s1 := (s0.call hb).new (c := #[.int .i64 0, .int .i64 0, .int .i64 0, .int .i64 0, .int .i64 0, .int .i64 0, .int .i64 0, .int .i64 0, .int .i64 0, .int .i64 0, .int .i64 0, .int .i64 0, .slice none 0 0, .slice none 0 0, .int .i64 0, .int .i64 0, .int .i64 0, .int .i64 0, .int .i64 0, .int .i64 0, .int .i64 0, .int .i64 0, .int .i64 0, .int .i64 0, .int .i64 0, .int .i64 0, .int .i64 0, .int .i64 0]) (t := 66)
  clear hb
  go_wp2_with (refine wpList_st_new rfl 66 (.tmp 6) (.tmp 12) rfl w1 _ #[.int .i64 0, .int .i64 0, .int .i64 0, .int .i64 0, .int .i64 0, .int .i64 0, .int .i64 0, .int .i64 0, .int .i64 0, .int .i64 0, .int .i64 0, .int .i64 0, .slice none 0 0, .slice none 0 0, .int .i64 0, .int .i64 0, .int .i64 0, .int .i64 0, .int .i64 0, .int .i64 0, .int .i64 0, .int .i64 0, .int .i64 0, .int .i64 0, .int .i64 0, .int .i64 0, .int .i64 0, .int .i64 0] rfl rfl (by kernel_rfl) rfl (by simp [Value.oneCell']) ?_)
  go_ret2
  exact ⟨rfl, s1.below⟩
set_option maxRecDepth 100000 in
set_option maxHeartbeats 2000000 in
theorem chaT_ok (h w c lo hi ot : Int) (oa : Option Addr) (on oc : Nat) (O : Nat → Nat → Int) (Z B : Nat → List Int) (W : World) (hL : LRow W oa on oc O Z B) (RL : List (Int × Int × Int)) (Rw : Int) (hR : gtR O h w c lo hi ot on = (0, 0, RL, Rw)) (i : Nat) (x : Addr) (wa : Option Addr) (lw cw : Nat) (ba : Option Addr) (lb cb : Nat) (x0 y0 z0 H V C : Int) (hF : Fnd W oa on O Z B RL i x wa lw cw ba lb cb x0 y0 z0 H V C) :
    Calls Try.prog 9 #[.agg #[.int .i64 h, .int .i64 w, .int .i64 c, .int .i64 lo, .int .i64 hi, .slice oa on oc, .int .i64 ot], .int .i64 ((i : Int) + 1)] W fun e w' => e = .returned (.tuple #[.int .i64 (C), .int .i64 0]) ∧ Below W.heap.size W w' := by
  have s0 := (St.start W).new (c := #[.int .i64 h, .int .i64 w, .int .i64 c, .int .i64 lo, .int .i64 hi, .slice oa on oc, .int .i64 ot]) (t := 26)
  have hSit : Hid (Sit (O i 0) (O i 4) (O i 5) (O i 6) (O i 7) (O i 8) (O i 9) (O i 10) (O i 11) x0 y0 z0 H V C lw lb) := hF.2.2.2.2.2.2.2.2.2.1
  have hK : Hid (∀ W', Below W.heap.size W W' → _) := fun W' hb => find_ok h w c lo hi ot oa on oc O Z B W' (hL.below hb) RL Rw hR i x wa lw cw ba lb cb x0 y0 z0 H V C (hF.below hb)
  clear hF hR hL
  go_enter Try.func9, Try.ntmps9
  go_wp2_with fail
  refine (hK.out _ s0.below).mono ?_
  rintro e w1 ⟨rfl, hb⟩
  have s1 := (s0.call hb).new (c := #[.int .i64 (O i 0), .int .i64 (O i 1), .int .i64 (O i 2), .int .i64 (O i 3), .int .i64 (O i 4), .int .i64 (O i 5), .int .i64 (O i 6), .int .i64 (O i 7), .int .i64 (O i 8), .int .i64 (O i 9), .int .i64 (O i 10), .int .i64 (O i 11), .slice wa lw cw, .slice ba lb cb, .int .i64 (O i 14), .int .i64 (O i 15), .int .i64 (O i 16), .int .i64 (O i 17), .int .i64 (O i 18), .int .i64 (O i 19), .int .i64 (O i 20), .int .i64 (O i 21), .int .i64 x0, .int .i64 y0, .int .i64 z0, .int .i64 H, .int .i64 V, .int .i64 C]) (t := 66)
  clear hb
  go_wp2_with (refine wpList_st_new rfl 66 (.tmp 6) (.tmp 12) rfl w1 _ #[.int .i64 (O i 0), .int .i64 (O i 1), .int .i64 (O i 2), .int .i64 (O i 3), .int .i64 (O i 4), .int .i64 (O i 5), .int .i64 (O i 6), .int .i64 (O i 7), .int .i64 (O i 8), .int .i64 (O i 9), .int .i64 (O i 10), .int .i64 (O i 11), .slice wa lw cw, .slice ba lb cb, .int .i64 (O i 14), .int .i64 (O i 15), .int .i64 (O i 16), .int .i64 (O i 17), .int .i64 (O i 18), .int .i64 (O i 19), .int .i64 (O i 20), .int .i64 (O i 21), .int .i64 x0, .int .i64 y0, .int .i64 z0, .int .i64 H, .int .i64 V, .int .i64 C] rfl rfl (by kernel_rfl) rfl (by simp [Value.oneCell']) ?_)
  refine (tchan_any (O i 0) (O i 1) (O i 2) (O i 3) (O i 4) (O i 5) (O i 6) (O i 7) (O i 8) (O i 9) (O i 10) (O i 11) wa lw cw ba lb cb (O i 14) (O i 15) (O i 16) (O i 17) (O i 18) (O i 19) (O i 20) (O i 21) x0 y0 z0 H V C _ _ (heap_alloc_new w1 _)).mono ?_
  rintro e w2 ⟨rfl, hw2⟩
  have hb2 : Hid (Below W.heap.size W w2) := by first | (obtain ⟨n, rfl⟩ := hw2; exact bt s1.below (dbel _ n)) | (subst hw2; exact s1.below)
  clear hw2
  go_wp2
  go_ret2
  exact ⟨rfl, hb2.out⟩
set_option maxRecDepth 100000 in
set_option maxHeartbeats 2000000 in
theorem posT_bad (h w c lo hi ot : Int) (oa : Option Addr) (on oc : Nat) (O : Nat → Nat → Int) (Z B : Nat → List Int) (W : World) (hL : LRow W oa on oc O Z B) (op E : Int) (hf : fiE O h w c lo hi ot on op = E) (hE : E ≠ 0) :
    Calls Try.prog 10 #[.agg #[.int .i64 h, .int .i64 w, .int .i64 c, .int .i64 lo, .int .i64 hi, .slice oa on oc, .int .i64 ot], .int .i64 op] W fun e w' => e = .returned (.tuple #[.int .i64 0, .int .i64 E]) ∧ Below W.heap.size W w' := by
  have s0 := (St.start W).new (c := #[.int .i64 h, .int .i64 w, .int .i64 c, .int .i64 lo, .int .i64 hi, .slice oa on oc, .int .i64 ot]) (t := 26)
  have hF : Hid (∀ W', Below W.heap.size W W' → _) := fun W' hb => find_bad h w c lo hi ot oa on oc O Z B W' (hL.below hb) op E hf hE
  have hE' : (E == 0) = false := by simp [hE]
  clear hf hL
  go_enter Try.func10, Try.ntmps10
  go_wp2_with fail
  refine (hF.out _ s0.below).mono ?_
  rintro e w1 ⟨rfl, hb⟩
  have s1 := (s0.call hb).new (c := #[.int .i64 0, .int .i64 0, .int .i64 0, .int .i64 0, .int .i64 0, .int .i64 0, .int .i64 0, .int .i64 0, .int .i64 0, .int .i64 0, .int .i64 0, .int .i64 0, .slice none 0 0, .slice none 0 0, .int .i64 0, .int .i64 0, .int .i64 0, .int .i64 0, .int .i64 0, .int .i64 0, .int .i64 0, .int .i64 0, .int .i64 0, .int .i64 0, .int .i64 0, .int .i64 0, .int .i64 0, .int .i64 0]) (t := 66)
  clear hb
  go_wp2_with (refine wpList_st_new rfl 66 (.tmp 6) (.tmp 12) rfl w1 _ #[.int .i64 0, .int .i64 0, .int .i64 0, .int .i64 0, .int .i64 0, .int .i64 0, .int .i64 0, .int .i64 0, .int .i64 0, .int .i64 0, .int .i64 0, .int .i64 0, .slice none 0 0, .slice none 0 0, .int .i64 0, .int .i64 0, .int .i64 0, .int .i64 0, .int .i64 0, .int .i64 0, .int .i64 0, .int .i64 0, .int .i64 0, .int .i64 0, .int .i64 0, .int .i64 0, .int .i64 0, .int .i64 0] rfl rfl (by kernel_rfl) rfl (by simp [Value.oneCell']) ?_)
  go_ret2
  exact ⟨rfl, s1.below⟩
set_option maxRecDepth 100000 in
set_option maxHeartbeats 2000000 in
theorem posT_ok (h w c lo hi ot : Int) (oa : Option Addr) (on oc : Nat) (O : Nat → Nat → Int) (Z B : Nat → List Int) (W : World) (hL : LRow W oa on oc O Z B) (RL : List (Int × Int × Int)) (Rw : Int) (hR : gtR O h w c lo hi ot on = (0, 0, RL, Rw)) (i : Nat) (x : Addr) (wa : Option Addr) (lw cw : Nat) (ba : Option Addr) (lb cb : Nat) (x0 y0 z0 H V C : Int) (hF : Fnd W oa on O Z B RL i x wa lw cw ba lb cb x0 y0 z0 H V C) :
    Calls Try.prog 10 #[.agg #[.int .i64 h, .int .i64 w, .int .i64 c, .int .i64 lo, .int .i64 hi, .slice oa on oc, .int .i64 ot], .int .i64 ((i : Int) + 1)] W fun e w' => e = .returned (.tuple #[.int .i64 (H * V), .int .i64 0]) ∧ Below W.heap.size W w' := by
  have s0 := (St.start W).new (c := #[.int .i64 h, .int .i64 w, .int .i64 c, .int .i64 lo, .int .i64 hi, .slice oa on oc, .int .i64 ot]) (t := 26)
  have hSit : Hid (Sit (O i 0) (O i 4) (O i 5) (O i 6) (O i 7) (O i 8) (O i 9) (O i 10) (O i 11) x0 y0 z0 H V C lw lb) := hF.2.2.2.2.2.2.2.2.2.1
  have hK : Hid (∀ W', Below W.heap.size W W' → _) := fun W' hb => find_ok h w c lo hi ot oa on oc O Z B W' (hL.below hb) RL Rw hR i x wa lw cw ba lb cb x0 y0 z0 H V C (hF.below hb)
  clear hF hR hL
  go_enter Try.func10, Try.ntmps10
  go_wp2_with fail
  refine (hK.out _ s0.below).mono ?_
  rintro e w1 ⟨rfl, hb⟩
  have s1 := (s0.call hb).new (c := #[.int .i64 (O i 0), .int .i64 (O i 1), .int .i64 (O i 2), .int .i64 (O i 3), .int .i64 (O i 4), .int .i64 (O i 5), .int .i64 (O i 6), .int .i64 (O i 7), .int .i64 (O i 8), .int .i64 (O i 9), .int .i64 (O i 10), .int .i64 (O i 11), .slice wa lw cw, .slice ba lb cb, .int .i64 (O i 14), .int .i64 (O i 15), .int .i64 (O i 16), .int .i64 (O i 17), .int .i64 (O i 18), .int .i64 (O i 19), .int .i64 (O i 20), .int .i64 (O i 21), .int .i64 x0, .int .i64 y0, .int .i64 z0, .int .i64 H, .int .i64 V, .int .i64 C]) (t := 66)
  clear hb
  go_wp2_with (refine wpList_st_new rfl 66 (.tmp 6) (.tmp 12) rfl w1 _ #[.int .i64 (O i 0), .int .i64 (O i 1), .int .i64 (O i 2), .int .i64 (O i 3), .int .i64 (O i 4), .int .i64 (O i 5), .int .i64 (O i 6), .int .i64 (O i 7), .int .i64 (O i 8), .int .i64 (O i 9), .int .i64 (O i 10), .int .i64 (O i 11), .slice wa lw cw, .slice ba lb cb, .int .i64 (O i 14), .int .i64 (O i 15), .int .i64 (O i 16), .int .i64 (O i 17), .int .i64 (O i 18), .int .i64 (O i 19), .int .i64 (O i 20), .int .i64 (O i 21), .int .i64 x0, .int .i64 y0, .int .i64 z0, .int .i64 H, .int .i64 V, .int .i64 C] rfl rfl (by kernel_rfl) rfl (by simp [Value.oneCell']) ?_)
  refine (tpos_any (O i 0) (O i 1) (O i 2) (O i 3) (O i 4) (O i 5) (O i 6) (O i 7) (O i 8) (O i 9) (O i 10) (O i 11) wa lw cw ba lb cb (O i 14) (O i 15) (O i 16) (O i 17) (O i 18) (O i 19) (O i 20) (O i 21) x0 y0 z0 H V C _ _ (heap_alloc_new w1 _) hSit.out.2.2.1).mono ?_
  rintro e w2 ⟨rfl, hw2⟩
  have hb2 : Hid (Below W.heap.size W w2) := by first | (obtain ⟨n, rfl⟩ := hw2; exact bt s1.below (dbel _ n)) | (subst hw2; exact s1.below)
  clear hw2
  go_wp2
  go_ret2
  exact ⟨rfl, hb2.out⟩
end Go.Proofs.Ytnjdnbbemjdabaa

/- What terms of package terms returns: the terms of a channel's sum at a position. -/
namespace Go.Proofs.Ytnjdnbbemjdabaa
open Go.ChangeShapes Go.WideShapes Go.ChangeAt Go.RowKit
set_option linter.unusedVariables false
theorem terms_any (k a b m kh kw sh sw tp lf bt rt : Int) (wa : Option Addr) (lw wc : Nat) (ba : Option Addr) (lb bc : Nat) (sm ss um us z p lo hi h w c H V C : Int) (r : Nat) (W : World) (hr : W.heap[r]? = some (.cells #[.int .i64 k, .int .i64 a, .int .i64 b, .int .i64 m, .int .i64 kh, .int .i64 kw, .int .i64 sh, .int .i64 sw, .int .i64 tp, .int .i64 lf, .int .i64 bt, .int .i64 rt, .slice wa lw wc, .slice ba lb bc, .int .i64 sm, .int .i64 ss, .int .i64 um, .int .i64 us, .int .i64 z, .int .i64 p, .int .i64 lo, .int .i64 hi, .int .i64 h, .int .i64 w, .int .i64 c, .int .i64 H, .int .i64 V, .int .i64 C] 66 (0, 0))) (zs : List Int) (hZ : IRow .i16 W wa lw wc zs) (s : Sit k kh kw sh sw tp lf bt rt h w c H V C lw lb) (ch at' : Int) (hch : 1 ≤ ch ∧ ch ≤ C) (hat : 0 ≤ at' ∧ at' < H * V) :
    Calls Try.prog 28 #[.pointer (some ⟨r, 0, none⟩), .int .i64 ch, .int .i64 at'] W fun e w' => (∃ v, e = .returned v ∧ OTm w' W.heap.size v (siL k kh kw sh sw tp lf bt rt h w c ch at' zs)) ∧ Below W.heap.size W w' := by
  obtain ⟨st, hst⟩ : ∃ st : Nat, stR k kh kw h w c = (st : Int) := ⟨(stR k kh kw h w c).toNat, by have := s.2.2.2.2.2.2.2.2.1; omega⟩
  unfold siL
  rw [hst, Int.toNat_natCast]
  by_cases k1 : k = 1
  · subst k1
    exact terms_1 a b m kh kw sh sw tp lf bt rt wa lw wc ba lb bc sm ss um us z p lo hi h w c H V C r W hr zs hZ s ch at' _ _ hch st hst
  · exact terms_w k a b m kh kw sh sw tp lf bt rt wa lw wc ba lb bc sm ss um us z p lo hi h w c H V C r W hr zs hZ s k1 ch at' hch hat st hst
end Go.Proofs.Ytnjdnbbemjdabaa

/- What Of of package terms returns. -/
namespace Go.Proofs.Ytnjdnbbemjdabaa
open Go.ChangeShapes Go.WideShapes Go.ChangeAt Go.RowKit
set_option linter.unusedVariables false
set_option maxRecDepth 100000 in
set_option maxHeartbeats 2000000 in
theorem of_bad (h w c lo hi ot : Int) (oa : Option Addr) (on oc : Nat) (O : Nat → Nat → Int) (Z B : Nat → List Int) (W : World) (hL : LRow W oa on oc O Z B) (op ch at' E : Int) (hf : fiE O h w c lo hi ot on op = E) (hE : E ≠ 0) :
    Calls Try.prog 14 #[.agg #[.int .i64 h, .int .i64 w, .int .i64 c, .int .i64 lo, .int .i64 hi, .slice oa on oc, .int .i64 ot], .int .i64 op, .int .i64 ch, .int .i64 at'] W fun e w' => e = .returned (.tuple #[.slice none 0 0, .int .i64 0, .int .i64 E]) ∧ Below W.heap.size W w' := by
  have s0 := (St.start W).new (c := #[.int .i64 h, .int .i64 w, .int .i64 c, .int .i64 lo, .int .i64 hi, .slice oa on oc, .int .i64 ot]) (t := 26)
  have hF : Hid (∀ W', Below W.heap.size W W' → _) := fun W' hb => find_bad h w c lo hi ot oa on oc O Z B W' (hL.below hb) op E hf hE
  have hE' : (E == 0) = false := by simp [hE]
  clear hf hL
  go_enter Try.func14, Try.ntmps14
  go_wp2_with fail
  refine (hF.out _ s0.below).mono ?_
  rintro e w1 ⟨rfl, hb⟩
  have s1 := (s0.call hb).new (c := #[.int .i64 0, .int .i64 0, .int .i64 0, .int .i64 0, .int .i64 0, .int .i64 0, .int .i64 0, .int .i64 0, .int .i64 0, .int .i64 0, .int .i64 0, .int .i64 0, .slice none 0 0, .slice none 0 0, .int .i64 0, .int .i64 0, .int .i64 0, .int .i64 0, .int .i64 0, .int .i64 0, .int .i64 0, .int .i64 0, .int .i64 0, .int .i64 0, .int .i64 0, .int .i64 0, .int .i64 0, .int .i64 0]) (t := 66)
  have S1 : Hid (Below W.heap.size W _) := s1.below
  clear hb s1
  go_wp2_with (refine wpList_st_new rfl 66 (.tmp 11) (.tmp 17) rfl w1 _ #[.int .i64 0, .int .i64 0, .int .i64 0, .int .i64 0, .int .i64 0, .int .i64 0, .int .i64 0, .int .i64 0, .int .i64 0, .int .i64 0, .int .i64 0, .int .i64 0, .slice none 0 0, .slice none 0 0, .int .i64 0, .int .i64 0, .int .i64 0, .int .i64 0, .int .i64 0, .int .i64 0, .int .i64 0, .int .i64 0, .int .i64 0, .int .i64 0, .int .i64 0, .int .i64 0, .int .i64 0, .int .i64 0] rfl rfl (by kernel_rfl) rfl (by simp [Value.oneCell']) ?_)
  exact bodyPost_ret (v := .tuple #[.slice none 0 0, .int .i64 0, .int .i64 E]) (by simp [results, Try.results14, go_sem, *]) rfl ⟨rfl, S1.out⟩
set_option maxRecDepth 100000 in
set_option maxHeartbeats 4000000 in
theorem of_place (h w c lo hi ot : Int) (oa : Option Addr) (on oc : Nat) (O : Nat → Nat → Int) (Z B : Nat → List Int) (W : World) (hL : LRow W oa on oc O Z B) (ch at' : Int) (RL : List (Int × Int × Int)) (Rw : Int) (hR : gtR O h w c lo hi ot on = (0, 0, RL, Rw)) (i : Nat) (x : Addr) (wa : Option Addr) (lw cw : Nat) (ba : Option Addr) (lb cb : Nat) (x0 y0 z0 H V C : Int) (hF : Fnd W oa on O Z B RL i x wa lw cw ba lb cb x0 y0 z0 H V C) (hp : ¬ ((1 ≤ ch ∧ ch ≤ C) ∧ (0 ≤ at' ∧ at' < H * V))) :
    Calls Try.prog 14 #[.agg #[.int .i64 h, .int .i64 w, .int .i64 c, .int .i64 lo, .int .i64 hi, .slice oa on oc, .int .i64 ot], .int .i64 ((i : Int) + 1), .int .i64 ch, .int .i64 at'] W fun e w' => e = .returned (.tuple #[.slice none 0 0, .int .i64 0, .int .i64 3]) ∧ Below W.heap.size W w' := by
  have s0 := (St.start W).new (c := #[.int .i64 h, .int .i64 w, .int .i64 c, .int .i64 lo, .int .i64 hi, .slice oa on oc, .int .i64 ot]) (t := 26)
  have hSit : Hid (Sit (O i 0) (O i 4) (O i 5) (O i 6) (O i 7) (O i 8) (O i 9) (O i 10) (O i 11) x0 y0 z0 H V C lw lb) := hF.2.2.2.2.2.2.2.2.2.1
  have hK : Hid (∀ W', Below W.heap.size W W' → _) := fun W' hb => find_ok h w c lo hi ot oa on oc O Z B W' (hL.below hb) RL Rw hR i x wa lw cw ba lb cb x0 y0 z0 H V C (hF.below hb)
  have hPo : Hid (∀ (w1 : World), _) := fun w1 => tpos_any (O i 0) (O i 1) (O i 2) (O i 3) (O i 4) (O i 5) (O i 6) (O i 7) (O i 8) (O i 9) (O i 10) (O i 11) wa lw cw ba lb cb (O i 14) (O i 15) (O i 16) (O i 17) (O i 18) (O i 19) (O i 20) (O i 21) x0 y0 z0 H V C _ _ (heap_alloc_new w1 _) hSit.out.2.2.1
  obtain ⟨hv, ehv⟩ : ∃ hv, H * V = hv := ⟨_, rfl⟩
  rw [ehv] at hp hPo
  clear hF hR hL ehv
  by_cases p1 : ¬ ch < 1
  rotate_left
  · have p1' : ch < 1 := by omega
    clear p1 hp
    go_enter Try.func14, Try.ntmps14
    go_wp2_with fail
    refine (hK.out _ s0.below).mono ?_
    rintro e w1 ⟨rfl, hb⟩
    have s1 := (s0.call hb).new (c := #[.int .i64 (O i 0), .int .i64 (O i 1), .int .i64 (O i 2), .int .i64 (O i 3), .int .i64 (O i 4), .int .i64 (O i 5), .int .i64 (O i 6), .int .i64 (O i 7), .int .i64 (O i 8), .int .i64 (O i 9), .int .i64 (O i 10), .int .i64 (O i 11), .slice wa lw cw, .slice ba lb cb, .int .i64 (O i 14), .int .i64 (O i 15), .int .i64 (O i 16), .int .i64 (O i 17), .int .i64 (O i 18), .int .i64 (O i 19), .int .i64 (O i 20), .int .i64 (O i 21), .int .i64 x0, .int .i64 y0, .int .i64 z0, .int .i64 H, .int .i64 V, .int .i64 C]) (t := 66)
    have S1 : Hid (Below W.heap.size W _) := s1.below
    clear hb s1
    go_wp2_with (first
      | (refine wpList_st_new rfl 66 (.tmp 11) (.tmp 17) rfl w1 _ #[.int .i64 (O i 0), .int .i64 (O i 1), .int .i64 (O i 2), .int .i64 (O i 3), .int .i64 (O i 4), .int .i64 (O i 5), .int .i64 (O i 6), .int .i64 (O i 7), .int .i64 (O i 8), .int .i64 (O i 9), .int .i64 (O i 10), .int .i64 (O i 11), .slice wa lw cw, .slice ba lb cb, .int .i64 (O i 14), .int .i64 (O i 15), .int .i64 (O i 16), .int .i64 (O i 17), .int .i64 (O i 18), .int .i64 (O i 19), .int .i64 (O i 20), .int .i64 (O i 21), .int .i64 x0, .int .i64 y0, .int .i64 z0, .int .i64 H, .int .i64 V, .int .i64 C] rfl rfl (by kernel_rfl) rfl (by simp [Value.oneCell']) ?_)
      | (go_at_call 24; refine (tchan_any (O i 0) (O i 1) (O i 2) (O i 3) (O i 4) (O i 5) (O i 6) (O i 7) (O i 8) (O i 9) (O i 10) (O i 11) wa lw cw ba lb cb (O i 14) (O i 15) (O i 16) (O i 17) (O i 18) (O i 19) (O i 20) (O i 21) x0 y0 z0 H V C _ _ (heap_alloc_new w1 _)).mono ?_; rintro e w2 ⟨rfl, hw2⟩; have hw3 := hw2.symm; subst hw3; clear hw2)
      | (go_at_call 25; refine (hPo.out w1).mono ?_; rintro e w2 ⟨rfl, n, hw2⟩; have S1 : Hid (Below W.heap.size W w2) := (by rw [hw2]; exact bt S1.out (dbel _ n)); clear hw2))
    exact bodyPost_ret (v := .tuple #[.slice none 0 0, .int .i64 0, .int .i64 3]) (by simp [results, Try.results14, go_sem, *]) rfl ⟨rfl, S1.out⟩
  by_cases p2 : ¬ C < ch
  rotate_left
  · have p2' : C < ch := by omega
    clear p2 hp
    go_enter Try.func14, Try.ntmps14
    go_wp2_with fail
    refine (hK.out _ s0.below).mono ?_
    rintro e w1 ⟨rfl, hb⟩
    have s1 := (s0.call hb).new (c := #[.int .i64 (O i 0), .int .i64 (O i 1), .int .i64 (O i 2), .int .i64 (O i 3), .int .i64 (O i 4), .int .i64 (O i 5), .int .i64 (O i 6), .int .i64 (O i 7), .int .i64 (O i 8), .int .i64 (O i 9), .int .i64 (O i 10), .int .i64 (O i 11), .slice wa lw cw, .slice ba lb cb, .int .i64 (O i 14), .int .i64 (O i 15), .int .i64 (O i 16), .int .i64 (O i 17), .int .i64 (O i 18), .int .i64 (O i 19), .int .i64 (O i 20), .int .i64 (O i 21), .int .i64 x0, .int .i64 y0, .int .i64 z0, .int .i64 H, .int .i64 V, .int .i64 C]) (t := 66)
    have S1 : Hid (Below W.heap.size W _) := s1.below
    clear hb s1
    go_wp2_with (first
      | (refine wpList_st_new rfl 66 (.tmp 11) (.tmp 17) rfl w1 _ #[.int .i64 (O i 0), .int .i64 (O i 1), .int .i64 (O i 2), .int .i64 (O i 3), .int .i64 (O i 4), .int .i64 (O i 5), .int .i64 (O i 6), .int .i64 (O i 7), .int .i64 (O i 8), .int .i64 (O i 9), .int .i64 (O i 10), .int .i64 (O i 11), .slice wa lw cw, .slice ba lb cb, .int .i64 (O i 14), .int .i64 (O i 15), .int .i64 (O i 16), .int .i64 (O i 17), .int .i64 (O i 18), .int .i64 (O i 19), .int .i64 (O i 20), .int .i64 (O i 21), .int .i64 x0, .int .i64 y0, .int .i64 z0, .int .i64 H, .int .i64 V, .int .i64 C] rfl rfl (by kernel_rfl) rfl (by simp [Value.oneCell']) ?_)
      | (go_at_call 24; refine (tchan_any (O i 0) (O i 1) (O i 2) (O i 3) (O i 4) (O i 5) (O i 6) (O i 7) (O i 8) (O i 9) (O i 10) (O i 11) wa lw cw ba lb cb (O i 14) (O i 15) (O i 16) (O i 17) (O i 18) (O i 19) (O i 20) (O i 21) x0 y0 z0 H V C _ _ (heap_alloc_new w1 _)).mono ?_; rintro e w2 ⟨rfl, hw2⟩; have hw3 := hw2.symm; subst hw3; clear hw2)
      | (go_at_call 25; refine (hPo.out w1).mono ?_; rintro e w2 ⟨rfl, n, hw2⟩; have S1 : Hid (Below W.heap.size W w2) := (by rw [hw2]; exact bt S1.out (dbel _ n)); clear hw2))
    exact bodyPost_ret (v := .tuple #[.slice none 0 0, .int .i64 0, .int .i64 3]) (by simp [results, Try.results14, go_sem, *]) rfl ⟨rfl, S1.out⟩
  by_cases p3 : ¬ at' < 0
  rotate_left
  · have p3' : at' < 0 := by omega
    clear p3 hp
    go_enter Try.func14, Try.ntmps14
    go_wp2_with fail
    refine (hK.out _ s0.below).mono ?_
    rintro e w1 ⟨rfl, hb⟩
    have s1 := (s0.call hb).new (c := #[.int .i64 (O i 0), .int .i64 (O i 1), .int .i64 (O i 2), .int .i64 (O i 3), .int .i64 (O i 4), .int .i64 (O i 5), .int .i64 (O i 6), .int .i64 (O i 7), .int .i64 (O i 8), .int .i64 (O i 9), .int .i64 (O i 10), .int .i64 (O i 11), .slice wa lw cw, .slice ba lb cb, .int .i64 (O i 14), .int .i64 (O i 15), .int .i64 (O i 16), .int .i64 (O i 17), .int .i64 (O i 18), .int .i64 (O i 19), .int .i64 (O i 20), .int .i64 (O i 21), .int .i64 x0, .int .i64 y0, .int .i64 z0, .int .i64 H, .int .i64 V, .int .i64 C]) (t := 66)
    have S1 : Hid (Below W.heap.size W _) := s1.below
    clear hb s1
    go_wp2_with (first
      | (refine wpList_st_new rfl 66 (.tmp 11) (.tmp 17) rfl w1 _ #[.int .i64 (O i 0), .int .i64 (O i 1), .int .i64 (O i 2), .int .i64 (O i 3), .int .i64 (O i 4), .int .i64 (O i 5), .int .i64 (O i 6), .int .i64 (O i 7), .int .i64 (O i 8), .int .i64 (O i 9), .int .i64 (O i 10), .int .i64 (O i 11), .slice wa lw cw, .slice ba lb cb, .int .i64 (O i 14), .int .i64 (O i 15), .int .i64 (O i 16), .int .i64 (O i 17), .int .i64 (O i 18), .int .i64 (O i 19), .int .i64 (O i 20), .int .i64 (O i 21), .int .i64 x0, .int .i64 y0, .int .i64 z0, .int .i64 H, .int .i64 V, .int .i64 C] rfl rfl (by kernel_rfl) rfl (by simp [Value.oneCell']) ?_)
      | (go_at_call 24; refine (tchan_any (O i 0) (O i 1) (O i 2) (O i 3) (O i 4) (O i 5) (O i 6) (O i 7) (O i 8) (O i 9) (O i 10) (O i 11) wa lw cw ba lb cb (O i 14) (O i 15) (O i 16) (O i 17) (O i 18) (O i 19) (O i 20) (O i 21) x0 y0 z0 H V C _ _ (heap_alloc_new w1 _)).mono ?_; rintro e w2 ⟨rfl, hw2⟩; have hw3 := hw2.symm; subst hw3; clear hw2)
      | (go_at_call 25; refine (hPo.out w1).mono ?_; rintro e w2 ⟨rfl, n, hw2⟩; have S1 : Hid (Below W.heap.size W w2) := (by rw [hw2]; exact bt S1.out (dbel _ n)); clear hw2))
    exact bodyPost_ret (v := .tuple #[.slice none 0 0, .int .i64 0, .int .i64 3]) (by simp [results, Try.results14, go_sem, *]) rfl ⟨rfl, S1.out⟩
  by_cases p4 : ¬ hv ≤ at'
  rotate_left
  · have p4' : hv ≤ at' := by omega
    clear p4 hp
    go_enter Try.func14, Try.ntmps14
    go_wp2_with fail
    refine (hK.out _ s0.below).mono ?_
    rintro e w1 ⟨rfl, hb⟩
    have s1 := (s0.call hb).new (c := #[.int .i64 (O i 0), .int .i64 (O i 1), .int .i64 (O i 2), .int .i64 (O i 3), .int .i64 (O i 4), .int .i64 (O i 5), .int .i64 (O i 6), .int .i64 (O i 7), .int .i64 (O i 8), .int .i64 (O i 9), .int .i64 (O i 10), .int .i64 (O i 11), .slice wa lw cw, .slice ba lb cb, .int .i64 (O i 14), .int .i64 (O i 15), .int .i64 (O i 16), .int .i64 (O i 17), .int .i64 (O i 18), .int .i64 (O i 19), .int .i64 (O i 20), .int .i64 (O i 21), .int .i64 x0, .int .i64 y0, .int .i64 z0, .int .i64 H, .int .i64 V, .int .i64 C]) (t := 66)
    have S1 : Hid (Below W.heap.size W _) := s1.below
    clear hb s1
    go_wp2_with (first
      | (refine wpList_st_new rfl 66 (.tmp 11) (.tmp 17) rfl w1 _ #[.int .i64 (O i 0), .int .i64 (O i 1), .int .i64 (O i 2), .int .i64 (O i 3), .int .i64 (O i 4), .int .i64 (O i 5), .int .i64 (O i 6), .int .i64 (O i 7), .int .i64 (O i 8), .int .i64 (O i 9), .int .i64 (O i 10), .int .i64 (O i 11), .slice wa lw cw, .slice ba lb cb, .int .i64 (O i 14), .int .i64 (O i 15), .int .i64 (O i 16), .int .i64 (O i 17), .int .i64 (O i 18), .int .i64 (O i 19), .int .i64 (O i 20), .int .i64 (O i 21), .int .i64 x0, .int .i64 y0, .int .i64 z0, .int .i64 H, .int .i64 V, .int .i64 C] rfl rfl (by kernel_rfl) rfl (by simp [Value.oneCell']) ?_)
      | (go_at_call 24; refine (tchan_any (O i 0) (O i 1) (O i 2) (O i 3) (O i 4) (O i 5) (O i 6) (O i 7) (O i 8) (O i 9) (O i 10) (O i 11) wa lw cw ba lb cb (O i 14) (O i 15) (O i 16) (O i 17) (O i 18) (O i 19) (O i 20) (O i 21) x0 y0 z0 H V C _ _ (heap_alloc_new w1 _)).mono ?_; rintro e w2 ⟨rfl, hw2⟩; have hw3 := hw2.symm; subst hw3; clear hw2)
      | (go_at_call 25; refine (hPo.out w1).mono ?_; rintro e w2 ⟨rfl, n, hw2⟩; have S1 : Hid (Below W.heap.size W w2) := (by rw [hw2]; exact bt S1.out (dbel _ n)); clear hw2))
    exact bodyPost_ret (v := .tuple #[.slice none 0 0, .int .i64 0, .int .i64 3]) (by simp [results, Try.results14, go_sem, *]) rfl ⟨rfl, S1.out⟩
  exact absurd ⟨by omega, by omega⟩ hp
set_option maxRecDepth 100000 in
set_option maxHeartbeats 4000000 in
theorem of_ok (h w c lo hi ot : Int) (oa : Option Addr) (on oc : Nat) (O : Nat → Nat → Int) (Z B : Nat → List Int) (W : World) (hL : LRow W oa on oc O Z B) (ch at' : Int) (RL : List (Int × Int × Int)) (Rw : Int) (hR : gtR O h w c lo hi ot on = (0, 0, RL, Rw)) (i : Nat) (x : Addr) (wa : Option Addr) (lw cw : Nat) (ba : Option Addr) (lb cb : Nat) (x0 y0 z0 H V C : Int) (hF : Fnd W oa on O Z B RL i x wa lw cw ba lb cb x0 y0 z0 H V C) (hch : 1 ≤ ch ∧ ch ≤ C) (hat : 0 ≤ at' ∧ at' < H * V) :
    Calls Try.prog 14 #[.agg #[.int .i64 h, .int .i64 w, .int .i64 c, .int .i64 lo, .int .i64 hi, .slice oa on oc, .int .i64 ot], .int .i64 ((i : Int) + 1), .int .i64 ch, .int .i64 at'] W fun e w' => (∃ v, e = .returned (.tuple #[v, .int .i64 (biA (O i 0) ch (B i)), .int .i64 0]) ∧ OTm w' W.heap.size v (siL (O i 0) (O i 4) (O i 5) (O i 6) (O i 7) (O i 8) (O i 9) (O i 10) (O i 11) x0 y0 z0 ch at' (Z i))) ∧ Below W.heap.size W w' := by
  have s0 := (St.start W).new (c := #[.int .i64 h, .int .i64 w, .int .i64 c, .int .i64 lo, .int .i64 hi, .slice oa on oc, .int .i64 ot]) (t := 26)
  have hSit : Hid (Sit (O i 0) (O i 4) (O i 5) (O i 6) (O i 7) (O i 8) (O i 9) (O i 10) (O i 11) x0 y0 z0 H V C lw lb) := hF.2.2.2.2.2.2.2.2.2.1
  have hrZ : Hid (IRow .i16 W wa lw cw (Z i)) := hF.2.2.2.2.2.1
  have hrB : Hid (IRow .i32 W ba lb cb (B i)) := hF.2.2.2.2.2.2.1
  have hK : Hid (∀ W', Below W.heap.size W W' → _) := fun W' hb => find_ok h w c lo hi ot oa on oc O Z B W' (hL.below hb) RL Rw hR i x wa lw cw ba lb cb x0 y0 z0 H V C (hF.below hb)
  have hPo : Hid (∀ (w1 : World), _) := fun w1 => tpos_any (O i 0) (O i 1) (O i 2) (O i 3) (O i 4) (O i 5) (O i 6) (O i 7) (O i 8) (O i 9) (O i 10) (O i 11) wa lw cw ba lb cb (O i 14) (O i 15) (O i 16) (O i 17) (O i 18) (O i 19) (O i 20) (O i 21) x0 y0 z0 H V C _ _ (heap_alloc_new w1 _) hSit.out.2.2.1
  have hTe : Hid (∀ (w' : World) (r : Nat), w'.heap[r]? = some (.cells #[.int .i64 (O i 0), .int .i64 (O i 1), .int .i64 (O i 2), .int .i64 (O i 3), .int .i64 (O i 4), .int .i64 (O i 5), .int .i64 (O i 6), .int .i64 (O i 7), .int .i64 (O i 8), .int .i64 (O i 9), .int .i64 (O i 10), .int .i64 (O i 11), .slice wa lw cw, .slice ba lb cb, .int .i64 (O i 14), .int .i64 (O i 15), .int .i64 (O i 16), .int .i64 (O i 17), .int .i64 (O i 18), .int .i64 (O i 19), .int .i64 (O i 20), .int .i64 (O i 21), .int .i64 x0, .int .i64 y0, .int .i64 z0, .int .i64 H, .int .i64 V, .int .i64 C] 66 (0, 0)) → Below W.heap.size W w' → _) := fun w' r hr hb => terms_any (O i 0) (O i 1) (O i 2) (O i 3) (O i 4) (O i 5) (O i 6) (O i 7) (O i 8) (O i 9) (O i 10) (O i 11) wa lw cw ba lb cb (O i 14) (O i 15) (O i 16) (O i 17) (O i 18) (O i 19) (O i 20) (O i 21) x0 y0 z0 H V C r w' hr (Z i) (hrZ.out.below hb) hSit.out ch at' hch hat
  have hBi : Hid (∀ (w' : World) (r : Nat), w'.heap[r]? = some (.cells #[.int .i64 (O i 0), .int .i64 (O i 1), .int .i64 (O i 2), .int .i64 (O i 3), .int .i64 (O i 4), .int .i64 (O i 5), .int .i64 (O i 6), .int .i64 (O i 7), .int .i64 (O i 8), .int .i64 (O i 9), .int .i64 (O i 10), .int .i64 (O i 11), .slice wa lw cw, .slice ba lb cb, .int .i64 (O i 14), .int .i64 (O i 15), .int .i64 (O i 16), .int .i64 (O i 17), .int .i64 (O i 18), .int .i64 (O i 19), .int .i64 (O i 20), .int .i64 (O i 21), .int .i64 x0, .int .i64 y0, .int .i64 z0, .int .i64 H, .int .i64 V, .int .i64 C] 66 (0, 0)) → Below W.heap.size W w' → _) := fun w' r hr hb => tbias_any (O i 0) (O i 1) (O i 2) (O i 3) (O i 4) (O i 5) (O i 6) (O i 7) (O i 8) (O i 9) (O i 10) (O i 11) wa lw cw ba lb cb (O i 14) (O i 15) (O i 16) (O i 17) (O i 18) (O i 19) (O i 20) (O i 21) x0 y0 z0 H V C r w' hr (B i) (hrB.out.below hb) hSit.out ch hch
  obtain ⟨hv, ehv⟩ : ∃ hv, H * V = hv := ⟨_, rfl⟩
  rw [ehv] at hat hPo
  obtain ⟨TL, hTL⟩ : ∃ TL, siL (O i 0) (O i 4) (O i 5) (O i 6) (O i 7) (O i 8) (O i 9) (O i 10) (O i 11) x0 y0 z0 ch at' (Z i) = TL := ⟨_, rfl⟩
  obtain ⟨bi, hbi⟩ : ∃ bi, biA (O i 0) ch (B i) = bi := ⟨_, rfl⟩
  rw [hTL] at hTe ⊢
  rw [hbi] at hBi ⊢
  clear hF hR hL ehv hTL hbi hrZ hrB
  go_enter Try.func14, Try.ntmps14
  go_wp2_with fail
  refine (hK.out _ s0.below).mono ?_
  rintro e w1 ⟨rfl, hb⟩
  have s1 := (s0.call hb).new (c := #[.int .i64 (O i 0), .int .i64 (O i 1), .int .i64 (O i 2), .int .i64 (O i 3), .int .i64 (O i 4), .int .i64 (O i 5), .int .i64 (O i 6), .int .i64 (O i 7), .int .i64 (O i 8), .int .i64 (O i 9), .int .i64 (O i 10), .int .i64 (O i 11), .slice wa lw cw, .slice ba lb cb, .int .i64 (O i 14), .int .i64 (O i 15), .int .i64 (O i 16), .int .i64 (O i 17), .int .i64 (O i 18), .int .i64 (O i 19), .int .i64 (O i 20), .int .i64 (O i 21), .int .i64 x0, .int .i64 y0, .int .i64 z0, .int .i64 H, .int .i64 V, .int .i64 C]) (t := 66)
  have S1 : Hid (St W _ _) := s1
  clear hb s1
  go_wp2_with (first
    | (refine wpList_st_new rfl 66 (.tmp 11) (.tmp 17) rfl w1 _ #[.int .i64 (O i 0), .int .i64 (O i 1), .int .i64 (O i 2), .int .i64 (O i 3), .int .i64 (O i 4), .int .i64 (O i 5), .int .i64 (O i 6), .int .i64 (O i 7), .int .i64 (O i 8), .int .i64 (O i 9), .int .i64 (O i 10), .int .i64 (O i 11), .slice wa lw cw, .slice ba lb cb, .int .i64 (O i 14), .int .i64 (O i 15), .int .i64 (O i 16), .int .i64 (O i 17), .int .i64 (O i 18), .int .i64 (O i 19), .int .i64 (O i 20), .int .i64 (O i 21), .int .i64 x0, .int .i64 y0, .int .i64 z0, .int .i64 H, .int .i64 V, .int .i64 C] rfl rfl (by kernel_rfl) rfl (by simp [Value.oneCell']) ?_)
    | (go_at_call 24; refine (tchan_any (O i 0) (O i 1) (O i 2) (O i 3) (O i 4) (O i 5) (O i 6) (O i 7) (O i 8) (O i 9) (O i 10) (O i 11) wa lw cw ba lb cb (O i 14) (O i 15) (O i 16) (O i 17) (O i 18) (O i 19) (O i 20) (O i 21) x0 y0 z0 H V C _ _ (heap_alloc_new w1 _)).mono ?_; rintro e w2 ⟨rfl, hw2⟩; have hw3 := hw2.symm; subst hw3; clear hw2)
    | (go_at_call 25; refine (hPo.out w1).mono ?_; rintro e w2 ⟨rfl, n, hw2⟩; have S2 : Hid (St W w2 _) := (by rw [hw2]; exact S1.out.call (dbel _ n)); clear hw2 S1))
  refine (hTe.out _ _ S2.out.h1 S2.out.below).mono ?_
  rintro e w3 ⟨⟨v, rfl, hO⟩, hb3⟩
  have S3 : Hid (St W w3 _) := S2.out.call hb3
  have hz2 := S2.out.below.size
  have HO : Hid (OTm w3 W.heap.size v TL) := hO.base hz2
  obtain ⟨va, vc, rfl⟩ := hO.slice
  clear hO hb3 S2
  go_wp2_with fail
  refine (hBi.out _ _ S3.out.h1 S3.out.below).mono ?_
  rintro e w4 ⟨rfl, hw4⟩
  have hw5 := hw4.symm
  subst hw5
  clear hw4
  go_wp2
  exact bodyPost_ret (v := .tuple #[.slice va TL.length vc, .int .i64 bi, .int .i64 0]) (by simp [results, Try.results14, go_sem, *]) rfl ⟨⟨_, rfl, HO.out⟩, S3.out.below⟩
end Go.Proofs.Ytnjdnbbemjdabaa

/- plain and fixed of law10. -/
namespace Go.Proofs.Ytnjdnbbemjdabaa
open Go.ChangeShapes Go.WideShapes Go.ChangeAt Go.RowKit
set_option linter.unusedVariables false
def plZ (_ : Nat) : List Int := [3, -2]
def plB (_ : Nat) : List Int := [1]
theorem irow_blk {k : IntKind} {w : World} {b : Nat} {T : TypeId} (zs : List Int) (h : w.heap[b]? = some (.cells (zs.map (Value.int k)).toArray T (0, 0))) (hw : ∀ z ∈ zs, (Lit.int k z).wf = true) (hm : zs.length ≤ 1000) : IRow k w (some ⟨b, 0, none⟩) zs.length zs.length zs := by
  refine ⟨rfl, Nat.le_refl _, by unfold maxLen; omega, hw, fun h => (by cases h), fun x hx i hi => ?_⟩
  cases hx
  rw [Addr.add_lit, Nat.zero_add, (cells_at h).1]
  simp [List.getD, hi]
theorem pl_lrow {w : World} {g p q : Nat} (h : w.heap[g]? = some (.cells #[.int .i64 1, .int .i64 0, .int .i64 0, .int .i64 1, .int .i64 0, .int .i64 0, .int .i64 0, .int .i64 0, .int .i64 0, .int .i64 0, .int .i64 0, .int .i64 0, .slice (some ⟨p, 0, none⟩) 2 2, .slice (some ⟨q, 0, none⟩) 1 1, .int .i64 1, .int .i64 0, .int .i64 0, .int .i64 0, .int .i64 0, .int .i64 0, .int .i64 (-128), .int .i64 127] 34 (0, 0))) (hp : w.heap[p]? = some (.cells #[.int .i16 3, .int .i16 (-2)] 57 (0, 0))) (hq : w.heap[q]? = some (.cells #[.int .i32 1] 21 (0, 0))) : LRow w (some ⟨g, 0, none⟩) 1 1 (plO 0) plZ plB := by
  refine ⟨Nat.le_refl _, by unfold maxLen; omega, fun h => (by cases h), fun x hx i hi => ?_⟩
  cases hx
  obtain rfl : i = 0 := by omega
  refine ⟨some ⟨p, 0, none⟩, 2, 2, some ⟨q, 0, none⟩, 1, 1, rfl, rfl, fun j v hj => ?_, irow_blk [3, -2] hp (fun z hz => ?_) (by simp), irow_blk [1] hq (fun z hz => ?_) (by simp), by omega, by omega⟩
  · rw [Nat.zero_mul, Addr.add_lit, Addr.add_lit, (cells_at h).1, ← hj]
    simp [opl, plO]
  · simp only [List.mem_cons, List.not_mem_nil, or_false] at hz
    rcases hz with rfl | rfl <;> rfl
  · simp only [List.mem_cons, List.not_mem_nil, or_false] at hz
    subst hz; rfl
theorem plain10_any (W : World) :
    Calls Try.prog 26 #[] W fun e w' => ∃ g : Nat, e = .returned (.agg #[.int .i64 1, .int .i64 1, .int .i64 2, .int .i64 (-128), .int .i64 127, .slice (some ⟨g, 0, none⟩) 1 1, .int .i64 1]) ∧ LRow w' (some ⟨g, 0, none⟩) 1 1 (plO 0) plZ plB ∧ Below W.heap.size W w' := by
  go_enter Try.func26, Try.ntmps26
  go_wp2
  have s1 := (((St.start W).new (c := #[.int .i64 1, .int .i64 1, .int .i64 2, .int .i64 (-128), .int .i64 127, .slice (some ⟨W.heap.size + 1 + 1 + 1, 0, none⟩) 1 1, .int .i64 1]) (t := 26)).new (c := #[.int .i16 3, .int .i16 (-2)]) (t := 57)).new (c := #[.int .i32 1]) (t := 21)
  simp only [World.size_alloc] at s1
  have s2 := s1.new (c := #[.int .i64 1, .int .i64 0, .int .i64 0, .int .i64 1, .int .i64 0, .int .i64 0, .int .i64 0, .int .i64 0, .int .i64 0, .int .i64 0, .int .i64 0, .int .i64 0, .slice (some ⟨W.heap.size + 1, 0, none⟩) 2 2, .slice (some ⟨W.heap.size + 1 + 1, 0, none⟩) 1 1, .int .i64 1, .int .i64 0, .int .i64 0, .int .i64 0, .int .i64 0, .int .i64 0, .int .i64 (-128), .int .i64 127]) (t := 34)
  simp only [World.size_alloc] at s2
  exact bodyPost_ret (v := .agg #[.int .i64 1, .int .i64 1, .int .i64 2, .int .i64 (-128), .int .i64 127, .slice (some ⟨W.heap.size + 1 + 1 + 1, 0, none⟩) 1 1, .int .i64 1]) (by simp [results, Try.results26, go_sem]) rfl ⟨W.heap.size + 1 + 1 + 1, rfl, pl_lrow (p := W.heap.size + 1) (q := W.heap.size + 1 + 1) s2.h1 s2.h3 s2.h2, s2.below⟩
theorem pl_found {W : World} {g : Nat} (hL : LRow W (some ⟨g, 0, none⟩) 1 1 (plO 0) plZ plB) : ∃ wa lw cw ba lb cb, Fnd W (some ⟨g, 0, none⟩) 1 (plO 0) plZ plB [(1, 1, 2), (1, 1, 1)] 0 ⟨g, 0, none⟩ wa lw cw ba lb cb 1 1 2 1 1 1 := by
  obtain ⟨RL, Rw, hR, i, x, wa, lw, cw, ba, lb, cb, x0, y0, z0, H, V, C, hop, hF⟩ := found 1 1 2 (-128) 127 1 (some ⟨g, 0, none⟩) 1 1 (plO 0) plZ plB W hL 1 (fiE_0 (i := 0) (by rw [pl_0]) (by omega) (by decide))
  obtain rfl : i = 0 := by omega
  rw [pl_0] at hR
  simp only [Prod.mk.injEq, true_and] at hR
  obtain ⟨rfl, -⟩ := hR
  have h8 := hF.2.2.2.2.2.2.2.1
  have h9 := hF.2.2.2.2.2.2.2.2.1
  have h2 := hF.2.1
  simp only [plO, List.getD, List.getElem?_cons_zero, List.getElem?_cons_succ, Option.getD_some, Int.toNat_zero, Prod.mk.injEq, Nat.zero_add] at h8 h9
  obtain ⟨rfl, rfl, rfl⟩ := h8
  obtain ⟨rfl, rfl, rfl⟩ := h9
  simp only [Option.some.injEq] at h2
  subst h2
  exact ⟨wa, lw, cw, ba, lb, cb, hF⟩
theorem pl_terms : siL (plO 0 0 0) (plO 0 0 4) (plO 0 0 5) (plO 0 0 6) (plO 0 0 7) (plO 0 0 8) (plO 0 0 9) (plO 0 0 10) (plO 0 0 11) 1 1 2 1 0 (plZ 0) = [(3, 0), (-2, 1)] := by decide
set_option maxHeartbeats 4000000 in
set_option maxRecDepth 100000 in
theorem fixed10_any (W : World) : Calls Try.prog 11 #[] W fun e w' => e = .returned (.bool true) ∧ Below W.heap.size W w' := by
  go_enter Try.func11, Try.ntmps11
  go_wp2_with fail
  refine (plain10_any _).mono ?_
  rintro e w1 ⟨g, rfl, hL, b1⟩
  obtain ⟨wa, lw, cw, ba, lb, cb, hF⟩ := pl_found hL
  go_wp2_with fail
  refine (of_ok 1 1 2 (-128) 127 1 (some ⟨g, 0, none⟩) 1 1 (plO 0) plZ plB w1 hL 1 0 _ _ pl_0 0 ⟨g, 0, none⟩ wa lw cw ba lb cb 1 1 2 1 1 1 hF (by omega) (by omega)).mono ?_
  rintro e w2 ⟨⟨v, rfl, hO⟩, b2⟩
  rw [pl_terms] at hO
  rw [show biA (plO 0 0 0) 1 (plB 0) = 1 from by decide]
  have D2 : Hid (Below W.heap.size W w2) := bt b1 b2
  have T2 : Hid (TV w2 v [(3, 0), (-2, 1)]) := hO.tv
  obtain ⟨va, vc, hve⟩ := hO.slice
  subst hve
  clear hO b1 b2 hF hL
  go_wp2_with fail
  refine (plain10_any _).mono ?_
  rintro e w3 ⟨g3, rfl, hL, b3⟩
  obtain ⟨wa, lw, cw, ba, lb, cb, hF⟩ := pl_found hL
  go_wp2_with fail
  refine (lenT_ok 1 1 2 (-128) 127 1 (some ⟨g3, 0, none⟩) 1 1 (plO 0) plZ plB w3 hL _ _ pl_0 0 ⟨g3, 0, none⟩ wa lw cw ba lb cb 1 1 2 1 1 1 hF).mono ?_
  rintro e w4 ⟨rfl, b4⟩
  rw [show stR (plO 0 0 0) (plO 0 0 4) (plO 0 0 5) 1 1 2 = 2 from by decide]
  have D4 : Hid (Below W.heap.size W w4) := bt D2.out (bt b3 b4)
  have T4 : Hid (TV w4 _ [(3, 0), (-2, 1)]) := T2.out.below (bt b3 b4)
  clear b3 b4 hF hL D2 T2
  go_wp2_with fail
  refine (plain10_any _).mono ?_
  rintro e w5 ⟨g5, rfl, hL, b5⟩
  obtain ⟨wa, lw, cw, ba, lb, cb, hF⟩ := pl_found hL
  go_wp2_with fail
  refine (of_place 1 1 2 (-128) 127 1 (some ⟨g5, 0, none⟩) 1 1 (plO 0) plZ plB w5 hL 2 0 _ _ pl_0 0 ⟨g5, 0, none⟩ wa lw cw ba lb cb 1 1 2 1 1 1 hF (by omega)).mono ?_
  rintro e w6 ⟨rfl, b6⟩
  have D6 : Hid (Below W.heap.size W w6) := bt D4.out (bt b5 b6)
  have T6 : Hid (TV (w6.alloc (.cells #[.int .i64 3, .int .i64 0, .int .i64 (-2), .int .i64 1] 56)) _ [(3, 0), (-2, 1)]) := T4.out.below (bt (bt b5 b6) (bal w6 _))
  have L6 : Hid (TV (w6.alloc (.cells #[.int .i64 3, .int .i64 0, .int .i64 (-2), .int .i64 1] 56)) (.slice (some ⟨w6.heap.size, 0, none⟩) 2 2) [(3, 0), (-2, 1)]) := ⟨_, _, rfl, Nat.le_refl _, by unfold maxLen; decide, fun _ => ⟨_, rfl, fun j u hj => by rw [(cells_at (heap_alloc_new w6 (.cells #[.int .i64 3, .int .i64 0, .int .i64 (-2), .int .i64 1] 56))).1]; simpa [p2] using hj⟩⟩
  clear b5 b6 hF hL D4 T4
  go_wp2_with fail
  refine (sameT_any _ _ _ _ _ T6.out L6.out).mono ?_
  rintro e w7 ⟨rfl, n, hw7⟩
  have D7 : Hid (Below W.heap.size W w7) := by rw [hw7]; exact bt D6.out (bt (bal w6 _) (dbel _ n))
  clear hw7 T6 L6 D6
  go_wp2
  go_ret
  exact ⟨rfl, D7.out⟩
end Go.Proofs.Ytnjdnbbemjdabaa
