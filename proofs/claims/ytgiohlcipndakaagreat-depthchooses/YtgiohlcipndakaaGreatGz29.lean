/- What the document's Find and FindChan of layer 10 return, by the error of the op that is asked. What the document's Product and Find of layer 13 return. The document's answers of layer 13 at an op that is there. The small functions of package depth: within, int16s, int32s; the search; Safe and Most's closure of what they ask. -/
import Derived.Test.YtgiohlcipndakaaGreatGz14
import Derived.Test.YtgiohlcipndakaaGreatGz27
import Derived.Test.YtgiohlcipndakaaGreatGz28
import Derived.ScopeJumps
import Derived.WalkMore
/- What the document's Find and FindChan of layer 10 return, by the error of the op that is asked. -/
namespace Go.Proofs.YtgiohlcipndakaaGreat
open Go.Value renaming int → U
open Go.IntKind renaming i64 → i6
set_option maxRecDepth 100000
set_option maxHeartbeats 16000000
open Go.ChangeShapes Go.WideShapes Go.ChangeAt Go.RowKit
set_option linter.unusedVariables false
theorem rfind_bad (h w c lo hi ot : Int) (oa : Option Addr) (on oc : Nat) (O : Nat → Nat → Int) (Z B : Nat → List Int) (W : World) (hL : LRow W oa on oc O Z B) (hon : on ≤ 1000000000000) (op ch E : Int) (hf : fiE O h w c lo hi ot on op = E) (hE : E ≠ 0) :
  Calls Tryz.prog 40 #[.agg #[U i6 h, U i6 w, U i6 c, U i6 lo, U i6 hi, .slice oa on oc, U i6 ot], U i6 op, U i6 ch] W fun e w' => e = .returned (.tuple #[.agg #[U i6 0, U i6 0, U i6 0, U i6 0, U i6 0, U i6 0, U i6 0, U i6 0, U i6 0, U i6 0, U i6 0, U i6 0, .slice none 0 0, .slice none 0 0, U i6 0, U i6 0, U i6 0, U i6 0, U i6 0, U i6 0, U i6 0, U i6 0, U i6 0, U i6 0, U i6 0, U i6 0, U i6 0, U i6 0], U i6 E]) ∧ Below W.heap.size W w' := by
 obtain ⟨Re, Ra, RL, Rw, hR⟩ : ∃ Re Ra RL Rw, gtR O h w c lo hi ot on = (Re, Ra, RL, Rw) := ⟨_, _, _, _, rfl⟩
 by_cases q : Re = 0
 ·subst q
  by_cases ho : 1 ≤ op ∧ op ≤ (on : Int)
  ·obtain ⟨rfl, hl, h64, -, -, -⟩ := gtR_ok hR
   obtain ⟨i, rfl⟩ : ∃ i : Nat, op = (i : Int) + 1 := ⟨(op - 1).toNat, by omega⟩
   have hi0 : i < on := by omega
   cases hk : rdB (O i 0) with
   | true => rw [fiE_0 (by rw [hR]) hi0 hk] at hf; exact absurd hf.symm hE
   | false =>
    rw [fiE_81 (by rw [hR]) hi0 hk] at hf
    subst hf
    obtain ⟨x, rfl⟩ : ∃ x, oa = some x := by
     cases oa with
     | none => have h1 := hL.2.2.1 rfl; have h2 := hL.1; omega
     | some x => exact ⟨x, rfl⟩
    obtain ⟨wa, lw, cw, ba, lb, cb, e12, e13, hcell, hz, hb, -, -⟩ := hL.2.2.2 x rfl i hi0
    obtain ⟨j, hj, hji, -⟩ := (gtR_at hR).2 i hi0
    exact rfind_r h w c lo hi ot ch x on oc i O Z B W hL hon hi0 wa lw cw ba lb cb hcell Rw RL hR (by omega) (by omega) _ _ _ _ _ _ rfl rfl false hk
  ·rw [fiE_3 (by rw [hR]) ho] at hf
   subst hf
   exact rfind_3 h w c lo hi ot op ch oa on oc O Z B W hL hon Ra Rw RL hR ho
 ·rw [fiE_err (by rw [hR]) q] at hf
  subst hf
  exact rfind_e h w c lo hi ot op ch oa on oc O Z B W hL hon _ Ra Rw RL hR hE
theorem rfind_ok (h w c lo hi ot : Int) (oa : Option Addr) (on oc : Nat) (O : Nat → Nat → Int) (Z B : Nat → List Int) (W : World) (hL : LRow W oa on oc O Z B) (hon : on ≤ 1000000000000) (ch : Int) (RL : List (Int × Int × Int)) (Rw : Int) (hR : gtR O h w c lo hi ot on = (0, 0, RL, Rw)) (i : Nat) (x : Addr) (wa : Option Addr) (lw cw : Nat) (ba : Option Addr) (lb cb : Nat) (x0 y0 z0 H V C : Int) (hF : Fnd W oa on O Z B RL i x wa lw cw ba lb cb x0 y0 z0 H V C) (hc : 0 ≤ ch ∧ ch ≤ C) :
  Calls Tryz.prog 40 #[.agg #[U i6 h, U i6 w, U i6 c, U i6 lo, U i6 hi, .slice oa on oc, U i6 ot], U i6 ((i : Int) + 1), U i6 ch] W fun e w' => e = .returned (.tuple #[.agg #[U i6 (O i 0), U i6 (O i 1), U i6 (O i 2), U i6 (O i 3), U i6 (O i 4), U i6 (O i 5), U i6 (O i 6), U i6 (O i 7), U i6 (O i 8), U i6 (O i 9), U i6 (O i 10), U i6 (O i 11), .slice wa lw cw, .slice ba lb cb, U i6 (O i 14), U i6 (O i 15), U i6 (O i 16), U i6 (O i 17), U i6 (O i 18), U i6 (O i 19), U i6 (O i 20), U i6 (O i 21), U i6 x0, U i6 y0, U i6 z0, U i6 H, U i6 V, U i6 C], U i6 0]) ∧ Below W.heap.size W w' := by
 obtain ⟨h1, rfl, h3, h4, h5, h6, h7, h8, h9, h10, h11, h12⟩ := hF
 have := rfind_r h w c lo hi ot ch x on oc i O Z B W hL hon h1 wa lw cw ba lb cb h5 Rw RL hR h11.1 h11.2 _ _ _ _ _ _ h8 h9 true h12
 rw [if_pos rfl, if_pos hc] at this
 exact this
theorem rfind_no (h w c lo hi ot : Int) (oa : Option Addr) (on oc : Nat) (O : Nat → Nat → Int) (Z B : Nat → List Int) (W : World) (hL : LRow W oa on oc O Z B) (hon : on ≤ 1000000000000) (ch : Int) (RL : List (Int × Int × Int)) (Rw : Int) (hR : gtR O h w c lo hi ot on = (0, 0, RL, Rw)) (i : Nat) (x : Addr) (wa : Option Addr) (lw cw : Nat) (ba : Option Addr) (lb cb : Nat) (x0 y0 z0 H V C : Int) (hF : Fnd W oa on O Z B RL i x wa lw cw ba lb cb x0 y0 z0 H V C) (hc : ¬ (0 ≤ ch ∧ ch ≤ C)) :
  Calls Tryz.prog 40 #[.agg #[U i6 h, U i6 w, U i6 c, U i6 lo, U i6 hi, .slice oa on oc, U i6 ot], U i6 ((i : Int) + 1), U i6 ch] W fun e w' => e = .returned (.tuple #[.agg #[U i6 0, U i6 0, U i6 0, U i6 0, U i6 0, U i6 0, U i6 0, U i6 0, U i6 0, U i6 0, U i6 0, U i6 0, .slice none 0 0, .slice none 0 0, U i6 0, U i6 0, U i6 0, U i6 0, U i6 0, U i6 0, U i6 0, U i6 0, U i6 0, U i6 0, U i6 0, U i6 0, U i6 0, U i6 0], U i6 3]) ∧ Below W.heap.size W w' := by
 obtain ⟨h1, rfl, h3, h4, h5, h6, h7, h8, h9, h10, h11, h12⟩ := hF
 have := rfind_r h w c lo hi ot ch x on oc i O Z B W hL hon h1 wa lw cw ba lb cb h5 Rw RL hR h11.1 h11.2 _ _ _ _ _ _ h8 h9 true h12
 rw [if_pos rfl, if_neg hc] at this
 exact this
theorem fch_z {x9 : Nat} (h w c lo hi ot : Int) (oa : Option Addr) (on oc : Nat) (W : World) (op ch E : Int) (hE : ¬ (E = 0 ∧ ch = 0))
  (hK : ∀ W', Below W.heap.size W W' → Calls Tryz.prog 40 #[.agg #[U i6 h, U i6 w, U i6 c, U i6 lo, U i6 hi, .slice oa on oc, U i6 ot], U i6 op, U i6 ch] W' fun e w' => e = .returned (.tuple #[.agg #[U i6 0, U i6 0, U i6 0, U i6 0, U i6 0, U i6 0, U i6 0, U i6 0, U i6 0, U i6 0, U i6 0, U i6 0, .slice none 0 0, .slice none 0 0, U i6 0, U i6 0, U i6 0, U i6 0, U i6 0, U i6 0, U i6 0, U i6 0, U i6 0, U i6 0, U i6 0, U i6 0, U i6 0, U i6 0], U i6 E]) ∧ Below W'.heap.size W' w') :
  Calls Tryz.prog 18 #[.agg #[U i6 h, U i6 w, U i6 c, U i6 lo, U i6 hi, .slice oa on oc, U i6 ot], U i6 op, U i6 ch] W fun e w' => e = .returned (.tuple #[.agg #[U i6 0, U i6 0, U i6 0, U i6 0, U i6 0, U i6 0, U i6 0, U i6 0, U i6 0, U i6 0, U i6 0, U i6 0, .slice none 0 0, .slice none 0 0, U i6 0, U i6 0, U i6 0, U i6 0, U i6 0, U i6 0, U i6 0, U i6 0, U i6 0, U i6 0, U i6 0, U i6 0, U i6 0, U i6 0], U i6 E]) ∧ Below W.heap.size W w' := by
 have s0 := ((St.start W).new (c := #[U i6 h, U i6 w, U i6 c, U i6 lo, U i6 hi, .slice oa on oc, U i6 ot]) (t := 26)).new (c := #[U i6 0, U i6 0, U i6 0, U i6 0, U i6 0, U i6 0, U i6 0, U i6 0, U i6 0, U i6 0, U i6 0, U i6 0, .slice none 0 0, .slice none 0 0, U i6 0, U i6 0, U i6 0, U i6 0, U i6 0, U i6 0, U i6 0, U i6 0, U i6 0, U i6 0, U i6 0, U i6 0, U i6 0, U i6 0]) (t := 45)
 simp only [World.size_alloc] at s0
 have HK : Hid (∀ W', _) := hK
 have hE' : ((E == 0) && (ch == 0)) = false := by
  cases q : (E == 0) with
  | false => rfl
  | true =>
   have e1 : E = 0 := by simpa using q
   have : ch ≠ 0 := fun e => hE ⟨e1, e⟩
   simp [this]
 clear hK
 by_cases e0 : E = 0
 ·first
   | (have e0' : (E == 0) = true := by simp [e0]
      have c0' : (ch == 0) = false := by simp; exact fun e => hE ⟨e0, e⟩
      clear e0 hE hE')
   | (have e0' : (E == 0) = false := by simp [e0]
      clear e0 hE hE')
  go_enter Tryz.func18, Tryz.ntmps18
  go_wp2_with fail
  refine (HK.out _ s0.below).mono ?_
  rintro e w1 ⟨rfl, hb⟩
  have s1 := (s0.call hb).new (c := #[U i6 0, U i6 0, U i6 0, U i6 0, U i6 0, U i6 0, U i6 0, U i6 0, U i6 0, U i6 0, U i6 0, U i6 0, .slice none 0 0, .slice none 0 0, U i6 0, U i6 0, U i6 0, U i6 0, U i6 0, U i6 0, U i6 0, U i6 0, U i6 0, U i6 0, U i6 0, U i6 0, U i6 0, U i6 0]) (t := 45)
  have hR1 := s1.h1
  have HZ : Hid ((w1.alloc (.cells #[U i6 0, U i6 0, U i6 0, U i6 0, U i6 0, U i6 0, U i6 0, U i6 0, U i6 0, U i6 0, U i6 0, U i6 0, .slice none 0 0, .slice none 0 0, U i6 0, U i6 0, U i6 0, U i6 0, U i6 0, U i6 0, U i6 0, U i6 0, U i6 0, U i6 0, U i6 0, U i6 0, U i6 0, U i6 0] 45)).heap[W.heap.size + 1]? = some (.cells #[U i6 0, U i6 0, U i6 0, U i6 0, U i6 0, U i6 0, U i6 0, U i6 0, U i6 0, U i6 0, U i6 0, U i6 0, .slice none 0 0, .slice none 0 0, U i6 0, U i6 0, U i6 0, U i6 0, U i6 0, U i6 0, U i6 0, U i6 0, U i6 0, U i6 0, U i6 0, U i6 0, U i6 0, U i6 0] 45 (0, 0))) := s1.h2
  have hB1 : Hid (Below W.heap.size W (w1.alloc (.cells #[U i6 0, U i6 0, U i6 0, U i6 0, U i6 0, U i6 0, U i6 0, U i6 0, U i6 0, U i6 0, U i6 0, U i6 0, .slice none 0 0, .slice none 0 0, U i6 0, U i6 0, U i6 0, U i6 0, U i6 0, U i6 0, U i6 0, U i6 0, U i6 0, U i6 0, U i6 0, U i6 0, U i6 0, U i6 0] 45))) := s1.below
  clear hb s1 s0
  go_wp2_with (first
   | (refine wpList_st_new rfl 45 (.tmp 8) (.tmp 15) rfl w1 _ #[U i6 0, U i6 0, U i6 0, U i6 0, U i6 0, U i6 0, U i6 0, U i6 0, U i6 0, U i6 0, U i6 0, U i6 0, .slice none 0 0, .slice none 0 0, U i6 0, U i6 0, U i6 0, U i6 0, U i6 0, U i6 0, U i6 0, U i6 0, U i6 0, U i6 0, U i6 0, U i6 0, U i6 0, U i6 0] rfl rfl (by kernel_rfl) rfl (by simp [Value.oneCell']) ?_)
   | (refine wpList_load_row rfl 45 (.tmp 8) rfl w1.heap.size rfl 45 _ (0, 0) _ hR1 Tryz.underlying45 rfl (by kernel_rfl) ?_)
   | (refine wpList_store_row rfl 45 (.tmp 6) (.tmp 24) rfl (W.heap.size + 1) #[U i6 0, U i6 0, U i6 0, U i6 0, U i6 0, U i6 0, U i6 0, U i6 0, U i6 0, U i6 0, U i6 0, U i6 0, .slice none 0 0, .slice none 0 0, U i6 0, U i6 0, U i6 0, U i6 0, U i6 0, U i6 0, U i6 0, U i6 0, U i6 0, U i6 0, U i6 0, U i6 0, U i6 0, U i6 0] rfl rfl 45 #[U i6 0, U i6 0, U i6 0, U i6 0, U i6 0, U i6 0, U i6 0, U i6 0, U i6 0, U i6 0, U i6 0, U i6 0, .slice none 0 0, .slice none 0 0, U i6 0, U i6 0, U i6 0, U i6 0, U i6 0, U i6 0, U i6 0, U i6 0, U i6 0, U i6 0, U i6 0, U i6 0, U i6 0, U i6 0] HZ.out (by kernel_rfl) rfl (by simp [Value.oneCell']) ?_; have hZ' := setRow_heap _ (W.heap.size + 1) #[U i6 0, U i6 0, U i6 0, U i6 0, U i6 0, U i6 0, U i6 0, U i6 0, U i6 0, U i6 0, U i6 0, U i6 0, .slice none 0 0, .slice none 0 0, U i6 0, U i6 0, U i6 0, U i6 0, U i6 0, U i6 0, U i6 0, U i6 0, U i6 0, U i6 0, U i6 0, U i6 0, U i6 0, U i6 0] #[U i6 0, U i6 0, U i6 0, U i6 0, U i6 0, U i6 0, U i6 0, U i6 0, U i6 0, U i6 0, U i6 0, U i6 0, .slice none 0 0, .slice none 0 0, U i6 0, U i6 0, U i6 0, U i6 0, U i6 0, U i6 0, U i6 0, U i6 0, U i6 0, U i6 0, U i6 0, U i6 0, U i6 0, U i6 0] 45 (0, 0) HZ.out; have hB' : Hid (Below W.heap.size W (_ : World)) := below_setRow hB1.out (show W.heap.size ≤ W.heap.size + 1 by omega) #[U i6 0, U i6 0, U i6 0, U i6 0, U i6 0, U i6 0, U i6 0, U i6 0, U i6 0, U i6 0, U i6 0, U i6 0, .slice none 0 0, .slice none 0 0, U i6 0, U i6 0, U i6 0, U i6 0, U i6 0, U i6 0, U i6 0, U i6 0, U i6 0, U i6 0, U i6 0, U i6 0, U i6 0, U i6 0]; clear hR1; generalize World.setRow _ _ _ = w5 at hZ' hB' ⊢))
  exact bodyPost_ret (results_row_tmp Tryz.results18 _ _ (W.heap.size + 1) 45 _ _ (U i6 E) rfl hZ' Tryz.underlying45 rfl (by kernel_rfl) rfl) rfl ⟨rfl, hB'.out⟩
 ·first
   | (have e0' : (E == 0) = true := by simp [e0]
      have c0' : (ch == 0) = false := by simp; exact fun e => hE ⟨e0, e⟩
      clear e0 hE hE')
   | (have e0' : (E == 0) = false := by simp [e0]
      clear e0 hE hE')
  go_enter Tryz.func18, Tryz.ntmps18
  go_wp2_with fail
  refine (HK.out _ s0.below).mono ?_
  rintro e w1 ⟨rfl, hb⟩
  have s1 := (s0.call hb).new (c := #[U i6 0, U i6 0, U i6 0, U i6 0, U i6 0, U i6 0, U i6 0, U i6 0, U i6 0, U i6 0, U i6 0, U i6 0, .slice none 0 0, .slice none 0 0, U i6 0, U i6 0, U i6 0, U i6 0, U i6 0, U i6 0, U i6 0, U i6 0, U i6 0, U i6 0, U i6 0, U i6 0, U i6 0, U i6 0]) (t := 45)
  have hR1 := s1.h1
  have HZ : Hid ((w1.alloc (.cells #[U i6 0, U i6 0, U i6 0, U i6 0, U i6 0, U i6 0, U i6 0, U i6 0, U i6 0, U i6 0, U i6 0, U i6 0, .slice none 0 0, .slice none 0 0, U i6 0, U i6 0, U i6 0, U i6 0, U i6 0, U i6 0, U i6 0, U i6 0, U i6 0, U i6 0, U i6 0, U i6 0, U i6 0, U i6 0] 45)).heap[W.heap.size + 1]? = some (.cells #[U i6 0, U i6 0, U i6 0, U i6 0, U i6 0, U i6 0, U i6 0, U i6 0, U i6 0, U i6 0, U i6 0, U i6 0, .slice none 0 0, .slice none 0 0, U i6 0, U i6 0, U i6 0, U i6 0, U i6 0, U i6 0, U i6 0, U i6 0, U i6 0, U i6 0, U i6 0, U i6 0, U i6 0, U i6 0] 45 (0, 0))) := s1.h2
  have hB1 : Hid (Below W.heap.size W (w1.alloc (.cells #[U i6 0, U i6 0, U i6 0, U i6 0, U i6 0, U i6 0, U i6 0, U i6 0, U i6 0, U i6 0, U i6 0, U i6 0, .slice none 0 0, .slice none 0 0, U i6 0, U i6 0, U i6 0, U i6 0, U i6 0, U i6 0, U i6 0, U i6 0, U i6 0, U i6 0, U i6 0, U i6 0, U i6 0, U i6 0] 45))) := s1.below
  clear hb s1 s0
  go_wp2_with (first
   | (refine wpList_st_new rfl 45 (.tmp 8) (.tmp 15) rfl w1 _ #[U i6 0, U i6 0, U i6 0, U i6 0, U i6 0, U i6 0, U i6 0, U i6 0, U i6 0, U i6 0, U i6 0, U i6 0, .slice none 0 0, .slice none 0 0, U i6 0, U i6 0, U i6 0, U i6 0, U i6 0, U i6 0, U i6 0, U i6 0, U i6 0, U i6 0, U i6 0, U i6 0, U i6 0, U i6 0] rfl rfl (by kernel_rfl) rfl (by simp [Value.oneCell']) ?_)
   | (refine wpList_load_row rfl 45 (.tmp 8) rfl w1.heap.size rfl 45 _ (0, 0) _ hR1 Tryz.underlying45 rfl (by kernel_rfl) ?_)
   | (refine wpList_store_row rfl 45 (.tmp 6) (.tmp 24) rfl (W.heap.size + 1) #[U i6 0, U i6 0, U i6 0, U i6 0, U i6 0, U i6 0, U i6 0, U i6 0, U i6 0, U i6 0, U i6 0, U i6 0, .slice none 0 0, .slice none 0 0, U i6 0, U i6 0, U i6 0, U i6 0, U i6 0, U i6 0, U i6 0, U i6 0, U i6 0, U i6 0, U i6 0, U i6 0, U i6 0, U i6 0] rfl rfl 45 #[U i6 0, U i6 0, U i6 0, U i6 0, U i6 0, U i6 0, U i6 0, U i6 0, U i6 0, U i6 0, U i6 0, U i6 0, .slice none 0 0, .slice none 0 0, U i6 0, U i6 0, U i6 0, U i6 0, U i6 0, U i6 0, U i6 0, U i6 0, U i6 0, U i6 0, U i6 0, U i6 0, U i6 0, U i6 0] HZ.out (by kernel_rfl) rfl (by simp [Value.oneCell']) ?_; have hZ' := setRow_heap _ (W.heap.size + 1) #[U i6 0, U i6 0, U i6 0, U i6 0, U i6 0, U i6 0, U i6 0, U i6 0, U i6 0, U i6 0, U i6 0, U i6 0, .slice none 0 0, .slice none 0 0, U i6 0, U i6 0, U i6 0, U i6 0, U i6 0, U i6 0, U i6 0, U i6 0, U i6 0, U i6 0, U i6 0, U i6 0, U i6 0, U i6 0] #[U i6 0, U i6 0, U i6 0, U i6 0, U i6 0, U i6 0, U i6 0, U i6 0, U i6 0, U i6 0, U i6 0, U i6 0, .slice none 0 0, .slice none 0 0, U i6 0, U i6 0, U i6 0, U i6 0, U i6 0, U i6 0, U i6 0, U i6 0, U i6 0, U i6 0, U i6 0, U i6 0, U i6 0, U i6 0] 45 (0, 0) HZ.out; have hB' : Hid (Below W.heap.size W (_ : World)) := below_setRow hB1.out (show W.heap.size ≤ W.heap.size + 1 by omega) #[U i6 0, U i6 0, U i6 0, U i6 0, U i6 0, U i6 0, U i6 0, U i6 0, U i6 0, U i6 0, U i6 0, U i6 0, .slice none 0 0, .slice none 0 0, U i6 0, U i6 0, U i6 0, U i6 0, U i6 0, U i6 0, U i6 0, U i6 0, U i6 0, U i6 0, U i6 0, U i6 0, U i6 0, U i6 0]; clear hR1; generalize World.setRow _ _ _ = w5 at hZ' hB' ⊢))
  exact bodyPost_ret (results_row_tmp Tryz.results18 _ _ (W.heap.size + 1) 45 _ _ (U i6 E) rfl hZ' Tryz.underlying45 rfl (by kernel_rfl) rfl) rfl ⟨rfl, hB'.out⟩
theorem fch_r {O : Nat → Nat → Int} {i : Nat} {x : Addr} {wa : Option Addr} {lw cw : Nat} {ba : Option Addr} {lb cb : Nat} {x0 y0 z0 H V C : Int} (h w c lo hi ot : Int) (oa : Option Addr) (on oc : Nat) (W : World) (op ch E : Int) (hE : ¬ (E = 0 ∧ ch = 0))
  (hK : ∀ W', Below W.heap.size W W' → Calls Tryz.prog 40 #[.agg #[U i6 h, U i6 w, U i6 c, U i6 lo, U i6 hi, .slice oa on oc, U i6 ot], U i6 op, U i6 ch] W' fun e w' => e = .returned (.tuple #[.agg #[U i6 (O i 0), U i6 (O i 1), U i6 (O i 2), U i6 (O i 3), U i6 (O i 4), U i6 (O i 5), U i6 (O i 6), U i6 (O i 7), U i6 (O i 8), U i6 (O i 9), U i6 (O i 10), U i6 (O i 11), .slice wa lw cw, .slice ba lb cb, U i6 (O i 14), U i6 (O i 15), U i6 (O i 16), U i6 (O i 17), U i6 (O i 18), U i6 (O i 19), U i6 (O i 20), U i6 (O i 21), U i6 x0, U i6 y0, U i6 z0, U i6 H, U i6 V, U i6 C], U i6 E]) ∧ Below W'.heap.size W' w') :
  Calls Tryz.prog 18 #[.agg #[U i6 h, U i6 w, U i6 c, U i6 lo, U i6 hi, .slice oa on oc, U i6 ot], U i6 op, U i6 ch] W fun e w' => e = .returned (.tuple #[.agg #[U i6 (O i 0), U i6 (O i 1), U i6 (O i 2), U i6 (O i 3), U i6 (O i 4), U i6 (O i 5), U i6 (O i 6), U i6 (O i 7), U i6 (O i 8), U i6 (O i 9), U i6 (O i 10), U i6 (O i 11), .slice wa lw cw, .slice ba lb cb, U i6 (O i 14), U i6 (O i 15), U i6 (O i 16), U i6 (O i 17), U i6 (O i 18), U i6 (O i 19), U i6 (O i 20), U i6 (O i 21), U i6 x0, U i6 y0, U i6 z0, U i6 H, U i6 V, U i6 C], U i6 E]) ∧ Below W.heap.size W w' := by
 have s0 := ((St.start W).new (c := #[U i6 h, U i6 w, U i6 c, U i6 lo, U i6 hi, .slice oa on oc, U i6 ot]) (t := 26)).new (c := #[U i6 0, U i6 0, U i6 0, U i6 0, U i6 0, U i6 0, U i6 0, U i6 0, U i6 0, U i6 0, U i6 0, U i6 0, .slice none 0 0, .slice none 0 0, U i6 0, U i6 0, U i6 0, U i6 0, U i6 0, U i6 0, U i6 0, U i6 0, U i6 0, U i6 0, U i6 0, U i6 0, U i6 0, U i6 0]) (t := 45)
 simp only [World.size_alloc] at s0
 have HK : Hid (∀ W', _) := hK
 have hE' : ((E == 0) && (ch == 0)) = false := by
  cases q : (E == 0) with
  | false => rfl
  | true =>
   have e1 : E = 0 := by simpa using q
   have : ch ≠ 0 := fun e => hE ⟨e1, e⟩
   simp [this]
 clear hK
 by_cases e0 : E = 0
 ·first
   | (have e0' : (E == 0) = true := by simp [e0]
      have c0' : (ch == 0) = false := by simp; exact fun e => hE ⟨e0, e⟩
      clear e0 hE hE')
   | (have e0' : (E == 0) = false := by simp [e0]
      clear e0 hE hE')
  go_enter Tryz.func18, Tryz.ntmps18
  go_wp2_with fail
  refine (HK.out _ s0.below).mono ?_
  rintro e w1 ⟨rfl, hb⟩
  have s1 := (s0.call hb).new (c := #[U i6 (O i 0), U i6 (O i 1), U i6 (O i 2), U i6 (O i 3), U i6 (O i 4), U i6 (O i 5), U i6 (O i 6), U i6 (O i 7), U i6 (O i 8), U i6 (O i 9), U i6 (O i 10), U i6 (O i 11), .slice wa lw cw, .slice ba lb cb, U i6 (O i 14), U i6 (O i 15), U i6 (O i 16), U i6 (O i 17), U i6 (O i 18), U i6 (O i 19), U i6 (O i 20), U i6 (O i 21), U i6 x0, U i6 y0, U i6 z0, U i6 H, U i6 V, U i6 C]) (t := 45)
  have hR1 := s1.h1
  have HZ : Hid ((w1.alloc (.cells #[U i6 (O i 0), U i6 (O i 1), U i6 (O i 2), U i6 (O i 3), U i6 (O i 4), U i6 (O i 5), U i6 (O i 6), U i6 (O i 7), U i6 (O i 8), U i6 (O i 9), U i6 (O i 10), U i6 (O i 11), .slice wa lw cw, .slice ba lb cb, U i6 (O i 14), U i6 (O i 15), U i6 (O i 16), U i6 (O i 17), U i6 (O i 18), U i6 (O i 19), U i6 (O i 20), U i6 (O i 21), U i6 x0, U i6 y0, U i6 z0, U i6 H, U i6 V, U i6 C] 45)).heap[W.heap.size + 1]? = some (.cells #[U i6 0, U i6 0, U i6 0, U i6 0, U i6 0, U i6 0, U i6 0, U i6 0, U i6 0, U i6 0, U i6 0, U i6 0, .slice none 0 0, .slice none 0 0, U i6 0, U i6 0, U i6 0, U i6 0, U i6 0, U i6 0, U i6 0, U i6 0, U i6 0, U i6 0, U i6 0, U i6 0, U i6 0, U i6 0] 45 (0, 0))) := s1.h2
  have hB1 : Hid (Below W.heap.size W (w1.alloc (.cells #[U i6 (O i 0), U i6 (O i 1), U i6 (O i 2), U i6 (O i 3), U i6 (O i 4), U i6 (O i 5), U i6 (O i 6), U i6 (O i 7), U i6 (O i 8), U i6 (O i 9), U i6 (O i 10), U i6 (O i 11), .slice wa lw cw, .slice ba lb cb, U i6 (O i 14), U i6 (O i 15), U i6 (O i 16), U i6 (O i 17), U i6 (O i 18), U i6 (O i 19), U i6 (O i 20), U i6 (O i 21), U i6 x0, U i6 y0, U i6 z0, U i6 H, U i6 V, U i6 C] 45))) := s1.below
  clear hb s1 s0
  go_wp2_with (first
   | (refine wpList_st_new rfl 45 (.tmp 8) (.tmp 15) rfl w1 _ #[U i6 (O i 0), U i6 (O i 1), U i6 (O i 2), U i6 (O i 3), U i6 (O i 4), U i6 (O i 5), U i6 (O i 6), U i6 (O i 7), U i6 (O i 8), U i6 (O i 9), U i6 (O i 10), U i6 (O i 11), .slice wa lw cw, .slice ba lb cb, U i6 (O i 14), U i6 (O i 15), U i6 (O i 16), U i6 (O i 17), U i6 (O i 18), U i6 (O i 19), U i6 (O i 20), U i6 (O i 21), U i6 x0, U i6 y0, U i6 z0, U i6 H, U i6 V, U i6 C] rfl rfl (by kernel_rfl) rfl (by simp [Value.oneCell']) ?_)
   | (refine wpList_load_row rfl 45 (.tmp 8) rfl w1.heap.size rfl 45 _ (0, 0) _ hR1 Tryz.underlying45 rfl (by kernel_rfl) ?_)
   | (refine wpList_store_row rfl 45 (.tmp 6) (.tmp 24) rfl (W.heap.size + 1) #[U i6 (O i 0), U i6 (O i 1), U i6 (O i 2), U i6 (O i 3), U i6 (O i 4), U i6 (O i 5), U i6 (O i 6), U i6 (O i 7), U i6 (O i 8), U i6 (O i 9), U i6 (O i 10), U i6 (O i 11), .slice wa lw cw, .slice ba lb cb, U i6 (O i 14), U i6 (O i 15), U i6 (O i 16), U i6 (O i 17), U i6 (O i 18), U i6 (O i 19), U i6 (O i 20), U i6 (O i 21), U i6 x0, U i6 y0, U i6 z0, U i6 H, U i6 V, U i6 C] rfl rfl 45 #[U i6 0, U i6 0, U i6 0, U i6 0, U i6 0, U i6 0, U i6 0, U i6 0, U i6 0, U i6 0, U i6 0, U i6 0, .slice none 0 0, .slice none 0 0, U i6 0, U i6 0, U i6 0, U i6 0, U i6 0, U i6 0, U i6 0, U i6 0, U i6 0, U i6 0, U i6 0, U i6 0, U i6 0, U i6 0] HZ.out (by kernel_rfl) rfl (by simp [Value.oneCell']) ?_; have hZ' := setRow_heap _ (W.heap.size + 1) #[U i6 0, U i6 0, U i6 0, U i6 0, U i6 0, U i6 0, U i6 0, U i6 0, U i6 0, U i6 0, U i6 0, U i6 0, .slice none 0 0, .slice none 0 0, U i6 0, U i6 0, U i6 0, U i6 0, U i6 0, U i6 0, U i6 0, U i6 0, U i6 0, U i6 0, U i6 0, U i6 0, U i6 0, U i6 0] #[U i6 (O i 0), U i6 (O i 1), U i6 (O i 2), U i6 (O i 3), U i6 (O i 4), U i6 (O i 5), U i6 (O i 6), U i6 (O i 7), U i6 (O i 8), U i6 (O i 9), U i6 (O i 10), U i6 (O i 11), .slice wa lw cw, .slice ba lb cb, U i6 (O i 14), U i6 (O i 15), U i6 (O i 16), U i6 (O i 17), U i6 (O i 18), U i6 (O i 19), U i6 (O i 20), U i6 (O i 21), U i6 x0, U i6 y0, U i6 z0, U i6 H, U i6 V, U i6 C] 45 (0, 0) HZ.out; have hB' : Hid (Below W.heap.size W (_ : World)) := below_setRow hB1.out (show W.heap.size ≤ W.heap.size + 1 by omega) #[U i6 (O i 0), U i6 (O i 1), U i6 (O i 2), U i6 (O i 3), U i6 (O i 4), U i6 (O i 5), U i6 (O i 6), U i6 (O i 7), U i6 (O i 8), U i6 (O i 9), U i6 (O i 10), U i6 (O i 11), .slice wa lw cw, .slice ba lb cb, U i6 (O i 14), U i6 (O i 15), U i6 (O i 16), U i6 (O i 17), U i6 (O i 18), U i6 (O i 19), U i6 (O i 20), U i6 (O i 21), U i6 x0, U i6 y0, U i6 z0, U i6 H, U i6 V, U i6 C]; clear hR1; generalize World.setRow _ _ _ = w5 at hZ' hB' ⊢))
  exact bodyPost_ret (results_row_tmp Tryz.results18 _ _ (W.heap.size + 1) 45 _ _ (U i6 E) rfl hZ' Tryz.underlying45 rfl (by kernel_rfl) rfl) rfl ⟨rfl, hB'.out⟩
 ·first
   | (have e0' : (E == 0) = true := by simp [e0]
      have c0' : (ch == 0) = false := by simp; exact fun e => hE ⟨e0, e⟩
      clear e0 hE hE')
   | (have e0' : (E == 0) = false := by simp [e0]
      clear e0 hE hE')
  go_enter Tryz.func18, Tryz.ntmps18
  go_wp2_with fail
  refine (HK.out _ s0.below).mono ?_
  rintro e w1 ⟨rfl, hb⟩
  have s1 := (s0.call hb).new (c := #[U i6 (O i 0), U i6 (O i 1), U i6 (O i 2), U i6 (O i 3), U i6 (O i 4), U i6 (O i 5), U i6 (O i 6), U i6 (O i 7), U i6 (O i 8), U i6 (O i 9), U i6 (O i 10), U i6 (O i 11), .slice wa lw cw, .slice ba lb cb, U i6 (O i 14), U i6 (O i 15), U i6 (O i 16), U i6 (O i 17), U i6 (O i 18), U i6 (O i 19), U i6 (O i 20), U i6 (O i 21), U i6 x0, U i6 y0, U i6 z0, U i6 H, U i6 V, U i6 C]) (t := 45)
  have hR1 := s1.h1
  have HZ : Hid ((w1.alloc (.cells #[U i6 (O i 0), U i6 (O i 1), U i6 (O i 2), U i6 (O i 3), U i6 (O i 4), U i6 (O i 5), U i6 (O i 6), U i6 (O i 7), U i6 (O i 8), U i6 (O i 9), U i6 (O i 10), U i6 (O i 11), .slice wa lw cw, .slice ba lb cb, U i6 (O i 14), U i6 (O i 15), U i6 (O i 16), U i6 (O i 17), U i6 (O i 18), U i6 (O i 19), U i6 (O i 20), U i6 (O i 21), U i6 x0, U i6 y0, U i6 z0, U i6 H, U i6 V, U i6 C] 45)).heap[W.heap.size + 1]? = some (.cells #[U i6 0, U i6 0, U i6 0, U i6 0, U i6 0, U i6 0, U i6 0, U i6 0, U i6 0, U i6 0, U i6 0, U i6 0, .slice none 0 0, .slice none 0 0, U i6 0, U i6 0, U i6 0, U i6 0, U i6 0, U i6 0, U i6 0, U i6 0, U i6 0, U i6 0, U i6 0, U i6 0, U i6 0, U i6 0] 45 (0, 0))) := s1.h2
  have hB1 : Hid (Below W.heap.size W (w1.alloc (.cells #[U i6 (O i 0), U i6 (O i 1), U i6 (O i 2), U i6 (O i 3), U i6 (O i 4), U i6 (O i 5), U i6 (O i 6), U i6 (O i 7), U i6 (O i 8), U i6 (O i 9), U i6 (O i 10), U i6 (O i 11), .slice wa lw cw, .slice ba lb cb, U i6 (O i 14), U i6 (O i 15), U i6 (O i 16), U i6 (O i 17), U i6 (O i 18), U i6 (O i 19), U i6 (O i 20), U i6 (O i 21), U i6 x0, U i6 y0, U i6 z0, U i6 H, U i6 V, U i6 C] 45))) := s1.below
  clear hb s1 s0
  go_wp2_with (first
   | (refine wpList_st_new rfl 45 (.tmp 8) (.tmp 15) rfl w1 _ #[U i6 (O i 0), U i6 (O i 1), U i6 (O i 2), U i6 (O i 3), U i6 (O i 4), U i6 (O i 5), U i6 (O i 6), U i6 (O i 7), U i6 (O i 8), U i6 (O i 9), U i6 (O i 10), U i6 (O i 11), .slice wa lw cw, .slice ba lb cb, U i6 (O i 14), U i6 (O i 15), U i6 (O i 16), U i6 (O i 17), U i6 (O i 18), U i6 (O i 19), U i6 (O i 20), U i6 (O i 21), U i6 x0, U i6 y0, U i6 z0, U i6 H, U i6 V, U i6 C] rfl rfl (by kernel_rfl) rfl (by simp [Value.oneCell']) ?_)
   | (refine wpList_load_row rfl 45 (.tmp 8) rfl w1.heap.size rfl 45 _ (0, 0) _ hR1 Tryz.underlying45 rfl (by kernel_rfl) ?_)
   | (refine wpList_store_row rfl 45 (.tmp 6) (.tmp 24) rfl (W.heap.size + 1) #[U i6 (O i 0), U i6 (O i 1), U i6 (O i 2), U i6 (O i 3), U i6 (O i 4), U i6 (O i 5), U i6 (O i 6), U i6 (O i 7), U i6 (O i 8), U i6 (O i 9), U i6 (O i 10), U i6 (O i 11), .slice wa lw cw, .slice ba lb cb, U i6 (O i 14), U i6 (O i 15), U i6 (O i 16), U i6 (O i 17), U i6 (O i 18), U i6 (O i 19), U i6 (O i 20), U i6 (O i 21), U i6 x0, U i6 y0, U i6 z0, U i6 H, U i6 V, U i6 C] rfl rfl 45 #[U i6 0, U i6 0, U i6 0, U i6 0, U i6 0, U i6 0, U i6 0, U i6 0, U i6 0, U i6 0, U i6 0, U i6 0, .slice none 0 0, .slice none 0 0, U i6 0, U i6 0, U i6 0, U i6 0, U i6 0, U i6 0, U i6 0, U i6 0, U i6 0, U i6 0, U i6 0, U i6 0, U i6 0, U i6 0] HZ.out (by kernel_rfl) rfl (by simp [Value.oneCell']) ?_; have hZ' := setRow_heap _ (W.heap.size + 1) #[U i6 0, U i6 0, U i6 0, U i6 0, U i6 0, U i6 0, U i6 0, U i6 0, U i6 0, U i6 0, U i6 0, U i6 0, .slice none 0 0, .slice none 0 0, U i6 0, U i6 0, U i6 0, U i6 0, U i6 0, U i6 0, U i6 0, U i6 0, U i6 0, U i6 0, U i6 0, U i6 0, U i6 0, U i6 0] #[U i6 (O i 0), U i6 (O i 1), U i6 (O i 2), U i6 (O i 3), U i6 (O i 4), U i6 (O i 5), U i6 (O i 6), U i6 (O i 7), U i6 (O i 8), U i6 (O i 9), U i6 (O i 10), U i6 (O i 11), .slice wa lw cw, .slice ba lb cb, U i6 (O i 14), U i6 (O i 15), U i6 (O i 16), U i6 (O i 17), U i6 (O i 18), U i6 (O i 19), U i6 (O i 20), U i6 (O i 21), U i6 x0, U i6 y0, U i6 z0, U i6 H, U i6 V, U i6 C] 45 (0, 0) HZ.out; have hB' : Hid (Below W.heap.size W (_ : World)) := below_setRow hB1.out (show W.heap.size ≤ W.heap.size + 1 by omega) #[U i6 (O i 0), U i6 (O i 1), U i6 (O i 2), U i6 (O i 3), U i6 (O i 4), U i6 (O i 5), U i6 (O i 6), U i6 (O i 7), U i6 (O i 8), U i6 (O i 9), U i6 (O i 10), U i6 (O i 11), .slice wa lw cw, .slice ba lb cb, U i6 (O i 14), U i6 (O i 15), U i6 (O i 16), U i6 (O i 17), U i6 (O i 18), U i6 (O i 19), U i6 (O i 20), U i6 (O i 21), U i6 x0, U i6 y0, U i6 z0, U i6 H, U i6 V, U i6 C]; clear hR1; generalize World.setRow _ _ _ = w5 at hZ' hB' ⊢))
  exact bodyPost_ret (results_row_tmp Tryz.results18 _ _ (W.heap.size + 1) 45 _ _ (U i6 E) rfl hZ' Tryz.underlying45 rfl (by kernel_rfl) rfl) rfl ⟨rfl, hB'.out⟩
theorem fch_0 {O : Nat → Nat → Int} {i : Nat} {x : Addr} {wa : Option Addr} {lw cw : Nat} {ba : Option Addr} {lb cb : Nat} {x0 y0 z0 H V C : Int} (h w c lo hi ot : Int) (oa : Option Addr) (on oc : Nat) (W : World) (op : Int)
  (hK : ∀ W', Below W.heap.size W W' → Calls Tryz.prog 40 #[.agg #[U i6 h, U i6 w, U i6 c, U i6 lo, U i6 hi, .slice oa on oc, U i6 ot], U i6 op, U i6 0] W' fun e w' => e = .returned (.tuple #[.agg #[U i6 (O i 0), U i6 (O i 1), U i6 (O i 2), U i6 (O i 3), U i6 (O i 4), U i6 (O i 5), U i6 (O i 6), U i6 (O i 7), U i6 (O i 8), U i6 (O i 9), U i6 (O i 10), U i6 (O i 11), .slice wa lw cw, .slice ba lb cb, U i6 (O i 14), U i6 (O i 15), U i6 (O i 16), U i6 (O i 17), U i6 (O i 18), U i6 (O i 19), U i6 (O i 20), U i6 (O i 21), U i6 x0, U i6 y0, U i6 z0, U i6 H, U i6 V, U i6 C], U i6 0]) ∧ Below W'.heap.size W' w') :
  Calls Tryz.prog 18 #[.agg #[U i6 h, U i6 w, U i6 c, U i6 lo, U i6 hi, .slice oa on oc, U i6 ot], U i6 op, U i6 0] W fun e w' => e = .returned (.tuple #[.agg #[U i6 0, U i6 0, U i6 0, U i6 0, U i6 0, U i6 0, U i6 0, U i6 0, U i6 0, U i6 0, U i6 0, U i6 0, .slice none 0 0, .slice none 0 0, U i6 0, U i6 0, U i6 0, U i6 0, U i6 0, U i6 0, U i6 0, U i6 0, U i6 0, U i6 0, U i6 0, U i6 0, U i6 0, U i6 0], U i6 3]) ∧ Below W.heap.size W w' := by
 have s0 := ((St.start W).new (c := #[U i6 h, U i6 w, U i6 c, U i6 lo, U i6 hi, .slice oa on oc, U i6 ot]) (t := 26)).new (c := #[U i6 0, U i6 0, U i6 0, U i6 0, U i6 0, U i6 0, U i6 0, U i6 0, U i6 0, U i6 0, U i6 0, U i6 0, .slice none 0 0, .slice none 0 0, U i6 0, U i6 0, U i6 0, U i6 0, U i6 0, U i6 0, U i6 0, U i6 0, U i6 0, U i6 0, U i6 0, U i6 0, U i6 0, U i6 0]) (t := 45)
 simp only [World.size_alloc] at s0
 have HK : Hid (∀ W', _) := hK
 clear hK
 go_enter Tryz.func18, Tryz.ntmps18
 go_wp2_with fail
 refine (HK.out _ s0.below).mono ?_
 rintro e w1 ⟨rfl, hb⟩
 have s1 := (s0.call hb).new (c := #[U i6 (O i 0), U i6 (O i 1), U i6 (O i 2), U i6 (O i 3), U i6 (O i 4), U i6 (O i 5), U i6 (O i 6), U i6 (O i 7), U i6 (O i 8), U i6 (O i 9), U i6 (O i 10), U i6 (O i 11), .slice wa lw cw, .slice ba lb cb, U i6 (O i 14), U i6 (O i 15), U i6 (O i 16), U i6 (O i 17), U i6 (O i 18), U i6 (O i 19), U i6 (O i 20), U i6 (O i 21), U i6 x0, U i6 y0, U i6 z0, U i6 H, U i6 V, U i6 C]) (t := 45)
 have HZ : Hid ((w1.alloc (.cells #[U i6 (O i 0), U i6 (O i 1), U i6 (O i 2), U i6 (O i 3), U i6 (O i 4), U i6 (O i 5), U i6 (O i 6), U i6 (O i 7), U i6 (O i 8), U i6 (O i 9), U i6 (O i 10), U i6 (O i 11), .slice wa lw cw, .slice ba lb cb, U i6 (O i 14), U i6 (O i 15), U i6 (O i 16), U i6 (O i 17), U i6 (O i 18), U i6 (O i 19), U i6 (O i 20), U i6 (O i 21), U i6 x0, U i6 y0, U i6 z0, U i6 H, U i6 V, U i6 C] 45)).heap[W.heap.size + 1]? = some (.cells #[U i6 0, U i6 0, U i6 0, U i6 0, U i6 0, U i6 0, U i6 0, U i6 0, U i6 0, U i6 0, U i6 0, U i6 0, .slice none 0 0, .slice none 0 0, U i6 0, U i6 0, U i6 0, U i6 0, U i6 0, U i6 0, U i6 0, U i6 0, U i6 0, U i6 0, U i6 0, U i6 0, U i6 0, U i6 0] 45 (0, 0))) := s1.h2
 have hB1 : Hid (Below W.heap.size W (w1.alloc (.cells #[U i6 (O i 0), U i6 (O i 1), U i6 (O i 2), U i6 (O i 3), U i6 (O i 4), U i6 (O i 5), U i6 (O i 6), U i6 (O i 7), U i6 (O i 8), U i6 (O i 9), U i6 (O i 10), U i6 (O i 11), .slice wa lw cw, .slice ba lb cb, U i6 (O i 14), U i6 (O i 15), U i6 (O i 16), U i6 (O i 17), U i6 (O i 18), U i6 (O i 19), U i6 (O i 20), U i6 (O i 21), U i6 x0, U i6 y0, U i6 z0, U i6 H, U i6 V, U i6 C] 45))) := s1.below
 clear hb s1 s0
 go_wp2_with (first
  | (refine wpList_st_new rfl 45 (.tmp 8) (.tmp 15) rfl w1 _ #[U i6 (O i 0), U i6 (O i 1), U i6 (O i 2), U i6 (O i 3), U i6 (O i 4), U i6 (O i 5), U i6 (O i 6), U i6 (O i 7), U i6 (O i 8), U i6 (O i 9), U i6 (O i 10), U i6 (O i 11), .slice wa lw cw, .slice ba lb cb, U i6 (O i 14), U i6 (O i 15), U i6 (O i 16), U i6 (O i 17), U i6 (O i 18), U i6 (O i 19), U i6 (O i 20), U i6 (O i 21), U i6 x0, U i6 y0, U i6 z0, U i6 H, U i6 V, U i6 C] rfl rfl (by kernel_rfl) rfl (by simp [Value.oneCell']) ?_)
  | (refine wpList_store_row rfl 45 (.tmp 6) (.tmp 23) rfl (W.heap.size + 1) #[U i6 0, U i6 0, U i6 0, U i6 0, U i6 0, U i6 0, U i6 0, U i6 0, U i6 0, U i6 0, U i6 0, U i6 0, .slice none 0 0, .slice none 0 0, U i6 0, U i6 0, U i6 0, U i6 0, U i6 0, U i6 0, U i6 0, U i6 0, U i6 0, U i6 0, U i6 0, U i6 0, U i6 0, U i6 0] rfl rfl 45 #[U i6 0, U i6 0, U i6 0, U i6 0, U i6 0, U i6 0, U i6 0, U i6 0, U i6 0, U i6 0, U i6 0, U i6 0, .slice none 0 0, .slice none 0 0, U i6 0, U i6 0, U i6 0, U i6 0, U i6 0, U i6 0, U i6 0, U i6 0, U i6 0, U i6 0, U i6 0, U i6 0, U i6 0, U i6 0] HZ.out (by kernel_rfl) rfl (by simp [Value.oneCell']) ?_; have hZ' := setRow_heap _ (W.heap.size + 1) #[U i6 0, U i6 0, U i6 0, U i6 0, U i6 0, U i6 0, U i6 0, U i6 0, U i6 0, U i6 0, U i6 0, U i6 0, .slice none 0 0, .slice none 0 0, U i6 0, U i6 0, U i6 0, U i6 0, U i6 0, U i6 0, U i6 0, U i6 0, U i6 0, U i6 0, U i6 0, U i6 0, U i6 0, U i6 0] #[U i6 0, U i6 0, U i6 0, U i6 0, U i6 0, U i6 0, U i6 0, U i6 0, U i6 0, U i6 0, U i6 0, U i6 0, .slice none 0 0, .slice none 0 0, U i6 0, U i6 0, U i6 0, U i6 0, U i6 0, U i6 0, U i6 0, U i6 0, U i6 0, U i6 0, U i6 0, U i6 0, U i6 0, U i6 0] 45 (0, 0) HZ.out; have hB' : Hid (Below W.heap.size W (_ : World)) := below_setRow hB1.out (show W.heap.size ≤ W.heap.size + 1 by omega) #[U i6 0, U i6 0, U i6 0, U i6 0, U i6 0, U i6 0, U i6 0, U i6 0, U i6 0, U i6 0, U i6 0, U i6 0, .slice none 0 0, .slice none 0 0, U i6 0, U i6 0, U i6 0, U i6 0, U i6 0, U i6 0, U i6 0, U i6 0, U i6 0, U i6 0, U i6 0, U i6 0, U i6 0, U i6 0]; generalize World.setRow _ _ _ = w5 at hZ' hB' ⊢))
 exact bodyPost_ret (results_row_tmp Tryz.results18 _ _ (W.heap.size + 1) 45 _ _ (U i6 3) rfl hZ' Tryz.underlying45 rfl (by kernel_rfl) rfl) rfl ⟨rfl, hB'.out⟩
theorem rvb_any (lo hi : Int) (W : World) :
  Calls Tryz.prog 19 #[.agg #[U i6 lo, U i6 hi]] W fun e w' => e = .returned (.bool (vbB lo hi)) ∧ Below W.heap.size W w' := by
 by_cases c1 : -128 ≤ lo
 ·by_cases c2 : lo ≤ hi
  ·by_cases c3 : hi ≤ 127
   ·have HR : Hid (true = vbB lo hi) := by unfold Hid vbB; simp [c1, c2, c3]
    go_enter Tryz.func19, Tryz.ntmps19
    go_wp2
    go_ret
    exact ⟨by rw [← HR.out]; rfl, (Below.refl _ _).alloc (Nat.le_refl _) _⟩
   ·have HR : Hid (false = vbB lo hi) := by unfold Hid vbB; simp [c3]
    go_enter Tryz.func19, Tryz.ntmps19
    go_wp2
    go_ret
    exact ⟨by rw [← HR.out]; rfl, (Below.refl _ _).alloc (Nat.le_refl _) _⟩
  ·have HR : Hid (false = vbB lo hi) := by unfold Hid vbB; simp [c2]
   go_enter Tryz.func19, Tryz.ntmps19
   go_wp2
   go_ret
   exact ⟨by rw [← HR.out]; rfl, (Below.refl _ _).alloc (Nat.le_refl _) _⟩
 ·have HR : Hid (false = vbB lo hi) := by unfold Hid vbB; simp [c1]
  go_enter Tryz.func19, Tryz.ntmps19
  go_wp2
  go_ret
  exact ⟨by rw [← HR.out]; rfl, (Below.refl _ _).alloc (Nat.le_refl _) _⟩
theorem rfi13_e (k a b m kh kw sh sw tp lf bt rt : Int) (wa : Option Addr) (lw wc : Nat) (ba : Option Addr) (lb bc : Nat) (sm ss um us z p l2 h2 x0 y0 z0 H V C : Int) (h w c lo hi ot : Int) (oa : Option Addr) (on oc : Nat) (W : World) (op ch slo shi E : Int) (hE : E ≠ 0)
  (hK : ∀ W', Below W.heap.size W W' → Calls Tryz.prog 18 #[.agg #[U i6 h, U i6 w, U i6 c, U i6 lo, U i6 hi, .slice oa on oc, U i6 ot], U i6 op, U i6 ch] W' fun e w' => e = .returned (.tuple #[.agg #[U i6 k, U i6 a, U i6 b, U i6 m, U i6 kh, U i6 kw, U i6 sh, U i6 sw, U i6 tp, U i6 lf, U i6 bt, U i6 rt, .slice wa lw wc, .slice ba lb bc, U i6 sm, U i6 ss, U i6 um, U i6 us, U i6 z, U i6 p, U i6 l2, U i6 h2, U i6 x0, U i6 y0, U i6 z0, U i6 H, U i6 V, U i6 C], U i6 E]) ∧ Below W'.heap.size W' w') :
  Calls Tryz.prog 7 #[.agg #[U i6 h, U i6 w, U i6 c, U i6 lo, U i6 hi, .slice oa on oc, U i6 ot], U i6 op, U i6 ch, .agg #[U i6 slo, U i6 shi]] W fun e w' => e = .returned (.tuple #[.agg #[U i6 k, U i6 a, U i6 b, U i6 m, U i6 kh, U i6 kw, U i6 sh, U i6 sw, U i6 tp, U i6 lf, U i6 bt, U i6 rt, .slice wa lw wc, .slice ba lb bc, U i6 sm, U i6 ss, U i6 um, U i6 us, U i6 z, U i6 p, U i6 l2, U i6 h2, U i6 x0, U i6 y0, U i6 z0, U i6 H, U i6 V, U i6 C], U i6 E]) ∧ Below W.heap.size W w' := by
 have s0 := (((St.start W).new (c := #[U i6 h, U i6 w, U i6 c, U i6 lo, U i6 hi, .slice oa on oc, U i6 ot]) (t := 26)).new (c := #[U i6 slo, U i6 shi]) (t := 28)).new (c := #[U i6 0, U i6 0, U i6 0, U i6 0, U i6 0, U i6 0, U i6 0, U i6 0, U i6 0, U i6 0, U i6 0, U i6 0, .slice none 0 0, .slice none 0 0, U i6 0, U i6 0, U i6 0, U i6 0, U i6 0, U i6 0, U i6 0, U i6 0, U i6 0, U i6 0, U i6 0, U i6 0, U i6 0, U i6 0]) (t := 45)
 simp only [World.size_alloc] at s0
 have HK : Hid (∀ W', _) := hK
 have hE' : (E == 0) = false := by simp [hE]
 clear hK
 go_enter Tryz.func7, Tryz.ntmps7
 go_wp2_with fail
 refine (HK.out _ s0.below).mono ?_
 rintro e w1 ⟨rfl, hb⟩
 have s1 := (s0.call hb).new (c := #[U i6 k, U i6 a, U i6 b, U i6 m, U i6 kh, U i6 kw, U i6 sh, U i6 sw, U i6 tp, U i6 lf, U i6 bt, U i6 rt, .slice wa lw wc, .slice ba lb bc, U i6 sm, U i6 ss, U i6 um, U i6 us, U i6 z, U i6 p, U i6 l2, U i6 h2, U i6 x0, U i6 y0, U i6 z0, U i6 H, U i6 V, U i6 C]) (t := 45)
 have hR1 := s1.h1
 have HZ : Hid ((w1.alloc (.cells #[U i6 k, U i6 a, U i6 b, U i6 m, U i6 kh, U i6 kw, U i6 sh, U i6 sw, U i6 tp, U i6 lf, U i6 bt, U i6 rt, .slice wa lw wc, .slice ba lb bc, U i6 sm, U i6 ss, U i6 um, U i6 us, U i6 z, U i6 p, U i6 l2, U i6 h2, U i6 x0, U i6 y0, U i6 z0, U i6 H, U i6 V, U i6 C] 45)).heap[W.heap.size + 1 + 1]? = some (.cells #[U i6 0, U i6 0, U i6 0, U i6 0, U i6 0, U i6 0, U i6 0, U i6 0, U i6 0, U i6 0, U i6 0, U i6 0, .slice none 0 0, .slice none 0 0, U i6 0, U i6 0, U i6 0, U i6 0, U i6 0, U i6 0, U i6 0, U i6 0, U i6 0, U i6 0, U i6 0, U i6 0, U i6 0, U i6 0] 45 (0, 0))) := s1.h2
 have hB1 : Hid (Below W.heap.size W (w1.alloc (.cells #[U i6 k, U i6 a, U i6 b, U i6 m, U i6 kh, U i6 kw, U i6 sh, U i6 sw, U i6 tp, U i6 lf, U i6 bt, U i6 rt, .slice wa lw wc, .slice ba lb bc, U i6 sm, U i6 ss, U i6 um, U i6 us, U i6 z, U i6 p, U i6 l2, U i6 h2, U i6 x0, U i6 y0, U i6 z0, U i6 H, U i6 V, U i6 C] 45))) := s1.below
 clear hb s1 s0
 go_wp2_with (first
  | (refine wpList_st_new rfl 45 (.tmp 10) (.tmp 17) rfl w1 _ #[U i6 k, U i6 a, U i6 b, U i6 m, U i6 kh, U i6 kw, U i6 sh, U i6 sw, U i6 tp, U i6 lf, U i6 bt, U i6 rt, .slice wa lw wc, .slice ba lb bc, U i6 sm, U i6 ss, U i6 um, U i6 us, U i6 z, U i6 p, U i6 l2, U i6 h2, U i6 x0, U i6 y0, U i6 z0, U i6 H, U i6 V, U i6 C] rfl rfl (by kernel_rfl) rfl (by simp [Value.oneCell']) ?_)
  | (refine wpList_load_row rfl 45 (.tmp 10) rfl w1.heap.size rfl 45 _ (0, 0) _ hR1 Tryz.underlying45 rfl (by kernel_rfl) ?_)
  | (refine wpList_store_row rfl 45 (.tmp 8) (.tmp 26) rfl (W.heap.size + 1 + 1) #[U i6 k, U i6 a, U i6 b, U i6 m, U i6 kh, U i6 kw, U i6 sh, U i6 sw, U i6 tp, U i6 lf, U i6 bt, U i6 rt, .slice wa lw wc, .slice ba lb bc, U i6 sm, U i6 ss, U i6 um, U i6 us, U i6 z, U i6 p, U i6 l2, U i6 h2, U i6 x0, U i6 y0, U i6 z0, U i6 H, U i6 V, U i6 C] rfl rfl 45 #[U i6 0, U i6 0, U i6 0, U i6 0, U i6 0, U i6 0, U i6 0, U i6 0, U i6 0, U i6 0, U i6 0, U i6 0, .slice none 0 0, .slice none 0 0, U i6 0, U i6 0, U i6 0, U i6 0, U i6 0, U i6 0, U i6 0, U i6 0, U i6 0, U i6 0, U i6 0, U i6 0, U i6 0, U i6 0] HZ.out (by kernel_rfl) rfl (by simp [Value.oneCell']) ?_; have hZ' := setRow_heap _ (W.heap.size + 1 + 1) #[U i6 0, U i6 0, U i6 0, U i6 0, U i6 0, U i6 0, U i6 0, U i6 0, U i6 0, U i6 0, U i6 0, U i6 0, .slice none 0 0, .slice none 0 0, U i6 0, U i6 0, U i6 0, U i6 0, U i6 0, U i6 0, U i6 0, U i6 0, U i6 0, U i6 0, U i6 0, U i6 0, U i6 0, U i6 0] #[U i6 k, U i6 a, U i6 b, U i6 m, U i6 kh, U i6 kw, U i6 sh, U i6 sw, U i6 tp, U i6 lf, U i6 bt, U i6 rt, .slice wa lw wc, .slice ba lb bc, U i6 sm, U i6 ss, U i6 um, U i6 us, U i6 z, U i6 p, U i6 l2, U i6 h2, U i6 x0, U i6 y0, U i6 z0, U i6 H, U i6 V, U i6 C] 45 (0, 0) HZ.out; have hB' : Hid (Below W.heap.size W (_ : World)) := below_setRow hB1.out (show W.heap.size ≤ W.heap.size + 1 + 1 by omega) #[U i6 k, U i6 a, U i6 b, U i6 m, U i6 kh, U i6 kw, U i6 sh, U i6 sw, U i6 tp, U i6 lf, U i6 bt, U i6 rt, .slice wa lw wc, .slice ba lb bc, U i6 sm, U i6 ss, U i6 um, U i6 us, U i6 z, U i6 p, U i6 l2, U i6 h2, U i6 x0, U i6 y0, U i6 z0, U i6 H, U i6 V, U i6 C]; clear hR1; generalize World.setRow _ _ _ = w5 at hZ' hB' ⊢))
 exact bodyPost_ret (results_row_tmp Tryz.results7 _ _ (W.heap.size + 1 + 1) 45 _ _ (U i6 E) rfl hZ' Tryz.underlying45 rfl (by kernel_rfl) rfl) rfl ⟨rfl, hB'.out⟩
theorem rfi13_ok (k a b m kh kw sh sw tp lf bt rt : Int) (wa : Option Addr) (lw wc : Nat) (ba : Option Addr) (lb bc : Nat) (sm ss um us z p l2 h2 x0 y0 z0 H V C : Int) (h w c lo hi ot : Int) (oa : Option Addr) (on oc : Nat) (W : World) (op ch slo shi : Int) (hv : vbB slo shi = true)
  (hK : ∀ W', Below W.heap.size W W' → Calls Tryz.prog 18 #[.agg #[U i6 h, U i6 w, U i6 c, U i6 lo, U i6 hi, .slice oa on oc, U i6 ot], U i6 op, U i6 ch] W' fun e w' => e = .returned (.tuple #[.agg #[U i6 k, U i6 a, U i6 b, U i6 m, U i6 kh, U i6 kw, U i6 sh, U i6 sw, U i6 tp, U i6 lf, U i6 bt, U i6 rt, .slice wa lw wc, .slice ba lb bc, U i6 sm, U i6 ss, U i6 um, U i6 us, U i6 z, U i6 p, U i6 l2, U i6 h2, U i6 x0, U i6 y0, U i6 z0, U i6 H, U i6 V, U i6 C], U i6 0]) ∧ Below W'.heap.size W' w') :
  Calls Tryz.prog 7 #[.agg #[U i6 h, U i6 w, U i6 c, U i6 lo, U i6 hi, .slice oa on oc, U i6 ot], U i6 op, U i6 ch, .agg #[U i6 slo, U i6 shi]] W fun e w' => e = .returned (.tuple #[.agg #[U i6 k, U i6 a, U i6 b, U i6 m, U i6 kh, U i6 kw, U i6 sh, U i6 sw, U i6 tp, U i6 lf, U i6 bt, U i6 rt, .slice wa lw wc, .slice ba lb bc, U i6 sm, U i6 ss, U i6 um, U i6 us, U i6 z, U i6 p, U i6 l2, U i6 h2, U i6 x0, U i6 y0, U i6 z0, U i6 H, U i6 V, U i6 C], U i6 0]) ∧ Below W.heap.size W w' := by
 have s0 := (((St.start W).new (c := #[U i6 h, U i6 w, U i6 c, U i6 lo, U i6 hi, .slice oa on oc, U i6 ot]) (t := 26)).new (c := #[U i6 slo, U i6 shi]) (t := 28)).new (c := #[U i6 0, U i6 0, U i6 0, U i6 0, U i6 0, U i6 0, U i6 0, U i6 0, U i6 0, U i6 0, U i6 0, U i6 0, .slice none 0 0, .slice none 0 0, U i6 0, U i6 0, U i6 0, U i6 0, U i6 0, U i6 0, U i6 0, U i6 0, U i6 0, U i6 0, U i6 0, U i6 0, U i6 0, U i6 0]) (t := 45)
 simp only [World.size_alloc] at s0
 have HK : Hid (∀ W', _) := hK
 have HV : Hid (∀ w, _) := fun w => rvb_any slo shi w
 rw [hv] at HV
 clear hK
 go_enter Tryz.func7, Tryz.ntmps7
 go_wp2_with fail
 refine (HK.out _ s0.below).mono ?_
 rintro e w1 ⟨rfl, hb⟩
 have s1 := (s0.call hb).new (c := #[U i6 k, U i6 a, U i6 b, U i6 m, U i6 kh, U i6 kw, U i6 sh, U i6 sw, U i6 tp, U i6 lf, U i6 bt, U i6 rt, .slice wa lw wc, .slice ba lb bc, U i6 sm, U i6 ss, U i6 um, U i6 us, U i6 z, U i6 p, U i6 l2, U i6 h2, U i6 x0, U i6 y0, U i6 z0, U i6 H, U i6 V, U i6 C]) (t := 45)
 clear hb s0
 obtain ⟨-, -, -, -, -, -, c3, f3, z3, -⟩ := s1.rules
 go_wp2_with (refine wpList_st_new rfl 45 (.tmp 10) (.tmp 17) rfl w1 _ #[U i6 k, U i6 a, U i6 b, U i6 m, U i6 kh, U i6 kw, U i6 sh, U i6 sw, U i6 tp, U i6 lf, U i6 bt, U i6 rt, .slice wa lw wc, .slice ba lb bc, U i6 sm, U i6 ss, U i6 um, U i6 us, U i6 z, U i6 p, U i6 l2, U i6 h2, U i6 x0, U i6 y0, U i6 z0, U i6 H, U i6 V, U i6 C] rfl rfl (by kernel_rfl) rfl (by simp [Value.oneCell']) ?_)
 refine (HV.out _).mono ?_
 rintro e w2 ⟨rfl, hb⟩
 have s2 := s1.call hb
 obtain ⟨B, hB⟩ : ∃ B, w1.heap.size = B := ⟨_, rfl⟩
 rw [hB] at s2 ⊢
 have hR1 := s2.h1
 have HZ : Hid (w2.heap[W.heap.size + 1 + 1]? = some (.cells #[U i6 0, U i6 0, U i6 0, U i6 0, U i6 0, U i6 0, U i6 0, U i6 0, U i6 0, U i6 0, U i6 0, U i6 0, .slice none 0 0, .slice none 0 0, U i6 0, U i6 0, U i6 0, U i6 0, U i6 0, U i6 0, U i6 0, U i6 0, U i6 0, U i6 0, U i6 0, U i6 0, U i6 0, U i6 0] 45 (0, 0))) := s2.h2
 have hB1 : Hid (Below W.heap.size W w2) := s2.below
 clear hb s1 s2 c3 f3 z3 hB
 go_wp2_with (first
  | (refine wpList_load_row rfl 45 (.tmp 10) rfl B rfl 45 _ (0, 0) _ hR1 Tryz.underlying45 rfl (by kernel_rfl) ?_)
  | (refine wpList_store_row rfl 45 (.tmp 8) (.tmp 26) rfl (W.heap.size + 1 + 1) #[U i6 k, U i6 a, U i6 b, U i6 m, U i6 kh, U i6 kw, U i6 sh, U i6 sw, U i6 tp, U i6 lf, U i6 bt, U i6 rt, .slice wa lw wc, .slice ba lb bc, U i6 sm, U i6 ss, U i6 um, U i6 us, U i6 z, U i6 p, U i6 l2, U i6 h2, U i6 x0, U i6 y0, U i6 z0, U i6 H, U i6 V, U i6 C] rfl rfl 45 #[U i6 0, U i6 0, U i6 0, U i6 0, U i6 0, U i6 0, U i6 0, U i6 0, U i6 0, U i6 0, U i6 0, U i6 0, .slice none 0 0, .slice none 0 0, U i6 0, U i6 0, U i6 0, U i6 0, U i6 0, U i6 0, U i6 0, U i6 0, U i6 0, U i6 0, U i6 0, U i6 0, U i6 0, U i6 0] HZ.out (by kernel_rfl) rfl (by simp [Value.oneCell']) ?_; have hZ' := setRow_heap _ (W.heap.size + 1 + 1) #[U i6 0, U i6 0, U i6 0, U i6 0, U i6 0, U i6 0, U i6 0, U i6 0, U i6 0, U i6 0, U i6 0, U i6 0, .slice none 0 0, .slice none 0 0, U i6 0, U i6 0, U i6 0, U i6 0, U i6 0, U i6 0, U i6 0, U i6 0, U i6 0, U i6 0, U i6 0, U i6 0, U i6 0, U i6 0] #[U i6 k, U i6 a, U i6 b, U i6 m, U i6 kh, U i6 kw, U i6 sh, U i6 sw, U i6 tp, U i6 lf, U i6 bt, U i6 rt, .slice wa lw wc, .slice ba lb bc, U i6 sm, U i6 ss, U i6 um, U i6 us, U i6 z, U i6 p, U i6 l2, U i6 h2, U i6 x0, U i6 y0, U i6 z0, U i6 H, U i6 V, U i6 C] 45 (0, 0) HZ.out; have hB' : Hid (Below W.heap.size W (_ : World)) := below_setRow hB1.out (show W.heap.size ≤ W.heap.size + 1 + 1 by omega) #[U i6 k, U i6 a, U i6 b, U i6 m, U i6 kh, U i6 kw, U i6 sh, U i6 sw, U i6 tp, U i6 lf, U i6 bt, U i6 rt, .slice wa lw wc, .slice ba lb bc, U i6 sm, U i6 ss, U i6 um, U i6 us, U i6 z, U i6 p, U i6 l2, U i6 h2, U i6 x0, U i6 y0, U i6 z0, U i6 H, U i6 V, U i6 C]; clear hR1; generalize World.setRow _ _ _ = w5 at hZ' hB' ⊢))
 exact bodyPost_ret (results_row_tmp Tryz.results7 _ _ (W.heap.size + 1 + 1) 45 _ _ (U i6 0) rfl hZ' Tryz.underlying45 rfl (by kernel_rfl) rfl) rfl ⟨rfl, hB'.out⟩
theorem rfi13_no (k a b m kh kw sh sw tp lf bt rt : Int) (wa : Option Addr) (lw wc : Nat) (ba : Option Addr) (lb bc : Nat) (sm ss um us z p l2 h2 x0 y0 z0 H V C : Int) (h w c lo hi ot : Int) (oa : Option Addr) (on oc : Nat) (W : World) (op ch slo shi : Int) (hv : vbB slo shi = false)
  (hK : ∀ W', Below W.heap.size W W' → Calls Tryz.prog 18 #[.agg #[U i6 h, U i6 w, U i6 c, U i6 lo, U i6 hi, .slice oa on oc, U i6 ot], U i6 op, U i6 ch] W' fun e w' => e = .returned (.tuple #[.agg #[U i6 k, U i6 a, U i6 b, U i6 m, U i6 kh, U i6 kw, U i6 sh, U i6 sw, U i6 tp, U i6 lf, U i6 bt, U i6 rt, .slice wa lw wc, .slice ba lb bc, U i6 sm, U i6 ss, U i6 um, U i6 us, U i6 z, U i6 p, U i6 l2, U i6 h2, U i6 x0, U i6 y0, U i6 z0, U i6 H, U i6 V, U i6 C], U i6 0]) ∧ Below W'.heap.size W' w') :
  Calls Tryz.prog 7 #[.agg #[U i6 h, U i6 w, U i6 c, U i6 lo, U i6 hi, .slice oa on oc, U i6 ot], U i6 op, U i6 ch, .agg #[U i6 slo, U i6 shi]] W fun e w' => e = .returned (.tuple #[.agg #[U i6 k, U i6 a, U i6 b, U i6 m, U i6 kh, U i6 kw, U i6 sh, U i6 sw, U i6 tp, U i6 lf, U i6 bt, U i6 rt, .slice wa lw wc, .slice ba lb bc, U i6 sm, U i6 ss, U i6 um, U i6 us, U i6 z, U i6 p, U i6 l2, U i6 h2, U i6 x0, U i6 y0, U i6 z0, U i6 H, U i6 V, U i6 C], U i6 30]) ∧ Below W.heap.size W w' := by
 have s0 := (((St.start W).new (c := #[U i6 h, U i6 w, U i6 c, U i6 lo, U i6 hi, .slice oa on oc, U i6 ot]) (t := 26)).new (c := #[U i6 slo, U i6 shi]) (t := 28)).new (c := #[U i6 0, U i6 0, U i6 0, U i6 0, U i6 0, U i6 0, U i6 0, U i6 0, U i6 0, U i6 0, U i6 0, U i6 0, .slice none 0 0, .slice none 0 0, U i6 0, U i6 0, U i6 0, U i6 0, U i6 0, U i6 0, U i6 0, U i6 0, U i6 0, U i6 0, U i6 0, U i6 0, U i6 0, U i6 0]) (t := 45)
 simp only [World.size_alloc] at s0
 have HK : Hid (∀ W', _) := hK
 have HV : Hid (∀ w, _) := fun w => rvb_any slo shi w
 rw [hv] at HV
 clear hK
 go_enter Tryz.func7, Tryz.ntmps7
 go_wp2_with fail
 refine (HK.out _ s0.below).mono ?_
 rintro e w1 ⟨rfl, hb⟩
 have s1 := (s0.call hb).new (c := #[U i6 k, U i6 a, U i6 b, U i6 m, U i6 kh, U i6 kw, U i6 sh, U i6 sw, U i6 tp, U i6 lf, U i6 bt, U i6 rt, .slice wa lw wc, .slice ba lb bc, U i6 sm, U i6 ss, U i6 um, U i6 us, U i6 z, U i6 p, U i6 l2, U i6 h2, U i6 x0, U i6 y0, U i6 z0, U i6 H, U i6 V, U i6 C]) (t := 45)
 clear hb s0
 obtain ⟨-, -, -, -, -, -, c3, f3, z3, -⟩ := s1.rules
 go_wp2_with (refine wpList_st_new rfl 45 (.tmp 10) (.tmp 17) rfl w1 _ #[U i6 k, U i6 a, U i6 b, U i6 m, U i6 kh, U i6 kw, U i6 sh, U i6 sw, U i6 tp, U i6 lf, U i6 bt, U i6 rt, .slice wa lw wc, .slice ba lb bc, U i6 sm, U i6 ss, U i6 um, U i6 us, U i6 z, U i6 p, U i6 l2, U i6 h2, U i6 x0, U i6 y0, U i6 z0, U i6 H, U i6 V, U i6 C] rfl rfl (by kernel_rfl) rfl (by simp [Value.oneCell']) ?_)
 refine (HV.out _).mono ?_
 rintro e w2 ⟨rfl, hb⟩
 have s2 := s1.call hb
 obtain ⟨B, hB⟩ : ∃ B, w1.heap.size = B := ⟨_, rfl⟩
 rw [hB] at s2 ⊢
 have hR1 := s2.h1
 have HZ : Hid (w2.heap[W.heap.size + 1 + 1]? = some (.cells #[U i6 0, U i6 0, U i6 0, U i6 0, U i6 0, U i6 0, U i6 0, U i6 0, U i6 0, U i6 0, U i6 0, U i6 0, .slice none 0 0, .slice none 0 0, U i6 0, U i6 0, U i6 0, U i6 0, U i6 0, U i6 0, U i6 0, U i6 0, U i6 0, U i6 0, U i6 0, U i6 0, U i6 0, U i6 0] 45 (0, 0))) := s2.h2
 have hB1 : Hid (Below W.heap.size W w2) := s2.below
 clear hb s1 s2 c3 f3 z3 hB
 go_wp2_with (first
  | (refine wpList_load_row rfl 45 (.tmp 10) rfl B rfl 45 _ (0, 0) _ hR1 Tryz.underlying45 rfl (by kernel_rfl) ?_)
  | (refine wpList_store_row rfl 45 (.tmp 8) (.tmp 26) rfl (W.heap.size + 1 + 1) #[U i6 k, U i6 a, U i6 b, U i6 m, U i6 kh, U i6 kw, U i6 sh, U i6 sw, U i6 tp, U i6 lf, U i6 bt, U i6 rt, .slice wa lw wc, .slice ba lb bc, U i6 sm, U i6 ss, U i6 um, U i6 us, U i6 z, U i6 p, U i6 l2, U i6 h2, U i6 x0, U i6 y0, U i6 z0, U i6 H, U i6 V, U i6 C] rfl rfl 45 #[U i6 0, U i6 0, U i6 0, U i6 0, U i6 0, U i6 0, U i6 0, U i6 0, U i6 0, U i6 0, U i6 0, U i6 0, .slice none 0 0, .slice none 0 0, U i6 0, U i6 0, U i6 0, U i6 0, U i6 0, U i6 0, U i6 0, U i6 0, U i6 0, U i6 0, U i6 0, U i6 0, U i6 0, U i6 0] HZ.out (by kernel_rfl) rfl (by simp [Value.oneCell']) ?_; have hZ' := setRow_heap _ (W.heap.size + 1 + 1) #[U i6 0, U i6 0, U i6 0, U i6 0, U i6 0, U i6 0, U i6 0, U i6 0, U i6 0, U i6 0, U i6 0, U i6 0, .slice none 0 0, .slice none 0 0, U i6 0, U i6 0, U i6 0, U i6 0, U i6 0, U i6 0, U i6 0, U i6 0, U i6 0, U i6 0, U i6 0, U i6 0, U i6 0, U i6 0] #[U i6 k, U i6 a, U i6 b, U i6 m, U i6 kh, U i6 kw, U i6 sh, U i6 sw, U i6 tp, U i6 lf, U i6 bt, U i6 rt, .slice wa lw wc, .slice ba lb bc, U i6 sm, U i6 ss, U i6 um, U i6 us, U i6 z, U i6 p, U i6 l2, U i6 h2, U i6 x0, U i6 y0, U i6 z0, U i6 H, U i6 V, U i6 C] 45 (0, 0) HZ.out; have hB' : Hid (Below W.heap.size W (_ : World)) := below_setRow hB1.out (show W.heap.size ≤ W.heap.size + 1 + 1 by omega) #[U i6 k, U i6 a, U i6 b, U i6 m, U i6 kh, U i6 kw, U i6 sh, U i6 sw, U i6 tp, U i6 lf, U i6 bt, U i6 rt, .slice wa lw wc, .slice ba lb bc, U i6 sm, U i6 ss, U i6 um, U i6 us, U i6 z, U i6 p, U i6 l2, U i6 h2, U i6 x0, U i6 y0, U i6 z0, U i6 H, U i6 V, U i6 C]; clear hR1; generalize World.setRow _ _ _ = w5 at hZ' hB' ⊢))
 exact bodyPost_ret (results_row_tmp Tryz.results7 _ _ (W.heap.size + 1 + 1) 45 _ _ (U i6 30) rfl hZ' Tryz.underlying45 rfl (by kernel_rfl) rfl) rfl ⟨rfl, hB'.out⟩
theorem rask (h w c lo hi ot : Int) (oa : Option Addr) (on oc : Nat) (O : Nat → Nat → Int) (Z B : Nat → List Int) (W : World) (hL : LRow W oa on oc O Z B) (hon : on ≤ 1000000000000) (op ch : Int) :
  (∃ E : Int, E ≠ 0 ∧ (∀ W', Below W.heap.size W W' → Calls Tryz.prog 51 #[.agg #[U i6 h, U i6 w, U i6 c, U i6 lo, U i6 hi, .slice oa on oc, U i6 ot], U i6 op, U i6 ch, U i6 0] W' fun e w' => e = .returned (.tuple #[.slice none 0 0, U i6 0, U i6 E]) ∧ Below W'.heap.size W' w') ∧
    (∀ W', Below W.heap.size W W' → Calls Tryz.prog 18 #[.agg #[U i6 h, U i6 w, U i6 c, U i6 lo, U i6 hi, .slice oa on oc, U i6 ot], U i6 op, U i6 ch] W' fun e w' => e = .returned (.tuple #[.agg #[U i6 0, U i6 0, U i6 0, U i6 0, U i6 0, U i6 0, U i6 0, U i6 0, U i6 0, U i6 0, U i6 0, U i6 0, .slice none 0 0, .slice none 0 0, U i6 0, U i6 0, U i6 0, U i6 0, U i6 0, U i6 0, U i6 0, U i6 0, U i6 0, U i6 0, U i6 0, U i6 0, U i6 0, U i6 0], U i6 E]) ∧ Below W'.heap.size W' w')) ∨
  (∃ (RL : List (Int × Int × Int)) (Rw : Int), gtR O h w c lo hi ot on = (0, 0, RL, Rw) ∧ ∃ (i : Nat) (x : Addr) (wa : Option Addr) (lw cw : Nat) (ba : Option Addr) (lb cb : Nat) (x0 y0 z0 H V C : Int), op = (i : Int) + 1 ∧ Fnd W oa on O Z B RL i x wa lw cw ba lb cb x0 y0 z0 H V C ∧ (1 ≤ ch ∧ ch ≤ C)) := by
 obtain ⟨E, hf⟩ : ∃ E, fiE O h w c lo hi ot on op = E := ⟨_, rfl⟩
 by_cases hE : E = 0
 ·subst hE
  obtain ⟨RL, Rw, hR, i, x, wa, lw, cw, ba, lb, cb, x0, y0, z0, H, V, C, rfl, hF⟩ := found h w c lo hi ot oa on oc O Z B W hL op hf
  by_cases hch : 1 ≤ ch ∧ ch ≤ C
  ·exact .inr ⟨RL, Rw, hR, i, x, wa, lw, cw, ba, lb, cb, x0, y0, z0, H, V, C, rfl, hF, hch⟩
  ·refine .inl ⟨3, by omega, fun W' hb => of_place h w c lo hi ot oa on oc O Z B W' (hL.below hb) ch 0 RL Rw hR i x wa lw cw ba lb cb x0 y0 z0 H V C (hF.below hb) (fun q => hch q.1), fun W' hb => ?_⟩
   by_cases h0 : 0 ≤ ch ∧ ch ≤ C
   ·obtain rfl : ch = 0 := by omega
    exact fch_0 (O := O) (i := i) (x := x) (wa := wa) (lw := lw) (cw := cw) (ba := ba) (lb := lb) (cb := cb) (x0 := x0) (y0 := y0) (z0 := z0) (H := H) (V := V) (C := C) h w c lo hi ot oa on oc W' ((i : Int) + 1) (fun W'' hb' => rfind_ok h w c lo hi ot oa on oc O Z B W'' (hL.below (hb.trans (hb'.mono hb.size))) hon 0 RL Rw hR i x wa lw cw ba lb cb x0 y0 z0 H V C (hF.below (hb.trans (hb'.mono hb.size))) h0)
   ·exact fch_z (x9 := 0) h w c lo hi ot oa on oc W' ((i : Int) + 1) ch 3 (by omega) (fun W'' hb' => rfind_no h w c lo hi ot oa on oc O Z B W'' (hL.below (hb.trans (hb'.mono hb.size))) hon ch RL Rw hR i x wa lw cw ba lb cb x0 y0 z0 H V C (hF.below (hb.trans (hb'.mono hb.size))) h0)
 ·exact .inl ⟨E, hE, fun W' hb => of_bad h w c lo hi ot oa on oc O Z B W' (hL.below hb) op ch 0 E hf hE, fun W' hb => fch_z (x9 := 0) h w c lo hi ot oa on oc W' op ch E (by omega) (fun W'' hb' => rfind_bad h w c lo hi ot oa on oc O Z B W'' (hL.below (hb.trans (hb'.mono hb.size))) hon op ch E hf hE)⟩
theorem rfc_ok (h w c lo hi ot : Int) (oa : Option Addr) (on oc : Nat) (O : Nat → Nat → Int) (Z B : Nat → List Int) (W : World) (hL : LRow W oa on oc O Z B) (hon : on ≤ 1000000000000) (ch : Int) (RL : List (Int × Int × Int)) (Rw : Int) (hR : gtR O h w c lo hi ot on = (0, 0, RL, Rw)) (i : Nat) (x : Addr) (wa : Option Addr) (lw cw : Nat) (ba : Option Addr) (lb cb : Nat) (x0 y0 z0 H V C : Int) (hF : Fnd W oa on O Z B RL i x wa lw cw ba lb cb x0 y0 z0 H V C) (hch : 1 ≤ ch ∧ ch ≤ C) : ∀ W', Below W.heap.size W W' → Calls Tryz.prog 18 #[.agg #[U i6 h, U i6 w, U i6 c, U i6 lo, U i6 hi, .slice oa on oc, U i6 ot], U i6 ((i : Int) + 1), U i6 ch] W' fun e w' => e = .returned (.tuple #[.agg #[U i6 (O i 0), U i6 (O i 1), U i6 (O i 2), U i6 (O i 3), U i6 (O i 4), U i6 (O i 5), U i6 (O i 6), U i6 (O i 7), U i6 (O i 8), U i6 (O i 9), U i6 (O i 10), U i6 (O i 11), .slice wa lw cw, .slice ba lb cb, U i6 (O i 14), U i6 (O i 15), U i6 (O i 16), U i6 (O i 17), U i6 (O i 18), U i6 (O i 19), U i6 (O i 20), U i6 (O i 21), U i6 x0, U i6 y0, U i6 z0, U i6 H, U i6 V, U i6 C], U i6 0]) ∧ Below W'.heap.size W' w' := fun W' hb =>
 fch_r (O := O) (i := i) (x := x) (wa := wa) (lw := lw) (cw := cw) (ba := ba) (lb := lb) (cb := cb) (x0 := x0) (y0 := y0) (z0 := z0) (H := H) (V := V) (C := C) h w c lo hi ot oa on oc W' ((i : Int) + 1) ch 0 (fun q => by omega) (fun W'' hb' => rfind_ok h w c lo hi ot oa on oc O Z B W'' (hL.below (hb.trans (hb'.mono hb.size))) hon ch RL Rw hR i x wa lw cw ba lb cb x0 y0 z0 H V C (hF.below (hb.trans (hb'.mono hb.size))) ⟨by omega, hch.2⟩)
theorem rrw_ok (h w c lo hi ot : Int) (oa : Option Addr) (on oc : Nat) (O : Nat → Nat → Int) (Z B : Nat → List Int) (W : World) (hL : LRow W oa on oc O Z B) (ch : Int) (RL : List (Int × Int × Int)) (Rw : Int) (hR : gtR O h w c lo hi ot on = (0, 0, RL, Rw)) (i : Nat) (x : Addr) (wa : Option Addr) (lw cw : Nat) (ba : Option Addr) (lb cb : Nat) (x0 y0 z0 H V C : Int) (hF : Fnd W oa on O Z B RL i x wa lw cw ba lb cb x0 y0 z0 H V C) (hch : 1 ≤ ch ∧ ch ≤ C) (slo shi : Int) (hs : -128 ≤ slo ∧ slo ≤ shi ∧ shi ≤ 127) : ∀ W', Below W.heap.size W W' → Calls Tryz.prog 23 #[.agg #[U i6 (O i 0), U i6 (O i 1), U i6 (O i 2), U i6 (O i 3), U i6 (O i 4), U i6 (O i 5), U i6 (O i 6), U i6 (O i 7), U i6 (O i 8), U i6 (O i 9), U i6 (O i 10), U i6 (O i 11), .slice wa lw cw, .slice ba lb cb, U i6 (O i 14), U i6 (O i 15), U i6 (O i 16), U i6 (O i 17), U i6 (O i 18), U i6 (O i 19), U i6 (O i 20), U i6 (O i 21), U i6 x0, U i6 y0, U i6 z0, U i6 H, U i6 V, U i6 C], U i6 ch, .agg #[U i6 slo, U i6 shi]] W' fun e w' => (∃ v, e = .returned v ∧ RwO w' W'.heap.size v (fun (j : Nat) => enL slo shi (O i 19) (siL (O i 0) (O i 4) (O i 5) (O i 6) (O i 7) (O i 8) (O i 9) (O i 10) (O i 11) x0 y0 z0 ch (j : Int) (Z i))) (H * V).toNat) ∧ Below W'.heap.size W' w' := fun W' hb => by
 have hSit := hF.2.2.2.2.2.2.2.2.2.1
 have hz := hF.2.2.2.2.2.1.2.2.2.1
 obtain ⟨-, -, -, -, hp, hbi, hHV⟩ := bfacts hL RL Rw hR i x wa lw cw ba lb cb x0 y0 z0 H V C hF hch
 have e : (((H * V).toNat : Nat) : Int) = H * V := by omega
 exact rrows_any (O i 0) (O i 1) (O i 2) (O i 3) (O i 4) (O i 5) (O i 6) (O i 7) (O i 8) (O i 9) (O i 10) (O i 11) wa lw cw ba lb cb (O i 14) (O i 15) (O i 16) (O i 17) (O i 18) (O i 19) (O i 20) (O i 21) x0 y0 z0 H V C W' ch slo shi (fun (j : Nat) => enL slo shi (O i 19) (siL (O i 0) (O i 4) (O i 5) (O i 6) (O i 7) (O i 8) (O i 9) (O i 10) (O i 11) x0 y0 z0 ch (j : Int) (Z i))) (fun (j : Nat) => siL (O i 0) (O i 4) (O i 5) (O i 6) (O i 7) (O i 8) (O i 9) (O i 10) (O i 11) x0 y0 z0 ch (j : Int) (Z i)) (H * V).toNat (by omega) (fun j => rfl) (fun j => ⟨(siL_facts hSit hz hch _).1, fun t ht => ((siL_facts hSit hz hch _).2 t ht).1⟩) hs hp (fun W'' => by rw [e]; exact rpos_any (O i 0) (O i 1) (O i 2) (O i 3) (O i 4) (O i 5) (O i 6) (O i 7) (O i 8) (O i 9) (O i 10) (O i 11) wa lw cw ba lb cb (O i 14) (O i 15) (O i 16) (O i 17) (O i 18) (O i 19) (O i 20) (O i 21) x0 y0 z0 H V C W'' hSit.2.2.1) (fun W'' j hb' hj => rterms_any (O i 0) (O i 1) (O i 2) (O i 3) (O i 4) (O i 5) (O i 6) (O i 7) (O i 8) (O i 9) (O i 10) (O i 11) wa lw cw ba lb cb (O i 14) (O i 15) (O i 16) (O i 17) (O i 18) (O i 19) (O i 20) (O i 21) x0 y0 z0 H V C W'' (Z i) (hF.2.2.2.2.2.1.below (hb.trans (hb'.mono hb.size))) hSit ch j hch ⟨by omega, by omega⟩)
theorem rbg_ok (h w c lo hi ot : Int) (oa : Option Addr) (on oc : Nat) (O : Nat → Nat → Int) (Z B : Nat → List Int) (W : World) (hL : LRow W oa on oc O Z B) (ch : Int) (RL : List (Int × Int × Int)) (Rw : Int) (hR : gtR O h w c lo hi ot on = (0, 0, RL, Rw)) (i : Nat) (x : Addr) (wa : Option Addr) (lw cw : Nat) (ba : Option Addr) (lb cb : Nat) (x0 y0 z0 H V C : Int) (hF : Fnd W oa on O Z B RL i x wa lw cw ba lb cb x0 y0 z0 H V C) (hch : 1 ≤ ch ∧ ch ≤ C) : ∀ W', Below W.heap.size W W' → Calls Tryz.prog 48 #[.agg #[U i6 (O i 0), U i6 (O i 1), U i6 (O i 2), U i6 (O i 3), U i6 (O i 4), U i6 (O i 5), U i6 (O i 6), U i6 (O i 7), U i6 (O i 8), U i6 (O i 9), U i6 (O i 10), U i6 (O i 11), .slice wa lw cw, .slice ba lb cb, U i6 (O i 14), U i6 (O i 15), U i6 (O i 16), U i6 (O i 17), U i6 (O i 18), U i6 (O i 19), U i6 (O i 20), U i6 (O i 21), U i6 x0, U i6 y0, U i6 z0, U i6 H, U i6 V, U i6 C], U i6 ch] W' fun e w' => e = .returned (.agg #[U i6 (biA (O i 0) ch (B i)), U i6 (biA (O i 0) ch (B i))]) ∧ Below W'.heap.size W' w' := fun W' hb =>
 rbeg_any (O i 0) (O i 1) (O i 2) (O i 3) (O i 4) (O i 5) (O i 6) (O i 7) (O i 8) (O i 9) (O i 10) (O i 11) wa lw cw ba lb cb (O i 14) (O i 15) (O i 16) (O i 17) (O i 18) (O i 19) (O i 20) (O i 21) x0 y0 z0 H V C W' (biA (O i 0) ch (B i)) ch (fun W'' hb' => rbias_any (O i 0) (O i 1) (O i 2) (O i 3) (O i 4) (O i 5) (O i 6) (O i 7) (O i 8) (O i 9) (O i 10) (O i 11) wa lw cw ba lb cb (O i 14) (O i 15) (O i 16) (O i 17) (O i 18) (O i 19) (O i 20) (O i 21) x0 y0 z0 H V C W'' (B i) (hF.2.2.2.2.2.2.1.below (hb.trans (hb'.mono hb.size))) hF.2.2.2.2.2.2.2.2.2.1 ch hch)
theorem dto_ok (h w c lo hi ot : Int) (oa : Option Addr) (on oc : Nat) (O : Nat → Nat → Int) (Z B : Nat → List Int) (W : World) (hL : LRow W oa on oc O Z B) (ch : Int) (RL : List (Int × Int × Int)) (Rw : Int) (hR : gtR O h w c lo hi ot on = (0, 0, RL, Rw)) (i : Nat) (x : Addr) (wa : Option Addr) (lw cw : Nat) (ba : Option Addr) (lb cb : Nat) (x0 y0 z0 H V C : Int) (hF : Fnd W oa on O Z B RL i x wa lw cw ba lb cb x0 y0 z0 H V C) (hch : 1 ≤ ch ∧ ch ≤ C) (slo shi : Int) (hs : -128 ≤ slo ∧ slo ≤ shi ∧ shi ≤ 127) : ∀ W', Below W.heap.size W W' → Calls Tryz.prog 33 #[.agg #[U i6 (O i 0), U i6 (O i 1), U i6 (O i 2), U i6 (O i 3), U i6 (O i 4), U i6 (O i 5), U i6 (O i 6), U i6 (O i 7), U i6 (O i 8), U i6 (O i 9), U i6 (O i 10), U i6 (O i 11), .slice wa lw cw, .slice ba lb cb, U i6 (O i 14), U i6 (O i 15), U i6 (O i 16), U i6 (O i 17), U i6 (O i 18), U i6 (O i 19), U i6 (O i 20), U i6 (O i 21), U i6 x0, U i6 y0, U i6 z0, U i6 H, U i6 V, U i6 C], U i6 ch, .agg #[U i6 slo, U i6 shi]] W' fun e w' => e = .returned (.agg #[U i6 (hbT (biA (O i 0) ch (B i)) (fun (j : Nat) => enL slo shi (O i 19) (siL (O i 0) (O i 4) (O i 5) (O i 6) (O i 7) (O i 8) (O i 9) (O i 10) (O i 11) x0 y0 z0 ch (j : Int) (Z i))) (H * V).toNat).1, U i6 (hbT (biA (O i 0) ch (B i)) (fun (j : Nat) => enL slo shi (O i 19) (siL (O i 0) (O i 4) (O i 5) (O i 6) (O i 7) (O i 8) (O i 9) (O i 10) (O i 11) x0 y0 z0 ch (j : Int) (Z i))) (H * V).toNat).2]) ∧ Below W'.heap.size W' w' := fun W' hb => by
 have hSit := hF.2.2.2.2.2.2.2.2.2.1
 have hz := hF.2.2.2.2.2.1.2.2.2.1
 obtain ⟨-, -, -, -, hp, hbi, hHV⟩ := bfacts hL RL Rw hR i x wa lw cw ba lb cb x0 y0 z0 H V C hF hch
 exact rtot_any (O i 0) (O i 1) (O i 2) (O i 3) (O i 4) (O i 5) (O i 6) (O i 7) (O i 8) (O i 9) (O i 10) (O i 11) wa lw cw ba lb cb (O i 14) (O i 15) (O i 16) (O i 17) (O i 18) (O i 19) (O i 20) (O i 21) x0 y0 z0 H V C W' ch slo shi (biA (O i 0) ch (B i)) (fun (j : Nat) => enL slo shi (O i 19) (siL (O i 0) (O i 4) (O i 5) (O i 6) (O i 7) (O i 8) (O i 9) (O i 10) (O i 11) x0 y0 z0 ch (j : Int) (Z i))) (H * V).toNat (by omega) (fun j => have q := row_facts hSit hz hch hs hp (j : Int); ⟨q.1, q.2.2⟩) (fun W'' hb' => rrw_ok h w c lo hi ot oa on oc O Z B W hL ch RL Rw hR i x wa lw cw ba lb cb x0 y0 z0 H V C hF hch slo shi hs W'' (hb.trans (hb'.mono hb.size))) hbi (fun W'' hb' => rbg_ok h w c lo hi ot oa on oc O Z B W hL ch RL Rw hR i x wa lw cw ba lb cb x0 y0 z0 H V C hF hch W'' (hb.trans (hb'.mono hb.size)))
theorem dru_ok (h w c lo hi ot : Int) (oa : Option Addr) (on oc : Nat) (O : Nat → Nat → Int) (Z B : Nat → List Int) (W : World) (hL : LRow W oa on oc O Z B) (ch : Int) (RL : List (Int × Int × Int)) (Rw : Int) (hR : gtR O h w c lo hi ot on = (0, 0, RL, Rw)) (i : Nat) (x : Addr) (wa : Option Addr) (lw cw : Nat) (ba : Option Addr) (lb cb : Nat) (x0 y0 z0 H V C : Int) (hF : Fnd W oa on O Z B RL i x wa lw cw ba lb cb x0 y0 z0 H V C) (hch : 1 ≤ ch ∧ ch ≤ C) (slo shi : Int) (hs : -128 ≤ slo ∧ slo ≤ shi ∧ shi ≤ 127) : ∀ W', Below W.heap.size W W' → Calls Tryz.prog 31 #[.agg #[U i6 (O i 0), U i6 (O i 1), U i6 (O i 2), U i6 (O i 3), U i6 (O i 4), U i6 (O i 5), U i6 (O i 6), U i6 (O i 7), U i6 (O i 8), U i6 (O i 9), U i6 (O i 10), U i6 (O i 11), .slice wa lw cw, .slice ba lb cb, U i6 (O i 14), U i6 (O i 15), U i6 (O i 16), U i6 (O i 17), U i6 (O i 18), U i6 (O i 19), U i6 (O i 20), U i6 (O i 21), U i6 x0, U i6 y0, U i6 z0, U i6 H, U i6 V, U i6 C], U i6 ch, .agg #[U i6 slo, U i6 shi]] W' fun e w' => e = .returned (.agg #[U i6 (hbR (biA (O i 0) ch (B i)) (fun (j : Nat) => enL slo shi (O i 19) (siL (O i 0) (O i 4) (O i 5) (O i 6) (O i 7) (O i 8) (O i 9) (O i 10) (O i 11) x0 y0 z0 ch (j : Int) (Z i))) (H * V).toNat).1, U i6 (hbR (biA (O i 0) ch (B i)) (fun (j : Nat) => enL slo shi (O i 19) (siL (O i 0) (O i 4) (O i 5) (O i 6) (O i 7) (O i 8) (O i 9) (O i 10) (O i 11) x0 y0 z0 ch (j : Int) (Z i))) (H * V).toNat).2]) ∧ Below W'.heap.size W' w' := fun W' hb => by
 have hSit := hF.2.2.2.2.2.2.2.2.2.1
 have hz := hF.2.2.2.2.2.1.2.2.2.1
 obtain ⟨-, -, -, -, hp, hbi, hHV⟩ := bfacts hL RL Rw hR i x wa lw cw ba lb cb x0 y0 z0 H V C hF hch
 exact rrun_any (O i 0) (O i 1) (O i 2) (O i 3) (O i 4) (O i 5) (O i 6) (O i 7) (O i 8) (O i 9) (O i 10) (O i 11) wa lw cw ba lb cb (O i 14) (O i 15) (O i 16) (O i 17) (O i 18) (O i 19) (O i 20) (O i 21) x0 y0 z0 H V C W' ch slo shi (biA (O i 0) ch (B i)) (fun (j : Nat) => enL slo shi (O i 19) (siL (O i 0) (O i 4) (O i 5) (O i 6) (O i 7) (O i 8) (O i 9) (O i 10) (O i 11) x0 y0 z0 ch (j : Int) (Z i))) (H * V).toNat (by omega) (fun j => have q := row_facts hSit hz hch hs hp (j : Int); ⟨q.1, q.2.2⟩) (fun W'' hb' => rrw_ok h w c lo hi ot oa on oc O Z B W hL ch RL Rw hR i x wa lw cw ba lb cb x0 y0 z0 H V C hF hch slo shi hs W'' (hb.trans (hb'.mono hb.size))) hbi (fun W'' hb' => rbg_ok h w c lo hi ot oa on oc O Z B W hL ch RL Rw hR i x wa lw cw ba lb cb x0 y0 z0 H V C hF hch W'' (hb.trans (hb'.mono hb.size)))
theorem dpa_ok (h w c lo hi ot : Int) (oa : Option Addr) (on oc : Nat) (O : Nat → Nat → Int) (Z B : Nat → List Int) (W : World) (hL : LRow W oa on oc O Z B) (ch : Int) (RL : List (Int × Int × Int)) (Rw : Int) (hR : gtR O h w c lo hi ot on = (0, 0, RL, Rw)) (i : Nat) (x : Addr) (wa : Option Addr) (lw cw : Nat) (ba : Option Addr) (lb cb : Nat) (x0 y0 z0 H V C : Int) (hF : Fnd W oa on O Z B RL i x wa lw cw ba lb cb x0 y0 z0 H V C) (hch : 1 ≤ ch ∧ ch ≤ C) (slo shi : Int) (hs : -128 ≤ slo ∧ slo ≤ shi ∧ shi ≤ 127) (d : Nat) (hd : 0 < d) (hd2 : d ≤ 512) : ∀ W', Below W.heap.size W W' → Calls Tryz.prog 34 #[.agg #[U i6 (O i 0), U i6 (O i 1), U i6 (O i 2), U i6 (O i 3), U i6 (O i 4), U i6 (O i 5), U i6 (O i 6), U i6 (O i 7), U i6 (O i 8), U i6 (O i 9), U i6 (O i 10), U i6 (O i 11), .slice wa lw cw, .slice ba lb cb, U i6 (O i 14), U i6 (O i 15), U i6 (O i 16), U i6 (O i 17), U i6 (O i 18), U i6 (O i 19), U i6 (O i 20), U i6 (O i 21), U i6 x0, U i6 y0, U i6 z0, U i6 H, U i6 V, U i6 C], U i6 ch, .agg #[U i6 slo, U i6 shi], U i6 (d : Int)] W' fun e w' => e = .returned (.agg #[U i6 (hbD d (fun (j : Nat) => enL slo shi (O i 19) (siL (O i 0) (O i 4) (O i 5) (O i 6) (O i 7) (O i 8) (O i 9) (O i 10) (O i 11) x0 y0 z0 ch (j : Int) (Z i))) (H * V).toNat).1, U i6 (hbD d (fun (j : Nat) => enL slo shi (O i 19) (siL (O i 0) (O i 4) (O i 5) (O i 6) (O i 7) (O i 8) (O i 9) (O i 10) (O i 11) x0 y0 z0 ch (j : Int) (Z i))) (H * V).toNat).2]) ∧ Below W'.heap.size W' w' := fun W' hb => by
 have hSit := hF.2.2.2.2.2.2.2.2.2.1
 have hz := hF.2.2.2.2.2.1.2.2.2.1
 obtain ⟨-, -, -, -, hp, hbi, hHV⟩ := bfacts hL RL Rw hR i x wa lw cw ba lb cb x0 y0 z0 H V C hF hch
 exact rprt_any (O i 0) (O i 1) (O i 2) (O i 3) (O i 4) (O i 5) (O i 6) (O i 7) (O i 8) (O i 9) (O i 10) (O i 11) wa lw cw ba lb cb (O i 14) (O i 15) (O i 16) (O i 17) (O i 18) (O i 19) (O i 20) (O i 21) x0 y0 z0 H V C W' ch slo shi (biA (O i 0) ch (B i)) (fun (j : Nat) => enL slo shi (O i 19) (siL (O i 0) (O i 4) (O i 5) (O i 6) (O i 7) (O i 8) (O i 9) (O i 10) (O i 11) x0 y0 z0 ch (j : Int) (Z i))) (H * V).toNat (by omega) (fun j => have q := row_facts hSit hz hch hs hp (j : Int); ⟨q.1, q.2.2⟩) (fun W'' hb' => rrw_ok h w c lo hi ot oa on oc O Z B W hL ch RL Rw hR i x wa lw cw ba lb cb x0 y0 z0 H V C hF hch slo shi hs W'' (hb.trans (hb'.mono hb.size))) d hd hd2 (by omega) (row_facts hSit hz hch hs hp ((0 : Nat) : Int)).2.1
theorem dle_ok (h w c lo hi ot : Int) (oa : Option Addr) (on oc : Nat) (O : Nat → Nat → Int) (Z B : Nat → List Int) (W : World) (hL : LRow W oa on oc O Z B) (ch : Int) (RL : List (Int × Int × Int)) (Rw : Int) (hR : gtR O h w c lo hi ot on = (0, 0, RL, Rw)) (i : Nat) (x : Addr) (wa : Option Addr) (lw cw : Nat) (ba : Option Addr) (lb cb : Nat) (x0 y0 z0 H V C : Int) (hF : Fnd W oa on O Z B RL i x wa lw cw ba lb cb x0 y0 z0 H V C) (hch : 1 ≤ ch ∧ ch ≤ C) : ∀ W', Below W.heap.size W W' → Calls Tryz.prog 8 #[.agg #[U i6 (O i 0), U i6 (O i 1), U i6 (O i 2), U i6 (O i 3), U i6 (O i 4), U i6 (O i 5), U i6 (O i 6), U i6 (O i 7), U i6 (O i 8), U i6 (O i 9), U i6 (O i 10), U i6 (O i 11), .slice wa lw cw, .slice ba lb cb, U i6 (O i 14), U i6 (O i 15), U i6 (O i 16), U i6 (O i 17), U i6 (O i 18), U i6 (O i 19), U i6 (O i 20), U i6 (O i 21), U i6 x0, U i6 y0, U i6 z0, U i6 H, U i6 V, U i6 C]] W' fun e w' => e = .returned (U i6 ((siL (O i 0) (O i 4) (O i 5) (O i 6) (O i 7) (O i 8) (O i 9) (O i 10) (O i 11) x0 y0 z0 ch 0 (Z i)).length : Int)) ∧ Below W'.heap.size W' w' := fun W' hb => by
 have hSit := hF.2.2.2.2.2.2.2.2.2.1
 have e : (((siL (O i 0) (O i 4) (O i 5) (O i 6) (O i 7) (O i 8) (O i 9) (O i 10) (O i 11) x0 y0 z0 ch 0 (Z i)).length : Nat) : Int) = stR (O i 0) (O i 4) (O i 5) x0 y0 z0 := by
  unfold siL; rw [tmL_len]
  have := hSit.2.2.2.2.2.2.2.2.1; omega
 rw [e]
 exact rlen_any (O i 0) (O i 1) (O i 2) (O i 3) (O i 4) (O i 5) (O i 6) (O i 7) (O i 8) (O i 9) (O i 10) (O i 11) wa lw cw ba lb cb (O i 14) (O i 15) (O i 16) (O i 17) (O i 18) (O i 19) (O i 20) (O i 21) x0 y0 z0 H V C W' hSit
def wiB (a b c d : Int) : Bool := decide (a ≤ c ∧ d ≤ b)
def w16 (r : Int × Int) : Bool := wiB (-32768) 32767 r.1 r.2
def w32 (r : Int × Int) : Bool := wiB (-2147483648) 2147483647 r.1 r.2
theorem dwit_any (a b c d : Int) (W : World) : Calls Tryz.prog 16 #[.agg #[U i6 a, U i6 b], .agg #[U i6 c, U i6 d]] W fun e w' => e = .returned (.bool (wiB a b c d)) ∧ Below W.heap.size W w' := by
 have s0 := ((St.start W).new (c := #[U i6 a, U i6 b]) (t := 28)).new (c := #[U i6 c, U i6 d]) (t := 28)
 by_cases h1 : a ≤ c
 ·have HR : Hid (decide (d ≤ b) = wiB a b c d) := by unfold Hid wiB; simp [h1]
  go_enter Tryz.func16, Tryz.ntmps16
  go_wp2
  go_ret
  exact ⟨retB HR.out, s0.below⟩
 ·have HR : Hid (false = wiB a b c d) := by unfold Hid wiB; simp [h1]
  go_enter Tryz.func16, Tryz.ntmps16
  go_wp2
  go_ret
  exact ⟨retB HR.out, s0.below⟩
theorem d16_any (W : World) : Calls Tryz.prog 17 #[] W fun e w' => e = .returned (.agg #[U i6 (-32768), U i6 32767]) ∧ Below W.heap.size W w' := by
 go_enter Tryz.func17, Tryz.ntmps17
 go_wp2
 exact bodyPost_ret (v := .agg #[U i6 (-32768), U i6 32767]) (by simp [results, Tryz.results17, go_sem]) rfl ⟨rfl, bal _ _⟩
theorem d32_any (W : World) : Calls Tryz.prog 29 #[] W fun e w' => e = .returned (.agg #[U i6 (-2147483648), U i6 2147483647]) ∧ Below W.heap.size W w' := by
 go_enter Tryz.func29, Tryz.ntmps29
 go_wp2
 exact bodyPost_ret (v := .agg #[U i6 (-2147483648), U i6 2147483647]) (by simp [results, Tryz.results29, go_sem]) rfl ⟨rfl, bal _ _⟩
def grN (S : Nat → Bool) : Nat → Nat
 | 0 => 0
 | k + 1 => if S (k + 1) = true then k + 1 else grN S k
theorem grN_le (S : Nat → Bool) : ∀ N, grN S N ≤ N
 | 0 => Nat.le_refl _
 | k + 1 => by
  have := grN_le S k
  unfold grN
  split
  ·exact Nat.le_refl _
  ·omega
theorem dgre_any (N : Nat) (hN : N ≤ 1000000) (S : Nat → Bool) (gf : Nat) (cl : Array Value) (W : World)
  (eg : ∀ args w, (callFunc gf args).run Tryz.prog w = .ok (.enter gf args) w)
  (hP : ∀ W' (d : Nat), Below W.heap.size W W' → 1 ≤ d → d ≤ N → Calls Tryz.prog gf (#[U i6 (d : Int)] ++ cl) W' fun e w' => e = .returned (.bool (S d)) ∧ Below W'.heap.size W' w') :
  Calls Tryz.prog 25 #[U i6 (N : Int), .func (.func gf) #[] cl] W fun e w' => e = .returned (U i6 (grN S N : Nat)) ∧ Below W.heap.size W w' := by
 have HP : Hid (∀ W' (d : Nat), Below W.heap.size W W' → 1 ≤ d → d ≤ N → _) := hP
 clear hP
 go_enter Tryz.func25, Tryz.ntmps25
 go_wp2
 refine wp_scope_jumps 0 (fun a' w' => ∃ (k : Nat) (u6 u7 u8 u9 u10 u11 u12 u13 u14 u15 u16 : Value), a' = { tmps := #[U i6 (N : Int), .func (.func gf) #[] cl, undef, undef, U i6 0, U i6 (k : Int), u6, u7, u8, u9, u10, u11, u12, u13, u14, u15, u16, undef], defers := [] } ∧ k ≤ N ∧ grN S k = grN S N ∧ Below W.heap.size W w') (fun a' _ => (intOf (a'.tmps.getD 5 undef)).toNat) rfl ?_ ?_
 ·have B1 : Hid (Below W.heap.size W W) := Below.refl _ _
  go_wp2
  go_step3
  by_cases h0 : N = 0
  ·subst h0
   go_wp2
   simp only [Exit.jump]
   go_ret
   exact ⟨rfl, B1.out⟩
  ·have HC : Hid _ := HP.out W N B1.out (by omega) (Nat.le_refl _)
   have hpos : (0 : Int) < (N : Int) := by omega
   go_wp2_with fail
   refine Calls.mono HC.out ?_
   rintro e w1 ⟨rfl, hb1⟩
   have HB : Hid (Below W.heap.size W w1) := hb1
   clear hb1 HC
   obtain ⟨m, rfl⟩ : ∃ m, N = m + 1 := ⟨N - 1, by omega⟩
   cases hS : S (m + 1) with
   | true =>
    go_wp2
    simp only [Exit.jump]
    go_ret
    exact ⟨by simp [grN, hS], HB.out⟩
   | false =>
    have hw : IntKind.i64.wrap (((m + 1 : Nat) : Int) - 1) = (m : Int) := by rw [IntKind.wrap_i64]; omega
    go_wp2
    go_step3
    refine ⟨rfl, m, _, _, _, _, _, _, _, _, _, _, _, rfl, by omega, by simp [grN, hS], HB.out⟩
 ·rintro a' w' ⟨k, u6, u7, u8, u9, u10, u11, u12, u13, u14, u15, u16, rfl, hk, hg, hb⟩
  have B1 : Hid (Below W.heap.size W w') := hb
  by_cases h0 : k = 0
  ·subst h0
   clear hb
   go_wp2
   simp only [Exit.jump]
   go_ret
   exact ⟨by rw [← hg]; rfl, B1.out⟩
  ·have HC : Hid _ := HP.out w' k hb (by omega) hk
   have hpos : (0 : Int) < (k : Int) := by omega
   have hgk : Hid (grN S k = grN S N) := hg
   clear hg hb
   go_wp2_with fail
   refine Calls.mono HC.out ?_
   rintro e w1 ⟨rfl, hb1⟩
   have HB : Hid (Below W.heap.size W w1) := B1.out.trans (hb1.mono B1.out.size)
   clear hb1 HC
   obtain ⟨m, rfl⟩ : ∃ m, k = m + 1 := ⟨k - 1, by omega⟩
   cases hS : S (m + 1) with
   | true =>
    go_wp2
    simp only [Exit.jump]
    go_ret
    exact ⟨by rw [← hgk.out]; simp [grN, hS], HB.out⟩
   | false =>
    have hw : IntKind.i64.wrap (((m + 1 : Nat) : Int) - 1) = (m : Int) := by rw [IntKind.wrap_i64]; omega
    go_wp2
    go_step3
    refine ⟨rfl, ⟨m, _, _, _, _, _, _, _, _, _, _, _, rfl, by omega, by rw [← hgk.out]; simp [grN, hS], HB.out⟩, ?_⟩
    simp [intOf]
end Go.Proofs.YtgiohlcipndakaaGreat
