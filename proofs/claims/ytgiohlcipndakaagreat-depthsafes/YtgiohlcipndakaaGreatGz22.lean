/- What Of of package terms returns. What find of package bound returns. What find of package bound returns of a channel that is there. The document's size of a number, and a size with a sign: for every argument that fits its type. -/
import Derived.Test.YtgiohlcipndakaaGreatGz01
import Derived.Test.YtgiohlcipndakaaGreatGz14
import Derived.Test.YtgiohlcipndakaaGreatGz21
/- What Of of package terms returns. -/
namespace Go.Proofs.YtgiohlcipndakaaGreat
open Go.Value renaming int → U
open Go.IntKind renaming i64 → i6
set_option maxRecDepth 100000
set_option maxHeartbeats 16000000
open Go.ChangeShapes Go.WideShapes Go.ChangeAt Go.RowKit
set_option linter.unusedVariables false
theorem of_bad (h w c lo hi ot : Int) (oa : Option Addr) (on oc : Nat) (O : Nat → Nat → Int) (Z B : Nat → List Int) (W : World) (hL : LRow W oa on oc O Z B) (op ch at' E : Int) (hf : fiE O h w c lo hi ot on op = E) (hE : E ≠ 0) :
  Calls Tryz.prog 51 #[.agg #[U i6 h, U i6 w, U i6 c, U i6 lo, U i6 hi, .slice oa on oc, U i6 ot], U i6 op, U i6 ch, U i6 at'] W fun e w' => e = .returned (.tuple #[.slice none 0 0, U i6 0, U i6 E]) ∧ Below W.heap.size W w' := by
 have s0 := (St.start W).new (c := #[U i6 h, U i6 w, U i6 c, U i6 lo, U i6 hi, .slice oa on oc, U i6 ot]) (t := 26)
 have hF : Hid (∀ W', Below W.heap.size W W' → _) := fun W' hb => find_bad h w c lo hi ot oa on oc O Z B W' (hL.below hb) op E hf hE
 have hE' : (E == 0) = false := by simp [hE]
 clear hf hL
 go_enter Tryz.func51, Tryz.ntmps51
 go_wp2_with fail
 refine (hF.out _ s0.below).mono ?_
 rintro e w1 ⟨rfl, hb⟩
 have s1 := (s0.call hb).new (c := #[U i6 0, U i6 0, U i6 0, U i6 0, U i6 0, U i6 0, U i6 0, U i6 0, U i6 0, U i6 0, U i6 0, U i6 0, .slice none 0 0, .slice none 0 0, U i6 0, U i6 0, U i6 0, U i6 0, U i6 0, U i6 0, U i6 0, U i6 0, U i6 0, U i6 0, U i6 0, U i6 0, U i6 0, U i6 0]) (t := 119)
 have S1 : Hid (Below W.heap.size W _) := s1.below
 clear hb s1
 go_wp2_with (refine wpList_st_new rfl 119 (.tmp 11) (.tmp 17) rfl w1 _ #[U i6 0, U i6 0, U i6 0, U i6 0, U i6 0, U i6 0, U i6 0, U i6 0, U i6 0, U i6 0, U i6 0, U i6 0, .slice none 0 0, .slice none 0 0, U i6 0, U i6 0, U i6 0, U i6 0, U i6 0, U i6 0, U i6 0, U i6 0, U i6 0, U i6 0, U i6 0, U i6 0, U i6 0, U i6 0] rfl rfl (by kernel_rfl) rfl (by simp [Value.oneCell']) ?_)
 exact bodyPost_ret (v := .tuple #[.slice none 0 0, U i6 0, U i6 E]) (by simp [results, Tryz.results51, go_sem, *]) rfl ⟨rfl, S1.out⟩
theorem of_place (h w c lo hi ot : Int) (oa : Option Addr) (on oc : Nat) (O : Nat → Nat → Int) (Z B : Nat → List Int) (W : World) (hL : LRow W oa on oc O Z B) (ch at' : Int) (RL : List (Int × Int × Int)) (Rw : Int) (hR : gtR O h w c lo hi ot on = (0, 0, RL, Rw)) (i : Nat) (x : Addr) (wa : Option Addr) (lw cw : Nat) (ba : Option Addr) (lb cb : Nat) (x0 y0 z0 H V C : Int) (hF : Fnd W oa on O Z B RL i x wa lw cw ba lb cb x0 y0 z0 H V C) (hp : ¬ ((1 ≤ ch ∧ ch ≤ C) ∧ (0 ≤ at' ∧ at' < H * V))) :
  Calls Tryz.prog 51 #[.agg #[U i6 h, U i6 w, U i6 c, U i6 lo, U i6 hi, .slice oa on oc, U i6 ot], U i6 ((i : Int) + 1), U i6 ch, U i6 at'] W fun e w' => e = .returned (.tuple #[.slice none 0 0, U i6 0, U i6 3]) ∧ Below W.heap.size W w' := by
 have s0 := (St.start W).new (c := #[U i6 h, U i6 w, U i6 c, U i6 lo, U i6 hi, .slice oa on oc, U i6 ot]) (t := 26)
 have hSit : Hid (Sit (O i 0) (O i 4) (O i 5) (O i 6) (O i 7) (O i 8) (O i 9) (O i 10) (O i 11) x0 y0 z0 H V C lw lb) := hF.2.2.2.2.2.2.2.2.2.1
 have hK : Hid (∀ W', Below W.heap.size W W' → _) := fun W' hb => find_ok h w c lo hi ot oa on oc O Z B W' (hL.below hb) RL Rw hR i x wa lw cw ba lb cb x0 y0 z0 H V C (hF.below hb)
 have hPo : Hid (∀ (w1 : World), _) := fun w1 => tpos_any (O i 0) (O i 1) (O i 2) (O i 3) (O i 4) (O i 5) (O i 6) (O i 7) (O i 8) (O i 9) (O i 10) (O i 11) wa lw cw ba lb cb (O i 14) (O i 15) (O i 16) (O i 17) (O i 18) (O i 19) (O i 20) (O i 21) x0 y0 z0 H V C _ _ (heap_alloc_new w1 _) hSit.out.2.2.1
 obtain ⟨hv, ehv⟩ : ∃ hv, H * V = hv := ⟨_, rfl⟩
 rw [ehv] at hp hPo
 clear hF hR hL ehv
 by_cases p1 : ¬ ch < 1
 rotate_left
 ·have p1' : ch < 1 := by omega
  clear p1 hp
  go_enter Tryz.func51, Tryz.ntmps51
  go_wp2_with fail
  refine (hK.out _ s0.below).mono ?_
  rintro e w1 ⟨rfl, hb⟩
  have s1 := (s0.call hb).new (c := #[U i6 (O i 0), U i6 (O i 1), U i6 (O i 2), U i6 (O i 3), U i6 (O i 4), U i6 (O i 5), U i6 (O i 6), U i6 (O i 7), U i6 (O i 8), U i6 (O i 9), U i6 (O i 10), U i6 (O i 11), .slice wa lw cw, .slice ba lb cb, U i6 (O i 14), U i6 (O i 15), U i6 (O i 16), U i6 (O i 17), U i6 (O i 18), U i6 (O i 19), U i6 (O i 20), U i6 (O i 21), U i6 x0, U i6 y0, U i6 z0, U i6 H, U i6 V, U i6 C]) (t := 119)
  have S1 : Hid (Below W.heap.size W _) := s1.below
  clear hb s1
  go_wp2_with (first
   | (refine wpList_st_new rfl 119 (.tmp 11) (.tmp 17) rfl w1 _ #[U i6 (O i 0), U i6 (O i 1), U i6 (O i 2), U i6 (O i 3), U i6 (O i 4), U i6 (O i 5), U i6 (O i 6), U i6 (O i 7), U i6 (O i 8), U i6 (O i 9), U i6 (O i 10), U i6 (O i 11), .slice wa lw cw, .slice ba lb cb, U i6 (O i 14), U i6 (O i 15), U i6 (O i 16), U i6 (O i 17), U i6 (O i 18), U i6 (O i 19), U i6 (O i 20), U i6 (O i 21), U i6 x0, U i6 y0, U i6 z0, U i6 H, U i6 V, U i6 C] rfl rfl (by kernel_rfl) rfl (by simp [Value.oneCell']) ?_)
   | (go_at_call 65; refine (tchan_any (O i 0) (O i 1) (O i 2) (O i 3) (O i 4) (O i 5) (O i 6) (O i 7) (O i 8) (O i 9) (O i 10) (O i 11) wa lw cw ba lb cb (O i 14) (O i 15) (O i 16) (O i 17) (O i 18) (O i 19) (O i 20) (O i 21) x0 y0 z0 H V C _ _ (heap_alloc_new w1 _)).mono ?_; rintro e w2 ⟨rfl, hw2⟩; have hw3 := hw2.symm; subst hw3; clear hw2)
   | (go_at_call 66; refine (hPo.out w1).mono ?_; rintro e w2 ⟨rfl, n, hw2⟩; have S1 : Hid (Below W.heap.size W w2) := (by rw [hw2]; exact bt S1.out (dbel _ n)); clear hw2))
  exact bodyPost_ret (v := .tuple #[.slice none 0 0, U i6 0, U i6 3]) (by simp [results, Tryz.results51, go_sem, *]) rfl ⟨rfl, S1.out⟩
 by_cases p2 : ¬ C < ch
 rotate_left
 ·have p2' : C < ch := by omega
  clear p2 hp
  go_enter Tryz.func51, Tryz.ntmps51
  go_wp2_with fail
  refine (hK.out _ s0.below).mono ?_
  rintro e w1 ⟨rfl, hb⟩
  have s1 := (s0.call hb).new (c := #[U i6 (O i 0), U i6 (O i 1), U i6 (O i 2), U i6 (O i 3), U i6 (O i 4), U i6 (O i 5), U i6 (O i 6), U i6 (O i 7), U i6 (O i 8), U i6 (O i 9), U i6 (O i 10), U i6 (O i 11), .slice wa lw cw, .slice ba lb cb, U i6 (O i 14), U i6 (O i 15), U i6 (O i 16), U i6 (O i 17), U i6 (O i 18), U i6 (O i 19), U i6 (O i 20), U i6 (O i 21), U i6 x0, U i6 y0, U i6 z0, U i6 H, U i6 V, U i6 C]) (t := 119)
  have S1 : Hid (Below W.heap.size W _) := s1.below
  clear hb s1
  go_wp2_with (first
   | (refine wpList_st_new rfl 119 (.tmp 11) (.tmp 17) rfl w1 _ #[U i6 (O i 0), U i6 (O i 1), U i6 (O i 2), U i6 (O i 3), U i6 (O i 4), U i6 (O i 5), U i6 (O i 6), U i6 (O i 7), U i6 (O i 8), U i6 (O i 9), U i6 (O i 10), U i6 (O i 11), .slice wa lw cw, .slice ba lb cb, U i6 (O i 14), U i6 (O i 15), U i6 (O i 16), U i6 (O i 17), U i6 (O i 18), U i6 (O i 19), U i6 (O i 20), U i6 (O i 21), U i6 x0, U i6 y0, U i6 z0, U i6 H, U i6 V, U i6 C] rfl rfl (by kernel_rfl) rfl (by simp [Value.oneCell']) ?_)
   | (go_at_call 65; refine (tchan_any (O i 0) (O i 1) (O i 2) (O i 3) (O i 4) (O i 5) (O i 6) (O i 7) (O i 8) (O i 9) (O i 10) (O i 11) wa lw cw ba lb cb (O i 14) (O i 15) (O i 16) (O i 17) (O i 18) (O i 19) (O i 20) (O i 21) x0 y0 z0 H V C _ _ (heap_alloc_new w1 _)).mono ?_; rintro e w2 ⟨rfl, hw2⟩; have hw3 := hw2.symm; subst hw3; clear hw2)
   | (go_at_call 66; refine (hPo.out w1).mono ?_; rintro e w2 ⟨rfl, n, hw2⟩; have S1 : Hid (Below W.heap.size W w2) := (by rw [hw2]; exact bt S1.out (dbel _ n)); clear hw2))
  exact bodyPost_ret (v := .tuple #[.slice none 0 0, U i6 0, U i6 3]) (by simp [results, Tryz.results51, go_sem, *]) rfl ⟨rfl, S1.out⟩
 by_cases p3 : ¬ at' < 0
 rotate_left
 ·have p3' : at' < 0 := by omega
  clear p3 hp
  go_enter Tryz.func51, Tryz.ntmps51
  go_wp2_with fail
  refine (hK.out _ s0.below).mono ?_
  rintro e w1 ⟨rfl, hb⟩
  have s1 := (s0.call hb).new (c := #[U i6 (O i 0), U i6 (O i 1), U i6 (O i 2), U i6 (O i 3), U i6 (O i 4), U i6 (O i 5), U i6 (O i 6), U i6 (O i 7), U i6 (O i 8), U i6 (O i 9), U i6 (O i 10), U i6 (O i 11), .slice wa lw cw, .slice ba lb cb, U i6 (O i 14), U i6 (O i 15), U i6 (O i 16), U i6 (O i 17), U i6 (O i 18), U i6 (O i 19), U i6 (O i 20), U i6 (O i 21), U i6 x0, U i6 y0, U i6 z0, U i6 H, U i6 V, U i6 C]) (t := 119)
  have S1 : Hid (Below W.heap.size W _) := s1.below
  clear hb s1
  go_wp2_with (first
   | (refine wpList_st_new rfl 119 (.tmp 11) (.tmp 17) rfl w1 _ #[U i6 (O i 0), U i6 (O i 1), U i6 (O i 2), U i6 (O i 3), U i6 (O i 4), U i6 (O i 5), U i6 (O i 6), U i6 (O i 7), U i6 (O i 8), U i6 (O i 9), U i6 (O i 10), U i6 (O i 11), .slice wa lw cw, .slice ba lb cb, U i6 (O i 14), U i6 (O i 15), U i6 (O i 16), U i6 (O i 17), U i6 (O i 18), U i6 (O i 19), U i6 (O i 20), U i6 (O i 21), U i6 x0, U i6 y0, U i6 z0, U i6 H, U i6 V, U i6 C] rfl rfl (by kernel_rfl) rfl (by simp [Value.oneCell']) ?_)
   | (go_at_call 65; refine (tchan_any (O i 0) (O i 1) (O i 2) (O i 3) (O i 4) (O i 5) (O i 6) (O i 7) (O i 8) (O i 9) (O i 10) (O i 11) wa lw cw ba lb cb (O i 14) (O i 15) (O i 16) (O i 17) (O i 18) (O i 19) (O i 20) (O i 21) x0 y0 z0 H V C _ _ (heap_alloc_new w1 _)).mono ?_; rintro e w2 ⟨rfl, hw2⟩; have hw3 := hw2.symm; subst hw3; clear hw2)
   | (go_at_call 66; refine (hPo.out w1).mono ?_; rintro e w2 ⟨rfl, n, hw2⟩; have S1 : Hid (Below W.heap.size W w2) := (by rw [hw2]; exact bt S1.out (dbel _ n)); clear hw2))
  exact bodyPost_ret (v := .tuple #[.slice none 0 0, U i6 0, U i6 3]) (by simp [results, Tryz.results51, go_sem, *]) rfl ⟨rfl, S1.out⟩
 by_cases p4 : ¬ hv ≤ at'
 rotate_left
 ·have p4' : hv ≤ at' := by omega
  clear p4 hp
  go_enter Tryz.func51, Tryz.ntmps51
  go_wp2_with fail
  refine (hK.out _ s0.below).mono ?_
  rintro e w1 ⟨rfl, hb⟩
  have s1 := (s0.call hb).new (c := #[U i6 (O i 0), U i6 (O i 1), U i6 (O i 2), U i6 (O i 3), U i6 (O i 4), U i6 (O i 5), U i6 (O i 6), U i6 (O i 7), U i6 (O i 8), U i6 (O i 9), U i6 (O i 10), U i6 (O i 11), .slice wa lw cw, .slice ba lb cb, U i6 (O i 14), U i6 (O i 15), U i6 (O i 16), U i6 (O i 17), U i6 (O i 18), U i6 (O i 19), U i6 (O i 20), U i6 (O i 21), U i6 x0, U i6 y0, U i6 z0, U i6 H, U i6 V, U i6 C]) (t := 119)
  have S1 : Hid (Below W.heap.size W _) := s1.below
  clear hb s1
  go_wp2_with (first
   | (refine wpList_st_new rfl 119 (.tmp 11) (.tmp 17) rfl w1 _ #[U i6 (O i 0), U i6 (O i 1), U i6 (O i 2), U i6 (O i 3), U i6 (O i 4), U i6 (O i 5), U i6 (O i 6), U i6 (O i 7), U i6 (O i 8), U i6 (O i 9), U i6 (O i 10), U i6 (O i 11), .slice wa lw cw, .slice ba lb cb, U i6 (O i 14), U i6 (O i 15), U i6 (O i 16), U i6 (O i 17), U i6 (O i 18), U i6 (O i 19), U i6 (O i 20), U i6 (O i 21), U i6 x0, U i6 y0, U i6 z0, U i6 H, U i6 V, U i6 C] rfl rfl (by kernel_rfl) rfl (by simp [Value.oneCell']) ?_)
   | (go_at_call 65; refine (tchan_any (O i 0) (O i 1) (O i 2) (O i 3) (O i 4) (O i 5) (O i 6) (O i 7) (O i 8) (O i 9) (O i 10) (O i 11) wa lw cw ba lb cb (O i 14) (O i 15) (O i 16) (O i 17) (O i 18) (O i 19) (O i 20) (O i 21) x0 y0 z0 H V C _ _ (heap_alloc_new w1 _)).mono ?_; rintro e w2 ⟨rfl, hw2⟩; have hw3 := hw2.symm; subst hw3; clear hw2)
   | (go_at_call 66; refine (hPo.out w1).mono ?_; rintro e w2 ⟨rfl, n, hw2⟩; have S1 : Hid (Below W.heap.size W w2) := (by rw [hw2]; exact bt S1.out (dbel _ n)); clear hw2))
  exact bodyPost_ret (v := .tuple #[.slice none 0 0, U i6 0, U i6 3]) (by simp [results, Tryz.results51, go_sem, *]) rfl ⟨rfl, S1.out⟩
 exact absurd ⟨by omega, by omega⟩ hp
theorem of_ok (h w c lo hi ot : Int) (oa : Option Addr) (on oc : Nat) (O : Nat → Nat → Int) (Z B : Nat → List Int) (W : World) (hL : LRow W oa on oc O Z B) (ch at' : Int) (RL : List (Int × Int × Int)) (Rw : Int) (hR : gtR O h w c lo hi ot on = (0, 0, RL, Rw)) (i : Nat) (x : Addr) (wa : Option Addr) (lw cw : Nat) (ba : Option Addr) (lb cb : Nat) (x0 y0 z0 H V C : Int) (hF : Fnd W oa on O Z B RL i x wa lw cw ba lb cb x0 y0 z0 H V C) (hch : 1 ≤ ch ∧ ch ≤ C) (hat : 0 ≤ at' ∧ at' < H * V) :
  Calls Tryz.prog 51 #[.agg #[U i6 h, U i6 w, U i6 c, U i6 lo, U i6 hi, .slice oa on oc, U i6 ot], U i6 ((i : Int) + 1), U i6 ch, U i6 at'] W fun e w' => (∃ v, e = .returned (.tuple #[v, U i6 (biA (O i 0) ch (B i)), U i6 0]) ∧ OTm w' W.heap.size v (siL (O i 0) (O i 4) (O i 5) (O i 6) (O i 7) (O i 8) (O i 9) (O i 10) (O i 11) x0 y0 z0 ch at' (Z i))) ∧ Below W.heap.size W w' := by
 have s0 := (St.start W).new (c := #[U i6 h, U i6 w, U i6 c, U i6 lo, U i6 hi, .slice oa on oc, U i6 ot]) (t := 26)
 have hSit : Hid (Sit (O i 0) (O i 4) (O i 5) (O i 6) (O i 7) (O i 8) (O i 9) (O i 10) (O i 11) x0 y0 z0 H V C lw lb) := hF.2.2.2.2.2.2.2.2.2.1
 have hrZ : Hid (IRow .i16 W wa lw cw (Z i)) := hF.2.2.2.2.2.1
 have hrB : Hid (IRow .i32 W ba lb cb (B i)) := hF.2.2.2.2.2.2.1
 have hK : Hid (∀ W', Below W.heap.size W W' → _) := fun W' hb => find_ok h w c lo hi ot oa on oc O Z B W' (hL.below hb) RL Rw hR i x wa lw cw ba lb cb x0 y0 z0 H V C (hF.below hb)
 have hPo : Hid (∀ (w1 : World), _) := fun w1 => tpos_any (O i 0) (O i 1) (O i 2) (O i 3) (O i 4) (O i 5) (O i 6) (O i 7) (O i 8) (O i 9) (O i 10) (O i 11) wa lw cw ba lb cb (O i 14) (O i 15) (O i 16) (O i 17) (O i 18) (O i 19) (O i 20) (O i 21) x0 y0 z0 H V C _ _ (heap_alloc_new w1 _) hSit.out.2.2.1
 have hTe : Hid (∀ (w' : World) (r : Nat), w'.heap[r]? = some (.cells #[U i6 (O i 0), U i6 (O i 1), U i6 (O i 2), U i6 (O i 3), U i6 (O i 4), U i6 (O i 5), U i6 (O i 6), U i6 (O i 7), U i6 (O i 8), U i6 (O i 9), U i6 (O i 10), U i6 (O i 11), .slice wa lw cw, .slice ba lb cb, U i6 (O i 14), U i6 (O i 15), U i6 (O i 16), U i6 (O i 17), U i6 (O i 18), U i6 (O i 19), U i6 (O i 20), U i6 (O i 21), U i6 x0, U i6 y0, U i6 z0, U i6 H, U i6 V, U i6 C] 119 (0, 0)) → Below W.heap.size W w' → _) := fun w' r hr hb => terms_any (O i 0) (O i 1) (O i 2) (O i 3) (O i 4) (O i 5) (O i 6) (O i 7) (O i 8) (O i 9) (O i 10) (O i 11) wa lw cw ba lb cb (O i 14) (O i 15) (O i 16) (O i 17) (O i 18) (O i 19) (O i 20) (O i 21) x0 y0 z0 H V C r w' hr (Z i) (hrZ.out.below hb) hSit.out ch at' hch hat
 have hBi : Hid (∀ (w' : World) (r : Nat), w'.heap[r]? = some (.cells #[U i6 (O i 0), U i6 (O i 1), U i6 (O i 2), U i6 (O i 3), U i6 (O i 4), U i6 (O i 5), U i6 (O i 6), U i6 (O i 7), U i6 (O i 8), U i6 (O i 9), U i6 (O i 10), U i6 (O i 11), .slice wa lw cw, .slice ba lb cb, U i6 (O i 14), U i6 (O i 15), U i6 (O i 16), U i6 (O i 17), U i6 (O i 18), U i6 (O i 19), U i6 (O i 20), U i6 (O i 21), U i6 x0, U i6 y0, U i6 z0, U i6 H, U i6 V, U i6 C] 119 (0, 0)) → Below W.heap.size W w' → _) := fun w' r hr hb => tbias_any (O i 0) (O i 1) (O i 2) (O i 3) (O i 4) (O i 5) (O i 6) (O i 7) (O i 8) (O i 9) (O i 10) (O i 11) wa lw cw ba lb cb (O i 14) (O i 15) (O i 16) (O i 17) (O i 18) (O i 19) (O i 20) (O i 21) x0 y0 z0 H V C r w' hr (B i) (hrB.out.below hb) hSit.out ch hch
 obtain ⟨hv, ehv⟩ : ∃ hv, H * V = hv := ⟨_, rfl⟩
 rw [ehv] at hat hPo
 obtain ⟨TL, hTL⟩ : ∃ TL, siL (O i 0) (O i 4) (O i 5) (O i 6) (O i 7) (O i 8) (O i 9) (O i 10) (O i 11) x0 y0 z0 ch at' (Z i) = TL := ⟨_, rfl⟩
 obtain ⟨bi, hbi⟩ : ∃ bi, biA (O i 0) ch (B i) = bi := ⟨_, rfl⟩
 rw [hTL] at hTe ⊢
 rw [hbi] at hBi ⊢
 clear hF hR hL ehv hTL hbi hrZ hrB
 go_enter Tryz.func51, Tryz.ntmps51
 go_wp2_with fail
 refine (hK.out _ s0.below).mono ?_
 rintro e w1 ⟨rfl, hb⟩
 have s1 := (s0.call hb).new (c := #[U i6 (O i 0), U i6 (O i 1), U i6 (O i 2), U i6 (O i 3), U i6 (O i 4), U i6 (O i 5), U i6 (O i 6), U i6 (O i 7), U i6 (O i 8), U i6 (O i 9), U i6 (O i 10), U i6 (O i 11), .slice wa lw cw, .slice ba lb cb, U i6 (O i 14), U i6 (O i 15), U i6 (O i 16), U i6 (O i 17), U i6 (O i 18), U i6 (O i 19), U i6 (O i 20), U i6 (O i 21), U i6 x0, U i6 y0, U i6 z0, U i6 H, U i6 V, U i6 C]) (t := 119)
 have S1 : Hid (St W _ _) := s1
 clear hb s1
 go_wp2_with (first
  | (refine wpList_st_new rfl 119 (.tmp 11) (.tmp 17) rfl w1 _ #[U i6 (O i 0), U i6 (O i 1), U i6 (O i 2), U i6 (O i 3), U i6 (O i 4), U i6 (O i 5), U i6 (O i 6), U i6 (O i 7), U i6 (O i 8), U i6 (O i 9), U i6 (O i 10), U i6 (O i 11), .slice wa lw cw, .slice ba lb cb, U i6 (O i 14), U i6 (O i 15), U i6 (O i 16), U i6 (O i 17), U i6 (O i 18), U i6 (O i 19), U i6 (O i 20), U i6 (O i 21), U i6 x0, U i6 y0, U i6 z0, U i6 H, U i6 V, U i6 C] rfl rfl (by kernel_rfl) rfl (by simp [Value.oneCell']) ?_)
  | (go_at_call 65; refine (tchan_any (O i 0) (O i 1) (O i 2) (O i 3) (O i 4) (O i 5) (O i 6) (O i 7) (O i 8) (O i 9) (O i 10) (O i 11) wa lw cw ba lb cb (O i 14) (O i 15) (O i 16) (O i 17) (O i 18) (O i 19) (O i 20) (O i 21) x0 y0 z0 H V C _ _ (heap_alloc_new w1 _)).mono ?_; rintro e w2 ⟨rfl, hw2⟩; have hw3 := hw2.symm; subst hw3; clear hw2)
  | (go_at_call 66; refine (hPo.out w1).mono ?_; rintro e w2 ⟨rfl, n, hw2⟩; have S2 : Hid (St W w2 _) := (by rw [hw2]; exact S1.out.call (dbel _ n)); clear hw2 S1))
 refine (hTe.out _ _ S2.out.h1 S2.out.below).mono ?_
 rintro e w3 ⟨⟨v, rfl, hO⟩, hb3⟩
 have S3 : Hid (St W w3 _) := S2.out.call hb3
 have hz2 := S2.out.below.size
 have HO : Hid (OTm w3 W.heap.size v TL) := hO.base hz2
 obtain ⟨va, vc, rfl⟩ := hO.slice
 clear hO hb3 S2
 go_wp2_with fail
 refine (hBi.out _ _ S3.out.h1 S3.out.below).mono ?_
 rintro e w4 ⟨rfl, hw4⟩
 have hw5 := hw4.symm
 subst hw5
 clear hw4
 go_wp2
 exact bodyPost_ret (v := .tuple #[.slice va TL.length vc, U i6 bi, U i6 0]) (by simp [results, Tryz.results51, go_sem, *]) rfl ⟨⟨_, rfl, HO.out⟩, S3.out.below⟩
theorem St.rowset {w0 w : World} {B : Nat} {c c' : Array Value} {t : TypeId} {l : List (Nat × Array Value × TypeId)} (h : St w0 w ((B, c, t) :: l)) (hl : ∀ x ∈ l, x.1 ≠ B) : St w0 (w.setRow B c') ((B, c', t) :: l) := by
 refine ⟨below_setRow h.1 (h.2 _ List.mem_cons_self).2 c', fun x hx => ?_⟩
 rcases List.mem_cons.1 hx with rfl | hx
 ·exact ⟨setRow_heap w _ c c' t (0, 0) h.h1, (h.2 _ List.mem_cons_self).2⟩
 ·exact ⟨(setRow_other _ _ _ _ (hl x hx)).trans (h.2 x (List.mem_cons_of_mem _ hx)).1, (h.2 x (List.mem_cons_of_mem _ hx)).2⟩
theorem bfind_e (h w c lo hi ot op ch : Int) (oa : Option Addr) (on oc : Nat) (W : World) (slo shi E : Int) (hE : E ≠ 0)
  (hO : ∀ W', Below W.heap.size W W' → Calls Tryz.prog 51 #[.agg #[U i6 h, U i6 w, U i6 c, U i6 lo, U i6 hi, .slice oa on oc, U i6 ot], U i6 op, U i6 ch, U i6 0] W' fun e w' => e = .returned (.tuple #[.slice none 0 0, U i6 0, U i6 E]) ∧ Below W'.heap.size W' w') :
  Calls Tryz.prog 35 #[.agg #[U i6 h, U i6 w, U i6 c, U i6 lo, U i6 hi, .slice oa on oc, U i6 ot], U i6 op, U i6 ch, .agg #[U i6 slo, U i6 shi]] W fun e w' => e = .returned (.tuple #[.agg #[U i6 0, U i6 0, U i6 0, U i6 0, U i6 0, U i6 0, U i6 0, U i6 0, U i6 0, U i6 0, U i6 0, U i6 0, U i6 0, .slice none 0 0, U i6 0], U i6 E]) ∧ Below W.heap.size W w' := by
 have HO : Hid (∀ W', Below W.heap.size W W' → _) := hO
 have hE' : (E == 0) = false := by simp [hE]
 have s0 := (((St.start W).new (c := #[U i6 h, U i6 w, U i6 c, U i6 lo, U i6 hi, .slice oa on oc, U i6 ot]) (t := 26)).new (c := #[U i6 slo, U i6 shi]) (t := 28)).new (c := #[U i6 0, U i6 0, U i6 0, U i6 0, U i6 0, U i6 0, U i6 0, U i6 0, U i6 0, U i6 0, U i6 0, U i6 0, U i6 0, .slice none 0 0, U i6 0]) (t := 78)
 simp only [World.size_alloc] at s0
 clear hO
 go_enter Tryz.func35, Tryz.ntmps35
 go_wp2_with fail
 refine (HO.out _ s0.below).mono ?_
 rintro e w1 ⟨rfl, hb⟩
 have s1 := s0.call hb
 have S1 : Hid (St W w1 _) := s1
 clear s1 s0 hb HO
 go_wp2_with (refine wpList_store_row rfl 78 (.tmp 8) (.tmp 28) rfl (W.heap.size + 1 + 1) #[U i6 0, U i6 0, U i6 0, U i6 0, U i6 0, U i6 0, U i6 0, U i6 0, U i6 0, U i6 0, U i6 0, U i6 0, U i6 0, .slice none 0 0, U i6 0] rfl rfl 78 #[U i6 0, U i6 0, U i6 0, U i6 0, U i6 0, U i6 0, U i6 0, U i6 0, U i6 0, U i6 0, U i6 0, U i6 0, U i6 0, .slice none 0 0, U i6 0] S1.out.h1 (by kernel_rfl) rfl (by simp [Value.oneCell']) ?_; have hZ' := setRow_heap _ (W.heap.size + 1 + 1) #[U i6 0, U i6 0, U i6 0, U i6 0, U i6 0, U i6 0, U i6 0, U i6 0, U i6 0, U i6 0, U i6 0, U i6 0, U i6 0, .slice none 0 0, U i6 0] #[U i6 0, U i6 0, U i6 0, U i6 0, U i6 0, U i6 0, U i6 0, U i6 0, U i6 0, U i6 0, U i6 0, U i6 0, U i6 0, .slice none 0 0, U i6 0] 78 (0, 0) S1.out.h1; have hB' : Hid (Below W.heap.size W (_ : World)) := below_setRow S1.out.below (show W.heap.size ≤ W.heap.size + 1 + 1 by omega) #[U i6 0, U i6 0, U i6 0, U i6 0, U i6 0, U i6 0, U i6 0, U i6 0, U i6 0, U i6 0, U i6 0, U i6 0, U i6 0, .slice none 0 0, U i6 0]; generalize World.setRow _ _ _ = w5 at hZ' hB' ⊢)
 exact bodyPost_ret (results_row_tmp Tryz.results35 _ _ (W.heap.size + 1 + 1) 78 _ _ (U i6 E) rfl hZ' Tryz.underlying78 rfl (by kernel_rfl) rfl) rfl ⟨rfl, hB'.out⟩
theorem bfind_30 (h w c lo hi ot op ch : Int) (oa : Option Addr) (on oc : Nat) (W : World) (slo shi bi : Int) (TL : List (Int × Int)) (hs : vbB slo shi = false)
  (hO : ∀ W', Below W.heap.size W W' → Calls Tryz.prog 51 #[.agg #[U i6 h, U i6 w, U i6 c, U i6 lo, U i6 hi, .slice oa on oc, U i6 ot], U i6 op, U i6 ch, U i6 0] W' fun e w' => (∃ v, e = .returned (.tuple #[v, U i6 bi, U i6 0]) ∧ OTm w' W'.heap.size v TL) ∧ Below W'.heap.size W' w') :
  Calls Tryz.prog 35 #[.agg #[U i6 h, U i6 w, U i6 c, U i6 lo, U i6 hi, .slice oa on oc, U i6 ot], U i6 op, U i6 ch, .agg #[U i6 slo, U i6 shi]] W fun e w' => e = .returned (.tuple #[.agg #[U i6 0, U i6 0, U i6 0, U i6 0, U i6 0, U i6 0, U i6 0, U i6 0, U i6 0, U i6 0, U i6 0, U i6 0, U i6 0, .slice none 0 0, U i6 0], U i6 30]) ∧ Below W.heap.size W w' := by
 have HO : Hid (∀ W', Below W.heap.size W W' → _) := hO
 have HV : Hid (∀ W', _) := fun W' => bofv_any slo shi W'
 rw [hs] at HV
 have s0 := (((St.start W).new (c := #[U i6 h, U i6 w, U i6 c, U i6 lo, U i6 hi, .slice oa on oc, U i6 ot]) (t := 26)).new (c := #[U i6 slo, U i6 shi]) (t := 28)).new (c := #[U i6 0, U i6 0, U i6 0, U i6 0, U i6 0, U i6 0, U i6 0, U i6 0, U i6 0, U i6 0, U i6 0, U i6 0, U i6 0, .slice none 0 0, U i6 0]) (t := 78)
 simp only [World.size_alloc] at s0
 clear hO hs
 go_enter Tryz.func35, Tryz.ntmps35
 go_wp2_with fail
 refine (HO.out _ s0.below).mono ?_
 rintro e w1 ⟨⟨v, rfl, ho⟩, hb⟩
 have s1 := s0.call hb
 obtain ⟨c1, f1, z1, c2, f2, z2, -⟩ := s1.rules
 have S1 : Hid (St W w1 _) := s1
 clear s1 s0 hb HO ho c1 f1
 go_wp2_with fail
 refine (HV.out _).mono ?_
 rintro e w2 ⟨rfl, hb⟩
 have S2 : Hid (St W w2 _) := S1.out.call hb
 clear S1 hb HV c2 f2 z1 z2
 go_wp2_with (refine wpList_store_row rfl 78 (.tmp 8) (.tmp 33) rfl (W.heap.size + 1 + 1) #[U i6 0, U i6 0, U i6 0, U i6 0, U i6 0, U i6 0, U i6 0, U i6 0, U i6 0, U i6 0, U i6 0, U i6 0, U i6 0, .slice none 0 0, U i6 0] rfl rfl 78 #[U i6 0, U i6 0, U i6 0, U i6 0, U i6 0, U i6 0, U i6 0, U i6 0, U i6 0, U i6 0, U i6 0, U i6 0, U i6 0, .slice none 0 0, U i6 0] S2.out.h1 (by kernel_rfl) rfl (by simp [Value.oneCell']) ?_; have hZ' := setRow_heap _ (W.heap.size + 1 + 1) #[U i6 0, U i6 0, U i6 0, U i6 0, U i6 0, U i6 0, U i6 0, U i6 0, U i6 0, U i6 0, U i6 0, U i6 0, U i6 0, .slice none 0 0, U i6 0] #[U i6 0, U i6 0, U i6 0, U i6 0, U i6 0, U i6 0, U i6 0, U i6 0, U i6 0, U i6 0, U i6 0, U i6 0, U i6 0, .slice none 0 0, U i6 0] 78 (0, 0) S2.out.h1; have hB' : Hid (Below W.heap.size W (_ : World)) := below_setRow S2.out.below (show W.heap.size ≤ W.heap.size + 1 + 1 by omega) #[U i6 0, U i6 0, U i6 0, U i6 0, U i6 0, U i6 0, U i6 0, U i6 0, U i6 0, U i6 0, U i6 0, U i6 0, U i6 0, .slice none 0 0, U i6 0]; generalize World.setRow _ _ _ = w5 at hZ' hB' ⊢)
 exact bodyPost_ret (results_row_tmp Tryz.results35 _ _ (W.heap.size + 1 + 1) 78 _ _ (U i6 30) rfl hZ' Tryz.underlying78 rfl (by kernel_rfl) rfl) rfl ⟨rfl, hB'.out⟩
theorem wl1 {P : Program} {ops : Array Oper} {rest : List Oper} {o : Oper} {a : Act} {w : World} {Q : Exit → Act → World → Prop} (hg : o.guard = none) (dst : Option Tmp) (hdst : o.dst = dst)
  (v : Value) (w' : World) (hrun : (execOp a.eval o).run P w = .ok (.value v) w') (h : wpList P ops Q rest (a.put dst v) w') : wpList P ops Q (o :: rest) a w := by
 subst hdst
 refine wpList_plain hg fun K hK => ?_
 unfold Oper.wp
 rw [hrun, Oper.upon_value]
 exact hK _ _ h
theorem bfind_r (h w c lo hi ot ch : Int) (x : Addr) (on oc i : Nat) (O : Nat → Nat → Int) (W : World) (hM : MRow W (some x) on oc O) (hi0 : i < on) (wa : Option Addr) (lw cw : Nat) (ba : Option Addr) (lb cb : Nat)
  (hcell : ∀ q v, [U i6 (O i 0), U i6 (O i 1), U i6 (O i 2), U i6 (O i 3), U i6 (O i 4), U i6 (O i 5), U i6 (O i 6), U i6 (O i 7), U i6 (O i 8), U i6 (O i 9), U i6 (O i 10), U i6 (O i 11), .slice wa lw cw, .slice ba lb cb, U i6 (O i 14), U i6 (O i 15), U i6 (O i 16), U i6 (O i 17), U i6 (O i 18), U i6 (O i 19), U i6 (O i 20), U i6 (O i 21)][q]? = some v → W.cell? ((x.add (i * 22)).add q) = some v) (Rw : Int) (RL : List (Int × Int × Int)) (hR : gtR O h w c lo hi ot on = (0, 0, RL, Rw)) (hj0 : 0 ≤ O i 1) (hj1 : O i 1 ≤ (i : Int))
  (x0 y0 z0 H V C : Int) (hA : RL.getD (O i 1).toNat (0, 0, 0) = (x0, y0, z0)) (hB : RL.getD (i + 1) (0, 0, 0) = (H, V, C)) (hHV : 0 ≤ H * V ∧ H * V ≤ 100000000) (slo shi bi : Int) (TL : List (Int × Int)) (N : Nat) (hN : TL.length = N) (hs : vbB slo shi = true)
  (hO : ∀ W', Below W.heap.size W W' → Calls Tryz.prog 51 #[.agg #[U i6 h, U i6 w, U i6 c, U i6 lo, U i6 hi, .slice (some x) on oc, U i6 ot], U i6 ((i : Int) + 1), U i6 ch, U i6 0] W' fun e w' => (∃ v, e = .returned (.tuple #[v, U i6 bi, U i6 0]) ∧ OTm w' W'.heap.size v TL) ∧ Below W'.heap.size W' w') :
  Calls Tryz.prog 35 #[.agg #[U i6 h, U i6 w, U i6 c, U i6 lo, U i6 hi, .slice (some x) on oc, U i6 ot], U i6 ((i : Int) + 1), U i6 ch, .agg #[U i6 slo, U i6 shi]] W fun e w' => ∃ g0, e = .returned (.tuple #[.agg #[U i6 ch, U i6 (H * V), U i6 (N : Int), U i6 bi, U i6 slo, U i6 shi, U i6 (O i 19), U i6 (O i 19), U i6 x0, U i6 y0, U i6 z0, U i6 0, U i6 0, .slice (some ⟨g0, 0, none⟩) 1 1, U i6 0], U i6 0]) ∧ w'.heap[g0]? = some (.cells #[U i6 (O i 0), U i6 0, U i6 (O i 2), U i6 (O i 3), U i6 (O i 4), U i6 (O i 5), U i6 (O i 6), U i6 (O i 7), U i6 (O i 8), U i6 (O i 9), U i6 (O i 10), U i6 (O i 11), .slice wa lw cw, .slice ba lb cb, U i6 (O i 14), U i6 (O i 15), U i6 (O i 16), U i6 (O i 17), U i6 (O i 18), U i6 (O i 19), U i6 (O i 20), U i6 (O i 21)] 43 (0, 0)) ∧ W.heap.size ≤ g0 ∧ Below W.heap.size W w' := by
 have hS : Hid (∀ W, MRow W (some x) on oc O → _) := fun W hW => shapes_any h w c lo hi ot (some x) on oc O W hW
 rw [hR] at hS
 simp only at hS
 obtain ⟨-, hRl, ho64, -, -, -⟩ := gtR_ok hR
 have hM2 : Hid (MRow W (some x) on oc O) := hM
 have hocm := hM.1
 have hocx := hM.2.1
 unfold maxLen at hocx
 have Hc : Hid (∀ q v, [U i6 (O i 0), U i6 (O i 1), U i6 (O i 2), U i6 (O i 3), U i6 (O i 4), U i6 (O i 5), U i6 (O i 6), U i6 (O i 7), U i6 (O i 8), U i6 (O i 9), U i6 (O i 10), U i6 (O i 11), .slice wa lw cw, .slice ba lb cb, U i6 (O i 14), U i6 (O i 15), U i6 (O i 16), U i6 (O i 17), U i6 (O i 18), U i6 (O i 19), U i6 (O i 20), U i6 (O i 21)][q]? = some v → W.cell? ((x.add (i * 22)).add q) = some v) := hcell
 have HO : Hid (∀ W', Below W.heap.size W W' → _) := hO
 have HV : Hid (∀ W', _) := fun W' => bofv_any slo shi W'
 rw [hs] at HV
 obtain ⟨hv1, hv2⟩ := hHV
 have HNN : Hid (TL.length = N) := hN
 have s0 := (((St.start W).new (c := #[U i6 h, U i6 w, U i6 c, U i6 lo, U i6 hi, .slice (some x) on oc, U i6 ot]) (t := 26)).new (c := #[U i6 slo, U i6 shi]) (t := 28)).new (c := #[U i6 0, U i6 0, U i6 0, U i6 0, U i6 0, U i6 0, U i6 0, U i6 0, U i6 0, U i6 0, U i6 0, U i6 0, U i6 0, .slice none 0 0, U i6 0]) (t := 78)
 simp only [World.size_alloc] at s0
 clear hO hs hR hM hcell hN
 go_enter Tryz.func35, Tryz.ntmps35
 go_wp2_with fail
 refine (HO.out _ s0.below).mono ?_
 rintro e w1 ⟨⟨v, rfl, ho⟩, hb⟩
 obtain ⟨ta, tc, rfl⟩ := ho.slice
 rw [HNN.out]
 have s1 := s0.call hb
 obtain ⟨c1, f1, z1, c2, f2, z2, -⟩ := s1.rules
 have S1 : Hid (St W w1 _) := s1
 clear s1 s0 hb HO ho c1 f1
 go_wp2_with fail
 refine (HV.out _).mono ?_
 rintro e w2 ⟨rfl, hb⟩
 have s2 := S1.out.call hb
 obtain ⟨c1, f1, z1, c2, f2, z2, c3, f3, z3, -⟩ := s2.rules
 have S2 : Hid (St W w2 ((W.heap.size + 1 + 1, #[U i6 0, U i6 0, U i6 0, U i6 0, U i6 0, U i6 0, U i6 0, U i6 0, U i6 0, U i6 0, U i6 0, U i6 0, U i6 0, .slice none 0 0, U i6 0], 78) :: (W.heap.size + 1, #[U i6 slo, U i6 shi], 28) :: (W.heap.size, #[U i6 h, U i6 w, U i6 c, U i6 lo, U i6 hi, .slice (some x) on oc, U i6 ot], 26) :: [])) := s2
 clear S1 hb HV c2 f2 s2 c1 f1
 go_wp2_with fail
 refine Calls.mono (hS.out _ (hM2.out.below S2.out.below)) ?_
 rintro e w3 ⟨v, rfl, hSh, hb⟩
 have s3 := (S2.out.call hb).new (c := #[U i6 0, U i6 0, U i6 0]) (t := 104)
 have hz23 := hb.size
 have hz2 := S2.out.size
 obtain ⟨g, cap, cur, rfl, hgb, hgc, hCu⟩ : ∃ g cap cur, v = .slice (some ⟨g, 0, none⟩) (on + 1) cap ∧ W.heap.size ≤ g ∧ w3.heap[g]? = some (.cells cur 23 (0, 0)) ∧ Cu cur cap RL := by
  rcases hSh with ⟨-, q⟩ | ⟨g, cap, cur, q1, q2, q3, q4, -⟩
  ·rw [q] at hRl; simp at hRl
  ·exact ⟨g, cap, cur, by rw [q1, hRl], by omega, q3, q4⟩
 have hcap := hCu.2.1
 obtain ⟨b1, b2, b3⟩ := hCu.at (show i + 1 < RL.length by omega)
 obtain ⟨a1, a2, a3⟩ := hCu.at (show (O i 1).toNat < RL.length by omega)
 rw [hB] at b1 b2 b3
 rw [hA] at a1 a2 a3
 simp only at a1 a2 a3 b1 b2 b3
 have hgz := lt_of_heap hgc
 have hgc2 : Hid ((w3.alloc (.cells #[U i6 0, U i6 0, U i6 0] 104)).heap[g]? = some (.cells cur 23 (0, 0))) := (heap_alloc_old w3 _ hgz).trans hgc
 clear c3 f3 z1 z2 z3
 obtain ⟨c1, f1, z1, c2, f2, z2, c3, f3, z3, -⟩ := (S2.out.call hb).rules
 clear hb hSh hCu hgc hS hM2 c1 f1 c2 f2
 go_upto_region 7 with fail
 obtain ⟨B14, hB14⟩ : ∃ B, w3.heap.size = B := ⟨_, rfl⟩
 have HB14 : Hid (W.heap.size + 1 + 1 < B14) := by unfold Hid; rw [← hB14]; exact z1
 obtain ⟨w4, hw4⟩ : ∃ w4, w3.alloc (.cells #[U i6 0, U i6 0, U i6 0] 104) = w4 := ⟨_, rfl⟩
 rw [hB14, hw4] at s3
 rw [hw4] at hgc2 ⊢
 have hz4 : w4.heap.size = B14 + 1 := by rw [← hw4, ← hB14]; simp
 have S4 : Hid (St W w4 ((B14, #[U i6 0, U i6 0, U i6 0], 104) :: (W.heap.size + 1 + 1, #[U i6 0, U i6 0, U i6 0, U i6 0, U i6 0, U i6 0, U i6 0, U i6 0, U i6 0, U i6 0, U i6 0, U i6 0, U i6 0, .slice none 0 0, U i6 0], 78) :: (W.heap.size + 1, #[U i6 slo, U i6 shi], 28) :: (W.heap.size, #[U i6 h, U i6 w, U i6 c, U i6 lo, U i6 hi, .slice (some x) on oc, U i6 ot], 26) :: [])) := s3
 have HC4 : Hid (∀ q v, [U i6 (O i 0), U i6 (O i 1), U i6 (O i 2), U i6 (O i 3), U i6 (O i 4), U i6 (O i 5), U i6 (O i 6), U i6 (O i 7), U i6 (O i 8), U i6 (O i 9), U i6 (O i 10), U i6 (O i 11), .slice wa lw cw, .slice ba lb cb, U i6 (O i 14), U i6 (O i 15), U i6 (O i 16), U i6 (O i 17), U i6 (O i 18), U i6 (O i 19), U i6 (O i 20), U i6 (O i 21)][q]? = some v → w4.cell? ((x.add (i * 22)).add q) = some v) := fun q v hq => (s3.below.cell (World.block_lt_of_cell? W _ (Hc.out q v hq))).trans (Hc.out q v hq)
 clear c3 f3 z1 z2 z3 hw4 S2 s3 Hc
 obtain ⟨c1, f1, z1, c2, f2, z2, c3, f3, z3, c4, f4, z4, -⟩ := S4.out.rules
 clear c1 f1 c2 f2 c3 f3 f4
 obtain ⟨vo, hvo⟩ : ∃ vo, Value.agg #[U i6 (O i 0), U i6 (O i 1), U i6 (O i 2), U i6 (O i 3), U i6 (O i 4), U i6 (O i 5), U i6 (O i 6), U i6 (O i 7), U i6 (O i 8), U i6 (O i 9), U i6 (O i 10), U i6 (O i 11), .slice wa lw cw, .slice ba lb cb, U i6 (O i 14), U i6 (O i 15), U i6 (O i 16), U i6 (O i 17), U i6 (O i 18), U i6 (O i 19), U i6 (O i 20), U i6 (O i 21)] = vo := ⟨_, rfl⟩
 have HVO : Hid (Value.agg #[U i6 (O i 0), U i6 (O i 1), U i6 (O i 2), U i6 (O i 3), U i6 (O i 4), U i6 (O i 5), U i6 (O i 6), U i6 (O i 7), U i6 (O i 8), U i6 (O i 9), U i6 (O i 10), U i6 (O i 11), .slice wa lw cw, .slice ba lb cb, U i6 (O i 14), U i6 (O i 15), U i6 (O i 16), U i6 (O i 17), U i6 (O i 18), U i6 (O i 19), U i6 (O i 20), U i6 (O i 21)] = vo) := hvo
 have s5 := S4.out.new (c := #[U i6 (O i 0), U i6 (O i 1), U i6 (O i 2), U i6 (O i 3), U i6 (O i 4), U i6 (O i 5), U i6 (O i 6), U i6 (O i 7), U i6 (O i 8), U i6 (O i 9), U i6 (O i 10), U i6 (O i 11), .slice wa lw cw, .slice ba lb cb, U i6 (O i 14), U i6 (O i 15), U i6 (O i 16), U i6 (O i 17), U i6 (O i 18), U i6 (O i 19), U i6 (O i 20), U i6 (O i 21)]) (t := 43)
 have hgc5 : Hid ((w4.alloc (.cells #[U i6 (O i 0), U i6 (O i 1), U i6 (O i 2), U i6 (O i 3), U i6 (O i 4), U i6 (O i 5), U i6 (O i 6), U i6 (O i 7), U i6 (O i 8), U i6 (O i 9), U i6 (O i 10), U i6 (O i 11), .slice wa lw cw, .slice ba lb cb, U i6 (O i 14), U i6 (O i 15), U i6 (O i 16), U i6 (O i 17), U i6 (O i 18), U i6 (O i 19), U i6 (O i 20), U i6 (O i 21)] 43)).heap[g]? = some (.cells cur 23 (0, 0))) := (heap_alloc_old w4 _ (lt_of_heap hgc2.out)).trans hgc2.out
 go_upto_region 8 with ((refine wpList_load_any rfl 43 (.tmp 43) rfl (x.add (i * 22)) rfl [U i6 (O i 0), U i6 (O i 1), U i6 (O i 2), U i6 (O i 3), U i6 (O i 4), U i6 (O i 5), U i6 (O i 6), U i6 (O i 7), U i6 (O i 8), U i6 (O i 9), U i6 (O i 10), U i6 (O i 11), .slice wa lw cw, .slice ba lb cb, U i6 (O i 14), U i6 (O i 15), U i6 (O i 16), U i6 (O i 17), U i6 (O i 18), U i6 (O i 19), U i6 (O i 20), U i6 (O i 21)] _ HC4.out Tryz.underlying43 rfl (by kernel_rfl) ?_; (show wpList _ _ _ _ (Act.put _ _ (Value.agg #[U i6 (O i 0), U i6 (O i 1), U i6 (O i 2), U i6 (O i 3), U i6 (O i 4), U i6 (O i 5), U i6 (O i 6), U i6 (O i 7), U i6 (O i 8), U i6 (O i 9), U i6 (O i 10), U i6 (O i 11), .slice wa lw cw, .slice ba lb cb, U i6 (O i 14), U i6 (O i 15), U i6 (O i 16), U i6 (O i 17), U i6 (O i 18), U i6 (O i 19), U i6 (O i 20), U i6 (O i 21)])) _); rw [hvo]; clear hvo; refine wl1 rfl (some 15) rfl (.pointer (some ⟨w4.heap.size, 0, none⟩)) (w4.alloc (.cells #[U i6 0, U i6 0, U i6 0, U i6 0, U i6 0, U i6 0, U i6 0, U i6 0, U i6 0, U i6 0, U i6 0, U i6 0, .slice none 0 0, .slice none 0 0, U i6 0, U i6 0, U i6 0, U i6 0, U i6 0, U i6 0, U i6 0, U i6 0] 43)) (by kernel_rfl) ?_; refine wpList_st_new rfl 43 (.tmp 15) (.tmp 44) rfl w4 #[U i6 0, U i6 0, U i6 0, U i6 0, U i6 0, U i6 0, U i6 0, U i6 0, U i6 0, U i6 0, U i6 0, U i6 0, .slice none 0 0, .slice none 0 0, U i6 0, U i6 0, U i6 0, U i6 0, U i6 0, U i6 0, U i6 0, U i6 0] #[U i6 (O i 0), U i6 (O i 1), U i6 (O i 2), U i6 (O i 3), U i6 (O i 4), U i6 (O i 5), U i6 (O i 6), U i6 (O i 7), U i6 (O i 8), U i6 (O i 9), U i6 (O i 10), U i6 (O i 11), .slice wa lw cw, .slice ba lb cb, U i6 (O i 14), U i6 (O i 15), U i6 (O i 16), U i6 (O i 17), U i6 (O i 18), U i6 (O i 19), U i6 (O i 20), U i6 (O i 21)] (by kernel_rfl) (Eq.trans (by kernel_rfl : _ = vo) HVO.out.symm) (by kernel_rfl) rfl (by simp [Value.oneCell']) ?_; (obtain ⟨w5, hw5⟩ : ∃ w5, w4.alloc (.cells #[U i6 (O i 0), U i6 (O i 1), U i6 (O i 2), U i6 (O i 3), U i6 (O i 4), U i6 (O i 5), U i6 (O i 6), U i6 (O i 7), U i6 (O i 8), U i6 (O i 9), U i6 (O i 10), U i6 (O i 11), .slice wa lw cw, .slice ba lb cb, U i6 (O i 14), U i6 (O i 15), U i6 (O i 16), U i6 (O i 17), U i6 (O i 18), U i6 (O i 19), U i6 (O i 20), U i6 (O i 21)] 43) = w5 := ⟨_, rfl⟩); rw [hw5] at s5 hgc5 ⊢; have hz5 : w5.heap.size = B14 + 1 + 1 := (by rw [← hw5, World.size_alloc, hz4]); clear hw5))
 obtain ⟨B15, hB15⟩ : ∃ B, w4.heap.size = B := ⟨_, rfl⟩
 rw [hB15] at s5
 have S5 : Hid (St W w5 ((B15, #[U i6 (O i 0), U i6 (O i 1), U i6 (O i 2), U i6 (O i 3), U i6 (O i 4), U i6 (O i 5), U i6 (O i 6), U i6 (O i 7), U i6 (O i 8), U i6 (O i 9), U i6 (O i 10), U i6 (O i 11), .slice wa lw cw, .slice ba lb cb, U i6 (O i 14), U i6 (O i 15), U i6 (O i 16), U i6 (O i 17), U i6 (O i 18), U i6 (O i 19), U i6 (O i 20), U i6 (O i 21)], 43) :: (B14, #[U i6 0, U i6 0, U i6 0], 104) :: (W.heap.size + 1 + 1, #[U i6 0, U i6 0, U i6 0, U i6 0, U i6 0, U i6 0, U i6 0, U i6 0, U i6 0, U i6 0, U i6 0, U i6 0, U i6 0, .slice none 0 0, U i6 0], 78) :: (W.heap.size + 1, #[U i6 slo, U i6 shi], 28) :: (W.heap.size, #[U i6 h, U i6 w, U i6 c, U i6 lo, U i6 hi, .slice (some x) on oc, U i6 ot], 26) :: [])) := s5
 have HB15 : Hid (B15 = B14 + 1) := by unfold Hid; omega
 have HZ5 : Hid (w5.heap.size = B14 + 1 + 1) := hz5
 clear s5 S4 hgc2 HC4 c4 z1 z2 z3 z4
 rw [hB15]
 clear hB15 hz4 hz5 hB14
 refine regionC (fun w' => Below w5.heap.size w5 w') (by kernel_rfl) ?_
 obtain ⟨wd, hwd⟩ : ∃ wd, w5.drew = wd := ⟨_, rfl⟩
 have HD : Hid (Below w5.heap.size w5 wd) := by unfold Hid; rw [← hwd]; exact (Below.refl _ _).drew
 have HZD : Hid (wd.heap.size = B14 + 1 + 1) := by unfold Hid; rw [← hwd]; exact HZ5.out
 rw [hwd]
 have SD : Hid (St W wd ((B15, #[U i6 (O i 0), U i6 (O i 1), U i6 (O i 2), U i6 (O i 3), U i6 (O i 4), U i6 (O i 5), U i6 (O i 6), U i6 (O i 7), U i6 (O i 8), U i6 (O i 9), U i6 (O i 10), U i6 (O i 11), .slice wa lw cw, .slice ba lb cb, U i6 (O i 14), U i6 (O i 15), U i6 (O i 16), U i6 (O i 17), U i6 (O i 18), U i6 (O i 19), U i6 (O i 20), U i6 (O i 21)], 43) :: (B14, #[U i6 0, U i6 0, U i6 0], 104) :: (W.heap.size + 1 + 1, #[U i6 0, U i6 0, U i6 0, U i6 0, U i6 0, U i6 0, U i6 0, U i6 0, U i6 0, U i6 0, U i6 0, U i6 0, U i6 0, .slice none 0 0, U i6 0], 78) :: (W.heap.size + 1, #[U i6 slo, U i6 shi], 28) :: (W.heap.size, #[U i6 h, U i6 w, U i6 c, U i6 lo, U i6 hi, .slice (some x) on oc, U i6 ot], 26) :: [])) := S5.out.call HD.out
 clear hwd
 have hop15 := S5.out.h1
 refine takeC 0 (v := .slice (some ⟨g, 0, none⟩) (on + 1) cap) rfl rfl (by kernel_rfl) (by kernel_rfl) (by kernel_rfl) (fun _ _ _ h => h) (fun _ => rfl) rfl (fun w' hw' => by go_simp) ?_
 refine takeC 1 (v := .pointer (some ⟨B15, 1, none⟩)) rfl rfl (by kernel_rfl) (by kernel_rfl) (by kernel_rfl) (fun _ _ _ h => h) (fun _ => rfl) rfl (fun w' hw' => by go_simp) ?_
 refine takeC 2 (v := U i6 (O i 1)) rfl rfl (by kernel_rfl) (by kernel_rfl) (by kernel_rfl) (fun _ _ _ h => h) (fun _ => rfl) rfl (fun w' hw' => by have hc := (cells_at ((hw'.block _ (lt_of_heap hop15)).trans hop15)).1 1; go_simp) ?_
 refine takeC 3 (v := .pointer (some ⟨g, (O i 1).toNat * 3, none⟩)) rfl rfl (by kernel_rfl) (by kernel_rfl) (by kernel_rfl) (fun _ _ _ h => h) (fun _ => rfl) rfl (fun w' hw' => by go_simp; intro q; omega) ?_
 refine takeC 4 (v := .agg #[U i6 x0, U i6 y0, U i6 z0]) rfl rfl (by kernel_rfl) (by kernel_rfl) (by kernel_rfl) (fun _ _ _ h => h) (fun _ => rfl) rfl (fun w' hw' => run_la 23 (.tmp 48) rfl ⟨g, (O i 1).toNat * 3, none⟩ (by kernel_rfl) [U i6 x0, U i6 y0, U i6 z0] _ (three_at ((hw'.block _ (lt_of_heap hgc5.out)).trans hgc5.out) a1 a2 a3) Tryz.underlying23 rfl (by kernel_rfl)) ?_
 refine takeC 5 (v := .slice (some ⟨g, 0, none⟩) (on + 1) cap) rfl rfl (by kernel_rfl) (by kernel_rfl) (by kernel_rfl) (fun _ _ _ h => h) (fun _ => rfl) rfl (fun w' hw' => by go_simp) ?_
 refine takeC 6 (v := U i6 ((i : Int) + 1)) rfl rfl (by kernel_rfl) (by kernel_rfl) (by kernel_rfl) (fun _ _ _ h => h) (fun _ => rfl) rfl (fun w' hw' => by go_simp) ?_
 refine takeC 7 (v := .pointer (some ⟨g, (i + 1) * 3, none⟩)) rfl rfl (by kernel_rfl) (by kernel_rfl) (by kernel_rfl) (fun _ _ _ h => h) (fun _ => rfl) rfl (fun w' hw' => by go_simp; intro q; omega) ?_
 refine takeC 8 (v := .agg #[U i6 H, U i6 V, U i6 C]) rfl rfl (by kernel_rfl) (by kernel_rfl) (by kernel_rfl) (fun _ _ _ h => h) (fun _ => rfl) rfl (fun w' hw' => run_la 23 (.tmp 52) rfl ⟨g, (i + 1) * 3, none⟩ (by kernel_rfl) [U i6 H, U i6 V, U i6 C] _ (three_at ((hw'.block _ (lt_of_heap hgc5.out)).trans hgc5.out) b1 b2 b3) Tryz.underlying23 rfl (by kernel_rfl)) ?_
 clear a1 a2 a3 b1 b2 b3 hop15
 refine y2 9 10 HD.out (by kernel_rfl) ?_ ?_
 refine yO rfl rfl (.pointer (some ⟨wd.heap.size, 0, none⟩)) (wd.alloc (.cells #[U i6 0, U i6 0, U i6 0] 23)) (by kernel_rfl) ?_
 refine yR 10 (HD.out.alloc HD.out.size _) (by kernel_rfl) rfl rfl (.pointer (some ⟨(wd.alloc (.cells #[U i6 0, U i6 0, U i6 0] 23)).heap.size, 0, none⟩)) ((wd.alloc (.cells #[U i6 0, U i6 0, U i6 0] 23)).alloc (.cells #[U i6 0, U i6 0, U i6 0] 23)) (by kernel_rfl) ?_
 have s6 := (SD.out.new (c := #[U i6 0, U i6 0, U i6 0]) (t := 23)).new (c := #[U i6 0, U i6 0, U i6 0]) (t := 23)
 have hb6 := (HD.out.alloc HD.out.size (.cells #[U i6 0, U i6 0, U i6 0] 23)).alloc (by have := HD.out.size; simp; omega) (.cells #[U i6 0, U i6 0, U i6 0] 23)
 rw [World.size_alloc] at s6 ⊢
 obtain ⟨B16, hB16⟩ : ∃ B, wd.heap.size = B := ⟨_, rfl⟩
 obtain ⟨B17, hB17⟩ : ∃ B, wd.heap.size + 1 = B := ⟨_, rfl⟩
 obtain ⟨w6, hw6⟩ : ∃ w6, (wd.alloc (.cells #[U i6 0, U i6 0, U i6 0] 23)).alloc (.cells #[U i6 0, U i6 0, U i6 0] 23) = w6 := ⟨_, rfl⟩
 rw [hw6] at s6 hb6 ⊢
 rw [hB17, hB16] at s6 ⊢
 have HNE : Hid (B16 ≠ B17 ∧ w5.heap.size ≤ B16 ∧ w5.heap.size ≤ B17) := by unfold Hid; have := HD.out.size; omega
 have S6 : Hid (St W w6 ((B16, #[U i6 0, U i6 0, U i6 0], 23) :: (B17, #[U i6 0, U i6 0, U i6 0], 23) :: (B15, #[U i6 (O i 0), U i6 (O i 1), U i6 (O i 2), U i6 (O i 3), U i6 (O i 4), U i6 (O i 5), U i6 (O i 6), U i6 (O i 7), U i6 (O i 8), U i6 (O i 9), U i6 (O i 10), U i6 (O i 11), .slice wa lw cw, .slice ba lb cb, U i6 (O i 14), U i6 (O i 15), U i6 (O i 16), U i6 (O i 17), U i6 (O i 18), U i6 (O i 19), U i6 (O i 20), U i6 (O i 21)], 43) :: (B14, #[U i6 0, U i6 0, U i6 0], 104) :: (W.heap.size + 1 + 1, #[U i6 0, U i6 0, U i6 0, U i6 0, U i6 0, U i6 0, U i6 0, U i6 0, U i6 0, U i6 0, U i6 0, U i6 0, U i6 0, .slice none 0 0, U i6 0], 78) :: (W.heap.size + 1, #[U i6 slo, U i6 shi], 28) :: (W.heap.size, #[U i6 h, U i6 w, U i6 c, U i6 lo, U i6 hi, .slice (some x) on oc, U i6 ot], 26) :: [])) := s6.up1
 clear hw6 hB16 hB17 s6
 rotate_left
 refine yO rfl rfl (.pointer (some ⟨wd.heap.size, 0, none⟩)) (wd.alloc (.cells #[U i6 0, U i6 0, U i6 0] 23)) (by kernel_rfl) ?_
 refine yR 9 (HD.out.alloc HD.out.size _) (by kernel_rfl) rfl rfl (.pointer (some ⟨(wd.alloc (.cells #[U i6 0, U i6 0, U i6 0] 23)).heap.size, 0, none⟩)) ((wd.alloc (.cells #[U i6 0, U i6 0, U i6 0] 23)).alloc (.cells #[U i6 0, U i6 0, U i6 0] 23)) (by kernel_rfl) ?_
 have s6 := (SD.out.new (c := #[U i6 0, U i6 0, U i6 0]) (t := 23)).new (c := #[U i6 0, U i6 0, U i6 0]) (t := 23)
 have hb6 := (HD.out.alloc HD.out.size (.cells #[U i6 0, U i6 0, U i6 0] 23)).alloc (by have := HD.out.size; simp; omega) (.cells #[U i6 0, U i6 0, U i6 0] 23)
 rw [World.size_alloc] at s6 ⊢
 obtain ⟨B17, hB17⟩ : ∃ B, wd.heap.size = B := ⟨_, rfl⟩
 obtain ⟨B16, hB16⟩ : ∃ B, wd.heap.size + 1 = B := ⟨_, rfl⟩
 obtain ⟨w6, hw6⟩ : ∃ w6, (wd.alloc (.cells #[U i6 0, U i6 0, U i6 0] 23)).alloc (.cells #[U i6 0, U i6 0, U i6 0] 23) = w6 := ⟨_, rfl⟩
 rw [hw6] at s6 hb6 ⊢
 rw [hB16, hB17] at s6 ⊢
 have HNE : Hid (B16 ≠ B17 ∧ w5.heap.size ≤ B16 ∧ w5.heap.size ≤ B17) := by unfold Hid; have := HD.out.size; omega
 have S6 : Hid (St W w6 ((B16, #[U i6 0, U i6 0, U i6 0], 23) :: (B17, #[U i6 0, U i6 0, U i6 0], 23) :: (B15, #[U i6 (O i 0), U i6 (O i 1), U i6 (O i 2), U i6 (O i 3), U i6 (O i 4), U i6 (O i 5), U i6 (O i 6), U i6 (O i 7), U i6 (O i 8), U i6 (O i 9), U i6 (O i 10), U i6 (O i 11), .slice wa lw cw, .slice ba lb cb, U i6 (O i 14), U i6 (O i 15), U i6 (O i 16), U i6 (O i 17), U i6 (O i 18), U i6 (O i 19), U i6 (O i 20), U i6 (O i 21)], 43) :: (B14, #[U i6 0, U i6 0, U i6 0], 104) :: (W.heap.size + 1 + 1, #[U i6 0, U i6 0, U i6 0, U i6 0, U i6 0, U i6 0, U i6 0, U i6 0, U i6 0, U i6 0, U i6 0, U i6 0, U i6 0, .slice none 0 0, U i6 0], 78) :: (W.heap.size + 1, #[U i6 slo, U i6 shi], 28) :: (W.heap.size, #[U i6 h, U i6 w, U i6 c, U i6 lo, U i6 hi, .slice (some x) on oc, U i6 ot], 26) :: [])) := s6
 clear hw6 hB16 hB17 s6
 all_goals
  have hne := HNE.out
  have hz5' := HZ5.out
  have hb15' := HB15.out
  have hz14 := HB14.out
  refine yS 11 hb6 (by kernel_rfl) rfl rfl 23 (.tmp 16) (.tmp 49) rfl B16 #[U i6 x0, U i6 y0, U i6 z0] (by kernel_rfl) (by kernel_rfl) 23 #[U i6 0, U i6 0, U i6 0] S6.out.h1 (by kernel_rfl) rfl (by simp [Value.oneCell']) ?_
  have zBS := lt_of_heap S5.out.h3
  have zS1 := lt_of_heap S5.out.h4
  have s7 := S6.out.rowset (c' := #[U i6 x0, U i6 y0, U i6 z0]) (by simp; omega)
  have hb7 := below_setRow hb6 hne.2.1 #[U i6 x0, U i6 y0, U i6 z0]
  obtain ⟨w7, hw7⟩ : ∃ w7, w6.setRow B16 #[U i6 x0, U i6 y0, U i6 z0] = w7 := ⟨_, rfl⟩
  rw [hw7] at s7 hb7 ⊢
  refine yS 12 hb7 (by kernel_rfl) rfl rfl 23 (.tmp 17) (.tmp 53) rfl B17 #[U i6 H, U i6 V, U i6 C] (by kernel_rfl) (by kernel_rfl) 23 #[U i6 0, U i6 0, U i6 0] s7.h2 (by kernel_rfl) rfl (by simp [Value.oneCell']) ?_
  have s8 := s7.up1.rowset (c' := #[U i6 H, U i6 V, U i6 C]) (by simp; omega)
  have hb8 := below_setRow hb7 hne.2.2 #[U i6 H, U i6 V, U i6 C]
  obtain ⟨w8, hw8⟩ : ∃ w8, w7.setRow B17 #[U i6 H, U i6 V, U i6 C] = w8 := ⟨_, rfl⟩
  rw [hw8] at s8 hb8 ⊢
  refine doneC hb8 (by kernel_rfl) ?_ _
  have S8 : Hid (St W w8 ((B17, #[U i6 H, U i6 V, U i6 C], 23) :: (B16, #[U i6 x0, U i6 y0, U i6 z0], 23) :: (B15, #[U i6 (O i 0), U i6 (O i 1), U i6 (O i 2), U i6 (O i 3), U i6 (O i 4), U i6 (O i 5), U i6 (O i 6), U i6 (O i 7), U i6 (O i 8), U i6 (O i 9), U i6 (O i 10), U i6 (O i 11), .slice wa lw cw, .slice ba lb cb, U i6 (O i 14), U i6 (O i 15), U i6 (O i 16), U i6 (O i 17), U i6 (O i 18), U i6 (O i 19), U i6 (O i 20), U i6 (O i 21)], 43) :: (B14, #[U i6 0, U i6 0, U i6 0], 104) :: (W.heap.size + 1 + 1, #[U i6 0, U i6 0, U i6 0, U i6 0, U i6 0, U i6 0, U i6 0, U i6 0, U i6 0, U i6 0, U i6 0, U i6 0, U i6 0, .slice none 0 0, U i6 0], 78) :: (W.heap.size + 1, #[U i6 slo, U i6 shi], 28) :: (W.heap.size, #[U i6 h, U i6 w, U i6 c, U i6 lo, U i6 hi, .slice (some x) on oc, U i6 ot], 26) :: [])) := s8
  obtain ⟨c1, f1, z1, -⟩ := s8.up2.rules
  have s9 := s8.up2.seti (i := 1) (v := U i6 0) (by simp; omega) #[U i6 (O i 0), U i6 0, U i6 (O i 2), U i6 (O i 3), U i6 (O i 4), U i6 (O i 5), U i6 (O i 6), U i6 (O i 7), U i6 (O i 8), U i6 (O i 9), U i6 (O i 10), U i6 (O i 11), .slice wa lw cw, .slice ba lb cb, U i6 (O i 14), U i6 (O i 15), U i6 (O i 16), U i6 (O i 17), U i6 (O i 18), U i6 (O i 19), U i6 (O i 20), U i6 (O i 21)] (by kernel_rfl)
  clear hb6 hb7 hb8 s7 s8 S6 SD HD hw7 hw8 hgc5 S5 S8 hne hz5' hb15' hz14 zBS zS1
  go_upto_region 10 with fail
  obtain ⟨w9, hw9⟩ : ∃ w9, w8.setCell ⟨B15, 1, none⟩ (U i6 0) = w9 := ⟨_, rfl⟩
  rw [hw9] at s9 ⊢
  have hBS9 := (s9.2 (W.heap.size + 1 + 1, #[U i6 0, U i6 0, U i6 0, U i6 0, U i6 0, U i6 0, U i6 0, U i6 0, U i6 0, U i6 0, U i6 0, U i6 0, U i6 0, .slice none 0 0, U i6 0], 78) (by simp)).1
  have s10 := s9.sub (l' := (B17, #[U i6 H, U i6 V, U i6 C], 23) :: (B16, #[U i6 x0, U i6 y0, U i6 z0], 23) :: (B15, #[U i6 (O i 0), U i6 0, U i6 (O i 2), U i6 (O i 3), U i6 (O i 4), U i6 (O i 5), U i6 (O i 6), U i6 (O i 7), U i6 (O i 8), U i6 (O i 9), U i6 (O i 10), U i6 (O i 11), .slice wa lw cw, .slice ba lb cb, U i6 (O i 14), U i6 (O i 15), U i6 (O i 16), U i6 (O i 17), U i6 (O i 18), U i6 (O i 19), U i6 (O i 20), U i6 (O i 21)], 43) :: (W.heap.size + 1, #[U i6 slo, U i6 shi], 28) :: []) (fun y hy => by simp only [List.mem_cons, List.not_mem_nil, or_false] at hy ⊢; rcases hy with rfl | rfl | rfl | rfl <;> simp)
  clear c1 f1 z1 hw9 s9
  refine regionC (fun w' => St W w' ((B17, #[U i6 H, U i6 V, U i6 C], 23) :: (B16, #[U i6 x0, U i6 y0, U i6 z0], 23) :: (B15, #[U i6 (O i 0), U i6 0, U i6 (O i 2), U i6 (O i 3), U i6 (O i 4), U i6 (O i 5), U i6 (O i 6), U i6 (O i 7), U i6 (O i 8), U i6 (O i 9), U i6 (O i 10), U i6 (O i 11), .slice wa lw cw, .slice ba lb cb, U i6 (O i 14), U i6 (O i 15), U i6 (O i 16), U i6 (O i 17), U i6 (O i 18), U i6 (O i 19), U i6 (O i 20), U i6 (O i 21)], 43) :: (W.heap.size + 1, #[U i6 slo, U i6 shi], 28) :: [])) (by kernel_rfl) ?_
  obtain ⟨wa', hwa⟩ : ∃ wd, w9.drew = wd := ⟨_, rfl⟩
  have SA' : Hid (St W wa' ((B17, #[U i6 H, U i6 V, U i6 C], 23) :: (B16, #[U i6 x0, U i6 y0, U i6 z0], 23) :: (B15, #[U i6 (O i 0), U i6 0, U i6 (O i 2), U i6 (O i 3), U i6 (O i 4), U i6 (O i 5), U i6 (O i 6), U i6 (O i 7), U i6 (O i 8), U i6 (O i 9), U i6 (O i 10), U i6 (O i 11), .slice wa lw cw, .slice ba lb cb, U i6 (O i 14), U i6 (O i 15), U i6 (O i 16), U i6 (O i 17), U i6 (O i 18), U i6 (O i 19), U i6 (O i 20), U i6 (O i 21)], 43) :: (W.heap.size + 1, #[U i6 slo, U i6 shi], 28) :: [])) := by unfold Hid; rw [← hwa]; exact s10.drew
  have hBSa : Hid (wa'.heap[W.heap.size + 1 + 1]? = some (.cells #[U i6 0, U i6 0, U i6 0, U i6 0, U i6 0, U i6 0, U i6 0, U i6 0, U i6 0, U i6 0, U i6 0, U i6 0, U i6 0, .slice none 0 0, U i6 0] 78 (0, 0))) := by unfold Hid; rw [← hwa]; exact hBS9
  rw [hwa]
  clear hwa s10 hBS9
  refine takeC 0 (v := U i6 ch) rfl rfl (by kernel_rfl) (by kernel_rfl) (by kernel_rfl) (fun _ _ _ h => h) (fun _ => rfl) rfl (fun w' hw' => by go_simp) ?_
  refine takeC 1 (v := .pointer (some ⟨B17, 0, none⟩)) rfl rfl (by kernel_rfl) (by kernel_rfl) (by kernel_rfl) (fun _ _ _ h => h) (fun _ => rfl) rfl (fun w' hw' => by go_simp) ?_
  refine takeC 2 (v := U i6 H) rfl rfl (by kernel_rfl) (by kernel_rfl) (by kernel_rfl) (fun _ _ _ h => h) (fun _ => rfl) rfl (fun w' hw' => by have hc := (cells_at hw'.h1).1 0; go_simp) ?_
  refine takeC 3 (v := .pointer (some ⟨B17, 1, none⟩)) rfl rfl (by kernel_rfl) (by kernel_rfl) (by kernel_rfl) (fun _ _ _ h => h) (fun _ => rfl) rfl (fun w' hw' => by go_simp) ?_
  refine takeC 4 (v := U i6 V) rfl rfl (by kernel_rfl) (by kernel_rfl) (by kernel_rfl) (fun _ _ _ h => h) (fun _ => rfl) rfl (fun w' hw' => by have hc := (cells_at hw'.h1).1 1; go_simp) ?_
  refine takeC 5 (v := U i6 (H * V)) rfl rfl (by kernel_rfl) (by kernel_rfl) (by kernel_rfl) (fun _ _ _ h => h) (fun _ => rfl) rfl (fun w' hw' => by go_simp; rw [IntKind.wrap_i64]; omega) ?_
  refine takeC 6 (v := .slice ta N tc) rfl rfl (by kernel_rfl) (by kernel_rfl) (by kernel_rfl) (fun _ _ _ h => h) (fun _ => rfl) rfl (fun w' hw' => by go_simp) ?_
  refine takeC 7 (v := U i6 (N : Int)) rfl rfl (by kernel_rfl) (by kernel_rfl) (by kernel_rfl) (fun _ _ _ h => h) (fun _ => rfl) rfl (fun w' hw' => by go_simp) ?_
  refine takeC 8 (v := U i6 bi) rfl rfl (by kernel_rfl) (by kernel_rfl) (by kernel_rfl) (fun _ _ _ h => h) (fun _ => rfl) rfl (fun w' hw' => by go_simp) ?_
  refine takeC 9 (v := .agg #[U i6 slo, U i6 shi]) rfl rfl (by kernel_rfl) (by kernel_rfl) (by kernel_rfl) (fun _ _ _ h => h) (fun _ => rfl) rfl (fun w' hw' => run_la 28 (.tmp 7) rfl ⟨W.heap.size + 1, 0, none⟩ (by kernel_rfl) [U i6 slo, U i6 shi] _ (fun j v hj => by rw [Addr.add_lit, Nat.zero_add, (cells_at hw'.h4).1]; simpa using hj) Tryz.underlying28 rfl (by kernel_rfl)) ?_
  refine takeC 10 (v := .pointer (some ⟨B15, 19, none⟩)) rfl rfl (by kernel_rfl) (by kernel_rfl) (by kernel_rfl) (fun _ _ _ h => h) (fun _ => rfl) rfl (fun w' hw' => by go_simp) ?_
  refine takeC 11 (v := U i6 (O i 19)) rfl rfl (by kernel_rfl) (by kernel_rfl) (by kernel_rfl) (fun _ _ _ h => h) (fun _ => rfl) rfl (fun w' hw' => by have hc := (cells_at hw'.h3).1 19; go_simp) ?_
  refine takeC 13 (v := .agg #[U i6 x0, U i6 y0, U i6 z0]) rfl rfl (by kernel_rfl) (by kernel_rfl) (by kernel_rfl) (fun _ _ _ h => h) (fun _ => rfl) rfl (fun w' hw' => run_la 23 (.tmp 16) rfl ⟨B16, 0, none⟩ (by kernel_rfl) [U i6 x0, U i6 y0, U i6 z0] _ (three_at hw'.h2 rfl rfl rfl) Tryz.underlying23 rfl (by kernel_rfl)) ?_
  refine takeC 14 (v := .agg #[U i6 (O i 0), U i6 0, U i6 (O i 2), U i6 (O i 3), U i6 (O i 4), U i6 (O i 5), U i6 (O i 6), U i6 (O i 7), U i6 (O i 8), U i6 (O i 9), U i6 (O i 10), U i6 (O i 11), .slice wa lw cw, .slice ba lb cb, U i6 (O i 14), U i6 (O i 15), U i6 (O i 16), U i6 (O i 17), U i6 (O i 18), U i6 (O i 19), U i6 (O i 20), U i6 (O i 21)]) rfl rfl (by kernel_rfl) (by kernel_rfl) (by kernel_rfl) (fun _ _ _ h => h) (fun _ => rfl) rfl (fun w' hw' => run_la 43 (.tmp 15) rfl ⟨B15, 0, none⟩ (by kernel_rfl) [U i6 (O i 0), U i6 0, U i6 (O i 2), U i6 (O i 3), U i6 (O i 4), U i6 (O i 5), U i6 (O i 6), U i6 (O i 7), U i6 (O i 8), U i6 (O i 9), U i6 (O i 10), U i6 (O i 11), .slice wa lw cw, .slice ba lb cb, U i6 (O i 14), U i6 (O i 15), U i6 (O i 16), U i6 (O i 17), U i6 (O i 18), U i6 (O i 19), U i6 (O i 20), U i6 (O i 21)] _ (fun j v hj => by rw [Addr.add_lit, Nat.zero_add, (cells_at hw'.h3).1]; simpa using hj) Tryz.underlying43 rfl (by kernel_rfl)) ?_
  refine y2 12 15 SA'.out (by kernel_rfl) ?_ ?_
  refine yC rfl rfl 46 #[U i6 (O i 19)] (by kernel_rfl) (bone_any _ _) ?_
  rintro e wb ⟨rfl, hbb⟩
  refine ⟨_, rfl, ?_⟩
  have sb := SA'.out.call hbb
  have hBSb := (hbb.block _ (lt_of_heap hBSa.out)).trans hBSa.out
  refine yR 15 sb (by kernel_rfl) rfl rfl (.slice (some ⟨wb.heap.size, 0, none⟩) 1 1) (wb.alloc (.cells #[U i6 (O i 0), U i6 0, U i6 (O i 2), U i6 (O i 3), U i6 (O i 4), U i6 (O i 5), U i6 (O i 6), U i6 (O i 7), U i6 (O i 8), U i6 (O i 9), U i6 (O i 10), U i6 (O i 11), .slice wa lw cw, .slice ba lb cb, U i6 (O i 14), U i6 (O i 15), U i6 (O i 16), U i6 (O i 17), U i6 (O i 18), U i6 (O i 19), U i6 (O i 20), U i6 (O i 21)] 43)) (by kernel_rfl) ?_
  have sc := sb.skip (.cells #[U i6 (O i 0), U i6 0, U i6 (O i 2), U i6 (O i 3), U i6 (O i 4), U i6 (O i 5), U i6 (O i 6), U i6 (O i 7), U i6 (O i 8), U i6 (O i 9), U i6 (O i 10), U i6 (O i 11), .slice wa lw cw, .slice ba lb cb, U i6 (O i 14), U i6 (O i 15), U i6 (O i 16), U i6 (O i 17), U i6 (O i 18), U i6 (O i 19), U i6 (O i 20), U i6 (O i 21)] 43)
  have hg0 := heap_alloc_new wb (.cells #[U i6 (O i 0), U i6 0, U i6 (O i 2), U i6 (O i 3), U i6 (O i 4), U i6 (O i 5), U i6 (O i 6), U i6 (O i 7), U i6 (O i 8), U i6 (O i 9), U i6 (O i 10), U i6 (O i 11), .slice wa lw cw, .slice ba lb cb, U i6 (O i 14), U i6 (O i 15), U i6 (O i 16), U i6 (O i 17), U i6 (O i 18), U i6 (O i 19), U i6 (O i 20), U i6 (O i 21)] 43)
  have hBSc := (heap_alloc_old wb (.cells #[U i6 (O i 0), U i6 0, U i6 (O i 2), U i6 (O i 3), U i6 (O i 4), U i6 (O i 5), U i6 (O i 6), U i6 (O i 7), U i6 (O i 8), U i6 (O i 9), U i6 (O i 10), U i6 (O i 11), .slice wa lw cw, .slice ba lb cb, U i6 (O i 14), U i6 (O i 15), U i6 (O i 16), U i6 (O i 17), U i6 (O i 18), U i6 (O i 19), U i6 (O i 20), U i6 (O i 21)] 43) (lt_of_heap hBSb)).trans hBSb
  have hgz : W.heap.size ≤ wb.heap.size ∧ wb.heap.size ≠ W.heap.size + 1 + 1 := ⟨sb.size, by have := lt_of_heap hBSb; omega⟩
  obtain ⟨g0, hg0e⟩ : ∃ g0, wb.heap.size = g0 := ⟨_, rfl⟩
  obtain ⟨wc, hwc⟩ : ∃ wc, wb.alloc (.cells #[U i6 (O i 0), U i6 0, U i6 (O i 2), U i6 (O i 3), U i6 (O i 4), U i6 (O i 5), U i6 (O i 6), U i6 (O i 7), U i6 (O i 8), U i6 (O i 9), U i6 (O i 10), U i6 (O i 11), .slice wa lw cw, .slice ba lb cb, U i6 (O i 14), U i6 (O i 15), U i6 (O i 16), U i6 (O i 17), U i6 (O i 18), U i6 (O i 19), U i6 (O i 20), U i6 (O i 21)] 43) = wc := ⟨_, rfl⟩
  rw [hwc] at sc hg0 hBSc ⊢
  rw [hg0e] at hg0 hgz ⊢
  clear hwc hg0e hBSb sb hbb
  refine takeC 16 (v := .agg #[U i6 x0, U i6 y0, U i6 z0, U i6 0, U i6 0, .slice (some ⟨g0, 0, none⟩) 1 1, U i6 0]) rfl rfl (by kernel_rfl) (by kernel_rfl) (by kernel_rfl) (fun _ _ _ h => h) (fun _ => rfl) rfl (fun w' hw' => by kernel_rfl) ?_
  rotate_left
  refine yO rfl rfl (.slice (some ⟨wa'.heap.size, 0, none⟩) 1 1) (wa'.alloc (.cells #[U i6 (O i 0), U i6 0, U i6 (O i 2), U i6 (O i 3), U i6 (O i 4), U i6 (O i 5), U i6 (O i 6), U i6 (O i 7), U i6 (O i 8), U i6 (O i 9), U i6 (O i 10), U i6 (O i 11), .slice wa lw cw, .slice ba lb cb, U i6 (O i 14), U i6 (O i 15), U i6 (O i 16), U i6 (O i 17), U i6 (O i 18), U i6 (O i 19), U i6 (O i 20), U i6 (O i 21)] 43)) (by kernel_rfl) ?_
  have sb := SA'.out.skip (.cells #[U i6 (O i 0), U i6 0, U i6 (O i 2), U i6 (O i 3), U i6 (O i 4), U i6 (O i 5), U i6 (O i 6), U i6 (O i 7), U i6 (O i 8), U i6 (O i 9), U i6 (O i 10), U i6 (O i 11), .slice wa lw cw, .slice ba lb cb, U i6 (O i 14), U i6 (O i 15), U i6 (O i 16), U i6 (O i 17), U i6 (O i 18), U i6 (O i 19), U i6 (O i 20), U i6 (O i 21)] 43)
  have hg0' := heap_alloc_new wa' (.cells #[U i6 (O i 0), U i6 0, U i6 (O i 2), U i6 (O i 3), U i6 (O i 4), U i6 (O i 5), U i6 (O i 6), U i6 (O i 7), U i6 (O i 8), U i6 (O i 9), U i6 (O i 10), U i6 (O i 11), .slice wa lw cw, .slice ba lb cb, U i6 (O i 14), U i6 (O i 15), U i6 (O i 16), U i6 (O i 17), U i6 (O i 18), U i6 (O i 19), U i6 (O i 20), U i6 (O i 21)] 43)
  have hBSb := (heap_alloc_old wa' (.cells #[U i6 (O i 0), U i6 0, U i6 (O i 2), U i6 (O i 3), U i6 (O i 4), U i6 (O i 5), U i6 (O i 6), U i6 (O i 7), U i6 (O i 8), U i6 (O i 9), U i6 (O i 10), U i6 (O i 11), .slice wa lw cw, .slice ba lb cb, U i6 (O i 14), U i6 (O i 15), U i6 (O i 16), U i6 (O i 17), U i6 (O i 18), U i6 (O i 19), U i6 (O i 20), U i6 (O i 21)] 43) (lt_of_heap hBSa.out)).trans hBSa.out
  have hgz : W.heap.size ≤ wa'.heap.size ∧ wa'.heap.size ≠ W.heap.size + 1 + 1 := ⟨SA'.out.size, by have := lt_of_heap hBSa.out; omega⟩
  obtain ⟨g0, hg0e⟩ : ∃ g0, wa'.heap.size = g0 := ⟨_, rfl⟩
  obtain ⟨wb, hwb⟩ : ∃ wb, wa'.alloc (.cells #[U i6 (O i 0), U i6 0, U i6 (O i 2), U i6 (O i 3), U i6 (O i 4), U i6 (O i 5), U i6 (O i 6), U i6 (O i 7), U i6 (O i 8), U i6 (O i 9), U i6 (O i 10), U i6 (O i 11), .slice wa lw cw, .slice ba lb cb, U i6 (O i 14), U i6 (O i 15), U i6 (O i 16), U i6 (O i 17), U i6 (O i 18), U i6 (O i 19), U i6 (O i 20), U i6 (O i 21)] 43) = wb := ⟨_, rfl⟩
  rw [hwb] at sb hg0' hBSb ⊢
  rw [hg0e] at hg0' hgz ⊢
  clear hwb hg0e
  refine takeC 16 (v := .agg #[U i6 x0, U i6 y0, U i6 z0, U i6 0, U i6 0, .slice (some ⟨g0, 0, none⟩) 1 1, U i6 0]) rfl rfl (by kernel_rfl) (by kernel_rfl) (by kernel_rfl) (fun _ _ _ h => h) (fun _ => rfl) rfl (fun w' hw' => by kernel_rfl) ?_
  refine yK 12 sb (by kernel_rfl) rfl rfl 46 #[U i6 (O i 19)] (by kernel_rfl) (bone_any _ _) ?_
  rintro e wc ⟨rfl, hbb⟩
  refine ⟨_, rfl, ?_⟩
  have sc := sb.call hbb
  have hg0 := (hbb.block _ (lt_of_heap hg0')).trans hg0'
  have hBSc := (hbb.block _ (lt_of_heap hBSb)).trans hBSb
  clear hBSb sb hbb hg0'
  all_goals
   refine takeC 17 (v := .agg #[U i6 ch, U i6 (H * V), U i6 (N : Int), U i6 bi, U i6 slo, U i6 shi, U i6 (O i 19), U i6 (O i 19), U i6 x0, U i6 y0, U i6 z0, U i6 0, U i6 0, .slice (some ⟨g0, 0, none⟩) 1 1, U i6 0]) rfl rfl (by kernel_rfl) (by kernel_rfl) (by kernel_rfl) (fun _ _ _ h => h) (fun _ => rfl) rfl (fun w' hw' => by kernel_rfl) ?_
   refine yS 18 sc (by kernel_rfl) rfl rfl 78 (.tmp 8) (.tmp 72) rfl (W.heap.size + 1 + 1) #[U i6 ch, U i6 (H * V), U i6 (N : Int), U i6 bi, U i6 slo, U i6 shi, U i6 (O i 19), U i6 (O i 19), U i6 x0, U i6 y0, U i6 z0, U i6 0, U i6 0, .slice (some ⟨g0, 0, none⟩) 1 1, U i6 0] (by kernel_rfl) (by kernel_rfl) 78 #[U i6 0, U i6 0, U i6 0, U i6 0, U i6 0, U i6 0, U i6 0, U i6 0, U i6 0, U i6 0, U i6 0, U i6 0, U i6 0, .slice none 0 0, U i6 0] hBSc (by kernel_rfl) rfl (by simp [Value.oneCell']) ?_
   have hB' := below_setRow sc.below (show W.heap.size ≤ W.heap.size + 1 + 1 by omega) #[U i6 ch, U i6 (H * V), U i6 (N : Int), U i6 bi, U i6 slo, U i6 shi, U i6 (O i 19), U i6 (O i 19), U i6 x0, U i6 y0, U i6 z0, U i6 0, U i6 0, .slice (some ⟨g0, 0, none⟩) 1 1, U i6 0]
   have hZ' := setRow_heap wc (W.heap.size + 1 + 1) #[U i6 0, U i6 0, U i6 0, U i6 0, U i6 0, U i6 0, U i6 0, U i6 0, U i6 0, U i6 0, U i6 0, U i6 0, U i6 0, .slice none 0 0, U i6 0] #[U i6 ch, U i6 (H * V), U i6 (N : Int), U i6 bi, U i6 slo, U i6 shi, U i6 (O i 19), U i6 (O i 19), U i6 x0, U i6 y0, U i6 z0, U i6 0, U i6 0, .slice (some ⟨g0, 0, none⟩) 1 1, U i6 0] 78 (0, 0) hBSc
   have hG' : (wc.setRow (W.heap.size + 1 + 1) #[U i6 ch, U i6 (H * V), U i6 (N : Int), U i6 bi, U i6 slo, U i6 shi, U i6 (O i 19), U i6 (O i 19), U i6 x0, U i6 y0, U i6 z0, U i6 0, U i6 0, .slice (some ⟨g0, 0, none⟩) 1 1, U i6 0]).heap[g0]? = some (.cells #[U i6 (O i 0), U i6 0, U i6 (O i 2), U i6 (O i 3), U i6 (O i 4), U i6 (O i 5), U i6 (O i 6), U i6 (O i 7), U i6 (O i 8), U i6 (O i 9), U i6 (O i 10), U i6 (O i 11), .slice wa lw cw, .slice ba lb cb, U i6 (O i 14), U i6 (O i 15), U i6 (O i 16), U i6 (O i 17), U i6 (O i 18), U i6 (O i 19), U i6 (O i 20), U i6 (O i 21)] 43 (0, 0)) := (setRow_other _ _ _ _ hgz.2).trans hg0
   have hne := HNE.out
   have h5 := HZ5.out
   have h15 := HB15.out
   have h14 := HB14.out
   have sd : St W (wc.setRow (W.heap.size + 1 + 1) #[U i6 ch, U i6 (H * V), U i6 (N : Int), U i6 bi, U i6 slo, U i6 shi, U i6 (O i 19), U i6 (O i 19), U i6 x0, U i6 y0, U i6 z0, U i6 0, U i6 0, .slice (some ⟨g0, 0, none⟩) 1 1, U i6 0]) ((B17, #[U i6 H, U i6 V, U i6 C], 23) :: (B16, #[U i6 x0, U i6 y0, U i6 z0], 23) :: (B15, #[U i6 (O i 0), U i6 0, U i6 (O i 2), U i6 (O i 3), U i6 (O i 4), U i6 (O i 5), U i6 (O i 6), U i6 (O i 7), U i6 (O i 8), U i6 (O i 9), U i6 (O i 10), U i6 (O i 11), .slice wa lw cw, .slice ba lb cb, U i6 (O i 14), U i6 (O i 15), U i6 (O i 16), U i6 (O i 17), U i6 (O i 18), U i6 (O i 19), U i6 (O i 20), U i6 (O i 21)], 43) :: (W.heap.size + 1, #[U i6 slo, U i6 shi], 28) :: []) := ⟨hB', fun y hy => ⟨(setRow_other _ _ _ _ (by simp only [List.mem_cons, List.not_mem_nil, or_false] at hy; rcases hy with rfl | rfl | rfl | rfl <;> simp <;> omega)).trans (sc.2 y hy).1, (sc.2 y hy).2⟩⟩
   clear hne h5 h15 h14
   obtain ⟨wf, hwf⟩ : ∃ wf, wc.setRow (W.heap.size + 1 + 1) #[U i6 ch, U i6 (H * V), U i6 (N : Int), U i6 bi, U i6 slo, U i6 shi, U i6 (O i 19), U i6 (O i 19), U i6 x0, U i6 y0, U i6 z0, U i6 0, U i6 0, .slice (some ⟨g0, 0, none⟩) 1 1, U i6 0] = wf := ⟨_, rfl⟩
   rw [hwf] at hB' hZ' hG' sd ⊢
   refine yR 19 sd (by kernel_rfl) rfl rfl (U i6 0) wf (by kernel_rfl) ?_
   refine doneC sd (by kernel_rfl) ?_ _
   clear sd sc hBSc hg0 hwf
   have HB' : Hid (Below W.heap.size W wf) := hB'
   have HZ' : Hid (wf.heap[W.heap.size + 1 + 1]? = some (.cells #[U i6 ch, U i6 (H * V), U i6 (N : Int), U i6 bi, U i6 slo, U i6 shi, U i6 (O i 19), U i6 (O i 19), U i6 x0, U i6 y0, U i6 z0, U i6 0, U i6 0, .slice (some ⟨g0, 0, none⟩) 1 1, U i6 0] 78 (0, 0))) := hZ'
   have HG' : Hid (wf.heap[g0]? = some (.cells #[U i6 (O i 0), U i6 0, U i6 (O i 2), U i6 (O i 3), U i6 (O i 4), U i6 (O i 5), U i6 (O i 6), U i6 (O i 7), U i6 (O i 8), U i6 (O i 9), U i6 (O i 10), U i6 (O i 11), .slice wa lw cw, .slice ba lb cb, U i6 (O i 14), U i6 (O i 15), U i6 (O i 16), U i6 (O i 17), U i6 (O i 18), U i6 (O i 19), U i6 (O i 20), U i6 (O i 21)] 43 (0, 0))) := hG'
   clear hB' hZ' hG'
   go_wp2
   refine bodyPost_ret (v := .tuple #[.agg #[U i6 ch, U i6 (H * V), U i6 (N : Int), U i6 bi, U i6 slo, U i6 shi, U i6 (O i 19), U i6 (O i 19), U i6 x0, U i6 y0, U i6 z0, U i6 0, U i6 0, .slice (some ⟨g0, 0, none⟩) 1 1, U i6 0], U i6 0]) (results_row_tmp Tryz.results35 _ _ (W.heap.size + 1 + 1) 78 _ _ (U i6 0) (by kernel_rfl) HZ'.out Tryz.underlying78 rfl (by kernel_rfl) (by kernel_rfl)) (by kernel_rfl) ⟨g0, rfl, HG'.out, hgz.1, HB'.out⟩
end Go.Proofs.YtgiohlcipndakaaGreat
/- The document's size of a number, and a size with a sign: for every argument that fits its type. -/
namespace Go.Proofs.YtgiohlcipndakaaGreat.Fx
open Go.Value renaming int → U
open Go.IntKind renaming i64 → i6
set_option maxRecDepth 100000
set_option maxHeartbeats 16000000
open Go.ChangeShapes Go.WideShapes Go.ChangeAt Go.RowKit
def sizeV (x : Int) : Int := if x < 0 then -x else x
end Go.Proofs.YtgiohlcipndakaaGreat.Fx
