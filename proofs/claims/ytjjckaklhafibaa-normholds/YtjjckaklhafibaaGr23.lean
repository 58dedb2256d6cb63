/- What Of of package terms returns. plain and fixed of law10. The document's size of a number, and a size with a sign: for every argument that fits its type. Quotients rounded half away from zero, as plain numbers. What the inner functions of package fixq, Shift, Mean and Finish return: each for every argument that fits its type. What Valid and Apply of package fixq return: each for every argument that fits its type. What an op makes of its tensors, in plain numbers; what is known of each op of a well-formed model; an op alone. Sums of weights, in plain numbers, and what they say at once. What the small functions of package plain return: places, isInput, widened, scaled, means, added. -/
import Derived.Test.YtjjckaklhafibaaGr01
import Derived.Test.YtjjckaklhafibaaGr11
import Derived.Test.YtjjckaklhafibaaGr13
import Derived.Test.YtjjckaklhafibaaGr20
import Derived.Test.YtjjckaklhafibaaGr22
import Derived.BigQuiet
import Derived.Below
import Derived.WalkSmall
import Derived.LoopN
import Derived.Deep.DeepCutAuto
/- What Of of package terms returns. -/
namespace Go.Proofs.Ytjjckaklhafibaa
open Go.ChangeShapes Go.WideShapes Go.ChangeAt Go.RowKit
set_option linter.unusedVariables false
set_option maxRecDepth 100000 in
set_option maxHeartbeats 2000000 in
theorem of_bad (h w c lo hi ot : Int) (oa : Option Addr) (on oc : Nat) (O : Nat → Nat → Int) (Z B : Nat → List Int) (W : World) (hL : LRow W oa on oc O Z B) (op ch at' E : Int) (hf : fiE O h w c lo hi ot on op = E) (hE : E ≠ 0) :
    Calls Try.prog 16 #[.agg #[.int .i64 h, .int .i64 w, .int .i64 c, .int .i64 lo, .int .i64 hi, .slice oa on oc, .int .i64 ot], .int .i64 op, .int .i64 ch, .int .i64 at'] W fun e w' => e = .returned (.tuple #[.slice none 0 0, .int .i64 0, .int .i64 E]) ∧ Below W.heap.size W w' := by
  have s0 := (St.start W).new (c := #[.int .i64 h, .int .i64 w, .int .i64 c, .int .i64 lo, .int .i64 hi, .slice oa on oc, .int .i64 ot]) (t := 26)
  have hF : Hid (∀ W', Below W.heap.size W W' → _) := fun W' hb => find_bad h w c lo hi ot oa on oc O Z B W' (hL.below hb) op E hf hE
  have hE' : (E == 0) = false := by simp [hE]
  clear hf hL
  go_enter Try.func16, Try.ntmps16
  go_wp2_with fail
  refine (hF.out _ s0.below).mono ?_
  rintro e w1 ⟨rfl, hb⟩
  have s1 := (s0.call hb).new (c := #[.int .i64 0, .int .i64 0, .int .i64 0, .int .i64 0, .int .i64 0, .int .i64 0, .int .i64 0, .int .i64 0, .int .i64 0, .int .i64 0, .int .i64 0, .int .i64 0, .slice none 0 0, .slice none 0 0, .int .i64 0, .int .i64 0, .int .i64 0, .int .i64 0, .int .i64 0, .int .i64 0, .int .i64 0, .int .i64 0, .int .i64 0, .int .i64 0, .int .i64 0, .int .i64 0, .int .i64 0, .int .i64 0]) (t := 87)
  have S1 : Hid (Below W.heap.size W _) := s1.below
  clear hb s1
  go_wp2_with (refine wpList_st_new rfl 87 (.tmp 11) (.tmp 17) rfl w1 _ #[.int .i64 0, .int .i64 0, .int .i64 0, .int .i64 0, .int .i64 0, .int .i64 0, .int .i64 0, .int .i64 0, .int .i64 0, .int .i64 0, .int .i64 0, .int .i64 0, .slice none 0 0, .slice none 0 0, .int .i64 0, .int .i64 0, .int .i64 0, .int .i64 0, .int .i64 0, .int .i64 0, .int .i64 0, .int .i64 0, .int .i64 0, .int .i64 0, .int .i64 0, .int .i64 0, .int .i64 0, .int .i64 0] rfl rfl (by kernel_rfl) rfl (by simp [Value.oneCell']) ?_)
  exact bodyPost_ret (v := .tuple #[.slice none 0 0, .int .i64 0, .int .i64 E]) (by simp [results, Try.results16, go_sem, *]) rfl ⟨rfl, S1.out⟩
set_option maxRecDepth 100000 in
set_option maxHeartbeats 4000000 in
theorem of_place (h w c lo hi ot : Int) (oa : Option Addr) (on oc : Nat) (O : Nat → Nat → Int) (Z B : Nat → List Int) (W : World) (hL : LRow W oa on oc O Z B) (ch at' : Int) (RL : List (Int × Int × Int)) (Rw : Int) (hR : gtR O h w c lo hi ot on = (0, 0, RL, Rw)) (i : Nat) (x : Addr) (wa : Option Addr) (lw cw : Nat) (ba : Option Addr) (lb cb : Nat) (x0 y0 z0 H V C : Int) (hF : Fnd W oa on O Z B RL i x wa lw cw ba lb cb x0 y0 z0 H V C) (hp : ¬ ((1 ≤ ch ∧ ch ≤ C) ∧ (0 ≤ at' ∧ at' < H * V))) :
    Calls Try.prog 16 #[.agg #[.int .i64 h, .int .i64 w, .int .i64 c, .int .i64 lo, .int .i64 hi, .slice oa on oc, .int .i64 ot], .int .i64 ((i : Int) + 1), .int .i64 ch, .int .i64 at'] W fun e w' => e = .returned (.tuple #[.slice none 0 0, .int .i64 0, .int .i64 3]) ∧ Below W.heap.size W w' := by
  have s0 := (St.start W).new (c := #[.int .i64 h, .int .i64 w, .int .i64 c, .int .i64 lo, .int .i64 hi, .slice oa on oc, .int .i64 ot]) (t := 26)
  have hSit : Hid (Sit (O i 0) (O i 4) (O i 5) (O i 6) (O i 7) (O i 8) (O i 9) (O i 10) (O i 11) x0 y0 z0 H V C lw lb) := hF.2.2.2.2.2.2.2.2.2.1
  have hK : Hid (∀ W', Below W.heap.size W W' → _) := fun W' hb => find_ok h w c lo hi ot oa on oc O Z B W' (hL.below hb) RL Rw hR i x wa lw cw ba lb cb x0 y0 z0 H V C (hF.below hb)
  have hPo : Hid (∀ (w1 : World), _) := fun w1 => tpos_any (O i 0) (O i 1) (O i 2) (O i 3) (O i 4) (O i 5) (O i 6) (O i 7) (O i 8) (O i 9) (O i 10) (O i 11) wa lw cw ba lb cb (O i 14) (O i 15) (O i 16) (O i 17) (O i 18) (O i 19) (O i 20) (O i 21) x0 y0 z0 H V C _ _ (heap_alloc_new w1 _) hSit.out.2.2.1
  obtain ⟨hv, ehv⟩ : ∃ hv, H * V = hv := ⟨_, rfl⟩
  rw [ehv] at hp hPo
  clear hF hR hL ehv
  by_cases p1 : ¬ ch < 1
  rotate_left
  · have p1' : ch < 1 := by omega
    clear p1 hp
    go_enter Try.func16, Try.ntmps16
    go_wp2_with fail
    refine (hK.out _ s0.below).mono ?_
    rintro e w1 ⟨rfl, hb⟩
    have s1 := (s0.call hb).new (c := #[.int .i64 (O i 0), .int .i64 (O i 1), .int .i64 (O i 2), .int .i64 (O i 3), .int .i64 (O i 4), .int .i64 (O i 5), .int .i64 (O i 6), .int .i64 (O i 7), .int .i64 (O i 8), .int .i64 (O i 9), .int .i64 (O i 10), .int .i64 (O i 11), .slice wa lw cw, .slice ba lb cb, .int .i64 (O i 14), .int .i64 (O i 15), .int .i64 (O i 16), .int .i64 (O i 17), .int .i64 (O i 18), .int .i64 (O i 19), .int .i64 (O i 20), .int .i64 (O i 21), .int .i64 x0, .int .i64 y0, .int .i64 z0, .int .i64 H, .int .i64 V, .int .i64 C]) (t := 87)
    have S1 : Hid (Below W.heap.size W _) := s1.below
    clear hb s1
    go_wp2_with (first
      | (refine wpList_st_new rfl 87 (.tmp 11) (.tmp 17) rfl w1 _ #[.int .i64 (O i 0), .int .i64 (O i 1), .int .i64 (O i 2), .int .i64 (O i 3), .int .i64 (O i 4), .int .i64 (O i 5), .int .i64 (O i 6), .int .i64 (O i 7), .int .i64 (O i 8), .int .i64 (O i 9), .int .i64 (O i 10), .int .i64 (O i 11), .slice wa lw cw, .slice ba lb cb, .int .i64 (O i 14), .int .i64 (O i 15), .int .i64 (O i 16), .int .i64 (O i 17), .int .i64 (O i 18), .int .i64 (O i 19), .int .i64 (O i 20), .int .i64 (O i 21), .int .i64 x0, .int .i64 y0, .int .i64 z0, .int .i64 H, .int .i64 V, .int .i64 C] rfl rfl (by kernel_rfl) rfl (by simp [Value.oneCell']) ?_)
      | (go_at_call 33; refine (tchan_any (O i 0) (O i 1) (O i 2) (O i 3) (O i 4) (O i 5) (O i 6) (O i 7) (O i 8) (O i 9) (O i 10) (O i 11) wa lw cw ba lb cb (O i 14) (O i 15) (O i 16) (O i 17) (O i 18) (O i 19) (O i 20) (O i 21) x0 y0 z0 H V C _ _ (heap_alloc_new w1 _)).mono ?_; rintro e w2 ⟨rfl, hw2⟩; have hw3 := hw2.symm; subst hw3; clear hw2)
      | (go_at_call 34; refine (hPo.out w1).mono ?_; rintro e w2 ⟨rfl, n, hw2⟩; have S1 : Hid (Below W.heap.size W w2) := (by rw [hw2]; exact bt S1.out (dbel _ n)); clear hw2))
    exact bodyPost_ret (v := .tuple #[.slice none 0 0, .int .i64 0, .int .i64 3]) (by simp [results, Try.results16, go_sem, *]) rfl ⟨rfl, S1.out⟩
  by_cases p2 : ¬ C < ch
  rotate_left
  · have p2' : C < ch := by omega
    clear p2 hp
    go_enter Try.func16, Try.ntmps16
    go_wp2_with fail
    refine (hK.out _ s0.below).mono ?_
    rintro e w1 ⟨rfl, hb⟩
    have s1 := (s0.call hb).new (c := #[.int .i64 (O i 0), .int .i64 (O i 1), .int .i64 (O i 2), .int .i64 (O i 3), .int .i64 (O i 4), .int .i64 (O i 5), .int .i64 (O i 6), .int .i64 (O i 7), .int .i64 (O i 8), .int .i64 (O i 9), .int .i64 (O i 10), .int .i64 (O i 11), .slice wa lw cw, .slice ba lb cb, .int .i64 (O i 14), .int .i64 (O i 15), .int .i64 (O i 16), .int .i64 (O i 17), .int .i64 (O i 18), .int .i64 (O i 19), .int .i64 (O i 20), .int .i64 (O i 21), .int .i64 x0, .int .i64 y0, .int .i64 z0, .int .i64 H, .int .i64 V, .int .i64 C]) (t := 87)
    have S1 : Hid (Below W.heap.size W _) := s1.below
    clear hb s1
    go_wp2_with (first
      | (refine wpList_st_new rfl 87 (.tmp 11) (.tmp 17) rfl w1 _ #[.int .i64 (O i 0), .int .i64 (O i 1), .int .i64 (O i 2), .int .i64 (O i 3), .int .i64 (O i 4), .int .i64 (O i 5), .int .i64 (O i 6), .int .i64 (O i 7), .int .i64 (O i 8), .int .i64 (O i 9), .int .i64 (O i 10), .int .i64 (O i 11), .slice wa lw cw, .slice ba lb cb, .int .i64 (O i 14), .int .i64 (O i 15), .int .i64 (O i 16), .int .i64 (O i 17), .int .i64 (O i 18), .int .i64 (O i 19), .int .i64 (O i 20), .int .i64 (O i 21), .int .i64 x0, .int .i64 y0, .int .i64 z0, .int .i64 H, .int .i64 V, .int .i64 C] rfl rfl (by kernel_rfl) rfl (by simp [Value.oneCell']) ?_)
      | (go_at_call 33; refine (tchan_any (O i 0) (O i 1) (O i 2) (O i 3) (O i 4) (O i 5) (O i 6) (O i 7) (O i 8) (O i 9) (O i 10) (O i 11) wa lw cw ba lb cb (O i 14) (O i 15) (O i 16) (O i 17) (O i 18) (O i 19) (O i 20) (O i 21) x0 y0 z0 H V C _ _ (heap_alloc_new w1 _)).mono ?_; rintro e w2 ⟨rfl, hw2⟩; have hw3 := hw2.symm; subst hw3; clear hw2)
      | (go_at_call 34; refine (hPo.out w1).mono ?_; rintro e w2 ⟨rfl, n, hw2⟩; have S1 : Hid (Below W.heap.size W w2) := (by rw [hw2]; exact bt S1.out (dbel _ n)); clear hw2))
    exact bodyPost_ret (v := .tuple #[.slice none 0 0, .int .i64 0, .int .i64 3]) (by simp [results, Try.results16, go_sem, *]) rfl ⟨rfl, S1.out⟩
  by_cases p3 : ¬ at' < 0
  rotate_left
  · have p3' : at' < 0 := by omega
    clear p3 hp
    go_enter Try.func16, Try.ntmps16
    go_wp2_with fail
    refine (hK.out _ s0.below).mono ?_
    rintro e w1 ⟨rfl, hb⟩
    have s1 := (s0.call hb).new (c := #[.int .i64 (O i 0), .int .i64 (O i 1), .int .i64 (O i 2), .int .i64 (O i 3), .int .i64 (O i 4), .int .i64 (O i 5), .int .i64 (O i 6), .int .i64 (O i 7), .int .i64 (O i 8), .int .i64 (O i 9), .int .i64 (O i 10), .int .i64 (O i 11), .slice wa lw cw, .slice ba lb cb, .int .i64 (O i 14), .int .i64 (O i 15), .int .i64 (O i 16), .int .i64 (O i 17), .int .i64 (O i 18), .int .i64 (O i 19), .int .i64 (O i 20), .int .i64 (O i 21), .int .i64 x0, .int .i64 y0, .int .i64 z0, .int .i64 H, .int .i64 V, .int .i64 C]) (t := 87)
    have S1 : Hid (Below W.heap.size W _) := s1.below
    clear hb s1
    go_wp2_with (first
      | (refine wpList_st_new rfl 87 (.tmp 11) (.tmp 17) rfl w1 _ #[.int .i64 (O i 0), .int .i64 (O i 1), .int .i64 (O i 2), .int .i64 (O i 3), .int .i64 (O i 4), .int .i64 (O i 5), .int .i64 (O i 6), .int .i64 (O i 7), .int .i64 (O i 8), .int .i64 (O i 9), .int .i64 (O i 10), .int .i64 (O i 11), .slice wa lw cw, .slice ba lb cb, .int .i64 (O i 14), .int .i64 (O i 15), .int .i64 (O i 16), .int .i64 (O i 17), .int .i64 (O i 18), .int .i64 (O i 19), .int .i64 (O i 20), .int .i64 (O i 21), .int .i64 x0, .int .i64 y0, .int .i64 z0, .int .i64 H, .int .i64 V, .int .i64 C] rfl rfl (by kernel_rfl) rfl (by simp [Value.oneCell']) ?_)
      | (go_at_call 33; refine (tchan_any (O i 0) (O i 1) (O i 2) (O i 3) (O i 4) (O i 5) (O i 6) (O i 7) (O i 8) (O i 9) (O i 10) (O i 11) wa lw cw ba lb cb (O i 14) (O i 15) (O i 16) (O i 17) (O i 18) (O i 19) (O i 20) (O i 21) x0 y0 z0 H V C _ _ (heap_alloc_new w1 _)).mono ?_; rintro e w2 ⟨rfl, hw2⟩; have hw3 := hw2.symm; subst hw3; clear hw2)
      | (go_at_call 34; refine (hPo.out w1).mono ?_; rintro e w2 ⟨rfl, n, hw2⟩; have S1 : Hid (Below W.heap.size W w2) := (by rw [hw2]; exact bt S1.out (dbel _ n)); clear hw2))
    exact bodyPost_ret (v := .tuple #[.slice none 0 0, .int .i64 0, .int .i64 3]) (by simp [results, Try.results16, go_sem, *]) rfl ⟨rfl, S1.out⟩
  by_cases p4 : ¬ hv ≤ at'
  rotate_left
  · have p4' : hv ≤ at' := by omega
    clear p4 hp
    go_enter Try.func16, Try.ntmps16
    go_wp2_with fail
    refine (hK.out _ s0.below).mono ?_
    rintro e w1 ⟨rfl, hb⟩
    have s1 := (s0.call hb).new (c := #[.int .i64 (O i 0), .int .i64 (O i 1), .int .i64 (O i 2), .int .i64 (O i 3), .int .i64 (O i 4), .int .i64 (O i 5), .int .i64 (O i 6), .int .i64 (O i 7), .int .i64 (O i 8), .int .i64 (O i 9), .int .i64 (O i 10), .int .i64 (O i 11), .slice wa lw cw, .slice ba lb cb, .int .i64 (O i 14), .int .i64 (O i 15), .int .i64 (O i 16), .int .i64 (O i 17), .int .i64 (O i 18), .int .i64 (O i 19), .int .i64 (O i 20), .int .i64 (O i 21), .int .i64 x0, .int .i64 y0, .int .i64 z0, .int .i64 H, .int .i64 V, .int .i64 C]) (t := 87)
    have S1 : Hid (Below W.heap.size W _) := s1.below
    clear hb s1
    go_wp2_with (first
      | (refine wpList_st_new rfl 87 (.tmp 11) (.tmp 17) rfl w1 _ #[.int .i64 (O i 0), .int .i64 (O i 1), .int .i64 (O i 2), .int .i64 (O i 3), .int .i64 (O i 4), .int .i64 (O i 5), .int .i64 (O i 6), .int .i64 (O i 7), .int .i64 (O i 8), .int .i64 (O i 9), .int .i64 (O i 10), .int .i64 (O i 11), .slice wa lw cw, .slice ba lb cb, .int .i64 (O i 14), .int .i64 (O i 15), .int .i64 (O i 16), .int .i64 (O i 17), .int .i64 (O i 18), .int .i64 (O i 19), .int .i64 (O i 20), .int .i64 (O i 21), .int .i64 x0, .int .i64 y0, .int .i64 z0, .int .i64 H, .int .i64 V, .int .i64 C] rfl rfl (by kernel_rfl) rfl (by simp [Value.oneCell']) ?_)
      | (go_at_call 33; refine (tchan_any (O i 0) (O i 1) (O i 2) (O i 3) (O i 4) (O i 5) (O i 6) (O i 7) (O i 8) (O i 9) (O i 10) (O i 11) wa lw cw ba lb cb (O i 14) (O i 15) (O i 16) (O i 17) (O i 18) (O i 19) (O i 20) (O i 21) x0 y0 z0 H V C _ _ (heap_alloc_new w1 _)).mono ?_; rintro e w2 ⟨rfl, hw2⟩; have hw3 := hw2.symm; subst hw3; clear hw2)
      | (go_at_call 34; refine (hPo.out w1).mono ?_; rintro e w2 ⟨rfl, n, hw2⟩; have S1 : Hid (Below W.heap.size W w2) := (by rw [hw2]; exact bt S1.out (dbel _ n)); clear hw2))
    exact bodyPost_ret (v := .tuple #[.slice none 0 0, .int .i64 0, .int .i64 3]) (by simp [results, Try.results16, go_sem, *]) rfl ⟨rfl, S1.out⟩
  exact absurd ⟨by omega, by omega⟩ hp
set_option maxRecDepth 100000 in
set_option maxHeartbeats 4000000 in
theorem of_ok (h w c lo hi ot : Int) (oa : Option Addr) (on oc : Nat) (O : Nat → Nat → Int) (Z B : Nat → List Int) (W : World) (hL : LRow W oa on oc O Z B) (ch at' : Int) (RL : List (Int × Int × Int)) (Rw : Int) (hR : gtR O h w c lo hi ot on = (0, 0, RL, Rw)) (i : Nat) (x : Addr) (wa : Option Addr) (lw cw : Nat) (ba : Option Addr) (lb cb : Nat) (x0 y0 z0 H V C : Int) (hF : Fnd W oa on O Z B RL i x wa lw cw ba lb cb x0 y0 z0 H V C) (hch : 1 ≤ ch ∧ ch ≤ C) (hat : 0 ≤ at' ∧ at' < H * V) :
    Calls Try.prog 16 #[.agg #[.int .i64 h, .int .i64 w, .int .i64 c, .int .i64 lo, .int .i64 hi, .slice oa on oc, .int .i64 ot], .int .i64 ((i : Int) + 1), .int .i64 ch, .int .i64 at'] W fun e w' => (∃ v, e = .returned (.tuple #[v, .int .i64 (biA (O i 0) ch (B i)), .int .i64 0]) ∧ OTm w' W.heap.size v (siL (O i 0) (O i 4) (O i 5) (O i 6) (O i 7) (O i 8) (O i 9) (O i 10) (O i 11) x0 y0 z0 ch at' (Z i))) ∧ Below W.heap.size W w' := by
  have s0 := (St.start W).new (c := #[.int .i64 h, .int .i64 w, .int .i64 c, .int .i64 lo, .int .i64 hi, .slice oa on oc, .int .i64 ot]) (t := 26)
  have hSit : Hid (Sit (O i 0) (O i 4) (O i 5) (O i 6) (O i 7) (O i 8) (O i 9) (O i 10) (O i 11) x0 y0 z0 H V C lw lb) := hF.2.2.2.2.2.2.2.2.2.1
  have hrZ : Hid (IRow .i16 W wa lw cw (Z i)) := hF.2.2.2.2.2.1
  have hrB : Hid (IRow .i32 W ba lb cb (B i)) := hF.2.2.2.2.2.2.1
  have hK : Hid (∀ W', Below W.heap.size W W' → _) := fun W' hb => find_ok h w c lo hi ot oa on oc O Z B W' (hL.below hb) RL Rw hR i x wa lw cw ba lb cb x0 y0 z0 H V C (hF.below hb)
  have hPo : Hid (∀ (w1 : World), _) := fun w1 => tpos_any (O i 0) (O i 1) (O i 2) (O i 3) (O i 4) (O i 5) (O i 6) (O i 7) (O i 8) (O i 9) (O i 10) (O i 11) wa lw cw ba lb cb (O i 14) (O i 15) (O i 16) (O i 17) (O i 18) (O i 19) (O i 20) (O i 21) x0 y0 z0 H V C _ _ (heap_alloc_new w1 _) hSit.out.2.2.1
  have hTe : Hid (∀ (w' : World) (r : Nat), w'.heap[r]? = some (.cells #[.int .i64 (O i 0), .int .i64 (O i 1), .int .i64 (O i 2), .int .i64 (O i 3), .int .i64 (O i 4), .int .i64 (O i 5), .int .i64 (O i 6), .int .i64 (O i 7), .int .i64 (O i 8), .int .i64 (O i 9), .int .i64 (O i 10), .int .i64 (O i 11), .slice wa lw cw, .slice ba lb cb, .int .i64 (O i 14), .int .i64 (O i 15), .int .i64 (O i 16), .int .i64 (O i 17), .int .i64 (O i 18), .int .i64 (O i 19), .int .i64 (O i 20), .int .i64 (O i 21), .int .i64 x0, .int .i64 y0, .int .i64 z0, .int .i64 H, .int .i64 V, .int .i64 C] 87 (0, 0)) → Below W.heap.size W w' → _) := fun w' r hr hb => terms_any (O i 0) (O i 1) (O i 2) (O i 3) (O i 4) (O i 5) (O i 6) (O i 7) (O i 8) (O i 9) (O i 10) (O i 11) wa lw cw ba lb cb (O i 14) (O i 15) (O i 16) (O i 17) (O i 18) (O i 19) (O i 20) (O i 21) x0 y0 z0 H V C r w' hr (Z i) (hrZ.out.below hb) hSit.out ch at' hch hat
  have hBi : Hid (∀ (w' : World) (r : Nat), w'.heap[r]? = some (.cells #[.int .i64 (O i 0), .int .i64 (O i 1), .int .i64 (O i 2), .int .i64 (O i 3), .int .i64 (O i 4), .int .i64 (O i 5), .int .i64 (O i 6), .int .i64 (O i 7), .int .i64 (O i 8), .int .i64 (O i 9), .int .i64 (O i 10), .int .i64 (O i 11), .slice wa lw cw, .slice ba lb cb, .int .i64 (O i 14), .int .i64 (O i 15), .int .i64 (O i 16), .int .i64 (O i 17), .int .i64 (O i 18), .int .i64 (O i 19), .int .i64 (O i 20), .int .i64 (O i 21), .int .i64 x0, .int .i64 y0, .int .i64 z0, .int .i64 H, .int .i64 V, .int .i64 C] 87 (0, 0)) → Below W.heap.size W w' → _) := fun w' r hr hb => tbias_any (O i 0) (O i 1) (O i 2) (O i 3) (O i 4) (O i 5) (O i 6) (O i 7) (O i 8) (O i 9) (O i 10) (O i 11) wa lw cw ba lb cb (O i 14) (O i 15) (O i 16) (O i 17) (O i 18) (O i 19) (O i 20) (O i 21) x0 y0 z0 H V C r w' hr (B i) (hrB.out.below hb) hSit.out ch hch
  obtain ⟨hv, ehv⟩ : ∃ hv, H * V = hv := ⟨_, rfl⟩
  rw [ehv] at hat hPo
  obtain ⟨TL, hTL⟩ : ∃ TL, siL (O i 0) (O i 4) (O i 5) (O i 6) (O i 7) (O i 8) (O i 9) (O i 10) (O i 11) x0 y0 z0 ch at' (Z i) = TL := ⟨_, rfl⟩
  obtain ⟨bi, hbi⟩ : ∃ bi, biA (O i 0) ch (B i) = bi := ⟨_, rfl⟩
  rw [hTL] at hTe ⊢
  rw [hbi] at hBi ⊢
  clear hF hR hL ehv hTL hbi hrZ hrB
  go_enter Try.func16, Try.ntmps16
  go_wp2_with fail
  refine (hK.out _ s0.below).mono ?_
  rintro e w1 ⟨rfl, hb⟩
  have s1 := (s0.call hb).new (c := #[.int .i64 (O i 0), .int .i64 (O i 1), .int .i64 (O i 2), .int .i64 (O i 3), .int .i64 (O i 4), .int .i64 (O i 5), .int .i64 (O i 6), .int .i64 (O i 7), .int .i64 (O i 8), .int .i64 (O i 9), .int .i64 (O i 10), .int .i64 (O i 11), .slice wa lw cw, .slice ba lb cb, .int .i64 (O i 14), .int .i64 (O i 15), .int .i64 (O i 16), .int .i64 (O i 17), .int .i64 (O i 18), .int .i64 (O i 19), .int .i64 (O i 20), .int .i64 (O i 21), .int .i64 x0, .int .i64 y0, .int .i64 z0, .int .i64 H, .int .i64 V, .int .i64 C]) (t := 87)
  have S1 : Hid (St W _ _) := s1
  clear hb s1
  go_wp2_with (first
    | (refine wpList_st_new rfl 87 (.tmp 11) (.tmp 17) rfl w1 _ #[.int .i64 (O i 0), .int .i64 (O i 1), .int .i64 (O i 2), .int .i64 (O i 3), .int .i64 (O i 4), .int .i64 (O i 5), .int .i64 (O i 6), .int .i64 (O i 7), .int .i64 (O i 8), .int .i64 (O i 9), .int .i64 (O i 10), .int .i64 (O i 11), .slice wa lw cw, .slice ba lb cb, .int .i64 (O i 14), .int .i64 (O i 15), .int .i64 (O i 16), .int .i64 (O i 17), .int .i64 (O i 18), .int .i64 (O i 19), .int .i64 (O i 20), .int .i64 (O i 21), .int .i64 x0, .int .i64 y0, .int .i64 z0, .int .i64 H, .int .i64 V, .int .i64 C] rfl rfl (by kernel_rfl) rfl (by simp [Value.oneCell']) ?_)
    | (go_at_call 33; refine (tchan_any (O i 0) (O i 1) (O i 2) (O i 3) (O i 4) (O i 5) (O i 6) (O i 7) (O i 8) (O i 9) (O i 10) (O i 11) wa lw cw ba lb cb (O i 14) (O i 15) (O i 16) (O i 17) (O i 18) (O i 19) (O i 20) (O i 21) x0 y0 z0 H V C _ _ (heap_alloc_new w1 _)).mono ?_; rintro e w2 ⟨rfl, hw2⟩; have hw3 := hw2.symm; subst hw3; clear hw2)
    | (go_at_call 34; refine (hPo.out w1).mono ?_; rintro e w2 ⟨rfl, n, hw2⟩; have S2 : Hid (St W w2 _) := (by rw [hw2]; exact S1.out.call (dbel _ n)); clear hw2 S1))
  refine (hTe.out _ _ S2.out.h1 S2.out.below).mono ?_
  rintro e w3 ⟨⟨v, rfl, hO⟩, hb3⟩
  have S3 : Hid (St W w3 _) := S2.out.call hb3
  have hz2 := S2.out.below.size
  have HO : Hid (OTm w3 W.heap.size v TL) := hO.base hz2
  obtain ⟨va, vc, rfl⟩ := hO.slice
  clear hO hb3 S2
  go_wp2_with fail
  refine (hBi.out _ _ S3.out.h1 S3.out.below).mono ?_
  rintro e w4 ⟨rfl, hw4⟩
  have hw5 := hw4.symm
  subst hw5
  clear hw4
  go_wp2
  exact bodyPost_ret (v := .tuple #[.slice va TL.length vc, .int .i64 bi, .int .i64 0]) (by simp [results, Try.results16, go_sem, *]) rfl ⟨⟨_, rfl, HO.out⟩, S3.out.below⟩
end Go.Proofs.Ytjjckaklhafibaa

/- plain and fixed of law10. -/
namespace Go.Proofs.Ytjjckaklhafibaa
open Go.ChangeShapes Go.WideShapes Go.ChangeAt Go.RowKit
set_option linter.unusedVariables false
def plZ (_ : Nat) : List Int := [3, -2]
def plB (_ : Nat) : List Int := [1]
theorem irow_blk {k : IntKind} {w : World} {b : Nat} {T : TypeId} (zs : List Int) (h : w.heap[b]? = some (.cells (zs.map (Value.int k)).toArray T (0, 0))) (hw : ∀ z ∈ zs, (Lit.int k z).wf = true) (hm : zs.length ≤ 1000) : IRow k w (some ⟨b, 0, none⟩) zs.length zs.length zs := by
  refine ⟨rfl, Nat.le_refl _, by unfold maxLen; omega, hw, fun h => (by cases h), fun x hx i hi => ?_⟩
  cases hx
  rw [Addr.add_lit, Nat.zero_add, (cells_at h).1]
  simp [List.getD, hi]
theorem pl_lrow {w : World} {g p q : Nat} (h : w.heap[g]? = some (.cells #[.int .i64 1, .int .i64 0, .int .i64 0, .int .i64 1, .int .i64 0, .int .i64 0, .int .i64 0, .int .i64 0, .int .i64 0, .int .i64 0, .int .i64 0, .int .i64 0, .slice (some ⟨p, 0, none⟩) 2 2, .slice (some ⟨q, 0, none⟩) 1 1, .int .i64 1, .int .i64 0, .int .i64 0, .int .i64 0, .int .i64 0, .int .i64 0, .int .i64 (-128), .int .i64 127] 39 (0, 0))) (hp : w.heap[p]? = some (.cells #[.int .i16 3, .int .i16 (-2)] 91 (0, 0))) (hq : w.heap[q]? = some (.cells #[.int .i32 1] 21 (0, 0))) : LRow w (some ⟨g, 0, none⟩) 1 1 (plO 0) plZ plB := by
  refine ⟨Nat.le_refl _, by unfold maxLen; omega, fun h => (by cases h), fun x hx i hi => ?_⟩
  cases hx
  obtain rfl : i = 0 := by omega
  refine ⟨some ⟨p, 0, none⟩, 2, 2, some ⟨q, 0, none⟩, 1, 1, rfl, rfl, fun j v hj => ?_, irow_blk [3, -2] hp (fun z hz => ?_) (by simp), irow_blk [1] hq (fun z hz => ?_) (by simp), by omega, by omega⟩
  · rw [Nat.zero_mul, Addr.add_lit, Addr.add_lit, (cells_at h).1, ← hj]
    simp [opl, plO]
  · simp only [List.mem_cons, List.not_mem_nil, or_false] at hz
    rcases hz with rfl | rfl <;> rfl
  · simp only [List.mem_cons, List.not_mem_nil, or_false] at hz
    subst hz; rfl
theorem pl_found {W : World} {g : Nat} (hL : LRow W (some ⟨g, 0, none⟩) 1 1 (plO 0) plZ plB) : ∃ wa lw cw ba lb cb, Fnd W (some ⟨g, 0, none⟩) 1 (plO 0) plZ plB [(1, 1, 2), (1, 1, 1)] 0 ⟨g, 0, none⟩ wa lw cw ba lb cb 1 1 2 1 1 1 := by
  obtain ⟨RL, Rw, hR, i, x, wa, lw, cw, ba, lb, cb, x0, y0, z0, H, V, C, hop, hF⟩ := found 1 1 2 (-128) 127 1 (some ⟨g, 0, none⟩) 1 1 (plO 0) plZ plB W hL 1 (fiE_0 (i := 0) (by rw [pl_0]) (by omega) (by decide))
  obtain rfl : i = 0 := by omega
  rw [pl_0] at hR
  simp only [Prod.mk.injEq, true_and] at hR
  obtain ⟨rfl, -⟩ := hR
  have h8 := hF.2.2.2.2.2.2.2.1
  have h9 := hF.2.2.2.2.2.2.2.2.1
  have h2 := hF.2.1
  simp only [plO, List.getD, List.getElem?_cons_zero, List.getElem?_cons_succ, Option.getD_some, Int.toNat_zero, Prod.mk.injEq, Nat.zero_add] at h8 h9
  obtain ⟨rfl, rfl, rfl⟩ := h8
  obtain ⟨rfl, rfl, rfl⟩ := h9
  simp only [Option.some.injEq] at h2
  subst h2
  exact ⟨wa, lw, cw, ba, lb, cb, hF⟩
theorem pl_terms : siL (plO 0 0 0) (plO 0 0 4) (plO 0 0 5) (plO 0 0 6) (plO 0 0 7) (plO 0 0 8) (plO 0 0 9) (plO 0 0 10) (plO 0 0 11) 1 1 2 1 0 (plZ 0) = [(3, 0), (-2, 1)] := by decide
end Go.Proofs.Ytjjckaklhafibaa

/- The document's size of a number, and a size with a sign: for every argument that fits its type. -/
namespace Go.Proofs.Ytjjckaklhafibaa.Fx
open Go.ChangeShapes Go.WideShapes Go.ChangeAt Go.RowKit
def sizeV (x : Int) : Int := if x < 0 then -x else x
theorem sizeV_bd (x : Int) (h : I64 x) : 0 ≤ sizeV x ∧ sizeV x ≤ 9223372036854775808 := by unfold sizeV; unfold I64 at h; split <;> omega
theorem u64w (x : Int) : IntKind.u64.wrap x = x % 18446744073709551616 := by simp [IntKind.wrap, IntKind.bits, IntKind.signed]
end Go.Proofs.Ytjjckaklhafibaa.Fx

/- Quotients rounded half away from zero, as plain numbers. -/
namespace Go.Proofs.Ytjjckaklhafibaa.Fx
def hq (s d : Int) : Int := if d ≤ 2 * (s % d) then s / d + 1 else s / d
def rq (x d : Int) : Int := if x < 0 then -(hq (-x) d) else hq x d
def p2 (n : Int) : Int := 2 ^ n.toNat
theorem hq_bd (s d : Int) (hs : 0 ≤ s) (hd : 1 ≤ d) : 0 ≤ hq s d ∧ hq s d ≤ s := by
  have e := Int.mul_ediv_add_emod s d
  have r0 := Int.emod_nonneg s (show d ≠ 0 by omega)
  have r1 := Int.emod_lt_of_pos s (show 0 < d by omega)
  have q0 := Int.ediv_nonneg hs (show 0 ≤ d by omega)
  have q1 : s / d ≤ d * (s / d) := by
    have := Int.mul_le_mul_of_nonneg_right hd q0
    omega
  unfold hq
  split <;> omega
theorem rq_size (x d : Int) (hd : 1 ≤ d) : -(sizeV x) ≤ rq x d ∧ rq x d ≤ sizeV x ∧ (x < 0 → rq x d ≤ 0) ∧ (¬ x < 0 → 0 ≤ rq x d) := by
  unfold rq sizeV
  by_cases h : x < 0
  · have := hq_bd (-x) d (by omega) hd
    rw [if_pos h, if_pos h]; omega
  · have := hq_bd x d (by omega) hd
    rw [if_neg h, if_neg h]; omega
theorem rq_I64 (x d : Int) (hx : I64 x) (hd : 1 ≤ d) : I64 (rq x d) := by
  obtain ⟨h1, h2, h3, h4⟩ := rq_size x d hd
  unfold sizeV at h1 h2
  unfold I64 at *
  by_cases h : x < 0
  · have := h3 h
    rw [if_pos h] at h1 h2; omega
  · have := h4 h
    rw [if_neg h] at h1 h2; omega
theorem p2_nat (n : Int) : p2 n = ((2 ^ n.toNat : Nat) : Int) := by
  unfold p2; simp
theorem p2_pos (n : Int) : 1 ≤ p2 n := by
  rw [p2_nat]
  have := Nat.two_pow_pos n.toNat
  omega
theorem p2_le (n : Int) (h : n ≤ 62) : p2 n ≤ 4611686018427387904 := by
  rw [p2_nat]
  have := Nat.pow_le_pow_right (show 0 < 2 by omega) (show n.toNat ≤ 62 by omega)
  omega
end Go.Proofs.Ytjjckaklhafibaa.Fx

/- What the inner functions of package fixq, Shift, Mean and Finish return: each for every argument that fits its type. -/
namespace Go.Proofs.Ytjjckaklhafibaa.Fx
open Go.ChangeShapes Go.WideShapes Go.ChangeAt Go.RowKit
theorem tdiv_neg' (x d : Int) (hx : x < 0) : x.tdiv d = -((-x) / d) ∧ x.tmod d = -((-x) % d) := by
  have e := Int.tmod_eq_emod_of_nonneg (a := -x) (b := d) (by omega)
  have f := Int.tdiv_eq_ediv_of_nonneg (a := -x) (b := d) (by omega)
  rw [Int.neg_tmod] at e
  rw [Int.neg_tdiv] at f
  omega
theorem drewN_below (w : World) (n : Nat) : Below w.heap.size w (w.drewN n) := below_drewN (Below.refl _ _) n
def shB (n : Int) : Bool := decide (0 ≤ n ∧ n ≤ 62)
def shV (x n : Int) : Int := if shB n = true then rq x (p2 n) else 0
def shE (n : Int) : Int := if shB n = true then 0 else 20
theorem p2_wrap (n : Int) (h : n ≤ 62) : wrap64 (2 ^ n.toNat) = p2 n := by
  have h1 := p2_pos n
  have h2 := p2_le n h
  show wrap64 (p2 n) = p2 n
  exact IntWalk.wrap64_in _ ⟨by omega, by omega⟩
theorem reach_any (n : Int) (w : World) :
    Calls Try.prog 87 #[.int .i64 n] w fun e w' => e = .returned (.bool (shB n)) ∧ w' = w := by
  by_cases c : 0 ≤ n
  · have HR : Hid (decide (n ≤ 62) = shB n) := by unfold Hid shB; simp [c]
    go_enter Try.func87, Try.ntmps87
    go_wp2
    go_ret
    exact ⟨retB HR.out, rfl⟩
  · have HR : Hid (false = shB n) := by unfold Hid shB; simp; omega
    go_enter Try.func87, Try.ntmps87
    go_wp2
    go_ret
    exact ⟨retB HR.out, rfl⟩
def meV (x n : Int) : Int := if n < 1 then 0 else rq x n
def meE (n : Int) : Int := if n < 1 then 2 else 0
def vaB (x : Int) : Bool := decide (-128 ≤ x ∧ x ≤ 127)
def fiB (z lo hi : Int) : Bool := decide (-128 ≤ lo ∧ lo ≤ hi ∧ hi ≤ 127 ∧ -128 ≤ z ∧ z ≤ 127)
def fiV (v z lo hi : Int) : Int := if fiB z lo hi = true then clampV (v + z) lo hi else 0
def fiE (z lo hi : Int) : Int := if fiB z lo hi = true then 0 else 85
theorem clamp_moved (v z lo hi : Int) : clampV v (lo - z) (hi - z) + z = clampV (v + z) lo hi := by
  unfold clampV
  by_cases c1 : hi - z < v
  · rw [if_pos c1, if_pos (show hi < v + z by omega)]; omega
  · rw [if_neg c1, if_neg (show ¬ hi < v + z by omega)]
    by_cases c2 : v < lo - z
    · rw [if_pos c2, if_pos (show v + z < lo by omega)]; omega
    · rw [if_neg c2, if_neg (show ¬ v + z < lo by omega)]
theorem clamp_in_ends (v lo hi : Int) (h : lo ≤ hi) : lo ≤ clampV v lo hi ∧ clampV v lo hi ≤ hi := by
  unfold clampV; split
  · omega
  · split <;> omega
end Go.Proofs.Ytjjckaklhafibaa.Fx

/- What Valid and Apply of package fixq return: each for every argument that fits its type. -/
namespace Go.Proofs.Ytjjckaklhafibaa.Fx
open Go.ChangeShapes Go.WideShapes Go.ChangeAt Go.RowKit
theorem bcell {W w1 : World} (hb : Below W.heap.size W w1) : (∀ b o, b < W.heap.size → w1.cell? ⟨b, o, none⟩ = W.cell? ⟨b, o, none⟩) ∧ (∀ b o, b < W.heap.size → w1.frozen? ⟨b, o, none⟩ = W.frozen? ⟨b, o, none⟩) :=
  ⟨fun b o h => hb.cell (p := ⟨b, o, none⟩) h, fun b o h => hb.frozen (p := ⟨b, o, none⟩) h⟩
def scB (m s : Int) : Bool := decide (1 ≤ m ∧ m ≤ 2147483647 ∧ 0 ≤ s ∧ s ≤ 62)
def acB (a : Int) : Bool := decide (-4294967296 ≤ a ∧ a ≤ 4294967296)
def apV (a m s : Int) : Int := if scB m s = true then (if acB a = true then rq (a * m) (p2 s) else 0) else 0
def apE (a m s : Int) : Int := if scB m s = true then (if acB a = true then 0 else 10) else 20
theorem prod_bd (a m : Int) (a1 : -4294967296 ≤ a) (a2 : a ≤ 4294967296) (m1 : 1 ≤ m) (m2 : m ≤ 2147483647) : -9223372032559808512 ≤ a * m ∧ a * m ≤ 9223372032559808512 := by
  have h1 := Int.mul_le_mul_of_nonneg_right a1 (show 0 ≤ m by omega)
  have h2 := Int.mul_le_mul_of_nonneg_right a2 (show 0 ≤ m by omega)
  omega
theorem valid_any (m s : Int) (w : World) :
    Calls Try.prog 83 #[.agg #[.int .i64 m, .int .i64 s]] w fun e w' => e = .returned (.bool (scB m s)) ∧ Below w.heap.size w w' := by
  by_cases c1 : 1 ≤ m
  · by_cases c2 : m ≤ 2147483647
    · have HR : Hid (shB s = scB m s) := by unfold Hid shB scB; simp [c1, c2]
      go_enter Try.func83, Try.ntmps83
      go_wp2_with fail
      refine (reach_any _ _).mono ?_
      rintro e w' ⟨rfl, rfl⟩
      go_wp2
      go_ret
      exact ⟨retB HR.out, (Below.refl _ _).alloc (Nat.le_refl _) _⟩
    · have HR : Hid (false = scB m s) := by unfold Hid scB; simp [c2]
      go_enter Try.func83, Try.ntmps83
      go_wp2
      go_ret
      exact ⟨retB HR.out, (Below.refl _ _).alloc (Nat.le_refl _) _⟩
  · have HR : Hid (false = scB m s) := by unfold Hid scB; simp [c1]
    go_enter Try.func83, Try.ntmps83
    go_wp2
    go_ret
    exact ⟨retB HR.out, (Below.refl _ _).alloc (Nat.le_refl _) _⟩
end Go.Proofs.Ytjjckaklhafibaa.Fx

/- What an op makes of its tensors, in plain numbers; what is known of each op of a well-formed model; an op alone. -/
namespace Go.Proofs.Ytjjckaklhafibaa
open Go.ChangeShapes Go.WideShapes Go.ChangeAt Go.RowKit
set_option linter.unusedVariables false
/-- What is known of an op: the shape of tensor A, the one that it makes, its fields. -/
structure Opd (k b m kh kw sh sw tp lf bt rt : Int) (lw lb : Nat) (sm ss um us z p lo hi h w c H V C : Int) : Prop where
  hk : 1 ≤ k ∧ k ≤ 8
  hA : vS h w c = true
  hB : vS H V C = true
  si : k ≤ 4 → Sit k kh kw sh sw tp lf bt rt h w c H V C lw lb
  al : k ≤ 4 → tkE k 0 b m kh kw sh sw tp lf bt rt lw lb sm ss um us z p lo hi [(h, w, c)] 0 = 0 ∧ mk3 k m kh kw sh sw tp lf bt rt (h, w, c) = (H, V, C)
  ou : 2 ≤ k ∧ k ≤ 5 → ouR h w c kh kw sh sw tp lf bt rt = (H, V, 0)
  c3 : 3 ≤ k → C = c
  s6 : 6 ≤ k → H = h ∧ V = w
  rz : rzB z p lo hi = true
  sc : ssB k sm ss um us = true
  oz : ozB k b m kh kw sh sw tp lf bt rt lw lb sm ss um us z p = true
theorem op_opd {k a b m kh kw sh sw tp lf bt rt : Int} {lw lb : Nat} {sm ss um us z p lo hi : Int} {wk : Int} {L : List (Int × Int × Int)} (hx : tkE k a b m kh kw sh sw tp lf bt rt lw lb sm ss um us z p lo hi L wk = 0) (hwk : 0 ≤ wk) (hv : ∀ s ∈ L, vS3 s = true)
    {h w c H V C : Int} (hA : ShA L a = (h, w, c)) (hB : mk3 k m kh kw sh sw tp lf bt rt (h, w, c) = (H, V, C)) : Opd k b m kh kw sh sw tp lf bt rt lw lb sm ss um us z p lo hi h w c H V C ∧ (0 ≤ b ∧ b < (L.length : Int)) ∧ (k = 6 → ShA L b = (h, w, c)) := by
  obtain ⟨t1, -, t3, ⟨a0, a1⟩, hk, t6⟩ := tk_0 hx hv
  have hg : vS h w c = true := by
    obtain ⟨i, rfl⟩ := Int.eq_ofNat_of_zero_le a0
    have := hv _ (ShA_mem (show i < L.length by omega))
    rw [hA] at this
    exact this
  have h1 : opE k a b m kh kw sh sw tp lf bt rt lw lb sm ss um us z p lo hi L = 0 := by
    unfold tkE at hx
    by_cases q : opE k a b m kh kw sh sw tp lf bt rt lw lb sm ss um us z p lo hi L ≠ 0
    · rw [if_pos q] at hx; exact hx
    · exact Decidable.not_not.1 q
  have hsit : k ≤ 4 → Sit k kh kw sh sw tp lf bt rt h w c H V C lw lb := fun q => op_sit hx (by omega) hv hA hB
  rw [hA] at t1 t6
  rw [hB] at t1
  have fit := fit_of (A := (h, w, c)) t6 (by rw [hB]; exact t1)
  rw [hB] at fit
  obtain ⟨f1, f2, f3⟩ := fit
  have h1' := h1
  unfold opE at h1
  rw [hA, hB] at h1
  by_cases q1 : fmE k a b L.length (ozB k b m kh kw sh sw tp lf bt rt lw lb sm ss um us z p) ≠ 0
  · rw [if_pos q1] at h1; exact absurd h1 q1
  rw [if_neg q1] at h1
  obtain ⟨-, -, hb6, hoz⟩ := fmE_0 (Decidable.not_not.1 q1)
  simp only at h1
  rw [t6, if_neg (by decide)] at h1
  by_cases q3 : k = 6 ∧ (h, w, c) ≠ ShA L b
  · rw [if_pos q3] at h1; cases h1
  rw [if_neg q3] at h1
  by_cases q2 : rdB k = true ∧ 512 < st3 k kh kw (h, w, c)
  · rw [if_pos q2] at h1; cases h1
  rw [if_neg q2] at h1
  obtain ⟨n1, n2, n3⟩ := nuE_0 h1
  have hoz' := of_decide_eq_true hoz
  have hal : k ≤ 4 → tkE k 0 b m kh kw sh sw tp lf bt rt lw lb sm ss um us z p lo hi [(h, w, c)] 0 = 0 := fun q => by
    have e : ShA [(h, w, c)] 0 = (h, w, c) := rfl
    have hf : fmE k 0 b (([(h, w, c)] : List (Int × Int × Int)).length : Int) (ozB k b m kh kw sh sw tp lf bt rt lw lb sm ss um us z p) = 0 := by
      unfold fmE
      rw [if_neg (by omega), if_neg (by simp), if_neg (by omega), hoz, if_neg (by decide)]
    have ho : opE k 0 b m kh kw sh sw tp lf bt rt lw lb sm ss um us z p lo hi [(h, w, c)] = 0 := by
      unfold opE
      rw [e, hB]
      simp only
      rw [hf, if_neg (by decide), t6, if_neg (by decide), if_neg (by omega), if_neg q2]
      exact h1
    unfold tkE
    rw [ho, if_neg (by decide), e]
    rw [hA] at t3
    rw [if_neg (by omega)]
  refine ⟨⟨hk, hg, f1, hsit, fun q => ⟨hal q, hB⟩, fun q => (f2 q).1, fun q => ?_, fun q => ?_, n3, n2, hoz⟩, ?_, fun q => ?_⟩
  · by_cases q5 : k ≤ 5
    · exact (f2 (by omega)).2 (by omega)
    · have := f3 (by omega); simp only [Prod.mk.injEq] at this; exact this.2.2
  · have := f3 q; simp only [Prod.mk.injEq] at this; exact ⟨this.1, this.2.1⟩
  · by_cases q : k = 6
    · exact hb6 q
    · have := (hoz'.1 q).1; omega
  · by_cases q4 : (h, w, c) = ShA L b
    · exact q4.symm
    · exact absurd ⟨q, q4⟩ q3
/-- Each op of a well-formed model: the tensors that it reads, their shapes. -/
theorem opd_of {O : Nat → Nat → Int} {h w c lo hi ot t wk : Int} {on : Nat} {L : List (Int × Int × Int)} (q : gtR O h w c lo hi ot on = (0, t, L, wk)) {i : Nat} (hi0 : i < on) :
    ∃ ja jb : Nat, O i 1 = (ja : Int) ∧ ja ≤ i ∧ O i 2 = (jb : Int) ∧ jb ≤ i ∧ ∀ x y v H V C, L.getD ja (0, 0, 0) = (x, y, v) → L.getD (i + 1) (0, 0, 0) = (H, V, C) →
      Opd (O i 0) (O i 2) (O i 3) (O i 4) (O i 5) (O i 6) (O i 7) (O i 8) (O i 9) (O i 10) (O i 11) (O i 12).toNat (O i 13).toNat (O i 14) (O i 15) (O i 16) (O i 17) (O i 18) (O i 19) (O i 20) (O i 21) x y v H V C ∧ (O i 0 = 6 → L.getD jb (0, 0, 0) = (x, y, v)) := by
  obtain ⟨hx, rfl, q2⟩ := gtR_st q
  clear q
  have q := q2
  have hv : vS3 (h, w, c) = true := (ouE_0 hx).1
  obtain ⟨wi, g1, -⟩ := stG_pre hv on L wk q (i + 1) (by omega)
  obtain ⟨L0, wk0, h0, hx0, hL, -⟩ := stG_step g1
  obtain ⟨w2, g2, g3, -⟩ := stG_pre hv on L wk q i (by omega)
  rw [g2] at h0
  simp only [Prod.mk.injEq, true_and] at h0
  obtain ⟨rfl, rfl⟩ := h0
  obtain ⟨i1, i2, -⟩ := stG_inv hv i _ _ g2
  obtain ⟨t1, -, -, ⟨a0, a1⟩, -, t6⟩ := tk_0 hx0 i2
  obtain ⟨j, hj⟩ := Int.eq_ofNat_of_zero_le a0
  rw [hj] at a1
  have e1 : ShA (L.take (i + 1)) (j : Int) = ShA L (j : Int) := ShA_take (by omega)
  have e2 : ShA L ((i + 1 : Nat) : Int) = mk3 (O i 0) (O i 3) (O i 4) (O i 5) (O i 6) (O i 7) (O i 8) (O i 9) (O i 10) (O i 11) (ShA L (j : Int)) := by
    rw [← ShA_take (n := i + 1 + 1) (by omega), hL]
    unfold ShA at e1 ⊢
    rw [Int.toNat_natCast]
    simp only [List.getD]
    rw [List.getElem?_append_right (by omega), i1, Nat.sub_self]
    unfold oM ShA
    rw [hj, Int.toNat_natCast]
    rw [Int.toNat_natCast] at e1
    simp only [List.getElem?_cons_zero, Option.getD_some]
    rw [e1]
    rfl
  obtain ⟨A1, A2, A3, hA0⟩ : ∃ A1 A2 A3, ShA L (j : Int) = (A1, A2, A3) := ⟨_, _, _, rfl⟩
  obtain ⟨B1, B2, B3, hB0⟩ : ∃ B1 B2 B3, ShA L ((i + 1 : Nat) : Int) = (B1, B2, B3) := ⟨_, _, _, rfl⟩
  obtain ⟨r1, ⟨b0, b1⟩, r3⟩ := op_opd (h := A1) (w := A2) (c := A3) (H := B1) (V := B2) (C := B3) hx0 g3 i2 (by rw [hj, e1]; exact hA0) (by rw [← hB0, e2, hA0])
  obtain ⟨jb, hjb⟩ := Int.eq_ofNat_of_zero_le b0
  rw [hjb] at b1 r3
  refine ⟨j, jb, hj, by omega, hjb, by omega, fun x y v H V C hA hB => ?_⟩
  have ea : (A1, A2, A3) = (x, y, v) := by rw [← hA0, ← hA]; unfold ShA; rw [Int.toNat_natCast]
  have eb : (B1, B2, B3) = (H, V, C) := by rw [← hB0, ← hB]; unfold ShA; rw [Int.toNat_natCast]
  simp only [Prod.mk.injEq] at ea eb
  obtain ⟨rfl, rfl, rfl⟩ := ea
  obtain ⟨rfl, rfl, rfl⟩ := eb
  refine ⟨r1, fun q6 => ?_⟩
  have := r3 q6
  rw [ShA_take (by omega)] at this
  unfold ShA at this
  rwa [Int.toNat_natCast] at this
/-- The op alone. -/
theorem alone_g {k a b m kh kw sh sw tp lf bt rt : Int} {lw lb : Nat} {sm ss um us z p lo hi : Int} {h w c H V C : Int} (s : Opd k b m kh kw sh sw tp lf bt rt lw lb sm ss um us z p lo hi h w c H V C) (hk : k ≤ 4) :
    ∃ Rw, gtR (fun _ => oL k 0 b m kh kw sh sw tp lf bt rt (lw : Int) (lb : Int) sm ss um us z p lo hi) h w c 0 0 0 1 = (0, 0, [(h, w, c), (H, V, C)], Rw) := by
  have hou : ouE h w c 0 0 0 1 = 0 := by
    unfold ouE
    rw [s.hA, if_neg (by decide), show rgB 0 0 = true by decide, if_neg (by decide), if_neg (by decide), if_neg (by decide)]
  obtain ⟨a1, a2⟩ := s.al hk
  rw [gtR_of hou]
  have hT : oT (oL k 0 b m kh kw sh sw tp lf bt rt (lw : Int) (lb : Int) sm ss um us z p lo hi) [(h, w, c)] 0 = 0 := by
    show tkE k 0 b m kh kw sh sw tp lf bt rt (lw : Int).toNat (lb : Int).toNat sm ss um us z p lo hi [(h, w, c)] 0 = 0
    rw [Int.toNat_natCast, Int.toNat_natCast]
    exact a1
  rw [stG_ok (i := 0) (L := [(h, w, c)]) (wk := 0) rfl hT]
  have hM : oM (oL k 0 b m kh kw sh sw tp lf bt rt (lw : Int) (lb : Int) sm ss um us z p lo hi) [(h, w, c)] = (H, V, C) := a2
  rw [hM]
  exact ⟨_, rfl⟩
/-! ### Sums -/
def smT (p : Int) (x : List Int) (t : Int × Int) : Int := t.1 * (if t.2 < 0 then p else x.getD t.2.toNat 0)
def smV (p : Int) (x : List Int) : List (Int × Int) → Int
  | [] => 0
  | t :: l => smT p x t + smV p x l
theorem smV_app (p : Int) (x : List Int) : ∀ l r : List (Int × Int), smV p x (l ++ r) = smV p x l + smV p x r
  | [], r => by simp [smV]
  | t :: l, r => by simp only [List.cons_append, smV, smV_app p x l r]; omega
theorem smV_take {p : Int} {x : List Int} {l : List (Int × Int)} {n : Nat} {u v : Int} (hn : n < l.length) (h : l.getD n (0, 0) = (u, v)) : smV p x (l.take (n + 1)) = smV p x (l.take n) + smT p x (u, v) := by
  rw [List.getD_eq_getElem?_getD, List.getElem?_eq_getElem hn, Option.getD_some] at h
  rw [List.take_add_one, List.getElem?_eq_getElem hn, smV_app, h]
  simp [smV]
def I8 (v : Int) : Prop := -128 ≤ v ∧ v ≤ 127
theorem getD_i8 {x : List Int} (h : ∀ v ∈ x, I8 v) (n : Nat) : I8 (x.getD n 0) := by
  rcases Nat.lt_or_ge n x.length with q | q
  · rw [List.getD_eq_getElem?_getD, List.getElem?_eq_getElem q]; exact h _ (List.getElem_mem q)
  · rw [List.getD_eq_getElem?_getD, List.getElem?_eq_none q]; exact ⟨by decide, by decide⟩
theorem prod_i8 {a v : Int} (ha : -32768 ≤ a ∧ a ≤ 32767) (hv : I8 v) : -4194304 ≤ a * v ∧ a * v ≤ 4194304 := by
  obtain ⟨v1, v2⟩ := hv
  rcases Int.le_total 0 a with h | h
  · have p1 := Int.mul_le_mul_of_nonneg_left v1 h
    have p2 := Int.mul_le_mul_of_nonneg_left v2 h
    omega
  · have p1 := Int.mul_le_mul_of_nonpos_left h v1
    have p2 := Int.mul_le_mul_of_nonpos_left h v2
    omega
theorem smT_bd {p : Int} {x : List Int} {t : Int × Int} (hp : I8 p) (hx : ∀ v ∈ x, I8 v) (ht : -32768 ≤ t.1 ∧ t.1 ≤ 32767) : -4194304 ≤ smT p x t ∧ smT p x t ≤ 4194304 := by
  unfold smT
  split
  · exact prod_i8 ht hp
  · exact prod_i8 ht (getD_i8 hx _)
theorem smV_bd {p : Int} {x : List Int} (hp : I8 p) (hx : ∀ v ∈ x, I8 v) : ∀ l : List (Int × Int), (∀ t ∈ l, -32768 ≤ t.1 ∧ t.1 ≤ 32767) → -(4194304 * (l.length : Int)) ≤ smV p x l ∧ smV p x l ≤ 4194304 * (l.length : Int)
  | [], _ => by simp [smV]
  | t :: l, h => by
    have h1 := smV_bd hp hx l fun t ht => h t (List.mem_cons_of_mem _ ht)
    have h2 := smT_bd hp hx (h t List.mem_cons_self)
    simp only [smV, List.length_cons]
    omega
theorem take_mem {l : List (Int × Int)} {P : Int × Int → Prop} (h : ∀ t ∈ l, P t) (n : Nat) : ∀ t ∈ l.take n, P t := fun t ht => h t (List.mem_of_mem_take ht)
theorem wgA_bd {k ch st : Int} {zs : List Int} (hz : ∀ v ∈ zs, (Lit.int .i16 v).wf = true) (i : Int) : -32768 ≤ wgA k ch st zs i ∧ wgA k ch st zs i ≤ 32767 := by
  unfold wgA
  split
  · omega
  · rcases Nat.lt_or_ge (((ch - 1) * st + i).toNat) zs.length with q | q
    · rw [List.getD_eq_getElem?_getD, List.getElem?_eq_getElem q, Option.getD_some]
      exact wf_i16 (hz _ (List.getElem_mem q))
    · rw [List.getD_eq_getElem?_getD, List.getElem?_eq_none q, Option.getD_none]; omega
theorem biA_bd {k ch : Int} {bs : List Int} (hb : ∀ v ∈ bs, (Lit.int .i32 v).wf = true) : -2147483648 ≤ biA k ch bs ∧ biA k ch bs ≤ 2147483647 := by
  unfold biA
  split
  · omega
  · rcases Nat.lt_or_ge ((ch - 1).toNat) bs.length with q | q
    · rw [List.getD_eq_getElem?_getD, List.getElem?_eq_getElem q, Option.getD_some]
      exact wf_i32 (hb _ (List.getElem_mem q))
    · rw [List.getD_eq_getElem?_getD, List.getElem?_eq_none q, Option.getD_none]; omega
theorem tpc_in {h w kw t u : Int} (q : Int) : tpc h w kw t u q = -1 ∨ (0 ≤ tpc h w kw t u q ∧ tpc h w kw t u q < h * w) := by
  unfold tpc plc
  split
  · rename_i g
    obtain ⟨⟨g1, g2⟩, g3, g4⟩ := g
    have := rowbd g2 g1 g3 g4
    right; omega
  · left; rfl
theorem cov_in {n c q d : Int} (hq : q = -1 ∨ (0 ≤ q ∧ q < n)) (hd : 0 ≤ d ∧ d < c) : cov c q d = -1 ∨ (0 ≤ cov c q d ∧ cov c q d < n * c) := by
  unfold cov
  split
  · left; rfl
  · rename_i g
    rcases hq with q1 | ⟨q1, q2⟩
    · exact absurd q1 g
    · have := rowbd q2 q1 hd.1 hd.2
      right; omega
theorem plA_in {k kh kw sh sw tp lf bt rt h w c H V C : Int} {lw lb : Nat} (s : Sit k kh kw sh sw tp lf bt rt h w c H V C lw lb) {ch : Int} (hch : 1 ≤ ch ∧ ch ≤ C) (t u i : Int) (hi : 0 ≤ i ∧ i < stR k kh kw h w c) :
    plA k c ch h w kw t u i = -1 ∨ (0 ≤ plA k c ch h w kw t u i ∧ plA k c ch h w kw t u i < h * w * c) := by
  obtain ⟨hk, hvA, -, -, -, -, -, h3c, -⟩ := s
  have hc1 := (vS_yes hvA).2.2.1
  unfold plA
  by_cases k1 : k = 1
  · subst k1
    rw [if_pos rfl]
    have : stR 1 kh kw h w c = h * w * c := rfl
    rw [this] at hi
    right; exact hi
  · rw [if_neg k1]
    by_cases k2 : k = 2
    · rw [if_pos k2]
      exact cov_in (tpc_in _) ⟨Int.emod_nonneg _ (by omega), Int.emod_lt_of_pos _ (by omega)⟩
    · rw [if_neg k2]
      have := h3c (by omega)
      exact cov_in (tpc_in _) ⟨by omega, by omega⟩
/-- The terms of a sum: how many, their weights, their places. -/
theorem siL_facts {k kh kw sh sw tp lf bt rt h w c H V C : Int} {lw lb : Nat} (s : Sit k kh kw sh sw tp lf bt rt h w c H V C lw lb) {zs : List Int} (hz : ∀ v ∈ zs, (Lit.int .i16 v).wf = true) {ch : Int} (hch : 1 ≤ ch ∧ ch ≤ C) (at' : Int) :
    (siL k kh kw sh sw tp lf bt rt h w c ch at' zs).length ≤ 512 ∧ ∀ t ∈ siL k kh kw sh sw tp lf bt rt h w c ch at' zs, (-32768 ≤ t.1 ∧ t.1 ≤ 32767) ∧ (t.2 = -1 ∨ (0 ≤ t.2 ∧ t.2 < h * w * c)) := by
  have h1 := s.2.2.2.2.2.2.2.2.2
  have h0 := s.2.2.2.2.2.2.2.2.1
  unfold siL
  refine ⟨by rw [tmL_len]; omega, fun t ht => ?_⟩
  unfold tmL at ht
  obtain ⟨i, hi, rfl⟩ := List.mem_map.1 ht
  have hi' : i < (stR k kh kw h w c).toNat := by simpa using hi
  exact ⟨wgA_bd hz _, plA_in s hch _ _ _ ⟨by omega, by omega⟩⟩
/-- A channel's sum at a position, over the numbers x. -/
def suA (k kh kw sh sw tp lf bt rt h w c p : Int) (zs bs x : List Int) (ch at' : Int) : Int := biA k ch bs + smV p x (siL k kh kw sh sw tp lf bt rt h w c ch at' zs)
theorem suA_bd {k kh kw sh sw tp lf bt rt h w c H V C p : Int} {lw lb : Nat} (s : Sit k kh kw sh sw tp lf bt rt h w c H V C lw lb) {zs bs x : List Int} (hz : ∀ v ∈ zs, (Lit.int .i16 v).wf = true) (hb : ∀ v ∈ bs, (Lit.int .i32 v).wf = true) (hp : I8 p) (hx : ∀ v ∈ x, I8 v) {ch : Int} (hch : 1 ≤ ch ∧ ch ≤ C) (at' : Int) :
    -4294967296 ≤ suA k kh kw sh sw tp lf bt rt h w c p zs bs x ch at' ∧ suA k kh kw sh sw tp lf bt rt h w c p zs bs x ch at' ≤ 4294967296 := by
  obtain ⟨h1, h2⟩ := siL_facts s hz hch at'
  have h3 := smV_bd hp hx _ fun t ht => (h2 t ht).1
  have h4 := biA_bd (k := k) (ch := ch) hb
  unfold suA
  omega
/-- Of all, the first so many. -/
def suL (k kh kw sh sw tp lf bt rt h w c C p : Int) (zs bs x : List Int) (n : Nat) : List Int := (List.range n).map fun (j : Nat) => suA k kh kw sh sw tp lf bt rt h w c p zs bs x ((j : Int) % C + 1) ((j : Int) / C)
theorem suL_len (k kh kw sh sw tp lf bt rt h w c C p : Int) (zs bs x : List Int) (n : Nat) : (suL k kh kw sh sw tp lf bt rt h w c C p zs bs x n).length = n := by simp [suL]
theorem suL_succ (k kh kw sh sw tp lf bt rt h w c C p : Int) (zs bs x : List Int) (n : Nat) : suL k kh kw sh sw tp lf bt rt h w c C p zs bs x (n + 1) = suL k kh kw sh sw tp lf bt rt h w c C p zs bs x n ++ [suA k kh kw sh sw tp lf bt rt h w c p zs bs x ((n : Int) % C + 1) ((n : Int) / C)] := by simp [suL, List.range_succ]
theorem suL_0 (k kh kw sh sw tp lf bt rt h w c C p : Int) (zs bs x : List Int) : suL k kh kw sh sw tp lf bt rt h w c C p zs bs x 0 = [] := rfl
theorem suL_bd {k kh kw sh sw tp lf bt rt h w c H V C p : Int} {lw lb : Nat} (s : Sit k kh kw sh sw tp lf bt rt h w c H V C lw lb) {zs bs x : List Int} (hz : ∀ v ∈ zs, (Lit.int .i16 v).wf = true) (hb : ∀ v ∈ bs, (Lit.int .i32 v).wf = true) (hp : I8 p) (hx : ∀ v ∈ x, I8 v) (n : Nat) :
    ∀ v ∈ suL k kh kw sh sw tp lf bt rt h w c C p zs bs x n, -4294967296 ≤ v ∧ v ≤ 4294967296 := fun v hv => by
  have hC := (vS_yes s.2.2.1).2.2.1
  obtain ⟨j, -, rfl⟩ := List.mem_map.1 hv
  have e1 := Int.emod_nonneg (j : Int) (show C ≠ 0 by omega)
  have e2 := Int.emod_lt_of_pos (j : Int) (show 0 < C by omega)
  exact suA_bd s hz hb hp hx ⟨by omega, by omega⟩ _
theorem divmod_at {C : Int} {q d : Nat} (hd : (d : Int) < C) : ((q : Int) * C + d) / C = q ∧ ((q : Int) * C + d) % C = d := by
  have hC : 0 < C := by omega
  refine ⟨?_, ?_⟩
  · rw [Int.add_comm, Int.add_mul_ediv_right _ _ (by omega), Int.ediv_eq_zero_of_lt (by omega) hd, Int.zero_add]
  · rw [Int.add_comm, Int.add_mul_emod_self_right, Int.emod_eq_of_lt (by omega) hd]
/-! ### The greatest under a window -/
def mxI (a b : Int) : Int := if a < b then b else a
def grA (w c kw : Int) (x : List Int) (t u d : Int) (q : Nat) : Int := x.getD (((t + (q : Int) / kw) * w + (u + (q : Int) % kw)) * c + d).toNat 0
def grM (w c kw : Int) (x : List Int) (t u d : Int) : Nat → Int
  | 0 => -128
  | q + 1 => mxI (grM w c kw x t u d q) (grA w c kw x t u d q)
theorem grM_i8 {w c kw : Int} {x : List Int} (hx : ∀ v ∈ x, I8 v) (t u d : Int) : ∀ q, I8 (grM w c kw x t u d q)
  | 0 => by unfold grM; exact ⟨by decide, by decide⟩
  | q + 1 => by
    have h1 := grM_i8 hx t u d q (w := w) (c := c) (kw := kw)
    have h2 : I8 (grA w c kw x t u d q) := getD_i8 hx _
    unfold grM mxI
    split
    · exact h2
    · exact h1
def grL (kh kw sh sw w c V C : Int) (x : List Int) (n : Nat) : List Int := (List.range n).map fun (j : Nat) => grM w c kw x ((j : Int) / C / V * sh) ((j : Int) / C % V * sw) ((j : Int) % C) (kh * kw).toNat
theorem grL_len (kh kw sh sw w c V C : Int) (x : List Int) (n : Nat) : (grL kh kw sh sw w c V C x n).length = n := by simp [grL]
theorem grL_succ (kh kw sh sw w c V C : Int) (x : List Int) (n : Nat) : grL kh kw sh sw w c V C x (n + 1) = grL kh kw sh sw w c V C x n ++ [grM w c kw x ((n : Int) / C / V * sh) ((n : Int) / C % V * sw) ((n : Int) % C) (kh * kw).toNat] := by simp [grL, List.range_succ]
theorem grL_i8 {kh kw sh sw w c V C : Int} {x : List Int} (hx : ∀ v ∈ x, I8 v) (n : Nat) : ∀ v ∈ grL kh kw sh sw w c V C x n, I8 v := fun v hv => by
  obtain ⟨j, -, rfl⟩ := List.mem_map.1 hv
  exact grM_i8 hx _ _ _ _
/-! ### What an op makes -/
def apL (x : List Int) (m s : Int) : List Int := x.map fun v => Fx.apV v m s
def meL (x : List Int) (n : Int) : List Int := x.map fun v => Fx.meV v n
def adL (x y : List Int) : List Int := (List.range x.length).map fun i => x.getD i 0 + y.getD i 0
def fiL (x : List Int) (z lo hi : Int) : List Int := x.map fun v => Fx.fiV v z lo hi
/-- Ahead of their Finish. -/
def vaL (k kh kw sh sw tp lf bt rt sm ss um us p h w c H V C : Int) (zs bs x y : List Int) : List Int :=
  if k ≤ 3 then apL (suL k kh kw sh sw tp lf bt rt h w c C p zs bs x (H * V * C).toNat) sm ss
  else if k = 4 then meL (suL k kh kw sh sw tp lf bt rt h w c C p zs bs x (H * V * C).toNat) (kh * kw)
  else if k = 5 then grL kh kw sh sw w c V C x (H * V * C).toNat
  else if k = 6 then adL (apL x sm ss) (apL y um us)
  else if k = 7 then apL x sm ss
  else x
def teL (k kh kw sh sw tp lf bt rt sm ss um us z p lo hi h w c H V C : Int) (zs bs x y : List Int) : List Int := fiL (vaL k kh kw sh sw tp lf bt rt sm ss um us p h w c H V C zs bs x y) z lo hi
theorem vaL_len {k b m kh kw sh sw tp lf bt rt : Int} {lw lb : Nat} {sm ss um us z p lo hi h w c H V C : Int} (s : Opd k b m kh kw sh sw tp lf bt rt lw lb sm ss um us z p lo hi h w c H V C) {zs bs x y : List Int} (hx : (x.length : Int) = h * w * c) : ((vaL k kh kw sh sw tp lf bt rt sm ss um us p h w c H V C zs bs x y).length : Int) = H * V * C := by
  have hb := (vS_bd s.hB).2
  unfold vaL
  split
  · unfold apL; rw [List.length_map, suL_len]; omega
  split
  · unfold meL; rw [List.length_map, suL_len]; omega
  split
  · rw [grL_len]; omega
  have e : H * V * C = h * w * c := by rw [(s.s6 (by omega)).1, (s.s6 (by omega)).2, s.c3 (by omega)]
  split
  · unfold adL apL; simp; omega
  split
  · unfold apL; simp; omega
  · omega
theorem rq_le {v d X : Int} (hd : 1 ≤ d) (hv : -X ≤ v ∧ v ≤ X) : -X ≤ Fx.rq v d ∧ Fx.rq v d ≤ X := by
  obtain ⟨a1, a2, -⟩ := Fx.rq_size v d hd
  unfold Fx.sizeV at a1 a2
  split at a1 <;> omega
theorem apV_bd {v m s : Int} (hv : -4294967296 ≤ v ∧ v ≤ 4294967296) : -9223372032559808512 ≤ Fx.apV v m s ∧ Fx.apV v m s ≤ 9223372032559808512 := by
  unfold Fx.apV
  split
  · rename_i hs
    split
    · have hm : 1 ≤ m ∧ m ≤ 2147483647 ∧ 0 ≤ s ∧ s ≤ 62 := by unfold Fx.scB at hs; simpa using hs
      exact rq_le (Fx.p2_pos s) (Fx.prod_bd v m hv.1 hv.2 hm.1 hm.2.1)
    · omega
  · omega
theorem apV_i8 {v m s : Int} (hv : I8 v) : -274877906944 ≤ Fx.apV v m s ∧ Fx.apV v m s ≤ 274877906944 := by
  obtain ⟨v1, v2⟩ := hv
  unfold Fx.apV
  split
  · rename_i hs
    split
    · have hm : 1 ≤ m ∧ m ≤ 2147483647 ∧ 0 ≤ s ∧ s ≤ 62 := by unfold Fx.scB at hs; simpa using hs
      have p1 := Int.mul_le_mul_of_nonneg_right v1 (show 0 ≤ m by omega)
      have p2 := Int.mul_le_mul_of_nonneg_right v2 (show 0 ≤ m by omega)
      exact rq_le (Fx.p2_pos s) ⟨by omega, by omega⟩
    · omega
  · omega
theorem fiB_of {z p lo hi : Int} (h : rzB z p lo hi = true) : Fx.fiB z lo hi = true := by
  unfold rzB rgB vlB at h
  unfold Fx.fiB
  simp at h ⊢
  omega
theorem fiV_in {v z lo hi : Int} (h : Fx.fiB z lo hi = true) : lo ≤ Fx.fiV v z lo hi ∧ Fx.fiV v z lo hi ≤ hi := by
  have h' := h
  unfold Fx.fiB at h'
  simp at h'
  unfold Fx.fiV
  rw [if_pos h]
  exact Fx.clamp_in_ends _ _ _ h'.2.1
theorem fiV_i8 {v z lo hi : Int} : I8 (Fx.fiV v z lo hi) := by
  cases h : Fx.fiB z lo hi with
  | true =>
    have := fiV_in (v := v) h
    unfold Fx.fiB at h
    simp at h
    exact ⟨by omega, by omega⟩
  | false =>
    unfold Fx.fiV
    rw [h, if_neg (by decide)]
    exact ⟨by decide, by decide⟩
theorem fiL_i8 (x : List Int) (z lo hi : Int) : ∀ v ∈ fiL x z lo hi, I8 v := fun v hv => by
  obtain ⟨u, -, rfl⟩ := List.mem_map.1 hv
  exact fiV_i8
/-! ### All tensors -/
def opT (o : Nat → Int) (zs bs : List Int) (A B : Int × Int × Int) (x y : List Int) : List Int :=
  teL (o 0) (o 4) (o 5) (o 6) (o 7) (o 8) (o 9) (o 10) (o 11) (o 14) (o 15) (o 16) (o 17) (o 18) (o 19) (o 20) (o 21) A.1 A.2.1 A.2.2 B.1 B.2.1 B.2.2 zs bs x y
def tnL (O : Nat → Nat → Int) (Z B : Nat → List Int) (L : List (Int × Int × Int)) (x : List Int) : Nat → List (List Int)
  | 0 => [x]
  | n + 1 => tnL O Z B L x n ++ [opT (O n) (Z n) (B n) (L.getD (O n 1).toNat (0, 0, 0)) (L.getD (n + 1) (0, 0, 0)) ((tnL O Z B L x n).getD (O n 1).toNat []) ((tnL O Z B L x n).getD (O n 2).toNat [])]
theorem tnL_len (O : Nat → Nat → Int) (Z B : Nat → List Int) (L : List (Int × Int × Int)) (x : List Int) : ∀ n, (tnL O Z B L x n).length = n + 1
  | 0 => rfl
  | n + 1 => by simp [tnL, tnL_len O Z B L x n]
theorem tnL_at (O : Nat → Nat → Int) (Z B : Nat → List Int) (L : List (Int × Int × Int)) (x : List Int) : ∀ (n i : Nat), i ≤ n → (tnL O Z B L x n).getD i [] = (tnL O Z B L x i).getD i []
  | 0, i, hi => by obtain rfl : i = 0 := by omega
                   rfl
  | n + 1, i, hi => by
    by_cases e : i = n + 1
    · rw [e]
    · have := tnL_at O Z B L x n i (by omega)
      rw [← this]
      have hl := tnL_len O Z B L x n
      simp only [tnL, List.getD]
      rw [List.getElem?_append_left (by omega)]
/-- Tensor number i. -/
def tnA (O : Nat → Nat → Int) (Z B : Nat → List Int) (L : List (Int × Int × Int)) (x : List Int) (i : Nat) : List Int := (tnL O Z B L x i).getD i []
theorem tnA_0 (O : Nat → Nat → Int) (Z B : Nat → List Int) (L : List (Int × Int × Int)) (x : List Int) : tnA O Z B L x 0 = x := rfl
theorem tnL_get (O : Nat → Nat → Int) (Z B : Nat → List Int) (L : List (Int × Int × Int)) (x : List Int) {n i : Nat} (hi : i ≤ n) : (tnL O Z B L x n).getD i [] = tnA O Z B L x i := tnL_at O Z B L x n i hi
theorem tnA_succ {O : Nat → Nat → Int} {Z B : Nat → List Int} {L : List (Int × Int × Int)} {x : List Int} {n ja jb : Nat} (ha : O n 1 = (ja : Int)) (hb : O n 2 = (jb : Int)) (h1 : ja ≤ n) (h2 : jb ≤ n) :
    tnA O Z B L x (n + 1) = opT (O n) (Z n) (B n) (L.getD ja (0, 0, 0)) (L.getD (n + 1) (0, 0, 0)) (tnA O Z B L x ja) (tnA O Z B L x jb) := by
  have hl := tnL_len O Z B L x n
  unfold tnA
  simp only [tnL, List.getD]
  rw [List.getElem?_append_right (by omega), show n + 1 - (tnL O Z B L x n).length = 0 by omega]
  rw [ha, hb, Int.toNat_natCast, Int.toNat_natCast]
  have e1 := tnL_at O Z B L x n ja h1
  have e2 := tnL_at O Z B L x n jb h2
  simp only [List.getD] at e1 e2
  rw [e1, e2]
  rfl
theorem tnL_succ {O : Nat → Nat → Int} {Z B : Nat → List Int} {L : List (Int × Int × Int)} {x : List Int} (n : Nat) : tnL O Z B L x (n + 1) = tnL O Z B L x n ++ [tnA O Z B L x (n + 1)] := by
  have hl := tnL_len O Z B L x n
  have : tnA O Z B L x (n + 1) = opT (O n) (Z n) (B n) (L.getD (O n 1).toNat (0, 0, 0)) (L.getD (n + 1) (0, 0, 0)) ((tnL O Z B L x n).getD (O n 1).toNat []) ((tnL O Z B L x n).getD (O n 2).toNat []) := by
    unfold tnA
    simp only [tnL, List.getD]
    rw [List.getElem?_append_right (by omega), show n + 1 - (tnL O Z B L x n).length = 0 by omega]
    rfl
  rw [this]
  rfl
/-- Each has as many numbers as its shape, each of 8 bits. -/
theorem tn_facts {O : Nat → Nat → Int} {Z B : Nat → List Int} {h w c lo hi ot t wk : Int} {on : Nat} {L : List (Int × Int × Int)} {x : List Int} (q : gtR O h w c lo hi ot on = (0, t, L, wk)) (hx : (x.length : Int) = h * w * c) (h8 : ∀ v ∈ x, I8 v) :
    ∀ i, i ≤ on → ((tnA O Z B L x i).length : Int) = (L.getD i (0, 0, 0)).1 * (L.getD i (0, 0, 0)).2.1 * (L.getD i (0, 0, 0)).2.2 ∧ ∀ v ∈ tnA O Z B L x i, I8 v := by
  intro i
  induction i using Nat.strongRecOn with
  | ind i ih =>
    intro hi0
    cases i with
    | zero =>
      have := (gtR_at q).1
      unfold ShA at this
      rw [Int.toNat_natCast] at this
      rw [this]
      exact ⟨hx, h8⟩
    | succ n =>
      obtain ⟨ja, jb, e1, e2, e3, e4, hO⟩ := opd_of q (i := n) (by omega)
      obtain ⟨a1, a2, a3, hA⟩ : ∃ a1 a2 a3, L.getD ja (0, 0, 0) = (a1, a2, a3) := ⟨_, _, _, rfl⟩
      obtain ⟨b1, b2, b3, hB⟩ : ∃ b1 b2 b3, L.getD (n + 1) (0, 0, 0) = (b1, b2, b3) := ⟨_, _, _, rfl⟩
      obtain ⟨s, -⟩ := hO _ _ _ _ _ _ hA hB
      have hl := (ih ja (by omega) (by omega)).1
      rw [hA] at hl
      rw [tnA_succ e1 e3 e2 e4, hA, hB]
      unfold opT teL
      refine ⟨?_, fiL_i8 _ _ _ _⟩
      unfold fiL
      rw [List.length_map]
      exact vaL_len s hl
end Go.Proofs.Ytjjckaklhafibaa

/- Sums of weights, in plain numbers, and what they say at once. -/
namespace Go.Proofs.Ytjjckaklhafibaa
open Go.ChangeShapes Go.WideShapes Go.ChangeAt Go.RowKit
set_option linter.unusedVariables false
def upW (a : Int) : Int := if 0 < a then a else 0
def dnW (a : Int) : Int := if 0 < a then 0 else a
theorem upW_bd {a : Int} (h : -32768 ≤ a ∧ a ≤ 32767) : 0 ≤ upW a ∧ upW a ≤ 32768 := by unfold upW; split <;> omega
theorem dnW_bd {a : Int} (h : -32768 ≤ a ∧ a ≤ 32767) : -32768 ≤ dnW a ∧ dnW a ≤ 0 := by unfold dnW; split <;> omega
/-- The weights above 0 added up; those below. -/
def upS : List (Int × Int) → Int
  | [] => 0
  | t :: l => upW t.1 + upS l
def dnS : List (Int × Int) → Int
  | [] => 0
  | t :: l => dnW t.1 + dnS l
theorem upS_app : ∀ l r : List (Int × Int), upS (l ++ r) = upS l + upS r
  | [], r => by simp [upS]
  | t :: l, r => by simp only [List.cons_append, upS, upS_app l r]; omega
theorem dnS_app : ∀ l r : List (Int × Int), dnS (l ++ r) = dnS l + dnS r
  | [], r => by simp [dnS]
  | t :: l, r => by simp only [List.cons_append, dnS, dnS_app l r]; omega
theorem upS_take {l : List (Int × Int)} {n : Nat} {u v : Int} (hn : n < l.length) (h : l.getD n (0, 0) = (u, v)) : upS (l.take (n + 1)) = upS (l.take n) + upW u := by
  rw [List.getD_eq_getElem?_getD, List.getElem?_eq_getElem hn, Option.getD_some] at h
  rw [List.take_add_one, List.getElem?_eq_getElem hn, upS_app, h]
  simp [upS]
theorem dnS_take {l : List (Int × Int)} {n : Nat} {u v : Int} (hn : n < l.length) (h : l.getD n (0, 0) = (u, v)) : dnS (l.take (n + 1)) = dnS (l.take n) + dnW u := by
  rw [List.getD_eq_getElem?_getD, List.getElem?_eq_getElem hn, Option.getD_some] at h
  rw [List.take_add_one, List.getElem?_eq_getElem hn, dnS_app, h]
  simp [dnS]
theorem sg_bd : ∀ l : List (Int × Int), (∀ t ∈ l, -32768 ≤ t.1 ∧ t.1 ≤ 32767) → (0 ≤ upS l ∧ upS l ≤ 32768 * (l.length : Int)) ∧ (-(32768 * (l.length : Int)) ≤ dnS l ∧ dnS l ≤ 0)
  | [], _ => by simp [upS, dnS]
  | t :: l, h => by
    have h1 := sg_bd l fun t ht => h t (List.mem_cons_of_mem _ ht)
    have h2 := upW_bd (h t List.mem_cons_self)
    have h3 := dnW_bd (h t List.mem_cons_self)
    simp only [upS, dnS, List.length_cons]
    omega
theorem sg_take {l : List (Int × Int)} (h : ∀ t ∈ l, -32768 ≤ t.1 ∧ t.1 ≤ 32767) (hl : l.length ≤ 512) (n : Nat) : (0 ≤ upS (l.take n) ∧ upS (l.take n) ≤ 16777216) ∧ (-16777216 ≤ dnS (l.take n) ∧ dnS (l.take n) ≤ 0) := by
  have h1 := sg_bd (l.take n) (take_mem h n)
  have h2 : (l.take n).length ≤ 512 := by rw [List.length_take]; omega
  omega
theorem sg_all {l : List (Int × Int)} (h : ∀ t ∈ l, -32768 ≤ t.1 ∧ t.1 ≤ 32767) (hl : l.length ≤ 512) : (0 ≤ upS l ∧ upS l ≤ 16777216) ∧ (-16777216 ≤ dnS l ∧ dnS l ≤ 0) := by
  have h1 := sg_bd l h
  omega
theorem sg_fst : ∀ l r : List (Int × Int), l.map (·.1) = r.map (·.1) → upS l = upS r ∧ dnS l = dnS r
  | [], [], _ => ⟨rfl, rfl⟩
  | [], _ :: _, h => by simp at h
  | _ :: _, [], h => by simp at h
  | t :: l, s :: r, h => by
    simp only [List.map_cons, List.cons.injEq] at h
    have ih := sg_fst l r h.2
    simp only [upS, dnS, h.1, ih.1, ih.2]
    exact ⟨trivial, trivial⟩
/-- A channel's weights are the same wherever its sum is. -/
theorem siL_fst (k kh kw sh sw tp lf bt rt h w c ch a1 a2 : Int) (zs : List Int) : (siL k kh kw sh sw tp lf bt rt h w c ch a1 zs).map (·.1) = (siL k kh kw sh sw tp lf bt rt h w c ch a2 zs).map (·.1) := by
  unfold siL tmL
  rw [List.map_map, List.map_map]
  rfl
/-! ### How far from 0 -/
def szV (x : Int) : Int := if x < 0 then -x else x
def rcS (lo hi : Int) : Int := mxI (szV lo) (szV hi)
def rcV (tp lf bt rt p lo hi : Int) : Int := if 0 < tp + lf + bt + rt then mxI (rcS lo hi) (szV p) else rcS lo hi
theorem szV_bd {x : Int} (h : -128 ≤ x ∧ x ≤ 127) : 0 ≤ szV x ∧ szV x ≤ 128 := by unfold szV; split <;> omega
theorem mxI_bd {a b X : Int} (h1 : 0 ≤ a ∧ a ≤ X) (h2 : 0 ≤ b ∧ b ≤ X) : 0 ≤ mxI a b ∧ mxI a b ≤ X := by unfold mxI; split <;> omega
theorem rcV_bd {tp lf bt rt p lo hi : Int} (h1 : -128 ≤ lo ∧ lo ≤ 127) (h2 : -128 ≤ hi ∧ hi ≤ 127) (h3 : I8 p) : 0 ≤ rcV tp lf bt rt p lo hi ∧ rcV tp lf bt rt p lo hi ≤ 128 := by
  have h4 := mxI_bd (szV_bd h1) (szV_bd h2)
  unfold rcV
  split
  · exact mxI_bd h4 (szV_bd h3)
  · exact h4
/-- Over a wider span it is no less. -/
theorem rcV_wide {tp lf bt rt p lo hi lo' hi' : Int} (h : lo ≤ hi) (h1 : lo' ≤ lo) (h2 : hi ≤ hi') : rcV tp lf bt rt p lo hi ≤ rcV tp lf bt rt p lo' hi' := by
  have e : rcS lo hi ≤ rcS lo' hi' := by
    unfold rcS mxI szV
    repeat' split
    all_goals omega
  unfold rcV mxI
  repeat' split
  all_goals omega
/-- The product of a sum of weights and a reach. -/
theorem aw_bd {a r : Int} (h1 : 0 ≤ a ∧ a ≤ 33554432) (h2 : 0 ≤ r ∧ r ≤ 128) : 0 ≤ a * r ∧ a * r ≤ 4294967296 := by
  have p1 := Int.mul_nonneg h1.1 h2.1
  have p2 := Int.mul_le_mul h1.2 h2.2 h2.1 (by omega : (0 : Int) ≤ 33554432)
  omega
/-! ### What it holds -/
theorem prod_held {a v R : Int} (h : -R ≤ v ∧ v ≤ R) : -((upW a - dnW a) * R) ≤ a * v ∧ a * v ≤ (upW a - dnW a) * R := by
  obtain ⟨v1, v2⟩ := h
  unfold upW dnW
  split
  · rename_i g
    have p1 := Int.mul_le_mul_of_nonneg_left v1 (show 0 ≤ a by omega)
    have p2 := Int.mul_le_mul_of_nonneg_left v2 (show 0 ≤ a by omega)
    rw [Int.mul_neg] at p1
    rw [Int.sub_zero]
    exact ⟨p1, p2⟩
  · rename_i g
    have p1 := Int.mul_le_mul_of_nonpos_left (show a ≤ 0 by omega) v1
    have p2 := Int.mul_le_mul_of_nonpos_left (show a ≤ 0 by omega) v2
    rw [Int.mul_neg] at p1
    rw [Int.zero_sub, Int.neg_mul]
    omega
theorem smV_held {p R : Int} {x : List Int} : ∀ l : List (Int × Int), (∀ t ∈ l, -R ≤ (if t.2 < 0 then p else x.getD t.2.toNat 0) ∧ (if t.2 < 0 then p else x.getD t.2.toNat 0) ≤ R) → -((upS l - dnS l) * R) ≤ smV p x l ∧ smV p x l ≤ (upS l - dnS l) * R
  | [], _ => by simp [smV, upS, dnS]
  | t :: l, h => by
    have h1 := smV_held l fun t ht => h t (List.mem_cons_of_mem _ ht)
    have h2 := prod_held (a := t.1) (h t List.mem_cons_self)
    simp only [smV, smT, upS, dnS]
    have e : (upW t.1 + upS l - (dnW t.1 + dnS l)) * R = (upW t.1 - dnW t.1) * R + (upS l - dnS l) * R := by
      rw [← Int.add_mul]
      congr 1
      omega
    rw [e]
    omega
/-- Without padding each tap of a position lies in the plane. -/
theorem tpc_np {h w kh kw sh sw H V n q : Int} (hf : Fit h w kh kw sh sw 0 0 0 0 H V) (hn : 0 ≤ n ∧ n < H * V) (hq : 0 ≤ q ∧ q < kh * kw) : tpc h w kw (n / V * sh - 0) (n % V * sw - 0) q ≠ -1 := by
  obtain ⟨⟨h1, w1, q9⟩, ⟨k1, k2, k3, k4, -, -, -, -⟩, r1, q1, z1, z2⟩ := hf
  have a1 := Int.ediv_nonneg hn.1 (show 0 ≤ V by omega)
  have a2 : n / V < H := Int.ediv_lt_of_lt_mul (by omega) hn.2
  have b1 := Int.emod_nonneg n (show V ≠ 0 by omega)
  have b2 := Int.emod_lt_of_pos n (show 0 < V by omega)
  have c1 := Int.mul_le_mul_of_nonneg_right (show n / V ≤ H - 1 by omega) (show 0 ≤ sh by omega)
  have c2 := Int.mul_le_mul_of_nonneg_right (show n % V ≤ V - 1 by omega) (show 0 ≤ sw by omega)
  have c3 := Int.mul_nonneg a1 (show 0 ≤ sh by omega)
  have c4 := Int.mul_nonneg b1 (show 0 ≤ sw by omega)
  have d1 := Int.ediv_nonneg hq.1 (show 0 ≤ kw by omega)
  have d2 : q / kw < kh := Int.ediv_lt_of_lt_mul (by omega) hq.2
  have d3 := Int.emod_nonneg q (show kw ≠ 0 by omega)
  have d4 := Int.emod_lt_of_pos q (show 0 < kw by omega)
  unfold tpc
  have g : (0 ≤ n / V * sh - 0 + q / kw ∧ n / V * sh - 0 + q / kw < h) ∧ (0 ≤ n % V * sw - 0 + q % kw ∧ n % V * sw - 0 + q % kw < w) := by omega
  rw [plc_in g]
  have := rowbd g.1.2 g.1.1 g.2.1 g.2.2
  omega
/-- A place that is padding: some side has padding. -/
theorem pad_side {k kh kw sh sw tp lf bt rt h w c H V C : Int} {lw lb : Nat} (s : Sit k kh kw sh sw tp lf bt rt h w c H V C lw lb) {ch n i : Int} (hch : 1 ≤ ch ∧ ch ≤ C) (hn : 0 ≤ n ∧ n < H * V) (hi : 0 ≤ i ∧ i < stR k kh kw h w c)
    (hp : plA k c ch h w kw (coR h w c kh kw sh sw tp lf bt rt n).1 (coR h w c kh kw sh sw tp lf bt rt n).2.1 i < 0) : 0 < tp + lf + bt + rt := by
  obtain ⟨hk, hvA, hvB, hou, -, -, -, h3c, -⟩ := s
  have hc1 := (vS_yes hvA).2.2.1
  by_cases k1 : k = 1
  · unfold plA at hp
    rw [if_pos k1] at hp
    omega
  have ho := hou (by omega)
  rcases ouR_cases h w c kh kw sh sw tp lf bt rt with ⟨e, he, h2⟩ | ⟨r, q, he, hf⟩
  · rw [ho] at he
    simp only [Prod.mk.injEq] at he
    omega
  rw [ho] at he
  simp only [Prod.mk.injEq] at he
  obtain ⟨rfl, rfl, -⟩ := he
  have hw := hf.2.1
  obtain ⟨-, -, -, -, t1, t2, t3, t4⟩ := hw
  by_cases g : 0 < tp + lf + bt + rt
  · exact g
  exfalso
  obtain rfl : tp = 0 := by omega
  obtain rfl : lf = 0 := by omega
  obtain rfl : bt = 0 := by omega
  obtain rfl : rt = 0 := by omega
  have hco : coR h w c kh kw sh sw 0 0 0 0 n = (n / V * sh - 0, n % V * sw - 0, 0) := by
    unfold coR; rw [ho, if_pos rfl, if_pos hn]
  rw [hco] at hp
  simp only at hp
  unfold plA at hp
  rw [if_neg k1] at hp
  have hcv : ∀ q d : Int, tpc h w kw (n / V * sh - 0) (n % V * sw - 0) q ≠ -1 → 0 ≤ d → 0 ≤ cov c (tpc h w kw (n / V * sh - 0) (n % V * sw - 0) q) d := fun q d h1 h2 => by
    unfold cov
    rw [if_neg h1]
    rcases tpc_in (h := h) (w := w) (kw := kw) (t := n / V * sh - 0) (u := n % V * sw - 0) q with e | e
    · exact absurd e h1
    · have := Int.mul_nonneg e.1 (show 0 ≤ c by omega)
      omega
  by_cases k2 : k = 2
  · rw [if_pos k2] at hp
    subst k2
    have hst : stR 2 kh kw h w c = kh * kw * c := rfl
    rw [hst] at hi
    have e1 := Int.ediv_nonneg hi.1 (show 0 ≤ c by omega)
    have e2 : i / c < kh * kw := Int.ediv_lt_of_lt_mul (by omega) hi.2
    have e3 := Int.emod_nonneg i (show c ≠ 0 by omega)
    have := hcv _ _ (tpc_np hf hn ⟨e1, e2⟩) e3
    omega
  · rw [if_neg k2] at hp
    have hst : stR k kh kw h w c = kh * kw := by unfold stR; rw [if_neg k1, if_neg k2, if_pos (by omega)]
    rw [hst] at hi
    have := hcv _ (ch - 1) (tpc_np hf hn hi) (by omega)
    omega
/-- A number of a span lies no farther than its ends. -/
theorem in_rcS {lo hi v : Int} (h : lo ≤ v ∧ v ≤ hi) : -(rcS lo hi) ≤ v ∧ v ≤ rcS lo hi := by
  unfold rcS mxI szV
  repeat' split
  all_goals omega
/-- Whatever numbers of the span the tensor has: the channel's sums are held. -/
theorem suA_held {k kh kw sh sw tp lf bt rt h w c H V C p : Int} {lw lb : Nat} (s : Sit k kh kw sh sw tp lf bt rt h w c H V C lw lb) {zs bs x : List Int} (hz : ∀ v ∈ zs, (Lit.int .i16 v).wf = true) {ch : Int} (hch : 1 ≤ ch ∧ ch ≤ C) {n : Int} (hn : 0 ≤ n ∧ n < H * V) (hx : (x.length : Int) = h * w * c) {lo hi : Int} (hs : ∀ v ∈ x, lo ≤ v ∧ v ≤ hi) :
    biA k ch bs - (upS (siL k kh kw sh sw tp lf bt rt h w c ch 0 zs) - dnS (siL k kh kw sh sw tp lf bt rt h w c ch 0 zs)) * rcV tp lf bt rt p lo hi ≤ suA k kh kw sh sw tp lf bt rt h w c p zs bs x ch n ∧ suA k kh kw sh sw tp lf bt rt h w c p zs bs x ch n ≤ biA k ch bs + (upS (siL k kh kw sh sw tp lf bt rt h w c ch 0 zs) - dnS (siL k kh kw sh sw tp lf bt rt h w c ch 0 zs)) * rcV tp lf bt rt p lo hi := by
  obtain ⟨e1, e2⟩ := sg_fst _ _ (siL_fst k kh kw sh sw tp lf bt rt h w c ch 0 n zs)
  rw [e1, e2]
  have key := smV_held (p := p) (R := rcV tp lf bt rt p lo hi) (x := x) (siL k kh kw sh sw tp lf bt rt h w c ch n zs) (fun t ht => ?_)
  · unfold suA
    omega
  · have hf := ((siL_facts s hz hch n).2 t ht).2
    have hpl : t.2 < 0 → 0 < tp + lf + bt + rt := fun q => by
      unfold siL tmL at ht
      obtain ⟨i, hi, rfl⟩ := List.mem_map.1 ht
      have hi' : i < (stR k kh kw h w c).toNat := by simpa using hi
      have h0 := s.2.2.2.2.2.2.2.2.1
      exact pad_side s hch hn ⟨by omega, by omega⟩ q
    by_cases q : t.2 < 0
    · rw [if_pos q]
      unfold rcV
      rw [if_pos (hpl q)]
      unfold mxI szV
      repeat' split
      all_goals omega
    · rw [if_neg q]
      have hl : t.2.toNat < x.length := by omega
      have hm : x.getD t.2.toNat 0 ∈ x := by rw [List.getD_eq_getElem?_getD, List.getElem?_eq_getElem hl]; exact List.getElem_mem hl
      have h1 := in_rcS (hs _ hm)
      unfold rcV mxI
      split
      · split <;> omega
      · exact h1
/-- The sides of a window of an op that reduces. -/
theorem side_nn {k b m kh kw sh sw tp lf bt rt : Int} {lw lb : Nat} {sm ss um us z p lo hi h w c H V C : Int} (s : Opd k b m kh kw sh sw tp lf bt rt lw lb sm ss um us z p lo hi h w c H V C) (hk : k ≤ 4) : (0 ≤ tp ∧ tp ≤ 31) ∧ (0 ≤ lf ∧ lf ≤ 31) ∧ (0 ≤ bt ∧ bt ≤ 31) ∧ (0 ≤ rt ∧ rt ≤ 31) := by
  have hk0 := s.hk
  by_cases k1 : k = 1
  · have ho := of_decide_eq_true s.oz
    obtain ⟨-, -, -, -, g5, g6, g7, g8⟩ := ho.2.2.2.2.1 (.inl k1)
    omega
  · have ho := s.ou (by omega)
    rcases ouR_cases h w c kh kw sh sw tp lf bt rt with ⟨e, he, h2⟩ | ⟨r, q, he, hf⟩
    · rw [ho] at he
      simp only [Prod.mk.injEq] at he
      omega
    obtain ⟨k1, k2, -, -, t1, t2, t3, t4⟩ := hf.2.1
    omega
end Go.Proofs.Ytjjckaklhafibaa

/- What the small functions of package plain return: places, isInput, widened, scaled, means, added. -/
namespace Go.Proofs.Ytjjckaklhafibaa
open Go.ChangeShapes Go.WideShapes Go.ChangeAt Go.RowKit
set_option linter.unusedVariables false
theorem btr {a b c : World} (h : Below a.heap.size a b) (k : Below b.heap.size b c) : Below a.heap.size a c := bt h k
theorem wf_i8' {z : Int} (h : (Lit.int .i8 z).wf = true) : I8 z := wf_i8 h
theorem IRow.i8 {w : World} {a : Option Addr} {n c : Nat} {xs : List Int} (h : IRow .i8 w a n c xs) : ∀ v ∈ xs, I8 v := fun v hv => wf_i8 (h.2.2.2.1 v hv)
theorem wf_64 {xs : List Int} {X : Int} (hX : X ≤ 9223372036854775807) (h : ∀ v ∈ xs, -X ≤ v ∧ v ≤ X) : Wf .i64 xs := fun v hv => mk_i64 (by have := h v hv; omega)
theorem getD_mem {xs : List Int} {i : Nat} (h : i < xs.length) : xs.getD i 0 ∈ xs := by rw [List.getD_eq_getElem?_getD, List.getElem?_eq_getElem h]; exact List.getElem_mem h
/-! ### A list that is filled -/
def fil (ys : List Int) (y : Nat) : List Int := ys.take y ++ List.replicate (ys.length - y) 0
theorem fil_len (ys : List Int) {y : Nat} (h : y ≤ ys.length) : (fil ys y).length = ys.length := by simp [fil]; omega
theorem fil_0 (ys : List Int) : fil ys 0 = List.replicate ys.length 0 := by simp [fil]
theorem fil_all (ys : List Int) : fil ys ys.length = ys := by simp [fil]
theorem fil_set {ys : List Int} {y : Nat} (h : y < ys.length) : (fil ys y).set y (ys.getD y 0) = fil ys (y + 1) := by
  unfold fil
  apply List.ext_getElem?
  intro j
  have hl : (ys.take y).length = y := by rw [List.length_take]; omega
  have hl2 : (ys.take (y + 1)).length = y + 1 := by rw [List.length_take]; omega
  by_cases q : j = y
  · subst q
    rw [List.getElem?_set_self (by simp; omega), List.getElem?_append_left (by omega), List.getElem?_take, if_pos (by omega), List.getD_eq_getElem?_getD, List.getElem?_eq_getElem h]
    rfl
  · rw [List.getElem?_set_ne (by omega)]
    by_cases q2 : j < y
    · rw [List.getElem?_append_left (by omega), List.getElem?_append_left (by omega), List.getElem?_take, List.getElem?_take, if_pos q2, if_pos (by omega)]
    · rw [List.getElem?_append_right (by omega), List.getElem?_append_right (by omega), hl, hl2]
      simp only [List.getElem?_replicate]
      by_cases q3 : j < ys.length
      · rw [if_pos (by omega), if_pos (by omega)]
      · rw [if_neg (by omega), if_neg (by omega)]
/-- A block that holds just these numbers. -/
def Bk (k : IntKind) (T : TypeId) (w : World) (g : Nat) (zs : List Int) : Prop := w.heap[g]? = some (.cells (zs.map (Value.int k)).toArray T (0, 0))
theorem Bk.at {k : IntKind} {T : TypeId} {w : World} {g p : Nat} {zs : List Int} (h : Bk k T w g zs) (hp : p < zs.length) : w.cell? ⟨g, p, none⟩ = some (.int k (zs.getD p 0)) ∧ (∀ i, w.frozen? ⟨g, i, none⟩ = false) ∧ g < w.heap.size := by
  have := cells_at h
  exact ⟨by rw [this.1]; simp [List.getD, hp], this.2⟩
theorem Bk.set {k : IntKind} {T : TypeId} {w : World} {g p : Nat} {zs : List Int} (z : Int) (h : Bk k T w g zs) : Bk k T (w.setCell ⟨g, p, none⟩ (.int k z)) g (zs.set p z) := by
  have := heap_setCell_at (i := p) (v := .int k z) h
  unfold Bk
  rw [this]
  simp [List.map_set]
theorem Bk.below {k : IntKind} {T : TypeId} {w w' : World} {g : Nat} {zs : List Int} (h : Bk k T w g zs) (q : Below w.heap.size w w') : Bk k T w' g zs := (q.block g (lt_of_heap h)).trans h
theorem Bk.new {k : IntKind} {T : TypeId} {w : World} {g n : Nat} {zs : List Int} (h : w.heap[g]? = some (.cells (Array.replicate n (Value.int k 0)) T (0, 0))) (hn : zs.length = n) : Bk k T w g (fil zs 0) := by
  unfold Bk
  rw [h, fil_0, hn]
  simp
theorem St.setX {w0 w : World} {l : List (Nat × Array Value × TypeId)} {B i : Nat} {v : Value} (h : St w0 w l) (hB : w0.heap.size ≤ B) (hl : ∀ x ∈ l, x.1 ≠ B) : St w0 (w.setCell ⟨B, i, none⟩ v) l :=
  ⟨h.1.setCell (p := ⟨B, i, none⟩) hB v, fun x hx => ⟨by rw [Below.heap_setCell _ _ _ _ (hl x hx)]; exact (h.2 x hx).1, (h.2 x hx).2⟩⟩
/-! ### The functions -/
theorem places_plain (h w c : Int) (W : World) (g : vS h w c = true) :
    Calls Try.prog 28 #[.agg #[.int .i64 h, .int .i64 w, .int .i64 c]] W fun e w' => e = .returned (.int .i64 (h * w * c)) ∧ Below W.heap.size W w' := by
  have p3 := vS_bd g
  clear g
  go_enter Try.func28, Try.ntmps28
  go_wp2
  go_ret
  exact ⟨rfl, bal _ _⟩
theorem map_at {xs : List Int} {f : Int → Int} {y : Nat} {u : Int} (h : xs[y]? = some u) : (xs.map f).getD y 0 = f u := by rw [List.getD_eq_getElem?_getD, List.getElem?_map, h]; rfl
theorem me_bd {v n : Int} (hn : 1 ≤ n) (hv : -4294967296 ≤ v ∧ v ≤ 4294967296) : -4294967296 ≤ Fx.meV v n ∧ Fx.meV v n ≤ 4294967296 := by
  unfold Fx.meV
  rw [if_neg (by omega)]
  exact rq_le hn hv
/-! ### Is it an input? -/
def inB (h w c lo hi : Int) (xs : List Int) : Bool := decide ((xs.length : Int) = h * w * c ∧ ∀ v ∈ xs, lo ≤ v ∧ v ≤ hi)
theorem inB_yes {h w c lo hi : Int} {xs : List Int} (g : inB h w c lo hi xs = true) : (xs.length : Int) = h * w * c ∧ ∀ v ∈ xs, lo ≤ v ∧ v ≤ hi := of_decide_eq_true g
theorem inB_no {h w c lo hi v : Int} {xs : List Int} {i : Nat} (hv : xs[i]? = some v) (g : ¬ (lo ≤ v ∧ v ≤ hi)) : inB h w c lo hi xs = false := decide_eq_false fun q => g (q.2 v (List.mem_of_getElem? hv))
theorem take_all {xs : List Int} {P : Int → Prop} {y : Nat} {v : Int} (h : ∀ u ∈ xs.take y, P u) (hv : xs[y]? = some v) (hp : P v) : ∀ u ∈ xs.take (y + 1), P u := fun u hu => by
  rw [List.take_add_one, hv] at hu
  rcases List.mem_append.1 hu with q | q
  · exact h u q
  · simp at q; rw [q]; exact hp
end Go.Proofs.Ytjjckaklhafibaa
