/- What Of of package terms returns. What find of package bound returns. Choose of package depth, of what it asks. -/
import Derived.Test.YtgiohlcipndakaaGr15
import Derived.Test.YtgiohlcipndakaaGr22
/- What Of of package terms returns. -/
namespace Go.Proofs.Ytgiohlcipndakaa
open Go.ChangeShapes Go.WideShapes Go.ChangeAt Go.RowKit
set_option linter.unusedVariables false
set_option maxRecDepth 100000 in
set_option maxHeartbeats 2000000 in
theorem of_bad (h w c lo hi ot : Int) (oa : Option Addr) (on oc : Nat) (O : Nat → Nat → Int) (Z B : Nat → List Int) (W : World) (hL : LRow W oa on oc O Z B) (op ch at' E : Int) (hf : fiE O h w c lo hi ot on op = E) (hE : E ≠ 0) :
    Calls Try.prog 40 #[.agg #[.int .i64 h, .int .i64 w, .int .i64 c, .int .i64 lo, .int .i64 hi, .slice oa on oc, .int .i64 ot], .int .i64 op, .int .i64 ch, .int .i64 at'] W fun e w' => e = .returned (.tuple #[.slice none 0 0, .int .i64 0, .int .i64 E]) ∧ Below W.heap.size W w' := by
  have s0 := (St.start W).new (c := #[.int .i64 h, .int .i64 w, .int .i64 c, .int .i64 lo, .int .i64 hi, .slice oa on oc, .int .i64 ot]) (t := 26)
  have hF : Hid (∀ W', Below W.heap.size W W' → _) := fun W' hb => find_bad h w c lo hi ot oa on oc O Z B W' (hL.below hb) op E hf hE
  have hE' : (E == 0) = false := by simp [hE]
  clear hf hL
  go_enter Try.func40, Try.ntmps40
  go_wp2_with fail
  refine (hF.out _ s0.below).mono ?_
  rintro e w1 ⟨rfl, hb⟩
  have s1 := (s0.call hb).new (c := #[.int .i64 0, .int .i64 0, .int .i64 0, .int .i64 0, .int .i64 0, .int .i64 0, .int .i64 0, .int .i64 0, .int .i64 0, .int .i64 0, .int .i64 0, .int .i64 0, .slice none 0 0, .slice none 0 0, .int .i64 0, .int .i64 0, .int .i64 0, .int .i64 0, .int .i64 0, .int .i64 0, .int .i64 0, .int .i64 0, .int .i64 0, .int .i64 0, .int .i64 0, .int .i64 0, .int .i64 0, .int .i64 0]) (t := 62)
  have S1 : Hid (Below W.heap.size W _) := s1.below
  clear hb s1
  go_wp2_with (refine wpList_st_new rfl 62 (.tmp 11) (.tmp 17) rfl w1 _ #[.int .i64 0, .int .i64 0, .int .i64 0, .int .i64 0, .int .i64 0, .int .i64 0, .int .i64 0, .int .i64 0, .int .i64 0, .int .i64 0, .int .i64 0, .int .i64 0, .slice none 0 0, .slice none 0 0, .int .i64 0, .int .i64 0, .int .i64 0, .int .i64 0, .int .i64 0, .int .i64 0, .int .i64 0, .int .i64 0, .int .i64 0, .int .i64 0, .int .i64 0, .int .i64 0, .int .i64 0, .int .i64 0] rfl rfl (by kernel_rfl) rfl (by simp [Value.oneCell']) ?_)
  exact bodyPost_ret (v := .tuple #[.slice none 0 0, .int .i64 0, .int .i64 E]) (by simp [results, Try.results40, go_sem, *]) rfl ⟨rfl, S1.out⟩
set_option maxRecDepth 100000 in
set_option maxHeartbeats 4000000 in
theorem of_place (h w c lo hi ot : Int) (oa : Option Addr) (on oc : Nat) (O : Nat → Nat → Int) (Z B : Nat → List Int) (W : World) (hL : LRow W oa on oc O Z B) (ch at' : Int) (RL : List (Int × Int × Int)) (Rw : Int) (hR : gtR O h w c lo hi ot on = (0, 0, RL, Rw)) (i : Nat) (x : Addr) (wa : Option Addr) (lw cw : Nat) (ba : Option Addr) (lb cb : Nat) (x0 y0 z0 H V C : Int) (hF : Fnd W oa on O Z B RL i x wa lw cw ba lb cb x0 y0 z0 H V C) (hp : ¬ ((1 ≤ ch ∧ ch ≤ C) ∧ (0 ≤ at' ∧ at' < H * V))) :
    Calls Try.prog 40 #[.agg #[.int .i64 h, .int .i64 w, .int .i64 c, .int .i64 lo, .int .i64 hi, .slice oa on oc, .int .i64 ot], .int .i64 ((i : Int) + 1), .int .i64 ch, .int .i64 at'] W fun e w' => e = .returned (.tuple #[.slice none 0 0, .int .i64 0, .int .i64 3]) ∧ Below W.heap.size W w' := by
  have s0 := (St.start W).new (c := #[.int .i64 h, .int .i64 w, .int .i64 c, .int .i64 lo, .int .i64 hi, .slice oa on oc, .int .i64 ot]) (t := 26)
  have hSit : Hid (Sit (O i 0) (O i 4) (O i 5) (O i 6) (O i 7) (O i 8) (O i 9) (O i 10) (O i 11) x0 y0 z0 H V C lw lb) := hF.2.2.2.2.2.2.2.2.2.1
  have hK : Hid (∀ W', Below W.heap.size W W' → _) := fun W' hb => find_ok h w c lo hi ot oa on oc O Z B W' (hL.below hb) RL Rw hR i x wa lw cw ba lb cb x0 y0 z0 H V C (hF.below hb)
  have hPo : Hid (∀ (w1 : World), _) := fun w1 => tpos_any (O i 0) (O i 1) (O i 2) (O i 3) (O i 4) (O i 5) (O i 6) (O i 7) (O i 8) (O i 9) (O i 10) (O i 11) wa lw cw ba lb cb (O i 14) (O i 15) (O i 16) (O i 17) (O i 18) (O i 19) (O i 20) (O i 21) x0 y0 z0 H V C _ _ (heap_alloc_new w1 _) hSit.out.2.2.1
  obtain ⟨hv, ehv⟩ : ∃ hv, H * V = hv := ⟨_, rfl⟩
  rw [ehv] at hp hPo
  clear hF hR hL ehv
  by_cases p1 : ¬ ch < 1
  rotate_left
  · have p1' : ch < 1 := by omega
    clear p1 hp
    go_enter Try.func40, Try.ntmps40
    go_wp2_with fail
    refine (hK.out _ s0.below).mono ?_
    rintro e w1 ⟨rfl, hb⟩
    have s1 := (s0.call hb).new (c := #[.int .i64 (O i 0), .int .i64 (O i 1), .int .i64 (O i 2), .int .i64 (O i 3), .int .i64 (O i 4), .int .i64 (O i 5), .int .i64 (O i 6), .int .i64 (O i 7), .int .i64 (O i 8), .int .i64 (O i 9), .int .i64 (O i 10), .int .i64 (O i 11), .slice wa lw cw, .slice ba lb cb, .int .i64 (O i 14), .int .i64 (O i 15), .int .i64 (O i 16), .int .i64 (O i 17), .int .i64 (O i 18), .int .i64 (O i 19), .int .i64 (O i 20), .int .i64 (O i 21), .int .i64 x0, .int .i64 y0, .int .i64 z0, .int .i64 H, .int .i64 V, .int .i64 C]) (t := 62)
    have S1 : Hid (Below W.heap.size W _) := s1.below
    clear hb s1
    go_wp2_with (first
      | (refine wpList_st_new rfl 62 (.tmp 11) (.tmp 17) rfl w1 _ #[.int .i64 (O i 0), .int .i64 (O i 1), .int .i64 (O i 2), .int .i64 (O i 3), .int .i64 (O i 4), .int .i64 (O i 5), .int .i64 (O i 6), .int .i64 (O i 7), .int .i64 (O i 8), .int .i64 (O i 9), .int .i64 (O i 10), .int .i64 (O i 11), .slice wa lw cw, .slice ba lb cb, .int .i64 (O i 14), .int .i64 (O i 15), .int .i64 (O i 16), .int .i64 (O i 17), .int .i64 (O i 18), .int .i64 (O i 19), .int .i64 (O i 20), .int .i64 (O i 21), .int .i64 x0, .int .i64 y0, .int .i64 z0, .int .i64 H, .int .i64 V, .int .i64 C] rfl rfl (by kernel_rfl) rfl (by simp [Value.oneCell']) ?_)
      | (go_at_call 56; refine (tchan_any (O i 0) (O i 1) (O i 2) (O i 3) (O i 4) (O i 5) (O i 6) (O i 7) (O i 8) (O i 9) (O i 10) (O i 11) wa lw cw ba lb cb (O i 14) (O i 15) (O i 16) (O i 17) (O i 18) (O i 19) (O i 20) (O i 21) x0 y0 z0 H V C _ _ (heap_alloc_new w1 _)).mono ?_; rintro e w2 ⟨rfl, hw2⟩; have hw3 := hw2.symm; subst hw3; clear hw2)
      | (go_at_call 57; refine (hPo.out w1).mono ?_; rintro e w2 ⟨rfl, n, hw2⟩; have S1 : Hid (Below W.heap.size W w2) := (by rw [hw2]; exact bt S1.out (dbel _ n)); clear hw2))
    exact bodyPost_ret (v := .tuple #[.slice none 0 0, .int .i64 0, .int .i64 3]) (by simp [results, Try.results40, go_sem, *]) rfl ⟨rfl, S1.out⟩
  by_cases p2 : ¬ C < ch
  rotate_left
  · have p2' : C < ch := by omega
    clear p2 hp
    go_enter Try.func40, Try.ntmps40
    go_wp2_with fail
    refine (hK.out _ s0.below).mono ?_
    rintro e w1 ⟨rfl, hb⟩
    have s1 := (s0.call hb).new (c := #[.int .i64 (O i 0), .int .i64 (O i 1), .int .i64 (O i 2), .int .i64 (O i 3), .int .i64 (O i 4), .int .i64 (O i 5), .int .i64 (O i 6), .int .i64 (O i 7), .int .i64 (O i 8), .int .i64 (O i 9), .int .i64 (O i 10), .int .i64 (O i 11), .slice wa lw cw, .slice ba lb cb, .int .i64 (O i 14), .int .i64 (O i 15), .int .i64 (O i 16), .int .i64 (O i 17), .int .i64 (O i 18), .int .i64 (O i 19), .int .i64 (O i 20), .int .i64 (O i 21), .int .i64 x0, .int .i64 y0, .int .i64 z0, .int .i64 H, .int .i64 V, .int .i64 C]) (t := 62)
    have S1 : Hid (Below W.heap.size W _) := s1.below
    clear hb s1
    go_wp2_with (first
      | (refine wpList_st_new rfl 62 (.tmp 11) (.tmp 17) rfl w1 _ #[.int .i64 (O i 0), .int .i64 (O i 1), .int .i64 (O i 2), .int .i64 (O i 3), .int .i64 (O i 4), .int .i64 (O i 5), .int .i64 (O i 6), .int .i64 (O i 7), .int .i64 (O i 8), .int .i64 (O i 9), .int .i64 (O i 10), .int .i64 (O i 11), .slice wa lw cw, .slice ba lb cb, .int .i64 (O i 14), .int .i64 (O i 15), .int .i64 (O i 16), .int .i64 (O i 17), .int .i64 (O i 18), .int .i64 (O i 19), .int .i64 (O i 20), .int .i64 (O i 21), .int .i64 x0, .int .i64 y0, .int .i64 z0, .int .i64 H, .int .i64 V, .int .i64 C] rfl rfl (by kernel_rfl) rfl (by simp [Value.oneCell']) ?_)
      | (go_at_call 56; refine (tchan_any (O i 0) (O i 1) (O i 2) (O i 3) (O i 4) (O i 5) (O i 6) (O i 7) (O i 8) (O i 9) (O i 10) (O i 11) wa lw cw ba lb cb (O i 14) (O i 15) (O i 16) (O i 17) (O i 18) (O i 19) (O i 20) (O i 21) x0 y0 z0 H V C _ _ (heap_alloc_new w1 _)).mono ?_; rintro e w2 ⟨rfl, hw2⟩; have hw3 := hw2.symm; subst hw3; clear hw2)
      | (go_at_call 57; refine (hPo.out w1).mono ?_; rintro e w2 ⟨rfl, n, hw2⟩; have S1 : Hid (Below W.heap.size W w2) := (by rw [hw2]; exact bt S1.out (dbel _ n)); clear hw2))
    exact bodyPost_ret (v := .tuple #[.slice none 0 0, .int .i64 0, .int .i64 3]) (by simp [results, Try.results40, go_sem, *]) rfl ⟨rfl, S1.out⟩
  by_cases p3 : ¬ at' < 0
  rotate_left
  · have p3' : at' < 0 := by omega
    clear p3 hp
    go_enter Try.func40, Try.ntmps40
    go_wp2_with fail
    refine (hK.out _ s0.below).mono ?_
    rintro e w1 ⟨rfl, hb⟩
    have s1 := (s0.call hb).new (c := #[.int .i64 (O i 0), .int .i64 (O i 1), .int .i64 (O i 2), .int .i64 (O i 3), .int .i64 (O i 4), .int .i64 (O i 5), .int .i64 (O i 6), .int .i64 (O i 7), .int .i64 (O i 8), .int .i64 (O i 9), .int .i64 (O i 10), .int .i64 (O i 11), .slice wa lw cw, .slice ba lb cb, .int .i64 (O i 14), .int .i64 (O i 15), .int .i64 (O i 16), .int .i64 (O i 17), .int .i64 (O i 18), .int .i64 (O i 19), .int .i64 (O i 20), .int .i64 (O i 21), .int .i64 x0, .int .i64 y0, .int .i64 z0, .int .i64 H, .int .i64 V, .int .i64 C]) (t := 62)
    have S1 : Hid (Below W.heap.size W _) := s1.below
    clear hb s1
    go_wp2_with (first
      | (refine wpList_st_new rfl 62 (.tmp 11) (.tmp 17) rfl w1 _ #[.int .i64 (O i 0), .int .i64 (O i 1), .int .i64 (O i 2), .int .i64 (O i 3), .int .i64 (O i 4), .int .i64 (O i 5), .int .i64 (O i 6), .int .i64 (O i 7), .int .i64 (O i 8), .int .i64 (O i 9), .int .i64 (O i 10), .int .i64 (O i 11), .slice wa lw cw, .slice ba lb cb, .int .i64 (O i 14), .int .i64 (O i 15), .int .i64 (O i 16), .int .i64 (O i 17), .int .i64 (O i 18), .int .i64 (O i 19), .int .i64 (O i 20), .int .i64 (O i 21), .int .i64 x0, .int .i64 y0, .int .i64 z0, .int .i64 H, .int .i64 V, .int .i64 C] rfl rfl (by kernel_rfl) rfl (by simp [Value.oneCell']) ?_)
      | (go_at_call 56; refine (tchan_any (O i 0) (O i 1) (O i 2) (O i 3) (O i 4) (O i 5) (O i 6) (O i 7) (O i 8) (O i 9) (O i 10) (O i 11) wa lw cw ba lb cb (O i 14) (O i 15) (O i 16) (O i 17) (O i 18) (O i 19) (O i 20) (O i 21) x0 y0 z0 H V C _ _ (heap_alloc_new w1 _)).mono ?_; rintro e w2 ⟨rfl, hw2⟩; have hw3 := hw2.symm; subst hw3; clear hw2)
      | (go_at_call 57; refine (hPo.out w1).mono ?_; rintro e w2 ⟨rfl, n, hw2⟩; have S1 : Hid (Below W.heap.size W w2) := (by rw [hw2]; exact bt S1.out (dbel _ n)); clear hw2))
    exact bodyPost_ret (v := .tuple #[.slice none 0 0, .int .i64 0, .int .i64 3]) (by simp [results, Try.results40, go_sem, *]) rfl ⟨rfl, S1.out⟩
  by_cases p4 : ¬ hv ≤ at'
  rotate_left
  · have p4' : hv ≤ at' := by omega
    clear p4 hp
    go_enter Try.func40, Try.ntmps40
    go_wp2_with fail
    refine (hK.out _ s0.below).mono ?_
    rintro e w1 ⟨rfl, hb⟩
    have s1 := (s0.call hb).new (c := #[.int .i64 (O i 0), .int .i64 (O i 1), .int .i64 (O i 2), .int .i64 (O i 3), .int .i64 (O i 4), .int .i64 (O i 5), .int .i64 (O i 6), .int .i64 (O i 7), .int .i64 (O i 8), .int .i64 (O i 9), .int .i64 (O i 10), .int .i64 (O i 11), .slice wa lw cw, .slice ba lb cb, .int .i64 (O i 14), .int .i64 (O i 15), .int .i64 (O i 16), .int .i64 (O i 17), .int .i64 (O i 18), .int .i64 (O i 19), .int .i64 (O i 20), .int .i64 (O i 21), .int .i64 x0, .int .i64 y0, .int .i64 z0, .int .i64 H, .int .i64 V, .int .i64 C]) (t := 62)
    have S1 : Hid (Below W.heap.size W _) := s1.below
    clear hb s1
    go_wp2_with (first
      | (refine wpList_st_new rfl 62 (.tmp 11) (.tmp 17) rfl w1 _ #[.int .i64 (O i 0), .int .i64 (O i 1), .int .i64 (O i 2), .int .i64 (O i 3), .int .i64 (O i 4), .int .i64 (O i 5), .int .i64 (O i 6), .int .i64 (O i 7), .int .i64 (O i 8), .int .i64 (O i 9), .int .i64 (O i 10), .int .i64 (O i 11), .slice wa lw cw, .slice ba lb cb, .int .i64 (O i 14), .int .i64 (O i 15), .int .i64 (O i 16), .int .i64 (O i 17), .int .i64 (O i 18), .int .i64 (O i 19), .int .i64 (O i 20), .int .i64 (O i 21), .int .i64 x0, .int .i64 y0, .int .i64 z0, .int .i64 H, .int .i64 V, .int .i64 C] rfl rfl (by kernel_rfl) rfl (by simp [Value.oneCell']) ?_)
      | (go_at_call 56; refine (tchan_any (O i 0) (O i 1) (O i 2) (O i 3) (O i 4) (O i 5) (O i 6) (O i 7) (O i 8) (O i 9) (O i 10) (O i 11) wa lw cw ba lb cb (O i 14) (O i 15) (O i 16) (O i 17) (O i 18) (O i 19) (O i 20) (O i 21) x0 y0 z0 H V C _ _ (heap_alloc_new w1 _)).mono ?_; rintro e w2 ⟨rfl, hw2⟩; have hw3 := hw2.symm; subst hw3; clear hw2)
      | (go_at_call 57; refine (hPo.out w1).mono ?_; rintro e w2 ⟨rfl, n, hw2⟩; have S1 : Hid (Below W.heap.size W w2) := (by rw [hw2]; exact bt S1.out (dbel _ n)); clear hw2))
    exact bodyPost_ret (v := .tuple #[.slice none 0 0, .int .i64 0, .int .i64 3]) (by simp [results, Try.results40, go_sem, *]) rfl ⟨rfl, S1.out⟩
  exact absurd ⟨by omega, by omega⟩ hp
set_option maxRecDepth 100000 in
set_option maxHeartbeats 4000000 in
theorem of_ok (h w c lo hi ot : Int) (oa : Option Addr) (on oc : Nat) (O : Nat → Nat → Int) (Z B : Nat → List Int) (W : World) (hL : LRow W oa on oc O Z B) (ch at' : Int) (RL : List (Int × Int × Int)) (Rw : Int) (hR : gtR O h w c lo hi ot on = (0, 0, RL, Rw)) (i : Nat) (x : Addr) (wa : Option Addr) (lw cw : Nat) (ba : Option Addr) (lb cb : Nat) (x0 y0 z0 H V C : Int) (hF : Fnd W oa on O Z B RL i x wa lw cw ba lb cb x0 y0 z0 H V C) (hch : 1 ≤ ch ∧ ch ≤ C) (hat : 0 ≤ at' ∧ at' < H * V) :
    Calls Try.prog 40 #[.agg #[.int .i64 h, .int .i64 w, .int .i64 c, .int .i64 lo, .int .i64 hi, .slice oa on oc, .int .i64 ot], .int .i64 ((i : Int) + 1), .int .i64 ch, .int .i64 at'] W fun e w' => (∃ v, e = .returned (.tuple #[v, .int .i64 (biA (O i 0) ch (B i)), .int .i64 0]) ∧ OTm w' W.heap.size v (siL (O i 0) (O i 4) (O i 5) (O i 6) (O i 7) (O i 8) (O i 9) (O i 10) (O i 11) x0 y0 z0 ch at' (Z i))) ∧ Below W.heap.size W w' := by
  have s0 := (St.start W).new (c := #[.int .i64 h, .int .i64 w, .int .i64 c, .int .i64 lo, .int .i64 hi, .slice oa on oc, .int .i64 ot]) (t := 26)
  have hSit : Hid (Sit (O i 0) (O i 4) (O i 5) (O i 6) (O i 7) (O i 8) (O i 9) (O i 10) (O i 11) x0 y0 z0 H V C lw lb) := hF.2.2.2.2.2.2.2.2.2.1
  have hrZ : Hid (IRow .i16 W wa lw cw (Z i)) := hF.2.2.2.2.2.1
  have hrB : Hid (IRow .i32 W ba lb cb (B i)) := hF.2.2.2.2.2.2.1
  have hK : Hid (∀ W', Below W.heap.size W W' → _) := fun W' hb => find_ok h w c lo hi ot oa on oc O Z B W' (hL.below hb) RL Rw hR i x wa lw cw ba lb cb x0 y0 z0 H V C (hF.below hb)
  have hPo : Hid (∀ (w1 : World), _) := fun w1 => tpos_any (O i 0) (O i 1) (O i 2) (O i 3) (O i 4) (O i 5) (O i 6) (O i 7) (O i 8) (O i 9) (O i 10) (O i 11) wa lw cw ba lb cb (O i 14) (O i 15) (O i 16) (O i 17) (O i 18) (O i 19) (O i 20) (O i 21) x0 y0 z0 H V C _ _ (heap_alloc_new w1 _) hSit.out.2.2.1
  have hTe : Hid (∀ (w' : World) (r : Nat), w'.heap[r]? = some (.cells #[.int .i64 (O i 0), .int .i64 (O i 1), .int .i64 (O i 2), .int .i64 (O i 3), .int .i64 (O i 4), .int .i64 (O i 5), .int .i64 (O i 6), .int .i64 (O i 7), .int .i64 (O i 8), .int .i64 (O i 9), .int .i64 (O i 10), .int .i64 (O i 11), .slice wa lw cw, .slice ba lb cb, .int .i64 (O i 14), .int .i64 (O i 15), .int .i64 (O i 16), .int .i64 (O i 17), .int .i64 (O i 18), .int .i64 (O i 19), .int .i64 (O i 20), .int .i64 (O i 21), .int .i64 x0, .int .i64 y0, .int .i64 z0, .int .i64 H, .int .i64 V, .int .i64 C] 62 (0, 0)) → Below W.heap.size W w' → _) := fun w' r hr hb => terms_any (O i 0) (O i 1) (O i 2) (O i 3) (O i 4) (O i 5) (O i 6) (O i 7) (O i 8) (O i 9) (O i 10) (O i 11) wa lw cw ba lb cb (O i 14) (O i 15) (O i 16) (O i 17) (O i 18) (O i 19) (O i 20) (O i 21) x0 y0 z0 H V C r w' hr (Z i) (hrZ.out.below hb) hSit.out ch at' hch hat
  have hBi : Hid (∀ (w' : World) (r : Nat), w'.heap[r]? = some (.cells #[.int .i64 (O i 0), .int .i64 (O i 1), .int .i64 (O i 2), .int .i64 (O i 3), .int .i64 (O i 4), .int .i64 (O i 5), .int .i64 (O i 6), .int .i64 (O i 7), .int .i64 (O i 8), .int .i64 (O i 9), .int .i64 (O i 10), .int .i64 (O i 11), .slice wa lw cw, .slice ba lb cb, .int .i64 (O i 14), .int .i64 (O i 15), .int .i64 (O i 16), .int .i64 (O i 17), .int .i64 (O i 18), .int .i64 (O i 19), .int .i64 (O i 20), .int .i64 (O i 21), .int .i64 x0, .int .i64 y0, .int .i64 z0, .int .i64 H, .int .i64 V, .int .i64 C] 62 (0, 0)) → Below W.heap.size W w' → _) := fun w' r hr hb => tbias_any (O i 0) (O i 1) (O i 2) (O i 3) (O i 4) (O i 5) (O i 6) (O i 7) (O i 8) (O i 9) (O i 10) (O i 11) wa lw cw ba lb cb (O i 14) (O i 15) (O i 16) (O i 17) (O i 18) (O i 19) (O i 20) (O i 21) x0 y0 z0 H V C r w' hr (B i) (hrB.out.below hb) hSit.out ch hch
  obtain ⟨hv, ehv⟩ : ∃ hv, H * V = hv := ⟨_, rfl⟩
  rw [ehv] at hat hPo
  obtain ⟨TL, hTL⟩ : ∃ TL, siL (O i 0) (O i 4) (O i 5) (O i 6) (O i 7) (O i 8) (O i 9) (O i 10) (O i 11) x0 y0 z0 ch at' (Z i) = TL := ⟨_, rfl⟩
  obtain ⟨bi, hbi⟩ : ∃ bi, biA (O i 0) ch (B i) = bi := ⟨_, rfl⟩
  rw [hTL] at hTe ⊢
  rw [hbi] at hBi ⊢
  clear hF hR hL ehv hTL hbi hrZ hrB
  go_enter Try.func40, Try.ntmps40
  go_wp2_with fail
  refine (hK.out _ s0.below).mono ?_
  rintro e w1 ⟨rfl, hb⟩
  have s1 := (s0.call hb).new (c := #[.int .i64 (O i 0), .int .i64 (O i 1), .int .i64 (O i 2), .int .i64 (O i 3), .int .i64 (O i 4), .int .i64 (O i 5), .int .i64 (O i 6), .int .i64 (O i 7), .int .i64 (O i 8), .int .i64 (O i 9), .int .i64 (O i 10), .int .i64 (O i 11), .slice wa lw cw, .slice ba lb cb, .int .i64 (O i 14), .int .i64 (O i 15), .int .i64 (O i 16), .int .i64 (O i 17), .int .i64 (O i 18), .int .i64 (O i 19), .int .i64 (O i 20), .int .i64 (O i 21), .int .i64 x0, .int .i64 y0, .int .i64 z0, .int .i64 H, .int .i64 V, .int .i64 C]) (t := 62)
  have S1 : Hid (St W _ _) := s1
  clear hb s1
  go_wp2_with (first
    | (refine wpList_st_new rfl 62 (.tmp 11) (.tmp 17) rfl w1 _ #[.int .i64 (O i 0), .int .i64 (O i 1), .int .i64 (O i 2), .int .i64 (O i 3), .int .i64 (O i 4), .int .i64 (O i 5), .int .i64 (O i 6), .int .i64 (O i 7), .int .i64 (O i 8), .int .i64 (O i 9), .int .i64 (O i 10), .int .i64 (O i 11), .slice wa lw cw, .slice ba lb cb, .int .i64 (O i 14), .int .i64 (O i 15), .int .i64 (O i 16), .int .i64 (O i 17), .int .i64 (O i 18), .int .i64 (O i 19), .int .i64 (O i 20), .int .i64 (O i 21), .int .i64 x0, .int .i64 y0, .int .i64 z0, .int .i64 H, .int .i64 V, .int .i64 C] rfl rfl (by kernel_rfl) rfl (by simp [Value.oneCell']) ?_)
    | (go_at_call 56; refine (tchan_any (O i 0) (O i 1) (O i 2) (O i 3) (O i 4) (O i 5) (O i 6) (O i 7) (O i 8) (O i 9) (O i 10) (O i 11) wa lw cw ba lb cb (O i 14) (O i 15) (O i 16) (O i 17) (O i 18) (O i 19) (O i 20) (O i 21) x0 y0 z0 H V C _ _ (heap_alloc_new w1 _)).mono ?_; rintro e w2 ⟨rfl, hw2⟩; have hw3 := hw2.symm; subst hw3; clear hw2)
    | (go_at_call 57; refine (hPo.out w1).mono ?_; rintro e w2 ⟨rfl, n, hw2⟩; have S2 : Hid (St W w2 _) := (by rw [hw2]; exact S1.out.call (dbel _ n)); clear hw2 S1))
  refine (hTe.out _ _ S2.out.h1 S2.out.below).mono ?_
  rintro e w3 ⟨⟨v, rfl, hO⟩, hb3⟩
  have S3 : Hid (St W w3 _) := S2.out.call hb3
  have hz2 := S2.out.below.size
  have HO : Hid (OTm w3 W.heap.size v TL) := hO.base hz2
  obtain ⟨va, vc, rfl⟩ := hO.slice
  clear hO hb3 S2
  go_wp2_with fail
  refine (hBi.out _ _ S3.out.h1 S3.out.below).mono ?_
  rintro e w4 ⟨rfl, hw4⟩
  have hw5 := hw4.symm
  subst hw5
  clear hw4
  go_wp2
  exact bodyPost_ret (v := .tuple #[.slice va TL.length vc, .int .i64 bi, .int .i64 0]) (by simp [results, Try.results40, go_sem, *]) rfl ⟨⟨_, rfl, HO.out⟩, S3.out.below⟩
end Go.Proofs.Ytgiohlcipndakaa

/- What find of package bound returns. -/
namespace Go.Proofs.Ytgiohlcipndakaa
open Go.ChangeShapes Go.WideShapes Go.ChangeAt Go.RowKit
set_option linter.unusedVariables false
theorem St.rowset {w0 w : World} {B : Nat} {c c' : Array Value} {t : TypeId} {l : List (Nat × Array Value × TypeId)} (h : St w0 w ((B, c, t) :: l)) (hl : ∀ x ∈ l, x.1 ≠ B) : St w0 (w.setRow B c') ((B, c', t) :: l) := by
  refine ⟨below_setRow h.1 (h.2 _ List.mem_cons_self).2 c', fun x hx => ?_⟩
  rcases List.mem_cons.1 hx with rfl | hx
  · exact ⟨setRow_heap w _ c c' t (0, 0) h.h1, (h.2 _ List.mem_cons_self).2⟩
  · exact ⟨(setRow_other _ _ _ _ (hl x hx)).trans (h.2 x (List.mem_cons_of_mem _ hx)).1, (h.2 x (List.mem_cons_of_mem _ hx)).2⟩
set_option maxRecDepth 100000 in
set_option maxHeartbeats 4000000 in
theorem bfind_e (h w c lo hi ot op ch : Int) (oa : Option Addr) (on oc : Nat) (W : World) (slo shi E : Int) (hE : E ≠ 0)
    (hO : ∀ W', Below W.heap.size W W' → Calls Try.prog 40 #[.agg #[.int .i64 h, .int .i64 w, .int .i64 c, .int .i64 lo, .int .i64 hi, .slice oa on oc, .int .i64 ot], .int .i64 op, .int .i64 ch, .int .i64 0] W' fun e w' => e = .returned (.tuple #[.slice none 0 0, .int .i64 0, .int .i64 E]) ∧ Below W'.heap.size W' w') :
    Calls Try.prog 23 #[.agg #[.int .i64 h, .int .i64 w, .int .i64 c, .int .i64 lo, .int .i64 hi, .slice oa on oc, .int .i64 ot], .int .i64 op, .int .i64 ch, .agg #[.int .i64 slo, .int .i64 shi]] W fun e w' => e = .returned (.tuple #[.agg #[.int .i64 0, .int .i64 0, .int .i64 0, .int .i64 0, .int .i64 0, .int .i64 0, .int .i64 0, .int .i64 0, .int .i64 0, .int .i64 0, .int .i64 0, .int .i64 0, .int .i64 0, .slice none 0 0, .int .i64 0], .int .i64 E]) ∧ Below W.heap.size W w' := by
  have HO : Hid (∀ W', Below W.heap.size W W' → _) := hO
  have hE' : (E == 0) = false := by simp [hE]
  have s0 := (((St.start W).new (c := #[.int .i64 h, .int .i64 w, .int .i64 c, .int .i64 lo, .int .i64 hi, .slice oa on oc, .int .i64 ot]) (t := 26)).new (c := #[.int .i64 slo, .int .i64 shi]) (t := 28)).new (c := #[.int .i64 0, .int .i64 0, .int .i64 0, .int .i64 0, .int .i64 0, .int .i64 0, .int .i64 0, .int .i64 0, .int .i64 0, .int .i64 0, .int .i64 0, .int .i64 0, .int .i64 0, .slice none 0 0, .int .i64 0]) (t := 67)
  simp only [World.size_alloc] at s0
  clear hO
  go_enter Try.func23, Try.ntmps23
  go_wp2_with fail
  refine (HO.out _ s0.below).mono ?_
  rintro e w1 ⟨rfl, hb⟩
  have s1 := s0.call hb
  have S1 : Hid (St W w1 _) := s1
  clear s1 s0 hb HO
  go_wp2_with (refine wpList_store_row rfl 67 (.tmp 8) (.tmp 28) rfl (W.heap.size + 1 + 1) #[.int .i64 0, .int .i64 0, .int .i64 0, .int .i64 0, .int .i64 0, .int .i64 0, .int .i64 0, .int .i64 0, .int .i64 0, .int .i64 0, .int .i64 0, .int .i64 0, .int .i64 0, .slice none 0 0, .int .i64 0] rfl rfl 67 #[.int .i64 0, .int .i64 0, .int .i64 0, .int .i64 0, .int .i64 0, .int .i64 0, .int .i64 0, .int .i64 0, .int .i64 0, .int .i64 0, .int .i64 0, .int .i64 0, .int .i64 0, .slice none 0 0, .int .i64 0] S1.out.h1 (by kernel_rfl) rfl (by simp [Value.oneCell']) ?_; have hZ' := setRow_heap _ (W.heap.size + 1 + 1) #[.int .i64 0, .int .i64 0, .int .i64 0, .int .i64 0, .int .i64 0, .int .i64 0, .int .i64 0, .int .i64 0, .int .i64 0, .int .i64 0, .int .i64 0, .int .i64 0, .int .i64 0, .slice none 0 0, .int .i64 0] #[.int .i64 0, .int .i64 0, .int .i64 0, .int .i64 0, .int .i64 0, .int .i64 0, .int .i64 0, .int .i64 0, .int .i64 0, .int .i64 0, .int .i64 0, .int .i64 0, .int .i64 0, .slice none 0 0, .int .i64 0] 67 (0, 0) S1.out.h1; have hB' : Hid (Below W.heap.size W (_ : World)) := below_setRow S1.out.below (show W.heap.size ≤ W.heap.size + 1 + 1 by omega) #[.int .i64 0, .int .i64 0, .int .i64 0, .int .i64 0, .int .i64 0, .int .i64 0, .int .i64 0, .int .i64 0, .int .i64 0, .int .i64 0, .int .i64 0, .int .i64 0, .int .i64 0, .slice none 0 0, .int .i64 0]; generalize World.setRow _ _ _ = w5 at hZ' hB' ⊢)
  exact bodyPost_ret (results_row_tmp Try.results23 _ _ (W.heap.size + 1 + 1) 67 _ _ (.int .i64 E) rfl hZ' Try.underlying67 rfl (by kernel_rfl) rfl) rfl ⟨rfl, hB'.out⟩
set_option maxRecDepth 100000 in
set_option maxHeartbeats 4000000 in
theorem bfind_30 (h w c lo hi ot op ch : Int) (oa : Option Addr) (on oc : Nat) (W : World) (slo shi bi : Int) (TL : List (Int × Int)) (hs : vbB slo shi = false)
    (hO : ∀ W', Below W.heap.size W W' → Calls Try.prog 40 #[.agg #[.int .i64 h, .int .i64 w, .int .i64 c, .int .i64 lo, .int .i64 hi, .slice oa on oc, .int .i64 ot], .int .i64 op, .int .i64 ch, .int .i64 0] W' fun e w' => (∃ v, e = .returned (.tuple #[v, .int .i64 bi, .int .i64 0]) ∧ OTm w' W'.heap.size v TL) ∧ Below W'.heap.size W' w') :
    Calls Try.prog 23 #[.agg #[.int .i64 h, .int .i64 w, .int .i64 c, .int .i64 lo, .int .i64 hi, .slice oa on oc, .int .i64 ot], .int .i64 op, .int .i64 ch, .agg #[.int .i64 slo, .int .i64 shi]] W fun e w' => e = .returned (.tuple #[.agg #[.int .i64 0, .int .i64 0, .int .i64 0, .int .i64 0, .int .i64 0, .int .i64 0, .int .i64 0, .int .i64 0, .int .i64 0, .int .i64 0, .int .i64 0, .int .i64 0, .int .i64 0, .slice none 0 0, .int .i64 0], .int .i64 30]) ∧ Below W.heap.size W w' := by
  have HO : Hid (∀ W', Below W.heap.size W W' → _) := hO
  have HV : Hid (∀ W', _) := fun W' => bofv_any slo shi W'
  rw [hs] at HV
  have s0 := (((St.start W).new (c := #[.int .i64 h, .int .i64 w, .int .i64 c, .int .i64 lo, .int .i64 hi, .slice oa on oc, .int .i64 ot]) (t := 26)).new (c := #[.int .i64 slo, .int .i64 shi]) (t := 28)).new (c := #[.int .i64 0, .int .i64 0, .int .i64 0, .int .i64 0, .int .i64 0, .int .i64 0, .int .i64 0, .int .i64 0, .int .i64 0, .int .i64 0, .int .i64 0, .int .i64 0, .int .i64 0, .slice none 0 0, .int .i64 0]) (t := 67)
  simp only [World.size_alloc] at s0
  clear hO hs
  go_enter Try.func23, Try.ntmps23
  go_wp2_with fail
  refine (HO.out _ s0.below).mono ?_
  rintro e w1 ⟨⟨v, rfl, ho⟩, hb⟩
  have s1 := s0.call hb
  obtain ⟨c1, f1, z1, c2, f2, z2, -⟩ := s1.rules
  have S1 : Hid (St W w1 _) := s1
  clear s1 s0 hb HO ho c1 f1
  go_wp2_with fail
  refine (HV.out _).mono ?_
  rintro e w2 ⟨rfl, hb⟩
  have S2 : Hid (St W w2 _) := S1.out.call hb
  clear S1 hb HV c2 f2 z1 z2
  go_wp2_with (refine wpList_store_row rfl 67 (.tmp 8) (.tmp 33) rfl (W.heap.size + 1 + 1) #[.int .i64 0, .int .i64 0, .int .i64 0, .int .i64 0, .int .i64 0, .int .i64 0, .int .i64 0, .int .i64 0, .int .i64 0, .int .i64 0, .int .i64 0, .int .i64 0, .int .i64 0, .slice none 0 0, .int .i64 0] rfl rfl 67 #[.int .i64 0, .int .i64 0, .int .i64 0, .int .i64 0, .int .i64 0, .int .i64 0, .int .i64 0, .int .i64 0, .int .i64 0, .int .i64 0, .int .i64 0, .int .i64 0, .int .i64 0, .slice none 0 0, .int .i64 0] S2.out.h1 (by kernel_rfl) rfl (by simp [Value.oneCell']) ?_; have hZ' := setRow_heap _ (W.heap.size + 1 + 1) #[.int .i64 0, .int .i64 0, .int .i64 0, .int .i64 0, .int .i64 0, .int .i64 0, .int .i64 0, .int .i64 0, .int .i64 0, .int .i64 0, .int .i64 0, .int .i64 0, .int .i64 0, .slice none 0 0, .int .i64 0] #[.int .i64 0, .int .i64 0, .int .i64 0, .int .i64 0, .int .i64 0, .int .i64 0, .int .i64 0, .int .i64 0, .int .i64 0, .int .i64 0, .int .i64 0, .int .i64 0, .int .i64 0, .slice none 0 0, .int .i64 0] 67 (0, 0) S2.out.h1; have hB' : Hid (Below W.heap.size W (_ : World)) := below_setRow S2.out.below (show W.heap.size ≤ W.heap.size + 1 + 1 by omega) #[.int .i64 0, .int .i64 0, .int .i64 0, .int .i64 0, .int .i64 0, .int .i64 0, .int .i64 0, .int .i64 0, .int .i64 0, .int .i64 0, .int .i64 0, .int .i64 0, .int .i64 0, .slice none 0 0, .int .i64 0]; generalize World.setRow _ _ _ = w5 at hZ' hB' ⊢)
  exact bodyPost_ret (results_row_tmp Try.results23 _ _ (W.heap.size + 1 + 1) 67 _ _ (.int .i64 30) rfl hZ' Try.underlying67 rfl (by kernel_rfl) rfl) rfl ⟨rfl, hB'.out⟩
end Go.Proofs.Ytgiohlcipndakaa

/- Choose of package depth, of what it asks. -/
namespace Go.Proofs.Ytgiohlcipndakaa
open Go.ChangeShapes Go.WideShapes Go.ChangeAt Go.RowKit
set_option linter.unusedVariables false
theorem St.six {w0 w : World} {B : Nat} {c0 c1 c2 c3 c4 c5 u0 u1 u2 u3 u4 u5 : Value} {t : TypeId} {l : List (Nat × Array Value × TypeId)} (h : St w0 w ((B, #[c0, c1, c2, c3, c4, c5], t) :: l)) (hl : ∀ x ∈ l, x.1 ≠ B) :
    St w0 ((((((w.setCell ⟨B, 0, none⟩ u0).setCell ⟨B, 1, none⟩ u1).setCell ⟨B, 2, none⟩ u2).setCell ⟨B, 3, none⟩ u3).setCell ⟨B, 4, none⟩ u4).setCell ⟨B, 5, none⟩ u5) ((B, #[u0, u1, u2, u3, u4, u5], t) :: l) :=
  (((((h.set hl (i := 0) (v := u0)).set hl (i := 1) (v := u1)).set hl (i := 2) (v := u2)).set hl (i := 3) (v := u3)).set hl (i := 4) (v := u4)).set hl (i := 5) (v := u5)
theorem regionN {P : Program} {ops : Array Oper} {Q : Exit → Act → World → Prop} {id : Nat} {a : Act} {w : World} (C : World → Prop) (M : Act → Act → World → Prop) (hm : P.follows .mixedOrders = true) (g : wpAnyC Fence.wide 3 P .any ops C (Qm (M a)) ops.size (Array.replicate ops.size false) a w.drew) (h : ∀ a' w, M a a' w → Q .normal a' w) : (Code.region id ops true).wp P Q a w :=
  regionM C (M a) hm g h
set_option maxRecDepth 100000 in
set_option maxHeartbeats 4000000 in
theorem dcho_e (h w c lo hi ot op ch : Int) (oa : Option Addr) (on oc : Nat) (W : World) (slo shi : Int) (R1 R2 E : Int) (h0 : E ≠ 0) (hR : ∀ W', Below W.heap.size W W' → Calls Try.prog 31 #[.agg #[.int .i64 h, .int .i64 w, .int .i64 c, .int .i64 lo, .int .i64 hi, .slice oa on oc, .int .i64 ot], .int .i64 op, .int .i64 ch, .agg #[.int .i64 slo, .int .i64 shi]] W' fun e w' => e = .returned (.tuple #[.agg #[.int .i64 R1, .int .i64 R2], .int .i64 E]) ∧ Below W'.heap.size W' w') :
    Calls Try.prog 13 #[.agg #[.int .i64 h, .int .i64 w, .int .i64 c, .int .i64 lo, .int .i64 hi, .slice oa on oc, .int .i64 ot], .int .i64 op, .int .i64 ch, .agg #[.int .i64 slo, .int .i64 shi]] W fun e w' => e = .returned (.tuple #[.agg #[.int .i64 0, .int .i64 0, .int .i64 0, .int .i64 0, .int .i64 0, .int .i64 0], .int .i64 E]) ∧ Below W.heap.size W w' := by
  have HR : Hid (∀ W', Below W.heap.size W W' → _) := hR
  have s0 := (((St.start W).new (c := #[.int .i64 h, .int .i64 w, .int .i64 c, .int .i64 lo, .int .i64 hi, .slice oa on oc, .int .i64 ot]) (t := 26)).new (c := #[.int .i64 slo, .int .i64 shi]) (t := 28)).new (c := #[.int .i64 0, .int .i64 0, .int .i64 0, .int .i64 0, .int .i64 0, .int .i64 0]) (t := 30)
  simp only [World.size_alloc] at s0
  clear hR
  have hE' : (E == 0) = false := by simp [h0]
  go_enter Try.func13, Try.ntmps13
  go_wp2_with fail
  refine (HR.out _ s0.below).mono ?_
  rintro e w1 ⟨rfl, hb⟩
  have s1 := (s0.call hb).new (c := #[.int .i64 R1, .int .i64 R2]) (t := 28)
  clear hb s0 HR
  obtain ⟨c1, f1, z1, c2, f2, z2, -⟩ := s1.rules
  have s2 := s1.tail.six (u0 := .int .i64 0) (u1 := .int .i64 0) (u2 := .int .i64 0) (u3 := .int .i64 0) (u4 := .int .i64 0) (u5 := .int .i64 0) (by simp; omega)
  obtain ⟨cF, -⟩ := s2.rules
  have HB : Hid (Below W.heap.size W _) := s2.below
  clear s1 s2
  go_wp2
  exact bodyPost_ret (v := .tuple #[.agg #[.int .i64 0, .int .i64 0, .int .i64 0, .int .i64 0, .int .i64 0, .int .i64 0], .int .i64 E]) (by simp [results, Try.results13, go_sem, cF]) rfl ⟨rfl, HB.out⟩
set_option maxRecDepth 100000 in
set_option maxHeartbeats 4000000 in
theorem dcho_n (h w c lo hi ot op ch : Int) (oa : Option Addr) (on oc : Nat) (W : World) (slo shi : Int) (R1 R2 E : Int) (h0 : E = 0) (hR : ∀ W', Below W.heap.size W W' → Calls Try.prog 31 #[.agg #[.int .i64 h, .int .i64 w, .int .i64 c, .int .i64 lo, .int .i64 hi, .slice oa on oc, .int .i64 ot], .int .i64 op, .int .i64 ch, .agg #[.int .i64 slo, .int .i64 shi]] W' fun e w' => e = .returned (.tuple #[.agg #[.int .i64 R1, .int .i64 R2], .int .i64 E]) ∧ Below W'.heap.size W' w') (hn : wiB (-2147483648) 2147483647 R1 R2 = false) :
    Calls Try.prog 13 #[.agg #[.int .i64 h, .int .i64 w, .int .i64 c, .int .i64 lo, .int .i64 hi, .slice oa on oc, .int .i64 ot], .int .i64 op, .int .i64 ch, .agg #[.int .i64 slo, .int .i64 shi]] W fun e w' => e = .returned (.tuple #[.agg #[.int .i64 0, .int .i64 0, .int .i64 0, .int .i64 0, .int .i64 0, .int .i64 0], .int .i64 154]) ∧ Below W.heap.size W w' := by
  subst h0
  have HR : Hid (∀ W', Below W.heap.size W W' → _) := hR
  have HW : Hid (∀ w, _) := fun w => dwit_any (-2147483648) 2147483647 R1 R2 w
  have H6 : Hid (∀ w, _) := fun w => d32_any w
  rw [hn] at HW
  have s0 := (((St.start W).new (c := #[.int .i64 h, .int .i64 w, .int .i64 c, .int .i64 lo, .int .i64 hi, .slice oa on oc, .int .i64 ot]) (t := 26)).new (c := #[.int .i64 slo, .int .i64 shi]) (t := 28)).new (c := #[.int .i64 0, .int .i64 0, .int .i64 0, .int .i64 0, .int .i64 0, .int .i64 0]) (t := 30)
  simp only [World.size_alloc] at s0
  clear hR hn
  go_enter Try.func13, Try.ntmps13
  go_wp2_with fail
  refine (HR.out _ s0.below).mono ?_
  rintro e w1 ⟨rfl, hb⟩
  have s1 := (s0.call hb).new (c := #[.int .i64 R1, .int .i64 R2]) (t := 28)
  clear hb s0 HR
  go_wp2_with fail
  obtain ⟨c1, g1, c2, g2, c3, g3, c4, g4, -⟩ := rulesQ_st s1
  have hne := Nonempty.intro (Wd.mk _ s1)
  refine region_held s1 (by kernel_rfl) (by kernel_rfl) ?_
  repeat (first
    | (go_big_quiet_step ((go_at_call 32; exact held_of (H6.out _))))
    | (go_big_quiet_step ((go_at_call 16; exact held_of (HW.out _)))))
  refine wpQuiet_nil ?_
  intro _ hw'
  obtain ⟨nq, rfl⟩ := hw'
  have s8 := nq.h
  obtain ⟨w8, hw8⟩ : ∃ w, nq.w = w := ⟨_, rfl⟩
  rw [hw8] at s8 ⊢
  clear c1 g1 c2 g2 c3 g3 c4 g4 hne s1 hw8
  obtain ⟨c1, f1, z1, c2, f2, z2, -⟩ := s8.rules
  have s2 := s8.tail.six (u0 := .int .i64 0) (u1 := .int .i64 0) (u2 := .int .i64 0) (u3 := .int .i64 0) (u4 := .int .i64 0) (u5 := .int .i64 0) (by simp; omega)
  obtain ⟨cF, -⟩ := s2.rules
  have HB : Hid (Below W.heap.size W _) := s2.below
  clear s8 s2
  go_wp2
  exact bodyPost_ret (v := .tuple #[.agg #[.int .i64 0, .int .i64 0, .int .i64 0, .int .i64 0, .int .i64 0, .int .i64 0], .int .i64 154]) (by simp [results, Try.results13, go_sem, cF]) rfl ⟨rfl, HB.out⟩
set_option maxRecDepth 100000 in
set_option maxHeartbeats 8000000 in
theorem dcho_y (h w c lo hi ot op ch : Int) (x : Addr) (on oc : Nat) (W : World) (slo shi : Int) (R1 R2 P1 P2 T1 T2 : Int) (hR : ∀ W', Below W.heap.size W W' → Calls Try.prog 31 #[.agg #[.int .i64 h, .int .i64 w, .int .i64 c, .int .i64 lo, .int .i64 hi, .slice (some x) on oc, .int .i64 ot], .int .i64 op, .int .i64 ch, .agg #[.int .i64 slo, .int .i64 shi]] W' fun e w' => e = .returned (.tuple #[.agg #[.int .i64 R1, .int .i64 R2], .int .i64 0]) ∧ Below W'.heap.size W' w') (hn : wiB (-2147483648) 2147483647 R1 R2 = true) (i : Nat) (hi0 : i < on) (hio : op = (i : Int) + 1) (hon : on ≤ 1000000) (k a b m kh kw sh sw tp lf bt rt : Int) (wa : Option Addr) (lw wc : Nat) (ba : Option Addr) (lb bc : Nat) (sm ss um us z p l0 h0 : Int) (hc : ∀ (q : Nat) (v : Value), (#[.int .i64 k, .int .i64 a, .int .i64 b, .int .i64 m, .int .i64 kh, .int .i64 kw, .int .i64 sh, .int .i64 sw, .int .i64 tp, .int .i64 lf, .int .i64 bt, .int .i64 rt, .slice wa lw wc, .slice ba lb bc, .int .i64 sm, .int .i64 ss, .int .i64 um, .int .i64 us, .int .i64 z, .int .i64 p, .int .i64 l0, .int .i64 h0]).toList[q]? = some v → W.cell? ((x.add (i * 22)).add q) = some v) (N K : Nat) (hN : N ≤ 512) (hK : K ≤ 512)
    (hLn : ∀ W', Calls Try.prog 19 #[.agg #[.int .i64 k, .int .i64 a, .int .i64 b, .int .i64 m, .int .i64 kh, .int .i64 kw, .int .i64 sh, .int .i64 sw, .int .i64 tp, .int .i64 lf, .int .i64 bt, .int .i64 rt, .slice wa lw wc, .slice ba lb bc, .int .i64 sm, .int .i64 ss, .int .i64 um, .int .i64 us, .int .i64 z, .int .i64 p, .int .i64 l0, .int .i64 h0]] W' fun e w' => e = .returned (.int .i64 (N : Int)) ∧ Below W'.heap.size W' w')
    (hM : ∀ W', Below W.heap.size W W' → Calls Try.prog 7 #[.agg #[.int .i64 h, .int .i64 w, .int .i64 c, .int .i64 lo, .int .i64 hi, .slice (some x) on oc, .int .i64 ot], .int .i64 op, .int .i64 ch, .agg #[.int .i64 slo, .int .i64 shi]] W' fun e w' => e = .returned (.tuple #[.int .i64 (K : Int), .int .i64 0]) ∧ Below W'.heap.size W' w') (hP : 0 < K → ∀ W', Below W.heap.size W W' → Calls Try.prog 12 #[.agg #[.int .i64 h, .int .i64 w, .int .i64 c, .int .i64 lo, .int .i64 hi, .slice (some x) on oc, .int .i64 ot], .int .i64 op, .int .i64 ch, .agg #[.int .i64 slo, .int .i64 shi], .int .i64 (K : Int)] W' fun e w' => e = .returned (.tuple #[.agg #[.int .i64 P1, .int .i64 P2], .int .i64 0]) ∧ Below W'.heap.size W' w') (hT : ∀ W', Below W.heap.size W W' → Calls Try.prog 33 #[.agg #[.int .i64 h, .int .i64 w, .int .i64 c, .int .i64 lo, .int .i64 hi, .slice (some x) on oc, .int .i64 ot], .int .i64 op, .int .i64 ch, .agg #[.int .i64 slo, .int .i64 shi]] W' fun e w' => e = .returned (.tuple #[.agg #[.int .i64 T1, .int .i64 T2], .int .i64 0]) ∧ Below W'.heap.size W' w') :
    Calls Try.prog 13 #[.agg #[.int .i64 h, .int .i64 w, .int .i64 c, .int .i64 lo, .int .i64 hi, .slice (some x) on oc, .int .i64 ot], .int .i64 op, .int .i64 ch, .agg #[.int .i64 slo, .int .i64 shi]] W fun e w' => e = .returned (.tuple #[.agg (if 0 < K then #[.int .i64 16, .int .i64 (K : Int), .int .i64 P1, .int .i64 P2, .int .i64 T1, .int .i64 T2] else #[.int .i64 32, .int .i64 (N : Int), .int .i64 R1, .int .i64 R2, .int .i64 T1, .int .i64 T2]), .int .i64 0]) ∧ Below W.heap.size W w' := by
  have HR : Hid (∀ W', Below W.heap.size W W' → _) := hR
  have HW : Hid (∀ w, _) := fun w => dwit_any (-2147483648) 2147483647 R1 R2 w
  have H6 : Hid (∀ w, _) := fun w => d32_any w
  rw [hn] at HW
  have HL : Hid (∀ W', _) := hLn
  have HM : Hid (∀ W', Below W.heap.size W W' → _) := hM
  have HP : Hid (0 < K → ∀ W', Below W.heap.size W W' → _) := hP
  have HT : Hid (∀ W', Below W.heap.size W W' → _) := hT
  have HC : Hid (∀ (q : Nat) (v : Value), (#[.int .i64 k, .int .i64 a, .int .i64 b, .int .i64 m, .int .i64 kh, .int .i64 kw, .int .i64 sh, .int .i64 sw, .int .i64 tp, .int .i64 lf, .int .i64 bt, .int .i64 rt, .slice wa lw wc, .slice ba lb bc, .int .i64 sm, .int .i64 ss, .int .i64 um, .int .i64 us, .int .i64 z, .int .i64 p, .int .i64 l0, .int .i64 h0]).toList[q]? = some v → W.cell? ((x.add (i * 22)).add q) = some v) := hc
  have s0 := (((St.start W).new (c := #[.int .i64 h, .int .i64 w, .int .i64 c, .int .i64 lo, .int .i64 hi, .slice (some x) on oc, .int .i64 ot]) (t := 26)).new (c := #[.int .i64 slo, .int .i64 shi]) (t := 28)).new (c := #[.int .i64 0, .int .i64 0, .int .i64 0, .int .i64 0, .int .i64 0, .int .i64 0]) (t := 30)
  simp only [World.size_alloc] at s0
  subst hio
  obtain ⟨RA, hRA⟩ : ∃ RA, (if 0 < K then #[.int .i64 16, .int .i64 (K : Int), .int .i64 P1, .int .i64 P2, .int .i64 T1, .int .i64 T2] else #[.int .i64 32, .int .i64 (N : Int), .int .i64 R1, .int .i64 R2, .int .i64 T1, .int .i64 T2] : Array Value) = RA := ⟨_, rfl⟩
  have HRA : Hid ((if 0 < K then #[.int .i64 16, .int .i64 (K : Int), .int .i64 P1, .int .i64 P2, .int .i64 T1, .int .i64 T2] else #[.int .i64 32, .int .i64 (N : Int), .int .i64 R1, .int .i64 R2, .int .i64 T1, .int .i64 T2] : Array Value) = RA) := hRA
  rw [hRA]
  clear hR hn hLn hM hP hT hc hRA
  go_enter Try.func13, Try.ntmps13
  go_wp2_with fail
  refine (HR.out _ s0.below).mono ?_
  rintro e w1 ⟨rfl, hb⟩
  have s1 := (s0.call hb).new (c := #[.int .i64 R1, .int .i64 R2]) (t := 28)
  have hz1 := (s0.call hb).size
  have hz1' := lt_of_heap (s0.call hb).h1
  obtain ⟨B10, hB10⟩ : ∃ B, w1.heap.size = B := ⟨_, rfl⟩
  rw [hB10] at s1 hz1 hz1'
  clear hb s0 HR
  go_wp2_with fail
  obtain ⟨c1, g1, c2, g2, c3, g3, c4, g4, -⟩ := rulesQ_st s1
  have hne := Nonempty.intro (Wd.mk _ s1)
  refine region_held s1 (by kernel_rfl) (by kernel_rfl) ?_
  repeat (first
    | (go_big_quiet_step ((go_at_call 32; exact held_of (H6.out _))))
    | (go_big_quiet_step ((go_at_call 16; exact held_of (HW.out _)))))
  refine wpQuiet_nil ?_
  intro _ hw'
  obtain ⟨nq, rfl⟩ := hw'
  have s8 := nq.h
  obtain ⟨w8, hw8⟩ : ∃ w, nq.w = w := ⟨_, rfl⟩
  rw [hw8] at s8 ⊢
  clear c1 g1 c2 g2 c3 g3 c4 g4 hne s1 hw8 HW H6
  have S8 : Hid (St W w8 [(B10, #[.int .i64 R1, .int .i64 R2], 28), (W.heap.size + 1 + 1, #[.int .i64 0, .int .i64 0, .int .i64 0, .int .i64 0, .int .i64 0, .int .i64 0], 30), (W.heap.size + 1, #[.int .i64 slo, .int .i64 shi], 28), (W.heap.size, #[.int .i64 h, .int .i64 w, .int .i64 c, .int .i64 lo, .int .i64 hi, .slice (some x) on oc, .int .i64 ot], 26)]) := s8
  clear s8
  go_upto_region 6 with fail
  have HC8 : Hid (∀ (q : Nat) (v : Value), (#[.int .i64 k, .int .i64 a, .int .i64 b, .int .i64 m, .int .i64 kh, .int .i64 kw, .int .i64 sh, .int .i64 sw, .int .i64 tp, .int .i64 lf, .int .i64 bt, .int .i64 rt, .slice wa lw wc, .slice ba lb bc, .int .i64 sm, .int .i64 ss, .int .i64 um, .int .i64 us, .int .i64 z, .int .i64 p, .int .i64 l0, .int .i64 h0]).toList[q]? = some v → w8.cell? ((x.add (i * 22)).add q) = some v) := fun q v hq => (S8.out.below.cell (World.block_lt_of_cell? W _ (HC.out q v hq))).trans (HC.out q v hq)
  have hG := S8.out.h4
  have hG2 := S8.out.h1
  refine regionN (fun w' => Below w8.heap.size w8 w') (fun a0 a' w' => ∃ (B12 : Nat), a' = ((((((((((a0.put (some 32) (.pointer (some ⟨W.heap.size, 5, none⟩))).put (some 33) (.slice (some x) on oc)).put (some 34) (.int .i64 ((i : Int) + 1))).put (some 35) (.int .i64 (i : Int))).put (some 36) (.pointer (some (x.add (i * 22))))).put (some 37) (.agg #[.int .i64 k, .int .i64 a, .int .i64 b, .int .i64 m, .int .i64 kh, .int .i64 kw, .int .i64 sh, .int .i64 sw, .int .i64 tp, .int .i64 lf, .int .i64 bt, .int .i64 rt, .slice wa lw wc, .slice ba lb bc, .int .i64 sm, .int .i64 ss, .int .i64 um, .int .i64 us, .int .i64 z, .int .i64 p, .int .i64 l0, .int .i64 h0])).put (some 38) (.int .i64 (N : Int))).put (some 39) (.agg #[.int .i64 R1, .int .i64 R2])).put (some 40) (.agg #[.int .i64 32, .int .i64 (N : Int), .int .i64 R1, .int .i64 R2, .int .i64 0, .int .i64 0])).put (some 12) (.pointer (some ⟨B12, 0, none⟩))) ∧ B10 < B12 ∧ St W w' ((B12, #[.int .i64 32, .int .i64 (N : Int), .int .i64 R1, .int .i64 R2, .int .i64 0, .int .i64 0], 30) :: [(B10, #[.int .i64 R1, .int .i64 R2], 28), (W.heap.size + 1 + 1, #[.int .i64 0, .int .i64 0, .int .i64 0, .int .i64 0, .int .i64 0, .int .i64 0], 30), (W.heap.size + 1, #[.int .i64 slo, .int .i64 shi], 28), (W.heap.size, #[.int .i64 h, .int .i64 w, .int .i64 c, .int .i64 lo, .int .i64 hi, .slice (some x) on oc, .int .i64 ot], 26)])) (by kernel_rfl) ?_ ?_
  · obtain ⟨wd, hwd⟩ : ∃ wd, w8.drew = wd := ⟨_, rfl⟩
    have HD : Hid (Below w8.heap.size w8 wd) := by unfold Hid; rw [← hwd]; exact (Below.refl _ _).drew
    rw [hwd]
    have SD : Hid (St W wd ([(B10, #[.int .i64 R1, .int .i64 R2], 28), (W.heap.size + 1 + 1, #[.int .i64 0, .int .i64 0, .int .i64 0, .int .i64 0, .int .i64 0, .int .i64 0], 30), (W.heap.size + 1, #[.int .i64 slo, .int .i64 shi], 28), (W.heap.size, #[.int .i64 h, .int .i64 w, .int .i64 c, .int .i64 lo, .int .i64 hi, .slice (some x) on oc, .int .i64 ot], 26)])) := S8.out.call HD.out
    clear hwd
    refine takeC 0 (v := .pointer (some ⟨W.heap.size, 5, none⟩)) rfl rfl (by kernel_rfl) (by kernel_rfl) (by kernel_rfl) (fun _ _ _ h => h) (fun _ => rfl) rfl (fun w' hw' => by go_simp) ?_
    refine takeC 1 (v := .slice (some x) on oc) rfl rfl (by kernel_rfl) (by kernel_rfl) (by kernel_rfl) (fun _ _ _ h => h) (fun _ => rfl) rfl (fun w' hw' => by have hc := (cells_at ((hw'.block _ (lt_of_heap hG)).trans hG)).1 5; go_simp) ?_
    refine takeC 2 (v := .int .i64 ((i : Int) + 1)) rfl rfl (by kernel_rfl) (by kernel_rfl) (by kernel_rfl) (fun _ _ _ h => h) (fun _ => rfl) rfl (fun w' hw' => by go_simp) ?_
    refine takeC 3 (v := .int .i64 (i : Int)) rfl rfl (by kernel_rfl) (by kernel_rfl) (by kernel_rfl) (fun _ _ _ h => h) (fun _ => rfl) rfl (fun w' hw' => by go_simp; rw [IntKind.wrap_i64]; omega) ?_
    refine takeC 4 (v := .pointer (some (x.add (i * 22)))) rfl rfl (by kernel_rfl) (by kernel_rfl) (by kernel_rfl) (fun _ _ _ h => h) (fun _ => rfl) rfl (fun w' hw' => by go_simp) ?_
    refine takeC 5 (v := .agg #[.int .i64 k, .int .i64 a, .int .i64 b, .int .i64 m, .int .i64 kh, .int .i64 kw, .int .i64 sh, .int .i64 sw, .int .i64 tp, .int .i64 lf, .int .i64 bt, .int .i64 rt, .slice wa lw wc, .slice ba lb bc, .int .i64 sm, .int .i64 ss, .int .i64 um, .int .i64 us, .int .i64 z, .int .i64 p, .int .i64 l0, .int .i64 h0]) rfl rfl (by kernel_rfl) (by kernel_rfl) (by kernel_rfl) (fun _ _ _ h => h) (fun _ => rfl) rfl (fun w' hw' => run_la 59 (.tmp 36) rfl (x.add (i * 22)) (by kernel_rfl) (#[.int .i64 k, .int .i64 a, .int .i64 b, .int .i64 m, .int .i64 kh, .int .i64 kw, .int .i64 sh, .int .i64 sw, .int .i64 tp, .int .i64 lf, .int .i64 bt, .int .i64 rt, .slice wa lw wc, .slice ba lb bc, .int .i64 sm, .int .i64 ss, .int .i64 um, .int .i64 us, .int .i64 z, .int .i64 p, .int .i64 l0, .int .i64 h0]).toList _ (fun q v hq => (hw'.cell (World.block_lt_of_cell? _ _ (HC8.out q v hq))).trans (HC8.out q v hq)) Try.underlying59 rfl (by kernel_rfl)) ?_
    refine takeC 7 (v := .agg #[.int .i64 R1, .int .i64 R2]) rfl rfl (by kernel_rfl) (by kernel_rfl) (by kernel_rfl) (fun _ _ _ h => h) (fun _ => rfl) rfl (fun w' hw' => run_la 28 (.tmp 10) rfl ⟨B10, 0, none⟩ (by kernel_rfl) [.int .i64 R1, .int .i64 R2] _ (fun j v hj => by rw [Addr.add_lit, Nat.zero_add, (cells_at ((hw'.block _ (lt_of_heap hG2)).trans hG2)).1]; simpa using hj) Try.underlying28 rfl (by kernel_rfl)) ?_
    refine y2 6 9 HD.out (by kernel_rfl) ?_ ?_
    · refine yC rfl rfl 19 #[.agg #[.int .i64 k, .int .i64 a, .int .i64 b, .int .i64 m, .int .i64 kh, .int .i64 kw, .int .i64 sh, .int .i64 sw, .int .i64 tp, .int .i64 lf, .int .i64 bt, .int .i64 rt, .slice wa lw wc, .slice ba lb bc, .int .i64 sm, .int .i64 ss, .int .i64 um, .int .i64 us, .int .i64 z, .int .i64 p, .int .i64 l0, .int .i64 h0]] (by kernel_rfl) (HL.out _) ?_
      rintro e w9 ⟨rfl, hb9⟩
      refine ⟨_, rfl, ?_⟩
      have hb' : Below w8.heap.size w8 w9 := HD.out.trans (hb9.mono HD.out.size)
      have s9 := SD.out.call hb9
      refine takeC 8 (v := .agg #[.int .i64 32, .int .i64 (N : Int), .int .i64 R1, .int .i64 R2, .int .i64 0, .int .i64 0]) rfl rfl (by kernel_rfl) (by kernel_rfl) (by kernel_rfl) (fun _ _ _ h => h) (fun _ => rfl) rfl (fun w' hw' => by kernel_rfl) ?_
      refine yR 9 hb' (by kernel_rfl) rfl rfl (.pointer (some ⟨w9.heap.size, 0, none⟩)) (w9.alloc (.cells #[.int .i64 0, .int .i64 0, .int .i64 0, .int .i64 0, .int .i64 0, .int .i64 0] 30)) (by kernel_rfl) ?_
      refine yS 10 (hb'.alloc hb'.size _) (by kernel_rfl) rfl rfl 30 (.tmp 12) (.tmp 40) rfl w9.heap.size #[.int .i64 32, .int .i64 (N : Int), .int .i64 R1, .int .i64 R2, .int .i64 0, .int .i64 0] (by kernel_rfl) (by kernel_rfl) 30 #[.int .i64 0, .int .i64 0, .int .i64 0, .int .i64 0, .int .i64 0, .int .i64 0] (heap_alloc_new w9 _) (by kernel_rfl) rfl (by simp [Value.oneCell']) ?_
      rw [World.setRow_alloc_new]
      exact doneM (hb'.alloc hb'.size _) (by kernel_rfl) ⟨w9.heap.size, by kernel_rfl, lt_of_heap s9.h1, s9.new (c := #[.int .i64 32, .int .i64 (N : Int), .int .i64 R1, .int .i64 R2, .int .i64 0, .int .i64 0]) (t := 30)⟩ _
    · refine yO rfl rfl (.pointer (some ⟨wd.heap.size, 0, none⟩)) (wd.alloc (.cells #[.int .i64 0, .int .i64 0, .int .i64 0, .int .i64 0, .int .i64 0, .int .i64 0] 30)) (by kernel_rfl) ?_
      have hb1 := HD.out.alloc HD.out.size (.cells #[.int .i64 0, .int .i64 0, .int .i64 0, .int .i64 0, .int .i64 0, .int .i64 0] 30)
      have s1 := SD.out.new (c := #[.int .i64 0, .int .i64 0, .int .i64 0, .int .i64 0, .int .i64 0, .int .i64 0]) (t := 30)
      have hz := lt_of_heap SD.out.h1
      refine yK 6 hb1 (by kernel_rfl) rfl rfl 19 #[.agg #[.int .i64 k, .int .i64 a, .int .i64 b, .int .i64 m, .int .i64 kh, .int .i64 kw, .int .i64 sh, .int .i64 sw, .int .i64 tp, .int .i64 lf, .int .i64 bt, .int .i64 rt, .slice wa lw wc, .slice ba lb bc, .int .i64 sm, .int .i64 ss, .int .i64 um, .int .i64 us, .int .i64 z, .int .i64 p, .int .i64 l0, .int .i64 h0]] (by kernel_rfl) (HL.out _) ?_
      rintro e w9 ⟨rfl, hb9⟩
      refine ⟨_, rfl, ?_⟩
      have hb' : Below w8.heap.size w8 w9 := hb1.trans (hb9.mono hb1.size)
      have s9 := s1.call hb9
      obtain ⟨B12, hB⟩ : ∃ B, wd.heap.size = B := ⟨_, rfl⟩
      have hz8 : w8.heap.size ≤ B12 := by rw [← hB]; exact HD.out.size
      rw [hB] at s9 hz ⊢
      refine takeC 8 (v := .agg #[.int .i64 32, .int .i64 (N : Int), .int .i64 R1, .int .i64 R2, .int .i64 0, .int .i64 0]) rfl rfl (by kernel_rfl) (by kernel_rfl) (by kernel_rfl) (fun _ _ _ h => h) (fun _ => rfl) rfl (fun w' hw' => by kernel_rfl) ?_
      refine yS 10 hb' (by kernel_rfl) rfl rfl 30 (.tmp 12) (.tmp 40) rfl B12 #[.int .i64 32, .int .i64 (N : Int), .int .i64 R1, .int .i64 R2, .int .i64 0, .int .i64 0] (by kernel_rfl) (by kernel_rfl) 30 #[.int .i64 0, .int .i64 0, .int .i64 0, .int .i64 0, .int .i64 0, .int .i64 0] s9.h1 (by kernel_rfl) rfl (by simp [Value.oneCell']) ?_
      have s10 := s9.rowset (c' := #[.int .i64 32, .int .i64 (N : Int), .int .i64 R1, .int .i64 R2, .int .i64 0, .int .i64 0]) (fun y hy => Nat.ne_of_lt (by rw [← hB]; exact lt_of_heap (SD.out.2 y hy).1))
      exact doneM (below_setRow hb' hz8 #[.int .i64 32, .int .i64 (N : Int), .int .i64 R1, .int .i64 R2, .int .i64 0, .int .i64 0]) (by kernel_rfl) ⟨B12, by kernel_rfl, hz, s10⟩ _
  rintro a' w9 ⟨B12, rfl, hz12, s9⟩
  clear hG hG2 HC8 S8 HL HC
  obtain ⟨c1, f1, z1, c2, f2, z2, c3, f3, z3, c4, f4, z4, c5, f5, z5, -⟩ := s9.rules
  have S9 : Hid (St W w9 _) := s9
  clear s9 c1 f1 z1 c2 f2 z2 c3 f3
  go_wp2_with fail
  refine (HM.out _ S9.out.below).mono ?_
  rintro e w10 ⟨rfl, hb⟩
  have s10 := S9.out.call hb
  clear hb S9 c4 f4 c5 f5 HM
  obtain ⟨c1, f1, z1, c2, f2, z2, c3, f3, z3, c4, f4, z4, c5, f5, z5, -⟩ := s10.rules
  have S10 : Hid (St W w10 _) := s10
  clear s10
  by_cases hK0 : 0 < K
  · have hKp : (0 : Int) < (K : Int) := by omega
    have HP' : Hid (∀ W', Below W.heap.size W W' → _) := HP.out hK0
    have s11 := (S10.out.set (i := 0) (v := .int .i64 16) (by simp; omega)).set (i := 1) (v := .int .i64 (K : Int)) (by simp; omega)
    have HP'' : Hid (∀ W', Below W.heap.size W W' → _) := HP'.out
    clear HP HP' c2 f2 c3 f3
    go_wp2_with fail
    refine (HP''.out _ s11.below).mono ?_
    rintro e w11 ⟨rfl, hb⟩
    have s12 := s11.call hb
    clear hb s11 S10 HP'' c1 f1 z1 z2 z3 c4 f4 z4 c5 f5 z5
    obtain ⟨c1, f1, z1, c2, f2, z2, c3, f3, z3, c4, f4, z4, c5, f5, z5, -⟩ := s12.rules
    have s13 := (s12.set (i := 2) (v := .int .i64 P1) (by simp; omega)).set (i := 3) (v := .int .i64 P2) (by simp; omega)
    clear s12 c2 f2 c3 f3
    go_wp2_with fail
    refine (HT.out _ s13.below).mono ?_
    rintro e w12 ⟨rfl, hb⟩
    have s14 := s13.call hb
    clear hb s13 HT c1 f1 z1 z2 z3 c4 f4 z4 c5 f5 z5
    obtain ⟨c1, f1, z1, c2, f2, z2, c3, f3, z3, -⟩ := s14.rules
    have s15 := ((s14.set (i := 4) (v := .int .i64 T1) (by simp; omega)).set (i := 5) (v := .int .i64 T2) (by simp; omega)).tail.tail.six (u0 := .int .i64 16) (u1 := .int .i64 (K : Int)) (u2 := .int .i64 P1) (u3 := .int .i64 P2) (u4 := .int .i64 T1) (u5 := .int .i64 T2) (by simp; omega)
    obtain ⟨cF, -⟩ := s15.rules
    have HB : Hid (Below W.heap.size W _) := s15.below
    clear s14 s15 c2 f2
    go_wp2
    exact bodyPost_ret (v := .tuple #[.agg #[.int .i64 16, .int .i64 (K : Int), .int .i64 P1, .int .i64 P2, .int .i64 T1, .int .i64 T2], .int .i64 0]) (by simp [results, Try.results13, go_sem, cF]) rfl ⟨by rw [← HRA.out, if_pos hK0], HB.out⟩
  · have hKp : ¬ (0 : Int) < (K : Int) := by omega
    clear HP c2 f2 c3 f3
    go_wp2_with fail
    refine (HT.out _ S10.out.below).mono ?_
    rintro e w12 ⟨rfl, hb⟩
    have s14 := S10.out.call hb
    clear hb S10 HT c1 f1 z1 z2 z3 c4 f4 z4 c5 f5 z5
    obtain ⟨c1, f1, z1, c2, f2, z2, c3, f3, z3, -⟩ := s14.rules
    have s15 := ((s14.set (i := 4) (v := .int .i64 T1) (by simp; omega)).set (i := 5) (v := .int .i64 T2) (by simp; omega)).tail.tail.six (u0 := .int .i64 32) (u1 := .int .i64 (N : Int)) (u2 := .int .i64 R1) (u3 := .int .i64 R2) (u4 := .int .i64 T1) (u5 := .int .i64 T2) (by simp; omega)
    obtain ⟨cF, -⟩ := s15.rules
    have HB : Hid (Below W.heap.size W _) := s15.below
    clear s14 s15 c2 f2
    go_wp2
    exact bodyPost_ret (v := .tuple #[.agg #[.int .i64 32, .int .i64 (N : Int), .int .i64 R1, .int .i64 R2, .int .i64 T1, .int .i64 T2], .int .i64 0]) (by simp [results, Try.results13, go_sem, cF]) rfl ⟨by rw [← HRA.out, if_neg (by omega)], HB.out⟩
end Go.Proofs.Ytgiohlcipndakaa
