/- The walks of Total, Run, Part and Product of package bound. What Total, Run, Part and Product answer of a model: the error, or the hull. -/
import Derived.Test.YtgiohlcipndakaaGreatGz23
/- The walks of Total, Run, Part and Product of package bound. -/
namespace Go.Proofs.YtgiohlcipndakaaGreat
open Go.Value renaming int → U
open Go.IntKind renaming i64 → i6
set_option maxRecDepth 100000
set_option maxHeartbeats 16000000
open Go.ChangeShapes Go.WideShapes Go.ChangeAt Go.RowKit Go.Shelf
set_option linter.unusedVariables false
theorem btot_e (h w c lo hi ot op ch : Int) (oa : Option Addr) (on oc : Nat) (W : World) (slo shi : Int) (E : Int) (hE : E ≠ 0) (hFd : ∀ W', Below W.heap.size W W' → Calls Tryz.prog 35 #[.agg #[U i6 h, U i6 w, U i6 c, U i6 lo, U i6 hi, .slice oa on oc, U i6 ot], U i6 op, U i6 ch, .agg #[U i6 slo, U i6 shi]] W' fun e w' => e = .returned (.tuple #[.agg #[U i6 0, U i6 0, U i6 0, U i6 0, U i6 0, U i6 0, U i6 0, U i6 0, U i6 0, U i6 0, U i6 0, U i6 0, U i6 0, .slice none 0 0, U i6 0], U i6 E]) ∧ Below W'.heap.size W' w') : Calls Tryz.prog 30 #[.agg #[U i6 h, U i6 w, U i6 c, U i6 lo, U i6 hi, .slice oa on oc, U i6 ot], U i6 op, U i6 ch, .agg #[U i6 slo, U i6 shi]] W fun e w' => e = .returned (.tuple #[.agg #[U i6 0, U i6 0], U i6 E]) ∧ Below W.heap.size W w' := by
 have HF : Hid (∀ W', Below W.heap.size W W' → _) := hFd
 have hE' : (E == 0) = false := by simp [hE]
 have s0 := (((St.start W).new (c := #[U i6 h, U i6 w, U i6 c, U i6 lo, U i6 hi, .slice oa on oc, U i6 ot]) (t := 26)).new (c := #[U i6 slo, U i6 shi]) (t := 28)).new (c := #[U i6 0, U i6 0]) (t := 28)
 simp only [World.size_alloc] at s0
 clear hFd
 go_enter Tryz.func30, Tryz.ntmps30
 go_wp2_with fail
 refine (HF.out _ s0.below).mono ?_
 rintro e w1 ⟨rfl, hb⟩
 have s1 := (s0.call hb).new (c := #[U i6 0, U i6 0, U i6 0, U i6 0, U i6 0, U i6 0, U i6 0, U i6 0, U i6 0, U i6 0, U i6 0, U i6 0, U i6 0, .slice none 0 0, U i6 0]) (t := 78)
 have S1 : Hid (St W _ _) := s1
 clear hb s0 HF
 go_upto_region 2 with (refine wpList_st_new rfl 78 (.tmp 10) (.tmp 18) rfl w1 _ #[U i6 0, U i6 0, U i6 0, U i6 0, U i6 0, U i6 0, U i6 0, U i6 0, U i6 0, U i6 0, U i6 0, U i6 0, U i6 0, .slice none 0 0, U i6 0] rfl rfl (by kernel_rfl) rfl (by simp [Value.oneCell']) ?_)
 obtain ⟨w2, hw2⟩ : ∃ w2, w1.alloc (.cells #[U i6 0, U i6 0, U i6 0, U i6 0, U i6 0, U i6 0, U i6 0, U i6 0, U i6 0, U i6 0, U i6 0, U i6 0, U i6 0, .slice none 0 0, U i6 0] 78) = w2 := ⟨_, rfl⟩
 rw [hw2] at s1 S1 ⊢
 obtain ⟨-, -, -, c1, f1, z1, -⟩ := s1.rules
 have HB : Hid (Below W.heap.size W _) := s1.tail.out2 (i := 0) (j := 1) (u := U i6 0) (v := U i6 0)
 clear s1 hw2
 go_wp2
 exact bodyPost_ret (v := .tuple #[.agg #[U i6 0, U i6 0], U i6 E]) (by simp [results, Tryz.results30, go_sem, c1]) rfl ⟨rfl, HB.out⟩
theorem btot_w (h w c lo hi ot op ch : Int) (oa : Option Addr) (on oc : Nat) (W : World) (slo shi : Int) (n bi p x0 y0 z0 : Int) (N : Nat) (hN : N ≤ 512) (op0 : Array Value) (X Y : Int) (hFd : ∀ W', Below W.heap.size W W' → Calls Tryz.prog 35 #[.agg #[U i6 h, U i6 w, U i6 c, U i6 lo, U i6 hi, .slice oa on oc, U i6 ot], U i6 op, U i6 ch, .agg #[U i6 slo, U i6 shi]] W' fun e w' => ∃ g0, e = .returned (.tuple #[.agg #[U i6 ch, U i6 n, U i6 (N : Int), U i6 bi, U i6 slo, U i6 shi, U i6 p, U i6 p, U i6 x0, U i6 y0, U i6 z0, U i6 0, U i6 0, .slice (some ⟨g0, 0, none⟩) 1 1, U i6 0], U i6 0]) ∧ w'.heap[g0]? = some (.cells op0 43 (0, 0)) ∧ W'.heap.size ≤ g0 ∧ Below W'.heap.size W' w') (gf : Nat)
  (hgf : gf = 47)
  (hHl : ∀ W' (g0 q : Nat), Below W.heap.size W W' → W'.heap[g0]? = some (.cells op0 43 (0, 0)) → W'.heap[q]? = some (.cells #[U i6 ch, U i6 n, U i6 (N : Int), U i6 bi, U i6 slo, U i6 shi, U i6 p, U i6 p, U i6 x0, U i6 y0, U i6 z0, U i6 0, U i6 0, .slice (some ⟨g0, 0, none⟩) 1 1, U i6 0] 78 (0, 0)) → Calls Tryz.prog 36 #[.pointer (some ⟨q, 0, none⟩), .func (.func gf) #[] #[.pointer (some ⟨q, 0, none⟩)]] W' fun e w' => e = .returned (.agg #[U i6 X, U i6 Y]) ∧ Below W'.heap.size W' w') :
  Calls Tryz.prog 30 #[.agg #[U i6 h, U i6 w, U i6 c, U i6 lo, U i6 hi, .slice oa on oc, U i6 ot], U i6 op, U i6 ch, .agg #[U i6 slo, U i6 shi]] W fun e w' => e = .returned (.tuple #[.agg #[U i6 X, U i6 Y], U i6 0]) ∧ Below W.heap.size W w' := by
 have hmf : ∀ (fn : Fn) (first cap : Array Value) (w : World), (Instr.makeFunc fn first cap).run Tryz.prog w = .ok (.func fn first cap) w := fun _ _ _ _ => rfl
 have HF : Hid (∀ W', Below W.heap.size W W' → _) := hFd
 have HH : Hid (∀ W' (g0 q : Nat), Below W.heap.size W W' → W'.heap[g0]? = some (.cells op0 43 (0, 0)) → W'.heap[q]? = some (.cells #[U i6 ch, U i6 n, U i6 (N : Int), U i6 bi, U i6 slo, U i6 shi, U i6 p, U i6 p, U i6 x0, U i6 y0, U i6 z0, U i6 0, U i6 0, .slice (some ⟨g0, 0, none⟩) 1 1, U i6 0] 78 (0, 0)) → _) := hHl
 rw [hgf] at HH
 have s0 := (((St.start W).new (c := #[U i6 h, U i6 w, U i6 c, U i6 lo, U i6 hi, .slice oa on oc, U i6 ot]) (t := 26)).new (c := #[U i6 slo, U i6 shi]) (t := 28)).new (c := #[U i6 0, U i6 0]) (t := 28)
 simp only [World.size_alloc] at s0
 clear hFd hHl hgf
 go_enter Tryz.func30, Tryz.ntmps30
 go_wp2_with fail
 refine (HF.out _ s0.below).mono ?_
 rintro e w1 ⟨g0, rfl, hg0, -, hb⟩
 have s1 := (s0.call hb).new (c := #[U i6 ch, U i6 n, U i6 (N : Int), U i6 bi, U i6 slo, U i6 shi, U i6 p, U i6 p, U i6 x0, U i6 y0, U i6 z0, U i6 0, U i6 0, .slice (some ⟨g0, 0, none⟩) 1 1, U i6 0]) (t := 78)
 have S1 : Hid (St W _ _) := s1
 have hg1 : Hid ((w1.alloc (.cells #[U i6 ch, U i6 n, U i6 (N : Int), U i6 bi, U i6 slo, U i6 shi, U i6 p, U i6 p, U i6 x0, U i6 y0, U i6 z0, U i6 0, U i6 0, .slice (some ⟨g0, 0, none⟩) 1 1, U i6 0] 78)).heap[g0]? = some (.cells op0 43 (0, 0))) := (heap_alloc_old w1 _ (lt_of_heap hg0)).trans hg0
 clear hb s0 HF hg0
 go_upto_region 2 with (refine wpList_st_new rfl 78 (.tmp 10) (.tmp 18) rfl w1 _ #[U i6 ch, U i6 n, U i6 (N : Int), U i6 bi, U i6 slo, U i6 shi, U i6 p, U i6 p, U i6 x0, U i6 y0, U i6 z0, U i6 0, U i6 0, .slice (some ⟨g0, 0, none⟩) 1 1, U i6 0] rfl rfl (by kernel_rfl) rfl (by simp [Value.oneCell']) ?_)
 obtain ⟨q, hq⟩ : ∃ q, w1.heap.size = q := ⟨_, rfl⟩
 obtain ⟨w2, hw2⟩ : ∃ w2, w1.alloc (.cells #[U i6 ch, U i6 n, U i6 (N : Int), U i6 bi, U i6 slo, U i6 shi, U i6 p, U i6 p, U i6 x0, U i6 y0, U i6 z0, U i6 0, U i6 0, .slice (some ⟨g0, 0, none⟩) 1 1, U i6 0] 78) = w2 := ⟨_, rfl⟩
 rw [hw2] at S1 hg1 ⊢
 rw [hq] at S1 ⊢
 clear s1 hw2 hq
 have HC : Hid _ := HH.out w2 g0 q S1.out.below hg1.out S1.out.h1
 clear HH hg1
 go_wp2_with fail
 refine Calls.mono HC.out ?_
 rintro e w3 ⟨rfl, hb⟩
 have s3 := S1.out.call hb
 obtain ⟨-, -, -, c1, f1, z1, -⟩ := s3.rules
 have HB : Hid (Below W.heap.size W _) := s3.tail.out2 (i := 0) (j := 1) (u := U i6 X) (v := U i6 Y)
 clear s3 hb S1
 go_wp2
 exact bodyPost_ret (v := .tuple #[.agg #[U i6 X, U i6 Y], U i6 0]) (by simp [results, Tryz.results30, go_sem, c1]) rfl ⟨rfl, HB.out⟩
theorem brun_e (h w c lo hi ot op ch : Int) (oa : Option Addr) (on oc : Nat) (W : World) (slo shi : Int) (E : Int) (hE : E ≠ 0) (hFd : ∀ W', Below W.heap.size W W' → Calls Tryz.prog 35 #[.agg #[U i6 h, U i6 w, U i6 c, U i6 lo, U i6 hi, .slice oa on oc, U i6 ot], U i6 op, U i6 ch, .agg #[U i6 slo, U i6 shi]] W' fun e w' => e = .returned (.tuple #[.agg #[U i6 0, U i6 0, U i6 0, U i6 0, U i6 0, U i6 0, U i6 0, U i6 0, U i6 0, U i6 0, U i6 0, U i6 0, U i6 0, .slice none 0 0, U i6 0], U i6 E]) ∧ Below W'.heap.size W' w') : Calls Tryz.prog 28 #[.agg #[U i6 h, U i6 w, U i6 c, U i6 lo, U i6 hi, .slice oa on oc, U i6 ot], U i6 op, U i6 ch, .agg #[U i6 slo, U i6 shi]] W fun e w' => e = .returned (.tuple #[.agg #[U i6 0, U i6 0], U i6 E]) ∧ Below W.heap.size W w' := by
 have HF : Hid (∀ W', Below W.heap.size W W' → _) := hFd
 have hE' : (E == 0) = false := by simp [hE]
 have s0 := (((St.start W).new (c := #[U i6 h, U i6 w, U i6 c, U i6 lo, U i6 hi, .slice oa on oc, U i6 ot]) (t := 26)).new (c := #[U i6 slo, U i6 shi]) (t := 28)).new (c := #[U i6 0, U i6 0]) (t := 28)
 simp only [World.size_alloc] at s0
 clear hFd
 go_enter Tryz.func28, Tryz.ntmps28
 go_wp2_with fail
 refine (HF.out _ s0.below).mono ?_
 rintro e w1 ⟨rfl, hb⟩
 have s1 := (s0.call hb).new (c := #[U i6 0, U i6 0, U i6 0, U i6 0, U i6 0, U i6 0, U i6 0, U i6 0, U i6 0, U i6 0, U i6 0, U i6 0, U i6 0, .slice none 0 0, U i6 0]) (t := 78)
 have S1 : Hid (St W _ _) := s1
 clear hb s0 HF
 go_upto_region 2 with (refine wpList_st_new rfl 78 (.tmp 10) (.tmp 18) rfl w1 _ #[U i6 0, U i6 0, U i6 0, U i6 0, U i6 0, U i6 0, U i6 0, U i6 0, U i6 0, U i6 0, U i6 0, U i6 0, U i6 0, .slice none 0 0, U i6 0] rfl rfl (by kernel_rfl) rfl (by simp [Value.oneCell']) ?_)
 obtain ⟨w2, hw2⟩ : ∃ w2, w1.alloc (.cells #[U i6 0, U i6 0, U i6 0, U i6 0, U i6 0, U i6 0, U i6 0, U i6 0, U i6 0, U i6 0, U i6 0, U i6 0, U i6 0, .slice none 0 0, U i6 0] 78) = w2 := ⟨_, rfl⟩
 rw [hw2] at s1 S1 ⊢
 obtain ⟨-, -, -, c1, f1, z1, -⟩ := s1.rules
 have HB : Hid (Below W.heap.size W _) := s1.tail.out2 (i := 0) (j := 1) (u := U i6 0) (v := U i6 0)
 clear s1 hw2
 go_wp2
 exact bodyPost_ret (v := .tuple #[.agg #[U i6 0, U i6 0], U i6 E]) (by simp [results, Tryz.results28, go_sem, c1]) rfl ⟨rfl, HB.out⟩
theorem brun_w (h w c lo hi ot op ch : Int) (oa : Option Addr) (on oc : Nat) (W : World) (slo shi : Int) (n bi p x0 y0 z0 : Int) (N : Nat) (hN : N ≤ 512) (op0 : Array Value) (X Y : Int) (hFd : ∀ W', Below W.heap.size W W' → Calls Tryz.prog 35 #[.agg #[U i6 h, U i6 w, U i6 c, U i6 lo, U i6 hi, .slice oa on oc, U i6 ot], U i6 op, U i6 ch, .agg #[U i6 slo, U i6 shi]] W' fun e w' => ∃ g0, e = .returned (.tuple #[.agg #[U i6 ch, U i6 n, U i6 (N : Int), U i6 bi, U i6 slo, U i6 shi, U i6 p, U i6 p, U i6 x0, U i6 y0, U i6 z0, U i6 0, U i6 0, .slice (some ⟨g0, 0, none⟩) 1 1, U i6 0], U i6 0]) ∧ w'.heap[g0]? = some (.cells op0 43 (0, 0)) ∧ W'.heap.size ≤ g0 ∧ Below W'.heap.size W' w') (gf : Nat)
  (hgf : gf = 45)
  (hHl : ∀ W' (g0 q : Nat), Below W.heap.size W W' → W'.heap[g0]? = some (.cells op0 43 (0, 0)) → W'.heap[q]? = some (.cells #[U i6 ch, U i6 n, U i6 (N : Int), U i6 bi, U i6 slo, U i6 shi, U i6 p, U i6 p, U i6 x0, U i6 y0, U i6 z0, U i6 0, U i6 0, .slice (some ⟨g0, 0, none⟩) 1 1, U i6 0] 78 (0, 0)) → Calls Tryz.prog 36 #[.pointer (some ⟨q, 0, none⟩), .func (.func gf) #[] #[.pointer (some ⟨q, 0, none⟩)]] W' fun e w' => e = .returned (.agg #[U i6 X, U i6 Y]) ∧ Below W'.heap.size W' w') :
  Calls Tryz.prog 28 #[.agg #[U i6 h, U i6 w, U i6 c, U i6 lo, U i6 hi, .slice oa on oc, U i6 ot], U i6 op, U i6 ch, .agg #[U i6 slo, U i6 shi]] W fun e w' => e = .returned (.tuple #[.agg #[U i6 X, U i6 Y], U i6 0]) ∧ Below W.heap.size W w' := by
 have hmf : ∀ (fn : Fn) (first cap : Array Value) (w : World), (Instr.makeFunc fn first cap).run Tryz.prog w = .ok (.func fn first cap) w := fun _ _ _ _ => rfl
 have HF : Hid (∀ W', Below W.heap.size W W' → _) := hFd
 have HH : Hid (∀ W' (g0 q : Nat), Below W.heap.size W W' → W'.heap[g0]? = some (.cells op0 43 (0, 0)) → W'.heap[q]? = some (.cells #[U i6 ch, U i6 n, U i6 (N : Int), U i6 bi, U i6 slo, U i6 shi, U i6 p, U i6 p, U i6 x0, U i6 y0, U i6 z0, U i6 0, U i6 0, .slice (some ⟨g0, 0, none⟩) 1 1, U i6 0] 78 (0, 0)) → _) := hHl
 rw [hgf] at HH
 have s0 := (((St.start W).new (c := #[U i6 h, U i6 w, U i6 c, U i6 lo, U i6 hi, .slice oa on oc, U i6 ot]) (t := 26)).new (c := #[U i6 slo, U i6 shi]) (t := 28)).new (c := #[U i6 0, U i6 0]) (t := 28)
 simp only [World.size_alloc] at s0
 clear hFd hHl hgf
 go_enter Tryz.func28, Tryz.ntmps28
 go_wp2_with fail
 refine (HF.out _ s0.below).mono ?_
 rintro e w1 ⟨g0, rfl, hg0, -, hb⟩
 have s1 := (s0.call hb).new (c := #[U i6 ch, U i6 n, U i6 (N : Int), U i6 bi, U i6 slo, U i6 shi, U i6 p, U i6 p, U i6 x0, U i6 y0, U i6 z0, U i6 0, U i6 0, .slice (some ⟨g0, 0, none⟩) 1 1, U i6 0]) (t := 78)
 have S1 : Hid (St W _ _) := s1
 have hg1 : Hid ((w1.alloc (.cells #[U i6 ch, U i6 n, U i6 (N : Int), U i6 bi, U i6 slo, U i6 shi, U i6 p, U i6 p, U i6 x0, U i6 y0, U i6 z0, U i6 0, U i6 0, .slice (some ⟨g0, 0, none⟩) 1 1, U i6 0] 78)).heap[g0]? = some (.cells op0 43 (0, 0))) := (heap_alloc_old w1 _ (lt_of_heap hg0)).trans hg0
 clear hb s0 HF hg0
 go_upto_region 2 with (refine wpList_st_new rfl 78 (.tmp 10) (.tmp 18) rfl w1 _ #[U i6 ch, U i6 n, U i6 (N : Int), U i6 bi, U i6 slo, U i6 shi, U i6 p, U i6 p, U i6 x0, U i6 y0, U i6 z0, U i6 0, U i6 0, .slice (some ⟨g0, 0, none⟩) 1 1, U i6 0] rfl rfl (by kernel_rfl) rfl (by simp [Value.oneCell']) ?_)
 obtain ⟨q, hq⟩ : ∃ q, w1.heap.size = q := ⟨_, rfl⟩
 obtain ⟨w2, hw2⟩ : ∃ w2, w1.alloc (.cells #[U i6 ch, U i6 n, U i6 (N : Int), U i6 bi, U i6 slo, U i6 shi, U i6 p, U i6 p, U i6 x0, U i6 y0, U i6 z0, U i6 0, U i6 0, .slice (some ⟨g0, 0, none⟩) 1 1, U i6 0] 78) = w2 := ⟨_, rfl⟩
 rw [hw2] at S1 hg1 ⊢
 rw [hq] at S1 ⊢
 clear s1 hw2 hq
 have HC : Hid _ := HH.out w2 g0 q S1.out.below hg1.out S1.out.h1
 clear HH hg1
 go_wp2_with fail
 refine Calls.mono HC.out ?_
 rintro e w3 ⟨rfl, hb⟩
 have s3 := S1.out.call hb
 obtain ⟨-, -, -, c1, f1, z1, -⟩ := s3.rules
 have HB : Hid (Below W.heap.size W _) := s3.tail.out2 (i := 0) (j := 1) (u := U i6 X) (v := U i6 Y)
 clear s3 hb S1
 go_wp2
 exact bodyPost_ret (v := .tuple #[.agg #[U i6 X, U i6 Y], U i6 0]) (by simp [results, Tryz.results28, go_sem, c1]) rfl ⟨rfl, HB.out⟩
theorem bprd_e (h w c lo hi ot op ch : Int) (oa : Option Addr) (on oc : Nat) (W : World) (slo shi : Int) (E : Int) (hE : E ≠ 0) (hFd : ∀ W', Below W.heap.size W W' → Calls Tryz.prog 35 #[.agg #[U i6 h, U i6 w, U i6 c, U i6 lo, U i6 hi, .slice oa on oc, U i6 ot], U i6 op, U i6 ch, .agg #[U i6 slo, U i6 shi]] W' fun e w' => e = .returned (.tuple #[.agg #[U i6 0, U i6 0, U i6 0, U i6 0, U i6 0, U i6 0, U i6 0, U i6 0, U i6 0, U i6 0, U i6 0, U i6 0, U i6 0, .slice none 0 0, U i6 0], U i6 E]) ∧ Below W'.heap.size W' w') : Calls Tryz.prog 24 #[.agg #[U i6 h, U i6 w, U i6 c, U i6 lo, U i6 hi, .slice oa on oc, U i6 ot], U i6 op, U i6 ch, .agg #[U i6 slo, U i6 shi]] W fun e w' => e = .returned (.tuple #[.agg #[U i6 0, U i6 0], U i6 E]) ∧ Below W.heap.size W w' := by
 have HF : Hid (∀ W', Below W.heap.size W W' → _) := hFd
 have hE' : (E == 0) = false := by simp [hE]
 have s0 := (((St.start W).new (c := #[U i6 h, U i6 w, U i6 c, U i6 lo, U i6 hi, .slice oa on oc, U i6 ot]) (t := 26)).new (c := #[U i6 slo, U i6 shi]) (t := 28)).new (c := #[U i6 0, U i6 0]) (t := 28)
 simp only [World.size_alloc] at s0
 clear hFd
 go_enter Tryz.func24, Tryz.ntmps24
 go_wp2_with fail
 refine (HF.out _ s0.below).mono ?_
 rintro e w1 ⟨rfl, hb⟩
 have s1 := (s0.call hb).new (c := #[U i6 0, U i6 0, U i6 0, U i6 0, U i6 0, U i6 0, U i6 0, U i6 0, U i6 0, U i6 0, U i6 0, U i6 0, U i6 0, .slice none 0 0, U i6 0]) (t := 78)
 have S1 : Hid (St W _ _) := s1
 clear hb s0 HF
 go_upto_region 2 with (refine wpList_st_new rfl 78 (.tmp 10) (.tmp 18) rfl w1 _ #[U i6 0, U i6 0, U i6 0, U i6 0, U i6 0, U i6 0, U i6 0, U i6 0, U i6 0, U i6 0, U i6 0, U i6 0, U i6 0, .slice none 0 0, U i6 0] rfl rfl (by kernel_rfl) rfl (by simp [Value.oneCell']) ?_)
 obtain ⟨w2, hw2⟩ : ∃ w2, w1.alloc (.cells #[U i6 0, U i6 0, U i6 0, U i6 0, U i6 0, U i6 0, U i6 0, U i6 0, U i6 0, U i6 0, U i6 0, U i6 0, U i6 0, .slice none 0 0, U i6 0] 78) = w2 := ⟨_, rfl⟩
 rw [hw2] at s1 S1 ⊢
 obtain ⟨-, -, -, c1, f1, z1, -⟩ := s1.rules
 have HB : Hid (Below W.heap.size W _) := s1.tail.out2 (i := 0) (j := 1) (u := U i6 0) (v := U i6 0)
 clear s1 hw2
 go_wp2
 exact bodyPost_ret (v := .tuple #[.agg #[U i6 0, U i6 0], U i6 E]) (by simp [results, Tryz.results24, go_sem, c1]) rfl ⟨rfl, HB.out⟩
theorem bprd_w (h w c lo hi ot op ch : Int) (oa : Option Addr) (on oc : Nat) (W : World) (slo shi : Int) (n bi p x0 y0 z0 : Int) (N : Nat) (hN : N ≤ 512) (op0 : Array Value) (X Y : Int) (hFd : ∀ W', Below W.heap.size W W' → Calls Tryz.prog 35 #[.agg #[U i6 h, U i6 w, U i6 c, U i6 lo, U i6 hi, .slice oa on oc, U i6 ot], U i6 op, U i6 ch, .agg #[U i6 slo, U i6 shi]] W' fun e w' => ∃ g0, e = .returned (.tuple #[.agg #[U i6 ch, U i6 n, U i6 (N : Int), U i6 bi, U i6 slo, U i6 shi, U i6 p, U i6 p, U i6 x0, U i6 y0, U i6 z0, U i6 0, U i6 0, .slice (some ⟨g0, 0, none⟩) 1 1, U i6 0], U i6 0]) ∧ w'.heap[g0]? = some (.cells op0 43 (0, 0)) ∧ W'.heap.size ≤ g0 ∧ Below W'.heap.size W' w') (gf : Nat)
  (hgf : gf = 44)
  (hHl : ∀ W' (g0 q : Nat), Below W.heap.size W W' → W'.heap[g0]? = some (.cells op0 43 (0, 0)) → W'.heap[q]? = some (.cells #[U i6 ch, U i6 n, U i6 (N : Int), U i6 bi, U i6 slo, U i6 shi, U i6 p, U i6 p, U i6 x0, U i6 y0, U i6 z0, U i6 0, U i6 0, .slice (some ⟨g0, 0, none⟩) 1 1, U i6 0] 78 (0, 0)) → Calls Tryz.prog 36 #[.pointer (some ⟨q, 0, none⟩), .func (.func gf) #[] #[]] W' fun e w' => e = .returned (.agg #[U i6 X, U i6 Y]) ∧ Below W'.heap.size W' w') :
  Calls Tryz.prog 24 #[.agg #[U i6 h, U i6 w, U i6 c, U i6 lo, U i6 hi, .slice oa on oc, U i6 ot], U i6 op, U i6 ch, .agg #[U i6 slo, U i6 shi]] W fun e w' => e = .returned (.tuple #[.agg #[U i6 X, U i6 Y], U i6 0]) ∧ Below W.heap.size W w' := by
 have hmf : ∀ (fn : Fn) (first cap : Array Value) (w : World), (Instr.makeFunc fn first cap).run Tryz.prog w = .ok (.func fn first cap) w := fun _ _ _ _ => rfl
 have HF : Hid (∀ W', Below W.heap.size W W' → _) := hFd
 have HH : Hid (∀ W' (g0 q : Nat), Below W.heap.size W W' → W'.heap[g0]? = some (.cells op0 43 (0, 0)) → W'.heap[q]? = some (.cells #[U i6 ch, U i6 n, U i6 (N : Int), U i6 bi, U i6 slo, U i6 shi, U i6 p, U i6 p, U i6 x0, U i6 y0, U i6 z0, U i6 0, U i6 0, .slice (some ⟨g0, 0, none⟩) 1 1, U i6 0] 78 (0, 0)) → _) := hHl
 rw [hgf] at HH
 have s0 := (((St.start W).new (c := #[U i6 h, U i6 w, U i6 c, U i6 lo, U i6 hi, .slice oa on oc, U i6 ot]) (t := 26)).new (c := #[U i6 slo, U i6 shi]) (t := 28)).new (c := #[U i6 0, U i6 0]) (t := 28)
 simp only [World.size_alloc] at s0
 clear hFd hHl hgf
 go_enter Tryz.func24, Tryz.ntmps24
 go_wp2_with fail
 refine (HF.out _ s0.below).mono ?_
 rintro e w1 ⟨g0, rfl, hg0, -, hb⟩
 have s1 := (s0.call hb).new (c := #[U i6 ch, U i6 n, U i6 (N : Int), U i6 bi, U i6 slo, U i6 shi, U i6 p, U i6 p, U i6 x0, U i6 y0, U i6 z0, U i6 0, U i6 0, .slice (some ⟨g0, 0, none⟩) 1 1, U i6 0]) (t := 78)
 have S1 : Hid (St W _ _) := s1
 have hg1 : Hid ((w1.alloc (.cells #[U i6 ch, U i6 n, U i6 (N : Int), U i6 bi, U i6 slo, U i6 shi, U i6 p, U i6 p, U i6 x0, U i6 y0, U i6 z0, U i6 0, U i6 0, .slice (some ⟨g0, 0, none⟩) 1 1, U i6 0] 78)).heap[g0]? = some (.cells op0 43 (0, 0))) := (heap_alloc_old w1 _ (lt_of_heap hg0)).trans hg0
 clear hb s0 HF hg0
 go_upto_region 2 with (refine wpList_st_new rfl 78 (.tmp 10) (.tmp 18) rfl w1 _ #[U i6 ch, U i6 n, U i6 (N : Int), U i6 bi, U i6 slo, U i6 shi, U i6 p, U i6 p, U i6 x0, U i6 y0, U i6 z0, U i6 0, U i6 0, .slice (some ⟨g0, 0, none⟩) 1 1, U i6 0] rfl rfl (by kernel_rfl) rfl (by simp [Value.oneCell']) ?_)
 obtain ⟨q, hq⟩ : ∃ q, w1.heap.size = q := ⟨_, rfl⟩
 obtain ⟨w2, hw2⟩ : ∃ w2, w1.alloc (.cells #[U i6 ch, U i6 n, U i6 (N : Int), U i6 bi, U i6 slo, U i6 shi, U i6 p, U i6 p, U i6 x0, U i6 y0, U i6 z0, U i6 0, U i6 0, .slice (some ⟨g0, 0, none⟩) 1 1, U i6 0] 78) = w2 := ⟨_, rfl⟩
 rw [hw2] at S1 hg1 ⊢
 rw [hq] at S1 ⊢
 clear s1 hw2 hq
 have HC : Hid _ := HH.out w2 g0 q S1.out.below hg1.out S1.out.h1
 clear HH hg1
 go_wp2_with fail
 refine Calls.mono HC.out ?_
 rintro e w3 ⟨rfl, hb⟩
 have s3 := S1.out.call hb
 obtain ⟨-, -, -, c1, f1, z1, -⟩ := s3.rules
 have HB : Hid (Below W.heap.size W _) := s3.tail.out2 (i := 0) (j := 1) (u := U i6 X) (v := U i6 Y)
 clear s3 hb S1
 go_wp2
 exact bodyPost_ret (v := .tuple #[.agg #[U i6 X, U i6 Y], U i6 0]) (by simp [results, Tryz.results24, go_sem, c1]) rfl ⟨rfl, HB.out⟩
theorem bprt_e (h w c lo hi ot op ch : Int) (oa : Option Addr) (on oc : Nat) (W : World) (slo shi : Int) (dp : Int) (E : Int) (hE : E ≠ 0) (hFd : ∀ W', Below W.heap.size W W' → Calls Tryz.prog 35 #[.agg #[U i6 h, U i6 w, U i6 c, U i6 lo, U i6 hi, .slice oa on oc, U i6 ot], U i6 op, U i6 ch, .agg #[U i6 slo, U i6 shi]] W' fun e w' => e = .returned (.tuple #[.agg #[U i6 0, U i6 0, U i6 0, U i6 0, U i6 0, U i6 0, U i6 0, U i6 0, U i6 0, U i6 0, U i6 0, U i6 0, U i6 0, .slice none 0 0, U i6 0], U i6 E]) ∧ Below W'.heap.size W' w') : Calls Tryz.prog 15 #[.agg #[U i6 h, U i6 w, U i6 c, U i6 lo, U i6 hi, .slice oa on oc, U i6 ot], U i6 op, U i6 ch, .agg #[U i6 slo, U i6 shi], U i6 dp] W fun e w' => e = .returned (.tuple #[.agg #[U i6 0, U i6 0], U i6 E]) ∧ Below W.heap.size W w' := by
 have HF : Hid (∀ W', Below W.heap.size W W' → _) := hFd
 have hE' : (E == 0) = false := by simp [hE]
 have s0 := ((((St.start W).new (c := #[U i6 h, U i6 w, U i6 c, U i6 lo, U i6 hi, .slice oa on oc, U i6 ot]) (t := 26)).new (c := #[U i6 slo, U i6 shi]) (t := 28)).new (c := #[U i6 dp]) (t := 3)).new (c := #[U i6 0, U i6 0]) (t := 28)
 simp only [World.size_alloc] at s0
 clear hFd
 go_enter Tryz.func15, Tryz.ntmps15
 go_wp2_with fail
 refine (HF.out _ s0.below).mono ?_
 rintro e w1 ⟨rfl, hb⟩
 have s1 := (s0.call hb).new (c := #[U i6 0, U i6 0, U i6 0, U i6 0, U i6 0, U i6 0, U i6 0, U i6 0, U i6 0, U i6 0, U i6 0, U i6 0, U i6 0, .slice none 0 0, U i6 0]) (t := 78)
 clear hb s0 HF
 go_upto_region 2 with (refine wpList_st_new rfl 78 (.tmp 12) (.tmp 20) rfl w1 _ #[U i6 0, U i6 0, U i6 0, U i6 0, U i6 0, U i6 0, U i6 0, U i6 0, U i6 0, U i6 0, U i6 0, U i6 0, U i6 0, .slice none 0 0, U i6 0] rfl rfl (by kernel_rfl) rfl (by simp [Value.oneCell']) ?_)
 obtain ⟨w2, hw2⟩ : ∃ w2, w1.alloc (.cells #[U i6 0, U i6 0, U i6 0, U i6 0, U i6 0, U i6 0, U i6 0, U i6 0, U i6 0, U i6 0, U i6 0, U i6 0, U i6 0, .slice none 0 0, U i6 0] 78) = w2 := ⟨_, rfl⟩
 rw [hw2] at s1 ⊢
 obtain ⟨-, -, -, c1, f1, z1, -⟩ := s1.rules
 have HB : Hid (Below W.heap.size W _) := s1.tail.out2 (i := 0) (j := 1) (u := U i6 0) (v := U i6 0)
 clear s1 hw2
 go_wp2
 exact bodyPost_ret (v := .tuple #[.agg #[U i6 0, U i6 0], U i6 E]) (by simp [results, Tryz.results15, go_sem, c1]) rfl ⟨rfl, HB.out⟩
theorem bprt_d (h w c lo hi ot op ch : Int) (oa : Option Addr) (on oc : Nat) (W : World) (slo shi : Int) (dp : Int) (n bi p x0 y0 z0 : Int) (N : Nat) (hN : N ≤ 512) (op0 : Array Value) (X Y : Int) (hFd : ∀ W', Below W.heap.size W W' → Calls Tryz.prog 35 #[.agg #[U i6 h, U i6 w, U i6 c, U i6 lo, U i6 hi, .slice oa on oc, U i6 ot], U i6 op, U i6 ch, .agg #[U i6 slo, U i6 shi]] W' fun e w' => ∃ g0, e = .returned (.tuple #[.agg #[U i6 ch, U i6 n, U i6 (N : Int), U i6 bi, U i6 slo, U i6 shi, U i6 p, U i6 p, U i6 x0, U i6 y0, U i6 z0, U i6 0, U i6 0, .slice (some ⟨g0, 0, none⟩) 1 1, U i6 0], U i6 0]) ∧ w'.heap[g0]? = some (.cells op0 43 (0, 0)) ∧ W'.heap.size ≤ g0 ∧ Below W'.heap.size W' w') (hd : ¬ (1 ≤ dp ∧ dp ≤ (N : Int))) : Calls Tryz.prog 15 #[.agg #[U i6 h, U i6 w, U i6 c, U i6 lo, U i6 hi, .slice oa on oc, U i6 ot], U i6 op, U i6 ch, .agg #[U i6 slo, U i6 shi], U i6 dp] W fun e w' => e = .returned (.tuple #[.agg #[U i6 0, U i6 0], U i6 151]) ∧ Below W.heap.size W w' := by
 have HF : Hid (∀ W', Below W.heap.size W W' → _) := hFd
 have s0 := ((((St.start W).new (c := #[U i6 h, U i6 w, U i6 c, U i6 lo, U i6 hi, .slice oa on oc, U i6 ot]) (t := 26)).new (c := #[U i6 slo, U i6 shi]) (t := 28)).new (c := #[U i6 dp]) (t := 3)).new (c := #[U i6 0, U i6 0]) (t := 28)
 simp only [World.size_alloc] at s0
 clear hFd
 by_cases d1 : dp < 1
 all_goals
  try have d2 : (N : Int) < dp := by omega
  clear hd
  go_enter Tryz.func15, Tryz.ntmps15
  go_wp2_with fail
  refine (HF.out _ s0.below).mono ?_
  rintro e w1 ⟨g0, rfl, -, -, hb⟩
  have s1 := (s0.call hb).new (c := #[U i6 ch, U i6 n, U i6 (N : Int), U i6 bi, U i6 slo, U i6 shi, U i6 p, U i6 p, U i6 x0, U i6 y0, U i6 z0, U i6 0, U i6 0, .slice (some ⟨g0, 0, none⟩) 1 1, U i6 0]) (t := 78)
  clear hb s0 HF
  go_upto_region 2 with (refine wpList_st_new rfl 78 (.tmp 12) (.tmp 20) rfl w1 _ #[U i6 ch, U i6 n, U i6 (N : Int), U i6 bi, U i6 slo, U i6 shi, U i6 p, U i6 p, U i6 x0, U i6 y0, U i6 z0, U i6 0, U i6 0, .slice (some ⟨g0, 0, none⟩) 1 1, U i6 0] rfl rfl (by kernel_rfl) rfl (by simp [Value.oneCell']) ?_)
  obtain ⟨w2, hw2⟩ : ∃ w2, w1.alloc (.cells #[U i6 ch, U i6 n, U i6 (N : Int), U i6 bi, U i6 slo, U i6 shi, U i6 p, U i6 p, U i6 x0, U i6 y0, U i6 z0, U i6 0, U i6 0, .slice (some ⟨g0, 0, none⟩) 1 1, U i6 0] 78) = w2 := ⟨_, rfl⟩
  rw [hw2] at s1 ⊢
  obtain ⟨c0, f0, z0', c1, f1, z1, c2, f2, z2, -⟩ := s1.rules
  have HB : Hid (Below W.heap.size W _) := s1.tail.out2 (i := 0) (j := 1) (u := U i6 0) (v := U i6 0)
  clear s1 hw2
  go_wp2
  exact bodyPost_ret (v := .tuple #[.agg #[U i6 0, U i6 0], U i6 151]) (by simp [results, Tryz.results15, go_sem, c1]) rfl ⟨rfl, HB.out⟩
theorem bprt_w (h w c lo hi ot op ch : Int) (oa : Option Addr) (on oc : Nat) (W : World) (slo shi : Int) (d : Nat) (n bi p x0 y0 z0 : Int) (N : Nat) (hN : N ≤ 512) (op0 : Array Value) (X Y : Int) (hFd : ∀ W', Below W.heap.size W W' → Calls Tryz.prog 35 #[.agg #[U i6 h, U i6 w, U i6 c, U i6 lo, U i6 hi, .slice oa on oc, U i6 ot], U i6 op, U i6 ch, .agg #[U i6 slo, U i6 shi]] W' fun e w' => ∃ g0, e = .returned (.tuple #[.agg #[U i6 ch, U i6 n, U i6 (N : Int), U i6 bi, U i6 slo, U i6 shi, U i6 p, U i6 p, U i6 x0, U i6 y0, U i6 z0, U i6 0, U i6 0, .slice (some ⟨g0, 0, none⟩) 1 1, U i6 0], U i6 0]) ∧ w'.heap[g0]? = some (.cells op0 43 (0, 0)) ∧ W'.heap.size ≤ g0 ∧ Below W'.heap.size W' w') (hd : 1 ≤ d ∧ d ≤ N)
  (hHl : ∀ W' (g0 q r : Nat), Below W.heap.size W W' → W'.heap[g0]? = some (.cells op0 43 (0, 0)) → W'.heap[q]? = some (.cells #[U i6 ch, U i6 n, U i6 (N : Int), U i6 bi, U i6 slo, U i6 shi, U i6 p, U i6 p, U i6 x0, U i6 y0, U i6 z0, U i6 0, U i6 0, .slice (some ⟨g0, 0, none⟩) 1 1, U i6 0] 78 (0, 0)) → W'.heap[r]? = some (.cells #[U i6 (d : Int)] 3 (0, 0)) → Calls Tryz.prog 36 #[.pointer (some ⟨q, 0, none⟩), .func (.func 37) #[] #[.pointer (some ⟨r, 0, none⟩)]] W' fun e w' => e = .returned (.agg #[U i6 X, U i6 Y]) ∧ Below W'.heap.size W' w') :
  Calls Tryz.prog 15 #[.agg #[U i6 h, U i6 w, U i6 c, U i6 lo, U i6 hi, .slice oa on oc, U i6 ot], U i6 op, U i6 ch, .agg #[U i6 slo, U i6 shi], U i6 (d : Int)] W fun e w' => e = .returned (.tuple #[.agg #[U i6 X, U i6 Y], U i6 0]) ∧ Below W.heap.size W w' := by
 have hmf : ∀ (fn : Fn) (first cap : Array Value) (w : World), (Instr.makeFunc fn first cap).run Tryz.prog w = .ok (.func fn first cap) w := fun _ _ _ _ => rfl
 have HF : Hid (∀ W', Below W.heap.size W W' → _) := hFd
 have HH : Hid (∀ W' (g0 q r : Nat), Below W.heap.size W W' → W'.heap[g0]? = some (.cells op0 43 (0, 0)) → W'.heap[q]? = some (.cells #[U i6 ch, U i6 n, U i6 (N : Int), U i6 bi, U i6 slo, U i6 shi, U i6 p, U i6 p, U i6 x0, U i6 y0, U i6 z0, U i6 0, U i6 0, .slice (some ⟨g0, 0, none⟩) 1 1, U i6 0] 78 (0, 0)) → W'.heap[r]? = some (.cells #[U i6 (d : Int)] 3 (0, 0)) → _) := hHl
 obtain ⟨d1, d2⟩ := hd
 have s0 := ((((St.start W).new (c := #[U i6 h, U i6 w, U i6 c, U i6 lo, U i6 hi, .slice oa on oc, U i6 ot]) (t := 26)).new (c := #[U i6 slo, U i6 shi]) (t := 28)).new (c := #[U i6 (d : Int)]) (t := 3)).new (c := #[U i6 0, U i6 0]) (t := 28)
 simp only [World.size_alloc] at s0
 clear hFd hHl
 go_enter Tryz.func15, Tryz.ntmps15
 go_wp2_with fail
 refine (HF.out _ s0.below).mono ?_
 rintro e w1 ⟨g0, rfl, hg0, -, hb⟩
 have s1 := (s0.call hb).new (c := #[U i6 ch, U i6 n, U i6 (N : Int), U i6 bi, U i6 slo, U i6 shi, U i6 p, U i6 p, U i6 x0, U i6 y0, U i6 z0, U i6 0, U i6 0, .slice (some ⟨g0, 0, none⟩) 1 1, U i6 0]) (t := 78)
 have S1 : Hid (St W _ _) := s1
 have hg1 : Hid ((w1.alloc (.cells #[U i6 ch, U i6 n, U i6 (N : Int), U i6 bi, U i6 slo, U i6 shi, U i6 p, U i6 p, U i6 x0, U i6 y0, U i6 z0, U i6 0, U i6 0, .slice (some ⟨g0, 0, none⟩) 1 1, U i6 0] 78)).heap[g0]? = some (.cells op0 43 (0, 0))) := (heap_alloc_old w1 _ (lt_of_heap hg0)).trans hg0
 clear hb s0 HF hg0
 go_upto_region 2 with (refine wpList_st_new rfl 78 (.tmp 12) (.tmp 20) rfl w1 _ #[U i6 ch, U i6 n, U i6 (N : Int), U i6 bi, U i6 slo, U i6 shi, U i6 p, U i6 p, U i6 x0, U i6 y0, U i6 z0, U i6 0, U i6 0, .slice (some ⟨g0, 0, none⟩) 1 1, U i6 0] rfl rfl (by kernel_rfl) rfl (by simp [Value.oneCell']) ?_)
 obtain ⟨q, hq⟩ : ∃ q, w1.heap.size = q := ⟨_, rfl⟩
 obtain ⟨w2, hw2⟩ : ∃ w2, w1.alloc (.cells #[U i6 ch, U i6 n, U i6 (N : Int), U i6 bi, U i6 slo, U i6 shi, U i6 p, U i6 p, U i6 x0, U i6 y0, U i6 z0, U i6 0, U i6 0, .slice (some ⟨g0, 0, none⟩) 1 1, U i6 0] 78) = w2 := ⟨_, rfl⟩
 rw [hw2] at S1 hg1 ⊢
 rw [hq] at S1 ⊢
 clear s1 hw2 hq
 have HC : Hid _ := HH.out w2 g0 q (W.heap.size + 1 + 1) S1.out.below hg1.out S1.out.h1 S1.out.h3
 obtain ⟨c0, f0, z0', -, -, z1, c2, f2, z2, -⟩ := S1.out.rules
 clear HH hg1
 go_wp2_with fail
 refine Calls.mono HC.out ?_
 rintro e w3 ⟨rfl, hb⟩
 have s3 := S1.out.call hb
 clear c0 f0 z0' z1 c2 f2 z2
 obtain ⟨-, -, -, c1, f1, z1, -⟩ := s3.rules
 have HB : Hid (Below W.heap.size W _) := s3.tail.out2 (i := 0) (j := 1) (u := U i6 X) (v := U i6 Y)
 clear s3 hb S1
 go_wp2
 exact bodyPost_ret (v := .tuple #[.agg #[U i6 X, U i6 Y], U i6 0]) (by simp [results, Tryz.results15, go_sem, c1]) rfl ⟨rfl, HB.out⟩
def spR (slo shi : Int) (r : Int × Int) : Int × Int × Int := if vbB slo shi = true then (r.1, r.2, 0) else (0, 0, 30)
def spD (slo shi dp : Int) (N : Nat) (r : Int × Int) : Int × Int × Int := if vbB slo shi = true then (if 1 ≤ dp ∧ dp ≤ (N : Int) then (r.1, r.2, 0) else (0, 0, 151)) else (0, 0, 30)
theorem bof0 (h w c lo hi ot : Int) (oa : Option Addr) (on oc : Nat) (O : Nat → Nat → Int) (Z B : Nat → List Int) (W : World) (hL : LRow W oa on oc O Z B) (ch : Int) (RL : List (Int × Int × Int)) (Rw : Int) (hR : gtR O h w c lo hi ot on = (0, 0, RL, Rw)) (i : Nat) (x : Addr) (wa : Option Addr) (lw cw : Nat) (ba : Option Addr) (lb cb : Nat) (x0 y0 z0 H V C : Int) (hF : Fnd W oa on O Z B RL i x wa lw cw ba lb cb x0 y0 z0 H V C) (hch : 1 ≤ ch ∧ ch ≤ C) : ∀ W', Below W.heap.size W W' → Calls Tryz.prog 51 #[.agg #[U i6 h, U i6 w, U i6 c, U i6 lo, U i6 hi, .slice oa on oc, U i6 ot], U i6 ((i : Int) + 1), U i6 ch, U i6 0] W' fun e w' => (∃ v, e = .returned (.tuple #[v, U i6 (biA (O i 0) ch (B i)), U i6 0]) ∧ OTm w' W'.heap.size v (siL (O i 0) (O i 4) (O i 5) (O i 6) (O i 7) (O i 8) (O i 9) (O i 10) (O i 11) x0 y0 z0 ch 0 (Z i))) ∧ Below W'.heap.size W' w' := fun W' hb => by
 have hv := (vS_bd hF.2.2.2.2.2.2.2.2.2.1.2.2.1).1
 exact of_ok h w c lo hi ot oa on oc O Z B W' (hL.below hb) ch 0 RL Rw hR i x wa lw cw ba lb cb x0 y0 z0 H V C (hF.below hb) hch ⟨by omega, by omega⟩
theorem slen {h w c lo hi ot ch : Int} {oa : Option Addr} {on : Nat} {O : Nat → Nat → Int} {Z B : Nat → List Int} {W : World} (RL : List (Int × Int × Int)) (Rw : Int) (hR : gtR O h w c lo hi ot on = (0, 0, RL, Rw)) (i : Nat) (x : Addr) (wa : Option Addr) (lw cw : Nat) (ba : Option Addr) (lb cb : Nat) (x0 y0 z0 H V C : Int) (hF : Fnd W oa on O Z B RL i x wa lw cw ba lb cb x0 y0 z0 H V C) (hch : 1 ≤ ch ∧ ch ≤ C) : (siL (O i 0) (O i 4) (O i 5) (O i 6) (O i 7) (O i 8) (O i 9) (O i 10) (O i 11) x0 y0 z0 ch 0 (Z i)).length ≤ 512 := by
 exact (siL_facts hF.2.2.2.2.2.2.2.2.2.1 hF.2.2.2.2.2.1.2.2.2.1 hch 0).1
theorem btot_ok (h w c lo hi ot : Int) (oa : Option Addr) (on oc : Nat) (O : Nat → Nat → Int) (Z B : Nat → List Int) (W : World) (hL : LRow W oa on oc O Z B) (ch : Int) (RL : List (Int × Int × Int)) (Rw : Int) (hR : gtR O h w c lo hi ot on = (0, 0, RL, Rw)) (i : Nat) (x : Addr) (wa : Option Addr) (lw cw : Nat) (ba : Option Addr) (lb cb : Nat) (x0 y0 z0 H V C : Int) (hF : Fnd W oa on O Z B RL i x wa lw cw ba lb cb x0 y0 z0 H V C) (hch : 1 ≤ ch ∧ ch ≤ C) (slo shi : Int) : Calls Tryz.prog 30 #[.agg #[U i6 h, U i6 w, U i6 c, U i6 lo, U i6 hi, .slice oa on oc, U i6 ot], U i6 ((i : Int) + 1), U i6 ch, .agg #[U i6 slo, U i6 shi]] W fun e w' => e = .returned (.tuple #[.agg #[U i6 (spR slo shi (hbT (biA (O i 0) ch (B i)) (fun (j : Nat) => enL slo shi (O i 19) (siL (O i 0) (O i 4) (O i 5) (O i 6) (O i 7) (O i 8) (O i 9) (O i 10) (O i 11) x0 y0 z0 ch (j : Int) (Z i))) (H * V).toNat)).1, U i6 (spR slo shi (hbT (biA (O i 0) ch (B i)) (fun (j : Nat) => enL slo shi (O i 19) (siL (O i 0) (O i 4) (O i 5) (O i 6) (O i 7) (O i 8) (O i 9) (O i 10) (O i 11) x0 y0 z0 ch (j : Int) (Z i))) (H * V).toNat)).2.1], U i6 (spR slo shi (hbT (biA (O i 0) ch (B i)) (fun (j : Nat) => enL slo shi (O i 19) (siL (O i 0) (O i 4) (O i 5) (O i 6) (O i 7) (O i 8) (O i 9) (O i 10) (O i 11) x0 y0 z0 ch (j : Int) (Z i))) (H * V).toNat)).2.2]) ∧ Below W.heap.size W w' := by
 unfold spR
 cases hs : vbB slo shi with
 | false =>
  rw [if_neg (by decide)]
  exact btot_e h w c lo hi ot _ ch oa on oc W slo shi 30 (by decide) (fun W' hb => bfind_30 h w c lo hi ot _ ch oa on oc W' slo shi _ _ hs (fun W'' hb' => bof0 h w c lo hi ot oa on oc O Z B W hL ch RL Rw hR i x wa lw cw ba lb cb x0 y0 z0 H V C hF hch W'' (hb.trans (hb'.mono hb.size))))
 | true =>
  rw [if_pos rfl]
  obtain ⟨-, -, -, -, -, hbi, -⟩ := bfacts hL RL Rw hR i x wa lw cw ba lb cb x0 y0 z0 H V C hF hch
  obtain ⟨N, hN⟩ : ∃ N, (siL (O i 0) (O i 4) (O i 5) (O i 6) (O i 7) (O i 8) (O i 9) (O i 10) (O i 11) x0 y0 z0 ch 0 (Z i)).length = N := ⟨_, rfl⟩
  refine btot_w h w c lo hi ot _ ch oa on oc W slo shi (H * V) (biA (O i 0) ch (B i)) (O i 19) x0 y0 z0 N (by rw [← hN]; exact slen RL Rw hR i x wa lw cw ba lb cb x0 y0 z0 H V C hF hch) #[U i6 (O i 0), U i6 0, U i6 (O i 2), U i6 (O i 3), U i6 (O i 4), U i6 (O i 5), U i6 (O i 6), U i6 (O i 7), U i6 (O i 8), U i6 (O i 9), U i6 (O i 10), U i6 (O i 11), .slice wa lw cw, .slice ba lb cb, U i6 (O i 14), U i6 (O i 15), U i6 (O i 16), U i6 (O i 17), U i6 (O i 18), U i6 (O i 19), U i6 (O i 20), U i6 (O i 21)] _ _ (bfind_m h w c lo hi ot oa on oc O Z B W hL ch RL Rw hR i x wa lw cw ba lb cb x0 y0 z0 H V C hF hch slo shi hs N hN _ rfl) 47 rfl (fun W' g0 q hb hg hq => ?_)
  exact bhull_m h w c lo hi ot oa on oc O Z B W hL ch RL Rw hR i x wa lw cw ba lb cb x0 y0 z0 H V C hF hch slo shi hs N (biA (O i 0) ch (B i)) W' hb g0 q hg hq (fun E => [suS (biA (O i 0) ch (B i), biA (O i 0) ch (B i)) E]) 47 #[.pointer (some ⟨q, 0, none⟩)] (enters_of Tryz.func47 (by kernel_rfl) rfl) (fun W'' v E L nb b hb' hE h0 hl hv hn hbb hT hL => ctot_any ch (H * V) N (biA (O i 0) ch (B i)) slo shi (O i 19) x0 y0 z0 g0 q W'' ((hb'.block q (lt_of_heap hq)).trans hq) hbi v E L nb b hE h0 hl hv hn hbb hT hL) (fun E hE h0 hl => ftot hbi hE hl)
theorem brun_bad (h w c lo hi ot op ch : Int) (oa : Option Addr) (on oc : Nat) (W : World) (slo shi E : Int) (hE : E ≠ 0) (hO : (∀ W', Below W.heap.size W W' → Calls Tryz.prog 51 #[.agg #[U i6 h, U i6 w, U i6 c, U i6 lo, U i6 hi, .slice oa on oc, U i6 ot], U i6 op, U i6 ch, U i6 0] W' fun e w' => e = .returned (.tuple #[.slice none 0 0, U i6 0, U i6 E]) ∧ Below W'.heap.size W' w')) : Calls Tryz.prog 28 #[.agg #[U i6 h, U i6 w, U i6 c, U i6 lo, U i6 hi, .slice oa on oc, U i6 ot], U i6 op, U i6 ch, .agg #[U i6 slo, U i6 shi]] W fun e w' => e = .returned (.tuple #[.agg #[U i6 0, U i6 0], U i6 E]) ∧ Below W.heap.size W w' :=
 brun_e h w c lo hi ot op ch oa on oc W slo shi E hE (fun W' hb => bfind_e h w c lo hi ot op ch oa on oc W' slo shi E hE (fun W'' hb' => hO W'' (hb.trans (hb'.mono hb.size))))
theorem brun_ok (h w c lo hi ot : Int) (oa : Option Addr) (on oc : Nat) (O : Nat → Nat → Int) (Z B : Nat → List Int) (W : World) (hL : LRow W oa on oc O Z B) (ch : Int) (RL : List (Int × Int × Int)) (Rw : Int) (hR : gtR O h w c lo hi ot on = (0, 0, RL, Rw)) (i : Nat) (x : Addr) (wa : Option Addr) (lw cw : Nat) (ba : Option Addr) (lb cb : Nat) (x0 y0 z0 H V C : Int) (hF : Fnd W oa on O Z B RL i x wa lw cw ba lb cb x0 y0 z0 H V C) (hch : 1 ≤ ch ∧ ch ≤ C) (slo shi : Int) : Calls Tryz.prog 28 #[.agg #[U i6 h, U i6 w, U i6 c, U i6 lo, U i6 hi, .slice oa on oc, U i6 ot], U i6 ((i : Int) + 1), U i6 ch, .agg #[U i6 slo, U i6 shi]] W fun e w' => e = .returned (.tuple #[.agg #[U i6 (spR slo shi (hbR (biA (O i 0) ch (B i)) (fun (j : Nat) => enL slo shi (O i 19) (siL (O i 0) (O i 4) (O i 5) (O i 6) (O i 7) (O i 8) (O i 9) (O i 10) (O i 11) x0 y0 z0 ch (j : Int) (Z i))) (H * V).toNat)).1, U i6 (spR slo shi (hbR (biA (O i 0) ch (B i)) (fun (j : Nat) => enL slo shi (O i 19) (siL (O i 0) (O i 4) (O i 5) (O i 6) (O i 7) (O i 8) (O i 9) (O i 10) (O i 11) x0 y0 z0 ch (j : Int) (Z i))) (H * V).toNat)).2.1], U i6 (spR slo shi (hbR (biA (O i 0) ch (B i)) (fun (j : Nat) => enL slo shi (O i 19) (siL (O i 0) (O i 4) (O i 5) (O i 6) (O i 7) (O i 8) (O i 9) (O i 10) (O i 11) x0 y0 z0 ch (j : Int) (Z i))) (H * V).toNat)).2.2]) ∧ Below W.heap.size W w' := by
 unfold spR
 cases hs : vbB slo shi with
 | false =>
  rw [if_neg (by decide)]
  exact brun_e h w c lo hi ot _ ch oa on oc W slo shi 30 (by decide) (fun W' hb => bfind_30 h w c lo hi ot _ ch oa on oc W' slo shi _ _ hs (fun W'' hb' => bof0 h w c lo hi ot oa on oc O Z B W hL ch RL Rw hR i x wa lw cw ba lb cb x0 y0 z0 H V C hF hch W'' (hb.trans (hb'.mono hb.size))))
 | true =>
  rw [if_pos rfl]
  obtain ⟨-, -, -, -, -, hbi, -⟩ := bfacts hL RL Rw hR i x wa lw cw ba lb cb x0 y0 z0 H V C hF hch
  obtain ⟨N, hN⟩ : ∃ N, (siL (O i 0) (O i 4) (O i 5) (O i 6) (O i 7) (O i 8) (O i 9) (O i 10) (O i 11) x0 y0 z0 ch 0 (Z i)).length = N := ⟨_, rfl⟩
  refine brun_w h w c lo hi ot _ ch oa on oc W slo shi (H * V) (biA (O i 0) ch (B i)) (O i 19) x0 y0 z0 N (by rw [← hN]; exact slen RL Rw hR i x wa lw cw ba lb cb x0 y0 z0 H V C hF hch) #[U i6 (O i 0), U i6 0, U i6 (O i 2), U i6 (O i 3), U i6 (O i 4), U i6 (O i 5), U i6 (O i 6), U i6 (O i 7), U i6 (O i 8), U i6 (O i 9), U i6 (O i 10), U i6 (O i 11), .slice wa lw cw, .slice ba lb cb, U i6 (O i 14), U i6 (O i 15), U i6 (O i 16), U i6 (O i 17), U i6 (O i 18), U i6 (O i 19), U i6 (O i 20), U i6 (O i 21)] _ _ (bfind_m h w c lo hi ot oa on oc O Z B W hL ch RL Rw hR i x wa lw cw ba lb cb x0 y0 z0 H V C hF hch slo shi hs N hN _ rfl) 45 rfl (fun W' g0 q hb hg hq => ?_)
  exact bhull_m h w c lo hi ot oa on oc O Z B W hL ch RL Rw hR i x wa lw cw ba lb cb x0 y0 z0 H V C hF hch slo shi hs N (biA (O i 0) ch (B i)) W' hb g0 q hg hq (fun E => ruL (biA (O i 0) ch (B i), biA (O i 0) ch (B i)) E) 45 #[.pointer (some ⟨q, 0, none⟩)] (enters_of Tryz.func45 (by kernel_rfl) rfl) (fun W'' v E L nb b hb' hE h0 hl hv hn hbb hT hL => crun_any ch (H * V) N (biA (O i 0) ch (B i)) slo shi (O i 19) x0 y0 z0 g0 q W'' ((hb'.block q (lt_of_heap hq)).trans hq) hbi v E L nb b hE h0 hl hv hn hbb hT hL) (fun E hE h0 hl => frun hbi hE hl)
theorem bprd_bad (h w c lo hi ot op ch : Int) (oa : Option Addr) (on oc : Nat) (W : World) (slo shi E : Int) (hE : E ≠ 0) (hO : (∀ W', Below W.heap.size W W' → Calls Tryz.prog 51 #[.agg #[U i6 h, U i6 w, U i6 c, U i6 lo, U i6 hi, .slice oa on oc, U i6 ot], U i6 op, U i6 ch, U i6 0] W' fun e w' => e = .returned (.tuple #[.slice none 0 0, U i6 0, U i6 E]) ∧ Below W'.heap.size W' w')) : Calls Tryz.prog 24 #[.agg #[U i6 h, U i6 w, U i6 c, U i6 lo, U i6 hi, .slice oa on oc, U i6 ot], U i6 op, U i6 ch, .agg #[U i6 slo, U i6 shi]] W fun e w' => e = .returned (.tuple #[.agg #[U i6 0, U i6 0], U i6 E]) ∧ Below W.heap.size W w' :=
 bprd_e h w c lo hi ot op ch oa on oc W slo shi E hE (fun W' hb => bfind_e h w c lo hi ot op ch oa on oc W' slo shi E hE (fun W'' hb' => hO W'' (hb.trans (hb'.mono hb.size))))
theorem bprd_ok (h w c lo hi ot : Int) (oa : Option Addr) (on oc : Nat) (O : Nat → Nat → Int) (Z B : Nat → List Int) (W : World) (hL : LRow W oa on oc O Z B) (ch : Int) (RL : List (Int × Int × Int)) (Rw : Int) (hR : gtR O h w c lo hi ot on = (0, 0, RL, Rw)) (i : Nat) (x : Addr) (wa : Option Addr) (lw cw : Nat) (ba : Option Addr) (lb cb : Nat) (x0 y0 z0 H V C : Int) (hF : Fnd W oa on O Z B RL i x wa lw cw ba lb cb x0 y0 z0 H V C) (hch : 1 ≤ ch ∧ ch ≤ C) (slo shi : Int) : Calls Tryz.prog 24 #[.agg #[U i6 h, U i6 w, U i6 c, U i6 lo, U i6 hi, .slice oa on oc, U i6 ot], U i6 ((i : Int) + 1), U i6 ch, .agg #[U i6 slo, U i6 shi]] W fun e w' => e = .returned (.tuple #[.agg #[U i6 (spR slo shi (hbP (fun (j : Nat) => enL slo shi (O i 19) (siL (O i 0) (O i 4) (O i 5) (O i 6) (O i 7) (O i 8) (O i 9) (O i 10) (O i 11) x0 y0 z0 ch (j : Int) (Z i))) (H * V).toNat)).1, U i6 (spR slo shi (hbP (fun (j : Nat) => enL slo shi (O i 19) (siL (O i 0) (O i 4) (O i 5) (O i 6) (O i 7) (O i 8) (O i 9) (O i 10) (O i 11) x0 y0 z0 ch (j : Int) (Z i))) (H * V).toNat)).2.1], U i6 (spR slo shi (hbP (fun (j : Nat) => enL slo shi (O i 19) (siL (O i 0) (O i 4) (O i 5) (O i 6) (O i 7) (O i 8) (O i 9) (O i 10) (O i 11) x0 y0 z0 ch (j : Int) (Z i))) (H * V).toNat)).2.2]) ∧ Below W.heap.size W w' := by
 unfold spR
 cases hs : vbB slo shi with
 | false =>
  rw [if_neg (by decide)]
  exact bprd_e h w c lo hi ot _ ch oa on oc W slo shi 30 (by decide) (fun W' hb => bfind_30 h w c lo hi ot _ ch oa on oc W' slo shi _ _ hs (fun W'' hb' => bof0 h w c lo hi ot oa on oc O Z B W hL ch RL Rw hR i x wa lw cw ba lb cb x0 y0 z0 H V C hF hch W'' (hb.trans (hb'.mono hb.size))))
 | true =>
  rw [if_pos rfl]
  obtain ⟨-, -, -, -, -, hbi, -⟩ := bfacts hL RL Rw hR i x wa lw cw ba lb cb x0 y0 z0 H V C hF hch
  obtain ⟨N, hN⟩ : ∃ N, (siL (O i 0) (O i 4) (O i 5) (O i 6) (O i 7) (O i 8) (O i 9) (O i 10) (O i 11) x0 y0 z0 ch 0 (Z i)).length = N := ⟨_, rfl⟩
  refine bprd_w h w c lo hi ot _ ch oa on oc W slo shi (H * V) (biA (O i 0) ch (B i)) (O i 19) x0 y0 z0 N (by rw [← hN]; exact slen RL Rw hR i x wa lw cw ba lb cb x0 y0 z0 H V C hF hch) #[U i6 (O i 0), U i6 0, U i6 (O i 2), U i6 (O i 3), U i6 (O i 4), U i6 (O i 5), U i6 (O i 6), U i6 (O i 7), U i6 (O i 8), U i6 (O i 9), U i6 (O i 10), U i6 (O i 11), .slice wa lw cw, .slice ba lb cb, U i6 (O i 14), U i6 (O i 15), U i6 (O i 16), U i6 (O i 17), U i6 (O i 18), U i6 (O i 19), U i6 (O i 20), U i6 (O i 21)] _ _ (bfind_m h w c lo hi ot oa on oc O Z B W hL ch RL Rw hR i x wa lw cw ba lb cb x0 y0 z0 H V C hF hch slo shi hs N hN _ rfl) 44 rfl (fun W' g0 q hb hg hq => ?_)
  exact bhull_m h w c lo hi ot oa on oc O Z B W hL ch RL Rw hR i x wa lw cw ba lb cb x0 y0 z0 H V C hF hch slo shi hs N (biA (O i 0) ch (B i)) W' hb g0 q hg hq (fun E => E) 44 #[] (enters_of Tryz.func44 (by kernel_rfl) rfl) (fun W'' v E L nb b hb' hE h0 hl hv hn hbb hT hL => cprd_any W'' v E L nb b hE h0 hl hv hn hbb hT hL) (fun E hE h0 hl => hE.vd)
theorem bprt_bad (h w c lo hi ot op ch : Int) (oa : Option Addr) (on oc : Nat) (W : World) (slo shi dp E : Int) (hE : E ≠ 0) (hO : (∀ W', Below W.heap.size W W' → Calls Tryz.prog 51 #[.agg #[U i6 h, U i6 w, U i6 c, U i6 lo, U i6 hi, .slice oa on oc, U i6 ot], U i6 op, U i6 ch, U i6 0] W' fun e w' => e = .returned (.tuple #[.slice none 0 0, U i6 0, U i6 E]) ∧ Below W'.heap.size W' w')) : Calls Tryz.prog 15 #[.agg #[U i6 h, U i6 w, U i6 c, U i6 lo, U i6 hi, .slice oa on oc, U i6 ot], U i6 op, U i6 ch, .agg #[U i6 slo, U i6 shi], U i6 dp] W fun e w' => e = .returned (.tuple #[.agg #[U i6 0, U i6 0], U i6 E]) ∧ Below W.heap.size W w' :=
 bprt_e h w c lo hi ot op ch oa on oc W slo shi dp E hE (fun W' hb => bfind_e h w c lo hi ot op ch oa on oc W' slo shi E hE (fun W'' hb' => hO W'' (hb.trans (hb'.mono hb.size))))
theorem bprt_ok (h w c lo hi ot : Int) (oa : Option Addr) (on oc : Nat) (O : Nat → Nat → Int) (Z B : Nat → List Int) (W : World) (hL : LRow W oa on oc O Z B) (ch : Int) (RL : List (Int × Int × Int)) (Rw : Int) (hR : gtR O h w c lo hi ot on = (0, 0, RL, Rw)) (i : Nat) (x : Addr) (wa : Option Addr) (lw cw : Nat) (ba : Option Addr) (lb cb : Nat) (x0 y0 z0 H V C : Int) (hF : Fnd W oa on O Z B RL i x wa lw cw ba lb cb x0 y0 z0 H V C) (hch : 1 ≤ ch ∧ ch ≤ C) (slo shi dp : Int) (N : Nat) (hN : (siL (O i 0) (O i 4) (O i 5) (O i 6) (O i 7) (O i 8) (O i 9) (O i 10) (O i 11) x0 y0 z0 ch 0 (Z i)).length = N) : Calls Tryz.prog 15 #[.agg #[U i6 h, U i6 w, U i6 c, U i6 lo, U i6 hi, .slice oa on oc, U i6 ot], U i6 ((i : Int) + 1), U i6 ch, .agg #[U i6 slo, U i6 shi], U i6 dp] W fun e w' => e = .returned (.tuple #[.agg #[U i6 (spD slo shi dp N (hbD dp.toNat (fun (j : Nat) => enL slo shi (O i 19) (siL (O i 0) (O i 4) (O i 5) (O i 6) (O i 7) (O i 8) (O i 9) (O i 10) (O i 11) x0 y0 z0 ch (j : Int) (Z i))) (H * V).toNat)).1, U i6 (spD slo shi dp N (hbD dp.toNat (fun (j : Nat) => enL slo shi (O i 19) (siL (O i 0) (O i 4) (O i 5) (O i 6) (O i 7) (O i 8) (O i 9) (O i 10) (O i 11) x0 y0 z0 ch (j : Int) (Z i))) (H * V).toNat)).2.1], U i6 (spD slo shi dp N (hbD dp.toNat (fun (j : Nat) => enL slo shi (O i 19) (siL (O i 0) (O i 4) (O i 5) (O i 6) (O i 7) (O i 8) (O i 9) (O i 10) (O i 11) x0 y0 z0 ch (j : Int) (Z i))) (H * V).toNat)).2.2]) ∧ Below W.heap.size W w' := by
 unfold spD
 have hN5 : N ≤ 512 := by rw [← hN]; exact slen RL Rw hR i x wa lw cw ba lb cb x0 y0 z0 H V C hF hch
 cases hs : vbB slo shi with
 | false =>
  rw [if_neg (by decide)]
  exact bprt_e h w c lo hi ot _ ch oa on oc W slo shi dp 30 (by decide) (fun W' hb => bfind_30 h w c lo hi ot _ ch oa on oc W' slo shi _ _ hs (fun W'' hb' => bof0 h w c lo hi ot oa on oc O Z B W hL ch RL Rw hR i x wa lw cw ba lb cb x0 y0 z0 H V C hF hch W'' (hb.trans (hb'.mono hb.size))))
 | true =>
  rw [if_pos rfl]
  have hFm := bfind_m h w c lo hi ot oa on oc O Z B W hL ch RL Rw hR i x wa lw cw ba lb cb x0 y0 z0 H V C hF hch slo shi hs N hN _ rfl
  by_cases hd : 1 ≤ dp ∧ dp ≤ (N : Int)
  ·rw [if_pos hd]
   obtain ⟨d, rfl⟩ := Int.eq_ofNat_of_zero_le (show 0 ≤ dp by omega)
   rw [Int.toNat_natCast]
   have hbf := bfacts hL RL Rw hR i x wa lw cw ba lb cb x0 y0 z0 H V C hF hch
   have hrf := row_facts (hbf.1.si hbf.2.1) hF.2.2.2.2.2.1.2.2.2.1 hch (vbB_yes hs) hbf.2.2.2.2.1 0
   have hpi := piT_it (show 0 < d by omega) (fun (j : Nat) => enL slo shi (O i 19) (siL (O i 0) (O i 4) (O i 5) (O i 6) (O i 7) (O i 8) (O i 9) (O i 10) (O i 11) x0 y0 z0 ch (j : Int) (Z i))) (H * V).toNat (by omega) hrf.2.1
   unfold hbD
   rw [hpi]
   refine bprt_w h w c lo hi ot _ ch oa on oc W slo shi d (H * V) (biA (O i 0) ch (B i)) (O i 19) x0 y0 z0 N hN5 #[U i6 (O i 0), U i6 0, U i6 (O i 2), U i6 (O i 3), U i6 (O i 4), U i6 (O i 5), U i6 (O i 6), U i6 (O i 7), U i6 (O i 8), U i6 (O i 9), U i6 (O i 10), U i6 (O i 11), .slice wa lw cw, .slice ba lb cb, U i6 (O i 14), U i6 (O i 15), U i6 (O i 16), U i6 (O i 17), U i6 (O i 18), U i6 (O i 19), U i6 (O i 20), U i6 (O i 21)] _ _ hFm ⟨by omega, by omega⟩ (fun W' g0 q r hb hg hq hr => ?_)
   exact bhull_m h w c lo hi ot oa on oc O Z B W hL ch RL Rw hR i x wa lw cw ba lb cb x0 y0 z0 H V C hF hch slo shi hs N (biA (O i 0) ch (B i)) W' hb g0 q hg hq (fun E => itL d E) 37 #[.pointer (some ⟨r, 0, none⟩)] (enters_of Tryz.func37 (by kernel_rfl) rfl) (fun W'' v E L nb b hb' hE h0 hl hv hn hbb hT hL => cprt_any W'' d r ((hb'.block r (lt_of_heap hr)).trans hr) (by omega) (by omega) v E L nb b hE h0 hl hv hn hbb hT hL) (fun E hE h0 hl => fprt hE hl)
  ·rw [if_neg hd]
   exact bprt_d h w c lo hi ot _ ch oa on oc W slo shi dp (H * V) (biA (O i 0) ch (B i)) (O i 19) x0 y0 z0 N hN5 #[U i6 (O i 0), U i6 0, U i6 (O i 2), U i6 (O i 3), U i6 (O i 4), U i6 (O i 5), U i6 (O i 6), U i6 (O i 7), U i6 (O i 8), U i6 (O i 9), U i6 (O i 10), U i6 (O i 11), .slice wa lw cw, .slice ba lb cb, U i6 (O i 14), U i6 (O i 15), U i6 (O i 16), U i6 (O i 17), U i6 (O i 18), U i6 (O i 19), U i6 (O i 20), U i6 (O i 21)] 0 0 hFm hd
end Go.Proofs.YtgiohlcipndakaaGreat
