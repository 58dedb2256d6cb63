/- The walks of Total, Run, Part and Product of package bound. What Total, Run, Part and Product answer of a model: the error, or the hull. Sums of weights, in plain numbers, and what they say at once. What the answers of package bound hold, in plain numbers: one another; over wider spans; Quick. The four hulls in plain numbers: what is known of them, how they lie in one another, wider spans. The depths that are safe, in plain numbers: none but those where the products fit; wider spans; the best plan. -/
import Derived.Test.YtgiohlcipndakaaGr14
import Derived.Test.YtgiohlcipndakaaGr24
import Derived.Test.YtgiohlcipndakaaGr25
/- The walks of Total, Run, Part and Product of package bound. -/
namespace Go.Proofs.Ytgiohlcipndakaa
open Go.ChangeShapes Go.WideShapes Go.ChangeAt Go.RowKit Go.Shelf
set_option linter.unusedVariables false
set_option maxRecDepth 100000 in
set_option maxHeartbeats 2000000 in
theorem btot_e (h w c lo hi ot op ch : Int) (oa : Option Addr) (on oc : Nat) (W : World) (slo shi : Int) (E : Int) (hE : E ≠ 0) (hFd : ∀ W', Below W.heap.size W W' → Calls Try.prog 23 #[.agg #[.int .i64 h, .int .i64 w, .int .i64 c, .int .i64 lo, .int .i64 hi, .slice oa on oc, .int .i64 ot], .int .i64 op, .int .i64 ch, .agg #[.int .i64 slo, .int .i64 shi]] W' fun e w' => e = .returned (.tuple #[.agg #[.int .i64 0, .int .i64 0, .int .i64 0, .int .i64 0, .int .i64 0, .int .i64 0, .int .i64 0, .int .i64 0, .int .i64 0, .int .i64 0, .int .i64 0, .int .i64 0, .int .i64 0, .slice none 0 0, .int .i64 0], .int .i64 E]) ∧ Below W'.heap.size W' w') : Calls Try.prog 33 #[.agg #[.int .i64 h, .int .i64 w, .int .i64 c, .int .i64 lo, .int .i64 hi, .slice oa on oc, .int .i64 ot], .int .i64 op, .int .i64 ch, .agg #[.int .i64 slo, .int .i64 shi]] W fun e w' => e = .returned (.tuple #[.agg #[.int .i64 0, .int .i64 0], .int .i64 E]) ∧ Below W.heap.size W w' := by
  have HF : Hid (∀ W', Below W.heap.size W W' → _) := hFd
  have hE' : (E == 0) = false := by simp [hE]
  have s0 := (((St.start W).new (c := #[.int .i64 h, .int .i64 w, .int .i64 c, .int .i64 lo, .int .i64 hi, .slice oa on oc, .int .i64 ot]) (t := 26)).new (c := #[.int .i64 slo, .int .i64 shi]) (t := 28)).new (c := #[.int .i64 0, .int .i64 0]) (t := 28)
  simp only [World.size_alloc] at s0
  clear hFd
  go_enter Try.func33, Try.ntmps33
  go_wp2_with fail
  refine (HF.out _ s0.below).mono ?_
  rintro e w1 ⟨rfl, hb⟩
  have s1 := (s0.call hb).new (c := #[.int .i64 0, .int .i64 0, .int .i64 0, .int .i64 0, .int .i64 0, .int .i64 0, .int .i64 0, .int .i64 0, .int .i64 0, .int .i64 0, .int .i64 0, .int .i64 0, .int .i64 0, .slice none 0 0, .int .i64 0]) (t := 67)
  have S1 : Hid (St W _ _) := s1
  clear hb s0 HF
  go_upto_region 2 with (refine wpList_st_new rfl 67 (.tmp 10) (.tmp 18) rfl w1 _ #[.int .i64 0, .int .i64 0, .int .i64 0, .int .i64 0, .int .i64 0, .int .i64 0, .int .i64 0, .int .i64 0, .int .i64 0, .int .i64 0, .int .i64 0, .int .i64 0, .int .i64 0, .slice none 0 0, .int .i64 0] rfl rfl (by kernel_rfl) rfl (by simp [Value.oneCell']) ?_)
  obtain ⟨w2, hw2⟩ : ∃ w2, w1.alloc (.cells #[.int .i64 0, .int .i64 0, .int .i64 0, .int .i64 0, .int .i64 0, .int .i64 0, .int .i64 0, .int .i64 0, .int .i64 0, .int .i64 0, .int .i64 0, .int .i64 0, .int .i64 0, .slice none 0 0, .int .i64 0] 67) = w2 := ⟨_, rfl⟩
  rw [hw2] at s1 S1 ⊢
  obtain ⟨-, -, -, c1, f1, z1, -⟩ := s1.rules
  have HB : Hid (Below W.heap.size W _) := s1.tail.out2 (i := 0) (j := 1) (u := .int .i64 0) (v := .int .i64 0)
  clear s1 hw2
  go_wp2
  exact bodyPost_ret (v := .tuple #[.agg #[.int .i64 0, .int .i64 0], .int .i64 E]) (by simp [results, Try.results33, go_sem, c1]) rfl ⟨rfl, HB.out⟩
set_option maxRecDepth 100000 in
set_option maxHeartbeats 2000000 in
theorem btot_w (h w c lo hi ot op ch : Int) (oa : Option Addr) (on oc : Nat) (W : World) (slo shi : Int) (n bi p x0 y0 z0 : Int) (N : Nat) (hN : N ≤ 512) (op0 : Array Value) (X Y : Int) (hFd : ∀ W', Below W.heap.size W W' → Calls Try.prog 23 #[.agg #[.int .i64 h, .int .i64 w, .int .i64 c, .int .i64 lo, .int .i64 hi, .slice oa on oc, .int .i64 ot], .int .i64 op, .int .i64 ch, .agg #[.int .i64 slo, .int .i64 shi]] W' fun e w' => ∃ g0, e = .returned (.tuple #[.agg #[.int .i64 ch, .int .i64 n, .int .i64 (N : Int), .int .i64 bi, .int .i64 slo, .int .i64 shi, .int .i64 p, .int .i64 p, .int .i64 x0, .int .i64 y0, .int .i64 z0, .int .i64 0, .int .i64 0, .slice (some ⟨g0, 0, none⟩) 1 1, .int .i64 0], .int .i64 0]) ∧ w'.heap[g0]? = some (.cells op0 59 (0, 0)) ∧ W'.heap.size ≤ g0 ∧ Below W'.heap.size W' w') (gf : Nat)
    (hgf : gf = 49)
    (hHl : ∀ W' (g0 q : Nat), Below W.heap.size W W' → W'.heap[g0]? = some (.cells op0 59 (0, 0)) → W'.heap[q]? = some (.cells #[.int .i64 ch, .int .i64 n, .int .i64 (N : Int), .int .i64 bi, .int .i64 slo, .int .i64 shi, .int .i64 p, .int .i64 p, .int .i64 x0, .int .i64 y0, .int .i64 z0, .int .i64 0, .int .i64 0, .slice (some ⟨g0, 0, none⟩) 1 1, .int .i64 0] 67 (0, 0)) → Calls Try.prog 24 #[.pointer (some ⟨q, 0, none⟩), .func (.func gf) #[] #[.pointer (some ⟨q, 0, none⟩)]] W' fun e w' => e = .returned (.agg #[.int .i64 X, .int .i64 Y]) ∧ Below W'.heap.size W' w') :
    Calls Try.prog 33 #[.agg #[.int .i64 h, .int .i64 w, .int .i64 c, .int .i64 lo, .int .i64 hi, .slice oa on oc, .int .i64 ot], .int .i64 op, .int .i64 ch, .agg #[.int .i64 slo, .int .i64 shi]] W fun e w' => e = .returned (.tuple #[.agg #[.int .i64 X, .int .i64 Y], .int .i64 0]) ∧ Below W.heap.size W w' := by
  have hmf : ∀ (fn : Fn) (first cap : Array Value) (w : World), (Instr.makeFunc fn first cap).run Try.prog w = .ok (.func fn first cap) w := fun _ _ _ _ => rfl
  have HF : Hid (∀ W', Below W.heap.size W W' → _) := hFd
  have HH : Hid (∀ W' (g0 q : Nat), Below W.heap.size W W' → W'.heap[g0]? = some (.cells op0 59 (0, 0)) → W'.heap[q]? = some (.cells #[.int .i64 ch, .int .i64 n, .int .i64 (N : Int), .int .i64 bi, .int .i64 slo, .int .i64 shi, .int .i64 p, .int .i64 p, .int .i64 x0, .int .i64 y0, .int .i64 z0, .int .i64 0, .int .i64 0, .slice (some ⟨g0, 0, none⟩) 1 1, .int .i64 0] 67 (0, 0)) → _) := hHl
  rw [hgf] at HH
  have s0 := (((St.start W).new (c := #[.int .i64 h, .int .i64 w, .int .i64 c, .int .i64 lo, .int .i64 hi, .slice oa on oc, .int .i64 ot]) (t := 26)).new (c := #[.int .i64 slo, .int .i64 shi]) (t := 28)).new (c := #[.int .i64 0, .int .i64 0]) (t := 28)
  simp only [World.size_alloc] at s0
  clear hFd hHl hgf
  go_enter Try.func33, Try.ntmps33
  go_wp2_with fail
  refine (HF.out _ s0.below).mono ?_
  rintro e w1 ⟨g0, rfl, hg0, -, hb⟩
  have s1 := (s0.call hb).new (c := #[.int .i64 ch, .int .i64 n, .int .i64 (N : Int), .int .i64 bi, .int .i64 slo, .int .i64 shi, .int .i64 p, .int .i64 p, .int .i64 x0, .int .i64 y0, .int .i64 z0, .int .i64 0, .int .i64 0, .slice (some ⟨g0, 0, none⟩) 1 1, .int .i64 0]) (t := 67)
  have S1 : Hid (St W _ _) := s1
  have hg1 : Hid ((w1.alloc (.cells #[.int .i64 ch, .int .i64 n, .int .i64 (N : Int), .int .i64 bi, .int .i64 slo, .int .i64 shi, .int .i64 p, .int .i64 p, .int .i64 x0, .int .i64 y0, .int .i64 z0, .int .i64 0, .int .i64 0, .slice (some ⟨g0, 0, none⟩) 1 1, .int .i64 0] 67)).heap[g0]? = some (.cells op0 59 (0, 0))) := (heap_alloc_old w1 _ (lt_of_heap hg0)).trans hg0
  clear hb s0 HF hg0
  go_upto_region 2 with (refine wpList_st_new rfl 67 (.tmp 10) (.tmp 18) rfl w1 _ #[.int .i64 ch, .int .i64 n, .int .i64 (N : Int), .int .i64 bi, .int .i64 slo, .int .i64 shi, .int .i64 p, .int .i64 p, .int .i64 x0, .int .i64 y0, .int .i64 z0, .int .i64 0, .int .i64 0, .slice (some ⟨g0, 0, none⟩) 1 1, .int .i64 0] rfl rfl (by kernel_rfl) rfl (by simp [Value.oneCell']) ?_)
  obtain ⟨q, hq⟩ : ∃ q, w1.heap.size = q := ⟨_, rfl⟩
  obtain ⟨w2, hw2⟩ : ∃ w2, w1.alloc (.cells #[.int .i64 ch, .int .i64 n, .int .i64 (N : Int), .int .i64 bi, .int .i64 slo, .int .i64 shi, .int .i64 p, .int .i64 p, .int .i64 x0, .int .i64 y0, .int .i64 z0, .int .i64 0, .int .i64 0, .slice (some ⟨g0, 0, none⟩) 1 1, .int .i64 0] 67) = w2 := ⟨_, rfl⟩
  rw [hw2] at S1 hg1 ⊢
  rw [hq] at S1 ⊢
  clear s1 hw2 hq
  have HC : Hid _ := HH.out w2 g0 q S1.out.below hg1.out S1.out.h1
  clear HH hg1
  go_wp2_with fail
  refine Calls.mono HC.out ?_
  rintro e w3 ⟨rfl, hb⟩
  have s3 := S1.out.call hb
  obtain ⟨-, -, -, c1, f1, z1, -⟩ := s3.rules
  have HB : Hid (Below W.heap.size W _) := s3.tail.out2 (i := 0) (j := 1) (u := .int .i64 X) (v := .int .i64 Y)
  clear s3 hb S1
  go_wp2
  exact bodyPost_ret (v := .tuple #[.agg #[.int .i64 X, .int .i64 Y], .int .i64 0]) (by simp [results, Try.results33, go_sem, c1]) rfl ⟨rfl, HB.out⟩
set_option maxRecDepth 100000 in
set_option maxHeartbeats 2000000 in
theorem brun_e (h w c lo hi ot op ch : Int) (oa : Option Addr) (on oc : Nat) (W : World) (slo shi : Int) (E : Int) (hE : E ≠ 0) (hFd : ∀ W', Below W.heap.size W W' → Calls Try.prog 23 #[.agg #[.int .i64 h, .int .i64 w, .int .i64 c, .int .i64 lo, .int .i64 hi, .slice oa on oc, .int .i64 ot], .int .i64 op, .int .i64 ch, .agg #[.int .i64 slo, .int .i64 shi]] W' fun e w' => e = .returned (.tuple #[.agg #[.int .i64 0, .int .i64 0, .int .i64 0, .int .i64 0, .int .i64 0, .int .i64 0, .int .i64 0, .int .i64 0, .int .i64 0, .int .i64 0, .int .i64 0, .int .i64 0, .int .i64 0, .slice none 0 0, .int .i64 0], .int .i64 E]) ∧ Below W'.heap.size W' w') : Calls Try.prog 31 #[.agg #[.int .i64 h, .int .i64 w, .int .i64 c, .int .i64 lo, .int .i64 hi, .slice oa on oc, .int .i64 ot], .int .i64 op, .int .i64 ch, .agg #[.int .i64 slo, .int .i64 shi]] W fun e w' => e = .returned (.tuple #[.agg #[.int .i64 0, .int .i64 0], .int .i64 E]) ∧ Below W.heap.size W w' := by
  have HF : Hid (∀ W', Below W.heap.size W W' → _) := hFd
  have hE' : (E == 0) = false := by simp [hE]
  have s0 := (((St.start W).new (c := #[.int .i64 h, .int .i64 w, .int .i64 c, .int .i64 lo, .int .i64 hi, .slice oa on oc, .int .i64 ot]) (t := 26)).new (c := #[.int .i64 slo, .int .i64 shi]) (t := 28)).new (c := #[.int .i64 0, .int .i64 0]) (t := 28)
  simp only [World.size_alloc] at s0
  clear hFd
  go_enter Try.func31, Try.ntmps31
  go_wp2_with fail
  refine (HF.out _ s0.below).mono ?_
  rintro e w1 ⟨rfl, hb⟩
  have s1 := (s0.call hb).new (c := #[.int .i64 0, .int .i64 0, .int .i64 0, .int .i64 0, .int .i64 0, .int .i64 0, .int .i64 0, .int .i64 0, .int .i64 0, .int .i64 0, .int .i64 0, .int .i64 0, .int .i64 0, .slice none 0 0, .int .i64 0]) (t := 67)
  have S1 : Hid (St W _ _) := s1
  clear hb s0 HF
  go_upto_region 2 with (refine wpList_st_new rfl 67 (.tmp 10) (.tmp 18) rfl w1 _ #[.int .i64 0, .int .i64 0, .int .i64 0, .int .i64 0, .int .i64 0, .int .i64 0, .int .i64 0, .int .i64 0, .int .i64 0, .int .i64 0, .int .i64 0, .int .i64 0, .int .i64 0, .slice none 0 0, .int .i64 0] rfl rfl (by kernel_rfl) rfl (by simp [Value.oneCell']) ?_)
  obtain ⟨w2, hw2⟩ : ∃ w2, w1.alloc (.cells #[.int .i64 0, .int .i64 0, .int .i64 0, .int .i64 0, .int .i64 0, .int .i64 0, .int .i64 0, .int .i64 0, .int .i64 0, .int .i64 0, .int .i64 0, .int .i64 0, .int .i64 0, .slice none 0 0, .int .i64 0] 67) = w2 := ⟨_, rfl⟩
  rw [hw2] at s1 S1 ⊢
  obtain ⟨-, -, -, c1, f1, z1, -⟩ := s1.rules
  have HB : Hid (Below W.heap.size W _) := s1.tail.out2 (i := 0) (j := 1) (u := .int .i64 0) (v := .int .i64 0)
  clear s1 hw2
  go_wp2
  exact bodyPost_ret (v := .tuple #[.agg #[.int .i64 0, .int .i64 0], .int .i64 E]) (by simp [results, Try.results31, go_sem, c1]) rfl ⟨rfl, HB.out⟩
set_option maxRecDepth 100000 in
set_option maxHeartbeats 2000000 in
theorem brun_w (h w c lo hi ot op ch : Int) (oa : Option Addr) (on oc : Nat) (W : World) (slo shi : Int) (n bi p x0 y0 z0 : Int) (N : Nat) (hN : N ≤ 512) (op0 : Array Value) (X Y : Int) (hFd : ∀ W', Below W.heap.size W W' → Calls Try.prog 23 #[.agg #[.int .i64 h, .int .i64 w, .int .i64 c, .int .i64 lo, .int .i64 hi, .slice oa on oc, .int .i64 ot], .int .i64 op, .int .i64 ch, .agg #[.int .i64 slo, .int .i64 shi]] W' fun e w' => ∃ g0, e = .returned (.tuple #[.agg #[.int .i64 ch, .int .i64 n, .int .i64 (N : Int), .int .i64 bi, .int .i64 slo, .int .i64 shi, .int .i64 p, .int .i64 p, .int .i64 x0, .int .i64 y0, .int .i64 z0, .int .i64 0, .int .i64 0, .slice (some ⟨g0, 0, none⟩) 1 1, .int .i64 0], .int .i64 0]) ∧ w'.heap[g0]? = some (.cells op0 59 (0, 0)) ∧ W'.heap.size ≤ g0 ∧ Below W'.heap.size W' w') (gf : Nat)
    (hgf : gf = 48)
    (hHl : ∀ W' (g0 q : Nat), Below W.heap.size W W' → W'.heap[g0]? = some (.cells op0 59 (0, 0)) → W'.heap[q]? = some (.cells #[.int .i64 ch, .int .i64 n, .int .i64 (N : Int), .int .i64 bi, .int .i64 slo, .int .i64 shi, .int .i64 p, .int .i64 p, .int .i64 x0, .int .i64 y0, .int .i64 z0, .int .i64 0, .int .i64 0, .slice (some ⟨g0, 0, none⟩) 1 1, .int .i64 0] 67 (0, 0)) → Calls Try.prog 24 #[.pointer (some ⟨q, 0, none⟩), .func (.func gf) #[] #[.pointer (some ⟨q, 0, none⟩)]] W' fun e w' => e = .returned (.agg #[.int .i64 X, .int .i64 Y]) ∧ Below W'.heap.size W' w') :
    Calls Try.prog 31 #[.agg #[.int .i64 h, .int .i64 w, .int .i64 c, .int .i64 lo, .int .i64 hi, .slice oa on oc, .int .i64 ot], .int .i64 op, .int .i64 ch, .agg #[.int .i64 slo, .int .i64 shi]] W fun e w' => e = .returned (.tuple #[.agg #[.int .i64 X, .int .i64 Y], .int .i64 0]) ∧ Below W.heap.size W w' := by
  have hmf : ∀ (fn : Fn) (first cap : Array Value) (w : World), (Instr.makeFunc fn first cap).run Try.prog w = .ok (.func fn first cap) w := fun _ _ _ _ => rfl
  have HF : Hid (∀ W', Below W.heap.size W W' → _) := hFd
  have HH : Hid (∀ W' (g0 q : Nat), Below W.heap.size W W' → W'.heap[g0]? = some (.cells op0 59 (0, 0)) → W'.heap[q]? = some (.cells #[.int .i64 ch, .int .i64 n, .int .i64 (N : Int), .int .i64 bi, .int .i64 slo, .int .i64 shi, .int .i64 p, .int .i64 p, .int .i64 x0, .int .i64 y0, .int .i64 z0, .int .i64 0, .int .i64 0, .slice (some ⟨g0, 0, none⟩) 1 1, .int .i64 0] 67 (0, 0)) → _) := hHl
  rw [hgf] at HH
  have s0 := (((St.start W).new (c := #[.int .i64 h, .int .i64 w, .int .i64 c, .int .i64 lo, .int .i64 hi, .slice oa on oc, .int .i64 ot]) (t := 26)).new (c := #[.int .i64 slo, .int .i64 shi]) (t := 28)).new (c := #[.int .i64 0, .int .i64 0]) (t := 28)
  simp only [World.size_alloc] at s0
  clear hFd hHl hgf
  go_enter Try.func31, Try.ntmps31
  go_wp2_with fail
  refine (HF.out _ s0.below).mono ?_
  rintro e w1 ⟨g0, rfl, hg0, -, hb⟩
  have s1 := (s0.call hb).new (c := #[.int .i64 ch, .int .i64 n, .int .i64 (N : Int), .int .i64 bi, .int .i64 slo, .int .i64 shi, .int .i64 p, .int .i64 p, .int .i64 x0, .int .i64 y0, .int .i64 z0, .int .i64 0, .int .i64 0, .slice (some ⟨g0, 0, none⟩) 1 1, .int .i64 0]) (t := 67)
  have S1 : Hid (St W _ _) := s1
  have hg1 : Hid ((w1.alloc (.cells #[.int .i64 ch, .int .i64 n, .int .i64 (N : Int), .int .i64 bi, .int .i64 slo, .int .i64 shi, .int .i64 p, .int .i64 p, .int .i64 x0, .int .i64 y0, .int .i64 z0, .int .i64 0, .int .i64 0, .slice (some ⟨g0, 0, none⟩) 1 1, .int .i64 0] 67)).heap[g0]? = some (.cells op0 59 (0, 0))) := (heap_alloc_old w1 _ (lt_of_heap hg0)).trans hg0
  clear hb s0 HF hg0
  go_upto_region 2 with (refine wpList_st_new rfl 67 (.tmp 10) (.tmp 18) rfl w1 _ #[.int .i64 ch, .int .i64 n, .int .i64 (N : Int), .int .i64 bi, .int .i64 slo, .int .i64 shi, .int .i64 p, .int .i64 p, .int .i64 x0, .int .i64 y0, .int .i64 z0, .int .i64 0, .int .i64 0, .slice (some ⟨g0, 0, none⟩) 1 1, .int .i64 0] rfl rfl (by kernel_rfl) rfl (by simp [Value.oneCell']) ?_)
  obtain ⟨q, hq⟩ : ∃ q, w1.heap.size = q := ⟨_, rfl⟩
  obtain ⟨w2, hw2⟩ : ∃ w2, w1.alloc (.cells #[.int .i64 ch, .int .i64 n, .int .i64 (N : Int), .int .i64 bi, .int .i64 slo, .int .i64 shi, .int .i64 p, .int .i64 p, .int .i64 x0, .int .i64 y0, .int .i64 z0, .int .i64 0, .int .i64 0, .slice (some ⟨g0, 0, none⟩) 1 1, .int .i64 0] 67) = w2 := ⟨_, rfl⟩
  rw [hw2] at S1 hg1 ⊢
  rw [hq] at S1 ⊢
  clear s1 hw2 hq
  have HC : Hid _ := HH.out w2 g0 q S1.out.below hg1.out S1.out.h1
  clear HH hg1
  go_wp2_with fail
  refine Calls.mono HC.out ?_
  rintro e w3 ⟨rfl, hb⟩
  have s3 := S1.out.call hb
  obtain ⟨-, -, -, c1, f1, z1, -⟩ := s3.rules
  have HB : Hid (Below W.heap.size W _) := s3.tail.out2 (i := 0) (j := 1) (u := .int .i64 X) (v := .int .i64 Y)
  clear s3 hb S1
  go_wp2
  exact bodyPost_ret (v := .tuple #[.agg #[.int .i64 X, .int .i64 Y], .int .i64 0]) (by simp [results, Try.results31, go_sem, c1]) rfl ⟨rfl, HB.out⟩
set_option maxRecDepth 100000 in
set_option maxHeartbeats 2000000 in
theorem bprd_e (h w c lo hi ot op ch : Int) (oa : Option Addr) (on oc : Nat) (W : World) (slo shi : Int) (E : Int) (hE : E ≠ 0) (hFd : ∀ W', Below W.heap.size W W' → Calls Try.prog 23 #[.agg #[.int .i64 h, .int .i64 w, .int .i64 c, .int .i64 lo, .int .i64 hi, .slice oa on oc, .int .i64 ot], .int .i64 op, .int .i64 ch, .agg #[.int .i64 slo, .int .i64 shi]] W' fun e w' => e = .returned (.tuple #[.agg #[.int .i64 0, .int .i64 0, .int .i64 0, .int .i64 0, .int .i64 0, .int .i64 0, .int .i64 0, .int .i64 0, .int .i64 0, .int .i64 0, .int .i64 0, .int .i64 0, .int .i64 0, .slice none 0 0, .int .i64 0], .int .i64 E]) ∧ Below W'.heap.size W' w') : Calls Try.prog 9 #[.agg #[.int .i64 h, .int .i64 w, .int .i64 c, .int .i64 lo, .int .i64 hi, .slice oa on oc, .int .i64 ot], .int .i64 op, .int .i64 ch, .agg #[.int .i64 slo, .int .i64 shi]] W fun e w' => e = .returned (.tuple #[.agg #[.int .i64 0, .int .i64 0], .int .i64 E]) ∧ Below W.heap.size W w' := by
  have HF : Hid (∀ W', Below W.heap.size W W' → _) := hFd
  have hE' : (E == 0) = false := by simp [hE]
  have s0 := (((St.start W).new (c := #[.int .i64 h, .int .i64 w, .int .i64 c, .int .i64 lo, .int .i64 hi, .slice oa on oc, .int .i64 ot]) (t := 26)).new (c := #[.int .i64 slo, .int .i64 shi]) (t := 28)).new (c := #[.int .i64 0, .int .i64 0]) (t := 28)
  simp only [World.size_alloc] at s0
  clear hFd
  go_enter Try.func9, Try.ntmps9
  go_wp2_with fail
  refine (HF.out _ s0.below).mono ?_
  rintro e w1 ⟨rfl, hb⟩
  have s1 := (s0.call hb).new (c := #[.int .i64 0, .int .i64 0, .int .i64 0, .int .i64 0, .int .i64 0, .int .i64 0, .int .i64 0, .int .i64 0, .int .i64 0, .int .i64 0, .int .i64 0, .int .i64 0, .int .i64 0, .slice none 0 0, .int .i64 0]) (t := 67)
  have S1 : Hid (St W _ _) := s1
  clear hb s0 HF
  go_upto_region 2 with (refine wpList_st_new rfl 67 (.tmp 10) (.tmp 18) rfl w1 _ #[.int .i64 0, .int .i64 0, .int .i64 0, .int .i64 0, .int .i64 0, .int .i64 0, .int .i64 0, .int .i64 0, .int .i64 0, .int .i64 0, .int .i64 0, .int .i64 0, .int .i64 0, .slice none 0 0, .int .i64 0] rfl rfl (by kernel_rfl) rfl (by simp [Value.oneCell']) ?_)
  obtain ⟨w2, hw2⟩ : ∃ w2, w1.alloc (.cells #[.int .i64 0, .int .i64 0, .int .i64 0, .int .i64 0, .int .i64 0, .int .i64 0, .int .i64 0, .int .i64 0, .int .i64 0, .int .i64 0, .int .i64 0, .int .i64 0, .int .i64 0, .slice none 0 0, .int .i64 0] 67) = w2 := ⟨_, rfl⟩
  rw [hw2] at s1 S1 ⊢
  obtain ⟨-, -, -, c1, f1, z1, -⟩ := s1.rules
  have HB : Hid (Below W.heap.size W _) := s1.tail.out2 (i := 0) (j := 1) (u := .int .i64 0) (v := .int .i64 0)
  clear s1 hw2
  go_wp2
  exact bodyPost_ret (v := .tuple #[.agg #[.int .i64 0, .int .i64 0], .int .i64 E]) (by simp [results, Try.results9, go_sem, c1]) rfl ⟨rfl, HB.out⟩
set_option maxRecDepth 100000 in
set_option maxHeartbeats 2000000 in
theorem bprd_w (h w c lo hi ot op ch : Int) (oa : Option Addr) (on oc : Nat) (W : World) (slo shi : Int) (n bi p x0 y0 z0 : Int) (N : Nat) (hN : N ≤ 512) (op0 : Array Value) (X Y : Int) (hFd : ∀ W', Below W.heap.size W W' → Calls Try.prog 23 #[.agg #[.int .i64 h, .int .i64 w, .int .i64 c, .int .i64 lo, .int .i64 hi, .slice oa on oc, .int .i64 ot], .int .i64 op, .int .i64 ch, .agg #[.int .i64 slo, .int .i64 shi]] W' fun e w' => ∃ g0, e = .returned (.tuple #[.agg #[.int .i64 ch, .int .i64 n, .int .i64 (N : Int), .int .i64 bi, .int .i64 slo, .int .i64 shi, .int .i64 p, .int .i64 p, .int .i64 x0, .int .i64 y0, .int .i64 z0, .int .i64 0, .int .i64 0, .slice (some ⟨g0, 0, none⟩) 1 1, .int .i64 0], .int .i64 0]) ∧ w'.heap[g0]? = some (.cells op0 59 (0, 0)) ∧ W'.heap.size ≤ g0 ∧ Below W'.heap.size W' w') (gf : Nat)
    (hgf : gf = 25)
    (hHl : ∀ W' (g0 q : Nat), Below W.heap.size W W' → W'.heap[g0]? = some (.cells op0 59 (0, 0)) → W'.heap[q]? = some (.cells #[.int .i64 ch, .int .i64 n, .int .i64 (N : Int), .int .i64 bi, .int .i64 slo, .int .i64 shi, .int .i64 p, .int .i64 p, .int .i64 x0, .int .i64 y0, .int .i64 z0, .int .i64 0, .int .i64 0, .slice (some ⟨g0, 0, none⟩) 1 1, .int .i64 0] 67 (0, 0)) → Calls Try.prog 24 #[.pointer (some ⟨q, 0, none⟩), .func (.func gf) #[] #[]] W' fun e w' => e = .returned (.agg #[.int .i64 X, .int .i64 Y]) ∧ Below W'.heap.size W' w') :
    Calls Try.prog 9 #[.agg #[.int .i64 h, .int .i64 w, .int .i64 c, .int .i64 lo, .int .i64 hi, .slice oa on oc, .int .i64 ot], .int .i64 op, .int .i64 ch, .agg #[.int .i64 slo, .int .i64 shi]] W fun e w' => e = .returned (.tuple #[.agg #[.int .i64 X, .int .i64 Y], .int .i64 0]) ∧ Below W.heap.size W w' := by
  have hmf : ∀ (fn : Fn) (first cap : Array Value) (w : World), (Instr.makeFunc fn first cap).run Try.prog w = .ok (.func fn first cap) w := fun _ _ _ _ => rfl
  have HF : Hid (∀ W', Below W.heap.size W W' → _) := hFd
  have HH : Hid (∀ W' (g0 q : Nat), Below W.heap.size W W' → W'.heap[g0]? = some (.cells op0 59 (0, 0)) → W'.heap[q]? = some (.cells #[.int .i64 ch, .int .i64 n, .int .i64 (N : Int), .int .i64 bi, .int .i64 slo, .int .i64 shi, .int .i64 p, .int .i64 p, .int .i64 x0, .int .i64 y0, .int .i64 z0, .int .i64 0, .int .i64 0, .slice (some ⟨g0, 0, none⟩) 1 1, .int .i64 0] 67 (0, 0)) → _) := hHl
  rw [hgf] at HH
  have s0 := (((St.start W).new (c := #[.int .i64 h, .int .i64 w, .int .i64 c, .int .i64 lo, .int .i64 hi, .slice oa on oc, .int .i64 ot]) (t := 26)).new (c := #[.int .i64 slo, .int .i64 shi]) (t := 28)).new (c := #[.int .i64 0, .int .i64 0]) (t := 28)
  simp only [World.size_alloc] at s0
  clear hFd hHl hgf
  go_enter Try.func9, Try.ntmps9
  go_wp2_with fail
  refine (HF.out _ s0.below).mono ?_
  rintro e w1 ⟨g0, rfl, hg0, -, hb⟩
  have s1 := (s0.call hb).new (c := #[.int .i64 ch, .int .i64 n, .int .i64 (N : Int), .int .i64 bi, .int .i64 slo, .int .i64 shi, .int .i64 p, .int .i64 p, .int .i64 x0, .int .i64 y0, .int .i64 z0, .int .i64 0, .int .i64 0, .slice (some ⟨g0, 0, none⟩) 1 1, .int .i64 0]) (t := 67)
  have S1 : Hid (St W _ _) := s1
  have hg1 : Hid ((w1.alloc (.cells #[.int .i64 ch, .int .i64 n, .int .i64 (N : Int), .int .i64 bi, .int .i64 slo, .int .i64 shi, .int .i64 p, .int .i64 p, .int .i64 x0, .int .i64 y0, .int .i64 z0, .int .i64 0, .int .i64 0, .slice (some ⟨g0, 0, none⟩) 1 1, .int .i64 0] 67)).heap[g0]? = some (.cells op0 59 (0, 0))) := (heap_alloc_old w1 _ (lt_of_heap hg0)).trans hg0
  clear hb s0 HF hg0
  go_upto_region 2 with (refine wpList_st_new rfl 67 (.tmp 10) (.tmp 18) rfl w1 _ #[.int .i64 ch, .int .i64 n, .int .i64 (N : Int), .int .i64 bi, .int .i64 slo, .int .i64 shi, .int .i64 p, .int .i64 p, .int .i64 x0, .int .i64 y0, .int .i64 z0, .int .i64 0, .int .i64 0, .slice (some ⟨g0, 0, none⟩) 1 1, .int .i64 0] rfl rfl (by kernel_rfl) rfl (by simp [Value.oneCell']) ?_)
  obtain ⟨q, hq⟩ : ∃ q, w1.heap.size = q := ⟨_, rfl⟩
  obtain ⟨w2, hw2⟩ : ∃ w2, w1.alloc (.cells #[.int .i64 ch, .int .i64 n, .int .i64 (N : Int), .int .i64 bi, .int .i64 slo, .int .i64 shi, .int .i64 p, .int .i64 p, .int .i64 x0, .int .i64 y0, .int .i64 z0, .int .i64 0, .int .i64 0, .slice (some ⟨g0, 0, none⟩) 1 1, .int .i64 0] 67) = w2 := ⟨_, rfl⟩
  rw [hw2] at S1 hg1 ⊢
  rw [hq] at S1 ⊢
  clear s1 hw2 hq
  have HC : Hid _ := HH.out w2 g0 q S1.out.below hg1.out S1.out.h1
  clear HH hg1
  go_wp2_with fail
  refine Calls.mono HC.out ?_
  rintro e w3 ⟨rfl, hb⟩
  have s3 := S1.out.call hb
  obtain ⟨-, -, -, c1, f1, z1, -⟩ := s3.rules
  have HB : Hid (Below W.heap.size W _) := s3.tail.out2 (i := 0) (j := 1) (u := .int .i64 X) (v := .int .i64 Y)
  clear s3 hb S1
  go_wp2
  exact bodyPost_ret (v := .tuple #[.agg #[.int .i64 X, .int .i64 Y], .int .i64 0]) (by simp [results, Try.results9, go_sem, c1]) rfl ⟨rfl, HB.out⟩
set_option maxRecDepth 100000 in
set_option maxHeartbeats 2000000 in
theorem bprt_e (h w c lo hi ot op ch : Int) (oa : Option Addr) (on oc : Nat) (W : World) (slo shi : Int) (dp : Int) (E : Int) (hE : E ≠ 0) (hFd : ∀ W', Below W.heap.size W W' → Calls Try.prog 23 #[.agg #[.int .i64 h, .int .i64 w, .int .i64 c, .int .i64 lo, .int .i64 hi, .slice oa on oc, .int .i64 ot], .int .i64 op, .int .i64 ch, .agg #[.int .i64 slo, .int .i64 shi]] W' fun e w' => e = .returned (.tuple #[.agg #[.int .i64 0, .int .i64 0, .int .i64 0, .int .i64 0, .int .i64 0, .int .i64 0, .int .i64 0, .int .i64 0, .int .i64 0, .int .i64 0, .int .i64 0, .int .i64 0, .int .i64 0, .slice none 0 0, .int .i64 0], .int .i64 E]) ∧ Below W'.heap.size W' w') : Calls Try.prog 12 #[.agg #[.int .i64 h, .int .i64 w, .int .i64 c, .int .i64 lo, .int .i64 hi, .slice oa on oc, .int .i64 ot], .int .i64 op, .int .i64 ch, .agg #[.int .i64 slo, .int .i64 shi], .int .i64 dp] W fun e w' => e = .returned (.tuple #[.agg #[.int .i64 0, .int .i64 0], .int .i64 E]) ∧ Below W.heap.size W w' := by
  have HF : Hid (∀ W', Below W.heap.size W W' → _) := hFd
  have hE' : (E == 0) = false := by simp [hE]
  have s0 := ((((St.start W).new (c := #[.int .i64 h, .int .i64 w, .int .i64 c, .int .i64 lo, .int .i64 hi, .slice oa on oc, .int .i64 ot]) (t := 26)).new (c := #[.int .i64 slo, .int .i64 shi]) (t := 28)).new (c := #[.int .i64 dp]) (t := 3)).new (c := #[.int .i64 0, .int .i64 0]) (t := 28)
  simp only [World.size_alloc] at s0
  clear hFd
  go_enter Try.func12, Try.ntmps12
  go_wp2_with fail
  refine (HF.out _ s0.below).mono ?_
  rintro e w1 ⟨rfl, hb⟩
  have s1 := (s0.call hb).new (c := #[.int .i64 0, .int .i64 0, .int .i64 0, .int .i64 0, .int .i64 0, .int .i64 0, .int .i64 0, .int .i64 0, .int .i64 0, .int .i64 0, .int .i64 0, .int .i64 0, .int .i64 0, .slice none 0 0, .int .i64 0]) (t := 67)
  clear hb s0 HF
  go_upto_region 2 with (refine wpList_st_new rfl 67 (.tmp 12) (.tmp 20) rfl w1 _ #[.int .i64 0, .int .i64 0, .int .i64 0, .int .i64 0, .int .i64 0, .int .i64 0, .int .i64 0, .int .i64 0, .int .i64 0, .int .i64 0, .int .i64 0, .int .i64 0, .int .i64 0, .slice none 0 0, .int .i64 0] rfl rfl (by kernel_rfl) rfl (by simp [Value.oneCell']) ?_)
  obtain ⟨w2, hw2⟩ : ∃ w2, w1.alloc (.cells #[.int .i64 0, .int .i64 0, .int .i64 0, .int .i64 0, .int .i64 0, .int .i64 0, .int .i64 0, .int .i64 0, .int .i64 0, .int .i64 0, .int .i64 0, .int .i64 0, .int .i64 0, .slice none 0 0, .int .i64 0] 67) = w2 := ⟨_, rfl⟩
  rw [hw2] at s1 ⊢
  obtain ⟨-, -, -, c1, f1, z1, -⟩ := s1.rules
  have HB : Hid (Below W.heap.size W _) := s1.tail.out2 (i := 0) (j := 1) (u := .int .i64 0) (v := .int .i64 0)
  clear s1 hw2
  go_wp2
  exact bodyPost_ret (v := .tuple #[.agg #[.int .i64 0, .int .i64 0], .int .i64 E]) (by simp [results, Try.results12, go_sem, c1]) rfl ⟨rfl, HB.out⟩
set_option maxRecDepth 100000 in
set_option maxHeartbeats 4000000 in
theorem bprt_d (h w c lo hi ot op ch : Int) (oa : Option Addr) (on oc : Nat) (W : World) (slo shi : Int) (dp : Int) (n bi p x0 y0 z0 : Int) (N : Nat) (hN : N ≤ 512) (op0 : Array Value) (X Y : Int) (hFd : ∀ W', Below W.heap.size W W' → Calls Try.prog 23 #[.agg #[.int .i64 h, .int .i64 w, .int .i64 c, .int .i64 lo, .int .i64 hi, .slice oa on oc, .int .i64 ot], .int .i64 op, .int .i64 ch, .agg #[.int .i64 slo, .int .i64 shi]] W' fun e w' => ∃ g0, e = .returned (.tuple #[.agg #[.int .i64 ch, .int .i64 n, .int .i64 (N : Int), .int .i64 bi, .int .i64 slo, .int .i64 shi, .int .i64 p, .int .i64 p, .int .i64 x0, .int .i64 y0, .int .i64 z0, .int .i64 0, .int .i64 0, .slice (some ⟨g0, 0, none⟩) 1 1, .int .i64 0], .int .i64 0]) ∧ w'.heap[g0]? = some (.cells op0 59 (0, 0)) ∧ W'.heap.size ≤ g0 ∧ Below W'.heap.size W' w') (hd : ¬ (1 ≤ dp ∧ dp ≤ (N : Int))) : Calls Try.prog 12 #[.agg #[.int .i64 h, .int .i64 w, .int .i64 c, .int .i64 lo, .int .i64 hi, .slice oa on oc, .int .i64 ot], .int .i64 op, .int .i64 ch, .agg #[.int .i64 slo, .int .i64 shi], .int .i64 dp] W fun e w' => e = .returned (.tuple #[.agg #[.int .i64 0, .int .i64 0], .int .i64 151]) ∧ Below W.heap.size W w' := by
  have HF : Hid (∀ W', Below W.heap.size W W' → _) := hFd
  have s0 := ((((St.start W).new (c := #[.int .i64 h, .int .i64 w, .int .i64 c, .int .i64 lo, .int .i64 hi, .slice oa on oc, .int .i64 ot]) (t := 26)).new (c := #[.int .i64 slo, .int .i64 shi]) (t := 28)).new (c := #[.int .i64 dp]) (t := 3)).new (c := #[.int .i64 0, .int .i64 0]) (t := 28)
  simp only [World.size_alloc] at s0
  clear hFd
  by_cases d1 : dp < 1
  all_goals
    try have d2 : (N : Int) < dp := by omega
    clear hd
    go_enter Try.func12, Try.ntmps12
    go_wp2_with fail
    refine (HF.out _ s0.below).mono ?_
    rintro e w1 ⟨g0, rfl, -, -, hb⟩
    have s1 := (s0.call hb).new (c := #[.int .i64 ch, .int .i64 n, .int .i64 (N : Int), .int .i64 bi, .int .i64 slo, .int .i64 shi, .int .i64 p, .int .i64 p, .int .i64 x0, .int .i64 y0, .int .i64 z0, .int .i64 0, .int .i64 0, .slice (some ⟨g0, 0, none⟩) 1 1, .int .i64 0]) (t := 67)
    clear hb s0 HF
    go_upto_region 2 with (refine wpList_st_new rfl 67 (.tmp 12) (.tmp 20) rfl w1 _ #[.int .i64 ch, .int .i64 n, .int .i64 (N : Int), .int .i64 bi, .int .i64 slo, .int .i64 shi, .int .i64 p, .int .i64 p, .int .i64 x0, .int .i64 y0, .int .i64 z0, .int .i64 0, .int .i64 0, .slice (some ⟨g0, 0, none⟩) 1 1, .int .i64 0] rfl rfl (by kernel_rfl) rfl (by simp [Value.oneCell']) ?_)
    obtain ⟨w2, hw2⟩ : ∃ w2, w1.alloc (.cells #[.int .i64 ch, .int .i64 n, .int .i64 (N : Int), .int .i64 bi, .int .i64 slo, .int .i64 shi, .int .i64 p, .int .i64 p, .int .i64 x0, .int .i64 y0, .int .i64 z0, .int .i64 0, .int .i64 0, .slice (some ⟨g0, 0, none⟩) 1 1, .int .i64 0] 67) = w2 := ⟨_, rfl⟩
    rw [hw2] at s1 ⊢
    obtain ⟨c0, f0, z0', c1, f1, z1, c2, f2, z2, -⟩ := s1.rules
    have HB : Hid (Below W.heap.size W _) := s1.tail.out2 (i := 0) (j := 1) (u := .int .i64 0) (v := .int .i64 0)
    clear s1 hw2
    go_wp2
    exact bodyPost_ret (v := .tuple #[.agg #[.int .i64 0, .int .i64 0], .int .i64 151]) (by simp [results, Try.results12, go_sem, c1]) rfl ⟨rfl, HB.out⟩
set_option maxRecDepth 100000 in
set_option maxHeartbeats 4000000 in
theorem bprt_w (h w c lo hi ot op ch : Int) (oa : Option Addr) (on oc : Nat) (W : World) (slo shi : Int) (d : Nat) (n bi p x0 y0 z0 : Int) (N : Nat) (hN : N ≤ 512) (op0 : Array Value) (X Y : Int) (hFd : ∀ W', Below W.heap.size W W' → Calls Try.prog 23 #[.agg #[.int .i64 h, .int .i64 w, .int .i64 c, .int .i64 lo, .int .i64 hi, .slice oa on oc, .int .i64 ot], .int .i64 op, .int .i64 ch, .agg #[.int .i64 slo, .int .i64 shi]] W' fun e w' => ∃ g0, e = .returned (.tuple #[.agg #[.int .i64 ch, .int .i64 n, .int .i64 (N : Int), .int .i64 bi, .int .i64 slo, .int .i64 shi, .int .i64 p, .int .i64 p, .int .i64 x0, .int .i64 y0, .int .i64 z0, .int .i64 0, .int .i64 0, .slice (some ⟨g0, 0, none⟩) 1 1, .int .i64 0], .int .i64 0]) ∧ w'.heap[g0]? = some (.cells op0 59 (0, 0)) ∧ W'.heap.size ≤ g0 ∧ Below W'.heap.size W' w') (hd : 1 ≤ d ∧ d ≤ N)
    (hHl : ∀ W' (g0 q r : Nat), Below W.heap.size W W' → W'.heap[g0]? = some (.cells op0 59 (0, 0)) → W'.heap[q]? = some (.cells #[.int .i64 ch, .int .i64 n, .int .i64 (N : Int), .int .i64 bi, .int .i64 slo, .int .i64 shi, .int .i64 p, .int .i64 p, .int .i64 x0, .int .i64 y0, .int .i64 z0, .int .i64 0, .int .i64 0, .slice (some ⟨g0, 0, none⟩) 1 1, .int .i64 0] 67 (0, 0)) → W'.heap[r]? = some (.cells #[.int .i64 (d : Int)] 3 (0, 0)) → Calls Try.prog 24 #[.pointer (some ⟨q, 0, none⟩), .func (.func 28) #[] #[.pointer (some ⟨r, 0, none⟩)]] W' fun e w' => e = .returned (.agg #[.int .i64 X, .int .i64 Y]) ∧ Below W'.heap.size W' w') :
    Calls Try.prog 12 #[.agg #[.int .i64 h, .int .i64 w, .int .i64 c, .int .i64 lo, .int .i64 hi, .slice oa on oc, .int .i64 ot], .int .i64 op, .int .i64 ch, .agg #[.int .i64 slo, .int .i64 shi], .int .i64 (d : Int)] W fun e w' => e = .returned (.tuple #[.agg #[.int .i64 X, .int .i64 Y], .int .i64 0]) ∧ Below W.heap.size W w' := by
  have hmf : ∀ (fn : Fn) (first cap : Array Value) (w : World), (Instr.makeFunc fn first cap).run Try.prog w = .ok (.func fn first cap) w := fun _ _ _ _ => rfl
  have HF : Hid (∀ W', Below W.heap.size W W' → _) := hFd
  have HH : Hid (∀ W' (g0 q r : Nat), Below W.heap.size W W' → W'.heap[g0]? = some (.cells op0 59 (0, 0)) → W'.heap[q]? = some (.cells #[.int .i64 ch, .int .i64 n, .int .i64 (N : Int), .int .i64 bi, .int .i64 slo, .int .i64 shi, .int .i64 p, .int .i64 p, .int .i64 x0, .int .i64 y0, .int .i64 z0, .int .i64 0, .int .i64 0, .slice (some ⟨g0, 0, none⟩) 1 1, .int .i64 0] 67 (0, 0)) → W'.heap[r]? = some (.cells #[.int .i64 (d : Int)] 3 (0, 0)) → _) := hHl
  obtain ⟨d1, d2⟩ := hd
  have s0 := ((((St.start W).new (c := #[.int .i64 h, .int .i64 w, .int .i64 c, .int .i64 lo, .int .i64 hi, .slice oa on oc, .int .i64 ot]) (t := 26)).new (c := #[.int .i64 slo, .int .i64 shi]) (t := 28)).new (c := #[.int .i64 (d : Int)]) (t := 3)).new (c := #[.int .i64 0, .int .i64 0]) (t := 28)
  simp only [World.size_alloc] at s0
  clear hFd hHl
  go_enter Try.func12, Try.ntmps12
  go_wp2_with fail
  refine (HF.out _ s0.below).mono ?_
  rintro e w1 ⟨g0, rfl, hg0, -, hb⟩
  have s1 := (s0.call hb).new (c := #[.int .i64 ch, .int .i64 n, .int .i64 (N : Int), .int .i64 bi, .int .i64 slo, .int .i64 shi, .int .i64 p, .int .i64 p, .int .i64 x0, .int .i64 y0, .int .i64 z0, .int .i64 0, .int .i64 0, .slice (some ⟨g0, 0, none⟩) 1 1, .int .i64 0]) (t := 67)
  have S1 : Hid (St W _ _) := s1
  have hg1 : Hid ((w1.alloc (.cells #[.int .i64 ch, .int .i64 n, .int .i64 (N : Int), .int .i64 bi, .int .i64 slo, .int .i64 shi, .int .i64 p, .int .i64 p, .int .i64 x0, .int .i64 y0, .int .i64 z0, .int .i64 0, .int .i64 0, .slice (some ⟨g0, 0, none⟩) 1 1, .int .i64 0] 67)).heap[g0]? = some (.cells op0 59 (0, 0))) := (heap_alloc_old w1 _ (lt_of_heap hg0)).trans hg0
  clear hb s0 HF hg0
  go_upto_region 2 with (refine wpList_st_new rfl 67 (.tmp 12) (.tmp 20) rfl w1 _ #[.int .i64 ch, .int .i64 n, .int .i64 (N : Int), .int .i64 bi, .int .i64 slo, .int .i64 shi, .int .i64 p, .int .i64 p, .int .i64 x0, .int .i64 y0, .int .i64 z0, .int .i64 0, .int .i64 0, .slice (some ⟨g0, 0, none⟩) 1 1, .int .i64 0] rfl rfl (by kernel_rfl) rfl (by simp [Value.oneCell']) ?_)
  obtain ⟨q, hq⟩ : ∃ q, w1.heap.size = q := ⟨_, rfl⟩
  obtain ⟨w2, hw2⟩ : ∃ w2, w1.alloc (.cells #[.int .i64 ch, .int .i64 n, .int .i64 (N : Int), .int .i64 bi, .int .i64 slo, .int .i64 shi, .int .i64 p, .int .i64 p, .int .i64 x0, .int .i64 y0, .int .i64 z0, .int .i64 0, .int .i64 0, .slice (some ⟨g0, 0, none⟩) 1 1, .int .i64 0] 67) = w2 := ⟨_, rfl⟩
  rw [hw2] at S1 hg1 ⊢
  rw [hq] at S1 ⊢
  clear s1 hw2 hq
  have HC : Hid _ := HH.out w2 g0 q (W.heap.size + 1 + 1) S1.out.below hg1.out S1.out.h1 S1.out.h3
  obtain ⟨c0, f0, z0', -, -, z1, c2, f2, z2, -⟩ := S1.out.rules
  clear HH hg1
  go_wp2_with fail
  refine Calls.mono HC.out ?_
  rintro e w3 ⟨rfl, hb⟩
  have s3 := S1.out.call hb
  clear c0 f0 z0' z1 c2 f2 z2
  obtain ⟨-, -, -, c1, f1, z1, -⟩ := s3.rules
  have HB : Hid (Below W.heap.size W _) := s3.tail.out2 (i := 0) (j := 1) (u := .int .i64 X) (v := .int .i64 Y)
  clear s3 hb S1
  go_wp2
  exact bodyPost_ret (v := .tuple #[.agg #[.int .i64 X, .int .i64 Y], .int .i64 0]) (by simp [results, Try.results12, go_sem, c1]) rfl ⟨rfl, HB.out⟩
end Go.Proofs.Ytgiohlcipndakaa

/- What Total, Run, Part and Product answer of a model: the error, or the hull. -/
namespace Go.Proofs.Ytgiohlcipndakaa
open Go.ChangeShapes Go.WideShapes Go.ChangeAt Go.RowKit Go.Shelf
set_option linter.unusedVariables false
theorem bask (h w c lo hi ot : Int) (oa : Option Addr) (on oc : Nat) (O : Nat → Nat → Int) (Z B : Nat → List Int) (W : World) (hL : LRow W oa on oc O Z B) (op ch : Int) :
    (∃ E : Int, E ≠ 0 ∧ (∀ W', Below W.heap.size W W' → Calls Try.prog 40 #[.agg #[.int .i64 h, .int .i64 w, .int .i64 c, .int .i64 lo, .int .i64 hi, .slice oa on oc, .int .i64 ot], .int .i64 op, .int .i64 ch, .int .i64 0] W' fun e w' => e = .returned (.tuple #[.slice none 0 0, .int .i64 0, .int .i64 E]) ∧ Below W'.heap.size W' w')) ∨ (∃ (RL : List (Int × Int × Int)) (Rw : Int), gtR O h w c lo hi ot on = (0, 0, RL, Rw) ∧ ∃ (i : Nat) (x : Addr) (wa : Option Addr) (lw cw : Nat) (ba : Option Addr) (lb cb : Nat) (x0 y0 z0 H V C : Int), op = (i : Int) + 1 ∧ Fnd W oa on O Z B RL i x wa lw cw ba lb cb x0 y0 z0 H V C ∧ (1 ≤ ch ∧ ch ≤ C)) := by
  obtain ⟨E, hf⟩ : ∃ E, fiE O h w c lo hi ot on op = E := ⟨_, rfl⟩
  by_cases hE : E = 0
  · subst hE
    obtain ⟨RL, Rw, hR, i, x, wa, lw, cw, ba, lb, cb, x0, y0, z0, H, V, C, rfl, hF⟩ := found h w c lo hi ot oa on oc O Z B W hL op hf
    by_cases hch : 1 ≤ ch ∧ ch ≤ C
    · exact .inr ⟨RL, Rw, hR, i, x, wa, lw, cw, ba, lb, cb, x0, y0, z0, H, V, C, rfl, hF, hch⟩
    · exact .inl ⟨3, by omega, fun W' hb => of_place h w c lo hi ot oa on oc O Z B W' (hL.below hb) ch 0 RL Rw hR i x wa lw cw ba lb cb x0 y0 z0 H V C (hF.below hb) (fun q => hch q.1)⟩
  · exact .inl ⟨E, hE, fun W' hb => of_bad h w c lo hi ot oa on oc O Z B W' (hL.below hb) op ch 0 E hf hE⟩
/-- The answer where the op and the channel are there. -/
def spR (slo shi : Int) (r : Int × Int) : Int × Int × Int := if vbB slo shi = true then (r.1, r.2, 0) else (0, 0, 30)
def spD (slo shi dp : Int) (N : Nat) (r : Int × Int) : Int × Int × Int := if vbB slo shi = true then (if 1 ≤ dp ∧ dp ≤ (N : Int) then (r.1, r.2, 0) else (0, 0, 151)) else (0, 0, 30)
theorem bof0 (h w c lo hi ot : Int) (oa : Option Addr) (on oc : Nat) (O : Nat → Nat → Int) (Z B : Nat → List Int) (W : World) (hL : LRow W oa on oc O Z B) (ch : Int) (RL : List (Int × Int × Int)) (Rw : Int) (hR : gtR O h w c lo hi ot on = (0, 0, RL, Rw)) (i : Nat) (x : Addr) (wa : Option Addr) (lw cw : Nat) (ba : Option Addr) (lb cb : Nat) (x0 y0 z0 H V C : Int) (hF : Fnd W oa on O Z B RL i x wa lw cw ba lb cb x0 y0 z0 H V C) (hch : 1 ≤ ch ∧ ch ≤ C) : ∀ W', Below W.heap.size W W' → Calls Try.prog 40 #[.agg #[.int .i64 h, .int .i64 w, .int .i64 c, .int .i64 lo, .int .i64 hi, .slice oa on oc, .int .i64 ot], .int .i64 ((i : Int) + 1), .int .i64 ch, .int .i64 0] W' fun e w' => (∃ v, e = .returned (.tuple #[v, .int .i64 (biA (O i 0) ch (B i)), .int .i64 0]) ∧ OTm w' W'.heap.size v (siL (O i 0) (O i 4) (O i 5) (O i 6) (O i 7) (O i 8) (O i 9) (O i 10) (O i 11) x0 y0 z0 ch 0 (Z i))) ∧ Below W'.heap.size W' w' := fun W' hb => by
  have hv := (vS_bd hF.2.2.2.2.2.2.2.2.2.1.2.2.1).1
  exact of_ok h w c lo hi ot oa on oc O Z B W' (hL.below hb) ch 0 RL Rw hR i x wa lw cw ba lb cb x0 y0 z0 H V C (hF.below hb) hch ⟨by omega, by omega⟩
theorem slen {h w c lo hi ot ch : Int} {oa : Option Addr} {on : Nat} {O : Nat → Nat → Int} {Z B : Nat → List Int} {W : World} (RL : List (Int × Int × Int)) (Rw : Int) (hR : gtR O h w c lo hi ot on = (0, 0, RL, Rw)) (i : Nat) (x : Addr) (wa : Option Addr) (lw cw : Nat) (ba : Option Addr) (lb cb : Nat) (x0 y0 z0 H V C : Int) (hF : Fnd W oa on O Z B RL i x wa lw cw ba lb cb x0 y0 z0 H V C) (hch : 1 ≤ ch ∧ ch ≤ C) : (siL (O i 0) (O i 4) (O i 5) (O i 6) (O i 7) (O i 8) (O i 9) (O i 10) (O i 11) x0 y0 z0 ch 0 (Z i)).length ≤ 512 := by
  exact (siL_facts hF.2.2.2.2.2.2.2.2.2.1 hF.2.2.2.2.2.1.2.2.2.1 hch 0).1
theorem btot_bad (h w c lo hi ot op ch : Int) (oa : Option Addr) (on oc : Nat) (W : World) (slo shi E : Int) (hE : E ≠ 0) (hO : (∀ W', Below W.heap.size W W' → Calls Try.prog 40 #[.agg #[.int .i64 h, .int .i64 w, .int .i64 c, .int .i64 lo, .int .i64 hi, .slice oa on oc, .int .i64 ot], .int .i64 op, .int .i64 ch, .int .i64 0] W' fun e w' => e = .returned (.tuple #[.slice none 0 0, .int .i64 0, .int .i64 E]) ∧ Below W'.heap.size W' w')) : Calls Try.prog 33 #[.agg #[.int .i64 h, .int .i64 w, .int .i64 c, .int .i64 lo, .int .i64 hi, .slice oa on oc, .int .i64 ot], .int .i64 op, .int .i64 ch, .agg #[.int .i64 slo, .int .i64 shi]] W fun e w' => e = .returned (.tuple #[.agg #[.int .i64 0, .int .i64 0], .int .i64 E]) ∧ Below W.heap.size W w' :=
  btot_e h w c lo hi ot op ch oa on oc W slo shi E hE (fun W' hb => bfind_e h w c lo hi ot op ch oa on oc W' slo shi E hE (fun W'' hb' => hO W'' (hb.trans (hb'.mono hb.size))))
theorem btot_ok (h w c lo hi ot : Int) (oa : Option Addr) (on oc : Nat) (O : Nat → Nat → Int) (Z B : Nat → List Int) (W : World) (hL : LRow W oa on oc O Z B) (ch : Int) (RL : List (Int × Int × Int)) (Rw : Int) (hR : gtR O h w c lo hi ot on = (0, 0, RL, Rw)) (i : Nat) (x : Addr) (wa : Option Addr) (lw cw : Nat) (ba : Option Addr) (lb cb : Nat) (x0 y0 z0 H V C : Int) (hF : Fnd W oa on O Z B RL i x wa lw cw ba lb cb x0 y0 z0 H V C) (hch : 1 ≤ ch ∧ ch ≤ C) (slo shi : Int) : Calls Try.prog 33 #[.agg #[.int .i64 h, .int .i64 w, .int .i64 c, .int .i64 lo, .int .i64 hi, .slice oa on oc, .int .i64 ot], .int .i64 ((i : Int) + 1), .int .i64 ch, .agg #[.int .i64 slo, .int .i64 shi]] W fun e w' => e = .returned (.tuple #[.agg #[.int .i64 (spR slo shi (hbT (biA (O i 0) ch (B i)) (fun (j : Nat) => enL slo shi (O i 19) (siL (O i 0) (O i 4) (O i 5) (O i 6) (O i 7) (O i 8) (O i 9) (O i 10) (O i 11) x0 y0 z0 ch (j : Int) (Z i))) (H * V).toNat)).1, .int .i64 (spR slo shi (hbT (biA (O i 0) ch (B i)) (fun (j : Nat) => enL slo shi (O i 19) (siL (O i 0) (O i 4) (O i 5) (O i 6) (O i 7) (O i 8) (O i 9) (O i 10) (O i 11) x0 y0 z0 ch (j : Int) (Z i))) (H * V).toNat)).2.1], .int .i64 (spR slo shi (hbT (biA (O i 0) ch (B i)) (fun (j : Nat) => enL slo shi (O i 19) (siL (O i 0) (O i 4) (O i 5) (O i 6) (O i 7) (O i 8) (O i 9) (O i 10) (O i 11) x0 y0 z0 ch (j : Int) (Z i))) (H * V).toNat)).2.2]) ∧ Below W.heap.size W w' := by
  unfold spR
  cases hs : vbB slo shi with
  | false =>
    rw [if_neg (by decide)]
    exact btot_e h w c lo hi ot _ ch oa on oc W slo shi 30 (by decide) (fun W' hb => bfind_30 h w c lo hi ot _ ch oa on oc W' slo shi _ _ hs (fun W'' hb' => bof0 h w c lo hi ot oa on oc O Z B W hL ch RL Rw hR i x wa lw cw ba lb cb x0 y0 z0 H V C hF hch W'' (hb.trans (hb'.mono hb.size))))
  | true =>
    rw [if_pos rfl]
    obtain ⟨-, -, -, -, -, hbi, -⟩ := bfacts hL RL Rw hR i x wa lw cw ba lb cb x0 y0 z0 H V C hF hch
    obtain ⟨N, hN⟩ : ∃ N, (siL (O i 0) (O i 4) (O i 5) (O i 6) (O i 7) (O i 8) (O i 9) (O i 10) (O i 11) x0 y0 z0 ch 0 (Z i)).length = N := ⟨_, rfl⟩
    refine btot_w h w c lo hi ot _ ch oa on oc W slo shi (H * V) (biA (O i 0) ch (B i)) (O i 19) x0 y0 z0 N (by rw [← hN]; exact slen RL Rw hR i x wa lw cw ba lb cb x0 y0 z0 H V C hF hch) #[.int .i64 (O i 0), .int .i64 0, .int .i64 (O i 2), .int .i64 (O i 3), .int .i64 (O i 4), .int .i64 (O i 5), .int .i64 (O i 6), .int .i64 (O i 7), .int .i64 (O i 8), .int .i64 (O i 9), .int .i64 (O i 10), .int .i64 (O i 11), .slice wa lw cw, .slice ba lb cb, .int .i64 (O i 14), .int .i64 (O i 15), .int .i64 (O i 16), .int .i64 (O i 17), .int .i64 (O i 18), .int .i64 (O i 19), .int .i64 (O i 20), .int .i64 (O i 21)] _ _ (bfind_m h w c lo hi ot oa on oc O Z B W hL ch RL Rw hR i x wa lw cw ba lb cb x0 y0 z0 H V C hF hch slo shi hs N hN _ rfl) 49 rfl (fun W' g0 q hb hg hq => ?_)
    exact bhull_m h w c lo hi ot oa on oc O Z B W hL ch RL Rw hR i x wa lw cw ba lb cb x0 y0 z0 H V C hF hch slo shi hs N (biA (O i 0) ch (B i)) W' hb g0 q hg hq (fun E => [suS (biA (O i 0) ch (B i), biA (O i 0) ch (B i)) E]) 49 #[.pointer (some ⟨q, 0, none⟩)] (enters_of Try.func49 (by kernel_rfl) rfl) (fun W'' v E L nb b hb' hE h0 hl hv hn hbb hT hL => ctot_any ch (H * V) N (biA (O i 0) ch (B i)) slo shi (O i 19) x0 y0 z0 g0 q W'' ((hb'.block q (lt_of_heap hq)).trans hq) hbi v E L nb b hE h0 hl hv hn hbb hT hL) (fun E hE h0 hl => ftot hbi hE hl)
theorem brun_bad (h w c lo hi ot op ch : Int) (oa : Option Addr) (on oc : Nat) (W : World) (slo shi E : Int) (hE : E ≠ 0) (hO : (∀ W', Below W.heap.size W W' → Calls Try.prog 40 #[.agg #[.int .i64 h, .int .i64 w, .int .i64 c, .int .i64 lo, .int .i64 hi, .slice oa on oc, .int .i64 ot], .int .i64 op, .int .i64 ch, .int .i64 0] W' fun e w' => e = .returned (.tuple #[.slice none 0 0, .int .i64 0, .int .i64 E]) ∧ Below W'.heap.size W' w')) : Calls Try.prog 31 #[.agg #[.int .i64 h, .int .i64 w, .int .i64 c, .int .i64 lo, .int .i64 hi, .slice oa on oc, .int .i64 ot], .int .i64 op, .int .i64 ch, .agg #[.int .i64 slo, .int .i64 shi]] W fun e w' => e = .returned (.tuple #[.agg #[.int .i64 0, .int .i64 0], .int .i64 E]) ∧ Below W.heap.size W w' :=
  brun_e h w c lo hi ot op ch oa on oc W slo shi E hE (fun W' hb => bfind_e h w c lo hi ot op ch oa on oc W' slo shi E hE (fun W'' hb' => hO W'' (hb.trans (hb'.mono hb.size))))
theorem brun_ok (h w c lo hi ot : Int) (oa : Option Addr) (on oc : Nat) (O : Nat → Nat → Int) (Z B : Nat → List Int) (W : World) (hL : LRow W oa on oc O Z B) (ch : Int) (RL : List (Int × Int × Int)) (Rw : Int) (hR : gtR O h w c lo hi ot on = (0, 0, RL, Rw)) (i : Nat) (x : Addr) (wa : Option Addr) (lw cw : Nat) (ba : Option Addr) (lb cb : Nat) (x0 y0 z0 H V C : Int) (hF : Fnd W oa on O Z B RL i x wa lw cw ba lb cb x0 y0 z0 H V C) (hch : 1 ≤ ch ∧ ch ≤ C) (slo shi : Int) : Calls Try.prog 31 #[.agg #[.int .i64 h, .int .i64 w, .int .i64 c, .int .i64 lo, .int .i64 hi, .slice oa on oc, .int .i64 ot], .int .i64 ((i : Int) + 1), .int .i64 ch, .agg #[.int .i64 slo, .int .i64 shi]] W fun e w' => e = .returned (.tuple #[.agg #[.int .i64 (spR slo shi (hbR (biA (O i 0) ch (B i)) (fun (j : Nat) => enL slo shi (O i 19) (siL (O i 0) (O i 4) (O i 5) (O i 6) (O i 7) (O i 8) (O i 9) (O i 10) (O i 11) x0 y0 z0 ch (j : Int) (Z i))) (H * V).toNat)).1, .int .i64 (spR slo shi (hbR (biA (O i 0) ch (B i)) (fun (j : Nat) => enL slo shi (O i 19) (siL (O i 0) (O i 4) (O i 5) (O i 6) (O i 7) (O i 8) (O i 9) (O i 10) (O i 11) x0 y0 z0 ch (j : Int) (Z i))) (H * V).toNat)).2.1], .int .i64 (spR slo shi (hbR (biA (O i 0) ch (B i)) (fun (j : Nat) => enL slo shi (O i 19) (siL (O i 0) (O i 4) (O i 5) (O i 6) (O i 7) (O i 8) (O i 9) (O i 10) (O i 11) x0 y0 z0 ch (j : Int) (Z i))) (H * V).toNat)).2.2]) ∧ Below W.heap.size W w' := by
  unfold spR
  cases hs : vbB slo shi with
  | false =>
    rw [if_neg (by decide)]
    exact brun_e h w c lo hi ot _ ch oa on oc W slo shi 30 (by decide) (fun W' hb => bfind_30 h w c lo hi ot _ ch oa on oc W' slo shi _ _ hs (fun W'' hb' => bof0 h w c lo hi ot oa on oc O Z B W hL ch RL Rw hR i x wa lw cw ba lb cb x0 y0 z0 H V C hF hch W'' (hb.trans (hb'.mono hb.size))))
  | true =>
    rw [if_pos rfl]
    obtain ⟨-, -, -, -, -, hbi, -⟩ := bfacts hL RL Rw hR i x wa lw cw ba lb cb x0 y0 z0 H V C hF hch
    obtain ⟨N, hN⟩ : ∃ N, (siL (O i 0) (O i 4) (O i 5) (O i 6) (O i 7) (O i 8) (O i 9) (O i 10) (O i 11) x0 y0 z0 ch 0 (Z i)).length = N := ⟨_, rfl⟩
    refine brun_w h w c lo hi ot _ ch oa on oc W slo shi (H * V) (biA (O i 0) ch (B i)) (O i 19) x0 y0 z0 N (by rw [← hN]; exact slen RL Rw hR i x wa lw cw ba lb cb x0 y0 z0 H V C hF hch) #[.int .i64 (O i 0), .int .i64 0, .int .i64 (O i 2), .int .i64 (O i 3), .int .i64 (O i 4), .int .i64 (O i 5), .int .i64 (O i 6), .int .i64 (O i 7), .int .i64 (O i 8), .int .i64 (O i 9), .int .i64 (O i 10), .int .i64 (O i 11), .slice wa lw cw, .slice ba lb cb, .int .i64 (O i 14), .int .i64 (O i 15), .int .i64 (O i 16), .int .i64 (O i 17), .int .i64 (O i 18), .int .i64 (O i 19), .int .i64 (O i 20), .int .i64 (O i 21)] _ _ (bfind_m h w c lo hi ot oa on oc O Z B W hL ch RL Rw hR i x wa lw cw ba lb cb x0 y0 z0 H V C hF hch slo shi hs N hN _ rfl) 48 rfl (fun W' g0 q hb hg hq => ?_)
    exact bhull_m h w c lo hi ot oa on oc O Z B W hL ch RL Rw hR i x wa lw cw ba lb cb x0 y0 z0 H V C hF hch slo shi hs N (biA (O i 0) ch (B i)) W' hb g0 q hg hq (fun E => ruL (biA (O i 0) ch (B i), biA (O i 0) ch (B i)) E) 48 #[.pointer (some ⟨q, 0, none⟩)] (enters_of Try.func48 (by kernel_rfl) rfl) (fun W'' v E L nb b hb' hE h0 hl hv hn hbb hT hL => crun_any ch (H * V) N (biA (O i 0) ch (B i)) slo shi (O i 19) x0 y0 z0 g0 q W'' ((hb'.block q (lt_of_heap hq)).trans hq) hbi v E L nb b hE h0 hl hv hn hbb hT hL) (fun E hE h0 hl => frun hbi hE hl)
theorem bprd_bad (h w c lo hi ot op ch : Int) (oa : Option Addr) (on oc : Nat) (W : World) (slo shi E : Int) (hE : E ≠ 0) (hO : (∀ W', Below W.heap.size W W' → Calls Try.prog 40 #[.agg #[.int .i64 h, .int .i64 w, .int .i64 c, .int .i64 lo, .int .i64 hi, .slice oa on oc, .int .i64 ot], .int .i64 op, .int .i64 ch, .int .i64 0] W' fun e w' => e = .returned (.tuple #[.slice none 0 0, .int .i64 0, .int .i64 E]) ∧ Below W'.heap.size W' w')) : Calls Try.prog 9 #[.agg #[.int .i64 h, .int .i64 w, .int .i64 c, .int .i64 lo, .int .i64 hi, .slice oa on oc, .int .i64 ot], .int .i64 op, .int .i64 ch, .agg #[.int .i64 slo, .int .i64 shi]] W fun e w' => e = .returned (.tuple #[.agg #[.int .i64 0, .int .i64 0], .int .i64 E]) ∧ Below W.heap.size W w' :=
  bprd_e h w c lo hi ot op ch oa on oc W slo shi E hE (fun W' hb => bfind_e h w c lo hi ot op ch oa on oc W' slo shi E hE (fun W'' hb' => hO W'' (hb.trans (hb'.mono hb.size))))
theorem bprd_ok (h w c lo hi ot : Int) (oa : Option Addr) (on oc : Nat) (O : Nat → Nat → Int) (Z B : Nat → List Int) (W : World) (hL : LRow W oa on oc O Z B) (ch : Int) (RL : List (Int × Int × Int)) (Rw : Int) (hR : gtR O h w c lo hi ot on = (0, 0, RL, Rw)) (i : Nat) (x : Addr) (wa : Option Addr) (lw cw : Nat) (ba : Option Addr) (lb cb : Nat) (x0 y0 z0 H V C : Int) (hF : Fnd W oa on O Z B RL i x wa lw cw ba lb cb x0 y0 z0 H V C) (hch : 1 ≤ ch ∧ ch ≤ C) (slo shi : Int) : Calls Try.prog 9 #[.agg #[.int .i64 h, .int .i64 w, .int .i64 c, .int .i64 lo, .int .i64 hi, .slice oa on oc, .int .i64 ot], .int .i64 ((i : Int) + 1), .int .i64 ch, .agg #[.int .i64 slo, .int .i64 shi]] W fun e w' => e = .returned (.tuple #[.agg #[.int .i64 (spR slo shi (hbP (fun (j : Nat) => enL slo shi (O i 19) (siL (O i 0) (O i 4) (O i 5) (O i 6) (O i 7) (O i 8) (O i 9) (O i 10) (O i 11) x0 y0 z0 ch (j : Int) (Z i))) (H * V).toNat)).1, .int .i64 (spR slo shi (hbP (fun (j : Nat) => enL slo shi (O i 19) (siL (O i 0) (O i 4) (O i 5) (O i 6) (O i 7) (O i 8) (O i 9) (O i 10) (O i 11) x0 y0 z0 ch (j : Int) (Z i))) (H * V).toNat)).2.1], .int .i64 (spR slo shi (hbP (fun (j : Nat) => enL slo shi (O i 19) (siL (O i 0) (O i 4) (O i 5) (O i 6) (O i 7) (O i 8) (O i 9) (O i 10) (O i 11) x0 y0 z0 ch (j : Int) (Z i))) (H * V).toNat)).2.2]) ∧ Below W.heap.size W w' := by
  unfold spR
  cases hs : vbB slo shi with
  | false =>
    rw [if_neg (by decide)]
    exact bprd_e h w c lo hi ot _ ch oa on oc W slo shi 30 (by decide) (fun W' hb => bfind_30 h w c lo hi ot _ ch oa on oc W' slo shi _ _ hs (fun W'' hb' => bof0 h w c lo hi ot oa on oc O Z B W hL ch RL Rw hR i x wa lw cw ba lb cb x0 y0 z0 H V C hF hch W'' (hb.trans (hb'.mono hb.size))))
  | true =>
    rw [if_pos rfl]
    obtain ⟨-, -, -, -, -, hbi, -⟩ := bfacts hL RL Rw hR i x wa lw cw ba lb cb x0 y0 z0 H V C hF hch
    obtain ⟨N, hN⟩ : ∃ N, (siL (O i 0) (O i 4) (O i 5) (O i 6) (O i 7) (O i 8) (O i 9) (O i 10) (O i 11) x0 y0 z0 ch 0 (Z i)).length = N := ⟨_, rfl⟩
    refine bprd_w h w c lo hi ot _ ch oa on oc W slo shi (H * V) (biA (O i 0) ch (B i)) (O i 19) x0 y0 z0 N (by rw [← hN]; exact slen RL Rw hR i x wa lw cw ba lb cb x0 y0 z0 H V C hF hch) #[.int .i64 (O i 0), .int .i64 0, .int .i64 (O i 2), .int .i64 (O i 3), .int .i64 (O i 4), .int .i64 (O i 5), .int .i64 (O i 6), .int .i64 (O i 7), .int .i64 (O i 8), .int .i64 (O i 9), .int .i64 (O i 10), .int .i64 (O i 11), .slice wa lw cw, .slice ba lb cb, .int .i64 (O i 14), .int .i64 (O i 15), .int .i64 (O i 16), .int .i64 (O i 17), .int .i64 (O i 18), .int .i64 (O i 19), .int .i64 (O i 20), .int .i64 (O i 21)] _ _ (bfind_m h w c lo hi ot oa on oc O Z B W hL ch RL Rw hR i x wa lw cw ba lb cb x0 y0 z0 H V C hF hch slo shi hs N hN _ rfl) 25 rfl (fun W' g0 q hb hg hq => ?_)
    exact bhull_m h w c lo hi ot oa on oc O Z B W hL ch RL Rw hR i x wa lw cw ba lb cb x0 y0 z0 H V C hF hch slo shi hs N (biA (O i 0) ch (B i)) W' hb g0 q hg hq (fun E => E) 25 #[] (enters_of Try.func25 (by kernel_rfl) rfl) (fun W'' v E L nb b hb' hE h0 hl hv hn hbb hT hL => cprd_any W'' v E L nb b hE h0 hl hv hn hbb hT hL) (fun E hE h0 hl => hE.vd)
theorem bprt_bad (h w c lo hi ot op ch : Int) (oa : Option Addr) (on oc : Nat) (W : World) (slo shi dp E : Int) (hE : E ≠ 0) (hO : (∀ W', Below W.heap.size W W' → Calls Try.prog 40 #[.agg #[.int .i64 h, .int .i64 w, .int .i64 c, .int .i64 lo, .int .i64 hi, .slice oa on oc, .int .i64 ot], .int .i64 op, .int .i64 ch, .int .i64 0] W' fun e w' => e = .returned (.tuple #[.slice none 0 0, .int .i64 0, .int .i64 E]) ∧ Below W'.heap.size W' w')) : Calls Try.prog 12 #[.agg #[.int .i64 h, .int .i64 w, .int .i64 c, .int .i64 lo, .int .i64 hi, .slice oa on oc, .int .i64 ot], .int .i64 op, .int .i64 ch, .agg #[.int .i64 slo, .int .i64 shi], .int .i64 dp] W fun e w' => e = .returned (.tuple #[.agg #[.int .i64 0, .int .i64 0], .int .i64 E]) ∧ Below W.heap.size W w' :=
  bprt_e h w c lo hi ot op ch oa on oc W slo shi dp E hE (fun W' hb => bfind_e h w c lo hi ot op ch oa on oc W' slo shi E hE (fun W'' hb' => hO W'' (hb.trans (hb'.mono hb.size))))
theorem bprt_ok (h w c lo hi ot : Int) (oa : Option Addr) (on oc : Nat) (O : Nat → Nat → Int) (Z B : Nat → List Int) (W : World) (hL : LRow W oa on oc O Z B) (ch : Int) (RL : List (Int × Int × Int)) (Rw : Int) (hR : gtR O h w c lo hi ot on = (0, 0, RL, Rw)) (i : Nat) (x : Addr) (wa : Option Addr) (lw cw : Nat) (ba : Option Addr) (lb cb : Nat) (x0 y0 z0 H V C : Int) (hF : Fnd W oa on O Z B RL i x wa lw cw ba lb cb x0 y0 z0 H V C) (hch : 1 ≤ ch ∧ ch ≤ C) (slo shi dp : Int) (N : Nat) (hN : (siL (O i 0) (O i 4) (O i 5) (O i 6) (O i 7) (O i 8) (O i 9) (O i 10) (O i 11) x0 y0 z0 ch 0 (Z i)).length = N) : Calls Try.prog 12 #[.agg #[.int .i64 h, .int .i64 w, .int .i64 c, .int .i64 lo, .int .i64 hi, .slice oa on oc, .int .i64 ot], .int .i64 ((i : Int) + 1), .int .i64 ch, .agg #[.int .i64 slo, .int .i64 shi], .int .i64 dp] W fun e w' => e = .returned (.tuple #[.agg #[.int .i64 (spD slo shi dp N (hbD dp.toNat (fun (j : Nat) => enL slo shi (O i 19) (siL (O i 0) (O i 4) (O i 5) (O i 6) (O i 7) (O i 8) (O i 9) (O i 10) (O i 11) x0 y0 z0 ch (j : Int) (Z i))) (H * V).toNat)).1, .int .i64 (spD slo shi dp N (hbD dp.toNat (fun (j : Nat) => enL slo shi (O i 19) (siL (O i 0) (O i 4) (O i 5) (O i 6) (O i 7) (O i 8) (O i 9) (O i 10) (O i 11) x0 y0 z0 ch (j : Int) (Z i))) (H * V).toNat)).2.1], .int .i64 (spD slo shi dp N (hbD dp.toNat (fun (j : Nat) => enL slo shi (O i 19) (siL (O i 0) (O i 4) (O i 5) (O i 6) (O i 7) (O i 8) (O i 9) (O i 10) (O i 11) x0 y0 z0 ch (j : Int) (Z i))) (H * V).toNat)).2.2]) ∧ Below W.heap.size W w' := by
  unfold spD
  have hN5 : N ≤ 512 := by rw [← hN]; exact slen RL Rw hR i x wa lw cw ba lb cb x0 y0 z0 H V C hF hch
  cases hs : vbB slo shi with
  | false =>
    rw [if_neg (by decide)]
    exact bprt_e h w c lo hi ot _ ch oa on oc W slo shi dp 30 (by decide) (fun W' hb => bfind_30 h w c lo hi ot _ ch oa on oc W' slo shi _ _ hs (fun W'' hb' => bof0 h w c lo hi ot oa on oc O Z B W hL ch RL Rw hR i x wa lw cw ba lb cb x0 y0 z0 H V C hF hch W'' (hb.trans (hb'.mono hb.size))))
  | true =>
    rw [if_pos rfl]
    have hFm := bfind_m h w c lo hi ot oa on oc O Z B W hL ch RL Rw hR i x wa lw cw ba lb cb x0 y0 z0 H V C hF hch slo shi hs N hN _ rfl
    by_cases hd : 1 ≤ dp ∧ dp ≤ (N : Int)
    · rw [if_pos hd]
      obtain ⟨d, rfl⟩ := Int.eq_ofNat_of_zero_le (show 0 ≤ dp by omega)
      rw [Int.toNat_natCast]
      have hbf := bfacts hL RL Rw hR i x wa lw cw ba lb cb x0 y0 z0 H V C hF hch
      have hrf := row_facts (hbf.1.si hbf.2.1) hF.2.2.2.2.2.1.2.2.2.1 hch (vbB_yes hs) hbf.2.2.2.2.1 0
      have hpi := piT_it (show 0 < d by omega) (fun (j : Nat) => enL slo shi (O i 19) (siL (O i 0) (O i 4) (O i 5) (O i 6) (O i 7) (O i 8) (O i 9) (O i 10) (O i 11) x0 y0 z0 ch (j : Int) (Z i))) (H * V).toNat (by omega) hrf.2.1
      unfold hbD
      rw [hpi]
      refine bprt_w h w c lo hi ot _ ch oa on oc W slo shi d (H * V) (biA (O i 0) ch (B i)) (O i 19) x0 y0 z0 N hN5 #[.int .i64 (O i 0), .int .i64 0, .int .i64 (O i 2), .int .i64 (O i 3), .int .i64 (O i 4), .int .i64 (O i 5), .int .i64 (O i 6), .int .i64 (O i 7), .int .i64 (O i 8), .int .i64 (O i 9), .int .i64 (O i 10), .int .i64 (O i 11), .slice wa lw cw, .slice ba lb cb, .int .i64 (O i 14), .int .i64 (O i 15), .int .i64 (O i 16), .int .i64 (O i 17), .int .i64 (O i 18), .int .i64 (O i 19), .int .i64 (O i 20), .int .i64 (O i 21)] _ _ hFm ⟨by omega, by omega⟩ (fun W' g0 q r hb hg hq hr => ?_)
      exact bhull_m h w c lo hi ot oa on oc O Z B W hL ch RL Rw hR i x wa lw cw ba lb cb x0 y0 z0 H V C hF hch slo shi hs N (biA (O i 0) ch (B i)) W' hb g0 q hg hq (fun E => itL d E) 28 #[.pointer (some ⟨r, 0, none⟩)] (enters_of Try.func28 (by kernel_rfl) rfl) (fun W'' v E L nb b hb' hE h0 hl hv hn hbb hT hL => cprt_any W'' d r ((hb'.block r (lt_of_heap hr)).trans hr) (by omega) (by omega) v E L nb b hE h0 hl hv hn hbb hT hL) (fun E hE h0 hl => fprt hE hl)
    · rw [if_neg hd]
      exact bprt_d h w c lo hi ot _ ch oa on oc W slo shi dp (H * V) (biA (O i 0) ch (B i)) (O i 19) x0 y0 z0 N hN5 #[.int .i64 (O i 0), .int .i64 0, .int .i64 (O i 2), .int .i64 (O i 3), .int .i64 (O i 4), .int .i64 (O i 5), .int .i64 (O i 6), .int .i64 (O i 7), .int .i64 (O i 8), .int .i64 (O i 9), .int .i64 (O i 10), .int .i64 (O i 11), .slice wa lw cw, .slice ba lb cb, .int .i64 (O i 14), .int .i64 (O i 15), .int .i64 (O i 16), .int .i64 (O i 17), .int .i64 (O i 18), .int .i64 (O i 19), .int .i64 (O i 20), .int .i64 (O i 21)] 0 0 hFm hd
end Go.Proofs.Ytgiohlcipndakaa

/- Sums of weights, in plain numbers, and what they say at once. -/
namespace Go.Proofs.Ytgiohlcipndakaa
open Go.ChangeShapes Go.WideShapes Go.ChangeAt Go.RowKit
set_option linter.unusedVariables false
def upW (a : Int) : Int := if 0 < a then a else 0
def dnW (a : Int) : Int := if 0 < a then 0 else a
theorem upW_bd {a : Int} (h : -32768 ≤ a ∧ a ≤ 32767) : 0 ≤ upW a ∧ upW a ≤ 32768 := by unfold upW; split <;> omega
theorem dnW_bd {a : Int} (h : -32768 ≤ a ∧ a ≤ 32767) : -32768 ≤ dnW a ∧ dnW a ≤ 0 := by unfold dnW; split <;> omega
/-- The weights above 0 added up; those below. -/
def upS : List (Int × Int) → Int
  | [] => 0
  | t :: l => upW t.1 + upS l
def dnS : List (Int × Int) → Int
  | [] => 0
  | t :: l => dnW t.1 + dnS l
theorem upS_app : ∀ l r : List (Int × Int), upS (l ++ r) = upS l + upS r
  | [], r => by simp [upS]
  | t :: l, r => by simp only [List.cons_append, upS, upS_app l r]; omega
theorem dnS_app : ∀ l r : List (Int × Int), dnS (l ++ r) = dnS l + dnS r
  | [], r => by simp [dnS]
  | t :: l, r => by simp only [List.cons_append, dnS, dnS_app l r]; omega
theorem upS_take {l : List (Int × Int)} {n : Nat} {u v : Int} (hn : n < l.length) (h : l.getD n (0, 0) = (u, v)) : upS (l.take (n + 1)) = upS (l.take n) + upW u := by
  rw [List.getD_eq_getElem?_getD, List.getElem?_eq_getElem hn, Option.getD_some] at h
  rw [List.take_add_one, List.getElem?_eq_getElem hn, upS_app, h]
  simp [upS]
theorem dnS_take {l : List (Int × Int)} {n : Nat} {u v : Int} (hn : n < l.length) (h : l.getD n (0, 0) = (u, v)) : dnS (l.take (n + 1)) = dnS (l.take n) + dnW u := by
  rw [List.getD_eq_getElem?_getD, List.getElem?_eq_getElem hn, Option.getD_some] at h
  rw [List.take_add_one, List.getElem?_eq_getElem hn, dnS_app, h]
  simp [dnS]
theorem sg_bd : ∀ l : List (Int × Int), (∀ t ∈ l, -32768 ≤ t.1 ∧ t.1 ≤ 32767) → (0 ≤ upS l ∧ upS l ≤ 32768 * (l.length : Int)) ∧ (-(32768 * (l.length : Int)) ≤ dnS l ∧ dnS l ≤ 0)
  | [], _ => by simp [upS, dnS]
  | t :: l, h => by
    have h1 := sg_bd l fun t ht => h t (List.mem_cons_of_mem _ ht)
    have h2 := upW_bd (h t List.mem_cons_self)
    have h3 := dnW_bd (h t List.mem_cons_self)
    simp only [upS, dnS, List.length_cons]
    omega
theorem sg_take {l : List (Int × Int)} (h : ∀ t ∈ l, -32768 ≤ t.1 ∧ t.1 ≤ 32767) (hl : l.length ≤ 512) (n : Nat) : (0 ≤ upS (l.take n) ∧ upS (l.take n) ≤ 16777216) ∧ (-16777216 ≤ dnS (l.take n) ∧ dnS (l.take n) ≤ 0) := by
  have h1 := sg_bd (l.take n) (take_mem h n)
  have h2 : (l.take n).length ≤ 512 := by rw [List.length_take]; omega
  omega
theorem sg_all {l : List (Int × Int)} (h : ∀ t ∈ l, -32768 ≤ t.1 ∧ t.1 ≤ 32767) (hl : l.length ≤ 512) : (0 ≤ upS l ∧ upS l ≤ 16777216) ∧ (-16777216 ≤ dnS l ∧ dnS l ≤ 0) := by
  have h1 := sg_bd l h
  omega
theorem sg_fst : ∀ l r : List (Int × Int), l.map (·.1) = r.map (·.1) → upS l = upS r ∧ dnS l = dnS r
  | [], [], _ => ⟨rfl, rfl⟩
  | [], _ :: _, h => by simp at h
  | _ :: _, [], h => by simp at h
  | t :: l, s :: r, h => by
    simp only [List.map_cons, List.cons.injEq] at h
    have ih := sg_fst l r h.2
    simp only [upS, dnS, h.1, ih.1, ih.2]
    exact ⟨trivial, trivial⟩
/-- A channel's weights are the same wherever its sum is. -/
theorem siL_fst (k kh kw sh sw tp lf bt rt h w c ch a1 a2 : Int) (zs : List Int) : (siL k kh kw sh sw tp lf bt rt h w c ch a1 zs).map (·.1) = (siL k kh kw sh sw tp lf bt rt h w c ch a2 zs).map (·.1) := by
  unfold siL tmL
  rw [List.map_map, List.map_map]
  rfl
/-! ### How far from 0 -/
def szV (x : Int) : Int := if x < 0 then -x else x
def rcS (lo hi : Int) : Int := mxI (szV lo) (szV hi)
def rcV (tp lf bt rt p lo hi : Int) : Int := if 0 < tp + lf + bt + rt then mxI (rcS lo hi) (szV p) else rcS lo hi
theorem szV_bd {x : Int} (h : -128 ≤ x ∧ x ≤ 127) : 0 ≤ szV x ∧ szV x ≤ 128 := by unfold szV; split <;> omega
theorem mxI_bd {a b X : Int} (h1 : 0 ≤ a ∧ a ≤ X) (h2 : 0 ≤ b ∧ b ≤ X) : 0 ≤ mxI a b ∧ mxI a b ≤ X := by unfold mxI; split <;> omega
theorem rcV_bd {tp lf bt rt p lo hi : Int} (h1 : -128 ≤ lo ∧ lo ≤ 127) (h2 : -128 ≤ hi ∧ hi ≤ 127) (h3 : I8 p) : 0 ≤ rcV tp lf bt rt p lo hi ∧ rcV tp lf bt rt p lo hi ≤ 128 := by
  have h4 := mxI_bd (szV_bd h1) (szV_bd h2)
  unfold rcV
  split
  · exact mxI_bd h4 (szV_bd h3)
  · exact h4
/-- Over a wider span it is no less. -/
theorem rcV_wide {tp lf bt rt p lo hi lo' hi' : Int} (h : lo ≤ hi) (h1 : lo' ≤ lo) (h2 : hi ≤ hi') : rcV tp lf bt rt p lo hi ≤ rcV tp lf bt rt p lo' hi' := by
  have e : rcS lo hi ≤ rcS lo' hi' := by
    unfold rcS mxI szV
    repeat' split
    all_goals omega
  unfold rcV mxI
  repeat' split
  all_goals omega
/-- The product of a sum of weights and a reach. -/
theorem aw_bd {a r : Int} (h1 : 0 ≤ a ∧ a ≤ 33554432) (h2 : 0 ≤ r ∧ r ≤ 128) : 0 ≤ a * r ∧ a * r ≤ 4294967296 := by
  have p1 := Int.mul_nonneg h1.1 h2.1
  have p2 := Int.mul_le_mul h1.2 h2.2 h2.1 (by omega : (0 : Int) ≤ 33554432)
  omega
/-! ### What it holds -/
theorem prod_held {a v R : Int} (h : -R ≤ v ∧ v ≤ R) : -((upW a - dnW a) * R) ≤ a * v ∧ a * v ≤ (upW a - dnW a) * R := by
  obtain ⟨v1, v2⟩ := h
  unfold upW dnW
  split
  · rename_i g
    have p1 := Int.mul_le_mul_of_nonneg_left v1 (show 0 ≤ a by omega)
    have p2 := Int.mul_le_mul_of_nonneg_left v2 (show 0 ≤ a by omega)
    rw [Int.mul_neg] at p1
    rw [Int.sub_zero]
    exact ⟨p1, p2⟩
  · rename_i g
    have p1 := Int.mul_le_mul_of_nonpos_left (show a ≤ 0 by omega) v1
    have p2 := Int.mul_le_mul_of_nonpos_left (show a ≤ 0 by omega) v2
    rw [Int.mul_neg] at p1
    rw [Int.zero_sub, Int.neg_mul]
    omega
theorem smV_held {p R : Int} {x : List Int} : ∀ l : List (Int × Int), (∀ t ∈ l, -R ≤ (if t.2 < 0 then p else x.getD t.2.toNat 0) ∧ (if t.2 < 0 then p else x.getD t.2.toNat 0) ≤ R) → -((upS l - dnS l) * R) ≤ smV p x l ∧ smV p x l ≤ (upS l - dnS l) * R
  | [], _ => by simp [smV, upS, dnS]
  | t :: l, h => by
    have h1 := smV_held l fun t ht => h t (List.mem_cons_of_mem _ ht)
    have h2 := prod_held (a := t.1) (h t List.mem_cons_self)
    simp only [smV, smT, upS, dnS]
    have e : (upW t.1 + upS l - (dnW t.1 + dnS l)) * R = (upW t.1 - dnW t.1) * R + (upS l - dnS l) * R := by
      rw [← Int.add_mul]
      congr 1
      omega
    rw [e]
    omega
/-- Without padding each tap of a position lies in the plane. -/
theorem tpc_np {h w kh kw sh sw H V n q : Int} (hf : Fit h w kh kw sh sw 0 0 0 0 H V) (hn : 0 ≤ n ∧ n < H * V) (hq : 0 ≤ q ∧ q < kh * kw) : tpc h w kw (n / V * sh - 0) (n % V * sw - 0) q ≠ -1 := by
  obtain ⟨⟨h1, w1, q9⟩, ⟨k1, k2, k3, k4, -, -, -, -⟩, r1, q1, z1, z2⟩ := hf
  have a1 := Int.ediv_nonneg hn.1 (show 0 ≤ V by omega)
  have a2 : n / V < H := Int.ediv_lt_of_lt_mul (by omega) hn.2
  have b1 := Int.emod_nonneg n (show V ≠ 0 by omega)
  have b2 := Int.emod_lt_of_pos n (show 0 < V by omega)
  have c1 := Int.mul_le_mul_of_nonneg_right (show n / V ≤ H - 1 by omega) (show 0 ≤ sh by omega)
  have c2 := Int.mul_le_mul_of_nonneg_right (show n % V ≤ V - 1 by omega) (show 0 ≤ sw by omega)
  have c3 := Int.mul_nonneg a1 (show 0 ≤ sh by omega)
  have c4 := Int.mul_nonneg b1 (show 0 ≤ sw by omega)
  have d1 := Int.ediv_nonneg hq.1 (show 0 ≤ kw by omega)
  have d2 : q / kw < kh := Int.ediv_lt_of_lt_mul (by omega) hq.2
  have d3 := Int.emod_nonneg q (show kw ≠ 0 by omega)
  have d4 := Int.emod_lt_of_pos q (show 0 < kw by omega)
  unfold tpc
  have g : (0 ≤ n / V * sh - 0 + q / kw ∧ n / V * sh - 0 + q / kw < h) ∧ (0 ≤ n % V * sw - 0 + q % kw ∧ n % V * sw - 0 + q % kw < w) := by omega
  rw [plc_in g]
  have := rowbd g.1.2 g.1.1 g.2.1 g.2.2
  omega
/-- A place that is padding: some side has padding. -/
theorem pad_side {k kh kw sh sw tp lf bt rt h w c H V C : Int} {lw lb : Nat} (s : Sit k kh kw sh sw tp lf bt rt h w c H V C lw lb) {ch n i : Int} (hch : 1 ≤ ch ∧ ch ≤ C) (hn : 0 ≤ n ∧ n < H * V) (hi : 0 ≤ i ∧ i < stR k kh kw h w c)
    (hp : plA k c ch h w kw (coR h w c kh kw sh sw tp lf bt rt n).1 (coR h w c kh kw sh sw tp lf bt rt n).2.1 i < 0) : 0 < tp + lf + bt + rt := by
  obtain ⟨hk, hvA, hvB, hou, -, -, -, h3c, -⟩ := s
  have hc1 := (vS_yes hvA).2.2.1
  by_cases k1 : k = 1
  · unfold plA at hp
    rw [if_pos k1] at hp
    omega
  have ho := hou (by omega)
  rcases ouR_cases h w c kh kw sh sw tp lf bt rt with ⟨e, he, h2⟩ | ⟨r, q, he, hf⟩
  · rw [ho] at he
    simp only [Prod.mk.injEq] at he
    omega
  rw [ho] at he
  simp only [Prod.mk.injEq] at he
  obtain ⟨rfl, rfl, -⟩ := he
  have hw := hf.2.1
  obtain ⟨-, -, -, -, t1, t2, t3, t4⟩ := hw
  by_cases g : 0 < tp + lf + bt + rt
  · exact g
  exfalso
  obtain rfl : tp = 0 := by omega
  obtain rfl : lf = 0 := by omega
  obtain rfl : bt = 0 := by omega
  obtain rfl : rt = 0 := by omega
  have hco : coR h w c kh kw sh sw 0 0 0 0 n = (n / V * sh - 0, n % V * sw - 0, 0) := by
    unfold coR; rw [ho, if_pos rfl, if_pos hn]
  rw [hco] at hp
  simp only at hp
  unfold plA at hp
  rw [if_neg k1] at hp
  have hcv : ∀ q d : Int, tpc h w kw (n / V * sh - 0) (n % V * sw - 0) q ≠ -1 → 0 ≤ d → 0 ≤ cov c (tpc h w kw (n / V * sh - 0) (n % V * sw - 0) q) d := fun q d h1 h2 => by
    unfold cov
    rw [if_neg h1]
    rcases tpc_in (h := h) (w := w) (kw := kw) (t := n / V * sh - 0) (u := n % V * sw - 0) q with e | e
    · exact absurd e h1
    · have := Int.mul_nonneg e.1 (show 0 ≤ c by omega)
      omega
  by_cases k2 : k = 2
  · rw [if_pos k2] at hp
    subst k2
    have hst : stR 2 kh kw h w c = kh * kw * c := rfl
    rw [hst] at hi
    have e1 := Int.ediv_nonneg hi.1 (show 0 ≤ c by omega)
    have e2 : i / c < kh * kw := Int.ediv_lt_of_lt_mul (by omega) hi.2
    have e3 := Int.emod_nonneg i (show c ≠ 0 by omega)
    have := hcv _ _ (tpc_np hf hn ⟨e1, e2⟩) e3
    omega
  · rw [if_neg k2] at hp
    have hst : stR k kh kw h w c = kh * kw := by unfold stR; rw [if_neg k1, if_neg k2, if_pos (by omega)]
    rw [hst] at hi
    have := hcv _ (ch - 1) (tpc_np hf hn hi) (by omega)
    omega
/-- A number of a span lies no farther than its ends. -/
theorem in_rcS {lo hi v : Int} (h : lo ≤ v ∧ v ≤ hi) : -(rcS lo hi) ≤ v ∧ v ≤ rcS lo hi := by
  unfold rcS mxI szV
  repeat' split
  all_goals omega
/-- Whatever numbers of the span the tensor has: the channel's sums are held. -/
theorem suA_held {k kh kw sh sw tp lf bt rt h w c H V C p : Int} {lw lb : Nat} (s : Sit k kh kw sh sw tp lf bt rt h w c H V C lw lb) {zs bs x : List Int} (hz : ∀ v ∈ zs, (Lit.int .i16 v).wf = true) {ch : Int} (hch : 1 ≤ ch ∧ ch ≤ C) {n : Int} (hn : 0 ≤ n ∧ n < H * V) (hx : (x.length : Int) = h * w * c) {lo hi : Int} (hs : ∀ v ∈ x, lo ≤ v ∧ v ≤ hi) :
    biA k ch bs - (upS (siL k kh kw sh sw tp lf bt rt h w c ch 0 zs) - dnS (siL k kh kw sh sw tp lf bt rt h w c ch 0 zs)) * rcV tp lf bt rt p lo hi ≤ suA k kh kw sh sw tp lf bt rt h w c p zs bs x ch n ∧ suA k kh kw sh sw tp lf bt rt h w c p zs bs x ch n ≤ biA k ch bs + (upS (siL k kh kw sh sw tp lf bt rt h w c ch 0 zs) - dnS (siL k kh kw sh sw tp lf bt rt h w c ch 0 zs)) * rcV tp lf bt rt p lo hi := by
  obtain ⟨e1, e2⟩ := sg_fst _ _ (siL_fst k kh kw sh sw tp lf bt rt h w c ch 0 n zs)
  rw [e1, e2]
  have key := smV_held (p := p) (R := rcV tp lf bt rt p lo hi) (x := x) (siL k kh kw sh sw tp lf bt rt h w c ch n zs) (fun t ht => ?_)
  · unfold suA
    omega
  · have hf := ((siL_facts s hz hch n).2 t ht).2
    have hpl : t.2 < 0 → 0 < tp + lf + bt + rt := fun q => by
      unfold siL tmL at ht
      obtain ⟨i, hi, rfl⟩ := List.mem_map.1 ht
      have hi' : i < (stR k kh kw h w c).toNat := by simpa using hi
      have h0 := s.2.2.2.2.2.2.2.2.1
      exact pad_side s hch hn ⟨by omega, by omega⟩ q
    by_cases q : t.2 < 0
    · rw [if_pos q]
      unfold rcV
      rw [if_pos (hpl q)]
      unfold mxI szV
      repeat' split
      all_goals omega
    · rw [if_neg q]
      have hl : t.2.toNat < x.length := by omega
      have hm : x.getD t.2.toNat 0 ∈ x := by rw [List.getD_eq_getElem?_getD, List.getElem?_eq_getElem hl]; exact List.getElem_mem hl
      have h1 := in_rcS (hs _ hm)
      unfold rcV mxI
      split
      · split <;> omega
      · exact h1
/-- The sides of a window of an op that reduces. -/
theorem side_nn {k b m kh kw sh sw tp lf bt rt : Int} {lw lb : Nat} {sm ss um us z p lo hi h w c H V C : Int} (s : Opd k b m kh kw sh sw tp lf bt rt lw lb sm ss um us z p lo hi h w c H V C) (hk : k ≤ 4) : (0 ≤ tp ∧ tp ≤ 31) ∧ (0 ≤ lf ∧ lf ≤ 31) ∧ (0 ≤ bt ∧ bt ≤ 31) ∧ (0 ≤ rt ∧ rt ≤ 31) := by
  have hk0 := s.hk
  by_cases k1 : k = 1
  · have ho := of_decide_eq_true s.oz
    obtain ⟨-, -, -, -, g5, g6, g7, g8⟩ := ho.2.2.2.2.1 (.inl k1)
    omega
  · have ho := s.ou (by omega)
    rcases ouR_cases h w c kh kw sh sw tp lf bt rt with ⟨e, he, h2⟩ | ⟨r, q, he, hf⟩
    · rw [ho] at he
      simp only [Prod.mk.injEq] at he
      omega
    obtain ⟨k1, k2, -, -, t1, t2, t3, t4⟩ := hf.2.1
    omega
end Go.Proofs.Ytgiohlcipndakaa

/- What the answers of package bound hold, in plain numbers: one another; over wider spans; Quick. -/
namespace Go.Proofs.Ytgiohlcipndakaa
open Go.ChangeShapes Go.WideShapes Go.ChangeAt Go.RowKit
set_option linter.unusedVariables false
theorem piT_head {F : List (Int × Int) → List (Int × Int)} {R : Nat → List (Int × Int)} {N : Nat} (hN : 0 < N) {x : Int × Int} {l : List (Int × Int)} (h : F (R 0) = x :: l) : ∃ m, piT F R N = x :: m := by
  obtain ⟨n, rfl⟩ : ∃ n, N = n + 1 := ⟨N - 1, by omega⟩
  unfold piT
  rw [List.range_succ_eq_map, List.flatMap_cons, h]
  exact ⟨_, rfl⟩
/-- The one is held by the other. -/
def Inn (x y : Int × Int) : Prop := y.1 ≤ x.1 ∧ x.2 ≤ y.2
theorem Inn.refl (x : Int × Int) : Inn x x := ⟨Int.le_refl _, Int.le_refl _⟩
theorem hul_in {L M : List (Int × Int)} (hL : L ≠ []) (hM : M ≠ []) (h : ∀ x ∈ L, ∃ y ∈ M, Inn x y) : Inn (huA L) (huA M) := by
  obtain ⟨-, ⟨x, hx, ex⟩, ⟨y, hy, ey⟩⟩ := huA_is hL
  obtain ⟨h1, -, -⟩ := huA_is hM
  obtain ⟨u, hu, i1⟩ := h x hx
  obtain ⟨v, hv, i2⟩ := h y hy
  have a1 := h1 u hu
  have a2 := h1 v hv
  unfold Inn at *
  omega
theorem hul_has {L : List (Int × Int)} {x : Int × Int} (hx : x ∈ L) : Inn x (huA L) := by
  have hL : L ≠ [] := fun e => by rw [e] at hx; cases hx
  exact (huA_is hL).1 x hx
theorem hul_ok {L : List (Int × Int)} {M : Int} (hL : L ≠ []) (h : ∀ x ∈ L, Vd M x) : Vd M (huA L) := by
  cases L with
  | nil => exact absurd rfl hL
  | cons x l => exact huF_vd (h x List.mem_cons_self) fun y hy => h y (List.mem_cons_of_mem _ hy)
theorem xho_of {a b : Int × Int} (h : Inn b a) (hv : b.1 ≤ b.2) : xho a.1 a.2 b.1 b.2 = true := decide_eq_true ⟨hv, h.1, h.2⟩
theorem piT_ne {F : List (Int × Int) → List (Int × Int)} {R : Nat → List (Int × Int)} {N : Nat} (hN : 0 < N) (h : 0 < (F (R 0)).length) : piT F R N ≠ [] := fun e => by
  cases q : F (R 0) with
  | nil => rw [q] at h; cases h
  | cons x l =>
    obtain ⟨m, hm⟩ := piT_head hN q
    rw [hm] at e; cases e
theorem piT_in {F G : List (Int × Int) → List (Int × Int)} {R R' : Nat → List (Int × Int)} {N : Nat} (h : ∀ k, k < N → ∀ x ∈ F (R k), ∃ y ∈ G (R' k), Inn x y) : ∀ x ∈ piT F R N, ∃ y ∈ piT G R' N, Inn x y := fun x hx => by
  obtain ⟨k, hk, hx'⟩ := mem_piT.1 hx
  obtain ⟨y, hy, hi⟩ := h k hk x hx'
  exact ⟨y, mem_piT.2 ⟨k, hk, hy⟩, hi⟩
/-! ### One another -/
theorem suS_mem (s : Int × Int) (E : List (Int × Int)) : suS s E ∈ ruL s E := mem_ruL.2 ⟨E.length, Nat.le_refl _, by rw [List.take_length]⟩
theorem mem_pa1 {E : List (Int × Int)} {x : Int × Int} : x ∈ paL 1 E ++ E ↔ x ∈ E := by
  rw [List.mem_append, mem_paL (by omega)]
  constructor
  · rintro (⟨i, hi, rfl⟩ | h)
    · unfold psm
      rw [Nat.div_one, Nat.mul_one, Nat.mod_one, Nat.zero_add]
      rw [List.take_one, List.head?_drop, List.getElem?_eq_getElem hi]
      simp only [Option.toList, suS, List.foldl, plS, Int.zero_add]
      exact List.getElem_mem hi
    · exact h
  · exact fun h => .inr h
theorem hbD_one {R : Nat → List (Int × Int)} {N : Nat} (h : piT (fun E => paL 1 E ++ E) R N ≠ []) : hbD 1 R N = hbP R N :=
  huA_eq h fun x => by
    rw [mem_piT, mem_piT]
    constructor
    · rintro ⟨k, hk, hx⟩; exact ⟨k, hk, mem_pa1.1 hx⟩
    · rintro ⟨k, hk, hx⟩; exact ⟨k, hk, mem_pa1.2 hx⟩
/-! ### Over a wider span -/
theorem xti_wide {a b c d k : Int} (h1 : c ≤ a) (h2 : a ≤ b) (h3 : b ≤ d) : Inn (xti a b k) (xti c d k) := by
  unfold Inn xti
  by_cases g : k < 0
  · rw [if_pos g, if_pos g]
    have p1 := Int.mul_le_mul_of_nonpos_right h3 (show k ≤ 0 by omega)
    have p2 := Int.mul_le_mul_of_nonpos_right h1 (show k ≤ 0 by omega)
    exact ⟨p1, p2⟩
  · rw [if_neg g, if_neg g]
    exact ⟨Int.mul_le_mul_of_nonneg_right h1 (by omega), Int.mul_le_mul_of_nonneg_right h3 (by omega)⟩
theorem tmE_wide {lo hi lo' hi' p : Int} (h1 : lo' ≤ lo) (h2 : lo ≤ hi) (h3 : hi ≤ hi') (t : Int × Int) : Inn (tmE lo hi p t) (tmE lo' hi' p t) := by
  unfold tmE
  split
  · exact Inn.refl _
  · exact xti_wide h1 h2 h3
theorem plS_in {a b c d : Int × Int} (h : Inn a b) (g : Inn c d) : Inn (plS a c) (plS b d) := by unfold Inn plS at *; simp only; omega
theorem suS_in {f g : Int × Int → Int × Int} : ∀ (TL : List (Int × Int)) (s s' : Int × Int), (∀ t ∈ TL, Inn (f t) (g t)) → Inn s s' → Inn (suS s (TL.map f)) (suS s' (TL.map g))
  | [], s, s', _, h => h
  | t :: l, s, s', H, h => suS_in l (plS s (f t)) (plS s' (g t)) (fun u hu => H u (List.mem_cons_of_mem _ hu)) (plS_in h (H t List.mem_cons_self))
section
variable {lo hi lo' hi' p : Int} (h1 : lo' ≤ lo) (h2 : lo ≤ hi) (h3 : hi ≤ hi') (TL : List (Int × Int))
include h1 h2 h3
theorem win_tot (b : Int) : Inn (suS (b, b) (enL lo hi p TL)) (suS (b, b) (enL lo' hi' p TL)) := suS_in TL _ _ (fun t _ => tmE_wide h1 h2 h3 t) (Inn.refl _)
theorem win_sub (i j : Nat) (s : Int × Int) : Inn (suS s (((enL lo hi p TL).drop i).take j)) (suS s (((enL lo' hi' p TL).drop i).take j)) := by
  unfold enL
  rw [← List.map_drop, ← List.map_take, ← List.map_drop, ← List.map_take]
  exact suS_in _ _ _ (fun t _ => tmE_wide h1 h2 h3 t) (Inn.refl _)
theorem win_run (b : Int) : ∀ x ∈ ruL (b, b) (enL lo hi p TL), ∃ y ∈ ruL (b, b) (enL lo' hi' p TL), Inn x y := fun x hx => by
  obtain ⟨j, hj, rfl⟩ := mem_ruL.1 hx
  refine ⟨_, mem_ruL.2 ⟨j, by rw [enL_len] at hj ⊢; exact hj, rfl⟩, ?_⟩
  have := win_sub (p := p) h1 h2 h3 TL 0 j (b, b)
  simpa using this
theorem win_prd : ∀ x ∈ enL lo hi p TL, ∃ y ∈ enL lo' hi' p TL, Inn x y := fun x hx => by
  obtain ⟨t, ht, rfl⟩ := List.mem_map.1 hx
  exact ⟨_, List.mem_map.2 ⟨t, ht, rfl⟩, tmE_wide h1 h2 h3 t⟩
theorem win_prt {d : Nat} (hd : 0 < d) : ∀ x ∈ paL d (enL lo hi p TL) ++ enL lo hi p TL, ∃ y ∈ paL d (enL lo' hi' p TL) ++ enL lo' hi' p TL, Inn x y := fun x hx => by
  rcases List.mem_append.1 hx with q | q
  · obtain ⟨i, hi', rfl⟩ := (mem_paL hd).1 q
    refine ⟨_, List.mem_append_left _ ((mem_paL hd).2 ⟨i, by rw [enL_len] at hi' ⊢; exact hi', rfl⟩), ?_⟩
    exact win_sub (p := p) h1 h2 h3 TL _ _ (0, 0)
  · obtain ⟨y, hy, hh⟩ := win_prd h1 h2 h3 TL x q
    exact ⟨y, List.mem_append_right _ hy, hh⟩
end
/-! ### Quick -/
theorem end_held {lo hi p R : Int} {t : Int × Int} (hlh : lo ≤ hi) (h1 : -R ≤ lo) (h2 : hi ≤ R) (hp : t.2 < 0 → -R ≤ p ∧ p ≤ R) : -((upW t.1 - dnW t.1) * R) ≤ (tmE lo hi p t).1 ∧ (tmE lo hi p t).2 ≤ (upW t.1 - dnW t.1) * R := by
  have pl := prod_held (a := t.1) (v := lo) (R := R) ⟨h1, by omega⟩
  have ph := prod_held (a := t.1) (v := hi) (R := R) ⟨by omega, h2⟩
  rw [Int.mul_comm t.1 lo] at pl
  rw [Int.mul_comm t.1 hi] at ph
  unfold tmE
  split
  · rename_i q
    have pp := prod_held (a := t.1) (hp q)
    rw [Int.mul_comm t.1 p] at pp
    exact pp
  · unfold xti
    split <;> simp only <;> omega
theorem run_held {lo hi p R : Int} (hlh : lo ≤ hi) (h1 : -R ≤ lo) (h2 : hi ≤ R) : ∀ (TL : List (Int × Int)) (s : Int × Int), (∀ t ∈ TL, t.2 < 0 → -R ≤ p ∧ p ≤ R) → s.1 - (upS TL - dnS TL) * R ≤ (suS s (enL lo hi p TL)).1 ∧ (suS s (enL lo hi p TL)).2 ≤ s.2 + (upS TL - dnS TL) * R
  | [], s, _ => by simp [upS, dnS, enL, suS]
  | t :: l, s, hp => by
    have ih := run_held hlh h1 h2 l (plS s (tmE lo hi p t)) (fun u hu => hp u (List.mem_cons_of_mem _ hu))
    have he := end_held (t := t) hlh h1 h2 (hp t List.mem_cons_self)
    have e : (upS (t :: l) - dnS (t :: l)) * R = (upW t.1 - dnW t.1) * R + (upS l - dnS l) * R := by
      rw [← Int.add_mul]
      congr 1
      simp only [upS, dnS]
      omega
    rw [e]
    have e2 : suS s (enL lo hi p (t :: l)) = suS (plS s (tmE lo hi p t)) (enL lo hi p l) := rfl
    rw [e2]
    simp only [plS] at ih ⊢
    omega
theorem up_take {TL : List (Int × Int)} {R : Int} (hR : 0 ≤ R) (h : ∀ t ∈ TL, -32768 ≤ t.1 ∧ t.1 ≤ 32767) (j : Nat) : (upS (TL.take j) - dnS (TL.take j)) * R ≤ (upS TL - dnS TL) * R := by
  have e := List.take_append_drop j TL
  have e1 : upS TL = upS (TL.take j) + upS (TL.drop j) := by rw [← upS_app, e]
  have e2 : dnS TL = dnS (TL.take j) + dnS (TL.drop j) := by rw [← dnS_app, e]
  have hb := sg_bd (TL.drop j) fun t ht => h t (List.mem_of_mem_drop ht)
  refine Int.mul_le_mul_of_nonneg_right ?_ hR
  omega
/-- Quick holds every running sum. -/
theorem quick_run {k kh kw sh sw tp lf bt rt h w c H V C p : Int} {lw lb : Nat} (s : Sit k kh kw sh sw tp lf bt rt h w c H V C lw lb) {zs : List Int} (hz : ∀ v ∈ zs, (Lit.int .i16 v).wf = true) {ch : Int} (hch : 1 ≤ ch ∧ ch ≤ C) {lo hi bi : Int} (hs : -128 ≤ lo ∧ lo ≤ hi ∧ hi ≤ 127) (hp : I8 p) (n : Int) (hn : 0 ≤ n ∧ n < H * V) :
    ∀ x ∈ ruL (bi, bi) (enL lo hi p (siL k kh kw sh sw tp lf bt rt h w c ch n zs)), Inn x (bi - (upS (siL k kh kw sh sw tp lf bt rt h w c ch 0 zs) - dnS (siL k kh kw sh sw tp lf bt rt h w c ch 0 zs)) * rcV tp lf bt rt p lo hi, bi + (upS (siL k kh kw sh sw tp lf bt rt h w c ch 0 zs) - dnS (siL k kh kw sh sw tp lf bt rt h w c ch 0 zs)) * rcV tp lf bt rt p lo hi) := fun x hx => by
  obtain ⟨e1, e2⟩ := sg_fst _ _ (siL_fst k kh kw sh sw tp lf bt rt h w c ch 0 n zs)
  rw [e1, e2]
  obtain ⟨j, hj, rfl⟩ := mem_ruL.1 hx
  have hR := rcV_bd (tp := tp) (lf := lf) (bt := bt) (rt := rt) (lo := lo) (hi := hi) (by omega) (by omega) hp
  have hl := in_rcS (lo := lo) (hi := hi) (v := lo) (by omega)
  have hh := in_rcS (lo := lo) (hi := hi) (v := hi) (by omega)
  have hRS : rcS lo hi ≤ rcV tp lf bt rt p lo hi := by unfold rcV mxI; split <;> (try split) <;> omega
  have hpad : ∀ t ∈ (siL k kh kw sh sw tp lf bt rt h w c ch n zs).take j, t.2 < 0 → -(rcV tp lf bt rt p lo hi) ≤ p ∧ p ≤ rcV tp lf bt rt p lo hi := fun t ht q => by
    have ht' := List.mem_of_mem_take ht
    have hpl : 0 < tp + lf + bt + rt := by
      unfold siL tmL at ht'
      obtain ⟨i, hi, rfl⟩ := List.mem_map.1 ht'
      have hi' : i < (stR k kh kw h w c).toNat := by simpa using hi
      have h0 := s.2.2.2.2.2.2.2.2.1
      exact pad_side s hch hn ⟨by omega, by omega⟩ q
    unfold rcV
    rw [if_pos hpl]
    unfold mxI szV
    repeat' split
    all_goals omega
  have hk := run_held hs.2.1 (show -(rcV tp lf bt rt p lo hi) ≤ lo by omega) (show hi ≤ rcV tp lf bt rt p lo hi by omega) ((siL k kh kw sh sw tp lf bt rt h w c ch n zs).take j) (bi, bi) hpad
  have ht := up_take hR.1 (fun t ht => ((siL_facts s hz hch n).2 t ht).1) j
  have e3 : enL lo hi p ((siL k kh kw sh sw tp lf bt rt h w c ch n zs).take j) = (enL lo hi p (siL k kh kw sh sw tp lf bt rt h w c ch n zs)).take j := by unfold enL; rw [List.map_take]
  rw [e3] at hk
  unfold Inn
  simp only at hk ⊢
  omega
end Go.Proofs.Ytgiohlcipndakaa

/- The four hulls in plain numbers: what is known of them, how they lie in one another, wider spans. -/
namespace Go.Proofs.Ytgiohlcipndakaa
open Go.ChangeShapes Go.WideShapes Go.ChangeAt Go.RowKit
set_option linter.unusedVariables false
theorem sit_N {k kh kw sh sw tp lf bt rt h w c H V C : Int} {lw lb : Nat} (s : Sit k kh kw sh sw tp lf bt rt h w c H V C lw lb) : 0 < (H * V).toNat := by have := (vS_bd s.2.2.1).1; omega
theorem spR_t {slo shi : Int} (h : vbB slo shi = true) (r : Int × Int) : spR slo shi r = (r.1, r.2, 0) := if_pos h
theorem spR_f {slo shi : Int} (h : vbB slo shi = false) (r : Int × Int) : spR slo shi r = (0, 0, 30) := if_neg (by rw [h]; decide)
/-- What is known of the four hulls: each is a span of numbers that are small. -/
theorem hb_vd {k kh kw sh sw tp lf bt rt h w c H V C p : Int} {lw lb : Nat} (s : Sit k kh kw sh sw tp lf bt rt h w c H V C lw lb) {zs : List Int} (hz : ∀ v ∈ zs, (Lit.int .i16 v).wf = true) {ch : Int} (hch : 1 ≤ ch ∧ ch ≤ C) {slo shi bi : Int} (hs : -128 ≤ slo ∧ slo ≤ shi ∧ shi ≤ 127) (hp : -128 ≤ p ∧ p ≤ 127) (hbi : -2147483648 ≤ bi ∧ bi ≤ 2147483647) : (Vd 10000000000 (hbT bi (fun (j : Nat) => enL slo shi p (siL k kh kw sh sw tp lf bt rt h w c ch (j : Int) zs)) (H * V).toNat) ∧ Vd 10000000000 (hbR bi (fun (j : Nat) => enL slo shi p (siL k kh kw sh sw tp lf bt rt h w c ch (j : Int) zs)) (H * V).toNat)) ∧ (Vd 10000000000 (hbP (fun (j : Nat) => enL slo shi p (siL k kh kw sh sw tp lf bt rt h w c ch (j : Int) zs)) (H * V).toNat) ∧ ∀ d : Nat, 0 < d → d ≤ 512 → Vd 10000000000 (hbD d (fun (j : Nat) => enL slo shi p (siL k kh kw sh sw tp lf bt rt h w c ch (j : Int) zs)) (H * V).toNat)) := by
  have hf : ∀ j : Nat, _ := fun j => row_facts s hz hch hs hp (j : Int)
  have hN := sit_N s
  have g : ∀ F : List (Int × Int) → List (Int × Int), (∀ E, Rb E → 0 < E.length → E.length ≤ 512 → 0 < (F E).length ∧ ∀ x ∈ F E, Vd 10000000000 x) → Vd 10000000000 (huA (piT F (fun (j : Nat) => enL slo shi p (siL k kh kw sh sw tp lf bt rt h w c ch (j : Int) zs)) (H * V).toNat)) := fun F hF => by
    refine hul_ok (piT_ne hN (hF _ (hf 0).1 (hf 0).2.1 (hf 0).2.2).1) fun x hx => ?_
    obtain ⟨j, hj, hx'⟩ := mem_piT.1 hx
    exact (hF _ (hf j).1 (hf j).2.1 (hf j).2.2).2 x hx'
  exact ⟨⟨g _ fun E h1 h2 h3 => ⟨by simp, ftot hbi h1 h3⟩, g _ fun E h1 h2 h3 => ⟨by rw [ruL_len]; omega, frun hbi h1 h3⟩⟩, g _ fun E h1 h2 h3 => ⟨h2, h1.vd⟩, fun d d1 d2 => g _ fun E h1 h2 h3 => ⟨by rw [List.length_append]; omega, fun x hx => (List.mem_append.1 hx).elim (paL_vd d1 h1 h3 x) (h1.vd x)⟩⟩
theorem hb_ne {k kh kw sh sw tp lf bt rt h w c H V C p : Int} {lw lb : Nat} (s : Sit k kh kw sh sw tp lf bt rt h w c H V C lw lb) {zs : List Int} (hz : ∀ v ∈ zs, (Lit.int .i16 v).wf = true) {ch : Int} (hch : 1 ≤ ch ∧ ch ≤ C) {slo shi bi : Int} (hs : -128 ≤ slo ∧ slo ≤ shi ∧ shi ≤ 127) (hp : -128 ≤ p ∧ p ≤ 127) (hbi : -2147483648 ≤ bi ∧ bi ≤ 2147483647) (d : Nat) : piT (fun E => [suS (bi, bi) E]) (fun (j : Nat) => enL slo shi p (siL k kh kw sh sw tp lf bt rt h w c ch (j : Int) zs)) (H * V).toNat ≠ [] ∧ piT (fun E => ruL (bi, bi) E) (fun (j : Nat) => enL slo shi p (siL k kh kw sh sw tp lf bt rt h w c ch (j : Int) zs)) (H * V).toNat ≠ [] ∧ piT (fun E => E) (fun (j : Nat) => enL slo shi p (siL k kh kw sh sw tp lf bt rt h w c ch (j : Int) zs)) (H * V).toNat ≠ [] ∧ piT (fun E => paL d E ++ E) (fun (j : Nat) => enL slo shi p (siL k kh kw sh sw tp lf bt rt h w c ch (j : Int) zs)) (H * V).toNat ≠ [] := by
  have hf := row_facts s hz hch hs hp ((0 : Nat) : Int)
  have hN := sit_N s
  exact ⟨piT_ne hN (by simp), piT_ne hN (by rw [ruL_len]; omega), piT_ne hN hf.2.1, piT_ne hN (by rw [List.length_append]; have := hf.2.1; omega)⟩
/-- Run holds Total; Part with the depth 1 is Product; with every depth it holds it. -/
theorem hb_in {k kh kw sh sw tp lf bt rt h w c H V C p : Int} {lw lb : Nat} (s : Sit k kh kw sh sw tp lf bt rt h w c H V C lw lb) {zs : List Int} (hz : ∀ v ∈ zs, (Lit.int .i16 v).wf = true) {ch : Int} (hch : 1 ≤ ch ∧ ch ≤ C) {slo shi bi : Int} (hs : -128 ≤ slo ∧ slo ≤ shi ∧ shi ≤ 127) (hp : -128 ≤ p ∧ p ≤ 127) (hbi : -2147483648 ≤ bi ∧ bi ≤ 2147483647) (d : Nat) : Inn (hbT bi (fun (j : Nat) => enL slo shi p (siL k kh kw sh sw tp lf bt rt h w c ch (j : Int) zs)) (H * V).toNat) (hbR bi (fun (j : Nat) => enL slo shi p (siL k kh kw sh sw tp lf bt rt h w c ch (j : Int) zs)) (H * V).toNat) ∧ hbD 1 (fun (j : Nat) => enL slo shi p (siL k kh kw sh sw tp lf bt rt h w c ch (j : Int) zs)) (H * V).toNat = hbP (fun (j : Nat) => enL slo shi p (siL k kh kw sh sw tp lf bt rt h w c ch (j : Int) zs)) (H * V).toNat ∧ Inn (hbP (fun (j : Nat) => enL slo shi p (siL k kh kw sh sw tp lf bt rt h w c ch (j : Int) zs)) (H * V).toNat) (hbD d (fun (j : Nat) => enL slo shi p (siL k kh kw sh sw tp lf bt rt h w c ch (j : Int) zs)) (H * V).toNat) := by
  obtain ⟨n1, n2, n3, n4⟩ := hb_ne s hz hch hs hp hbi d
  refine ⟨hul_in n1 n2 (piT_in fun j _ x hx => ?_), hbD_one (hb_ne s hz hch hs hp hbi 1).2.2.2, hul_in n3 n4 (piT_in fun j _ x hx => ⟨x, List.mem_append_right _ hx, Inn.refl _⟩)⟩
  simp only [List.mem_singleton] at hx
  subst hx
  exact ⟨_, suS_mem _ _, Inn.refl _⟩
/-- Quick holds Run. -/
theorem hb_quick {k kh kw sh sw tp lf bt rt h w c H V C p : Int} {lw lb : Nat} (s : Sit k kh kw sh sw tp lf bt rt h w c H V C lw lb) {zs : List Int} (hz : ∀ v ∈ zs, (Lit.int .i16 v).wf = true) {ch : Int} (hch : 1 ≤ ch ∧ ch ≤ C) {slo shi bi : Int} (hs : -128 ≤ slo ∧ slo ≤ shi ∧ shi ≤ 127) (hp : -128 ≤ p ∧ p ≤ 127) (hbi : -2147483648 ≤ bi ∧ bi ≤ 2147483647) : Inn (hbR bi (fun (j : Nat) => enL slo shi p (siL k kh kw sh sw tp lf bt rt h w c ch (j : Int) zs)) (H * V).toNat) (bi - (upS (siL k kh kw sh sw tp lf bt rt h w c ch 0 zs) - dnS (siL k kh kw sh sw tp lf bt rt h w c ch 0 zs)) * rcV tp lf bt rt p slo shi, bi + (upS (siL k kh kw sh sw tp lf bt rt h w c ch 0 zs) - dnS (siL k kh kw sh sw tp lf bt rt h w c ch 0 zs)) * rcV tp lf bt rt p slo shi) := by
  obtain ⟨-, n2, -, -⟩ := hb_ne s hz hch hs hp hbi 1
  have key : ∀ x ∈ piT (fun E => ruL (bi, bi) E) (fun (j : Nat) => enL slo shi p (siL k kh kw sh sw tp lf bt rt h w c ch (j : Int) zs)) (H * V).toNat, Inn x _ := fun x hx => by
    obtain ⟨j, hj, hx'⟩ := mem_piT.1 hx
    exact quick_run s hz hch hs hp (j : Int) ⟨by omega, by omega⟩ x hx'
  obtain ⟨-, ⟨x, hx, ex⟩, ⟨y, hy, ey⟩⟩ := huA_is n2
  have k1 := key x hx
  have k2 := key y hy
  show Inn (huA _) _
  unfold Inn at *
  omega
/-- Over a wider span. -/
theorem hb_wide {k kh kw sh sw tp lf bt rt h w c H V C p : Int} {lw lb : Nat} (s : Sit k kh kw sh sw tp lf bt rt h w c H V C lw lb) {zs : List Int} (hz : ∀ v ∈ zs, (Lit.int .i16 v).wf = true) {ch : Int} (hch : 1 ≤ ch ∧ ch ≤ C) {slo shi bi : Int} (hs : -128 ≤ slo ∧ slo ≤ shi ∧ shi ≤ 127) (hp : -128 ≤ p ∧ p ≤ 127) (hbi : -2147483648 ≤ bi ∧ bi ≤ 2147483647) {ylo yhi : Int} (hy : -128 ≤ ylo ∧ ylo ≤ yhi ∧ yhi ≤ 127) (g1 : ylo ≤ slo) (g2 : shi ≤ yhi) (d : Nat) (hd : 0 < d) :
    Inn (hbT bi (fun (j : Nat) => enL slo shi p (siL k kh kw sh sw tp lf bt rt h w c ch (j : Int) zs)) (H * V).toNat) (hbT bi (fun (j : Nat) => enL ylo yhi p (siL k kh kw sh sw tp lf bt rt h w c ch (j : Int) zs)) (H * V).toNat) ∧ Inn (hbR bi (fun (j : Nat) => enL slo shi p (siL k kh kw sh sw tp lf bt rt h w c ch (j : Int) zs)) (H * V).toNat) (hbR bi (fun (j : Nat) => enL ylo yhi p (siL k kh kw sh sw tp lf bt rt h w c ch (j : Int) zs)) (H * V).toNat) ∧ Inn (hbP (fun (j : Nat) => enL slo shi p (siL k kh kw sh sw tp lf bt rt h w c ch (j : Int) zs)) (H * V).toNat) (hbP (fun (j : Nat) => enL ylo yhi p (siL k kh kw sh sw tp lf bt rt h w c ch (j : Int) zs)) (H * V).toNat) ∧ Inn (hbD d (fun (j : Nat) => enL slo shi p (siL k kh kw sh sw tp lf bt rt h w c ch (j : Int) zs)) (H * V).toNat) (hbD d (fun (j : Nat) => enL ylo yhi p (siL k kh kw sh sw tp lf bt rt h w c ch (j : Int) zs)) (H * V).toNat) := by
  obtain ⟨n1, n2, n3, n4⟩ := hb_ne s hz hch hs hp hbi d
  obtain ⟨m1, m2, m3, m4⟩ := hb_ne s hz hch hy hp hbi d
  refine ⟨hul_in n1 m1 (piT_in fun j _ x hx => ?_), hul_in n2 m2 (piT_in fun j _ => win_run g1 hs.2.1 g2 _ bi), hul_in n3 m3 (piT_in fun j _ => win_prd g1 hs.2.1 g2 _), hul_in n4 m4 (piT_in fun j _ => win_prt g1 hs.2.1 g2 _ hd)⟩
  simp only [List.mem_singleton] at hx
  subst hx
  exact ⟨_, List.mem_singleton_self _, win_tot g1 hs.2.1 g2 _ bi⟩
end Go.Proofs.Ytgiohlcipndakaa

/- The depths that are safe, in plain numbers: none but those where the products fit; wider spans; the best plan. -/
namespace Go.Proofs.Ytgiohlcipndakaa
open Go.ChangeShapes Go.WideShapes Go.ChangeAt Go.RowKit
set_option linter.unusedVariables false
/-- Is the depth safe? -/
def sfD (R : Nat → List (Int × Int)) (M d : Nat) : Bool := w16 (hbD d R M)
theorem w16_in {x y : Int × Int} (h : Inn x y) (g : w16 y = true) : w16 x = true := by
  have := of_decide_eq_true g
  exact decide_eq_true (by unfold Inn at h; omega)
theorem w32_in {x y : Int × Int} (h : Inn x y) (g : w32 y = true) : w32 x = true := by
  have := of_decide_eq_true g
  exact decide_eq_true (by unfold Inn at h; omega)
theorem grN_zero (S : Nat → Bool) : ∀ N, (∀ d, 1 ≤ d → d ≤ N → S d = false) → grN S N = 0
  | 0, _ => rfl
  | k + 1, h => by
    unfold grN
    rw [h (k + 1) (by omega) (Nat.le_refl _), if_neg (by decide)]
    exact grN_zero S k fun d h1 h2 => h d h1 (by omega)
theorem grN_ge (S : Nat → Bool) (N d : Nat) (hd : d ≤ N) (h : S d = true) : d ≤ grN S N := by
  by_cases q : grN S N < d
  · rw [grN_max S N d q hd] at h; cases h
  · omega
theorem grN_mono (S T : Nat → Bool) (N : Nat) (h : ∀ d, 1 ≤ d → d ≤ N → S d = true → T d = true) : grN S N ≤ grN T N := by
  by_cases q : grN S N = 0
  · omega
  · exact grN_ge T N _ (grN_le S N) (h _ (by omega) (grN_le S N) (grN_safe S N (by omega)))
/-- Where the products don't fit no depth is safe; where they do the depth 1 is. -/
theorem most_none {k kh kw sh sw tp lf bt rt h w c H V C p : Int} {lw lb : Nat} (s : Sit k kh kw sh sw tp lf bt rt h w c H V C lw lb) {zs : List Int} (hz : ∀ v ∈ zs, (Lit.int .i16 v).wf = true) {ch : Int} (hch : 1 ≤ ch ∧ ch ≤ C) {slo shi bi : Int} (hs : -128 ≤ slo ∧ slo ≤ shi ∧ shi ≤ 127) (hp : -128 ≤ p ∧ p ≤ 127) (hbi : -2147483648 ≤ bi ∧ bi ≤ 2147483647) (N : Nat) (hn : w16 (hbP (fun (j : Nat) => enL slo shi p (siL k kh kw sh sw tp lf bt rt h w c ch (j : Int) zs)) (H * V).toNat) = false) : grN (sfD (fun (j : Nat) => enL slo shi p (siL k kh kw sh sw tp lf bt rt h w c ch (j : Int) zs)) (H * V).toNat) N = 0 := by
  refine grN_zero _ _ fun d h1 h2 => ?_
  cases q : sfD (fun (j : Nat) => enL slo shi p (siL k kh kw sh sw tp lf bt rt h w c ch (j : Int) zs)) (H * V).toNat d with
  | false => rfl
  | true =>
    have := w16_in (hb_in s hz hch hs hp hbi d).2.2 q
    rw [hn] at this; cases this
theorem most_some {k kh kw sh sw tp lf bt rt h w c H V C p : Int} {lw lb : Nat} (s : Sit k kh kw sh sw tp lf bt rt h w c H V C lw lb) {zs : List Int} (hz : ∀ v ∈ zs, (Lit.int .i16 v).wf = true) {ch : Int} (hch : 1 ≤ ch ∧ ch ≤ C) {slo shi bi : Int} (hs : -128 ≤ slo ∧ slo ≤ shi ∧ shi ≤ 127) (hp : -128 ≤ p ∧ p ≤ 127) (hbi : -2147483648 ≤ bi ∧ bi ≤ 2147483647) (N : Nat) (hN : 0 < N) (hn : w16 (hbP (fun (j : Nat) => enL slo shi p (siL k kh kw sh sw tp lf bt rt h w c ch (j : Int) zs)) (H * V).toNat) = true) : 0 < grN (sfD (fun (j : Nat) => enL slo shi p (siL k kh kw sh sw tp lf bt rt h w c ch (j : Int) zs)) (H * V).toNat) N := by
  refine grN_ge _ _ 1 (by omega) ?_
  show w16 (hbD 1 (fun (j : Nat) => enL slo shi p (siL k kh kw sh sw tp lf bt rt h w c ch (j : Int) zs)) (H * V).toNat) = true
  rw [(hb_in s hz hch hs hp hbi 1).2.1]
  exact hn
theorem most_iff {k kh kw sh sw tp lf bt rt h w c H V C p : Int} {lw lb : Nat} (s : Sit k kh kw sh sw tp lf bt rt h w c H V C lw lb) {zs : List Int} (hz : ∀ v ∈ zs, (Lit.int .i16 v).wf = true) {ch : Int} (hch : 1 ≤ ch ∧ ch ≤ C) {slo shi bi : Int} (hs : -128 ≤ slo ∧ slo ≤ shi ∧ shi ≤ 127) (hp : -128 ≤ p ∧ p ≤ 127) (hbi : -2147483648 ≤ bi ∧ bi ≤ 2147483647) (N : Nat) (hN : 0 < N) : decide (0 < grN (sfD (fun (j : Nat) => enL slo shi p (siL k kh kw sh sw tp lf bt rt h w c ch (j : Int) zs)) (H * V).toNat) N) = w16 (hbP (fun (j : Nat) => enL slo shi p (siL k kh kw sh sw tp lf bt rt h w c ch (j : Int) zs)) (H * V).toNat) := by
  cases q : w16 (hbP (fun (j : Nat) => enL slo shi p (siL k kh kw sh sw tp lf bt rt h w c ch (j : Int) zs)) (H * V).toNat) with
  | false => rw [most_none s hz hch hs hp hbi N q]; rfl
  | true => exact decide_eq_true (most_some s hz hch hs hp hbi N hN q)
/-- Over a span within. -/
theorem most_wide {k kh kw sh sw tp lf bt rt h w c H V C p : Int} {lw lb : Nat} (s : Sit k kh kw sh sw tp lf bt rt h w c H V C lw lb) {zs : List Int} (hz : ∀ v ∈ zs, (Lit.int .i16 v).wf = true) {ch : Int} (hch : 1 ≤ ch ∧ ch ≤ C) {slo shi bi : Int} (hs : -128 ≤ slo ∧ slo ≤ shi ∧ shi ≤ 127) (hp : -128 ≤ p ∧ p ≤ 127) (hbi : -2147483648 ≤ bi ∧ bi ≤ 2147483647) {ylo yhi : Int} (hy : -128 ≤ ylo ∧ ylo ≤ yhi ∧ yhi ≤ 127) (g1 : ylo ≤ slo) (g2 : shi ≤ yhi) (N : Nat) : grN (sfD (fun (j : Nat) => enL ylo yhi p (siL k kh kw sh sw tp lf bt rt h w c ch (j : Int) zs)) (H * V).toNat) N ≤ grN (sfD (fun (j : Nat) => enL slo shi p (siL k kh kw sh sw tp lf bt rt h w c ch (j : Int) zs)) (H * V).toNat) N :=
  grN_mono _ _ _ fun d h1 h2 q => w16_in (hb_wide s hz hch hs hp hbi hy g1 g2 d (by omega)).2.2.2 q
theorem safe_wide {k kh kw sh sw tp lf bt rt h w c H V C p : Int} {lw lb : Nat} (s : Sit k kh kw sh sw tp lf bt rt h w c H V C lw lb) {zs : List Int} (hz : ∀ v ∈ zs, (Lit.int .i16 v).wf = true) {ch : Int} (hch : 1 ≤ ch ∧ ch ≤ C) {slo shi bi : Int} (hs : -128 ≤ slo ∧ slo ≤ shi ∧ shi ≤ 127) (hp : -128 ≤ p ∧ p ≤ 127) (hbi : -2147483648 ≤ bi ∧ bi ≤ 2147483647) {ylo yhi : Int} (hy : -128 ≤ ylo ∧ ylo ≤ yhi ∧ yhi ≤ 127) (g1 : ylo ≤ slo) (g2 : shi ≤ yhi) (d : Nat) (hd : 0 < d) (q : sfD (fun (j : Nat) => enL ylo yhi p (siL k kh kw sh sw tp lf bt rt h w c ch (j : Int) zs)) (H * V).toNat d = true) : sfD (fun (j : Nat) => enL slo shi p (siL k kh kw sh sw tp lf bt rt h w c ch (j : Int) zs)) (H * V).toNat d = true :=
  w16_in (hb_wide s hz hch hs hp hbi hy g1 g2 d hd).2.2.2 q
/-- The best plan: width, depth, Part, Total. -/
def chP (bi : Int) (R : Nat → List (Int × Int)) (M N : Nat) : List Int :=
  if 0 < grN (sfD R M) N then [16, (grN (sfD R M) N : Nat), (hbD (grN (sfD R M) N) R M).1, (hbD (grN (sfD R M) N) R M).2, (hbT bi R M).1, (hbT bi R M).2]
  else [32, (N : Int), (hbR bi R M).1, (hbR bi R M).2, (hbT bi R M).1, (hbT bi R M).2]
end Go.Proofs.Ytgiohlcipndakaa
