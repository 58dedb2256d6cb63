/- The walks of Total, Run, Part and Product of package bound. What Total, Run, Part and Product answer of a model: the error, or the hull. one and fixed of law13. Sums of weights, in plain numbers, and what they say at once. -/
import Derived.Test.YtcphealigifdiaaGr20
import Derived.Test.YtcphealigifdiaaGr22
/- The walks of Total, Run, Part and Product of package bound. -/
namespace Go.Proofs.Ytcphealigifdiaa
open Go.ChangeShapes Go.WideShapes Go.ChangeAt Go.RowKit Go.Shelf
set_option linter.unusedVariables false
set_option maxRecDepth 100000 in
set_option maxHeartbeats 2000000 in
theorem btot_e (h w c lo hi ot op ch : Int) (oa : Option Addr) (on oc : Nat) (W : World) (slo shi : Int) (E : Int) (hE : E ≠ 0) (hFd : ∀ W', Below W.heap.size W W' → Calls Try.prog 24 #[.agg #[Jv h, Jv w, Jv c, Jv lo, Jv hi, .slice oa on oc, Jv ot], Jv op, Jv ch, .agg #[Jv slo, Jv shi]] W' fun e w' => e = .returned (.tuple #[.agg #[Jv 0, Jv 0, Jv 0, Jv 0, Jv 0, Jv 0, Jv 0, Jv 0, Jv 0, Jv 0, Jv 0, Jv 0, Jv 0, .slice none 0 0, Jv 0], Jv E]) ∧ Below W'.heap.size W' w') : Calls Try.prog 8 #[.agg #[Jv h, Jv w, Jv c, Jv lo, Jv hi, .slice oa on oc, Jv ot], Jv op, Jv ch, .agg #[Jv slo, Jv shi]] W fun e w' => e = .returned (.tuple #[.agg #[Jv 0, Jv 0], Jv E]) ∧ Below W.heap.size W w' := by
  have HF : Hid (∀ W', Below W.heap.size W W' → _) := hFd
  have hE' : (E == 0) = false := by simp [hE]
  have s0 := (((St.start W).new (c := #[Jv h, Jv w, Jv c, Jv lo, Jv hi, .slice oa on oc, Jv ot]) (t := 26)).new (c := #[Jv slo, Jv shi]) (t := 28)).new (c := #[Jv 0, Jv 0]) (t := 28)
  simp only [World.size_alloc] at s0
  clear hFd
  go_enter Try.func8, Try.ntmps8
  go_wp2_with fail
  refine (HF.out _ s0.below).mono ?_
  rintro e w1 ⟨rfl, hb⟩
  have s1 := (s0.call hb).new (c := #[Jv 0, Jv 0, Jv 0, Jv 0, Jv 0, Jv 0, Jv 0, Jv 0, Jv 0, Jv 0, Jv 0, Jv 0, Jv 0, .slice none 0 0, Jv 0]) (t := 73)
  have S1 : Hid (St W _ _) := s1
  clear hb s0 HF
  go_upto_region 2 with (refine wpList_st_new rfl 73 (.tmp 10) (.tmp 18) rfl w1 _ #[Jv 0, Jv 0, Jv 0, Jv 0, Jv 0, Jv 0, Jv 0, Jv 0, Jv 0, Jv 0, Jv 0, Jv 0, Jv 0, .slice none 0 0, Jv 0] rfl rfl (by kernel_rfl) rfl (by simp [Value.oneCell']) ?_)
  obtain ⟨w2, hw2⟩ : ∃ w2, w1.alloc (.cells #[Jv 0, Jv 0, Jv 0, Jv 0, Jv 0, Jv 0, Jv 0, Jv 0, Jv 0, Jv 0, Jv 0, Jv 0, Jv 0, .slice none 0 0, Jv 0] 73) = w2 := ⟨_, rfl⟩
  rw [hw2] at s1 S1 ⊢
  obtain ⟨-, -, -, c1, f1, z1, -⟩ := s1.rules
  have HB : Hid (Below W.heap.size W _) := s1.tail.out2 (i := 0) (j := 1) (u := Jv 0) (v := Jv 0)
  clear s1 hw2
  go_wp2
  exact bodyPost_ret (v := .tuple #[.agg #[Jv 0, Jv 0], Jv E]) (by simp [results, Try.results8, go_sem, c1]) rfl ⟨rfl, HB.out⟩
set_option maxRecDepth 100000 in
set_option maxHeartbeats 2000000 in
theorem btot_w (h w c lo hi ot op ch : Int) (oa : Option Addr) (on oc : Nat) (W : World) (slo shi : Int) (n bi p x0 y0 z0 : Int) (N : Nat) (hN : N ≤ 512) (op0 : Array Value) (X Y : Int) (hFd : ∀ W', Below W.heap.size W W' → Calls Try.prog 24 #[.agg #[Jv h, Jv w, Jv c, Jv lo, Jv hi, .slice oa on oc, Jv ot], Jv op, Jv ch, .agg #[Jv slo, Jv shi]] W' fun e w' => ∃ g0, e = .returned (.tuple #[.agg #[Jv ch, Jv n, Jv (N : Int), Jv bi, Jv slo, Jv shi, Jv p, Jv p, Jv x0, Jv y0, Jv z0, Jv 0, Jv 0, .slice (some ⟨g0, 0, none⟩) 1 1, Jv 0], Jv 0]) ∧ w'.heap[g0]? = some (.cells op0 47 (0, 0)) ∧ W'.heap.size ≤ g0 ∧ Below W'.heap.size W' w') (gf : Nat)
    (hgf : gf = 26)
    (hHl : ∀ W' (g0 q : Nat), Below W.heap.size W W' → W'.heap[g0]? = some (.cells op0 47 (0, 0)) → W'.heap[q]? = some (.cells #[Jv ch, Jv n, Jv (N : Int), Jv bi, Jv slo, Jv shi, Jv p, Jv p, Jv x0, Jv y0, Jv z0, Jv 0, Jv 0, .slice (some ⟨g0, 0, none⟩) 1 1, Jv 0] 73 (0, 0)) → Calls Try.prog 25 #[.pointer (some ⟨q, 0, none⟩), .func (.func gf) #[] #[.pointer (some ⟨q, 0, none⟩)]] W' fun e w' => e = .returned (.agg #[Jv X, Jv Y]) ∧ Below W'.heap.size W' w') :
    Calls Try.prog 8 #[.agg #[Jv h, Jv w, Jv c, Jv lo, Jv hi, .slice oa on oc, Jv ot], Jv op, Jv ch, .agg #[Jv slo, Jv shi]] W fun e w' => e = .returned (.tuple #[.agg #[Jv X, Jv Y], Jv 0]) ∧ Below W.heap.size W w' := by
  have hmf : ∀ (fn : Fn) (first cap : Array Value) (w : World), (Instr.makeFunc fn first cap).run Try.prog w = .ok (.func fn first cap) w := fun _ _ _ _ => rfl
  have HF : Hid (∀ W', Below W.heap.size W W' → _) := hFd
  have HH : Hid (∀ W' (g0 q : Nat), Below W.heap.size W W' → W'.heap[g0]? = some (.cells op0 47 (0, 0)) → W'.heap[q]? = some (.cells #[Jv ch, Jv n, Jv (N : Int), Jv bi, Jv slo, Jv shi, Jv p, Jv p, Jv x0, Jv y0, Jv z0, Jv 0, Jv 0, .slice (some ⟨g0, 0, none⟩) 1 1, Jv 0] 73 (0, 0)) → _) := hHl
  rw [hgf] at HH
  have s0 := (((St.start W).new (c := #[Jv h, Jv w, Jv c, Jv lo, Jv hi, .slice oa on oc, Jv ot]) (t := 26)).new (c := #[Jv slo, Jv shi]) (t := 28)).new (c := #[Jv 0, Jv 0]) (t := 28)
  simp only [World.size_alloc] at s0
  clear hFd hHl hgf
  go_enter Try.func8, Try.ntmps8
  go_wp2_with fail
  refine (HF.out _ s0.below).mono ?_
  rintro e w1 ⟨g0, rfl, hg0, -, hb⟩
  have s1 := (s0.call hb).new (c := #[Jv ch, Jv n, Jv (N : Int), Jv bi, Jv slo, Jv shi, Jv p, Jv p, Jv x0, Jv y0, Jv z0, Jv 0, Jv 0, .slice (some ⟨g0, 0, none⟩) 1 1, Jv 0]) (t := 73)
  have S1 : Hid (St W _ _) := s1
  have hg1 : Hid ((w1.alloc (.cells #[Jv ch, Jv n, Jv (N : Int), Jv bi, Jv slo, Jv shi, Jv p, Jv p, Jv x0, Jv y0, Jv z0, Jv 0, Jv 0, .slice (some ⟨g0, 0, none⟩) 1 1, Jv 0] 73)).heap[g0]? = some (.cells op0 47 (0, 0))) := (heap_alloc_old w1 _ (lt_of_heap hg0)).trans hg0
  clear hb s0 HF hg0
  go_upto_region 2 with (refine wpList_st_new rfl 73 (.tmp 10) (.tmp 18) rfl w1 _ #[Jv ch, Jv n, Jv (N : Int), Jv bi, Jv slo, Jv shi, Jv p, Jv p, Jv x0, Jv y0, Jv z0, Jv 0, Jv 0, .slice (some ⟨g0, 0, none⟩) 1 1, Jv 0] rfl rfl (by kernel_rfl) rfl (by simp [Value.oneCell']) ?_)
  obtain ⟨q, hq⟩ : ∃ q, w1.heap.size = q := ⟨_, rfl⟩
  obtain ⟨w2, hw2⟩ : ∃ w2, w1.alloc (.cells #[Jv ch, Jv n, Jv (N : Int), Jv bi, Jv slo, Jv shi, Jv p, Jv p, Jv x0, Jv y0, Jv z0, Jv 0, Jv 0, .slice (some ⟨g0, 0, none⟩) 1 1, Jv 0] 73) = w2 := ⟨_, rfl⟩
  rw [hw2] at S1 hg1 ⊢
  rw [hq] at S1 ⊢
  clear s1 hw2 hq
  have HC : Hid _ := HH.out w2 g0 q S1.out.below hg1.out S1.out.h1
  clear HH hg1
  go_wp2_with fail
  refine Calls.mono HC.out ?_
  rintro e w3 ⟨rfl, hb⟩
  have s3 := S1.out.call hb
  obtain ⟨-, -, -, c1, f1, z1, -⟩ := s3.rules
  have HB : Hid (Below W.heap.size W _) := s3.tail.out2 (i := 0) (j := 1) (u := Jv X) (v := Jv Y)
  clear s3 hb S1
  go_wp2
  exact bodyPost_ret (v := .tuple #[.agg #[Jv X, Jv Y], Jv 0]) (by simp [results, Try.results8, go_sem, c1]) rfl ⟨rfl, HB.out⟩
set_option maxRecDepth 100000 in
set_option maxHeartbeats 2000000 in
theorem brun_e (h w c lo hi ot op ch : Int) (oa : Option Addr) (on oc : Nat) (W : World) (slo shi : Int) (E : Int) (hE : E ≠ 0) (hFd : ∀ W', Below W.heap.size W W' → Calls Try.prog 24 #[.agg #[Jv h, Jv w, Jv c, Jv lo, Jv hi, .slice oa on oc, Jv ot], Jv op, Jv ch, .agg #[Jv slo, Jv shi]] W' fun e w' => e = .returned (.tuple #[.agg #[Jv 0, Jv 0, Jv 0, Jv 0, Jv 0, Jv 0, Jv 0, Jv 0, Jv 0, Jv 0, Jv 0, Jv 0, Jv 0, .slice none 0 0, Jv 0], Jv E]) ∧ Below W'.heap.size W' w') : Calls Try.prog 9 #[.agg #[Jv h, Jv w, Jv c, Jv lo, Jv hi, .slice oa on oc, Jv ot], Jv op, Jv ch, .agg #[Jv slo, Jv shi]] W fun e w' => e = .returned (.tuple #[.agg #[Jv 0, Jv 0], Jv E]) ∧ Below W.heap.size W w' := by
  have HF : Hid (∀ W', Below W.heap.size W W' → _) := hFd
  have hE' : (E == 0) = false := by simp [hE]
  have s0 := (((St.start W).new (c := #[Jv h, Jv w, Jv c, Jv lo, Jv hi, .slice oa on oc, Jv ot]) (t := 26)).new (c := #[Jv slo, Jv shi]) (t := 28)).new (c := #[Jv 0, Jv 0]) (t := 28)
  simp only [World.size_alloc] at s0
  clear hFd
  go_enter Try.func9, Try.ntmps9
  go_wp2_with fail
  refine (HF.out _ s0.below).mono ?_
  rintro e w1 ⟨rfl, hb⟩
  have s1 := (s0.call hb).new (c := #[Jv 0, Jv 0, Jv 0, Jv 0, Jv 0, Jv 0, Jv 0, Jv 0, Jv 0, Jv 0, Jv 0, Jv 0, Jv 0, .slice none 0 0, Jv 0]) (t := 73)
  have S1 : Hid (St W _ _) := s1
  clear hb s0 HF
  go_upto_region 2 with (refine wpList_st_new rfl 73 (.tmp 10) (.tmp 18) rfl w1 _ #[Jv 0, Jv 0, Jv 0, Jv 0, Jv 0, Jv 0, Jv 0, Jv 0, Jv 0, Jv 0, Jv 0, Jv 0, Jv 0, .slice none 0 0, Jv 0] rfl rfl (by kernel_rfl) rfl (by simp [Value.oneCell']) ?_)
  obtain ⟨w2, hw2⟩ : ∃ w2, w1.alloc (.cells #[Jv 0, Jv 0, Jv 0, Jv 0, Jv 0, Jv 0, Jv 0, Jv 0, Jv 0, Jv 0, Jv 0, Jv 0, Jv 0, .slice none 0 0, Jv 0] 73) = w2 := ⟨_, rfl⟩
  rw [hw2] at s1 S1 ⊢
  obtain ⟨-, -, -, c1, f1, z1, -⟩ := s1.rules
  have HB : Hid (Below W.heap.size W _) := s1.tail.out2 (i := 0) (j := 1) (u := Jv 0) (v := Jv 0)
  clear s1 hw2
  go_wp2
  exact bodyPost_ret (v := .tuple #[.agg #[Jv 0, Jv 0], Jv E]) (by simp [results, Try.results9, go_sem, c1]) rfl ⟨rfl, HB.out⟩
set_option maxRecDepth 100000 in
set_option maxHeartbeats 2000000 in
theorem brun_w (h w c lo hi ot op ch : Int) (oa : Option Addr) (on oc : Nat) (W : World) (slo shi : Int) (n bi p x0 y0 z0 : Int) (N : Nat) (hN : N ≤ 512) (op0 : Array Value) (X Y : Int) (hFd : ∀ W', Below W.heap.size W W' → Calls Try.prog 24 #[.agg #[Jv h, Jv w, Jv c, Jv lo, Jv hi, .slice oa on oc, Jv ot], Jv op, Jv ch, .agg #[Jv slo, Jv shi]] W' fun e w' => ∃ g0, e = .returned (.tuple #[.agg #[Jv ch, Jv n, Jv (N : Int), Jv bi, Jv slo, Jv shi, Jv p, Jv p, Jv x0, Jv y0, Jv z0, Jv 0, Jv 0, .slice (some ⟨g0, 0, none⟩) 1 1, Jv 0], Jv 0]) ∧ w'.heap[g0]? = some (.cells op0 47 (0, 0)) ∧ W'.heap.size ≤ g0 ∧ Below W'.heap.size W' w') (gf : Nat)
    (hgf : gf = 28)
    (hHl : ∀ W' (g0 q : Nat), Below W.heap.size W W' → W'.heap[g0]? = some (.cells op0 47 (0, 0)) → W'.heap[q]? = some (.cells #[Jv ch, Jv n, Jv (N : Int), Jv bi, Jv slo, Jv shi, Jv p, Jv p, Jv x0, Jv y0, Jv z0, Jv 0, Jv 0, .slice (some ⟨g0, 0, none⟩) 1 1, Jv 0] 73 (0, 0)) → Calls Try.prog 25 #[.pointer (some ⟨q, 0, none⟩), .func (.func gf) #[] #[.pointer (some ⟨q, 0, none⟩)]] W' fun e w' => e = .returned (.agg #[Jv X, Jv Y]) ∧ Below W'.heap.size W' w') :
    Calls Try.prog 9 #[.agg #[Jv h, Jv w, Jv c, Jv lo, Jv hi, .slice oa on oc, Jv ot], Jv op, Jv ch, .agg #[Jv slo, Jv shi]] W fun e w' => e = .returned (.tuple #[.agg #[Jv X, Jv Y], Jv 0]) ∧ Below W.heap.size W w' := by
  have hmf : ∀ (fn : Fn) (first cap : Array Value) (w : World), (Instr.makeFunc fn first cap).run Try.prog w = .ok (.func fn first cap) w := fun _ _ _ _ => rfl
  have HF : Hid (∀ W', Below W.heap.size W W' → _) := hFd
  have HH : Hid (∀ W' (g0 q : Nat), Below W.heap.size W W' → W'.heap[g0]? = some (.cells op0 47 (0, 0)) → W'.heap[q]? = some (.cells #[Jv ch, Jv n, Jv (N : Int), Jv bi, Jv slo, Jv shi, Jv p, Jv p, Jv x0, Jv y0, Jv z0, Jv 0, Jv 0, .slice (some ⟨g0, 0, none⟩) 1 1, Jv 0] 73 (0, 0)) → _) := hHl
  rw [hgf] at HH
  have s0 := (((St.start W).new (c := #[Jv h, Jv w, Jv c, Jv lo, Jv hi, .slice oa on oc, Jv ot]) (t := 26)).new (c := #[Jv slo, Jv shi]) (t := 28)).new (c := #[Jv 0, Jv 0]) (t := 28)
  simp only [World.size_alloc] at s0
  clear hFd hHl hgf
  go_enter Try.func9, Try.ntmps9
  go_wp2_with fail
  refine (HF.out _ s0.below).mono ?_
  rintro e w1 ⟨g0, rfl, hg0, -, hb⟩
  have s1 := (s0.call hb).new (c := #[Jv ch, Jv n, Jv (N : Int), Jv bi, Jv slo, Jv shi, Jv p, Jv p, Jv x0, Jv y0, Jv z0, Jv 0, Jv 0, .slice (some ⟨g0, 0, none⟩) 1 1, Jv 0]) (t := 73)
  have S1 : Hid (St W _ _) := s1
  have hg1 : Hid ((w1.alloc (.cells #[Jv ch, Jv n, Jv (N : Int), Jv bi, Jv slo, Jv shi, Jv p, Jv p, Jv x0, Jv y0, Jv z0, Jv 0, Jv 0, .slice (some ⟨g0, 0, none⟩) 1 1, Jv 0] 73)).heap[g0]? = some (.cells op0 47 (0, 0))) := (heap_alloc_old w1 _ (lt_of_heap hg0)).trans hg0
  clear hb s0 HF hg0
  go_upto_region 2 with (refine wpList_st_new rfl 73 (.tmp 10) (.tmp 18) rfl w1 _ #[Jv ch, Jv n, Jv (N : Int), Jv bi, Jv slo, Jv shi, Jv p, Jv p, Jv x0, Jv y0, Jv z0, Jv 0, Jv 0, .slice (some ⟨g0, 0, none⟩) 1 1, Jv 0] rfl rfl (by kernel_rfl) rfl (by simp [Value.oneCell']) ?_)
  obtain ⟨q, hq⟩ : ∃ q, w1.heap.size = q := ⟨_, rfl⟩
  obtain ⟨w2, hw2⟩ : ∃ w2, w1.alloc (.cells #[Jv ch, Jv n, Jv (N : Int), Jv bi, Jv slo, Jv shi, Jv p, Jv p, Jv x0, Jv y0, Jv z0, Jv 0, Jv 0, .slice (some ⟨g0, 0, none⟩) 1 1, Jv 0] 73) = w2 := ⟨_, rfl⟩
  rw [hw2] at S1 hg1 ⊢
  rw [hq] at S1 ⊢
  clear s1 hw2 hq
  have HC : Hid _ := HH.out w2 g0 q S1.out.below hg1.out S1.out.h1
  clear HH hg1
  go_wp2_with fail
  refine Calls.mono HC.out ?_
  rintro e w3 ⟨rfl, hb⟩
  have s3 := S1.out.call hb
  obtain ⟨-, -, -, c1, f1, z1, -⟩ := s3.rules
  have HB : Hid (Below W.heap.size W _) := s3.tail.out2 (i := 0) (j := 1) (u := Jv X) (v := Jv Y)
  clear s3 hb S1
  go_wp2
  exact bodyPost_ret (v := .tuple #[.agg #[Jv X, Jv Y], Jv 0]) (by simp [results, Try.results9, go_sem, c1]) rfl ⟨rfl, HB.out⟩
set_option maxRecDepth 100000 in
set_option maxHeartbeats 2000000 in
theorem bprd_e (h w c lo hi ot op ch : Int) (oa : Option Addr) (on oc : Nat) (W : World) (slo shi : Int) (E : Int) (hE : E ≠ 0) (hFd : ∀ W', Below W.heap.size W W' → Calls Try.prog 24 #[.agg #[Jv h, Jv w, Jv c, Jv lo, Jv hi, .slice oa on oc, Jv ot], Jv op, Jv ch, .agg #[Jv slo, Jv shi]] W' fun e w' => e = .returned (.tuple #[.agg #[Jv 0, Jv 0, Jv 0, Jv 0, Jv 0, Jv 0, Jv 0, Jv 0, Jv 0, Jv 0, Jv 0, Jv 0, Jv 0, .slice none 0 0, Jv 0], Jv E]) ∧ Below W'.heap.size W' w') : Calls Try.prog 11 #[.agg #[Jv h, Jv w, Jv c, Jv lo, Jv hi, .slice oa on oc, Jv ot], Jv op, Jv ch, .agg #[Jv slo, Jv shi]] W fun e w' => e = .returned (.tuple #[.agg #[Jv 0, Jv 0], Jv E]) ∧ Below W.heap.size W w' := by
  have HF : Hid (∀ W', Below W.heap.size W W' → _) := hFd
  have hE' : (E == 0) = false := by simp [hE]
  have s0 := (((St.start W).new (c := #[Jv h, Jv w, Jv c, Jv lo, Jv hi, .slice oa on oc, Jv ot]) (t := 26)).new (c := #[Jv slo, Jv shi]) (t := 28)).new (c := #[Jv 0, Jv 0]) (t := 28)
  simp only [World.size_alloc] at s0
  clear hFd
  go_enter Try.func11, Try.ntmps11
  go_wp2_with fail
  refine (HF.out _ s0.below).mono ?_
  rintro e w1 ⟨rfl, hb⟩
  have s1 := (s0.call hb).new (c := #[Jv 0, Jv 0, Jv 0, Jv 0, Jv 0, Jv 0, Jv 0, Jv 0, Jv 0, Jv 0, Jv 0, Jv 0, Jv 0, .slice none 0 0, Jv 0]) (t := 73)
  have S1 : Hid (St W _ _) := s1
  clear hb s0 HF
  go_upto_region 2 with (refine wpList_st_new rfl 73 (.tmp 10) (.tmp 18) rfl w1 _ #[Jv 0, Jv 0, Jv 0, Jv 0, Jv 0, Jv 0, Jv 0, Jv 0, Jv 0, Jv 0, Jv 0, Jv 0, Jv 0, .slice none 0 0, Jv 0] rfl rfl (by kernel_rfl) rfl (by simp [Value.oneCell']) ?_)
  obtain ⟨w2, hw2⟩ : ∃ w2, w1.alloc (.cells #[Jv 0, Jv 0, Jv 0, Jv 0, Jv 0, Jv 0, Jv 0, Jv 0, Jv 0, Jv 0, Jv 0, Jv 0, Jv 0, .slice none 0 0, Jv 0] 73) = w2 := ⟨_, rfl⟩
  rw [hw2] at s1 S1 ⊢
  obtain ⟨-, -, -, c1, f1, z1, -⟩ := s1.rules
  have HB : Hid (Below W.heap.size W _) := s1.tail.out2 (i := 0) (j := 1) (u := Jv 0) (v := Jv 0)
  clear s1 hw2
  go_wp2
  exact bodyPost_ret (v := .tuple #[.agg #[Jv 0, Jv 0], Jv E]) (by simp [results, Try.results11, go_sem, c1]) rfl ⟨rfl, HB.out⟩
set_option maxRecDepth 100000 in
set_option maxHeartbeats 2000000 in
theorem bprd_w (h w c lo hi ot op ch : Int) (oa : Option Addr) (on oc : Nat) (W : World) (slo shi : Int) (n bi p x0 y0 z0 : Int) (N : Nat) (hN : N ≤ 512) (op0 : Array Value) (X Y : Int) (hFd : ∀ W', Below W.heap.size W W' → Calls Try.prog 24 #[.agg #[Jv h, Jv w, Jv c, Jv lo, Jv hi, .slice oa on oc, Jv ot], Jv op, Jv ch, .agg #[Jv slo, Jv shi]] W' fun e w' => ∃ g0, e = .returned (.tuple #[.agg #[Jv ch, Jv n, Jv (N : Int), Jv bi, Jv slo, Jv shi, Jv p, Jv p, Jv x0, Jv y0, Jv z0, Jv 0, Jv 0, .slice (some ⟨g0, 0, none⟩) 1 1, Jv 0], Jv 0]) ∧ w'.heap[g0]? = some (.cells op0 47 (0, 0)) ∧ W'.heap.size ≤ g0 ∧ Below W'.heap.size W' w') (gf : Nat)
    (hgf : gf = 31)
    (hHl : ∀ W' (g0 q : Nat), Below W.heap.size W W' → W'.heap[g0]? = some (.cells op0 47 (0, 0)) → W'.heap[q]? = some (.cells #[Jv ch, Jv n, Jv (N : Int), Jv bi, Jv slo, Jv shi, Jv p, Jv p, Jv x0, Jv y0, Jv z0, Jv 0, Jv 0, .slice (some ⟨g0, 0, none⟩) 1 1, Jv 0] 73 (0, 0)) → Calls Try.prog 25 #[.pointer (some ⟨q, 0, none⟩), .func (.func gf) #[] #[]] W' fun e w' => e = .returned (.agg #[Jv X, Jv Y]) ∧ Below W'.heap.size W' w') :
    Calls Try.prog 11 #[.agg #[Jv h, Jv w, Jv c, Jv lo, Jv hi, .slice oa on oc, Jv ot], Jv op, Jv ch, .agg #[Jv slo, Jv shi]] W fun e w' => e = .returned (.tuple #[.agg #[Jv X, Jv Y], Jv 0]) ∧ Below W.heap.size W w' := by
  have hmf : ∀ (fn : Fn) (first cap : Array Value) (w : World), (Instr.makeFunc fn first cap).run Try.prog w = .ok (.func fn first cap) w := fun _ _ _ _ => rfl
  have HF : Hid (∀ W', Below W.heap.size W W' → _) := hFd
  have HH : Hid (∀ W' (g0 q : Nat), Below W.heap.size W W' → W'.heap[g0]? = some (.cells op0 47 (0, 0)) → W'.heap[q]? = some (.cells #[Jv ch, Jv n, Jv (N : Int), Jv bi, Jv slo, Jv shi, Jv p, Jv p, Jv x0, Jv y0, Jv z0, Jv 0, Jv 0, .slice (some ⟨g0, 0, none⟩) 1 1, Jv 0] 73 (0, 0)) → _) := hHl
  rw [hgf] at HH
  have s0 := (((St.start W).new (c := #[Jv h, Jv w, Jv c, Jv lo, Jv hi, .slice oa on oc, Jv ot]) (t := 26)).new (c := #[Jv slo, Jv shi]) (t := 28)).new (c := #[Jv 0, Jv 0]) (t := 28)
  simp only [World.size_alloc] at s0
  clear hFd hHl hgf
  go_enter Try.func11, Try.ntmps11
  go_wp2_with fail
  refine (HF.out _ s0.below).mono ?_
  rintro e w1 ⟨g0, rfl, hg0, -, hb⟩
  have s1 := (s0.call hb).new (c := #[Jv ch, Jv n, Jv (N : Int), Jv bi, Jv slo, Jv shi, Jv p, Jv p, Jv x0, Jv y0, Jv z0, Jv 0, Jv 0, .slice (some ⟨g0, 0, none⟩) 1 1, Jv 0]) (t := 73)
  have S1 : Hid (St W _ _) := s1
  have hg1 : Hid ((w1.alloc (.cells #[Jv ch, Jv n, Jv (N : Int), Jv bi, Jv slo, Jv shi, Jv p, Jv p, Jv x0, Jv y0, Jv z0, Jv 0, Jv 0, .slice (some ⟨g0, 0, none⟩) 1 1, Jv 0] 73)).heap[g0]? = some (.cells op0 47 (0, 0))) := (heap_alloc_old w1 _ (lt_of_heap hg0)).trans hg0
  clear hb s0 HF hg0
  go_upto_region 2 with (refine wpList_st_new rfl 73 (.tmp 10) (.tmp 18) rfl w1 _ #[Jv ch, Jv n, Jv (N : Int), Jv bi, Jv slo, Jv shi, Jv p, Jv p, Jv x0, Jv y0, Jv z0, Jv 0, Jv 0, .slice (some ⟨g0, 0, none⟩) 1 1, Jv 0] rfl rfl (by kernel_rfl) rfl (by simp [Value.oneCell']) ?_)
  obtain ⟨q, hq⟩ : ∃ q, w1.heap.size = q := ⟨_, rfl⟩
  obtain ⟨w2, hw2⟩ : ∃ w2, w1.alloc (.cells #[Jv ch, Jv n, Jv (N : Int), Jv bi, Jv slo, Jv shi, Jv p, Jv p, Jv x0, Jv y0, Jv z0, Jv 0, Jv 0, .slice (some ⟨g0, 0, none⟩) 1 1, Jv 0] 73) = w2 := ⟨_, rfl⟩
  rw [hw2] at S1 hg1 ⊢
  rw [hq] at S1 ⊢
  clear s1 hw2 hq
  have HC : Hid _ := HH.out w2 g0 q S1.out.below hg1.out S1.out.h1
  clear HH hg1
  go_wp2_with fail
  refine Calls.mono HC.out ?_
  rintro e w3 ⟨rfl, hb⟩
  have s3 := S1.out.call hb
  obtain ⟨-, -, -, c1, f1, z1, -⟩ := s3.rules
  have HB : Hid (Below W.heap.size W _) := s3.tail.out2 (i := 0) (j := 1) (u := Jv X) (v := Jv Y)
  clear s3 hb S1
  go_wp2
  exact bodyPost_ret (v := .tuple #[.agg #[Jv X, Jv Y], Jv 0]) (by simp [results, Try.results11, go_sem, c1]) rfl ⟨rfl, HB.out⟩
set_option maxRecDepth 100000 in
set_option maxHeartbeats 2000000 in
theorem bprt_e (h w c lo hi ot op ch : Int) (oa : Option Addr) (on oc : Nat) (W : World) (slo shi : Int) (dp : Int) (E : Int) (hE : E ≠ 0) (hFd : ∀ W', Below W.heap.size W W' → Calls Try.prog 24 #[.agg #[Jv h, Jv w, Jv c, Jv lo, Jv hi, .slice oa on oc, Jv ot], Jv op, Jv ch, .agg #[Jv slo, Jv shi]] W' fun e w' => e = .returned (.tuple #[.agg #[Jv 0, Jv 0, Jv 0, Jv 0, Jv 0, Jv 0, Jv 0, Jv 0, Jv 0, Jv 0, Jv 0, Jv 0, Jv 0, .slice none 0 0, Jv 0], Jv E]) ∧ Below W'.heap.size W' w') : Calls Try.prog 10 #[.agg #[Jv h, Jv w, Jv c, Jv lo, Jv hi, .slice oa on oc, Jv ot], Jv op, Jv ch, .agg #[Jv slo, Jv shi], Jv dp] W fun e w' => e = .returned (.tuple #[.agg #[Jv 0, Jv 0], Jv E]) ∧ Below W.heap.size W w' := by
  have HF : Hid (∀ W', Below W.heap.size W W' → _) := hFd
  have hE' : (E == 0) = false := by simp [hE]
  have s0 := ((((St.start W).new (c := #[Jv h, Jv w, Jv c, Jv lo, Jv hi, .slice oa on oc, Jv ot]) (t := 26)).new (c := #[Jv slo, Jv shi]) (t := 28)).new (c := #[Jv dp]) (t := 3)).new (c := #[Jv 0, Jv 0]) (t := 28)
  simp only [World.size_alloc] at s0
  clear hFd
  go_enter Try.func10, Try.ntmps10
  go_wp2_with fail
  refine (HF.out _ s0.below).mono ?_
  rintro e w1 ⟨rfl, hb⟩
  have s1 := (s0.call hb).new (c := #[Jv 0, Jv 0, Jv 0, Jv 0, Jv 0, Jv 0, Jv 0, Jv 0, Jv 0, Jv 0, Jv 0, Jv 0, Jv 0, .slice none 0 0, Jv 0]) (t := 73)
  clear hb s0 HF
  go_upto_region 2 with (refine wpList_st_new rfl 73 (.tmp 12) (.tmp 20) rfl w1 _ #[Jv 0, Jv 0, Jv 0, Jv 0, Jv 0, Jv 0, Jv 0, Jv 0, Jv 0, Jv 0, Jv 0, Jv 0, Jv 0, .slice none 0 0, Jv 0] rfl rfl (by kernel_rfl) rfl (by simp [Value.oneCell']) ?_)
  obtain ⟨w2, hw2⟩ : ∃ w2, w1.alloc (.cells #[Jv 0, Jv 0, Jv 0, Jv 0, Jv 0, Jv 0, Jv 0, Jv 0, Jv 0, Jv 0, Jv 0, Jv 0, Jv 0, .slice none 0 0, Jv 0] 73) = w2 := ⟨_, rfl⟩
  rw [hw2] at s1 ⊢
  obtain ⟨-, -, -, c1, f1, z1, -⟩ := s1.rules
  have HB : Hid (Below W.heap.size W _) := s1.tail.out2 (i := 0) (j := 1) (u := Jv 0) (v := Jv 0)
  clear s1 hw2
  go_wp2
  exact bodyPost_ret (v := .tuple #[.agg #[Jv 0, Jv 0], Jv E]) (by simp [results, Try.results10, go_sem, c1]) rfl ⟨rfl, HB.out⟩
set_option maxRecDepth 100000 in
set_option maxHeartbeats 4000000 in
theorem bprt_d (h w c lo hi ot op ch : Int) (oa : Option Addr) (on oc : Nat) (W : World) (slo shi : Int) (dp : Int) (n bi p x0 y0 z0 : Int) (N : Nat) (hN : N ≤ 512) (op0 : Array Value) (X Y : Int) (hFd : ∀ W', Below W.heap.size W W' → Calls Try.prog 24 #[.agg #[Jv h, Jv w, Jv c, Jv lo, Jv hi, .slice oa on oc, Jv ot], Jv op, Jv ch, .agg #[Jv slo, Jv shi]] W' fun e w' => ∃ g0, e = .returned (.tuple #[.agg #[Jv ch, Jv n, Jv (N : Int), Jv bi, Jv slo, Jv shi, Jv p, Jv p, Jv x0, Jv y0, Jv z0, Jv 0, Jv 0, .slice (some ⟨g0, 0, none⟩) 1 1, Jv 0], Jv 0]) ∧ w'.heap[g0]? = some (.cells op0 47 (0, 0)) ∧ W'.heap.size ≤ g0 ∧ Below W'.heap.size W' w') (hd : ¬ (1 ≤ dp ∧ dp ≤ (N : Int))) : Calls Try.prog 10 #[.agg #[Jv h, Jv w, Jv c, Jv lo, Jv hi, .slice oa on oc, Jv ot], Jv op, Jv ch, .agg #[Jv slo, Jv shi], Jv dp] W fun e w' => e = .returned (.tuple #[.agg #[Jv 0, Jv 0], Jv 151]) ∧ Below W.heap.size W w' := by
  have HF : Hid (∀ W', Below W.heap.size W W' → _) := hFd
  have s0 := ((((St.start W).new (c := #[Jv h, Jv w, Jv c, Jv lo, Jv hi, .slice oa on oc, Jv ot]) (t := 26)).new (c := #[Jv slo, Jv shi]) (t := 28)).new (c := #[Jv dp]) (t := 3)).new (c := #[Jv 0, Jv 0]) (t := 28)
  simp only [World.size_alloc] at s0
  clear hFd
  by_cases d1 : dp < 1
  all_goals
    try have d2 : (N : Int) < dp := by omega
    clear hd
    go_enter Try.func10, Try.ntmps10
    go_wp2_with fail
    refine (HF.out _ s0.below).mono ?_
    rintro e w1 ⟨g0, rfl, -, -, hb⟩
    have s1 := (s0.call hb).new (c := #[Jv ch, Jv n, Jv (N : Int), Jv bi, Jv slo, Jv shi, Jv p, Jv p, Jv x0, Jv y0, Jv z0, Jv 0, Jv 0, .slice (some ⟨g0, 0, none⟩) 1 1, Jv 0]) (t := 73)
    clear hb s0 HF
    go_upto_region 2 with (refine wpList_st_new rfl 73 (.tmp 12) (.tmp 20) rfl w1 _ #[Jv ch, Jv n, Jv (N : Int), Jv bi, Jv slo, Jv shi, Jv p, Jv p, Jv x0, Jv y0, Jv z0, Jv 0, Jv 0, .slice (some ⟨g0, 0, none⟩) 1 1, Jv 0] rfl rfl (by kernel_rfl) rfl (by simp [Value.oneCell']) ?_)
    obtain ⟨w2, hw2⟩ : ∃ w2, w1.alloc (.cells #[Jv ch, Jv n, Jv (N : Int), Jv bi, Jv slo, Jv shi, Jv p, Jv p, Jv x0, Jv y0, Jv z0, Jv 0, Jv 0, .slice (some ⟨g0, 0, none⟩) 1 1, Jv 0] 73) = w2 := ⟨_, rfl⟩
    rw [hw2] at s1 ⊢
    obtain ⟨c0, f0, z0', c1, f1, z1, c2, f2, z2, -⟩ := s1.rules
    have HB : Hid (Below W.heap.size W _) := s1.tail.out2 (i := 0) (j := 1) (u := Jv 0) (v := Jv 0)
    clear s1 hw2
    go_wp2
    exact bodyPost_ret (v := .tuple #[.agg #[Jv 0, Jv 0], Jv 151]) (by simp [results, Try.results10, go_sem, c1]) rfl ⟨rfl, HB.out⟩
set_option maxRecDepth 100000 in
set_option maxHeartbeats 4000000 in
theorem bprt_w (h w c lo hi ot op ch : Int) (oa : Option Addr) (on oc : Nat) (W : World) (slo shi : Int) (d : Nat) (n bi p x0 y0 z0 : Int) (N : Nat) (hN : N ≤ 512) (op0 : Array Value) (X Y : Int) (hFd : ∀ W', Below W.heap.size W W' → Calls Try.prog 24 #[.agg #[Jv h, Jv w, Jv c, Jv lo, Jv hi, .slice oa on oc, Jv ot], Jv op, Jv ch, .agg #[Jv slo, Jv shi]] W' fun e w' => ∃ g0, e = .returned (.tuple #[.agg #[Jv ch, Jv n, Jv (N : Int), Jv bi, Jv slo, Jv shi, Jv p, Jv p, Jv x0, Jv y0, Jv z0, Jv 0, Jv 0, .slice (some ⟨g0, 0, none⟩) 1 1, Jv 0], Jv 0]) ∧ w'.heap[g0]? = some (.cells op0 47 (0, 0)) ∧ W'.heap.size ≤ g0 ∧ Below W'.heap.size W' w') (hd : 1 ≤ d ∧ d ≤ N)
    (hHl : ∀ W' (g0 q r : Nat), Below W.heap.size W W' → W'.heap[g0]? = some (.cells op0 47 (0, 0)) → W'.heap[q]? = some (.cells #[Jv ch, Jv n, Jv (N : Int), Jv bi, Jv slo, Jv shi, Jv p, Jv p, Jv x0, Jv y0, Jv z0, Jv 0, Jv 0, .slice (some ⟨g0, 0, none⟩) 1 1, Jv 0] 73 (0, 0)) → W'.heap[r]? = some (.cells #[Jv (d : Int)] 3 (0, 0)) → Calls Try.prog 25 #[.pointer (some ⟨q, 0, none⟩), .func (.func 29) #[] #[.pointer (some ⟨r, 0, none⟩)]] W' fun e w' => e = .returned (.agg #[Jv X, Jv Y]) ∧ Below W'.heap.size W' w') :
    Calls Try.prog 10 #[.agg #[Jv h, Jv w, Jv c, Jv lo, Jv hi, .slice oa on oc, Jv ot], Jv op, Jv ch, .agg #[Jv slo, Jv shi], Jv (d : Int)] W fun e w' => e = .returned (.tuple #[.agg #[Jv X, Jv Y], Jv 0]) ∧ Below W.heap.size W w' := by
  have hmf : ∀ (fn : Fn) (first cap : Array Value) (w : World), (Instr.makeFunc fn first cap).run Try.prog w = .ok (.func fn first cap) w := fun _ _ _ _ => rfl
  have HF : Hid (∀ W', Below W.heap.size W W' → _) := hFd
  have HH : Hid (∀ W' (g0 q r : Nat), Below W.heap.size W W' → W'.heap[g0]? = some (.cells op0 47 (0, 0)) → W'.heap[q]? = some (.cells #[Jv ch, Jv n, Jv (N : Int), Jv bi, Jv slo, Jv shi, Jv p, Jv p, Jv x0, Jv y0, Jv z0, Jv 0, Jv 0, .slice (some ⟨g0, 0, none⟩) 1 1, Jv 0] 73 (0, 0)) → W'.heap[r]? = some (.cells #[Jv (d : Int)] 3 (0, 0)) → _) := hHl
  obtain ⟨d1, d2⟩ := hd
  have s0 := ((((St.start W).new (c := #[Jv h, Jv w, Jv c, Jv lo, Jv hi, .slice oa on oc, Jv ot]) (t := 26)).new (c := #[Jv slo, Jv shi]) (t := 28)).new (c := #[Jv (d : Int)]) (t := 3)).new (c := #[Jv 0, Jv 0]) (t := 28)
  simp only [World.size_alloc] at s0
  clear hFd hHl
  go_enter Try.func10, Try.ntmps10
  go_wp2_with fail
  refine (HF.out _ s0.below).mono ?_
  rintro e w1 ⟨g0, rfl, hg0, -, hb⟩
  have s1 := (s0.call hb).new (c := #[Jv ch, Jv n, Jv (N : Int), Jv bi, Jv slo, Jv shi, Jv p, Jv p, Jv x0, Jv y0, Jv z0, Jv 0, Jv 0, .slice (some ⟨g0, 0, none⟩) 1 1, Jv 0]) (t := 73)
  have S1 : Hid (St W _ _) := s1
  have hg1 : Hid ((w1.alloc (.cells #[Jv ch, Jv n, Jv (N : Int), Jv bi, Jv slo, Jv shi, Jv p, Jv p, Jv x0, Jv y0, Jv z0, Jv 0, Jv 0, .slice (some ⟨g0, 0, none⟩) 1 1, Jv 0] 73)).heap[g0]? = some (.cells op0 47 (0, 0))) := (heap_alloc_old w1 _ (lt_of_heap hg0)).trans hg0
  clear hb s0 HF hg0
  go_upto_region 2 with (refine wpList_st_new rfl 73 (.tmp 12) (.tmp 20) rfl w1 _ #[Jv ch, Jv n, Jv (N : Int), Jv bi, Jv slo, Jv shi, Jv p, Jv p, Jv x0, Jv y0, Jv z0, Jv 0, Jv 0, .slice (some ⟨g0, 0, none⟩) 1 1, Jv 0] rfl rfl (by kernel_rfl) rfl (by simp [Value.oneCell']) ?_)
  obtain ⟨q, hq⟩ : ∃ q, w1.heap.size = q := ⟨_, rfl⟩
  obtain ⟨w2, hw2⟩ : ∃ w2, w1.alloc (.cells #[Jv ch, Jv n, Jv (N : Int), Jv bi, Jv slo, Jv shi, Jv p, Jv p, Jv x0, Jv y0, Jv z0, Jv 0, Jv 0, .slice (some ⟨g0, 0, none⟩) 1 1, Jv 0] 73) = w2 := ⟨_, rfl⟩
  rw [hw2] at S1 hg1 ⊢
  rw [hq] at S1 ⊢
  clear s1 hw2 hq
  have HC : Hid _ := HH.out w2 g0 q (W.heap.size + 1 + 1) S1.out.below hg1.out S1.out.h1 S1.out.h3
  obtain ⟨c0, f0, z0', -, -, z1, c2, f2, z2, -⟩ := S1.out.rules
  clear HH hg1
  go_wp2_with fail
  refine Calls.mono HC.out ?_
  rintro e w3 ⟨rfl, hb⟩
  have s3 := S1.out.call hb
  clear c0 f0 z0' z1 c2 f2 z2
  obtain ⟨-, -, -, c1, f1, z1, -⟩ := s3.rules
  have HB : Hid (Below W.heap.size W _) := s3.tail.out2 (i := 0) (j := 1) (u := Jv X) (v := Jv Y)
  clear s3 hb S1
  go_wp2
  exact bodyPost_ret (v := .tuple #[.agg #[Jv X, Jv Y], Jv 0]) (by simp [results, Try.results10, go_sem, c1]) rfl ⟨rfl, HB.out⟩
end Go.Proofs.Ytcphealigifdiaa

/- What Total, Run, Part and Product answer of a model: the error, or the hull. -/
namespace Go.Proofs.Ytcphealigifdiaa
open Go.ChangeShapes Go.WideShapes Go.ChangeAt Go.RowKit Go.Shelf
set_option linter.unusedVariables false
theorem bask (h w c lo hi ot : Int) (oa : Option Addr) (on oc : Nat) (O : Nat → Nat → Int) (Z B : Nat → List Int) (W : World) (hL : LRow W oa on oc O Z B) (op ch : Int) :
    (∃ E : Int, E ≠ 0 ∧ (∀ W', Below W.heap.size W W' → Calls Try.prog 7 #[.agg #[Jv h, Jv w, Jv c, Jv lo, Jv hi, .slice oa on oc, Jv ot], Jv op, Jv ch, Jv 0] W' fun e w' => e = .returned (.tuple #[.slice none 0 0, Jv 0, Jv E]) ∧ Below W'.heap.size W' w')) ∨ (∃ (RL : List (Int × Int × Int)) (Rw : Int), gtR O h w c lo hi ot on = (0, 0, RL, Rw) ∧ ∃ (i : Nat) (x : Addr) (wa : Option Addr) (lw cw : Nat) (ba : Option Addr) (lb cb : Nat) (x0 y0 z0 H V C : Int), op = (i : Int) + 1 ∧ Fnd W oa on O Z B RL i x wa lw cw ba lb cb x0 y0 z0 H V C ∧ (1 ≤ ch ∧ ch ≤ C)) := by
  obtain ⟨E, hf⟩ : ∃ E, fiE O h w c lo hi ot on op = E := ⟨_, rfl⟩
  by_cases hE : E = 0
  · subst hE
    obtain ⟨RL, Rw, hR, i, x, wa, lw, cw, ba, lb, cb, x0, y0, z0, H, V, C, rfl, hF⟩ := found h w c lo hi ot oa on oc O Z B W hL op hf
    by_cases hch : 1 ≤ ch ∧ ch ≤ C
    · exact .inr ⟨RL, Rw, hR, i, x, wa, lw, cw, ba, lb, cb, x0, y0, z0, H, V, C, rfl, hF, hch⟩
    · exact .inl ⟨3, by omega, fun W' hb => of_place h w c lo hi ot oa on oc O Z B W' (hL.below hb) ch 0 RL Rw hR i x wa lw cw ba lb cb x0 y0 z0 H V C (hF.below hb) (fun q => hch q.1)⟩
  · exact .inl ⟨E, hE, fun W' hb => of_bad h w c lo hi ot oa on oc O Z B W' (hL.below hb) op ch 0 E hf hE⟩
/-- The answer where the op and the channel are there. -/
def spR (slo shi : Int) (r : Int × Int) : Int × Int × Int := if vbB slo shi = true then (r.1, r.2, 0) else (0, 0, 30)
def spD (slo shi dp : Int) (N : Nat) (r : Int × Int) : Int × Int × Int := if vbB slo shi = true then (if 1 ≤ dp ∧ dp ≤ (N : Int) then (r.1, r.2, 0) else (0, 0, 151)) else (0, 0, 30)
theorem bof0 (h w c lo hi ot : Int) (oa : Option Addr) (on oc : Nat) (O : Nat → Nat → Int) (Z B : Nat → List Int) (W : World) (hL : LRow W oa on oc O Z B) (ch : Int) (RL : List (Int × Int × Int)) (Rw : Int) (hR : gtR O h w c lo hi ot on = (0, 0, RL, Rw)) (i : Nat) (x : Addr) (wa : Option Addr) (lw cw : Nat) (ba : Option Addr) (lb cb : Nat) (x0 y0 z0 H V C : Int) (hF : Fnd W oa on O Z B RL i x wa lw cw ba lb cb x0 y0 z0 H V C) (hch : 1 ≤ ch ∧ ch ≤ C) : ∀ W', Below W.heap.size W W' → Calls Try.prog 7 #[.agg #[Jv h, Jv w, Jv c, Jv lo, Jv hi, .slice oa on oc, Jv ot], Jv ((i : Int) + 1), Jv ch, Jv 0] W' fun e w' => (∃ v, e = .returned (.tuple #[v, Jv (biA (O i 0) ch (B i)), Jv 0]) ∧ OTm w' W'.heap.size v (siL (O i 0) (O i 4) (O i 5) (O i 6) (O i 7) (O i 8) (O i 9) (O i 10) (O i 11) x0 y0 z0 ch 0 (Z i))) ∧ Below W'.heap.size W' w' := fun W' hb => by
  have hv := (vS_bd hF.2.2.2.2.2.2.2.2.2.1.2.2.1).1
  exact of_ok h w c lo hi ot oa on oc O Z B W' (hL.below hb) ch 0 RL Rw hR i x wa lw cw ba lb cb x0 y0 z0 H V C (hF.below hb) hch ⟨by omega, by omega⟩
theorem slen {h w c lo hi ot ch : Int} {oa : Option Addr} {on : Nat} {O : Nat → Nat → Int} {Z B : Nat → List Int} {W : World} (RL : List (Int × Int × Int)) (Rw : Int) (hR : gtR O h w c lo hi ot on = (0, 0, RL, Rw)) (i : Nat) (x : Addr) (wa : Option Addr) (lw cw : Nat) (ba : Option Addr) (lb cb : Nat) (x0 y0 z0 H V C : Int) (hF : Fnd W oa on O Z B RL i x wa lw cw ba lb cb x0 y0 z0 H V C) (hch : 1 ≤ ch ∧ ch ≤ C) : (siL (O i 0) (O i 4) (O i 5) (O i 6) (O i 7) (O i 8) (O i 9) (O i 10) (O i 11) x0 y0 z0 ch 0 (Z i)).length ≤ 512 := by
  exact (siL_facts hF.2.2.2.2.2.2.2.2.2.1 hF.2.2.2.2.2.1.2.2.2.1 hch 0).1
theorem btot_bad (h w c lo hi ot op ch : Int) (oa : Option Addr) (on oc : Nat) (W : World) (slo shi E : Int) (hE : E ≠ 0) (hO : (∀ W', Below W.heap.size W W' → Calls Try.prog 7 #[.agg #[Jv h, Jv w, Jv c, Jv lo, Jv hi, .slice oa on oc, Jv ot], Jv op, Jv ch, Jv 0] W' fun e w' => e = .returned (.tuple #[.slice none 0 0, Jv 0, Jv E]) ∧ Below W'.heap.size W' w')) : Calls Try.prog 8 #[.agg #[Jv h, Jv w, Jv c, Jv lo, Jv hi, .slice oa on oc, Jv ot], Jv op, Jv ch, .agg #[Jv slo, Jv shi]] W fun e w' => e = .returned (.tuple #[.agg #[Jv 0, Jv 0], Jv E]) ∧ Below W.heap.size W w' :=
  btot_e h w c lo hi ot op ch oa on oc W slo shi E hE (fun W' hb => bfind_e h w c lo hi ot op ch oa on oc W' slo shi E hE (fun W'' hb' => hO W'' (hb.trans (hb'.mono hb.size))))
theorem btot_ok (h w c lo hi ot : Int) (oa : Option Addr) (on oc : Nat) (O : Nat → Nat → Int) (Z B : Nat → List Int) (W : World) (hL : LRow W oa on oc O Z B) (ch : Int) (RL : List (Int × Int × Int)) (Rw : Int) (hR : gtR O h w c lo hi ot on = (0, 0, RL, Rw)) (i : Nat) (x : Addr) (wa : Option Addr) (lw cw : Nat) (ba : Option Addr) (lb cb : Nat) (x0 y0 z0 H V C : Int) (hF : Fnd W oa on O Z B RL i x wa lw cw ba lb cb x0 y0 z0 H V C) (hch : 1 ≤ ch ∧ ch ≤ C) (slo shi : Int) : Calls Try.prog 8 #[.agg #[Jv h, Jv w, Jv c, Jv lo, Jv hi, .slice oa on oc, Jv ot], Jv ((i : Int) + 1), Jv ch, .agg #[Jv slo, Jv shi]] W fun e w' => e = .returned (.tuple #[.agg #[Jv (spR slo shi (hbT (biA (O i 0) ch (B i)) (fun (j : Nat) => enL slo shi (O i 19) (siL (O i 0) (O i 4) (O i 5) (O i 6) (O i 7) (O i 8) (O i 9) (O i 10) (O i 11) x0 y0 z0 ch (j : Int) (Z i))) (H * V).toNat)).1, Jv (spR slo shi (hbT (biA (O i 0) ch (B i)) (fun (j : Nat) => enL slo shi (O i 19) (siL (O i 0) (O i 4) (O i 5) (O i 6) (O i 7) (O i 8) (O i 9) (O i 10) (O i 11) x0 y0 z0 ch (j : Int) (Z i))) (H * V).toNat)).2.1], Jv (spR slo shi (hbT (biA (O i 0) ch (B i)) (fun (j : Nat) => enL slo shi (O i 19) (siL (O i 0) (O i 4) (O i 5) (O i 6) (O i 7) (O i 8) (O i 9) (O i 10) (O i 11) x0 y0 z0 ch (j : Int) (Z i))) (H * V).toNat)).2.2]) ∧ Below W.heap.size W w' := by
  unfold spR
  cases hs : vbB slo shi with
  | false =>
    rw [if_neg (by decide)]
    exact btot_e h w c lo hi ot _ ch oa on oc W slo shi 30 (by decide) (fun W' hb => bfind_30 h w c lo hi ot _ ch oa on oc W' slo shi _ _ hs (fun W'' hb' => bof0 h w c lo hi ot oa on oc O Z B W hL ch RL Rw hR i x wa lw cw ba lb cb x0 y0 z0 H V C hF hch W'' (hb.trans (hb'.mono hb.size))))
  | true =>
    rw [if_pos rfl]
    obtain ⟨-, -, -, -, -, hbi, -⟩ := bfacts hL RL Rw hR i x wa lw cw ba lb cb x0 y0 z0 H V C hF hch
    obtain ⟨N, hN⟩ : ∃ N, (siL (O i 0) (O i 4) (O i 5) (O i 6) (O i 7) (O i 8) (O i 9) (O i 10) (O i 11) x0 y0 z0 ch 0 (Z i)).length = N := ⟨_, rfl⟩
    refine btot_w h w c lo hi ot _ ch oa on oc W slo shi (H * V) (biA (O i 0) ch (B i)) (O i 19) x0 y0 z0 N (by rw [← hN]; exact slen RL Rw hR i x wa lw cw ba lb cb x0 y0 z0 H V C hF hch) #[Jv (O i 0), Jv 0, Jv (O i 2), Jv (O i 3), Jv (O i 4), Jv (O i 5), Jv (O i 6), Jv (O i 7), Jv (O i 8), Jv (O i 9), Jv (O i 10), Jv (O i 11), .slice wa lw cw, .slice ba lb cb, Jv (O i 14), Jv (O i 15), Jv (O i 16), Jv (O i 17), Jv (O i 18), Jv (O i 19), Jv (O i 20), Jv (O i 21)] _ _ (bfind_m h w c lo hi ot oa on oc O Z B W hL ch RL Rw hR i x wa lw cw ba lb cb x0 y0 z0 H V C hF hch slo shi hs N hN _ rfl) 26 rfl (fun W' g0 q hb hg hq => ?_)
    exact bhull_m h w c lo hi ot oa on oc O Z B W hL ch RL Rw hR i x wa lw cw ba lb cb x0 y0 z0 H V C hF hch slo shi hs N (biA (O i 0) ch (B i)) W' hb g0 q hg hq (fun E => [suS (biA (O i 0) ch (B i), biA (O i 0) ch (B i)) E]) 26 #[.pointer (some ⟨q, 0, none⟩)] (enters_of Try.func26 (by kernel_rfl) rfl) (fun W'' v E nb hb' hE h0 hl hv hn hz => ctot_any ch (H * V) N (biA (O i 0) ch (B i)) slo shi (O i 19) x0 y0 z0 g0 q W'' ((hb'.block q (lt_of_heap hq)).trans hq) hbi v E nb hE h0 hl hv hn hz) (fun E hE h0 hl => ftot hbi hE hl)
theorem brun_bad (h w c lo hi ot op ch : Int) (oa : Option Addr) (on oc : Nat) (W : World) (slo shi E : Int) (hE : E ≠ 0) (hO : (∀ W', Below W.heap.size W W' → Calls Try.prog 7 #[.agg #[Jv h, Jv w, Jv c, Jv lo, Jv hi, .slice oa on oc, Jv ot], Jv op, Jv ch, Jv 0] W' fun e w' => e = .returned (.tuple #[.slice none 0 0, Jv 0, Jv E]) ∧ Below W'.heap.size W' w')) : Calls Try.prog 9 #[.agg #[Jv h, Jv w, Jv c, Jv lo, Jv hi, .slice oa on oc, Jv ot], Jv op, Jv ch, .agg #[Jv slo, Jv shi]] W fun e w' => e = .returned (.tuple #[.agg #[Jv 0, Jv 0], Jv E]) ∧ Below W.heap.size W w' :=
  brun_e h w c lo hi ot op ch oa on oc W slo shi E hE (fun W' hb => bfind_e h w c lo hi ot op ch oa on oc W' slo shi E hE (fun W'' hb' => hO W'' (hb.trans (hb'.mono hb.size))))
theorem brun_ok (h w c lo hi ot : Int) (oa : Option Addr) (on oc : Nat) (O : Nat → Nat → Int) (Z B : Nat → List Int) (W : World) (hL : LRow W oa on oc O Z B) (ch : Int) (RL : List (Int × Int × Int)) (Rw : Int) (hR : gtR O h w c lo hi ot on = (0, 0, RL, Rw)) (i : Nat) (x : Addr) (wa : Option Addr) (lw cw : Nat) (ba : Option Addr) (lb cb : Nat) (x0 y0 z0 H V C : Int) (hF : Fnd W oa on O Z B RL i x wa lw cw ba lb cb x0 y0 z0 H V C) (hch : 1 ≤ ch ∧ ch ≤ C) (slo shi : Int) : Calls Try.prog 9 #[.agg #[Jv h, Jv w, Jv c, Jv lo, Jv hi, .slice oa on oc, Jv ot], Jv ((i : Int) + 1), Jv ch, .agg #[Jv slo, Jv shi]] W fun e w' => e = .returned (.tuple #[.agg #[Jv (spR slo shi (hbR (biA (O i 0) ch (B i)) (fun (j : Nat) => enL slo shi (O i 19) (siL (O i 0) (O i 4) (O i 5) (O i 6) (O i 7) (O i 8) (O i 9) (O i 10) (O i 11) x0 y0 z0 ch (j : Int) (Z i))) (H * V).toNat)).1, Jv (spR slo shi (hbR (biA (O i 0) ch (B i)) (fun (j : Nat) => enL slo shi (O i 19) (siL (O i 0) (O i 4) (O i 5) (O i 6) (O i 7) (O i 8) (O i 9) (O i 10) (O i 11) x0 y0 z0 ch (j : Int) (Z i))) (H * V).toNat)).2.1], Jv (spR slo shi (hbR (biA (O i 0) ch (B i)) (fun (j : Nat) => enL slo shi (O i 19) (siL (O i 0) (O i 4) (O i 5) (O i 6) (O i 7) (O i 8) (O i 9) (O i 10) (O i 11) x0 y0 z0 ch (j : Int) (Z i))) (H * V).toNat)).2.2]) ∧ Below W.heap.size W w' := by
  unfold spR
  cases hs : vbB slo shi with
  | false =>
    rw [if_neg (by decide)]
    exact brun_e h w c lo hi ot _ ch oa on oc W slo shi 30 (by decide) (fun W' hb => bfind_30 h w c lo hi ot _ ch oa on oc W' slo shi _ _ hs (fun W'' hb' => bof0 h w c lo hi ot oa on oc O Z B W hL ch RL Rw hR i x wa lw cw ba lb cb x0 y0 z0 H V C hF hch W'' (hb.trans (hb'.mono hb.size))))
  | true =>
    rw [if_pos rfl]
    obtain ⟨-, -, -, -, -, hbi, -⟩ := bfacts hL RL Rw hR i x wa lw cw ba lb cb x0 y0 z0 H V C hF hch
    obtain ⟨N, hN⟩ : ∃ N, (siL (O i 0) (O i 4) (O i 5) (O i 6) (O i 7) (O i 8) (O i 9) (O i 10) (O i 11) x0 y0 z0 ch 0 (Z i)).length = N := ⟨_, rfl⟩
    refine brun_w h w c lo hi ot _ ch oa on oc W slo shi (H * V) (biA (O i 0) ch (B i)) (O i 19) x0 y0 z0 N (by rw [← hN]; exact slen RL Rw hR i x wa lw cw ba lb cb x0 y0 z0 H V C hF hch) #[Jv (O i 0), Jv 0, Jv (O i 2), Jv (O i 3), Jv (O i 4), Jv (O i 5), Jv (O i 6), Jv (O i 7), Jv (O i 8), Jv (O i 9), Jv (O i 10), Jv (O i 11), .slice wa lw cw, .slice ba lb cb, Jv (O i 14), Jv (O i 15), Jv (O i 16), Jv (O i 17), Jv (O i 18), Jv (O i 19), Jv (O i 20), Jv (O i 21)] _ _ (bfind_m h w c lo hi ot oa on oc O Z B W hL ch RL Rw hR i x wa lw cw ba lb cb x0 y0 z0 H V C hF hch slo shi hs N hN _ rfl) 28 rfl (fun W' g0 q hb hg hq => ?_)
    exact bhull_m h w c lo hi ot oa on oc O Z B W hL ch RL Rw hR i x wa lw cw ba lb cb x0 y0 z0 H V C hF hch slo shi hs N (biA (O i 0) ch (B i)) W' hb g0 q hg hq (fun E => ruL (biA (O i 0) ch (B i), biA (O i 0) ch (B i)) E) 28 #[.pointer (some ⟨q, 0, none⟩)] (enters_of Try.func28 (by kernel_rfl) rfl) (fun W'' v E nb hb' hE h0 hl hv hn hz => crun_any ch (H * V) N (biA (O i 0) ch (B i)) slo shi (O i 19) x0 y0 z0 g0 q W'' ((hb'.block q (lt_of_heap hq)).trans hq) hbi v E nb hE h0 hl hv hn hz) (fun E hE h0 hl => frun hbi hE hl)
theorem bprd_bad (h w c lo hi ot op ch : Int) (oa : Option Addr) (on oc : Nat) (W : World) (slo shi E : Int) (hE : E ≠ 0) (hO : (∀ W', Below W.heap.size W W' → Calls Try.prog 7 #[.agg #[Jv h, Jv w, Jv c, Jv lo, Jv hi, .slice oa on oc, Jv ot], Jv op, Jv ch, Jv 0] W' fun e w' => e = .returned (.tuple #[.slice none 0 0, Jv 0, Jv E]) ∧ Below W'.heap.size W' w')) : Calls Try.prog 11 #[.agg #[Jv h, Jv w, Jv c, Jv lo, Jv hi, .slice oa on oc, Jv ot], Jv op, Jv ch, .agg #[Jv slo, Jv shi]] W fun e w' => e = .returned (.tuple #[.agg #[Jv 0, Jv 0], Jv E]) ∧ Below W.heap.size W w' :=
  bprd_e h w c lo hi ot op ch oa on oc W slo shi E hE (fun W' hb => bfind_e h w c lo hi ot op ch oa on oc W' slo shi E hE (fun W'' hb' => hO W'' (hb.trans (hb'.mono hb.size))))
theorem bprd_ok (h w c lo hi ot : Int) (oa : Option Addr) (on oc : Nat) (O : Nat → Nat → Int) (Z B : Nat → List Int) (W : World) (hL : LRow W oa on oc O Z B) (ch : Int) (RL : List (Int × Int × Int)) (Rw : Int) (hR : gtR O h w c lo hi ot on = (0, 0, RL, Rw)) (i : Nat) (x : Addr) (wa : Option Addr) (lw cw : Nat) (ba : Option Addr) (lb cb : Nat) (x0 y0 z0 H V C : Int) (hF : Fnd W oa on O Z B RL i x wa lw cw ba lb cb x0 y0 z0 H V C) (hch : 1 ≤ ch ∧ ch ≤ C) (slo shi : Int) : Calls Try.prog 11 #[.agg #[Jv h, Jv w, Jv c, Jv lo, Jv hi, .slice oa on oc, Jv ot], Jv ((i : Int) + 1), Jv ch, .agg #[Jv slo, Jv shi]] W fun e w' => e = .returned (.tuple #[.agg #[Jv (spR slo shi (hbP (fun (j : Nat) => enL slo shi (O i 19) (siL (O i 0) (O i 4) (O i 5) (O i 6) (O i 7) (O i 8) (O i 9) (O i 10) (O i 11) x0 y0 z0 ch (j : Int) (Z i))) (H * V).toNat)).1, Jv (spR slo shi (hbP (fun (j : Nat) => enL slo shi (O i 19) (siL (O i 0) (O i 4) (O i 5) (O i 6) (O i 7) (O i 8) (O i 9) (O i 10) (O i 11) x0 y0 z0 ch (j : Int) (Z i))) (H * V).toNat)).2.1], Jv (spR slo shi (hbP (fun (j : Nat) => enL slo shi (O i 19) (siL (O i 0) (O i 4) (O i 5) (O i 6) (O i 7) (O i 8) (O i 9) (O i 10) (O i 11) x0 y0 z0 ch (j : Int) (Z i))) (H * V).toNat)).2.2]) ∧ Below W.heap.size W w' := by
  unfold spR
  cases hs : vbB slo shi with
  | false =>
    rw [if_neg (by decide)]
    exact bprd_e h w c lo hi ot _ ch oa on oc W slo shi 30 (by decide) (fun W' hb => bfind_30 h w c lo hi ot _ ch oa on oc W' slo shi _ _ hs (fun W'' hb' => bof0 h w c lo hi ot oa on oc O Z B W hL ch RL Rw hR i x wa lw cw ba lb cb x0 y0 z0 H V C hF hch W'' (hb.trans (hb'.mono hb.size))))
  | true =>
    rw [if_pos rfl]
    obtain ⟨-, -, -, -, -, hbi, -⟩ := bfacts hL RL Rw hR i x wa lw cw ba lb cb x0 y0 z0 H V C hF hch
    obtain ⟨N, hN⟩ : ∃ N, (siL (O i 0) (O i 4) (O i 5) (O i 6) (O i 7) (O i 8) (O i 9) (O i 10) (O i 11) x0 y0 z0 ch 0 (Z i)).length = N := ⟨_, rfl⟩
    refine bprd_w h w c lo hi ot _ ch oa on oc W slo shi (H * V) (biA (O i 0) ch (B i)) (O i 19) x0 y0 z0 N (by rw [← hN]; exact slen RL Rw hR i x wa lw cw ba lb cb x0 y0 z0 H V C hF hch) #[Jv (O i 0), Jv 0, Jv (O i 2), Jv (O i 3), Jv (O i 4), Jv (O i 5), Jv (O i 6), Jv (O i 7), Jv (O i 8), Jv (O i 9), Jv (O i 10), Jv (O i 11), .slice wa lw cw, .slice ba lb cb, Jv (O i 14), Jv (O i 15), Jv (O i 16), Jv (O i 17), Jv (O i 18), Jv (O i 19), Jv (O i 20), Jv (O i 21)] _ _ (bfind_m h w c lo hi ot oa on oc O Z B W hL ch RL Rw hR i x wa lw cw ba lb cb x0 y0 z0 H V C hF hch slo shi hs N hN _ rfl) 31 rfl (fun W' g0 q hb hg hq => ?_)
    exact bhull_m h w c lo hi ot oa on oc O Z B W hL ch RL Rw hR i x wa lw cw ba lb cb x0 y0 z0 H V C hF hch slo shi hs N (biA (O i 0) ch (B i)) W' hb g0 q hg hq (fun E => E) 31 #[] (enters_of Try.func31 (by kernel_rfl) rfl) (fun W'' v E nb hb' hE h0 hl hv hn hz => cprd_any W'' v E nb hE h0 hl hv hn hz) (fun E hE h0 hl => fprd hE h0 hl)
theorem bprt_bad (h w c lo hi ot op ch : Int) (oa : Option Addr) (on oc : Nat) (W : World) (slo shi dp E : Int) (hE : E ≠ 0) (hO : (∀ W', Below W.heap.size W W' → Calls Try.prog 7 #[.agg #[Jv h, Jv w, Jv c, Jv lo, Jv hi, .slice oa on oc, Jv ot], Jv op, Jv ch, Jv 0] W' fun e w' => e = .returned (.tuple #[.slice none 0 0, Jv 0, Jv E]) ∧ Below W'.heap.size W' w')) : Calls Try.prog 10 #[.agg #[Jv h, Jv w, Jv c, Jv lo, Jv hi, .slice oa on oc, Jv ot], Jv op, Jv ch, .agg #[Jv slo, Jv shi], Jv dp] W fun e w' => e = .returned (.tuple #[.agg #[Jv 0, Jv 0], Jv E]) ∧ Below W.heap.size W w' :=
  bprt_e h w c lo hi ot op ch oa on oc W slo shi dp E hE (fun W' hb => bfind_e h w c lo hi ot op ch oa on oc W' slo shi E hE (fun W'' hb' => hO W'' (hb.trans (hb'.mono hb.size))))
theorem bprt_ok (h w c lo hi ot : Int) (oa : Option Addr) (on oc : Nat) (O : Nat → Nat → Int) (Z B : Nat → List Int) (W : World) (hL : LRow W oa on oc O Z B) (ch : Int) (RL : List (Int × Int × Int)) (Rw : Int) (hR : gtR O h w c lo hi ot on = (0, 0, RL, Rw)) (i : Nat) (x : Addr) (wa : Option Addr) (lw cw : Nat) (ba : Option Addr) (lb cb : Nat) (x0 y0 z0 H V C : Int) (hF : Fnd W oa on O Z B RL i x wa lw cw ba lb cb x0 y0 z0 H V C) (hch : 1 ≤ ch ∧ ch ≤ C) (slo shi dp : Int) (N : Nat) (hN : (siL (O i 0) (O i 4) (O i 5) (O i 6) (O i 7) (O i 8) (O i 9) (O i 10) (O i 11) x0 y0 z0 ch 0 (Z i)).length = N) : Calls Try.prog 10 #[.agg #[Jv h, Jv w, Jv c, Jv lo, Jv hi, .slice oa on oc, Jv ot], Jv ((i : Int) + 1), Jv ch, .agg #[Jv slo, Jv shi], Jv dp] W fun e w' => e = .returned (.tuple #[.agg #[Jv (spD slo shi dp N (hbD dp.toNat (fun (j : Nat) => enL slo shi (O i 19) (siL (O i 0) (O i 4) (O i 5) (O i 6) (O i 7) (O i 8) (O i 9) (O i 10) (O i 11) x0 y0 z0 ch (j : Int) (Z i))) (H * V).toNat)).1, Jv (spD slo shi dp N (hbD dp.toNat (fun (j : Nat) => enL slo shi (O i 19) (siL (O i 0) (O i 4) (O i 5) (O i 6) (O i 7) (O i 8) (O i 9) (O i 10) (O i 11) x0 y0 z0 ch (j : Int) (Z i))) (H * V).toNat)).2.1], Jv (spD slo shi dp N (hbD dp.toNat (fun (j : Nat) => enL slo shi (O i 19) (siL (O i 0) (O i 4) (O i 5) (O i 6) (O i 7) (O i 8) (O i 9) (O i 10) (O i 11) x0 y0 z0 ch (j : Int) (Z i))) (H * V).toNat)).2.2]) ∧ Below W.heap.size W w' := by
  unfold spD
  have hN5 : N ≤ 512 := by rw [← hN]; exact slen RL Rw hR i x wa lw cw ba lb cb x0 y0 z0 H V C hF hch
  cases hs : vbB slo shi with
  | false =>
    rw [if_neg (by decide)]
    exact bprt_e h w c lo hi ot _ ch oa on oc W slo shi dp 30 (by decide) (fun W' hb => bfind_30 h w c lo hi ot _ ch oa on oc W' slo shi _ _ hs (fun W'' hb' => bof0 h w c lo hi ot oa on oc O Z B W hL ch RL Rw hR i x wa lw cw ba lb cb x0 y0 z0 H V C hF hch W'' (hb.trans (hb'.mono hb.size))))
  | true =>
    rw [if_pos rfl]
    have hFm := bfind_m h w c lo hi ot oa on oc O Z B W hL ch RL Rw hR i x wa lw cw ba lb cb x0 y0 z0 H V C hF hch slo shi hs N hN _ rfl
    by_cases hd : 1 ≤ dp ∧ dp ≤ (N : Int)
    · rw [if_pos hd]
      obtain ⟨d, rfl⟩ := Int.eq_ofNat_of_zero_le (show 0 ≤ dp by omega)
      rw [Int.toNat_natCast]
      refine bprt_w h w c lo hi ot _ ch oa on oc W slo shi d (H * V) (biA (O i 0) ch (B i)) (O i 19) x0 y0 z0 N hN5 #[Jv (O i 0), Jv 0, Jv (O i 2), Jv (O i 3), Jv (O i 4), Jv (O i 5), Jv (O i 6), Jv (O i 7), Jv (O i 8), Jv (O i 9), Jv (O i 10), Jv (O i 11), .slice wa lw cw, .slice ba lb cb, Jv (O i 14), Jv (O i 15), Jv (O i 16), Jv (O i 17), Jv (O i 18), Jv (O i 19), Jv (O i 20), Jv (O i 21)] _ _ hFm ⟨by omega, by omega⟩ (fun W' g0 q r hb hg hq hr => ?_)
      exact bhull_m h w c lo hi ot oa on oc O Z B W hL ch RL Rw hR i x wa lw cw ba lb cb x0 y0 z0 H V C hF hch slo shi hs N (biA (O i 0) ch (B i)) W' hb g0 q hg hq (fun E => paL d E ++ E) 29 #[.pointer (some ⟨r, 0, none⟩)] (enters_of Try.func29 (by kernel_rfl) rfl) (fun W'' v E nb hb' hE h0 hl hv hn hz => cprt_any W'' d r ((hb'.block r (lt_of_heap hr)).trans hr) (by omega) (by omega) v E nb hE h0 hl hv hn hz) (fun E hE h0 hl => fprt (by omega) (by omega) hE h0 hl)
    · rw [if_neg hd]
      exact bprt_d h w c lo hi ot _ ch oa on oc W slo shi dp (H * V) (biA (O i 0) ch (B i)) (O i 19) x0 y0 z0 N hN5 #[Jv (O i 0), Jv 0, Jv (O i 2), Jv (O i 3), Jv (O i 4), Jv (O i 5), Jv (O i 6), Jv (O i 7), Jv (O i 8), Jv (O i 9), Jv (O i 10), Jv (O i 11), .slice wa lw cw, .slice ba lb cb, Jv (O i 14), Jv (O i 15), Jv (O i 16), Jv (O i 17), Jv (O i 18), Jv (O i 19), Jv (O i 20), Jv (O i 21)] 0 0 hFm hd
end Go.Proofs.Ytcphealigifdiaa

/- one and fixed of law13. -/
namespace Go.Proofs.Ytcphealigifdiaa
open Go.ChangeShapes Go.WideShapes Go.ChangeAt Go.RowKit
set_option linter.unusedVariables false
theorem regionG {P : Program} {ops : Array Oper} {Q : Exit → Act → World → Prop} {id : Nat} {a : Act} {w : World} (C : World → Prop) (M : Act → Act → World → Prop) (hm : P.follows .mixedOrders = true) (g : wpAnyC Fence.wide 3 P .any ops C (Qm (M a)) ops.size (Array.replicate ops.size false) a w.drew) (h : ∀ a' w, M a a' w → Q .normal a' w) : (Code.region id ops true).wp P Q a w :=
  regionM C (M a) hm g h
theorem one13_any (W : World) :
    Calls Try.prog 18 #[] W fun e w' => ∃ g : Nat, e = .returned (.agg #[Jv 1, Jv 1, Jv 2, Jv (-128), Jv 127, .slice (some ⟨g, 0, none⟩) 1 1, Jv 1]) ∧ LRow w' (some ⟨g, 0, none⟩) 1 1 (plO 0) plZ plB ∧ Below W.heap.size W w' := by
  go_enter Try.func18, Try.ntmps18
  go_wp2
  have s1 := (((St.start W).new (c := #[Jv 1, Jv 1, Jv 2, Jv (-128), Jv 127, .slice (some ⟨W.heap.size + 1 + 1 + 1, 0, none⟩) 1 1, Jv 1]) (t := 26)).new (c := #[.int .i16 3, .int .i16 (-2)]) (t := 96)).new (c := #[.int .i32 1]) (t := 21)
  simp only [World.size_alloc] at s1
  have s2 := s1.new (c := #[Jv 1, Jv 0, Jv 0, Jv 1, Jv 0, Jv 0, Jv 0, Jv 0, Jv 0, Jv 0, Jv 0, Jv 0, .slice (some ⟨W.heap.size + 1, 0, none⟩) 2 2, .slice (some ⟨W.heap.size + 1 + 1, 0, none⟩) 1 1, Jv 1, Jv 0, Jv 0, Jv 0, Jv 0, Jv 0, Jv (-128), Jv 127]) (t := 47)
  simp only [World.size_alloc] at s2
  exact bodyPost_ret (v := .agg #[Jv 1, Jv 1, Jv 2, Jv (-128), Jv 127, .slice (some ⟨W.heap.size + 1 + 1 + 1, 0, none⟩) 1 1, Jv 1]) (by simp [results, Try.results18, go_sem]) rfl ⟨W.heap.size + 1 + 1 + 1, rfl, pl_lrow (p := W.heap.size + 1) (q := W.heap.size + 1 + 1) s2.h1 s2.h3 s2.h2, s2.below⟩
theorem beqS (T : TypeId) (hT : T = 28) (a1 a2 b1 b2 : Int) (v : Bool) (h : decide (a1 = b1 ∧ a2 = b2) = v) : ∀ W, (binOp .eql T (.agg #[Jv a1, Jv a2]) (.agg #[Jv b1, Jv b2])).run Try.prog W = .ok (.bool v) W := by
  intro W; subst h hT; simp [go_sem]; repeat' split
  all_goals simp_all
theorem pl_len : (siL (plO 0 0 0) (plO 0 0 4) (plO 0 0 5) (plO 0 0 6) (plO 0 0 7) (plO 0 0 8) (plO 0 0 9) (plO 0 0 10) (plO 0 0 11) 1 1 2 1 0 (plZ 0)).length = 2 := by decide
theorem plT : spR 0 10 (hbT (biA (plO 0 0 0) 1 (plB 0)) (fun (j : Nat) => enL 0 10 (plO 0 0 19) (siL (plO 0 0 0) (plO 0 0 4) (plO 0 0 5) (plO 0 0 6) (plO 0 0 7) (plO 0 0 8) (plO 0 0 9) (plO 0 0 10) (plO 0 0 11) 1 1 2 1 (j : Int) (plZ 0))) ((1 : Int) * 1).toNat) = (-19, 31, 0) := by decide
theorem plR : spR 0 10 (hbR (biA (plO 0 0 0) 1 (plB 0)) (fun (j : Nat) => enL 0 10 (plO 0 0 19) (siL (plO 0 0 0) (plO 0 0 4) (plO 0 0 5) (plO 0 0 6) (plO 0 0 7) (plO 0 0 8) (plO 0 0 9) (plO 0 0 10) (plO 0 0 11) 1 1 2 1 (j : Int) (plZ 0))) ((1 : Int) * 1).toNat) = (-19, 31, 0) := by decide
theorem plP : spR 0 10 (hbP (fun (j : Nat) => enL 0 10 (plO 0 0 19) (siL (plO 0 0 0) (plO 0 0 4) (plO 0 0 5) (plO 0 0 6) (plO 0 0 7) (plO 0 0 8) (plO 0 0 9) (plO 0 0 10) (plO 0 0 11) 1 1 2 1 (j : Int) (plZ 0))) ((1 : Int) * 1).toNat) = (-20, 30, 0) := by decide
theorem plD2 : spD 0 10 2 2 (hbD (2 : Int).toNat (fun (j : Nat) => enL 0 10 (plO 0 0 19) (siL (plO 0 0 0) (plO 0 0 4) (plO 0 0 5) (plO 0 0 6) (plO 0 0 7) (plO 0 0 8) (plO 0 0 9) (plO 0 0 10) (plO 0 0 11) 1 1 2 1 (j : Int) (plZ 0))) ((1 : Int) * 1).toNat) = (-20, 30, 0) := by decide
theorem plD3 : spD 0 10 3 2 (hbD (3 : Int).toNat (fun (j : Nat) => enL 0 10 (plO 0 0 19) (siL (plO 0 0 0) (plO 0 0 4) (plO 0 0 5) (plO 0 0 6) (plO 0 0 7) (plO 0 0 8) (plO 0 0 9) (plO 0 0 10) (plO 0 0 11) 1 1 2 1 (j : Int) (plZ 0))) ((1 : Int) * 1).toNat) = (0, 0, 151) := by decide
theorem fx2 (g : Nat) (W : World) (hL : LRow W (some ⟨g, 0, none⟩) 1 1 (plO 0) plZ plB) : Calls Try.prog 8 #[.agg #[Jv 1, Jv 1, Jv 2, Jv (-128), Jv 127, .slice (some ⟨g, 0, none⟩) 1 1, Jv 1], Jv 1, Jv 1, .agg #[Jv 0, Jv 10]] W fun e w' => e = .returned (.tuple #[.agg #[Jv (-19), Jv 31], Jv 0]) ∧ Below W.heap.size W w' := by
  obtain ⟨wa, lw, cw, ba, lb, cb, hF⟩ := pl_found hL
  have h := btot_ok 1 1 2 (-128) 127 1 (some ⟨g, 0, none⟩) 1 1 (plO 0) plZ plB W hL 1 _ _ pl_0 0 ⟨g, 0, none⟩ wa lw cw ba lb cb 1 1 2 1 1 1 hF (by omega) 0 10
  rw [plT] at h
  exact h
theorem fx3 (g : Nat) (W : World) (hL : LRow W (some ⟨g, 0, none⟩) 1 1 (plO 0) plZ plB) : Calls Try.prog 9 #[.agg #[Jv 1, Jv 1, Jv 2, Jv (-128), Jv 127, .slice (some ⟨g, 0, none⟩) 1 1, Jv 1], Jv 1, Jv 1, .agg #[Jv 0, Jv 10]] W fun e w' => e = .returned (.tuple #[.agg #[Jv (-19), Jv 31], Jv 0]) ∧ Below W.heap.size W w' := by
  obtain ⟨wa, lw, cw, ba, lb, cb, hF⟩ := pl_found hL
  have h := brun_ok 1 1 2 (-128) 127 1 (some ⟨g, 0, none⟩) 1 1 (plO 0) plZ plB W hL 1 _ _ pl_0 0 ⟨g, 0, none⟩ wa lw cw ba lb cb 1 1 2 1 1 1 hF (by omega) 0 10
  rw [plR] at h
  exact h
theorem fx4 (g : Nat) (W : World) (hL : LRow W (some ⟨g, 0, none⟩) 1 1 (plO 0) plZ plB) : Calls Try.prog 10 #[.agg #[Jv 1, Jv 1, Jv 2, Jv (-128), Jv 127, .slice (some ⟨g, 0, none⟩) 1 1, Jv 1], Jv 1, Jv 1, .agg #[Jv 0, Jv 10], Jv 2] W fun e w' => e = .returned (.tuple #[.agg #[Jv (-20), Jv 30], Jv 0]) ∧ Below W.heap.size W w' := by
  obtain ⟨wa, lw, cw, ba, lb, cb, hF⟩ := pl_found hL
  have h := bprt_ok 1 1 2 (-128) 127 1 (some ⟨g, 0, none⟩) 1 1 (plO 0) plZ plB W hL 1 _ _ pl_0 0 ⟨g, 0, none⟩ wa lw cw ba lb cb 1 1 2 1 1 1 hF (by omega) 0 10 2 2 pl_len
  rw [plD2] at h
  exact h
theorem fx5 (g : Nat) (W : World) (hL : LRow W (some ⟨g, 0, none⟩) 1 1 (plO 0) plZ plB) : Calls Try.prog 11 #[.agg #[Jv 1, Jv 1, Jv 2, Jv (-128), Jv 127, .slice (some ⟨g, 0, none⟩) 1 1, Jv 1], Jv 1, Jv 1, .agg #[Jv 0, Jv 10]] W fun e w' => e = .returned (.tuple #[.agg #[Jv (-20), Jv 30], Jv 0]) ∧ Below W.heap.size W w' := by
  obtain ⟨wa, lw, cw, ba, lb, cb, hF⟩ := pl_found hL
  have h := bprd_ok 1 1 2 (-128) 127 1 (some ⟨g, 0, none⟩) 1 1 (plO 0) plZ plB W hL 1 _ _ pl_0 0 ⟨g, 0, none⟩ wa lw cw ba lb cb 1 1 2 1 1 1 hF (by omega) 0 10
  rw [plP] at h
  exact h
theorem fx6 (g : Nat) (W : World) (hL : LRow W (some ⟨g, 0, none⟩) 1 1 (plO 0) plZ plB) : Calls Try.prog 10 #[.agg #[Jv 1, Jv 1, Jv 2, Jv (-128), Jv 127, .slice (some ⟨g, 0, none⟩) 1 1, Jv 1], Jv 1, Jv 1, .agg #[Jv 0, Jv 10], Jv 3] W fun e w' => e = .returned (.tuple #[.agg #[Jv (0), Jv 0], Jv 151]) ∧ Below W.heap.size W w' := by
  obtain ⟨wa, lw, cw, ba, lb, cb, hF⟩ := pl_found hL
  have h := bprt_ok 1 1 2 (-128) 127 1 (some ⟨g, 0, none⟩) 1 1 (plO 0) plZ plB W hL 1 _ _ pl_0 0 ⟨g, 0, none⟩ wa lw cw ba lb cb 1 1 2 1 1 1 hF (by omega) 0 10 3 2 pl_len
  rw [plD3] at h
  exact h
set_option maxHeartbeats 8000000 in
set_option maxRecDepth 100000 in
theorem fixed13_any (W : World) : Calls Try.prog 6 #[] W fun e w' => e = .returned (.bool true) ∧ Below W.heap.size W w' := by
  have s1 := (St.start W).new (c := #[Jv 0, Jv 10]) (t := 28)
  go_enter Try.func6, Try.ntmps6
  go_upto_region 2 with fail
  obtain ⟨w1, hw1⟩ : ∃ w1, W.alloc (.cells #[Jv 0, Jv 10] 28) = w1 := ⟨_, rfl⟩
  have S1 : Hid (St W w1 ((W.heap.size, #[Jv 0, Jv 10], 28) :: [])) := by unfold Hid; rw [← hw1]; exact s1
  rw [hw1]
  clear hw1 s1
  refine regionG (fun w' => w'.heap[W.heap.size]? = some (.cells #[Jv 0, Jv 10] 28 (0, 0))) (fun a0 a' w' => ∃ (g B2 : Nat), a' = (((((((a0.put (some 14) (.agg #[Jv 1, Jv 1, Jv 2, Jv (-128), Jv 127, .slice (some ⟨g, 0, none⟩) 1 1, Jv 1])).put (some 15) (.agg #[Jv 0, Jv 10])).put (some 16) (.tuple #[.agg #[Jv (-19), Jv 31], Jv 0])).put (some 13) (.tuple #[.agg #[Jv (-19), Jv 31], Jv 0])).put (some 17) (.agg #[Jv (-19), Jv 31])).put (some 18) (Jv 0)).put (some 2) (.pointer (some ⟨B2, 0, none⟩))).put (some 3) (Jv 0) ∧ St W w' ((W.heap.size, #[Jv 0, Jv 10], 28) :: (B2, #[Jv (-19), Jv 31], 28) :: [])) (by kernel_rfl) ?_ ?_
  rotate_left
  rotate_left
  · have s2 := S1.out.drew
    obtain ⟨w2, hw2⟩ : ∃ w2, w1.drew = w2 := ⟨_, rfl⟩
    rw [hw2] at s2 ⊢
    have hx := s2.size
    refine takeC 1 (v := .agg #[Jv 0, Jv 10]) rfl rfl (by kernel_rfl) (by kernel_rfl) (by kernel_rfl) (fun _ _ _ h => h) (fun _ => rfl) rfl (fun w' hw' => run_la 28 (.tmp 1) rfl ⟨W.heap.size, 0, none⟩ (by kernel_rfl) [Jv 0, Jv 10] _ (fun j v hj => by rw [Addr.add_lit, Nat.zero_add, (cells_at hw').1]; simpa using hj) Try.underlying28 rfl (by kernel_rfl)) ?_
    refine y2 0 6 s2.h1 (by kernel_rfl) ?_ ?_
    refine yC rfl rfl 18 #[] (by kernel_rfl) (one13_any _) ?_
    rintro e w3 ⟨g, rfl, hL, hb⟩
    refine ⟨_, rfl, ?_⟩
    have s3 := s2.call hb
    refine y2 2 6 s3.h1 (by kernel_rfl) ?_ ?_
    refine yC rfl rfl 8 #[.agg #[Jv 1, Jv 1, Jv 2, Jv (-128), Jv 127, .slice (some ⟨g, 0, none⟩) 1 1, Jv 1], Jv 1, Jv 1, .agg #[Jv 0, Jv 10]] (by kernel_rfl) (fx2 g _ hL) ?_
    rintro e w4 ⟨rfl, hb4⟩
    refine ⟨_, rfl, ?_⟩
    have s4 := s3.call hb4
    refine takeC 3 (v := .tuple #[.agg #[Jv (-19), Jv 31], Jv 0]) rfl rfl (by kernel_rfl) (by kernel_rfl) (by kernel_rfl) (fun _ _ _ h => h) (fun _ => rfl) rfl (fun w' hw' => by go_simp) ?_
    refine takeC 4 (v := .agg #[Jv (-19), Jv 31]) rfl rfl (by kernel_rfl) (by kernel_rfl) (by kernel_rfl) (fun _ _ _ h => h) (fun _ => rfl) rfl (fun w' hw' => by go_simp) ?_
    refine takeC 5 (v := Jv 0) rfl rfl (by kernel_rfl) (by kernel_rfl) (by kernel_rfl) (fun _ _ _ h => h) (fun _ => rfl) rfl (fun w' hw' => by go_simp) ?_
    refine yR 6 s4.h1 (by kernel_rfl) rfl rfl (.pointer (some ⟨w4.heap.size, 0, none⟩)) (w4.alloc (.cells #[Jv 0, Jv 0] 28)) (by kernel_rfl) ?_
    have hB' := lt_of_heap s4.h1
    have s5 := s4.new (c := #[Jv 0, Jv 0]) (t := 28)
    obtain ⟨B2, hB⟩ : ∃ B, w4.heap.size = B := ⟨_, rfl⟩
    obtain ⟨w5, hw5⟩ : ∃ w5, w4.alloc (.cells #[Jv 0, Jv 0] 28) = w5 := ⟨_, rfl⟩
    rw [hw5, hB] at s5 ⊢
    have hne : ∀ x ∈ ((W.heap.size, #[Jv 0, Jv 10], 28) :: [] : List (Nat × Array Value × TypeId)), x.1 < B2 := fun x hx => by rw [← hB]; exact lt_of_heap (s4.2 x hx).1
    rotate_left
    refine yO rfl rfl (.pointer (some ⟨w3.heap.size, 0, none⟩)) (w3.alloc (.cells #[Jv 0, Jv 0] 28)) (by kernel_rfl) ?_
    have s4 := s3.new (c := #[Jv 0, Jv 0]) (t := 28)
    refine yK 2 s4.h2 (by kernel_rfl) rfl rfl 8 #[.agg #[Jv 1, Jv 1, Jv 2, Jv (-128), Jv 127, .slice (some ⟨g, 0, none⟩) 1 1, Jv 1], Jv 1, Jv 1, .agg #[Jv 0, Jv 10]] (by kernel_rfl) (fx2 g _ (hL.below (bal _ _))) ?_
    rintro e w5 ⟨rfl, hb4⟩
    refine ⟨_, rfl, ?_⟩
    have s5 := s4.call hb4
    refine takeC 3 (v := .tuple #[.agg #[Jv (-19), Jv 31], Jv 0]) rfl rfl (by kernel_rfl) (by kernel_rfl) (by kernel_rfl) (fun _ _ _ h => h) (fun _ => rfl) rfl (fun w' hw' => by go_simp) ?_
    refine takeC 4 (v := .agg #[Jv (-19), Jv 31]) rfl rfl (by kernel_rfl) (by kernel_rfl) (by kernel_rfl) (fun _ _ _ h => h) (fun _ => rfl) rfl (fun w' hw' => by go_simp) ?_
    refine takeC 5 (v := Jv 0) rfl rfl (by kernel_rfl) (by kernel_rfl) (by kernel_rfl) (fun _ _ _ h => h) (fun _ => rfl) rfl (fun w' hw' => by go_simp) ?_
    obtain ⟨B2, hB⟩ : ∃ B, w3.heap.size = B := ⟨_, rfl⟩
    rw [hB] at s5 ⊢
    have hne : ∀ x ∈ ((W.heap.size, #[Jv 0, Jv 10], 28) :: [] : List (Nat × Array Value × TypeId)), x.1 < B2 := fun x hx => by rw [← hB]; exact lt_of_heap (s3.2 x hx).1
    rotate_left
    refine yO rfl rfl (.pointer (some ⟨w2.heap.size, 0, none⟩)) (w2.alloc (.cells #[Jv 0, Jv 0] 28)) (by kernel_rfl) ?_
    have s3 := s2.new (c := #[Jv 0, Jv 0]) (t := 28)
    refine yK 0 s3.h2 (by kernel_rfl) rfl rfl 18 #[] (by kernel_rfl) (one13_any _) ?_
    rintro e w3 ⟨g, rfl, hL, hb⟩
    refine ⟨_, rfl, ?_⟩
    have s4 := s3.call hb
    refine yK 2 s4.h2 (by kernel_rfl) rfl rfl 8 #[.agg #[Jv 1, Jv 1, Jv 2, Jv (-128), Jv 127, .slice (some ⟨g, 0, none⟩) 1 1, Jv 1], Jv 1, Jv 1, .agg #[Jv 0, Jv 10]] (by kernel_rfl) (fx2 g _ hL) ?_
    rintro e w5 ⟨rfl, hb4⟩
    refine ⟨_, rfl, ?_⟩
    have s5 := s4.call hb4
    refine takeC 3 (v := .tuple #[.agg #[Jv (-19), Jv 31], Jv 0]) rfl rfl (by kernel_rfl) (by kernel_rfl) (by kernel_rfl) (fun _ _ _ h => h) (fun _ => rfl) rfl (fun w' hw' => by go_simp) ?_
    refine takeC 4 (v := .agg #[Jv (-19), Jv 31]) rfl rfl (by kernel_rfl) (by kernel_rfl) (by kernel_rfl) (fun _ _ _ h => h) (fun _ => rfl) rfl (fun w' hw' => by go_simp) ?_
    refine takeC 5 (v := Jv 0) rfl rfl (by kernel_rfl) (by kernel_rfl) (by kernel_rfl) (fun _ _ _ h => h) (fun _ => rfl) rfl (fun w' hw' => by go_simp) ?_
    obtain ⟨B2, hB⟩ : ∃ B, w2.heap.size = B := ⟨_, rfl⟩
    rw [hB] at s5 ⊢
    have hne : ∀ x ∈ ((W.heap.size, #[Jv 0, Jv 10], 28) :: [] : List (Nat × Array Value × TypeId)), x.1 < B2 := fun x hx => by rw [← hB]; exact lt_of_heap (s2.2 x hx).1
    all_goals
      refine yS 7 s5.h2 (by kernel_rfl) rfl rfl 28 (.tmp 2) (.tmp 17) rfl B2 #[Jv (-19), Jv 31] (by kernel_rfl) (by kernel_rfl) 28 #[Jv 0, Jv 0] s5.h1 (by kernel_rfl) rfl (by simp [Value.oneCell']) ?_
      have s6 := (s5.rowset (c' := #[Jv (-19), Jv 31]) (fun x hx => Nat.ne_of_lt (hne x hx))).up1
      obtain ⟨w6, hw6⟩ : ∃ w6, w5.setRow B2 #[Jv (-19), Jv 31] = w6 := ⟨_, rfl⟩
      rw [hw6] at s6 ⊢
      refine yR 8 s6.h1 (by kernel_rfl) rfl rfl (Jv 0) w6 (by kernel_rfl) ?_
      exact doneM s6.h1 (by kernel_rfl) ⟨g, B2, by kernel_rfl, s6⟩ _
  rintro a' w2 ⟨g2, B2, rfl, s2⟩
  clear S1
  obtain ⟨w1, hw1⟩ : ∃ w1, w1 = w2 := ⟨_, rfl⟩
  rw [← hw1] at s2 ⊢
  have S1 : Hid (St W w1 ((W.heap.size, #[Jv 0, Jv 10], 28) :: (B2, #[Jv (-19), Jv 31], 28) :: [])) := s2
  clear s2 hw1 w2
  go_upto_region 3 with fail
  refine regionG (fun w' => w'.heap[W.heap.size]? = some (.cells #[Jv 0, Jv 10] 28 (0, 0))) (fun a0 a' w' => ∃ (g B3 : Nat), a' = (((((((a0.put (some 20) (.agg #[Jv 1, Jv 1, Jv 2, Jv (-128), Jv 127, .slice (some ⟨g, 0, none⟩) 1 1, Jv 1])).put (some 21) (.agg #[Jv 0, Jv 10])).put (some 22) (.tuple #[.agg #[Jv (-19), Jv 31], Jv 0])).put (some 19) (.tuple #[.agg #[Jv (-19), Jv 31], Jv 0])).put (some 23) (.agg #[Jv (-19), Jv 31])).put (some 24) (Jv 0)).put (some 4) (.pointer (some ⟨B3, 0, none⟩))).put (some 5) (Jv 0) ∧ St W w' ((W.heap.size, #[Jv 0, Jv 10], 28) :: (B3, #[Jv (-19), Jv 31], 28) :: (B2, #[Jv (-19), Jv 31], 28) :: [])) (by kernel_rfl) ?_ ?_
  rotate_left
  rotate_left
  · have s2 := S1.out.drew
    obtain ⟨w2, hw2⟩ : ∃ w2, w1.drew = w2 := ⟨_, rfl⟩
    rw [hw2] at s2 ⊢
    have hx := s2.size
    refine takeC 1 (v := .agg #[Jv 0, Jv 10]) rfl rfl (by kernel_rfl) (by kernel_rfl) (by kernel_rfl) (fun _ _ _ h => h) (fun _ => rfl) rfl (fun w' hw' => run_la 28 (.tmp 1) rfl ⟨W.heap.size, 0, none⟩ (by kernel_rfl) [Jv 0, Jv 10] _ (fun j v hj => by rw [Addr.add_lit, Nat.zero_add, (cells_at hw').1]; simpa using hj) Try.underlying28 rfl (by kernel_rfl)) ?_
    refine y2 0 6 s2.h1 (by kernel_rfl) ?_ ?_
    refine yC rfl rfl 18 #[] (by kernel_rfl) (one13_any _) ?_
    rintro e w3 ⟨g, rfl, hL, hb⟩
    refine ⟨_, rfl, ?_⟩
    have s3 := s2.call hb
    refine y2 2 6 s3.h1 (by kernel_rfl) ?_ ?_
    refine yC rfl rfl 9 #[.agg #[Jv 1, Jv 1, Jv 2, Jv (-128), Jv 127, .slice (some ⟨g, 0, none⟩) 1 1, Jv 1], Jv 1, Jv 1, .agg #[Jv 0, Jv 10]] (by kernel_rfl) (fx3 g _ hL) ?_
    rintro e w4 ⟨rfl, hb4⟩
    refine ⟨_, rfl, ?_⟩
    have s4 := s3.call hb4
    refine takeC 3 (v := .tuple #[.agg #[Jv (-19), Jv 31], Jv 0]) rfl rfl (by kernel_rfl) (by kernel_rfl) (by kernel_rfl) (fun _ _ _ h => h) (fun _ => rfl) rfl (fun w' hw' => by go_simp) ?_
    refine takeC 4 (v := .agg #[Jv (-19), Jv 31]) rfl rfl (by kernel_rfl) (by kernel_rfl) (by kernel_rfl) (fun _ _ _ h => h) (fun _ => rfl) rfl (fun w' hw' => by go_simp) ?_
    refine takeC 5 (v := Jv 0) rfl rfl (by kernel_rfl) (by kernel_rfl) (by kernel_rfl) (fun _ _ _ h => h) (fun _ => rfl) rfl (fun w' hw' => by go_simp) ?_
    refine yR 6 s4.h1 (by kernel_rfl) rfl rfl (.pointer (some ⟨w4.heap.size, 0, none⟩)) (w4.alloc (.cells #[Jv 0, Jv 0] 28)) (by kernel_rfl) ?_
    have hB' := lt_of_heap s4.h1
    have s5 := s4.new (c := #[Jv 0, Jv 0]) (t := 28)
    obtain ⟨B3, hB⟩ : ∃ B, w4.heap.size = B := ⟨_, rfl⟩
    obtain ⟨w5, hw5⟩ : ∃ w5, w4.alloc (.cells #[Jv 0, Jv 0] 28) = w5 := ⟨_, rfl⟩
    rw [hw5, hB] at s5 ⊢
    have hne : ∀ x ∈ ((W.heap.size, #[Jv 0, Jv 10], 28) :: (B2, #[Jv (-19), Jv 31], 28) :: [] : List (Nat × Array Value × TypeId)), x.1 < B3 := fun x hx => by rw [← hB]; exact lt_of_heap (s4.2 x hx).1
    rotate_left
    refine yO rfl rfl (.pointer (some ⟨w3.heap.size, 0, none⟩)) (w3.alloc (.cells #[Jv 0, Jv 0] 28)) (by kernel_rfl) ?_
    have s4 := s3.new (c := #[Jv 0, Jv 0]) (t := 28)
    refine yK 2 s4.h2 (by kernel_rfl) rfl rfl 9 #[.agg #[Jv 1, Jv 1, Jv 2, Jv (-128), Jv 127, .slice (some ⟨g, 0, none⟩) 1 1, Jv 1], Jv 1, Jv 1, .agg #[Jv 0, Jv 10]] (by kernel_rfl) (fx3 g _ (hL.below (bal _ _))) ?_
    rintro e w5 ⟨rfl, hb4⟩
    refine ⟨_, rfl, ?_⟩
    have s5 := s4.call hb4
    refine takeC 3 (v := .tuple #[.agg #[Jv (-19), Jv 31], Jv 0]) rfl rfl (by kernel_rfl) (by kernel_rfl) (by kernel_rfl) (fun _ _ _ h => h) (fun _ => rfl) rfl (fun w' hw' => by go_simp) ?_
    refine takeC 4 (v := .agg #[Jv (-19), Jv 31]) rfl rfl (by kernel_rfl) (by kernel_rfl) (by kernel_rfl) (fun _ _ _ h => h) (fun _ => rfl) rfl (fun w' hw' => by go_simp) ?_
    refine takeC 5 (v := Jv 0) rfl rfl (by kernel_rfl) (by kernel_rfl) (by kernel_rfl) (fun _ _ _ h => h) (fun _ => rfl) rfl (fun w' hw' => by go_simp) ?_
    obtain ⟨B3, hB⟩ : ∃ B, w3.heap.size = B := ⟨_, rfl⟩
    rw [hB] at s5 ⊢
    have hne : ∀ x ∈ ((W.heap.size, #[Jv 0, Jv 10], 28) :: (B2, #[Jv (-19), Jv 31], 28) :: [] : List (Nat × Array Value × TypeId)), x.1 < B3 := fun x hx => by rw [← hB]; exact lt_of_heap (s3.2 x hx).1
    rotate_left
    refine yO rfl rfl (.pointer (some ⟨w2.heap.size, 0, none⟩)) (w2.alloc (.cells #[Jv 0, Jv 0] 28)) (by kernel_rfl) ?_
    have s3 := s2.new (c := #[Jv 0, Jv 0]) (t := 28)
    refine yK 0 s3.h2 (by kernel_rfl) rfl rfl 18 #[] (by kernel_rfl) (one13_any _) ?_
    rintro e w3 ⟨g, rfl, hL, hb⟩
    refine ⟨_, rfl, ?_⟩
    have s4 := s3.call hb
    refine yK 2 s4.h2 (by kernel_rfl) rfl rfl 9 #[.agg #[Jv 1, Jv 1, Jv 2, Jv (-128), Jv 127, .slice (some ⟨g, 0, none⟩) 1 1, Jv 1], Jv 1, Jv 1, .agg #[Jv 0, Jv 10]] (by kernel_rfl) (fx3 g _ hL) ?_
    rintro e w5 ⟨rfl, hb4⟩
    refine ⟨_, rfl, ?_⟩
    have s5 := s4.call hb4
    refine takeC 3 (v := .tuple #[.agg #[Jv (-19), Jv 31], Jv 0]) rfl rfl (by kernel_rfl) (by kernel_rfl) (by kernel_rfl) (fun _ _ _ h => h) (fun _ => rfl) rfl (fun w' hw' => by go_simp) ?_
    refine takeC 4 (v := .agg #[Jv (-19), Jv 31]) rfl rfl (by kernel_rfl) (by kernel_rfl) (by kernel_rfl) (fun _ _ _ h => h) (fun _ => rfl) rfl (fun w' hw' => by go_simp) ?_
    refine takeC 5 (v := Jv 0) rfl rfl (by kernel_rfl) (by kernel_rfl) (by kernel_rfl) (fun _ _ _ h => h) (fun _ => rfl) rfl (fun w' hw' => by go_simp) ?_
    obtain ⟨B3, hB⟩ : ∃ B, w2.heap.size = B := ⟨_, rfl⟩
    rw [hB] at s5 ⊢
    have hne : ∀ x ∈ ((W.heap.size, #[Jv 0, Jv 10], 28) :: (B2, #[Jv (-19), Jv 31], 28) :: [] : List (Nat × Array Value × TypeId)), x.1 < B3 := fun x hx => by rw [← hB]; exact lt_of_heap (s2.2 x hx).1
    all_goals
      refine yS 7 s5.h2 (by kernel_rfl) rfl rfl 28 (.tmp 4) (.tmp 23) rfl B3 #[Jv (-19), Jv 31] (by kernel_rfl) (by kernel_rfl) 28 #[Jv 0, Jv 0] s5.h1 (by kernel_rfl) rfl (by simp [Value.oneCell']) ?_
      have s6 := (s5.rowset (c' := #[Jv (-19), Jv 31]) (fun x hx => Nat.ne_of_lt (hne x hx))).up1
      obtain ⟨w6, hw6⟩ : ∃ w6, w5.setRow B3 #[Jv (-19), Jv 31] = w6 := ⟨_, rfl⟩
      rw [hw6] at s6 ⊢
      refine yR 8 s6.h1 (by kernel_rfl) rfl rfl (Jv 0) w6 (by kernel_rfl) ?_
      exact doneM s6.h1 (by kernel_rfl) ⟨g, B3, by kernel_rfl, s6⟩ _
  rintro a' w2 ⟨g3, B3, rfl, s2⟩
  clear S1
  obtain ⟨w1, hw1⟩ : ∃ w1, w1 = w2 := ⟨_, rfl⟩
  rw [← hw1] at s2 ⊢
  have S1 : Hid (St W w1 ((W.heap.size, #[Jv 0, Jv 10], 28) :: (B3, #[Jv (-19), Jv 31], 28) :: (B2, #[Jv (-19), Jv 31], 28) :: [])) := s2
  clear s2 hw1 w2
  go_upto_region 4 with fail
  refine regionG (fun w' => w'.heap[W.heap.size]? = some (.cells #[Jv 0, Jv 10] 28 (0, 0))) (fun a0 a' w' => ∃ (g B4 : Nat), a' = (((((((a0.put (some 26) (.agg #[Jv 1, Jv 1, Jv 2, Jv (-128), Jv 127, .slice (some ⟨g, 0, none⟩) 1 1, Jv 1])).put (some 27) (.agg #[Jv 0, Jv 10])).put (some 28) (.tuple #[.agg #[Jv (-20), Jv 30], Jv 0])).put (some 25) (.tuple #[.agg #[Jv (-20), Jv 30], Jv 0])).put (some 29) (.agg #[Jv (-20), Jv 30])).put (some 30) (Jv 0)).put (some 6) (.pointer (some ⟨B4, 0, none⟩))).put (some 7) (Jv 0) ∧ St W w' ((W.heap.size, #[Jv 0, Jv 10], 28) :: (B4, #[Jv (-20), Jv 30], 28) :: (B3, #[Jv (-19), Jv 31], 28) :: (B2, #[Jv (-19), Jv 31], 28) :: [])) (by kernel_rfl) ?_ ?_
  rotate_left
  rotate_left
  · have s2 := S1.out.drew
    obtain ⟨w2, hw2⟩ : ∃ w2, w1.drew = w2 := ⟨_, rfl⟩
    rw [hw2] at s2 ⊢
    have hx := s2.size
    refine takeC 1 (v := .agg #[Jv 0, Jv 10]) rfl rfl (by kernel_rfl) (by kernel_rfl) (by kernel_rfl) (fun _ _ _ h => h) (fun _ => rfl) rfl (fun w' hw' => run_la 28 (.tmp 1) rfl ⟨W.heap.size, 0, none⟩ (by kernel_rfl) [Jv 0, Jv 10] _ (fun j v hj => by rw [Addr.add_lit, Nat.zero_add, (cells_at hw').1]; simpa using hj) Try.underlying28 rfl (by kernel_rfl)) ?_
    refine y2 0 6 s2.h1 (by kernel_rfl) ?_ ?_
    refine yC rfl rfl 18 #[] (by kernel_rfl) (one13_any _) ?_
    rintro e w3 ⟨g, rfl, hL, hb⟩
    refine ⟨_, rfl, ?_⟩
    have s3 := s2.call hb
    refine y2 2 6 s3.h1 (by kernel_rfl) ?_ ?_
    refine yC rfl rfl 10 #[.agg #[Jv 1, Jv 1, Jv 2, Jv (-128), Jv 127, .slice (some ⟨g, 0, none⟩) 1 1, Jv 1], Jv 1, Jv 1, .agg #[Jv 0, Jv 10], Jv 2] (by kernel_rfl) (fx4 g _ hL) ?_
    rintro e w4 ⟨rfl, hb4⟩
    refine ⟨_, rfl, ?_⟩
    have s4 := s3.call hb4
    refine takeC 3 (v := .tuple #[.agg #[Jv (-20), Jv 30], Jv 0]) rfl rfl (by kernel_rfl) (by kernel_rfl) (by kernel_rfl) (fun _ _ _ h => h) (fun _ => rfl) rfl (fun w' hw' => by go_simp) ?_
    refine takeC 4 (v := .agg #[Jv (-20), Jv 30]) rfl rfl (by kernel_rfl) (by kernel_rfl) (by kernel_rfl) (fun _ _ _ h => h) (fun _ => rfl) rfl (fun w' hw' => by go_simp) ?_
    refine takeC 5 (v := Jv 0) rfl rfl (by kernel_rfl) (by kernel_rfl) (by kernel_rfl) (fun _ _ _ h => h) (fun _ => rfl) rfl (fun w' hw' => by go_simp) ?_
    refine yR 6 s4.h1 (by kernel_rfl) rfl rfl (.pointer (some ⟨w4.heap.size, 0, none⟩)) (w4.alloc (.cells #[Jv 0, Jv 0] 28)) (by kernel_rfl) ?_
    have hB' := lt_of_heap s4.h1
    have s5 := s4.new (c := #[Jv 0, Jv 0]) (t := 28)
    obtain ⟨B4, hB⟩ : ∃ B, w4.heap.size = B := ⟨_, rfl⟩
    obtain ⟨w5, hw5⟩ : ∃ w5, w4.alloc (.cells #[Jv 0, Jv 0] 28) = w5 := ⟨_, rfl⟩
    rw [hw5, hB] at s5 ⊢
    have hne : ∀ x ∈ ((W.heap.size, #[Jv 0, Jv 10], 28) :: (B3, #[Jv (-19), Jv 31], 28) :: (B2, #[Jv (-19), Jv 31], 28) :: [] : List (Nat × Array Value × TypeId)), x.1 < B4 := fun x hx => by rw [← hB]; exact lt_of_heap (s4.2 x hx).1
    rotate_left
    refine yO rfl rfl (.pointer (some ⟨w3.heap.size, 0, none⟩)) (w3.alloc (.cells #[Jv 0, Jv 0] 28)) (by kernel_rfl) ?_
    have s4 := s3.new (c := #[Jv 0, Jv 0]) (t := 28)
    refine yK 2 s4.h2 (by kernel_rfl) rfl rfl 10 #[.agg #[Jv 1, Jv 1, Jv 2, Jv (-128), Jv 127, .slice (some ⟨g, 0, none⟩) 1 1, Jv 1], Jv 1, Jv 1, .agg #[Jv 0, Jv 10], Jv 2] (by kernel_rfl) (fx4 g _ (hL.below (bal _ _))) ?_
    rintro e w5 ⟨rfl, hb4⟩
    refine ⟨_, rfl, ?_⟩
    have s5 := s4.call hb4
    refine takeC 3 (v := .tuple #[.agg #[Jv (-20), Jv 30], Jv 0]) rfl rfl (by kernel_rfl) (by kernel_rfl) (by kernel_rfl) (fun _ _ _ h => h) (fun _ => rfl) rfl (fun w' hw' => by go_simp) ?_
    refine takeC 4 (v := .agg #[Jv (-20), Jv 30]) rfl rfl (by kernel_rfl) (by kernel_rfl) (by kernel_rfl) (fun _ _ _ h => h) (fun _ => rfl) rfl (fun w' hw' => by go_simp) ?_
    refine takeC 5 (v := Jv 0) rfl rfl (by kernel_rfl) (by kernel_rfl) (by kernel_rfl) (fun _ _ _ h => h) (fun _ => rfl) rfl (fun w' hw' => by go_simp) ?_
    obtain ⟨B4, hB⟩ : ∃ B, w3.heap.size = B := ⟨_, rfl⟩
    rw [hB] at s5 ⊢
    have hne : ∀ x ∈ ((W.heap.size, #[Jv 0, Jv 10], 28) :: (B3, #[Jv (-19), Jv 31], 28) :: (B2, #[Jv (-19), Jv 31], 28) :: [] : List (Nat × Array Value × TypeId)), x.1 < B4 := fun x hx => by rw [← hB]; exact lt_of_heap (s3.2 x hx).1
    rotate_left
    refine yO rfl rfl (.pointer (some ⟨w2.heap.size, 0, none⟩)) (w2.alloc (.cells #[Jv 0, Jv 0] 28)) (by kernel_rfl) ?_
    have s3 := s2.new (c := #[Jv 0, Jv 0]) (t := 28)
    refine yK 0 s3.h2 (by kernel_rfl) rfl rfl 18 #[] (by kernel_rfl) (one13_any _) ?_
    rintro e w3 ⟨g, rfl, hL, hb⟩
    refine ⟨_, rfl, ?_⟩
    have s4 := s3.call hb
    refine yK 2 s4.h2 (by kernel_rfl) rfl rfl 10 #[.agg #[Jv 1, Jv 1, Jv 2, Jv (-128), Jv 127, .slice (some ⟨g, 0, none⟩) 1 1, Jv 1], Jv 1, Jv 1, .agg #[Jv 0, Jv 10], Jv 2] (by kernel_rfl) (fx4 g _ hL) ?_
    rintro e w5 ⟨rfl, hb4⟩
    refine ⟨_, rfl, ?_⟩
    have s5 := s4.call hb4
    refine takeC 3 (v := .tuple #[.agg #[Jv (-20), Jv 30], Jv 0]) rfl rfl (by kernel_rfl) (by kernel_rfl) (by kernel_rfl) (fun _ _ _ h => h) (fun _ => rfl) rfl (fun w' hw' => by go_simp) ?_
    refine takeC 4 (v := .agg #[Jv (-20), Jv 30]) rfl rfl (by kernel_rfl) (by kernel_rfl) (by kernel_rfl) (fun _ _ _ h => h) (fun _ => rfl) rfl (fun w' hw' => by go_simp) ?_
    refine takeC 5 (v := Jv 0) rfl rfl (by kernel_rfl) (by kernel_rfl) (by kernel_rfl) (fun _ _ _ h => h) (fun _ => rfl) rfl (fun w' hw' => by go_simp) ?_
    obtain ⟨B4, hB⟩ : ∃ B, w2.heap.size = B := ⟨_, rfl⟩
    rw [hB] at s5 ⊢
    have hne : ∀ x ∈ ((W.heap.size, #[Jv 0, Jv 10], 28) :: (B3, #[Jv (-19), Jv 31], 28) :: (B2, #[Jv (-19), Jv 31], 28) :: [] : List (Nat × Array Value × TypeId)), x.1 < B4 := fun x hx => by rw [← hB]; exact lt_of_heap (s2.2 x hx).1
    all_goals
      refine yS 7 s5.h2 (by kernel_rfl) rfl rfl 28 (.tmp 6) (.tmp 29) rfl B4 #[Jv (-20), Jv 30] (by kernel_rfl) (by kernel_rfl) 28 #[Jv 0, Jv 0] s5.h1 (by kernel_rfl) rfl (by simp [Value.oneCell']) ?_
      have s6 := (s5.rowset (c' := #[Jv (-20), Jv 30]) (fun x hx => Nat.ne_of_lt (hne x hx))).up1
      obtain ⟨w6, hw6⟩ : ∃ w6, w5.setRow B4 #[Jv (-20), Jv 30] = w6 := ⟨_, rfl⟩
      rw [hw6] at s6 ⊢
      refine yR 8 s6.h1 (by kernel_rfl) rfl rfl (Jv 0) w6 (by kernel_rfl) ?_
      exact doneM s6.h1 (by kernel_rfl) ⟨g, B4, by kernel_rfl, s6⟩ _
  rintro a' w2 ⟨g4, B4, rfl, s2⟩
  clear S1
  obtain ⟨w1, hw1⟩ : ∃ w1, w1 = w2 := ⟨_, rfl⟩
  rw [← hw1] at s2 ⊢
  have S1 : Hid (St W w1 ((W.heap.size, #[Jv 0, Jv 10], 28) :: (B4, #[Jv (-20), Jv 30], 28) :: (B3, #[Jv (-19), Jv 31], 28) :: (B2, #[Jv (-19), Jv 31], 28) :: [])) := s2
  clear s2 hw1 w2
  go_upto_region 5 with fail
  refine regionG (fun w' => w'.heap[W.heap.size]? = some (.cells #[Jv 0, Jv 10] 28 (0, 0))) (fun a0 a' w' => ∃ (g B5 : Nat), a' = (((((((a0.put (some 32) (.agg #[Jv 1, Jv 1, Jv 2, Jv (-128), Jv 127, .slice (some ⟨g, 0, none⟩) 1 1, Jv 1])).put (some 33) (.agg #[Jv 0, Jv 10])).put (some 34) (.tuple #[.agg #[Jv (-20), Jv 30], Jv 0])).put (some 31) (.tuple #[.agg #[Jv (-20), Jv 30], Jv 0])).put (some 35) (.agg #[Jv (-20), Jv 30])).put (some 36) (Jv 0)).put (some 8) (.pointer (some ⟨B5, 0, none⟩))).put (some 9) (Jv 0) ∧ St W w' ((W.heap.size, #[Jv 0, Jv 10], 28) :: (B5, #[Jv (-20), Jv 30], 28) :: (B4, #[Jv (-20), Jv 30], 28) :: (B3, #[Jv (-19), Jv 31], 28) :: (B2, #[Jv (-19), Jv 31], 28) :: [])) (by kernel_rfl) ?_ ?_
  rotate_left
  rotate_left
  · have s2 := S1.out.drew
    obtain ⟨w2, hw2⟩ : ∃ w2, w1.drew = w2 := ⟨_, rfl⟩
    rw [hw2] at s2 ⊢
    have hx := s2.size
    refine takeC 1 (v := .agg #[Jv 0, Jv 10]) rfl rfl (by kernel_rfl) (by kernel_rfl) (by kernel_rfl) (fun _ _ _ h => h) (fun _ => rfl) rfl (fun w' hw' => run_la 28 (.tmp 1) rfl ⟨W.heap.size, 0, none⟩ (by kernel_rfl) [Jv 0, Jv 10] _ (fun j v hj => by rw [Addr.add_lit, Nat.zero_add, (cells_at hw').1]; simpa using hj) Try.underlying28 rfl (by kernel_rfl)) ?_
    refine y2 0 6 s2.h1 (by kernel_rfl) ?_ ?_
    refine yC rfl rfl 18 #[] (by kernel_rfl) (one13_any _) ?_
    rintro e w3 ⟨g, rfl, hL, hb⟩
    refine ⟨_, rfl, ?_⟩
    have s3 := s2.call hb
    refine y2 2 6 s3.h1 (by kernel_rfl) ?_ ?_
    refine yC rfl rfl 11 #[.agg #[Jv 1, Jv 1, Jv 2, Jv (-128), Jv 127, .slice (some ⟨g, 0, none⟩) 1 1, Jv 1], Jv 1, Jv 1, .agg #[Jv 0, Jv 10]] (by kernel_rfl) (fx5 g _ hL) ?_
    rintro e w4 ⟨rfl, hb4⟩
    refine ⟨_, rfl, ?_⟩
    have s4 := s3.call hb4
    refine takeC 3 (v := .tuple #[.agg #[Jv (-20), Jv 30], Jv 0]) rfl rfl (by kernel_rfl) (by kernel_rfl) (by kernel_rfl) (fun _ _ _ h => h) (fun _ => rfl) rfl (fun w' hw' => by go_simp) ?_
    refine takeC 4 (v := .agg #[Jv (-20), Jv 30]) rfl rfl (by kernel_rfl) (by kernel_rfl) (by kernel_rfl) (fun _ _ _ h => h) (fun _ => rfl) rfl (fun w' hw' => by go_simp) ?_
    refine takeC 5 (v := Jv 0) rfl rfl (by kernel_rfl) (by kernel_rfl) (by kernel_rfl) (fun _ _ _ h => h) (fun _ => rfl) rfl (fun w' hw' => by go_simp) ?_
    refine yR 6 s4.h1 (by kernel_rfl) rfl rfl (.pointer (some ⟨w4.heap.size, 0, none⟩)) (w4.alloc (.cells #[Jv 0, Jv 0] 28)) (by kernel_rfl) ?_
    have hB' := lt_of_heap s4.h1
    have s5 := s4.new (c := #[Jv 0, Jv 0]) (t := 28)
    obtain ⟨B5, hB⟩ : ∃ B, w4.heap.size = B := ⟨_, rfl⟩
    obtain ⟨w5, hw5⟩ : ∃ w5, w4.alloc (.cells #[Jv 0, Jv 0] 28) = w5 := ⟨_, rfl⟩
    rw [hw5, hB] at s5 ⊢
    have hne : ∀ x ∈ ((W.heap.size, #[Jv 0, Jv 10], 28) :: (B4, #[Jv (-20), Jv 30], 28) :: (B3, #[Jv (-19), Jv 31], 28) :: (B2, #[Jv (-19), Jv 31], 28) :: [] : List (Nat × Array Value × TypeId)), x.1 < B5 := fun x hx => by rw [← hB]; exact lt_of_heap (s4.2 x hx).1
    rotate_left
    refine yO rfl rfl (.pointer (some ⟨w3.heap.size, 0, none⟩)) (w3.alloc (.cells #[Jv 0, Jv 0] 28)) (by kernel_rfl) ?_
    have s4 := s3.new (c := #[Jv 0, Jv 0]) (t := 28)
    refine yK 2 s4.h2 (by kernel_rfl) rfl rfl 11 #[.agg #[Jv 1, Jv 1, Jv 2, Jv (-128), Jv 127, .slice (some ⟨g, 0, none⟩) 1 1, Jv 1], Jv 1, Jv 1, .agg #[Jv 0, Jv 10]] (by kernel_rfl) (fx5 g _ (hL.below (bal _ _))) ?_
    rintro e w5 ⟨rfl, hb4⟩
    refine ⟨_, rfl, ?_⟩
    have s5 := s4.call hb4
    refine takeC 3 (v := .tuple #[.agg #[Jv (-20), Jv 30], Jv 0]) rfl rfl (by kernel_rfl) (by kernel_rfl) (by kernel_rfl) (fun _ _ _ h => h) (fun _ => rfl) rfl (fun w' hw' => by go_simp) ?_
    refine takeC 4 (v := .agg #[Jv (-20), Jv 30]) rfl rfl (by kernel_rfl) (by kernel_rfl) (by kernel_rfl) (fun _ _ _ h => h) (fun _ => rfl) rfl (fun w' hw' => by go_simp) ?_
    refine takeC 5 (v := Jv 0) rfl rfl (by kernel_rfl) (by kernel_rfl) (by kernel_rfl) (fun _ _ _ h => h) (fun _ => rfl) rfl (fun w' hw' => by go_simp) ?_
    obtain ⟨B5, hB⟩ : ∃ B, w3.heap.size = B := ⟨_, rfl⟩
    rw [hB] at s5 ⊢
    have hne : ∀ x ∈ ((W.heap.size, #[Jv 0, Jv 10], 28) :: (B4, #[Jv (-20), Jv 30], 28) :: (B3, #[Jv (-19), Jv 31], 28) :: (B2, #[Jv (-19), Jv 31], 28) :: [] : List (Nat × Array Value × TypeId)), x.1 < B5 := fun x hx => by rw [← hB]; exact lt_of_heap (s3.2 x hx).1
    rotate_left
    refine yO rfl rfl (.pointer (some ⟨w2.heap.size, 0, none⟩)) (w2.alloc (.cells #[Jv 0, Jv 0] 28)) (by kernel_rfl) ?_
    have s3 := s2.new (c := #[Jv 0, Jv 0]) (t := 28)
    refine yK 0 s3.h2 (by kernel_rfl) rfl rfl 18 #[] (by kernel_rfl) (one13_any _) ?_
    rintro e w3 ⟨g, rfl, hL, hb⟩
    refine ⟨_, rfl, ?_⟩
    have s4 := s3.call hb
    refine yK 2 s4.h2 (by kernel_rfl) rfl rfl 11 #[.agg #[Jv 1, Jv 1, Jv 2, Jv (-128), Jv 127, .slice (some ⟨g, 0, none⟩) 1 1, Jv 1], Jv 1, Jv 1, .agg #[Jv 0, Jv 10]] (by kernel_rfl) (fx5 g _ hL) ?_
    rintro e w5 ⟨rfl, hb4⟩
    refine ⟨_, rfl, ?_⟩
    have s5 := s4.call hb4
    refine takeC 3 (v := .tuple #[.agg #[Jv (-20), Jv 30], Jv 0]) rfl rfl (by kernel_rfl) (by kernel_rfl) (by kernel_rfl) (fun _ _ _ h => h) (fun _ => rfl) rfl (fun w' hw' => by go_simp) ?_
    refine takeC 4 (v := .agg #[Jv (-20), Jv 30]) rfl rfl (by kernel_rfl) (by kernel_rfl) (by kernel_rfl) (fun _ _ _ h => h) (fun _ => rfl) rfl (fun w' hw' => by go_simp) ?_
    refine takeC 5 (v := Jv 0) rfl rfl (by kernel_rfl) (by kernel_rfl) (by kernel_rfl) (fun _ _ _ h => h) (fun _ => rfl) rfl (fun w' hw' => by go_simp) ?_
    obtain ⟨B5, hB⟩ : ∃ B, w2.heap.size = B := ⟨_, rfl⟩
    rw [hB] at s5 ⊢
    have hne : ∀ x ∈ ((W.heap.size, #[Jv 0, Jv 10], 28) :: (B4, #[Jv (-20), Jv 30], 28) :: (B3, #[Jv (-19), Jv 31], 28) :: (B2, #[Jv (-19), Jv 31], 28) :: [] : List (Nat × Array Value × TypeId)), x.1 < B5 := fun x hx => by rw [← hB]; exact lt_of_heap (s2.2 x hx).1
    all_goals
      refine yS 7 s5.h2 (by kernel_rfl) rfl rfl 28 (.tmp 8) (.tmp 35) rfl B5 #[Jv (-20), Jv 30] (by kernel_rfl) (by kernel_rfl) 28 #[Jv 0, Jv 0] s5.h1 (by kernel_rfl) rfl (by simp [Value.oneCell']) ?_
      have s6 := (s5.rowset (c' := #[Jv (-20), Jv 30]) (fun x hx => Nat.ne_of_lt (hne x hx))).up1
      obtain ⟨w6, hw6⟩ : ∃ w6, w5.setRow B5 #[Jv (-20), Jv 30] = w6 := ⟨_, rfl⟩
      rw [hw6] at s6 ⊢
      refine yR 8 s6.h1 (by kernel_rfl) rfl rfl (Jv 0) w6 (by kernel_rfl) ?_
      exact doneM s6.h1 (by kernel_rfl) ⟨g, B5, by kernel_rfl, s6⟩ _
  rintro a' w2 ⟨g5, B5, rfl, s2⟩
  clear S1
  obtain ⟨w1, hw1⟩ : ∃ w1, w1 = w2 := ⟨_, rfl⟩
  rw [← hw1] at s2 ⊢
  have S1 : Hid (St W w1 ((W.heap.size, #[Jv 0, Jv 10], 28) :: (B5, #[Jv (-20), Jv 30], 28) :: (B4, #[Jv (-20), Jv 30], 28) :: (B3, #[Jv (-19), Jv 31], 28) :: (B2, #[Jv (-19), Jv 31], 28) :: [])) := s2
  clear s2 hw1 w2
  go_upto_region 6 with fail
  refine regionG (fun w' => w'.heap[W.heap.size]? = some (.cells #[Jv 0, Jv 10] 28 (0, 0))) (fun a0 a' w' => ∃ (g B6 : Nat), a' = (((((((a0.put (some 38) (.agg #[Jv 1, Jv 1, Jv 2, Jv (-128), Jv 127, .slice (some ⟨g, 0, none⟩) 1 1, Jv 1])).put (some 39) (.agg #[Jv 0, Jv 10])).put (some 40) (.tuple #[.agg #[Jv (0), Jv 0], Jv 151])).put (some 37) (.tuple #[.agg #[Jv (0), Jv 0], Jv 151])).put (some 41) (.agg #[Jv (0), Jv 0])).put (some 42) (Jv 151)).put (some 10) (.pointer (some ⟨B6, 0, none⟩))).put (some 11) (Jv 151) ∧ St W w' ((W.heap.size, #[Jv 0, Jv 10], 28) :: (B6, #[Jv (0), Jv 0], 28) :: (B5, #[Jv (-20), Jv 30], 28) :: (B4, #[Jv (-20), Jv 30], 28) :: (B3, #[Jv (-19), Jv 31], 28) :: (B2, #[Jv (-19), Jv 31], 28) :: [])) (by kernel_rfl) ?_ ?_
  rotate_left
  rotate_left
  · have s2 := S1.out.drew
    obtain ⟨w2, hw2⟩ : ∃ w2, w1.drew = w2 := ⟨_, rfl⟩
    rw [hw2] at s2 ⊢
    have hx := s2.size
    refine takeC 1 (v := .agg #[Jv 0, Jv 10]) rfl rfl (by kernel_rfl) (by kernel_rfl) (by kernel_rfl) (fun _ _ _ h => h) (fun _ => rfl) rfl (fun w' hw' => run_la 28 (.tmp 1) rfl ⟨W.heap.size, 0, none⟩ (by kernel_rfl) [Jv 0, Jv 10] _ (fun j v hj => by rw [Addr.add_lit, Nat.zero_add, (cells_at hw').1]; simpa using hj) Try.underlying28 rfl (by kernel_rfl)) ?_
    refine y2 0 6 s2.h1 (by kernel_rfl) ?_ ?_
    refine yC rfl rfl 18 #[] (by kernel_rfl) (one13_any _) ?_
    rintro e w3 ⟨g, rfl, hL, hb⟩
    refine ⟨_, rfl, ?_⟩
    have s3 := s2.call hb
    refine y2 2 6 s3.h1 (by kernel_rfl) ?_ ?_
    refine yC rfl rfl 10 #[.agg #[Jv 1, Jv 1, Jv 2, Jv (-128), Jv 127, .slice (some ⟨g, 0, none⟩) 1 1, Jv 1], Jv 1, Jv 1, .agg #[Jv 0, Jv 10], Jv 3] (by kernel_rfl) (fx6 g _ hL) ?_
    rintro e w4 ⟨rfl, hb4⟩
    refine ⟨_, rfl, ?_⟩
    have s4 := s3.call hb4
    refine takeC 3 (v := .tuple #[.agg #[Jv (0), Jv 0], Jv 151]) rfl rfl (by kernel_rfl) (by kernel_rfl) (by kernel_rfl) (fun _ _ _ h => h) (fun _ => rfl) rfl (fun w' hw' => by go_simp) ?_
    refine takeC 4 (v := .agg #[Jv (0), Jv 0]) rfl rfl (by kernel_rfl) (by kernel_rfl) (by kernel_rfl) (fun _ _ _ h => h) (fun _ => rfl) rfl (fun w' hw' => by go_simp) ?_
    refine takeC 5 (v := Jv 151) rfl rfl (by kernel_rfl) (by kernel_rfl) (by kernel_rfl) (fun _ _ _ h => h) (fun _ => rfl) rfl (fun w' hw' => by go_simp) ?_
    refine yR 6 s4.h1 (by kernel_rfl) rfl rfl (.pointer (some ⟨w4.heap.size, 0, none⟩)) (w4.alloc (.cells #[Jv 0, Jv 0] 28)) (by kernel_rfl) ?_
    have hB' := lt_of_heap s4.h1
    have s5 := s4.new (c := #[Jv 0, Jv 0]) (t := 28)
    obtain ⟨B6, hB⟩ : ∃ B, w4.heap.size = B := ⟨_, rfl⟩
    obtain ⟨w5, hw5⟩ : ∃ w5, w4.alloc (.cells #[Jv 0, Jv 0] 28) = w5 := ⟨_, rfl⟩
    rw [hw5, hB] at s5 ⊢
    have hne : ∀ x ∈ ((W.heap.size, #[Jv 0, Jv 10], 28) :: (B5, #[Jv (-20), Jv 30], 28) :: (B4, #[Jv (-20), Jv 30], 28) :: (B3, #[Jv (-19), Jv 31], 28) :: (B2, #[Jv (-19), Jv 31], 28) :: [] : List (Nat × Array Value × TypeId)), x.1 < B6 := fun x hx => by rw [← hB]; exact lt_of_heap (s4.2 x hx).1
    rotate_left
    refine yO rfl rfl (.pointer (some ⟨w3.heap.size, 0, none⟩)) (w3.alloc (.cells #[Jv 0, Jv 0] 28)) (by kernel_rfl) ?_
    have s4 := s3.new (c := #[Jv 0, Jv 0]) (t := 28)
    refine yK 2 s4.h2 (by kernel_rfl) rfl rfl 10 #[.agg #[Jv 1, Jv 1, Jv 2, Jv (-128), Jv 127, .slice (some ⟨g, 0, none⟩) 1 1, Jv 1], Jv 1, Jv 1, .agg #[Jv 0, Jv 10], Jv 3] (by kernel_rfl) (fx6 g _ (hL.below (bal _ _))) ?_
    rintro e w5 ⟨rfl, hb4⟩
    refine ⟨_, rfl, ?_⟩
    have s5 := s4.call hb4
    refine takeC 3 (v := .tuple #[.agg #[Jv (0), Jv 0], Jv 151]) rfl rfl (by kernel_rfl) (by kernel_rfl) (by kernel_rfl) (fun _ _ _ h => h) (fun _ => rfl) rfl (fun w' hw' => by go_simp) ?_
    refine takeC 4 (v := .agg #[Jv (0), Jv 0]) rfl rfl (by kernel_rfl) (by kernel_rfl) (by kernel_rfl) (fun _ _ _ h => h) (fun _ => rfl) rfl (fun w' hw' => by go_simp) ?_
    refine takeC 5 (v := Jv 151) rfl rfl (by kernel_rfl) (by kernel_rfl) (by kernel_rfl) (fun _ _ _ h => h) (fun _ => rfl) rfl (fun w' hw' => by go_simp) ?_
    obtain ⟨B6, hB⟩ : ∃ B, w3.heap.size = B := ⟨_, rfl⟩
    rw [hB] at s5 ⊢
    have hne : ∀ x ∈ ((W.heap.size, #[Jv 0, Jv 10], 28) :: (B5, #[Jv (-20), Jv 30], 28) :: (B4, #[Jv (-20), Jv 30], 28) :: (B3, #[Jv (-19), Jv 31], 28) :: (B2, #[Jv (-19), Jv 31], 28) :: [] : List (Nat × Array Value × TypeId)), x.1 < B6 := fun x hx => by rw [← hB]; exact lt_of_heap (s3.2 x hx).1
    rotate_left
    refine yO rfl rfl (.pointer (some ⟨w2.heap.size, 0, none⟩)) (w2.alloc (.cells #[Jv 0, Jv 0] 28)) (by kernel_rfl) ?_
    have s3 := s2.new (c := #[Jv 0, Jv 0]) (t := 28)
    refine yK 0 s3.h2 (by kernel_rfl) rfl rfl 18 #[] (by kernel_rfl) (one13_any _) ?_
    rintro e w3 ⟨g, rfl, hL, hb⟩
    refine ⟨_, rfl, ?_⟩
    have s4 := s3.call hb
    refine yK 2 s4.h2 (by kernel_rfl) rfl rfl 10 #[.agg #[Jv 1, Jv 1, Jv 2, Jv (-128), Jv 127, .slice (some ⟨g, 0, none⟩) 1 1, Jv 1], Jv 1, Jv 1, .agg #[Jv 0, Jv 10], Jv 3] (by kernel_rfl) (fx6 g _ hL) ?_
    rintro e w5 ⟨rfl, hb4⟩
    refine ⟨_, rfl, ?_⟩
    have s5 := s4.call hb4
    refine takeC 3 (v := .tuple #[.agg #[Jv (0), Jv 0], Jv 151]) rfl rfl (by kernel_rfl) (by kernel_rfl) (by kernel_rfl) (fun _ _ _ h => h) (fun _ => rfl) rfl (fun w' hw' => by go_simp) ?_
    refine takeC 4 (v := .agg #[Jv (0), Jv 0]) rfl rfl (by kernel_rfl) (by kernel_rfl) (by kernel_rfl) (fun _ _ _ h => h) (fun _ => rfl) rfl (fun w' hw' => by go_simp) ?_
    refine takeC 5 (v := Jv 151) rfl rfl (by kernel_rfl) (by kernel_rfl) (by kernel_rfl) (fun _ _ _ h => h) (fun _ => rfl) rfl (fun w' hw' => by go_simp) ?_
    obtain ⟨B6, hB⟩ : ∃ B, w2.heap.size = B := ⟨_, rfl⟩
    rw [hB] at s5 ⊢
    have hne : ∀ x ∈ ((W.heap.size, #[Jv 0, Jv 10], 28) :: (B5, #[Jv (-20), Jv 30], 28) :: (B4, #[Jv (-20), Jv 30], 28) :: (B3, #[Jv (-19), Jv 31], 28) :: (B2, #[Jv (-19), Jv 31], 28) :: [] : List (Nat × Array Value × TypeId)), x.1 < B6 := fun x hx => by rw [← hB]; exact lt_of_heap (s2.2 x hx).1
    all_goals
      refine yS 7 s5.h2 (by kernel_rfl) rfl rfl 28 (.tmp 10) (.tmp 41) rfl B6 #[Jv (0), Jv 0] (by kernel_rfl) (by kernel_rfl) 28 #[Jv 0, Jv 0] s5.h1 (by kernel_rfl) rfl (by simp [Value.oneCell']) ?_
      have s6 := (s5.rowset (c' := #[Jv (0), Jv 0]) (fun x hx => Nat.ne_of_lt (hne x hx))).up1
      obtain ⟨w6, hw6⟩ : ∃ w6, w5.setRow B6 #[Jv (0), Jv 0] = w6 := ⟨_, rfl⟩
      rw [hw6] at s6 ⊢
      refine yR 8 s6.h1 (by kernel_rfl) rfl rfl (Jv 151) w6 (by kernel_rfl) ?_
      exact doneM s6.h1 (by kernel_rfl) ⟨g, B6, by kernel_rfl, s6⟩ _
  rintro a' w2 ⟨g6, B6, rfl, s2⟩
  clear S1
  obtain ⟨w1, hw1⟩ : ∃ w1, w1 = w2 := ⟨_, rfl⟩
  rw [← hw1] at s2 ⊢
  have S1 : Hid (St W w1 ((W.heap.size, #[Jv 0, Jv 10], 28) :: (B6, #[Jv (0), Jv 0], 28) :: (B5, #[Jv (-20), Jv 30], 28) :: (B4, #[Jv (-20), Jv 30], 28) :: (B3, #[Jv (-19), Jv 31], 28) :: (B2, #[Jv (-19), Jv 31], 28) :: [])) := s2
  clear s2 hw1 w2
  obtain ⟨-, -, -, c6, f6, z6, c5, f5, z5, c4, f4, z4, c3, f3, z3, c2, f2, z2, -⟩ := S1.out.rules
  have q1 := beqS 28 rfl (-19) 31 (-19) 31 true (by decide)
  have q2 := beqS 28 rfl (-20) 30 (-20) 30 true (by decide)
  go_wp2
  go_ret
  exact ⟨rfl, S1.out.below⟩
end Go.Proofs.Ytcphealigifdiaa

/- Sums of weights, in plain numbers, and what they say at once. -/
namespace Go.Proofs.Ytcphealigifdiaa
open Go.ChangeShapes Go.WideShapes Go.ChangeAt Go.RowKit
set_option linter.unusedVariables false
def upW (a : Int) : Int := if 0 < a then a else 0
def dnW (a : Int) : Int := if 0 < a then 0 else a
theorem upW_bd {a : Int} (h : -32768 ≤ a ∧ a ≤ 32767) : 0 ≤ upW a ∧ upW a ≤ 32768 := by unfold upW; split <;> omega
theorem dnW_bd {a : Int} (h : -32768 ≤ a ∧ a ≤ 32767) : -32768 ≤ dnW a ∧ dnW a ≤ 0 := by unfold dnW; split <;> omega
/-- The weights above 0 added up; those below. -/
def upS : List (Int × Int) → Int
  | [] => 0
  | t :: l => upW t.1 + upS l
def dnS : List (Int × Int) → Int
  | [] => 0
  | t :: l => dnW t.1 + dnS l
theorem upS_app : ∀ l r : List (Int × Int), upS (l ++ r) = upS l + upS r
  | [], r => by simp [upS]
  | t :: l, r => by simp only [List.cons_append, upS, upS_app l r]; omega
theorem dnS_app : ∀ l r : List (Int × Int), dnS (l ++ r) = dnS l + dnS r
  | [], r => by simp [dnS]
  | t :: l, r => by simp only [List.cons_append, dnS, dnS_app l r]; omega
theorem upS_take {l : List (Int × Int)} {n : Nat} {u v : Int} (hn : n < l.length) (h : l.getD n (0, 0) = (u, v)) : upS (l.take (n + 1)) = upS (l.take n) + upW u := by
  rw [List.getD_eq_getElem?_getD, List.getElem?_eq_getElem hn, Option.getD_some] at h
  rw [List.take_add_one, List.getElem?_eq_getElem hn, upS_app, h]
  simp [upS]
theorem dnS_take {l : List (Int × Int)} {n : Nat} {u v : Int} (hn : n < l.length) (h : l.getD n (0, 0) = (u, v)) : dnS (l.take (n + 1)) = dnS (l.take n) + dnW u := by
  rw [List.getD_eq_getElem?_getD, List.getElem?_eq_getElem hn, Option.getD_some] at h
  rw [List.take_add_one, List.getElem?_eq_getElem hn, dnS_app, h]
  simp [dnS]
theorem sg_bd : ∀ l : List (Int × Int), (∀ t ∈ l, -32768 ≤ t.1 ∧ t.1 ≤ 32767) → (0 ≤ upS l ∧ upS l ≤ 32768 * (l.length : Int)) ∧ (-(32768 * (l.length : Int)) ≤ dnS l ∧ dnS l ≤ 0)
  | [], _ => by simp [upS, dnS]
  | t :: l, h => by
    have h1 := sg_bd l fun t ht => h t (List.mem_cons_of_mem _ ht)
    have h2 := upW_bd (h t List.mem_cons_self)
    have h3 := dnW_bd (h t List.mem_cons_self)
    simp only [upS, dnS, List.length_cons]
    omega
theorem sg_take {l : List (Int × Int)} (h : ∀ t ∈ l, -32768 ≤ t.1 ∧ t.1 ≤ 32767) (hl : l.length ≤ 512) (n : Nat) : (0 ≤ upS (l.take n) ∧ upS (l.take n) ≤ 16777216) ∧ (-16777216 ≤ dnS (l.take n) ∧ dnS (l.take n) ≤ 0) := by
  have h1 := sg_bd (l.take n) (take_mem h n)
  have h2 : (l.take n).length ≤ 512 := by rw [List.length_take]; omega
  omega
theorem sg_all {l : List (Int × Int)} (h : ∀ t ∈ l, -32768 ≤ t.1 ∧ t.1 ≤ 32767) (hl : l.length ≤ 512) : (0 ≤ upS l ∧ upS l ≤ 16777216) ∧ (-16777216 ≤ dnS l ∧ dnS l ≤ 0) := by
  have h1 := sg_bd l h
  omega
theorem sg_fst : ∀ l r : List (Int × Int), l.map (·.1) = r.map (·.1) → upS l = upS r ∧ dnS l = dnS r
  | [], [], _ => ⟨rfl, rfl⟩
  | [], _ :: _, h => by simp at h
  | _ :: _, [], h => by simp at h
  | t :: l, s :: r, h => by
    simp only [List.map_cons, List.cons.injEq] at h
    have ih := sg_fst l r h.2
    simp only [upS, dnS, h.1, ih.1, ih.2]
    exact ⟨trivial, trivial⟩
/-- A channel's weights are the same wherever its sum is. -/
theorem siL_fst (k kh kw sh sw tp lf bt rt h w c ch a1 a2 : Int) (zs : List Int) : (siL k kh kw sh sw tp lf bt rt h w c ch a1 zs).map (·.1) = (siL k kh kw sh sw tp lf bt rt h w c ch a2 zs).map (·.1) := by
  unfold siL tmL
  rw [List.map_map, List.map_map]
  rfl
/-! ### How far from 0 -/
def szV (x : Int) : Int := if x < 0 then -x else x
def rcS (lo hi : Int) : Int := mxI (szV lo) (szV hi)
def rcV (tp lf bt rt p lo hi : Int) : Int := if 0 < tp + lf + bt + rt then mxI (rcS lo hi) (szV p) else rcS lo hi
theorem szV_bd {x : Int} (h : -128 ≤ x ∧ x ≤ 127) : 0 ≤ szV x ∧ szV x ≤ 128 := by unfold szV; split <;> omega
theorem mxI_bd {a b X : Int} (h1 : 0 ≤ a ∧ a ≤ X) (h2 : 0 ≤ b ∧ b ≤ X) : 0 ≤ mxI a b ∧ mxI a b ≤ X := by unfold mxI; split <;> omega
theorem rcV_bd {tp lf bt rt p lo hi : Int} (h1 : -128 ≤ lo ∧ lo ≤ 127) (h2 : -128 ≤ hi ∧ hi ≤ 127) (h3 : I8 p) : 0 ≤ rcV tp lf bt rt p lo hi ∧ rcV tp lf bt rt p lo hi ≤ 128 := by
  have h4 := mxI_bd (szV_bd h1) (szV_bd h2)
  unfold rcV
  split
  · exact mxI_bd h4 (szV_bd h3)
  · exact h4
/-- Over a wider span it is no less. -/
theorem rcV_wide {tp lf bt rt p lo hi lo' hi' : Int} (h : lo ≤ hi) (h1 : lo' ≤ lo) (h2 : hi ≤ hi') : rcV tp lf bt rt p lo hi ≤ rcV tp lf bt rt p lo' hi' := by
  have e : rcS lo hi ≤ rcS lo' hi' := by
    unfold rcS mxI szV
    repeat' split
    all_goals omega
  unfold rcV mxI
  repeat' split
  all_goals omega
/-- The product of a sum of weights and a reach. -/
theorem aw_bd {a r : Int} (h1 : 0 ≤ a ∧ a ≤ 33554432) (h2 : 0 ≤ r ∧ r ≤ 128) : 0 ≤ a * r ∧ a * r ≤ 4294967296 := by
  have p1 := Int.mul_nonneg h1.1 h2.1
  have p2 := Int.mul_le_mul h1.2 h2.2 h2.1 (by omega : (0 : Int) ≤ 33554432)
  omega
/-! ### What it holds -/
theorem prod_held {a v R : Int} (h : -R ≤ v ∧ v ≤ R) : -((upW a - dnW a) * R) ≤ a * v ∧ a * v ≤ (upW a - dnW a) * R := by
  obtain ⟨v1, v2⟩ := h
  unfold upW dnW
  split
  · rename_i g
    have p1 := Int.mul_le_mul_of_nonneg_left v1 (show 0 ≤ a by omega)
    have p2 := Int.mul_le_mul_of_nonneg_left v2 (show 0 ≤ a by omega)
    rw [Int.mul_neg] at p1
    rw [Int.sub_zero]
    exact ⟨p1, p2⟩
  · rename_i g
    have p1 := Int.mul_le_mul_of_nonpos_left (show a ≤ 0 by omega) v1
    have p2 := Int.mul_le_mul_of_nonpos_left (show a ≤ 0 by omega) v2
    rw [Int.mul_neg] at p1
    rw [Int.zero_sub, Int.neg_mul]
    omega
theorem smV_held {p R : Int} {x : List Int} : ∀ l : List (Int × Int), (∀ t ∈ l, -R ≤ (if t.2 < 0 then p else x.getD t.2.toNat 0) ∧ (if t.2 < 0 then p else x.getD t.2.toNat 0) ≤ R) → -((upS l - dnS l) * R) ≤ smV p x l ∧ smV p x l ≤ (upS l - dnS l) * R
  | [], _ => by simp [smV, upS, dnS]
  | t :: l, h => by
    have h1 := smV_held l fun t ht => h t (List.mem_cons_of_mem _ ht)
    have h2 := prod_held (a := t.1) (h t List.mem_cons_self)
    simp only [smV, smT, upS, dnS]
    have e : (upW t.1 + upS l - (dnW t.1 + dnS l)) * R = (upW t.1 - dnW t.1) * R + (upS l - dnS l) * R := by
      rw [← Int.add_mul]
      congr 1
      omega
    rw [e]
    omega
/-- Without padding each tap of a position lies in the plane. -/
theorem tpc_np {h w kh kw sh sw H V n q : Int} (hf : Fit h w kh kw sh sw 0 0 0 0 H V) (hn : 0 ≤ n ∧ n < H * V) (hq : 0 ≤ q ∧ q < kh * kw) : tpc h w kw (n / V * sh - 0) (n % V * sw - 0) q ≠ -1 := by
  obtain ⟨⟨h1, w1, q9⟩, ⟨k1, k2, k3, k4, -, -, -, -⟩, r1, q1, z1, z2⟩ := hf
  have a1 := Int.ediv_nonneg hn.1 (show 0 ≤ V by omega)
  have a2 : n / V < H := Int.ediv_lt_of_lt_mul (by omega) hn.2
  have b1 := Int.emod_nonneg n (show V ≠ 0 by omega)
  have b2 := Int.emod_lt_of_pos n (show 0 < V by omega)
  have c1 := Int.mul_le_mul_of_nonneg_right (show n / V ≤ H - 1 by omega) (show 0 ≤ sh by omega)
  have c2 := Int.mul_le_mul_of_nonneg_right (show n % V ≤ V - 1 by omega) (show 0 ≤ sw by omega)
  have c3 := Int.mul_nonneg a1 (show 0 ≤ sh by omega)
  have c4 := Int.mul_nonneg b1 (show 0 ≤ sw by omega)
  have d1 := Int.ediv_nonneg hq.1 (show 0 ≤ kw by omega)
  have d2 : q / kw < kh := Int.ediv_lt_of_lt_mul (by omega) hq.2
  have d3 := Int.emod_nonneg q (show kw ≠ 0 by omega)
  have d4 := Int.emod_lt_of_pos q (show 0 < kw by omega)
  unfold tpc
  have g : (0 ≤ n / V * sh - 0 + q / kw ∧ n / V * sh - 0 + q / kw < h) ∧ (0 ≤ n % V * sw - 0 + q % kw ∧ n % V * sw - 0 + q % kw < w) := by omega
  rw [plc_in g]
  have := rowbd g.1.2 g.1.1 g.2.1 g.2.2
  omega
/-- A place that is padding: some side has padding. -/
theorem pad_side {k kh kw sh sw tp lf bt rt h w c H V C : Int} {lw lb : Nat} (s : Sit k kh kw sh sw tp lf bt rt h w c H V C lw lb) {ch n i : Int} (hch : 1 ≤ ch ∧ ch ≤ C) (hn : 0 ≤ n ∧ n < H * V) (hi : 0 ≤ i ∧ i < stR k kh kw h w c)
    (hp : plA k c ch h w kw (coR h w c kh kw sh sw tp lf bt rt n).1 (coR h w c kh kw sh sw tp lf bt rt n).2.1 i < 0) : 0 < tp + lf + bt + rt := by
  obtain ⟨hk, hvA, hvB, hou, -, -, -, h3c, -⟩ := s
  have hc1 := (vS_yes hvA).2.2.1
  by_cases k1 : k = 1
  · unfold plA at hp
    rw [if_pos k1] at hp
    omega
  have ho := hou (by omega)
  rcases ouR_cases h w c kh kw sh sw tp lf bt rt with ⟨e, he, h2⟩ | ⟨r, q, he, hf⟩
  · rw [ho] at he
    simp only [Prod.mk.injEq] at he
    omega
  rw [ho] at he
  simp only [Prod.mk.injEq] at he
  obtain ⟨rfl, rfl, -⟩ := he
  have hw := hf.2.1
  obtain ⟨-, -, -, -, t1, t2, t3, t4⟩ := hw
  by_cases g : 0 < tp + lf + bt + rt
  · exact g
  exfalso
  obtain rfl : tp = 0 := by omega
  obtain rfl : lf = 0 := by omega
  obtain rfl : bt = 0 := by omega
  obtain rfl : rt = 0 := by omega
  have hco : coR h w c kh kw sh sw 0 0 0 0 n = (n / V * sh - 0, n % V * sw - 0, 0) := by
    unfold coR; rw [ho, if_pos rfl, if_pos hn]
  rw [hco] at hp
  simp only at hp
  unfold plA at hp
  rw [if_neg k1] at hp
  have hcv : ∀ q d : Int, tpc h w kw (n / V * sh - 0) (n % V * sw - 0) q ≠ -1 → 0 ≤ d → 0 ≤ cov c (tpc h w kw (n / V * sh - 0) (n % V * sw - 0) q) d := fun q d h1 h2 => by
    unfold cov
    rw [if_neg h1]
    rcases tpc_in (h := h) (w := w) (kw := kw) (t := n / V * sh - 0) (u := n % V * sw - 0) q with e | e
    · exact absurd e h1
    · have := Int.mul_nonneg e.1 (show 0 ≤ c by omega)
      omega
  by_cases k2 : k = 2
  · rw [if_pos k2] at hp
    subst k2
    have hst : stR 2 kh kw h w c = kh * kw * c := rfl
    rw [hst] at hi
    have e1 := Int.ediv_nonneg hi.1 (show 0 ≤ c by omega)
    have e2 : i / c < kh * kw := Int.ediv_lt_of_lt_mul (by omega) hi.2
    have e3 := Int.emod_nonneg i (show c ≠ 0 by omega)
    have := hcv _ _ (tpc_np hf hn ⟨e1, e2⟩) e3
    omega
  · rw [if_neg k2] at hp
    have hst : stR k kh kw h w c = kh * kw := by unfold stR; rw [if_neg k1, if_neg k2, if_pos (by omega)]
    rw [hst] at hi
    have := hcv _ (ch - 1) (tpc_np hf hn hi) (by omega)
    omega
/-- A number of a span lies no farther than its ends. -/
theorem in_rcS {lo hi v : Int} (h : lo ≤ v ∧ v ≤ hi) : -(rcS lo hi) ≤ v ∧ v ≤ rcS lo hi := by
  unfold rcS mxI szV
  repeat' split
  all_goals omega
/-- Whatever numbers of the span the tensor has: the channel's sums are held. -/
theorem suA_held {k kh kw sh sw tp lf bt rt h w c H V C p : Int} {lw lb : Nat} (s : Sit k kh kw sh sw tp lf bt rt h w c H V C lw lb) {zs bs x : List Int} (hz : ∀ v ∈ zs, (Lit.int .i16 v).wf = true) {ch : Int} (hch : 1 ≤ ch ∧ ch ≤ C) {n : Int} (hn : 0 ≤ n ∧ n < H * V) (hx : (x.length : Int) = h * w * c) {lo hi : Int} (hs : ∀ v ∈ x, lo ≤ v ∧ v ≤ hi) :
    biA k ch bs - (upS (siL k kh kw sh sw tp lf bt rt h w c ch 0 zs) - dnS (siL k kh kw sh sw tp lf bt rt h w c ch 0 zs)) * rcV tp lf bt rt p lo hi ≤ suA k kh kw sh sw tp lf bt rt h w c p zs bs x ch n ∧ suA k kh kw sh sw tp lf bt rt h w c p zs bs x ch n ≤ biA k ch bs + (upS (siL k kh kw sh sw tp lf bt rt h w c ch 0 zs) - dnS (siL k kh kw sh sw tp lf bt rt h w c ch 0 zs)) * rcV tp lf bt rt p lo hi := by
  obtain ⟨e1, e2⟩ := sg_fst _ _ (siL_fst k kh kw sh sw tp lf bt rt h w c ch 0 n zs)
  rw [e1, e2]
  have key := smV_held (p := p) (R := rcV tp lf bt rt p lo hi) (x := x) (siL k kh kw sh sw tp lf bt rt h w c ch n zs) (fun t ht => ?_)
  · unfold suA
    omega
  · have hf := ((siL_facts s hz hch n).2 t ht).2
    have hpl : t.2 < 0 → 0 < tp + lf + bt + rt := fun q => by
      unfold siL tmL at ht
      obtain ⟨i, hi, rfl⟩ := List.mem_map.1 ht
      have hi' : i < (stR k kh kw h w c).toNat := by simpa using hi
      have h0 := s.2.2.2.2.2.2.2.2.1
      exact pad_side s hch hn ⟨by omega, by omega⟩ q
    by_cases q : t.2 < 0
    · rw [if_pos q]
      unfold rcV
      rw [if_pos (hpl q)]
      unfold mxI szV
      repeat' split
      all_goals omega
    · rw [if_neg q]
      have hl : t.2.toNat < x.length := by omega
      have hm : x.getD t.2.toNat 0 ∈ x := by rw [List.getD_eq_getElem?_getD, List.getElem?_eq_getElem hl]; exact List.getElem_mem hl
      have h1 := in_rcS (hs _ hm)
      unfold rcV mxI
      split
      · split <;> omega
      · exact h1
/-- The sides of a window of an op that reduces. -/
theorem side_nn {k b m kh kw sh sw tp lf bt rt : Int} {lw lb : Nat} {sm ss um us z p lo hi h w c H V C : Int} (s : Opd k b m kh kw sh sw tp lf bt rt lw lb sm ss um us z p lo hi h w c H V C) (hk : k ≤ 4) : (0 ≤ tp ∧ tp ≤ 31) ∧ (0 ≤ lf ∧ lf ≤ 31) ∧ (0 ≤ bt ∧ bt ≤ 31) ∧ (0 ≤ rt ∧ rt ≤ 31) := by
  have hk0 := s.hk
  by_cases k1 : k = 1
  · have ho := of_decide_eq_true s.oz
    obtain ⟨-, -, -, -, g5, g6, g7, g8⟩ := ho.2.2.2.2.1 (.inl k1)
    omega
  · have ho := s.ou (by omega)
    rcases ouR_cases h w c kh kw sh sw tp lf bt rt with ⟨e, he, h2⟩ | ⟨r, q, he, hf⟩
    · rw [ho] at he
      simp only [Prod.mk.injEq] at he
      omega
    obtain ⟨k1, k2, -, -, t1, t2, t3, t4⟩ := hf.2.1
    omega
end Go.Proofs.Ytcphealigifdiaa
