/- The walks of Total, Run, Part and Product of package bound. What Total, Run, Part and Product answer of a model: the error, or the hull. -/
import Derived.Test.YtcphealigifdiaaGreatGr22
/- The walks of Total, Run, Part and Product of package bound. -/
namespace Go.Proofs.YtcphealigifdiaaGreat
open Go.ChangeShapes Go.WideShapes Go.ChangeAt Go.RowKit Go.Shelf
set_option linter.unusedVariables false
set_option maxRecDepth 100000 in
set_option maxHeartbeats 2000000 in
theorem btot_e (h w c lo hi ot op ch : Int) (oa : Option Addr) (on oc : Nat) (W : World) (slo shi : Int) (E : Int) (hE : E ≠ 0) (hFd : ∀ W', Below W.heap.size W W' → Calls Tryz.prog 17 #[.agg #[Jv h, Jv w, Jv c, Jv lo, Jv hi, .slice oa on oc, Jv ot], Jv op, Jv ch, .agg #[Jv slo, Jv shi]] W' fun e w' => e = .returned (.tuple #[.agg #[Jv 0, Jv 0, Jv 0, Jv 0, Jv 0, Jv 0, Jv 0, Jv 0, Jv 0, Jv 0, Jv 0, Jv 0, Jv 0, .slice none 0 0, Jv 0], Jv E]) ∧ Below W'.heap.size W' w') : Calls Tryz.prog 6 #[.agg #[Jv h, Jv w, Jv c, Jv lo, Jv hi, .slice oa on oc, Jv ot], Jv op, Jv ch, .agg #[Jv slo, Jv shi]] W fun e w' => e = .returned (.tuple #[.agg #[Jv 0, Jv 0], Jv E]) ∧ Below W.heap.size W w' := by
  have HF : Hid (∀ W', Below W.heap.size W W' → _) := hFd
  have hE' : (E == 0) = false := by simp [hE]
  have s0 := (((St.start W).new (c := #[Jv h, Jv w, Jv c, Jv lo, Jv hi, .slice oa on oc, Jv ot]) (t := 26)).new (c := #[Jv slo, Jv shi]) (t := 28)).new (c := #[Jv 0, Jv 0]) (t := 28)
  simp only [World.size_alloc] at s0
  clear hFd
  go_enter Tryz.func6, Tryz.ntmps6
  go_wp2_with fail
  refine (HF.out _ s0.below).mono ?_
  rintro e w1 ⟨rfl, hb⟩
  have s1 := (s0.call hb).new (c := #[Jv 0, Jv 0, Jv 0, Jv 0, Jv 0, Jv 0, Jv 0, Jv 0, Jv 0, Jv 0, Jv 0, Jv 0, Jv 0, .slice none 0 0, Jv 0]) (t := 54)
  have S1 : Hid (St W _ _) := s1
  clear hb s0 HF
  go_upto_region 2 with (refine wpList_st_new rfl 54 (.tmp 10) (.tmp 18) rfl w1 _ #[Jv 0, Jv 0, Jv 0, Jv 0, Jv 0, Jv 0, Jv 0, Jv 0, Jv 0, Jv 0, Jv 0, Jv 0, Jv 0, .slice none 0 0, Jv 0] rfl rfl (by kernel_rfl) rfl (by simp [Value.oneCell']) ?_)
  obtain ⟨w2, hw2⟩ : ∃ w2, w1.alloc (.cells #[Jv 0, Jv 0, Jv 0, Jv 0, Jv 0, Jv 0, Jv 0, Jv 0, Jv 0, Jv 0, Jv 0, Jv 0, Jv 0, .slice none 0 0, Jv 0] 54) = w2 := ⟨_, rfl⟩
  rw [hw2] at s1 S1 ⊢
  obtain ⟨-, -, -, c1, f1, z1, -⟩ := s1.rules
  have HB : Hid (Below W.heap.size W _) := s1.tail.out2 (i := 0) (j := 1) (u := Jv 0) (v := Jv 0)
  clear s1 hw2
  go_wp2
  exact bodyPost_ret (v := .tuple #[.agg #[Jv 0, Jv 0], Jv E]) (by simp [results, Tryz.results6, go_sem, c1]) rfl ⟨rfl, HB.out⟩
set_option maxRecDepth 100000 in
set_option maxHeartbeats 2000000 in
theorem btot_w (h w c lo hi ot op ch : Int) (oa : Option Addr) (on oc : Nat) (W : World) (slo shi : Int) (n bi p x0 y0 z0 : Int) (N : Nat) (hN : N ≤ 512) (op0 : Array Value) (X Y : Int) (hFd : ∀ W', Below W.heap.size W W' → Calls Tryz.prog 17 #[.agg #[Jv h, Jv w, Jv c, Jv lo, Jv hi, .slice oa on oc, Jv ot], Jv op, Jv ch, .agg #[Jv slo, Jv shi]] W' fun e w' => ∃ g0, e = .returned (.tuple #[.agg #[Jv ch, Jv n, Jv (N : Int), Jv bi, Jv slo, Jv shi, Jv p, Jv p, Jv x0, Jv y0, Jv z0, Jv 0, Jv 0, .slice (some ⟨g0, 0, none⟩) 1 1, Jv 0], Jv 0]) ∧ w'.heap[g0]? = some (.cells op0 42 (0, 0)) ∧ W'.heap.size ≤ g0 ∧ Below W'.heap.size W' w') (gf : Nat)
    (hgf : gf = 19)
    (hHl : ∀ W' (g0 q : Nat), Below W.heap.size W W' → W'.heap[g0]? = some (.cells op0 42 (0, 0)) → W'.heap[q]? = some (.cells #[Jv ch, Jv n, Jv (N : Int), Jv bi, Jv slo, Jv shi, Jv p, Jv p, Jv x0, Jv y0, Jv z0, Jv 0, Jv 0, .slice (some ⟨g0, 0, none⟩) 1 1, Jv 0] 54 (0, 0)) → Calls Tryz.prog 18 #[.pointer (some ⟨q, 0, none⟩), .func (.func gf) #[] #[.pointer (some ⟨q, 0, none⟩)]] W' fun e w' => e = .returned (.agg #[Jv X, Jv Y]) ∧ Below W'.heap.size W' w') :
    Calls Tryz.prog 6 #[.agg #[Jv h, Jv w, Jv c, Jv lo, Jv hi, .slice oa on oc, Jv ot], Jv op, Jv ch, .agg #[Jv slo, Jv shi]] W fun e w' => e = .returned (.tuple #[.agg #[Jv X, Jv Y], Jv 0]) ∧ Below W.heap.size W w' := by
  have hmf : ∀ (fn : Fn) (first cap : Array Value) (w : World), (Instr.makeFunc fn first cap).run Tryz.prog w = .ok (.func fn first cap) w := fun _ _ _ _ => rfl
  have HF : Hid (∀ W', Below W.heap.size W W' → _) := hFd
  have HH : Hid (∀ W' (g0 q : Nat), Below W.heap.size W W' → W'.heap[g0]? = some (.cells op0 42 (0, 0)) → W'.heap[q]? = some (.cells #[Jv ch, Jv n, Jv (N : Int), Jv bi, Jv slo, Jv shi, Jv p, Jv p, Jv x0, Jv y0, Jv z0, Jv 0, Jv 0, .slice (some ⟨g0, 0, none⟩) 1 1, Jv 0] 54 (0, 0)) → _) := hHl
  rw [hgf] at HH
  have s0 := (((St.start W).new (c := #[Jv h, Jv w, Jv c, Jv lo, Jv hi, .slice oa on oc, Jv ot]) (t := 26)).new (c := #[Jv slo, Jv shi]) (t := 28)).new (c := #[Jv 0, Jv 0]) (t := 28)
  simp only [World.size_alloc] at s0
  clear hFd hHl hgf
  go_enter Tryz.func6, Tryz.ntmps6
  go_wp2_with fail
  refine (HF.out _ s0.below).mono ?_
  rintro e w1 ⟨g0, rfl, hg0, -, hb⟩
  have s1 := (s0.call hb).new (c := #[Jv ch, Jv n, Jv (N : Int), Jv bi, Jv slo, Jv shi, Jv p, Jv p, Jv x0, Jv y0, Jv z0, Jv 0, Jv 0, .slice (some ⟨g0, 0, none⟩) 1 1, Jv 0]) (t := 54)
  have S1 : Hid (St W _ _) := s1
  have hg1 : Hid ((w1.alloc (.cells #[Jv ch, Jv n, Jv (N : Int), Jv bi, Jv slo, Jv shi, Jv p, Jv p, Jv x0, Jv y0, Jv z0, Jv 0, Jv 0, .slice (some ⟨g0, 0, none⟩) 1 1, Jv 0] 54)).heap[g0]? = some (.cells op0 42 (0, 0))) := (heap_alloc_old w1 _ (lt_of_heap hg0)).trans hg0
  clear hb s0 HF hg0
  go_upto_region 2 with (refine wpList_st_new rfl 54 (.tmp 10) (.tmp 18) rfl w1 _ #[Jv ch, Jv n, Jv (N : Int), Jv bi, Jv slo, Jv shi, Jv p, Jv p, Jv x0, Jv y0, Jv z0, Jv 0, Jv 0, .slice (some ⟨g0, 0, none⟩) 1 1, Jv 0] rfl rfl (by kernel_rfl) rfl (by simp [Value.oneCell']) ?_)
  obtain ⟨q, hq⟩ : ∃ q, w1.heap.size = q := ⟨_, rfl⟩
  obtain ⟨w2, hw2⟩ : ∃ w2, w1.alloc (.cells #[Jv ch, Jv n, Jv (N : Int), Jv bi, Jv slo, Jv shi, Jv p, Jv p, Jv x0, Jv y0, Jv z0, Jv 0, Jv 0, .slice (some ⟨g0, 0, none⟩) 1 1, Jv 0] 54) = w2 := ⟨_, rfl⟩
  rw [hw2] at S1 hg1 ⊢
  rw [hq] at S1 ⊢
  clear s1 hw2 hq
  have HC : Hid _ := HH.out w2 g0 q S1.out.below hg1.out S1.out.h1
  clear HH hg1
  go_wp2_with fail
  refine Calls.mono HC.out ?_
  rintro e w3 ⟨rfl, hb⟩
  have s3 := S1.out.call hb
  obtain ⟨-, -, -, c1, f1, z1, -⟩ := s3.rules
  have HB : Hid (Below W.heap.size W _) := s3.tail.out2 (i := 0) (j := 1) (u := Jv X) (v := Jv Y)
  clear s3 hb S1
  go_wp2
  exact bodyPost_ret (v := .tuple #[.agg #[Jv X, Jv Y], Jv 0]) (by simp [results, Tryz.results6, go_sem, c1]) rfl ⟨rfl, HB.out⟩
set_option maxRecDepth 100000 in
set_option maxHeartbeats 2000000 in
theorem brun_e (h w c lo hi ot op ch : Int) (oa : Option Addr) (on oc : Nat) (W : World) (slo shi : Int) (E : Int) (hE : E ≠ 0) (hFd : ∀ W', Below W.heap.size W W' → Calls Tryz.prog 17 #[.agg #[Jv h, Jv w, Jv c, Jv lo, Jv hi, .slice oa on oc, Jv ot], Jv op, Jv ch, .agg #[Jv slo, Jv shi]] W' fun e w' => e = .returned (.tuple #[.agg #[Jv 0, Jv 0, Jv 0, Jv 0, Jv 0, Jv 0, Jv 0, Jv 0, Jv 0, Jv 0, Jv 0, Jv 0, Jv 0, .slice none 0 0, Jv 0], Jv E]) ∧ Below W'.heap.size W' w') : Calls Tryz.prog 12 #[.agg #[Jv h, Jv w, Jv c, Jv lo, Jv hi, .slice oa on oc, Jv ot], Jv op, Jv ch, .agg #[Jv slo, Jv shi]] W fun e w' => e = .returned (.tuple #[.agg #[Jv 0, Jv 0], Jv E]) ∧ Below W.heap.size W w' := by
  have HF : Hid (∀ W', Below W.heap.size W W' → _) := hFd
  have hE' : (E == 0) = false := by simp [hE]
  have s0 := (((St.start W).new (c := #[Jv h, Jv w, Jv c, Jv lo, Jv hi, .slice oa on oc, Jv ot]) (t := 26)).new (c := #[Jv slo, Jv shi]) (t := 28)).new (c := #[Jv 0, Jv 0]) (t := 28)
  simp only [World.size_alloc] at s0
  clear hFd
  go_enter Tryz.func12, Tryz.ntmps12
  go_wp2_with fail
  refine (HF.out _ s0.below).mono ?_
  rintro e w1 ⟨rfl, hb⟩
  have s1 := (s0.call hb).new (c := #[Jv 0, Jv 0, Jv 0, Jv 0, Jv 0, Jv 0, Jv 0, Jv 0, Jv 0, Jv 0, Jv 0, Jv 0, Jv 0, .slice none 0 0, Jv 0]) (t := 54)
  have S1 : Hid (St W _ _) := s1
  clear hb s0 HF
  go_upto_region 2 with (refine wpList_st_new rfl 54 (.tmp 10) (.tmp 18) rfl w1 _ #[Jv 0, Jv 0, Jv 0, Jv 0, Jv 0, Jv 0, Jv 0, Jv 0, Jv 0, Jv 0, Jv 0, Jv 0, Jv 0, .slice none 0 0, Jv 0] rfl rfl (by kernel_rfl) rfl (by simp [Value.oneCell']) ?_)
  obtain ⟨w2, hw2⟩ : ∃ w2, w1.alloc (.cells #[Jv 0, Jv 0, Jv 0, Jv 0, Jv 0, Jv 0, Jv 0, Jv 0, Jv 0, Jv 0, Jv 0, Jv 0, Jv 0, .slice none 0 0, Jv 0] 54) = w2 := ⟨_, rfl⟩
  rw [hw2] at s1 S1 ⊢
  obtain ⟨-, -, -, c1, f1, z1, -⟩ := s1.rules
  have HB : Hid (Below W.heap.size W _) := s1.tail.out2 (i := 0) (j := 1) (u := Jv 0) (v := Jv 0)
  clear s1 hw2
  go_wp2
  exact bodyPost_ret (v := .tuple #[.agg #[Jv 0, Jv 0], Jv E]) (by simp [results, Tryz.results12, go_sem, c1]) rfl ⟨rfl, HB.out⟩
set_option maxRecDepth 100000 in
set_option maxHeartbeats 2000000 in
theorem brun_w (h w c lo hi ot op ch : Int) (oa : Option Addr) (on oc : Nat) (W : World) (slo shi : Int) (n bi p x0 y0 z0 : Int) (N : Nat) (hN : N ≤ 512) (op0 : Array Value) (X Y : Int) (hFd : ∀ W', Below W.heap.size W W' → Calls Tryz.prog 17 #[.agg #[Jv h, Jv w, Jv c, Jv lo, Jv hi, .slice oa on oc, Jv ot], Jv op, Jv ch, .agg #[Jv slo, Jv shi]] W' fun e w' => ∃ g0, e = .returned (.tuple #[.agg #[Jv ch, Jv n, Jv (N : Int), Jv bi, Jv slo, Jv shi, Jv p, Jv p, Jv x0, Jv y0, Jv z0, Jv 0, Jv 0, .slice (some ⟨g0, 0, none⟩) 1 1, Jv 0], Jv 0]) ∧ w'.heap[g0]? = some (.cells op0 42 (0, 0)) ∧ W'.heap.size ≤ g0 ∧ Below W'.heap.size W' w') (gf : Nat)
    (hgf : gf = 29)
    (hHl : ∀ W' (g0 q : Nat), Below W.heap.size W W' → W'.heap[g0]? = some (.cells op0 42 (0, 0)) → W'.heap[q]? = some (.cells #[Jv ch, Jv n, Jv (N : Int), Jv bi, Jv slo, Jv shi, Jv p, Jv p, Jv x0, Jv y0, Jv z0, Jv 0, Jv 0, .slice (some ⟨g0, 0, none⟩) 1 1, Jv 0] 54 (0, 0)) → Calls Tryz.prog 18 #[.pointer (some ⟨q, 0, none⟩), .func (.func gf) #[] #[.pointer (some ⟨q, 0, none⟩)]] W' fun e w' => e = .returned (.agg #[Jv X, Jv Y]) ∧ Below W'.heap.size W' w') :
    Calls Tryz.prog 12 #[.agg #[Jv h, Jv w, Jv c, Jv lo, Jv hi, .slice oa on oc, Jv ot], Jv op, Jv ch, .agg #[Jv slo, Jv shi]] W fun e w' => e = .returned (.tuple #[.agg #[Jv X, Jv Y], Jv 0]) ∧ Below W.heap.size W w' := by
  have hmf : ∀ (fn : Fn) (first cap : Array Value) (w : World), (Instr.makeFunc fn first cap).run Tryz.prog w = .ok (.func fn first cap) w := fun _ _ _ _ => rfl
  have HF : Hid (∀ W', Below W.heap.size W W' → _) := hFd
  have HH : Hid (∀ W' (g0 q : Nat), Below W.heap.size W W' → W'.heap[g0]? = some (.cells op0 42 (0, 0)) → W'.heap[q]? = some (.cells #[Jv ch, Jv n, Jv (N : Int), Jv bi, Jv slo, Jv shi, Jv p, Jv p, Jv x0, Jv y0, Jv z0, Jv 0, Jv 0, .slice (some ⟨g0, 0, none⟩) 1 1, Jv 0] 54 (0, 0)) → _) := hHl
  rw [hgf] at HH
  have s0 := (((St.start W).new (c := #[Jv h, Jv w, Jv c, Jv lo, Jv hi, .slice oa on oc, Jv ot]) (t := 26)).new (c := #[Jv slo, Jv shi]) (t := 28)).new (c := #[Jv 0, Jv 0]) (t := 28)
  simp only [World.size_alloc] at s0
  clear hFd hHl hgf
  go_enter Tryz.func12, Tryz.ntmps12
  go_wp2_with fail
  refine (HF.out _ s0.below).mono ?_
  rintro e w1 ⟨g0, rfl, hg0, -, hb⟩
  have s1 := (s0.call hb).new (c := #[Jv ch, Jv n, Jv (N : Int), Jv bi, Jv slo, Jv shi, Jv p, Jv p, Jv x0, Jv y0, Jv z0, Jv 0, Jv 0, .slice (some ⟨g0, 0, none⟩) 1 1, Jv 0]) (t := 54)
  have S1 : Hid (St W _ _) := s1
  have hg1 : Hid ((w1.alloc (.cells #[Jv ch, Jv n, Jv (N : Int), Jv bi, Jv slo, Jv shi, Jv p, Jv p, Jv x0, Jv y0, Jv z0, Jv 0, Jv 0, .slice (some ⟨g0, 0, none⟩) 1 1, Jv 0] 54)).heap[g0]? = some (.cells op0 42 (0, 0))) := (heap_alloc_old w1 _ (lt_of_heap hg0)).trans hg0
  clear hb s0 HF hg0
  go_upto_region 2 with (refine wpList_st_new rfl 54 (.tmp 10) (.tmp 18) rfl w1 _ #[Jv ch, Jv n, Jv (N : Int), Jv bi, Jv slo, Jv shi, Jv p, Jv p, Jv x0, Jv y0, Jv z0, Jv 0, Jv 0, .slice (some ⟨g0, 0, none⟩) 1 1, Jv 0] rfl rfl (by kernel_rfl) rfl (by simp [Value.oneCell']) ?_)
  obtain ⟨q, hq⟩ : ∃ q, w1.heap.size = q := ⟨_, rfl⟩
  obtain ⟨w2, hw2⟩ : ∃ w2, w1.alloc (.cells #[Jv ch, Jv n, Jv (N : Int), Jv bi, Jv slo, Jv shi, Jv p, Jv p, Jv x0, Jv y0, Jv z0, Jv 0, Jv 0, .slice (some ⟨g0, 0, none⟩) 1 1, Jv 0] 54) = w2 := ⟨_, rfl⟩
  rw [hw2] at S1 hg1 ⊢
  rw [hq] at S1 ⊢
  clear s1 hw2 hq
  have HC : Hid _ := HH.out w2 g0 q S1.out.below hg1.out S1.out.h1
  clear HH hg1
  go_wp2_with fail
  refine Calls.mono HC.out ?_
  rintro e w3 ⟨rfl, hb⟩
  have s3 := S1.out.call hb
  obtain ⟨-, -, -, c1, f1, z1, -⟩ := s3.rules
  have HB : Hid (Below W.heap.size W _) := s3.tail.out2 (i := 0) (j := 1) (u := Jv X) (v := Jv Y)
  clear s3 hb S1
  go_wp2
  exact bodyPost_ret (v := .tuple #[.agg #[Jv X, Jv Y], Jv 0]) (by simp [results, Tryz.results12, go_sem, c1]) rfl ⟨rfl, HB.out⟩
set_option maxRecDepth 100000 in
set_option maxHeartbeats 2000000 in
theorem bprd_e (h w c lo hi ot op ch : Int) (oa : Option Addr) (on oc : Nat) (W : World) (slo shi : Int) (E : Int) (hE : E ≠ 0) (hFd : ∀ W', Below W.heap.size W W' → Calls Tryz.prog 17 #[.agg #[Jv h, Jv w, Jv c, Jv lo, Jv hi, .slice oa on oc, Jv ot], Jv op, Jv ch, .agg #[Jv slo, Jv shi]] W' fun e w' => e = .returned (.tuple #[.agg #[Jv 0, Jv 0, Jv 0, Jv 0, Jv 0, Jv 0, Jv 0, Jv 0, Jv 0, Jv 0, Jv 0, Jv 0, Jv 0, .slice none 0 0, Jv 0], Jv E]) ∧ Below W'.heap.size W' w') : Calls Tryz.prog 7 #[.agg #[Jv h, Jv w, Jv c, Jv lo, Jv hi, .slice oa on oc, Jv ot], Jv op, Jv ch, .agg #[Jv slo, Jv shi]] W fun e w' => e = .returned (.tuple #[.agg #[Jv 0, Jv 0], Jv E]) ∧ Below W.heap.size W w' := by
  have HF : Hid (∀ W', Below W.heap.size W W' → _) := hFd
  have hE' : (E == 0) = false := by simp [hE]
  have s0 := (((St.start W).new (c := #[Jv h, Jv w, Jv c, Jv lo, Jv hi, .slice oa on oc, Jv ot]) (t := 26)).new (c := #[Jv slo, Jv shi]) (t := 28)).new (c := #[Jv 0, Jv 0]) (t := 28)
  simp only [World.size_alloc] at s0
  clear hFd
  go_enter Tryz.func7, Tryz.ntmps7
  go_wp2_with fail
  refine (HF.out _ s0.below).mono ?_
  rintro e w1 ⟨rfl, hb⟩
  have s1 := (s0.call hb).new (c := #[Jv 0, Jv 0, Jv 0, Jv 0, Jv 0, Jv 0, Jv 0, Jv 0, Jv 0, Jv 0, Jv 0, Jv 0, Jv 0, .slice none 0 0, Jv 0]) (t := 54)
  have S1 : Hid (St W _ _) := s1
  clear hb s0 HF
  go_upto_region 2 with (refine wpList_st_new rfl 54 (.tmp 10) (.tmp 18) rfl w1 _ #[Jv 0, Jv 0, Jv 0, Jv 0, Jv 0, Jv 0, Jv 0, Jv 0, Jv 0, Jv 0, Jv 0, Jv 0, Jv 0, .slice none 0 0, Jv 0] rfl rfl (by kernel_rfl) rfl (by simp [Value.oneCell']) ?_)
  obtain ⟨w2, hw2⟩ : ∃ w2, w1.alloc (.cells #[Jv 0, Jv 0, Jv 0, Jv 0, Jv 0, Jv 0, Jv 0, Jv 0, Jv 0, Jv 0, Jv 0, Jv 0, Jv 0, .slice none 0 0, Jv 0] 54) = w2 := ⟨_, rfl⟩
  rw [hw2] at s1 S1 ⊢
  obtain ⟨-, -, -, c1, f1, z1, -⟩ := s1.rules
  have HB : Hid (Below W.heap.size W _) := s1.tail.out2 (i := 0) (j := 1) (u := Jv 0) (v := Jv 0)
  clear s1 hw2
  go_wp2
  exact bodyPost_ret (v := .tuple #[.agg #[Jv 0, Jv 0], Jv E]) (by simp [results, Tryz.results7, go_sem, c1]) rfl ⟨rfl, HB.out⟩
set_option maxRecDepth 100000 in
set_option maxHeartbeats 2000000 in
theorem bprd_w (h w c lo hi ot op ch : Int) (oa : Option Addr) (on oc : Nat) (W : World) (slo shi : Int) (n bi p x0 y0 z0 : Int) (N : Nat) (hN : N ≤ 512) (op0 : Array Value) (X Y : Int) (hFd : ∀ W', Below W.heap.size W W' → Calls Tryz.prog 17 #[.agg #[Jv h, Jv w, Jv c, Jv lo, Jv hi, .slice oa on oc, Jv ot], Jv op, Jv ch, .agg #[Jv slo, Jv shi]] W' fun e w' => ∃ g0, e = .returned (.tuple #[.agg #[Jv ch, Jv n, Jv (N : Int), Jv bi, Jv slo, Jv shi, Jv p, Jv p, Jv x0, Jv y0, Jv z0, Jv 0, Jv 0, .slice (some ⟨g0, 0, none⟩) 1 1, Jv 0], Jv 0]) ∧ w'.heap[g0]? = some (.cells op0 42 (0, 0)) ∧ W'.heap.size ≤ g0 ∧ Below W'.heap.size W' w') (gf : Nat)
    (hgf : gf = 21)
    (hHl : ∀ W' (g0 q : Nat), Below W.heap.size W W' → W'.heap[g0]? = some (.cells op0 42 (0, 0)) → W'.heap[q]? = some (.cells #[Jv ch, Jv n, Jv (N : Int), Jv bi, Jv slo, Jv shi, Jv p, Jv p, Jv x0, Jv y0, Jv z0, Jv 0, Jv 0, .slice (some ⟨g0, 0, none⟩) 1 1, Jv 0] 54 (0, 0)) → Calls Tryz.prog 18 #[.pointer (some ⟨q, 0, none⟩), .func (.func gf) #[] #[]] W' fun e w' => e = .returned (.agg #[Jv X, Jv Y]) ∧ Below W'.heap.size W' w') :
    Calls Tryz.prog 7 #[.agg #[Jv h, Jv w, Jv c, Jv lo, Jv hi, .slice oa on oc, Jv ot], Jv op, Jv ch, .agg #[Jv slo, Jv shi]] W fun e w' => e = .returned (.tuple #[.agg #[Jv X, Jv Y], Jv 0]) ∧ Below W.heap.size W w' := by
  have hmf : ∀ (fn : Fn) (first cap : Array Value) (w : World), (Instr.makeFunc fn first cap).run Tryz.prog w = .ok (.func fn first cap) w := fun _ _ _ _ => rfl
  have HF : Hid (∀ W', Below W.heap.size W W' → _) := hFd
  have HH : Hid (∀ W' (g0 q : Nat), Below W.heap.size W W' → W'.heap[g0]? = some (.cells op0 42 (0, 0)) → W'.heap[q]? = some (.cells #[Jv ch, Jv n, Jv (N : Int), Jv bi, Jv slo, Jv shi, Jv p, Jv p, Jv x0, Jv y0, Jv z0, Jv 0, Jv 0, .slice (some ⟨g0, 0, none⟩) 1 1, Jv 0] 54 (0, 0)) → _) := hHl
  rw [hgf] at HH
  have s0 := (((St.start W).new (c := #[Jv h, Jv w, Jv c, Jv lo, Jv hi, .slice oa on oc, Jv ot]) (t := 26)).new (c := #[Jv slo, Jv shi]) (t := 28)).new (c := #[Jv 0, Jv 0]) (t := 28)
  simp only [World.size_alloc] at s0
  clear hFd hHl hgf
  go_enter Tryz.func7, Tryz.ntmps7
  go_wp2_with fail
  refine (HF.out _ s0.below).mono ?_
  rintro e w1 ⟨g0, rfl, hg0, -, hb⟩
  have s1 := (s0.call hb).new (c := #[Jv ch, Jv n, Jv (N : Int), Jv bi, Jv slo, Jv shi, Jv p, Jv p, Jv x0, Jv y0, Jv z0, Jv 0, Jv 0, .slice (some ⟨g0, 0, none⟩) 1 1, Jv 0]) (t := 54)
  have S1 : Hid (St W _ _) := s1
  have hg1 : Hid ((w1.alloc (.cells #[Jv ch, Jv n, Jv (N : Int), Jv bi, Jv slo, Jv shi, Jv p, Jv p, Jv x0, Jv y0, Jv z0, Jv 0, Jv 0, .slice (some ⟨g0, 0, none⟩) 1 1, Jv 0] 54)).heap[g0]? = some (.cells op0 42 (0, 0))) := (heap_alloc_old w1 _ (lt_of_heap hg0)).trans hg0
  clear hb s0 HF hg0
  go_upto_region 2 with (refine wpList_st_new rfl 54 (.tmp 10) (.tmp 18) rfl w1 _ #[Jv ch, Jv n, Jv (N : Int), Jv bi, Jv slo, Jv shi, Jv p, Jv p, Jv x0, Jv y0, Jv z0, Jv 0, Jv 0, .slice (some ⟨g0, 0, none⟩) 1 1, Jv 0] rfl rfl (by kernel_rfl) rfl (by simp [Value.oneCell']) ?_)
  obtain ⟨q, hq⟩ : ∃ q, w1.heap.size = q := ⟨_, rfl⟩
  obtain ⟨w2, hw2⟩ : ∃ w2, w1.alloc (.cells #[Jv ch, Jv n, Jv (N : Int), Jv bi, Jv slo, Jv shi, Jv p, Jv p, Jv x0, Jv y0, Jv z0, Jv 0, Jv 0, .slice (some ⟨g0, 0, none⟩) 1 1, Jv 0] 54) = w2 := ⟨_, rfl⟩
  rw [hw2] at S1 hg1 ⊢
  rw [hq] at S1 ⊢
  clear s1 hw2 hq
  have HC : Hid _ := HH.out w2 g0 q S1.out.below hg1.out S1.out.h1
  clear HH hg1
  go_wp2_with fail
  refine Calls.mono HC.out ?_
  rintro e w3 ⟨rfl, hb⟩
  have s3 := S1.out.call hb
  obtain ⟨-, -, -, c1, f1, z1, -⟩ := s3.rules
  have HB : Hid (Below W.heap.size W _) := s3.tail.out2 (i := 0) (j := 1) (u := Jv X) (v := Jv Y)
  clear s3 hb S1
  go_wp2
  exact bodyPost_ret (v := .tuple #[.agg #[Jv X, Jv Y], Jv 0]) (by simp [results, Tryz.results7, go_sem, c1]) rfl ⟨rfl, HB.out⟩
set_option maxRecDepth 100000 in
set_option maxHeartbeats 2000000 in
theorem bprt_e (h w c lo hi ot op ch : Int) (oa : Option Addr) (on oc : Nat) (W : World) (slo shi : Int) (dp : Int) (E : Int) (hE : E ≠ 0) (hFd : ∀ W', Below W.heap.size W W' → Calls Tryz.prog 17 #[.agg #[Jv h, Jv w, Jv c, Jv lo, Jv hi, .slice oa on oc, Jv ot], Jv op, Jv ch, .agg #[Jv slo, Jv shi]] W' fun e w' => e = .returned (.tuple #[.agg #[Jv 0, Jv 0, Jv 0, Jv 0, Jv 0, Jv 0, Jv 0, Jv 0, Jv 0, Jv 0, Jv 0, Jv 0, Jv 0, .slice none 0 0, Jv 0], Jv E]) ∧ Below W'.heap.size W' w') : Calls Tryz.prog 14 #[.agg #[Jv h, Jv w, Jv c, Jv lo, Jv hi, .slice oa on oc, Jv ot], Jv op, Jv ch, .agg #[Jv slo, Jv shi], Jv dp] W fun e w' => e = .returned (.tuple #[.agg #[Jv 0, Jv 0], Jv E]) ∧ Below W.heap.size W w' := by
  have HF : Hid (∀ W', Below W.heap.size W W' → _) := hFd
  have hE' : (E == 0) = false := by simp [hE]
  have s0 := ((((St.start W).new (c := #[Jv h, Jv w, Jv c, Jv lo, Jv hi, .slice oa on oc, Jv ot]) (t := 26)).new (c := #[Jv slo, Jv shi]) (t := 28)).new (c := #[Jv dp]) (t := 3)).new (c := #[Jv 0, Jv 0]) (t := 28)
  simp only [World.size_alloc] at s0
  clear hFd
  go_enter Tryz.func14, Tryz.ntmps14
  go_wp2_with fail
  refine (HF.out _ s0.below).mono ?_
  rintro e w1 ⟨rfl, hb⟩
  have s1 := (s0.call hb).new (c := #[Jv 0, Jv 0, Jv 0, Jv 0, Jv 0, Jv 0, Jv 0, Jv 0, Jv 0, Jv 0, Jv 0, Jv 0, Jv 0, .slice none 0 0, Jv 0]) (t := 54)
  clear hb s0 HF
  go_upto_region 2 with (refine wpList_st_new rfl 54 (.tmp 12) (.tmp 20) rfl w1 _ #[Jv 0, Jv 0, Jv 0, Jv 0, Jv 0, Jv 0, Jv 0, Jv 0, Jv 0, Jv 0, Jv 0, Jv 0, Jv 0, .slice none 0 0, Jv 0] rfl rfl (by kernel_rfl) rfl (by simp [Value.oneCell']) ?_)
  obtain ⟨w2, hw2⟩ : ∃ w2, w1.alloc (.cells #[Jv 0, Jv 0, Jv 0, Jv 0, Jv 0, Jv 0, Jv 0, Jv 0, Jv 0, Jv 0, Jv 0, Jv 0, Jv 0, .slice none 0 0, Jv 0] 54) = w2 := ⟨_, rfl⟩
  rw [hw2] at s1 ⊢
  obtain ⟨-, -, -, c1, f1, z1, -⟩ := s1.rules
  have HB : Hid (Below W.heap.size W _) := s1.tail.out2 (i := 0) (j := 1) (u := Jv 0) (v := Jv 0)
  clear s1 hw2
  go_wp2
  exact bodyPost_ret (v := .tuple #[.agg #[Jv 0, Jv 0], Jv E]) (by simp [results, Tryz.results14, go_sem, c1]) rfl ⟨rfl, HB.out⟩
set_option maxRecDepth 100000 in
set_option maxHeartbeats 4000000 in
theorem bprt_d (h w c lo hi ot op ch : Int) (oa : Option Addr) (on oc : Nat) (W : World) (slo shi : Int) (dp : Int) (n bi p x0 y0 z0 : Int) (N : Nat) (hN : N ≤ 512) (op0 : Array Value) (X Y : Int) (hFd : ∀ W', Below W.heap.size W W' → Calls Tryz.prog 17 #[.agg #[Jv h, Jv w, Jv c, Jv lo, Jv hi, .slice oa on oc, Jv ot], Jv op, Jv ch, .agg #[Jv slo, Jv shi]] W' fun e w' => ∃ g0, e = .returned (.tuple #[.agg #[Jv ch, Jv n, Jv (N : Int), Jv bi, Jv slo, Jv shi, Jv p, Jv p, Jv x0, Jv y0, Jv z0, Jv 0, Jv 0, .slice (some ⟨g0, 0, none⟩) 1 1, Jv 0], Jv 0]) ∧ w'.heap[g0]? = some (.cells op0 42 (0, 0)) ∧ W'.heap.size ≤ g0 ∧ Below W'.heap.size W' w') (hd : ¬ (1 ≤ dp ∧ dp ≤ (N : Int))) : Calls Tryz.prog 14 #[.agg #[Jv h, Jv w, Jv c, Jv lo, Jv hi, .slice oa on oc, Jv ot], Jv op, Jv ch, .agg #[Jv slo, Jv shi], Jv dp] W fun e w' => e = .returned (.tuple #[.agg #[Jv 0, Jv 0], Jv 151]) ∧ Below W.heap.size W w' := by
  have HF : Hid (∀ W', Below W.heap.size W W' → _) := hFd
  have s0 := ((((St.start W).new (c := #[Jv h, Jv w, Jv c, Jv lo, Jv hi, .slice oa on oc, Jv ot]) (t := 26)).new (c := #[Jv slo, Jv shi]) (t := 28)).new (c := #[Jv dp]) (t := 3)).new (c := #[Jv 0, Jv 0]) (t := 28)
  simp only [World.size_alloc] at s0
  clear hFd
  by_cases d1 : dp < 1
  all_goals
    try have d2 : (N : Int) < dp := by omega
    clear hd
    go_enter Tryz.func14, Tryz.ntmps14
    go_wp2_with fail
    refine (HF.out _ s0.below).mono ?_
    rintro e w1 ⟨g0, rfl, -, -, hb⟩
    have s1 := (s0.call hb).new (c := #[Jv ch, Jv n, Jv (N : Int), Jv bi, Jv slo, Jv shi, Jv p, Jv p, Jv x0, Jv y0, Jv z0, Jv 0, Jv 0, .slice (some ⟨g0, 0, none⟩) 1 1, Jv 0]) (t := 54)
    clear hb s0 HF
    go_upto_region 2 with (refine wpList_st_new rfl 54 (.tmp 12) (.tmp 20) rfl w1 _ #[Jv ch, Jv n, Jv (N : Int), Jv bi, Jv slo, Jv shi, Jv p, Jv p, Jv x0, Jv y0, Jv z0, Jv 0, Jv 0, .slice (some ⟨g0, 0, none⟩) 1 1, Jv 0] rfl rfl (by kernel_rfl) rfl (by simp [Value.oneCell']) ?_)
    obtain ⟨w2, hw2⟩ : ∃ w2, w1.alloc (.cells #[Jv ch, Jv n, Jv (N : Int), Jv bi, Jv slo, Jv shi, Jv p, Jv p, Jv x0, Jv y0, Jv z0, Jv 0, Jv 0, .slice (some ⟨g0, 0, none⟩) 1 1, Jv 0] 54) = w2 := ⟨_, rfl⟩
    rw [hw2] at s1 ⊢
    obtain ⟨c0, f0, z0', c1, f1, z1, c2, f2, z2, -⟩ := s1.rules
    have HB : Hid (Below W.heap.size W _) := s1.tail.out2 (i := 0) (j := 1) (u := Jv 0) (v := Jv 0)
    clear s1 hw2
    go_wp2
    exact bodyPost_ret (v := .tuple #[.agg #[Jv 0, Jv 0], Jv 151]) (by simp [results, Tryz.results14, go_sem, c1]) rfl ⟨rfl, HB.out⟩
set_option maxRecDepth 100000 in
set_option maxHeartbeats 4000000 in
theorem bprt_w (h w c lo hi ot op ch : Int) (oa : Option Addr) (on oc : Nat) (W : World) (slo shi : Int) (d : Nat) (n bi p x0 y0 z0 : Int) (N : Nat) (hN : N ≤ 512) (op0 : Array Value) (X Y : Int) (hFd : ∀ W', Below W.heap.size W W' → Calls Tryz.prog 17 #[.agg #[Jv h, Jv w, Jv c, Jv lo, Jv hi, .slice oa on oc, Jv ot], Jv op, Jv ch, .agg #[Jv slo, Jv shi]] W' fun e w' => ∃ g0, e = .returned (.tuple #[.agg #[Jv ch, Jv n, Jv (N : Int), Jv bi, Jv slo, Jv shi, Jv p, Jv p, Jv x0, Jv y0, Jv z0, Jv 0, Jv 0, .slice (some ⟨g0, 0, none⟩) 1 1, Jv 0], Jv 0]) ∧ w'.heap[g0]? = some (.cells op0 42 (0, 0)) ∧ W'.heap.size ≤ g0 ∧ Below W'.heap.size W' w') (hd : 1 ≤ d ∧ d ≤ N)
    (hHl : ∀ W' (g0 q r : Nat), Below W.heap.size W W' → W'.heap[g0]? = some (.cells op0 42 (0, 0)) → W'.heap[q]? = some (.cells #[Jv ch, Jv n, Jv (N : Int), Jv bi, Jv slo, Jv shi, Jv p, Jv p, Jv x0, Jv y0, Jv z0, Jv 0, Jv 0, .slice (some ⟨g0, 0, none⟩) 1 1, Jv 0] 54 (0, 0)) → W'.heap[r]? = some (.cells #[Jv (d : Int)] 3 (0, 0)) → Calls Tryz.prog 18 #[.pointer (some ⟨q, 0, none⟩), .func (.func 30) #[] #[.pointer (some ⟨r, 0, none⟩)]] W' fun e w' => e = .returned (.agg #[Jv X, Jv Y]) ∧ Below W'.heap.size W' w') :
    Calls Tryz.prog 14 #[.agg #[Jv h, Jv w, Jv c, Jv lo, Jv hi, .slice oa on oc, Jv ot], Jv op, Jv ch, .agg #[Jv slo, Jv shi], Jv (d : Int)] W fun e w' => e = .returned (.tuple #[.agg #[Jv X, Jv Y], Jv 0]) ∧ Below W.heap.size W w' := by
  have hmf : ∀ (fn : Fn) (first cap : Array Value) (w : World), (Instr.makeFunc fn first cap).run Tryz.prog w = .ok (.func fn first cap) w := fun _ _ _ _ => rfl
  have HF : Hid (∀ W', Below W.heap.size W W' → _) := hFd
  have HH : Hid (∀ W' (g0 q r : Nat), Below W.heap.size W W' → W'.heap[g0]? = some (.cells op0 42 (0, 0)) → W'.heap[q]? = some (.cells #[Jv ch, Jv n, Jv (N : Int), Jv bi, Jv slo, Jv shi, Jv p, Jv p, Jv x0, Jv y0, Jv z0, Jv 0, Jv 0, .slice (some ⟨g0, 0, none⟩) 1 1, Jv 0] 54 (0, 0)) → W'.heap[r]? = some (.cells #[Jv (d : Int)] 3 (0, 0)) → _) := hHl
  obtain ⟨d1, d2⟩ := hd
  have s0 := ((((St.start W).new (c := #[Jv h, Jv w, Jv c, Jv lo, Jv hi, .slice oa on oc, Jv ot]) (t := 26)).new (c := #[Jv slo, Jv shi]) (t := 28)).new (c := #[Jv (d : Int)]) (t := 3)).new (c := #[Jv 0, Jv 0]) (t := 28)
  simp only [World.size_alloc] at s0
  clear hFd hHl
  go_enter Tryz.func14, Tryz.ntmps14
  go_wp2_with fail
  refine (HF.out _ s0.below).mono ?_
  rintro e w1 ⟨g0, rfl, hg0, -, hb⟩
  have s1 := (s0.call hb).new (c := #[Jv ch, Jv n, Jv (N : Int), Jv bi, Jv slo, Jv shi, Jv p, Jv p, Jv x0, Jv y0, Jv z0, Jv 0, Jv 0, .slice (some ⟨g0, 0, none⟩) 1 1, Jv 0]) (t := 54)
  have S1 : Hid (St W _ _) := s1
  have hg1 : Hid ((w1.alloc (.cells #[Jv ch, Jv n, Jv (N : Int), Jv bi, Jv slo, Jv shi, Jv p, Jv p, Jv x0, Jv y0, Jv z0, Jv 0, Jv 0, .slice (some ⟨g0, 0, none⟩) 1 1, Jv 0] 54)).heap[g0]? = some (.cells op0 42 (0, 0))) := (heap_alloc_old w1 _ (lt_of_heap hg0)).trans hg0
  clear hb s0 HF hg0
  go_upto_region 2 with (refine wpList_st_new rfl 54 (.tmp 12) (.tmp 20) rfl w1 _ #[Jv ch, Jv n, Jv (N : Int), Jv bi, Jv slo, Jv shi, Jv p, Jv p, Jv x0, Jv y0, Jv z0, Jv 0, Jv 0, .slice (some ⟨g0, 0, none⟩) 1 1, Jv 0] rfl rfl (by kernel_rfl) rfl (by simp [Value.oneCell']) ?_)
  obtain ⟨q, hq⟩ : ∃ q, w1.heap.size = q := ⟨_, rfl⟩
  obtain ⟨w2, hw2⟩ : ∃ w2, w1.alloc (.cells #[Jv ch, Jv n, Jv (N : Int), Jv bi, Jv slo, Jv shi, Jv p, Jv p, Jv x0, Jv y0, Jv z0, Jv 0, Jv 0, .slice (some ⟨g0, 0, none⟩) 1 1, Jv 0] 54) = w2 := ⟨_, rfl⟩
  rw [hw2] at S1 hg1 ⊢
  rw [hq] at S1 ⊢
  clear s1 hw2 hq
  have HC : Hid _ := HH.out w2 g0 q (W.heap.size + 1 + 1) S1.out.below hg1.out S1.out.h1 S1.out.h3
  obtain ⟨c0, f0, z0', -, -, z1, c2, f2, z2, -⟩ := S1.out.rules
  clear HH hg1
  go_wp2_with fail
  refine Calls.mono HC.out ?_
  rintro e w3 ⟨rfl, hb⟩
  have s3 := S1.out.call hb
  clear c0 f0 z0' z1 c2 f2 z2
  obtain ⟨-, -, -, c1, f1, z1, -⟩ := s3.rules
  have HB : Hid (Below W.heap.size W _) := s3.tail.out2 (i := 0) (j := 1) (u := Jv X) (v := Jv Y)
  clear s3 hb S1
  go_wp2
  exact bodyPost_ret (v := .tuple #[.agg #[Jv X, Jv Y], Jv 0]) (by simp [results, Tryz.results14, go_sem, c1]) rfl ⟨rfl, HB.out⟩
end Go.Proofs.YtcphealigifdiaaGreat

/- What Total, Run, Part and Product answer of a model: the error, or the hull. -/
namespace Go.Proofs.YtcphealigifdiaaGreat
open Go.ChangeShapes Go.WideShapes Go.ChangeAt Go.RowKit Go.Shelf
set_option linter.unusedVariables false
theorem bask (h w c lo hi ot : Int) (oa : Option Addr) (on oc : Nat) (O : Nat → Nat → Int) (Z B : Nat → List Int) (W : World) (hL : LRow W oa on oc O Z B) (op ch : Int) :
    (∃ E : Int, E ≠ 0 ∧ (∀ W', Below W.heap.size W W' → Calls Tryz.prog 33 #[.agg #[Jv h, Jv w, Jv c, Jv lo, Jv hi, .slice oa on oc, Jv ot], Jv op, Jv ch, Jv 0] W' fun e w' => e = .returned (.tuple #[.slice none 0 0, Jv 0, Jv E]) ∧ Below W'.heap.size W' w')) ∨ (∃ (RL : List (Int × Int × Int)) (Rw : Int), gtR O h w c lo hi ot on = (0, 0, RL, Rw) ∧ ∃ (i : Nat) (x : Addr) (wa : Option Addr) (lw cw : Nat) (ba : Option Addr) (lb cb : Nat) (x0 y0 z0 H V C : Int), op = (i : Int) + 1 ∧ Fnd W oa on O Z B RL i x wa lw cw ba lb cb x0 y0 z0 H V C ∧ (1 ≤ ch ∧ ch ≤ C)) := by
  obtain ⟨E, hf⟩ : ∃ E, fiE O h w c lo hi ot on op = E := ⟨_, rfl⟩
  by_cases hE : E = 0
  · subst hE
    obtain ⟨RL, Rw, hR, i, x, wa, lw, cw, ba, lb, cb, x0, y0, z0, H, V, C, rfl, hF⟩ := found h w c lo hi ot oa on oc O Z B W hL op hf
    by_cases hch : 1 ≤ ch ∧ ch ≤ C
    · exact .inr ⟨RL, Rw, hR, i, x, wa, lw, cw, ba, lb, cb, x0, y0, z0, H, V, C, rfl, hF, hch⟩
    · exact .inl ⟨3, by omega, fun W' hb => of_place h w c lo hi ot oa on oc O Z B W' (hL.below hb) ch 0 RL Rw hR i x wa lw cw ba lb cb x0 y0 z0 H V C (hF.below hb) (fun q => hch q.1)⟩
  · exact .inl ⟨E, hE, fun W' hb => of_bad h w c lo hi ot oa on oc O Z B W' (hL.below hb) op ch 0 E hf hE⟩
/-- The answer where the op and the channel are there. -/
def spR (slo shi : Int) (r : Int × Int) : Int × Int × Int := if vbB slo shi = true then (r.1, r.2, 0) else (0, 0, 30)
def spD (slo shi dp : Int) (N : Nat) (r : Int × Int) : Int × Int × Int := if vbB slo shi = true then (if 1 ≤ dp ∧ dp ≤ (N : Int) then (r.1, r.2, 0) else (0, 0, 151)) else (0, 0, 30)
theorem bof0 (h w c lo hi ot : Int) (oa : Option Addr) (on oc : Nat) (O : Nat → Nat → Int) (Z B : Nat → List Int) (W : World) (hL : LRow W oa on oc O Z B) (ch : Int) (RL : List (Int × Int × Int)) (Rw : Int) (hR : gtR O h w c lo hi ot on = (0, 0, RL, Rw)) (i : Nat) (x : Addr) (wa : Option Addr) (lw cw : Nat) (ba : Option Addr) (lb cb : Nat) (x0 y0 z0 H V C : Int) (hF : Fnd W oa on O Z B RL i x wa lw cw ba lb cb x0 y0 z0 H V C) (hch : 1 ≤ ch ∧ ch ≤ C) : ∀ W', Below W.heap.size W W' → Calls Tryz.prog 33 #[.agg #[Jv h, Jv w, Jv c, Jv lo, Jv hi, .slice oa on oc, Jv ot], Jv ((i : Int) + 1), Jv ch, Jv 0] W' fun e w' => (∃ v, e = .returned (.tuple #[v, Jv (biA (O i 0) ch (B i)), Jv 0]) ∧ OTm w' W'.heap.size v (siL (O i 0) (O i 4) (O i 5) (O i 6) (O i 7) (O i 8) (O i 9) (O i 10) (O i 11) x0 y0 z0 ch 0 (Z i))) ∧ Below W'.heap.size W' w' := fun W' hb => by
  have hv := (vS_bd hF.2.2.2.2.2.2.2.2.2.1.2.2.1).1
  exact of_ok h w c lo hi ot oa on oc O Z B W' (hL.below hb) ch 0 RL Rw hR i x wa lw cw ba lb cb x0 y0 z0 H V C (hF.below hb) hch ⟨by omega, by omega⟩
theorem slen {h w c lo hi ot ch : Int} {oa : Option Addr} {on : Nat} {O : Nat → Nat → Int} {Z B : Nat → List Int} {W : World} (RL : List (Int × Int × Int)) (Rw : Int) (hR : gtR O h w c lo hi ot on = (0, 0, RL, Rw)) (i : Nat) (x : Addr) (wa : Option Addr) (lw cw : Nat) (ba : Option Addr) (lb cb : Nat) (x0 y0 z0 H V C : Int) (hF : Fnd W oa on O Z B RL i x wa lw cw ba lb cb x0 y0 z0 H V C) (hch : 1 ≤ ch ∧ ch ≤ C) : (siL (O i 0) (O i 4) (O i 5) (O i 6) (O i 7) (O i 8) (O i 9) (O i 10) (O i 11) x0 y0 z0 ch 0 (Z i)).length ≤ 512 := by
  exact (siL_facts hF.2.2.2.2.2.2.2.2.2.1 hF.2.2.2.2.2.1.2.2.2.1 hch 0).1
theorem btot_bad (h w c lo hi ot op ch : Int) (oa : Option Addr) (on oc : Nat) (W : World) (slo shi E : Int) (hE : E ≠ 0) (hO : (∀ W', Below W.heap.size W W' → Calls Tryz.prog 33 #[.agg #[Jv h, Jv w, Jv c, Jv lo, Jv hi, .slice oa on oc, Jv ot], Jv op, Jv ch, Jv 0] W' fun e w' => e = .returned (.tuple #[.slice none 0 0, Jv 0, Jv E]) ∧ Below W'.heap.size W' w')) : Calls Tryz.prog 6 #[.agg #[Jv h, Jv w, Jv c, Jv lo, Jv hi, .slice oa on oc, Jv ot], Jv op, Jv ch, .agg #[Jv slo, Jv shi]] W fun e w' => e = .returned (.tuple #[.agg #[Jv 0, Jv 0], Jv E]) ∧ Below W.heap.size W w' :=
  btot_e h w c lo hi ot op ch oa on oc W slo shi E hE (fun W' hb => bfind_e h w c lo hi ot op ch oa on oc W' slo shi E hE (fun W'' hb' => hO W'' (hb.trans (hb'.mono hb.size))))
theorem btot_ok (h w c lo hi ot : Int) (oa : Option Addr) (on oc : Nat) (O : Nat → Nat → Int) (Z B : Nat → List Int) (W : World) (hL : LRow W oa on oc O Z B) (ch : Int) (RL : List (Int × Int × Int)) (Rw : Int) (hR : gtR O h w c lo hi ot on = (0, 0, RL, Rw)) (i : Nat) (x : Addr) (wa : Option Addr) (lw cw : Nat) (ba : Option Addr) (lb cb : Nat) (x0 y0 z0 H V C : Int) (hF : Fnd W oa on O Z B RL i x wa lw cw ba lb cb x0 y0 z0 H V C) (hch : 1 ≤ ch ∧ ch ≤ C) (slo shi : Int) : Calls Tryz.prog 6 #[.agg #[Jv h, Jv w, Jv c, Jv lo, Jv hi, .slice oa on oc, Jv ot], Jv ((i : Int) + 1), Jv ch, .agg #[Jv slo, Jv shi]] W fun e w' => e = .returned (.tuple #[.agg #[Jv (spR slo shi (hbT (biA (O i 0) ch (B i)) (fun (j : Nat) => enL slo shi (O i 19) (siL (O i 0) (O i 4) (O i 5) (O i 6) (O i 7) (O i 8) (O i 9) (O i 10) (O i 11) x0 y0 z0 ch (j : Int) (Z i))) (H * V).toNat)).1, Jv (spR slo shi (hbT (biA (O i 0) ch (B i)) (fun (j : Nat) => enL slo shi (O i 19) (siL (O i 0) (O i 4) (O i 5) (O i 6) (O i 7) (O i 8) (O i 9) (O i 10) (O i 11) x0 y0 z0 ch (j : Int) (Z i))) (H * V).toNat)).2.1], Jv (spR slo shi (hbT (biA (O i 0) ch (B i)) (fun (j : Nat) => enL slo shi (O i 19) (siL (O i 0) (O i 4) (O i 5) (O i 6) (O i 7) (O i 8) (O i 9) (O i 10) (O i 11) x0 y0 z0 ch (j : Int) (Z i))) (H * V).toNat)).2.2]) ∧ Below W.heap.size W w' := by
  unfold spR
  cases hs : vbB slo shi with
  | false =>
    rw [if_neg (by decide)]
    exact btot_e h w c lo hi ot _ ch oa on oc W slo shi 30 (by decide) (fun W' hb => bfind_30 h w c lo hi ot _ ch oa on oc W' slo shi _ _ hs (fun W'' hb' => bof0 h w c lo hi ot oa on oc O Z B W hL ch RL Rw hR i x wa lw cw ba lb cb x0 y0 z0 H V C hF hch W'' (hb.trans (hb'.mono hb.size))))
  | true =>
    rw [if_pos rfl]
    obtain ⟨-, -, -, -, -, hbi, -⟩ := bfacts hL RL Rw hR i x wa lw cw ba lb cb x0 y0 z0 H V C hF hch
    obtain ⟨N, hN⟩ : ∃ N, (siL (O i 0) (O i 4) (O i 5) (O i 6) (O i 7) (O i 8) (O i 9) (O i 10) (O i 11) x0 y0 z0 ch 0 (Z i)).length = N := ⟨_, rfl⟩
    refine btot_w h w c lo hi ot _ ch oa on oc W slo shi (H * V) (biA (O i 0) ch (B i)) (O i 19) x0 y0 z0 N (by rw [← hN]; exact slen RL Rw hR i x wa lw cw ba lb cb x0 y0 z0 H V C hF hch) #[Jv (O i 0), Jv 0, Jv (O i 2), Jv (O i 3), Jv (O i 4), Jv (O i 5), Jv (O i 6), Jv (O i 7), Jv (O i 8), Jv (O i 9), Jv (O i 10), Jv (O i 11), .slice wa lw cw, .slice ba lb cb, Jv (O i 14), Jv (O i 15), Jv (O i 16), Jv (O i 17), Jv (O i 18), Jv (O i 19), Jv (O i 20), Jv (O i 21)] _ _ (bfind_m h w c lo hi ot oa on oc O Z B W hL ch RL Rw hR i x wa lw cw ba lb cb x0 y0 z0 H V C hF hch slo shi hs N hN _ rfl) 19 rfl (fun W' g0 q hb hg hq => ?_)
    exact bhull_m h w c lo hi ot oa on oc O Z B W hL ch RL Rw hR i x wa lw cw ba lb cb x0 y0 z0 H V C hF hch slo shi hs N (biA (O i 0) ch (B i)) W' hb g0 q hg hq (fun E => [suS (biA (O i 0) ch (B i), biA (O i 0) ch (B i)) E]) 19 #[.pointer (some ⟨q, 0, none⟩)] (enters_of Tryz.func19 (by kernel_rfl) rfl) (fun W'' v E nb hb' hE h0 hl hv hn hz => ctot_any ch (H * V) N (biA (O i 0) ch (B i)) slo shi (O i 19) x0 y0 z0 g0 q W'' ((hb'.block q (lt_of_heap hq)).trans hq) hbi v E nb hE h0 hl hv hn hz) (fun E hE h0 hl => ftot hbi hE hl)
theorem brun_bad (h w c lo hi ot op ch : Int) (oa : Option Addr) (on oc : Nat) (W : World) (slo shi E : Int) (hE : E ≠ 0) (hO : (∀ W', Below W.heap.size W W' → Calls Tryz.prog 33 #[.agg #[Jv h, Jv w, Jv c, Jv lo, Jv hi, .slice oa on oc, Jv ot], Jv op, Jv ch, Jv 0] W' fun e w' => e = .returned (.tuple #[.slice none 0 0, Jv 0, Jv E]) ∧ Below W'.heap.size W' w')) : Calls Tryz.prog 12 #[.agg #[Jv h, Jv w, Jv c, Jv lo, Jv hi, .slice oa on oc, Jv ot], Jv op, Jv ch, .agg #[Jv slo, Jv shi]] W fun e w' => e = .returned (.tuple #[.agg #[Jv 0, Jv 0], Jv E]) ∧ Below W.heap.size W w' :=
  brun_e h w c lo hi ot op ch oa on oc W slo shi E hE (fun W' hb => bfind_e h w c lo hi ot op ch oa on oc W' slo shi E hE (fun W'' hb' => hO W'' (hb.trans (hb'.mono hb.size))))
theorem brun_ok (h w c lo hi ot : Int) (oa : Option Addr) (on oc : Nat) (O : Nat → Nat → Int) (Z B : Nat → List Int) (W : World) (hL : LRow W oa on oc O Z B) (ch : Int) (RL : List (Int × Int × Int)) (Rw : Int) (hR : gtR O h w c lo hi ot on = (0, 0, RL, Rw)) (i : Nat) (x : Addr) (wa : Option Addr) (lw cw : Nat) (ba : Option Addr) (lb cb : Nat) (x0 y0 z0 H V C : Int) (hF : Fnd W oa on O Z B RL i x wa lw cw ba lb cb x0 y0 z0 H V C) (hch : 1 ≤ ch ∧ ch ≤ C) (slo shi : Int) : Calls Tryz.prog 12 #[.agg #[Jv h, Jv w, Jv c, Jv lo, Jv hi, .slice oa on oc, Jv ot], Jv ((i : Int) + 1), Jv ch, .agg #[Jv slo, Jv shi]] W fun e w' => e = .returned (.tuple #[.agg #[Jv (spR slo shi (hbR (biA (O i 0) ch (B i)) (fun (j : Nat) => enL slo shi (O i 19) (siL (O i 0) (O i 4) (O i 5) (O i 6) (O i 7) (O i 8) (O i 9) (O i 10) (O i 11) x0 y0 z0 ch (j : Int) (Z i))) (H * V).toNat)).1, Jv (spR slo shi (hbR (biA (O i 0) ch (B i)) (fun (j : Nat) => enL slo shi (O i 19) (siL (O i 0) (O i 4) (O i 5) (O i 6) (O i 7) (O i 8) (O i 9) (O i 10) (O i 11) x0 y0 z0 ch (j : Int) (Z i))) (H * V).toNat)).2.1], Jv (spR slo shi (hbR (biA (O i 0) ch (B i)) (fun (j : Nat) => enL slo shi (O i 19) (siL (O i 0) (O i 4) (O i 5) (O i 6) (O i 7) (O i 8) (O i 9) (O i 10) (O i 11) x0 y0 z0 ch (j : Int) (Z i))) (H * V).toNat)).2.2]) ∧ Below W.heap.size W w' := by
  unfold spR
  cases hs : vbB slo shi with
  | false =>
    rw [if_neg (by decide)]
    exact brun_e h w c lo hi ot _ ch oa on oc W slo shi 30 (by decide) (fun W' hb => bfind_30 h w c lo hi ot _ ch oa on oc W' slo shi _ _ hs (fun W'' hb' => bof0 h w c lo hi ot oa on oc O Z B W hL ch RL Rw hR i x wa lw cw ba lb cb x0 y0 z0 H V C hF hch W'' (hb.trans (hb'.mono hb.size))))
  | true =>
    rw [if_pos rfl]
    obtain ⟨-, -, -, -, -, hbi, -⟩ := bfacts hL RL Rw hR i x wa lw cw ba lb cb x0 y0 z0 H V C hF hch
    obtain ⟨N, hN⟩ : ∃ N, (siL (O i 0) (O i 4) (O i 5) (O i 6) (O i 7) (O i 8) (O i 9) (O i 10) (O i 11) x0 y0 z0 ch 0 (Z i)).length = N := ⟨_, rfl⟩
    refine brun_w h w c lo hi ot _ ch oa on oc W slo shi (H * V) (biA (O i 0) ch (B i)) (O i 19) x0 y0 z0 N (by rw [← hN]; exact slen RL Rw hR i x wa lw cw ba lb cb x0 y0 z0 H V C hF hch) #[Jv (O i 0), Jv 0, Jv (O i 2), Jv (O i 3), Jv (O i 4), Jv (O i 5), Jv (O i 6), Jv (O i 7), Jv (O i 8), Jv (O i 9), Jv (O i 10), Jv (O i 11), .slice wa lw cw, .slice ba lb cb, Jv (O i 14), Jv (O i 15), Jv (O i 16), Jv (O i 17), Jv (O i 18), Jv (O i 19), Jv (O i 20), Jv (O i 21)] _ _ (bfind_m h w c lo hi ot oa on oc O Z B W hL ch RL Rw hR i x wa lw cw ba lb cb x0 y0 z0 H V C hF hch slo shi hs N hN _ rfl) 29 rfl (fun W' g0 q hb hg hq => ?_)
    exact bhull_m h w c lo hi ot oa on oc O Z B W hL ch RL Rw hR i x wa lw cw ba lb cb x0 y0 z0 H V C hF hch slo shi hs N (biA (O i 0) ch (B i)) W' hb g0 q hg hq (fun E => ruL (biA (O i 0) ch (B i), biA (O i 0) ch (B i)) E) 29 #[.pointer (some ⟨q, 0, none⟩)] (enters_of Tryz.func29 (by kernel_rfl) rfl) (fun W'' v E nb hb' hE h0 hl hv hn hz => crun_any ch (H * V) N (biA (O i 0) ch (B i)) slo shi (O i 19) x0 y0 z0 g0 q W'' ((hb'.block q (lt_of_heap hq)).trans hq) hbi v E nb hE h0 hl hv hn hz) (fun E hE h0 hl => frun hbi hE hl)
theorem bprd_bad (h w c lo hi ot op ch : Int) (oa : Option Addr) (on oc : Nat) (W : World) (slo shi E : Int) (hE : E ≠ 0) (hO : (∀ W', Below W.heap.size W W' → Calls Tryz.prog 33 #[.agg #[Jv h, Jv w, Jv c, Jv lo, Jv hi, .slice oa on oc, Jv ot], Jv op, Jv ch, Jv 0] W' fun e w' => e = .returned (.tuple #[.slice none 0 0, Jv 0, Jv E]) ∧ Below W'.heap.size W' w')) : Calls Tryz.prog 7 #[.agg #[Jv h, Jv w, Jv c, Jv lo, Jv hi, .slice oa on oc, Jv ot], Jv op, Jv ch, .agg #[Jv slo, Jv shi]] W fun e w' => e = .returned (.tuple #[.agg #[Jv 0, Jv 0], Jv E]) ∧ Below W.heap.size W w' :=
  bprd_e h w c lo hi ot op ch oa on oc W slo shi E hE (fun W' hb => bfind_e h w c lo hi ot op ch oa on oc W' slo shi E hE (fun W'' hb' => hO W'' (hb.trans (hb'.mono hb.size))))
theorem bprd_ok (h w c lo hi ot : Int) (oa : Option Addr) (on oc : Nat) (O : Nat → Nat → Int) (Z B : Nat → List Int) (W : World) (hL : LRow W oa on oc O Z B) (ch : Int) (RL : List (Int × Int × Int)) (Rw : Int) (hR : gtR O h w c lo hi ot on = (0, 0, RL, Rw)) (i : Nat) (x : Addr) (wa : Option Addr) (lw cw : Nat) (ba : Option Addr) (lb cb : Nat) (x0 y0 z0 H V C : Int) (hF : Fnd W oa on O Z B RL i x wa lw cw ba lb cb x0 y0 z0 H V C) (hch : 1 ≤ ch ∧ ch ≤ C) (slo shi : Int) : Calls Tryz.prog 7 #[.agg #[Jv h, Jv w, Jv c, Jv lo, Jv hi, .slice oa on oc, Jv ot], Jv ((i : Int) + 1), Jv ch, .agg #[Jv slo, Jv shi]] W fun e w' => e = .returned (.tuple #[.agg #[Jv (spR slo shi (hbP (fun (j : Nat) => enL slo shi (O i 19) (siL (O i 0) (O i 4) (O i 5) (O i 6) (O i 7) (O i 8) (O i 9) (O i 10) (O i 11) x0 y0 z0 ch (j : Int) (Z i))) (H * V).toNat)).1, Jv (spR slo shi (hbP (fun (j : Nat) => enL slo shi (O i 19) (siL (O i 0) (O i 4) (O i 5) (O i 6) (O i 7) (O i 8) (O i 9) (O i 10) (O i 11) x0 y0 z0 ch (j : Int) (Z i))) (H * V).toNat)).2.1], Jv (spR slo shi (hbP (fun (j : Nat) => enL slo shi (O i 19) (siL (O i 0) (O i 4) (O i 5) (O i 6) (O i 7) (O i 8) (O i 9) (O i 10) (O i 11) x0 y0 z0 ch (j : Int) (Z i))) (H * V).toNat)).2.2]) ∧ Below W.heap.size W w' := by
  unfold spR
  cases hs : vbB slo shi with
  | false =>
    rw [if_neg (by decide)]
    exact bprd_e h w c lo hi ot _ ch oa on oc W slo shi 30 (by decide) (fun W' hb => bfind_30 h w c lo hi ot _ ch oa on oc W' slo shi _ _ hs (fun W'' hb' => bof0 h w c lo hi ot oa on oc O Z B W hL ch RL Rw hR i x wa lw cw ba lb cb x0 y0 z0 H V C hF hch W'' (hb.trans (hb'.mono hb.size))))
  | true =>
    rw [if_pos rfl]
    obtain ⟨-, -, -, -, -, hbi, -⟩ := bfacts hL RL Rw hR i x wa lw cw ba lb cb x0 y0 z0 H V C hF hch
    obtain ⟨N, hN⟩ : ∃ N, (siL (O i 0) (O i 4) (O i 5) (O i 6) (O i 7) (O i 8) (O i 9) (O i 10) (O i 11) x0 y0 z0 ch 0 (Z i)).length = N := ⟨_, rfl⟩
    refine bprd_w h w c lo hi ot _ ch oa on oc W slo shi (H * V) (biA (O i 0) ch (B i)) (O i 19) x0 y0 z0 N (by rw [← hN]; exact slen RL Rw hR i x wa lw cw ba lb cb x0 y0 z0 H V C hF hch) #[Jv (O i 0), Jv 0, Jv (O i 2), Jv (O i 3), Jv (O i 4), Jv (O i 5), Jv (O i 6), Jv (O i 7), Jv (O i 8), Jv (O i 9), Jv (O i 10), Jv (O i 11), .slice wa lw cw, .slice ba lb cb, Jv (O i 14), Jv (O i 15), Jv (O i 16), Jv (O i 17), Jv (O i 18), Jv (O i 19), Jv (O i 20), Jv (O i 21)] _ _ (bfind_m h w c lo hi ot oa on oc O Z B W hL ch RL Rw hR i x wa lw cw ba lb cb x0 y0 z0 H V C hF hch slo shi hs N hN _ rfl) 21 rfl (fun W' g0 q hb hg hq => ?_)
    exact bhull_m h w c lo hi ot oa on oc O Z B W hL ch RL Rw hR i x wa lw cw ba lb cb x0 y0 z0 H V C hF hch slo shi hs N (biA (O i 0) ch (B i)) W' hb g0 q hg hq (fun E => E) 21 #[] (enters_of Tryz.func21 (by kernel_rfl) rfl) (fun W'' v E nb hb' hE h0 hl hv hn hz => cprd_any W'' v E nb hE h0 hl hv hn hz) (fun E hE h0 hl => fprd hE h0 hl)
theorem bprt_bad (h w c lo hi ot op ch : Int) (oa : Option Addr) (on oc : Nat) (W : World) (slo shi dp E : Int) (hE : E ≠ 0) (hO : (∀ W', Below W.heap.size W W' → Calls Tryz.prog 33 #[.agg #[Jv h, Jv w, Jv c, Jv lo, Jv hi, .slice oa on oc, Jv ot], Jv op, Jv ch, Jv 0] W' fun e w' => e = .returned (.tuple #[.slice none 0 0, Jv 0, Jv E]) ∧ Below W'.heap.size W' w')) : Calls Tryz.prog 14 #[.agg #[Jv h, Jv w, Jv c, Jv lo, Jv hi, .slice oa on oc, Jv ot], Jv op, Jv ch, .agg #[Jv slo, Jv shi], Jv dp] W fun e w' => e = .returned (.tuple #[.agg #[Jv 0, Jv 0], Jv E]) ∧ Below W.heap.size W w' :=
  bprt_e h w c lo hi ot op ch oa on oc W slo shi dp E hE (fun W' hb => bfind_e h w c lo hi ot op ch oa on oc W' slo shi E hE (fun W'' hb' => hO W'' (hb.trans (hb'.mono hb.size))))
theorem bprt_ok (h w c lo hi ot : Int) (oa : Option Addr) (on oc : Nat) (O : Nat → Nat → Int) (Z B : Nat → List Int) (W : World) (hL : LRow W oa on oc O Z B) (ch : Int) (RL : List (Int × Int × Int)) (Rw : Int) (hR : gtR O h w c lo hi ot on = (0, 0, RL, Rw)) (i : Nat) (x : Addr) (wa : Option Addr) (lw cw : Nat) (ba : Option Addr) (lb cb : Nat) (x0 y0 z0 H V C : Int) (hF : Fnd W oa on O Z B RL i x wa lw cw ba lb cb x0 y0 z0 H V C) (hch : 1 ≤ ch ∧ ch ≤ C) (slo shi dp : Int) (N : Nat) (hN : (siL (O i 0) (O i 4) (O i 5) (O i 6) (O i 7) (O i 8) (O i 9) (O i 10) (O i 11) x0 y0 z0 ch 0 (Z i)).length = N) : Calls Tryz.prog 14 #[.agg #[Jv h, Jv w, Jv c, Jv lo, Jv hi, .slice oa on oc, Jv ot], Jv ((i : Int) + 1), Jv ch, .agg #[Jv slo, Jv shi], Jv dp] W fun e w' => e = .returned (.tuple #[.agg #[Jv (spD slo shi dp N (hbD dp.toNat (fun (j : Nat) => enL slo shi (O i 19) (siL (O i 0) (O i 4) (O i 5) (O i 6) (O i 7) (O i 8) (O i 9) (O i 10) (O i 11) x0 y0 z0 ch (j : Int) (Z i))) (H * V).toNat)).1, Jv (spD slo shi dp N (hbD dp.toNat (fun (j : Nat) => enL slo shi (O i 19) (siL (O i 0) (O i 4) (O i 5) (O i 6) (O i 7) (O i 8) (O i 9) (O i 10) (O i 11) x0 y0 z0 ch (j : Int) (Z i))) (H * V).toNat)).2.1], Jv (spD slo shi dp N (hbD dp.toNat (fun (j : Nat) => enL slo shi (O i 19) (siL (O i 0) (O i 4) (O i 5) (O i 6) (O i 7) (O i 8) (O i 9) (O i 10) (O i 11) x0 y0 z0 ch (j : Int) (Z i))) (H * V).toNat)).2.2]) ∧ Below W.heap.size W w' := by
  unfold spD
  have hN5 : N ≤ 512 := by rw [← hN]; exact slen RL Rw hR i x wa lw cw ba lb cb x0 y0 z0 H V C hF hch
  cases hs : vbB slo shi with
  | false =>
    rw [if_neg (by decide)]
    exact bprt_e h w c lo hi ot _ ch oa on oc W slo shi dp 30 (by decide) (fun W' hb => bfind_30 h w c lo hi ot _ ch oa on oc W' slo shi _ _ hs (fun W'' hb' => bof0 h w c lo hi ot oa on oc O Z B W hL ch RL Rw hR i x wa lw cw ba lb cb x0 y0 z0 H V C hF hch W'' (hb.trans (hb'.mono hb.size))))
  | true =>
    rw [if_pos rfl]
    have hFm := bfind_m h w c lo hi ot oa on oc O Z B W hL ch RL Rw hR i x wa lw cw ba lb cb x0 y0 z0 H V C hF hch slo shi hs N hN _ rfl
    by_cases hd : 1 ≤ dp ∧ dp ≤ (N : Int)
    · rw [if_pos hd]
      obtain ⟨d, rfl⟩ := Int.eq_ofNat_of_zero_le (show 0 ≤ dp by omega)
      rw [Int.toNat_natCast]
      refine bprt_w h w c lo hi ot _ ch oa on oc W slo shi d (H * V) (biA (O i 0) ch (B i)) (O i 19) x0 y0 z0 N hN5 #[Jv (O i 0), Jv 0, Jv (O i 2), Jv (O i 3), Jv (O i 4), Jv (O i 5), Jv (O i 6), Jv (O i 7), Jv (O i 8), Jv (O i 9), Jv (O i 10), Jv (O i 11), .slice wa lw cw, .slice ba lb cb, Jv (O i 14), Jv (O i 15), Jv (O i 16), Jv (O i 17), Jv (O i 18), Jv (O i 19), Jv (O i 20), Jv (O i 21)] _ _ hFm ⟨by omega, by omega⟩ (fun W' g0 q r hb hg hq hr => ?_)
      exact bhull_m h w c lo hi ot oa on oc O Z B W hL ch RL Rw hR i x wa lw cw ba lb cb x0 y0 z0 H V C hF hch slo shi hs N (biA (O i 0) ch (B i)) W' hb g0 q hg hq (fun E => paL d E ++ E) 30 #[.pointer (some ⟨r, 0, none⟩)] (enters_of Tryz.func30 (by kernel_rfl) rfl) (fun W'' v E nb hb' hE h0 hl hv hn hz => cprt_any W'' d r ((hb'.block r (lt_of_heap hr)).trans hr) (by omega) (by omega) v E nb hE h0 hl hv hn hz) (fun E hE h0 hl => fprt (by omega) (by omega) hE h0 hl)
    · rw [if_neg hd]
      exact bprt_d h w c lo hi ot _ ch oa on oc W slo shi dp (H * V) (biA (O i 0) ch (B i)) (O i 19) x0 y0 z0 N hN5 #[Jv (O i 0), Jv 0, Jv (O i 2), Jv (O i 3), Jv (O i 4), Jv (O i 5), Jv (O i 6), Jv (O i 7), Jv (O i 8), Jv (O i 9), Jv (O i 10), Jv (O i 11), .slice wa lw cw, .slice ba lb cb, Jv (O i 14), Jv (O i 15), Jv (O i 16), Jv (O i 17), Jv (O i 18), Jv (O i 19), Jv (O i 20), Jv (O i 21)] 0 0 hFm hd
end Go.Proofs.YtcphealigifdiaaGreat
