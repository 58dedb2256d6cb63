/- The walks of Total, Run, Part and Product of package bound. What Total, Run, Part and Product answer of a model: the error, or the hull. -/
import Derived.Test.YtbogpgaifbjahaaGr27
import Derived.Deep.RegionWith
import Derived.Deep.DeepCutAuto
/- The walks of Total, Run, Part and Product of package bound. -/
namespace Go.Proofs.Ytbogpgaifbjahaa
open Go.ChangeShapes Go.WideShapes Go.ChangeAt Go.RowKit Go.Shelf
set_option linter.unusedVariables false
theorem zU {P : Program} {ops : Array Oper} {md : Region.Mode} {C : World → Prop} {Q : Exit → Act → World → Prop} {fuel : Nat} {listed : Array Bool} {a : Act} {w : World} {o : Oper} (i : Nat) (hC : C w) (hr : Region.ready md ops listed = [i]) (ho : ops[i]? = some o) (hw : Region.wanted o (yielded ops a.tmps) = false)
    (h : wpAnyC Fence.wide 3 P md ops C Q fuel (listed.setIfInBounds i true) (a.put o.dst undef) w) : wpAnyC Fence.wide 3 P md ops C Q (fuel + 1) listed a w :=
  stepC i hC hr ho fun K hK => by
    rw [if_neg (by rw [hw]; decide)]
    exact ⟨fun _ _ => trivial, hK _ _ h⟩
/-- One that is not wanted is passed over first. -/
theorem takeU {F : Fence} {n : Nat} {P : Program} {ops : Array Oper} {md : Region.Mode} {C : World → Prop} {Q : Exit → Act → World → Prop} (i : Nat) {oi : Oper} {fuel : Nat} {listed : Array Bool} {a : Act} {w : World} (hro : F.round = none) (hi : ops[i]? = some oi)
    (hs : Region.noSelect ops = true) (hf : Region.free md ops listed i = true) (hr : (Region.ready md ops listed).contains i = true)
    (hQ : ∀ c a w, Q (.panic c) (a.put oi.dst undef) w → Q (.panic c) a w) (hb : ∀ w, oi.about P w a.eval = none) (hw : Region.wanted oi (yielded ops a.tmps) = false)
    (h : wpAnyC F n P md ops C Q fuel (listed.setIfInBounds i true) (a.put oi.dst undef) w) : wpAnyC F n P md ops C Q (fuel + 1) listed a w :=
  wpAnyC_first hro hi (Region.noSelect_spec hs) hQ fuel listed a w (Region.free_spec hi hf) (by simpa using hr) ⟨.inr ⟨hw, rfl⟩, hb⟩ h
set_option maxRecDepth 100000 in
set_option maxHeartbeats 2000000 in
theorem btot_e (h w c lo hi ot op ch : Int) (oa : Option Addr) (on oc : Nat) (W : World) (slo shi : Int) (E : Int) (hE : E ≠ 0) (hFd : ∀ W', Below W.heap.size W W' → Calls Try.prog 24 #[.agg #[.int .i64 h, .int .i64 w, .int .i64 c, .int .i64 lo, .int .i64 hi, .slice oa on oc, .int .i64 ot], .int .i64 op, .int .i64 ch, .agg #[.int .i64 slo, .int .i64 shi]] W' fun e w' => e = .returned (.tuple #[.agg #[.int .i64 0, .int .i64 0, .slice none 0 0, .int .i64 0, .int .i64 0, .int .i64 0, .int .i64 0, .int .i64 0, .int .i64 0, .int .i64 0, .int .i64 0, .int .i64 0, .int .i64 0, .slice none 0 0, .int .i64 0], .int .i64 E]) ∧ Below W'.heap.size W' w') : Calls Try.prog 8 #[.agg #[.int .i64 h, .int .i64 w, .int .i64 c, .int .i64 lo, .int .i64 hi, .slice oa on oc, .int .i64 ot], .int .i64 op, .int .i64 ch, .agg #[.int .i64 slo, .int .i64 shi]] W fun e w' => e = .returned (.tuple #[.agg #[.int .i64 0, .int .i64 0], .int .i64 E]) ∧ Below W.heap.size W w' := by
  have HF : Hid (∀ W', Below W.heap.size W W' → _) := hFd
  have hE' : (E == 0) = false := by simp [hE]
  have s0 := (((St.start W).new (c := #[.int .i64 h, .int .i64 w, .int .i64 c, .int .i64 lo, .int .i64 hi, .slice oa on oc, .int .i64 ot]) (t := 26)).new (c := #[.int .i64 slo, .int .i64 shi]) (t := 28)).new (c := #[.int .i64 0, .int .i64 0]) (t := 28)
  simp only [World.size_alloc] at s0
  clear hFd
  go_enter Try.func8, Try.ntmps8
  go_wp2_with fail
  refine (HF.out _ s0.below).mono ?_
  rintro e w1 ⟨rfl, hb⟩
  have s1 := (s0.call hb).new (c := #[.int .i64 0, .int .i64 0, .slice none 0 0, .int .i64 0, .int .i64 0, .int .i64 0, .int .i64 0, .int .i64 0, .int .i64 0, .int .i64 0, .int .i64 0, .int .i64 0, .int .i64 0, .slice none 0 0, .int .i64 0]) (t := 73)
  have S1 : Hid (St W _ _) := s1
  clear hb s0 HF
  go_upto_region 2 with (refine wpList_st_new rfl 73 (.tmp 10) (.tmp 18) rfl w1 _ #[.int .i64 0, .int .i64 0, .slice none 0 0, .int .i64 0, .int .i64 0, .int .i64 0, .int .i64 0, .int .i64 0, .int .i64 0, .int .i64 0, .int .i64 0, .int .i64 0, .int .i64 0, .slice none 0 0, .int .i64 0] rfl rfl (by kernel_rfl) rfl (by simp [Value.oneCell']) ?_)
  obtain ⟨w2, hw2⟩ : ∃ w2, w1.alloc (.cells #[.int .i64 0, .int .i64 0, .slice none 0 0, .int .i64 0, .int .i64 0, .int .i64 0, .int .i64 0, .int .i64 0, .int .i64 0, .int .i64 0, .int .i64 0, .int .i64 0, .int .i64 0, .slice none 0 0, .int .i64 0] 73) = w2 := ⟨_, rfl⟩
  rw [hw2] at s1 S1 ⊢
  obtain ⟨-, -, -, c1, f1, z1, -⟩ := s1.rules
  have HB : Hid (Below W.heap.size W _) := s1.tail.out2 (i := 0) (j := 1) (u := .int .i64 0) (v := .int .i64 0)
  clear s1 hw2
  go_wp2
  exact bodyPost_ret (v := .tuple #[.agg #[.int .i64 0, .int .i64 0], .int .i64 E]) (by simp [results, Try.results8, go_sem, c1]) rfl ⟨rfl, HB.out⟩
set_option maxRecDepth 100000 in
set_option maxHeartbeats 2000000 in
theorem btot_w (h w c lo hi ot op ch : Int) (oa : Option Addr) (on oc : Nat) (W : World) (slo shi : Int) (n bi p x0 y0 z0 : Int) (N : Nat) (hN : N ≤ 512) (op0 : Array Value) (TL : List (Int × Int)) (X Y : Int) (hFd : ∀ W', Below W.heap.size W W' → Calls Try.prog 24 #[.agg #[.int .i64 h, .int .i64 w, .int .i64 c, .int .i64 lo, .int .i64 hi, .slice oa on oc, .int .i64 ot], .int .i64 op, .int .i64 ch, .agg #[.int .i64 slo, .int .i64 shi]] W' fun e w' => (∃ (g0 : Nat) (fa : Option Addr) (fc : Nat), e = .returned (.tuple #[.agg #[.int .i64 ch, .int .i64 n, .slice fa N fc, .int .i64 bi, .int .i64 slo, .int .i64 shi, .int .i64 p, .int .i64 p, .int .i64 x0, .int .i64 y0, .int .i64 z0, .int .i64 0, .int .i64 0, .slice (some ⟨g0, 0, none⟩) 1 1, .int .i64 0], .int .i64 0]) ∧ w'.heap[g0]? = some (.cells op0 47 (0, 0)) ∧ W'.heap.size ≤ g0 ∧ TV w' (.slice fa N fc) TL ∧ ∀ a, fa = some a → a.block < w'.heap.size) ∧ Below W'.heap.size W' w') (gf : Nat)
    (hgf : gf = 26)
    (hHl : ∀ W' (g0 q : Nat) (fa : Option Addr) (fc : Nat), Below W.heap.size W W' → W'.heap[g0]? = some (.cells op0 47 (0, 0)) → W'.heap[q]? = some (.cells #[.int .i64 ch, .int .i64 n, .slice fa N fc, .int .i64 bi, .int .i64 slo, .int .i64 shi, .int .i64 p, .int .i64 p, .int .i64 x0, .int .i64 y0, .int .i64 z0, .int .i64 0, .int .i64 0, .slice (some ⟨g0, 0, none⟩) 1 1, .int .i64 0] 73 (0, 0)) → TV W' (.slice fa N fc) TL → (∀ a, fa = some a → a.block < W'.heap.size) → Calls Try.prog 25 #[.pointer (some ⟨q, 0, none⟩), .func (.func gf) #[] #[.pointer (some ⟨q, 0, none⟩)]] W' fun e w' => e = .returned (.agg #[.int .i64 X, .int .i64 Y]) ∧ Below W'.heap.size W' w') :
    Calls Try.prog 8 #[.agg #[.int .i64 h, .int .i64 w, .int .i64 c, .int .i64 lo, .int .i64 hi, .slice oa on oc, .int .i64 ot], .int .i64 op, .int .i64 ch, .agg #[.int .i64 slo, .int .i64 shi]] W fun e w' => e = .returned (.tuple #[.agg #[.int .i64 X, .int .i64 Y], .int .i64 0]) ∧ Below W.heap.size W w' := by
  have hmf : ∀ (fn : Fn) (first cap : Array Value) (w : World), (Instr.makeFunc fn first cap).run Try.prog w = .ok (.func fn first cap) w := fun _ _ _ _ => rfl
  have HF : Hid (∀ W', Below W.heap.size W W' → _) := hFd
  have HH : Hid (∀ W' (g0 q : Nat) (fa : Option Addr) (fc : Nat), Below W.heap.size W W' → W'.heap[g0]? = some (.cells op0 47 (0, 0)) → W'.heap[q]? = some (.cells #[.int .i64 ch, .int .i64 n, .slice fa N fc, .int .i64 bi, .int .i64 slo, .int .i64 shi, .int .i64 p, .int .i64 p, .int .i64 x0, .int .i64 y0, .int .i64 z0, .int .i64 0, .int .i64 0, .slice (some ⟨g0, 0, none⟩) 1 1, .int .i64 0] 73 (0, 0)) → TV W' (.slice fa N fc) TL → (∀ a, fa = some a → a.block < W'.heap.size) → _) := hHl
  rw [hgf] at HH
  have s0 := (((St.start W).new (c := #[.int .i64 h, .int .i64 w, .int .i64 c, .int .i64 lo, .int .i64 hi, .slice oa on oc, .int .i64 ot]) (t := 26)).new (c := #[.int .i64 slo, .int .i64 shi]) (t := 28)).new (c := #[.int .i64 0, .int .i64 0]) (t := 28)
  simp only [World.size_alloc] at s0
  clear hFd hHl hgf
  go_enter Try.func8, Try.ntmps8
  go_wp2_with fail
  refine (HF.out _ s0.below).mono ?_
  rintro e w1 ⟨⟨g0, fa, fc, rfl, hg0, -, hTv, hfb⟩, hb⟩
  have s1 := (s0.call hb).new (c := #[.int .i64 ch, .int .i64 n, .slice fa N fc, .int .i64 bi, .int .i64 slo, .int .i64 shi, .int .i64 p, .int .i64 p, .int .i64 x0, .int .i64 y0, .int .i64 z0, .int .i64 0, .int .i64 0, .slice (some ⟨g0, 0, none⟩) 1 1, .int .i64 0]) (t := 73)
  have S1 : Hid (St W _ _) := s1
  have hg1 : Hid ((w1.alloc (.cells #[.int .i64 ch, .int .i64 n, .slice fa N fc, .int .i64 bi, .int .i64 slo, .int .i64 shi, .int .i64 p, .int .i64 p, .int .i64 x0, .int .i64 y0, .int .i64 z0, .int .i64 0, .int .i64 0, .slice (some ⟨g0, 0, none⟩) 1 1, .int .i64 0] 73)).heap[g0]? = some (.cells op0 47 (0, 0))) := (heap_alloc_old w1 _ (lt_of_heap hg0)).trans hg0
  have hT1 : Hid (TV (w1.alloc (.cells #[.int .i64 ch, .int .i64 n, .slice fa N fc, .int .i64 bi, .int .i64 slo, .int .i64 shi, .int .i64 p, .int .i64 p, .int .i64 x0, .int .i64 y0, .int .i64 z0, .int .i64 0, .int .i64 0, .slice (some ⟨g0, 0, none⟩) 1 1, .int .i64 0] 73)) (.slice fa N fc) TL) := hTv.below (bal _ _)
  have hf1 : Hid (∀ a, fa = some a → a.block < (w1.alloc (.cells #[.int .i64 ch, .int .i64 n, .slice fa N fc, .int .i64 bi, .int .i64 slo, .int .i64 shi, .int .i64 p, .int .i64 p, .int .i64 x0, .int .i64 y0, .int .i64 z0, .int .i64 0, .int .i64 0, .slice (some ⟨g0, 0, none⟩) 1 1, .int .i64 0] 73)).heap.size) := fun a e => by have := hfb a e; simp; omega
  clear hb s0 HF hg0 hTv hfb
  go_upto_region 2 with (refine wpList_st_new rfl 73 (.tmp 10) (.tmp 18) rfl w1 _ #[.int .i64 ch, .int .i64 n, .slice fa N fc, .int .i64 bi, .int .i64 slo, .int .i64 shi, .int .i64 p, .int .i64 p, .int .i64 x0, .int .i64 y0, .int .i64 z0, .int .i64 0, .int .i64 0, .slice (some ⟨g0, 0, none⟩) 1 1, .int .i64 0] rfl rfl (by kernel_rfl) rfl (by simp [Value.oneCell']) ?_)
  obtain ⟨q, hq⟩ : ∃ q, w1.heap.size = q := ⟨_, rfl⟩
  obtain ⟨w2, hw2⟩ : ∃ w2, w1.alloc (.cells #[.int .i64 ch, .int .i64 n, .slice fa N fc, .int .i64 bi, .int .i64 slo, .int .i64 shi, .int .i64 p, .int .i64 p, .int .i64 x0, .int .i64 y0, .int .i64 z0, .int .i64 0, .int .i64 0, .slice (some ⟨g0, 0, none⟩) 1 1, .int .i64 0] 73) = w2 := ⟨_, rfl⟩
  rw [hw2] at S1 hg1 hT1 hf1 ⊢
  rw [hq] at S1 ⊢
  clear s1 hw2 hq
  have HC : Hid _ := HH.out w2 g0 q fa fc S1.out.below hg1.out S1.out.h1 hT1.out hf1.out
  clear HH hg1 hT1 hf1
  go_wp2_with fail
  refine Calls.mono HC.out ?_
  rintro e w3 ⟨rfl, hb⟩
  have s3 := S1.out.call hb
  obtain ⟨-, -, -, c1, f1, z1, -⟩ := s3.rules
  have HB : Hid (Below W.heap.size W _) := s3.tail.out2 (i := 0) (j := 1) (u := .int .i64 X) (v := .int .i64 Y)
  clear s3 hb S1
  go_wp2
  exact bodyPost_ret (v := .tuple #[.agg #[.int .i64 X, .int .i64 Y], .int .i64 0]) (by simp [results, Try.results8, go_sem, c1]) rfl ⟨rfl, HB.out⟩
set_option maxRecDepth 100000 in
set_option maxHeartbeats 2000000 in
theorem brun_e (h w c lo hi ot op ch : Int) (oa : Option Addr) (on oc : Nat) (W : World) (slo shi : Int) (E : Int) (hE : E ≠ 0) (hFd : ∀ W', Below W.heap.size W W' → Calls Try.prog 24 #[.agg #[.int .i64 h, .int .i64 w, .int .i64 c, .int .i64 lo, .int .i64 hi, .slice oa on oc, .int .i64 ot], .int .i64 op, .int .i64 ch, .agg #[.int .i64 slo, .int .i64 shi]] W' fun e w' => e = .returned (.tuple #[.agg #[.int .i64 0, .int .i64 0, .slice none 0 0, .int .i64 0, .int .i64 0, .int .i64 0, .int .i64 0, .int .i64 0, .int .i64 0, .int .i64 0, .int .i64 0, .int .i64 0, .int .i64 0, .slice none 0 0, .int .i64 0], .int .i64 E]) ∧ Below W'.heap.size W' w') : Calls Try.prog 9 #[.agg #[.int .i64 h, .int .i64 w, .int .i64 c, .int .i64 lo, .int .i64 hi, .slice oa on oc, .int .i64 ot], .int .i64 op, .int .i64 ch, .agg #[.int .i64 slo, .int .i64 shi]] W fun e w' => e = .returned (.tuple #[.agg #[.int .i64 0, .int .i64 0], .int .i64 E]) ∧ Below W.heap.size W w' := by
  have HF : Hid (∀ W', Below W.heap.size W W' → _) := hFd
  have hE' : (E == 0) = false := by simp [hE]
  have s0 := (((St.start W).new (c := #[.int .i64 h, .int .i64 w, .int .i64 c, .int .i64 lo, .int .i64 hi, .slice oa on oc, .int .i64 ot]) (t := 26)).new (c := #[.int .i64 slo, .int .i64 shi]) (t := 28)).new (c := #[.int .i64 0, .int .i64 0]) (t := 28)
  simp only [World.size_alloc] at s0
  clear hFd
  go_enter Try.func9, Try.ntmps9
  go_wp2_with fail
  refine (HF.out _ s0.below).mono ?_
  rintro e w1 ⟨rfl, hb⟩
  have s1 := (s0.call hb).new (c := #[.int .i64 0, .int .i64 0, .slice none 0 0, .int .i64 0, .int .i64 0, .int .i64 0, .int .i64 0, .int .i64 0, .int .i64 0, .int .i64 0, .int .i64 0, .int .i64 0, .int .i64 0, .slice none 0 0, .int .i64 0]) (t := 73)
  have S1 : Hid (St W _ _) := s1
  clear hb s0 HF
  go_upto_region 2 with (refine wpList_st_new rfl 73 (.tmp 10) (.tmp 18) rfl w1 _ #[.int .i64 0, .int .i64 0, .slice none 0 0, .int .i64 0, .int .i64 0, .int .i64 0, .int .i64 0, .int .i64 0, .int .i64 0, .int .i64 0, .int .i64 0, .int .i64 0, .int .i64 0, .slice none 0 0, .int .i64 0] rfl rfl (by kernel_rfl) rfl (by simp [Value.oneCell']) ?_)
  obtain ⟨w2, hw2⟩ : ∃ w2, w1.alloc (.cells #[.int .i64 0, .int .i64 0, .slice none 0 0, .int .i64 0, .int .i64 0, .int .i64 0, .int .i64 0, .int .i64 0, .int .i64 0, .int .i64 0, .int .i64 0, .int .i64 0, .int .i64 0, .slice none 0 0, .int .i64 0] 73) = w2 := ⟨_, rfl⟩
  rw [hw2] at s1 S1 ⊢
  obtain ⟨-, -, -, c1, f1, z1, -⟩ := s1.rules
  have HB : Hid (Below W.heap.size W _) := s1.tail.out2 (i := 0) (j := 1) (u := .int .i64 0) (v := .int .i64 0)
  clear s1 hw2
  go_wp2
  exact bodyPost_ret (v := .tuple #[.agg #[.int .i64 0, .int .i64 0], .int .i64 E]) (by simp [results, Try.results9, go_sem, c1]) rfl ⟨rfl, HB.out⟩
set_option maxRecDepth 100000 in
set_option maxHeartbeats 2000000 in
theorem brun_w (h w c lo hi ot op ch : Int) (oa : Option Addr) (on oc : Nat) (W : World) (slo shi : Int) (n bi p x0 y0 z0 : Int) (N : Nat) (hN : N ≤ 512) (op0 : Array Value) (TL : List (Int × Int)) (X Y : Int) (hFd : ∀ W', Below W.heap.size W W' → Calls Try.prog 24 #[.agg #[.int .i64 h, .int .i64 w, .int .i64 c, .int .i64 lo, .int .i64 hi, .slice oa on oc, .int .i64 ot], .int .i64 op, .int .i64 ch, .agg #[.int .i64 slo, .int .i64 shi]] W' fun e w' => (∃ (g0 : Nat) (fa : Option Addr) (fc : Nat), e = .returned (.tuple #[.agg #[.int .i64 ch, .int .i64 n, .slice fa N fc, .int .i64 bi, .int .i64 slo, .int .i64 shi, .int .i64 p, .int .i64 p, .int .i64 x0, .int .i64 y0, .int .i64 z0, .int .i64 0, .int .i64 0, .slice (some ⟨g0, 0, none⟩) 1 1, .int .i64 0], .int .i64 0]) ∧ w'.heap[g0]? = some (.cells op0 47 (0, 0)) ∧ W'.heap.size ≤ g0 ∧ TV w' (.slice fa N fc) TL ∧ ∀ a, fa = some a → a.block < w'.heap.size) ∧ Below W'.heap.size W' w') (gf : Nat)
    (hgf : gf = 30)
    (hHl : ∀ W' (g0 q : Nat) (fa : Option Addr) (fc : Nat), Below W.heap.size W W' → W'.heap[g0]? = some (.cells op0 47 (0, 0)) → W'.heap[q]? = some (.cells #[.int .i64 ch, .int .i64 n, .slice fa N fc, .int .i64 bi, .int .i64 slo, .int .i64 shi, .int .i64 p, .int .i64 p, .int .i64 x0, .int .i64 y0, .int .i64 z0, .int .i64 0, .int .i64 0, .slice (some ⟨g0, 0, none⟩) 1 1, .int .i64 0] 73 (0, 0)) → TV W' (.slice fa N fc) TL → (∀ a, fa = some a → a.block < W'.heap.size) → Calls Try.prog 25 #[.pointer (some ⟨q, 0, none⟩), .func (.func gf) #[] #[.pointer (some ⟨q, 0, none⟩)]] W' fun e w' => e = .returned (.agg #[.int .i64 X, .int .i64 Y]) ∧ Below W'.heap.size W' w') :
    Calls Try.prog 9 #[.agg #[.int .i64 h, .int .i64 w, .int .i64 c, .int .i64 lo, .int .i64 hi, .slice oa on oc, .int .i64 ot], .int .i64 op, .int .i64 ch, .agg #[.int .i64 slo, .int .i64 shi]] W fun e w' => e = .returned (.tuple #[.agg #[.int .i64 X, .int .i64 Y], .int .i64 0]) ∧ Below W.heap.size W w' := by
  have hmf : ∀ (fn : Fn) (first cap : Array Value) (w : World), (Instr.makeFunc fn first cap).run Try.prog w = .ok (.func fn first cap) w := fun _ _ _ _ => rfl
  have HF : Hid (∀ W', Below W.heap.size W W' → _) := hFd
  have HH : Hid (∀ W' (g0 q : Nat) (fa : Option Addr) (fc : Nat), Below W.heap.size W W' → W'.heap[g0]? = some (.cells op0 47 (0, 0)) → W'.heap[q]? = some (.cells #[.int .i64 ch, .int .i64 n, .slice fa N fc, .int .i64 bi, .int .i64 slo, .int .i64 shi, .int .i64 p, .int .i64 p, .int .i64 x0, .int .i64 y0, .int .i64 z0, .int .i64 0, .int .i64 0, .slice (some ⟨g0, 0, none⟩) 1 1, .int .i64 0] 73 (0, 0)) → TV W' (.slice fa N fc) TL → (∀ a, fa = some a → a.block < W'.heap.size) → _) := hHl
  rw [hgf] at HH
  have s0 := (((St.start W).new (c := #[.int .i64 h, .int .i64 w, .int .i64 c, .int .i64 lo, .int .i64 hi, .slice oa on oc, .int .i64 ot]) (t := 26)).new (c := #[.int .i64 slo, .int .i64 shi]) (t := 28)).new (c := #[.int .i64 0, .int .i64 0]) (t := 28)
  simp only [World.size_alloc] at s0
  clear hFd hHl hgf
  go_enter Try.func9, Try.ntmps9
  go_wp2_with fail
  refine (HF.out _ s0.below).mono ?_
  rintro e w1 ⟨⟨g0, fa, fc, rfl, hg0, -, hTv, hfb⟩, hb⟩
  have s1 := (s0.call hb).new (c := #[.int .i64 ch, .int .i64 n, .slice fa N fc, .int .i64 bi, .int .i64 slo, .int .i64 shi, .int .i64 p, .int .i64 p, .int .i64 x0, .int .i64 y0, .int .i64 z0, .int .i64 0, .int .i64 0, .slice (some ⟨g0, 0, none⟩) 1 1, .int .i64 0]) (t := 73)
  have S1 : Hid (St W _ _) := s1
  have hg1 : Hid ((w1.alloc (.cells #[.int .i64 ch, .int .i64 n, .slice fa N fc, .int .i64 bi, .int .i64 slo, .int .i64 shi, .int .i64 p, .int .i64 p, .int .i64 x0, .int .i64 y0, .int .i64 z0, .int .i64 0, .int .i64 0, .slice (some ⟨g0, 0, none⟩) 1 1, .int .i64 0] 73)).heap[g0]? = some (.cells op0 47 (0, 0))) := (heap_alloc_old w1 _ (lt_of_heap hg0)).trans hg0
  have hT1 : Hid (TV (w1.alloc (.cells #[.int .i64 ch, .int .i64 n, .slice fa N fc, .int .i64 bi, .int .i64 slo, .int .i64 shi, .int .i64 p, .int .i64 p, .int .i64 x0, .int .i64 y0, .int .i64 z0, .int .i64 0, .int .i64 0, .slice (some ⟨g0, 0, none⟩) 1 1, .int .i64 0] 73)) (.slice fa N fc) TL) := hTv.below (bal _ _)
  have hf1 : Hid (∀ a, fa = some a → a.block < (w1.alloc (.cells #[.int .i64 ch, .int .i64 n, .slice fa N fc, .int .i64 bi, .int .i64 slo, .int .i64 shi, .int .i64 p, .int .i64 p, .int .i64 x0, .int .i64 y0, .int .i64 z0, .int .i64 0, .int .i64 0, .slice (some ⟨g0, 0, none⟩) 1 1, .int .i64 0] 73)).heap.size) := fun a e => by have := hfb a e; simp; omega
  clear hb s0 HF hg0 hTv hfb
  go_upto_region 2 with (refine wpList_st_new rfl 73 (.tmp 10) (.tmp 18) rfl w1 _ #[.int .i64 ch, .int .i64 n, .slice fa N fc, .int .i64 bi, .int .i64 slo, .int .i64 shi, .int .i64 p, .int .i64 p, .int .i64 x0, .int .i64 y0, .int .i64 z0, .int .i64 0, .int .i64 0, .slice (some ⟨g0, 0, none⟩) 1 1, .int .i64 0] rfl rfl (by kernel_rfl) rfl (by simp [Value.oneCell']) ?_)
  obtain ⟨q, hq⟩ : ∃ q, w1.heap.size = q := ⟨_, rfl⟩
  obtain ⟨w2, hw2⟩ : ∃ w2, w1.alloc (.cells #[.int .i64 ch, .int .i64 n, .slice fa N fc, .int .i64 bi, .int .i64 slo, .int .i64 shi, .int .i64 p, .int .i64 p, .int .i64 x0, .int .i64 y0, .int .i64 z0, .int .i64 0, .int .i64 0, .slice (some ⟨g0, 0, none⟩) 1 1, .int .i64 0] 73) = w2 := ⟨_, rfl⟩
  rw [hw2] at S1 hg1 hT1 hf1 ⊢
  rw [hq] at S1 ⊢
  clear s1 hw2 hq
  have HC : Hid _ := HH.out w2 g0 q fa fc S1.out.below hg1.out S1.out.h1 hT1.out hf1.out
  clear HH hg1 hT1 hf1
  go_wp2_with fail
  refine Calls.mono HC.out ?_
  rintro e w3 ⟨rfl, hb⟩
  have s3 := S1.out.call hb
  obtain ⟨-, -, -, c1, f1, z1, -⟩ := s3.rules
  have HB : Hid (Below W.heap.size W _) := s3.tail.out2 (i := 0) (j := 1) (u := .int .i64 X) (v := .int .i64 Y)
  clear s3 hb S1
  go_wp2
  exact bodyPost_ret (v := .tuple #[.agg #[.int .i64 X, .int .i64 Y], .int .i64 0]) (by simp [results, Try.results9, go_sem, c1]) rfl ⟨rfl, HB.out⟩
set_option maxRecDepth 100000 in
set_option maxHeartbeats 2000000 in
theorem bprd_e (h w c lo hi ot op ch : Int) (oa : Option Addr) (on oc : Nat) (W : World) (slo shi : Int) (E : Int) (hE : E ≠ 0) (hFd : ∀ W', Below W.heap.size W W' → Calls Try.prog 24 #[.agg #[.int .i64 h, .int .i64 w, .int .i64 c, .int .i64 lo, .int .i64 hi, .slice oa on oc, .int .i64 ot], .int .i64 op, .int .i64 ch, .agg #[.int .i64 slo, .int .i64 shi]] W' fun e w' => e = .returned (.tuple #[.agg #[.int .i64 0, .int .i64 0, .slice none 0 0, .int .i64 0, .int .i64 0, .int .i64 0, .int .i64 0, .int .i64 0, .int .i64 0, .int .i64 0, .int .i64 0, .int .i64 0, .int .i64 0, .slice none 0 0, .int .i64 0], .int .i64 E]) ∧ Below W'.heap.size W' w') : Calls Try.prog 11 #[.agg #[.int .i64 h, .int .i64 w, .int .i64 c, .int .i64 lo, .int .i64 hi, .slice oa on oc, .int .i64 ot], .int .i64 op, .int .i64 ch, .agg #[.int .i64 slo, .int .i64 shi]] W fun e w' => e = .returned (.tuple #[.agg #[.int .i64 0, .int .i64 0], .int .i64 E]) ∧ Below W.heap.size W w' := by
  have HF : Hid (∀ W', Below W.heap.size W W' → _) := hFd
  have hE' : (E == 0) = false := by simp [hE]
  have s0 := (((St.start W).new (c := #[.int .i64 h, .int .i64 w, .int .i64 c, .int .i64 lo, .int .i64 hi, .slice oa on oc, .int .i64 ot]) (t := 26)).new (c := #[.int .i64 slo, .int .i64 shi]) (t := 28)).new (c := #[.int .i64 0, .int .i64 0]) (t := 28)
  simp only [World.size_alloc] at s0
  clear hFd
  go_enter Try.func11, Try.ntmps11
  go_wp2_with fail
  refine (HF.out _ s0.below).mono ?_
  rintro e w1 ⟨rfl, hb⟩
  have s1 := (s0.call hb).new (c := #[.int .i64 0, .int .i64 0, .slice none 0 0, .int .i64 0, .int .i64 0, .int .i64 0, .int .i64 0, .int .i64 0, .int .i64 0, .int .i64 0, .int .i64 0, .int .i64 0, .int .i64 0, .slice none 0 0, .int .i64 0]) (t := 73)
  have S1 : Hid (St W _ _) := s1
  clear hb s0 HF
  go_upto_region 2 with (refine wpList_st_new rfl 73 (.tmp 10) (.tmp 18) rfl w1 _ #[.int .i64 0, .int .i64 0, .slice none 0 0, .int .i64 0, .int .i64 0, .int .i64 0, .int .i64 0, .int .i64 0, .int .i64 0, .int .i64 0, .int .i64 0, .int .i64 0, .int .i64 0, .slice none 0 0, .int .i64 0] rfl rfl (by kernel_rfl) rfl (by simp [Value.oneCell']) ?_)
  obtain ⟨w2, hw2⟩ : ∃ w2, w1.alloc (.cells #[.int .i64 0, .int .i64 0, .slice none 0 0, .int .i64 0, .int .i64 0, .int .i64 0, .int .i64 0, .int .i64 0, .int .i64 0, .int .i64 0, .int .i64 0, .int .i64 0, .int .i64 0, .slice none 0 0, .int .i64 0] 73) = w2 := ⟨_, rfl⟩
  rw [hw2] at s1 S1 ⊢
  obtain ⟨-, -, -, c1, f1, z1, -⟩ := s1.rules
  have HB : Hid (Below W.heap.size W _) := s1.tail.out2 (i := 0) (j := 1) (u := .int .i64 0) (v := .int .i64 0)
  clear s1 hw2
  go_wp2
  exact bodyPost_ret (v := .tuple #[.agg #[.int .i64 0, .int .i64 0], .int .i64 E]) (by simp [results, Try.results11, go_sem, c1]) rfl ⟨rfl, HB.out⟩
set_option maxRecDepth 100000 in
set_option maxHeartbeats 2000000 in
theorem bprd_w (h w c lo hi ot op ch : Int) (oa : Option Addr) (on oc : Nat) (W : World) (slo shi : Int) (n bi p x0 y0 z0 : Int) (N : Nat) (hN : N ≤ 512) (op0 : Array Value) (TL : List (Int × Int)) (X Y : Int) (hFd : ∀ W', Below W.heap.size W W' → Calls Try.prog 24 #[.agg #[.int .i64 h, .int .i64 w, .int .i64 c, .int .i64 lo, .int .i64 hi, .slice oa on oc, .int .i64 ot], .int .i64 op, .int .i64 ch, .agg #[.int .i64 slo, .int .i64 shi]] W' fun e w' => (∃ (g0 : Nat) (fa : Option Addr) (fc : Nat), e = .returned (.tuple #[.agg #[.int .i64 ch, .int .i64 n, .slice fa N fc, .int .i64 bi, .int .i64 slo, .int .i64 shi, .int .i64 p, .int .i64 p, .int .i64 x0, .int .i64 y0, .int .i64 z0, .int .i64 0, .int .i64 0, .slice (some ⟨g0, 0, none⟩) 1 1, .int .i64 0], .int .i64 0]) ∧ w'.heap[g0]? = some (.cells op0 47 (0, 0)) ∧ W'.heap.size ≤ g0 ∧ TV w' (.slice fa N fc) TL ∧ ∀ a, fa = some a → a.block < w'.heap.size) ∧ Below W'.heap.size W' w') (gf : Nat)
    (hgf : gf = 34)
    (hHl : ∀ W' (g0 q : Nat) (fa : Option Addr) (fc : Nat), Below W.heap.size W W' → W'.heap[g0]? = some (.cells op0 47 (0, 0)) → W'.heap[q]? = some (.cells #[.int .i64 ch, .int .i64 n, .slice fa N fc, .int .i64 bi, .int .i64 slo, .int .i64 shi, .int .i64 p, .int .i64 p, .int .i64 x0, .int .i64 y0, .int .i64 z0, .int .i64 0, .int .i64 0, .slice (some ⟨g0, 0, none⟩) 1 1, .int .i64 0] 73 (0, 0)) → TV W' (.slice fa N fc) TL → (∀ a, fa = some a → a.block < W'.heap.size) → Calls Try.prog 25 #[.pointer (some ⟨q, 0, none⟩), .func (.func gf) #[] #[]] W' fun e w' => e = .returned (.agg #[.int .i64 X, .int .i64 Y]) ∧ Below W'.heap.size W' w') :
    Calls Try.prog 11 #[.agg #[.int .i64 h, .int .i64 w, .int .i64 c, .int .i64 lo, .int .i64 hi, .slice oa on oc, .int .i64 ot], .int .i64 op, .int .i64 ch, .agg #[.int .i64 slo, .int .i64 shi]] W fun e w' => e = .returned (.tuple #[.agg #[.int .i64 X, .int .i64 Y], .int .i64 0]) ∧ Below W.heap.size W w' := by
  have hmf : ∀ (fn : Fn) (first cap : Array Value) (w : World), (Instr.makeFunc fn first cap).run Try.prog w = .ok (.func fn first cap) w := fun _ _ _ _ => rfl
  have HF : Hid (∀ W', Below W.heap.size W W' → _) := hFd
  have HH : Hid (∀ W' (g0 q : Nat) (fa : Option Addr) (fc : Nat), Below W.heap.size W W' → W'.heap[g0]? = some (.cells op0 47 (0, 0)) → W'.heap[q]? = some (.cells #[.int .i64 ch, .int .i64 n, .slice fa N fc, .int .i64 bi, .int .i64 slo, .int .i64 shi, .int .i64 p, .int .i64 p, .int .i64 x0, .int .i64 y0, .int .i64 z0, .int .i64 0, .int .i64 0, .slice (some ⟨g0, 0, none⟩) 1 1, .int .i64 0] 73 (0, 0)) → TV W' (.slice fa N fc) TL → (∀ a, fa = some a → a.block < W'.heap.size) → _) := hHl
  rw [hgf] at HH
  have s0 := (((St.start W).new (c := #[.int .i64 h, .int .i64 w, .int .i64 c, .int .i64 lo, .int .i64 hi, .slice oa on oc, .int .i64 ot]) (t := 26)).new (c := #[.int .i64 slo, .int .i64 shi]) (t := 28)).new (c := #[.int .i64 0, .int .i64 0]) (t := 28)
  simp only [World.size_alloc] at s0
  clear hFd hHl hgf
  go_enter Try.func11, Try.ntmps11
  go_wp2_with fail
  refine (HF.out _ s0.below).mono ?_
  rintro e w1 ⟨⟨g0, fa, fc, rfl, hg0, -, hTv, hfb⟩, hb⟩
  have s1 := (s0.call hb).new (c := #[.int .i64 ch, .int .i64 n, .slice fa N fc, .int .i64 bi, .int .i64 slo, .int .i64 shi, .int .i64 p, .int .i64 p, .int .i64 x0, .int .i64 y0, .int .i64 z0, .int .i64 0, .int .i64 0, .slice (some ⟨g0, 0, none⟩) 1 1, .int .i64 0]) (t := 73)
  have S1 : Hid (St W _ _) := s1
  have hg1 : Hid ((w1.alloc (.cells #[.int .i64 ch, .int .i64 n, .slice fa N fc, .int .i64 bi, .int .i64 slo, .int .i64 shi, .int .i64 p, .int .i64 p, .int .i64 x0, .int .i64 y0, .int .i64 z0, .int .i64 0, .int .i64 0, .slice (some ⟨g0, 0, none⟩) 1 1, .int .i64 0] 73)).heap[g0]? = some (.cells op0 47 (0, 0))) := (heap_alloc_old w1 _ (lt_of_heap hg0)).trans hg0
  have hT1 : Hid (TV (w1.alloc (.cells #[.int .i64 ch, .int .i64 n, .slice fa N fc, .int .i64 bi, .int .i64 slo, .int .i64 shi, .int .i64 p, .int .i64 p, .int .i64 x0, .int .i64 y0, .int .i64 z0, .int .i64 0, .int .i64 0, .slice (some ⟨g0, 0, none⟩) 1 1, .int .i64 0] 73)) (.slice fa N fc) TL) := hTv.below (bal _ _)
  have hf1 : Hid (∀ a, fa = some a → a.block < (w1.alloc (.cells #[.int .i64 ch, .int .i64 n, .slice fa N fc, .int .i64 bi, .int .i64 slo, .int .i64 shi, .int .i64 p, .int .i64 p, .int .i64 x0, .int .i64 y0, .int .i64 z0, .int .i64 0, .int .i64 0, .slice (some ⟨g0, 0, none⟩) 1 1, .int .i64 0] 73)).heap.size) := fun a e => by have := hfb a e; simp; omega
  clear hb s0 HF hg0 hTv hfb
  go_upto_region 2 with (refine wpList_st_new rfl 73 (.tmp 10) (.tmp 18) rfl w1 _ #[.int .i64 ch, .int .i64 n, .slice fa N fc, .int .i64 bi, .int .i64 slo, .int .i64 shi, .int .i64 p, .int .i64 p, .int .i64 x0, .int .i64 y0, .int .i64 z0, .int .i64 0, .int .i64 0, .slice (some ⟨g0, 0, none⟩) 1 1, .int .i64 0] rfl rfl (by kernel_rfl) rfl (by simp [Value.oneCell']) ?_)
  obtain ⟨q, hq⟩ : ∃ q, w1.heap.size = q := ⟨_, rfl⟩
  obtain ⟨w2, hw2⟩ : ∃ w2, w1.alloc (.cells #[.int .i64 ch, .int .i64 n, .slice fa N fc, .int .i64 bi, .int .i64 slo, .int .i64 shi, .int .i64 p, .int .i64 p, .int .i64 x0, .int .i64 y0, .int .i64 z0, .int .i64 0, .int .i64 0, .slice (some ⟨g0, 0, none⟩) 1 1, .int .i64 0] 73) = w2 := ⟨_, rfl⟩
  rw [hw2] at S1 hg1 hT1 hf1 ⊢
  rw [hq] at S1 ⊢
  clear s1 hw2 hq
  have HC : Hid _ := HH.out w2 g0 q fa fc S1.out.below hg1.out S1.out.h1 hT1.out hf1.out
  clear HH hg1 hT1 hf1
  go_wp2_with fail
  refine Calls.mono HC.out ?_
  rintro e w3 ⟨rfl, hb⟩
  have s3 := S1.out.call hb
  obtain ⟨-, -, -, c1, f1, z1, -⟩ := s3.rules
  have HB : Hid (Below W.heap.size W _) := s3.tail.out2 (i := 0) (j := 1) (u := .int .i64 X) (v := .int .i64 Y)
  clear s3 hb S1
  go_wp2
  exact bodyPost_ret (v := .tuple #[.agg #[.int .i64 X, .int .i64 Y], .int .i64 0]) (by simp [results, Try.results11, go_sem, c1]) rfl ⟨rfl, HB.out⟩
set_option maxRecDepth 100000 in
set_option maxHeartbeats 2000000 in
theorem bprt_e (h w c lo hi ot op ch : Int) (oa : Option Addr) (on oc : Nat) (W : World) (slo shi : Int) (dp : Int) (E : Int) (hE : E ≠ 0) (hFd : ∀ W', Below W.heap.size W W' → Calls Try.prog 24 #[.agg #[.int .i64 h, .int .i64 w, .int .i64 c, .int .i64 lo, .int .i64 hi, .slice oa on oc, .int .i64 ot], .int .i64 op, .int .i64 ch, .agg #[.int .i64 slo, .int .i64 shi]] W' fun e w' => e = .returned (.tuple #[.agg #[.int .i64 0, .int .i64 0, .slice none 0 0, .int .i64 0, .int .i64 0, .int .i64 0, .int .i64 0, .int .i64 0, .int .i64 0, .int .i64 0, .int .i64 0, .int .i64 0, .int .i64 0, .slice none 0 0, .int .i64 0], .int .i64 E]) ∧ Below W'.heap.size W' w') : Calls Try.prog 10 #[.agg #[.int .i64 h, .int .i64 w, .int .i64 c, .int .i64 lo, .int .i64 hi, .slice oa on oc, .int .i64 ot], .int .i64 op, .int .i64 ch, .agg #[.int .i64 slo, .int .i64 shi], .int .i64 dp] W fun e w' => e = .returned (.tuple #[.agg #[.int .i64 0, .int .i64 0], .int .i64 E]) ∧ Below W.heap.size W w' := by
  have HF : Hid (∀ W', Below W.heap.size W W' → _) := hFd
  have hE' : (E == 0) = false := by simp [hE]
  have s0 := ((((St.start W).new (c := #[.int .i64 h, .int .i64 w, .int .i64 c, .int .i64 lo, .int .i64 hi, .slice oa on oc, .int .i64 ot]) (t := 26)).new (c := #[.int .i64 slo, .int .i64 shi]) (t := 28)).new (c := #[.int .i64 dp]) (t := 3)).new (c := #[.int .i64 0, .int .i64 0]) (t := 28)
  simp only [World.size_alloc] at s0
  clear hFd
  go_enter Try.func10, Try.ntmps10
  go_wp2_with fail
  refine (HF.out _ s0.below).mono ?_
  rintro e w1 ⟨rfl, hb⟩
  have s1 := (s0.call hb).new (c := #[.int .i64 0, .int .i64 0, .slice none 0 0, .int .i64 0, .int .i64 0, .int .i64 0, .int .i64 0, .int .i64 0, .int .i64 0, .int .i64 0, .int .i64 0, .int .i64 0, .int .i64 0, .slice none 0 0, .int .i64 0]) (t := 73)
  clear hb s0 HF
  go_upto_region 2 with (refine wpList_st_new rfl 73 (.tmp 12) (.tmp 20) rfl w1 _ #[.int .i64 0, .int .i64 0, .slice none 0 0, .int .i64 0, .int .i64 0, .int .i64 0, .int .i64 0, .int .i64 0, .int .i64 0, .int .i64 0, .int .i64 0, .int .i64 0, .int .i64 0, .slice none 0 0, .int .i64 0] rfl rfl (by kernel_rfl) rfl (by simp [Value.oneCell']) ?_)
  obtain ⟨w2, hw2⟩ : ∃ w2, w1.alloc (.cells #[.int .i64 0, .int .i64 0, .slice none 0 0, .int .i64 0, .int .i64 0, .int .i64 0, .int .i64 0, .int .i64 0, .int .i64 0, .int .i64 0, .int .i64 0, .int .i64 0, .int .i64 0, .slice none 0 0, .int .i64 0] 73) = w2 := ⟨_, rfl⟩
  rw [hw2] at s1 ⊢
  obtain ⟨-, -, -, c1, f1, z1, -⟩ := s1.rules
  have HB : Hid (Below W.heap.size W _) := s1.tail.out2 (i := 0) (j := 1) (u := .int .i64 0) (v := .int .i64 0)
  clear s1 hw2
  go_wp2
  exact bodyPost_ret (v := .tuple #[.agg #[.int .i64 0, .int .i64 0], .int .i64 E]) (by simp [results, Try.results10, go_sem, c1]) rfl ⟨rfl, HB.out⟩
set_option maxRecDepth 100000 in
set_option maxHeartbeats 4000000 in
theorem bprt_d (h w c lo hi ot op ch : Int) (oa : Option Addr) (on oc : Nat) (W : World) (slo shi : Int) (dp : Int) (n bi p x0 y0 z0 : Int) (N : Nat) (hN : N ≤ 512) (op0 : Array Value) (TL : List (Int × Int)) (X Y : Int) (hFd : ∀ W', Below W.heap.size W W' → Calls Try.prog 24 #[.agg #[.int .i64 h, .int .i64 w, .int .i64 c, .int .i64 lo, .int .i64 hi, .slice oa on oc, .int .i64 ot], .int .i64 op, .int .i64 ch, .agg #[.int .i64 slo, .int .i64 shi]] W' fun e w' => (∃ (g0 : Nat) (fa : Option Addr) (fc : Nat), e = .returned (.tuple #[.agg #[.int .i64 ch, .int .i64 n, .slice fa N fc, .int .i64 bi, .int .i64 slo, .int .i64 shi, .int .i64 p, .int .i64 p, .int .i64 x0, .int .i64 y0, .int .i64 z0, .int .i64 0, .int .i64 0, .slice (some ⟨g0, 0, none⟩) 1 1, .int .i64 0], .int .i64 0]) ∧ w'.heap[g0]? = some (.cells op0 47 (0, 0)) ∧ W'.heap.size ≤ g0 ∧ TV w' (.slice fa N fc) TL ∧ ∀ a, fa = some a → a.block < w'.heap.size) ∧ Below W'.heap.size W' w') (hd : ¬ (1 ≤ dp ∧ dp ≤ (N : Int))) : Calls Try.prog 10 #[.agg #[.int .i64 h, .int .i64 w, .int .i64 c, .int .i64 lo, .int .i64 hi, .slice oa on oc, .int .i64 ot], .int .i64 op, .int .i64 ch, .agg #[.int .i64 slo, .int .i64 shi], .int .i64 dp] W fun e w' => e = .returned (.tuple #[.agg #[.int .i64 0, .int .i64 0], .int .i64 151]) ∧ Below W.heap.size W w' := by
  have HF : Hid (∀ W', Below W.heap.size W W' → _) := hFd
  have s0 := ((((St.start W).new (c := #[.int .i64 h, .int .i64 w, .int .i64 c, .int .i64 lo, .int .i64 hi, .slice oa on oc, .int .i64 ot]) (t := 26)).new (c := #[.int .i64 slo, .int .i64 shi]) (t := 28)).new (c := #[.int .i64 dp]) (t := 3)).new (c := #[.int .i64 0, .int .i64 0]) (t := 28)
  simp only [World.size_alloc] at s0
  clear hFd
  by_cases d1 : dp < 1
  · clear hd
    go_enter Try.func10, Try.ntmps10
    go_wp2_with fail
    refine (HF.out _ s0.below).mono ?_
    rintro e w1 ⟨⟨g0, fa, fc, rfl, -, -, -, -⟩, hb⟩
    have s1 := (s0.call hb).new (c := #[.int .i64 ch, .int .i64 n, .slice fa N fc, .int .i64 bi, .int .i64 slo, .int .i64 shi, .int .i64 p, .int .i64 p, .int .i64 x0, .int .i64 y0, .int .i64 z0, .int .i64 0, .int .i64 0, .slice (some ⟨g0, 0, none⟩) 1 1, .int .i64 0]) (t := 73)
    clear hb s0 HF
    go_upto_region 2 with (refine wpList_st_new rfl 73 (.tmp 12) (.tmp 20) rfl w1 _ #[.int .i64 ch, .int .i64 n, .slice fa N fc, .int .i64 bi, .int .i64 slo, .int .i64 shi, .int .i64 p, .int .i64 p, .int .i64 x0, .int .i64 y0, .int .i64 z0, .int .i64 0, .int .i64 0, .slice (some ⟨g0, 0, none⟩) 1 1, .int .i64 0] rfl rfl (by kernel_rfl) rfl (by simp [Value.oneCell']) ?_)
    obtain ⟨q, hq⟩ : ∃ q, w1.heap.size = q := ⟨_, rfl⟩
    obtain ⟨w2, hw2⟩ : ∃ w2, w1.alloc (.cells #[.int .i64 ch, .int .i64 n, .slice fa N fc, .int .i64 bi, .int .i64 slo, .int .i64 shi, .int .i64 p, .int .i64 p, .int .i64 x0, .int .i64 y0, .int .i64 z0, .int .i64 0, .int .i64 0, .slice (some ⟨g0, 0, none⟩) 1 1, .int .i64 0] 73) = w2 := ⟨_, rfl⟩
    rw [hw2] at s1 ⊢
    rw [hq] at s1 ⊢
    have S1 : Hid (St W w2 _) := s1
    clear hw2 hq s1
    obtain ⟨c1, f1, z1, c2, f2, z2, c3, f3, z3, -⟩ := S1.out.rules
    go_upto_region 4 with fail
    go_cut [32] from 26 to 31 (fun v wx => v = .bool true ∧ ∃ j, wx = w2.drewN j)
    case first =>
      go_quiet (fail)
      go_wp2
      go_meet
      case rel => exact ⟨rfl, _, rfl⟩
    case rest =>
      obtain ⟨rfl, j, rfl⟩ := hcut
      clear c1 f1 z1 c2 f2 z2 c3 f3 z3
      have s5 := S1.out.call (dbel w2 j)
      obtain ⟨wd, hwd⟩ : ∃ wd, w2.drewN j = wd := ⟨_, rfl⟩
      rw [hwd] at s5 ⊢
      obtain ⟨-, -, -, c1, f1, z1, -⟩ := s5.rules
      have HB : Hid (Below W.heap.size W _) := s5.tail.out2 (i := 0) (j := 1) (u := .int .i64 0) (v := .int .i64 0)
      clear s5 S1 hwd
      go_wp2
      exact bodyPost_ret (v := .tuple #[.agg #[.int .i64 0, .int .i64 0], .int .i64 151]) (by simp [results, Try.results10, go_sem, c1]) rfl ⟨rfl, HB.out⟩
  · have d2 : (N : Int) < dp := by omega
    clear hd
    go_enter Try.func10, Try.ntmps10
    go_wp2_with fail
    refine (HF.out _ s0.below).mono ?_
    rintro e w1 ⟨⟨g0, fa, fc, rfl, -, -, -, -⟩, hb⟩
    have s1 := (s0.call hb).new (c := #[.int .i64 ch, .int .i64 n, .slice fa N fc, .int .i64 bi, .int .i64 slo, .int .i64 shi, .int .i64 p, .int .i64 p, .int .i64 x0, .int .i64 y0, .int .i64 z0, .int .i64 0, .int .i64 0, .slice (some ⟨g0, 0, none⟩) 1 1, .int .i64 0]) (t := 73)
    clear hb s0 HF
    go_upto_region 2 with (refine wpList_st_new rfl 73 (.tmp 12) (.tmp 20) rfl w1 _ #[.int .i64 ch, .int .i64 n, .slice fa N fc, .int .i64 bi, .int .i64 slo, .int .i64 shi, .int .i64 p, .int .i64 p, .int .i64 x0, .int .i64 y0, .int .i64 z0, .int .i64 0, .int .i64 0, .slice (some ⟨g0, 0, none⟩) 1 1, .int .i64 0] rfl rfl (by kernel_rfl) rfl (by simp [Value.oneCell']) ?_)
    obtain ⟨q, hq⟩ : ∃ q, w1.heap.size = q := ⟨_, rfl⟩
    obtain ⟨w2, hw2⟩ : ∃ w2, w1.alloc (.cells #[.int .i64 ch, .int .i64 n, .slice fa N fc, .int .i64 bi, .int .i64 slo, .int .i64 shi, .int .i64 p, .int .i64 p, .int .i64 x0, .int .i64 y0, .int .i64 z0, .int .i64 0, .int .i64 0, .slice (some ⟨g0, 0, none⟩) 1 1, .int .i64 0] 73) = w2 := ⟨_, rfl⟩
    rw [hw2] at s1 ⊢
    rw [hq] at s1 ⊢
    have S1 : Hid (St W w2 _) := s1
    clear hw2 hq s1
    have HLN : Hid (∀ j, Calls Try.prog 31 _ (w2.drewN j) _) := fun j => blen_any ch n fa N fc bi slo shi p x0 y0 z0 g0 q (w2.drewN j) (S1.out.call (dbel w2 j)).h1
    obtain ⟨c1, f1, z1, c2, f2, z2, c3, f3, z3, -⟩ := S1.out.rules
    go_upto_region 4 with fail
    go_cut [32] from 26 to 31 (fun v wx => v = .bool true ∧ ∃ j, wx = w2.drewN j)
    case first =>
      go_quiet ((go_at_call 31; exact Calls.quiet_of_same (HLN.out _)))
      go_wp2
      go_meet
      case rel => exact ⟨rfl, _, rfl⟩
    case rest =>
      obtain ⟨rfl, j, rfl⟩ := hcut
      clear c1 f1 z1 c2 f2 z2 c3 f3 z3 HLN
      have s5 := S1.out.call (dbel w2 j)
      obtain ⟨wd, hwd⟩ : ∃ wd, w2.drewN j = wd := ⟨_, rfl⟩
      rw [hwd] at s5 ⊢
      obtain ⟨-, -, -, c1, f1, z1, -⟩ := s5.rules
      have HB : Hid (Below W.heap.size W _) := s5.tail.out2 (i := 0) (j := 1) (u := .int .i64 0) (v := .int .i64 0)
      clear s5 S1 hwd
      go_wp2
      exact bodyPost_ret (v := .tuple #[.agg #[.int .i64 0, .int .i64 0], .int .i64 151]) (by simp [results, Try.results10, go_sem, c1]) rfl ⟨rfl, HB.out⟩
set_option maxRecDepth 100000 in
set_option maxHeartbeats 4000000 in
theorem bprt_w (h w c lo hi ot op ch : Int) (oa : Option Addr) (on oc : Nat) (W : World) (slo shi : Int) (d : Nat) (n bi p x0 y0 z0 : Int) (N : Nat) (hN : N ≤ 512) (op0 : Array Value) (TL : List (Int × Int)) (X Y : Int) (hFd : ∀ W', Below W.heap.size W W' → Calls Try.prog 24 #[.agg #[.int .i64 h, .int .i64 w, .int .i64 c, .int .i64 lo, .int .i64 hi, .slice oa on oc, .int .i64 ot], .int .i64 op, .int .i64 ch, .agg #[.int .i64 slo, .int .i64 shi]] W' fun e w' => (∃ (g0 : Nat) (fa : Option Addr) (fc : Nat), e = .returned (.tuple #[.agg #[.int .i64 ch, .int .i64 n, .slice fa N fc, .int .i64 bi, .int .i64 slo, .int .i64 shi, .int .i64 p, .int .i64 p, .int .i64 x0, .int .i64 y0, .int .i64 z0, .int .i64 0, .int .i64 0, .slice (some ⟨g0, 0, none⟩) 1 1, .int .i64 0], .int .i64 0]) ∧ w'.heap[g0]? = some (.cells op0 47 (0, 0)) ∧ W'.heap.size ≤ g0 ∧ TV w' (.slice fa N fc) TL ∧ ∀ a, fa = some a → a.block < w'.heap.size) ∧ Below W'.heap.size W' w') (hd : 1 ≤ d ∧ d ≤ N)
    (hHl : ∀ W' (g0 q r : Nat) (fa : Option Addr) (fc : Nat), Below W.heap.size W W' → W'.heap[g0]? = some (.cells op0 47 (0, 0)) → W'.heap[q]? = some (.cells #[.int .i64 ch, .int .i64 n, .slice fa N fc, .int .i64 bi, .int .i64 slo, .int .i64 shi, .int .i64 p, .int .i64 p, .int .i64 x0, .int .i64 y0, .int .i64 z0, .int .i64 0, .int .i64 0, .slice (some ⟨g0, 0, none⟩) 1 1, .int .i64 0] 73 (0, 0)) → W'.heap[r]? = some (.cells #[.int .i64 (d : Int)] 3 (0, 0)) → TV W' (.slice fa N fc) TL → (∀ a, fa = some a → a.block < W'.heap.size) → Calls Try.prog 25 #[.pointer (some ⟨q, 0, none⟩), .func (.func 32) #[] #[.pointer (some ⟨r, 0, none⟩)]] W' fun e w' => e = .returned (.agg #[.int .i64 X, .int .i64 Y]) ∧ Below W'.heap.size W' w') :
    Calls Try.prog 10 #[.agg #[.int .i64 h, .int .i64 w, .int .i64 c, .int .i64 lo, .int .i64 hi, .slice oa on oc, .int .i64 ot], .int .i64 op, .int .i64 ch, .agg #[.int .i64 slo, .int .i64 shi], .int .i64 (d : Int)] W fun e w' => e = .returned (.tuple #[.agg #[.int .i64 X, .int .i64 Y], .int .i64 0]) ∧ Below W.heap.size W w' := by
  have hmf : ∀ (fn : Fn) (first cap : Array Value) (w : World), (Instr.makeFunc fn first cap).run Try.prog w = .ok (.func fn first cap) w := fun _ _ _ _ => rfl
  have HF : Hid (∀ W', Below W.heap.size W W' → _) := hFd
  have HH : Hid (∀ W' (g0 q r : Nat) (fa : Option Addr) (fc : Nat), Below W.heap.size W W' → W'.heap[g0]? = some (.cells op0 47 (0, 0)) → W'.heap[q]? = some (.cells #[.int .i64 ch, .int .i64 n, .slice fa N fc, .int .i64 bi, .int .i64 slo, .int .i64 shi, .int .i64 p, .int .i64 p, .int .i64 x0, .int .i64 y0, .int .i64 z0, .int .i64 0, .int .i64 0, .slice (some ⟨g0, 0, none⟩) 1 1, .int .i64 0] 73 (0, 0)) → W'.heap[r]? = some (.cells #[.int .i64 (d : Int)] 3 (0, 0)) → TV W' (.slice fa N fc) TL → (∀ a, fa = some a → a.block < W'.heap.size) → _) := hHl
  obtain ⟨d1, d2⟩ := hd
  have d3 : decide ((d : Int) < 1) = false := by simp; omega
  have d4 : decide (N < d) = false := by simp; omega
  have s0 := ((((St.start W).new (c := #[.int .i64 h, .int .i64 w, .int .i64 c, .int .i64 lo, .int .i64 hi, .slice oa on oc, .int .i64 ot]) (t := 26)).new (c := #[.int .i64 slo, .int .i64 shi]) (t := 28)).new (c := #[.int .i64 (d : Int)]) (t := 3)).new (c := #[.int .i64 0, .int .i64 0]) (t := 28)
  simp only [World.size_alloc] at s0
  clear hFd hHl
  go_enter Try.func10, Try.ntmps10
  go_wp2_with fail
  refine (HF.out _ s0.below).mono ?_
  rintro e w1 ⟨⟨g0, fa, fc, rfl, hg0, -, hTv, hfb⟩, hb⟩
  have s1 := (s0.call hb).new (c := #[.int .i64 ch, .int .i64 n, .slice fa N fc, .int .i64 bi, .int .i64 slo, .int .i64 shi, .int .i64 p, .int .i64 p, .int .i64 x0, .int .i64 y0, .int .i64 z0, .int .i64 0, .int .i64 0, .slice (some ⟨g0, 0, none⟩) 1 1, .int .i64 0]) (t := 73)
  have S1 : Hid (St W _ _) := s1
  have hg1 : Hid ((w1.alloc (.cells #[.int .i64 ch, .int .i64 n, .slice fa N fc, .int .i64 bi, .int .i64 slo, .int .i64 shi, .int .i64 p, .int .i64 p, .int .i64 x0, .int .i64 y0, .int .i64 z0, .int .i64 0, .int .i64 0, .slice (some ⟨g0, 0, none⟩) 1 1, .int .i64 0] 73)).heap[g0]? = some (.cells op0 47 (0, 0))) := (heap_alloc_old w1 _ (lt_of_heap hg0)).trans hg0
  have hT1 : Hid (TV (w1.alloc (.cells #[.int .i64 ch, .int .i64 n, .slice fa N fc, .int .i64 bi, .int .i64 slo, .int .i64 shi, .int .i64 p, .int .i64 p, .int .i64 x0, .int .i64 y0, .int .i64 z0, .int .i64 0, .int .i64 0, .slice (some ⟨g0, 0, none⟩) 1 1, .int .i64 0] 73)) (.slice fa N fc) TL) := hTv.below (bal _ _)
  have hf1 : Hid (∀ a, fa = some a → a.block < (w1.alloc (.cells #[.int .i64 ch, .int .i64 n, .slice fa N fc, .int .i64 bi, .int .i64 slo, .int .i64 shi, .int .i64 p, .int .i64 p, .int .i64 x0, .int .i64 y0, .int .i64 z0, .int .i64 0, .int .i64 0, .slice (some ⟨g0, 0, none⟩) 1 1, .int .i64 0] 73)).heap.size) := fun a e => by have := hfb a e; simp; omega
  clear hb s0 HF hg0 hTv hfb
  go_upto_region 2 with (refine wpList_st_new rfl 73 (.tmp 12) (.tmp 20) rfl w1 _ #[.int .i64 ch, .int .i64 n, .slice fa N fc, .int .i64 bi, .int .i64 slo, .int .i64 shi, .int .i64 p, .int .i64 p, .int .i64 x0, .int .i64 y0, .int .i64 z0, .int .i64 0, .int .i64 0, .slice (some ⟨g0, 0, none⟩) 1 1, .int .i64 0] rfl rfl (by kernel_rfl) rfl (by simp [Value.oneCell']) ?_)
  obtain ⟨q, hq⟩ : ∃ q, w1.heap.size = q := ⟨_, rfl⟩
  obtain ⟨w2, hw2⟩ : ∃ w2, w1.alloc (.cells #[.int .i64 ch, .int .i64 n, .slice fa N fc, .int .i64 bi, .int .i64 slo, .int .i64 shi, .int .i64 p, .int .i64 p, .int .i64 x0, .int .i64 y0, .int .i64 z0, .int .i64 0, .int .i64 0, .slice (some ⟨g0, 0, none⟩) 1 1, .int .i64 0] 73) = w2 := ⟨_, rfl⟩
  rw [hw2] at S1 hg1 hT1 hf1 ⊢
  rw [hq] at S1 ⊢
  clear s1 hw2 hq
  have HLN : Hid (∀ j, Calls Try.prog 31 _ (w2.drewN j) _) := fun j => blen_any ch n fa N fc bi slo shi p x0 y0 z0 g0 q (w2.drewN j) (S1.out.call (dbel w2 j)).h1
  have HC : Hid (∀ j, Calls Try.prog 25 _ (w2.drewN j) _) := fun j => by
    have hdd : Below w2.heap.size w2 (w2.drewN j) := dbel w2 j
    have sd := S1.out.call hdd
    exact HH.out (w2.drewN j) g0 q (W.heap.size + 1 + 1) fa fc sd.below ((hdd.block g0 (lt_of_heap hg1.out)).trans hg1.out) sd.h1 sd.h3 (hT1.out.below hdd) (fun a e => Nat.lt_of_lt_of_le (hf1.out a e) hdd.size)
  clear HH hg1 hT1 hf1
  obtain ⟨c1, f1, z1, c2, f2, z2, c3, f3, z3, -⟩ := S1.out.rules
  go_upto_region 4 with fail
  go_cut [32] from 26 to 31 (fun v wx => v = .bool false ∧ ∃ j, wx = w2.drewN j)
  case first =>
    go_quiet ((go_at_call 31; exact Calls.quiet_of_same (HLN.out _)))
    go_wp2
    go_meet
    case rel => exact ⟨rfl, _, rfl⟩
  case rest =>
    obtain ⟨rfl, j, rfl⟩ := hcut
    clear c1 f1 z1 c2 f2 z2 c3 f3 z3 HLN
    have HC2 := HC.out j
    clear HC
    go_wp2_with fail
    refine Calls.mono HC2 ?_
    rintro e w3 ⟨rfl, hb⟩
    have s3 := (S1.out.call (dbel w2 j)).call hb
    obtain ⟨-, -, -, c1, f1, z1, -⟩ := s3.rules
    have HB : Hid (Below W.heap.size W _) := s3.tail.out2 (i := 0) (j := 1) (u := .int .i64 X) (v := .int .i64 Y)
    clear s3 hb S1
    go_wp2
    exact bodyPost_ret (v := .tuple #[.agg #[.int .i64 X, .int .i64 Y], .int .i64 0]) (by simp [results, Try.results10, go_sem, c1]) rfl ⟨rfl, HB.out⟩
end Go.Proofs.Ytbogpgaifbjahaa

/- What Total, Run, Part and Product answer of a model: the error, or the hull. -/
namespace Go.Proofs.Ytbogpgaifbjahaa
open Go.ChangeShapes Go.WideShapes Go.ChangeAt Go.RowKit Go.Shelf
set_option linter.unusedVariables false
/-- The channel isn't there. -/
theorem bfind_p (h w c lo hi ot : Int) (oa : Option Addr) (on oc : Nat) (O : Nat → Nat → Int) (Z B : Nat → List Int) (W : World) (hL : LRow W oa on oc O Z B) (ch : Int) (RL : List (Int × Int × Int)) (Rw : Int) (hR : gtR O h w c lo hi ot on = (0, 0, RL, Rw)) (i : Nat) (x : Addr) (wa : Option Addr) (lw cw : Nat) (ba : Option Addr) (lb cb : Nat) (x0 y0 z0 H V C : Int) (hF : Fnd W oa on O Z B RL i x wa lw cw ba lb cb x0 y0 z0 H V C) (hch : ¬ (1 ≤ ch ∧ ch ≤ C)) (slo shi : Int) :
    Calls Try.prog 24 #[.agg #[.int .i64 h, .int .i64 w, .int .i64 c, .int .i64 lo, .int .i64 hi, .slice oa on oc, .int .i64 ot], .int .i64 ((i : Int) + 1), .int .i64 ch, .agg #[.int .i64 slo, .int .i64 shi]] W fun e w' => e = .returned (.tuple #[.agg #[.int .i64 0, .int .i64 0, .slice none 0 0, .int .i64 0, .int .i64 0, .int .i64 0, .int .i64 0, .int .i64 0, .int .i64 0, .int .i64 0, .int .i64 0, .int .i64 0, .int .i64 0, .slice none 0 0, .int .i64 0], .int .i64 3]) ∧ Below W.heap.size W w' := by
  have hSit := hF.2.2.2.2.2.2.2.2.2.1
  have hvC := vS_yes hSit.2.2.1
  obtain ⟨-, hk, q1, q2, -, -, hv⟩ := bfacts (ch := 1) hL RL Rw hR i x wa lw cw ba lb cb x0 y0 z0 H V C hF ⟨by omega, by have := hvC.2.2.1; omega⟩
  have s := bopd (ch := 1) hL RL Rw hR i x wa lw cw ba lb cb x0 y0 z0 H V C hF ⟨by omega, by have := hvC.2.2.1; omega⟩
  obtain ⟨h1, rfl, h3, h4, h5, h6, h7, h8, h9, h10, h11, h12⟩ := hF
  obtain ⟨Rw', hR'⟩ := alone_g (a := 0) s hk
  refine (bfind_r h w c lo hi ot ch x on oc i O W hL.m h1 wa lw cw ba lb cb h5 Rw RL hR h11.1 h11.2 x0 y0 z0 H V C h8 h9 ⟨by omega, by omega⟩ slo shi 0 3 [] 0 rfl (fun W' g0 hb' _ hg => ?_)).mono ?_
  · have hL' := balone (h6.below hb') (h7.below hb') q1 q2 hg
    have hF' : Fnd W' (some ⟨g0, 0, none⟩) 1 (fun _ => oL (O i 0) 0 0 (O i 3) (O i 4) (O i 5) (O i 6) (O i 7) (O i 8) (O i 9) (O i 10) (O i 11) (lw : Int) (lb : Int) (O i 14) (O i 15) (O i 16) (O i 17) (O i 18) (O i 19) (O i 20) (O i 21)) (fun _ => Z i) (fun _ => B i) [(x0, y0, z0), (H, V, C)] 0 ⟨g0, 0, none⟩ wa lw cw ba lb cb x0 y0 z0 H V C := by
      have hcell : ∀ q v, [.int .i64 (O i 0), .int .i64 0, .int .i64 0, .int .i64 (O i 3), .int .i64 (O i 4), .int .i64 (O i 5), .int .i64 (O i 6), .int .i64 (O i 7), .int .i64 (O i 8), .int .i64 (O i 9), .int .i64 (O i 10), .int .i64 (O i 11), .slice wa lw cw, .slice ba lb cb, .int .i64 (O i 14), .int .i64 (O i 15), .int .i64 (O i 16), .int .i64 (O i 17), .int .i64 (O i 18), .int .i64 (O i 19), .int .i64 (O i 20), .int .i64 (O i 21)][q]? = some v → W'.cell? ((⟨g0, 0, none⟩ : Addr).add q) = some v := blcells hg (fun q v hq => by simpa using hq)
      refine ⟨by omega, rfl, rfl, rfl, fun q v hq => ?_, h6.below hb', h7.below hb', rfl, rfl, s.si hk, ⟨Int.le_refl _, Int.le_refl _⟩, h12⟩
      have e0 : ((⟨g0, 0, none⟩ : Addr).add (0 * 22)) = ⟨g0, 0, none⟩ := by rw [Addr.add_lit]
      rw [e0]
      exact hcell q v hq
    refine (of_place x0 y0 z0 0 0 0 (some ⟨g0, 0, none⟩) 1 1 _ _ _ W' hL' ch 0 [(x0, y0, z0), (H, V, C)] Rw' hR' 0 ⟨g0, 0, none⟩ wa lw cw ba lb cb x0 y0 z0 H V C hF' (fun q => hch q.1)).mono ?_
    rintro e w' ⟨rfl, hb2⟩
    exact ⟨⟨_, rfl, OTm.nil _ _⟩, hb2⟩
  · rintro e w' ⟨hh, hb2⟩
    refine ⟨?_, hb2⟩
    rcases hh with ⟨-, q⟩ | ⟨q, -⟩ | ⟨q, -⟩
    · exact q
    · cases q
    · cases q
/-- The op doesn't reduce. -/
theorem bfind_k (h w c lo hi ot : Int) (oa : Option Addr) (on oc : Nat) (O : Nat → Nat → Int) (Z B : Nat → List Int) (W : World) (hL : LRow W oa on oc O Z B) (ch : Int) (RL : List (Int × Int × Int)) (Rw : Int) (hR : gtR O h w c lo hi ot on = (0, 0, RL, Rw)) (i : Nat) (hi0 : i < on) (hk : rdB (O i 0) = false) (slo shi : Int) :
    Calls Try.prog 24 #[.agg #[.int .i64 h, .int .i64 w, .int .i64 c, .int .i64 lo, .int .i64 hi, .slice oa on oc, .int .i64 ot], .int .i64 ((i : Int) + 1), .int .i64 ch, .agg #[.int .i64 slo, .int .i64 shi]] W fun e w' => e = .returned (.tuple #[.agg #[.int .i64 0, .int .i64 0, .slice none 0 0, .int .i64 0, .int .i64 0, .int .i64 0, .int .i64 0, .int .i64 0, .int .i64 0, .int .i64 0, .int .i64 0, .int .i64 0, .int .i64 0, .slice none 0 0, .int .i64 0], .int .i64 81]) ∧ Below W.heap.size W w' := by
  obtain ⟨x, rfl⟩ : ∃ x, oa = some x := by
    cases oa with
    | none => have := hL.2.2.1 rfl; have := hL.1; omega
    | some x => exact ⟨x, rfl⟩
  obtain ⟨wa, lw, cw, ba, lb, cb, e12, e13, hc, hZ, hB, q1, q2⟩ := hL.2.2.2 x rfl i hi0
  obtain ⟨⟨j0, j1⟩, hal⟩ := al_of hR hi0
  obtain ⟨x0, y0, z0, hA⟩ : ∃ x0 y0 z0, RL.getD (O i 1).toNat (0, 0, 0) = (x0, y0, z0) := ⟨_, _, _, rfl⟩
  obtain ⟨H, V, C, hHV⟩ : ∃ H V C, RL.getD (i + 1) (0, 0, 0) = (H, V, C) := ⟨_, _, _, rfl⟩
  obtain ⟨Ra, RL', Rw', hR'⟩ := hal x0 y0 z0 hA
  obtain ⟨ja, jb, e1, -, -, -, hopd⟩ := opd_of hR hi0
  have hvb := vS_bd (hopd x0 y0 z0 H V C (by rw [← hA, e1, Int.toNat_natCast]) hHV).1.hB
  rw [e12, e13] at hR'
  refine (bfind_r h w c lo hi ot ch x on oc i O W hL.m hi0 wa lw cw ba lb cb hc Rw RL hR j0 j1 x0 y0 z0 H V C hA hHV ⟨by omega, by omega⟩ slo shi 0 81 [] 0 rfl (fun W' g0 hb' _ hg => ?_)).mono ?_
  · have hL' := balone (hZ.below hb') (hB.below hb') q1 q2 hg
    have hfe : fiE (fun _ => oL (O i 0) 0 0 (O i 3) (O i 4) (O i 5) (O i 6) (O i 7) (O i 8) (O i 9) (O i 10) (O i 11) (lw : Int) (lb : Int) (O i 14) (O i 15) (O i 16) (O i 17) (O i 18) (O i 19) (O i 20) (O i 21)) x0 y0 z0 0 0 0 1 (((0 : Nat) : Int) + 1) = 81 := fiE_81 (by rw [hR']) (by omega) hk
    refine (of_bad x0 y0 z0 0 0 0 (some ⟨g0, 0, none⟩) 1 1 _ _ _ W' hL' 1 ch 0 81 hfe (by decide)).mono ?_
    rintro e w' ⟨rfl, hb2⟩
    exact ⟨⟨_, rfl, OTm.nil _ _⟩, hb2⟩
  · rintro e w' ⟨hh, hb2⟩
    refine ⟨?_, hb2⟩
    rcases hh with ⟨-, q⟩ | ⟨q, -⟩ | ⟨q, -⟩
    · exact q
    · cases q
    · cases q
/-- The channel isn't there: both halves. -/
theorem bofe_p (h w c lo hi ot : Int) (oa : Option Addr) (on oc : Nat) (O : Nat → Nat → Int) (Z B : Nat → List Int) (W : World) (hL : LRow W oa on oc O Z B) (ch : Int) (RL : List (Int × Int × Int)) (Rw : Int) (hR : gtR O h w c lo hi ot on = (0, 0, RL, Rw)) (i : Nat) (x : Addr) (wa : Option Addr) (lw cw : Nat) (ba : Option Addr) (lb cb : Nat) (x0 y0 z0 H V C : Int) (hF : Fnd W oa on O Z B RL i x wa lw cw ba lb cb x0 y0 z0 H V C) (hch : ¬ (1 ≤ ch ∧ ch ≤ C)) (op E : Int) (hop : op = (i : Int) + 1) (hE3 : E = 3) : (∀ W', Below W.heap.size W W' → (Calls Try.prog 7 #[.agg #[.int .i64 h, .int .i64 w, .int .i64 c, .int .i64 lo, .int .i64 hi, .slice oa on oc, .int .i64 ot], .int .i64 op, .int .i64 ch, .int .i64 0] W' fun e w' => e = .returned (.tuple #[.slice none 0 0, .int .i64 0, .int .i64 E]) ∧ Below W'.heap.size W' w') ∧ ∀ slo shi : Int, Calls Try.prog 24 #[.agg #[.int .i64 h, .int .i64 w, .int .i64 c, .int .i64 lo, .int .i64 hi, .slice oa on oc, .int .i64 ot], .int .i64 op, .int .i64 ch, .agg #[.int .i64 slo, .int .i64 shi]] W' fun e w' => e = .returned (.tuple #[.agg #[.int .i64 0, .int .i64 0, .slice none 0 0, .int .i64 0, .int .i64 0, .int .i64 0, .int .i64 0, .int .i64 0, .int .i64 0, .int .i64 0, .int .i64 0, .int .i64 0, .int .i64 0, .slice none 0 0, .int .i64 0], .int .i64 E]) ∧ Below W'.heap.size W' w') := by
  subst hop hE3
  exact fun W' hb => ⟨of_place h w c lo hi ot oa on oc O Z B W' (hL.below hb) ch 0 RL Rw hR i x wa lw cw ba lb cb x0 y0 z0 H V C (hF.below hb) (fun q => hch q.1), fun slo shi => bfind_p h w c lo hi ot oa on oc O Z B W' (hL.below hb) ch RL Rw hR i x wa lw cw ba lb cb x0 y0 z0 H V C (hF.below hb) hch slo shi⟩
/-- The model or the op is wrong: both halves. -/
theorem bofe_e (h w c lo hi ot : Int) (oa : Option Addr) (on oc : Nat) (O : Nat → Nat → Int) (Z B : Nat → List Int) (W : World) (hL : LRow W oa on oc O Z B) (op ch E : Int) (hf : fiE O h w c lo hi ot on op = E) (hE : E ≠ 0) : (∀ W', Below W.heap.size W W' → (Calls Try.prog 7 #[.agg #[.int .i64 h, .int .i64 w, .int .i64 c, .int .i64 lo, .int .i64 hi, .slice oa on oc, .int .i64 ot], .int .i64 op, .int .i64 ch, .int .i64 0] W' fun e w' => e = .returned (.tuple #[.slice none 0 0, .int .i64 0, .int .i64 E]) ∧ Below W'.heap.size W' w') ∧ ∀ slo shi : Int, Calls Try.prog 24 #[.agg #[.int .i64 h, .int .i64 w, .int .i64 c, .int .i64 lo, .int .i64 hi, .slice oa on oc, .int .i64 ot], .int .i64 op, .int .i64 ch, .agg #[.int .i64 slo, .int .i64 shi]] W' fun e w' => e = .returned (.tuple #[.agg #[.int .i64 0, .int .i64 0, .slice none 0 0, .int .i64 0, .int .i64 0, .int .i64 0, .int .i64 0, .int .i64 0, .int .i64 0, .int .i64 0, .int .i64 0, .int .i64 0, .int .i64 0, .slice none 0 0, .int .i64 0], .int .i64 E]) ∧ Below W'.heap.size W' w') := by
  refine fun W' hb => ⟨of_bad h w c lo hi ot oa on oc O Z B W' (hL.below hb) op ch 0 E hf hE, fun slo shi => ?_⟩
  obtain ⟨Re, Ra, RL, Rw, hR⟩ : ∃ Re Ra RL Rw, gtR O h w c lo hi ot on = (Re, Ra, RL, Rw) := ⟨_, _, _, _, rfl⟩
  by_cases h1 : Re = 0
  · subst h1
    obtain ⟨-, rfl, -⟩ := gtR_st hR
    by_cases h2 : 1 ≤ op ∧ op ≤ (on : Int)
    · obtain ⟨i, hii⟩ := Int.eq_ofNat_of_zero_le (show 0 ≤ op - 1 by omega)
      obtain rfl : op = (i : Int) + 1 := by omega
      have h3 : rdB (O i 0) = false := by
        cases q : rdB (O i 0) with
        | false => rfl
        | true =>
          refine absurd ?_ hE
          rw [← hf]
          unfold fiE
          rw [hR]
          simp only
          rw [if_neg (by decide), if_neg (by simpa using h2), show ((i : Int) + 1 - 1).toNat = i by omega, q, if_neg (by decide)]
      have hE81 : E = 81 := by rw [← hf]; exact fiE_81 (by rw [hR]) (by omega) h3
      subst hE81
      exact bfind_k h w c lo hi ot oa on oc O Z B W' (hL.below hb) ch RL Rw hR i (by omega) h3 slo shi
    · have hE3 : E = 3 := by rw [← hf]; exact fiE_3 (by rw [hR]) h2
      subst hE3
      exact bfind_b h w c lo hi ot op ch oa on oc O W' (hL.below hb).m slo shi _ Rw RL hR h2
  · have hEe : E = Re := by rw [← hf]; exact fiE_err (by rw [hR]) h1
    subst hEe
    exact bfind_a h w c lo hi ot op ch oa on oc O W' (hL.below hb).m slo shi E Ra Rw RL hR h1
theorem bask (h w c lo hi ot : Int) (oa : Option Addr) (on oc : Nat) (O : Nat → Nat → Int) (Z B : Nat → List Int) (W : World) (hL : LRow W oa on oc O Z B) (op ch : Int) :
    (∃ E : Int, E ≠ 0 ∧ (∀ W', Below W.heap.size W W' → (Calls Try.prog 7 #[.agg #[.int .i64 h, .int .i64 w, .int .i64 c, .int .i64 lo, .int .i64 hi, .slice oa on oc, .int .i64 ot], .int .i64 op, .int .i64 ch, .int .i64 0] W' fun e w' => e = .returned (.tuple #[.slice none 0 0, .int .i64 0, .int .i64 E]) ∧ Below W'.heap.size W' w') ∧ ∀ slo shi : Int, Calls Try.prog 24 #[.agg #[.int .i64 h, .int .i64 w, .int .i64 c, .int .i64 lo, .int .i64 hi, .slice oa on oc, .int .i64 ot], .int .i64 op, .int .i64 ch, .agg #[.int .i64 slo, .int .i64 shi]] W' fun e w' => e = .returned (.tuple #[.agg #[.int .i64 0, .int .i64 0, .slice none 0 0, .int .i64 0, .int .i64 0, .int .i64 0, .int .i64 0, .int .i64 0, .int .i64 0, .int .i64 0, .int .i64 0, .int .i64 0, .int .i64 0, .slice none 0 0, .int .i64 0], .int .i64 E]) ∧ Below W'.heap.size W' w')) ∨ (∃ (RL : List (Int × Int × Int)) (Rw : Int), gtR O h w c lo hi ot on = (0, 0, RL, Rw) ∧ ∃ (i : Nat) (x : Addr) (wa : Option Addr) (lw cw : Nat) (ba : Option Addr) (lb cb : Nat) (x0 y0 z0 H V C : Int), op = (i : Int) + 1 ∧ Fnd W oa on O Z B RL i x wa lw cw ba lb cb x0 y0 z0 H V C ∧ (1 ≤ ch ∧ ch ≤ C)) := by
  obtain ⟨E, hf⟩ : ∃ E, fiE O h w c lo hi ot on op = E := ⟨_, rfl⟩
  by_cases hE : E = 0
  · subst hE
    obtain ⟨RL, Rw, hR, i, x, wa, lw, cw, ba, lb, cb, x0, y0, z0, H, V, C, rfl, hF⟩ := found h w c lo hi ot oa on oc O Z B W hL op hf
    by_cases hch : 1 ≤ ch ∧ ch ≤ C
    · exact .inr ⟨RL, Rw, hR, i, x, wa, lw, cw, ba, lb, cb, x0, y0, z0, H, V, C, rfl, hF, hch⟩
    · exact .inl ⟨3, by omega, bofe_p h w c lo hi ot oa on oc O Z B W hL ch RL Rw hR i x wa lw cw ba lb cb x0 y0 z0 H V C hF hch _ 3 rfl rfl⟩
  · exact .inl ⟨E, hE, bofe_e h w c lo hi ot oa on oc O Z B W hL op ch E hf hE⟩
/-- The answer where the op and the channel are there. -/
def spR (slo shi : Int) (r : Int × Int) : Int × Int × Int := if vbB slo shi = true then (r.1, r.2, 0) else (0, 0, 30)
def spD (slo shi dp : Int) (N : Nat) (r : Int × Int) : Int × Int × Int := if vbB slo shi = true then (if 1 ≤ dp ∧ dp ≤ (N : Int) then (r.1, r.2, 0) else (0, 0, 151)) else (0, 0, 30)
theorem bof0 (h w c lo hi ot : Int) (oa : Option Addr) (on oc : Nat) (O : Nat → Nat → Int) (Z B : Nat → List Int) (W : World) (hL : LRow W oa on oc O Z B) (ch : Int) (RL : List (Int × Int × Int)) (Rw : Int) (hR : gtR O h w c lo hi ot on = (0, 0, RL, Rw)) (i : Nat) (x : Addr) (wa : Option Addr) (lw cw : Nat) (ba : Option Addr) (lb cb : Nat) (x0 y0 z0 H V C : Int) (hF : Fnd W oa on O Z B RL i x wa lw cw ba lb cb x0 y0 z0 H V C) (hch : 1 ≤ ch ∧ ch ≤ C) : ∀ W', Below W.heap.size W W' → Calls Try.prog 7 #[.agg #[.int .i64 h, .int .i64 w, .int .i64 c, .int .i64 lo, .int .i64 hi, .slice oa on oc, .int .i64 ot], .int .i64 ((i : Int) + 1), .int .i64 ch, .int .i64 0] W' fun e w' => (∃ v, e = .returned (.tuple #[v, .int .i64 (biA (O i 0) ch (B i)), .int .i64 0]) ∧ OTm w' W'.heap.size v (siL (O i 0) (O i 4) (O i 5) (O i 6) (O i 7) (O i 8) (O i 9) (O i 10) (O i 11) x0 y0 z0 ch 0 (Z i))) ∧ Below W'.heap.size W' w' := fun W' hb => by
  have hv := (vS_bd hF.2.2.2.2.2.2.2.2.2.1.2.2.1).1
  exact of_ok h w c lo hi ot oa on oc O Z B W' (hL.below hb) ch 0 RL Rw hR i x wa lw cw ba lb cb x0 y0 z0 H V C (hF.below hb) hch ⟨by omega, by omega⟩
theorem slen {h w c lo hi ot ch : Int} {oa : Option Addr} {on : Nat} {O : Nat → Nat → Int} {Z B : Nat → List Int} {W : World} (RL : List (Int × Int × Int)) (Rw : Int) (hR : gtR O h w c lo hi ot on = (0, 0, RL, Rw)) (i : Nat) (x : Addr) (wa : Option Addr) (lw cw : Nat) (ba : Option Addr) (lb cb : Nat) (x0 y0 z0 H V C : Int) (hF : Fnd W oa on O Z B RL i x wa lw cw ba lb cb x0 y0 z0 H V C) (hch : 1 ≤ ch ∧ ch ≤ C) : (siL (O i 0) (O i 4) (O i 5) (O i 6) (O i 7) (O i 8) (O i 9) (O i 10) (O i 11) x0 y0 z0 ch 0 (Z i)).length ≤ 512 := by
  exact (siL_facts hF.2.2.2.2.2.2.2.2.2.1 hF.2.2.2.2.2.1.2.2.2.1 hch 0).1
theorem bfd_30 (h w c lo hi ot : Int) (oa : Option Addr) (on oc : Nat) (O : Nat → Nat → Int) (Z B : Nat → List Int) (W : World) (hL : LRow W oa on oc O Z B) (ch : Int) (RL : List (Int × Int × Int)) (Rw : Int) (hR : gtR O h w c lo hi ot on = (0, 0, RL, Rw)) (i : Nat) (x : Addr) (wa : Option Addr) (lw cw : Nat) (ba : Option Addr) (lb cb : Nat) (x0 y0 z0 H V C : Int) (hF : Fnd W oa on O Z B RL i x wa lw cw ba lb cb x0 y0 z0 H V C) (hch : 1 ≤ ch ∧ ch ≤ C) (slo shi : Int) (hs : vbB slo shi = false) : ∀ W', Below W.heap.size W W' → Calls Try.prog 24 #[.agg #[.int .i64 h, .int .i64 w, .int .i64 c, .int .i64 lo, .int .i64 hi, .slice oa on oc, .int .i64 ot], .int .i64 ((i : Int) + 1), .int .i64 ch, .agg #[.int .i64 slo, .int .i64 shi]] W' fun e w' => e = .returned (.tuple #[.agg #[.int .i64 0, .int .i64 0, .slice none 0 0, .int .i64 0, .int .i64 0, .int .i64 0, .int .i64 0, .int .i64 0, .int .i64 0, .int .i64 0, .int .i64 0, .int .i64 0, .int .i64 0, .slice none 0 0, .int .i64 0], .int .i64 30]) ∧ Below W'.heap.size W' w' := fun W' hb =>
  (bfind_m h w c lo hi ot oa on oc O Z B W hL ch RL Rw hR i x wa lw cw ba lb cb x0 y0 z0 H V C hF hch slo shi _ rfl _ rfl W' hb).mono fun e w' hh => by
    refine ⟨?_, hh.2⟩
    rcases hh.1 with ⟨-, q⟩ | ⟨q, -⟩
    · exact q
    · rw [hs] at q; cases q
theorem bfd_ok (h w c lo hi ot : Int) (oa : Option Addr) (on oc : Nat) (O : Nat → Nat → Int) (Z B : Nat → List Int) (W : World) (hL : LRow W oa on oc O Z B) (ch : Int) (RL : List (Int × Int × Int)) (Rw : Int) (hR : gtR O h w c lo hi ot on = (0, 0, RL, Rw)) (i : Nat) (x : Addr) (wa : Option Addr) (lw cw : Nat) (ba : Option Addr) (lb cb : Nat) (x0 y0 z0 H V C : Int) (hF : Fnd W oa on O Z B RL i x wa lw cw ba lb cb x0 y0 z0 H V C) (hch : 1 ≤ ch ∧ ch ≤ C) (slo shi : Int) (hs : vbB slo shi = true) (N : Nat) (hN : (siL (O i 0) (O i 4) (O i 5) (O i 6) (O i 7) (O i 8) (O i 9) (O i 10) (O i 11) x0 y0 z0 ch 0 (Z i)).length = N) (bi : Int) (hbi : biA (O i 0) ch (B i) = bi) : ∀ W', Below W.heap.size W W' → Calls Try.prog 24 #[.agg #[.int .i64 h, .int .i64 w, .int .i64 c, .int .i64 lo, .int .i64 hi, .slice oa on oc, .int .i64 ot], .int .i64 ((i : Int) + 1), .int .i64 ch, .agg #[.int .i64 slo, .int .i64 shi]] W' fun e w' => (∃ (g0 : Nat) (fa : Option Addr) (fc : Nat), e = .returned (.tuple #[.agg #[.int .i64 ch, .int .i64 (H * V), .slice fa N fc, .int .i64 bi, .int .i64 slo, .int .i64 shi, .int .i64 (O i 19), .int .i64 (O i 19), .int .i64 x0, .int .i64 y0, .int .i64 z0, .int .i64 0, .int .i64 0, .slice (some ⟨g0, 0, none⟩) 1 1, .int .i64 0], .int .i64 0]) ∧ w'.heap[g0]? = some (.cells #[.int .i64 (O i 0), .int .i64 0, .int .i64 0, .int .i64 (O i 3), .int .i64 (O i 4), .int .i64 (O i 5), .int .i64 (O i 6), .int .i64 (O i 7), .int .i64 (O i 8), .int .i64 (O i 9), .int .i64 (O i 10), .int .i64 (O i 11), .slice wa lw cw, .slice ba lb cb, .int .i64 (O i 14), .int .i64 (O i 15), .int .i64 (O i 16), .int .i64 (O i 17), .int .i64 (O i 18), .int .i64 (O i 19), .int .i64 (O i 20), .int .i64 (O i 21)] 47 (0, 0)) ∧ W'.heap.size ≤ g0 ∧ TV w' (.slice fa N fc) (siL (O i 0) (O i 4) (O i 5) (O i 6) (O i 7) (O i 8) (O i 9) (O i 10) (O i 11) x0 y0 z0 ch 0 (Z i)) ∧ ∀ a, fa = some a → a.block < w'.heap.size) ∧ Below W'.heap.size W' w' := fun W' hb =>
  (bfind_m h w c lo hi ot oa on oc O Z B W hL ch RL Rw hR i x wa lw cw ba lb cb x0 y0 z0 H V C hF hch slo shi N hN bi hbi W' hb).mono fun e w' hh => by
    refine ⟨?_, hh.2⟩
    rcases hh.1 with ⟨q, -⟩ | ⟨-, q⟩
    · rw [hs] at q; cases q
    · exact q
theorem btot_bad (h w c lo hi ot op ch : Int) (oa : Option Addr) (on oc : Nat) (W : World) (slo shi E : Int) (hE : E ≠ 0) (hO : (∀ W', Below W.heap.size W W' → (Calls Try.prog 7 #[.agg #[.int .i64 h, .int .i64 w, .int .i64 c, .int .i64 lo, .int .i64 hi, .slice oa on oc, .int .i64 ot], .int .i64 op, .int .i64 ch, .int .i64 0] W' fun e w' => e = .returned (.tuple #[.slice none 0 0, .int .i64 0, .int .i64 E]) ∧ Below W'.heap.size W' w') ∧ ∀ slo shi : Int, Calls Try.prog 24 #[.agg #[.int .i64 h, .int .i64 w, .int .i64 c, .int .i64 lo, .int .i64 hi, .slice oa on oc, .int .i64 ot], .int .i64 op, .int .i64 ch, .agg #[.int .i64 slo, .int .i64 shi]] W' fun e w' => e = .returned (.tuple #[.agg #[.int .i64 0, .int .i64 0, .slice none 0 0, .int .i64 0, .int .i64 0, .int .i64 0, .int .i64 0, .int .i64 0, .int .i64 0, .int .i64 0, .int .i64 0, .int .i64 0, .int .i64 0, .slice none 0 0, .int .i64 0], .int .i64 E]) ∧ Below W'.heap.size W' w')) : Calls Try.prog 8 #[.agg #[.int .i64 h, .int .i64 w, .int .i64 c, .int .i64 lo, .int .i64 hi, .slice oa on oc, .int .i64 ot], .int .i64 op, .int .i64 ch, .agg #[.int .i64 slo, .int .i64 shi]] W fun e w' => e = .returned (.tuple #[.agg #[.int .i64 0, .int .i64 0], .int .i64 E]) ∧ Below W.heap.size W w' :=
  btot_e h w c lo hi ot op ch oa on oc W slo shi E hE (fun W' hb => (hO W' hb).2 slo shi)
theorem btot_ok (h w c lo hi ot : Int) (oa : Option Addr) (on oc : Nat) (O : Nat → Nat → Int) (Z B : Nat → List Int) (W : World) (hL : LRow W oa on oc O Z B) (ch : Int) (RL : List (Int × Int × Int)) (Rw : Int) (hR : gtR O h w c lo hi ot on = (0, 0, RL, Rw)) (i : Nat) (x : Addr) (wa : Option Addr) (lw cw : Nat) (ba : Option Addr) (lb cb : Nat) (x0 y0 z0 H V C : Int) (hF : Fnd W oa on O Z B RL i x wa lw cw ba lb cb x0 y0 z0 H V C) (hch : 1 ≤ ch ∧ ch ≤ C) (slo shi : Int) : Calls Try.prog 8 #[.agg #[.int .i64 h, .int .i64 w, .int .i64 c, .int .i64 lo, .int .i64 hi, .slice oa on oc, .int .i64 ot], .int .i64 ((i : Int) + 1), .int .i64 ch, .agg #[.int .i64 slo, .int .i64 shi]] W fun e w' => e = .returned (.tuple #[.agg #[.int .i64 (spR slo shi (hbT (biA (O i 0) ch (B i)) (fun (j : Nat) => enL slo shi (O i 19) (siL (O i 0) (O i 4) (O i 5) (O i 6) (O i 7) (O i 8) (O i 9) (O i 10) (O i 11) x0 y0 z0 ch (j : Int) (Z i))) (H * V).toNat)).1, .int .i64 (spR slo shi (hbT (biA (O i 0) ch (B i)) (fun (j : Nat) => enL slo shi (O i 19) (siL (O i 0) (O i 4) (O i 5) (O i 6) (O i 7) (O i 8) (O i 9) (O i 10) (O i 11) x0 y0 z0 ch (j : Int) (Z i))) (H * V).toNat)).2.1], .int .i64 (spR slo shi (hbT (biA (O i 0) ch (B i)) (fun (j : Nat) => enL slo shi (O i 19) (siL (O i 0) (O i 4) (O i 5) (O i 6) (O i 7) (O i 8) (O i 9) (O i 10) (O i 11) x0 y0 z0 ch (j : Int) (Z i))) (H * V).toNat)).2.2]) ∧ Below W.heap.size W w' := by
  unfold spR
  cases hs : vbB slo shi with
  | false =>
    rw [if_neg (by decide)]
    exact btot_e h w c lo hi ot _ ch oa on oc W slo shi 30 (by decide) (bfd_30 h w c lo hi ot oa on oc O Z B W hL ch RL Rw hR i x wa lw cw ba lb cb x0 y0 z0 H V C hF hch slo shi hs)
  | true =>
    rw [if_pos rfl]
    obtain ⟨-, -, -, -, -, hbi, -⟩ := bfacts hL RL Rw hR i x wa lw cw ba lb cb x0 y0 z0 H V C hF hch
    obtain ⟨N, hN⟩ : ∃ N, (siL (O i 0) (O i 4) (O i 5) (O i 6) (O i 7) (O i 8) (O i 9) (O i 10) (O i 11) x0 y0 z0 ch 0 (Z i)).length = N := ⟨_, rfl⟩
    refine btot_w h w c lo hi ot _ ch oa on oc W slo shi (H * V) (biA (O i 0) ch (B i)) (O i 19) x0 y0 z0 N (by rw [← hN]; exact slen RL Rw hR i x wa lw cw ba lb cb x0 y0 z0 H V C hF hch) #[.int .i64 (O i 0), .int .i64 0, .int .i64 0, .int .i64 (O i 3), .int .i64 (O i 4), .int .i64 (O i 5), .int .i64 (O i 6), .int .i64 (O i 7), .int .i64 (O i 8), .int .i64 (O i 9), .int .i64 (O i 10), .int .i64 (O i 11), .slice wa lw cw, .slice ba lb cb, .int .i64 (O i 14), .int .i64 (O i 15), .int .i64 (O i 16), .int .i64 (O i 17), .int .i64 (O i 18), .int .i64 (O i 19), .int .i64 (O i 20), .int .i64 (O i 21)] (siL (O i 0) (O i 4) (O i 5) (O i 6) (O i 7) (O i 8) (O i 9) (O i 10) (O i 11) x0 y0 z0 ch 0 (Z i)) _ _ (bfd_ok h w c lo hi ot oa on oc O Z B W hL ch RL Rw hR i x wa lw cw ba lb cb x0 y0 z0 H V C hF hch slo shi hs N hN _ rfl) 26 rfl (fun W' g0 q fa fc hb hg hq hTv hfa => ?_)
    exact bhull_m h w c lo hi ot oa on oc O Z B W hL ch RL Rw hR i x wa lw cw ba lb cb x0 y0 z0 H V C hF hch slo shi hs N (biA (O i 0) ch (B i)) W' hb g0 q fa fc hg hq hTv hfa (fun E => [suS (biA (O i 0) ch (B i), biA (O i 0) ch (B i)) E]) 26 #[.pointer (some ⟨q, 0, none⟩)] (enters_of Try.func26 (by kernel_rfl) rfl) (fun W'' v E L nb b hb' hE h0 hl hv hn hbb hT hL => ctot_any ch (H * V) fa N fc (biA (O i 0) ch (B i)) slo shi (O i 19) x0 y0 z0 g0 q W'' ((hb'.block q (lt_of_heap hq)).trans hq) hbi v E L nb b hE h0 hl hv hn hbb hT hL) (fun E hE h0 hl => ftot hbi hE hl)
theorem brun_bad (h w c lo hi ot op ch : Int) (oa : Option Addr) (on oc : Nat) (W : World) (slo shi E : Int) (hE : E ≠ 0) (hO : (∀ W', Below W.heap.size W W' → (Calls Try.prog 7 #[.agg #[.int .i64 h, .int .i64 w, .int .i64 c, .int .i64 lo, .int .i64 hi, .slice oa on oc, .int .i64 ot], .int .i64 op, .int .i64 ch, .int .i64 0] W' fun e w' => e = .returned (.tuple #[.slice none 0 0, .int .i64 0, .int .i64 E]) ∧ Below W'.heap.size W' w') ∧ ∀ slo shi : Int, Calls Try.prog 24 #[.agg #[.int .i64 h, .int .i64 w, .int .i64 c, .int .i64 lo, .int .i64 hi, .slice oa on oc, .int .i64 ot], .int .i64 op, .int .i64 ch, .agg #[.int .i64 slo, .int .i64 shi]] W' fun e w' => e = .returned (.tuple #[.agg #[.int .i64 0, .int .i64 0, .slice none 0 0, .int .i64 0, .int .i64 0, .int .i64 0, .int .i64 0, .int .i64 0, .int .i64 0, .int .i64 0, .int .i64 0, .int .i64 0, .int .i64 0, .slice none 0 0, .int .i64 0], .int .i64 E]) ∧ Below W'.heap.size W' w')) : Calls Try.prog 9 #[.agg #[.int .i64 h, .int .i64 w, .int .i64 c, .int .i64 lo, .int .i64 hi, .slice oa on oc, .int .i64 ot], .int .i64 op, .int .i64 ch, .agg #[.int .i64 slo, .int .i64 shi]] W fun e w' => e = .returned (.tuple #[.agg #[.int .i64 0, .int .i64 0], .int .i64 E]) ∧ Below W.heap.size W w' :=
  brun_e h w c lo hi ot op ch oa on oc W slo shi E hE (fun W' hb => (hO W' hb).2 slo shi)
theorem brun_ok (h w c lo hi ot : Int) (oa : Option Addr) (on oc : Nat) (O : Nat → Nat → Int) (Z B : Nat → List Int) (W : World) (hL : LRow W oa on oc O Z B) (ch : Int) (RL : List (Int × Int × Int)) (Rw : Int) (hR : gtR O h w c lo hi ot on = (0, 0, RL, Rw)) (i : Nat) (x : Addr) (wa : Option Addr) (lw cw : Nat) (ba : Option Addr) (lb cb : Nat) (x0 y0 z0 H V C : Int) (hF : Fnd W oa on O Z B RL i x wa lw cw ba lb cb x0 y0 z0 H V C) (hch : 1 ≤ ch ∧ ch ≤ C) (slo shi : Int) : Calls Try.prog 9 #[.agg #[.int .i64 h, .int .i64 w, .int .i64 c, .int .i64 lo, .int .i64 hi, .slice oa on oc, .int .i64 ot], .int .i64 ((i : Int) + 1), .int .i64 ch, .agg #[.int .i64 slo, .int .i64 shi]] W fun e w' => e = .returned (.tuple #[.agg #[.int .i64 (spR slo shi (hbR (biA (O i 0) ch (B i)) (fun (j : Nat) => enL slo shi (O i 19) (siL (O i 0) (O i 4) (O i 5) (O i 6) (O i 7) (O i 8) (O i 9) (O i 10) (O i 11) x0 y0 z0 ch (j : Int) (Z i))) (H * V).toNat)).1, .int .i64 (spR slo shi (hbR (biA (O i 0) ch (B i)) (fun (j : Nat) => enL slo shi (O i 19) (siL (O i 0) (O i 4) (O i 5) (O i 6) (O i 7) (O i 8) (O i 9) (O i 10) (O i 11) x0 y0 z0 ch (j : Int) (Z i))) (H * V).toNat)).2.1], .int .i64 (spR slo shi (hbR (biA (O i 0) ch (B i)) (fun (j : Nat) => enL slo shi (O i 19) (siL (O i 0) (O i 4) (O i 5) (O i 6) (O i 7) (O i 8) (O i 9) (O i 10) (O i 11) x0 y0 z0 ch (j : Int) (Z i))) (H * V).toNat)).2.2]) ∧ Below W.heap.size W w' := by
  unfold spR
  cases hs : vbB slo shi with
  | false =>
    rw [if_neg (by decide)]
    exact brun_e h w c lo hi ot _ ch oa on oc W slo shi 30 (by decide) (bfd_30 h w c lo hi ot oa on oc O Z B W hL ch RL Rw hR i x wa lw cw ba lb cb x0 y0 z0 H V C hF hch slo shi hs)
  | true =>
    rw [if_pos rfl]
    obtain ⟨-, -, -, -, -, hbi, -⟩ := bfacts hL RL Rw hR i x wa lw cw ba lb cb x0 y0 z0 H V C hF hch
    obtain ⟨N, hN⟩ : ∃ N, (siL (O i 0) (O i 4) (O i 5) (O i 6) (O i 7) (O i 8) (O i 9) (O i 10) (O i 11) x0 y0 z0 ch 0 (Z i)).length = N := ⟨_, rfl⟩
    refine brun_w h w c lo hi ot _ ch oa on oc W slo shi (H * V) (biA (O i 0) ch (B i)) (O i 19) x0 y0 z0 N (by rw [← hN]; exact slen RL Rw hR i x wa lw cw ba lb cb x0 y0 z0 H V C hF hch) #[.int .i64 (O i 0), .int .i64 0, .int .i64 0, .int .i64 (O i 3), .int .i64 (O i 4), .int .i64 (O i 5), .int .i64 (O i 6), .int .i64 (O i 7), .int .i64 (O i 8), .int .i64 (O i 9), .int .i64 (O i 10), .int .i64 (O i 11), .slice wa lw cw, .slice ba lb cb, .int .i64 (O i 14), .int .i64 (O i 15), .int .i64 (O i 16), .int .i64 (O i 17), .int .i64 (O i 18), .int .i64 (O i 19), .int .i64 (O i 20), .int .i64 (O i 21)] (siL (O i 0) (O i 4) (O i 5) (O i 6) (O i 7) (O i 8) (O i 9) (O i 10) (O i 11) x0 y0 z0 ch 0 (Z i)) _ _ (bfd_ok h w c lo hi ot oa on oc O Z B W hL ch RL Rw hR i x wa lw cw ba lb cb x0 y0 z0 H V C hF hch slo shi hs N hN _ rfl) 30 rfl (fun W' g0 q fa fc hb hg hq hTv hfa => ?_)
    exact bhull_m h w c lo hi ot oa on oc O Z B W hL ch RL Rw hR i x wa lw cw ba lb cb x0 y0 z0 H V C hF hch slo shi hs N (biA (O i 0) ch (B i)) W' hb g0 q fa fc hg hq hTv hfa (fun E => ruL (biA (O i 0) ch (B i), biA (O i 0) ch (B i)) E) 30 #[.pointer (some ⟨q, 0, none⟩)] (enters_of Try.func30 (by kernel_rfl) rfl) (fun W'' v E L nb b hb' hE h0 hl hv hn hbb hT hL => crun_any ch (H * V) fa N fc (biA (O i 0) ch (B i)) slo shi (O i 19) x0 y0 z0 g0 q W'' ((hb'.block q (lt_of_heap hq)).trans hq) hbi v E L nb b hE h0 hl hv hn hbb hT hL) (fun E hE h0 hl => frun hbi hE hl)
theorem bprd_bad (h w c lo hi ot op ch : Int) (oa : Option Addr) (on oc : Nat) (W : World) (slo shi E : Int) (hE : E ≠ 0) (hO : (∀ W', Below W.heap.size W W' → (Calls Try.prog 7 #[.agg #[.int .i64 h, .int .i64 w, .int .i64 c, .int .i64 lo, .int .i64 hi, .slice oa on oc, .int .i64 ot], .int .i64 op, .int .i64 ch, .int .i64 0] W' fun e w' => e = .returned (.tuple #[.slice none 0 0, .int .i64 0, .int .i64 E]) ∧ Below W'.heap.size W' w') ∧ ∀ slo shi : Int, Calls Try.prog 24 #[.agg #[.int .i64 h, .int .i64 w, .int .i64 c, .int .i64 lo, .int .i64 hi, .slice oa on oc, .int .i64 ot], .int .i64 op, .int .i64 ch, .agg #[.int .i64 slo, .int .i64 shi]] W' fun e w' => e = .returned (.tuple #[.agg #[.int .i64 0, .int .i64 0, .slice none 0 0, .int .i64 0, .int .i64 0, .int .i64 0, .int .i64 0, .int .i64 0, .int .i64 0, .int .i64 0, .int .i64 0, .int .i64 0, .int .i64 0, .slice none 0 0, .int .i64 0], .int .i64 E]) ∧ Below W'.heap.size W' w')) : Calls Try.prog 11 #[.agg #[.int .i64 h, .int .i64 w, .int .i64 c, .int .i64 lo, .int .i64 hi, .slice oa on oc, .int .i64 ot], .int .i64 op, .int .i64 ch, .agg #[.int .i64 slo, .int .i64 shi]] W fun e w' => e = .returned (.tuple #[.agg #[.int .i64 0, .int .i64 0], .int .i64 E]) ∧ Below W.heap.size W w' :=
  bprd_e h w c lo hi ot op ch oa on oc W slo shi E hE (fun W' hb => (hO W' hb).2 slo shi)
theorem bprd_ok (h w c lo hi ot : Int) (oa : Option Addr) (on oc : Nat) (O : Nat → Nat → Int) (Z B : Nat → List Int) (W : World) (hL : LRow W oa on oc O Z B) (ch : Int) (RL : List (Int × Int × Int)) (Rw : Int) (hR : gtR O h w c lo hi ot on = (0, 0, RL, Rw)) (i : Nat) (x : Addr) (wa : Option Addr) (lw cw : Nat) (ba : Option Addr) (lb cb : Nat) (x0 y0 z0 H V C : Int) (hF : Fnd W oa on O Z B RL i x wa lw cw ba lb cb x0 y0 z0 H V C) (hch : 1 ≤ ch ∧ ch ≤ C) (slo shi : Int) : Calls Try.prog 11 #[.agg #[.int .i64 h, .int .i64 w, .int .i64 c, .int .i64 lo, .int .i64 hi, .slice oa on oc, .int .i64 ot], .int .i64 ((i : Int) + 1), .int .i64 ch, .agg #[.int .i64 slo, .int .i64 shi]] W fun e w' => e = .returned (.tuple #[.agg #[.int .i64 (spR slo shi (hbP (fun (j : Nat) => enL slo shi (O i 19) (siL (O i 0) (O i 4) (O i 5) (O i 6) (O i 7) (O i 8) (O i 9) (O i 10) (O i 11) x0 y0 z0 ch (j : Int) (Z i))) (H * V).toNat)).1, .int .i64 (spR slo shi (hbP (fun (j : Nat) => enL slo shi (O i 19) (siL (O i 0) (O i 4) (O i 5) (O i 6) (O i 7) (O i 8) (O i 9) (O i 10) (O i 11) x0 y0 z0 ch (j : Int) (Z i))) (H * V).toNat)).2.1], .int .i64 (spR slo shi (hbP (fun (j : Nat) => enL slo shi (O i 19) (siL (O i 0) (O i 4) (O i 5) (O i 6) (O i 7) (O i 8) (O i 9) (O i 10) (O i 11) x0 y0 z0 ch (j : Int) (Z i))) (H * V).toNat)).2.2]) ∧ Below W.heap.size W w' := by
  unfold spR
  cases hs : vbB slo shi with
  | false =>
    rw [if_neg (by decide)]
    exact bprd_e h w c lo hi ot _ ch oa on oc W slo shi 30 (by decide) (bfd_30 h w c lo hi ot oa on oc O Z B W hL ch RL Rw hR i x wa lw cw ba lb cb x0 y0 z0 H V C hF hch slo shi hs)
  | true =>
    rw [if_pos rfl]
    obtain ⟨-, -, -, -, -, hbi, -⟩ := bfacts hL RL Rw hR i x wa lw cw ba lb cb x0 y0 z0 H V C hF hch
    obtain ⟨N, hN⟩ : ∃ N, (siL (O i 0) (O i 4) (O i 5) (O i 6) (O i 7) (O i 8) (O i 9) (O i 10) (O i 11) x0 y0 z0 ch 0 (Z i)).length = N := ⟨_, rfl⟩
    refine bprd_w h w c lo hi ot _ ch oa on oc W slo shi (H * V) (biA (O i 0) ch (B i)) (O i 19) x0 y0 z0 N (by rw [← hN]; exact slen RL Rw hR i x wa lw cw ba lb cb x0 y0 z0 H V C hF hch) #[.int .i64 (O i 0), .int .i64 0, .int .i64 0, .int .i64 (O i 3), .int .i64 (O i 4), .int .i64 (O i 5), .int .i64 (O i 6), .int .i64 (O i 7), .int .i64 (O i 8), .int .i64 (O i 9), .int .i64 (O i 10), .int .i64 (O i 11), .slice wa lw cw, .slice ba lb cb, .int .i64 (O i 14), .int .i64 (O i 15), .int .i64 (O i 16), .int .i64 (O i 17), .int .i64 (O i 18), .int .i64 (O i 19), .int .i64 (O i 20), .int .i64 (O i 21)] (siL (O i 0) (O i 4) (O i 5) (O i 6) (O i 7) (O i 8) (O i 9) (O i 10) (O i 11) x0 y0 z0 ch 0 (Z i)) _ _ (bfd_ok h w c lo hi ot oa on oc O Z B W hL ch RL Rw hR i x wa lw cw ba lb cb x0 y0 z0 H V C hF hch slo shi hs N hN _ rfl) 34 rfl (fun W' g0 q fa fc hb hg hq hTv hfa => ?_)
    exact bhull_m h w c lo hi ot oa on oc O Z B W hL ch RL Rw hR i x wa lw cw ba lb cb x0 y0 z0 H V C hF hch slo shi hs N (biA (O i 0) ch (B i)) W' hb g0 q fa fc hg hq hTv hfa (fun E => E) 34 #[] (enters_of Try.func34 (by kernel_rfl) rfl) (fun W'' v E L nb b hb' hE h0 hl hv hn hbb hT hL => cprd_any W'' v E L nb b hE h0 hl hv hn hbb hT hL) (fun E hE h0 hl => hE.vd)
theorem bprt_bad (h w c lo hi ot op ch : Int) (oa : Option Addr) (on oc : Nat) (W : World) (slo shi dp E : Int) (hE : E ≠ 0) (hO : (∀ W', Below W.heap.size W W' → (Calls Try.prog 7 #[.agg #[.int .i64 h, .int .i64 w, .int .i64 c, .int .i64 lo, .int .i64 hi, .slice oa on oc, .int .i64 ot], .int .i64 op, .int .i64 ch, .int .i64 0] W' fun e w' => e = .returned (.tuple #[.slice none 0 0, .int .i64 0, .int .i64 E]) ∧ Below W'.heap.size W' w') ∧ ∀ slo shi : Int, Calls Try.prog 24 #[.agg #[.int .i64 h, .int .i64 w, .int .i64 c, .int .i64 lo, .int .i64 hi, .slice oa on oc, .int .i64 ot], .int .i64 op, .int .i64 ch, .agg #[.int .i64 slo, .int .i64 shi]] W' fun e w' => e = .returned (.tuple #[.agg #[.int .i64 0, .int .i64 0, .slice none 0 0, .int .i64 0, .int .i64 0, .int .i64 0, .int .i64 0, .int .i64 0, .int .i64 0, .int .i64 0, .int .i64 0, .int .i64 0, .int .i64 0, .slice none 0 0, .int .i64 0], .int .i64 E]) ∧ Below W'.heap.size W' w')) : Calls Try.prog 10 #[.agg #[.int .i64 h, .int .i64 w, .int .i64 c, .int .i64 lo, .int .i64 hi, .slice oa on oc, .int .i64 ot], .int .i64 op, .int .i64 ch, .agg #[.int .i64 slo, .int .i64 shi], .int .i64 dp] W fun e w' => e = .returned (.tuple #[.agg #[.int .i64 0, .int .i64 0], .int .i64 E]) ∧ Below W.heap.size W w' :=
  bprt_e h w c lo hi ot op ch oa on oc W slo shi dp E hE (fun W' hb => (hO W' hb).2 slo shi)
theorem bprt_ok (h w c lo hi ot : Int) (oa : Option Addr) (on oc : Nat) (O : Nat → Nat → Int) (Z B : Nat → List Int) (W : World) (hL : LRow W oa on oc O Z B) (ch : Int) (RL : List (Int × Int × Int)) (Rw : Int) (hR : gtR O h w c lo hi ot on = (0, 0, RL, Rw)) (i : Nat) (x : Addr) (wa : Option Addr) (lw cw : Nat) (ba : Option Addr) (lb cb : Nat) (x0 y0 z0 H V C : Int) (hF : Fnd W oa on O Z B RL i x wa lw cw ba lb cb x0 y0 z0 H V C) (hch : 1 ≤ ch ∧ ch ≤ C) (slo shi dp : Int) (N : Nat) (hN : (siL (O i 0) (O i 4) (O i 5) (O i 6) (O i 7) (O i 8) (O i 9) (O i 10) (O i 11) x0 y0 z0 ch 0 (Z i)).length = N) : Calls Try.prog 10 #[.agg #[.int .i64 h, .int .i64 w, .int .i64 c, .int .i64 lo, .int .i64 hi, .slice oa on oc, .int .i64 ot], .int .i64 ((i : Int) + 1), .int .i64 ch, .agg #[.int .i64 slo, .int .i64 shi], .int .i64 dp] W fun e w' => e = .returned (.tuple #[.agg #[.int .i64 (spD slo shi dp N (hbD dp.toNat (fun (j : Nat) => enL slo shi (O i 19) (siL (O i 0) (O i 4) (O i 5) (O i 6) (O i 7) (O i 8) (O i 9) (O i 10) (O i 11) x0 y0 z0 ch (j : Int) (Z i))) (H * V).toNat)).1, .int .i64 (spD slo shi dp N (hbD dp.toNat (fun (j : Nat) => enL slo shi (O i 19) (siL (O i 0) (O i 4) (O i 5) (O i 6) (O i 7) (O i 8) (O i 9) (O i 10) (O i 11) x0 y0 z0 ch (j : Int) (Z i))) (H * V).toNat)).2.1], .int .i64 (spD slo shi dp N (hbD dp.toNat (fun (j : Nat) => enL slo shi (O i 19) (siL (O i 0) (O i 4) (O i 5) (O i 6) (O i 7) (O i 8) (O i 9) (O i 10) (O i 11) x0 y0 z0 ch (j : Int) (Z i))) (H * V).toNat)).2.2]) ∧ Below W.heap.size W w' := by
  unfold spD
  have hN5 : N ≤ 512 := by rw [← hN]; exact slen RL Rw hR i x wa lw cw ba lb cb x0 y0 z0 H V C hF hch
  cases hs : vbB slo shi with
  | false =>
    rw [if_neg (by decide)]
    exact bprt_e h w c lo hi ot _ ch oa on oc W slo shi dp 30 (by decide) (bfd_30 h w c lo hi ot oa on oc O Z B W hL ch RL Rw hR i x wa lw cw ba lb cb x0 y0 z0 H V C hF hch slo shi hs)
  | true =>
    rw [if_pos rfl]
    have hFm := bfd_ok h w c lo hi ot oa on oc O Z B W hL ch RL Rw hR i x wa lw cw ba lb cb x0 y0 z0 H V C hF hch slo shi hs N hN _ rfl
    by_cases hd : 1 ≤ dp ∧ dp ≤ (N : Int)
    · rw [if_pos hd]
      obtain ⟨d, rfl⟩ := Int.eq_ofNat_of_zero_le (show 0 ≤ dp by omega)
      rw [Int.toNat_natCast]
      have hbf := bfacts hL RL Rw hR i x wa lw cw ba lb cb x0 y0 z0 H V C hF hch
      have hrf := row_facts (hbf.1.si hbf.2.1) hF.2.2.2.2.2.1.2.2.2.1 hch (vbB_yes hs) hbf.2.2.2.2.1 0
      have hpi := piT_it (show 0 < d by omega) (fun (j : Nat) => enL slo shi (O i 19) (siL (O i 0) (O i 4) (O i 5) (O i 6) (O i 7) (O i 8) (O i 9) (O i 10) (O i 11) x0 y0 z0 ch (j : Int) (Z i))) (H * V).toNat (by omega) hrf.2.1
      unfold hbD
      rw [hpi]
      refine bprt_w h w c lo hi ot _ ch oa on oc W slo shi d (H * V) (biA (O i 0) ch (B i)) (O i 19) x0 y0 z0 N hN5 #[.int .i64 (O i 0), .int .i64 0, .int .i64 0, .int .i64 (O i 3), .int .i64 (O i 4), .int .i64 (O i 5), .int .i64 (O i 6), .int .i64 (O i 7), .int .i64 (O i 8), .int .i64 (O i 9), .int .i64 (O i 10), .int .i64 (O i 11), .slice wa lw cw, .slice ba lb cb, .int .i64 (O i 14), .int .i64 (O i 15), .int .i64 (O i 16), .int .i64 (O i 17), .int .i64 (O i 18), .int .i64 (O i 19), .int .i64 (O i 20), .int .i64 (O i 21)] (siL (O i 0) (O i 4) (O i 5) (O i 6) (O i 7) (O i 8) (O i 9) (O i 10) (O i 11) x0 y0 z0 ch 0 (Z i)) _ _ hFm ⟨by omega, by omega⟩ (fun W' g0 q r fa fc hb hg hq hr hTv hfa => ?_)
      exact bhull_m h w c lo hi ot oa on oc O Z B W hL ch RL Rw hR i x wa lw cw ba lb cb x0 y0 z0 H V C hF hch slo shi hs N (biA (O i 0) ch (B i)) W' hb g0 q fa fc hg hq hTv hfa (fun E => itL d E) 32 #[.pointer (some ⟨r, 0, none⟩)] (enters_of Try.func32 (by kernel_rfl) rfl) (fun W'' v E L nb b hb' hE h0 hl hv hn hbb hT hL => cprt_any W'' d r ((hb'.block r (lt_of_heap hr)).trans hr) (by omega) (by omega) v E L nb b hE h0 hl hv hn hbb hT hL) (fun E hE h0 hl => fprt hE hl)
    · rw [if_neg hd]
      exact bprt_d h w c lo hi ot _ ch oa on oc W slo shi dp (H * V) (biA (O i 0) ch (B i)) (O i 19) x0 y0 z0 N hN5 #[.int .i64 (O i 0), .int .i64 0, .int .i64 0, .int .i64 (O i 3), .int .i64 (O i 4), .int .i64 (O i 5), .int .i64 (O i 6), .int .i64 (O i 7), .int .i64 (O i 8), .int .i64 (O i 9), .int .i64 (O i 10), .int .i64 (O i 11), .slice wa lw cw, .slice ba lb cb, .int .i64 (O i 14), .int .i64 (O i 15), .int .i64 (O i 16), .int .i64 (O i 17), .int .i64 (O i 18), .int .i64 (O i 19), .int .i64 (O i 20), .int .i64 (O i 21)] (siL (O i 0) (O i 4) (O i 5) (O i 6) (O i 7) (O i 8) (O i 9) (O i 10) (O i 11) x0 y0 z0 ch 0 (Z i)) 0 0 hFm hd
end Go.Proofs.Ytbogpgaifbjahaa
