/- one and fixed of law13. Sums of weights, in plain numbers, and what they say at once. What the answers of package bound hold, in plain numbers: one another; over wider spans; Quick. What the small functions of package plain return: places, isInput, widened, scaled, means, added. -/
import Derived.Test.YtbogpgaifbjahaaGr01
import Derived.Test.YtbogpgaifbjahaaGr12
import Derived.Test.YtbogpgaifbjahaaGr23
import Derived.Test.YtbogpgaifbjahaaGr26
import Derived.Test.YtbogpgaifbjahaaGr28
import Derived.BigQuiet
import Derived.LoopN
import Derived.Deep.DeepCutAuto
/- one and fixed of law13. -/
namespace Go.Proofs.Ytbogpgaifbjahaa
open Go.ChangeShapes Go.WideShapes Go.ChangeAt Go.RowKit
set_option linter.unusedVariables false
theorem regionG {P : Program} {ops : Array Oper} {Q : Exit → Act → World → Prop} {id : Nat} {a : Act} {w : World} (C : World → Prop) (M : Act → Act → World → Prop) (hm : P.follows .mixedOrders = true) (g : wpAnyC Fence.wide 3 P .any ops C (Qm (M a)) ops.size (Array.replicate ops.size false) a w.drew) (h : ∀ a' w, M a a' w → Q .normal a' w) : (Code.region id ops true).wp P Q a w :=
  regionM C (M a) hm g h
theorem one13_any (W : World) :
    Calls Try.prog 18 #[] W fun e w' => ∃ g : Nat, e = .returned (.agg #[.int .i64 1, .int .i64 1, .int .i64 2, .int .i64 (-128), .int .i64 127, .slice (some ⟨g, 0, none⟩) 1 1, .int .i64 1]) ∧ LRow w' (some ⟨g, 0, none⟩) 1 1 (plO 0) plZ plB ∧ Below W.heap.size W w' := by
  go_enter Try.func18, Try.ntmps18
  go_wp2
  have s1 := (((St.start W).new (c := #[.int .i64 1, .int .i64 1, .int .i64 2, .int .i64 (-128), .int .i64 127, .slice (some ⟨W.heap.size + 1 + 1 + 1, 0, none⟩) 1 1, .int .i64 1]) (t := 26)).new (c := #[.int .i16 3, .int .i16 (-2)]) (t := 101)).new (c := #[.int .i32 1]) (t := 21)
  simp only [World.size_alloc] at s1
  have s2 := s1.new (c := #[.int .i64 1, .int .i64 0, .int .i64 0, .int .i64 1, .int .i64 0, .int .i64 0, .int .i64 0, .int .i64 0, .int .i64 0, .int .i64 0, .int .i64 0, .int .i64 0, .slice (some ⟨W.heap.size + 1, 0, none⟩) 2 2, .slice (some ⟨W.heap.size + 1 + 1, 0, none⟩) 1 1, .int .i64 1, .int .i64 0, .int .i64 0, .int .i64 0, .int .i64 0, .int .i64 0, .int .i64 (-128), .int .i64 127]) (t := 47)
  simp only [World.size_alloc] at s2
  exact bodyPost_ret (v := .agg #[.int .i64 1, .int .i64 1, .int .i64 2, .int .i64 (-128), .int .i64 127, .slice (some ⟨W.heap.size + 1 + 1 + 1, 0, none⟩) 1 1, .int .i64 1]) (by simp [results, Try.results18, go_sem]) rfl ⟨W.heap.size + 1 + 1 + 1, rfl, pl_lrow (p := W.heap.size + 1) (q := W.heap.size + 1 + 1) s2.h1 s2.h3 s2.h2, s2.below⟩
theorem beqS (T : TypeId) (hT : T = 28) (a1 a2 b1 b2 : Int) (v : Bool) (h : decide (a1 = b1 ∧ a2 = b2) = v) : ∀ W, (binOp .eql T (.agg #[.int .i64 a1, .int .i64 a2]) (.agg #[.int .i64 b1, .int .i64 b2])).run Try.prog W = .ok (.bool v) W := by
  intro W; subst h hT; simp [go_sem]; repeat' split
  all_goals simp_all
theorem pl_len : (siL (plO 0 0 0) (plO 0 0 4) (plO 0 0 5) (plO 0 0 6) (plO 0 0 7) (plO 0 0 8) (plO 0 0 9) (plO 0 0 10) (plO 0 0 11) 1 1 2 1 0 (plZ 0)).length = 2 := by decide
theorem plT : spR 0 10 (hbT (biA (plO 0 0 0) 1 (plB 0)) (fun (j : Nat) => enL 0 10 (plO 0 0 19) (siL (plO 0 0 0) (plO 0 0 4) (plO 0 0 5) (plO 0 0 6) (plO 0 0 7) (plO 0 0 8) (plO 0 0 9) (plO 0 0 10) (plO 0 0 11) 1 1 2 1 (j : Int) (plZ 0))) ((1 : Int) * 1).toNat) = (-19, 31, 0) := by decide
theorem plR : spR 0 10 (hbR (biA (plO 0 0 0) 1 (plB 0)) (fun (j : Nat) => enL 0 10 (plO 0 0 19) (siL (plO 0 0 0) (plO 0 0 4) (plO 0 0 5) (plO 0 0 6) (plO 0 0 7) (plO 0 0 8) (plO 0 0 9) (plO 0 0 10) (plO 0 0 11) 1 1 2 1 (j : Int) (plZ 0))) ((1 : Int) * 1).toNat) = (-19, 31, 0) := by decide
theorem plP : spR 0 10 (hbP (fun (j : Nat) => enL 0 10 (plO 0 0 19) (siL (plO 0 0 0) (plO 0 0 4) (plO 0 0 5) (plO 0 0 6) (plO 0 0 7) (plO 0 0 8) (plO 0 0 9) (plO 0 0 10) (plO 0 0 11) 1 1 2 1 (j : Int) (plZ 0))) ((1 : Int) * 1).toNat) = (-20, 30, 0) := by decide
theorem plD2 : spD 0 10 2 2 (hbD (2 : Int).toNat (fun (j : Nat) => enL 0 10 (plO 0 0 19) (siL (plO 0 0 0) (plO 0 0 4) (plO 0 0 5) (plO 0 0 6) (plO 0 0 7) (plO 0 0 8) (plO 0 0 9) (plO 0 0 10) (plO 0 0 11) 1 1 2 1 (j : Int) (plZ 0))) ((1 : Int) * 1).toNat) = (-20, 30, 0) := by decide
theorem plD3 : spD 0 10 3 2 (hbD (3 : Int).toNat (fun (j : Nat) => enL 0 10 (plO 0 0 19) (siL (plO 0 0 0) (plO 0 0 4) (plO 0 0 5) (plO 0 0 6) (plO 0 0 7) (plO 0 0 8) (plO 0 0 9) (plO 0 0 10) (plO 0 0 11) 1 1 2 1 (j : Int) (plZ 0))) ((1 : Int) * 1).toNat) = (0, 0, 151) := by decide
theorem fx2 (g : Nat) (W : World) (hL : LRow W (some ⟨g, 0, none⟩) 1 1 (plO 0) plZ plB) : Calls Try.prog 8 #[.agg #[.int .i64 1, .int .i64 1, .int .i64 2, .int .i64 (-128), .int .i64 127, .slice (some ⟨g, 0, none⟩) 1 1, .int .i64 1], .int .i64 1, .int .i64 1, .agg #[.int .i64 0, .int .i64 10]] W fun e w' => e = .returned (.tuple #[.agg #[.int .i64 (-19), .int .i64 31], .int .i64 0]) ∧ Below W.heap.size W w' := by
  obtain ⟨wa, lw, cw, ba, lb, cb, hF⟩ := pl_found hL
  have h := btot_ok 1 1 2 (-128) 127 1 (some ⟨g, 0, none⟩) 1 1 (plO 0) plZ plB W hL 1 _ _ pl_0 0 ⟨g, 0, none⟩ wa lw cw ba lb cb 1 1 2 1 1 1 hF (by omega) 0 10
  rw [plT] at h
  exact h
theorem fx3 (g : Nat) (W : World) (hL : LRow W (some ⟨g, 0, none⟩) 1 1 (plO 0) plZ plB) : Calls Try.prog 9 #[.agg #[.int .i64 1, .int .i64 1, .int .i64 2, .int .i64 (-128), .int .i64 127, .slice (some ⟨g, 0, none⟩) 1 1, .int .i64 1], .int .i64 1, .int .i64 1, .agg #[.int .i64 0, .int .i64 10]] W fun e w' => e = .returned (.tuple #[.agg #[.int .i64 (-19), .int .i64 31], .int .i64 0]) ∧ Below W.heap.size W w' := by
  obtain ⟨wa, lw, cw, ba, lb, cb, hF⟩ := pl_found hL
  have h := brun_ok 1 1 2 (-128) 127 1 (some ⟨g, 0, none⟩) 1 1 (plO 0) plZ plB W hL 1 _ _ pl_0 0 ⟨g, 0, none⟩ wa lw cw ba lb cb 1 1 2 1 1 1 hF (by omega) 0 10
  rw [plR] at h
  exact h
theorem fx4 (g : Nat) (W : World) (hL : LRow W (some ⟨g, 0, none⟩) 1 1 (plO 0) plZ plB) : Calls Try.prog 10 #[.agg #[.int .i64 1, .int .i64 1, .int .i64 2, .int .i64 (-128), .int .i64 127, .slice (some ⟨g, 0, none⟩) 1 1, .int .i64 1], .int .i64 1, .int .i64 1, .agg #[.int .i64 0, .int .i64 10], .int .i64 2] W fun e w' => e = .returned (.tuple #[.agg #[.int .i64 (-20), .int .i64 30], .int .i64 0]) ∧ Below W.heap.size W w' := by
  obtain ⟨wa, lw, cw, ba, lb, cb, hF⟩ := pl_found hL
  have h := bprt_ok 1 1 2 (-128) 127 1 (some ⟨g, 0, none⟩) 1 1 (plO 0) plZ plB W hL 1 _ _ pl_0 0 ⟨g, 0, none⟩ wa lw cw ba lb cb 1 1 2 1 1 1 hF (by omega) 0 10 2 2 pl_len
  rw [plD2] at h
  exact h
theorem fx5 (g : Nat) (W : World) (hL : LRow W (some ⟨g, 0, none⟩) 1 1 (plO 0) plZ plB) : Calls Try.prog 11 #[.agg #[.int .i64 1, .int .i64 1, .int .i64 2, .int .i64 (-128), .int .i64 127, .slice (some ⟨g, 0, none⟩) 1 1, .int .i64 1], .int .i64 1, .int .i64 1, .agg #[.int .i64 0, .int .i64 10]] W fun e w' => e = .returned (.tuple #[.agg #[.int .i64 (-20), .int .i64 30], .int .i64 0]) ∧ Below W.heap.size W w' := by
  obtain ⟨wa, lw, cw, ba, lb, cb, hF⟩ := pl_found hL
  have h := bprd_ok 1 1 2 (-128) 127 1 (some ⟨g, 0, none⟩) 1 1 (plO 0) plZ plB W hL 1 _ _ pl_0 0 ⟨g, 0, none⟩ wa lw cw ba lb cb 1 1 2 1 1 1 hF (by omega) 0 10
  rw [plP] at h
  exact h
theorem fx6 (g : Nat) (W : World) (hL : LRow W (some ⟨g, 0, none⟩) 1 1 (plO 0) plZ plB) : Calls Try.prog 10 #[.agg #[.int .i64 1, .int .i64 1, .int .i64 2, .int .i64 (-128), .int .i64 127, .slice (some ⟨g, 0, none⟩) 1 1, .int .i64 1], .int .i64 1, .int .i64 1, .agg #[.int .i64 0, .int .i64 10], .int .i64 3] W fun e w' => e = .returned (.tuple #[.agg #[.int .i64 (0), .int .i64 0], .int .i64 151]) ∧ Below W.heap.size W w' := by
  obtain ⟨wa, lw, cw, ba, lb, cb, hF⟩ := pl_found hL
  have h := bprt_ok 1 1 2 (-128) 127 1 (some ⟨g, 0, none⟩) 1 1 (plO 0) plZ plB W hL 1 _ _ pl_0 0 ⟨g, 0, none⟩ wa lw cw ba lb cb 1 1 2 1 1 1 hF (by omega) 0 10 3 2 pl_len
  rw [plD3] at h
  exact h
set_option maxHeartbeats 8000000 in
set_option maxRecDepth 100000 in
theorem fixed13_any (W : World) : Calls Try.prog 6 #[] W fun e w' => e = .returned (.bool true) ∧ Below W.heap.size W w' := by
  have s1 := (St.start W).new (c := #[.int .i64 0, .int .i64 10]) (t := 28)
  go_enter Try.func6, Try.ntmps6
  go_upto_region 2 with fail
  obtain ⟨w1, hw1⟩ : ∃ w1, W.alloc (.cells #[.int .i64 0, .int .i64 10] 28) = w1 := ⟨_, rfl⟩
  have S1 : Hid (St W w1 ((W.heap.size, #[.int .i64 0, .int .i64 10], 28) :: [])) := by unfold Hid; rw [← hw1]; exact s1
  rw [hw1]
  clear hw1 s1
  refine regionG (fun w' => w'.heap[W.heap.size]? = some (.cells #[.int .i64 0, .int .i64 10] 28 (0, 0))) (fun a0 a' w' => ∃ (g B2 : Nat), a' = (((((((a0.put (some 14) (.agg #[.int .i64 1, .int .i64 1, .int .i64 2, .int .i64 (-128), .int .i64 127, .slice (some ⟨g, 0, none⟩) 1 1, .int .i64 1])).put (some 15) (.agg #[.int .i64 0, .int .i64 10])).put (some 16) (.tuple #[.agg #[.int .i64 (-19), .int .i64 31], .int .i64 0])).put (some 13) (.tuple #[.agg #[.int .i64 (-19), .int .i64 31], .int .i64 0])).put (some 17) (.agg #[.int .i64 (-19), .int .i64 31])).put (some 18) (.int .i64 0)).put (some 2) (.pointer (some ⟨B2, 0, none⟩))).put (some 3) (.int .i64 0) ∧ St W w' ((W.heap.size, #[.int .i64 0, .int .i64 10], 28) :: (B2, #[.int .i64 (-19), .int .i64 31], 28) :: [])) (by kernel_rfl) ?_ ?_
  rotate_left
  rotate_left
  · have s2 := S1.out.drew
    obtain ⟨w2, hw2⟩ : ∃ w2, w1.drew = w2 := ⟨_, rfl⟩
    rw [hw2] at s2 ⊢
    have hx := s2.size
    refine takeC 1 (v := .agg #[.int .i64 0, .int .i64 10]) rfl rfl (by kernel_rfl) (by kernel_rfl) (by kernel_rfl) (fun _ _ _ h => h) (fun _ => rfl) rfl (fun w' hw' => run_la 28 (.tmp 1) rfl ⟨W.heap.size, 0, none⟩ (by kernel_rfl) [.int .i64 0, .int .i64 10] _ (fun j v hj => by rw [Addr.add_lit, Nat.zero_add, (cells_at hw').1]; simpa using hj) Try.underlying28 rfl (by kernel_rfl)) ?_
    refine y2 0 6 s2.h1 (by kernel_rfl) ?_ ?_
    refine yC rfl rfl 18 #[] (by kernel_rfl) (one13_any _) ?_
    rintro e w3 ⟨g, rfl, hL, hb⟩
    refine ⟨_, rfl, ?_⟩
    have s3 := s2.call hb
    refine y2 2 6 s3.h1 (by kernel_rfl) ?_ ?_
    refine yC rfl rfl 8 #[.agg #[.int .i64 1, .int .i64 1, .int .i64 2, .int .i64 (-128), .int .i64 127, .slice (some ⟨g, 0, none⟩) 1 1, .int .i64 1], .int .i64 1, .int .i64 1, .agg #[.int .i64 0, .int .i64 10]] (by kernel_rfl) (fx2 g _ hL) ?_
    rintro e w4 ⟨rfl, hb4⟩
    refine ⟨_, rfl, ?_⟩
    have s4 := s3.call hb4
    refine takeC 3 (v := .tuple #[.agg #[.int .i64 (-19), .int .i64 31], .int .i64 0]) rfl rfl (by kernel_rfl) (by kernel_rfl) (by kernel_rfl) (fun _ _ _ h => h) (fun _ => rfl) rfl (fun w' hw' => by go_simp) ?_
    refine takeC 4 (v := .agg #[.int .i64 (-19), .int .i64 31]) rfl rfl (by kernel_rfl) (by kernel_rfl) (by kernel_rfl) (fun _ _ _ h => h) (fun _ => rfl) rfl (fun w' hw' => by go_simp) ?_
    refine takeC 5 (v := .int .i64 0) rfl rfl (by kernel_rfl) (by kernel_rfl) (by kernel_rfl) (fun _ _ _ h => h) (fun _ => rfl) rfl (fun w' hw' => by go_simp) ?_
    refine yR 6 s4.h1 (by kernel_rfl) rfl rfl (.pointer (some ⟨w4.heap.size, 0, none⟩)) (w4.alloc (.cells #[.int .i64 0, .int .i64 0] 28)) (by kernel_rfl) ?_
    have hB' := lt_of_heap s4.h1
    have s5 := s4.new (c := #[.int .i64 0, .int .i64 0]) (t := 28)
    obtain ⟨B2, hB⟩ : ∃ B, w4.heap.size = B := ⟨_, rfl⟩
    obtain ⟨w5, hw5⟩ : ∃ w5, w4.alloc (.cells #[.int .i64 0, .int .i64 0] 28) = w5 := ⟨_, rfl⟩
    rw [hw5, hB] at s5 ⊢
    have hne : ∀ x ∈ ((W.heap.size, #[.int .i64 0, .int .i64 10], 28) :: [] : List (Nat × Array Value × TypeId)), x.1 < B2 := fun x hx => by rw [← hB]; exact lt_of_heap (s4.2 x hx).1
    rotate_left
    refine yO rfl rfl (.pointer (some ⟨w3.heap.size, 0, none⟩)) (w3.alloc (.cells #[.int .i64 0, .int .i64 0] 28)) (by kernel_rfl) ?_
    have s4 := s3.new (c := #[.int .i64 0, .int .i64 0]) (t := 28)
    refine yK 2 s4.h2 (by kernel_rfl) rfl rfl 8 #[.agg #[.int .i64 1, .int .i64 1, .int .i64 2, .int .i64 (-128), .int .i64 127, .slice (some ⟨g, 0, none⟩) 1 1, .int .i64 1], .int .i64 1, .int .i64 1, .agg #[.int .i64 0, .int .i64 10]] (by kernel_rfl) (fx2 g _ (hL.below (bal _ _))) ?_
    rintro e w5 ⟨rfl, hb4⟩
    refine ⟨_, rfl, ?_⟩
    have s5 := s4.call hb4
    refine takeC 3 (v := .tuple #[.agg #[.int .i64 (-19), .int .i64 31], .int .i64 0]) rfl rfl (by kernel_rfl) (by kernel_rfl) (by kernel_rfl) (fun _ _ _ h => h) (fun _ => rfl) rfl (fun w' hw' => by go_simp) ?_
    refine takeC 4 (v := .agg #[.int .i64 (-19), .int .i64 31]) rfl rfl (by kernel_rfl) (by kernel_rfl) (by kernel_rfl) (fun _ _ _ h => h) (fun _ => rfl) rfl (fun w' hw' => by go_simp) ?_
    refine takeC 5 (v := .int .i64 0) rfl rfl (by kernel_rfl) (by kernel_rfl) (by kernel_rfl) (fun _ _ _ h => h) (fun _ => rfl) rfl (fun w' hw' => by go_simp) ?_
    obtain ⟨B2, hB⟩ : ∃ B, w3.heap.size = B := ⟨_, rfl⟩
    rw [hB] at s5 ⊢
    have hne : ∀ x ∈ ((W.heap.size, #[.int .i64 0, .int .i64 10], 28) :: [] : List (Nat × Array Value × TypeId)), x.1 < B2 := fun x hx => by rw [← hB]; exact lt_of_heap (s3.2 x hx).1
    rotate_left
    refine yO rfl rfl (.pointer (some ⟨w2.heap.size, 0, none⟩)) (w2.alloc (.cells #[.int .i64 0, .int .i64 0] 28)) (by kernel_rfl) ?_
    have s3 := s2.new (c := #[.int .i64 0, .int .i64 0]) (t := 28)
    refine yK 0 s3.h2 (by kernel_rfl) rfl rfl 18 #[] (by kernel_rfl) (one13_any _) ?_
    rintro e w3 ⟨g, rfl, hL, hb⟩
    refine ⟨_, rfl, ?_⟩
    have s4 := s3.call hb
    refine yK 2 s4.h2 (by kernel_rfl) rfl rfl 8 #[.agg #[.int .i64 1, .int .i64 1, .int .i64 2, .int .i64 (-128), .int .i64 127, .slice (some ⟨g, 0, none⟩) 1 1, .int .i64 1], .int .i64 1, .int .i64 1, .agg #[.int .i64 0, .int .i64 10]] (by kernel_rfl) (fx2 g _ hL) ?_
    rintro e w5 ⟨rfl, hb4⟩
    refine ⟨_, rfl, ?_⟩
    have s5 := s4.call hb4
    refine takeC 3 (v := .tuple #[.agg #[.int .i64 (-19), .int .i64 31], .int .i64 0]) rfl rfl (by kernel_rfl) (by kernel_rfl) (by kernel_rfl) (fun _ _ _ h => h) (fun _ => rfl) rfl (fun w' hw' => by go_simp) ?_
    refine takeC 4 (v := .agg #[.int .i64 (-19), .int .i64 31]) rfl rfl (by kernel_rfl) (by kernel_rfl) (by kernel_rfl) (fun _ _ _ h => h) (fun _ => rfl) rfl (fun w' hw' => by go_simp) ?_
    refine takeC 5 (v := .int .i64 0) rfl rfl (by kernel_rfl) (by kernel_rfl) (by kernel_rfl) (fun _ _ _ h => h) (fun _ => rfl) rfl (fun w' hw' => by go_simp) ?_
    obtain ⟨B2, hB⟩ : ∃ B, w2.heap.size = B := ⟨_, rfl⟩
    rw [hB] at s5 ⊢
    have hne : ∀ x ∈ ((W.heap.size, #[.int .i64 0, .int .i64 10], 28) :: [] : List (Nat × Array Value × TypeId)), x.1 < B2 := fun x hx => by rw [← hB]; exact lt_of_heap (s2.2 x hx).1
    all_goals
      refine yS 7 s5.h2 (by kernel_rfl) rfl rfl 28 (.tmp 2) (.tmp 17) rfl B2 #[.int .i64 (-19), .int .i64 31] (by kernel_rfl) (by kernel_rfl) 28 #[.int .i64 0, .int .i64 0] s5.h1 (by kernel_rfl) rfl (by simp [Value.oneCell']) ?_
      have s6 := (s5.rowset (c' := #[.int .i64 (-19), .int .i64 31]) (fun x hx => Nat.ne_of_lt (hne x hx))).up1
      obtain ⟨w6, hw6⟩ : ∃ w6, w5.setRow B2 #[.int .i64 (-19), .int .i64 31] = w6 := ⟨_, rfl⟩
      rw [hw6] at s6 ⊢
      refine yR 8 s6.h1 (by kernel_rfl) rfl rfl (.int .i64 0) w6 (by kernel_rfl) ?_
      exact doneM s6.h1 (by kernel_rfl) ⟨g, B2, by kernel_rfl, s6⟩ _
  rintro a' w2 ⟨g2, B2, rfl, s2⟩
  clear S1
  obtain ⟨w1, hw1⟩ : ∃ w1, w1 = w2 := ⟨_, rfl⟩
  rw [← hw1] at s2 ⊢
  have S1 : Hid (St W w1 ((W.heap.size, #[.int .i64 0, .int .i64 10], 28) :: (B2, #[.int .i64 (-19), .int .i64 31], 28) :: [])) := s2
  clear s2 hw1 w2
  go_upto_region 3 with fail
  refine regionG (fun w' => w'.heap[W.heap.size]? = some (.cells #[.int .i64 0, .int .i64 10] 28 (0, 0))) (fun a0 a' w' => ∃ (g B3 : Nat), a' = (((((((a0.put (some 20) (.agg #[.int .i64 1, .int .i64 1, .int .i64 2, .int .i64 (-128), .int .i64 127, .slice (some ⟨g, 0, none⟩) 1 1, .int .i64 1])).put (some 21) (.agg #[.int .i64 0, .int .i64 10])).put (some 22) (.tuple #[.agg #[.int .i64 (-19), .int .i64 31], .int .i64 0])).put (some 19) (.tuple #[.agg #[.int .i64 (-19), .int .i64 31], .int .i64 0])).put (some 23) (.agg #[.int .i64 (-19), .int .i64 31])).put (some 24) (.int .i64 0)).put (some 4) (.pointer (some ⟨B3, 0, none⟩))).put (some 5) (.int .i64 0) ∧ St W w' ((W.heap.size, #[.int .i64 0, .int .i64 10], 28) :: (B3, #[.int .i64 (-19), .int .i64 31], 28) :: (B2, #[.int .i64 (-19), .int .i64 31], 28) :: [])) (by kernel_rfl) ?_ ?_
  rotate_left
  rotate_left
  · have s2 := S1.out.drew
    obtain ⟨w2, hw2⟩ : ∃ w2, w1.drew = w2 := ⟨_, rfl⟩
    rw [hw2] at s2 ⊢
    have hx := s2.size
    refine takeC 1 (v := .agg #[.int .i64 0, .int .i64 10]) rfl rfl (by kernel_rfl) (by kernel_rfl) (by kernel_rfl) (fun _ _ _ h => h) (fun _ => rfl) rfl (fun w' hw' => run_la 28 (.tmp 1) rfl ⟨W.heap.size, 0, none⟩ (by kernel_rfl) [.int .i64 0, .int .i64 10] _ (fun j v hj => by rw [Addr.add_lit, Nat.zero_add, (cells_at hw').1]; simpa using hj) Try.underlying28 rfl (by kernel_rfl)) ?_
    refine y2 0 6 s2.h1 (by kernel_rfl) ?_ ?_
    refine yC rfl rfl 18 #[] (by kernel_rfl) (one13_any _) ?_
    rintro e w3 ⟨g, rfl, hL, hb⟩
    refine ⟨_, rfl, ?_⟩
    have s3 := s2.call hb
    refine y2 2 6 s3.h1 (by kernel_rfl) ?_ ?_
    refine yC rfl rfl 9 #[.agg #[.int .i64 1, .int .i64 1, .int .i64 2, .int .i64 (-128), .int .i64 127, .slice (some ⟨g, 0, none⟩) 1 1, .int .i64 1], .int .i64 1, .int .i64 1, .agg #[.int .i64 0, .int .i64 10]] (by kernel_rfl) (fx3 g _ hL) ?_
    rintro e w4 ⟨rfl, hb4⟩
    refine ⟨_, rfl, ?_⟩
    have s4 := s3.call hb4
    refine takeC 3 (v := .tuple #[.agg #[.int .i64 (-19), .int .i64 31], .int .i64 0]) rfl rfl (by kernel_rfl) (by kernel_rfl) (by kernel_rfl) (fun _ _ _ h => h) (fun _ => rfl) rfl (fun w' hw' => by go_simp) ?_
    refine takeC 4 (v := .agg #[.int .i64 (-19), .int .i64 31]) rfl rfl (by kernel_rfl) (by kernel_rfl) (by kernel_rfl) (fun _ _ _ h => h) (fun _ => rfl) rfl (fun w' hw' => by go_simp) ?_
    refine takeC 5 (v := .int .i64 0) rfl rfl (by kernel_rfl) (by kernel_rfl) (by kernel_rfl) (fun _ _ _ h => h) (fun _ => rfl) rfl (fun w' hw' => by go_simp) ?_
    refine yR 6 s4.h1 (by kernel_rfl) rfl rfl (.pointer (some ⟨w4.heap.size, 0, none⟩)) (w4.alloc (.cells #[.int .i64 0, .int .i64 0] 28)) (by kernel_rfl) ?_
    have hB' := lt_of_heap s4.h1
    have s5 := s4.new (c := #[.int .i64 0, .int .i64 0]) (t := 28)
    obtain ⟨B3, hB⟩ : ∃ B, w4.heap.size = B := ⟨_, rfl⟩
    obtain ⟨w5, hw5⟩ : ∃ w5, w4.alloc (.cells #[.int .i64 0, .int .i64 0] 28) = w5 := ⟨_, rfl⟩
    rw [hw5, hB] at s5 ⊢
    have hne : ∀ x ∈ ((W.heap.size, #[.int .i64 0, .int .i64 10], 28) :: (B2, #[.int .i64 (-19), .int .i64 31], 28) :: [] : List (Nat × Array Value × TypeId)), x.1 < B3 := fun x hx => by rw [← hB]; exact lt_of_heap (s4.2 x hx).1
    rotate_left
    refine yO rfl rfl (.pointer (some ⟨w3.heap.size, 0, none⟩)) (w3.alloc (.cells #[.int .i64 0, .int .i64 0] 28)) (by kernel_rfl) ?_
    have s4 := s3.new (c := #[.int .i64 0, .int .i64 0]) (t := 28)
    refine yK 2 s4.h2 (by kernel_rfl) rfl rfl 9 #[.agg #[.int .i64 1, .int .i64 1, .int .i64 2, .int .i64 (-128), .int .i64 127, .slice (some ⟨g, 0, none⟩) 1 1, .int .i64 1], .int .i64 1, .int .i64 1, .agg #[.int .i64 0, .int .i64 10]] (by kernel_rfl) (fx3 g _ (hL.below (bal _ _))) ?_
    rintro e w5 ⟨rfl, hb4⟩
    refine ⟨_, rfl, ?_⟩
    have s5 := s4.call hb4
    refine takeC 3 (v := .tuple #[.agg #[.int .i64 (-19), .int .i64 31], .int .i64 0]) rfl rfl (by kernel_rfl) (by kernel_rfl) (by kernel_rfl) (fun _ _ _ h => h) (fun _ => rfl) rfl (fun w' hw' => by go_simp) ?_
    refine takeC 4 (v := .agg #[.int .i64 (-19), .int .i64 31]) rfl rfl (by kernel_rfl) (by kernel_rfl) (by kernel_rfl) (fun _ _ _ h => h) (fun _ => rfl) rfl (fun w' hw' => by go_simp) ?_
    refine takeC 5 (v := .int .i64 0) rfl rfl (by kernel_rfl) (by kernel_rfl) (by kernel_rfl) (fun _ _ _ h => h) (fun _ => rfl) rfl (fun w' hw' => by go_simp) ?_
    obtain ⟨B3, hB⟩ : ∃ B, w3.heap.size = B := ⟨_, rfl⟩
    rw [hB] at s5 ⊢
    have hne : ∀ x ∈ ((W.heap.size, #[.int .i64 0, .int .i64 10], 28) :: (B2, #[.int .i64 (-19), .int .i64 31], 28) :: [] : List (Nat × Array Value × TypeId)), x.1 < B3 := fun x hx => by rw [← hB]; exact lt_of_heap (s3.2 x hx).1
    rotate_left
    refine yO rfl rfl (.pointer (some ⟨w2.heap.size, 0, none⟩)) (w2.alloc (.cells #[.int .i64 0, .int .i64 0] 28)) (by kernel_rfl) ?_
    have s3 := s2.new (c := #[.int .i64 0, .int .i64 0]) (t := 28)
    refine yK 0 s3.h2 (by kernel_rfl) rfl rfl 18 #[] (by kernel_rfl) (one13_any _) ?_
    rintro e w3 ⟨g, rfl, hL, hb⟩
    refine ⟨_, rfl, ?_⟩
    have s4 := s3.call hb
    refine yK 2 s4.h2 (by kernel_rfl) rfl rfl 9 #[.agg #[.int .i64 1, .int .i64 1, .int .i64 2, .int .i64 (-128), .int .i64 127, .slice (some ⟨g, 0, none⟩) 1 1, .int .i64 1], .int .i64 1, .int .i64 1, .agg #[.int .i64 0, .int .i64 10]] (by kernel_rfl) (fx3 g _ hL) ?_
    rintro e w5 ⟨rfl, hb4⟩
    refine ⟨_, rfl, ?_⟩
    have s5 := s4.call hb4
    refine takeC 3 (v := .tuple #[.agg #[.int .i64 (-19), .int .i64 31], .int .i64 0]) rfl rfl (by kernel_rfl) (by kernel_rfl) (by kernel_rfl) (fun _ _ _ h => h) (fun _ => rfl) rfl (fun w' hw' => by go_simp) ?_
    refine takeC 4 (v := .agg #[.int .i64 (-19), .int .i64 31]) rfl rfl (by kernel_rfl) (by kernel_rfl) (by kernel_rfl) (fun _ _ _ h => h) (fun _ => rfl) rfl (fun w' hw' => by go_simp) ?_
    refine takeC 5 (v := .int .i64 0) rfl rfl (by kernel_rfl) (by kernel_rfl) (by kernel_rfl) (fun _ _ _ h => h) (fun _ => rfl) rfl (fun w' hw' => by go_simp) ?_
    obtain ⟨B3, hB⟩ : ∃ B, w2.heap.size = B := ⟨_, rfl⟩
    rw [hB] at s5 ⊢
    have hne : ∀ x ∈ ((W.heap.size, #[.int .i64 0, .int .i64 10], 28) :: (B2, #[.int .i64 (-19), .int .i64 31], 28) :: [] : List (Nat × Array Value × TypeId)), x.1 < B3 := fun x hx => by rw [← hB]; exact lt_of_heap (s2.2 x hx).1
    all_goals
      refine yS 7 s5.h2 (by kernel_rfl) rfl rfl 28 (.tmp 4) (.tmp 23) rfl B3 #[.int .i64 (-19), .int .i64 31] (by kernel_rfl) (by kernel_rfl) 28 #[.int .i64 0, .int .i64 0] s5.h1 (by kernel_rfl) rfl (by simp [Value.oneCell']) ?_
      have s6 := (s5.rowset (c' := #[.int .i64 (-19), .int .i64 31]) (fun x hx => Nat.ne_of_lt (hne x hx))).up1
      obtain ⟨w6, hw6⟩ : ∃ w6, w5.setRow B3 #[.int .i64 (-19), .int .i64 31] = w6 := ⟨_, rfl⟩
      rw [hw6] at s6 ⊢
      refine yR 8 s6.h1 (by kernel_rfl) rfl rfl (.int .i64 0) w6 (by kernel_rfl) ?_
      exact doneM s6.h1 (by kernel_rfl) ⟨g, B3, by kernel_rfl, s6⟩ _
  rintro a' w2 ⟨g3, B3, rfl, s2⟩
  clear S1
  obtain ⟨w1, hw1⟩ : ∃ w1, w1 = w2 := ⟨_, rfl⟩
  rw [← hw1] at s2 ⊢
  have S1 : Hid (St W w1 ((W.heap.size, #[.int .i64 0, .int .i64 10], 28) :: (B3, #[.int .i64 (-19), .int .i64 31], 28) :: (B2, #[.int .i64 (-19), .int .i64 31], 28) :: [])) := s2
  clear s2 hw1 w2
  go_upto_region 4 with fail
  refine regionG (fun w' => w'.heap[W.heap.size]? = some (.cells #[.int .i64 0, .int .i64 10] 28 (0, 0))) (fun a0 a' w' => ∃ (g B4 : Nat), a' = (((((((a0.put (some 26) (.agg #[.int .i64 1, .int .i64 1, .int .i64 2, .int .i64 (-128), .int .i64 127, .slice (some ⟨g, 0, none⟩) 1 1, .int .i64 1])).put (some 27) (.agg #[.int .i64 0, .int .i64 10])).put (some 28) (.tuple #[.agg #[.int .i64 (-20), .int .i64 30], .int .i64 0])).put (some 25) (.tuple #[.agg #[.int .i64 (-20), .int .i64 30], .int .i64 0])).put (some 29) (.agg #[.int .i64 (-20), .int .i64 30])).put (some 30) (.int .i64 0)).put (some 6) (.pointer (some ⟨B4, 0, none⟩))).put (some 7) (.int .i64 0) ∧ St W w' ((W.heap.size, #[.int .i64 0, .int .i64 10], 28) :: (B4, #[.int .i64 (-20), .int .i64 30], 28) :: (B3, #[.int .i64 (-19), .int .i64 31], 28) :: (B2, #[.int .i64 (-19), .int .i64 31], 28) :: [])) (by kernel_rfl) ?_ ?_
  rotate_left
  rotate_left
  · have s2 := S1.out.drew
    obtain ⟨w2, hw2⟩ : ∃ w2, w1.drew = w2 := ⟨_, rfl⟩
    rw [hw2] at s2 ⊢
    have hx := s2.size
    refine takeC 1 (v := .agg #[.int .i64 0, .int .i64 10]) rfl rfl (by kernel_rfl) (by kernel_rfl) (by kernel_rfl) (fun _ _ _ h => h) (fun _ => rfl) rfl (fun w' hw' => run_la 28 (.tmp 1) rfl ⟨W.heap.size, 0, none⟩ (by kernel_rfl) [.int .i64 0, .int .i64 10] _ (fun j v hj => by rw [Addr.add_lit, Nat.zero_add, (cells_at hw').1]; simpa using hj) Try.underlying28 rfl (by kernel_rfl)) ?_
    refine y2 0 6 s2.h1 (by kernel_rfl) ?_ ?_
    refine yC rfl rfl 18 #[] (by kernel_rfl) (one13_any _) ?_
    rintro e w3 ⟨g, rfl, hL, hb⟩
    refine ⟨_, rfl, ?_⟩
    have s3 := s2.call hb
    refine y2 2 6 s3.h1 (by kernel_rfl) ?_ ?_
    refine yC rfl rfl 10 #[.agg #[.int .i64 1, .int .i64 1, .int .i64 2, .int .i64 (-128), .int .i64 127, .slice (some ⟨g, 0, none⟩) 1 1, .int .i64 1], .int .i64 1, .int .i64 1, .agg #[.int .i64 0, .int .i64 10], .int .i64 2] (by kernel_rfl) (fx4 g _ hL) ?_
    rintro e w4 ⟨rfl, hb4⟩
    refine ⟨_, rfl, ?_⟩
    have s4 := s3.call hb4
    refine takeC 3 (v := .tuple #[.agg #[.int .i64 (-20), .int .i64 30], .int .i64 0]) rfl rfl (by kernel_rfl) (by kernel_rfl) (by kernel_rfl) (fun _ _ _ h => h) (fun _ => rfl) rfl (fun w' hw' => by go_simp) ?_
    refine takeC 4 (v := .agg #[.int .i64 (-20), .int .i64 30]) rfl rfl (by kernel_rfl) (by kernel_rfl) (by kernel_rfl) (fun _ _ _ h => h) (fun _ => rfl) rfl (fun w' hw' => by go_simp) ?_
    refine takeC 5 (v := .int .i64 0) rfl rfl (by kernel_rfl) (by kernel_rfl) (by kernel_rfl) (fun _ _ _ h => h) (fun _ => rfl) rfl (fun w' hw' => by go_simp) ?_
    refine yR 6 s4.h1 (by kernel_rfl) rfl rfl (.pointer (some ⟨w4.heap.size, 0, none⟩)) (w4.alloc (.cells #[.int .i64 0, .int .i64 0] 28)) (by kernel_rfl) ?_
    have hB' := lt_of_heap s4.h1
    have s5 := s4.new (c := #[.int .i64 0, .int .i64 0]) (t := 28)
    obtain ⟨B4, hB⟩ : ∃ B, w4.heap.size = B := ⟨_, rfl⟩
    obtain ⟨w5, hw5⟩ : ∃ w5, w4.alloc (.cells #[.int .i64 0, .int .i64 0] 28) = w5 := ⟨_, rfl⟩
    rw [hw5, hB] at s5 ⊢
    have hne : ∀ x ∈ ((W.heap.size, #[.int .i64 0, .int .i64 10], 28) :: (B3, #[.int .i64 (-19), .int .i64 31], 28) :: (B2, #[.int .i64 (-19), .int .i64 31], 28) :: [] : List (Nat × Array Value × TypeId)), x.1 < B4 := fun x hx => by rw [← hB]; exact lt_of_heap (s4.2 x hx).1
    rotate_left
    refine yO rfl rfl (.pointer (some ⟨w3.heap.size, 0, none⟩)) (w3.alloc (.cells #[.int .i64 0, .int .i64 0] 28)) (by kernel_rfl) ?_
    have s4 := s3.new (c := #[.int .i64 0, .int .i64 0]) (t := 28)
    refine yK 2 s4.h2 (by kernel_rfl) rfl rfl 10 #[.agg #[.int .i64 1, .int .i64 1, .int .i64 2, .int .i64 (-128), .int .i64 127, .slice (some ⟨g, 0, none⟩) 1 1, .int .i64 1], .int .i64 1, .int .i64 1, .agg #[.int .i64 0, .int .i64 10], .int .i64 2] (by kernel_rfl) (fx4 g _ (hL.below (bal _ _))) ?_
    rintro e w5 ⟨rfl, hb4⟩
    refine ⟨_, rfl, ?_⟩
    have s5 := s4.call hb4
    refine takeC 3 (v := .tuple #[.agg #[.int .i64 (-20), .int .i64 30], .int .i64 0]) rfl rfl (by kernel_rfl) (by kernel_rfl) (by kernel_rfl) (fun _ _ _ h => h) (fun _ => rfl) rfl (fun w' hw' => by go_simp) ?_
    refine takeC 4 (v := .agg #[.int .i64 (-20), .int .i64 30]) rfl rfl (by kernel_rfl) (by kernel_rfl) (by kernel_rfl) (fun _ _ _ h => h) (fun _ => rfl) rfl (fun w' hw' => by go_simp) ?_
    refine takeC 5 (v := .int .i64 0) rfl rfl (by kernel_rfl) (by kernel_rfl) (by kernel_rfl) (fun _ _ _ h => h) (fun _ => rfl) rfl (fun w' hw' => by go_simp) ?_
    obtain ⟨B4, hB⟩ : ∃ B, w3.heap.size = B := ⟨_, rfl⟩
    rw [hB] at s5 ⊢
    have hne : ∀ x ∈ ((W.heap.size, #[.int .i64 0, .int .i64 10], 28) :: (B3, #[.int .i64 (-19), .int .i64 31], 28) :: (B2, #[.int .i64 (-19), .int .i64 31], 28) :: [] : List (Nat × Array Value × TypeId)), x.1 < B4 := fun x hx => by rw [← hB]; exact lt_of_heap (s3.2 x hx).1
    rotate_left
    refine yO rfl rfl (.pointer (some ⟨w2.heap.size, 0, none⟩)) (w2.alloc (.cells #[.int .i64 0, .int .i64 0] 28)) (by kernel_rfl) ?_
    have s3 := s2.new (c := #[.int .i64 0, .int .i64 0]) (t := 28)
    refine yK 0 s3.h2 (by kernel_rfl) rfl rfl 18 #[] (by kernel_rfl) (one13_any _) ?_
    rintro e w3 ⟨g, rfl, hL, hb⟩
    refine ⟨_, rfl, ?_⟩
    have s4 := s3.call hb
    refine yK 2 s4.h2 (by kernel_rfl) rfl rfl 10 #[.agg #[.int .i64 1, .int .i64 1, .int .i64 2, .int .i64 (-128), .int .i64 127, .slice (some ⟨g, 0, none⟩) 1 1, .int .i64 1], .int .i64 1, .int .i64 1, .agg #[.int .i64 0, .int .i64 10], .int .i64 2] (by kernel_rfl) (fx4 g _ hL) ?_
    rintro e w5 ⟨rfl, hb4⟩
    refine ⟨_, rfl, ?_⟩
    have s5 := s4.call hb4
    refine takeC 3 (v := .tuple #[.agg #[.int .i64 (-20), .int .i64 30], .int .i64 0]) rfl rfl (by kernel_rfl) (by kernel_rfl) (by kernel_rfl) (fun _ _ _ h => h) (fun _ => rfl) rfl (fun w' hw' => by go_simp) ?_
    refine takeC 4 (v := .agg #[.int .i64 (-20), .int .i64 30]) rfl rfl (by kernel_rfl) (by kernel_rfl) (by kernel_rfl) (fun _ _ _ h => h) (fun _ => rfl) rfl (fun w' hw' => by go_simp) ?_
    refine takeC 5 (v := .int .i64 0) rfl rfl (by kernel_rfl) (by kernel_rfl) (by kernel_rfl) (fun _ _ _ h => h) (fun _ => rfl) rfl (fun w' hw' => by go_simp) ?_
    obtain ⟨B4, hB⟩ : ∃ B, w2.heap.size = B := ⟨_, rfl⟩
    rw [hB] at s5 ⊢
    have hne : ∀ x ∈ ((W.heap.size, #[.int .i64 0, .int .i64 10], 28) :: (B3, #[.int .i64 (-19), .int .i64 31], 28) :: (B2, #[.int .i64 (-19), .int .i64 31], 28) :: [] : List (Nat × Array Value × TypeId)), x.1 < B4 := fun x hx => by rw [← hB]; exact lt_of_heap (s2.2 x hx).1
    all_goals
      refine yS 7 s5.h2 (by kernel_rfl) rfl rfl 28 (.tmp 6) (.tmp 29) rfl B4 #[.int .i64 (-20), .int .i64 30] (by kernel_rfl) (by kernel_rfl) 28 #[.int .i64 0, .int .i64 0] s5.h1 (by kernel_rfl) rfl (by simp [Value.oneCell']) ?_
      have s6 := (s5.rowset (c' := #[.int .i64 (-20), .int .i64 30]) (fun x hx => Nat.ne_of_lt (hne x hx))).up1
      obtain ⟨w6, hw6⟩ : ∃ w6, w5.setRow B4 #[.int .i64 (-20), .int .i64 30] = w6 := ⟨_, rfl⟩
      rw [hw6] at s6 ⊢
      refine yR 8 s6.h1 (by kernel_rfl) rfl rfl (.int .i64 0) w6 (by kernel_rfl) ?_
      exact doneM s6.h1 (by kernel_rfl) ⟨g, B4, by kernel_rfl, s6⟩ _
  rintro a' w2 ⟨g4, B4, rfl, s2⟩
  clear S1
  obtain ⟨w1, hw1⟩ : ∃ w1, w1 = w2 := ⟨_, rfl⟩
  rw [← hw1] at s2 ⊢
  have S1 : Hid (St W w1 ((W.heap.size, #[.int .i64 0, .int .i64 10], 28) :: (B4, #[.int .i64 (-20), .int .i64 30], 28) :: (B3, #[.int .i64 (-19), .int .i64 31], 28) :: (B2, #[.int .i64 (-19), .int .i64 31], 28) :: [])) := s2
  clear s2 hw1 w2
  go_upto_region 5 with fail
  refine regionG (fun w' => w'.heap[W.heap.size]? = some (.cells #[.int .i64 0, .int .i64 10] 28 (0, 0))) (fun a0 a' w' => ∃ (g B5 : Nat), a' = (((((((a0.put (some 32) (.agg #[.int .i64 1, .int .i64 1, .int .i64 2, .int .i64 (-128), .int .i64 127, .slice (some ⟨g, 0, none⟩) 1 1, .int .i64 1])).put (some 33) (.agg #[.int .i64 0, .int .i64 10])).put (some 34) (.tuple #[.agg #[.int .i64 (-20), .int .i64 30], .int .i64 0])).put (some 31) (.tuple #[.agg #[.int .i64 (-20), .int .i64 30], .int .i64 0])).put (some 35) (.agg #[.int .i64 (-20), .int .i64 30])).put (some 36) (.int .i64 0)).put (some 8) (.pointer (some ⟨B5, 0, none⟩))).put (some 9) (.int .i64 0) ∧ St W w' ((W.heap.size, #[.int .i64 0, .int .i64 10], 28) :: (B5, #[.int .i64 (-20), .int .i64 30], 28) :: (B4, #[.int .i64 (-20), .int .i64 30], 28) :: (B3, #[.int .i64 (-19), .int .i64 31], 28) :: (B2, #[.int .i64 (-19), .int .i64 31], 28) :: [])) (by kernel_rfl) ?_ ?_
  rotate_left
  rotate_left
  · have s2 := S1.out.drew
    obtain ⟨w2, hw2⟩ : ∃ w2, w1.drew = w2 := ⟨_, rfl⟩
    rw [hw2] at s2 ⊢
    have hx := s2.size
    refine takeC 1 (v := .agg #[.int .i64 0, .int .i64 10]) rfl rfl (by kernel_rfl) (by kernel_rfl) (by kernel_rfl) (fun _ _ _ h => h) (fun _ => rfl) rfl (fun w' hw' => run_la 28 (.tmp 1) rfl ⟨W.heap.size, 0, none⟩ (by kernel_rfl) [.int .i64 0, .int .i64 10] _ (fun j v hj => by rw [Addr.add_lit, Nat.zero_add, (cells_at hw').1]; simpa using hj) Try.underlying28 rfl (by kernel_rfl)) ?_
    refine y2 0 6 s2.h1 (by kernel_rfl) ?_ ?_
    refine yC rfl rfl 18 #[] (by kernel_rfl) (one13_any _) ?_
    rintro e w3 ⟨g, rfl, hL, hb⟩
    refine ⟨_, rfl, ?_⟩
    have s3 := s2.call hb
    refine y2 2 6 s3.h1 (by kernel_rfl) ?_ ?_
    refine yC rfl rfl 11 #[.agg #[.int .i64 1, .int .i64 1, .int .i64 2, .int .i64 (-128), .int .i64 127, .slice (some ⟨g, 0, none⟩) 1 1, .int .i64 1], .int .i64 1, .int .i64 1, .agg #[.int .i64 0, .int .i64 10]] (by kernel_rfl) (fx5 g _ hL) ?_
    rintro e w4 ⟨rfl, hb4⟩
    refine ⟨_, rfl, ?_⟩
    have s4 := s3.call hb4
    refine takeC 3 (v := .tuple #[.agg #[.int .i64 (-20), .int .i64 30], .int .i64 0]) rfl rfl (by kernel_rfl) (by kernel_rfl) (by kernel_rfl) (fun _ _ _ h => h) (fun _ => rfl) rfl (fun w' hw' => by go_simp) ?_
    refine takeC 4 (v := .agg #[.int .i64 (-20), .int .i64 30]) rfl rfl (by kernel_rfl) (by kernel_rfl) (by kernel_rfl) (fun _ _ _ h => h) (fun _ => rfl) rfl (fun w' hw' => by go_simp) ?_
    refine takeC 5 (v := .int .i64 0) rfl rfl (by kernel_rfl) (by kernel_rfl) (by kernel_rfl) (fun _ _ _ h => h) (fun _ => rfl) rfl (fun w' hw' => by go_simp) ?_
    refine yR 6 s4.h1 (by kernel_rfl) rfl rfl (.pointer (some ⟨w4.heap.size, 0, none⟩)) (w4.alloc (.cells #[.int .i64 0, .int .i64 0] 28)) (by kernel_rfl) ?_
    have hB' := lt_of_heap s4.h1
    have s5 := s4.new (c := #[.int .i64 0, .int .i64 0]) (t := 28)
    obtain ⟨B5, hB⟩ : ∃ B, w4.heap.size = B := ⟨_, rfl⟩
    obtain ⟨w5, hw5⟩ : ∃ w5, w4.alloc (.cells #[.int .i64 0, .int .i64 0] 28) = w5 := ⟨_, rfl⟩
    rw [hw5, hB] at s5 ⊢
    have hne : ∀ x ∈ ((W.heap.size, #[.int .i64 0, .int .i64 10], 28) :: (B4, #[.int .i64 (-20), .int .i64 30], 28) :: (B3, #[.int .i64 (-19), .int .i64 31], 28) :: (B2, #[.int .i64 (-19), .int .i64 31], 28) :: [] : List (Nat × Array Value × TypeId)), x.1 < B5 := fun x hx => by rw [← hB]; exact lt_of_heap (s4.2 x hx).1
    rotate_left
    refine yO rfl rfl (.pointer (some ⟨w3.heap.size, 0, none⟩)) (w3.alloc (.cells #[.int .i64 0, .int .i64 0] 28)) (by kernel_rfl) ?_
    have s4 := s3.new (c := #[.int .i64 0, .int .i64 0]) (t := 28)
    refine yK 2 s4.h2 (by kernel_rfl) rfl rfl 11 #[.agg #[.int .i64 1, .int .i64 1, .int .i64 2, .int .i64 (-128), .int .i64 127, .slice (some ⟨g, 0, none⟩) 1 1, .int .i64 1], .int .i64 1, .int .i64 1, .agg #[.int .i64 0, .int .i64 10]] (by kernel_rfl) (fx5 g _ (hL.below (bal _ _))) ?_
    rintro e w5 ⟨rfl, hb4⟩
    refine ⟨_, rfl, ?_⟩
    have s5 := s4.call hb4
    refine takeC 3 (v := .tuple #[.agg #[.int .i64 (-20), .int .i64 30], .int .i64 0]) rfl rfl (by kernel_rfl) (by kernel_rfl) (by kernel_rfl) (fun _ _ _ h => h) (fun _ => rfl) rfl (fun w' hw' => by go_simp) ?_
    refine takeC 4 (v := .agg #[.int .i64 (-20), .int .i64 30]) rfl rfl (by kernel_rfl) (by kernel_rfl) (by kernel_rfl) (fun _ _ _ h => h) (fun _ => rfl) rfl (fun w' hw' => by go_simp) ?_
    refine takeC 5 (v := .int .i64 0) rfl rfl (by kernel_rfl) (by kernel_rfl) (by kernel_rfl) (fun _ _ _ h => h) (fun _ => rfl) rfl (fun w' hw' => by go_simp) ?_
    obtain ⟨B5, hB⟩ : ∃ B, w3.heap.size = B := ⟨_, rfl⟩
    rw [hB] at s5 ⊢
    have hne : ∀ x ∈ ((W.heap.size, #[.int .i64 0, .int .i64 10], 28) :: (B4, #[.int .i64 (-20), .int .i64 30], 28) :: (B3, #[.int .i64 (-19), .int .i64 31], 28) :: (B2, #[.int .i64 (-19), .int .i64 31], 28) :: [] : List (Nat × Array Value × TypeId)), x.1 < B5 := fun x hx => by rw [← hB]; exact lt_of_heap (s3.2 x hx).1
    rotate_left
    refine yO rfl rfl (.pointer (some ⟨w2.heap.size, 0, none⟩)) (w2.alloc (.cells #[.int .i64 0, .int .i64 0] 28)) (by kernel_rfl) ?_
    have s3 := s2.new (c := #[.int .i64 0, .int .i64 0]) (t := 28)
    refine yK 0 s3.h2 (by kernel_rfl) rfl rfl 18 #[] (by kernel_rfl) (one13_any _) ?_
    rintro e w3 ⟨g, rfl, hL, hb⟩
    refine ⟨_, rfl, ?_⟩
    have s4 := s3.call hb
    refine yK 2 s4.h2 (by kernel_rfl) rfl rfl 11 #[.agg #[.int .i64 1, .int .i64 1, .int .i64 2, .int .i64 (-128), .int .i64 127, .slice (some ⟨g, 0, none⟩) 1 1, .int .i64 1], .int .i64 1, .int .i64 1, .agg #[.int .i64 0, .int .i64 10]] (by kernel_rfl) (fx5 g _ hL) ?_
    rintro e w5 ⟨rfl, hb4⟩
    refine ⟨_, rfl, ?_⟩
    have s5 := s4.call hb4
    refine takeC 3 (v := .tuple #[.agg #[.int .i64 (-20), .int .i64 30], .int .i64 0]) rfl rfl (by kernel_rfl) (by kernel_rfl) (by kernel_rfl) (fun _ _ _ h => h) (fun _ => rfl) rfl (fun w' hw' => by go_simp) ?_
    refine takeC 4 (v := .agg #[.int .i64 (-20), .int .i64 30]) rfl rfl (by kernel_rfl) (by kernel_rfl) (by kernel_rfl) (fun _ _ _ h => h) (fun _ => rfl) rfl (fun w' hw' => by go_simp) ?_
    refine takeC 5 (v := .int .i64 0) rfl rfl (by kernel_rfl) (by kernel_rfl) (by kernel_rfl) (fun _ _ _ h => h) (fun _ => rfl) rfl (fun w' hw' => by go_simp) ?_
    obtain ⟨B5, hB⟩ : ∃ B, w2.heap.size = B := ⟨_, rfl⟩
    rw [hB] at s5 ⊢
    have hne : ∀ x ∈ ((W.heap.size, #[.int .i64 0, .int .i64 10], 28) :: (B4, #[.int .i64 (-20), .int .i64 30], 28) :: (B3, #[.int .i64 (-19), .int .i64 31], 28) :: (B2, #[.int .i64 (-19), .int .i64 31], 28) :: [] : List (Nat × Array Value × TypeId)), x.1 < B5 := fun x hx => by rw [← hB]; exact lt_of_heap (s2.2 x hx).1
    all_goals
      refine yS 7 s5.h2 (by kernel_rfl) rfl rfl 28 (.tmp 8) (.tmp 35) rfl B5 #[.int .i64 (-20), .int .i64 30] (by kernel_rfl) (by kernel_rfl) 28 #[.int .i64 0, .int .i64 0] s5.h1 (by kernel_rfl) rfl (by simp [Value.oneCell']) ?_
      have s6 := (s5.rowset (c' := #[.int .i64 (-20), .int .i64 30]) (fun x hx => Nat.ne_of_lt (hne x hx))).up1
      obtain ⟨w6, hw6⟩ : ∃ w6, w5.setRow B5 #[.int .i64 (-20), .int .i64 30] = w6 := ⟨_, rfl⟩
      rw [hw6] at s6 ⊢
      refine yR 8 s6.h1 (by kernel_rfl) rfl rfl (.int .i64 0) w6 (by kernel_rfl) ?_
      exact doneM s6.h1 (by kernel_rfl) ⟨g, B5, by kernel_rfl, s6⟩ _
  rintro a' w2 ⟨g5, B5, rfl, s2⟩
  clear S1
  obtain ⟨w1, hw1⟩ : ∃ w1, w1 = w2 := ⟨_, rfl⟩
  rw [← hw1] at s2 ⊢
  have S1 : Hid (St W w1 ((W.heap.size, #[.int .i64 0, .int .i64 10], 28) :: (B5, #[.int .i64 (-20), .int .i64 30], 28) :: (B4, #[.int .i64 (-20), .int .i64 30], 28) :: (B3, #[.int .i64 (-19), .int .i64 31], 28) :: (B2, #[.int .i64 (-19), .int .i64 31], 28) :: [])) := s2
  clear s2 hw1 w2
  go_upto_region 6 with fail
  refine regionG (fun w' => w'.heap[W.heap.size]? = some (.cells #[.int .i64 0, .int .i64 10] 28 (0, 0))) (fun a0 a' w' => ∃ (g B6 : Nat), a' = (((((((a0.put (some 38) (.agg #[.int .i64 1, .int .i64 1, .int .i64 2, .int .i64 (-128), .int .i64 127, .slice (some ⟨g, 0, none⟩) 1 1, .int .i64 1])).put (some 39) (.agg #[.int .i64 0, .int .i64 10])).put (some 40) (.tuple #[.agg #[.int .i64 (0), .int .i64 0], .int .i64 151])).put (some 37) (.tuple #[.agg #[.int .i64 (0), .int .i64 0], .int .i64 151])).put (some 41) (.agg #[.int .i64 (0), .int .i64 0])).put (some 42) (.int .i64 151)).put (some 10) (.pointer (some ⟨B6, 0, none⟩))).put (some 11) (.int .i64 151) ∧ St W w' ((W.heap.size, #[.int .i64 0, .int .i64 10], 28) :: (B6, #[.int .i64 (0), .int .i64 0], 28) :: (B5, #[.int .i64 (-20), .int .i64 30], 28) :: (B4, #[.int .i64 (-20), .int .i64 30], 28) :: (B3, #[.int .i64 (-19), .int .i64 31], 28) :: (B2, #[.int .i64 (-19), .int .i64 31], 28) :: [])) (by kernel_rfl) ?_ ?_
  rotate_left
  rotate_left
  · have s2 := S1.out.drew
    obtain ⟨w2, hw2⟩ : ∃ w2, w1.drew = w2 := ⟨_, rfl⟩
    rw [hw2] at s2 ⊢
    have hx := s2.size
    refine takeC 1 (v := .agg #[.int .i64 0, .int .i64 10]) rfl rfl (by kernel_rfl) (by kernel_rfl) (by kernel_rfl) (fun _ _ _ h => h) (fun _ => rfl) rfl (fun w' hw' => run_la 28 (.tmp 1) rfl ⟨W.heap.size, 0, none⟩ (by kernel_rfl) [.int .i64 0, .int .i64 10] _ (fun j v hj => by rw [Addr.add_lit, Nat.zero_add, (cells_at hw').1]; simpa using hj) Try.underlying28 rfl (by kernel_rfl)) ?_
    refine y2 0 6 s2.h1 (by kernel_rfl) ?_ ?_
    refine yC rfl rfl 18 #[] (by kernel_rfl) (one13_any _) ?_
    rintro e w3 ⟨g, rfl, hL, hb⟩
    refine ⟨_, rfl, ?_⟩
    have s3 := s2.call hb
    refine y2 2 6 s3.h1 (by kernel_rfl) ?_ ?_
    refine yC rfl rfl 10 #[.agg #[.int .i64 1, .int .i64 1, .int .i64 2, .int .i64 (-128), .int .i64 127, .slice (some ⟨g, 0, none⟩) 1 1, .int .i64 1], .int .i64 1, .int .i64 1, .agg #[.int .i64 0, .int .i64 10], .int .i64 3] (by kernel_rfl) (fx6 g _ hL) ?_
    rintro e w4 ⟨rfl, hb4⟩
    refine ⟨_, rfl, ?_⟩
    have s4 := s3.call hb4
    refine takeC 3 (v := .tuple #[.agg #[.int .i64 (0), .int .i64 0], .int .i64 151]) rfl rfl (by kernel_rfl) (by kernel_rfl) (by kernel_rfl) (fun _ _ _ h => h) (fun _ => rfl) rfl (fun w' hw' => by go_simp) ?_
    refine takeC 4 (v := .agg #[.int .i64 (0), .int .i64 0]) rfl rfl (by kernel_rfl) (by kernel_rfl) (by kernel_rfl) (fun _ _ _ h => h) (fun _ => rfl) rfl (fun w' hw' => by go_simp) ?_
    refine takeC 5 (v := .int .i64 151) rfl rfl (by kernel_rfl) (by kernel_rfl) (by kernel_rfl) (fun _ _ _ h => h) (fun _ => rfl) rfl (fun w' hw' => by go_simp) ?_
    refine yR 6 s4.h1 (by kernel_rfl) rfl rfl (.pointer (some ⟨w4.heap.size, 0, none⟩)) (w4.alloc (.cells #[.int .i64 0, .int .i64 0] 28)) (by kernel_rfl) ?_
    have hB' := lt_of_heap s4.h1
    have s5 := s4.new (c := #[.int .i64 0, .int .i64 0]) (t := 28)
    obtain ⟨B6, hB⟩ : ∃ B, w4.heap.size = B := ⟨_, rfl⟩
    obtain ⟨w5, hw5⟩ : ∃ w5, w4.alloc (.cells #[.int .i64 0, .int .i64 0] 28) = w5 := ⟨_, rfl⟩
    rw [hw5, hB] at s5 ⊢
    have hne : ∀ x ∈ ((W.heap.size, #[.int .i64 0, .int .i64 10], 28) :: (B5, #[.int .i64 (-20), .int .i64 30], 28) :: (B4, #[.int .i64 (-20), .int .i64 30], 28) :: (B3, #[.int .i64 (-19), .int .i64 31], 28) :: (B2, #[.int .i64 (-19), .int .i64 31], 28) :: [] : List (Nat × Array Value × TypeId)), x.1 < B6 := fun x hx => by rw [← hB]; exact lt_of_heap (s4.2 x hx).1
    rotate_left
    refine yO rfl rfl (.pointer (some ⟨w3.heap.size, 0, none⟩)) (w3.alloc (.cells #[.int .i64 0, .int .i64 0] 28)) (by kernel_rfl) ?_
    have s4 := s3.new (c := #[.int .i64 0, .int .i64 0]) (t := 28)
    refine yK 2 s4.h2 (by kernel_rfl) rfl rfl 10 #[.agg #[.int .i64 1, .int .i64 1, .int .i64 2, .int .i64 (-128), .int .i64 127, .slice (some ⟨g, 0, none⟩) 1 1, .int .i64 1], .int .i64 1, .int .i64 1, .agg #[.int .i64 0, .int .i64 10], .int .i64 3] (by kernel_rfl) (fx6 g _ (hL.below (bal _ _))) ?_
    rintro e w5 ⟨rfl, hb4⟩
    refine ⟨_, rfl, ?_⟩
    have s5 := s4.call hb4
    refine takeC 3 (v := .tuple #[.agg #[.int .i64 (0), .int .i64 0], .int .i64 151]) rfl rfl (by kernel_rfl) (by kernel_rfl) (by kernel_rfl) (fun _ _ _ h => h) (fun _ => rfl) rfl (fun w' hw' => by go_simp) ?_
    refine takeC 4 (v := .agg #[.int .i64 (0), .int .i64 0]) rfl rfl (by kernel_rfl) (by kernel_rfl) (by kernel_rfl) (fun _ _ _ h => h) (fun _ => rfl) rfl (fun w' hw' => by go_simp) ?_
    refine takeC 5 (v := .int .i64 151) rfl rfl (by kernel_rfl) (by kernel_rfl) (by kernel_rfl) (fun _ _ _ h => h) (fun _ => rfl) rfl (fun w' hw' => by go_simp) ?_
    obtain ⟨B6, hB⟩ : ∃ B, w3.heap.size = B := ⟨_, rfl⟩
    rw [hB] at s5 ⊢
    have hne : ∀ x ∈ ((W.heap.size, #[.int .i64 0, .int .i64 10], 28) :: (B5, #[.int .i64 (-20), .int .i64 30], 28) :: (B4, #[.int .i64 (-20), .int .i64 30], 28) :: (B3, #[.int .i64 (-19), .int .i64 31], 28) :: (B2, #[.int .i64 (-19), .int .i64 31], 28) :: [] : List (Nat × Array Value × TypeId)), x.1 < B6 := fun x hx => by rw [← hB]; exact lt_of_heap (s3.2 x hx).1
    rotate_left
    refine yO rfl rfl (.pointer (some ⟨w2.heap.size, 0, none⟩)) (w2.alloc (.cells #[.int .i64 0, .int .i64 0] 28)) (by kernel_rfl) ?_
    have s3 := s2.new (c := #[.int .i64 0, .int .i64 0]) (t := 28)
    refine yK 0 s3.h2 (by kernel_rfl) rfl rfl 18 #[] (by kernel_rfl) (one13_any _) ?_
    rintro e w3 ⟨g, rfl, hL, hb⟩
    refine ⟨_, rfl, ?_⟩
    have s4 := s3.call hb
    refine yK 2 s4.h2 (by kernel_rfl) rfl rfl 10 #[.agg #[.int .i64 1, .int .i64 1, .int .i64 2, .int .i64 (-128), .int .i64 127, .slice (some ⟨g, 0, none⟩) 1 1, .int .i64 1], .int .i64 1, .int .i64 1, .agg #[.int .i64 0, .int .i64 10], .int .i64 3] (by kernel_rfl) (fx6 g _ hL) ?_
    rintro e w5 ⟨rfl, hb4⟩
    refine ⟨_, rfl, ?_⟩
    have s5 := s4.call hb4
    refine takeC 3 (v := .tuple #[.agg #[.int .i64 (0), .int .i64 0], .int .i64 151]) rfl rfl (by kernel_rfl) (by kernel_rfl) (by kernel_rfl) (fun _ _ _ h => h) (fun _ => rfl) rfl (fun w' hw' => by go_simp) ?_
    refine takeC 4 (v := .agg #[.int .i64 (0), .int .i64 0]) rfl rfl (by kernel_rfl) (by kernel_rfl) (by kernel_rfl) (fun _ _ _ h => h) (fun _ => rfl) rfl (fun w' hw' => by go_simp) ?_
    refine takeC 5 (v := .int .i64 151) rfl rfl (by kernel_rfl) (by kernel_rfl) (by kernel_rfl) (fun _ _ _ h => h) (fun _ => rfl) rfl (fun w' hw' => by go_simp) ?_
    obtain ⟨B6, hB⟩ : ∃ B, w2.heap.size = B := ⟨_, rfl⟩
    rw [hB] at s5 ⊢
    have hne : ∀ x ∈ ((W.heap.size, #[.int .i64 0, .int .i64 10], 28) :: (B5, #[.int .i64 (-20), .int .i64 30], 28) :: (B4, #[.int .i64 (-20), .int .i64 30], 28) :: (B3, #[.int .i64 (-19), .int .i64 31], 28) :: (B2, #[.int .i64 (-19), .int .i64 31], 28) :: [] : List (Nat × Array Value × TypeId)), x.1 < B6 := fun x hx => by rw [← hB]; exact lt_of_heap (s2.2 x hx).1
    all_goals
      refine yS 7 s5.h2 (by kernel_rfl) rfl rfl 28 (.tmp 10) (.tmp 41) rfl B6 #[.int .i64 (0), .int .i64 0] (by kernel_rfl) (by kernel_rfl) 28 #[.int .i64 0, .int .i64 0] s5.h1 (by kernel_rfl) rfl (by simp [Value.oneCell']) ?_
      have s6 := (s5.rowset (c' := #[.int .i64 (0), .int .i64 0]) (fun x hx => Nat.ne_of_lt (hne x hx))).up1
      obtain ⟨w6, hw6⟩ : ∃ w6, w5.setRow B6 #[.int .i64 (0), .int .i64 0] = w6 := ⟨_, rfl⟩
      rw [hw6] at s6 ⊢
      refine yR 8 s6.h1 (by kernel_rfl) rfl rfl (.int .i64 151) w6 (by kernel_rfl) ?_
      exact doneM s6.h1 (by kernel_rfl) ⟨g, B6, by kernel_rfl, s6⟩ _
  rintro a' w2 ⟨g6, B6, rfl, s2⟩
  clear S1
  obtain ⟨w1, hw1⟩ : ∃ w1, w1 = w2 := ⟨_, rfl⟩
  rw [← hw1] at s2 ⊢
  have S1 : Hid (St W w1 ((W.heap.size, #[.int .i64 0, .int .i64 10], 28) :: (B6, #[.int .i64 (0), .int .i64 0], 28) :: (B5, #[.int .i64 (-20), .int .i64 30], 28) :: (B4, #[.int .i64 (-20), .int .i64 30], 28) :: (B3, #[.int .i64 (-19), .int .i64 31], 28) :: (B2, #[.int .i64 (-19), .int .i64 31], 28) :: [])) := s2
  clear s2 hw1 w2
  obtain ⟨-, -, -, c6, f6, z6, c5, f5, z5, c4, f4, z4, c3, f3, z3, c2, f2, z2, -⟩ := S1.out.rules
  have q1 := beqS 28 rfl (-19) 31 (-19) 31 true (by decide)
  have q2 := beqS 28 rfl (-20) 30 (-20) 30 true (by decide)
  go_wp2
  go_ret
  exact ⟨rfl, S1.out.below⟩
end Go.Proofs.Ytbogpgaifbjahaa

/- Sums of weights, in plain numbers, and what they say at once. -/
namespace Go.Proofs.Ytbogpgaifbjahaa
open Go.ChangeShapes Go.WideShapes Go.ChangeAt Go.RowKit
set_option linter.unusedVariables false
def upW (a : Int) : Int := if 0 < a then a else 0
def dnW (a : Int) : Int := if 0 < a then 0 else a
theorem upW_bd {a : Int} (h : -32768 ≤ a ∧ a ≤ 32767) : 0 ≤ upW a ∧ upW a ≤ 32768 := by unfold upW; split <;> omega
theorem dnW_bd {a : Int} (h : -32768 ≤ a ∧ a ≤ 32767) : -32768 ≤ dnW a ∧ dnW a ≤ 0 := by unfold dnW; split <;> omega
/-- The weights above 0 added up; those below. -/
def upS : List (Int × Int) → Int
  | [] => 0
  | t :: l => upW t.1 + upS l
def dnS : List (Int × Int) → Int
  | [] => 0
  | t :: l => dnW t.1 + dnS l
theorem upS_app : ∀ l r : List (Int × Int), upS (l ++ r) = upS l + upS r
  | [], r => by simp [upS]
  | t :: l, r => by simp only [List.cons_append, upS, upS_app l r]; omega
theorem dnS_app : ∀ l r : List (Int × Int), dnS (l ++ r) = dnS l + dnS r
  | [], r => by simp [dnS]
  | t :: l, r => by simp only [List.cons_append, dnS, dnS_app l r]; omega
theorem upS_take {l : List (Int × Int)} {n : Nat} {u v : Int} (hn : n < l.length) (h : l.getD n (0, 0) = (u, v)) : upS (l.take (n + 1)) = upS (l.take n) + upW u := by
  rw [List.getD_eq_getElem?_getD, List.getElem?_eq_getElem hn, Option.getD_some] at h
  rw [List.take_add_one, List.getElem?_eq_getElem hn, upS_app, h]
  simp [upS]
theorem dnS_take {l : List (Int × Int)} {n : Nat} {u v : Int} (hn : n < l.length) (h : l.getD n (0, 0) = (u, v)) : dnS (l.take (n + 1)) = dnS (l.take n) + dnW u := by
  rw [List.getD_eq_getElem?_getD, List.getElem?_eq_getElem hn, Option.getD_some] at h
  rw [List.take_add_one, List.getElem?_eq_getElem hn, dnS_app, h]
  simp [dnS]
theorem sg_bd : ∀ l : List (Int × Int), (∀ t ∈ l, -32768 ≤ t.1 ∧ t.1 ≤ 32767) → (0 ≤ upS l ∧ upS l ≤ 32768 * (l.length : Int)) ∧ (-(32768 * (l.length : Int)) ≤ dnS l ∧ dnS l ≤ 0)
  | [], _ => by simp [upS, dnS]
  | t :: l, h => by
    have h1 := sg_bd l fun t ht => h t (List.mem_cons_of_mem _ ht)
    have h2 := upW_bd (h t List.mem_cons_self)
    have h3 := dnW_bd (h t List.mem_cons_self)
    simp only [upS, dnS, List.length_cons]
    omega
theorem sg_take {l : List (Int × Int)} (h : ∀ t ∈ l, -32768 ≤ t.1 ∧ t.1 ≤ 32767) (hl : l.length ≤ 512) (n : Nat) : (0 ≤ upS (l.take n) ∧ upS (l.take n) ≤ 16777216) ∧ (-16777216 ≤ dnS (l.take n) ∧ dnS (l.take n) ≤ 0) := by
  have h1 := sg_bd (l.take n) (take_mem h n)
  have h2 : (l.take n).length ≤ 512 := by rw [List.length_take]; omega
  omega
theorem sg_all {l : List (Int × Int)} (h : ∀ t ∈ l, -32768 ≤ t.1 ∧ t.1 ≤ 32767) (hl : l.length ≤ 512) : (0 ≤ upS l ∧ upS l ≤ 16777216) ∧ (-16777216 ≤ dnS l ∧ dnS l ≤ 0) := by
  have h1 := sg_bd l h
  omega
theorem sg_fst : ∀ l r : List (Int × Int), l.map (·.1) = r.map (·.1) → upS l = upS r ∧ dnS l = dnS r
  | [], [], _ => ⟨rfl, rfl⟩
  | [], _ :: _, h => by simp at h
  | _ :: _, [], h => by simp at h
  | t :: l, s :: r, h => by
    simp only [List.map_cons, List.cons.injEq] at h
    have ih := sg_fst l r h.2
    simp only [upS, dnS, h.1, ih.1, ih.2]
    exact ⟨trivial, trivial⟩
/-- A channel's weights are the same wherever its sum is. -/
theorem siL_fst (k kh kw sh sw tp lf bt rt h w c ch a1 a2 : Int) (zs : List Int) : (siL k kh kw sh sw tp lf bt rt h w c ch a1 zs).map (·.1) = (siL k kh kw sh sw tp lf bt rt h w c ch a2 zs).map (·.1) := by
  unfold siL tmL
  rw [List.map_map, List.map_map]
  rfl
/-! ### How far from 0 -/
def szV (x : Int) : Int := if x < 0 then -x else x
def rcS (lo hi : Int) : Int := mxI (szV lo) (szV hi)
def rcV (tp lf bt rt p lo hi : Int) : Int := if 0 < tp + lf + bt + rt then mxI (rcS lo hi) (szV p) else rcS lo hi
theorem szV_bd {x : Int} (h : -128 ≤ x ∧ x ≤ 127) : 0 ≤ szV x ∧ szV x ≤ 128 := by unfold szV; split <;> omega
theorem mxI_bd {a b X : Int} (h1 : 0 ≤ a ∧ a ≤ X) (h2 : 0 ≤ b ∧ b ≤ X) : 0 ≤ mxI a b ∧ mxI a b ≤ X := by unfold mxI; split <;> omega
theorem rcV_bd {tp lf bt rt p lo hi : Int} (h1 : -128 ≤ lo ∧ lo ≤ 127) (h2 : -128 ≤ hi ∧ hi ≤ 127) (h3 : I8 p) : 0 ≤ rcV tp lf bt rt p lo hi ∧ rcV tp lf bt rt p lo hi ≤ 128 := by
  have h4 := mxI_bd (szV_bd h1) (szV_bd h2)
  unfold rcV
  split
  · exact mxI_bd h4 (szV_bd h3)
  · exact h4
/-- Over a wider span it is no less. -/
theorem rcV_wide {tp lf bt rt p lo hi lo' hi' : Int} (h : lo ≤ hi) (h1 : lo' ≤ lo) (h2 : hi ≤ hi') : rcV tp lf bt rt p lo hi ≤ rcV tp lf bt rt p lo' hi' := by
  have e : rcS lo hi ≤ rcS lo' hi' := by
    unfold rcS mxI szV
    repeat' split
    all_goals omega
  unfold rcV mxI
  repeat' split
  all_goals omega
/-- The product of a sum of weights and a reach. -/
theorem aw_bd {a r : Int} (h1 : 0 ≤ a ∧ a ≤ 33554432) (h2 : 0 ≤ r ∧ r ≤ 128) : 0 ≤ a * r ∧ a * r ≤ 4294967296 := by
  have p1 := Int.mul_nonneg h1.1 h2.1
  have p2 := Int.mul_le_mul h1.2 h2.2 h2.1 (by omega : (0 : Int) ≤ 33554432)
  omega
/-! ### What it holds -/
theorem prod_held {a v R : Int} (h : -R ≤ v ∧ v ≤ R) : -((upW a - dnW a) * R) ≤ a * v ∧ a * v ≤ (upW a - dnW a) * R := by
  obtain ⟨v1, v2⟩ := h
  unfold upW dnW
  split
  · rename_i g
    have p1 := Int.mul_le_mul_of_nonneg_left v1 (show 0 ≤ a by omega)
    have p2 := Int.mul_le_mul_of_nonneg_left v2 (show 0 ≤ a by omega)
    rw [Int.mul_neg] at p1
    rw [Int.sub_zero]
    exact ⟨p1, p2⟩
  · rename_i g
    have p1 := Int.mul_le_mul_of_nonpos_left (show a ≤ 0 by omega) v1
    have p2 := Int.mul_le_mul_of_nonpos_left (show a ≤ 0 by omega) v2
    rw [Int.mul_neg] at p1
    rw [Int.zero_sub, Int.neg_mul]
    omega
theorem smV_held {p R : Int} {x : List Int} : ∀ l : List (Int × Int), (∀ t ∈ l, -R ≤ (if t.2 < 0 then p else x.getD t.2.toNat 0) ∧ (if t.2 < 0 then p else x.getD t.2.toNat 0) ≤ R) → -((upS l - dnS l) * R) ≤ smV p x l ∧ smV p x l ≤ (upS l - dnS l) * R
  | [], _ => by simp [smV, upS, dnS]
  | t :: l, h => by
    have h1 := smV_held l fun t ht => h t (List.mem_cons_of_mem _ ht)
    have h2 := prod_held (a := t.1) (h t List.mem_cons_self)
    simp only [smV, smT, upS, dnS]
    have e : (upW t.1 + upS l - (dnW t.1 + dnS l)) * R = (upW t.1 - dnW t.1) * R + (upS l - dnS l) * R := by
      rw [← Int.add_mul]
      congr 1
      omega
    rw [e]
    omega
/-- Without padding each tap of a position lies in the plane. -/
theorem tpc_np {h w kh kw sh sw H V n q : Int} (hf : Fit h w kh kw sh sw 0 0 0 0 H V) (hn : 0 ≤ n ∧ n < H * V) (hq : 0 ≤ q ∧ q < kh * kw) : tpc h w kw (n / V * sh - 0) (n % V * sw - 0) q ≠ -1 := by
  obtain ⟨⟨h1, w1, q9⟩, ⟨k1, k2, k3, k4, -, -, -, -⟩, r1, q1, z1, z2⟩ := hf
  have a1 := Int.ediv_nonneg hn.1 (show 0 ≤ V by omega)
  have a2 : n / V < H := Int.ediv_lt_of_lt_mul (by omega) hn.2
  have b1 := Int.emod_nonneg n (show V ≠ 0 by omega)
  have b2 := Int.emod_lt_of_pos n (show 0 < V by omega)
  have c1 := Int.mul_le_mul_of_nonneg_right (show n / V ≤ H - 1 by omega) (show 0 ≤ sh by omega)
  have c2 := Int.mul_le_mul_of_nonneg_right (show n % V ≤ V - 1 by omega) (show 0 ≤ sw by omega)
  have c3 := Int.mul_nonneg a1 (show 0 ≤ sh by omega)
  have c4 := Int.mul_nonneg b1 (show 0 ≤ sw by omega)
  have d1 := Int.ediv_nonneg hq.1 (show 0 ≤ kw by omega)
  have d2 : q / kw < kh := Int.ediv_lt_of_lt_mul (by omega) hq.2
  have d3 := Int.emod_nonneg q (show kw ≠ 0 by omega)
  have d4 := Int.emod_lt_of_pos q (show 0 < kw by omega)
  unfold tpc
  have g : (0 ≤ n / V * sh - 0 + q / kw ∧ n / V * sh - 0 + q / kw < h) ∧ (0 ≤ n % V * sw - 0 + q % kw ∧ n % V * sw - 0 + q % kw < w) := by omega
  rw [plc_in g]
  have := rowbd g.1.2 g.1.1 g.2.1 g.2.2
  omega
/-- A place that is padding: some side has padding. -/
theorem pad_side {k kh kw sh sw tp lf bt rt h w c H V C : Int} {lw lb : Nat} (s : Sit k kh kw sh sw tp lf bt rt h w c H V C lw lb) {ch n i : Int} (hch : 1 ≤ ch ∧ ch ≤ C) (hn : 0 ≤ n ∧ n < H * V) (hi : 0 ≤ i ∧ i < stR k kh kw h w c)
    (hp : plA k c ch h w kw (coR h w c kh kw sh sw tp lf bt rt n).1 (coR h w c kh kw sh sw tp lf bt rt n).2.1 i < 0) : 0 < tp + lf + bt + rt := by
  obtain ⟨hk, hvA, hvB, hou, -, -, -, h3c, -⟩ := s
  have hc1 := (vS_yes hvA).2.2.1
  by_cases k1 : k = 1
  · unfold plA at hp
    rw [if_pos k1] at hp
    omega
  have ho := hou (by omega)
  rcases ouR_cases h w c kh kw sh sw tp lf bt rt with ⟨e, he, h2⟩ | ⟨r, q, he, hf⟩
  · rw [ho] at he
    simp only [Prod.mk.injEq] at he
    omega
  rw [ho] at he
  simp only [Prod.mk.injEq] at he
  obtain ⟨rfl, rfl, -⟩ := he
  have hw := hf.2.1
  obtain ⟨-, -, -, -, t1, t2, t3, t4⟩ := hw
  by_cases g : 0 < tp + lf + bt + rt
  · exact g
  exfalso
  obtain rfl : tp = 0 := by omega
  obtain rfl : lf = 0 := by omega
  obtain rfl : bt = 0 := by omega
  obtain rfl : rt = 0 := by omega
  have hco : coR h w c kh kw sh sw 0 0 0 0 n = (n / V * sh - 0, n % V * sw - 0, 0) := by
    unfold coR; rw [ho, if_pos rfl, if_pos hn]
  rw [hco] at hp
  simp only at hp
  unfold plA at hp
  rw [if_neg k1] at hp
  have hcv : ∀ q d : Int, tpc h w kw (n / V * sh - 0) (n % V * sw - 0) q ≠ -1 → 0 ≤ d → 0 ≤ cov c (tpc h w kw (n / V * sh - 0) (n % V * sw - 0) q) d := fun q d h1 h2 => by
    unfold cov
    rw [if_neg h1]
    rcases tpc_in (h := h) (w := w) (kw := kw) (t := n / V * sh - 0) (u := n % V * sw - 0) q with e | e
    · exact absurd e h1
    · have := Int.mul_nonneg e.1 (show 0 ≤ c by omega)
      omega
  by_cases k2 : k = 2
  · rw [if_pos k2] at hp
    subst k2
    have hst : stR 2 kh kw h w c = kh * kw * c := rfl
    rw [hst] at hi
    have e1 := Int.ediv_nonneg hi.1 (show 0 ≤ c by omega)
    have e2 : i / c < kh * kw := Int.ediv_lt_of_lt_mul (by omega) hi.2
    have e3 := Int.emod_nonneg i (show c ≠ 0 by omega)
    have := hcv _ _ (tpc_np hf hn ⟨e1, e2⟩) e3
    omega
  · rw [if_neg k2] at hp
    have hst : stR k kh kw h w c = kh * kw := by unfold stR; rw [if_neg k1, if_neg k2, if_pos (by omega)]
    rw [hst] at hi
    have := hcv _ (ch - 1) (tpc_np hf hn hi) (by omega)
    omega
/-- A number of a span lies no farther than its ends. -/
theorem in_rcS {lo hi v : Int} (h : lo ≤ v ∧ v ≤ hi) : -(rcS lo hi) ≤ v ∧ v ≤ rcS lo hi := by
  unfold rcS mxI szV
  repeat' split
  all_goals omega
/-- Whatever numbers of the span the tensor has: the channel's sums are held. -/
theorem suA_held {k kh kw sh sw tp lf bt rt h w c H V C p : Int} {lw lb : Nat} (s : Sit k kh kw sh sw tp lf bt rt h w c H V C lw lb) {zs bs x : List Int} (hz : ∀ v ∈ zs, (Lit.int .i16 v).wf = true) {ch : Int} (hch : 1 ≤ ch ∧ ch ≤ C) {n : Int} (hn : 0 ≤ n ∧ n < H * V) (hx : (x.length : Int) = h * w * c) {lo hi : Int} (hs : ∀ v ∈ x, lo ≤ v ∧ v ≤ hi) :
    biA k ch bs - (upS (siL k kh kw sh sw tp lf bt rt h w c ch 0 zs) - dnS (siL k kh kw sh sw tp lf bt rt h w c ch 0 zs)) * rcV tp lf bt rt p lo hi ≤ suA k kh kw sh sw tp lf bt rt h w c p zs bs x ch n ∧ suA k kh kw sh sw tp lf bt rt h w c p zs bs x ch n ≤ biA k ch bs + (upS (siL k kh kw sh sw tp lf bt rt h w c ch 0 zs) - dnS (siL k kh kw sh sw tp lf bt rt h w c ch 0 zs)) * rcV tp lf bt rt p lo hi := by
  obtain ⟨e1, e2⟩ := sg_fst _ _ (siL_fst k kh kw sh sw tp lf bt rt h w c ch 0 n zs)
  rw [e1, e2]
  have key := smV_held (p := p) (R := rcV tp lf bt rt p lo hi) (x := x) (siL k kh kw sh sw tp lf bt rt h w c ch n zs) (fun t ht => ?_)
  · unfold suA
    omega
  · have hf := ((siL_facts s hz hch n).2 t ht).2
    have hpl : t.2 < 0 → 0 < tp + lf + bt + rt := fun q => by
      unfold siL tmL at ht
      obtain ⟨i, hi, rfl⟩ := List.mem_map.1 ht
      have hi' : i < (stR k kh kw h w c).toNat := by simpa using hi
      have h0 := s.2.2.2.2.2.2.2.2.1
      exact pad_side s hch hn ⟨by omega, by omega⟩ q
    by_cases q : t.2 < 0
    · rw [if_pos q]
      unfold rcV
      rw [if_pos (hpl q)]
      unfold mxI szV
      repeat' split
      all_goals omega
    · rw [if_neg q]
      have hl : t.2.toNat < x.length := by omega
      have hm : x.getD t.2.toNat 0 ∈ x := by rw [List.getD_eq_getElem?_getD, List.getElem?_eq_getElem hl]; exact List.getElem_mem hl
      have h1 := in_rcS (hs _ hm)
      unfold rcV mxI
      split
      · split <;> omega
      · exact h1
/-- The sides of a window of an op that reduces. -/
theorem side_nn {k b m kh kw sh sw tp lf bt rt : Int} {lw lb : Nat} {sm ss um us z p lo hi h w c H V C : Int} (s : Opd k b m kh kw sh sw tp lf bt rt lw lb sm ss um us z p lo hi h w c H V C) (hk : k ≤ 4) : (0 ≤ tp ∧ tp ≤ 31) ∧ (0 ≤ lf ∧ lf ≤ 31) ∧ (0 ≤ bt ∧ bt ≤ 31) ∧ (0 ≤ rt ∧ rt ≤ 31) := by
  have hk0 := s.hk
  by_cases k1 : k = 1
  · have ho := of_decide_eq_true s.oz
    obtain ⟨-, -, -, -, g5, g6, g7, g8⟩ := ho.2.2.2.2.1 (.inl k1)
    omega
  · have ho := s.ou (by omega)
    rcases ouR_cases h w c kh kw sh sw tp lf bt rt with ⟨e, he, h2⟩ | ⟨r, q, he, hf⟩
    · rw [ho] at he
      simp only [Prod.mk.injEq] at he
      omega
    obtain ⟨k1, k2, -, -, t1, t2, t3, t4⟩ := hf.2.1
    omega
end Go.Proofs.Ytbogpgaifbjahaa

/- What the answers of package bound hold, in plain numbers: one another; over wider spans; Quick. -/
namespace Go.Proofs.Ytbogpgaifbjahaa
open Go.ChangeShapes Go.WideShapes Go.ChangeAt Go.RowKit
set_option linter.unusedVariables false
theorem piT_head {F : List (Int × Int) → List (Int × Int)} {R : Nat → List (Int × Int)} {N : Nat} (hN : 0 < N) {x : Int × Int} {l : List (Int × Int)} (h : F (R 0) = x :: l) : ∃ m, piT F R N = x :: m := by
  obtain ⟨n, rfl⟩ : ∃ n, N = n + 1 := ⟨N - 1, by omega⟩
  unfold piT
  rw [List.range_succ_eq_map, List.flatMap_cons, h]
  exact ⟨_, rfl⟩
/-- The one is held by the other. -/
def Inn (x y : Int × Int) : Prop := y.1 ≤ x.1 ∧ x.2 ≤ y.2
theorem Inn.refl (x : Int × Int) : Inn x x := ⟨Int.le_refl _, Int.le_refl _⟩
theorem hul_in {L M : List (Int × Int)} (hL : L ≠ []) (hM : M ≠ []) (h : ∀ x ∈ L, ∃ y ∈ M, Inn x y) : Inn (huA L) (huA M) := by
  obtain ⟨-, ⟨x, hx, ex⟩, ⟨y, hy, ey⟩⟩ := huA_is hL
  obtain ⟨h1, -, -⟩ := huA_is hM
  obtain ⟨u, hu, i1⟩ := h x hx
  obtain ⟨v, hv, i2⟩ := h y hy
  have a1 := h1 u hu
  have a2 := h1 v hv
  unfold Inn at *
  omega
theorem hul_has {L : List (Int × Int)} {x : Int × Int} (hx : x ∈ L) : Inn x (huA L) := by
  have hL : L ≠ [] := fun e => by rw [e] at hx; cases hx
  exact (huA_is hL).1 x hx
theorem hul_ok {L : List (Int × Int)} {M : Int} (hL : L ≠ []) (h : ∀ x ∈ L, Vd M x) : Vd M (huA L) := by
  cases L with
  | nil => exact absurd rfl hL
  | cons x l => exact huF_vd (h x List.mem_cons_self) fun y hy => h y (List.mem_cons_of_mem _ hy)
theorem xho_of {a b : Int × Int} (h : Inn b a) (hv : b.1 ≤ b.2) : xho a.1 a.2 b.1 b.2 = true := decide_eq_true ⟨hv, h.1, h.2⟩
theorem piT_ne {F : List (Int × Int) → List (Int × Int)} {R : Nat → List (Int × Int)} {N : Nat} (hN : 0 < N) (h : 0 < (F (R 0)).length) : piT F R N ≠ [] := fun e => by
  cases q : F (R 0) with
  | nil => rw [q] at h; cases h
  | cons x l =>
    obtain ⟨m, hm⟩ := piT_head hN q
    rw [hm] at e; cases e
theorem piT_in {F G : List (Int × Int) → List (Int × Int)} {R R' : Nat → List (Int × Int)} {N : Nat} (h : ∀ k, k < N → ∀ x ∈ F (R k), ∃ y ∈ G (R' k), Inn x y) : ∀ x ∈ piT F R N, ∃ y ∈ piT G R' N, Inn x y := fun x hx => by
  obtain ⟨k, hk, hx'⟩ := mem_piT.1 hx
  obtain ⟨y, hy, hi⟩ := h k hk x hx'
  exact ⟨y, mem_piT.2 ⟨k, hk, hy⟩, hi⟩
/-! ### One another -/
theorem suS_mem (s : Int × Int) (E : List (Int × Int)) : suS s E ∈ ruL s E := mem_ruL.2 ⟨E.length, Nat.le_refl _, by rw [List.take_length]⟩
theorem mem_pa1 {E : List (Int × Int)} {x : Int × Int} : x ∈ paL 1 E ++ E ↔ x ∈ E := by
  rw [List.mem_append, mem_paL (by omega)]
  constructor
  · rintro (⟨i, hi, rfl⟩ | h)
    · unfold psm
      rw [Nat.div_one, Nat.mul_one, Nat.mod_one, Nat.zero_add]
      rw [List.take_one, List.head?_drop, List.getElem?_eq_getElem hi]
      simp only [Option.toList, suS, List.foldl, plS, Int.zero_add]
      exact List.getElem_mem hi
    · exact h
  · exact fun h => .inr h
theorem hbD_one {R : Nat → List (Int × Int)} {N : Nat} (h : piT (fun E => paL 1 E ++ E) R N ≠ []) : hbD 1 R N = hbP R N :=
  huA_eq h fun x => by
    rw [mem_piT, mem_piT]
    constructor
    · rintro ⟨k, hk, hx⟩; exact ⟨k, hk, mem_pa1.1 hx⟩
    · rintro ⟨k, hk, hx⟩; exact ⟨k, hk, mem_pa1.2 hx⟩
/-! ### Over a wider span -/
theorem xti_wide {a b c d k : Int} (h1 : c ≤ a) (h2 : a ≤ b) (h3 : b ≤ d) : Inn (xti a b k) (xti c d k) := by
  unfold Inn xti
  by_cases g : k < 0
  · rw [if_pos g, if_pos g]
    have p1 := Int.mul_le_mul_of_nonpos_right h3 (show k ≤ 0 by omega)
    have p2 := Int.mul_le_mul_of_nonpos_right h1 (show k ≤ 0 by omega)
    exact ⟨p1, p2⟩
  · rw [if_neg g, if_neg g]
    exact ⟨Int.mul_le_mul_of_nonneg_right h1 (by omega), Int.mul_le_mul_of_nonneg_right h3 (by omega)⟩
theorem tmE_wide {lo hi lo' hi' p : Int} (h1 : lo' ≤ lo) (h2 : lo ≤ hi) (h3 : hi ≤ hi') (t : Int × Int) : Inn (tmE lo hi p t) (tmE lo' hi' p t) := by
  unfold tmE
  split
  · exact Inn.refl _
  · exact xti_wide h1 h2 h3
theorem plS_in {a b c d : Int × Int} (h : Inn a b) (g : Inn c d) : Inn (plS a c) (plS b d) := by unfold Inn plS at *; simp only; omega
theorem suS_in {f g : Int × Int → Int × Int} : ∀ (TL : List (Int × Int)) (s s' : Int × Int), (∀ t ∈ TL, Inn (f t) (g t)) → Inn s s' → Inn (suS s (TL.map f)) (suS s' (TL.map g))
  | [], s, s', _, h => h
  | t :: l, s, s', H, h => suS_in l (plS s (f t)) (plS s' (g t)) (fun u hu => H u (List.mem_cons_of_mem _ hu)) (plS_in h (H t List.mem_cons_self))
section
variable {lo hi lo' hi' p : Int} (h1 : lo' ≤ lo) (h2 : lo ≤ hi) (h3 : hi ≤ hi') (TL : List (Int × Int))
include h1 h2 h3
theorem win_tot (b : Int) : Inn (suS (b, b) (enL lo hi p TL)) (suS (b, b) (enL lo' hi' p TL)) := suS_in TL _ _ (fun t _ => tmE_wide h1 h2 h3 t) (Inn.refl _)
theorem win_sub (i j : Nat) (s : Int × Int) : Inn (suS s (((enL lo hi p TL).drop i).take j)) (suS s (((enL lo' hi' p TL).drop i).take j)) := by
  unfold enL
  rw [← List.map_drop, ← List.map_take, ← List.map_drop, ← List.map_take]
  exact suS_in _ _ _ (fun t _ => tmE_wide h1 h2 h3 t) (Inn.refl _)
theorem win_run (b : Int) : ∀ x ∈ ruL (b, b) (enL lo hi p TL), ∃ y ∈ ruL (b, b) (enL lo' hi' p TL), Inn x y := fun x hx => by
  obtain ⟨j, hj, rfl⟩ := mem_ruL.1 hx
  refine ⟨_, mem_ruL.2 ⟨j, by rw [enL_len] at hj ⊢; exact hj, rfl⟩, ?_⟩
  have := win_sub (p := p) h1 h2 h3 TL 0 j (b, b)
  simpa using this
theorem win_prd : ∀ x ∈ enL lo hi p TL, ∃ y ∈ enL lo' hi' p TL, Inn x y := fun x hx => by
  obtain ⟨t, ht, rfl⟩ := List.mem_map.1 hx
  exact ⟨_, List.mem_map.2 ⟨t, ht, rfl⟩, tmE_wide h1 h2 h3 t⟩
theorem win_prt {d : Nat} (hd : 0 < d) : ∀ x ∈ paL d (enL lo hi p TL) ++ enL lo hi p TL, ∃ y ∈ paL d (enL lo' hi' p TL) ++ enL lo' hi' p TL, Inn x y := fun x hx => by
  rcases List.mem_append.1 hx with q | q
  · obtain ⟨i, hi', rfl⟩ := (mem_paL hd).1 q
    refine ⟨_, List.mem_append_left _ ((mem_paL hd).2 ⟨i, by rw [enL_len] at hi' ⊢; exact hi', rfl⟩), ?_⟩
    exact win_sub (p := p) h1 h2 h3 TL _ _ (0, 0)
  · obtain ⟨y, hy, hh⟩ := win_prd h1 h2 h3 TL x q
    exact ⟨y, List.mem_append_right _ hy, hh⟩
end
/-! ### Quick -/
theorem end_held {lo hi p R : Int} {t : Int × Int} (hlh : lo ≤ hi) (h1 : -R ≤ lo) (h2 : hi ≤ R) (hp : t.2 < 0 → -R ≤ p ∧ p ≤ R) : -((upW t.1 - dnW t.1) * R) ≤ (tmE lo hi p t).1 ∧ (tmE lo hi p t).2 ≤ (upW t.1 - dnW t.1) * R := by
  have pl := prod_held (a := t.1) (v := lo) (R := R) ⟨h1, by omega⟩
  have ph := prod_held (a := t.1) (v := hi) (R := R) ⟨by omega, h2⟩
  rw [Int.mul_comm t.1 lo] at pl
  rw [Int.mul_comm t.1 hi] at ph
  unfold tmE
  split
  · rename_i q
    have pp := prod_held (a := t.1) (hp q)
    rw [Int.mul_comm t.1 p] at pp
    exact pp
  · unfold xti
    split <;> simp only <;> omega
theorem run_held {lo hi p R : Int} (hlh : lo ≤ hi) (h1 : -R ≤ lo) (h2 : hi ≤ R) : ∀ (TL : List (Int × Int)) (s : Int × Int), (∀ t ∈ TL, t.2 < 0 → -R ≤ p ∧ p ≤ R) → s.1 - (upS TL - dnS TL) * R ≤ (suS s (enL lo hi p TL)).1 ∧ (suS s (enL lo hi p TL)).2 ≤ s.2 + (upS TL - dnS TL) * R
  | [], s, _ => by simp [upS, dnS, enL, suS]
  | t :: l, s, hp => by
    have ih := run_held hlh h1 h2 l (plS s (tmE lo hi p t)) (fun u hu => hp u (List.mem_cons_of_mem _ hu))
    have he := end_held (t := t) hlh h1 h2 (hp t List.mem_cons_self)
    have e : (upS (t :: l) - dnS (t :: l)) * R = (upW t.1 - dnW t.1) * R + (upS l - dnS l) * R := by
      rw [← Int.add_mul]
      congr 1
      simp only [upS, dnS]
      omega
    rw [e]
    have e2 : suS s (enL lo hi p (t :: l)) = suS (plS s (tmE lo hi p t)) (enL lo hi p l) := rfl
    rw [e2]
    simp only [plS] at ih ⊢
    omega
theorem up_take {TL : List (Int × Int)} {R : Int} (hR : 0 ≤ R) (h : ∀ t ∈ TL, -32768 ≤ t.1 ∧ t.1 ≤ 32767) (j : Nat) : (upS (TL.take j) - dnS (TL.take j)) * R ≤ (upS TL - dnS TL) * R := by
  have e := List.take_append_drop j TL
  have e1 : upS TL = upS (TL.take j) + upS (TL.drop j) := by rw [← upS_app, e]
  have e2 : dnS TL = dnS (TL.take j) + dnS (TL.drop j) := by rw [← dnS_app, e]
  have hb := sg_bd (TL.drop j) fun t ht => h t (List.mem_of_mem_drop ht)
  refine Int.mul_le_mul_of_nonneg_right ?_ hR
  omega
/-- Quick holds every running sum. -/
theorem quick_run {k kh kw sh sw tp lf bt rt h w c H V C p : Int} {lw lb : Nat} (s : Sit k kh kw sh sw tp lf bt rt h w c H V C lw lb) {zs : List Int} (hz : ∀ v ∈ zs, (Lit.int .i16 v).wf = true) {ch : Int} (hch : 1 ≤ ch ∧ ch ≤ C) {lo hi bi : Int} (hs : -128 ≤ lo ∧ lo ≤ hi ∧ hi ≤ 127) (hp : I8 p) (n : Int) (hn : 0 ≤ n ∧ n < H * V) :
    ∀ x ∈ ruL (bi, bi) (enL lo hi p (siL k kh kw sh sw tp lf bt rt h w c ch n zs)), Inn x (bi - (upS (siL k kh kw sh sw tp lf bt rt h w c ch 0 zs) - dnS (siL k kh kw sh sw tp lf bt rt h w c ch 0 zs)) * rcV tp lf bt rt p lo hi, bi + (upS (siL k kh kw sh sw tp lf bt rt h w c ch 0 zs) - dnS (siL k kh kw sh sw tp lf bt rt h w c ch 0 zs)) * rcV tp lf bt rt p lo hi) := fun x hx => by
  obtain ⟨e1, e2⟩ := sg_fst _ _ (siL_fst k kh kw sh sw tp lf bt rt h w c ch 0 n zs)
  rw [e1, e2]
  obtain ⟨j, hj, rfl⟩ := mem_ruL.1 hx
  have hR := rcV_bd (tp := tp) (lf := lf) (bt := bt) (rt := rt) (lo := lo) (hi := hi) (by omega) (by omega) hp
  have hl := in_rcS (lo := lo) (hi := hi) (v := lo) (by omega)
  have hh := in_rcS (lo := lo) (hi := hi) (v := hi) (by omega)
  have hRS : rcS lo hi ≤ rcV tp lf bt rt p lo hi := by unfold rcV mxI; split <;> (try split) <;> omega
  have hpad : ∀ t ∈ (siL k kh kw sh sw tp lf bt rt h w c ch n zs).take j, t.2 < 0 → -(rcV tp lf bt rt p lo hi) ≤ p ∧ p ≤ rcV tp lf bt rt p lo hi := fun t ht q => by
    have ht' := List.mem_of_mem_take ht
    have hpl : 0 < tp + lf + bt + rt := by
      unfold siL tmL at ht'
      obtain ⟨i, hi, rfl⟩ := List.mem_map.1 ht'
      have hi' : i < (stR k kh kw h w c).toNat := by simpa using hi
      have h0 := s.2.2.2.2.2.2.2.2.1
      exact pad_side s hch hn ⟨by omega, by omega⟩ q
    unfold rcV
    rw [if_pos hpl]
    unfold mxI szV
    repeat' split
    all_goals omega
  have hk := run_held hs.2.1 (show -(rcV tp lf bt rt p lo hi) ≤ lo by omega) (show hi ≤ rcV tp lf bt rt p lo hi by omega) ((siL k kh kw sh sw tp lf bt rt h w c ch n zs).take j) (bi, bi) hpad
  have ht := up_take hR.1 (fun t ht => ((siL_facts s hz hch n).2 t ht).1) j
  have e3 : enL lo hi p ((siL k kh kw sh sw tp lf bt rt h w c ch n zs).take j) = (enL lo hi p (siL k kh kw sh sw tp lf bt rt h w c ch n zs)).take j := by unfold enL; rw [List.map_take]
  rw [e3] at hk
  unfold Inn
  simp only at hk ⊢
  omega
end Go.Proofs.Ytbogpgaifbjahaa

/- What the small functions of package plain return: places, isInput, widened, scaled, means, added. -/
namespace Go.Proofs.Ytbogpgaifbjahaa
open Go.ChangeShapes Go.WideShapes Go.ChangeAt Go.RowKit
set_option linter.unusedVariables false
theorem btr {a b c : World} (h : Below a.heap.size a b) (k : Below b.heap.size b c) : Below a.heap.size a c := bt h k
theorem wf_i8' {z : Int} (h : (Lit.int .i8 z).wf = true) : I8 z := wf_i8 h
theorem IRow.i8 {w : World} {a : Option Addr} {n c : Nat} {xs : List Int} (h : IRow .i8 w a n c xs) : ∀ v ∈ xs, I8 v := fun v hv => wf_i8 (h.2.2.2.1 v hv)
theorem wf_64 {xs : List Int} {X : Int} (hX : X ≤ 9223372036854775807) (h : ∀ v ∈ xs, -X ≤ v ∧ v ≤ X) : Wf .i64 xs := fun v hv => mk_i64 (by have := h v hv; omega)
theorem getD_mem {xs : List Int} {i : Nat} (h : i < xs.length) : xs.getD i 0 ∈ xs := by rw [List.getD_eq_getElem?_getD, List.getElem?_eq_getElem h]; exact List.getElem_mem h
/-! ### A list that is filled -/
def fil (ys : List Int) (y : Nat) : List Int := ys.take y ++ List.replicate (ys.length - y) 0
theorem fil_len (ys : List Int) {y : Nat} (h : y ≤ ys.length) : (fil ys y).length = ys.length := by simp [fil]; omega
theorem fil_0 (ys : List Int) : fil ys 0 = List.replicate ys.length 0 := by simp [fil]
theorem fil_all (ys : List Int) : fil ys ys.length = ys := by simp [fil]
theorem fil_set {ys : List Int} {y : Nat} (h : y < ys.length) : (fil ys y).set y (ys.getD y 0) = fil ys (y + 1) := by
  unfold fil
  apply List.ext_getElem?
  intro j
  have hl : (ys.take y).length = y := by rw [List.length_take]; omega
  have hl2 : (ys.take (y + 1)).length = y + 1 := by rw [List.length_take]; omega
  by_cases q : j = y
  · subst q
    rw [List.getElem?_set_self (by simp; omega), List.getElem?_append_left (by omega), List.getElem?_take, if_pos (by omega), List.getD_eq_getElem?_getD, List.getElem?_eq_getElem h]
    rfl
  · rw [List.getElem?_set_ne (by omega)]
    by_cases q2 : j < y
    · rw [List.getElem?_append_left (by omega), List.getElem?_append_left (by omega), List.getElem?_take, List.getElem?_take, if_pos q2, if_pos (by omega)]
    · rw [List.getElem?_append_right (by omega), List.getElem?_append_right (by omega), hl, hl2]
      simp only [List.getElem?_replicate]
      by_cases q3 : j < ys.length
      · rw [if_pos (by omega), if_pos (by omega)]
      · rw [if_neg (by omega), if_neg (by omega)]
/-- A block that holds just these numbers. -/
def Bk (k : IntKind) (T : TypeId) (w : World) (g : Nat) (zs : List Int) : Prop := w.heap[g]? = some (.cells (zs.map (Value.int k)).toArray T (0, 0))
theorem Bk.at {k : IntKind} {T : TypeId} {w : World} {g p : Nat} {zs : List Int} (h : Bk k T w g zs) (hp : p < zs.length) : w.cell? ⟨g, p, none⟩ = some (.int k (zs.getD p 0)) ∧ (∀ i, w.frozen? ⟨g, i, none⟩ = false) ∧ g < w.heap.size := by
  have := cells_at h
  exact ⟨by rw [this.1]; simp [List.getD, hp], this.2⟩
theorem Bk.set {k : IntKind} {T : TypeId} {w : World} {g p : Nat} {zs : List Int} (z : Int) (h : Bk k T w g zs) : Bk k T (w.setCell ⟨g, p, none⟩ (.int k z)) g (zs.set p z) := by
  have := heap_setCell_at (i := p) (v := .int k z) h
  unfold Bk
  rw [this]
  simp [List.map_set]
theorem Bk.below {k : IntKind} {T : TypeId} {w w' : World} {g : Nat} {zs : List Int} (h : Bk k T w g zs) (q : Below w.heap.size w w') : Bk k T w' g zs := (q.block g (lt_of_heap h)).trans h
theorem Bk.new {k : IntKind} {T : TypeId} {w : World} {g n : Nat} {zs : List Int} (h : w.heap[g]? = some (.cells (Array.replicate n (Value.int k 0)) T (0, 0))) (hn : zs.length = n) : Bk k T w g (fil zs 0) := by
  unfold Bk
  rw [h, fil_0, hn]
  simp
theorem St.setX {w0 w : World} {l : List (Nat × Array Value × TypeId)} {B i : Nat} {v : Value} (h : St w0 w l) (hB : w0.heap.size ≤ B) (hl : ∀ x ∈ l, x.1 ≠ B) : St w0 (w.setCell ⟨B, i, none⟩ v) l :=
  ⟨h.1.setCell (p := ⟨B, i, none⟩) hB v, fun x hx => ⟨by rw [Below.heap_setCell _ _ _ _ (hl x hx)]; exact (h.2 x hx).1, (h.2 x hx).2⟩⟩
/-! ### The functions -/
theorem places_plain (h w c : Int) (W : World) (g : vS h w c = true) :
    Calls Try.prog 39 #[.agg #[.int .i64 h, .int .i64 w, .int .i64 c]] W fun e w' => e = .returned (.int .i64 (h * w * c)) ∧ Below W.heap.size W w' := by
  have p3 := vS_bd g
  clear g
  go_enter Try.func39, Try.ntmps39
  go_wp2
  go_ret
  exact ⟨rfl, bal _ _⟩
theorem map_at {xs : List Int} {f : Int → Int} {y : Nat} {u : Int} (h : xs[y]? = some u) : (xs.map f).getD y 0 = f u := by rw [List.getD_eq_getElem?_getD, List.getElem?_map, h]; rfl
theorem me_bd {v n : Int} (hn : 1 ≤ n) (hv : -4294967296 ≤ v ∧ v ≤ 4294967296) : -4294967296 ≤ Fx.meV v n ∧ Fx.meV v n ≤ 4294967296 := by
  unfold Fx.meV
  rw [if_neg (by omega)]
  exact rq_le hn hv
/-! ### Is it an input? -/
def inB (h w c lo hi : Int) (xs : List Int) : Bool := decide ((xs.length : Int) = h * w * c ∧ ∀ v ∈ xs, lo ≤ v ∧ v ≤ hi)
theorem inB_yes {h w c lo hi : Int} {xs : List Int} (g : inB h w c lo hi xs = true) : (xs.length : Int) = h * w * c ∧ ∀ v ∈ xs, lo ≤ v ∧ v ≤ hi := of_decide_eq_true g
theorem inB_no {h w c lo hi v : Int} {xs : List Int} {i : Nat} (hv : xs[i]? = some v) (g : ¬ (lo ≤ v ∧ v ≤ hi)) : inB h w c lo hi xs = false := decide_eq_false fun q => g (q.2 v (List.mem_of_getElem? hv))
theorem take_all {xs : List Int} {P : Int → Prop} {y : Nat} {v : Int} (h : ∀ u ∈ xs.take y, P u) (hv : xs[y]? = some v) (hp : P v) : ∀ u ∈ xs.take (y + 1), P u := fun u hu => by
  rw [List.take_add_one, hv] at hu
  rcases List.mem_append.1 hu with q | q
  · exact h u q
  · simp at q; rw [q]; exact hp
end Go.Proofs.Ytbogpgaifbjahaa
