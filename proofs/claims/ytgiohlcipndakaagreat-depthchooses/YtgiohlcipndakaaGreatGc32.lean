/- four and fixed of law18. Walks of DepthSafes, DepthMosts and DepthChooses over letters: of what their calls answer. -/
import Derived.Test.YtgiohlcipndakaaGreatGz30
import Derived.Test.YtgiohlcipndakaaGreatGz31
/- four and fixed of law18. -/
namespace Go.Proofs.YtgiohlcipndakaaGreat
open Go.Value renaming int → U
open Go.IntKind renaming i64 → i6
set_option maxRecDepth 100000
set_option maxHeartbeats 16000000
open Go.ChangeShapes Go.WideShapes Go.ChangeAt Go.RowKit
set_option linter.unusedVariables false
def foO (_ : Nat) (j : Nat) : Int := [1, 0, 0, 1, 0, 0, 0, 0, 0, 0, 0, 0, 4, 1, 1, 0, 0, 0, 0, 0, -128, 127].getD j 0
def foZ (_ : Nat) : List Int := [200, -200, 200, 200]
def foB (_ : Nat) : List Int := [0]
theorem fo_0 : gtR foO 1 1 4 100 127 1 1 = (0, 0, [(1, 1, 4), (1, 1, 1)], 4) := by decide
theorem fo_blk {k : IntKind} {w : World} {b : Nat} {T : TypeId} (zs : List Int) (h : w.heap[b]? = some (.cells (zs.map (Value.int k)).toArray T (0, 0))) (hw : ∀ z ∈ zs, (Lit.int k z).wf = true) (hm : zs.length ≤ 1000) : IRow k w (some ⟨b, 0, none⟩) zs.length zs.length zs := by
 refine ⟨rfl, Nat.le_refl _, by unfold maxLen; omega, hw, fun h => (by cases h), fun x hx i hi => ?_⟩
 cases hx
 rw [Addr.add_lit, Nat.zero_add, (cells_at h).1]
 simp [List.getD, hi]
theorem fo_lrow {w : World} {g p q : Nat} (h : w.heap[g]? = some (.cells #[U i6 1, U i6 0, U i6 0, U i6 1, U i6 0, U i6 0, U i6 0, U i6 0, U i6 0, U i6 0, U i6 0, U i6 0, .slice (some ⟨p, 0, none⟩) 4 4, .slice (some ⟨q, 0, none⟩) 1 1, U i6 1, U i6 0, U i6 0, U i6 0, U i6 0, U i6 0, U i6 (-128), U i6 127] 43 (0, 0))) (hp : w.heap[p]? = some (.cells #[.int .i16 200, .int .i16 (-200), .int .i16 200, .int .i16 200] 89 (0, 0))) (hq : w.heap[q]? = some (.cells #[.int .i32 0] 21 (0, 0))) : LRow w (some ⟨g, 0, none⟩) 1 1 foO foZ foB := by
 refine ⟨Nat.le_refl _, by unfold maxLen; omega, fun h => (by cases h), fun x hx i hi => ?_⟩
 cases hx
 obtain rfl : i = 0 := by omega
 refine ⟨some ⟨p, 0, none⟩, 4, 4, some ⟨q, 0, none⟩, 1, 1, rfl, rfl, fun j v hj => ?_, fo_blk [200, -200, 200, 200] hp (fun z hz => ?_) (by simp), fo_blk [0] hq (fun z hz => ?_) (by simp), by omega, by omega⟩
 ·rw [Nat.zero_mul, Addr.add_lit, Addr.add_lit, (cells_at h).1, ← hj]
  simp [opl, foO]
 ·simp only [List.mem_cons, List.not_mem_nil, or_false] at hz
  rcases hz with rfl | rfl | rfl | rfl <;> rfl
 ·simp only [List.mem_cons, List.not_mem_nil, or_false] at hz
  subst hz; rfl
theorem four_any (W : World) :
  Calls Tryz.prog 21 #[] W fun e w' => ∃ g : Nat, e = .returned (.agg #[U i6 1, U i6 1, U i6 4, U i6 100, U i6 127, .slice (some ⟨g, 0, none⟩) 1 1, U i6 1]) ∧ LRow w' (some ⟨g, 0, none⟩) 1 1 foO foZ foB ∧ Below W.heap.size W w' := by
 go_enter Tryz.func21, Tryz.ntmps21
 go_wp2
 have s1 := (((St.start W).new (c := #[U i6 1, U i6 1, U i6 4, U i6 100, U i6 127, .slice (some ⟨W.heap.size + 1 + 1 + 1, 0, none⟩) 1 1, U i6 1]) (t := 26)).new (c := #[.int .i16 200, .int .i16 (-200), .int .i16 200, .int .i16 200]) (t := 89)).new (c := #[.int .i32 0]) (t := 21)
 simp only [World.size_alloc] at s1
 have s2 := s1.new (c := #[U i6 1, U i6 0, U i6 0, U i6 1, U i6 0, U i6 0, U i6 0, U i6 0, U i6 0, U i6 0, U i6 0, U i6 0, .slice (some ⟨W.heap.size + 1, 0, none⟩) 4 4, .slice (some ⟨W.heap.size + 1 + 1, 0, none⟩) 1 1, U i6 1, U i6 0, U i6 0, U i6 0, U i6 0, U i6 0, U i6 (-128), U i6 127]) (t := 43)
 simp only [World.size_alloc] at s2
 exact bodyPost_ret (v := .agg #[U i6 1, U i6 1, U i6 4, U i6 100, U i6 127, .slice (some ⟨W.heap.size + 1 + 1 + 1, 0, none⟩) 1 1, U i6 1]) (by simp [results, Tryz.results21, go_sem]) rfl ⟨W.heap.size + 1 + 1 + 1, rfl, fo_lrow (p := W.heap.size + 1) (q := W.heap.size + 1 + 1) s2.h1 s2.h3 s2.h2, s2.below⟩
theorem fo_found {W : World} {g : Nat} (hL : LRow W (some ⟨g, 0, none⟩) 1 1 foO foZ foB) : ∃ wa lw cw ba lb cb, Fnd W (some ⟨g, 0, none⟩) 1 foO foZ foB [(1, 1, 4), (1, 1, 1)] 0 ⟨g, 0, none⟩ wa lw cw ba lb cb 1 1 4 1 1 1 := by
 obtain ⟨RL, Rw, hR, i, x, wa, lw, cw, ba, lb, cb, x0, y0, z0, H, V, C, hop, hF⟩ := found 1 1 4 100 127 1 (some ⟨g, 0, none⟩) 1 1 foO foZ foB W hL 1 (fiE_0 (i := 0) (by rw [fo_0]) (by omega) (by decide))
 obtain rfl : i = 0 := by omega
 rw [fo_0] at hR
 simp only [Prod.mk.injEq, true_and] at hR
 obtain ⟨rfl, -⟩ := hR
 have h8 := hF.2.2.2.2.2.2.2.1
 have h9 := hF.2.2.2.2.2.2.2.2.1
 have h2 := hF.2.1
 simp only [foO, List.getD, List.getElem?_cons_zero, List.getElem?_cons_succ, Option.getD_some, Int.toNat_zero, Prod.mk.injEq, Nat.zero_add] at h8 h9
 obtain ⟨rfl, rfl, rfl⟩ := h8
 obtain ⟨rfl, rfl, rfl⟩ := h9
 simp only [Option.some.injEq] at h2
 subst h2
 exact ⟨wa, lw, cw, ba, lb, cb, hF⟩
theorem fo_len : (siL (foO 0 0) (foO 0 4) (foO 0 5) (foO 0 6) (foO 0 7) (foO 0 8) (foO 0 9) (foO 0 10) (foO 0 11) 1 1 4 1 0 (foZ 0)).length = 4 := by decide
theorem foS2 : saR 100 127 2 4 (hbD (2 : Int).toNat (fun (j : Nat) => enL 100 127 (foO 0 19) (siL (foO 0 0) (foO 0 4) (foO 0 5) (foO 0 6) (foO 0 7) (foO 0 8) (foO 0 9) (foO 0 10) (foO 0 11) 1 1 4 1 (j : Int) (foZ 0))) ((1 : Int) * 1).toNat) = (false, 0) := by decide
theorem foS3 : saR 100 127 3 4 (hbD (3 : Int).toNat (fun (j : Nat) => enL 100 127 (foO 0 19) (siL (foO 0 0) (foO 0 4) (foO 0 5) (foO 0 6) (foO 0 7) (foO 0 8) (foO 0 9) (foO 0 10) (foO 0 11) 1 1 4 1 (j : Int) (foZ 0))) ((1 : Int) * 1).toNat) = (true, 0) := by decide
theorem foM : grN (sfD (fun (j : Nat) => enL 100 127 (foO 0 19) (siL (foO 0 0) (foO 0 4) (foO 0 5) (foO 0 6) (foO 0 7) (foO 0 8) (foO 0 9) (foO 0 10) (foO 0 11) 1 1 4 1 (j : Int) (foZ 0))) ((1 : Int) * 1).toNat) 4 = 3 := by decide
theorem foR : w32 (hbR (biA (foO 0 0) 1 (foB 0)) (fun (j : Nat) => enL 100 127 (foO 0 19) (siL (foO 0 0) (foO 0 4) (foO 0 5) (foO 0 6) (foO 0 7) (foO 0 8) (foO 0 9) (foO 0 10) (foO 0 11) 1 1 4 1 (j : Int) (foZ 0))) ((1 : Int) * 1).toNat) = true := by decide
theorem foC : chC 3 4 (hbR (biA (foO 0 0) 1 (foB 0)) (fun (j : Nat) => enL 100 127 (foO 0 19) (siL (foO 0 0) (foO 0 4) (foO 0 5) (foO 0 6) (foO 0 7) (foO 0 8) (foO 0 9) (foO 0 10) (foO 0 11) 1 1 4 1 (j : Int) (foZ 0))) ((1 : Int) * 1).toNat) (hbD 3 (fun (j : Nat) => enL 100 127 (foO 0 19) (siL (foO 0 0) (foO 0 4) (foO 0 5) (foO 0 6) (foO 0 7) (foO 0 8) (foO 0 9) (foO 0 10) (foO 0 11) 1 1 4 1 (j : Int) (foZ 0))) ((1 : Int) * 1).toNat) (hbT (biA (foO 0 0) 1 (foB 0)) (fun (j : Nat) => enL 100 127 (foO 0 19) (siL (foO 0 0) (foO 0 4) (foO 0 5) (foO 0 6) (foO 0 7) (foO 0 8) (foO 0 9) (foO 0 10) (foO 0 11) 1 1 4 1 (j : Int) (foZ 0))) ((1 : Int) * 1).toNat) = #[U i6 16, U i6 3, U i6 (-25400), U i6 30800, U i6 34600, U i6 56200] := by
 rw [show hbD 3 (fun (j : Nat) => enL 100 127 (foO 0 19) (siL (foO 0 0) (foO 0 4) (foO 0 5) (foO 0 6) (foO 0 7) (foO 0 8) (foO 0 9) (foO 0 10) (foO 0 11) 1 1 4 1 (j : Int) (foZ 0))) ((1 : Int) * 1).toNat = (-25400, 30800) by decide, show hbT (biA (foO 0 0) 1 (foB 0)) (fun (j : Nat) => enL 100 127 (foO 0 19) (siL (foO 0 0) (foO 0 4) (foO 0 5) (foO 0 6) (foO 0 7) (foO 0 8) (foO 0 9) (foO 0 10) (foO 0 11) 1 1 4 1 (j : Int) (foZ 0))) ((1 : Int) * 1).toNat = (34600, 56200) by decide]
 rfl
theorem fos2 (g : Nat) (W : World) (hL : LRow W (some ⟨g, 0, none⟩) 1 1 foO foZ foB) : Calls Tryz.prog 6 #[.agg #[U i6 1, U i6 1, U i6 4, U i6 100, U i6 127, .slice (some ⟨g, 0, none⟩) 1 1, U i6 1], U i6 1, U i6 1, .agg #[U i6 100, U i6 127], U i6 2] W fun e w' => e = .returned (.tuple #[.bool false, U i6 0]) ∧ Below W.heap.size W w' := by
 obtain ⟨wa, lw, cw, ba, lb, cb, hF⟩ := fo_found hL
 have h := dsaf_ok 1 1 4 100 127 1 (some ⟨g, 0, none⟩) 1 1 foO foZ foB W hL 1 _ _ fo_0 0 ⟨g, 0, none⟩ wa lw cw ba lb cb 1 1 4 1 1 1 hF (by omega) 100 127 2 4 fo_len
 rw [foS2] at h
 exact h
theorem fos3 (g : Nat) (W : World) (hL : LRow W (some ⟨g, 0, none⟩) 1 1 foO foZ foB) : Calls Tryz.prog 6 #[.agg #[U i6 1, U i6 1, U i6 4, U i6 100, U i6 127, .slice (some ⟨g, 0, none⟩) 1 1, U i6 1], U i6 1, U i6 1, .agg #[U i6 100, U i6 127], U i6 3] W fun e w' => e = .returned (.tuple #[.bool true, U i6 0]) ∧ Below W.heap.size W w' := by
 obtain ⟨wa, lw, cw, ba, lb, cb, hF⟩ := fo_found hL
 have h := dsaf_ok 1 1 4 100 127 1 (some ⟨g, 0, none⟩) 1 1 foO foZ foB W hL 1 _ _ fo_0 0 ⟨g, 0, none⟩ wa lw cw ba lb cb 1 1 4 1 1 1 hF (by omega) 100 127 3 4 fo_len
 rw [foS3] at h
 exact h
theorem fom (g : Nat) (W : World) (hL : LRow W (some ⟨g, 0, none⟩) 1 1 foO foZ foB) : Calls Tryz.prog 11 #[.agg #[U i6 1, U i6 1, U i6 4, U i6 100, U i6 127, .slice (some ⟨g, 0, none⟩) 1 1, U i6 1], U i6 1, U i6 1, .agg #[U i6 100, U i6 127]] W fun e w' => e = .returned (.tuple #[U i6 3, U i6 0]) ∧ Below W.heap.size W w' := by
 obtain ⟨wa, lw, cw, ba, lb, cb, hF⟩ := fo_found hL
 have h := dmos_ok 1 1 4 100 127 1 (some ⟨g, 0, none⟩) 1 1 foO foZ foB W hL 1 _ _ fo_0 0 ⟨g, 0, none⟩ wa lw cw ba lb cb 1 1 4 1 1 1 hF (by omega) 100 127 4 fo_len
 rw [foM] at h
 exact h
theorem foc (g : Nat) (W : World) (hL : LRow W (some ⟨g, 0, none⟩) 1 1 foO foZ foB) : Calls Tryz.prog 13 #[.agg #[U i6 1, U i6 1, U i6 4, U i6 100, U i6 127, .slice (some ⟨g, 0, none⟩) 1 1, U i6 1], U i6 1, U i6 1, .agg #[U i6 100, U i6 127]] W fun e w' => e = .returned (.tuple #[.agg #[U i6 16, U i6 3, U i6 (-25400), U i6 30800, U i6 34600, U i6 56200], U i6 0]) ∧ Below W.heap.size W w' := by
 obtain ⟨wa, lw, cw, ba, lb, cb, hF⟩ := fo_found hL
 have h := dcho_ok 1 1 4 100 127 1 (some ⟨g, 0, none⟩) 1 1 foO foZ foB W hL 1 _ _ fo_0 0 ⟨g, 0, none⟩ wa lw cw ba lb cb 1 1 4 1 1 1 hF (by omega) 100 127 4 fo_len (by decide) foR
 rw [foM, foC] at h
 exact h
theorem fixed18_any (W : World) : Calls Tryz.prog 9 #[] W fun e w' => e = .returned (.bool true) ∧ Below W.heap.size W w' := by
 have s1 := (St.start W).new (c := #[U i6 100, U i6 127]) (t := 28)
 go_enter Tryz.func9, Tryz.ntmps9
 go_upto_region 2 with fail
 obtain ⟨w1, hw1⟩ : ∃ w1, W.alloc (.cells #[U i6 100, U i6 127] 28) = w1 := ⟨_, rfl⟩
 have S1 : Hid (St W w1 [(W.heap.size, #[U i6 100, U i6 127], 28)]) := by unfold Hid; rw [← hw1]; exact s1
 rw [hw1]
 clear hw1 s1
 refine regionN (fun w' => w'.heap[W.heap.size]? = some (.cells #[U i6 100, U i6 127] 28 (0, 0))) (fun a0 a' w' => ∃ (g : Nat), a' = ((((((((a0.put (some 12) (.agg #[U i6 1, U i6 1, U i6 4, U i6 100, U i6 127, .slice (some ⟨g, 0, none⟩) 1 1, U i6 1])).put (some 13) (.agg #[U i6 100, U i6 127])).put (some 14) (.tuple #[.bool false, U i6 0])).put (some 11) (.tuple #[.bool false, U i6 0])).put (some 15) (.bool false)).put (some 16) (U i6 0)).put (some 2) (.bool false)).put (some 3) (U i6 0)) ∧ St W w' [(W.heap.size, #[U i6 100, U i6 127], 28)]) (by kernel_rfl) ?_ ?_
 ·have s2 := S1.out.drew
  obtain ⟨w2, hw2⟩ : ∃ w2, w1.drew = w2 := ⟨_, rfl⟩
  rw [hw2] at s2 ⊢
  refine takeC 1 (v := .agg #[U i6 100, U i6 127]) rfl rfl (by kernel_rfl) (by kernel_rfl) (by kernel_rfl) (fun _ _ _ h => h) (fun _ => rfl) rfl (fun w' hw' => run_la 28 (.tmp 1) rfl ⟨W.heap.size, 0, none⟩ (by kernel_rfl) [U i6 100, U i6 127] _ (fun j v hj => by rw [Addr.add_lit, Nat.zero_add, (cells_at hw').1]; simpa using hj) Tryz.underlying28 rfl (by kernel_rfl)) ?_
  refine yK 0 s2.h1 (by kernel_rfl) rfl rfl 21 #[] (by kernel_rfl) (four_any _) ?_
  rintro e w3 ⟨g, rfl, hL, hb⟩
  refine ⟨_, rfl, ?_⟩
  have s3 := s2.call hb
  refine yK 2 s3.h1 (by kernel_rfl) rfl rfl 6 #[.agg #[U i6 1, U i6 1, U i6 4, U i6 100, U i6 127, .slice (some ⟨g, 0, none⟩) 1 1, U i6 1], U i6 1, U i6 1, .agg #[U i6 100, U i6 127], U i6 2] (by kernel_rfl) (fos2 g _ hL) ?_
  rintro e w4 ⟨rfl, hb4⟩
  refine ⟨_, rfl, ?_⟩
  have s4 := s3.call hb4
  refine takeC 3 (v := .tuple #[.bool false, U i6 0]) rfl rfl (by kernel_rfl) (by kernel_rfl) (by kernel_rfl) (fun _ _ _ h => h) (fun _ => rfl) rfl (fun w' hw' => by go_simp) ?_
  refine takeC 4 (v := .bool false) rfl rfl (by kernel_rfl) (by kernel_rfl) (by kernel_rfl) (fun _ _ _ h => h) (fun _ => rfl) rfl (fun w' hw' => by go_simp) ?_
  refine takeC 5 (v := U i6 0) rfl rfl (by kernel_rfl) (by kernel_rfl) (by kernel_rfl) (fun _ _ _ h => h) (fun _ => rfl) rfl (fun w' hw' => by go_simp) ?_
  refine takeC 6 (v := .bool false) rfl rfl (by kernel_rfl) (by kernel_rfl) (by kernel_rfl) (fun _ _ _ h => h) (fun _ => rfl) rfl (fun w' hw' => by go_simp) ?_
  refine takeC 7 (v := U i6 0) rfl rfl (by kernel_rfl) (by kernel_rfl) (by kernel_rfl) (fun _ _ _ h => h) (fun _ => rfl) rfl (fun w' hw' => by go_simp) ?_
  exact doneM s4.h1 (by kernel_rfl) ⟨g, by kernel_rfl, s4⟩ _
 rintro a' w2 ⟨g2, rfl, s2⟩
 clear S1
 obtain ⟨w1, hw1⟩ : ∃ w1, w1 = w2 := ⟨_, rfl⟩
 rw [← hw1] at s2 ⊢
 have S1 : Hid (St W w1 [(W.heap.size, #[U i6 100, U i6 127], 28)]) := s2
 clear s2 hw1 w2
 go_upto_region 3 with fail
 refine regionN (fun w' => w'.heap[W.heap.size]? = some (.cells #[U i6 100, U i6 127] 28 (0, 0))) (fun a0 a' w' => ∃ (g : Nat), a' = ((((((((a0.put (some 18) (.agg #[U i6 1, U i6 1, U i6 4, U i6 100, U i6 127, .slice (some ⟨g, 0, none⟩) 1 1, U i6 1])).put (some 19) (.agg #[U i6 100, U i6 127])).put (some 20) (.tuple #[.bool true, U i6 0])).put (some 17) (.tuple #[.bool true, U i6 0])).put (some 21) (.bool true)).put (some 22) (U i6 0)).put (some 4) (.bool true)).put (some 5) (U i6 0)) ∧ St W w' [(W.heap.size, #[U i6 100, U i6 127], 28)]) (by kernel_rfl) ?_ ?_
 ·have s2 := S1.out.drew
  obtain ⟨w2, hw2⟩ : ∃ w2, w1.drew = w2 := ⟨_, rfl⟩
  rw [hw2] at s2 ⊢
  refine takeC 1 (v := .agg #[U i6 100, U i6 127]) rfl rfl (by kernel_rfl) (by kernel_rfl) (by kernel_rfl) (fun _ _ _ h => h) (fun _ => rfl) rfl (fun w' hw' => run_la 28 (.tmp 1) rfl ⟨W.heap.size, 0, none⟩ (by kernel_rfl) [U i6 100, U i6 127] _ (fun j v hj => by rw [Addr.add_lit, Nat.zero_add, (cells_at hw').1]; simpa using hj) Tryz.underlying28 rfl (by kernel_rfl)) ?_
  refine yK 0 s2.h1 (by kernel_rfl) rfl rfl 21 #[] (by kernel_rfl) (four_any _) ?_
  rintro e w3 ⟨g, rfl, hL, hb⟩
  refine ⟨_, rfl, ?_⟩
  have s3 := s2.call hb
  refine yK 2 s3.h1 (by kernel_rfl) rfl rfl 6 #[.agg #[U i6 1, U i6 1, U i6 4, U i6 100, U i6 127, .slice (some ⟨g, 0, none⟩) 1 1, U i6 1], U i6 1, U i6 1, .agg #[U i6 100, U i6 127], U i6 3] (by kernel_rfl) (fos3 g _ hL) ?_
  rintro e w4 ⟨rfl, hb4⟩
  refine ⟨_, rfl, ?_⟩
  have s4 := s3.call hb4
  refine takeC 3 (v := .tuple #[.bool true, U i6 0]) rfl rfl (by kernel_rfl) (by kernel_rfl) (by kernel_rfl) (fun _ _ _ h => h) (fun _ => rfl) rfl (fun w' hw' => by go_simp) ?_
  refine takeC 4 (v := .bool true) rfl rfl (by kernel_rfl) (by kernel_rfl) (by kernel_rfl) (fun _ _ _ h => h) (fun _ => rfl) rfl (fun w' hw' => by go_simp) ?_
  refine takeC 5 (v := U i6 0) rfl rfl (by kernel_rfl) (by kernel_rfl) (by kernel_rfl) (fun _ _ _ h => h) (fun _ => rfl) rfl (fun w' hw' => by go_simp) ?_
  refine takeC 6 (v := .bool true) rfl rfl (by kernel_rfl) (by kernel_rfl) (by kernel_rfl) (fun _ _ _ h => h) (fun _ => rfl) rfl (fun w' hw' => by go_simp) ?_
  refine takeC 7 (v := U i6 0) rfl rfl (by kernel_rfl) (by kernel_rfl) (by kernel_rfl) (fun _ _ _ h => h) (fun _ => rfl) rfl (fun w' hw' => by go_simp) ?_
  exact doneM s4.h1 (by kernel_rfl) ⟨g, by kernel_rfl, s4⟩ _
 rintro a' w2 ⟨g3, rfl, s2⟩
 clear S1
 obtain ⟨w1, hw1⟩ : ∃ w1, w1 = w2 := ⟨_, rfl⟩
 rw [← hw1] at s2 ⊢
 have S1 : Hid (St W w1 [(W.heap.size, #[U i6 100, U i6 127], 28)]) := s2
 clear s2 hw1 w2
 go_upto_region 4 with fail
 refine regionN (fun w' => w'.heap[W.heap.size]? = some (.cells #[U i6 100, U i6 127] 28 (0, 0))) (fun a0 a' w' => ∃ (g : Nat), a' = ((((((((a0.put (some 24) (.agg #[U i6 1, U i6 1, U i6 4, U i6 100, U i6 127, .slice (some ⟨g, 0, none⟩) 1 1, U i6 1])).put (some 25) (.agg #[U i6 100, U i6 127])).put (some 26) (.tuple #[U i6 3, U i6 0])).put (some 23) (.tuple #[U i6 3, U i6 0])).put (some 27) (U i6 3)).put (some 28) (U i6 0)).put (some 6) (U i6 3)).put (some 7) (U i6 0)) ∧ St W w' [(W.heap.size, #[U i6 100, U i6 127], 28)]) (by kernel_rfl) ?_ ?_
 ·have s2 := S1.out.drew
  obtain ⟨w2, hw2⟩ : ∃ w2, w1.drew = w2 := ⟨_, rfl⟩
  rw [hw2] at s2 ⊢
  refine takeC 1 (v := .agg #[U i6 100, U i6 127]) rfl rfl (by kernel_rfl) (by kernel_rfl) (by kernel_rfl) (fun _ _ _ h => h) (fun _ => rfl) rfl (fun w' hw' => run_la 28 (.tmp 1) rfl ⟨W.heap.size, 0, none⟩ (by kernel_rfl) [U i6 100, U i6 127] _ (fun j v hj => by rw [Addr.add_lit, Nat.zero_add, (cells_at hw').1]; simpa using hj) Tryz.underlying28 rfl (by kernel_rfl)) ?_
  refine yK 0 s2.h1 (by kernel_rfl) rfl rfl 21 #[] (by kernel_rfl) (four_any _) ?_
  rintro e w3 ⟨g, rfl, hL, hb⟩
  refine ⟨_, rfl, ?_⟩
  have s3 := s2.call hb
  refine yK 2 s3.h1 (by kernel_rfl) rfl rfl 11 #[.agg #[U i6 1, U i6 1, U i6 4, U i6 100, U i6 127, .slice (some ⟨g, 0, none⟩) 1 1, U i6 1], U i6 1, U i6 1, .agg #[U i6 100, U i6 127]] (by kernel_rfl) (fom g _ hL) ?_
  rintro e w4 ⟨rfl, hb4⟩
  refine ⟨_, rfl, ?_⟩
  have s4 := s3.call hb4
  refine takeC 3 (v := .tuple #[U i6 3, U i6 0]) rfl rfl (by kernel_rfl) (by kernel_rfl) (by kernel_rfl) (fun _ _ _ h => h) (fun _ => rfl) rfl (fun w' hw' => by go_simp) ?_
  refine takeC 4 (v := U i6 3) rfl rfl (by kernel_rfl) (by kernel_rfl) (by kernel_rfl) (fun _ _ _ h => h) (fun _ => rfl) rfl (fun w' hw' => by go_simp) ?_
  refine takeC 5 (v := U i6 0) rfl rfl (by kernel_rfl) (by kernel_rfl) (by kernel_rfl) (fun _ _ _ h => h) (fun _ => rfl) rfl (fun w' hw' => by go_simp) ?_
  refine takeC 6 (v := U i6 3) rfl rfl (by kernel_rfl) (by kernel_rfl) (by kernel_rfl) (fun _ _ _ h => h) (fun _ => rfl) rfl (fun w' hw' => by go_simp) ?_
  refine takeC 7 (v := U i6 0) rfl rfl (by kernel_rfl) (by kernel_rfl) (by kernel_rfl) (fun _ _ _ h => h) (fun _ => rfl) rfl (fun w' hw' => by go_simp) ?_
  exact doneM s4.h1 (by kernel_rfl) ⟨g, by kernel_rfl, s4⟩ _
 rintro a' w2 ⟨g4, rfl, s2⟩
 clear S1
 obtain ⟨w1, hw1⟩ : ∃ w1, w1 = w2 := ⟨_, rfl⟩
 rw [← hw1] at s2 ⊢
 have S1 : Hid (St W w1 [(W.heap.size, #[U i6 100, U i6 127], 28)]) := s2
 clear s2 hw1 w2
 go_upto_region 5 with fail
 refine regionN (fun w' => w'.heap[W.heap.size]? = some (.cells #[U i6 100, U i6 127] 28 (0, 0))) (fun a0 a' w' => ∃ (g B8 : Nat), a' = ((((((((a0.put (some 30) (.agg #[U i6 1, U i6 1, U i6 4, U i6 100, U i6 127, .slice (some ⟨g, 0, none⟩) 1 1, U i6 1])).put (some 31) (.agg #[U i6 100, U i6 127])).put (some 32) (.tuple #[.agg #[U i6 16, U i6 3, U i6 (-25400), U i6 30800, U i6 34600, U i6 56200], U i6 0])).put (some 29) (.tuple #[.agg #[U i6 16, U i6 3, U i6 (-25400), U i6 30800, U i6 34600, U i6 56200], U i6 0])).put (some 33) (.agg #[U i6 16, U i6 3, U i6 (-25400), U i6 30800, U i6 34600, U i6 56200])).put (some 34) (U i6 0)).put (some 8) (.pointer (some ⟨B8, 0, none⟩))).put (some 9) (U i6 0)) ∧ St W w' ((B8, #[U i6 16, U i6 3, U i6 (-25400), U i6 30800, U i6 34600, U i6 56200], 30) :: [(W.heap.size, #[U i6 100, U i6 127], 28)])) (by kernel_rfl) ?_ ?_
 ·have s2 := S1.out.drew
  obtain ⟨w2, hw2⟩ : ∃ w2, w1.drew = w2 := ⟨_, rfl⟩
  rw [hw2] at s2 ⊢
  refine takeC 1 (v := .agg #[U i6 100, U i6 127]) rfl rfl (by kernel_rfl) (by kernel_rfl) (by kernel_rfl) (fun _ _ _ h => h) (fun _ => rfl) rfl (fun w' hw' => run_la 28 (.tmp 1) rfl ⟨W.heap.size, 0, none⟩ (by kernel_rfl) [U i6 100, U i6 127] _ (fun j v hj => by rw [Addr.add_lit, Nat.zero_add, (cells_at hw').1]; simpa using hj) Tryz.underlying28 rfl (by kernel_rfl)) ?_
  refine y2 0 6 s2.h1 (by kernel_rfl) ?_ ?_
  refine yC rfl rfl 21 #[] (by kernel_rfl) (four_any _) ?_
  rintro e w3 ⟨g, rfl, hL, hb⟩
  refine ⟨_, rfl, ?_⟩
  have s3 := s2.call hb
  refine y2 2 6 s3.h1 (by kernel_rfl) ?_ ?_
  refine yC rfl rfl 13 #[.agg #[U i6 1, U i6 1, U i6 4, U i6 100, U i6 127, .slice (some ⟨g, 0, none⟩) 1 1, U i6 1], U i6 1, U i6 1, .agg #[U i6 100, U i6 127]] (by kernel_rfl) (foc g _ hL) ?_
  rintro e w4 ⟨rfl, hb4⟩
  refine ⟨_, rfl, ?_⟩
  have s4 := s3.call hb4
  refine takeC 3 (v := .tuple #[.agg #[U i6 16, U i6 3, U i6 (-25400), U i6 30800, U i6 34600, U i6 56200], U i6 0]) rfl rfl (by kernel_rfl) (by kernel_rfl) (by kernel_rfl) (fun _ _ _ h => h) (fun _ => rfl) rfl (fun w' hw' => by go_simp) ?_
  refine takeC 4 (v := .agg #[U i6 16, U i6 3, U i6 (-25400), U i6 30800, U i6 34600, U i6 56200]) rfl rfl (by kernel_rfl) (by kernel_rfl) (by kernel_rfl) (fun _ _ _ h => h) (fun _ => rfl) rfl (fun w' hw' => by go_simp) ?_
  refine takeC 5 (v := U i6 0) rfl rfl (by kernel_rfl) (by kernel_rfl) (by kernel_rfl) (fun _ _ _ h => h) (fun _ => rfl) rfl (fun w' hw' => by go_simp) ?_
  refine yR 6 s4.h1 (by kernel_rfl) rfl rfl (.pointer (some ⟨w4.heap.size, 0, none⟩)) (w4.alloc (.cells #[U i6 0, U i6 0, U i6 0, U i6 0, U i6 0, U i6 0] 30)) (by kernel_rfl) ?_
  have s5 := s4.new (c := #[U i6 0, U i6 0, U i6 0, U i6 0, U i6 0, U i6 0]) (t := 30)
  obtain ⟨B8, hB⟩ : ∃ B, w4.heap.size = B := ⟨_, rfl⟩
  obtain ⟨w5, hw5⟩ : ∃ w5, w4.alloc (.cells #[U i6 0, U i6 0, U i6 0, U i6 0, U i6 0, U i6 0] 30) = w5 := ⟨_, rfl⟩
  rw [hw5, hB] at s5 ⊢
  have hne : ∀ x ∈ ([(W.heap.size, #[U i6 100, U i6 127], 28)] : List (Nat × Array Value × TypeId)), x.1 < B8 := fun x hx => by rw [← hB]; exact lt_of_heap (s4.2 x hx).1
  rotate_left
  refine yO rfl rfl (.pointer (some ⟨w3.heap.size, 0, none⟩)) (w3.alloc (.cells #[U i6 0, U i6 0, U i6 0, U i6 0, U i6 0, U i6 0] 30)) (by kernel_rfl) ?_
  have s4 := s3.new (c := #[U i6 0, U i6 0, U i6 0, U i6 0, U i6 0, U i6 0]) (t := 30)
  refine yK 2 s4.h2 (by kernel_rfl) rfl rfl 13 #[.agg #[U i6 1, U i6 1, U i6 4, U i6 100, U i6 127, .slice (some ⟨g, 0, none⟩) 1 1, U i6 1], U i6 1, U i6 1, .agg #[U i6 100, U i6 127]] (by kernel_rfl) (foc g _ (hL.below (bal _ _))) ?_
  rintro e w5 ⟨rfl, hb4⟩
  refine ⟨_, rfl, ?_⟩
  have s5 := s4.call hb4
  refine takeC 3 (v := .tuple #[.agg #[U i6 16, U i6 3, U i6 (-25400), U i6 30800, U i6 34600, U i6 56200], U i6 0]) rfl rfl (by kernel_rfl) (by kernel_rfl) (by kernel_rfl) (fun _ _ _ h => h) (fun _ => rfl) rfl (fun w' hw' => by go_simp) ?_
  refine takeC 4 (v := .agg #[U i6 16, U i6 3, U i6 (-25400), U i6 30800, U i6 34600, U i6 56200]) rfl rfl (by kernel_rfl) (by kernel_rfl) (by kernel_rfl) (fun _ _ _ h => h) (fun _ => rfl) rfl (fun w' hw' => by go_simp) ?_
  refine takeC 5 (v := U i6 0) rfl rfl (by kernel_rfl) (by kernel_rfl) (by kernel_rfl) (fun _ _ _ h => h) (fun _ => rfl) rfl (fun w' hw' => by go_simp) ?_
  obtain ⟨B8, hB⟩ : ∃ B, w3.heap.size = B := ⟨_, rfl⟩
  rw [hB] at s5 ⊢
  have hne : ∀ x ∈ ([(W.heap.size, #[U i6 100, U i6 127], 28)] : List (Nat × Array Value × TypeId)), x.1 < B8 := fun x hx => by rw [← hB]; exact lt_of_heap (s3.2 x hx).1
  rotate_left
  refine yO rfl rfl (.pointer (some ⟨w2.heap.size, 0, none⟩)) (w2.alloc (.cells #[U i6 0, U i6 0, U i6 0, U i6 0, U i6 0, U i6 0] 30)) (by kernel_rfl) ?_
  have s3 := s2.new (c := #[U i6 0, U i6 0, U i6 0, U i6 0, U i6 0, U i6 0]) (t := 30)
  refine yK 0 s3.h2 (by kernel_rfl) rfl rfl 21 #[] (by kernel_rfl) (four_any _) ?_
  rintro e w3 ⟨g, rfl, hL, hb⟩
  refine ⟨_, rfl, ?_⟩
  have s4 := s3.call hb
  refine yK 2 s4.h2 (by kernel_rfl) rfl rfl 13 #[.agg #[U i6 1, U i6 1, U i6 4, U i6 100, U i6 127, .slice (some ⟨g, 0, none⟩) 1 1, U i6 1], U i6 1, U i6 1, .agg #[U i6 100, U i6 127]] (by kernel_rfl) (foc g _ hL) ?_
  rintro e w5 ⟨rfl, hb4⟩
  refine ⟨_, rfl, ?_⟩
  have s5 := s4.call hb4
  refine takeC 3 (v := .tuple #[.agg #[U i6 16, U i6 3, U i6 (-25400), U i6 30800, U i6 34600, U i6 56200], U i6 0]) rfl rfl (by kernel_rfl) (by kernel_rfl) (by kernel_rfl) (fun _ _ _ h => h) (fun _ => rfl) rfl (fun w' hw' => by go_simp) ?_
  refine takeC 4 (v := .agg #[U i6 16, U i6 3, U i6 (-25400), U i6 30800, U i6 34600, U i6 56200]) rfl rfl (by kernel_rfl) (by kernel_rfl) (by kernel_rfl) (fun _ _ _ h => h) (fun _ => rfl) rfl (fun w' hw' => by go_simp) ?_
  refine takeC 5 (v := U i6 0) rfl rfl (by kernel_rfl) (by kernel_rfl) (by kernel_rfl) (fun _ _ _ h => h) (fun _ => rfl) rfl (fun w' hw' => by go_simp) ?_
  obtain ⟨B8, hB⟩ : ∃ B, w2.heap.size = B := ⟨_, rfl⟩
  rw [hB] at s5 ⊢
  have hne : ∀ x ∈ ([(W.heap.size, #[U i6 100, U i6 127], 28)] : List (Nat × Array Value × TypeId)), x.1 < B8 := fun x hx => by rw [← hB]; exact lt_of_heap (s2.2 x hx).1
  all_goals
   refine yS 7 s5.h2 (by kernel_rfl) rfl rfl 30 (.tmp 8) (.tmp 33) rfl B8 #[U i6 16, U i6 3, U i6 (-25400), U i6 30800, U i6 34600, U i6 56200] (by kernel_rfl) (by kernel_rfl) 30 #[U i6 0, U i6 0, U i6 0, U i6 0, U i6 0, U i6 0] s5.h1 (by kernel_rfl) rfl (by simp [Value.oneCell']) ?_
   have s6 := s5.rowset (c' := #[U i6 16, U i6 3, U i6 (-25400), U i6 30800, U i6 34600, U i6 56200]) (fun x hx => Nat.ne_of_lt (hne x hx))
   obtain ⟨w6, hw6⟩ : ∃ w6, w5.setRow B8 #[U i6 16, U i6 3, U i6 (-25400), U i6 30800, U i6 34600, U i6 56200] = w6 := ⟨_, rfl⟩
   rw [hw6] at s6 ⊢
   refine yR 8 s6.h2 (by kernel_rfl) rfl rfl (U i6 0) w6 (by kernel_rfl) ?_
   exact doneM s6.h2 (by kernel_rfl) ⟨g, B8, by kernel_rfl, s6⟩ _
 rintro a' w2 ⟨g5, B8, rfl, s2⟩
 clear S1
 obtain ⟨c1, f1, z1, -⟩ := s2.rules
 have HB : Hid (Below W.heap.size W w2) := s2.below
 clear s2
 go_wp2
 go_ret
 exact ⟨rfl, HB.out⟩
theorem chooses_e (h w c lo hi : Int) (oa : Option Addr) (on oc : Nat) (ot op ch slo shi ylo yhi dp wd pd u1 u2 t1 t2 : Int) (W : World) (k a b m kh kw sh sw tp lf bt rt : Int) (wa : Option Addr) (lw wc : Nat) (ba : Option Addr) (lb bc : Nat) (sm ss um us z p l2 h2 x0 y0 z0 H V C : Int) (E : Int) (hE : E ≠ 0) (HT : Hid (∀ W', Below W.heap.size W W' → Calls Tryz.prog 13 #[.agg #[U i6 h, U i6 w, U i6 c, U i6 lo, U i6 hi, .slice oa on oc, U i6 ot], U i6 op, U i6 ch, .agg #[U i6 slo, U i6 shi]] W' fun e w' => e = .returned (.tuple #[.agg #[U i6 0, U i6 0, U i6 0, U i6 0, U i6 0, U i6 0], U i6 E]) ∧ Below W'.heap.size W' w')) (HF : Hid (∀ W', Below W.heap.size W W' → Calls Tryz.prog 7 #[.agg #[U i6 h, U i6 w, U i6 c, U i6 lo, U i6 hi, .slice oa on oc, U i6 ot], U i6 op, U i6 ch, .agg #[U i6 slo, U i6 shi]] W' fun e w' => e = .returned (.tuple #[.agg #[U i6 k, U i6 a, U i6 b, U i6 m, U i6 kh, U i6 kw, U i6 sh, U i6 sw, U i6 tp, U i6 lf, U i6 bt, U i6 rt, .slice wa lw wc, .slice ba lb bc, U i6 sm, U i6 ss, U i6 um, U i6 us, U i6 z, U i6 p, U i6 l2, U i6 h2, U i6 x0, U i6 y0, U i6 z0, U i6 H, U i6 V, U i6 C], U i6 E]) ∧ Below W'.heap.size W' w')) :
  Calls Tryz.prog 5 #[.agg #[U i6 h, U i6 w, U i6 c, U i6 lo, U i6 hi, .slice oa on oc, U i6 ot, U i6 op, U i6 ch, U i6 slo, U i6 shi, U i6 ylo, U i6 yhi, U i6 dp, U i6 wd, U i6 pd, U i6 u1, U i6 u2, U i6 t1, U i6 t2]] W fun e w' => e = .returned (.bool true) ∧ Below W.heap.size W w' := by
 have hE' : (E == 0) = false := by simp [hE]
 have s0 := (St.start W).new (c := #[U i6 h, U i6 w, U i6 c, U i6 lo, U i6 hi, .slice oa on oc, U i6 ot, U i6 op, U i6 ch, U i6 slo, U i6 shi, U i6 ylo, U i6 yhi, U i6 dp, U i6 wd, U i6 pd, U i6 u1, U i6 u2, U i6 t1, U i6 t2]) (t := 32)
 obtain ⟨c1, f1, z1, -⟩ := s0.rules
 go_enter Tryz.func5, Tryz.ntmps5
 go_wp2_with fail
 refine Calls.mono (HT.out _ s0.below) ?_
 rintro e w1 ⟨rfl, hb⟩
 have s1 := (s0.call hb).new (c := #[U i6 0, U i6 0, U i6 0, U i6 0, U i6 0, U i6 0]) (t := 30)
 clear hb s0 HT c1 f1 z1
 obtain ⟨c1, f1, z1, c2, f2, z2, -⟩ := s1.rules
 go_wp2_with fail
 refine Calls.mono (HF.out _ s1.below) ?_
 rintro e w9 ⟨rfl, hb⟩
 have hz9 := lt_of_heap (s1.call hb).h1
 have hz8 := lt_of_heap (s1.call hb).h2
 have s9 := (s1.call hb).new (c := #[U i6 k, U i6 a, U i6 b, U i6 m, U i6 kh, U i6 kw, U i6 sh, U i6 sw, U i6 tp, U i6 lf, U i6 bt, U i6 rt, .slice wa lw wc, .slice ba lb bc, U i6 sm, U i6 ss, U i6 um, U i6 us, U i6 z, U i6 p, U i6 l2, U i6 h2, U i6 x0, U i6 y0, U i6 z0, U i6 H, U i6 V, U i6 C]) (t := 45)
 clear hb s1 HF c1 f1 z1 c2 f2 z2
 go_upto_region 3 with (refine wpList_st_new rfl 45 (.tmp 5) (.tmp 30) rfl w9 _ #[U i6 k, U i6 a, U i6 b, U i6 m, U i6 kh, U i6 kw, U i6 sh, U i6 sw, U i6 tp, U i6 lf, U i6 bt, U i6 rt, .slice wa lw wc, .slice ba lb bc, U i6 sm, U i6 ss, U i6 um, U i6 us, U i6 z, U i6 p, U i6 l2, U i6 h2, U i6 x0, U i6 y0, U i6 z0, U i6 H, U i6 V, U i6 C] rfl rfl (by kernel_rfl) rfl (by simp [Value.oneCell']) ?_)
 obtain ⟨w8, hw8⟩ : ∃ w8, w9.alloc (.cells #[U i6 k, U i6 a, U i6 b, U i6 m, U i6 kh, U i6 kw, U i6 sh, U i6 sw, U i6 tp, U i6 lf, U i6 bt, U i6 rt, .slice wa lw wc, .slice ba lb bc, U i6 sm, U i6 ss, U i6 um, U i6 us, U i6 z, U i6 p, U i6 l2, U i6 h2, U i6 x0, U i6 y0, U i6 z0, U i6 H, U i6 V, U i6 C] 45) = w8 := ⟨_, rfl⟩
 rw [hw8] at s9 ⊢
 have s8 := s9.new (c := #[U i6 0, U i6 0, U i6 0, U i6 0, U i6 0, U i6 0]) (t := 30)
 have hz7 : w9.heap.size < w8.heap.size := lt_of_heap s9.h1
 clear hw8 s9
 go_wp2_with fail
 refine (fixed18_any _).mono ?_
 rintro e w10 ⟨rfl, hb⟩
 have s10 := s8.call hb
 clear hb s8
 obtain ⟨c1, f1, z1, -, -, -, c3, f3, z3, -⟩ := s10.rules
 have HB : Hid (Below W.heap.size W w10) := s10.below
 clear s10
 go_wp2
 go_ret
 exact ⟨rfl, HB.out⟩
theorem chooses_w (h w c lo hi : Int) (oa : Option Addr) (on oc : Nat) (ot op ch slo shi ylo yhi dp wd pd u1 u2 t1 t2 : Int) (W : World) (k a b m kh kw sh sw tp lf bt rt : Int) (wa : Option Addr) (lw wc : Nat) (ba : Option Addr) (lb bc : Nat) (sm ss um us z p l2 h2 x0 y0 z0 H V C : Int) (E a0 a1 a2 a3 a4 a5 : Int) (HT : Hid (∀ W', Below W.heap.size W W' → Calls Tryz.prog 13 #[.agg #[U i6 h, U i6 w, U i6 c, U i6 lo, U i6 hi, .slice oa on oc, U i6 ot], U i6 op, U i6 ch, .agg #[U i6 slo, U i6 shi]] W' fun e w' => e = .returned (.tuple #[.agg #[U i6 a0, U i6 a1, U i6 a2, U i6 a3, U i6 a4, U i6 a5], U i6 E]) ∧ Below W'.heap.size W' w')) (HF : Hid (∀ W', Below W.heap.size W W' → Calls Tryz.prog 7 #[.agg #[U i6 h, U i6 w, U i6 c, U i6 lo, U i6 hi, .slice oa on oc, U i6 ot], U i6 op, U i6 ch, .agg #[U i6 slo, U i6 shi]] W' fun e w' => e = .returned (.tuple #[.agg #[U i6 k, U i6 a, U i6 b, U i6 m, U i6 kh, U i6 kw, U i6 sh, U i6 sw, U i6 tp, U i6 lf, U i6 bt, U i6 rt, .slice wa lw wc, .slice ba lb bc, U i6 sm, U i6 ss, U i6 um, U i6 us, U i6 z, U i6 p, U i6 l2, U i6 h2, U i6 x0, U i6 y0, U i6 z0, U i6 H, U i6 V, U i6 C], U i6 0]) ∧ Below W'.heap.size W' w')) (HD : Hid (∀ W', Below W.heap.size W W' → Calls Tryz.prog 14 #[.agg #[U i6 k, U i6 a, U i6 b, U i6 m, U i6 kh, U i6 kw, U i6 sh, U i6 sw, U i6 tp, U i6 lf, U i6 bt, U i6 rt, .slice wa lw wc, .slice ba lb bc, U i6 sm, U i6 ss, U i6 um, U i6 us, U i6 z, U i6 p, U i6 l2, U i6 h2, U i6 x0, U i6 y0, U i6 z0, U i6 H, U i6 V, U i6 C], U i6 ch, .agg #[U i6 slo, U i6 shi]] W' fun e w' => e = .returned (.tuple #[.agg #[U i6 a0, U i6 a1, U i6 a2, U i6 a3, U i6 a4, U i6 a5], U i6 E]) ∧ Below W'.heap.size W' w')) :
  Calls Tryz.prog 5 #[.agg #[U i6 h, U i6 w, U i6 c, U i6 lo, U i6 hi, .slice oa on oc, U i6 ot, U i6 op, U i6 ch, U i6 slo, U i6 shi, U i6 ylo, U i6 yhi, U i6 dp, U i6 wd, U i6 pd, U i6 u1, U i6 u2, U i6 t1, U i6 t2]] W fun e w' => e = .returned (.bool true) ∧ Below W.heap.size W w' := by
 have s0 := (St.start W).new (c := #[U i6 h, U i6 w, U i6 c, U i6 lo, U i6 hi, .slice oa on oc, U i6 ot, U i6 op, U i6 ch, U i6 slo, U i6 shi, U i6 ylo, U i6 yhi, U i6 dp, U i6 wd, U i6 pd, U i6 u1, U i6 u2, U i6 t1, U i6 t2]) (t := 32)
 obtain ⟨c1, f1, z1, -⟩ := s0.rules
 go_enter Tryz.func5, Tryz.ntmps5
 go_wp2_with fail
 refine Calls.mono (HT.out _ s0.below) ?_
 rintro e w1 ⟨rfl, hb⟩
 have s1 := (s0.call hb).new (c := #[U i6 a0, U i6 a1, U i6 a2, U i6 a3, U i6 a4, U i6 a5]) (t := 30)
 clear hb s0 HT c1 f1 z1
 obtain ⟨c1, f1, z1, c2, f2, z2, -⟩ := s1.rules
 go_wp2_with fail
 refine Calls.mono (HF.out _ s1.below) ?_
 rintro e w9 ⟨rfl, hb⟩
 have hz9 := lt_of_heap (s1.call hb).h1
 have hz8 := lt_of_heap (s1.call hb).h2
 have s9 := (s1.call hb).new (c := #[U i6 k, U i6 a, U i6 b, U i6 m, U i6 kh, U i6 kw, U i6 sh, U i6 sw, U i6 tp, U i6 lf, U i6 bt, U i6 rt, .slice wa lw wc, .slice ba lb bc, U i6 sm, U i6 ss, U i6 um, U i6 us, U i6 z, U i6 p, U i6 l2, U i6 h2, U i6 x0, U i6 y0, U i6 z0, U i6 H, U i6 V, U i6 C]) (t := 45)
 clear hb s1 HF c1 f1 z1 c2 f2 z2
 go_upto_region 3 with (refine wpList_st_new rfl 45 (.tmp 5) (.tmp 30) rfl w9 _ #[U i6 k, U i6 a, U i6 b, U i6 m, U i6 kh, U i6 kw, U i6 sh, U i6 sw, U i6 tp, U i6 lf, U i6 bt, U i6 rt, .slice wa lw wc, .slice ba lb bc, U i6 sm, U i6 ss, U i6 um, U i6 us, U i6 z, U i6 p, U i6 l2, U i6 h2, U i6 x0, U i6 y0, U i6 z0, U i6 H, U i6 V, U i6 C] rfl rfl (by kernel_rfl) rfl (by simp [Value.oneCell']) ?_)
 obtain ⟨w8, hw8⟩ : ∃ w8, w9.alloc (.cells #[U i6 k, U i6 a, U i6 b, U i6 m, U i6 kh, U i6 kw, U i6 sh, U i6 sw, U i6 tp, U i6 lf, U i6 bt, U i6 rt, .slice wa lw wc, .slice ba lb bc, U i6 sm, U i6 ss, U i6 um, U i6 us, U i6 z, U i6 p, U i6 l2, U i6 h2, U i6 x0, U i6 y0, U i6 z0, U i6 H, U i6 V, U i6 C] 45) = w8 := ⟨_, rfl⟩
 rw [hw8] at s9 ⊢
 have s8 := s9.new (c := #[U i6 0, U i6 0, U i6 0, U i6 0, U i6 0, U i6 0]) (t := 30)
 have hz7 : w9.heap.size < w8.heap.size := lt_of_heap s9.h1
 clear hw8 s9
 have hrc := s8.h2
 have S8 : Hid (St W _ _) := s8
 obtain ⟨c1, f1, z1, -, -, -, -, -, -, c4, f4, z4, -⟩ := s8.rules
 clear s8 c1 f1 z1
 go_wp2_with (refine wpList_load_row rfl 45 (.tmp 5) rfl _ rfl 45 _ (0, 0) _ hrc Tryz.underlying45 rfl (by kernel_rfl) ?_)
 refine Calls.mono (HD.out _ S8.out.below) ?_
 rintro e w11 ⟨rfl, hb⟩
 have s11 := S8.out.call hb
 clear hb S8 hrc HD c4 f4 z4
 obtain ⟨c1, f1, z1, -⟩ := s11.rules
 have s8 := s11.six (u0 := U i6 a0) (u1 := U i6 a1) (u2 := U i6 a2) (u3 := U i6 a3) (u4 := U i6 a4) (u5 := U i6 a5) (by simp; omega)
 clear s11
 go_wp2_with fail
 refine (fixed18_any _).mono ?_
 rintro e w10 ⟨rfl, hb⟩
 have s10 := s8.call hb
 clear hb s8 c1 f1 z1
 obtain ⟨c1, f1, z1, -, -, -, c3, f3, z3, -⟩ := s10.rules
 have HB : Hid (Below W.heap.size W w10) := s10.below
 clear s10
 go_wp2
 go_ret
 exact ⟨rfl, HB.out⟩
end Go.Proofs.YtgiohlcipndakaaGreat
