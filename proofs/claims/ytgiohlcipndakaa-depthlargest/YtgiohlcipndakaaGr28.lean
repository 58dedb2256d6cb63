/- four and fixed of law18. What Length, Channels and Positions of package terms return. DepthLargest. -/
import Derived.Test.YtgiohlcipndakaaGr22
import Derived.Test.YtgiohlcipndakaaGr27
/- four and fixed of law18. -/
namespace Go.Proofs.Ytgiohlcipndakaa
open Go.ChangeShapes Go.WideShapes Go.ChangeAt Go.RowKit
set_option linter.unusedVariables false
def foO (_ : Nat) (j : Nat) : Int := [1, 0, 0, 1, 0, 0, 0, 0, 0, 0, 0, 0, 4, 1, 1, 0, 0, 0, 0, 0, -128, 127].getD j 0
def foZ (_ : Nat) : List Int := [200, -200, 200, 200]
def foB (_ : Nat) : List Int := [0]
theorem fo_0 : gtR foO 1 1 4 100 127 1 1 = (0, 0, [(1, 1, 4), (1, 1, 1)], 4) := by decide
theorem fo_blk {k : IntKind} {w : World} {b : Nat} {T : TypeId} (zs : List Int) (h : w.heap[b]? = some (.cells (zs.map (Value.int k)).toArray T (0, 0))) (hw : ∀ z ∈ zs, (Lit.int k z).wf = true) (hm : zs.length ≤ 1000) : IRow k w (some ⟨b, 0, none⟩) zs.length zs.length zs := by
  refine ⟨rfl, Nat.le_refl _, by unfold maxLen; omega, hw, fun h => (by cases h), fun x hx i hi => ?_⟩
  cases hx
  rw [Addr.add_lit, Nat.zero_add, (cells_at h).1]
  simp [List.getD, hi]
theorem fo_lrow {w : World} {g p q : Nat} (h : w.heap[g]? = some (.cells #[.int .i64 1, .int .i64 0, .int .i64 0, .int .i64 1, .int .i64 0, .int .i64 0, .int .i64 0, .int .i64 0, .int .i64 0, .int .i64 0, .int .i64 0, .int .i64 0, .slice (some ⟨p, 0, none⟩) 4 4, .slice (some ⟨q, 0, none⟩) 1 1, .int .i64 1, .int .i64 0, .int .i64 0, .int .i64 0, .int .i64 0, .int .i64 0, .int .i64 (-128), .int .i64 127] 59 (0, 0))) (hp : w.heap[p]? = some (.cells #[.int .i16 200, .int .i16 (-200), .int .i16 200, .int .i16 200] 83 (0, 0))) (hq : w.heap[q]? = some (.cells #[.int .i32 0] 21 (0, 0))) : LRow w (some ⟨g, 0, none⟩) 1 1 foO foZ foB := by
  refine ⟨Nat.le_refl _, by unfold maxLen; omega, fun h => (by cases h), fun x hx i hi => ?_⟩
  cases hx
  obtain rfl : i = 0 := by omega
  refine ⟨some ⟨p, 0, none⟩, 4, 4, some ⟨q, 0, none⟩, 1, 1, rfl, rfl, fun j v hj => ?_, fo_blk [200, -200, 200, 200] hp (fun z hz => ?_) (by simp), fo_blk [0] hq (fun z hz => ?_) (by simp), by omega, by omega⟩
  · rw [Nat.zero_mul, Addr.add_lit, Addr.add_lit, (cells_at h).1, ← hj]
    simp [opl, foO]
  · simp only [List.mem_cons, List.not_mem_nil, or_false] at hz
    rcases hz with rfl | rfl | rfl | rfl <;> rfl
  · simp only [List.mem_cons, List.not_mem_nil, or_false] at hz
    subst hz; rfl
theorem four_any (W : World) :
    Calls Try.prog 15 #[] W fun e w' => ∃ g : Nat, e = .returned (.agg #[.int .i64 1, .int .i64 1, .int .i64 4, .int .i64 100, .int .i64 127, .slice (some ⟨g, 0, none⟩) 1 1, .int .i64 1]) ∧ LRow w' (some ⟨g, 0, none⟩) 1 1 foO foZ foB ∧ Below W.heap.size W w' := by
  go_enter Try.func15, Try.ntmps15
  go_wp2
  have s1 := (((St.start W).new (c := #[.int .i64 1, .int .i64 1, .int .i64 4, .int .i64 100, .int .i64 127, .slice (some ⟨W.heap.size + 1 + 1 + 1, 0, none⟩) 1 1, .int .i64 1]) (t := 26)).new (c := #[.int .i16 200, .int .i16 (-200), .int .i16 200, .int .i16 200]) (t := 83)).new (c := #[.int .i32 0]) (t := 21)
  simp only [World.size_alloc] at s1
  have s2 := s1.new (c := #[.int .i64 1, .int .i64 0, .int .i64 0, .int .i64 1, .int .i64 0, .int .i64 0, .int .i64 0, .int .i64 0, .int .i64 0, .int .i64 0, .int .i64 0, .int .i64 0, .slice (some ⟨W.heap.size + 1, 0, none⟩) 4 4, .slice (some ⟨W.heap.size + 1 + 1, 0, none⟩) 1 1, .int .i64 1, .int .i64 0, .int .i64 0, .int .i64 0, .int .i64 0, .int .i64 0, .int .i64 (-128), .int .i64 127]) (t := 59)
  simp only [World.size_alloc] at s2
  exact bodyPost_ret (v := .agg #[.int .i64 1, .int .i64 1, .int .i64 4, .int .i64 100, .int .i64 127, .slice (some ⟨W.heap.size + 1 + 1 + 1, 0, none⟩) 1 1, .int .i64 1]) (by simp [results, Try.results15, go_sem]) rfl ⟨W.heap.size + 1 + 1 + 1, rfl, fo_lrow (p := W.heap.size + 1) (q := W.heap.size + 1 + 1) s2.h1 s2.h3 s2.h2, s2.below⟩
theorem fo_found {W : World} {g : Nat} (hL : LRow W (some ⟨g, 0, none⟩) 1 1 foO foZ foB) : ∃ wa lw cw ba lb cb, Fnd W (some ⟨g, 0, none⟩) 1 foO foZ foB [(1, 1, 4), (1, 1, 1)] 0 ⟨g, 0, none⟩ wa lw cw ba lb cb 1 1 4 1 1 1 := by
  obtain ⟨RL, Rw, hR, i, x, wa, lw, cw, ba, lb, cb, x0, y0, z0, H, V, C, hop, hF⟩ := found 1 1 4 100 127 1 (some ⟨g, 0, none⟩) 1 1 foO foZ foB W hL 1 (fiE_0 (i := 0) (by rw [fo_0]) (by omega) (by decide))
  obtain rfl : i = 0 := by omega
  rw [fo_0] at hR
  simp only [Prod.mk.injEq, true_and] at hR
  obtain ⟨rfl, -⟩ := hR
  have h8 := hF.2.2.2.2.2.2.2.1
  have h9 := hF.2.2.2.2.2.2.2.2.1
  have h2 := hF.2.1
  simp only [foO, List.getD, List.getElem?_cons_zero, List.getElem?_cons_succ, Option.getD_some, Int.toNat_zero, Prod.mk.injEq, Nat.zero_add] at h8 h9
  obtain ⟨rfl, rfl, rfl⟩ := h8
  obtain ⟨rfl, rfl, rfl⟩ := h9
  simp only [Option.some.injEq] at h2
  subst h2
  exact ⟨wa, lw, cw, ba, lb, cb, hF⟩
theorem fo_len : (siL (foO 0 0) (foO 0 4) (foO 0 5) (foO 0 6) (foO 0 7) (foO 0 8) (foO 0 9) (foO 0 10) (foO 0 11) 1 1 4 1 0 (foZ 0)).length = 4 := by decide
theorem foS2 : saR 100 127 2 4 (hbD (2 : Int).toNat (fun (j : Nat) => enL 100 127 (foO 0 19) (siL (foO 0 0) (foO 0 4) (foO 0 5) (foO 0 6) (foO 0 7) (foO 0 8) (foO 0 9) (foO 0 10) (foO 0 11) 1 1 4 1 (j : Int) (foZ 0))) ((1 : Int) * 1).toNat) = (false, 0) := by decide
theorem foS3 : saR 100 127 3 4 (hbD (3 : Int).toNat (fun (j : Nat) => enL 100 127 (foO 0 19) (siL (foO 0 0) (foO 0 4) (foO 0 5) (foO 0 6) (foO 0 7) (foO 0 8) (foO 0 9) (foO 0 10) (foO 0 11) 1 1 4 1 (j : Int) (foZ 0))) ((1 : Int) * 1).toNat) = (true, 0) := by decide
theorem foM : grN (sfD (fun (j : Nat) => enL 100 127 (foO 0 19) (siL (foO 0 0) (foO 0 4) (foO 0 5) (foO 0 6) (foO 0 7) (foO 0 8) (foO 0 9) (foO 0 10) (foO 0 11) 1 1 4 1 (j : Int) (foZ 0))) ((1 : Int) * 1).toNat) 4 = 3 := by decide
theorem foR : w32 (hbR (biA (foO 0 0) 1 (foB 0)) (fun (j : Nat) => enL 100 127 (foO 0 19) (siL (foO 0 0) (foO 0 4) (foO 0 5) (foO 0 6) (foO 0 7) (foO 0 8) (foO 0 9) (foO 0 10) (foO 0 11) 1 1 4 1 (j : Int) (foZ 0))) ((1 : Int) * 1).toNat) = true := by decide
theorem foC : chC 3 4 (hbR (biA (foO 0 0) 1 (foB 0)) (fun (j : Nat) => enL 100 127 (foO 0 19) (siL (foO 0 0) (foO 0 4) (foO 0 5) (foO 0 6) (foO 0 7) (foO 0 8) (foO 0 9) (foO 0 10) (foO 0 11) 1 1 4 1 (j : Int) (foZ 0))) ((1 : Int) * 1).toNat) (hbD 3 (fun (j : Nat) => enL 100 127 (foO 0 19) (siL (foO 0 0) (foO 0 4) (foO 0 5) (foO 0 6) (foO 0 7) (foO 0 8) (foO 0 9) (foO 0 10) (foO 0 11) 1 1 4 1 (j : Int) (foZ 0))) ((1 : Int) * 1).toNat) (hbT (biA (foO 0 0) 1 (foB 0)) (fun (j : Nat) => enL 100 127 (foO 0 19) (siL (foO 0 0) (foO 0 4) (foO 0 5) (foO 0 6) (foO 0 7) (foO 0 8) (foO 0 9) (foO 0 10) (foO 0 11) 1 1 4 1 (j : Int) (foZ 0))) ((1 : Int) * 1).toNat) = #[.int .i64 16, .int .i64 3, .int .i64 (-25400), .int .i64 30800, .int .i64 34600, .int .i64 56200] := by
  rw [show hbD 3 (fun (j : Nat) => enL 100 127 (foO 0 19) (siL (foO 0 0) (foO 0 4) (foO 0 5) (foO 0 6) (foO 0 7) (foO 0 8) (foO 0 9) (foO 0 10) (foO 0 11) 1 1 4 1 (j : Int) (foZ 0))) ((1 : Int) * 1).toNat = (-25400, 30800) by decide, show hbT (biA (foO 0 0) 1 (foB 0)) (fun (j : Nat) => enL 100 127 (foO 0 19) (siL (foO 0 0) (foO 0 4) (foO 0 5) (foO 0 6) (foO 0 7) (foO 0 8) (foO 0 9) (foO 0 10) (foO 0 11) 1 1 4 1 (j : Int) (foZ 0))) ((1 : Int) * 1).toNat = (34600, 56200) by decide]
  rfl
theorem fos2 (g : Nat) (W : World) (hL : LRow W (some ⟨g, 0, none⟩) 1 1 foO foZ foB) : Calls Try.prog 11 #[.agg #[.int .i64 1, .int .i64 1, .int .i64 4, .int .i64 100, .int .i64 127, .slice (some ⟨g, 0, none⟩) 1 1, .int .i64 1], .int .i64 1, .int .i64 1, .agg #[.int .i64 100, .int .i64 127], .int .i64 2] W fun e w' => e = .returned (.tuple #[.bool false, .int .i64 0]) ∧ Below W.heap.size W w' := by
  obtain ⟨wa, lw, cw, ba, lb, cb, hF⟩ := fo_found hL
  have h := dsaf_ok 1 1 4 100 127 1 (some ⟨g, 0, none⟩) 1 1 foO foZ foB W hL 1 _ _ fo_0 0 ⟨g, 0, none⟩ wa lw cw ba lb cb 1 1 4 1 1 1 hF (by omega) 100 127 2 4 fo_len
  rw [foS2] at h
  exact h
theorem fos3 (g : Nat) (W : World) (hL : LRow W (some ⟨g, 0, none⟩) 1 1 foO foZ foB) : Calls Try.prog 11 #[.agg #[.int .i64 1, .int .i64 1, .int .i64 4, .int .i64 100, .int .i64 127, .slice (some ⟨g, 0, none⟩) 1 1, .int .i64 1], .int .i64 1, .int .i64 1, .agg #[.int .i64 100, .int .i64 127], .int .i64 3] W fun e w' => e = .returned (.tuple #[.bool true, .int .i64 0]) ∧ Below W.heap.size W w' := by
  obtain ⟨wa, lw, cw, ba, lb, cb, hF⟩ := fo_found hL
  have h := dsaf_ok 1 1 4 100 127 1 (some ⟨g, 0, none⟩) 1 1 foO foZ foB W hL 1 _ _ fo_0 0 ⟨g, 0, none⟩ wa lw cw ba lb cb 1 1 4 1 1 1 hF (by omega) 100 127 3 4 fo_len
  rw [foS3] at h
  exact h
theorem fom (g : Nat) (W : World) (hL : LRow W (some ⟨g, 0, none⟩) 1 1 foO foZ foB) : Calls Try.prog 7 #[.agg #[.int .i64 1, .int .i64 1, .int .i64 4, .int .i64 100, .int .i64 127, .slice (some ⟨g, 0, none⟩) 1 1, .int .i64 1], .int .i64 1, .int .i64 1, .agg #[.int .i64 100, .int .i64 127]] W fun e w' => e = .returned (.tuple #[.int .i64 3, .int .i64 0]) ∧ Below W.heap.size W w' := by
  obtain ⟨wa, lw, cw, ba, lb, cb, hF⟩ := fo_found hL
  have h := dmos_ok 1 1 4 100 127 1 (some ⟨g, 0, none⟩) 1 1 foO foZ foB W hL 1 _ _ fo_0 0 ⟨g, 0, none⟩ wa lw cw ba lb cb 1 1 4 1 1 1 hF (by omega) 100 127 4 fo_len
  rw [foM] at h
  exact h
theorem foc (g : Nat) (W : World) (hL : LRow W (some ⟨g, 0, none⟩) 1 1 foO foZ foB) : Calls Try.prog 13 #[.agg #[.int .i64 1, .int .i64 1, .int .i64 4, .int .i64 100, .int .i64 127, .slice (some ⟨g, 0, none⟩) 1 1, .int .i64 1], .int .i64 1, .int .i64 1, .agg #[.int .i64 100, .int .i64 127]] W fun e w' => e = .returned (.tuple #[.agg #[.int .i64 16, .int .i64 3, .int .i64 (-25400), .int .i64 30800, .int .i64 34600, .int .i64 56200], .int .i64 0]) ∧ Below W.heap.size W w' := by
  obtain ⟨wa, lw, cw, ba, lb, cb, hF⟩ := fo_found hL
  have h := dcho_ok 1 1 4 100 127 1 (some ⟨g, 0, none⟩) 1 1 foO foZ foB W hL 1 _ _ fo_0 0 ⟨g, 0, none⟩ wa lw cw ba lb cb 1 1 4 1 1 1 hF (by omega) 100 127 4 fo_len (by decide) foR
  rw [foM, foC] at h
  exact h
set_option maxHeartbeats 8000000 in
set_option maxRecDepth 100000 in
theorem fixed18_any (W : World) : Calls Try.prog 6 #[] W fun e w' => e = .returned (.bool true) ∧ Below W.heap.size W w' := by
  have s1 := (St.start W).new (c := #[.int .i64 100, .int .i64 127]) (t := 28)
  go_enter Try.func6, Try.ntmps6
  go_upto_region 2 with fail
  obtain ⟨w1, hw1⟩ : ∃ w1, W.alloc (.cells #[.int .i64 100, .int .i64 127] 28) = w1 := ⟨_, rfl⟩
  have S1 : Hid (St W w1 [(W.heap.size, #[.int .i64 100, .int .i64 127], 28)]) := by unfold Hid; rw [← hw1]; exact s1
  rw [hw1]
  clear hw1 s1
  refine regionN (fun w' => w'.heap[W.heap.size]? = some (.cells #[.int .i64 100, .int .i64 127] 28 (0, 0))) (fun a0 a' w' => ∃ (g : Nat), a' = ((((((((a0.put (some 12) (.agg #[.int .i64 1, .int .i64 1, .int .i64 4, .int .i64 100, .int .i64 127, .slice (some ⟨g, 0, none⟩) 1 1, .int .i64 1])).put (some 13) (.agg #[.int .i64 100, .int .i64 127])).put (some 14) (.tuple #[.bool false, .int .i64 0])).put (some 11) (.tuple #[.bool false, .int .i64 0])).put (some 15) (.bool false)).put (some 16) (.int .i64 0)).put (some 2) (.bool false)).put (some 3) (.int .i64 0)) ∧ St W w' [(W.heap.size, #[.int .i64 100, .int .i64 127], 28)]) (by kernel_rfl) ?_ ?_
  · have s2 := S1.out.drew
    obtain ⟨w2, hw2⟩ : ∃ w2, w1.drew = w2 := ⟨_, rfl⟩
    rw [hw2] at s2 ⊢
    refine takeC 1 (v := .agg #[.int .i64 100, .int .i64 127]) rfl rfl (by kernel_rfl) (by kernel_rfl) (by kernel_rfl) (fun _ _ _ h => h) (fun _ => rfl) rfl (fun w' hw' => run_la 28 (.tmp 1) rfl ⟨W.heap.size, 0, none⟩ (by kernel_rfl) [.int .i64 100, .int .i64 127] _ (fun j v hj => by rw [Addr.add_lit, Nat.zero_add, (cells_at hw').1]; simpa using hj) Try.underlying28 rfl (by kernel_rfl)) ?_
    refine yK 0 s2.h1 (by kernel_rfl) rfl rfl 15 #[] (by kernel_rfl) (four_any _) ?_
    rintro e w3 ⟨g, rfl, hL, hb⟩
    refine ⟨_, rfl, ?_⟩
    have s3 := s2.call hb
    refine yK 2 s3.h1 (by kernel_rfl) rfl rfl 11 #[.agg #[.int .i64 1, .int .i64 1, .int .i64 4, .int .i64 100, .int .i64 127, .slice (some ⟨g, 0, none⟩) 1 1, .int .i64 1], .int .i64 1, .int .i64 1, .agg #[.int .i64 100, .int .i64 127], .int .i64 2] (by kernel_rfl) (fos2 g _ hL) ?_
    rintro e w4 ⟨rfl, hb4⟩
    refine ⟨_, rfl, ?_⟩
    have s4 := s3.call hb4
    refine takeC 3 (v := .tuple #[.bool false, .int .i64 0]) rfl rfl (by kernel_rfl) (by kernel_rfl) (by kernel_rfl) (fun _ _ _ h => h) (fun _ => rfl) rfl (fun w' hw' => by go_simp) ?_
    refine takeC 4 (v := .bool false) rfl rfl (by kernel_rfl) (by kernel_rfl) (by kernel_rfl) (fun _ _ _ h => h) (fun _ => rfl) rfl (fun w' hw' => by go_simp) ?_
    refine takeC 5 (v := .int .i64 0) rfl rfl (by kernel_rfl) (by kernel_rfl) (by kernel_rfl) (fun _ _ _ h => h) (fun _ => rfl) rfl (fun w' hw' => by go_simp) ?_
    refine takeC 6 (v := .bool false) rfl rfl (by kernel_rfl) (by kernel_rfl) (by kernel_rfl) (fun _ _ _ h => h) (fun _ => rfl) rfl (fun w' hw' => by go_simp) ?_
    refine takeC 7 (v := .int .i64 0) rfl rfl (by kernel_rfl) (by kernel_rfl) (by kernel_rfl) (fun _ _ _ h => h) (fun _ => rfl) rfl (fun w' hw' => by go_simp) ?_
    exact doneM s4.h1 (by kernel_rfl) ⟨g, by kernel_rfl, s4⟩ _
  rintro a' w2 ⟨g2, rfl, s2⟩
  clear S1
  obtain ⟨w1, hw1⟩ : ∃ w1, w1 = w2 := ⟨_, rfl⟩
  rw [← hw1] at s2 ⊢
  have S1 : Hid (St W w1 [(W.heap.size, #[.int .i64 100, .int .i64 127], 28)]) := s2
  clear s2 hw1 w2
  go_upto_region 3 with fail
  refine regionN (fun w' => w'.heap[W.heap.size]? = some (.cells #[.int .i64 100, .int .i64 127] 28 (0, 0))) (fun a0 a' w' => ∃ (g : Nat), a' = ((((((((a0.put (some 18) (.agg #[.int .i64 1, .int .i64 1, .int .i64 4, .int .i64 100, .int .i64 127, .slice (some ⟨g, 0, none⟩) 1 1, .int .i64 1])).put (some 19) (.agg #[.int .i64 100, .int .i64 127])).put (some 20) (.tuple #[.bool true, .int .i64 0])).put (some 17) (.tuple #[.bool true, .int .i64 0])).put (some 21) (.bool true)).put (some 22) (.int .i64 0)).put (some 4) (.bool true)).put (some 5) (.int .i64 0)) ∧ St W w' [(W.heap.size, #[.int .i64 100, .int .i64 127], 28)]) (by kernel_rfl) ?_ ?_
  · have s2 := S1.out.drew
    obtain ⟨w2, hw2⟩ : ∃ w2, w1.drew = w2 := ⟨_, rfl⟩
    rw [hw2] at s2 ⊢
    refine takeC 1 (v := .agg #[.int .i64 100, .int .i64 127]) rfl rfl (by kernel_rfl) (by kernel_rfl) (by kernel_rfl) (fun _ _ _ h => h) (fun _ => rfl) rfl (fun w' hw' => run_la 28 (.tmp 1) rfl ⟨W.heap.size, 0, none⟩ (by kernel_rfl) [.int .i64 100, .int .i64 127] _ (fun j v hj => by rw [Addr.add_lit, Nat.zero_add, (cells_at hw').1]; simpa using hj) Try.underlying28 rfl (by kernel_rfl)) ?_
    refine yK 0 s2.h1 (by kernel_rfl) rfl rfl 15 #[] (by kernel_rfl) (four_any _) ?_
    rintro e w3 ⟨g, rfl, hL, hb⟩
    refine ⟨_, rfl, ?_⟩
    have s3 := s2.call hb
    refine yK 2 s3.h1 (by kernel_rfl) rfl rfl 11 #[.agg #[.int .i64 1, .int .i64 1, .int .i64 4, .int .i64 100, .int .i64 127, .slice (some ⟨g, 0, none⟩) 1 1, .int .i64 1], .int .i64 1, .int .i64 1, .agg #[.int .i64 100, .int .i64 127], .int .i64 3] (by kernel_rfl) (fos3 g _ hL) ?_
    rintro e w4 ⟨rfl, hb4⟩
    refine ⟨_, rfl, ?_⟩
    have s4 := s3.call hb4
    refine takeC 3 (v := .tuple #[.bool true, .int .i64 0]) rfl rfl (by kernel_rfl) (by kernel_rfl) (by kernel_rfl) (fun _ _ _ h => h) (fun _ => rfl) rfl (fun w' hw' => by go_simp) ?_
    refine takeC 4 (v := .bool true) rfl rfl (by kernel_rfl) (by kernel_rfl) (by kernel_rfl) (fun _ _ _ h => h) (fun _ => rfl) rfl (fun w' hw' => by go_simp) ?_
    refine takeC 5 (v := .int .i64 0) rfl rfl (by kernel_rfl) (by kernel_rfl) (by kernel_rfl) (fun _ _ _ h => h) (fun _ => rfl) rfl (fun w' hw' => by go_simp) ?_
    refine takeC 6 (v := .bool true) rfl rfl (by kernel_rfl) (by kernel_rfl) (by kernel_rfl) (fun _ _ _ h => h) (fun _ => rfl) rfl (fun w' hw' => by go_simp) ?_
    refine takeC 7 (v := .int .i64 0) rfl rfl (by kernel_rfl) (by kernel_rfl) (by kernel_rfl) (fun _ _ _ h => h) (fun _ => rfl) rfl (fun w' hw' => by go_simp) ?_
    exact doneM s4.h1 (by kernel_rfl) ⟨g, by kernel_rfl, s4⟩ _
  rintro a' w2 ⟨g3, rfl, s2⟩
  clear S1
  obtain ⟨w1, hw1⟩ : ∃ w1, w1 = w2 := ⟨_, rfl⟩
  rw [← hw1] at s2 ⊢
  have S1 : Hid (St W w1 [(W.heap.size, #[.int .i64 100, .int .i64 127], 28)]) := s2
  clear s2 hw1 w2
  go_upto_region 4 with fail
  refine regionN (fun w' => w'.heap[W.heap.size]? = some (.cells #[.int .i64 100, .int .i64 127] 28 (0, 0))) (fun a0 a' w' => ∃ (g : Nat), a' = ((((((((a0.put (some 24) (.agg #[.int .i64 1, .int .i64 1, .int .i64 4, .int .i64 100, .int .i64 127, .slice (some ⟨g, 0, none⟩) 1 1, .int .i64 1])).put (some 25) (.agg #[.int .i64 100, .int .i64 127])).put (some 26) (.tuple #[.int .i64 3, .int .i64 0])).put (some 23) (.tuple #[.int .i64 3, .int .i64 0])).put (some 27) (.int .i64 3)).put (some 28) (.int .i64 0)).put (some 6) (.int .i64 3)).put (some 7) (.int .i64 0)) ∧ St W w' [(W.heap.size, #[.int .i64 100, .int .i64 127], 28)]) (by kernel_rfl) ?_ ?_
  · have s2 := S1.out.drew
    obtain ⟨w2, hw2⟩ : ∃ w2, w1.drew = w2 := ⟨_, rfl⟩
    rw [hw2] at s2 ⊢
    refine takeC 1 (v := .agg #[.int .i64 100, .int .i64 127]) rfl rfl (by kernel_rfl) (by kernel_rfl) (by kernel_rfl) (fun _ _ _ h => h) (fun _ => rfl) rfl (fun w' hw' => run_la 28 (.tmp 1) rfl ⟨W.heap.size, 0, none⟩ (by kernel_rfl) [.int .i64 100, .int .i64 127] _ (fun j v hj => by rw [Addr.add_lit, Nat.zero_add, (cells_at hw').1]; simpa using hj) Try.underlying28 rfl (by kernel_rfl)) ?_
    refine yK 0 s2.h1 (by kernel_rfl) rfl rfl 15 #[] (by kernel_rfl) (four_any _) ?_
    rintro e w3 ⟨g, rfl, hL, hb⟩
    refine ⟨_, rfl, ?_⟩
    have s3 := s2.call hb
    refine yK 2 s3.h1 (by kernel_rfl) rfl rfl 7 #[.agg #[.int .i64 1, .int .i64 1, .int .i64 4, .int .i64 100, .int .i64 127, .slice (some ⟨g, 0, none⟩) 1 1, .int .i64 1], .int .i64 1, .int .i64 1, .agg #[.int .i64 100, .int .i64 127]] (by kernel_rfl) (fom g _ hL) ?_
    rintro e w4 ⟨rfl, hb4⟩
    refine ⟨_, rfl, ?_⟩
    have s4 := s3.call hb4
    refine takeC 3 (v := .tuple #[.int .i64 3, .int .i64 0]) rfl rfl (by kernel_rfl) (by kernel_rfl) (by kernel_rfl) (fun _ _ _ h => h) (fun _ => rfl) rfl (fun w' hw' => by go_simp) ?_
    refine takeC 4 (v := .int .i64 3) rfl rfl (by kernel_rfl) (by kernel_rfl) (by kernel_rfl) (fun _ _ _ h => h) (fun _ => rfl) rfl (fun w' hw' => by go_simp) ?_
    refine takeC 5 (v := .int .i64 0) rfl rfl (by kernel_rfl) (by kernel_rfl) (by kernel_rfl) (fun _ _ _ h => h) (fun _ => rfl) rfl (fun w' hw' => by go_simp) ?_
    refine takeC 6 (v := .int .i64 3) rfl rfl (by kernel_rfl) (by kernel_rfl) (by kernel_rfl) (fun _ _ _ h => h) (fun _ => rfl) rfl (fun w' hw' => by go_simp) ?_
    refine takeC 7 (v := .int .i64 0) rfl rfl (by kernel_rfl) (by kernel_rfl) (by kernel_rfl) (fun _ _ _ h => h) (fun _ => rfl) rfl (fun w' hw' => by go_simp) ?_
    exact doneM s4.h1 (by kernel_rfl) ⟨g, by kernel_rfl, s4⟩ _
  rintro a' w2 ⟨g4, rfl, s2⟩
  clear S1
  obtain ⟨w1, hw1⟩ : ∃ w1, w1 = w2 := ⟨_, rfl⟩
  rw [← hw1] at s2 ⊢
  have S1 : Hid (St W w1 [(W.heap.size, #[.int .i64 100, .int .i64 127], 28)]) := s2
  clear s2 hw1 w2
  go_upto_region 5 with fail
  refine regionN (fun w' => w'.heap[W.heap.size]? = some (.cells #[.int .i64 100, .int .i64 127] 28 (0, 0))) (fun a0 a' w' => ∃ (g B8 : Nat), a' = ((((((((a0.put (some 30) (.agg #[.int .i64 1, .int .i64 1, .int .i64 4, .int .i64 100, .int .i64 127, .slice (some ⟨g, 0, none⟩) 1 1, .int .i64 1])).put (some 31) (.agg #[.int .i64 100, .int .i64 127])).put (some 32) (.tuple #[.agg #[.int .i64 16, .int .i64 3, .int .i64 (-25400), .int .i64 30800, .int .i64 34600, .int .i64 56200], .int .i64 0])).put (some 29) (.tuple #[.agg #[.int .i64 16, .int .i64 3, .int .i64 (-25400), .int .i64 30800, .int .i64 34600, .int .i64 56200], .int .i64 0])).put (some 33) (.agg #[.int .i64 16, .int .i64 3, .int .i64 (-25400), .int .i64 30800, .int .i64 34600, .int .i64 56200])).put (some 34) (.int .i64 0)).put (some 8) (.pointer (some ⟨B8, 0, none⟩))).put (some 9) (.int .i64 0)) ∧ St W w' ((B8, #[.int .i64 16, .int .i64 3, .int .i64 (-25400), .int .i64 30800, .int .i64 34600, .int .i64 56200], 30) :: [(W.heap.size, #[.int .i64 100, .int .i64 127], 28)])) (by kernel_rfl) ?_ ?_
  · have s2 := S1.out.drew
    obtain ⟨w2, hw2⟩ : ∃ w2, w1.drew = w2 := ⟨_, rfl⟩
    rw [hw2] at s2 ⊢
    refine takeC 1 (v := .agg #[.int .i64 100, .int .i64 127]) rfl rfl (by kernel_rfl) (by kernel_rfl) (by kernel_rfl) (fun _ _ _ h => h) (fun _ => rfl) rfl (fun w' hw' => run_la 28 (.tmp 1) rfl ⟨W.heap.size, 0, none⟩ (by kernel_rfl) [.int .i64 100, .int .i64 127] _ (fun j v hj => by rw [Addr.add_lit, Nat.zero_add, (cells_at hw').1]; simpa using hj) Try.underlying28 rfl (by kernel_rfl)) ?_
    refine y2 0 6 s2.h1 (by kernel_rfl) ?_ ?_
    refine yC rfl rfl 15 #[] (by kernel_rfl) (four_any _) ?_
    rintro e w3 ⟨g, rfl, hL, hb⟩
    refine ⟨_, rfl, ?_⟩
    have s3 := s2.call hb
    refine y2 2 6 s3.h1 (by kernel_rfl) ?_ ?_
    refine yC rfl rfl 13 #[.agg #[.int .i64 1, .int .i64 1, .int .i64 4, .int .i64 100, .int .i64 127, .slice (some ⟨g, 0, none⟩) 1 1, .int .i64 1], .int .i64 1, .int .i64 1, .agg #[.int .i64 100, .int .i64 127]] (by kernel_rfl) (foc g _ hL) ?_
    rintro e w4 ⟨rfl, hb4⟩
    refine ⟨_, rfl, ?_⟩
    have s4 := s3.call hb4
    refine takeC 3 (v := .tuple #[.agg #[.int .i64 16, .int .i64 3, .int .i64 (-25400), .int .i64 30800, .int .i64 34600, .int .i64 56200], .int .i64 0]) rfl rfl (by kernel_rfl) (by kernel_rfl) (by kernel_rfl) (fun _ _ _ h => h) (fun _ => rfl) rfl (fun w' hw' => by go_simp) ?_
    refine takeC 4 (v := .agg #[.int .i64 16, .int .i64 3, .int .i64 (-25400), .int .i64 30800, .int .i64 34600, .int .i64 56200]) rfl rfl (by kernel_rfl) (by kernel_rfl) (by kernel_rfl) (fun _ _ _ h => h) (fun _ => rfl) rfl (fun w' hw' => by go_simp) ?_
    refine takeC 5 (v := .int .i64 0) rfl rfl (by kernel_rfl) (by kernel_rfl) (by kernel_rfl) (fun _ _ _ h => h) (fun _ => rfl) rfl (fun w' hw' => by go_simp) ?_
    refine yR 6 s4.h1 (by kernel_rfl) rfl rfl (.pointer (some ⟨w4.heap.size, 0, none⟩)) (w4.alloc (.cells #[.int .i64 0, .int .i64 0, .int .i64 0, .int .i64 0, .int .i64 0, .int .i64 0] 30)) (by kernel_rfl) ?_
    have s5 := s4.new (c := #[.int .i64 0, .int .i64 0, .int .i64 0, .int .i64 0, .int .i64 0, .int .i64 0]) (t := 30)
    obtain ⟨B8, hB⟩ : ∃ B, w4.heap.size = B := ⟨_, rfl⟩
    obtain ⟨w5, hw5⟩ : ∃ w5, w4.alloc (.cells #[.int .i64 0, .int .i64 0, .int .i64 0, .int .i64 0, .int .i64 0, .int .i64 0] 30) = w5 := ⟨_, rfl⟩
    rw [hw5, hB] at s5 ⊢
    have hne : ∀ x ∈ ([(W.heap.size, #[.int .i64 100, .int .i64 127], 28)] : List (Nat × Array Value × TypeId)), x.1 < B8 := fun x hx => by rw [← hB]; exact lt_of_heap (s4.2 x hx).1
    rotate_left
    refine yO rfl rfl (.pointer (some ⟨w3.heap.size, 0, none⟩)) (w3.alloc (.cells #[.int .i64 0, .int .i64 0, .int .i64 0, .int .i64 0, .int .i64 0, .int .i64 0] 30)) (by kernel_rfl) ?_
    have s4 := s3.new (c := #[.int .i64 0, .int .i64 0, .int .i64 0, .int .i64 0, .int .i64 0, .int .i64 0]) (t := 30)
    refine yK 2 s4.h2 (by kernel_rfl) rfl rfl 13 #[.agg #[.int .i64 1, .int .i64 1, .int .i64 4, .int .i64 100, .int .i64 127, .slice (some ⟨g, 0, none⟩) 1 1, .int .i64 1], .int .i64 1, .int .i64 1, .agg #[.int .i64 100, .int .i64 127]] (by kernel_rfl) (foc g _ (hL.below (bal _ _))) ?_
    rintro e w5 ⟨rfl, hb4⟩
    refine ⟨_, rfl, ?_⟩
    have s5 := s4.call hb4
    refine takeC 3 (v := .tuple #[.agg #[.int .i64 16, .int .i64 3, .int .i64 (-25400), .int .i64 30800, .int .i64 34600, .int .i64 56200], .int .i64 0]) rfl rfl (by kernel_rfl) (by kernel_rfl) (by kernel_rfl) (fun _ _ _ h => h) (fun _ => rfl) rfl (fun w' hw' => by go_simp) ?_
    refine takeC 4 (v := .agg #[.int .i64 16, .int .i64 3, .int .i64 (-25400), .int .i64 30800, .int .i64 34600, .int .i64 56200]) rfl rfl (by kernel_rfl) (by kernel_rfl) (by kernel_rfl) (fun _ _ _ h => h) (fun _ => rfl) rfl (fun w' hw' => by go_simp) ?_
    refine takeC 5 (v := .int .i64 0) rfl rfl (by kernel_rfl) (by kernel_rfl) (by kernel_rfl) (fun _ _ _ h => h) (fun _ => rfl) rfl (fun w' hw' => by go_simp) ?_
    obtain ⟨B8, hB⟩ : ∃ B, w3.heap.size = B := ⟨_, rfl⟩
    rw [hB] at s5 ⊢
    have hne : ∀ x ∈ ([(W.heap.size, #[.int .i64 100, .int .i64 127], 28)] : List (Nat × Array Value × TypeId)), x.1 < B8 := fun x hx => by rw [← hB]; exact lt_of_heap (s3.2 x hx).1
    rotate_left
    refine yO rfl rfl (.pointer (some ⟨w2.heap.size, 0, none⟩)) (w2.alloc (.cells #[.int .i64 0, .int .i64 0, .int .i64 0, .int .i64 0, .int .i64 0, .int .i64 0] 30)) (by kernel_rfl) ?_
    have s3 := s2.new (c := #[.int .i64 0, .int .i64 0, .int .i64 0, .int .i64 0, .int .i64 0, .int .i64 0]) (t := 30)
    refine yK 0 s3.h2 (by kernel_rfl) rfl rfl 15 #[] (by kernel_rfl) (four_any _) ?_
    rintro e w3 ⟨g, rfl, hL, hb⟩
    refine ⟨_, rfl, ?_⟩
    have s4 := s3.call hb
    refine yK 2 s4.h2 (by kernel_rfl) rfl rfl 13 #[.agg #[.int .i64 1, .int .i64 1, .int .i64 4, .int .i64 100, .int .i64 127, .slice (some ⟨g, 0, none⟩) 1 1, .int .i64 1], .int .i64 1, .int .i64 1, .agg #[.int .i64 100, .int .i64 127]] (by kernel_rfl) (foc g _ hL) ?_
    rintro e w5 ⟨rfl, hb4⟩
    refine ⟨_, rfl, ?_⟩
    have s5 := s4.call hb4
    refine takeC 3 (v := .tuple #[.agg #[.int .i64 16, .int .i64 3, .int .i64 (-25400), .int .i64 30800, .int .i64 34600, .int .i64 56200], .int .i64 0]) rfl rfl (by kernel_rfl) (by kernel_rfl) (by kernel_rfl) (fun _ _ _ h => h) (fun _ => rfl) rfl (fun w' hw' => by go_simp) ?_
    refine takeC 4 (v := .agg #[.int .i64 16, .int .i64 3, .int .i64 (-25400), .int .i64 30800, .int .i64 34600, .int .i64 56200]) rfl rfl (by kernel_rfl) (by kernel_rfl) (by kernel_rfl) (fun _ _ _ h => h) (fun _ => rfl) rfl (fun w' hw' => by go_simp) ?_
    refine takeC 5 (v := .int .i64 0) rfl rfl (by kernel_rfl) (by kernel_rfl) (by kernel_rfl) (fun _ _ _ h => h) (fun _ => rfl) rfl (fun w' hw' => by go_simp) ?_
    obtain ⟨B8, hB⟩ : ∃ B, w2.heap.size = B := ⟨_, rfl⟩
    rw [hB] at s5 ⊢
    have hne : ∀ x ∈ ([(W.heap.size, #[.int .i64 100, .int .i64 127], 28)] : List (Nat × Array Value × TypeId)), x.1 < B8 := fun x hx => by rw [← hB]; exact lt_of_heap (s2.2 x hx).1
    all_goals
      refine yS 7 s5.h2 (by kernel_rfl) rfl rfl 30 (.tmp 8) (.tmp 33) rfl B8 #[.int .i64 16, .int .i64 3, .int .i64 (-25400), .int .i64 30800, .int .i64 34600, .int .i64 56200] (by kernel_rfl) (by kernel_rfl) 30 #[.int .i64 0, .int .i64 0, .int .i64 0, .int .i64 0, .int .i64 0, .int .i64 0] s5.h1 (by kernel_rfl) rfl (by simp [Value.oneCell']) ?_
      have s6 := s5.rowset (c' := #[.int .i64 16, .int .i64 3, .int .i64 (-25400), .int .i64 30800, .int .i64 34600, .int .i64 56200]) (fun x hx => Nat.ne_of_lt (hne x hx))
      obtain ⟨w6, hw6⟩ : ∃ w6, w5.setRow B8 #[.int .i64 16, .int .i64 3, .int .i64 (-25400), .int .i64 30800, .int .i64 34600, .int .i64 56200] = w6 := ⟨_, rfl⟩
      rw [hw6] at s6 ⊢
      refine yR 8 s6.h2 (by kernel_rfl) rfl rfl (.int .i64 0) w6 (by kernel_rfl) ?_
      exact doneM s6.h2 (by kernel_rfl) ⟨g, B8, by kernel_rfl, s6⟩ _
  rintro a' w2 ⟨g5, B8, rfl, s2⟩
  clear S1
  obtain ⟨c1, f1, z1, -⟩ := s2.rules
  have HB : Hid (Below W.heap.size W w2) := s2.below
  clear s2
  go_wp2
  go_ret
  exact ⟨rfl, HB.out⟩
end Go.Proofs.Ytgiohlcipndakaa

/- What Length, Channels and Positions of package terms return. -/
namespace Go.Proofs.Ytgiohlcipndakaa
open Go.ChangeShapes Go.WideShapes Go.ChangeAt Go.RowKit
set_option linter.unusedVariables false
set_option maxRecDepth 100000 in
set_option maxHeartbeats 2000000 in
theorem lenT_bad (h w c lo hi ot : Int) (oa : Option Addr) (on oc : Nat) (O : Nat → Nat → Int) (Z B : Nat → List Int) (W : World) (hL : LRow W oa on oc O Z B) (op E : Int) (hf : fiE O h w c lo hi ot on op = E) (hE : E ≠ 0) :
    Calls Try.prog 8 #[.agg #[.int .i64 h, .int .i64 w, .int .i64 c, .int .i64 lo, .int .i64 hi, .slice oa on oc, .int .i64 ot], .int .i64 op] W fun e w' => e = .returned (.tuple #[.int .i64 0, .int .i64 E]) ∧ Below W.heap.size W w' := by
  have s0 := (St.start W).new (c := #[.int .i64 h, .int .i64 w, .int .i64 c, .int .i64 lo, .int .i64 hi, .slice oa on oc, .int .i64 ot]) (t := 26)
  have hF : Hid (∀ W', Below W.heap.size W W' → _) := fun W' hb => find_bad h w c lo hi ot oa on oc O Z B W' (hL.below hb) op E hf hE
  have hE' : (E == 0) = false := by simp [hE]
  clear hf hL
  go_enter Try.func8, Try.ntmps8
  go_wp2_with fail
  refine (hF.out _ s0.below).mono ?_
  rintro e w1 ⟨rfl, hb⟩
  have s1 := (s0.call hb).new (c := #[.int .i64 0, .int .i64 0, .int .i64 0, .int .i64 0, .int .i64 0, .int .i64 0, .int .i64 0, .int .i64 0, .int .i64 0, .int .i64 0, .int .i64 0, .int .i64 0, .slice none 0 0, .slice none 0 0, .int .i64 0, .int .i64 0, .int .i64 0, .int .i64 0, .int .i64 0, .int .i64 0, .int .i64 0, .int .i64 0, .int .i64 0, .int .i64 0, .int .i64 0, .int .i64 0, .int .i64 0, .int .i64 0]) (t := 62)
  clear hb
  go_wp2_with (refine wpList_st_new rfl 62 (.tmp 6) (.tmp 12) rfl w1 _ #[.int .i64 0, .int .i64 0, .int .i64 0, .int .i64 0, .int .i64 0, .int .i64 0, .int .i64 0, .int .i64 0, .int .i64 0, .int .i64 0, .int .i64 0, .int .i64 0, .slice none 0 0, .slice none 0 0, .int .i64 0, .int .i64 0, .int .i64 0, .int .i64 0, .int .i64 0, .int .i64 0, .int .i64 0, .int .i64 0, .int .i64 0, .int .i64 0, .int .i64 0, .int .i64 0, .int .i64 0, .int .i64 0] rfl rfl (by kernel_rfl) rfl (by simp [Value.oneCell']) ?_)
  go_ret2
  exact ⟨rfl, s1.below⟩
set_option maxRecDepth 100000 in
set_option maxHeartbeats 2000000 in
theorem lenT_ok (h w c lo hi ot : Int) (oa : Option Addr) (on oc : Nat) (O : Nat → Nat → Int) (Z B : Nat → List Int) (W : World) (hL : LRow W oa on oc O Z B) (RL : List (Int × Int × Int)) (Rw : Int) (hR : gtR O h w c lo hi ot on = (0, 0, RL, Rw)) (i : Nat) (x : Addr) (wa : Option Addr) (lw cw : Nat) (ba : Option Addr) (lb cb : Nat) (x0 y0 z0 H V C : Int) (hF : Fnd W oa on O Z B RL i x wa lw cw ba lb cb x0 y0 z0 H V C) :
    Calls Try.prog 8 #[.agg #[.int .i64 h, .int .i64 w, .int .i64 c, .int .i64 lo, .int .i64 hi, .slice oa on oc, .int .i64 ot], .int .i64 ((i : Int) + 1)] W fun e w' => e = .returned (.tuple #[.int .i64 (stR (O i 0) (O i 4) (O i 5) x0 y0 z0), .int .i64 0]) ∧ Below W.heap.size W w' := by
  have s0 := (St.start W).new (c := #[.int .i64 h, .int .i64 w, .int .i64 c, .int .i64 lo, .int .i64 hi, .slice oa on oc, .int .i64 ot]) (t := 26)
  have hSit : Hid (Sit (O i 0) (O i 4) (O i 5) (O i 6) (O i 7) (O i 8) (O i 9) (O i 10) (O i 11) x0 y0 z0 H V C lw lb) := hF.2.2.2.2.2.2.2.2.2.1
  have hK : Hid (∀ W', Below W.heap.size W W' → _) := fun W' hb => find_ok h w c lo hi ot oa on oc O Z B W' (hL.below hb) RL Rw hR i x wa lw cw ba lb cb x0 y0 z0 H V C (hF.below hb)
  clear hF hR hL
  go_enter Try.func8, Try.ntmps8
  go_wp2_with fail
  refine (hK.out _ s0.below).mono ?_
  rintro e w1 ⟨rfl, hb⟩
  have s1 := (s0.call hb).new (c := #[.int .i64 (O i 0), .int .i64 (O i 1), .int .i64 (O i 2), .int .i64 (O i 3), .int .i64 (O i 4), .int .i64 (O i 5), .int .i64 (O i 6), .int .i64 (O i 7), .int .i64 (O i 8), .int .i64 (O i 9), .int .i64 (O i 10), .int .i64 (O i 11), .slice wa lw cw, .slice ba lb cb, .int .i64 (O i 14), .int .i64 (O i 15), .int .i64 (O i 16), .int .i64 (O i 17), .int .i64 (O i 18), .int .i64 (O i 19), .int .i64 (O i 20), .int .i64 (O i 21), .int .i64 x0, .int .i64 y0, .int .i64 z0, .int .i64 H, .int .i64 V, .int .i64 C]) (t := 62)
  clear hb
  go_wp2_with (refine wpList_st_new rfl 62 (.tmp 6) (.tmp 12) rfl w1 _ #[.int .i64 (O i 0), .int .i64 (O i 1), .int .i64 (O i 2), .int .i64 (O i 3), .int .i64 (O i 4), .int .i64 (O i 5), .int .i64 (O i 6), .int .i64 (O i 7), .int .i64 (O i 8), .int .i64 (O i 9), .int .i64 (O i 10), .int .i64 (O i 11), .slice wa lw cw, .slice ba lb cb, .int .i64 (O i 14), .int .i64 (O i 15), .int .i64 (O i 16), .int .i64 (O i 17), .int .i64 (O i 18), .int .i64 (O i 19), .int .i64 (O i 20), .int .i64 (O i 21), .int .i64 x0, .int .i64 y0, .int .i64 z0, .int .i64 H, .int .i64 V, .int .i64 C] rfl rfl (by kernel_rfl) rfl (by simp [Value.oneCell']) ?_)
  refine (tlen_any (O i 0) (O i 1) (O i 2) (O i 3) (O i 4) (O i 5) (O i 6) (O i 7) (O i 8) (O i 9) (O i 10) (O i 11) wa lw cw ba lb cb (O i 14) (O i 15) (O i 16) (O i 17) (O i 18) (O i 19) (O i 20) (O i 21) x0 y0 z0 H V C _ _ (heap_alloc_new w1 _) hSit.out).mono ?_
  rintro e w2 ⟨rfl, hw2⟩
  have hb2 : Hid (Below W.heap.size W w2) := by first | (obtain ⟨n, rfl⟩ := hw2; exact bt s1.below (dbel _ n)) | (subst hw2; exact s1.below)
  clear hw2
  go_wp2
  go_ret2
  exact ⟨rfl, hb2.out⟩
end Go.Proofs.Ytgiohlcipndakaa

/- DepthLargest. -/
namespace Go.Proofs.Ytgiohlcipndakaa
open Go.ChangeShapes Go.WideShapes Go.ChangeAt Go.RowKit
set_option linter.unusedVariables false
theorem xho16 {r : Int × Int} (h : r.1 ≤ r.2) : xho (-32768) 32767 r.1 r.2 = w16 r := by unfold xho w16 wiB; simp [h]
theorem lenT_any (h w c lo hi ot : Int) (oa : Option Addr) (on oc : Nat) (O : Nat → Nat → Int) (Z B : Nat → List Int) (W : World) (hL : LRow W oa on oc O Z B) (op : Int) : ∃ n f : Int, ∀ W', Below W.heap.size W W' → Calls Try.prog 8 #[.agg #[.int .i64 h, .int .i64 w, .int .i64 c, .int .i64 lo, .int .i64 hi, .slice oa on oc, .int .i64 ot], .int .i64 op] W' fun e w' => e = .returned (.tuple #[.int .i64 n, .int .i64 f]) ∧ Below W'.heap.size W' w' := by
  obtain ⟨E, hf⟩ : ∃ E, fiE O h w c lo hi ot on op = E := ⟨_, rfl⟩
  by_cases hE : E = 0
  · subst hE
    obtain ⟨RL, Rw, hR, i, x, wa, lw, cw, ba, lb, cb, x0, y0, z0, H, V, C, rfl, hF⟩ := found h w c lo hi ot oa on oc O Z B W hL op hf
    exact ⟨_, _, fun W' hb => lenT_ok h w c lo hi ot oa on oc O Z B W' (hL.below hb) RL Rw hR i x wa lw cw ba lb cb x0 y0 z0 H V C (hF.below hb)⟩
  · exact ⟨_, _, fun W' hb => lenT_bad h w c lo hi ot oa on oc O Z B W' (hL.below hb) op E hf hE⟩
theorem sfd_at (S : Nat → Bool) (N d : Nat) (h1 : 1 ≤ d) (h2 : grN S N ≤ d) (h3 : d ≤ N) : S d = decide (d = grN S N) := by
  by_cases q : d = grN S N
  · rw [decide_eq_true q, q]; exact grN_safe S N (by omega)
  · rw [decide_eq_false q]; exact grN_max S N d (by omega) h3
theorem depthLargest_walk (h w c lo hi : Int) (oa : Option Addr) (on oc : Nat) (ot op ch slo shi ylo yhi dp wd pd p1 p2 t1 t2 : Int) (W : World) (_ : (Lit.int .i64 h).wf = true) (_ : (Lit.int .i64 w).wf = true) (_ : (Lit.int .i64 c).wf = true) (_ : (Lit.int .i64 lo).wf = true) (_ : (Lit.int .i64 hi).wf = true) (wo : ORow 22 (OpIn W) W oa on oc) (hr : on * 208 ≤ 140737488351232) (_ : (Lit.int .i64 ot).wf = true) (_ : (Lit.int .i64 op).wf = true) (_ : (Lit.int .i64 ch).wf = true) (_ : (Lit.int .i64 slo).wf = true) (_ : (Lit.int .i64 shi).wf = true) (_ : (Lit.int .i64 ylo).wf = true) (_ : (Lit.int .i64 yhi).wf = true) (_ : (Lit.int .i64 dp).wf = true) (_ : (Lit.int .i64 wd).wf = true) (_ : (Lit.int .i64 pd).wf = true) (_ : (Lit.int .i64 p1).wf = true) (_ : (Lit.int .i64 p2).wf = true) (_ : (Lit.int .i64 t1).wf = true) (_ : (Lit.int .i64 t2).wf = true) : Calls Try.prog 3 #[.agg #[.int .i64 h, .int .i64 w, .int .i64 c, .int .i64 lo, .int .i64 hi, .slice oa on oc, .int .i64 ot, .int .i64 op, .int .i64 ch, .int .i64 slo, .int .i64 shi, .int .i64 ylo, .int .i64 yhi, .int .i64 dp, .int .i64 wd, .int .i64 pd, .int .i64 p1, .int .i64 p2, .int .i64 t1, .int .i64 t2]] W fun e w' => e = .returned (.bool true) ∧ Below W.heap.size W w' := by
  obtain ⟨O, Z, B, hL⟩ := lrow_of wo
  have hX : ∀ W', _ := fun W' => fixed18_any W'
  rcases bask h w c lo hi ot oa on oc O Z B W hL op ch with ⟨E, hE, h1⟩ | ⟨RL, Rw, hR, i, x, wa, lw, cw, ba, lb, cb, x0, y0, z0, H, V, C, rfl, hF, hch⟩
  · obtain ⟨n, f, hn⟩ := lenT_any h w c lo hi ot oa on oc O Z B W hL op
    exact largest_e h w c lo hi oa on oc ot op ch slo shi ylo yhi dp wd pd p1 p2 t1 t2 W E n f hE hX (fun W' hb => dmos_bad h w c lo hi ot op ch oa on oc W' slo shi E hE (fun W2 hb2 => h1 W2 (hb.trans (hb2.mono hb.size)))) hn (fun W' hb => bprd_bad h w c lo hi ot op ch oa on oc W' slo shi E hE (fun W2 hb2 => h1 W2 (hb.trans (hb2.mono hb.size))))
  cases hs : vbB slo shi with
  | false =>
    refine largest_e h w c lo hi oa on oc ot ((i : Int) + 1) ch slo shi ylo yhi dp wd pd p1 p2 t1 t2 W 30 _ 0 (by decide) hX (fun W' hb => ?_) (fun W' hb => lenT_ok h w c lo hi ot oa on oc O Z B W' (hL.below hb) RL Rw hR i x wa lw cw ba lb cb x0 y0 z0 H V C (hF.below hb)) (fun W' hb => ?_)
    · have q := dmos_ok h w c lo hi ot oa on oc O Z B W' (hL.below hb) ch RL Rw hR i x wa lw cw ba lb cb x0 y0 z0 H V C (hF.below hb) hch slo shi _ rfl
      rw [moR_f hs] at q
      exact q
    · have q := bprd_ok h w c lo hi ot oa on oc O Z B W' (hL.below hb) ch RL Rw hR i x wa lw cw ba lb cb x0 y0 z0 H V C (hF.below hb) hch slo shi
      rw [spR_f hs] at q
      exact q
  | true =>
    obtain ⟨N, hN⟩ : ∃ N, (siL (O i 0) (O i 4) (O i 5) (O i 6) (O i 7) (O i 8) (O i 9) (O i 10) (O i 11) x0 y0 z0 ch 0 (Z i)).length = N := ⟨_, rfl⟩
    obtain ⟨hopd, hk4, -, -, hbf2, hbi, -⟩ := bfacts hL RL Rw hR i x wa lw cw ba lb cb x0 y0 z0 H V C hF hch
    have hz := hF.2.2.2.2.2.1.2.2.2.1
    have hv := vbB_yes hs
    have hbf := hopd.si hk4
    obtain ⟨e1, e2, e3⟩ := op_len RL Rw hR i x wa lw cw ba lb cb x0 y0 z0 H V C hF hch N hN
    obtain ⟨⟨v1, v2⟩, v3, v4⟩ := hb_vd hbf hz hch hv hbf2 hbi
    have hM : ∀ W', Below W.heap.size W W' → _ := fun W' hb => dmos_ok h w c lo hi ot oa on oc O Z B W' (hL.below hb) ch RL Rw hR i x wa lw cw ba lb cb x0 y0 z0 H V C (hF.below hb) hch slo shi N hN
    rw [moR_t hs] at hM
    have hP : ∀ W', Below W.heap.size W W' → _ := fun W' hb => bprd_ok h w c lo hi ot oa on oc O Z B W' (hL.below hb) ch RL Rw hR i x wa lw cw ba lb cb x0 y0 z0 H V C (hF.below hb) hch slo shi
    rw [spR_t hs] at hP
    have hLn : ∀ W', Below W.heap.size W W' → _ := fun W' hb => lenT_ok h w c lo hi ot oa on oc O Z B W' (hL.below hb) RL Rw hR i x wa lw cw ba lb cb x0 y0 z0 H V C (hF.below hb)
    rw [e1] at hLn
    have hS : ∀ W' (d : Nat), Below W.heap.size W W' → 1 ≤ d → d ≤ N → Calls Try.prog 11 #[.agg #[.int .i64 h, .int .i64 w, .int .i64 c, .int .i64 lo, .int .i64 hi, .slice oa on oc, .int .i64 ot], .int .i64 ((i : Int) + 1), .int .i64 ch, .agg #[.int .i64 slo, .int .i64 shi], .int .i64 (d : Int)] W' fun e w' => e = .returned (.tuple #[.bool ((sfD (fun (j : Nat) => enL slo shi (O i 19) (siL (O i 0) (O i 4) (O i 5) (O i 6) (O i 7) (O i 8) (O i 9) (O i 10) (O i 11) x0 y0 z0 ch (j : Int) (Z i))) (H * V).toNat) d), .int .i64 0]) ∧ Below W'.heap.size W' w' := fun W' d hb g1 g2 => by
      have q := dsaf_ok h w c lo hi ot oa on oc O Z B W' (hL.below hb) ch RL Rw hR i x wa lw cw ba lb cb x0 y0 z0 H V C (hF.below hb) hch slo shi d N hN
      rw [saR_t hs ⟨by omega, by omega⟩, Int.toNat_natCast] at q
      exact q
    have hD : ∀ W' (d : Nat), Below W.heap.size W W' → 1 ≤ d → d ≤ N → Calls Try.prog 12 #[.agg #[.int .i64 h, .int .i64 w, .int .i64 c, .int .i64 lo, .int .i64 hi, .slice oa on oc, .int .i64 ot], .int .i64 ((i : Int) + 1), .int .i64 ch, .agg #[.int .i64 slo, .int .i64 shi], .int .i64 (d : Int)] W' fun e w' => e = .returned (.tuple #[.agg #[.int .i64 (hbD d (fun (j : Nat) => enL slo shi (O i 19) (siL (O i 0) (O i 4) (O i 5) (O i 6) (O i 7) (O i 8) (O i 9) (O i 10) (O i 11) x0 y0 z0 ch (j : Int) (Z i))) (H * V).toNat).1, .int .i64 (hbD d (fun (j : Nat) => enL slo shi (O i 19) (siL (O i 0) (O i 4) (O i 5) (O i 6) (O i 7) (O i 8) (O i 9) (O i 10) (O i 11) x0 y0 z0 ch (j : Int) (Z i))) (H * V).toNat).2], .int .i64 0]) ∧ Below W'.heap.size W' w' := fun W' d hb g1 g2 => by
      have q := bprt_ok h w c lo hi ot oa on oc O Z B W' (hL.below hb) ch RL Rw hR i x wa lw cw ba lb cb x0 y0 z0 H V C (hF.below hb) hch slo shi d N hN
      rw [spD_t hs ⟨by omega, by omega⟩, Int.toNat_natCast] at q
      exact q
    have hm := most_iff hbf hz hch hv hbf2 hbi N e2
    have hle := grN_le (sfD (fun (j : Nat) => enL slo shi (O i 19) (siL (O i 0) (O i 4) (O i 5) (O i 6) (O i 7) (O i 8) (O i 9) (O i 10) (O i 11) x0 y0 z0 ch (j : Int) (Z i))) (H * V).toNat) N
    have hat := sfd_at (sfD (fun (j : Nat) => enL slo shi (O i 19) (siL (O i 0) (O i 4) (O i 5) (O i 6) (O i 7) (O i 8) (O i 9) (O i 10) (O i 11) x0 y0 z0 ch (j : Int) (Z i))) (H * V).toNat) N
    have hxh : ∀ d : Nat, 1 ≤ d → d ≤ N → xho (-32768) 32767 (hbD d (fun (j : Nat) => enL slo shi (O i 19) (siL (O i 0) (O i 4) (O i 5) (O i 6) (O i 7) (O i 8) (O i 9) (O i 10) (O i 11) x0 y0 z0 ch (j : Int) (Z i))) (H * V).toNat).1 (hbD d (fun (j : Nat) => enL slo shi (O i 19) (siL (O i 0) (O i 4) (O i 5) (O i 6) (O i 7) (O i 8) (O i 9) (O i 10) (O i 11) x0 y0 z0 ch (j : Int) (Z i))) (H * V).toNat).2 = (sfD (fun (j : Nat) => enL slo shi (O i 19) (siL (O i 0) (O i 4) (O i 5) (O i 6) (O i 7) (O i 8) (O i 9) (O i 10) (O i 11) x0 y0 z0 ch (j : Int) (Z i))) (H * V).toNat) d := fun d g1 g2 => xho16 (v4 d (by omega) (by omega)).2.1
    have hq := xho16 v3.2.1
    obtain ⟨K, hK⟩ : ∃ K, (grN (sfD (fun (j : Nat) => enL slo shi (O i 19) (siL (O i 0) (O i 4) (O i 5) (O i 6) (O i 7) (O i 8) (O i 9) (O i 10) (O i 11) x0 y0 z0 ch (j : Int) (Z i))) (H * V).toNat) N) = K := ⟨_, rfl⟩
    rw [hK] at hM hm hle hat
    by_cases k0 : K = 0
    · subst k0
      refine largest_z h w c lo hi oa on oc ot ((i : Int) + 1) ch slo shi ylo yhi dp wd pd p1 p2 t1 t2 W N _ _ (fun d => hbD d (fun (j : Nat) => enL slo shi (O i 19) (siL (O i 0) (O i 4) (O i 5) (O i 6) (O i 7) (O i 8) (O i 9) (O i 10) (O i 11) x0 y0 z0 ch (j : Int) (Z i))) (H * V).toNat) e3 (by omega) (by rw [hq, ← hm]; rfl) hX hM hLn hP (fun W' d hb g1 g2 g3 => ?_) hD (fun d g1 g2 g3 => ?_)
      · have q := hS W' d hb g1 g3
        rw [hat d g1 g2 g3, decide_eq_false (by omega)] at q
        exact q
      · rw [hxh d g1 g3, hat d g1 g2 g3, decide_eq_false (by omega)]
    · refine largest_p h w c lo hi oa on oc ot ((i : Int) + 1) ch slo shi ylo yhi dp wd pd p1 p2 t1 t2 W K N _ _ (fun d => hbD d (fun (j : Nat) => enL slo shi (O i 19) (siL (O i 0) (O i 4) (O i 5) (O i 6) (O i 7) (O i 8) (O i 9) (O i 10) (O i 11) x0 y0 z0 ch (j : Int) (Z i))) (H * V).toNat) e3 (by omega) (by omega) hle (by rw [hq, ← hm]; exact decide_eq_true (by omega)) hX hM hLn hP (fun W' d hb g1 g2 g3 => ?_) hD (fun d g1 g2 g3 => ?_)
      · have q := hS W' d hb g1 g3
        rw [hat d g1 g2 g3] at q
        exact q
      · rw [hxh d g1 g3, hat d g1 g2 g3]
end Go.Proofs.Ytgiohlcipndakaa
